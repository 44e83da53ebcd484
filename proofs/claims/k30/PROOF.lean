import PyProof.Rows.All
import Wide.All
import OpenK.AllK
import Wide.FinOn
import Lean
import PyProof.EqAt
import PyProof.EqKinds
import PyProof.TupleCall
import PyProof.ZipIter
import PyProof.WalksMore
import PyProof.ListNew
import PyProof.IsiBase
import PyProof.DictList
import PyProof.AttrMiss
import PyProof.FactsAll.dict
import PyProof.ListRange
import PyProof.StrLawsWords
import PyProof.StationsW
import KE.KIsAll
import PyProof.PassesOwn
import PyProof.DictIter
import KE.KRevIter
import KE.KRangeStep
import KE.RegMulBits
import KE.KDictList
import PyProof.Rows.SortShell
import PyProof.EnumStmt
import PySem.Challenge.RW_gatefold_k30_label_by_its_cut
open PySem.W renaming Frag → ZpF, keepIn → ZpG, fnOf → ZpH, nsIn → ZpI, codeIn → ZpJ, mg_of → ZpK, findIn → ZpL, isFn → ZpM, kitOne → ZpN, kia_one → ZpO, emptyDict → ZpP, excIn → ZpQ, mg_none_of → ZpR, instObj → ZpS, ktsIn → ZpT, plainGet → ZpU, hasDictIn → ZpV, lookIn → ZpW, plainOver → ZpX, makesIn → ZpY, methodObj → ZpZ, plainGet_of → Zp0, takerIn → Zp1, specialIn → Zp2, mroIn → Zp3, callWith_K → Zp4, OpenLaw → Zp5, KdlSrc → Zp6, methodCall_KW → Zp7, cellsFrom_some → Zp8, rangeSize_downNat → Zp9
open PySem.F renaming plainAttrs_list → Zqa, slot_list_append → Zqb, type_list_append → Zqc, excBase_ValueError → Zqd, slot_dict_pop → Zqe, slot_list_index → Zqf, slot_list_pop → Zqg, type_list_pop → Zqh
open List renaming length_map → Zqi, length_append → Zqj, replicate → Zqk, mem_singleton → Zql, getElem?_eq_some_iff → Zqm, getElem?_eq_getElem → Zqn, map_append → Zqo, mem_append → Zqp, range → Zqq, mem_map → Zqr, getD_eq_getElem?_getD → Zqs, mem_cons → Zqt, size_toArray → Zqu, length_replicate → Zqv, mem_of_getElem? → Zqw, length_singleton → Zqx, getElem?_map → Zqy, map_map → Zqz, length_cons → ZqA, map_cons → ZqB, getElem?_append_left → ZqC, getElem?_append_right → ZqD, append_assoc → ZqE, mem_cons_self → ZqF, mem_append_right → ZqG, Perm → ZqH, mem_cons_of_mem → ZqI, mem_append_left → ZqJ, take_add_one → ZqK, length_take → ZqL, lookup_cons → ZqM, getD → ZqN, Nodup → ZqO, mem_filter → ZqP, getElem?_eq_none → ZqQ, take_append_drop → ZqR, replicate_succ → ZqS, length_nil → ZqT, getElem_mem → ZqU, take_length → ZqV, perm_append_comm → ZqW, append_nil → ZqX, nodup_cons → ZqY, map_nil → ZqZ, filter_cons → Zq0, lookup → Zq1, nodup_nil → Zq2, length_range → Zq3, getElem?_cons_succ → Zq4, mem_iff_getElem? → Zq5, map_congr_left → Zq6, getElem?_replicate → Zq7, any_cons → Zq8, find?_cons → Zq9, all_eq_true → Zra, filter_append → Zrb, nodup_append → Zrc, mem_of_mem_take → Zrd, drop_of_length_le → Zre, extract_eq_take_drop → Zrf, map_id → Zrg, mem_range → Zrh, filterMap_cons → Zri, flatten_cons → Zrj, length_filter_le → Zrk, range_succ → Zrl, getElem?_cons_zero → Zrm, take_of_length_le → Zrn, drop_eq_getElem_cons → Zro, getElem?_drop → Zrp, filter_map → Zrq, getElem?_take_of_lt → Zrr, take_zero → Zrs, mem_of_mem_drop → Zrt, pairwise_iff_getElem → Zru, getElem?_take → Zrv, of_mem_zip → Zrw, Pairwise → Zrx, filter_nil → Zry, any_map → Zrz, any_eq_true → ZrA, take_add → ZrB, drop_drop → ZrC, mem_reverse → ZrD, take_take → ZrE, length_eq_zero_iff → ZrF, getElem?_set_self → ZrG, pairwise_singleton → ZrH, find?_cons_of_pos → ZrI, find?_cons_of_neg → ZrJ, length_pos_of_mem → ZrK, eq_nil_or_concat → ZrL, concat_eq_append → ZrM
open Nat renaming le_refl → ZrN, lt_or_ge → ZrO, ne_of_lt → ZrP, lt_of_lt_of_le → ZrQ, le_trans → ZrR, zero_le → ZrS, sub_self → ZrT, lt_irrefl → ZrU, ne_of_gt → ZrV, le_of_eq → ZrW, lt_succ_self → ZrX, lt_of_not_le → ZrY, le_of_lt → ZrZ, min_eq_left → Zr0, zero_add → Zr1, div_add_mod → Zr2, mod_two_eq_zero_or_one → Zr3, not_lt_zero → Zr4, lt_trichotomy → Zr5
open Int renaming toNat_natCast → Zr6, eq_ofNat_of_zero_le → Zr7, le_refl → Zr8, emod_nonneg → Zr9, toNat → Zsa, emod_lt_of_pos → Zsb, le_trans → Zsc, le_of_lt → Zsd
open Array renaming getElem?_toList → Zse, length_toList → Zsf, toList_append → Zsg, toList_push → Zsh, toList_extract → Zsi, getElem?_eq_some_iff → Zsj, size_setIfInBounds → Zsk, getElem?_eq_getElem → Zsl, toList_reverse → Zsm, toArray_toList → Zsn, perm_iff_toList_perm → Zso, eraseIdxIfInBounds → Zsp
open Bool renaming false_ne_true → Zsq, and_eq_true → Zsr, false_eq_true → Zss, eq_iff_iff → Zst, false_or → Zsu, or_eq_true → Zsv
local macro_rules | `(tactic| omega) => `(tactic| first | ((fail_if_success (fail_if_success omega +splitDisjunctions)); lia) | omega +splitDisjunctions)
set_option Elab.async false
set_option linter.all false
set_option maxRecDepth 100000
namespace L2
open PySem PySem.Spec PyProof.Rows
noncomputable abbrev Key:=Sum Int Str
noncomputable def Zkm:Key->Value->Bool
 | .inl k,v=>Value.isInt k v
 | .inr x,v=>Value.isStrOf x v
noncomputable def keyH (w:World):Key->Int
 | .inl k=>hashInt k
 | .inr x=>hashStr w x
theorem Zbp:∀ {k:Key}{v:Value},Zkm k v=true->(∃ i t,k=Sum.inl i/\v=Value.int i t)\/(∃ x t,k=Sum.inr x/\v=Value.str x t)
 | .inl i,v,h=>by
  obtain ⟨t,e⟩:=Value.isInt_shape (k:=i) (v:=v) h
  exact .inl ⟨i,t,rfl,e⟩
 | .inr x,v,h=>by
  obtain ⟨t,e⟩:=Value.isStrOf_shape (x:=x) (v:=v) h
  exact .inr ⟨x,t,rfl,e⟩
theorem ZlC (i:Int) (t:Tok):Zkm (.inl i) (.int i t)=true:=by simp [Zkm,Value.isInt]
theorem ZlB (x:Str) (t:Tok):Zkm (.inr x) (.str x t)=true:=by simp [Zkm,Value.isStrOf]
theorem key_ll (a b:Int):decide ((Sum.inl a:Key)=Sum.inl b)=(a == b):=by
 by_cases e:a=b
 ·subst e;simp
 ·have h:¬ (Sum.inl a:Key)=Sum.inl b:=fun q=>e (Sum.inl.inj q)
  rw [decide_eq_false h]
  exact (beq_eq_false_iff_ne.mpr e).symm
theorem key_rr (a b:Str):decide ((Sum.inr a:Key)=Sum.inr b)=decide (a=b):=by
 by_cases e:a=b
 ·subst e;simp
 ·have h:¬ (Sum.inr a:Key)=Sum.inr b:=fun q=>e (Sum.inr.inj q)
  rw [decide_eq_false h,decide_eq_false e]
theorem key_lr (a:Int) (b:Str):decide ((Sum.inl a:Key)=Sum.inr b)=false:=decide_eq_false (fun q=>nomatch q)
theorem key_rl (a:Str) (b:Int):decide ((Sum.inr a:Key)=Sum.inl b)=false:=decide_eq_false (fun q=>nomatch q)
noncomputable def Zbo (prog:Program) (w:World):PySem.KeyKind prog w Key where
 is:=Zkm
 hash:=keyH w
 inj:=fun v a b ha hb=>by
  rcases Zbp ha with ⟨i,t,rfl,rfl⟩ | ⟨x,t,rfl,rfl⟩
  ·rcases Zbp hb with ⟨j,u,rfl,e⟩ | ⟨y,u,rfl,e⟩
   ·injection e with e1 _;rw [e1]
   ·exact nomatch e
  ·rcases Zbp hb with ⟨j,u,rfl,e⟩ | ⟨y,u,rfl,e⟩
   ·exact nomatch e
   ·injection e with e1 _;rw [e1]
 byValue:=fun k v h=>by
  rcases Zbp h with ⟨i,t,rfl,rfl⟩ | ⟨x,t,rfl,rfl⟩ <;> rfl
 pyHash:=fun hv h=>by
  rcases Zbp hv with ⟨i,t,rfl,rfl⟩ | ⟨x,t,rfl,rfl⟩
  ·exact wpAny_pyHash_int h
  ·exact wpAny_pyHash_str h
 eqBool:=fun hu hv h=>by
  rcases Zbp hu with ⟨i,t,rfl,rfl⟩ | ⟨x,t,rfl,rfl⟩
  ·rcases Zbp hv with ⟨j,u,rfl,rfl⟩ | ⟨y,u,rfl,rfl⟩
   ·rw [key_ll] at h;exact wpAny_eqBool_int h
   ·rw [key_lr] at h;exact SeqAt.EqAt.int_str i t y u _ _ _ _ h
  ·rcases Zbp hv with ⟨j,u,rfl,rfl⟩ | ⟨y,u,rfl,rfl⟩
   ·rw [key_rl] at h;exact SeqAt.EqAt.str_int x t j u _ _ _ _ h
   ·rw [key_rr] at h;exact wpAny_eqBool_str h
 «strs»:=fun k x t v h=>by
  rcases Zbp h with ⟨i,u,rfl,e⟩ | ⟨y,u,rfl,e⟩
  ·exact nomatch e
  ·injection e with e1 _
   subst e1
   cases v <;> rfl
theorem Zi4 (prog:Program) (w:World) (i:Int) (t:Tok):(Zbo prog w).is (.inl i) (.int i t)=true:=ZlC i t
theorem Zi3 (prog:Program) (w:World) (x:Str) (t:Tok):(Zbo prog w).is (.inr x) (.str x t)=true:=ZlB x t
inductive V where
 | non | bl (b:Bool) | int (i:Int) | str (x:Str) | byt (b:Array UInt8) | flt (b:UInt64) | ref (a:Addr) | ty (n:String)
 deriving DecidableEq
noncomputable def Zbr:V->Value->Prop
 | .non,u=>u=Value.none
 | .bl b,u=>u=Value.bool b
 | .int i,u=>∃ t,u=Value.int i t
 | .str x,u=>∃ t,u=Value.str x t
 | .byt b,u=>∃ t,u=Value.bytes b t
 | .flt b,u=>∃ t,u=Value.float b t
 | .ref a,u=>u=Value.ref a
 | .ty n,u=>u=Value.type n
noncomputable abbrev Vals:List V->List Value->Prop:=Paired Zbr
theorem Vals.length {xs:List V}{us:List Value} (r:Vals xs us):xs.length=us.length:=Paired.length r
theorem Vals.get:∀ {xs:List V}{us:List Value}{i:Nat}{x:V},Vals xs us->xs[i]? = some x->∃ u,us[i]? = some u/\Zbr x u
 | _,_,_,_,.nil,e=>by simp at e
 | _,_,0,_,.cons r _,e=>by simp at e;subst e;exact ⟨_,rfl,r⟩
 | _,_,i+1,x,.cons _ t,e=>by
  obtain ⟨u,h1,h2⟩:=Vals.get (i:=i) (x:=x) t (by simpa using e)
  exact ⟨u,by simpa using h1,h2⟩
theorem Vals.set {x:V}{u:Value} (r:Zbr x u):∀ {xs:List V}{us:List Value} (i:Nat),Vals xs us->Vals (xs.set i x) (us.set i u)
 | _,_,_,.nil=>.nil
 | _,_,0,.cons _ t=>.cons r t
 | _,_,i+1,.cons q t=>.cons q (Vals.set r i t)
theorem Vals.append:∀ {xs ys:List V}{us ws:List Value},Vals xs us->Vals ys ws->Vals (xs ++ ys) (us ++ ws)
 | _,_,_,_,.nil,s=>s
 | _,_,_,_,.cons r t,s=>.cons r (Vals.append t s)
noncomputable def ZhJ:Option V->Option Value->Prop
 | some v,some u=>Zbr v u
 | none,none=>True
 | _,_=>False
noncomputable def KV {κ:Type}:List (κ × V)->List (κ × Value)->Prop:=Paired fun (p:κ × V) (q:κ × Value)=>p.1=q.1/\Zbr p.2 q.2
noncomputable def kV:Key->V
 | .inl i=>.int i
 | .inr x=>.str x
inductive HO where
  | lst (xs:List V)
  | tup (xs:List V)
  | dK (kvs:List (Key × V)) | dT (kvs:List (List Key × V))
  | set (S:Int->Bool) (n:Nat)
  | ins (C dx:Addr) (fs:List (Str × V))
  | own (x:Addr)
  | xd (fs:List (Str × V))
  | met (f x:Addr)
  | rng (lo hi:Int)
  | frz (o:Obj) (u:HO)
  | tbl (ps:Array Value)
  | ext (φ:Heap->Prop)
noncomputable abbrev Hp:=Addr->Option HO
noncomputable def upd (H:Hp) (a:Addr) (o:HO):Hp:=fun b=>if b=a then some o else H b
theorem Zal {H:Hp}{a:Addr}{o:HO}:upd H a o a=some o:=by unfold upd;rw [if_pos rfl]
theorem Zak {H:Hp}{a b:Addr}{o:HO} (h:b≠a):upd H a o b=H b:=by unfold upd;rw [if_neg h]
theorem Zg6 {H:Hp}{a:Addr}{o u:HO}:upd (upd H a o) a u=upd H a u:=by
 funext b;unfold upd;split <;> rfl
theorem Zbv {H:Hp}{a b:Addr}{o u:HO} (h:H a=some o) (h':H b=some u) (d:o≠u):a≠b:=by
 intro e;subst e;rw [h] at h';exact d (Option.some.inj h')
theorem Zaj {H:Hp}{a b:Addr}{o:HO} (h:H a=some o) (h':H b=none):a≠b:=by
 intro e;subst e;rw [h] at h';cases h'
section
variable (P:Program) (w:World)
noncomputable def ZbK (H:Hp) (h:Heap) (a:Addr):HO->Prop
 | .lst xs=>xs.length<=sizeLine/\∃ (its:List Value) (n:Nat),Vals xs its/\h.get? a=some { cls:=.type "list",data:=.seq its.toArray n }
 | .tup xs=>xs.length<=sizeLine/\∃ its:List Value,Vals xs its/\IsTup h a its.toArray
 | .dK kvs=>kvs.length<=sizeLine/\(a == sysModules)=false/\∃ vs,KV kvs vs/\h.DictOf (Zbo P w) a vs
 | .dT kvs=>kvs.length<=sizeLine/\(a == sysModules)=false/\∃ xs:List (List Key × Addr × Value),
   Paired (fun (p:List Key × V) (q:List Key × Addr × Value)=>p.1=q.1/\H q.2.1=some (.tup (p.1.map kV))/\Zbr p.2 q.2.2) kvs xs /\
   ∃ o es ep,h.get? a=some o/\o.ExactDict/\o.data=.dict es ep/\es.toList=xs.map (entryOfKey (tupleKind (Zbo P w)))/\(xs.map (·.1)).Nodup
 | .set S n=>h.SetOf (intKind P w) a S n
 | .ins C dx fs=>H dx=some (.own a)/\fs.length<=1000/\dx≠a/\h.get? a=some (ZpS C dx) /\
   ∃ mA,h.Ns1 dx mA/\(∀ f,ZhJ (fs.lookup f) (mA f))/\PySem.Within mA (fs.map (·.1))
 | .own _=>∃ o,h.get? a=some o
 | .xd fs=>∃ mA,h.Ns1 a mA/\∀ f,ZhJ (fs.lookup f) (mA f)
 | .rng lo hi=>∃ t u v,h.get? a=some { cls:=.type "range",data:=.fields #[.int lo t,.int hi u,.int 1 v] }
 | .frz o u=>h.get? a=some o/\ZbK H h a u
 | .tbl ps=>h.get? a=some { cls:=.none,data:=.fields ps }
 | .met f x=>h.get? a=some (ZpZ (.ref f) (.ref x))
 | .ext φ=>φ h/\(∃ o,h.get? a=some o)/\∀ h1 h2:Heap,φ h1->(∀ o,h1.get? a=some o->h2.get? a=some o)->φ h2
noncomputable def HOk (H:Hp) (h:Heap):Prop:=∀ a o,H a=some o->ZbK P w H h a o
end
section
variable {P:Program}{w:World}{H H':Hp}{h h':Heap}{a:Addr}{o:HO}
theorem ZbK.lt (x:ZbK P w H h a o):a<h.objs.size:=by
 cases o with
 | lst xs=>obtain ⟨_,_,_,_,e⟩:=x;exact Heap.lt_size e
 | tup xs=>obtain ⟨_,_,_,p⟩:=x;exact p.lt
 | dK kvs=>obtain ⟨_,_,_,_,o,_,_,e,_⟩:=x;exact Heap.lt_size e
 | dT kvs=>obtain ⟨_,_,_,_,o,_,_,e,_⟩:=x;exact Heap.lt_size e
 | set S n=>obtain ⟨o,_,_,_,e,_⟩:=x;exact Heap.lt_size e
 | ins C dx fs=>obtain ⟨_,_,_,e,_⟩:=x;exact Heap.lt_size e
 | own y=>obtain ⟨_,e⟩:=x;exact Heap.lt_size e
 | xd fs=>obtain ⟨_,⟨_,_,_,e,_⟩,_⟩:=x;exact Heap.lt_size e
 | rng lo hi=>obtain ⟨_,_,_,e⟩:=x;exact Heap.lt_size e
 | frz ob u=>obtain ⟨e,_⟩:=x;exact Heap.lt_size e
 | tbl ps=>exact Heap.lt_size (show h.get? a=some _ from x)
 | met f y=>exact Heap.lt_size (show h.get? a=some _ from x)
 | ext φ=>obtain ⟨_,⟨_,e⟩,_⟩:=x;exact Heap.lt_size e
theorem Paired.mapP {α β:Type}{F G:α->β->Prop}:∀ {l₁:List α}{l₂:List β},Paired F l₁ l₂->(∀ a b,F a b->G a b)->Paired G l₁ l₂
 | _,_,.nil,_=>.nil
 | _,_,.cons r t,f=>.cons (f _ _ r) (Paired.mapP t f)
theorem ZbK.stay (x:ZbK P w H h a o) (k:∀ b u,(b=a\/H b=some (.own a))->h.get? b=some u->h'.get? b=some u)
  (ho:∀ b,H b=some (.own a)->H' b=some (.own a)) (ht:∀ b xs,H b=some (.tup xs)->H' b=some (.tup xs)):ZbK P w H' h' a o:=by
 induction o with
 | lst xs=>obtain ⟨z,its,n,r,e⟩:=x;exact ⟨z,its,n,r,k _ _ (.inl rfl) e⟩
 | tup xs=>obtain ⟨z,its,r,ob,e,c⟩:=x;exact ⟨z,its,r,ob,k _ _ (.inl rfl) e,c⟩
 | dK kvs=>obtain ⟨z,y,vs,r,ob,es,ep,e,c⟩:=x;exact ⟨z,y,vs,r,ob,es,ep,k _ _ (.inl rfl) e,c⟩
 | dT kvs =>
  obtain ⟨z,y,xs,r,ob,es,ep,e,c⟩:=x
  exact ⟨z,y,xs,Paired.mapP r fun p q z=>⟨z.1,ht _ _ z.2.1,z.2.2⟩,ob,es,ep,k _ _ (.inl rfl) e,c⟩
 | set S n=>obtain ⟨ob,es,ep,t,e,c⟩:=x;exact ⟨ob,es,ep,t,k _ _ (.inl rfl) e,c⟩
 | ins C dx fs =>
  obtain ⟨d,z,ne,e,mA,⟨od,es,ep,e2,c⟩,r⟩:=x
  exact ⟨ho _ d,z,ne,k _ _ (.inl rfl) e,mA,⟨od,es,ep,k _ _ (.inr d) e2,c⟩,r⟩
 | own y=>obtain ⟨ob,e⟩:=x;exact ⟨ob,k _ _ (.inl rfl) e⟩
 | xd fs=>obtain ⟨mA,⟨od,es,ep,e,c⟩,r⟩:=x;exact ⟨mA,⟨od,es,ep,k _ _ (.inl rfl) e,c⟩,r⟩
 | rng lo hi=>obtain ⟨t,u,v,e⟩:=x;exact ⟨t,u,v,k _ _ (.inl rfl) e⟩
 | frz ob u ih=>obtain ⟨e,q⟩:=x;exact ⟨k _ _ (.inl rfl) e,ih q⟩
 | tbl ps =>
  have e:h.get? a=some { cls:=.none,data:=.fields ps }:=x
  show h'.get? a=some { cls:=.none,data:=.fields ps }
  exact k a _ (.inl rfl) e
 | met f y =>
  have e:h.get? a=some (ZpZ (.ref f) (.ref y)):=x
  show h'.get? a=some (ZpZ (.ref f) (.ref y))
  exact k a _ (.inl rfl) e
 | ext φ=>obtain ⟨p,⟨o,e⟩,st⟩:=x;exact ⟨st _ _ p fun o q=>k _ _ (.inl rfl) q,⟨o,k _ _ (.inl rfl) e⟩,st⟩
theorem HOk.lt (x:HOk P w H h) (e:H a=some o):a<h.objs.size:=(x a o e).lt
theorem HOk.fresh (x:HOk P w H h) (e:h.objs.size<=a):H a=none:=by
 cases q:H a with
 | none=>rfl
 | some u=>exact absurd (ZrQ (x.lt q) e) (ZrU _)
theorem HOk.kept (x:HOk P w H h) (k:∀ b u,h.get? b=some u->h'.get? b=some u):HOk P w H h':=fun a o e =>
 (x a o e).stay (fun b u _ q=>k b u q) (fun _ q=>q) fun _ _ q=>q
theorem HOk.laid (x:HOk P w H h) (k:∀ b u,h.get? b=some u->h'.get? b=some u) (hp:h.objs.size<=a) (new:ZbK P w (upd H a o) h' a o):HOk P w (upd H a o) h':=fun b u e=>by
 have hn:=x.fresh hp
 by_cases hb:b=a
 ·subst hb;rw [Zal] at e;cases e;exact new
 ·rw [Zak hb] at e
  exact (x b u e).stay (fun c v _ q=>k c v q) (fun c q=>by rw [Zak (Zaj q hn)];exact q) fun c xs q=>by rw [Zak (Zaj q hn)];exact q
end
noncomputable def Rd (H:Hp) (a:Addr) (u:HO):Prop:=H a=some u\/∃ o,H a=some (.frz o u)
theorem Rd.ok {P:Program}{w:World}{H:Hp}{h:Heap}{a:Addr}{u:HO} (r:Rd H a u) (x:HOk P w H h):ZbK P w H h a u:=by
 rcases r with r | ⟨o,r⟩
 ·exact x a u r
 ·obtain ⟨_,q⟩:=x a _ r
  exact q
noncomputable def Mut:Option HO->Prop
 | some (.lst _)=>True
 | some (.dK _)=>True
 | some (.dT _)=>True
 | some (.set _ _)=>True
 | some (.ins _ _ _)=>True
 | some (.ext _)=>True
 | _=>False
section
variable {P:Program}{w:World}{H:Hp}{h h':Heap}{x e:Addr}{o':HO}
theorem HOk.write (ok:HOk P w H h) (mu:Mut (H x)) (he:e=x\/H e=some (.own x)) (k:∀ b u,b≠e->h.get? b=some u->h'.get? b=some u) (heo:∃ u,h'.get? e=some u)
  (new:ZbK P w (upd H x o') h' x o'):HOk P w (upd H x o') h':=fun b u q=>by
 have nown:∀ c y,H c=some (.own y)->c≠x:=fun c y r z=>by subst z;rw [r] at mu;exact mu
 have ntup:∀ c xs,H c=some (.tup xs)->c≠x:=fun c xs r z=>by subst z;rw [r] at mu;exact mu
 by_cases hb:b=x
 ·subst hb;rw [Zal] at q;cases q;exact new
 ·rw [Zak hb] at q
  by_cases hbe:b=e
  ·have q':H b=some (.own x):=by
    rcases he with z | z
    ·exact absurd (hbe.trans z) hb
    ·rw [hbe];exact z
   rw [q] at q';cases q'
   obtain ⟨v,hv⟩:=heo
   exact ⟨v,by rw [hbe];exact hv⟩
  ·refine (ok b u q).stay (fun c v hc r=>k c v ?_ r) (fun c r=>by rw [Zak (nown c b r)];exact r) fun c xs r=>by rw [Zak (ntup c xs r)];exact r
   rcases hc with rfl | hc
   ·exact hbe
   ·rintro rfl
    rcases he with z | z
    ·exact nown c b hc z
    ·rw [hc] at z;cases z;exact hb rfl
end
structure Un (fs ex:List Addr) (H H':Hp) (h h':Heap):Prop where
 keep:∀ b o,h.get? b=some o->H b=none->b ∉ fs->b ∉ ex->h'.get? b=some o
 slot:∀ b o,h.get? b=some o->H b=none->b∈fs->b ∉ ex->∃ sl,h'.get? b=some { o with slots:=sl }
 free:∀ b o,h.get? b=some o->H b=none->b ∉ ex->H' b=none
 there:∀ b o,h.get? b=some o->b ∉ ex->∃ o',h'.get? b=some o'
 tups:∀ b xs,H b=some (.tup xs)->H' b=some (.tup xs)
 frzs:∀ b o u,H b=some (.frz o u)->H' b=some (.frz o u)
 tbls:∀ b ps,H b=some (.tbl ps)->∃ more,H' b=some (.tbl (ps ++ more))
section
variable {fs fs' ex ex':List Addr}{H H1 H2:Hp}{h h1 h2 h':Heap}{a x e:Addr}{o:HO}
theorem Un.any (u:Un fs ex H H1 h h1) {b:Addr}{ob:Obj} (q:h.get? b=some ob) (n:H b=none) (hx:b ∉ ex):∃ sl,h1.get? b=some { ob with slots:=sl }:=by
 by_cases hb:b∈fs
 ·exact u.slot b ob q n hb hx
 ·exact ⟨ob.slots,u.keep b ob q n hb hx⟩
theorem Un.kept (k:∀ b u,h.get? b=some u->h'.get? b=some u):Un fs ex H H h h' :=
 ⟨fun b ob q _ _ _=>k b ob q,fun b ob q _ _ _=>⟨ob.slots,k b ob q⟩,fun _ _ _ n _=>n,fun b ob q _=>⟨ob,k b ob q⟩,fun _ _ q=>q,fun _ _ _ q=>q,fun _ ps q=>⟨#[],by rw [q];simp⟩⟩
theorem Un.refl:Un fs ex H H h h:=Un.kept fun _ _ q=>q
theorem Un.laid (k:∀ b u,h.get? b=some u->h'.get? b=some u) (hp:h.objs.size<=a) (hn:H a=none):Un fs ex H (upd H a o) h h' where
 keep:=fun b u q _ _ _=>k b u q
 slot:=fun b u q _ _ _=>⟨u.slots,k b u q⟩
 free:=fun b u q n _=>by rw [Zak (ZrP (ZrQ (Heap.lt_size q) hp))];exact n
 there:=fun b u q _=>⟨u,k b u q⟩
 tups:=fun b xs q=>by rw [Zak (Zaj q hn)];exact q
 frzs:=fun b u xs q=>by rw [Zak (Zaj q hn)];exact q
 tbls:=fun b ps q=>⟨#[],by rw [Zak (Zaj q hn),q];simp⟩
theorem Un.write (mu:Mut (H x)) (he:e=x\/H e=some (.own x)) (k:∀ b u,b≠e->h.get? b=some u->h'.get? b=some u) (heo:∃ u,h'.get? e=some u):Un fs ex H (upd H x o) h h':=by
 have hx:∀ b,H b=none->b≠x:=fun b n z=>by subst z;rw [n] at mu;exact mu
 have hb:∀ b,H b=none->b≠e:=fun b n z=>by
  subst z
  rcases he with r | r
  ·exact hx b n r
  ·rw [n] at r;cases r
 have hm:∀ b u,H b=some u->¬ Mut (some u)->b≠x:=fun b u q nm z=>by subst z;rw [q] at mu;exact nm mu
 refine ⟨fun b u q n _ _=>k b u (hb b n) q,fun b u q n _ _=>⟨u.slots,k b u (hb b n) q⟩,fun b u q n _=>by rw [Zak (hx b n)];exact n,fun b u q _=>?_,
  fun b xs q=>by rw [Zak (hm b _ q fun z=>z)];exact q,fun b u xs q=>by rw [Zak (hm b _ q fun z=>z)];exact q,fun b ps q=>⟨#[],by rw [Zak (hm b _ q fun z=>z),q];simp⟩⟩
 by_cases hbe:b=e
 ·subst hbe;exact heo
 ·exact ⟨u,k b u hbe q⟩
end
noncomputable def trk (h:Heap) (H:Hp):List Addr:=(Zqq h.objs.size).filter fun a=>(H a).isSome
noncomputable def Zm3 (h:Heap) (H:Hp):Heap:=PySem.W.hideAll h (trk h H)
theorem ZlH (h:Heap) (H:Hp):(Zm3 h H).objs.size=h.objs.size:=PySem.W.hideAll_size _ _
theorem Zm2 {h:Heap}{H:Hp}{b:Addr}{o:Obj} (e:h.get? b=some o) (n:H b=none):(Zm3 h H).get? b=some o :=
 PySem.W.hideAll_get _ e fun hm=>by
  have q:(H b).isSome=true:=(ZqP.mp hm).2
  rw [n] at q;simp at q
theorem Zox {h:Heap}{H:Hp}{b:Addr}{o:Obj} (e:(Zm3 h H).get? b=some o):h.get? b=some o/\H b=none:=by
 have e':h.get? b=some o:=PySem.W.of_hideAll (trk h H) e
 refine ⟨e',?_⟩
 cases q:H b with
 | none=>rfl
 | some x =>
  have hm:b∈trk h H:=ZqP.mpr ⟨Zrh.mpr (Heap.lt_size e'),by simp [q]⟩
  have z:(Zm3 h H).get? b=none:=PySem.W.hideAll_none (trk h H) hm
  rw [z] at e;cases e
noncomputable def Zpy (g h:Heap) (L:Addr):List (Addr × Obj):=(Zqq h.objs.size).filterMap fun a=>if a=L\/(g.get? a).isSome=true then none else (h.get? a).map fun o=>(a,o)
noncomputable def rest (g h:Heap) (L d:Addr):List (Addr × Obj):=(Zpy g h L).filter fun p=>decide (p.1≠d)
structure Mod (K:ZpF) (mg:Str->Option Value) (base:Heap):Prop where
 kin:K.In base
 glob:base.Ns mainGlobals mg
 blt:∃ mb,base.Ns builtinsNs mb/\∀ x:Str,x ≠ "__name__" -> mb x=bootBuiltins x
 nolimit:base.NoLimit
structure Cx where
 prog:Program
 w:World
 K:ZpF
 mg:Str->Option Value
 base:Heap
 A:Around
 N:List Str
 s₀:Shared
 H₀:Hp
 env:Env
 outer:List Env
 stack:List Env
 ex:List Addr
 fn:Str->Bool
 calm:Bool
 pn:List (Addr × Obj)
 xe:Value->Shared->Prop
noncomputable def frs (l:List Env):List Addr:=l.filterMap (·.frame)
noncomputable abbrev Cx.fs (X:Cx):List Addr:=frs X.outer
noncomputable def Vis (sc:Scope) (x:Str):Prop:=sc.names.lookup x=some .local\/sc.names.lookup x=some .cell\/sc.names.lookup x=some .free
noncomputable def Loc (sc:Scope) (x:Str):Prop:=sc.names.lookup x=some .local\/sc.names.lookup x=some .cell
noncomputable def Look (env:Env) (h:Heap) (m:Str->Option Value) (x:Str) (u:Value):Prop :=
 (env.kindOf x=some .local/\m x=some u)\/((env.kindOf x=some .cell\/env.kindOf x=some .free)/\∃ c,env.cells.lookup x=some c/\h.IsCell c (some u))
structure Cx.Ok (X:Cx):Prop where
 mod:Mod X.K X.mg X.base
 kind:X.env.scope.kind=.function
 glob:X.env.globals=mainGlobals
 blt:X.env.builtins=builtinsNs
 above:X.s₀.heap.objs.size<=X.env.locals
 inj:∀ x y c,X.env.cells.lookup x=some c->X.env.cells.lookup y=some c->x=y
 has:∀ x,(X.env.kindOf x=some .cell\/X.env.kindOf x=some .free)->∃ c,X.env.cells.lookup x=some c
 cab:∀ x c,X.fn x=true->X.env.cells.lookup x=some c->X.s₀.heap.objs.size<=c
 hd:X.calm=true->X.A.handled=none
 frames:X.A.frames=some X.stack
 stk:X.stack=X.outer\/(X.stack=X.env :: X.outer/\X.env.frame=some X.env.locals)
 exf:∀ b∈X.ex,b≠X.env.locals/\∀ x c,X.env.cells.lookup x=some c->c≠b
 bs:∀ b o,X.base.get? b=some o->X.s₀.heap.get? b=some o/\X.H₀ b=none
 bsz:X.base.objs.size<=X.s₀.heap.objs.size
 noex:∀ b o,X.base.get? b=some o->b ∉ X.ex
 exfs:∀ b∈X.ex,b ∉ X.fs
 funs:X.s₀.heap.FunFrames X.base X.outer
 frf:∀ b∈X.fs,X.H₀ b=none
structure Inv (X:Cx) (pins:List (Addr × Obj)) (σ:List (Option V)) (H:Hp) (s:Shared):Prop where
 ok:X.Ok
 os:s.os=X.s₀.os
 bare:AllBare s.gens
 base:Un X.fs X.ex X.H₀ H X.s₀.heap s.heap
 loc:∃ m,s.heap.Ns X.env.locals m/\∀ (i:Nat) (x:Str) (v:V),X.N[i]? = some x->σ[i]? = some (some v)->Vis X.env.scope x->∃ u,Zbr v u/\Look X.env s.heap m x u
 cell:∀ x c,X.env.cells.lookup x=some c->∃ v,s.heap.IsCell c v
 free:H X.env.locals=none
 freeC:∀ x c,X.env.cells.lookup x=some c->H c=none
 pin:∀ p∈X.pn ++ pins,s.heap.get? p.1=some p.2/\H p.1=none/\p.1≠X.env.locals/\p.1 ∉ X.fs/\∀ v,p.2.data≠.cell v
 hok:HOk X.prog X.w H s.heap
 len:σ.length=X.N.length
section
variable {X:Cx}{pins:List (Addr × Obj)}{σ:List (Option V)}{H H':Hp}{s:Shared}{h':Heap}
theorem Cx.Ok.nofr (ok:X.Ok) {b:Addr}{o:Obj} (e:X.base.get? b=some o):b ∉ X.fs:=fun hb=>by
 have:=(ok.funs.mem hb).1
 rw [e] at this;cases this
theorem Inv.bs (I:Inv X pins σ H s):∀ b o,X.base.get? b=some o->s.heap.get? b=some o/\H b=none:=fun b o e =>
 ⟨I.base.keep b o (I.ok.bs b o e).1 (I.ok.bs b o e).2 (I.ok.nofr e) (I.ok.noex b o e),I.base.free b o (I.ok.bs b o e).1 (I.ok.bs b o e).2 (I.ok.noex b o e)⟩
theorem Inv.bk (I:Inv X pins σ H s):∀ b o,X.base.get? b=some o->s.heap.get? b=some o:=fun b o e=>(I.bs b o e).1
theorem Inv.mod (I:Inv X pins σ H s):Mod X.K X.mg X.base:=I.ok.mod
theorem Inv.kIn (I:Inv X pins σ H s):X.K.In s.heap:=I.ok.mod.kin.keeps I.bk
theorem Inv.nolimit (I:Inv X pins σ H s):s.heap.NoLimit:=I.ok.mod.nolimit.keeps I.bk
theorem Inv.fr (I:Inv X pins σ H s):∃ m,Fr X.base X.env.locals s.heap m :=
 let ⟨m,hn,_⟩:=I.loc
 ⟨m,hn,I.bk,ZrR I.ok.bsz I.ok.above⟩
theorem Inv.lt (I:Inv X pins σ H s):X.env.locals<s.heap.objs.size:=let ⟨_,hn,_⟩:=I.loc;hn.lt
theorem Inv.sz (I:Inv X pins σ H s):X.s₀.heap.objs.size<=s.heap.objs.size:=ZrR I.ok.above (ZrZ I.lt)
theorem Inv.nofs (I:Inv X pins σ H s) {a:Addr} (h:s.heap.objs.size<=a):a ∉ X.fs:=fun hb=>by
 obtain ⟨_,o,ho,_⟩:=I.ok.funs.mem hb
 exact absurd (ZrQ (Heap.lt_size ho) (ZrR I.sz h)) (ZrU _)
theorem Inv.cne (I:Inv X pins σ H s):∀ x c,X.env.cells.lookup x=some c->c≠X.env.locals:=fun x c e z=>by
 obtain ⟨v,o,ho,hd⟩:=I.cell x c e
 obtain ⟨m,⟨o',es,ep,ho',hd',_⟩,_⟩:=I.loc
 rw [z,ho'] at ho;cases ho;rw [hd'] at hd;cases hd
theorem Inv.funs (I:Inv X pins σ H s):s.heap.FunFrames X.base X.outer:=by
 have all:∀ (l:List Env),(∀ b∈frs l,b∈X.fs)->X.s₀.heap.FunFrames X.base l->s.heap.FunFrames X.base l:=by
  intro l
  induction l with
  | nil=>intro _ _;trivial
  | cons env r ih =>
   intro hs hl
   obtain ⟨hk,⟨L,o,hf,hn,ho,hd⟩,hr⟩:=hl
   have hL:L∈X.fs:=hs L (by unfold frs;rw [Zri,hf];exact ZqF)
   obtain ⟨sl,e⟩:=I.base.slot L o ho (I.ok.frf L hL) hL fun z=>I.ok.exfs L z hL
   exact ⟨hk,⟨L,_,hf,hn,e,hd⟩,ih (fun b hb=>hs b (by unfold frs;rw [Zri,hf];exact ZqI _ hb)) hr⟩
 exact all X.outer (fun _ hb=>hb) I.ok.funs
theorem Inv.stack (I:Inv X pins σ H s):s.heap.FunFrames X.base X.stack:=by
 rcases I.ok.stk with e | ⟨e,hf⟩
 ·rw [e];exact I.funs
 ·rw [e]
  obtain ⟨m,hn,_⟩:=I.loc
  refine .cons (by rw [I.ok.kind];decide) hf hn ?_ I.funs
  exact Heap.get?_none_of_le (ZrR I.ok.bsz I.ok.above)
theorem Inv.stkSub (I:Inv X pins σ H s):∀ b∈frs X.stack,b∈X.env.locals :: X.fs:=fun b hb=>by
 rcases I.ok.stk with e | ⟨e,hf⟩
 ·rw [e] at hb;exact ZqI _ hb
 ·rw [e] at hb
  unfold frs at hb
  rw [Zri,hf] at hb
  exact hb
theorem Inv.stkFree (I:Inv X pins σ H s):∀ b∈frs X.stack,H b=none:=fun b hb=>by
 rcases Zqt.mp (I.stkSub b hb) with e | hb
 ·rw [e];exact I.free
 ·obtain ⟨_,o,ho,_⟩:=I.ok.funs.mem hb
  exact I.base.free b o ho (I.ok.frf b hb) fun z=>I.ok.exfs b z hb
theorem Inv.step {g':Array GenState}{t':Nat}{d':Drawn}{ch:List Addr} (I:Inv X pins σ H s)
  (hch:∀ b∈ch,(b∈X.ex\/X.s₀.heap.objs.size<=b)/\b≠X.env.locals/\(∀ x c,X.env.cells.lookup x=some c->c≠b)/\∀ p∈X.pn ++ pins,p.1≠b)
  (keep:∀ b o,b≠X.env.locals->b ∉ X.fs->b ∉ ch->s.heap.get? b=some o->H b=none->h'.get? b=some o)
  (slot:∀ b o,b≠X.env.locals->b∈X.fs->b ∉ ch->s.heap.get? b=some o->H b=none->∃ sl,h'.get? b=some { o with slots:=sl }) (free:∀ b o,b ∉ ch->s.heap.get? b=some o->H b=none->H' b=none)
  (there:∀ b o,b ∉ ch->s.heap.get? b=some o->∃ o',h'.get? b=some o')
  (tups:∀ b xs,H b=some (.tup xs)->H' b=some (.tup xs)) (frzs:∀ b o u,H b=some (.frz o u)->H' b=some (.frz o u)) (tbls:∀ b ps,H b=some (.tbl ps)->∃ more,H' b=some (.tbl (ps ++ more)))
  (ns:∀ m,s.heap.Ns X.env.locals m->h'.Ns X.env.locals m) (hok:HOk X.prog X.w H' h') (hg:AllBare g') :
  Inv X pins σ H' { s with heap:=h',gens:=g',drawn:=d',toks:=t' }:=by
 have neL:∀ b o,X.s₀.heap.get? b=some o->b≠X.env.locals:=fun b o e=>ZrP (ZrQ (Heap.lt_size e) I.ok.above)
 have neC:∀ b o,X.s₀.heap.get? b=some o->b ∉ X.ex->b ∉ ch:=fun b o e hx hb=>by
  rcases (hch b hb).1 with z | z
  ·exact hx z
  ·exact absurd (ZrQ (Heap.lt_size e) z) (ZrU _)
 have cellK:∀ x c,X.env.cells.lookup x=some c->∀ v,s.heap.IsCell c v->h'.IsCell c v:=fun x c e v ⟨o,ho,hd⟩=>by
  have nch:c ∉ ch:=fun z=>(hch c z).2.2.1 x c e rfl
  by_cases hc:c∈X.fs
  ·obtain ⟨sl,q⟩:=slot c o (I.cne x c e) hc nch ho (I.freeC x c e)
   exact ⟨_,q,hd⟩
  ·exact ⟨o,keep c o (I.cne x c e) hc nch ho (I.freeC x c e),hd⟩
 refine ⟨I.ok,I.os,hg,⟨fun b o e n hb hx=>?_,fun b o e n hb hx=>?_,fun b o e n hx=>?_,fun b o e hx=>?_,fun b xs e=>tups b xs (I.base.tups b xs e),fun b o xs e=>frzs b o xs (I.base.frzs b o xs e),fun b ps e=>?_⟩,?_,fun x c e=>?_,?_,fun x c e=>?_,fun p hp=>?_,hok,I.len⟩
 ·exact keep b o (neL b o e) hb (neC b o e hx) (I.base.keep b o e n hb hx) (I.base.free b o e n hx)
 ·obtain ⟨sl,e1⟩:=I.base.slot b o e n hb hx
  obtain ⟨sl',e2⟩:=slot b _ (neL b o e) hb (neC b o e hx) e1 (I.base.free b o e n hx)
  exact ⟨sl',e2⟩
 ·obtain ⟨o',e1⟩:=I.base.there b o e hx
  exact free b o' (neC b o e hx) e1 (I.base.free b o e n hx)
 ·obtain ⟨o',e1⟩:=I.base.there b o e hx
  exact there b o' (neC b o e hx) e1
 ·obtain ⟨m1,e1⟩:=I.base.tbls b ps e
  obtain ⟨m2,e2⟩:=tbls b _ e1
  exact ⟨m1 ++ m2,by rw [e2,Array.append_assoc]⟩
 ·obtain ⟨m,hn,hl⟩:=I.loc
  refine ⟨m,ns m hn,fun i x v e1 e2 e3=>?_⟩
  obtain ⟨u,r,l⟩:=hl i x v e1 e2 e3
  refine ⟨u,r,?_⟩
  rcases l with l | ⟨k,c,e,z⟩
  ·exact .inl l
  ·exact .inr ⟨k,c,e,cellK x c e _ z⟩
 ·obtain ⟨v,z⟩:=I.cell x c e
  exact ⟨v,cellK x c e v z⟩
 ·obtain ⟨m,⟨o,_,_,ho,_⟩,_⟩:=I.loc
  exact free _ o (fun z=>(hch _ z).2.1 rfl) ho I.free
 ·obtain ⟨v,o,ho,hd⟩:=I.cell x c e
  exact free c o (fun z=>(hch c z).2.2.1 x c e rfl) ho (I.freeC x c e)
 ·obtain ⟨e,n,ne,nf,d⟩:=I.pin p hp
  have nch:p.1 ∉ ch:=fun z=>(hch p.1 z).2.2.2 p hp rfl
  exact ⟨keep p.1 p.2 ne nf nch e n,free p.1 p.2 nch e n,ne,nf,d⟩
theorem Inv.un {t':Nat} (I:Inv X pins σ H s) (u:Un X.fs [] H H' s.heap h') (hok:HOk X.prog X.w H' h'):Inv X pins σ H' { s with heap:=h',toks:=t' }:=by
 obtain ⟨m,⟨o,es,ep,ho,r⟩,_⟩:=id I.loc
 obtain ⟨sl,hL⟩:=u.any ho I.free (by simp)
 exact I.step (g':=s.gens) (d':=s.drawn) (ch:=[]) (fun _ z=>nomatch z) (fun b o _ hb _ e n=>u.keep b o e n hb (by simp)) (fun b o _ hb _ e n=>u.slot b o e n hb (by simp)) (fun b o _ e n=>u.free b o e n (by simp)) (fun b o _ e=>u.there b o e (by simp)) u.tups u.frzs u.tbls (fun m' hm=>by
  obtain ⟨o',es',ep',ho',r'⟩:=hm
  rw [ho] at ho';cases ho'
  exact ⟨_,es',ep',hL,r'⟩) hok I.bare
theorem Inv.call {g':Array GenState}{t':Nat}{d':Drawn}{ch:List Addr} (I:Inv X pins σ H s) (u:Un (frs X.stack) ch H H' s.heap h') (hok:HOk X.prog X.w H' h') (hg:AllBare g')
  (hch:∀ b∈ch,(b∈X.ex\/X.s₀.heap.objs.size<=b)/\b≠X.env.locals/\(∀ x c,X.env.cells.lookup x=some c->c≠b)/\∀ p∈X.pn ++ pins,p.1≠b) :
  Inv X pins σ H' { s with heap:=h',gens:=g',drawn:=d',toks:=t' }:=by
 obtain ⟨m,⟨o,es,ep,ho,r⟩,_⟩:=id I.loc
 obtain ⟨sl,hL⟩:=u.any ho I.free fun z=>(hch _ z).2.1 rfl
 exact I.step (ch:=ch) hch (fun b o hL hb hc e n=>u.keep b o e n (fun z=>(Zqt.mp (I.stkSub b z)).elim hL hb) hc) (fun b o _ _ hc e n=>u.any e n hc) (fun b o hc e n=>u.free b o e n hc) (fun b o hc e=>u.there b o e hc) u.tups u.frzs u.tbls (fun m' hm=>by
  obtain ⟨o',es',ep',ho',r'⟩:=hm
  rw [ho] at ho';cases ho'
  exact ⟨_,es',ep',hL,r'⟩) hok hg
theorem Inv.turned {t':Nat}{it:Addr} (I:Inv X pins σ H s) (k:∀ b o,b≠it->s.heap.get? b=some o->h'.get? b=some o) (hn:H it=none) (hL:it≠X.env.locals)
  (h1:it∈X.ex\/X.s₀.heap.objs.size<=it) (h2:∀ x c,X.env.cells.lookup x=some c->c≠it) (h3:∀ p∈X.pn ++ pins,p.1≠it):Inv X pins σ H { s with heap:=h',toks:=t' }:=by
 have nit:∀ b u,H b=some u->b≠it:=fun b u e z=>by rw [z,hn] at e;cases e
 refine I.step (g':=s.gens) (d':=s.drawn) (ch:=[it]) (fun b hb=>?_) (fun b o _ _ hc e _=>k b o (fun z=>hc (by simp [z])) e) (fun b o _ _ hc e _=>⟨o.slots,k b o (fun z=>hc (by simp [z])) e⟩) (fun _ _ _ _ n=>n)
  (fun b o hc e=>⟨o,k b o (fun z=>hc (by simp [z])) e⟩) (fun _ _ e=>e) (fun _ _ _ e=>e) (fun b ps e=>⟨#[],by rw [e];simp⟩) (fun m hm=>?_) (fun b u e=>?_) I.bare
 ·have e:b=it:=by simpa using hb
  subst e
  exact ⟨h1,hL,h2,h3⟩
 ·obtain ⟨o,es,ep,ho,r⟩:=hm
  exact ⟨o,es,ep,k _ o (Ne.symm hL) ho,r⟩
 ·refine (I.hok b u e).stay (fun c v hc q=>k c v ?_ q) (fun _ q=>q) fun _ _ q=>q
  rcases hc with z | z
  ·rw [z];exact nit b u e
  ·exact nit c _ z
theorem Inv.tok (I:Inv X pins σ H s) (t:Nat):Inv X pins σ H { s with toks:=t }:=I.un (h':=s.heap) (t':=t) Un.refl I.hok
theorem Inv.kept {t':Nat} (I:Inv X pins σ H s) (k:∀ b u,s.heap.get? b=some u->h'.get? b=some u):Inv X pins σ H { s with heap:=h',toks:=t' }:=I.un (Un.kept k) (I.hok.kept k)
theorem Inv.laid {a:Addr}{o:HO}{t':Nat} (I:Inv X pins σ H s) (k:∀ b u,s.heap.get? b=some u->h'.get? b=some u) (hp:s.heap.objs.size<=a) (new:ZbK X.prog X.w (upd H a o) h' a o) :
  Inv X pins σ (upd H a o) { s with heap:=h',toks:=t' }:=I.un (Un.laid k hp (I.hok.fresh hp)) (I.hok.laid k hp new)
theorem Inv.write {x e:Addr}{o:HO}{t':Nat} (I:Inv X pins σ H s) (mu:Mut (H x)) (he:e=x\/H e=some (.own x)) (k:∀ b u,b≠e->s.heap.get? b=some u->h'.get? b=some u) (heo:∃ u,h'.get? e=some u)
  (new:ZbK X.prog X.w (upd H x o) h' x o):Inv X pins σ (upd H x o) { s with heap:=h',toks:=t' }:=I.un (Un.write mu he k heo) (I.hok.write mu he k heo new)
theorem Inv.pins_of {pins':List (Addr × Obj)} (I:Inv X pins σ H s) (h:∀ p∈pins',s.heap.get? p.1=some p.2/\H p.1=none/\p.1≠X.env.locals/\p.1 ∉ X.fs/\∀ v,p.2.data≠.cell v):Inv X pins' σ H s :=
 ⟨I.ok,I.os,I.bare,I.base,I.loc,I.cell,I.free,I.freeC,fun p hp=>(Zqp.mp hp).elim (fun z=>I.pin p (ZqJ _ z)) (h p),I.hok,I.len⟩
theorem ZjF {N:List Str} (hN:N.Nodup) {i j:Nat}{x:Str} (a:N[i]? = some x) (b:N[j]? = some x):i=j:=by
 obtain ⟨h1,e1⟩:=Zqm.mp a
 obtain ⟨h2,e2⟩:=Zqm.mp b
 exact (List.getElem_inj hN).mp (e1.trans e2.symm)
theorem ZhV {M:Model}{A:Around}{E:Value->Shared->Prop}{i:Nat}{x:Str}{v:V}{u:Value}{Q:Unit->Shared->Prop} (I:Inv X pins σ H s) (hN:X.N.Nodup) (hi:X.N[i]? = some x) (hx:Loc X.env.scope x) (r:Zbr v u)
  (h:∀ s',Inv X pins (σ.set i (some v)) H s'->(∃ a,Heap.SameBut a s.heap s'.heap/\(a=X.env.locals\/X.env.cells.lookup x=some a))->Q () s') (hf:X.fn x=true\/X.env.scope.names.lookup x=some .local:=by first | exact .inl rfl | exact .inr rfl | assumption):wpAny M A (storeName X.env x u) Q E s:=by
 obtain ⟨m,hn,hl⟩:=id I.loc
 have hcls:(X.env.scope.kind == .class || (X.env.scope.kind == .module && X.env.locals != X.env.globals))=false:=by rw [I.ok.kind];rfl
 have hiσ:i<σ.length:=by rw [I.len];exact (Zqm.mp hi).1
 have cne:=I.cne
 have tracked:∀ {a:Addr}{h':Heap},(∃ o,s.heap.get? a=some o/\H a=none)->Heap.SameBut a s.heap h'->HOk X.prog X.w H h':=fun {a h'} ha hs b ob e=>by
  obtain ⟨_,_,hfree⟩:=ha
  refine (I.hok b ob e).stay (fun c w' hc q=>(hs.2 c ?_).trans q) (fun _ q=>q) fun _ _ q=>q
  rintro rfl
  rcases hc with rfl | hc
  ·rw [hfree] at e;cases e
  ·rw [hfree] at hc;cases hc
 rcases hx with hk | hk
 ·refine wpAny_storeName_local hk hn (fun h' hn' hs=>?_) hcls
  obtain ⟨oL,_,_,hoL,_⟩:=id hn
  refine h _ ⟨I.ok,I.os,I.bare,⟨fun b o e n hb hx=>?_,fun b o e n hb hx=>?_,I.base.free,fun b o e hx=>?_,I.base.tups,I.base.frzs,I.base.tbls⟩,⟨_,hn',fun j y v' e1 e2 e3=>?_⟩,fun y c e=>?_,I.free,I.freeC,fun p hp=>?_,tracked ⟨oL,hoL,I.free⟩ hs,by simpa using I.len⟩ ⟨_,hs,.inl rfl⟩
  ·exact (hs.2 b (ZrP (ZrQ (Heap.lt_size e) I.ok.above))).trans (I.base.keep b o e n hb hx)
  ·obtain ⟨sl,e1⟩:=I.base.slot b o e n hb hx
   exact ⟨sl,(hs.2 b (ZrP (ZrQ (Heap.lt_size e) I.ok.above))).trans e1⟩
  ·obtain ⟨o',e1⟩:=I.base.there b o e hx
   exact ⟨o',(hs.2 b (ZrP (ZrQ (Heap.lt_size e) I.ok.above))).trans e1⟩
  ·by_cases hj:j=i
   ·subst hj
    rw [hi] at e1;cases e1
    rw [ZrG hiσ] at e2
    cases e2
    exact ⟨u,r,.inl ⟨hk,by simp⟩⟩
   ·rw [List.getElem?_set_ne (Ne.symm hj)] at e2
    obtain ⟨u',r',q⟩:=hl j y v' e1 e2 e3
    refine ⟨u',r',?_⟩
    rcases q with ⟨k,e⟩ | ⟨k,c,e,z⟩
    ·refine .inl ⟨k,?_⟩
     have:y≠x:=fun e=>hj (ZjF hN e1 (e ▸ hi))
     simp [this,e]
    ·exact .inr ⟨k,c,e,z.sameBut hs (cne y c e)⟩
  ·obtain ⟨w',z⟩:=I.cell y c e
   exact ⟨w',z.sameBut hs (cne y c e)⟩
  ·obtain ⟨e,n,ne,nf,d⟩:=I.pin p hp
   exact ⟨(hs.2 p.1 ne).trans e,n,ne,nf,d⟩
 ·have hfn:X.fn x=true:=by
   rcases hf with z | z
   ·exact z
   ·rw [z] at hk;cases hk
  obtain ⟨c,hc⟩:=I.ok.has x (.inl hk)
  obtain ⟨w',z⟩:=I.cell x c hc
  refine wpAny_storeName_cell I.ok.kind hk hc z (fun h' hc' hs=>?_)
  obtain ⟨oc,hoc,hocd⟩:=id z
  refine h { s with heap:=h' } ⟨I.ok,I.os,I.bare,⟨fun b o e n hb hx=>?_,fun b o e n hb hx=>?_,I.base.free,fun b o e hx=>?_,I.base.tups,I.base.frzs,I.base.tbls⟩,⟨m,hn.sameBut hs (Ne.symm (cne x c hc)),fun j y v' e1 e2 e3=>?_⟩,fun y c' e=>?_,I.free,I.freeC,fun p hp=>?_,tracked ⟨oc,hoc,I.freeC x c hc⟩ hs,by simpa using I.len⟩ ⟨c,hs,.inr hc⟩
  ·exact (hs.2 b (ZrP (ZrQ (Heap.lt_size e) (I.ok.cab x c hfn hc)))).trans (I.base.keep b o e n hb hx)
  ·obtain ⟨sl,e1⟩:=I.base.slot b o e n hb hx
   exact ⟨sl,(hs.2 b (ZrP (ZrQ (Heap.lt_size e) (I.ok.cab x c hfn hc)))).trans e1⟩
  ·obtain ⟨o',e1⟩:=I.base.there b o e hx
   exact ⟨o',(hs.2 b (ZrP (ZrQ (Heap.lt_size e) (I.ok.cab x c hfn hc)))).trans e1⟩
  ·by_cases hj:j=i
   ·subst hj
    rw [hi] at e1;cases e1
    rw [ZrG hiσ] at e2
    cases e2
    exact ⟨u,r,.inr ⟨.inl hk,c,hc,hc'⟩⟩
   ·rw [List.getElem?_set_ne (Ne.symm hj)] at e2
    obtain ⟨u',r',q⟩:=hl j y v' e1 e2 e3
    refine ⟨u',r',?_⟩
    rcases q with q | ⟨k,c',e,z'⟩
    ·exact .inl q
    ·refine .inr ⟨k,c',e,z'.sameBut hs ?_⟩
     rintro rfl
     exact hj (ZjF hN e1 (I.ok.inj _ _ _ e hc ▸ hi))
  ·by_cases hcc:c'=c
   ·subst hcc;exact ⟨_,hc'⟩
   ·obtain ⟨w2,z2⟩:=I.cell y c' e
    exact ⟨w2,z2.sameBut hs hcc⟩
  ·obtain ⟨e,n,ne,nf,d⟩:=I.pin p hp
   refine ⟨(hs.2 p.1 ?_).trans e,n,ne,nf,d⟩
   intro q
   rw [q,hoc] at e
   have q':oc=p.2:=Option.some.inj e
   exact d w' (by rw [<- q'];exact hocd)
theorem Zjy {M:Model}{A:Around}{E:Value->Shared->Prop}{i:Nat}{x:Str}{v:V}{u:Value}{Q:Unit->Shared->Prop} (I:Inv X pins σ H s) (hN:X.N.Nodup) (hi:X.N[i]? = some x) (hx:Loc X.env.scope x) (r:Zbr v u)
  (h:∀ s',Inv X pins (σ.set i (some v)) H s'->Q () s') (hf:X.fn x=true\/X.env.scope.names.lookup x=some .local:=by first | exact .inl rfl | exact .inr rfl | assumption):wpAny M A (storeName X.env x u) Q E s :=
 ZhV I hN hi hx r (fun s' I' _=>h s' I') hf
theorem Inv.call' {s':Shared}{ch:List Addr} (I:Inv X pins σ H s) (ho:s'.os=s.os) (u:Un (frs X.stack) ch H H' s.heap s'.heap) (hok:HOk X.prog X.w H' s'.heap) (hg:AllBare s'.gens)
  (hch:∀ b∈ch,(b∈X.ex\/X.s₀.heap.objs.size<=b)/\b≠X.env.locals/\(∀ x c,X.env.cells.lookup x=some c->c≠b)/\∀ p∈X.pn ++ pins,p.1≠b):Inv X pins σ H' s':=by
 obtain ⟨h',g',d',t',o'⟩:=s'
 have e:o'=s.os:=ho
 subst e
 exact I.call (g':=g') (t':=t') (d':=d') u hok hg hch
end
noncomputable abbrev XK:=Value->Option Addr->Hp->Prop
noncomputable abbrev St:=List (Option V)
noncomputable abbrev VK:=V->Hp->Prop
noncomputable abbrev TE:=St->Hp->VK->Prop
noncomputable abbrev TT:=St->Hp->(Bool->Hp->Prop)->Prop
noncomputable abbrev TA:=St->Hp->(List V->Hp->Prop)->Prop
structure Ends where
 nx:St->Hp->Prop
 rt:VK
 bk:St->Hp->Prop:=fun _ _=>False
 ct:St->Hp->Prop:=fun _ _=>False
noncomputable abbrev TS:=Ends->St->Hp->Prop
noncomputable def EP (X:Cx) (pins:List (Addr × Obj)) (σ:St) (Q:VK) (u:Value) (s':Shared):Prop:=∃ v H',Inv X pins σ H' s'/\Zbr v u/\Q v H'
noncomputable def TP (X:Cx) (pins:List (Addr × Obj)) (σ:St) (Q:Bool->Hp->Prop) (b:Bool) (s':Shared):Prop:=∃ H',Inv X pins σ H' s'/\Q b H'
noncomputable def AP (X:Cx) (pins:List (Addr × Obj)) (σ:St) (Q:List V->Hp->Prop) (us:List Value) (s':Shared):Prop:=∃ vs H',Inv X pins σ H' s'/\Vals vs us/\Q vs H'
noncomputable def SP (X:Cx) (pins:List (Addr × Obj)) (D:Ends) (f:Flow) (s':Shared):Prop :=
 match f with
 | .next=>∃ σ' H',Inv X pins σ' H' s'/\D.nx σ' H'
 | .brk=>∃ σ' H',Inv X pins σ' H' s'/\D.bk σ' H'
 | .cont=>∃ σ' H',Inv X pins σ' H' s'/\D.ct σ' H'
 | .ret u=>∃ v σ' H',Inv X pins σ' H' s'/\Zbr v u/\D.rt v H'
noncomputable def PE (X:Cx) (e:Expr) (t:TE):Prop :=
 ∀ (pins:List (Addr × Obj)) (s:Shared) (σ:St) (H:Hp) (Q:VK),Inv X pins σ H s->t σ H Q->wpAny (model X.prog X.w) X.A (eval e X.env) (EP X pins σ Q) X.xe s
noncomputable def PT (X:Cx) (e:Expr) (t:TT):Prop :=
 ∀ (pins:List (Addr × Obj)) (s:Shared) (σ:St) (H:Hp) (Q:Bool->Hp->Prop),Inv X pins σ H s->t σ H Q->wpAny (model X.prog X.w) X.A (isTrue e X.env (eval e X.env)) (TP X pins σ Q) X.xe s
noncomputable def PW (X:Cx) (e:Expr) (t:TT):Prop :=
 ∀ (whole:Sem Value) (pins:List (Addr × Obj)) (s:Shared) (σ:St) (H:Hp) (Q:Bool->Hp->Prop),Inv X pins σ H s->t σ H Q->wpAny (model X.prog X.w) X.A (isTrue e X.env whole) (TP X pins σ Q) X.xe s
theorem PW.pt {X:Cx}{e:Expr}{t:TT} (h:PW X e t):PT X e t:=h _
noncomputable def PA (X:Cx) (es:List Expr) (t:TA):Prop :=
 ∀ (pos:Pos) (pins:List (Addr × Obj)) (s:Shared) (σ:St) (H:Hp) (Q:List V->Hp->Prop),Inv X pins σ H s->t σ H Q->wpAny (model X.prog X.w) X.A (spliced (backTo pos (starEach es X.env))) (AP X pins σ Q) X.xe s
noncomputable def PS (X:Cx) (st:Stmt) (t:TS):Prop :=
 ∀ (pins:List (Addr × Obj)) (s:Shared) (σ:St) (H:Hp) (D:Ends),Inv X pins σ H s->t D σ H->wpAny (model X.prog X.w) X.A (exec st X.env) (SP X pins D) X.xe s
noncomputable def PSs (X:Cx) (st:List Stmt) (t:TS):Prop :=
 ∀ (pins:List (Addr × Obj)) (s:Shared) (σ:St) (H:Hp) (D:Ends),Inv X pins σ H s->t D σ H->wpAny (model X.prog X.w) X.A (execs st X.env) (SP X pins D) X.xe s
theorem thn {α:Type}{t:Sem α}{Q Q':α->Shared->Prop}{M:Model}{A:Around}{E:Value->Shared->Prop}{s:Shared} (h:wpAny M A t Q E s) (hQ:∀ a s,Q a s->Q' a s):wpAny M A t Q' E s:=wpAny_mono h hQ fun _ _ x=>x
section
variable {X:Cx}
noncomputable def tVar (i:Nat):TE:=fun σ H Q=>∃ v,σ[i]? = some (some v)/\Q v H
noncomputable def tC (v:V):TE:=fun _ H Q=>Q v H
theorem pe_var {i:Nat}{x:Str}{pos:Pos} (hN:X.N[i]? = some x) (hv:Vis X.env.scope x) (hd:(x == ("__debug__" : Str))=false:=by decide) (hcd:(x == ("__classdict__" : Str))=false:=by decide):PE X (.Name x pos) (tVar i):=by
 intro pins s σ H Q I h
 obtain ⟨v,e,h⟩:=h
 obtain ⟨m,hn,hl⟩:=I.loc
 obtain ⟨u,r,l⟩:=hl i x v hN e hv
 have fin:EP X pins σ Q u s:=⟨v,H,I,r,h⟩
 rcases l with ⟨hk,hm⟩ | ⟨hk,c,hc,hcell⟩
 ·exact wpAny_Name (wpAny_loadName_local I.ok.kind hk hn hm fin) hd
 ·rcases hk with hk | hk
  ·exact wpAny_Name (wpAny_loadName_cell I.ok.kind hk hc hcell fin) hd
  ·exact wpAny_Name (wpAny_loadName_free I.ok.kind hk hc hcell fin hcd) hd
theorem Zag {i j pos}:PE X (.Constant (.int i) j pos) (tC (.int i)):=fun _ _ _ H _ I h=>wpAny_Constant_int ⟨.int i,H,I.tok _,⟨_,rfl⟩,h⟩
theorem ZdS {b j pos}:PE X (.Constant (.bool b) j pos) (tC (.bl b)):=fun _ _ _ H _ I h=>Constant_bool ⟨.bl b,H,I,rfl,h⟩
theorem Zb9 {j pos}:PE X (.Constant .none j pos) (tC .non):=fun _ _ _ H _ I h=>Constant_none ⟨.non,H,I,rfl,h⟩
theorem Zfc {x j pos}:PE X (.Constant (.str x) j pos) (tC (.str x)):=fun _ _ _ H _ I h=>Calls.Constant_str ⟨.str x,H,I.tok _,⟨_,rfl⟩,h⟩
noncomputable def Gl (X:Cx) (x:Str):Prop:=X.env.kindOf x=some .globalImplicit
theorem Zht {E:Value->Shared->Prop}{pins:List (Addr × Obj)}{s:Shared}{σ:St}{H:Hp}{x:Str}{u:Value}{pos:Pos}{Q:Value->Shared->Prop} (I:Inv X pins σ H s) (hg:Gl X x) (hm:X.mg x=some u) (h:Q u s)
  (hd:(x == ("__debug__" : Str))=false:=by decide):wpAny (model X.prog X.w) X.A (eval (.Name x pos) X.env) Q E s :=
 Calls.Name_function_global I.ok.kind hg (Calls.loadGlobal_global (by rw [I.ok.glob];exact I.mod.glob.keeps I.bk) hm h) hd
theorem ZgL {E:Value->Shared->Prop}{pins:List (Addr × Obj)}{s:Shared}{σ:St}{H:Hp}{x:Str}{u:Value}{pos:Pos}{Q:Value->Shared->Prop} (I:Inv X pins σ H s) (hg:Gl X x) (hm:X.mg x=none) (hv:bootBuiltins x=some u) (h:Q u s)
  (hn:x ≠ "__name__":=by decide) (hd:(x == ("__debug__" : Str))=false:=by decide):wpAny (model X.prog X.w) X.A (eval (.Name x pos) X.env) Q E s:=by
 obtain ⟨mb,h1,h2⟩:=I.mod.blt
 exact Calls.Name_function_global I.ok.kind hg (Calls.loadGlobal_builtin (by rw [I.ok.glob];exact I.mod.glob.keeps I.bk) hm (by rw [I.ok.blt];exact h1.keeps I.bk) ((h2 x hn).trans hv) h) hd
theorem Zoq {x:Str}{v:V}{u:Value}{pos:Pos} (hg:Gl X x) (hm:X.mg x=some u) (r:Zbr v u) (hd:(x == ("__debug__" : Str))=false:=by decide):PE X (.Name x pos) (tC v) :=
 fun _ _ _ H _ I h=>Zht I hg hm ⟨v,H,I,r,h⟩ hd
theorem Zf0 {x:Str}{v:V}{u:Value}{pos:Pos} (hg:Gl X x) (hm:X.mg x=none) (hv:bootBuiltins x=some u) (r:Zbr v u) (hn:x ≠ "__name__":=by decide) (hd:(x == ("__debug__" : Str))=false:=by decide):PE X (.Name x pos) (tC v) :=
 fun _ _ _ H _ I h=>ZgL I hg hm hv ⟨v,H,I,r,h⟩ hn hd
variable {a b:Expr}{ta tb:TE}{pos:Pos}
noncomputable def PC (X:Cx) (op:CmpOp) (a b:Expr) (t:TE):Prop :=
 ∀ (pins:List (Addr × Obj)) (s:Shared) (σ:St) (H:Hp) (Q:VK),Inv X pins σ H s->t σ H Q ->
  wpAny (model X.prog X.w) X.A (eval a X.env) (fun v s₁=>wpAny (model X.prog X.w) X.A (eval b X.env) (fun u s₂=>wpAny (model X.prog X.w) X.A (compareOp op v u) (EP X pins σ Q) X.xe s₂) X.xe s₁) X.xe s
theorem ZjG (b:Expr) {op:CmpOp} (h:op≠.In) (h2:op≠.NotIn):behindInMarks op b=false:=by
 have e1:(op == CmpOp.In)=false:=by cases op <;> first | rfl | exact absurd rfl h
 have e2:(op == CmpOp.NotIn)=false:=by cases op <;> first | rfl | exact absurd rfl h2
 cases b <;> simp [behindInMarks,e1,e2]
noncomputable def tB (t:TE):TT:=fun σ H Q=>t σ H fun x H1=>∃ c,x=.bl c/\Q c H1
theorem pt_cmp {op:CmpOp}{t:TE} (h:PC X op a b t) (h1:behindInMarks op b=false:=by first | exact ZjG _ (by decide) (by decide) | rfl):PT X (.Compare a [op] [b] pos) (tB t):=by
 intro pins s σ H Q I hw
 refine wpAny_isTrue_Compare1 (thn (h pins s σ H _ I hw) fun v s1 h1=>thn h1 fun u s2 h2=>thn h2 fun c s3 ⟨x,H1,I1,r1,q1⟩=>?_) h1
 obtain ⟨d,rfl,q⟩:=q1
 cases r1
 exact wpAny_truthy_bool ⟨H1,I1,q⟩
variable {tA tB':TT}{rest:List Expr}
noncomputable def Znt (t u:TT):TT:=fun σ H Q=>t σ H fun c H1=>if c=true then u σ H1 Q else Q false H1
noncomputable def tOr (t u:TT):TT:=fun σ H Q=>t σ H fun c H1=>if c=true then Q true H1 else u σ H1 Q
noncomputable def Zkw (t:TT):TT:=fun σ H Q=>t σ H fun c H1=>Q (!c) H1
theorem ZeV (ha:PT X a tA):PW X (.BoolOp .And [a] pos) tA:=by
 intro wh pins s σ H Q I h
 refine isTrue_and (thn (ha pins s σ H Q I h) fun c s1 e=>?_)
 cases c with
 | true=>exact isTrue_and_nil e
 | false=>exact e
theorem Zd2 (ha:PT X a tA):PW X (.BoolOp .Or [a] pos) tA:=by
 intro wh pins s σ H Q I h
 refine isTrue_or (thn (ha pins s σ H Q I h) fun c s1 e=>?_)
 cases c with
 | false=>exact isTrue_or_nil e
 | true=>exact e
theorem ZgE (ha:PT X a tA) (hb:PW X (.BoolOp .And (b :: rest) pos) tB'):PW X (.BoolOp .And (a :: b :: rest) pos) (Znt tA tB'):=by
 intro wh pins s σ H Q I h
 refine isTrue_and (thn (ha pins s σ H _ I h) fun c s1 ⟨H1,I1,q1⟩=>?_)
 cases c with
 | true=>exact hb wh pins s1 σ H1 Q I1 q1
 | false=>exact ⟨H1,I1,q1⟩
theorem Zfs (ha:PT X a tA) (hb:PW X (.BoolOp .Or (b :: rest) pos) tB'):PW X (.BoolOp .Or (a :: b :: rest) pos) (tOr tA tB'):=by
 intro wh pins s σ H Q I h
 refine isTrue_or (thn (ha pins s σ H _ I h) fun c s1 ⟨H1,I1,q1⟩=>?_)
 cases c with
 | true=>exact ⟨H1,I1,q1⟩
 | false=>exact hb wh pins s1 σ H1 Q I1 q1
theorem Zd4 (ha:PT X a tA):PT X (.UnaryOp .Not a pos) (Zkw tA):=by
 intro pins s σ H Q I h
 exact isTrue_not (ha pins s σ H (fun c H1=>Q (!c) H1) I h)
noncomputable def Zob (ta tb:TE):TE:=fun σ H Q=>ta σ H fun x H1=>∃ c,x=.bl c/\if c=true then tb σ H1 Q else Q (.bl false) H1
noncomputable def Zn9 (ta:TE):TE:=fun σ H Q=>ta σ H fun x H1=>∃ c,x=.bl c/\Q (.bl (!c)) H1
theorem Zh4 {op}{t:TE} (h:PE X a t):PE X (.BoolOp op [a] pos) t:=fun pins s σ H Q I hw=>BoolOp_one (h pins s σ H Q I hw)
theorem pe_and (ha:PE X a ta) (hb:PE X (.BoolOp .And (b :: rest) pos) tb):PE X (.BoolOp .And (a :: b :: rest) pos) (Zob ta tb):=by
 intro pins s σ H Q I h
 refine BoolOp_and (thn (ha pins s σ H _ I h) fun v s1 ⟨x,H1,I1,r1,q1⟩=>?_)
 obtain ⟨c,rfl,q1⟩:=q1
 cases r1
 refine wpAny_truthy_bool ?_
 cases c with
 | true=>exact hb pins s1 σ H1 Q I1 q1
 | false=>exact ⟨.bl false,H1,I1,rfl,q1⟩
theorem pe_not (ha:PE X a ta):PE X (.UnaryOp .Not a pos) (Zn9 ta):=by
 intro pins s σ H Q I h
 refine UnaryOp_ (thn (ha pins s σ H _ I h) fun v s1 ⟨x,H1,I1,r1,q1⟩=>?_)
 obtain ⟨c,rfl,q1⟩:=q1
 cases r1
 exact not_of (wpAny_truthy_bool ⟨.bl (!c),H1,I1,rfl,q1⟩)
noncomputable def tIf (t:TT) (ta tb:TE):TE:=fun σ H Q=>t σ H fun c H1=>if c=true then ta σ H1 Q else tb σ H1 Q
theorem ZjE {c:Expr} (hc:PT X c tA) (ha:PE X a ta) (hb:PE X b tb):PE X (.IfExp c a b pos) (tIf tA ta tb):=by
 intro pins s σ H Q I h
 refine wpAny_IfExp (thn (hc pins s σ H _ I h) fun d s1 ⟨H1,I1,q1⟩=>?_)
 cases d with
 | true=>exact ha pins s1 σ H1 Q I1 q1
 | false=>exact hb pins s1 σ H1 Q I1 q1
end
noncomputable def SqL (K:ZpF) (H:Hp) (a:Addr) (xs:List V):Prop :=
 Rd H a (.lst xs) \/
  ∃ (o:Obj) (its:Array Value) (n:Nat),K.lookup a=some o/\o.cls=.type "list" /\ o.dict=none/\o.data=.seq its n/\its.size<=sizeLine/\Vals xs its.toList
noncomputable def SqT (K:ZpF) (H:Hp) (a:Addr) (xs:List V):Prop :=
 Rd H a (.tup xs) \/
  ∃ (o:Obj) (its:Array Value) (n:Nat),K.lookup a=some o/\o.cls=.type "tuple" /\ o.data=.seq its n/\its.size<=sizeLine/\Vals xs its.toList
noncomputable def absV:Value->Option V
 | .none=>some .non
 | .bool b=>some (.bl b)
 | .int i _=>some (.int i)
 | .str x _=>some (.str x)
 | .bytes b _=>some (.byt b)
 | .float b _=>some (.flt b)
 | .ref a=>some (.ref a)
 | .type n=>some (.ty n)
 | _=>none
theorem Zbr.abs {x:V}{u:Value} (r:Zbr x u):absV u=some x:=by
 cases x with
 | non=>cases r;rfl
 | bl _=>cases r;rfl
 | int _=>obtain ⟨t,rfl⟩:=r;rfl
 | str _=>obtain ⟨t,rfl⟩:=r;rfl
 | byt _=>obtain ⟨t,rfl⟩:=r;rfl
 | flt _=>obtain ⟨t,rfl⟩:=r;rfl
 | ref _=>cases r;rfl
 | ty _=>cases r;rfl
theorem Zbr.inj {x y:V}{u:Value} (r:Zbr x u) (q:Zbr y u):x=y:=Option.some.inj (r.abs.symm.trans q.abs)
theorem Vals.inj:∀ {xs ys:List V}{us:List Value},Vals xs us->Vals ys us->xs=ys
 | _,_,_,.nil,.nil=>rfl
 | _,_,_,.cons r t,.cons r' t'=>by rw [r.inj r',Vals.inj t t']
section
variable {X:Cx}{pins:List (Addr × Obj)}{σ:St}{H:Hp}{s:Shared}{a:Addr}{xs ys:List V}
theorem SqL.of {K:ZpF} (h:H a=some (.lst xs)):SqL K H a xs:=.inl (.inl h)
theorem SqT.of {K:ZpF} (h:H a=some (.tup xs)):SqT K H a xs:=.inl (.inl h)
theorem Inv.list (I:Inv X pins σ H s) (h:SqL X.K H a xs):∃ its:List Value,Vals xs its/\PlainL s.heap a its.toArray/\xs.length<=sizeLine:=by
 rcases h with h | ⟨o,its,n,hk,hc,hd,hs,hz,r⟩
 ·obtain ⟨z,its,n,r,e⟩:=h.ok I.hok
  exact ⟨its,r,⟨_,n,e,rfl,rfl,rfl⟩,z⟩
 ·refine ⟨its.toList,r,⟨o,n,I.kIn a o hk,hc,hd,by simpa using hs⟩,?_⟩
  have e:=r.length
  simp only [Zsf] at e
  omega
theorem Inv.tuple (I:Inv X pins σ H s) (h:SqT X.K H a xs):∃ its:List Value,Vals xs its/\IsTup s.heap a its.toArray/\xs.length<=sizeLine:=by
 rcases h with h | ⟨o,its,n,hk,hc,hs,hz,r⟩
 ·obtain ⟨z,its,r,p⟩:=h.ok I.hok
  exact ⟨its,r,p,z⟩
 ·refine ⟨its.toList,r,⟨o,I.kIn a o hk,hc,n,by simpa using hs⟩,?_⟩
  have e:=r.length
  simp only [Zsf] at e
  omega
theorem Inv.list_inj (I:Inv X pins σ H s) (h:SqL X.K H a xs) (h':SqL X.K H a ys):xs=ys:=by
 obtain ⟨its,r,⟨o,n,e,_,_,d⟩,_⟩:=I.list h
 obtain ⟨its',r',⟨o',n',e',_,_,d'⟩,_⟩:=I.list h'
 rw [e] at e';cases e'
 rw [d] at d'
 injection d' with d1 _
 have:its=its':=by simpa using congrArg Array.toList d1
 subst this
 exact r.inj r'
theorem Inv.tuple_inj (I:Inv X pins σ H s) (h:SqT X.K H a xs) (h':SqT X.K H a ys):xs=ys:=by
 obtain ⟨its,r,⟨o,e,_,n,d⟩,_⟩:=I.tuple h
 obtain ⟨its',r',⟨o',e',_,n',d'⟩,_⟩:=I.tuple h'
 rw [e] at e';cases e'
 rw [d] at d'
 injection d' with d1 _
 have:its=its':=by simpa using congrArg Array.toList d1
 subst this
 exact r.inj r'
end
noncomputable abbrev Cx.wish (X:Cx) (E:Value->Shared->Prop):Cx:={ X with xe:=E }
noncomputable abbrev Cx.nox (X:Cx):Cx:=X.wish fun _ _=>False
theorem Cx.Ok.wish {X:Cx} (ok:X.Ok) (E:Value->Shared->Prop):(X.wish E).Ok :=
 ⟨ok.mod,ok.kind,ok.glob,ok.blt,ok.above,ok.inj,ok.has,ok.cab,ok.hd,ok.frames,ok.stk,ok.exf,ok.bs,ok.bsz,ok.noex,ok.exfs,ok.funs,ok.frf⟩
theorem Cx.Ok.unwish {X:Cx}{E:Value->Shared->Prop} (ok:(X.wish E).Ok):X.Ok :=
 ⟨ok.mod,ok.kind,ok.glob,ok.blt,ok.above,ok.inj,ok.has,ok.cab,ok.hd,ok.frames,ok.stk,ok.exf,ok.bs,ok.bsz,ok.noex,ok.exfs,ok.funs,ok.frf⟩
section
variable {X:Cx}{pins:List (Addr × Obj)}{σ:St}{H:Hp}{s:Shared}{E:Value->Shared->Prop}
theorem Inv.wish (I:Inv X pins σ H s) (E:Value->Shared->Prop):Inv (X.wish E) pins σ H s:=⟨I.ok.wish E,I.os,I.bare,I.base,I.loc,I.cell,I.free,I.freeC,I.pin,I.hok,I.len⟩
theorem Inv.unwish (I:Inv (X.wish E) pins σ H s):Inv X pins σ H s:=⟨I.ok.unwish,I.os,I.bare,I.base,I.loc,I.cell,I.free,I.freeC,I.pin,I.hok,I.len⟩
theorem SP.unwish {D:Ends}{f:Flow}{s':Shared} (h:SP (X.wish E) pins D f s'):SP X pins D f s':=by
 cases f with
 | next=>obtain ⟨σ',H',I,q⟩:=h;exact ⟨σ',H',I.unwish,q⟩
 | brk=>obtain ⟨σ',H',I,q⟩:=h;exact ⟨σ',H',I.unwish,q⟩
 | cont=>obtain ⟨σ',H',I,q⟩:=h;exact ⟨σ',H',I.unwish,q⟩
 | ret u=>obtain ⟨v,σ',H',I,r,q⟩:=h;exact ⟨v,σ',H',I.unwish,r,q⟩
theorem PSs.nox {st:List Stmt}{t:TS} (h:PSs X.nox st t):PSs X st t:=fun pins s σ H D I hw =>
 wpAny_mono (h pins s σ H D (I.wish _) hw) (fun _ _ q=>q.unwish) fun _ _ z=>False.elim z
end
section
variable {X:Cx}{st:Stmt}{rest:List Stmt}{t u:TS}{e:Expr}{te:TE}{pos:Pos}
noncomputable def Zbt:TS:=fun D σ H=>D.nx σ H
noncomputable def ZaQ (t u:TS):TS:=fun D σ H=>t { D with nx:=u D } σ H
theorem ZaA:PSs X [] Zbt:=fun _ _ σ H _ I h=>wpAny_execs_nil ⟨σ,H,I,h⟩
theorem Zac (h1:PS X st t) (h2:PSs X rest u):PSs X (st :: rest) (ZaQ t u):=by
 intro pins s σ H D I h
 refine wpAny_execs_cons (thn (h1 pins s σ H { D with nx:=u D } I h) fun f s1 q=>?_)
 cases f with
 | next =>
  obtain ⟨σ',H',I',q⟩:=q
  exact h2 pins s1 σ' H' D I' q
 | ret v=>exact q
 | brk=>exact q
 | cont=>exact q
theorem Zah (h1:PS X st t):PSs X [st] t:=by
 intro pins s σ H D I h
 refine wpAny_execs_cons (thn (h1 pins s σ H D I h) fun f s1 q=>?_)
 cases f with
 | next=>exact wpAny_execs_nil q
 | ret v=>exact q
 | brk=>exact q
 | cont=>exact q
theorem Inv.quiet {pins:List (Addr × Obj)}{σ:St}{H:Hp}{s:Shared} (I:Inv X pins σ H s):interactive X.env=false:=by simp [interactive,I.ok.kind]
noncomputable def ZbZ (te:TE):TS:=fun D σ H=>te σ H fun _ H1=>D.nx σ H1
theorem Za0 (he:PE X e te) (hs:swapsWith e none pos.line X.env=pure false:=by rfl):PS X (.Expr e pos) (ZbZ te):=by
 intro pins s σ H D I h
 exact wpAny_Expr_any (thn (he pins s σ H _ I h) fun v s1 ⟨x,H1,I1,r1,q1⟩=>⟨σ,H1,I1,q1⟩) I.quiet hs
noncomputable def Zck (te:TE):TS:=fun D σ H=>te σ H D.rt
theorem ZaB (he:PE X e te):PS X (.Return (some e) pos) (Zck te):=by
 intro pins s σ H D I h
 exact wpAny_Return_some (thn (he pins s σ H _ I h) fun v s1 ⟨x,H1,I1,r1,q1⟩=>⟨x,σ,H1,I1,r1,q1⟩)
noncomputable def Zn8:TS:=fun D _ H=>D.rt .non H
theorem Zoo:PS X (.Return none pos) Zn8:=fun _ _ σ H _ I h=>wpAny_Return_none ⟨.non,σ,H,I,rfl,h⟩
noncomputable def Zcv (c:TT) (t u:TS):TS:=fun D σ H=>c σ H fun b H1=>if b=true then t D σ H1 else u D σ H1
theorem Zbn {c:Expr}{a b:List Stmt}{tc:TT} (hc:PT X c tc) (ha:PSs X a t) (hb:PSs X b u):PS X (.If c a b pos) (Zcv tc t u):=by
 intro pins s σ H D I h
 refine wpAny_If (thn (hc pins s σ H _ I h) fun d s1 ⟨H1,I1,q1⟩=>?_)
 cases d with
 | true=>exact ha pins s1 σ H1 D I1 q1
 | false=>exact hb pins s1 σ H1 D I1 q1
end
noncomputable abbrev TG:=V->St->Hp->(St->Hp->Prop)->Prop
noncomputable abbrev TGs:=List V->St->Hp->(St->Hp->Prop)->Prop
noncomputable def PG (X:Cx) (target:Expr) (t:TG):Prop :=
 ∀ (pins:List (Addr × Obj)) (s:Shared) (σ:St) (H:Hp) (v:V) (u:Value) (Q:St->Hp->Prop),Inv X pins σ H s->Zbr v u->t v σ H Q ->
  wpAny (model X.prog X.w) X.A (assign target X.env u) (fun _ s'=>∃ σ' H',Inv X pins σ' H' s'/\Q σ' H') X.xe s
noncomputable def PGs (X:Cx) (ts:List Expr) (t:TGs):Prop :=
 ∀ (pins:List (Addr × Obj)) (s:Shared) (σ:St) (H:Hp) (vs:List V) (us:List Value) (Q:St->Hp->Prop),Inv X pins σ H s->Vals vs us->t vs σ H Q ->
  wpAny (model X.prog X.w) X.A (assignInOrder ((assignEach ts X.env).map (·.2)) us) (fun _ s'=>∃ σ' H',Inv X pins σ' H' s'/\Q σ' H') X.xe s
noncomputable abbrev TSet:=V->V->V->Hp->(Hp->Prop)->Prop
noncomputable def PSet (X:Cx) (t:TSet):Prop :=
 ∀ (pins:List (Addr × Obj)) (s:Shared) (σ:St) (H:Hp) (o i v:V) (ov iv u:Value) (Q:Hp->Prop),Inv X pins σ H s->Zbr o ov->Zbr i iv->Zbr v u->t o i v H Q ->
  wpAny (model X.prog X.w) X.A (setItem ov iv u) (fun _ s'=>∃ H',Inv X pins σ H' s'/\Q H') X.xe s
noncomputable abbrev TIp:=V->V->Hp->VK->Prop
noncomputable def PIp (X:Cx) (op:Operator) (t:TIp):Prop :=
 ∀ (pins:List (Addr × Obj)) (s:Shared) (σ:St) (H:Hp) (x y:V) (v u:Value) (Q:VK),Inv X pins σ H s->Zbr x v->Zbr y u->t x y H Q ->
  wpAny (model X.prog X.w) X.A (inplaceOp op v u) (EP X pins σ Q) X.xe s
section
variable {X:Cx}{pos:Pos}
noncomputable def Zan (i:Nat):TG:=fun v σ H Q=>Q (σ.set i (some v)) H
theorem ZaE {i:Nat}{x:Str} (hN:X.N.Nodup) (hi:X.N[i]? = some x) (hx:Loc X.env.scope x) (hf:X.fn x=true\/X.env.scope.names.lookup x=some .local:=by first | exact .inl rfl | exact .inr rfl | assumption):PG X (.Name x pos) (Zan i):=by
 intro pins s σ H v u Q I r h
 exact wpAny_assign_Name (Zjy I hN hi hx r (fun s' I'=>⟨_,H,I',h⟩) hf)
noncomputable def gNil:TGs:=fun vs σ H Q=>vs=[]/\Q σ H
noncomputable def Zkp (t:TG) (u:TGs):TGs:=fun vs σ H Q=>∃ v r,vs=v :: r/\t v σ H fun σ' H'=>u r σ' H' Q
theorem Zlc:PGs X [] gNil:=by
 intro pins s σ H vs us Q I r h
 obtain ⟨e,h⟩:=h
 subst e
 cases r
 exact assignInOrder_nil ⟨σ,H,I,h⟩
theorem ZfB {e:Expr}{es:List Expr}{t:TG}{u:TGs} (h1:PG X e t) (h2:PGs X es u)
  (hs:(assignEach (e :: es) X.env).map (·.2)=assign e X.env :: (assignEach es X.env).map (·.2):=by rfl):PGs X (e :: es) (Zkp t u):=by
 intro pins s σ H vs us Q I r h
 obtain ⟨v,vr,e1,h⟩:=h
 subst e1
 cases r with
 | cons r rr =>
  rw [hs]
  refine assignInOrder_cons (thn (h1 pins s σ H _ _ _ I r h) fun _ s1 ⟨σ1,H1,I1,q1⟩=>?_)
  exact h2 pins s1 σ1 H1 _ _ Q I1 rr q1
noncomputable def gTup (K:ZpF) (n:Nat) (t:TGs):TG:=fun v σ H Q=>∃ a xs,v=.ref a/\SqT K H a xs/\xs.length=n/\t xs σ H Q
theorem Zny {es:List Expr}{k:Nat}{t:TGs}{n:Nat} (hc:X.calm=true) (h:PGs X es t)
  (hn:(assignEach es X.env).length=n:=by rfl) (hst:(assignEach es X.env).findIdx? (·.1)=none:=by rfl):PG X (.Tuple es k pos) (gTup X.K n t):=by
 intro pins s σ H v u Q I r hw
 obtain ⟨a,xs,e1,hq,hl,hw⟩:=hw
 subst e1
 cases r
 obtain ⟨its,rv,ht,hz⟩:=I.tuple hq
 refine assign_Tuple_tuple (I.ok.hd hc) ht (by simp [hn,<- hl,rv.length]) hst fun h' hx=>?_
 have I1:Inv X pins σ H { s with heap:=h' }:=I.kept (t':=s.toks) fun b o e=>hx b o (ZrP (Heap.lt_size e)) e
 exact h pins _ σ H xs _ Q I1 (by simpa using rv) hw
noncomputable def gSub (to ti:TE) (t:TSet):TG:=fun v σ H Q=>to σ H fun o H1=>ti σ H1 fun i H2=>t o i v H2 fun H3=>Q σ H3
theorem Znz {o i:Expr}{to ti:TE}{t:TSet} (ho:PE X o to) (hi:PE X i ti) (hs:PSet X t)
  (ha:∀ v,assign (.Subscript o i pos) X.env v=(do
   let ov <- holding [v] (eval o X.env)
   let iv <- holding [v,ov] (eval i X.env)
   standAt pos
   holding [v,ov,iv] (setItem ov iv v)
   release [v,ov,iv] []):=by intro _;rfl):PG X (.Subscript o i pos) (gSub to ti t):=by
 intro pins s σ H v u Q I r h
 rw [ha]
 refine wpAny_bind (wpAny_holding (thn (ho pins s σ H _ I h) fun ov s1 ⟨x,H1,I1,r1,q1⟩=>?_))
 refine wpAny_bind (wpAny_holding (thn (hi pins s1 σ H1 _ I1 q1) fun iv s2 ⟨y,H2,I2,r2,q2⟩=>?_))
 refine wpAny_bind (wpAny_standAt (wpAny_bind (wpAny_holding (thn (hs pins s2 σ H2 x y v ov iv u _ I2 r1 r2 r q2) fun _ s3 ⟨H3,I3,q3⟩=>?_))))
 exact wpAny_release ⟨σ,H3,I3,q3⟩
noncomputable def Zbs (te:TE) (g:TG):TS:=fun D σ H=>te σ H fun x H1=>g x σ H1 D.nx
theorem Zla {tg e:Expr}{te:TE}{g:TG} (he:PE X e te) (hg:PG X tg g) (hs:swapsWithSole [tg] e pos.line X.env=pure false:=by rfl) (hw:swappedStores [tg] e X.env=pure none:=by rfl)
  (h1:(assignEach [tg] X.env).map (·.2)=[assign tg X.env]:=by rfl):PS X (.Assign [tg] e pos) (Zbs te g):=by
 intro pins s σ H D I h
 refine wpAny_Assign_stores (thn (he pins s σ H _ I h) fun v s1 ⟨x,H1,I1,r1,q1⟩=>?_) hs hw
 rw [h1]
 exact thn (hg pins s1 σ H1 x v _ I1 r1 q1) fun _ s2 q=>q
theorem Zap {i:Nat}{x:Str}{e:Expr}{te:TE}{pos':Pos} (hN:X.N.Nodup) (hi:X.N[i]? = some x) (hx:Loc X.env.scope x) (he:PE X e te) (hs:swapsWith e (some (.Name x pos')) pos.line X.env=pure false:=by rfl) (hf:X.fn x=true\/X.env.scope.names.lookup x=some .local:=by first | exact .inl rfl | exact .inr rfl | assumption) :
  PS X (.Assign [.Name x pos'] e pos) (Zbs te (Zan i)):=by
 intro pins s σ H D I h
 refine wpAny_Assign_Name (thn (he pins s σ H _ I h) fun v s1 ⟨y,H1,I1,r1,q1⟩=>?_) hs
 exact Zjy I1 hN hi hx r1 (fun s2 I2=>⟨_,H1,I2,q1⟩) hf
end
section
variable {X:Cx}{pos:Pos}
noncomputable def ZgA (c:TT) (tb:TS):TS:=fun D σ H=>∃ W:Nat->St->Hp->Prop,(∃ m,W m σ H)/\∀ m σ H,W m σ H ->
 c σ H fun b H1=>if b=true then ∃ N:St->Hp->Prop,(∀ σ' H',N σ' H'->∃ m',m'<m/\W m' σ' H')/\tb { D with nx:=N,ct:=N,bk:=D.nx } σ H1 else D.nx σ H1
theorem ZfA {c:Expr}{body:List Stmt}{tc:TT}{tb:TS} (hp:PassesOwn (model X.prog X.w) X.A X.env X.xe) (hc:PT X c tc) (hb:PSs X body tb):PS X (.While c body [] pos) (ZgA tc tb):=by
 intro pins s σ H D I h
 obtain ⟨W,⟨m0,w0⟩,turn⟩:=h
 refine wpAny_While (codeAny_whileLoop (fun n s'=>∃ σ' H',Inv X pins σ' H' s'/\W n σ' H') ?_ m0 ⟨σ,H,I,w0⟩)
 rintro n s1 ⟨σ1,H1,I1,w1⟩
 refine wpAny_passesOwn hp (thn (hc pins s1 σ1 H1 _ I1 (turn n σ1 H1 w1)) fun b s2 ⟨H2,I2,q2⟩=>?_)
 cases b with
 | true =>
  obtain ⟨N,hN,q2⟩:=q2
  rw [if_pos rfl]
  refine wpAny_passesOwn hp (thn (hb pins s2 σ1 H2 _ I2 q2) fun f s3 q3=>?_)
  cases f with
  | next =>
   obtain ⟨σ3,H3,I3,n3⟩:=q3
   obtain ⟨m',hm,w3⟩:=hN σ3 H3 n3
   exact ⟨m',hm,σ3,H3,I3,w3⟩
  | cont =>
   obtain ⟨σ3,H3,I3,n3⟩:=q3
   obtain ⟨m',hm,w3⟩:=hN σ3 H3 n3
   exact ⟨m',hm,σ3,H3,I3,w3⟩
  | brk=>exact q3
  | ret v=>exact q3
 | false =>
  rw [if_neg Zsq]
  exact wpAny_execs_nil ⟨σ1,H2,I2,q2⟩
end
structure It where
 go:Nat->Hp->Prop
 yld:Nat->Hp->V->Hp->Prop
 stop:Nat->Hp->Prop
noncomputable def Zkv (X:Cx) (pins:List (Addr × Obj)) (H:Hp) (b:Addr):Prop :=
 H b=none/\b≠X.env.locals/\b ∉ X.fs/\(b∈X.ex\/X.s₀.heap.objs.size<=b)/\(∀ x c,X.env.cells.lookup x=some c->c≠b)/\∀ p∈X.pn ++ pins,p.1≠b
theorem Inv.fpOk {X:Cx}{pins:List (Addr × Obj)}{σ:St}{H H':Hp}{s:Shared}{b:Addr} (I:Inv X pins σ H s) (hb:s.heap.objs.size<=b) (hn:H' b=none):Zkv X pins H' b:=by
 refine ⟨hn,ZrV (ZrQ I.lt hb),I.nofs hb,.inr (ZrR I.sz hb),fun x c e z=>?_,fun p hp z=>?_⟩
 ·obtain ⟨v,q⟩:=I.cell x c e
  exact absurd (ZrQ q.lt (by rw [z];exact hb)) (ZrU _)
 ·exact absurd (ZrQ (Heap.lt_size (I.pin p hp).1) (by rw [z];exact hb)) (ZrU _)
structure Turn (P:Program) (w:World) (K:ZpF) (tg:Expr) (J:It) (fp:List Addr) (it:Addr) (tn:Nat->Heap->Prop):Prop where
 mem:it∈fp
 obj:∀ i h,tn i h->∀ b∈fp,∃ o,h.get? b=some o/\∀ v,o.data≠.cell v
 keep:∀ i h h',tn i h->(∀ b∈fp,∀ o,h.get? b=some o->h'.get? b=some o)->tn i h'
 item:∀ (X:Cx),X.prog=P->X.w=w->X.K=K->X.calm=true->∀ (i:Nat) (pins:List (Addr × Obj)) (s:Shared) (σ:St) (H:Hp) (E:Value->Shared->Prop),Inv X pins σ H s->(∀ b∈fp,Zkv X pins H b)->tn i s.heap->J.go i H ->
  wpAny (model P w) X.A (pyNext (.ref it)) (fun r s1=>∃ u,r=some u /\
   wpAny (model P w) X.A (letOwnedTupleGo tg (.ref it) u) (fun _ s2=>∃ x H',Inv X pins σ H' s2/\Zbr x u/\J.yld i H x H'/\tn (i+1) s2.heap/\∀ b∈fp,H' b=none) E s1) E s
 done:∀ (X:Cx),X.prog=P->X.w=w->X.K=K->X.calm=true->∀ (i:Nat) (pins:List (Addr × Obj)) (s:Shared) (σ:St) (H:Hp) (E:Value->Shared->Prop),Inv X pins σ H s->(∀ b∈fp,Zkv X pins H b)->tn i s.heap->J.stop i H ->
  wpAny (model P w) X.A (pyNext (.ref it)) (fun r s1=>r=none/\Inv X pins σ H s1) E s
 self:∀ (A:Around) (i:Nat) (s:Shared) (Q:Value->Shared->Prop) (E:Value->Shared->Prop),tn i s.heap->Q (.ref it) s->wpAny (model P w) A (pyIter (.ref it)) Q E s
noncomputable abbrev TI:=St->Hp->(It->Hp->Prop)->Prop
noncomputable def PIE (X:Cx) (pins:List (Addr × Obj)) (σ:St) (tg:Expr) (R:It->Hp->Prop) (itv:Value) (s2:Shared):Prop :=
 ∃ (it:Addr) (fp:List Addr) (tn:Nat->Heap->Prop) (J:It) (H':Hp),itv=.ref it/\Inv X pins σ H' s2/\Turn X.prog X.w X.K tg J fp it tn/\tn 0 s2.heap/\(∀ b∈fp,Zkv X pins H' b)/\R J H'
noncomputable def PI (X:Cx) (tg iter:Expr) (wi:TI):Prop :=
 ∀ (pins:List (Addr × Obj)) (s:Shared) (σ:St) (H:Hp) (R:It->Hp->Prop),Inv X pins σ H s->wi σ H R ->
  wpAny (model X.prog X.w) X.A (eval iter X.env) (fun v s1=>wpAny (model X.prog X.w) X.A (pyIter v) (PIE X pins σ tg R) X.xe s1) X.xe s
theorem Zm4 {M:Model}{A:Around}{E:Value->Shared->Prop}{s:Shared}{tg:Expr}{it:Addr}{u:Value}{o:Obj}{n:String}{vs:Array Value}{Q:Unit->Shared->Prop} (ho:s.heap.get? it=some o) (hc:o.cls=.type n) (hd:o.data=.fields vs)
    (hn:["enumerate","zip","dict_itemiterator","dict_reverseitemiterator","odict_iterator","itertools.zip_longest","itertools.pairwise"].contains n=false) (hQ:Q () s):wpAny M A (letOwnedTupleGo tg (.ref it) u) Q E s:=by
  unfold letOwnedTupleGo
  cases tg <;> first
    | exact wpAny_pure hQ
    | (cases u <;> first
        | exact wpAny_pure hQ
        | (refine wpAny_bind (wpAny_load ho ?_)
           rw [hc,hd]
           show wpAny M A (if (["enumerate","zip","dict_itemiterator","dict_reverseitemiterator","odict_iterator","itertools.zip_longest","itertools.pairwise"].contains n && vs[0]? == some (rawInt _))=true then _ else _) Q E s
           rw [if_neg (by intro h;rw [hn,Bool.false_and] at h;cases h)]
           exact wpAny_pure hQ))
noncomputable def Itl (K:ZpF) (a:Addr):It :=
 ⟨fun i H=>∃ xs x,SqL K H a xs/\xs[i]? = some x,fun i H x H'=>H'=H/\∀ xs,SqL K H a xs->xs[i]? = some x,fun i H=>∃ xs,SqL K H a xs/\xs.length<=i⟩
noncomputable def Itt (K:ZpF) (a:Addr):It :=
 ⟨fun i H=>∃ xs x,SqT K H a xs/\xs[i]? = some x,fun i H x H'=>H'=H/\∀ xs,SqT K H a xs->xs[i]? = some x,fun i H=>∃ xs,SqT K H a xs/\xs.length<=i⟩
noncomputable def Itr (lo:Int) (n:Nat):It:=⟨fun i _=>i<n,fun i H x H'=>H'=H/\x=.int (lo+i),fun i _=>n<=i⟩
theorem ZkF {P:Program}{w:World}{K:ZpF}{tg:Expr} (a it:Addr):Turn P w K tg (Itl K a) [it] it (fun i h=>h.IsListIter it a i) where
 mem:=by simp
 obj:=fun i h st b hb=>by
  have e:b=it:=by simpa using hb
  subst e
  obtain ⟨o,e,c,d⟩:=st
  exact ⟨o,e,fun v z=>by rw [d] at z;cases z⟩
 keep:=fun i h h' st k=>st.at fun o e=>k it (by simp) o e
 item:=by
  intro X hP hw hK hc i pins s σ H E I hf st hg
  subst hP hw hK
  obtain ⟨xs,x,hq,hx⟩:=hg
  obtain ⟨its,rv,p,hz⟩:=I.list hq
  obtain ⟨u,hu,ru⟩:=rv.get hx
  obtain ⟨f0,f1,f2,f3,f4,f5⟩:=hf it (by simp)
  refine wpAny_pyNext_list_item st p.isList (x:=u) (by simpa using hu) fun h' st' sb=>?_
  have I1:Inv X pins σ H { s with heap:=h' }:=I.turned (t':=s.toks) (fun b o hb e=>(sb.2 b hb).trans e) f0 f1 f3 f4 f5
  obtain ⟨o,e,c,d⟩:=id st'
  exact ⟨u,rfl,Zm4 (s:={ s with heap:=h' }) e c d (by decide) ⟨x,H,I1,ru,⟨rfl,fun ys hy=>by rw [I.list_inj hy hq];exact hx⟩,st',fun b hb=>(hf b hb).1⟩⟩
 done:=by
  intro X hP hw hK hc i pins s σ H E I hf st hg
  subst hP hw hK
  obtain ⟨xs,hq,hx⟩:=hg
  obtain ⟨its,rv,p,hz⟩:=I.list hq
  obtain ⟨f0,f1,f2,f3,f4,f5⟩:=hf it (by simp)
  have hl:=rv.length
  exact wpAny_pyNext_list_end (I.ok.hd hc) st p.isList (by simp;omega) fun h' eb=>⟨rfl,I.turned (t':=s.toks) (fun b o hb e=>eb b o hb e) f0 f1 f3 f4 f5⟩
 self:=fun _ _ _ _ _ st h=>wpAny_pyIter_listiter st h
theorem Zj1 {P:Program}{w:World}{K:ZpF}{tg:Expr} (a it:Addr):Turn P w K tg (Itt K a) [it] it (fun i h=>h.IsTupleIter it a i) where
 mem:=by simp
 obj:=fun i h st b hb=>by
  have e:b=it:=by simpa using hb
  subst e
  obtain ⟨o,e,c,d⟩:=st
  exact ⟨o,e,fun v z=>by rw [d] at z;cases z⟩
 keep:=fun i h h' st k=>st.at fun o e=>k it (by simp) o e
 item:=by
  intro X hP hw hK hc i pins s σ H E I hf st hg
  subst hP hw hK
  obtain ⟨xs,x,hq,hx⟩:=hg
  obtain ⟨its,rv,p,hz⟩:=I.tuple hq
  obtain ⟨u,hu,ru⟩:=rv.get hx
  obtain ⟨f0,f1,f2,f3,f4,f5⟩:=hf it (by simp)
  refine wpAny_pyNext_tuple_item st (show s.heap.IsTuple a its.toArray from p) (x:=u) (by simpa using hu) fun h' st' sb=>?_
  have I1:Inv X pins σ H { s with heap:=h' }:=I.turned (t':=s.toks) (fun b o hb e=>(sb.2 b hb).trans e) f0 f1 f3 f4 f5
  obtain ⟨o,e,c,d⟩:=id st'
  exact ⟨u,rfl,Zm4 (s:={ s with heap:=h' }) e c d (by decide) ⟨x,H,I1,ru,⟨rfl,fun ys hy=>by rw [I.tuple_inj hy hq];exact hx⟩,st',fun b hb=>(hf b hb).1⟩⟩
 done:=by
  intro X hP hw hK hc i pins s σ H E I hf st hg
  subst hP hw hK
  obtain ⟨xs,hq,hx⟩:=hg
  obtain ⟨its,rv,p,hz⟩:=I.tuple hq
  obtain ⟨f0,f1,f2,f3,f4,f5⟩:=hf it (by simp)
  have hl:=rv.length
  exact wpAny_pyNext_tuple_end (I.ok.hd hc) st (show s.heap.IsTuple a its.toArray from p) (by simp;omega) fun h' eb=>⟨rfl,I.turned (t':=s.toks) (fun b o hb e=>eb b o hb e) f0 f1 f3 f4 f5⟩
 self:=fun _ _ _ _ _ st h=>wpAny_pyIter_tupleiter st h
theorem Zj2 {P:Program}{w:World}{K:ZpF}{tg:Expr} (it:Addr) (lo:Int) (n:Nat):Turn P w K tg (Itr lo n) [it] it (fun i h=>IsRangeIter h it (lo+(i:Nat) * 1) ((n:Int) - (i:Nat)) 1) where
 mem:=by simp
 obj:=fun i h st b hb=>by
  have e:b=it:=by simpa using hb
  subst e
  exact ⟨_,st,fun v z=>by
   have z':Data.fields _=Data.cell v:=z
   cases z'⟩
 keep:=fun i h h' st k=>k it (by simp) _ st
 item:=by
  intro X hP hw hK hc i pins s σ H E I hf st hg
  subst hP hw hK
  obtain ⟨f0,f1,f2,f3,f4,f5⟩:=hf it (by simp)
  have W:=Walks.range (prog:=X.prog) (w:=X.w) (I.ok.hd hc) it lo 1 n
  refine W.item i s _ _ hg st fun v h' tk hv st' kk=>?_
  obtain ⟨t,rfl⟩:=hv
  have I1:Inv X pins σ H { s with heap:=h',toks:=tk }:=I.turned (fun b o hb e=>kk b o (by simpa using hb) e) f0 f1 f3 f4 f5
  refine ⟨_,rfl,Zm4 (s:={ s with heap:=h',toks:=tk }) (n:="range_iterator") st' rfl rfl (by decide) ⟨.int (lo+i),H,I1,⟨t,?_⟩,⟨rfl,rfl⟩,st',fun b hb=>(hf b hb).1⟩⟩
  rw [Int.mul_one]
 done:=by
  intro X hP hw hK hc i pins s σ H E I hf st hg
  subst hP hw hK
  obtain ⟨f0,f1,f2,f3,f4,f5⟩:=hf it (by simp)
  exact wpAny_pyNext_range_end (I.ok.hd hc) st (by have:n<=i:=hg;omega) fun h' eb=>⟨rfl,I.turned (t':=s.toks) (fun b o hb e=>eb b o hb e) f0 f1 f3 f4 f5⟩
 self:=fun _ _ _ _ _ st h=>wpAny_pyIter_rangeiter st h
section
variable {X:Cx}{tg:Expr}
noncomputable def Zdg (K:ZpF) (tl:TE):TI:=fun σ H R=>tl σ H fun x H1=>∃ a,x=.ref a/\(∃ xs,SqL K H1 a xs)/\R (Itl K a) H1
noncomputable def iTup (K:ZpF) (tl:TE):TI:=fun σ H R=>tl σ H fun x H1=>∃ a,x=.ref a/\(∃ xs,SqT K H1 a xs)/\R (Itt K a) H1
theorem Zb0 {l:Expr}{tl:TE} (hl:PE X l tl):PI X tg l (Zdg X.K tl):=by
 intro pins s σ H R I h
 refine thn (hl pins s σ H _ I h) fun v s1 ⟨x,H1,I1,r1,q1⟩=>?_
 obtain ⟨a,e,⟨xs,hq⟩,q⟩:=q1
 subst e
 cases r1
 obtain ⟨its,rv,p,hz⟩:=I1.list hq
 refine wpAny_pyIter_list p.isList ?_
 refine ⟨s1.heap.objs.size,[s1.heap.objs.size],_,_,H1,rfl,I1.kept (t':=s1.toks) fun b o e=>Heap.get?_push_of_some _ e,ZkF a _,⟨_,Heap.get?_push_size _ rfl,rfl,rfl⟩,fun b hb=>?_,q⟩
 have e:b=s1.heap.objs.size:=by simpa using hb
 subst e
 exact I1.fpOk (ZrN _) (I1.hok.fresh (ZrN _))
theorem pi_tup {l:Expr}{tl:TE} (hl:PE X l tl):PI X tg l (iTup X.K tl):=by
 intro pins s σ H R I h
 refine thn (hl pins s σ H _ I h) fun v s1 ⟨x,H1,I1,r1,q1⟩=>?_
 obtain ⟨a,e,⟨xs,hq⟩,q⟩:=q1
 subst e
 cases r1
 obtain ⟨its,rv,p,hz⟩:=I1.tuple hq
 refine wpAny_pyIter_tuple (show s1.heap.IsTuple a its.toArray from p) ?_
 refine ⟨s1.heap.objs.size,[s1.heap.objs.size],_,_,H1,rfl,I1.kept (t':=s1.toks) fun b o e=>Heap.get?_push_of_some _ e,Zj1 a _,⟨_,Heap.get?_push_size _ rfl,rfl,rfl⟩,fun b hb=>?_,q⟩
 have e:b=s1.heap.objs.size:=by simpa using hb
 subst e
 exact I1.fpOk (ZrN _) (I1.hok.fresh (ZrN _))
theorem ZjD {pins:List (Addr × Obj)}{σ:St}{H:Hp}{s:Shared}{R:It->Hp->Prop}{E:Value->Shared->Prop}{lo hi:Int}{t u v:Tok}{tk:Nat} (I:Inv X pins σ H s) (h1 : -(2 ^ 62)<=lo) (h2:lo<2 ^ 62) (h3 : -(2 ^ 62)<=hi) (h4:hi<2 ^ 62)
  (q:R (Itr lo (hi - lo).toNat) H):wpAny (model X.prog X.w) X.A (pyIter (.ref s.heap.objs.size)) (PIE X pins σ tg R) E { s with heap:=s.heap.push { cls:=.type "range",data:=.fields #[.int lo t,.int hi u,.int 1 v] },toks:=tk }:=by
 refine wpAny_pyIter_range (IsRange.new ..) (small_one h1 h2 h3 h4) ?_
 have I1:Inv X pins σ H { s with heap:=s.heap.push { cls:=.type "range",data:=.fields #[.int lo t,.int hi u,.int 1 v] },toks:=tk }:=I.kept fun b o e=>Heap.get?_push_of_some _ e
 refine ⟨(s.heap.push { cls:=.type "range",data:=.fields #[.int lo t,.int hi u,.int 1 v] }).objs.size,[(s.heap.push { cls:=.type "range",data:=.fields #[.int lo t,.int hi u,.int 1 v] }).objs.size],_,_,H,rfl,
  I1.kept (t':=tk) fun b o e=>Heap.get?_push_of_some _ e,Zj2 _ lo (hi - lo).toNat,?_,fun b hb=>?_,q⟩
 ·have e1:lo+((0:Nat):Int) * 1=lo:=by simp
  have e2:(((hi - lo).toNat:Nat):Int) - ((0:Nat):Int)=Builtin.Range.rangeSize lo hi 1:=by rw [rangeSize_one];split <;> omega
  show IsRangeIter _ _ (lo+((0:Nat):Int) * 1) ((((hi - lo).toNat:Nat):Int) - ((0:Nat):Int)) 1
  rw [e1,e2]
  exact Heap.get?_push_size _ rfl
 ·have e:b=(s.heap.push { cls:=.type "range",data:=.fields #[.int lo t,.int hi u,.int 1 v] }).objs.size:=by simpa using hb
  subst e
  exact I1.fpOk (ZrN _) (I1.hok.fresh (ZrN _))
noncomputable def ZdV (ta:TA):TI:=fun σ H R=>ta σ H fun vs H1=>∃ j:Int,vs=[.int j] /\ -(2 ^ 62)<=j/\j<2 ^ 62/\R (Itr 0 j.toNat) H1
noncomputable def ZlG (ta:TA):TI:=fun σ H R=>ta σ H fun vs H1=>∃ i j:Int,vs=[.int i,.int j]/\(-(2 ^ 62)<=i/\i<2 ^ 62 /\ -(2 ^ 62)<=j/\j<2 ^ 62)/\R (Itr i (j - i).toNat) H1
theorem ZbD {a:Expr}{ta:TA}{p pos:Pos} (hg:Gl X "range") (hm:X.mg "range" = none) (ha:PA X [a] ta) (hs:starEach [a] X.env=[(false,eval a X.env)]:=by rfl):PI X tg (.Call (.Name "range" p) [a] [] pos) (ZdV ta):=by
 intro pins s σ H R I h
 refine Call_ (ZgL I hg hm boot_range (PyProof.Rows.callWith_type1 (thn (ha pos pins s σ H _ I h) fun us s1 ⟨vs,H1,I1,r1,q1⟩=>?_) hs rfl))
 obtain ⟨j,e,q1,q2,q⟩:=q1
 subst e
 cases r1 with
 | cons r rr =>
  cases rr
  obtain ⟨t,rfl⟩:=r
  exact call_range_1 (ZjD I1 (by omega) (by omega) q1 q2 (by simpa using q))
theorem Zh3 {a b:Expr}{ta:TA}{p pos:Pos} (hg:Gl X "range") (hm:X.mg "range" = none) (ha:PA X [a,b] ta) (hs:starEach [a,b] X.env=[(false,eval a X.env),(false,eval b X.env)]:=by rfl) (hs2:starEach [b] X.env=[(false,eval b X.env)]:=by rfl) :
  PI X tg (.Call (.Name "range" p) [a,b] [] pos) (ZlG ta):=by
 intro pins s σ H R I h
 refine Call_ (ZgL I hg hm boot_range (PyProof.Rows.callWith_type1 (thn (ha pos pins s σ H _ I h) fun us s1 ⟨vs,H1,I1,r1,q1⟩=>?_) (by rw [hs,hs2]) (by rw [hs2];rfl)))
 obtain ⟨i,j,e,⟨q1,q2,q3,q4⟩,q⟩:=q1
 subst e
 cases r1 with
 | cons r rr =>
  cases rr with
  | cons r' rr =>
   cases rr
   obtain ⟨t,rfl⟩:=r
   obtain ⟨t',rfl⟩:=r'
   exact call_range_2 (ZjD I1 q1 q2 q3 q4 q)
noncomputable def ZeN (wi:TI) (g:TG) (tb:TS):TS:=fun D σ H=>wi σ H fun J H1=>∃ W:Nat->Nat->St->Hp->Prop,(∃ m,W 0 m σ H1)/\∀ i m σ H,W i m σ H ->
 (J.stop i H/\D.nx σ H)\/(J.go i H/\∃ N:St->Hp->Prop,(∀ σ' H',N σ' H'->∃ m',m'<m/\W (i+1) m' σ' H')/\∀ x H',J.yld i H x H'->g x σ H' fun σ2 H2=>tb { D with nx:=N,ct:=N,bk:=D.nx } σ2 H2)
noncomputable def Zh1 (fp:List Addr) (h:Heap):List (Addr × Obj):=fp.filterMap fun b=>(h.get? b).map fun o=>(b,o)
theorem ZdN {fp:List Addr}{h:Heap}{b:Addr}{o:Obj} (hb:b∈fp) (e:h.get? b=some o):(b,o)∈Zh1 fp h:=List.mem_filterMap.mpr ⟨b,hb,by rw [e];rfl⟩
theorem Zlj {fp:List Addr}{h:Heap}{p:Addr × Obj} (hp:p∈Zh1 fp h):p.1∈fp/\h.get? p.1=some p.2:=by
 obtain ⟨b,hb,e⟩:=List.mem_filterMap.mp hp
 cases q:h.get? b with
 | none=>rw [q] at e;cases e
 | some o =>
  rw [q] at e
  have e':(b,o)=p:=Option.some.inj e
  subst e'
  exact ⟨hb,q⟩
theorem Inv.pinned {pins:List (Addr × Obj)}{σ:St}{H:Hp}{s:Shared}{fp:List Addr} (I:Inv X pins σ H s) (hf:∀ b∈fp,Zkv X pins H b) (ho:∀ b∈fp,∃ o,s.heap.get? b=some o/\∀ v,o.data≠.cell v):Inv X (pins ++ Zh1 fp s.heap) σ H s :=
 I.pins_of fun p hp=>(Zqp.mp hp).elim (fun z=>I.pin p (ZqG _ z)) fun z=>by
  obtain ⟨hb,e⟩:=Zlj z
  obtain ⟨f0,f1,f2,_⟩:=hf p.1 hb
  obtain ⟨o,e',d⟩:=ho p.1 hb
  rw [e] at e';cases e'
  exact ⟨e,f0,f1,f2,d⟩
theorem Inv.unpinned {pins pl:List (Addr × Obj)}{σ:St}{H:Hp}{s:Shared} (I:Inv X (pins ++ pl) σ H s):Inv X pins σ H s:=I.pins_of fun p hp=>I.pin p (ZqG _ (ZqJ _ hp))
theorem ZbW {iter:Expr}{body:List Stmt}{wi:TI}{g:TG}{tb:TS}{pos:Pos} (hp:PassesOwn (model X.prog X.w) X.A X.env X.xe) (hc:X.calm=true) (hi:PI X tg iter wi) (hg:PG X tg g) (hb:PSs X body tb)
  (hs:∀ x,foldedSetIterable iter X.env x=pure x:=by intro _;rfl):PS X (.For tg iter body [] pos) (ZeN wi g tb):=by
 intro pins s σ H D I h
 refine wpAny_For (thn (hi pins s σ H _ I h) fun v s1 h1=>thn h1 fun itv s2 h2=>?_) hs
 obtain ⟨it,fp,tn,J,H2,e,I2,T,st2,f2,W,⟨m0,w0⟩,turn⟩:=h2
 subst e
 -- what stays true of the iterator's objects through the loop
 have stat:∀ {H':Hp},(∀ b∈fp,H' b=none)->∀ b∈fp,Zkv X pins H' b:=fun hn b hb=>⟨hn b hb,(f2 b hb).2⟩
 refine codeAny_forLoop_any (fun n s'=>∃ i σ' H',Inv X pins σ' H' s'/\tn i s'.heap/\(∀ b∈fp,H' b=none)/\W i n σ' H') ?_ m0 ⟨0,σ,H2,I2,st2,fun b hb=>(f2 b hb).1,w0⟩
 rintro n s3 ⟨i,σ3,H3,I3,st3,fr3,w3⟩
 rcases turn i n σ3 H3 w3 with ⟨stop,qn⟩ | ⟨go,N,hN,step⟩
 ·refine wpAny_passesOwn hp (thn (T.done X rfl rfl rfl hc i pins s3 σ3 H3 X.xe I3 (stat fr3) st3 stop) fun r s4 ⟨hr,I4⟩=>?_)
  subst hr
  exact wpAny_execs_nil ⟨σ3,H3,I4,qn⟩
 ·refine wpAny_passesOwn hp (thn (T.item X rfl rfl rfl hc i pins s3 σ3 H3 X.xe I3 (stat fr3) st3 go) fun r s4 ⟨u,hr,h4⟩=>?_)
  subst hr
  refine wpAny_passesOwn hp (thn h4 fun _ s5 ⟨x,H5,I5,r5,y5,st5,fr5⟩=>?_)
  have I5':=I5.pinned (stat fr5) (T.obj _ _ st5)
  refine wpAny_passesOwn hp (thn (hg _ s5 σ3 H5 x u _ I5' r5 (step x H5 y5)) fun _ s6 ⟨σ6,H6,I6,q6⟩=>?_)
  refine wpAny_passesOwn hp (thn (hb _ s6 σ6 H6 _ I6 q6) fun f s7 q7=>?_)
  have again:∀ {σ7:St}{H7:Hp},Inv X (pins ++ Zh1 fp s5.heap) σ7 H7 s7->N σ7 H7->∃ m,m<n/\∃ i σ' H',Inv X pins σ' H' s7/\tn i s7.heap/\(∀ b∈fp,H' b=none)/\W i m σ' H':=fun {σ7 H7} I7 n7=>by
   obtain ⟨m',hm,w7⟩:=hN σ7 H7 n7
   refine ⟨m',hm,i+1,σ7,H7,I7.unpinned,T.keep _ _ _ st5 fun b hb o e=>(I7.pin (b,o) (ZqG _ (ZqG _ (ZdN hb e)))).1,fun b hb=>?_,w7⟩
   obtain ⟨o,e,d⟩:=T.obj _ _ st5 b hb
   exact (I7.pin (b,o) (ZqG _ (ZqG _ (ZdN hb e)))).2.1
  cases f with
  | next=>obtain ⟨σ7,H7,I7,n7⟩:=q7;exact again I7 n7
  | cont=>obtain ⟨σ7,H7,I7,n7⟩:=q7;exact again I7 n7
  | brk=>obtain ⟨σ7,H7,I7,q7⟩:=q7;exact ⟨σ7,H7,I7.unpinned,q7⟩
  | ret v=>obtain ⟨x7,σ7,H7,I7,r7,q7⟩:=q7;exact ⟨x7,σ7,H7,I7.unpinned,r7,q7⟩
end
theorem Zm9 {K:ZpF}{a:Addr}{xs:List V}{g:TG}{tb:TS}{D:Ends}{σ:St}{H:Hp} (Pv:Nat->St->Hp->Prop) (h0:Pv 0 σ H) (hl:∀ i σ H,i<=xs.length->Pv i σ H->SqL K H a xs)
  (hs:∀ i x σ H,xs[i]? = some x->Pv i σ H->g x σ H fun σ2 H2=>tb { D with nx:=Pv (i+1),ct:=Pv (i+1),bk:=D.nx } σ2 H2) (hd:∀ σ H,Pv xs.length σ H->D.nx σ H) :
  ∃ W:Nat->Nat->St->Hp->Prop,(∃ m,W 0 m σ H)/\∀ i m σ H,W i m σ H ->
   ((Itl K a).stop i H/\D.nx σ H)\/((Itl K a).go i H/\∃ N:St->Hp->Prop,(∀ σ' H',N σ' H'->∃ m',m'<m/\W (i+1) m' σ' H')/\∀ x H',(Itl K a).yld i H x H'->g x σ H' fun σ2 H2=>tb { D with nx:=N,ct:=N,bk:=D.nx } σ2 H2):=by
 refine ⟨fun i m σ H=>m=xs.length - i/\i<=xs.length/\Pv i σ H,⟨xs.length,by simp,ZrS _,h0⟩,?_⟩
 rintro i m σ H ⟨rfl,hi,p⟩
 have q:=hl i σ H hi p
 by_cases hlt:i<xs.length
 ·refine .inr ⟨⟨xs,xs[i],q,by simp [hlt]⟩,Pv (i+1),fun σ' H' p'=>⟨xs.length - (i+1),by omega,rfl,hlt,p'⟩,fun x H' y=>?_⟩
  obtain ⟨e,y⟩:=y
  subst e
  exact hs i x σ _ (y xs q) p
 ·have e:i=xs.length:=by omega
  subst e
  exact .inl ⟨⟨xs,q,ZrN _⟩,hd σ H p⟩
theorem Zpf {K:ZpF}{a:Addr}{xs:List V}{g:TG}{tb:TS}{D:Ends}{σ:St}{H:Hp} (Pv:Nat->St->Hp->Prop) (h0:Pv 0 σ H) (hl:∀ i σ H,i<=xs.length->Pv i σ H->SqT K H a xs)
  (hs:∀ i x σ H,xs[i]? = some x->Pv i σ H->g x σ H fun σ2 H2=>tb { D with nx:=Pv (i+1),ct:=Pv (i+1),bk:=D.nx } σ2 H2) (hd:∀ σ H,Pv xs.length σ H->D.nx σ H) :
  ∃ W:Nat->Nat->St->Hp->Prop,(∃ m,W 0 m σ H)/\∀ i m σ H,W i m σ H ->
   ((Itt K a).stop i H/\D.nx σ H)\/((Itt K a).go i H/\∃ N:St->Hp->Prop,(∀ σ' H',N σ' H'->∃ m',m'<m/\W (i+1) m' σ' H')/\∀ x H',(Itt K a).yld i H x H'->g x σ H' fun σ2 H2=>tb { D with nx:=N,ct:=N,bk:=D.nx } σ2 H2):=by
 refine ⟨fun i m σ H=>m=xs.length - i/\i<=xs.length/\Pv i σ H,⟨xs.length,by simp,ZrS _,h0⟩,?_⟩
 rintro i m σ H ⟨rfl,hi,p⟩
 have q:=hl i σ H hi p
 by_cases hlt:i<xs.length
 ·refine .inr ⟨⟨xs,xs[i],q,by simp [hlt]⟩,Pv (i+1),fun σ' H' p'=>⟨xs.length - (i+1),by omega,rfl,hlt,p'⟩,fun x H' y=>?_⟩
  obtain ⟨e,y⟩:=y
  subst e
  exact hs i x σ _ (y xs q) p
 ·have e:i=xs.length:=by omega
  subst e
  exact .inl ⟨⟨xs,q,ZrN _⟩,hd σ H p⟩
theorem ZlL {lo:Int}{n:Nat}{g:TG}{tb:TS}{D:Ends}{σ:St}{H:Hp} (Pv:Nat->St->Hp->Prop) (h0:Pv 0 σ H)
  (hs:∀ i σ H,i<n->Pv i σ H->g (.int (lo+i)) σ H fun σ2 H2=>tb { D with nx:=Pv (i+1),ct:=Pv (i+1),bk:=D.nx } σ2 H2) (hd:∀ σ H,Pv n σ H->D.nx σ H) :
  ∃ W:Nat->Nat->St->Hp->Prop,(∃ m,W 0 m σ H)/\∀ i m σ H,W i m σ H ->
   ((Itr lo n).stop i H/\D.nx σ H)\/((Itr lo n).go i H/\∃ N:St->Hp->Prop,(∀ σ' H',N σ' H'->∃ m',m'<m/\W (i+1) m' σ' H')/\∀ x H',(Itr lo n).yld i H x H'->g x σ H' fun σ2 H2=>tb { D with nx:=N,ct:=N,bk:=D.nx } σ2 H2):=by
 refine ⟨fun i m σ H=>m=n - i/\i<=n/\Pv i σ H,⟨n,by simp,ZrS _,h0⟩,?_⟩
 rintro i m σ H ⟨rfl,hi,p⟩
 by_cases hlt:i<n
 ·refine .inr ⟨hlt,Pv (i+1),fun σ' H' p'=>⟨n - (i+1),by omega,rfl,hlt,p'⟩,fun x H' y=>?_⟩
  obtain ⟨e,y⟩:=y
  subst e y
  exact hs i σ _ hlt p
 ·have e:i=n:=by omega
  subst e
  exact .inl ⟨ZrN _,hd σ H p⟩
noncomputable abbrev R2:=V->V->Hp->VK->Prop
noncomputable def OpR (X:Cx) (f:Value->Value->Sem Value) (r:R2):Prop :=
 ∀ (pins:List (Addr × Obj)) (s:Shared) (σ:St) (H:Hp) (x y:V) (v u:Value) (Q:VK),Inv X pins σ H s->Zbr x v->Zbr y u->r x y H Q ->
  wpAny (model X.prog X.w) X.A (f v u) (EP X pins σ Q) X.xe s
noncomputable def UnR (X:Cx) (f:Value->Sem Value) (r:V->Hp->VK->Prop):Prop :=
 ∀ (pins:List (Addr × Obj)) (s:Shared) (σ:St) (H:Hp) (x:V) (v:Value) (Q:VK),Inv X pins σ H s->Zbr x v->r x H Q ->
  wpAny (model X.prog X.w) X.A (f v) (EP X pins σ Q) X.xe s
noncomputable def Zc9 (X:Cx) (f:Value) (r:List V->Hp->VK->Prop):Prop :=
 ∀ (pins:List (Addr × Obj)) (s:Shared) (σ:St) (H:Hp) (xs:List V) (us:List Value) (Q:VK),Inv X pins σ H s->Vals xs us->r xs H Q ->
  wpAny (model X.prog X.w) X.A (call f us) (EP X pins σ Q) X.xe s
noncomputable def TruR (X:Cx) (r:V->Hp->(Bool->Hp->Prop)->Prop):Prop :=
 ∀ (pins:List (Addr × Obj)) (s:Shared) (σ:St) (H:Hp) (x:V) (v:Value) (Q:Bool->Hp->Prop),Inv X pins σ H s->Zbr x v->r x H Q ->
  wpAny (model X.prog X.w) X.A (truthy v) (TP X pins σ Q) X.xe s
noncomputable def tOp (r:R2) (ta tb:TE):TE:=fun σ H Q=>ta σ H fun x H1=>tb σ H1 fun y H2=>r x y H2 Q
noncomputable def tUn (r:V->Hp->VK->Prop) (ta:TE):TE:=fun σ H Q=>ta σ H fun x H1=>r x H1 Q
noncomputable def rI (C:Int->Int->Prop) (g:Int->Int->V):R2:=fun x y H Q=>∃ i j,x=.int i/\y=.int j/\C i j/\Q (g i j) H
noncomputable def rI0 (g:Int->Int->V):R2:=fun x y H Q=>∃ i j,x=.int i/\y=.int j/\Q (g i j) H
noncomputable def rU (g:Int->V):V->Hp->VK->Prop:=fun x H Q=>∃ i,x=.int i/\Q (g i) H
section
variable {X:Cx}{a b c:Expr}{ta tb tc:TE}{pos:Pos}
theorem binT (ha:PE X a ta) (hb:PE X b tb) {pins:List (Addr × Obj)}{s:Shared}{σ:St}{H:Hp}{R:V->V->Hp->Prop} (I:Inv X pins σ H s)
  (h:ta σ H fun x H1=>tb σ H1 fun y H2=>R x y H2) {Q:Value->Shared->Prop}{f:Value->Value->Sem Value}
  (hf:∀ v u s2 x y H2,Inv X pins σ H2 s2->Zbr x v->Zbr y u->R x y H2->wpAny (model X.prog X.w) X.A (f v u) Q X.xe s2) :
  wpAny (model X.prog X.w) X.A (eval a X.env) (fun v s₁=>wpAny (model X.prog X.w) X.A (eval b X.env) (fun u s₂=>wpAny (model X.prog X.w) X.A (f v u) Q X.xe s₂) X.xe s₁) X.xe s:=by
 refine thn (ha pins s σ H _ I h) fun v s1 ⟨x,H1,I1,r1,q1⟩=>?_
 refine thn (hb pins s1 σ H1 _ I1 q1) fun u s2 ⟨y,H2,I2,r2,q2⟩=>?_
 exact hf v u s2 x y H2 I2 r1 r2 q2
theorem Zam {op:Operator}{r:R2} (ho:OpR X (binaryOp op) r) (ha:PE X a ta) (hb:PE X b tb):PE X (.BinOp a op b pos) (tOp r ta tb):=by
 intro pins s σ H Q I h
 exact wpAny_BinOp (binT ha hb I h fun v u s2 x y H2 I2 rx ry q=>ho pins s2 σ H2 x y v u Q I2 rx ry q)
theorem Zld {op:UnaryOp}{r:V->Hp->VK->Prop} (ho:UnR X (unaryOp op) r) (ha:PE X a ta):PE X (.UnaryOp op a pos) (tUn r ta):=by
 intro pins s σ H Q I h
 exact UnaryOp_ (thn (ha pins s σ H _ I h) fun v s1 ⟨x,H1,I1,r1,q1⟩=>ho pins s1 σ H1 x v Q I1 r1 q1)
theorem opI {f:Value->Value->Sem Value}{C:Int->Int->Prop}{g:Int->Int->Int}
  (rule:∀ (i j:Int) (t u:Tok) (s:Shared) (Q:Value->Shared->Prop) (E:Value->Shared->Prop),C i j->Q (.int (g i j) s.toks) { s with toks:=s.toks+1 }->wpAny (model X.prog X.w) X.A (f (.int i t) (.int j u)) Q E s) :
  OpR X f (rI C fun i j=>.int (g i j)):=by
 intro pins s σ H x y v u Q I rx ry h
 obtain ⟨i,j,rfl,rfl,hc,q⟩:=h
 obtain ⟨t,rfl⟩:=rx
 obtain ⟨t',rfl⟩:=ry
 exact rule i j t t' s _ _ hc ⟨.int (g i j),H,I.tok _,⟨_,rfl⟩,q⟩
theorem opI0 {f:Value->Value->Sem Value}{g:Int->Int->Int}
  (rule:∀ (i j:Int) (t u:Tok) (s:Shared) (Q:Value->Shared->Prop) (E:Value->Shared->Prop),Q (.int (g i j) s.toks) { s with toks:=s.toks+1 }->wpAny (model X.prog X.w) X.A (f (.int i t) (.int j u)) Q E s) :
  OpR X f (rI0 fun i j=>.int (g i j)):=by
 intro pins s σ H x y v u Q I rx ry h
 obtain ⟨i,j,rfl,rfl,q⟩:=h
 obtain ⟨t,rfl⟩:=rx
 obtain ⟨t',rfl⟩:=ry
 exact rule i j t t' s _ _ ⟨.int (g i j),H,I.tok _,⟨_,rfl⟩,q⟩
theorem opB0 {f:Value->Value->Sem Value}{g:Int->Int->Bool}
  (rule:∀ (i j:Int) (t u:Tok) (s:Shared) (Q:Value->Shared->Prop) (E:Value->Shared->Prop),Q (.bool (g i j)) s->wpAny (model X.prog X.w) X.A (f (.int i t) (.int j u)) Q E s) :
  OpR X f (rI0 fun i j=>.bl (g i j)):=by
 intro pins s σ H x y v u Q I rx ry h
 obtain ⟨i,j,rfl,rfl,q⟩:=h
 obtain ⟨t,rfl⟩:=rx
 obtain ⟨t',rfl⟩:=ry
 exact rule i j t t' s _ _ ⟨.bl (g i j),H,I,rfl,q⟩
noncomputable def ZdR (i j:Int):Prop:=0<j/\j<1073741824
noncomputable def CMul (i j:Int):Prop:=(-(2 ^ 64)<i/\i<2 ^ 64)\/(-(2 ^ 64)<j/\j<2 ^ 64)
theorem CMul.ok {i j:Int} (h:CMul i j):IntMulOk i j:=by
 rcases h with ⟨h1,h2⟩ | ⟨h1,h2⟩
 ·exact .of_left (intBits_le_64 h1 h2)
 ·exact .of_right (intBits_le_64 h1 h2)
theorem op_add:OpR X (binaryOp .Add) (rI0 fun i j=>.int (i+j)):=opI0 fun _ _ _ _ _ _ _ q=>add_int q
theorem op_sub:OpR X (binaryOp .Sub) (rI0 fun i j=>.int (i - j)):=opI0 fun _ _ _ _ _ _ _ q=>sub_int q
theorem op_mul:OpR X (binaryOp .Mult) (rI CMul fun i j=>.int (i * j)):=opI fun _ _ _ _ _ _ _ hc q=>mul_int q hc.ok
theorem Zou:OpR X (binaryOp .FloorDiv) (rI ZdR fun i j=>.int (i / j)):=opI fun i j _ _ _ _ _ hc q=>by
 have h1:(0:Int)<j:=hc.1
 have h2:j<1073741824:=hc.2
 exact floordiv_int (by omega) (by rw [Int.fdiv_eq_ediv_of_nonneg i (by omega)];exact q) (.inl (PyProof.noPylong_small (by omega)))
theorem op_mod:OpR X (binaryOp .Mod) (rI (fun _ j=>0<j) fun i j=>.int (i % j)):=opI fun i j _ _ _ _ _ hc q=>by
 have h1:(0:Int)<j:=hc
 exact mod_int' (by omega) (by rw [Int.fmod_eq_emod_of_nonneg i (by omega)];exact q)
theorem op_xor:OpR X (binaryOp .BitXor) (rI0 fun i j=>.int (Builtin.bitXor i j)):=opI0 fun _ _ _ _ _ _ _ q=>xor_int q
theorem unI {f:Value->Sem Value}{g:Int->Int}
  (rule:∀ (i:Int) (t:Tok) (s:Shared) (Q:Value->Shared->Prop) (E:Value->Shared->Prop),Q (.int (g i) s.toks) { s with toks:=s.toks+1 }->wpAny (model X.prog X.w) X.A (f (.int i t)) Q E s) :
  UnR X f (rU fun i=>.int (g i)):=by
 intro pins s σ H x v Q I rx h
 obtain ⟨i,rfl,q⟩:=h
 obtain ⟨t,rfl⟩:=rx
 exact rule i t s _ _ ⟨.int (g i),H,I.tok _,⟨_,rfl⟩,q⟩
theorem un_neg:UnR X (unaryOp .USub) (rU fun i=>.int (-i)):=unI fun _ _ _ _ _ q=>neg_int q
end
noncomputable def scal:V->V->Bool
 | .non,.non=>true | .non,.int _=>true | .int _,.non=>true | .non,.bl _=>true | .bl _,.non=>true | .non,.str _=>true | .str _,.non=>true
 | .int _,.int _=>true | .bl _,.bl _=>true | .str _,.str _=>true | .byt _,.byt _=>true
 | .int _,.str _=>true | .str _,.int _=>true | .bl _,.str _=>true | .str _,.bl _=>true
 | _,_=>false
noncomputable def rEq:R2:=fun x y H Q=>scal x y=true/\Q (.bl (decide (x=y))) H
noncomputable def rNe:R2:=fun x y H Q=>scal x y=true/\Q (.bl (!decide (x=y))) H
theorem ZlY {i j:Int}:decide (V.int i=V.int j)=(i == j):=by
 rw [Zst]
 simp
theorem ZnS {i j:Bool}:decide (V.bl i=V.bl j)=(i == j):=by
 rw [Zst]
 simp
theorem ZlX {i j:Str}:decide (V.str i=V.str j)=(i == j):=by
 rw [Zst]
 simp
theorem ZlZ {i j:Array UInt8}:decide (V.byt i=V.byt j)=(i.toList == j.toList):=by
 rw [Zst]
 cases i
 cases j
 simp
section
variable {X:Cx}{a b c:Expr}{ta tb tc:TE}{pos:Pos}
theorem Za6 {pins:List (Addr × Obj)}{σ:St}{H:Hp}{s:Shared}{Q:VK}{k k':Bool} (I:Inv X pins σ H s) (q:Q (.bl k) H) (e:k=k'):EP X pins σ Q (.bool k') s:=by
 subst e
 exact ⟨.bl k,H,I,rfl,q⟩
theorem op_eq:OpR X (compareOp .Eq) rEq:=by
 intro pins s σ H x y v u Q I rx ry h
 obtain ⟨hs,q⟩:=h
 cases x with
 | non =>
  cases rx
  cases y with
  | non=>cases ry;exact PySem.EqNone.eq_none_none (Za6 I q (by simp))
  | bl j=>cases ry;exact PySem.EqNone.eq_none_bool (Za6 I q (by simp))
  | int j=>obtain ⟨t',rfl⟩:=ry;exact PySem.EqNone.eq_none_int (Za6 I q (by simp))
  | str j=>obtain ⟨t',rfl⟩:=ry;exact PySem.EqNone.eq_none_str (Za6 I q (by simp))
  | _=>exact absurd (show false=true from hs) Zsq
 | bl i =>
  cases rx
  cases y with
  | non=>cases ry;exact PySem.EqNone.eq_bool_none (Za6 I q (by simp))
  | bl j=>cases ry;exact eq_bool (Za6 I q ZnS)
  | str j=>obtain ⟨t',rfl⟩:=ry;exact PySem.EqMixed.eq_bool_str (Za6 I q (by simp))
  | _=>exact absurd (show false=true from hs) Zsq
 | int i =>
  obtain ⟨t,rfl⟩:=rx
  cases y with
  | non=>cases ry;exact PySem.EqNone.eq_int_none (Za6 I q (by simp))
  | int j=>obtain ⟨t',rfl⟩:=ry;exact eq_int (Za6 I q ZlY)
  | str j=>obtain ⟨t',rfl⟩:=ry;exact PySem.EqMixed.eq_int_str (Za6 I q (by simp))
  | _=>exact absurd (show false=true from hs) Zsq
 | str i =>
  obtain ⟨t,rfl⟩:=rx
  cases y with
  | non=>cases ry;exact PySem.EqNone.eq_str_none (Za6 I q (by simp))
  | bl j=>cases ry;exact PySem.EqMixed.eq_str_bool (Za6 I q (by simp))
  | int j=>obtain ⟨t',rfl⟩:=ry;exact PySem.EqMixed.eq_str_int (Za6 I q (by simp))
  | str j=>obtain ⟨t',rfl⟩:=ry;exact eq_str (Za6 I q ZlX)
  | _=>exact absurd (show false=true from hs) Zsq
 | byt i =>
  obtain ⟨t,rfl⟩:=rx
  cases y with
  | byt j=>obtain ⟨t',rfl⟩:=ry;exact PySem.W.eq_bytes (Za6 I q ZlZ)
  | _=>exact absurd (show false=true from hs) Zsq
 | _=>cases y <;> exact absurd (show false=true from hs) Zsq
theorem op_ne:OpR X (compareOp .NotEq) rNe:=by
 intro pins s σ H x y v u Q I rx ry h
 obtain ⟨hs,q⟩:=h
 cases x with
 | non =>
  cases rx
  cases y with
  | non=>cases ry;exact PySem.EqNone.ne_none_none (Za6 I q (by simp))
  | bl j=>cases ry;exact PySem.EqNone.ne_none_bool (Za6 I q (by simp))
  | int j=>obtain ⟨t',rfl⟩:=ry;exact PySem.EqNone.ne_none_int (Za6 I q (by simp))
  | str j=>obtain ⟨t',rfl⟩:=ry;exact PySem.EqNone.ne_none_str (Za6 I q (by simp))
  | _=>exact absurd (show false=true from hs) Zsq
 | bl i =>
  cases rx
  cases y with
  | non=>cases ry;exact PySem.EqNone.ne_bool_none (Za6 I q (by simp))
  | bl j=>cases ry;exact ne_bool (Za6 I q (congrArg not ZnS))
  | str j=>obtain ⟨t',rfl⟩:=ry;exact PySem.EqMixed.ne_bool_str (Za6 I q (by simp))
  | _=>exact absurd (show false=true from hs) Zsq
 | int i =>
  obtain ⟨t,rfl⟩:=rx
  cases y with
  | non=>cases ry;exact PySem.EqNone.ne_int_none (Za6 I q (by simp))
  | int j=>obtain ⟨t',rfl⟩:=ry;exact ne_int (Za6 I q (congrArg not ZlY))
  | str j=>obtain ⟨t',rfl⟩:=ry;exact PySem.EqMixed.ne_int_str (Za6 I q (by simp))
  | _=>exact absurd (show false=true from hs) Zsq
 | str i =>
  obtain ⟨t,rfl⟩:=rx
  cases y with
  | non=>cases ry;exact PySem.EqNone.ne_str_none (Za6 I q (by simp))
  | bl j=>cases ry;exact PySem.EqMixed.ne_str_bool (Za6 I q (by simp))
  | int j=>obtain ⟨t',rfl⟩:=ry;exact PySem.EqMixed.ne_str_int (Za6 I q (by simp))
  | str j=>obtain ⟨t',rfl⟩:=ry;exact ne_str (Za6 I q (congrArg not ZlX))
  | _=>exact absurd (show false=true from hs) Zsq
 | byt i =>
  obtain ⟨t,rfl⟩:=rx
  cases y with
  | byt j=>obtain ⟨t',rfl⟩:=ry;exact PySem.W.ne_bytes (Za6 I q (congrArg not ZlZ))
  | _=>exact absurd (show false=true from hs) Zsq
 | _=>cases y <;> exact absurd (show false=true from hs) Zsq
theorem op_lt:OpR X (compareOp .Lt) (rI0 fun i j=>.bl (decide (i<j))):=opB0 fun _ _ _ _ _ _ _ q=>lt_int q
theorem op_le:OpR X (compareOp .LtE) (rI0 fun i j=>.bl (decide (i<=j))):=opB0 fun _ _ _ _ _ _ _ q=>le_int q
theorem op_gt:OpR X (compareOp .Gt) (rI0 fun i j=>.bl (decide (j<i))):=opB0 fun _ _ _ _ _ _ _ q=>gt_int q
theorem op_ge:OpR X (compareOp .GtE) (rI0 fun i j=>.bl (decide (j<=i))):=opB0 fun _ _ _ _ _ _ _ q=>ge_int q
theorem op_isN:OpR X (compareOp .Is) (fun x y H Q=>y=.non/\Q (.bl (decide (x=.non))) H):=by
 intro pins s σ H x y v u Q I rx ry h
 obtain ⟨rfl,q⟩:=h
 cases ry
 refine is_none_gen (Za6 I q ?_)
 cases x <;> first
  | (cases rx;rfl)
  | (obtain ⟨t,rfl⟩:=rx;rfl)
theorem Zot:OpR X (compareOp .IsNot) (fun x y H Q=>y=.non/\Q (.bl (!decide (x=.non))) H):=by
 intro pins s σ H x y v u Q I rx ry h
 obtain ⟨rfl,q⟩:=h
 cases ry
 refine isnot_none_gen (Za6 I q ?_)
 cases x <;> first
  | (cases rx;rfl)
  | (obtain ⟨t,rfl⟩:=rx;rfl)
theorem Zau (b:Expr) {op:CmpOp} (h:op≠.In:=by decide) (h2:op≠.NotIn:=by decide):behindInMarks op b=false:=by
 have e1:(op == CmpOp.In)=false:=by cases op <;> first | rfl | exact absurd rfl h
 have e2:(op == CmpOp.NotIn)=false:=by cases op <;> first | rfl | exact absurd rfl h2
 cases b <;> simp [behindInMarks,e1,e2]
theorem ZeY {op:CmpOp}{r:R2} (ho:OpR X (compareOp op) r) (ha:PE X a ta) (hb:PE X b tb) (hm:behindInMarks op b=false):PE X (.Compare a [op] [b] pos) (tOp r ta tb):=by
 intro pins s σ H Q I h
 exact wpAny_Compare1 (binT ha hb I h fun v u s2 x y H2 I2 rx ry q=>ho pins s2 σ H2 x y v u Q I2 rx ry q) hm
noncomputable def Zmt (t:TE):TT:=fun σ H Q=>t σ H fun x H'=>∃ k,x=.bl k/\Q k H'
theorem Zon {op:CmpOp}{r:R2} (ho:OpR X (compareOp op) r) (ha:PE X a ta) (hb:PE X b tb) (hm:behindInMarks op b=false):PT X (.Compare a [op] [b] pos) (Zmt (tOp r ta tb)):=by
 intro pins s σ H Q I h
 refine wpAny_isTrue_Compare1 (thn (ha pins s σ H _ I h) fun v s1 ⟨x,H1,I1,r1,q1⟩=>thn (hb pins s1 σ H1 _ I1 q1) fun u s2 ⟨y,H2,I2,r2,q2⟩ =>
  thn (ho pins s2 σ H2 x y v u _ I2 r1 r2 q2) fun c s3 ⟨z,H3,I3,r3,k,e,q3⟩=>?_) hm
 subst e
 cases r3
 exact wpAny_truthy_bool ⟨H3,I3,q3⟩
noncomputable def Zjx (r r':R2) (ta tb tc:TE):TE:=fun σ H Q=>ta σ H fun x H1=>tb σ H1 fun y H2=>r x y H2 fun z H3=>∃ k,z=.bl k /\
 (if k=true then tc σ H3 fun w' H4=>r' y w' H4 Q else Q (.bl false) H3)
theorem ZmK {op op':CmpOp}{r r':R2} (ho:OpR X (compareOp op) r) (ho':OpR X (compareOp op') r') (ha:PE X a ta) (hb:PE X b tb) (hc:PE X c tc)
  (hm:lastMarks [op,op'] [b,c]=false:=by with_unfolding_all rfl):PE X (.Compare a [op,op'] [b,c] pos) (Zjx r r' ta tb tc):=by
 intro pins s σ H Q I h
 refine Compare_chain (thn (ha pins s σ H _ I h) fun v s1 ⟨x,H1,I1,r1,q1⟩=>chain_link (thn (hb pins s1 σ H1 _ I1 q1) fun u s2 ⟨y,H2,I2,r2,q2⟩ =>
  thn (ho pins s2 σ H2 x y v u _ I2 r1 r2 q2) fun d s3 ⟨z,H3,I3,r3,k,e,q3⟩=>?_)) hm
 subst e
 cases r3
 refine wpAny_truthy_bool ?_
 cases k with
 | false=>exact ite_ff ⟨.bl false,H3,I3,rfl,q3⟩
 | true=>exact ite_tt (chain_last (thn (hc pins s3 σ H3 _ I3 q3) fun w' s4 ⟨z',H4,I4,r4,q4⟩=>ho' pins s4 σ H4 y z' u w' Q I4 r2 r4 q4))
theorem ZmG {op op':CmpOp}{r r':R2} (ho:OpR X (compareOp op) r) (ho':OpR X (compareOp op') r') (ha:PE X a ta) (hb:PE X b tb) (hc:PE X c tc)
  (hm:lastMarks [op,op'] [b,c]=false:=by with_unfolding_all rfl):PT X (.Compare a [op,op'] [b,c] pos) (Zmt (Zjx r r' ta tb tc)):=by
 intro pins s σ H Q I h
 refine isTrue_chain (thn (ha pins s σ H _ I h) fun v s1 ⟨x,H1,I1,r1,q1⟩=>test_link (thn (hb pins s1 σ H1 _ I1 q1) fun u s2 ⟨y,H2,I2,r2,q2⟩ =>
  thn (ho pins s2 σ H2 x y v u _ I2 r1 r2 q2) fun d s3 ⟨z,H3,I3,r3,k,e,q3⟩=>?_)) hm
 subst e
 cases r3
 refine wpAny_truthy_bool ?_
 cases k with
 | false =>
  obtain ⟨k',e',q'⟩:=q3
  cases e'
  exact ite_ff ⟨H3,I3,q'⟩
 | true =>
  refine ite_tt (test_last (thn (hc pins s3 σ H3 _ I3 q3) fun w' s4 ⟨z',H4,I4,r4,q4⟩=>thn (ho' pins s4 σ H4 y z' u w' _ I4 r2 r4 q4) fun d' s5 ⟨z2,H5,I5,r5,k2,e2,q5⟩=>?_))
  subst e2
  cases r5
  exact wpAny_truthy_bool ⟨H5,I5,q5⟩
noncomputable def TruV (K:ZpF) (x:V) (H:Hp) (k:Bool):Prop :=
 match x with
 | .non=>k=false
 | .bl b=>k=b
 | .int i=>k=(i != 0)
 | .str y=>y.length<=sizeLine/\k=((y.length:Int) != 0)
 | .byt y=>y.size<=sizeLine/\k=((y.size:Int) != 0)
 | .ref p=>(∃ xs,SqL K H p xs/\k = !xs.isEmpty)\/(∃ xs,SqT K H p xs/\k = !xs.isEmpty)\/∃ kvs,H p=some (.dK kvs)/\k = !kvs.isEmpty
 | _=>False
theorem Zkn {κ:Type}{kvs:List (κ × V)}{vs:List (κ × Value)} (r:KV kvs vs):(!vs.isEmpty) = !kvs.isEmpty:=by
 cases r <;> rfl
theorem ZgM {xs:List V}{its:List Value} (r:Vals xs its):(!its.toArray.isEmpty) = !xs.isEmpty:=by
 cases r <;> simp
theorem Zf8:(sizeLine:Nat)<2 ^ 63:=by rw [sizeLine_eq];decide
theorem tru_ok:TruR X (fun x H Q=>∃ k,TruV X.K x H k/\Q k H):=by
 intro pins s σ H x v Q I rx h
 obtain ⟨k,e,q⟩:=h
 have hl:=Zf8
 have hs:sizeLine=16777216:=sizeLine_eq
 cases x with
 | non =>
  cases rx
  have e':k=false:=e
  subst e'
  exact truthy_none ⟨H,I,q⟩
 | bl b =>
  cases rx
  have e':k=b:=e
  subst e'
  exact wpAny_truthy_bool ⟨H,I,q⟩
 | int i =>
  obtain ⟨t,rfl⟩:=rx
  have e':k=(i != 0):=e
  subst e'
  exact PySem.P.truthy_int ⟨H,I,q⟩
 | str y =>
  obtain ⟨t,rfl⟩:=rx
  obtain ⟨hy,e'⟩:y.length<=sizeLine/\k=((y.length:Int) != 0):=e
  subst e'
  exact PySem.P.truthy_str (by omega) ⟨H,I.tok _,q⟩
 | byt y =>
  obtain ⟨t,rfl⟩:=rx
  obtain ⟨hy,e'⟩:y.size<=sizeLine/\k=((y.size:Int) != 0):=e
  subst e'
  exact PySem.W.truthy_bytes (by omega) ⟨H,I.tok _,q⟩
 | ref p =>
  cases rx
  have e':(∃ xs,SqL X.K H p xs/\k = !xs.isEmpty)\/(∃ xs,SqT X.K H p xs/\k = !xs.isEmpty)\/∃ kvs,H p=some (.dK kvs)/\k = !kvs.isEmpty:=e
  rcases e' with ⟨xs,hx,e'⟩ | ⟨xs,hx,e'⟩ | ⟨kvs,hx,e'⟩
  ·subst e'
   obtain ⟨its,r,pl,hz⟩:=I.list hx
   have hlen:=r.length
   exact wpAny_truthy_list pl.isList (by simp only [Zqu];omega) ⟨H,I.tok _,by rw [ZgM r];exact q⟩
  ·subst e'
   obtain ⟨its,r,pl,hz⟩:=I.tuple hx
   have hlen:=r.length
   exact truthy_tuple pl (by simp only [Zqu];omega) ⟨H,I.tok _,by rw [ZgM r];exact q⟩
  ·subst e'
   obtain ⟨hz,hS,vs,r,m⟩:kvs.length<=sizeLine/\(p == sysModules)=false/\∃ vs,KV kvs vs/\s.heap.DictOf (Zbo X.prog X.w) p vs:=I.hok p _ hx
   have hlen:kvs.length=vs.length:=Paired.length r
   exact wpAny_truthy_dict hS m (by omega) ⟨H,I.tok _,by rw [Zkn r];exact q⟩
 | _=>exact (show False from e).elim
theorem ZmF (ha:PE X a ta) (he:∀ whole,isTrue a X.env whole=(do let v <- whole;standAt a.pos;holding [v] (truthy v))) :
  PT X a (fun σ H Q=>ta σ H fun x H'=>∃ k,TruV X.K x H' k/\Q k H'):=by
 intro pins s σ H Q I h
 exact isTrue_plain (thn (ha pins s σ H _ I h) fun v s1 ⟨x,H1,I1,r1,q1⟩=>tru_ok pins s1 σ H1 x v Q I1 r1 q1) (he _)
theorem Zkf:OpR X (binaryOp .Add) (fun x y H Q=>∃ i j,x=.str i/\y=.str j/\i.length+j.length<=sizeLine/\Q (.str (i ++ j)) H):=by
 intro pins s σ H x y v u Q I rx ry h
 obtain ⟨i,j,rfl,rfl,hz,q⟩:=h
 obtain ⟨t,rfl⟩:=rx
 obtain ⟨t',rfl⟩:=ry
 exact add_str (fun t' tk=>⟨.str (i ++ j),H,I.tok _,⟨_,rfl⟩,q⟩) hz
theorem Zgt {x:V}{us:List Value} (r:Vals [x] us):∃ u,us=[u]/\Zbr x u:=by
 cases r with
 | cons r1 r2=>cases r2;exact ⟨_,rfl,r1⟩
theorem Zmq {x y:V}{us:List Value} (r:Vals [x,y] us):∃ u w',us=[u,w']/\Zbr x u/\Zbr y w':=by
 cases r with
 | cons r1 r2 =>
  cases r2 with
  | cons r3 r4=>cases r4;exact ⟨_,_,rfl,r1,r3⟩
theorem Zl9 (hc:X.calm=true):Zc9 X (.builtin "max") (fun xs H Q=>∃ i j,xs=[.int i,.int j]/\Q (.int (if j > i then j else i)) H):=by
 intro pins s σ H xs us Q I r h
 obtain ⟨i,j,rfl,q⟩:=h
 obtain ⟨u,w',rfl,⟨t,rfl⟩,⟨t',rfl⟩⟩:=Zmq r
 refine max_two_ints (I.ok.hd hc) fun h' tk k=>⟨_,H,I.kept k,?_,q⟩
 by_cases hj:j > i
 ·rw [if_pos hj,if_pos hj];exact ⟨_,rfl⟩
 ·rw [if_neg hj,if_neg hj];exact ⟨_,rfl⟩
theorem Zl8 (hc:X.calm=true):Zc9 X (.builtin "min") (fun xs H Q=>∃ i j,xs=[.int i,.int j]/\Q (.int (if j<i then j else i)) H):=by
 intro pins s σ H xs us Q I r h
 obtain ⟨i,j,rfl,q⟩:=h
 obtain ⟨u,w',rfl,⟨t,rfl⟩,⟨t',rfl⟩⟩:=Zmq r
 refine min_two_ints (I.ok.hd hc) fun h' tk k=>⟨_,H,I.kept k,?_,q⟩
 by_cases hj:j<i
 ·rw [if_pos hj,if_pos hj];exact ⟨_,rfl⟩
 ·rw [if_neg hj,if_neg hj];exact ⟨_,rfl⟩
theorem Zis:Zc9 X (.type "int") (fun xs H Q=>(∃ i,xs=[.int i]/\Q (.int i) H)\/∃ k,xs=[.bl k]/\Q (.int (if k then 1 else 0)) H):=by
 intro pins s σ H xs us Q I r h
 rcases h with ⟨i,rfl,q⟩ | ⟨k,rfl,q⟩
 ·obtain ⟨u,rfl,t,rfl⟩:=Zgt r
  exact call_int_int ⟨.int i,H,I,⟨_,rfl⟩,q⟩
 ·obtain ⟨u,rfl,r1⟩:=Zgt r
  cases r1
  exact call_int_bool ⟨.int (if k then 1 else 0),H,I.tok _,⟨_,rfl⟩,q⟩
end
structure ObjM (h:Heap) (x dx C:Addr) (mA:Str->Option Value):Prop where
 obj:h.get? x=some (ZpS C dx)
 ns:h.Ns1 dx mA
 ne:dx≠x
theorem Zlv {h:Heap}{dx:Addr}{mA:Str->Option Value} (n:h.Ns1 dx mA):∃ od,h.get? dx=some od/\∀ name,ZpW name od=some (mA name):=by
 obtain ⟨o,es,ep,ho,hd,hk,_,hm⟩:=n
 refine ⟨o,ho,fun name=>?_⟩
 have e:=hm name
 unfold nsFind findBy at e
 rw [<- Array.find?_toList] at e
 unfold ZpW
 rw [hd]
 dsimp only
 split
 ·rename_i y q
  rw [q] at e
  exact congrArg some e
 ·rename_i q
  rw [q] at e
  have a:es.toList.any (·.refKey)=false:=by
   rw [List.any_eq_false]
   intro y hy
   obtain ⟨z,t,hkey⟩:=hk y (Array.mem_toList_iff.mp hy)
   simp [DictEntry.refKey,hkey]
  have a':¬ es.toList.any (·.refKey)=true:=by rw [a];exact Zsq
  rw [if_neg a']
  exact congrArg some e
theorem ObjM.look {h:Heap}{x dx C:Addr}{mA:Str->Option Value} (I:ObjM h x dx C mA):∃ od,PySem.W.InstAt h x (ZpS C dx) C (some od)/\∀ name,ZpW name od=some (mA name) :=
 let ⟨od,ho,hl⟩:=Zlv I.ns
 ⟨od,⟨I.obj,rfl,rfl,ho⟩,hl⟩
section
variable {prog:Program}{w:World}{A:Around}{E:Value->Shared->Prop}{s:Shared}{K:ZpF}{x dx C f:Addr}{mA:Str->Option Value}{name:Str}{v:Value}
theorem Zpd {expr:Bool}{Q:Value->Shared->Prop} (X:K.In s.heap) (I:ObjM s.heap x dx C mA) (hg:ZpU K C name=true) (hh:ZpV K C=true)
  (ha:ZpL K (.ref C) name=some none) (hv:mA name=some v) (hv':PySem.W.handedIn v=true) (h:Q v { s with toks:=s.toks+1 }) :
  wpAny (model prog w) A (getAttr (.ref x) name expr) Q E s:=by
 obtain ⟨od,J,hl⟩:=I.look
 exact PySem.W.get_value X J (Zp0 hg).1 (PySem.W.findObj_own hh ha rfl (by rw [hl,hv])) hv' h
theorem Zm5 {pl:Sem Bool}{Q:Value × List Value->Shared->Prop} (X:K.In s.heap) (I:ObjM s.heap x dx C mA) (hg:ZpU K C name=true)
  (hf:ZpL K (.ref C) name=some (some (.ref f))) (ht:ZpM K (.ref f)=true) (hv:mA name=none) (h:Q (.ref f,[.ref x]) s) :
  wpAny (model prog w) A (getMethod (.ref x) name pl) Q E s:=by
 obtain ⟨od,J,hl⟩:=I.look
 exact PySem.W.method_fn X J (Zp0 hg).1 (Zp0 hg).2 hf (beq_iff_eq.mp ht) (by show (ZpW name od).map (·.isSome)=some false;rw [hl,hv];rfl) h
theorem Zoe {ns:List Str}{Q:Unit->Shared->Prop} (X:K.In s.heap) (I:ObjM s.heap x dx C mA)
  (hs:ZpL K (.ref C) "__setattr__" = some (some (.builtin "object.__setattr__"))) (hp:ZpX K C=true) (ht:Zp1 K C name=some none) (hh:ZpV K C=true)
  (hw:PySem.Within mA ns) (hsz:ns.length<=sizeLine)
  (h:∀ h',ObjM h' x dx C (fun y=>if y=name then some v else mA y)->Heap.SameBut dx s.heap h'->Q () { s with heap:=h',toks:=s.toks+2 }) :
  wpAny (model prog w) A (setAttr (.ref x) name v) Q E s:=by
 obtain ⟨od,J,hl⟩:=I.look
 refine PySem.W.set_plain X J hs (PySem.W.osa_open (s:={ s with toks:=s.toks+1 }) (r:=none) X J hp ht fun b=>?_)
 obtain ⟨cd,hc,hd'⟩:=PySem.W.any_some hh
 have hx:s.heap.get? x=some ⟨.ref C,some dx,.plain,#[]⟩:=I.obj
 refine wpAny_bind (wpAny_pure (wpAny_bind (wpAny_bind (wpAny_loadPart hx (wpAny_bind (PySem.W.Looks.here (s:={ s with toks:=s.toks+1 }) (PySem.W.looks_clsIn X hc) ?_))))))
 rw [hd']
 refine wpAny_pure (a:=some dx) (wpAny_bind (wpAny_pure (wpAny_bind ?_)))
 refine wpAny_nsSet1 (s:={ s with toks:=s.toks+1 }) I.ns fun h' hn2 hs2=>?_
 obtain ⟨oD,esD,epD,hoD,hdD,hcD⟩:=hn2.count (PySem.Within.cons name v hw)
 refine wpAny_bind (wpAny_lookBehind hoD (by rw [hdD];exact pastItsLine_dict (ZrR hcD (by rw [ZqA];omega))) ?_)
 exact wpAny_pure (h _ ⟨(hs2.2 _ (Ne.symm I.ne)).trans I.obj,hn2,I.ne⟩ hs2)
theorem ZmT {R:Result->Shared->Prop}{vs:List Value}{kw:List (Str × Value)} (X:K.In s.heap) (hm:ZpY K C=true)
  (hi:ZpL K (.ref C) "__init__" = some (some (.ref f))) (hf:PySem.W.typeIn K (.ref f)=some (.type "function"))
  (h:codeAny (model prog w) (A.under (.builtin "type.__call__" ⟨.ref C :: vs,kw⟩)) (.call (.ref f) ⟨.ref (s.heap.objs.size+1) :: vs,kw⟩) (PySem.W.InitBack (s.heap.objs.size+1) R)
   { s with heap:=(s.heap.push ZpP).push (ZpS C s.heap.objs.size) }) :
  codeAny (model prog w) A (.call (.ref C) ⟨vs,kw⟩) R s:=by
 obtain ⟨hh,g,d,t,os⟩:=s
 exact PySem.W.make_core (PySem.W.makes_of X hm) (PySem.W.looks_findIn X hi) (fun self=>PySem.W.bind_fn X self hf) (.inl rfl) h
end
noncomputable def Zd3 (f:Str) (v:V):List (Str × V)->List (Str × V)
 | []=>[(f,v)]
 | (g,x) :: r=>if g=f then (g,v) :: r else (g,x) :: Zd3 f v r
theorem Zf7 (f g:Str) (v:V):∀ fs:List (Str × V),(Zd3 f v fs).lookup g=if g=f then some v else fs.lookup g
 | []=>by
  show Zq1 g [(f,v)]=_
  by_cases h:g=f
  ·have hb:(g == f)=true:=beq_iff_eq.mpr h
   simp only [Zq1,hb,if_pos h]
  ·have hb:(g == f)=false:=beq_eq_false_iff_ne.mpr h
   simp only [Zq1,hb,if_neg h]
 | (k,x) :: r=>by
  have ih:=Zf7 f g v r
  rw [show Zd3 f v ((k,x) :: r)=(if k=f then (k,v) :: r else (k,x) :: Zd3 f v r) from rfl]
  by_cases hk:k=f
  ·rw [if_pos hk]
   by_cases h:g=k
   ·have hb:(g == k)=true:=beq_iff_eq.mpr h
    simp only [Zq1,hb,if_pos (h.trans hk)]
   ·have hb:(g == k)=false:=beq_eq_false_iff_ne.mpr h
    simp only [Zq1,hb,if_neg (fun e:g=f=>h (e.trans hk.symm))]
  ·rw [if_neg hk]
   by_cases h:g=k
   ·have hb:(g == k)=true:=beq_iff_eq.mpr h
    simp only [Zq1,hb,if_neg (fun e:g=f=>hk (h.symm.trans e))]
   ·have hb:(g == k)=false:=beq_eq_false_iff_ne.mpr h
    simp only [Zq1,hb]
    exact ih
theorem Zgb (f:Str) (v:V):∀ fs:List (Str × V),f∈(Zd3 f v fs).map (·.1)/\∀ g,g∈fs.map (·.1)->g∈(Zd3 f v fs).map (·.1)
 | []=>⟨by simp [Zd3],fun g h=>by simp at h⟩
 | (k,x) :: r=>by
  obtain ⟨i1,i2⟩:=Zgb f v r
  rw [show Zd3 f v ((k,x) :: r)=(if k=f then (k,v) :: r else (k,x) :: Zd3 f v r) from rfl]
  by_cases hk:k=f
  ·rw [if_pos hk]
   subst hk
   exact ⟨by simp,fun g h=>by simpa using h⟩
  ·rw [if_neg hk]
   refine ⟨?_,fun g h=>?_⟩
   ·rw [ZqB]
    exact ZqI _ i1
   ·rw [ZqB] at h ⊢
    rcases Zqt.mp h with e | e
    ·exact Zqt.mpr (.inl e)
    ·exact ZqI _ (i2 g e)
theorem ZbF (f:Str) (v:V):∀ fs:List (Str × V),(Zd3 f v fs).length<=fs.length+1
 | []=>by simp [Zd3]
 | (k,x) :: r=>by
  have ih:=ZbF f v r
  rw [show Zd3 f v ((k,x) :: r)=(if k=f then (k,v) :: r else (k,x) :: Zd3 f v r) from rfl]
  by_cases hk:k=f
  ·rw [if_pos hk,ZqA,ZqA];omega
  ·rw [if_neg hk,ZqA,ZqA];omega
theorem ZhJ.some_of {v:V}{o:Option Value} (r:ZhJ (some v) o):∃ u,o=some u/\Zbr v u:=by
 cases o with
 | none=>exact (show False from r).elim
 | some u=>exact ⟨u,rfl,r⟩
theorem ZhJ.none_of {o:Option Value} (r:ZhJ none o):o=none:=by
 cases o with
 | none=>rfl
 | some u=>exact (show False from r).elim
theorem ZlJ {v:V}{u:Value} (r:Zbr v u):PySem.W.handedIn u=true:=by
 cases v with
 | non=>cases (show u=Value.none from r);rfl
 | bl b=>cases (show u=Value.bool b from r);rfl
 | int i=>obtain ⟨t,e⟩:=(show ∃ t,u=Value.int i t from r);cases e;rfl
 | str x=>obtain ⟨t,e⟩:=(show ∃ t,u=Value.str x t from r);cases e;rfl
 | byt b=>obtain ⟨t,e⟩:=(show ∃ t,u=Value.bytes b t from r);cases e;rfl
 | flt b=>obtain ⟨t,e⟩:=(show ∃ t,u=Value.float b t from r);cases e;rfl
 | ref a=>cases (show u=Value.ref a from r);rfl
 | ty n=>cases (show u=Value.type n from r);rfl
section
variable {P:Program}{w:World}{H H':Hp}{h h':Heap}{a C dx:Addr}{fs fs':List (Str × V)}
theorem Zhv (hok:HOk P w H h) (e:H a=some (.ins C dx fs)):∃ mA,ObjM h a dx C mA/\(∀ f,ZhJ (fs.lookup f) (mA f))/\PySem.Within mA (fs.map (·.1))/\fs.length<=1000/\H dx=some (.own a):=by
 obtain ⟨d,z,ne,ob,mA,n,r,q⟩:=(show ZbK P w H h a (.ins C dx fs) from hok a _ e)
 exact ⟨mA,⟨ob,n,ne⟩,r,q,z,d⟩
end
structure Cls (K:ZpF) (C:Addr):Prop where
 pg:ZpU K C Str.empty=true
 hd:ZpV K C=true
 po:ZpX K C=true
 sa:ZpL K (.ref C) "__setattr__" = some (some (.builtin "object.__setattr__"))
theorem Cls.get {K:ZpF}{C:Addr} (c:Cls K C) (f:Str):ZpU K C f=true:=c.pg
noncomputable def Zdf (K:ZpF) (C:Addr) (f:Str):Prop:=ZpL K (.ref C) f=some none
theorem Zdf.taker {K:ZpF}{C:Addr}{f:Str} (n:Zdf K C f):Zp1 K C f=some none:=by
 unfold Zp1
 rw [show ZpL K (.ref C) f=some none from n]
 rfl
structure Con (K:ZpF) (C:Addr) (f:Str) (v:V) (u:Value):Prop where
 at_:ZpL K (.ref C) f=some (some u)
 rel:Zbr v u
 get:Zp2 K u "__get__" = some none
 cp:PySem.W.copiedNames.contains f=false
structure Meth (K:ZpF) (C:Addr) (m:Str) (f:Addr):Prop where
 at_:ZpL K (.ref C) m=some (some (.ref f))
 fn:ZpM K (.ref f)=true
 kp:ZpG K (.ref f)=true
section
variable {X:Cx}{pins:List (Addr × Obj)}{σ:St}{H:Hp}{s:Shared}{a C dx:Addr}{fs:List (Str × V)}{f:Str}{v:V}{A:Around}{E:Value->Shared->Prop}
theorem Zko {b:Bool}{Q:Value->Shared->Prop} (I:Inv X pins σ H s) (e:H a=some (.ins C dx fs)) (c:Cls X.K C) (n:Zdf X.K C f) (l:fs.lookup f=some v)
  (h:∀ u s',Inv X pins σ H s'->Zbr v u->Q u s'):wpAny (model X.prog X.w) A (getAttr (.ref a) f b) Q E s:=by
 obtain ⟨mA,O,r,_,_,_⟩:=Zhv I.hok e
 obtain ⟨u,hu,ru⟩:=ZhJ.some_of (v:=v) (o:=mA f) (by rw [<- l];exact r f)
 exact Zpd I.kIn O (c.get f) c.hd n hu (ZlJ ru) (h u _ (I.tok _) ru)
theorem ZgO {m:Str}{g:Addr}{pl:Sem Bool}{Q:Value × List Value->Shared->Prop} (I:Inv X pins σ H s) (e:H a=some (.ins C dx fs)) (c:Cls X.K C) (k:Meth X.K C m g) (l:fs.lookup m=none)
  (h:Q (.ref g,[.ref a]) s):wpAny (model X.prog X.w) A (getMethod (.ref a) m pl) Q E s:=by
 obtain ⟨mA,O,r,_,_,_⟩:=Zhv I.hok e
 have hn:mA m=none:=ZhJ.none_of (by rw [<- l];exact r m)
 exact Zm5 I.kIn O (c.get m) k.at_ k.fn hn h
theorem Zkc {y:V}{u:Value}{Q:Unit->Shared->Prop} (I:Inv X pins σ H s) (e:H a=some (.ins C dx fs)) (c:Cls X.K C) (n:Zdf X.K C f) (hl:fs.length<1000) (ry:Zbr y u)
  (h:∀ s',Inv X pins σ (upd H a (.ins C dx (Zd3 f y fs))) s'->Q () s'):wpAny (model X.prog X.w) A (setAttr (.ref a) f u) Q E s:=by
 obtain ⟨mA,O,r,wi,_,ho⟩:=Zhv I.hok e
 have hz:(fs.map (·.1)).length<=sizeLine:=by rw [Zqi,sizeLine_eq];omega
 refine Zoe I.kIn O c.sa c.po n.taker c.hd wi hz fun h' O' sb=>h _ ?_
 have hd:∃ o,h'.get? dx=some o:=let ⟨o,_,_,e',_⟩:=O'.ns;⟨o,e'⟩
 refine I.write (x:=a) (e:=dx) (by rw [e];exact True.intro) (.inr ho) (fun b q hb z=>(sb.2 b hb).trans z) hd ?_
 refine ⟨by rw [Zak O.ne];exact ho,?_,O.ne,O'.obj,_,O'.ns,fun g=>?_,fun g hg=>?_⟩
 ·have:=ZbF f y fs;omega
 ·show ZhJ ((Zd3 f y fs).lookup g) (if g=f then some u else mA g)
  rw [Zf7]
  by_cases q:g=f
  ·rw [if_pos q,if_pos q];exact ry
  ·rw [if_neg q,if_neg q];exact r g
 ·by_cases q:g=f
  ·rw [q];exact (Zgb f y fs).1
  ·refine (Zgb f y fs).2 g (wi g fun z=>hg ?_)
   show (if g=f then some u else mA g)=none
   rw [if_neg q];exact z
theorem Inv.made (I:Inv X pins σ H s):Inv X pins σ (upd (upd H s.heap.objs.size (.own (s.heap.objs.size+1))) (s.heap.objs.size+1) (.ins C s.heap.objs.size []))
  { s with heap:=(s.heap.push ZpP).push (ZpS C s.heap.objs.size) }:=by
 have e1:(s.heap.push ZpP).get? s.heap.objs.size=some ZpP:=Heap.get?_push_size s.heap rfl
 have e2:((s.heap.push ZpP).push (ZpS C s.heap.objs.size)).get? (s.heap.objs.size+1)=some (ZpS C s.heap.objs.size):=by
  have:=Heap.get?_push_size (s.heap.push ZpP) (o:=ZpS C s.heap.objs.size) rfl
  rwa [Heap.size_push] at this
 have e3:(s.heap.push ZpP).Ns s.heap.objs.size (fun _=>none):=⟨ZpP,#[],_,e1,rfl,(fun e he=>absurd he (by simp)),fun _=>rfl⟩
 have I1:=I.laid (a:=s.heap.objs.size) (o:=.own (s.heap.objs.size+1)) (h':=s.heap.push ZpP) (t':=s.toks) (fun b u q=>Heap.get?_push_of_some _ q) (ZrN _) ⟨_,e1⟩
 refine I1.laid (a:=s.heap.objs.size+1) (o:=.ins C s.heap.objs.size []) (t':=s.toks) (fun b u q=>Heap.get?_push_of_some _ q) (ZrW (Heap.size_push _ _)) ?_
 have ne:s.heap.objs.size≠s.heap.objs.size+1:=ZrP (ZrX _)
 refine ⟨by rw [Zak ne,Zal],ZrS _,ne,e2,fun _=>none,(Heap.Ns1.of_empty e3).at fun o q=>Heap.get?_push_of_some _ q,fun _=>True.intro,fun y hy=>absurd rfl hy⟩
theorem Zps {prog:Program}{w:World}{env:Env}{e:Expr}{f:Str}{pos:Pos}{s:Shared}{Q:Value->Shared->Prop} (hb:attributeBase e f env (eval e env)=eval e env)
  (h:wpAny (model prog w) A (eval e env) (fun o s₁=>wpAny (model prog w) A (getAttr o f true) Q E s₁) E s):wpAny (model prog w) A (eval (.Attribute e f pos) env) Q E s :=
 Attribute_any_ h (by rw [arm_eval_Attribute,hb])
end
noncomputable def Zfp (K:ZpF) (ta:TE) (f:Str):TE:=fun σ H Q=>ta σ H fun x H1=>∃ a C dx fs v,x=.ref a/\H1 a=some (.ins C dx fs)/\Cls K C/\Zdf K C f/\fs.lookup f=some v/\Q v H1
noncomputable def Znw (K:ZpF) (ta tv:TE) (f:Str):TS:=fun D σ H=>tv σ H fun y H1=>ta σ H1 fun x H2=>∃ a C dx fs,x=.ref a/\H2 a=some (.ins C dx fs)/\Cls K C/\Zdf K C f/\fs.length<1000 /\
 D.nx σ (upd H2 a (.ins C dx (Zd3 f y fs)))
section
variable {X:Cx}{o e value:Expr}{f:Str}{pos pos' tpos:Pos}{ta tv:TE}
theorem ZbE (he:PE X e ta) (hb:attributeBase e f X.env (eval e X.env)=eval e X.env):PE X (.Attribute e f pos) (Zfp X.K ta f):=by
 intro pins s σ H Q I h
 refine Zps hb (thn (he pins s σ H _ I h) fun u s1 ⟨x,H1,I1,rx,a,C,dx,fs,v,ex,ea,c,n,l,q⟩=>?_)
 subst ex
 obtain rfl:u=Value.ref a:=rx
 exact Zko I1 ea c n l fun u' s2 I2 ru=>⟨v,H1,I2,ru,q⟩
theorem ZgF (ha:PE X o ta) (hv:PE X value tv) (hs:swapsWith value (some (.Attribute o f pos')) pos.line X.env=pure false):PS X (.Assign [.Attribute o f pos'] value pos) (Znw X.K ta tv f):=by
 intro pins s σ H D I h
 refine plainObj_wpAny_Assign_Attribute (thn (hv pins s σ H _ I h) fun u s1 ⟨y,H1,I1,ry,q⟩=>thn (ha pins s1 σ H1 _ I1 q) fun ov s2 ⟨x,H2,I2,rx,a,C,dx,fs,ex,ea,c,n,l,q2⟩=>?_) hs
 subst ex
 obtain rfl:ov=Value.ref a:=rx
 exact Zkc I2 ea c n l ry fun s3 I3=>⟨σ,_,I3,q2⟩
end
section
variable {X:Cx}{pins:List (Addr × Obj)}{σ:St}{H:Hp}{s:Shared}{A:Around}{E:Value->Shared->Prop}{Q:Value->Shared->Prop}{c:Value}{b:Bool}
inductive TyOf (K:ZpF) (H:Hp):V->Value->Prop where
 | non:TyOf K H .non (.type "NoneType")
 | bl (x:Bool):TyOf K H (.bl x) (.type "bool")
 | int (i:Int):TyOf K H (.int i) (.type "int")
 | str (x:Str):TyOf K H (.str x) (.type "str")
 | flt (x:UInt64):TyOf K H (.flt x) (.type "float")
 | lst {a:Addr}{xs:List V} (e:H a=some (.lst xs)):TyOf K H (.ref a) (.type "list")
 | frz {a:Addr}{o:Obj}{xs:List V} (e:H a=some (.frz o (.lst xs))):TyOf K H (.ref a) (.type "list")
 | tup {a:Addr}{xs:List V} (e:H a=some (.tup xs)):TyOf K H (.ref a) (.type "tuple")
 | dK {a:Addr}{kvs:List (Key × V)} (e:H a=some (.dK kvs)):TyOf K H (.ref a) (.type "dict")
 | dT {a:Addr}{kvs:List (List Key × V)} (e:H a=some (.dT kvs)):TyOf K H (.ref a) (.type "dict")
 | ins {a C dx:Addr}{fs:List (Str × V)} (e:H a=some (.ins C dx fs)) (cl:Cls K C) (ha:ZpL K (.ref C) "__class__" = some (some (.builtin "object.__class__")))
   (hn:Zp2 K (.builtin "object.__class__") "__get__" = some (some (.builtin "getset_descriptor.__get__"))) (htk:PySem.W.takesIn K (.builtin "object.__class__")=some true)
   (hm:Zp3 K C (.type "object")=some true):TyOf K H (.ref a) (.ref C)
theorem Zil {x:V}{u t:Value} (I:Inv X pins σ H s) (rx:Zbr x u) (ty:TyOf X.K H x t) (e:ZpN X.K t c=some b) (h:∀ tk,Q (.bool b) { s with toks:=tk }) :
  wpAny (model X.prog X.w) A (call (.builtin "isinstance") [u,c]) Q E s:=by
 cases ty with
 | non=>cases (show u=Value.none from rx);exact ZpO PySem.W.kitx_none I.kIn True.intro e (fun z=>nomatch z) h
 | bl y=>cases (show u=Value.bool y from rx);exact ZpO PySem.W.kitx_bool I.kIn True.intro e (fun z=>nomatch z) h
 | int i=>obtain ⟨t,q⟩:=(show ∃ t,u=Value.int i t from rx);cases q;exact ZpO PySem.W.kitx_int I.kIn True.intro e (fun z=>nomatch z) h
 | str y=>obtain ⟨t,q⟩:=(show ∃ t,u=Value.str y t from rx);cases q;exact ZpO PySem.W.kitx_str I.kIn True.intro e (fun z=>nomatch z) h
 | flt y=>obtain ⟨t,q⟩:=(show ∃ t,u=Value.float y t from rx);cases q;exact ZpO PySem.W.kitx_float I.kIn True.intro e (fun z=>nomatch z) h
 | @lst a xs ea =>
  cases (show u=Value.ref a from rx)
  obtain ⟨_,_,n,_,h1⟩:=(show ZbK X.prog X.w H s.heap a (.lst xs) from I.hok a _ ea)
  exact ZpO PySem.W.kitx_list I.kIn ⟨_,h1,rfl⟩ e (fun z=>nomatch z) h
 | @frz a ob xs ea =>
  cases (show u=Value.ref a from rx)
  obtain ⟨_,_,_,n,_,h1⟩:=(show ZbK X.prog X.w H s.heap a (.frz ob (.lst xs)) from I.hok a _ ea)
  exact ZpO PySem.W.kitx_list I.kIn ⟨_,h1,rfl⟩ e (fun z=>nomatch z) h
 | @tup a xs ea =>
  cases (show u=Value.ref a from rx)
  obtain ⟨_,_,_,p⟩:=(show ZbK X.prog X.w H s.heap a (.tup xs) from I.hok a _ ea)
  obtain ⟨o,h1,h2,_⟩:=p
  exact ZpO PySem.W.kitx_tuple I.kIn ⟨o,h1,h2⟩ e (fun z=>nomatch z) h
 | @dK a kvs ea =>
  cases (show u=Value.ref a from rx)
  obtain ⟨_,_,vs,_,p⟩:=(show ZbK X.prog X.w H s.heap a (.dK kvs) from I.hok a _ ea)
  obtain ⟨o,es,ep,h1,h2,_⟩:=p
  exact ZpO PySem.W.kitx_dict I.kIn ⟨o,h1,h2.1⟩ e (fun z=>nomatch z) h
 | @dT a kvs ea =>
  cases (show u=Value.ref a from rx)
  obtain ⟨_,_,xs,_,o,es,ep,h1,h2,_⟩:=(show ZbK X.prog X.w H s.heap a (.dT kvs) from I.hok a _ ea)
  exact ZpO PySem.W.kitx_dict I.kIn ⟨o,h1,h2.1⟩ e (fun z=>nomatch z) h
 | @ins a C dx fs ea cl ha hn htk hm =>
  cases (show u=Value.ref a from rx)
  obtain ⟨mA,O,_⟩:=Zhv I.hok ea
  obtain ⟨od,J,_⟩:=O.look
  exact ZpO (PySem.W.kitx_own (cl.get _) cl.hd ha hn htk hm) I.kIn J e (fun z=>nomatch z) h
end
structure Room (k:Nat) (A:Around):Prop where
 hd:A.handled=none
 dp:A.depth+3 * k+5<recursionLimit
 un:A.units+16 * k+200<cLine
theorem Room.mono {j k:Nat}{A:Around} (r:Room k A) (h:j<=k):Room j A:=⟨r.hd,by have:=r.dp;omega,by have:=r.un;omega⟩
theorem Room.deeper {k:Nat}{A:Around} (r:Room (k+1) A) (env:Env):Room k (A.deeper env) :=
 ⟨r.hd,by have:=r.dp;show A.depth+1+3 * k+5<_;omega,by have:=r.un;show A.units+3+16 * k+200<_;omega⟩
theorem Room.in1 {k:Nat}{A:Around} (r:Room (k+1) A):Room k A.in1 :=
 ⟨r.hd,by have:=r.dp;show A.depth+3 * k+5<_;omega,by have:=r.un;show A.units+1+16 * k+200<_;omega⟩
theorem Zkk {A:Around}{C:Addr}{us:List Value}{kw:List (Str × Value)}:(A.under (.builtin "type.__call__" ⟨.ref C :: us,kw⟩)).depth=A.depth+1:=by
 first | rfl | simp [Around.under,Code.weight,Code.isCreation,Code.isGuard,Code.isCaller,Code.frames,Code.isFrame,guardIds]
theorem Zkj {A:Around}{C:Addr}{us:List Value}{kw:List (Str × Value)}:(A.under (.builtin "type.__call__" ⟨.ref C :: us,kw⟩)).units=A.units+1:=by
 first | rfl | simp [Around.under,Code.cUnits,Code.frames,Code.isFrame]
theorem Room.make {k:Nat}{A:Around} (r:Room (k+1) A) (C:Addr) (us:List Value) (kw:List (Str × Value)):Room k (A.under (.builtin "type.__call__" ⟨.ref C :: us,kw⟩)) :=
 ⟨r.hd,by have:=r.dp;rw [Zkk];omega,by have:=r.un;rw [Zkj];omega⟩
theorem Room.depth {k:Nat}{A:Around} (r:Room k A):A.depth<recursionLimit:=by have:=r.dp;omega
theorem Room.units {k:Nat}{A:Around} (r:Room k A):A.units+64<cLine:=by have:=r.un;omega
noncomputable def Zas:TA:=fun _ H Q=>Q [] H
noncomputable def Zaf (ta:TE) (tr:TA):TA:=fun σ H Q=>ta σ H fun x H1=>tr σ H1 fun xs H2=>Q (x :: xs) H2
section
variable {X:Cx}{e:Expr}{es:List Expr}{te:TE}{t:TA}{pos:Pos}
theorem Zae:PA X [] Zas:=fun _ _ _ _ H Q I h=>Calls.spliced_nil ⟨[],H,I,.nil,h⟩
theorem Zaa (ha:PE X e te) (hr:PA X es t) (hs:starEach (e :: es) X.env=(false,eval e X.env) :: starEach es X.env:=by rfl):PA X (e :: es) (Zaf te t):=by
 intro pos pins s σ H Q I h
 rw [hs]
 show wpAny _ _ (spliced ((false,eval e X.env) :: backTo pos (starEach es X.env))) _ _ s
 refine Calls.spliced_cons (thn (ha pins s σ H _ I h) fun u s1 ⟨x,H1,I1,r1,q1⟩=>?_)
 exact thn (hr pos pins s1 σ H1 _ I1 q1) fun us s2 ⟨xs,H2,I2,r2,q2⟩=>⟨x :: xs,H2,I2,.cons r1 r2,q2⟩
noncomputable def Zju (t:TA):TE:=fun σ H Q=>t σ H fun xs H1=>xs.length<=sizeLine/\∀ p,H1 p=none->Q (.ref p) (upd H1 p (.tup xs))
noncomputable def Zgr (t:TA):TE:=fun σ H Q=>t σ H fun xs H1=>xs.length<=sizeLine/\∀ p,H1 p=none->Q (.ref p) (upd H1 p (.lst xs))
theorem Zdx {x1} (h:PA X es t):PE X (.Tuple es x1 pos) (Zju t):=by
 intro pins s σ H Q I hq
 refine wpAny_Tuple_spliced (thn (h pos pins s σ H _ I hq) fun us s1 ⟨xs,H1,I1,r,z,q⟩=>⟨by rw [<- r.length];exact z,?_⟩)
 have hf:H1 s1.heap.objs.size=none:=I1.hok.fresh (ZrN _)
 refine ⟨.ref s1.heap.objs.size,upd H1 s1.heap.objs.size (.tup xs),I1.laid (t':=s1.toks) (fun b u e=>Heap.get?_push_of_some _ e) (ZrN _) ?_,rfl,q _ hf⟩
 exact ⟨z,us,r,⟨_,Heap.get?_push_size _ rfl,rfl,_,rfl⟩⟩
theorem ZbU (h:PA X es t):PE X (.List es pos) (Zgr t):=by
 intro pins s σ H Q I hq
 refine wpAny_List_spliced (thn (h pos pins s σ H _ I hq) fun us s1 ⟨xs,H1,I1,r,z,q⟩=>⟨by rw [<- r.length];exact z,?_⟩)
 have hf:H1 s1.heap.objs.size=none:=I1.hok.fresh (ZrN _)
 refine ⟨.ref s1.heap.objs.size,upd H1 s1.heap.objs.size (.lst xs),I1.laid (t':=s1.toks) (fun b u e=>Heap.get?_push_of_some _ e) (ZrN _) ?_,rfl,q _ hf⟩
 exact ⟨z,us,0,r,Heap.get?_push_size _ rfl⟩
end
noncomputable abbrev Sp:=List V->Hp->VK->XK->Prop
noncomputable abbrev CXT:=List Env->Hp->Shared->XK->Value->Shared->Prop
structure Env0 (P:Program) (w:World) (K:ZpF) (mg:Str->Option Value) (base:Heap) (A:Around) (outer:List Env) (s:Shared) (H:Hp):Prop where
 frames:A.frames=some outer
 mod:Mod K mg base
 bs:∀ b o,base.get? b=some o->s.heap.get? b=some o/\H b=none
 bsz:base.objs.size<=s.heap.objs.size
 funs:s.heap.FunFrames base outer
 frf:∀ b∈frs outer,H b=none
 hok:HOk P w H s.heap
 bare:AllBare s.gens
noncomputable def CE (outer:List Env) (P:Program) (w:World) (H:Hp) (s:Shared) (Q:VK) (u:Value) (s':Shared):Prop :=
 ∃ v H',s'.os=s.os/\AllBare s'.gens/\Un (frs outer) [] H H' s.heap s'.heap/\HOk P w H' s'.heap/\Zbr v u/\Q v H'
noncomputable def CR (CX:CXT) (outer:List Env) (P:Program) (w:World) (H:Hp) (s:Shared) (Q:VK) (E:XK) (r:Result) (s':Shared):Prop :=
 match r with
 | .ok (.ret u)=>CE outer P w H s Q u s'
 | .ok _=>False
 | .error e=>CX outer H s E e s'
structure FnOk (P:Program) (w:World) (K:ZpF) (mg:Str->Option Value) (base:Heap) (CX:CXT) (k:Nat) (f:Addr) (fd:FuncData) (ps:List Str) (sp:Sp):Prop where
 len:∀ vs H Q E,sp vs H Q E->vs.length=ps.length
 run:∀ (A:Around) (outer:List Env) (s:Shared) (H:Hp) (args:Args) (us:List Value) (vs:List V) (Q:VK) (E:XK),Room k A->Env0 P w K mg base A outer s H->BindsTo s fd args (ps.zip us)->Vals vs us->sp vs H Q E ->
  codeAny (model P w) A (.call (.ref f) args) (CR CX outer P w H s Q E) s
theorem Env0.make {P:Program}{w:World}{K:ZpF}{mg:Str->Option Value}{base:Heap}{A:Around}{outer:List Env}{s:Shared}{H:Hp} (e:Env0 P w K mg base A outer s H) (C:Addr) (us:List Value) (kw:List (Str × Value)) :
  Env0 P w K mg base (A.under (.builtin "type.__call__" ⟨.ref C :: us,kw⟩)) outer s H:=⟨by first | exact e.frames | (simpa [Around.under,Code.envs,Code.isFrame,pushEnvs] using e.frames),e.mod,e.bs,e.bsz,e.funs,e.frf,e.hok,e.bare⟩
theorem Env0.in1 {P:Program}{w:World}{K:ZpF}{mg:Str->Option Value}{base:Heap}{A:Around}{outer:List Env}{s:Shared}{H:Hp} (e:Env0 P w K mg base A outer s H) :
  Env0 P w K mg base A.in1 outer s H:=⟨e.frames,e.mod,e.bs,e.bsz,e.funs,e.frf,e.hok,e.bare⟩
section
variable {X:Cx}{pins:List (Addr × Obj)}{σ:St}{H:Hp}{s s':Shared}
theorem Inv.env0 (I:Inv X pins σ H s):Env0 X.prog X.w X.K X.mg X.base X.A X.stack s H :=
 ⟨I.ok.frames,I.ok.mod,I.bs,ZrR I.ok.bsz I.sz,I.stack,I.stkFree,I.hok,I.bare⟩
theorem Inv.after {Q:VK}{u:Value} (I:Inv X pins σ H s) (h:CE X.stack X.prog X.w H s Q u s'):EP X pins σ Q u s':=by
 obtain ⟨v,H',os,bare,un,hok,r,q⟩:=h
 obtain ⟨hh,g,d,t,os'⟩:=s'
 obtain rfl:os'=s.os:=os
 exact ⟨v,H',I.call (h':=hh) (g':=g) (d':=d) (t':=t) (ch:=[]) un hok bare (fun b z=>absurd z (by simp)),r,q⟩
end
noncomputable def Zbb (sp:Sp) (dvs:List V) (E:XK) (t:TA):TE:=fun σ H Q=>t σ H fun vs H1=>sp (vs ++ dvs) H1 Q E
noncomputable def ZbY (C:Addr) (m:Str) (sp:Sp) (dvs:List V) (E:XK) (ta:TE) (t:TA):TE:=fun σ H Q=>ta σ H fun x H1=>∃ a dx fs,x=.ref a/\H1 a=some (.ins C dx fs)/\fs.lookup m=none /\
 t σ H1 fun vs H2=>sp (x :: (vs ++ dvs)) H2 Q E
noncomputable def Zmu (C:Addr) (sp:Sp) (dvs:List V) (E:XK) (t:TA):TE:=fun σ H Q=>t σ H fun vs H1=>∀ x dx,H1 x=none->H1 dx=none->dx≠x ->
 sp (.ref x :: (vs ++ dvs)) (upd (upd H1 dx (.own x)) x (.ins C dx [])) (fun v H2=>v=.non/\Q (.ref x) H2) E
noncomputable def Za7 (K:ZpF) (fd:FuncData) (ps:List Str) (ds:List Value):Prop :=
 ∀ (s:Shared) (us:List Value),K.In s.heap->(us ++ ds).length=ps.length->BindsTo s fd ⟨us,[]⟩ (ps.zip (us ++ ds))
theorem Za7.all {K:ZpF}{fd:FuncData}{ps:List Str} (h:∀ us:List Value,us.length=ps.length->bindArgs fd ⟨us,[]⟩=pure (ps.zip us)):Za7 K fd ps []:=fun s us _ hl=>by
 rw [ZqX] at hl ⊢
 exact .of_eq (h us hl)
noncomputable def ZeJ (CX:CXT) (X:Cx) (E:XK):Prop:=∀ (pins:List (Addr × Obj)) (σ:St) (H:Hp) (s:Shared) (e:Value) (s':Shared),Inv X pins σ H s->CX X.stack H s E e s'->X.xe e s'
section
variable {X:Cx}{CX:CXT}{k:Nat}{f C:Addr}{fd:FuncData}{ps:List Str}{sp:Sp}{dvs:List V}{ds:List Value}{E:XK}{x m:Str}{p pos apos:Pos}{e o:Expr}{es:List Expr}{ta:TE}{t:TA}
theorem Zk3 {pins:List (Addr × Obj)}{σ:St}{H:Hp}{s:Shared}{Q:VK}{us:List Value}{vs:List V} (F:FnOk X.prog X.w X.K X.mg X.base CX k f fd ps sp) (hr:Room k X.A) (hb:Za7 X.K fd ps ds) (hd:Vals dvs ds) (hx:ZeJ CX X E)
  (I:Inv X pins σ H s) (r:Vals vs us) (h:sp (vs ++ dvs) H Q E):wpAny (model X.prog X.w) X.A (call (.ref f) us) (EP X pins σ Q) X.xe s:=by
 have r2:Vals (vs ++ dvs) (us ++ ds):=r.append hd
 have hl:(us ++ ds).length=ps.length:=by rw [<- r2.length];exact F.len _ _ _ _ h
 refine wpAny_call (codeAny_mono (F.run X.A X.stack s H ⟨us,[]⟩ (us ++ ds) (vs ++ dvs) Q E hr I.env0 (hb s us I.kIn hl) r2 h) fun r s' hq=>?_)
 cases r with
 | error e=>exact hx pins σ H s e s' I hq
 | ok fl =>
  cases fl with
  | ret u=>exact I.after hq
  | next=>exact False.elim hq
  | brk=>exact False.elim hq
  | cont=>exact False.elim hq
theorem Zar (F:FnOk X.prog X.w X.K X.mg X.base CX k f fd ps sp) (hr:Room k X.A) (hg:Gl X x) (hm:X.mg x=some (.ref f)) (hk:ZpG X.K (.ref f)=true) (hb:Za7 X.K fd ps ds) (hd:Vals dvs ds) (hx:ZeJ CX X E)
  (ha:PA X (e :: es) t) (hdb:(x == ("__debug__" : Str))=false:=by decide) (he:starEach (e :: es) X.env=(false,eval e X.env) :: starEach es X.env:=by rfl) (hpl:(backTo pos (starEach es X.env)).any (·.1)=false:=by rfl) :
  PE X (.Call (.Name x p) (e :: es) [] pos) (Zbb sp dvs E t):=by
 intro pins s σ H Q I h
 refine wpAny_Call_Name_kw (Zht I hg hm ?_ hdb)
 refine Zp4 (h₀:=X.base) I.ok.mod.kin hk (thn (ha pos pins s σ H _ I h) fun us s1 ⟨vs,H1,I1,r,q⟩=>⟨I1.kIn,?_⟩) he hpl
 exact Zk3 F hr hb hd hx I1 r q
theorem ZbT {pl:Sem Bool} (he:PE X o ta) (c:Cls X.K C) (hm:Meth X.K C m f) (F:FnOk X.prog X.w X.K X.mg X.base CX k f fd ps sp) (hr:Room k X.A) (hb:Za7 X.K fd ps ds) (hd:Vals dvs ds) (hx:ZeJ CX X E) (ha:PA X (e :: es) t)
  (hst:starEach (e :: es) X.env=(false,eval e X.env) :: starEach es X.env:=by rfl) (hpl:(backTo pos (starEach es X.env)).any (·.1)=false:=by rfl)
  (ht:eval (.Call (.Attribute o m apos) (e :: es) [] pos) X.env=(do
   let ov <- eval o X.env
   standAt apos.atName
   let (f,first) <- holding [ov] (getMethod ov m pl)
   callWith pos f first (backTo pos (starEach (e :: es) X.env)) (backToKw pos (keywordEach [] X.env))):=by rfl) :
  PE X (.Call (.Attribute o m apos) (e :: es) [] pos) (ZbY C m sp dvs E ta t):=by
 intro pins s σ H Q I h
 refine Zp7 (pl:=pl) (thn (he pins s σ H _ I h) fun u s1 ⟨x,H1,I1,rx,a,dx,fs,ex,ea,l,q⟩=>?_) ht
 subst ex
 obtain rfl:u=Value.ref a:=rx
 refine ZgO I1 ea c hm l ?_
 refine Zp4 (first:=[.ref a]) (h₀:=X.base) I.ok.mod.kin hm.kp (thn (ha pos pins s1 σ H1 _ I1 q) fun us s2 ⟨vs,H2,I2,r,q2⟩=>⟨I2.kIn,?_⟩) hst hpl
 exact Zk3 (us:=.ref a :: us) (vs:=.ref a :: vs) F hr hb hd hx I2 (.cons rfl r) q2
theorem Zb6 {pl:Sem Bool} (he:PE X o ta) (c:Cls X.K C) (hm:Meth X.K C m f) (F:FnOk X.prog X.w X.K X.mg X.base CX k f fd ps sp) (hr:Room k X.A) (hb:Za7 X.K fd ps ds) (hd:Vals dvs ds) (hx:ZeJ CX X E)
  (ht:eval (.Call (.Attribute o m apos) [] [] pos) X.env=(do
   let ov <- eval o X.env
   standAt apos.atName
   let (f,first) <- holding [ov] (getMethod ov m pl)
   callWith pos f first (backTo pos (starEach [] X.env)) (backToKw pos (keywordEach [] X.env))):=by rfl) :
  PE X (.Call (.Attribute o m apos) [] [] pos) (ZbY C m sp dvs E ta Zas):=by
 intro pins s σ H Q I h
 refine Zp7 (pl:=pl) (thn (he pins s σ H _ I h) fun u s1 ⟨x,H1,I1,rx,a,dx,fs,ex,ea,l,q⟩=>?_) ht
 subst ex
 obtain rfl:u=Value.ref a:=rx
 refine ZgO I1 ea c hm l ?_
 exact PySem.W.callWith_K0 (first:=[.ref a]) I1.kIn hm.kp (Zk3 (us:=[.ref a]) (vs:=[.ref a]) F hr hb hd hx I1 (.cons rfl .nil) q)
structure Mk (K:ZpF) (C f:Addr):Prop where
 makes:ZpY K C=true
 init:ZpL K (.ref C) "__init__" = some (some (.ref f))
 fn:ZpM K (.ref f)=true
 kp:ZpG K (.ref C)=true
theorem ZmC {pins:List (Addr × Obj)}{σ:St}{H:Hp}{s:Shared}{Q:VK}{us:List Value}{vs:List V} (M:Mk X.K C f) (F:FnOk X.prog X.w X.K X.mg X.base CX k f fd ps sp) (hr:Room (k+1) X.A) (hb:Za7 X.K fd ps ds) (hd:Vals dvs ds)
  (hx:ZeJ CX X E) (I:Inv X pins σ H s) (r:Vals vs us)
  (h:∀ x dx,H x=none->H dx=none->dx≠x->sp (.ref x :: (vs ++ dvs)) (upd (upd H dx (.own x)) x (.ins C dx [])) (fun v H2=>v=.non/\Q (.ref x) H2) E) :
  wpAny (model X.prog X.w) X.A (call (.ref C) us) (EP X pins σ Q) X.xe s:=by
 have hq:=h (s.heap.objs.size+1) s.heap.objs.size (I.hok.fresh (Nat.le_succ _)) (I.hok.fresh (ZrN _)) (ZrP (ZrX _))
 have I2:=Inv.made (C:=C) I
 have r2:Vals (V.ref (s.heap.objs.size+1) :: (vs ++ dvs)) (Value.ref (s.heap.objs.size+1) :: (us ++ ds)):=.cons rfl (r.append hd)
 have hl:(Value.ref (s.heap.objs.size+1) :: us ++ ds).length=ps.length:=by
  have e:=r2.length
  rw [F.len _ _ _ _ hq] at e
  exact e.symm
 refine wpAny_call (ZmT (f:=f) I.kIn M.makes M.init (beq_iff_eq.mp M.fn) (codeAny_mono (F.run _ X.stack _ _ ⟨Value.ref (s.heap.objs.size+1) :: us,[]⟩ (Value.ref (s.heap.objs.size+1) :: (us ++ ds)) _ _ E (hr.make C us [])
  (I2.env0.make C us []) (hb _ (Value.ref (s.heap.objs.size+1) :: us) I2.kIn hl) r2 hq) fun r s' hq'=>?_))
 cases r with
 | error e=>exact hx pins σ _ _ e s' I2 hq'
 | ok fl =>
  cases fl with
  | ret u =>
   obtain ⟨v,H',I3,rv,ev,q3⟩:=I2.after hq'
   subst ev
   exact ⟨rv,⟨V.ref (s.heap.objs.size+1),H',I3,rfl,q3⟩⟩
  | next=>exact False.elim hq'
  | brk=>exact False.elim hq'
  | cont=>exact False.elim hq'
theorem Zle (M:Mk X.K C f) (F:FnOk X.prog X.w X.K X.mg X.base CX k f fd ps sp) (hr:Room (k+1) X.A) (hg:Gl X x) (hm:X.mg x=some (.ref C)) (hb:Za7 X.K fd ps ds) (hd:Vals dvs ds) (hx:ZeJ CX X E)
  (ha:PA X (e :: es) t) (hdb:(x == ("__debug__" : Str))=false:=by decide) (he:starEach (e :: es) X.env=(false,eval e X.env) :: starEach es X.env:=by rfl) (hpl:(backTo pos (starEach es X.env)).any (·.1)=false:=by rfl) :
  PE X (.Call (.Name x p) (e :: es) [] pos) (Zmu C sp dvs E t):=by
 intro pins s σ H Q I h
 refine wpAny_Call_Name_kw (Zht I hg hm ?_ hdb)
 refine Zp4 (h₀:=X.base) I.ok.mod.kin M.kp (thn (ha pos pins s σ H _ I h) fun us s1 ⟨vs,H1,I1,r,q⟩=>⟨I1.kIn,?_⟩) he hpl
 exact ZmC M F hr hb hd hx I1 r q
end
noncomputable def PK (X:Cx) (kws:List Keyword) (t:TA):Prop :=
 ∀ (pos:Pos) (pins:List (Addr × Obj)) (s:Shared) (σ:St) (H:Hp) (Q:List V->Hp->Prop),Inv X pins σ H s->t σ H Q->wpAny (model X.prog X.w) X.A (evalAll ((backToKw pos (keywordEach kws X.env)).map (·.2))) (AP X pins σ Q) X.xe s
section
variable {X:Cx}{CX:CXT}{k:Nat}{f C:Addr}{fd:FuncData}{ps ks:List Str}{sp:Sp}{E:XK}{x m:Str}{p pos apos kpos:Pos}{e o:Expr}{es:List Expr}{kws:List Keyword}{te ta:TE}{t tk:TA}{nm:Option Str}
structure KBinds (K:ZpF) (fd:FuncData) (ps ks:List Str) (g:List Value->List Value->List Value) (gV:List V->List V->List V):Prop where
 to:∀ (s:Shared) (us ws:List Value),K.In s.heap->(g us ws).length=ps.length->BindsTo s fd ⟨us,ks.zip ws⟩ (ps.zip (g us ws))
 rel:∀ {vs:List V}{us:List Value}{zs:List V}{ws:List Value},Vals vs us->Vals zs ws->Vals (gV vs zs) (g us ws)
variable {g:List Value->List Value->List Value}{gV:List V->List V->List V}
end
structure FnScope (N P:List Str) (sc:Scope):Prop where
 kind:sc.kind=.function
 co:sc.isCoroutine=false
 gen:sc.isGenerator=false
 nd:N.Nodup
 pre:N.take P.length=P
 par:∀ x∈P,sc.names.lookup x=some .local\/sc.names.lookup x=some .cell
 nofree:∀ y∈sc.names,y.2≠.free
theorem Ziv {kindOf:Str->Option NameKind}{x:Str}:∀ {binds:List (Str × Value)}{m:Str->Option Value},(∀ v,(x,v) ∉ binds)->bindL kindOf binds m x=m x
 | [],_,_=>rfl
 | (n,v) :: r,m,h=>by
  unfold bindL
  rw [Ziv fun w hw=>h w (ZqI _ hw)]
  split
  ·have:x≠n:=by rintro rfl;exact h v ZqF
   simp [this]
  ·rfl
theorem Zix {kindOf:Str->Option NameKind}{x:Str}:∀ {binds:List (Str × Value)}{m:Str->Option Value},(∀ v,(x,v) ∉ binds)->bindC kindOf binds m x=m x
 | [],_,_=>rfl
 | (n,v) :: r,m,h=>by
  unfold bindC
  rw [Zix fun w hw=>h w (ZqI _ hw)]
  split
  ·rfl
  ·have:x≠n:=by rintro rfl;exact h v ZqF
   simp [this]
theorem Ziw {kindOf:Str->Option NameKind}{x:Str}{v:Value}:∀ {P:List Str}{vs:List Value}{i:Nat}{m:Str->Option Value},P.Nodup->P[i]? = some x->vs[i]? = some v->kindOf x=some .local ->
  bindL kindOf (P.zip vs) m x=some v
 | [],_,_,_,_,h,_,_=>by simp at h
 | _ :: _,[],_,_,_,_,h,_=>by simp at h
 | p :: P,w :: vs,0,m,nd,h1,h2,hk=>by
  simp at h1 h2;subst h1;subst h2
  show bindL kindOf ((p,w) :: P.zip vs) m p=_
  unfold bindL
  rw [Ziv fun v hv=>(ZqY.mp nd).1 (Zrw hv).1,if_pos hk]
  simp
 | p :: P,w :: vs,i+1,m,nd,h1,h2,hk=>by
  show bindL kindOf ((p,w) :: P.zip vs) m x=_
  unfold bindL
  exact Ziw (i:=i) (ZqY.mp nd).2 (by simpa using h1) (by simpa using h2) hk
theorem Ziy {kindOf:Str->Option NameKind}{x:Str}{v:Value}:∀ {P:List Str}{vs:List Value}{i:Nat}{m:Str->Option Value},P.Nodup->P[i]? = some x->vs[i]? = some v->kindOf x≠some .local ->
  bindC kindOf (P.zip vs) m x=some v
 | [],_,_,_,_,h,_,_=>by simp at h
 | _ :: _,[],_,_,_,_,h,_=>by simp at h
 | p :: P,w :: vs,0,m,nd,h1,h2,hk=>by
  simp at h1 h2;subst h1;subst h2
  show bindC kindOf ((p,w) :: P.zip vs) m p=_
  unfold bindC
  rw [Zix fun v hv=>(ZqY.mp nd).1 (Zrw hv).1,if_neg hk]
  simp
 | p :: P,w :: vs,i+1,m,nd,h1,h2,hk=>by
  show bindC kindOf ((p,w) :: P.zip vs) m x=_
  unfold bindC
  exact Ziy (i:=i) (ZqY.mp nd).2 (by simpa using h1) (by simpa using h2) hk
noncomputable def start (N:List Str) (vs:List V):St:=vs.map some ++ Zqk (N.length - vs.length) none
noncomputable def Zcd (CX:CXT) (P:Program) (w:World) (K:ZpF) (mg:Str->Option Value) (base:Heap) (N:List Str) (qual:Str) (scope:Scope) (f:Addr) (cd:Value) (A:Around) (outer:List Env) (s:Shared) (H:Hp) (E:XK):Cx where
 prog:=P
 w:=w
 K:=K
 mg:=mg
 base:=base
 A:=A.deeper (envOfC qual scope s.heap.objs.size f cd)
 N:=N
 s₀:=s
 H₀:=H
 env:=envOfC qual scope s.heap.objs.size f cd
 outer:=outer
 stack:=envOfC qual scope s.heap.objs.size f cd :: outer
 ex:=[]
 calm:=true
 fn:=fun _=>true
 pn:=[]
 xe:=fun e s'=>wpAny (model P w) (A.deeper (envOfC qual scope s.heap.objs.size f cd)) (leaving (envOfC qual scope s.heap.objs.size f cd) e) (fun _ s''=>CX outer H s E e s'') (fun e' s''=>CX outer H s E e' s'') s'
theorem ZjT {sc:Scope}{n:Nat}{x:Str} (h:sc.names.lookup x=some .cell):∃ c,(cellsFrom n sc.names []).lookup x=some c:=by
 have q:=Zp8 sc.names n [] (.inl h)
 exact Option.isSome_iff_exists.mp q
theorem ZlF {CX:CXT}{P:Program}{w:World}{K:ZpF}{mg:Str->Option Value}{base:Heap}{N ps:List Str}{qual:Str}{scope:Scope}{f:Addr}{cd:Value}{A:Around}{outer:List Env}{s s1:Shared}{H:Hp}{E:XK}{us:List Value}{vs:List V}
  (S:FnScope N ps scope) (hd:A.handled=none) (e0:Env0 P w K mg base A outer s H) (hl:vs.length=ps.length) (r:Vals vs us)
  (x:InCallC s s.heap.objs.size (bindL (envOfC qual scope s.heap.objs.size f cd).kindOf (ps.zip us) fun _=>none) (cellsFrom (s.heap.objs.size+1) scope.names []) (bindC (envOfC qual scope s.heap.objs.size f cd).kindOf (ps.zip us) fun _=>none) s1) :
  Inv (Zcd CX P w K mg base N qual scope f cd A outer s H E) [] (start N vs) H s1:=by
 have hpl:ps.length<=N.length:=by have:=congrArg List.length S.pre;rw [ZqL] at this;omega
 obtain ⟨h1,tk,rfl,hk⟩:=x.done
 have noA:∀ b:Addr,b ∉ (Zcd CX P w K mg base N qual scope f cd A outer s H E).ex:=fun b z=>absurd (show b∈([]:List Addr) from z) (by simp)
 refine ⟨⟨e0.mod,S.kind,rfl,rfl,ZrN _,fun y z c h1 h2=>?_,fun y hy=>?_,fun y c _ h=>?_,fun _=>hd,Around.frames_deeper e0.frames,.inr ⟨rfl,rfl⟩,fun b z=>absurd z (noA b),e0.bs,e0.bsz,fun b _ _=>noA b,fun b z=>absurd z (noA b),e0.funs,e0.frf⟩,
  rfl,e0.bare,Un.kept hk,⟨_,x.toInCall.ns,fun i y v h1 h2 h3=>?_⟩,fun y c h=>⟨_,x.cell y c h⟩,e0.hok.fresh (ZrN _),fun y c h=>?_,fun p hp=>absurd (show p∈([]:List (Addr × Obj)) from hp) (by simp),e0.hok.kept hk,?_⟩
 ·exact name_of_addr x.apart (PySem.mem_of_lookup h1) (PySem.mem_of_lookup h2)
 ·have hy:scope.names.lookup y=some .cell\/scope.names.lookup y=some .free:=hy
  rcases hy with hy | hy
  ·exact ZjT hy
  ·exact absurd rfl (S.nofree _ (PySem.mem_of_lookup hy))
 ·exact ZrZ (x.above y c (PySem.mem_of_lookup h))
 ·have hi:i<vs.length:=by
   unfold start at h2
   by_cases hi:i<vs.length
   ·exact hi
   ·rw [ZqD (by simpa using hi)] at h2
    rw [Zq7] at h2
    split at h2 <;> cases h2
  have ha:vs[i]? = some v:=by
   unfold start at h2
   rw [ZqC (by simpa using hi),Zqy] at h2
   cases e:vs[i]? with
   | none=>rw [e] at h2;cases h2
   | some a=>rw [e] at h2;cases h2;rfl
  obtain ⟨u,hu,rv⟩:=r.get ha
  have hp:ps[i]? = some y:=by
   rw [<- S.pre,Zrr (by omega)];exact h1
  have ndP:ps.Nodup:=by rw [<- S.pre];exact S.nd.sublist (List.take_sublist _ _)
  refine ⟨u,rv,?_⟩
  rcases S.par y (Zqw hp) with k | k
  ·exact .inl ⟨k,Ziw ndP hp hu k⟩
  ·obtain ⟨c,e⟩:=ZjT (n:=s.heap.objs.size+1) k
   refine .inr ⟨.inl k,c,e,?_⟩
   have q:=x.cell y c e
   rw [Ziy ndP hp hu (by show scope.names.lookup y≠_;rw [k];decide)] at q
   exact q
 ·exact e0.hok.fresh (ZrZ (x.above y c (PySem.mem_of_lookup h)))
 ·unfold start
  show _=N.length
  rw [Zqj,Zqi,Zqv]
  omega
theorem fn_of {CX:CXT}{P:Program}{w:World}{K:ZpF}{mg:Str->Option Value}{base:Heap}{k:Nat}{f:Addr}{name qual:Str}{params:Arguments}{body:List Stmt}{scope:Scope}{dV kV doc pm cdv ct oc:Value}{an od:Option Addr}
  {osl:Array (Option Value)}{N ps:List Str}{sp:Sp} (lk:K.lookup f=some ⟨oc,od,.func (ZpH name qual params body scope dV kV doc pm an cdv ct),osl⟩) (hcd:ZpJ K cdv qual=true) (S:FnScope N ps scope)
  (len:∀ vs H Q E,sp vs H Q E->vs.length=ps.length)
  (hbody:∀ (A:Around) (outer:List Env) (s:Shared) (H:Hp) (vs:List V) (Q:VK) (E:XK),Room k (A.deeper (envOfC qual scope s.heap.objs.size f cdv))->sp vs H Q E ->
   ∃ t,PSs (Zcd CX P w K mg base N qual scope f cdv A outer s H E) body t/\t { nx:=fun _ H'=>Q .non H',rt:=Q } (start N vs) H) :
  FnOk P w K mg base CX (k+1) f (ZpH name qual params body scope dV kV doc pm an cdv ct) ps sp:=by
 refine ⟨len,fun A outer s H args us vs Q E hr e0 hb r hsp=>?_⟩
 have hl:=len _ _ _ _ hsp
 have KX:K.In s.heap:=e0.mod.kin.keeps fun b o e=>(e0.bs b o e).1
 have lim:s.heap.NoLimit:=e0.mod.nolimit.keeps fun b o e=>(e0.bs b o e).1
 have hkind:∀ y∈ps.zip us,scope.names.lookup y.1=some .local\/(scope.names.lookup y.1=some .cell/\((cellsFrom (s.heap.objs.size+1) scope.names []).lookup y.1).isSome=true):=fun ⟨n,v⟩ hy=>by
  rcases S.par n (Zrw hy).1 with q | q
  ·exact .inl q
  ·exact .inr ⟨q,Zp8 _ _ _ (.inl q)⟩
 refine codeAny_call_function hr.depth (KX _ _ lk) rfl S.co S.gen rfl (PySem.W.codeRec_of KX hcd) (hb _ _ _ _ ?_)
 refine wpAny_newFunctionEnv_cells S.kind hkind fun env he s1 x=>?_
 subst he
 refine ⟨lim.keeps x.toInCall.keep,codeAny_func ?_⟩
 obtain ⟨t,ht,hq⟩:=hbody A outer s H vs Q E (hr.deeper _) hsp
 have I:Inv (Zcd CX P w K mg base N qual scope f cdv A outer s H E) [] (start N vs) H s1:=ZlF S hr.hd e0 hl r x
 refine wpAny_mono (ht [] s1 (start N vs) H _ I hq) (fun fl s' hs=>?_) fun e s' hs=>hs
 have fin:∀ {σ':St}{H':Hp}{v:V}{u:Value},Inv (Zcd CX P w K mg base N qual scope f cdv A outer s H E) [] σ' H' s'->Zbr v u->Q v H'->CE outer P w H s Q u s' :=
  fun {σ' H' v u} J rv q=>⟨v,H',J.os,J.bare,J.base,J.hok,rv,q⟩
 cases fl with
 | ret u =>
  obtain ⟨v,σ',H',J,rv,q⟩:=hs
  exact fin J rv q
 | next =>
  obtain ⟨σ',H',J,q⟩:=hs
  exact fin (v:=V.non) (u:=Value.none) J rfl q
 | brk =>
  obtain ⟨_,_,_,q⟩:=hs
  exact False.elim q
 | cont =>
  obtain ⟨_,_,_,q⟩:=hs
  exact False.elim q
section
variable {X:Cx}{x:Str}{p pos:Pos}{e:Expr}{es:List Expr}{t:TA}{id T:String}{r:List V->Hp->VK->Prop}
noncomputable def tCB (r:List V->Hp->VK->Prop) (t:TA):TE:=fun σ H Q=>t σ H fun vs H1=>r vs H1 Q
theorem Zaz (hc:Zc9 X (.builtin id) r) (hg:Gl X x) (hm:X.mg x=none) (hv:bootBuiltins x=some (.builtin id)) (ha:PA X (e :: es) t) (hn:x ≠ "__name__":=by decide) (hdb:(x == ("__debug__" : Str))=false:=by decide)
  (he:starEach (e :: es) X.env=(false,eval e X.env) :: starEach es X.env:=by rfl) (hpl:(backTo pos (starEach es X.env)).any (·.1)=false:=by rfl):PE X (.Call (.Name x p) (e :: es) [] pos) (tCB r t):=by
 intro pins s σ H Q I h
 refine wpAny_Call_Name_kw (ZgL I hg hm hv ?_ hn hdb)
 exact PyProof.Rows.callWith_builtin1 (thn (ha pos pins s σ H _ I h) fun us s1 ⟨vs,H1,I1,r1,q1⟩=>hc pins s1 σ H1 vs us Q I1 r1 q1) he hpl
theorem ZfZ (hc:Zc9 X (.type T) r) (hg:Gl X x) (hm:X.mg x=none) (hv:bootBuiltins x=some (.type T)) (ha:PA X (e :: es) t) (hn:x ≠ "__name__":=by decide) (hdb:(x == ("__debug__" : Str))=false:=by decide)
  (he:starEach (e :: es) X.env=(false,eval e X.env) :: starEach es X.env:=by rfl) (hpl:(backTo pos (starEach es X.env)).any (·.1)=false:=by rfl):PE X (.Call (.Name x p) (e :: es) [] pos) (tCB r t):=by
 intro pins s σ H Q I h
 refine wpAny_Call_Name_kw (ZgL I hg hm hv ?_ hn hdb)
 exact PyProof.Rows.callWith_type1 (thn (ha pos pins s σ H _ I h) fun us s1 ⟨vs,H1,I1,r1,q1⟩=>hc pins s1 σ H1 vs us Q I1 r1 q1) he hpl
end
end L2
namespace HT
open PySem PyProof.Rows
section
open PySem.SeqAt
open PySem.AutoSeq1 (wpAny_loadPart')
open PySem.MeetsSeq PySem.MeetsSeq2 PySem.MeetsSeq3
end
section
variable {prog:Program}{w:World}{A:Around}{E:Value->Shared->Prop}{s:Shared}
end
end HT
namespace L2
open PySem PySem.Spec PyProof.Rows
noncomputable abbrev TO:=St->Hp->(Option Int->Hp->Prop)->Prop
noncomputable def PO (X:Cx) (e:Option Expr) (t:TO):Prop :=
 ∀ (pins:List (Addr × Obj)) (s:Shared) (σ:St) (H:Hp) (Q:Option Int->Hp->Prop),Inv X pins σ H s->t σ H Q ->
  wpAny (model X.prog X.w) X.A (evalPart e X.env) (fun u s'=>∃ o H',Inv X pins σ H' s'/\IsPart u o/\Q o H') X.xe s
theorem ZgN {ns:List Int}:∀ {us:List Value},Vals (ns.map V.int) us->IntsAre us ns:=by
 induction ns with
 | nil=>intro us r;rw [ZqZ] at r;cases r;exact .nil
 | cons n ns ih =>
  intro us r
  rw [ZqB] at r
  cases r with
  | cons r1 r2 =>
   obtain ⟨t,e⟩:=r1
   subst e
   exact .cons n t (ih r2)
section
variable {X:Cx}{e:Expr}{te:TE}{lo hi:Option Expr}{tl th:TO}{pos p2:Pos}
noncomputable def SlR (X:Cx) (r:V->Option Int->Option Int->Hp->VK->Prop):Prop :=
 ∀ (pins:List (Addr × Obj)) (s:Shared) (σ:St) (H:Hp) (x:V) (v vl vu:Value) (lo hi:Option Int) (sl:Addr) (Q:VK),Inv X pins σ H s->Zbr x v->s.heap.IsSliceOf sl vl vu .none->IsPart vl lo->IsPart vu hi->r x lo hi H Q ->
  ∃ T id,typeLookup (.type T) "__getitem__" = pure (some (.builtin id))/\s.TypeIs v T/\wpAny (model X.prog X.w) X.A (getItem v (.ref sl)) (EP X pins σ Q) X.xe s
end
noncomputable def ixN (n:Nat) (i:Int):Option Nat:=if 0<=i then (if i<n then some i.toNat else none) else if -(n:Int)<=i then some (i+n).toNat else none
noncomputable def atI {α:Type} (xs:List α) (i:Int):Option α:=(ixN xs.length i).bind fun j=>xs[j]?
theorem ZlD {n:Nat}{i:Int}{j:Nat} (h:ixN n i=some j):seqIndex? i n=some j/\j<n /\ -(n:Int)<=i/\i<n:=by
 unfold ixN at h
 by_cases h0:0<=i
 ·rw [if_pos h0] at h
  by_cases h1:i<n
  ·rw [if_pos h1] at h
   have e:i.toNat=j:=Option.some.inj h
   exact ⟨by rw [seqIndex_of h0 h1,e],by omega,by omega,h1⟩
  ·rw [if_neg h1] at h;cases h
 ·rw [if_neg h0] at h
  by_cases h1 : -(n:Int)<=i
  ·rw [if_pos h1] at h
   have e:(i+n).toNat=j:=Option.some.inj h
   exact ⟨by rw [seqIndex_neg (by omega) h1,e],by omega,h1,by omega⟩
  ·rw [if_neg h1] at h;cases h
theorem Zjj {α:Type}{xs:List α}{i:Int}{v:α} (h:atI xs i=some v):∃ j,seqIndex? i xs.length=some j/\xs[j]? = some v/\j<xs.length /\ -(xs.length:Int)<=i/\i<xs.length:=by
 unfold atI at h
 cases e:ixN xs.length i with
 | none=>rw [e] at h;cases h
 | some j =>
  rw [e] at h
  obtain ⟨h1,h2,h3,h4⟩:=ZlD e
  exact ⟨j,h1,h,h2,h3,h4⟩
theorem Zpt {α:Type}{xs:List α}{j:Nat}{v:α} (h:xs[j]? = some v):atI xs (j:Int)=some v:=by
 have hj:j<xs.length:=(Zqm.mp h).1
 have e:ixN xs.length (j:Int)=some j:=by
  unfold ixN
  rw [if_pos (by omega),if_pos (by omega)];simp
 unfold atI;rw [e];exact h
noncomputable def ZpC (b:Expr):Prop:=∀ o i,subscripted b false o i=operate [o,i] (getItem o i)
noncomputable def IxR (X:Cx) (r:R2):Prop :=
 ∀ (value slice:Expr) (pins:List (Addr × Obj)) (s:Shared) (σ:St) (H:Hp) (x y:V) (v u:Value) (Q:VK),Inv X pins σ H s->Zbr x v->Zbr y u->r x y H Q ->
  subscripted slice false v u=operate [v,u] (getItem v u)->wpAny (model X.prog X.w) X.A (subscriptTail value slice v u) (EP X pins σ Q) X.xe s
noncomputable def MtR (X:Cx) (id:String) (r:V->List V->Hp->VK->Prop):Prop :=
 ∀ (pins:List (Addr × Obj)) (s:Shared) (σ:St) (H:Hp) (x:V) (xs:List V) (v:Value) (us:List Value) (Q:VK),Inv X pins σ H s->Zbr x v->Vals xs us->r x xs H Q ->
  wpAny (model X.prog X.w) X.A (call (.builtin id) (v :: us)) (EP X pins σ Q) X.xe s
section
variable {X:Cx}{a b:Expr}{ta tb:TE}{pos:Pos}
theorem IxR.or {r r':R2} (h:IxR X r) (h':IxR X r'):IxR X (fun x y H Q=>r x y H Q\/r' x y H Q):=by
 intro value slice pins s σ H x y v u Q I rx ry q hs
 rcases q with q | q
 ·exact h value slice pins s σ H x y v u Q I rx ry q hs
 ·exact h' value slice pins s σ H x y v u Q I rx ry q hs
theorem ZaG {r:R2} (hr:IxR X r) (ha:PE X a ta) (hb:PE X b tb) (hs:ZpC b):PE X (.Subscript a b pos) (tOp r ta tb):=by
 intro pins s σ H Q I h
 exact Subscript_ (binT ha hb I h fun v u s2 x y H2 I2 rx ry q=>hr a b pins s2 σ H2 x y v u Q I2 rx ry q (hs _ _))
noncomputable def rIxL (K:ZpF):R2:=fun x y H Q=>∃ p xs i v,x=.ref p/\y=.int i/\SqL K H p xs/\atI xs i=some v/\Q v H
noncomputable def rIxT (K:ZpF):R2:=fun x y H Q=>∃ p xs i v,x=.ref p/\y=.int i/\SqT K H p xs/\atI xs i=some v/\Q v H
noncomputable def rIxS:R2:=fun x y H Q=>∃ z i c,x=.str z/\y=.int i/\z.length<=sizeLine/\atI z.cps.toList i=some c/\Q (.str ⟨#[c]⟩) H
theorem Zo9:IxR X (rIxL X.K):=by
 intro value slice pins s σ H x y v u Q I rx ry h hs
 obtain ⟨p,xs,i,z,rfl,rfl,hq,he,q⟩:=h
 cases rx
 obtain ⟨t,rfl⟩:=ry
 obtain ⟨its,r,pl,hz⟩:=I.list hq
 obtain ⟨j,h1,h2,h3,h4,h5⟩:=Zjj he
 obtain ⟨w,ew,rw'⟩:=r.get h2
 have hl:=r.length
 have hn:=Zf8
 have fin:EP X pins σ Q w s:=⟨z,H,I,rw',q⟩
 by_cases h0:0<=i
 ·have hj:i.toNat=j:=by
   rw [seqIndex_of h0 h5] at h1
   exact Option.some.inj h1
  exact item_listR pl.isList h0 (by omega) (by rw [hj];simpa using ew) fin hs
 ·have hj:(i+(its.toArray.size:Int)).toNat=j:=by
   rw [seqIndex_neg (by omega) h4] at h1
   rw [Zqu,<- hl]
   exact Option.some.inj h1
  exact subscriptTail_builtinR (x:=w) pl.isList.typeIs slot_list_getitem.lookup
   (wpAny_getItem_list_neg (Q:=fun r s'=>r=w/\EP X pins σ Q r s') pl.isList (by omega) (by rw [Zqu] <;> omega) (by omega) (by rw [hj];simpa using ew) ⟨rfl,fin⟩) hs
theorem ix_tup:IxR X (rIxT X.K):=by
 intro value slice pins s σ H x y v u Q I rx ry h hs
 obtain ⟨p,xs,i,z,rfl,rfl,hq,he,q⟩:=h
 cases rx
 obtain ⟨t,rfl⟩:=ry
 obtain ⟨its,r,pl,hz⟩:=I.tuple hq
 obtain ⟨j,h1,h2,h3,h4,h5⟩:=Zjj he
 obtain ⟨w,ew,rw'⟩:=r.get h2
 have hl:=r.length
 have hn:=Zf8
 have fin:EP X pins σ Q w s:=⟨z,H,I,rw',q⟩
 exact subscriptTail_builtinR (x:=w) pl.typeIs slot_tuple_getitem.lookup
  (getItem_tuple (j:=j) (Q:=fun r s'=>r=w/\EP X pins σ Q r s') pl (by omega) (by omega) (by rw [Zqu,<- hl];exact h1) (by simpa using ew) ⟨rfl,fin⟩) hs
theorem ix_str:IxR X rIxS:=by
 intro value slice pins s σ H x y v u Q I rx ry h hs
 obtain ⟨z,i,c,rfl,rfl,hz,he,q⟩:=h
 obtain ⟨t,rfl⟩:=rx
 obtain ⟨t',rfl⟩:=ry
 obtain ⟨j,h1,h2,h3,h4,h5⟩:=Zjj he
 have hl:z.cps.toList.length=z.length:=by simp [Str.length]
 rw [hl] at h1 h4 h5
 have hn:=Zf8
 exact tail_any (typeIs_str s z t) slot_str_getitem.lookup (getItem_str (c:=c) (by
  have e1:decide (i < -(2 ^ 63:Int))=false:=decide_eq_false (by omega)
  have e2:decide (i ≥ 2 ^ 63)=false:=decide_eq_false (by omega)
  rw [e1,e2,Bool.or_false]) (by rw [h1];simpa using h2) ⟨.str ⟨#[c]⟩,H,I.tok _,⟨_,rfl⟩,q⟩) hs
noncomputable def rIx (K:ZpF):R2:=fun x y H Q=>rIxL K x y H Q\/rIxT K x y H Q\/rIxS x y H Q
theorem ix_seq:IxR X (rIx X.K):=Zo9.or (ix_tup.or ix_str)
theorem Zki (its:List Value) (n j:Nat) (u:Value):Obj.mapSeq (·.setIfInBounds j u) { cls:=.type "list",data:=.seq its.toArray n }={ cls:=.type "list",data:=.seq (its.set j u).toArray n }:=by
 simp [Obj.mapSeq]
theorem Inv.lst {pins:List (Addr × Obj)}{σ:St}{H:Hp}{s:Shared}{p:Addr}{xs:List V} (I:Inv X pins σ H s) (h:H p=some (.lst xs)) :
  ∃ (its:List Value) (n:Nat),Vals xs its/\s.heap.get? p=some { cls:=.type "list",data:=.seq its.toArray n }/\xs.length<=sizeLine:=by
 obtain ⟨z,its,n,r,e⟩:=I.hok p _ h
 exact ⟨its,n,r,e,z⟩
theorem Inv.lstUpd {pins:List (Addr × Obj)}{σ:St}{H:Hp}{s:Shared}{p:Addr}{xs ys:List V}{its its':List Value}{n n':Nat}{f:Obj->Obj} (I:Inv X pins σ H s) (h:H p=some (.lst xs))
  (ho:s.heap.get? p=some { cls:=.type "list",data:=.seq its.toArray n }) (hf:f { cls:=.type "list",data:=.seq its.toArray n }={ cls:=.type "list",data:=.seq its'.toArray n' }) (r:Vals ys its') (hz:ys.length<=sizeLine) (t:Nat) :
  Inv X pins σ (upd H p (.lst ys)) { s with heap:=s.heap.update p f,toks:=t }:=by
 have e:(s.heap.update p f).get? p=some { cls:=.type "list",data:=.seq its'.toArray n' }:=by
  rw [Heap.get?_update_self f ho (by rw [hf] <;> rfl),hf]
 refine I.write (x:=p) (e:=p) (by rw [h];trivial) (.inl rfl) (fun b u hb q=>(Heap.get?_update_other _ _ (Ne.symm hb)).trans q) ⟨_,e⟩ ?_
 exact ⟨hz,its',n',r,e⟩
noncomputable def Zol:V->V->V->Hp->(Hp->Prop)->Prop:=fun o i v H Q=>∃ p xs k j,o=.ref p/\i=.int k/\H p=some (.lst xs)/\ixN xs.length k=some j/\Q (upd H p (.lst (xs.set j v)))
theorem ZjC:PSet X Zol:=by
 intro pins s σ H o i v ov iv u Q I ro ri rv h
 obtain ⟨p,xs,k,j,rfl,rfl,hp,hj,q⟩:=h
 cases ro
 obtain ⟨t,rfl⟩:=ri
 obtain ⟨its,n,r,ho,hz⟩:=I.lst hp
 obtain ⟨h1,h2,h3,h4⟩:=ZlD hj
 have hl:=r.length
 have hn:=Zf8
 have I':Inv X pins σ (upd H p (.lst (xs.set j v))) { s with heap:=s.heap.update p (Obj.mapSeq (·.setIfInBounds j u)) } :=
  I.lstUpd hp ho (Zki its n j u) (r.set rv j) (by rw [List.length_set];exact hz) s.toks
 by_cases h0:0<=k
 ·have hk:k.toNat=j:=by
   rw [seqIndex_of h0 h4] at h1
   exact Option.some.inj h1
  exact PySem.W.ki_setAt ho h0 (by omega) (by rw [Zqu,<- hl];exact h4) (by rw [hk];exact ⟨_,I',q⟩)
 ·have hk:(k+(its.toArray.size:Int)).toNat=j:=by
   rw [seqIndex_neg (by omega) h3] at h1
   rw [Zqu,<- hl]
   exact Option.some.inj h1
  exact PySem.W.ki_setBack ho (by omega) (by rw [Zqu,<- hl];exact h3) (by omega) (by rw [hk];exact ⟨_,I',q⟩)
noncomputable def ZcO:V->Bool
 | .non=>true
 | .bl _=>true
 | .int _=>true
 | .str _=>true
 | _=>false
noncomputable def eqV:V->V->Bool
 | .non,.non=>true
 | .bl a,.bl b=>a == b
 | .bl a,.int b=>(if a then 1 else 0) == b
 | .int a,.bl b=>a == (if b then 1 else 0)
 | .int a,.int b=>a == b
 | .str a,.str b=>a == b
 | _,_=>false
theorem ZlS {A:Around}{s:Shared}{y x:V}{u v:Value} (ry:Zbr y u) (rx:Zbr x v) (fy:ZcO y=true) (fx:ZcO x=true):SeqAt.EqAt A s u v (eqV y x):=by
 cases y with
 | non =>
  cases ry
  cases x with
  | non=>cases rx;exact SeqAt.EqAt.same _
  | bl b=>cases rx;exact SeqAt.EqAt.none_bool b
  | int b=>obtain ⟨t,rfl⟩:=rx;exact SeqAt.EqAt.none_int b t
  | str b=>obtain ⟨t,rfl⟩:=rx;exact SeqAt.EqAt.none_str b t
  | _=>exact absurd (show false=true from fx) Zsq
 | bl a =>
  cases ry
  cases x with
  | non=>cases rx;exact SeqAt.EqAt.bool_none a
  | bl b=>cases rx;exact SeqAt.EqAt.bool_bool a b
  | int b=>obtain ⟨t,rfl⟩:=rx;exact SeqAt.EqAt.bool_int a b t
  | str b=>obtain ⟨t,rfl⟩:=rx;exact SeqAt.EqAt.bool_str a b t
  | _=>exact absurd (show false=true from fx) Zsq
 | int a =>
  obtain ⟨t',rfl⟩:=ry
  cases x with
  | non=>cases rx;exact SeqAt.EqAt.int_none a t'
  | bl b=>cases rx;exact SeqAt.EqAt.int_bool a t' b
  | int b=>obtain ⟨t,rfl⟩:=rx;exact SeqAt.EqAt.int_int a t' b t
  | str b=>obtain ⟨t,rfl⟩:=rx;exact SeqAt.EqAt.int_str a t' b t
  | _=>exact absurd (show false=true from fx) Zsq
 | str a =>
  obtain ⟨t',rfl⟩:=ry
  cases x with
  | non=>cases rx;exact SeqAt.EqAt.str_none a t'
  | bl b=>cases rx;exact SeqAt.EqAt.str_bool a t' b
  | int b=>obtain ⟨t,rfl⟩:=rx;exact SeqAt.EqAt.str_int a t' b t
  | str b=>obtain ⟨t,rfl⟩:=rx;exact SeqAt.EqAt.str_str a t' b t
  | _=>exact absurd (show false=true from fx) Zsq
 | _=>exact absurd (show false=true from fy) Zsq
noncomputable def eqU (x:V) (u:Value):Bool:=match u with
 | .none=>eqV .non x
 | .bool b=>eqV (.bl b) x
 | .int i _=>eqV (.int i) x
 | .str z _=>eqV (.str z) x
 | _=>false
theorem ZnR {x y:V}{u:Value} (r:Zbr y u) (f:ZcO y=true):eqU x u=eqV y x:=by
 cases y with
 | non=>cases r;rfl
 | bl b=>cases r;rfl
 | int i=>obtain ⟨t,rfl⟩:=r;rfl
 | str z=>obtain ⟨t,rfl⟩:=r;rfl
 | _=>exact absurd (show false=true from f) Zsq
theorem Zjk {x:V}:∀ {xs:List V}{us:List Value},Vals xs us->xs.all ZcO=true->us.any (eqU x)=xs.any fun y=>eqV y x
 | _,_,.nil,_=>rfl
 | y :: xs,u :: us,.cons r t,f=>by
  rw [List.all_cons,Zsr] at f
  rw [Zq8,Zq8,ZnR r f.1,Zjk t f.2]
theorem Zhq {A:Around}{s:Shared}{x:V}{v:Value} (rx:Zbr x v) (fx:ZcO x=true):∀ {xs:List V}{us:List Value},Vals xs us->xs.all ZcO=true->∀ u∈us,SeqAt.EqAt A s u v (eqU x u)
 | _,_,.nil,_=>fun u hu=>by cases hu
 | y :: xs,u :: us,.cons r t,f=>fun u' hu=>by
  rw [List.all_cons,Zsr] at f
  rcases Zqt.mp hu with rfl | hu
  ·rw [ZnR r f.1];exact ZlS r rx f.1 fx
  ·exact Zhq rx fx t f.2 u' hu
noncomputable def inV (x:V) (xs:List V):Bool:=xs.any fun y=>eqV y x
noncomputable def rIn (K:ZpF) (neg:Bool):R2:=fun x y H Q=>∃ p xs,y=.ref p/\(SqL K H p xs\/SqT K H p xs)/\ZcO x=true/\xs.all ZcO=true/\Q (.bl (if neg then !inV x xs else inV x xs)) H
theorem Zh7:OpR X (compareOp .NotIn) (rIn X.K true):=by
 intro pins s σ H x y v u Q I rx ry h
 obtain ⟨p,xs,rfl,hq,fx,fs,q⟩:=h
 cases ry
 rcases hq with hq | hq
 ·obtain ⟨its,r,pl,hz⟩:=I.list hq
  refine SeqAt.notIn_listAt (eqU x) pl.isList (fun w hw=>Zhq rx fx r fs w (by simpa using hw)) ⟨.bl _,H,I,rfl,?_⟩
  rw [show its.toArray.any (eqU x)=its.any (eqU x) by simp,Zjk r fs]
  exact q
 ·obtain ⟨its,r,pl,hz⟩:=I.tuple hq
  refine SeqAt.notIn_tupleAt (eqU x) pl (fun w hw=>Zhq rx fx r fs w (by simpa using hw)) ⟨.bl _,H,I,rfl,?_⟩
  rw [show its.toArray.any (eqU x)=its.any (eqU x) by simp,Zjk r fs]
  exact q
theorem Zh6:OpR X (compareOp .NotIn) (fun x y H Q=>∃ i j,x=.str i/\y=.str j/\Q (.bl (!(!(Builtin.Str.occurrences j i 0 j.length 1).isEmpty))) H):=by
 intro pins s σ H x y v u Q I rx ry h
 obtain ⟨i,j,rfl,rfl,q⟩:=h
 obtain ⟨t,rfl⟩:=rx
 obtain ⟨t',rfl⟩:=ry
 exact notIn_str ⟨.bl _,H,I,rfl,q⟩
theorem Zir:Zc9 X (.builtin "len") (fun xs H Q=>∃ p ys,xs=[.ref p]/\(SqL X.K H p ys\/SqT X.K H p ys)/\Q (.int ys.length) H):=by
 intro pins s σ H xs us Q I r h
 obtain ⟨p,ys,rfl,hq,q⟩:=h
 obtain ⟨u,rfl,rx⟩:=Zgt r
 cases rx
 have hn:=Zf8
 rcases hq with hq | hq
 ·obtain ⟨its,r',pl,hz⟩:=I.list hq
  have hlen:=r'.length
  exact Calls.call_len_list pl.isList (by simp only [Zqu] <;> omega) ⟨.int ys.length,H,I.tok _,⟨s.toks+1,by rw [Zqu,hlen]⟩,q⟩
 ·obtain ⟨its,r',pl,hz⟩:=I.tuple hq
  have hlen:=r'.length
  exact len_tuple pl (by simp only [Zqu] <;> omega) ⟨.int ys.length,H,I.tok _,⟨s.toks+1,by rw [Zqu,hlen]⟩,q⟩
theorem Ziq:Zc9 X (.builtin "len") (fun xs H Q=>∃ z,xs=[.str z]/\z.length<=sizeLine/\Q (.int z.length) H):=by
 intro pins s σ H xs us Q I r h
 obtain ⟨z,rfl,hz,q⟩:=h
 obtain ⟨u,rfl,t,rfl⟩:=Zgt r
 have hn:=Zf8
 exact len_str (by omega) ⟨.int z.length,H,I.tok _,⟨_,rfl⟩,q⟩
theorem Zip:Zc9 X (.type "list") (fun xs H Q=>∃ p ys,xs=[.ref p]/\(SqL X.K H p ys\/SqT X.K H p ys)/\∀ l,H l=none->Q (.ref l) (upd H l (.lst ys))):=by
 intro pins s σ H xs us Q I r h
 obtain ⟨p,ys,rfl,hq,q⟩:=h
 obtain ⟨u,rfl,rx⟩:=Zgt r
 cases rx
 have fin:∀ (its:List Value),Vals ys its->ys.length<=sizeLine->∀ (h':Heap) (c':Nat),(∀ b o',s.heap.get? b=some o'->h'.get? b=some o') ->
   h'.get? s.heap.objs.size=some { cls:=.type "list",dict:=none,data:=.seq its.toArray c',slots:=#[] }->EP X pins σ Q (.ref s.heap.objs.size) { s with heap:=h' }:=fun its r' hz h' c' kp e =>
  ⟨.ref s.heap.objs.size,_,I.laid (t':=s.toks) kp (ZrN _) (show ZbK X.prog X.w _ h' _ (.lst ys) from ⟨hz,its,c',r',e⟩),rfl,q _ (I.hok.fresh (ZrN _))⟩
 rcases hq with hq | hq
 ·obtain ⟨its,r',pl,hz⟩:=I.list hq
  have hlen:=r'.length
  obtain ⟨o,ho,hc,n,hd⟩:=pl.isList
  exact call_list_seq p (.inl rfl) ho hc hd (fun h' c' kp e=>fin its r' hz h' c' kp e) (by simp only [Zqu] <;> omega)
 ·obtain ⟨its,r',pl,hz⟩:=I.tuple hq
  have hlen:=r'.length
  obtain ⟨o,ho,hc,n,hd⟩:=pl
  exact call_list_seq p (.inr rfl) ho hc hd (fun h' c' kp e=>fin its r' hz h' c' kp e) (by simp only [Zqu] <;> omega)
noncomputable def tyV (K:ZpF) (T:String) (x:V) (H:Hp):Prop:=match x with
 | .str _=>T = "str"
 | .int _=>T = "int"
 | .ref p=>(T = "list" /\ ∃ xs,SqL K H p xs)\/(T = "tuple" /\ ∃ o,K.lookup p=some o/\o.cls=.type "tuple" /\ o.dict=none) \/
   (T = "dict" /\ ((∃ kvs,H p=some (.dK kvs))\/∃ kvs,H p=some (.dT kvs)))\/(T = "set" /\ ∃ S n,H p=some (.set S n))
 | _=>False
theorem Zns {pins:List (Addr × Obj)}{σ:St}{H:Hp}{s:Shared}{T:String}{x:V}{v:Value} (I:Inv X pins σ H s) (r:Zbr x v) (ty:tyV X.K T x H) :
  s.TypeIs v T/\∀ a,v=.ref a->∃ ob,s.heap.get? a=some ob/\ob.dict=none:=by
 cases x with
 | str z =>
  obtain ⟨t,rfl⟩:=r
  cases (show T = "str" from ty)
  exact ⟨typeIs_str s z t,fun _ e=>nomatch e⟩
 | int i =>
  obtain ⟨t,rfl⟩:=r
  cases (show T = "int" from ty)
  exact ⟨typeIs_int s i t,fun _ e=>nomatch e⟩
 | ref p =>
  cases r
  rcases ty with ⟨rfl,xs,hq⟩ | ⟨rfl,o,hk,hc,hd⟩ | ⟨rfl,hk⟩ | ⟨rfl,S,n,hk⟩
  ·obtain ⟨its,_,pl,_⟩:=I.list hq
   refine ⟨pl.isList.typeIs,fun a e=>?_⟩
   cases e
   obtain ⟨o,n,e,c,hd,_⟩:=pl
   exact ⟨o,e,hd⟩
  ·refine ⟨⟨o,I.kIn p o hk,hc⟩,fun a e=>?_⟩
   cases e
   exact ⟨o,I.kIn _ o hk,hd⟩
  ·have z:∃ o,s.heap.get? p=some o/\o.ExactDict:=by
    rcases hk with ⟨kvs,hk⟩ | ⟨kvs,hk⟩
    ·obtain ⟨_,_,_,_,o,_,_,e,ex,_⟩:=I.hok p _ hk
     exact ⟨o,e,ex⟩
    ·obtain ⟨_,_,_,_,o,_,_,e,ex,_⟩:=I.hok p _ hk
     exact ⟨o,e,ex⟩
   obtain ⟨o,e,ex⟩:=z
   refine ⟨⟨o,e,ex.1⟩,fun a e2=>?_⟩
   cases e2
   exact ⟨o,e,ex.2.1⟩
  ·obtain ⟨o,_,_,_,e,ex,_⟩:=I.hok p _ hk
   refine ⟨⟨o,e,ex.1⟩,fun a e2=>?_⟩
   cases e2
   exact ⟨o,e,ex.2.1⟩
 | _=>exact False.elim ty
noncomputable def tBM0 (K:ZpF) (T:String) (r:V->List V->Hp->VK->Prop) (to:TE):TE:=fun σ H Q=>to σ H fun x H1=>tyV K T x H1/\r x [] H1 Q
noncomputable def tBM (K:ZpF) (T:String) (r:V->List V->Hp->VK->Prop) (to:TE) (t:TA):TE:=fun σ H Q=>to σ H fun x H1=>tyV K T x H1/\t σ H1 fun xs H2=>r x xs H2 Q
variable {o e:Expr}{es:List Expr}{to:TE}{t:TA}{name:Str}{apos cpos:Pos}{T id:String}{r:V->List V->Hp->VK->Prop}
theorem ZnA (pa:PlainAttrs T) (slot:Slot T name id) (hty:typeOf (.builtin id)=pure (.type "method_descriptor")) (hm:MtR X id r) (ho:PE X o to)
  (hbase:attributeBase o name X.env (eval o X.env)=eval o X.env:=by rfl) (hline:(apos.endLine == cpos.line)=true:=by rfl):PE X (.Call (.Attribute o name apos) [] [] cpos) (tBM0 X.K T r to):=by
 intro pins s σ H Q I h
 refine wpAny_Call_method0_late hbase hline (thn (ho pins s σ H _ I h) fun v s1 ⟨x,H1,I1,r1,ty,q1⟩=>?_)
 obtain ⟨h1,h2⟩:=Zns I1 r1 ty
 exact ⟨T,id,pa,slot,hty,h1,h2,Calls.callWith_builtin rfl (PySem.evalArgs_none (hm pins s1 σ H1 x [] v [] Q I1 r1 .nil q1))⟩
theorem Zeg (pa:PlainAttrs T) (slot:Slot T name id) (hty:typeOf (.builtin id)=pure (.type "method_descriptor")) (hm:MtR X id r) (ho:PE X o to) (ha:PA X (e :: es) t)
  (hbase:attributeBase o name X.env (eval o X.env)=eval o X.env:=by rfl)
  (hfew:((backTo cpos (starEach (e :: es) X.env)).all (fun x=>!x.1) && (backToKw cpos (keywordEach [] X.env)).all (fun x=>x.1.isSome)
   && decide ((e :: es).length+([]:List Keyword).length+(if ([]:List Keyword).isEmpty then 0 else 1)<30))=true:=by rfl)
  (hline:(apos.endLine == cpos.line)=true:=by rfl) (hs:starEach (e :: es) X.env=(false,eval e X.env) :: starEach es X.env:=by rfl) (hplain:(backTo cpos (starEach es X.env)).any (·.1)=false:=by rfl) :
  PE X (.Call (.Attribute o name apos) (e :: es) [] cpos) (tBM X.K T r to t):=by
 intro pins s σ H Q I h
 refine wpAny_Call_method_late hbase hfew hline rfl (thn (ho pins s σ H _ I h) fun v s1 ⟨x,H1,I1,r1,ty,q1⟩=>?_)
 obtain ⟨h1,h2⟩:=Zns I1 r1 ty
 refine ⟨T,id,pa,slot,hty,h1,h2,?_⟩
 have hA:=ha cpos pins s1 σ H1 _ I1 q1
 rw [hs] at hA ⊢
 refine Calls.callWith_builtin (by show (false || (backTo cpos (starEach es X.env)).any (·.1))=false;rw [hplain] <;> rfl) (Calls.evalArgs_plain ?_)
 exact thn hA fun us s2 ⟨vs,H2,I2,r2,q2⟩=>hm pins s2 σ H2 x vs v us Q I2 r1 r2 q2
/- xs.append(e),list.index on a module's tuple .. are MtR facts of 06m -/
end
noncomputable def MtM (X:Cx) (id:String) (r:V->List V->Hp->VK->Prop):Prop :=
 ∀ (pins:List (Addr × Obj)) (s:Shared) (σ:St) (H:Hp) (x:V) (xs:List V) (v:Value) (us:List Value) (Q:VK),Inv X pins σ H s->Zbr x v->Vals xs us->r x xs H Q ->
  wpAny (model X.prog X.w) X.A (call (.builtin id) (v :: us)) (EP X pins σ Q) X.xe s
theorem Vals.one:∀ {x:V}{us:List Value},Vals [x] us->∃ u,us=[u]/\Zbr x u
 | _,_,.cons r .nil=>⟨_,rfl,r⟩
theorem Vals.two:∀ {x y:V}{us:List Value},Vals [x,y] us->∃ u v,us=[u,v]/\Zbr x u/\Zbr y v
 | _,_,_,.cons r (.cons q .nil)=>⟨_,_,rfl,r,q⟩
theorem Vals.zero:∀ {us:List Value},Vals [] us->us=[]
 | _,.nil=>rfl
theorem Vals.dropLast {xs:List V}{us:List Value} (h:Vals xs us):Vals xs.dropLast us.dropLast:=by
 induction h with
 | nil=>exact .nil
 | cons r t ih =>
  cases t with
  | nil=>exact .nil
  | cons q t'=>exact .cons r ih
theorem Vals.eraseIdx:∀ {xs:List V}{us:List Value} (i:Nat),Vals xs us->Vals (xs.eraseIdx i) (us.eraseIdx i)
 | _,_,_,.nil=>.nil
 | _,_,0,.cons _ t=>t
 | _,_,i+1,.cons r t=>.cons r (Vals.eraseIdx i t)
theorem Vals.reverse {xs:List V}{us:List Value} (h:Vals xs us):Vals xs.reverse us.reverse:=by
 induction h with
 | nil=>exact .nil
 | cons r t ih=>rw [List.reverse_cons,List.reverse_cons];exact Vals.append ih (.cons r .nil)
theorem Vals.rep {xs:List V}{us:List Value} (h:Vals xs us):∀ k:Nat,Vals (Zqk k xs).flatten (Zqk k us).flatten
 | 0=>.nil
 | k+1=>by
  rw [ZqS,ZqS,Zrj,Zrj]
  exact Vals.append h (Vals.rep h k)
theorem Zkq {α:Type} (l:List α):l.eraseIdx (l.length - 1)=l.dropLast:=by
 induction l with
 | nil=>rfl
 | cons a r ih =>
  cases r with
  | nil=>rfl
  | cons b r =>
   have e:(a :: b :: r).length - 1=((b :: r).length - 1)+1:=by
    have h1:(a :: b :: r).length=r.length+2:=rfl
    have h2:(b :: r).length=r.length+1:=rfl
    omega
   rw [e,List.eraseIdx_cons_succ,ih]
   all_goals rfl
theorem Zin (its:List Value):∀ (k:Nat) (acc:List Value),
  List.foldl (fun x1 x2=>x1 ++ x2) acc.toArray (Zqk k its.toArray)=(acc ++ (Zqk k its).flatten).toArray
 | 0,acc=>by simp
 | k+1,acc=>by
  have e:acc.toArray ++ its.toArray=(acc ++ its).toArray:=by simp
  have e2:(acc ++ its) ++ (Zqk k its).flatten=acc ++ (Zqk (k+1) its).flatten:=by
   rw [ZqS,Zrj,ZqE]
  rw [<- e2,<- Zin its k (acc ++ its),<- e,ZqS,List.foldl_cons]
section
variable {X:Cx}{pins:List (Addr × Obj)}{σ:St}{H:Hp}{s:Shared}{l b:Addr}{xs ys zs:List V}
theorem Inv.lset {its its':List Value}{n:Nat}{f:Array Value->Array Value}{t':Nat} (I:Inv X pins σ H s) (hH:H l=some (.lst xs))
  (e:s.heap.get? l=some { cls:=.type "list",data:=.seq its.toArray n }) (hf:f its.toArray=its'.toArray) (hv:Vals ys its') (hz:ys.length<=sizeLine) :
  Inv X pins σ (upd H l (.lst ys)) { s with heap:=s.heap.update l (Obj.mapSeq f),toks:=t' }:=by
 have q:=PySem.IsL.update e f
 rw [hf] at q
 refine I.write (x:=l) (e:=l) (by rw [hH];exact trivial) (.inl rfl) (fun b' u hb hu=>(Heap.get?_update_other s.heap (Obj.mapSeq f) (Ne.symm hb)).trans hu) ⟨_,q⟩ ?_
 exact ⟨hz,its',_,hv,q⟩
theorem Inv.lnew {its:List Value}{t':Nat} (I:Inv X pins σ H s) (hv:Vals ys its) (hz:ys.length<=sizeLine) :
  Inv X pins σ (upd H s.heap.objs.size (.lst ys)) { s with heap:=s.heap.push { cls:=.type "list",data:=.seq its.toArray },toks:=t' } :=
 I.laid (fun _ _ q=>Heap.get?_push_of_some _ q) (ZrN _) ⟨hz,its,0,hv,Heap.get?_push_size _ rfl⟩
theorem Inv.fresh (I:Inv X pins σ H s):H s.heap.objs.size=none:=I.hok.fresh (ZrN _)
theorem Inv.lstM (I:Inv X pins σ H s) (hH:H l=some (.lst xs)):xs.length<=sizeLine/\∃ (its:List Value) (n:Nat),Vals xs its/\xs.length=its.length/\s.heap.get? l=some { cls:=.type "list",data:=.seq its.toArray n }:=by
 obtain ⟨z,its,n,r,e⟩:=I.hok l _ hH
 exact ⟨z,its,n,r,r.length,e⟩
theorem ZmQ {n:Nat} (h:n<=sizeLine):Builtin.List.listTooLong n=false:=by
 unfold Builtin.List.listTooLong
 exact decide_eq_false (by omega)
end
section
variable {X:Cx}
noncomputable def ZbI:V->List V->Hp->VK->Prop:=fun x vs H Q=>∃ l xs y,x=.ref l/\vs=[y]/\H l=some (.lst xs)/\xs.length<sizeLine/\Q .non (upd H l (.lst (xs ++ [y])))
theorem Za9:MtM X "list.append" ZbI:=by
 intro pins s σ H x vs v us Q I rx rv h
 obtain ⟨l,xs,y,rfl,rfl,hH,hz,q⟩:=h
 cases rx
 obtain ⟨u,rfl,ru⟩:=rv.one
 obtain ⟨z,its,n,r,hl,e⟩:=I.lstM hH
 refine call_meets F.slot_list_append ⟨_,e,rfl⟩ F.entry_list_append (F.args_list_append_2 _ _) (PySem.list_append l its.toArray n u (by rw [Zqu];omega)) ⟨e,?_⟩
 refine ⟨.non,_,I.lset (its':=its ++ [u]) hH e (by simp) (r.append (.cons ru .nil)) ?_,rfl,q⟩
 rw [Zqj,Zqx]
 omega
noncomputable def rPop:V->List V->Hp->VK->Prop:=fun x vs H Q=>∃ l xs y,x=.ref l/\vs=[]/\H l=some (.lst xs)/\xs[xs.length - 1]? = some y/\Q y (upd H l (.lst xs.dropLast))
theorem ZnO:MtM X "list.pop" rPop:=by
 intro pins s σ H x vs v us Q I rx rv h
 obtain ⟨l,xs,y,rfl,rfl,hH,hy,q⟩:=h
 cases rx
 have hus:=rv.zero
 subst hus
 obtain ⟨z,its,n,r,hl,e⟩:=I.lstM hH
 obtain ⟨u,hu,ru⟩:=r.get hy
 have hy':its.toArray[its.toArray.size - 1]? = some u:=by
  show its.toArray[its.length - 1]? = some u
  rw [<- Zse,<- hl]
  exact hu
 refine call_meets F.slot_list_pop ⟨_,e,rfl⟩ F.entry_list_pop (F.args_list_pop_1 _) (MeetsSeq.list_pop_last l its.toArray n u hy' (by rw [Zqu];omega)) ⟨e,?_⟩
 refine ⟨y,_,I.lset (its':=its.dropLast) hH e ?_ r.dropLast ?_,ru,q⟩
 ·show its.toArray.eraseIdxIfInBounds (its.toArray.size - 1)=its.dropLast.toArray
  rw [Zqu,List.eraseIdxIfInBounds_toArray,Zkq]
 ·rw [List.length_dropLast]
  omega
noncomputable def rCat:R2:=fun x y H Q=>∃ l b xs zs,x=.ref l/\y=.ref b/\H l=some (.lst xs)/\H b=some (.lst zs)/\xs.length+zs.length<=sizeLine/\∀ p,H p=none->Q (.ref p) (upd H p (.lst (xs ++ zs)))
theorem op_cat:OpR X (binaryOp .Add) rCat:=by
 intro pins s σ H x y v u Q I rx ry h
 obtain ⟨l,b,xs,zs,rfl,rfl,hH,hB,hz,q⟩:=h
 cases rx
 cases ry
 obtain ⟨z,its,n,r,hl,e⟩:=I.lstM hH
 obtain ⟨z2,its2,n2,r2,hl2,e2⟩:=I.lstM hB
 refine PySem.P.add_list e e2 ?_ (by rw [Zqu,Zqu];omega)
 have ea:its.toArray ++ its2.toArray=(its ++ its2).toArray:=by simp
 rw [ea]
 exact ⟨.ref _,_,I.lnew (t':=s.toks) (r.append r2) (by rw [Zqj];omega),rfl,q _ I.fresh⟩
noncomputable def rRep:R2:=fun x y H Q=>∃ l k xs,x=.ref l/\y=.int k/\H l=some (.lst xs) /\ -(2 ^ 63)<=k/\k<2 ^ 63/\xs.length * k.toNat<=sizeLine /\
 ∀ p,H p=none->Q (.ref p) (upd H p (.lst (Zqk k.toNat xs).flatten))
theorem Zo5 {α:Type} (xs:List α) (k:Nat):(Zqk k xs).flatten.length=k * xs.length:=by
 induction k with
 | zero=>simp
 | succ k ih=>rw [ZqS,Zrj,Zqj,ih,Nat.succ_mul,Nat.add_comm]
theorem op_rep:OpR X (binaryOp .Mult) rRep:=by
 intro pins s σ H x y v u Q I rx ry h
 obtain ⟨l,k,xs,rfl,rfl,hH,h1,h2,hz,q⟩:=h
 cases rx
 obtain ⟨t,rfl⟩:=ry
 obtain ⟨z,its,n,r,hl,e⟩:=I.lstM hH
 have hlen:its.toArray.size * k.toNat<=sizeLine:=by rw [Zqu,<- hl];exact hz
 have hcap:¬ its.toArray.size * k.toNat > (2 ^ 63 - 1) / 8:=by
  have:(sizeLine:Nat)<=(2 ^ 63 - 1) / 8:=by decide
  omega
 have hfit:¬ (!Builtin.List.listFitsIndex k)=true:=by
  rw [fitsIndex_both h1 h2]
  exact Zsq
 have hlong:¬ Builtin.List.listTooLong (its.toArray.size * k.toNat)=true:=by
  rw [ZmQ hlen]
  exact Zsq
 have hnew:List.foldl (fun x1 x2=>x1 ++ x2) #[] (Zqk (if its.toArray.isEmpty=true then 0 else k.toNat) its.toArray)=(Zqk k.toNat its).flatten.toArray:=by
  have f0:∀ m:Nat,List.foldl (fun x1 x2=>x1 ++ x2) #[] (Zqk m its.toArray)=(Zqk m its).flatten.toArray:=fun m=>by
   have:=Zin its m []
   rw [List.nil_append] at this
   exact this
  rw [f0]
  cases its with
  | nil=>simp
  | cons a r'=>rw [if_neg (by simp)]
 refine wpAny_binaryOp_repeat_ref (T:="list") (U:="int") (by decide) ⟨_,e,rfl⟩ (fun s'=>typeIs_int s' k t) noFill_list_mul F.fills_int_mul F.slot_int_rmul repeat_list F.slot_int_index.lookup
  (call_meets F.slot_int_rmul (typeIs_int s k t) F.entry_int_rmul (F.args_int_rmul_2 _ _) (int___rmul___int_list k t l its.toArray n)
   ⟨e,rfl,⟨_,e,rfl⟩,call_meets F.slot_list_mul ⟨_,e,rfl⟩ F.entry_list_mul (F.args_list_mul_2 _ _) (AutoListH.list___mul___list_int_3 l its.toArray n k t hfit hcap hlong) ⟨e,?_⟩⟩)
 rw [hnew]
 exact ⟨.ref _,_,I.lnew (t':=s.toks) (r.rep k.toNat) (by rw [Zo5,Nat.mul_comm];exact hz),rfl,q _ I.fresh⟩
end
section
variable {prog:Program}{w:World}{A:Around}{E:Value->Shared->Prop}{s:Shared}
end
section
variable {X:Cx}
end
section
variable {κ:Type} [DecidableEq κ]
noncomputable def Ze4 (kvs:List (κ × V)) (k:κ):Option V:=(kvs.find? fun kv=>decide (kv.1=k)).map (·.2)
noncomputable def ZeO (kvs:List (κ × V)) (k:κ) (v:V):List (κ × V) :=
 if (kvs.any fun kv=>decide (kv.1=k))=true then kvs.map (fun kv=>if kv.1=k then (kv.1,v) else kv) else kvs ++ [(k,v)]
noncomputable def Zjb (kvs:List (κ × V)) (k:κ):List (κ × V):=kvs.filter fun kv=>decide (kv.1≠k)
theorem ZcR {p:κ × V}{r:List (κ × V)}{k:κ} (e:p.1=k):Ze4 (p :: r) k=some p.2:=by simp [Ze4,Zq9,e]
theorem ZcS {p:κ × V}{r:List (κ × V)}{k:κ} (e:¬ p.1=k):Ze4 (p :: r) k=Ze4 r k:=by simp [Ze4,Zq9,e]
theorem Zg5 (k:κ):∀ kvs:List (κ × V),(kvs.any fun kv=>decide (kv.1=k))=(Ze4 kvs k).isSome
 | []=>rfl
 | p :: r=>by
  rw [Zq8]
  by_cases e:p.1=k
  ·simp only [ZcR e,decide_eq_true e,Bool.true_or,Option.isSome_some]
  ·rw [ZcS e,decide_eq_false e,Zsu];exact Zg5 k r
theorem Zej (kvs:List (κ × V)) (k:κ) (v:V):(ZeO kvs k v).length<=kvs.length+1:=by
 unfold ZeO
 split
 ·rw [Zqi];omega
 ·rw [Zqj,ZqA,ZqT];omega
theorem ZhJ.isSome_eq {o:Option V}{u:Option Value} (r:ZhJ o u):o.isSome=u.isSome:=by
 cases o with
 | none=>cases u with
  | none=>rfl
  | some _=>exact (show False from r).elim
 | some _=>cases u with
  | none=>exact (show False from r).elim
  | some _=>rfl
theorem ZhJ.getD {o:Option V}{u:Option Value}{d:V}{d':Value} (r:ZhJ o u) (rd:Zbr d d'):Zbr (o.getD d) (u.getD d'):=by
 cases o with
 | none=>cases u with
  | none=>exact rd
  | some _=>exact (show False from r).elim
 | some _=>cases u with
  | none=>exact (show False from r).elim
  | some _=>exact r
theorem KV.val {kvs:List (κ × V)}{vs:List (κ × Value)} (r:KV kvs vs) (k:κ):ZhJ (Ze4 kvs k) (valueAt vs k):=by
 unfold KV at r
 induction r with
 | nil=>exact True.intro
 | @cons p q ps qs h t ih =>
  obtain ⟨h1,h2⟩:=h
  by_cases e:p.1=k
  ·have e':q.1=k:=h1.symm.trans e
   have b:valueAt (q :: qs) k=some q.2:=by simp [valueAt,Zq9,e']
   rw [ZcR e,b];exact h2
  ·have e':¬ q.1=k:=fun z=>e (h1.trans z)
   have b:valueAt (q :: qs) k=valueAt qs k:=by simp [valueAt,Zq9,e']
   rw [ZcS e,b];exact ih
theorem KV.any {kvs:List (κ × V)}{vs:List (κ × Value)} (r:KV kvs vs) (k:κ):(kvs.any fun kv=>decide (kv.1=k))=vs.any fun kv=>decide (kv.1=k):=by
 unfold KV at r
 induction r with
 | nil=>rfl
 | cons h t ih=>rw [Zq8,Zq8,ih,h.1]
theorem KV.repl {kvs:List (κ × V)}{vs:List (κ × Value)} (r:KV kvs vs) (k:κ) {y:V}{u:Value} (ry:Zbr y u) :
  KV (kvs.map fun kv=>if kv.1=k then (kv.1,y) else kv) (vs.map fun kv=>if kv.1=k then (kv.1,u) else kv):=by
 unfold KV at r ⊢
 induction r with
 | nil=>exact .nil
 | @cons p q ps qs h t ih =>
  rw [ZqB,ZqB]
  refine .cons ?_ ih
  obtain ⟨h1,h2⟩:=h
  by_cases e:p.1=k
  ·rw [if_pos e,if_pos (h1.symm.trans e)];exact ⟨h1,ry⟩
  ·rw [if_neg e,if_neg (fun z=>e (h1.trans z))];exact ⟨h1,h2⟩
theorem KV.put {kvs:List (κ × V)}{vs:List (κ × Value)} (r:KV kvs vs) (k:κ) {y:V}{u:Value} (ry:Zbr y u):KV (ZeO kvs k y) (stored vs k u):=by
 unfold ZeO stored
 rw [r.any k]
 by_cases e:(vs.any fun kv=>decide (kv.1=k))=true
 ·rw [if_pos e,if_pos e];exact r.repl k ry
 ·rw [if_neg e,if_neg e];exact Paired.snoc r ⟨rfl,ry⟩
theorem KV.drop {kvs:List (κ × V)}{vs:List (κ × Value)} (r:KV kvs vs) (k:κ):KV (Zjb kvs k) (without vs k):=by
 unfold KV at r ⊢
 unfold Zjb without
 induction r with
 | nil=>exact .nil
 | @cons p q ps qs h t ih =>
  obtain ⟨h1,h2⟩:=h
  rw [Zq0,Zq0]
  by_cases e:p.1=k
  ·have a:¬ decide (p.1≠k)=true:=by simp [e]
   have b:¬ decide (q.1≠k)=true:=by simp [h1.symm.trans e]
   rw [if_neg a,if_neg b];exact ih
  ·have e':¬ q.1=k:=fun z=>e (h1.trans z)
   have a:decide (p.1≠k)=true:=by simp [e]
   have b:decide (q.1≠k)=true:=by simp [e']
   rw [if_pos a,if_pos b];exact .cons ⟨h1,h2⟩ ih
theorem KV.length {kvs:List (κ × V)}{vs:List (κ × Value)} (r:KV kvs vs):kvs.length=vs.length:=Paired.length r
theorem Znc (kvs:List (κ × V)) (k:κ):(Zjb kvs k).length<=kvs.length:=Zrk _ _
end
theorem Zi9 {P:Program}{w:World}{k:Key}{u:Value} (r:Zbr (kV k) u):(Zbo P w).is k u=true:=by
 cases k with
 | inl i=>obtain ⟨t,e⟩:=(show ∃ t,u=Value.int i t from r);subst e;exact Zi4 P w i t
 | inr x=>obtain ⟨t,e⟩:=(show ∃ t,u=Value.str x t from r);subst e;exact Zi3 P w x t
theorem Zik {P:Program}{w:World}:∀ {ks:List Key}{us:List Value},Vals (ks.map kV) us->ItemsAre (Zbo P w) ks us
 | [],_,r=>by rw [ZqZ] at r;cases r;exact .nil
 | k :: ks,_,r=>by
  rw [ZqB] at r
  cases r with
  | cons h t=>exact .cons (Zi9 h) (Zik t)
noncomputable abbrev KT (H:Hp):List (List Key × V)->List (List Key × Addr × Value)->Prop:=Paired fun p q=>p.1=q.1/\H q.2.1=some (.tup (p.1.map kV))/\Zbr p.2 q.2.2
theorem KT.val {H:Hp}{kvs:List (List Key × V)}{xs:List (List Key × Addr × Value)} (r:KT H kvs xs) (k:List Key):ZhJ (Ze4 kvs k) ((atKey xs k).map (·.2)):=by
 induction r with
 | nil=>exact True.intro
 | @cons p q ps qs h t ih =>
  obtain ⟨h1,_,h2⟩:=h
  by_cases e:p.1=k
  ·have e':q.1=k:=h1.symm.trans e
   have b:atKey (q :: qs) k=some q.2:=by simp [atKey,Zq9,e']
   rw [ZcR e,b];exact h2
  ·have e':¬ q.1=k:=fun z=>e (h1.trans z)
   have b:atKey (q :: qs) k=atKey qs k:=by simp [atKey,Zq9,e']
   rw [ZcS e,b];exact ih
theorem KT.repl {H:Hp}{kvs:List (List Key × V)}{xs:List (List Key × Addr × Value)} (r:KT H kvs xs) (k:List Key) {y:V}{u:Value} (ry:Zbr y u) :
  KT H (kvs.map fun kv=>if kv.1=k then (kv.1,y) else kv) (xs.map (putAt k u)):=by
 induction r with
 | nil=>exact .nil
 | @cons p q ps qs h t ih =>
  rw [ZqB,ZqB]
  refine .cons ?_ ih
  obtain ⟨h1,h2,h3⟩:=h
  unfold putAt
  by_cases e:p.1=k
  ·rw [if_pos e,if_pos (h1.symm.trans e)];exact ⟨h1,h2,ry⟩
  ·rw [if_neg e,if_neg (fun z=>e (h1.trans z))];exact ⟨h1,h2,h3⟩
theorem KT.put {H:Hp}{kvs:List (List Key × V)}{xs:List (List Key × Addr × Value)} (r:KT H kvs xs) (k:List Key) {b:Addr}{y:V}{u:Value} (hb:H b=some (.tup (k.map kV))) (ry:Zbr y u) :
  KT H (ZeO kvs k y) (storedH xs k b u):=by
 have e:(kvs.any fun kv=>decide (kv.1=k))=(atKey xs k).isSome:=by
  rw [Zg5,(r.val k).isSome_eq,Option.isSome_map]
 unfold ZeO storedH
 rw [e]
 by_cases q:(atKey xs k).isSome=true
 ·rw [if_pos q,if_pos q];exact r.repl k ry
 ·rw [if_neg q,if_neg q];exact Paired.snoc r ⟨rfl,hb,ry⟩
theorem KT.keeps {H H':Hp}{kvs:List (List Key × V)}{xs:List (List Key × Addr × Value)} (r:KT H kvs xs) (ht:∀ b ys,H b=some (.tup ys)->H' b=some (.tup ys)):KT H' kvs xs :=
 Paired.mapP r fun _ _ z=>⟨z.1,ht _ _ z.2.1,z.2.2⟩
section
variable {P:Program}{w:World}{H:Hp}{h:Heap}{a:Addr}
theorem Zok {u:HO} (ok:HOk P w H h) (e:Rd H a u):ZbK P w H h a u:=e.ok ok
theorem ZhA {kvs:List (Key × V)} (ok:HOk P w H h) (e:Rd H a (.dK kvs)):kvs.length<=sizeLine/\(a == sysModules)=false/\∃ vs,KV kvs vs/\h.DictOf (Zbo P w) a vs :=
 show ZbK P w H h a (.dK kvs) from Zok ok e
theorem Zph {kvs:List (Key × V)} (ok:HOk P w H h) (e:H a=some (.dK kvs)):kvs.length<=sizeLine/\(a == sysModules)=false/\∃ vs,KV kvs vs/\h.DictOf (Zbo P w) a vs:=ZhA ok (.inl e)
theorem Zij {ks:List Key} (ok:HOk P w H h) (e:H a=some (.tup (ks.map kV))):(tupleKind (Zbo P w)).is h ks a:=by
 obtain ⟨_,its,r,o,h1,h2,n,h3⟩:=(show ZbK P w H h a (.tup (ks.map kV)) from ok a _ e)
 exact ⟨o,its.toArray,n,h1,h2,h3,by simpa using Zik r⟩
theorem Zkr {kvs:List (List Key × V)} (ok:HOk P w H h) (e:Rd H a (.dT kvs)):kvs.length<=sizeLine/\(a == sysModules)=false /\
  ∃ xs,KT H kvs xs/\h.DictOfH (tupleKind (Zbo P w)) a xs:=by
 obtain ⟨z,y,xs,r,o,es,ep,h1,h2,h3,h4,h5⟩:=(show ZbK P w H h a (.dT kvs) from Zok ok e)
 refine ⟨z,y,xs,r,o,es,ep,h1,h2,h3,h4,fun x hx=>?_,h5⟩
 have all:∀ {l:List (List Key × V)}{m:List (List Key × Addr × Value)},KT H l m->∀ x∈m,(tupleKind (Zbo P w)).is h x.1 x.2.1:=by
  intro l m q
  induction q with
  | nil=>intro x hx;exact nomatch hx
  | @cons p q ps qs hq t ih =>
   intro x hx
   rcases Zqt.mp hx with e | hx
   ·subst e
    exact Zij ok (by rw [<- hq.1];exact hq.2.1)
   ·exact ih x hx
 exact all r x hx
theorem dt_of {kvs:List (List Key × V)} (ok:HOk P w H h) (e:H a=some (.dT kvs)):kvs.length<=sizeLine/\(a == sysModules)=false /\
  ∃ xs,KT H kvs xs/\h.DictOfH (tupleKind (Zbo P w)) a xs:=Zkr ok (.inl e)
end
noncomputable def Zfl (H:Hp) (a:Addr) (y:V) (r:Option V):Prop :=
 (∃ kvs k,Rd H a (.dK kvs)/\y=kV k/\r=Ze4 kvs k)\/∃ kvs k b,Rd H a (.dT kvs)/\y=.ref b/\H b=some (.tup (k.map kV))/\r=Ze4 kvs k
noncomputable def Zky (H:Hp) (a:Addr) (y v:V) (H':Hp):Prop :=
 (∃ kvs k,H a=some (.dK kvs)/\y=kV k/\kvs.length<sizeLine/\H'=upd H a (.dK (ZeO kvs k v))) \/
 ∃ kvs k b,H a=some (.dT kvs)/\y=.ref b/\H b=some (.tup (k.map kV))/\kvs.length<sizeLine/\H'=upd H a (.dT (ZeO kvs k v))
theorem Zfl.k {H:Hp}{a:Addr}{kvs:List (Key × V)}{k:Key} (e:H a=some (.dK kvs)):Zfl H a (kV k) (Ze4 kvs k):=.inl ⟨kvs,k,.inl e,rfl,rfl⟩
theorem Zfl.t {H:Hp}{a b:Addr}{kvs:List (List Key × V)}{k:List Key} (e:H a=some (.dT kvs)) (eb:H b=some (.tup (k.map kV))):Zfl H a (.ref b) (Ze4 kvs k):=.inr ⟨kvs,k,b,.inl e,rfl,eb,rfl⟩
theorem Zky.k {H:Hp}{a:Addr}{kvs:List (Key × V)}{k:Key}{v:V} (e:H a=some (.dK kvs)) (hl:kvs.length<sizeLine):Zky H a (kV k) v (upd H a (.dK (ZeO kvs k v))):=.inl ⟨kvs,k,e,rfl,hl,rfl⟩
theorem Zky.t {H:Hp}{a b:Addr}{kvs:List (List Key × V)}{k:List Key}{v:V} (e:H a=some (.dT kvs)) (eb:H b=some (.tup (k.map kV))) (hl:kvs.length<sizeLine) :
  Zky H a (.ref b) v (upd H a (.dT (ZeO kvs k v))):=.inr ⟨kvs,k,b,e,rfl,eb,hl,rfl⟩
section
variable {X:Cx}{pins:List (Addr × Obj)}{σ:St}{H:Hp}{s:Shared}{a:Addr}{y v:V}{u r:Value}{o:Option V}{A:Around}{E:Value->Shared->Prop}
theorem Inv.big (I:Inv X pins σ H s):sysModules<s.heap.objs.size:=by
 have h:mainGlobals<s.heap.objs.size:=(I.mod.glob.keeps I.bk).lt
 exact Nat.lt_trans (by decide) h
theorem Zl1 {Q:Value->Shared->Prop} (hu:A.units+1<cLine) (I:Inv X pins σ H s) (g:Zfl H a y (some v)) (ry:Zbr y u) (h:∀ w' s',Inv X pins σ H s'->Zbr v w'->Q w' s') :
  wpAny (model X.prog X.w) A (getItem (.ref a) u) Q E s:=by
 rcases g with ⟨kvs,k,e,ey,l⟩ | ⟨kvs,k,b,e,ey,eb,l⟩
 ·subst ey
  obtain ⟨z,hd,vs,rel,dd⟩:=ZhA I.hok e
  obtain ⟨w',hw,rw'⟩:=ZhJ.some_of (v:=v) (o:=valueAt vs k) (by rw [l];exact rel.val k)
  exact wpAny_getItem_of (Zi9 ry) dd.mapOf hw (h w' _ (I.tok _) rw')
 ·subst ey
  cases (show u=Value.ref b from ry)
  obtain ⟨z,hd,xs,rel,dd⟩:=Zkr I.hok e
  obtain ⟨w',hw,rw'⟩:=ZhJ.some_of (v:=v) (o:=(atKey xs k).map (·.2)) (by rw [l];exact rel.val k)
  obtain ⟨p,hp,hp2⟩:=Option.map_eq_some_iff.mp hw
  refine wpAny_getItem_heap (tupleKind_room_in1 hu) (Zij I.hok eb) dd hp ?_
  rw [hp2]
  exact h w' _ (I.tok _) rw'
theorem d_in {Q:Value->Shared->Prop} (hu:A.units+1<cLine) (I:Inv X pins σ H s) (g:Zfl H a y o) (ry:Zbr y u) (h:∀ s',Inv X pins σ H s'->Q (.bool o.isSome) s') :
  wpAny (model X.prog X.w) A (compareOp .In u (.ref a)) Q E s:=by
 rcases g with ⟨kvs,k,e,ey,l⟩ | ⟨kvs,k,b,e,ey,eb,l⟩
 ·subst ey
  obtain ⟨z,hd,vs,rel,dd⟩:=ZhA I.hok e
  refine wpAny_in_of (Zi9 ry) hd dd.mapOf ?_
  rw [<- (rel.val k).isSome_eq,<- l]
  exact h _ (I.tok _)
 ·subst ey
  cases (show u=Value.ref b from ry)
  obtain ⟨z,hd,xs,rel,dd⟩:=Zkr I.hok e
  refine wpAny_in_heap (tupleKind_room_in1 hu) (Zij I.hok eb) hd dd ?_
  have q:=(rel.val k).isSome_eq
  rw [Option.isSome_map] at q
  rw [<- q,<- l]
  exact h _ (I.tok _)
theorem Zpi {Q:Value->Shared->Prop} (hu:A.units+1<cLine) (I:Inv X pins σ H s) (g:Zfl H a y o) (ry:Zbr y u) (h:∀ s',Inv X pins σ H s'->Q (.bool (!o.isSome)) s') :
  wpAny (model X.prog X.w) A (compareOp .NotIn u (.ref a)) Q E s:=by
 rcases g with ⟨kvs,k,e,ey,l⟩ | ⟨kvs,k,b,e,ey,eb,l⟩
 ·subst ey
  obtain ⟨z,hd,vs,rel,dd⟩:=ZhA I.hok e
  refine wpAny_notIn_of (Zi9 ry) hd dd.mapOf ?_
  rw [<- (rel.val k).isSome_eq,<- l]
  exact h _ (I.tok _)
 ·subst ey
  cases (show u=Value.ref b from ry)
  obtain ⟨z,hd,xs,rel,dd⟩:=Zkr I.hok e
  refine wpAny_notIn_heap (tupleKind_room_in1 hu) (Zij I.hok eb) hd dd ?_
  have q:=(rel.val k).isSome_eq
  rw [Option.isSome_map] at q
  rw [<- q,<- l]
  exact h _ (I.tok _)
theorem ZhB {h':Heap}{t':Nat}{ob:HO} (I:Inv X pins σ H s) (mu:Mut (H a)) (hs:Heap.SameBut a s.heap h') (he:∃ q,h'.get? a=some q) (new:ZbK X.prog X.w (upd H a ob) h' a ob) :
  Inv X pins σ (upd H a ob) { s with heap:=h',toks:=t' } :=
 I.write (x:=a) (e:=a) mu (.inl rfl) (fun b q hb z=>(hs.2 b hb).trans z) he new
theorem ZlW {P:Program}{w:World}{H':Hp}{h':Heap}{kvs:List (Key × V)}{vs:List (Key × Value)} (z:kvs.length<=sizeLine) (hd:(a == sysModules)=false) (rel:KV kvs vs) (dd:h'.DictOf (Zbo P w) a vs) :
  ZbK P w H' h' a (.dK kvs):=⟨z,hd,vs,rel,dd⟩
theorem Zl0 {H':Hp}{Q:Unit->Shared->Prop} (hu:A.units+1<cLine) (I:Inv X pins σ H s) (g:Zky H a y v H') (ry:Zbr y u) (rv:Zbr v r) (h:∀ s',Inv X pins σ H' s'->Q () s') :
  wpAny (model X.prog X.w) A (setItem (.ref a) u r) Q E s:=by
 rcases g with ⟨kvs,k,e,ey,l,eH⟩ | ⟨kvs,k,b,e,ey,eb,l,eH⟩
 ·subst ey eH
  obtain ⟨z,hd,vs,rel,dd⟩:=Zph I.hok e
  have hz:vs.length<=sizeLine:=by rw [<- rel.length];exact z
  have hl:(ZeO kvs k v).length<=sizeLine:=by have:=Zej kvs k v;omega
  refine wpAny_setItem_pairs (hsz:=hz) (Zi9 ry) dd fun h' dd' hs=>h _ ?_
  have he:∃ q,h'.get? a=some q:=let ⟨q,_,_,hq,_⟩:=dd';⟨q,hq⟩
  exact ZhB I (by rw [e];exact True.intro) hs he (ZlW hl hd (rel.put k rv) dd')
 ·subst ey eH
  cases (show u=Value.ref b from ry)
  obtain ⟨z,hd,xs,rel,dd⟩:=dt_of I.hok e
  have hz:xs.length<=sizeLine:=by rw [<- Paired.length rel];exact z
  have hl:(ZeO kvs k v).length<=sizeLine:=by have:=Zej kvs k v;omega
  refine wpAny_setItem_heap (hsz:=hz) (tupleKind_room_in1 hu) (Zij I.hok eb) dd fun h' dd' hs=>h _ ?_
  obtain ⟨q,es,ep,hq,h2,h3,h4,_,h5⟩:=dd'
  refine ZhB I (by rw [e];exact True.intro) hs ⟨q,hq⟩ ⟨hl,hd,_,(rel.put k eb rv).keeps fun c ys ec=>?_,q,es,ep,hq,h2,h3,h4,h5⟩
  rw [Zak (Zbv ec e (fun z=>nomatch z))]
  exact ec
end
section
variable {X:Cx}{pins:List (Addr × Obj)}{σ:St}{H:Hp}{s:Shared}{a:Addr}{kvs:List (Key × V)}{k:Key}{u:Value}{A:Around}{E:Value->Shared->Prop}
theorem d_pop {v:V}{more:List Value}{Q:Value->Shared->Prop} (I:Inv X pins σ H s) (e:H a=some (.dK kvs)) (ry:Zbr (kV k) u) (l:Ze4 kvs k=some v) (hm:more=[]\/∃ x,more=[x])
  (h:∀ w' s',Inv X pins σ (upd H a (.dK (Zjb kvs k))) s'->Zbr v w'->Q w' s'):wpAny (model X.prog X.w) A (call (.builtin "dict.pop") (.ref a :: u :: more)) Q E s:=by
 obtain ⟨z,hd,vs,rel,dd⟩:=Zph I.hok e
 obtain ⟨w',hw,rw'⟩:=ZhJ.some_of (v:=v) (o:=valueAt vs k) (by rw [<- l];exact rel.val k)
 have hp:(keyPart u).isSome=true:=by
  cases k with
  | inl i=>obtain ⟨t,q⟩:=(show ∃ t,u=Value.int i t from ry);subst q;rfl
  | inr x=>obtain ⟨t,q⟩:=(show ∃ t,u=Value.str x t from ry);subst q;rfl
 have ha:argsOk "dict.pop" ⟨.ref a :: u :: more,[]⟩:=by
  rcases hm with q | ⟨x,q⟩
  ·subst q;exact PySem.F.args_dict_pop_2 _ _
  ·subst q;exact PySem.F.args_dict_pop_3 _ _ _
 refine call_meetsIn Zqe dd.typeIs PySem.F.entry_dict_pop ha (meets_dict_pop_there (Zbo X.prog X.w) a (Zi9 ry) more hm hp)
  ⟨vs,w',dd,by rw [<- rel.length];exact z,hw,fun h' dd' hs=>h w' _ ?_ rw'⟩
 have he:∃ q,h'.get? a=some q:=let ⟨q,_,_,hq,_⟩:=dd';⟨q,hq⟩
 exact ZhB I (by rw [e];exact True.intro) hs he (ZlW (ZrR (Znc kvs k) z) hd (rel.drop k) dd')
theorem d_len {Q:Value->Shared->Prop} (I:Inv X pins σ H s) (e:Rd H a (.dK kvs)) (h:∀ t s',Inv X pins σ H s'->Q (.int kvs.length t) s'):wpAny (model X.prog X.w) A (call (.builtin "len") [.ref a]) Q E s:=by
 obtain ⟨z,hd,vs,rel,dd⟩:=ZhA I.hok e
 refine call_len_dict hd dd (by rw [<- rel.length];rw [sizeLine_eq] at z;omega) ?_
 rw [<- rel.length]
 exact h _ _ (I.tok _)
end
noncomputable def NoSl (i:Expr):Prop:=∀ ov iv,subscripted i false ov iv=operate [ov,iv] (getItem ov iv)
theorem Zoc {prog:Program}{w:World}{A:Around}{E:Value->Shared->Prop}{s:Shared}{env:Env}{value slice:Expr}{pos:Pos}{T id:String}{Q:Value->Shared->Prop}
  (hl:typeLookup (.type T) "__getitem__" = pure (some (.builtin id))) (hs:NoSl slice)
  (h:wpAny (model prog w) A (eval value env) (fun o s₁=>wpAny (model prog w) A (eval slice env) (fun i s₂=>s₂.TypeIs o T/\wpAny (model prog w) A (getItem o i) Q E s₂) E s₁) E s) :
  wpAny (model prog w) A (eval (.Subscript value slice pos) env) Q E s:=by
 refine Subscript_ (wpAny_mono h (fun o s₁ h₁=>wpAny_mono h₁ (fun i s₂ h₂=>?_) fun _ _ x=>x) fun _ _ x=>x)
 obtain ⟨hT,h₂⟩:=h₂
 unfold subscriptTail
 refine wpAny_bind ?_
 rw [getitemInPython_of_ne hT.not_modules]
 refine wpAny_bind (wpAny_specialOf hT hl ?_)
 have fin:wpAny (model prog w) A (subscripted slice false o i) (fun r s₃=>wpAny (model prog w) A (letTemporaryGo value o r >>= fun _=>pure r) Q E s₃) E s₂:=by
  rw [hs o i]
  exact wpAny_operating (wpAny_mono h₂ (fun r s₃ h₃=>wpAny_bind (wpAny_letTemporaryGo (wpAny_pure h₃))) fun _ _ x=>x)
 first
  | exact wpAny_pure (wpAny_bind fin)
  | exact wpAny_bind (wpAny_pure (wpAny_bind fin))
  | exact wpAny_bind fin
theorem Zjc {X:Cx}{pins:List (Addr × Obj)}{σ:St}{H:Hp}{s:Shared}{a:Addr}{y:V}{o:Option V} (I:Inv X pins σ H s) (g:Zfl H a y o):s.TypeIs (.ref a) "dict":=by
 rcases g with ⟨kvs,k,e,_,_⟩ | ⟨kvs,k,b,e,_,_,_⟩
 ·obtain ⟨_,_,vs,_,dd⟩:=ZhA I.hok e
  exact dd.typeIs
 ·obtain ⟨_,_,xs,_,dd⟩:=Zkr I.hok e
  exact dd.typeIs
noncomputable def Zgw (td ty:TE):TE:=fun σ H Q=>td σ H fun x H1=>ty σ H1 fun y H2=>∃ a v,x=.ref a/\Zfl H2 a y (some v)/\Q v H2
noncomputable def tDIn (ty td:TE):TE:=fun σ H Q=>ty σ H fun y H1=>td σ H1 fun x H2=>∃ a o,x=.ref a/\Zfl H2 a y o/\Q (.bl o.isSome) H2
noncomputable def Zcp (ty td:TE):TE:=fun σ H Q=>ty σ H fun y H1=>td σ H1 fun x H2=>∃ a o,x=.ref a/\Zfl H2 a y o/\Q (.bl (!o.isSome)) H2
noncomputable def ZeQ (td ty tv:TE):TS:=fun D σ H=>tv σ H fun v H1=>td σ H1 fun x H2=>ty σ H2 fun y H3=>∃ a H4,x=.ref a/\Zky H3 a y v H4/\D.nx σ H4
section
variable {X:Cx}{o i e value:Expr}{pos pos' tpos:Pos}{td ty tv:TE}
theorem Zdy (hu:X.A.units+1<cLine) (ho:PE X o td) (hi:PE X i ty) (hs:NoSl i):PE X (.Subscript o i pos) (Zgw td ty):=by
 intro pins s σ H Q I h
 refine Zoc PySem.F.slot_dict_getitem.lookup hs (thn (ho pins s σ H _ I h) fun u s1 ⟨x,H1,I1,rx,q1⟩=>thn (hi pins s1 σ H1 _ I1 q1) fun iv s2 ⟨y,H2,I2,ry,a,v,ex,g,q2⟩=>?_)
 subst ex
 obtain rfl:u=Value.ref a:=rx
 exact ⟨Zjc I2 g,Zl1 hu I2 g ry fun w' s3 I3 rw'=>⟨v,H2,I3,rw',q2⟩⟩
theorem pc_din (hu:X.A.units+1<cLine) (hi:PE X i ty) (ho:PE X o td):PC X .In i o (tDIn ty td):=by
 intro pins s σ H Q I h
 refine thn (hi pins s σ H _ I h) fun iv s1 ⟨y,H1,I1,ry,q1⟩=>thn (ho pins s1 σ H1 _ I1 q1) fun u s2 ⟨x,H2,I2,rx,a,ov,ex,g,q2⟩=>?_
 subst ex
 obtain rfl:u=Value.ref a:=rx
 exact d_in hu I2 g ry fun s3 I3=>⟨.bl ov.isSome,H2,I3,rfl,q2⟩
theorem Zca (hu:X.A.units+1<cLine) (hi:PE X i ty) (ho:PE X o td):PC X .NotIn i o (Zcp ty td):=by
 intro pins s σ H Q I h
 refine thn (hi pins s σ H _ I h) fun iv s1 ⟨y,H1,I1,ry,q1⟩=>thn (ho pins s1 σ H1 _ I1 q1) fun u s2 ⟨x,H2,I2,rx,a,ov,ex,g,q2⟩=>?_
 subst ex
 obtain rfl:u=Value.ref a:=rx
 exact Zpi hu I2 g ry fun s3 I3=>⟨.bl (!ov.isSome),H2,I3,rfl,q2⟩
theorem ZcF (hu:X.A.units+1<cLine) (ho:PE X o td) (hi:PE X i ty) (hv:PE X value tv) (hs:swapsWith value (some (.Subscript o i pos')) pos.line X.env=pure false) :
  PS X (.Assign [.Subscript o i pos'] value pos) (ZeQ td ty tv):=by
 intro pins s σ H D I h
 refine wpAny_Assign_Subscript (thn (hv pins s σ H _ I h) fun r s1 ⟨v,H1,I1,rv,q1⟩=>thn (ho pins s1 σ H1 _ I1 q1) fun u s2 ⟨x,H2,I2,rx,q2⟩=>thn (hi pins s2 σ H2 _ I2 q2) fun iv s3 ⟨y,H3,I3,ry,a,H4,ex,g,q3⟩=>?_) hs
 subst ex
 obtain rfl:u=Value.ref a:=rx
 exact Zl0 hu I3 g ry rv fun s4 I4=>⟨σ,H4,I4,q3⟩
end
theorem ZjS {P:Program}{w:World}{H:Hp} (h:Heap) (hb:sysModules<h.objs.size):ZbK P w H (h.push { cls:=.type "dict",data:=.dict #[] }) h.objs.size (.dK []) :=
 ⟨ZrS _,beq_eq_false_iff_ne.mpr (Ne.symm (ZrP hb)),[],.nil,Heap.DictOf.new h⟩
theorem Zna {P:Program}{w:World}{H:Hp} (h:Heap) (hb:sysModules<h.objs.size):ZbK P w H (h.push { cls:=.type "dict",data:=.dict #[] }) h.objs.size (.dT []) :=
 ⟨ZrS _,beq_eq_false_iff_ne.mpr (Ne.symm (ZrP hb)),[],.nil,_,#[],0,Heap.get?_push_size _ rfl,⟨rfl,rfl,rfl⟩,rfl,rfl,Zq2⟩
noncomputable def Zeq:TE:=fun _ H Q=>∀ p,H p=none->Q (.ref p) (upd H p (.dK []))
noncomputable def Zjw:TE:=fun _ H Q=>∀ p,H p=none->Q (.ref p) (upd H p (.dT []))
section
variable {X:Cx}{pos:Pos}
theorem ZdL:PE X (.Dict [] [] pos) Zeq:=fun pins s σ H Q I h =>
 wpAny_Dict_empty ⟨.ref s.heap.objs.size,_,I.laid (a:=s.heap.objs.size) (o:=.dK []) (t':=s.toks) (fun _ _ q=>Heap.get?_push_of_some _ q) (ZrN _) (ZjS s.heap I.big),rfl,h _ (I.hok.fresh (ZrN _))⟩
theorem ZmJ:PE X (.Dict [] [] pos) Zjw:=fun pins s σ H Q I h =>
 wpAny_Dict_empty ⟨.ref s.heap.objs.size,_,I.laid (a:=s.heap.objs.size) (o:=.dT []) (t':=s.toks) (fun _ _ q=>Heap.get?_push_of_some _ q) (ZrN _) (Zna s.heap I.big),rfl,h _ (I.hok.fresh (ZrN _))⟩
end
noncomputable def Zjv:List (TE × TE)->St->Hp->(List (V × V)->Hp->Prop)->Prop
 | [],_,H,Q=>Q [] H
 | (tk,tv) :: r,σ,H,Q=>tk σ H fun x H1=>tv σ H1 fun y H2=>Zjv r σ H2 fun ps H3=>Q ((x,y) :: ps) H3
noncomputable abbrev VV:List (V × V)->List (Value × Value)->Prop:=Paired fun p q=>Zbr p.1 q.1/\Zbr p.2 q.2
noncomputable def PPs (X:Cx) (pos:Pos) (ZaL:List (Option Expr)) (values:List Expr) (trs:List (TE × TE)):Prop :=
 ∀ (pins:List (Addr × Obj)) (s:Shared) (σ:St) (H:Hp) (Q:List (V × V)->Hp->Prop),Inv X pins σ H s->Zjv trs σ H Q ->
  wpAny (model X.prog X.w) X.A (evalPairs (pairTrees ZaL values X.env pos)) (fun vs s'=>∃ ps H',Inv X pins σ H' s'/\VV ps vs/\Q ps H') X.xe s
theorem Zop {X:Cx}{pos:Pos}:PPs X pos [] [] []:=fun pins s σ H Q I h=>pairTrees_nil_walk ⟨[],H,I,.nil,h⟩
theorem ZmH {X:Cx}{pos:Pos}{k v:Expr}{ks:List (Option Expr)}{vs:List Expr}{tk tv:TE}{trs:List (TE × TE)} (hk:PE X k tk) (hv:PE X v tv) (hr:PPs X pos ks vs trs) :
  PPs X pos (some k :: ks) (v :: vs) ((tk,tv) :: trs):=fun pins s σ H Q I h =>
 pairTrees_cons_walk (thn (hk pins s σ H _ I h) fun u s1 ⟨x,H1,I1,rx,q1⟩=>thn (hv pins s1 σ H1 _ I1 q1) fun w2 s2 ⟨y,H2,I2,ry,q2⟩ =>
  thn (hr pins s2 σ H2 _ I2 q2) fun ws s3 ⟨ps,H3,I3,rel,q3⟩=>⟨(x,y) :: ps,H3,I3,.cons ⟨rx,ry⟩ rel,q3⟩)
noncomputable def Zf5 (kvs more:List (Key × V)):List (Key × V):=more.foldl (fun acc kv=>ZeO acc kv.1 kv.2) kvs
theorem KV.merge:∀ {more:List (Key × V)}{rs:List (Key × Value)}{kvs:List (Key × V)}{vs:List (Key × Value)},KV more rs->KV kvs vs->KV (Zf5 kvs more) (merged vs rs):=by
 intro more rs kvs vs r
 unfold KV at r
 induction r generalizing kvs vs with
 | nil=>intro q;exact q
 | @cons p q ps qs h t ih =>
  intro r0
  have e:KV (ZeO kvs p.1 p.2) (stored vs q.1 q.2):=by
   have:=r0.put p.1 h.2
   rw [<- h.1];exact this
  exact ih e
theorem ZeA:∀ (more kvs:List (Key × V)),(Zf5 kvs more).length<=kvs.length+more.length
 | [],kvs=>by show kvs.length<=kvs.length+0;omega
 | p :: r,kvs=>by
  have h1:=ZeA r (ZeO kvs p.1 p.2)
  have h2:=Zej kvs p.1 p.2
  show (Zf5 (ZeO kvs p.1 p.2) r).length<=_
  rw [ZqA];omega
theorem ZgV {P:Program}{w:World}:∀ {kvs:List (Key × V)}{ws:List (Value × Value)},VV (kvs.map fun kv=>(kV kv.1,kv.2)) ws->∃ rs,Carries (Zbo P w) ws rs/\KV kvs rs
 | [],_,r=>by rw [ZqZ] at r;cases r;exact ⟨[],True.intro,.nil⟩
 | p :: kvs,_,r=>by
  rw [ZqB] at r
  cases r with
  | @cons a b as bs h t =>
   obtain ⟨rs,c,q⟩:=ZgV (P:=P) (w:=w) t
   obtain ⟨b1,b2⟩:=b
   exact ⟨(p.1,b2) :: rs,⟨Zi9 h.1,rfl,c⟩,.cons ⟨rfl,h.2⟩ q⟩
noncomputable def Zoa (trs:List (TE × TE)):TE:=fun σ H Q=>∀ p,H p=none->Zjv trs σ (upd H p (.dK [])) fun ps H2=>H2 p=some (.dK [])/\∃ kvs:List (Key × V),ps=kvs.map (fun kv=>(kV kv.1,kv.2))/\kvs.length<=15/\Q (.ref p) (upd H2 p (.dK (Zf5 [] kvs)))
theorem Zor {X:Cx}{pos:Pos}{ZaL:List (Option Expr)}{values:List Expr}{trs:List (TE × TE)} (h:PPs X pos ZaL values trs) (hall:ZaL.all (·.isSome)=true) (hl:ZaL.length=values.length) (h0:ZaL≠[])
  (h15:ZaL.length<=15):PE X (.Dict ZaL values pos) (Zoa trs):=by
 intro pins s σ H Q I q
 have hn:=I.hok.fresh (ZrN s.heap.objs.size)
 have I1:=I.laid (a:=s.heap.objs.size) (o:=.dK []) (h':=s.heap.push { cls:=.type "dict",data:=.dict #[] }) (t':=s.toks) (fun _ _ q=>Heap.get?_push_of_some _ q) (ZrN _) (ZjS s.heap I.big)
 refine wpAny_Dict_walk (knd:=Zbo X.prog X.w) hall hl h0 h15 (thn (h pins _ σ _ _ I1 (q _ hn)) fun ws s2 ⟨ps,H2,I2,rel,e,kvs,ep,lk,q2⟩=>?_)
 subst ep
 obtain ⟨rs,c,rk⟩:=ZgV (P:=X.prog) (w:=X.w) rel
 obtain ⟨z,hd,vs0,r0,dd⟩:=Zph I2.hok e
 cases r0
 refine ⟨rs,c,dd,fun h' dd' hs=>⟨.ref s.heap.objs.size,_,?_,rfl,q2⟩⟩
 have hz:(Zf5 [] kvs).length<=sizeLine:=by
  have h1:=ZeA kvs []
  rw [ZqT] at h1
  rw [sizeLine_eq];omega
 have he:∃ q,h'.get? s.heap.objs.size=some q:=let ⟨q,_,_,hq,_⟩:=dd';⟨q,hq⟩
 exact ZhB I2 (by rw [e];exact True.intro) hs he (ZlW hz hd (rk.merge .nil) dd')
structure M1 (X:Cx) (o:Expr) (m:Str) (apos:Pos) (e:Expr) (cpos:Pos):Prop where
 base:attributeBase o m X.env (eval o X.env)=eval o X.env
 few:((backTo cpos (starEach [e] X.env)).all (fun x=>!x.1) && (backToKw cpos (keywordEach [] X.env)).all (fun x=>x.1.isSome)
  && decide (([e]:List Expr).length+([]:List Keyword).length+(if ([]:List Keyword).isEmpty then 0 else 1)<30))=true
 line:(apos.endLine == cpos.line)=true
 trees:backTo cpos (starEach [e] X.env)=[(false,eval e X.env)]
structure M2 (X:Cx) (o:Expr) (m:Str) (apos:Pos) (e f:Expr) (cpos:Pos):Prop where
 base:attributeBase o m X.env (eval o X.env)=eval o X.env
 few:((backTo cpos (starEach [e,f] X.env)).all (fun x=>!x.1) && (backToKw cpos (keywordEach [] X.env)).all (fun x=>x.1.isSome)
  && decide (([e,f]:List Expr).length+([]:List Keyword).length+(if ([]:List Keyword).isEmpty then 0 else 1)<30))=true
 line:(apos.endLine == cpos.line)=true
 trees:backTo cpos (starEach [e,f] X.env)=[(false,eval e X.env),(false,eval f X.env)]
noncomputable def IsD (H:Hp) (a:Addr):Prop:=(∃ kvs,Rd H a (.dK kvs))\/∃ kvs,Rd H a (.dT kvs)
theorem isD_at {X:Cx}{pins:List (Addr × Obj)}{σ:St}{H:Hp}{s:Shared}{a:Addr} (I:Inv X pins σ H s) (d:IsD H a) :
  s.TypeIs (.ref a) "dict" /\ (∀ b,Value.ref a=.ref b->∃ ob,s.heap.get? b=some ob/\ob.dict=none)/\(a == sysModules)=false:=by
 rcases d with ⟨kvs,e⟩ | ⟨kvs,e⟩
 ·obtain ⟨_,hd,vs,_,dd⟩:=ZhA I.hok e
  refine ⟨dd.typeIs,fun b q=>?_,hd⟩
  cases q
  obtain ⟨ob,_,_,h1,h2,_⟩:=dd
  exact ⟨ob,h1,h2.2.1⟩
 ·obtain ⟨_,hd,xs,_,dd⟩:=Zkr I.hok e
  refine ⟨dd.typeIs,fun b q=>?_,hd⟩
  cases q
  obtain ⟨ob,_,_,h1,h2,_⟩:=dd
  exact ⟨ob,h1,h2.2.1⟩
section
variable {X:Cx}{pins:List (Addr × Obj)}{σ:St}{H:Hp}{s:Shared}{a:Addr}{y d:V}{u r:Value}{o:Option V}{A:Around}{E:Value->Shared->Prop}
end
noncomputable def ZkR (td ty:TE):TE:=fun σ H Q=>td σ H fun x H1=>∃ a,x=.ref a/\IsD H1 a/\ty σ H1 fun y H2=>∃ kvs k v,H2 a=some (.dK kvs)/\y=kV k/\Ze4 kvs k=some v/\Q v (upd H2 a (.dK (Zjb kvs k)))
section
variable {X:Cx}{o e f:Expr}{apos cpos:Pos}{td ty tx:TE}
theorem ZmI (ho:PE X o td) (he:PE X e ty) (m:M1 X o "pop" apos e cpos):PE X (.Call (.Attribute o "pop" apos) [e] [] cpos) (ZkR td ty):=by
 intro pins s σ H Q I h
 refine wpAny_Call_method m.base m.few m.line PySem.F.plainAttrs_dict Zqe PySem.F.type_dict_pop (thn (ho pins s σ H _ I h) fun u s1 ⟨x,H1,I1,rx,a,ex,d,q1⟩=>?_)
 subst ex
 obtain rfl:u=Value.ref a:=rx
 obtain ⟨t1,t2,_⟩:=isD_at I1 d
 refine ⟨t1,t2,?_⟩
 rw [m.trees]
 refine Calls.callWith_builtin rfl (Calls.evalArgs_plain (Calls.spliced_cons (thn (he pins s1 σ H1 _ I1 q1) fun iv s2 ⟨y,H2,I2,ry,kvs,k,v,ea,ey,l,q2⟩=>Calls.spliced_nil ?_)))
 subst ey
 exact d_pop I2 ea ry l (.inl rfl) fun w' s3 I3 rw'=>⟨v,_,I3,rw',q2⟩
end
section
variable {X:Cx}{pins:List (Addr × Obj)}{σ:St}{H:Hp}{s:Shared}{a:Addr}{kvs:List (Key × V)}{A:Around}{E:Value->Shared->Prop}
end
section
variable {X:Cx}{pins:List (Addr × Obj)}{σ:St}{H:Hp}{s:Shared}{a:Addr}{y:V}{u:Value}{A:Around}{E:Value->Shared->Prop}
end
end L2
namespace Att
open PySem PySem.W PySem.Calls PyProof.Rows
theorem Zgc {P:Params}{h:Heap}:∀ (ns:List Int) (vs:List Value),WellAll P h vs (ns.map WData.int)->IntsAre vs ns:=by
 intro ns
 induction ns with
 | nil =>
  intro vs w
  rw [ZqZ] at w
  cases w
  exact .nil
 | cons n ns ih =>
  intro vs w
  rw [ZqB] at w
  cases w with
  | cons a b =>
   cases a
   exact .cons _ _ (ih _ b)
theorem Zk1 {l:OpenLaw}{n:Nat} (hn:l.most=some n) {P:Params}{h:Heap}{args:List WData}{vals:List Value}
  (hpre:l.row.toRowW.claim.pre args=true) (hwl:WellAll P h vals args) :
  ∃ a vs ns,vals=[Value.ref a]/\args=[WData.list (ns.map WData.int)]/\h.get? a=some { cls:=.type "list",data:=.seq vs.toArray }/\IntsAre vs ns/\ns.length<=n:=by
 have hsh:WShape.hasAll [] args [.list .int]=true:=(pre_splitW hpre).1
 have hc:l.pre.holds [] { args:=args }=true:=(pre_splitW hpre).2
 obtain ⟨d,r,rfl,h1,h2⟩:=hasAllW_cons hsh
 obtain rfl:=hasAllW_nil h2
 obtain ⟨xs,rfl,h3⟩:=hasW_list h1
 obtain ⟨ns,rfl⟩:=items_int h3
 have hlen:ns.length<=n:=by
  unfold OpenLaw.pre at hc
  have h4:(WTm.not (.lt (.lit (.int (n:Int))) (.len (.arg 0)))).holds [] { args:=[.list (ns.map .int)] }=true:=by
   have h4:=(holds_andW hc).1
   rw [hn] at h4
   exact h4
  have h5:=condW_of h4 (w_not (w_lt w_lit (w_len_list (w_arg rfl))))
  rw [Zqi] at h5
  refine Nat.le_of_not_lt fun q=>?_
  have q':(n:Int)<((ns.length:Nat):Int):=by omega
  first
   | (rw [decide_eq_true q'] at h5;exact absurd h5 (by decide))
   | (simp at h5;omega)
 cases hwl with
 | cons w1 w2 =>
  cases w2
  cases w1 with
  | list ho hall=>exact ⟨_,_,ns,rfl,rfl,ho,Zgc ns _ hall,hlen⟩
theorem Zlb (l:OpenLaw) (args:List WData):l.row.toRowW.claim.post args (.bool true) args=true :=
 postW_of (r:=l.row.toRowW) (X:=(true == true))
  (show WShape.has [] (.bool true) .bool=true by first | rfl | decide | simp [WShape.has,WShape.arms,WShape.armsAll])
  (show (WTm.eq .res (.lit (.bool true))).value [] { args:=args,res:=some (.bool true),after:=args }=some (.bool (true == true)) from w_eq_bool (w_res rfl) w_lit) rfl
theorem Zji {l:OpenLaw}{n:Nat}{q:Program}{loose:List Str}{XP:(Str->Option Value)->Heap->Prop}{YP:World->Heap->Prop}{d:DefRec}
  (hn:l.most=some n) (hdf:d.params.defaults=[])
  (call:∀ (w:World) (s₀ s₁:Shared) (mg mb:Str->Option Value) (fa:Addr) (o:Obj) (pm cd doc:Value) (a:Addr) (vs:List Value) (ns:List Int),
   Ground q loose [] XP w s₀ mg mb s₁.heap->YP w s₁.heap ->
   s₁.heap.get? fa=some o->o.data=.func (docDef d.name d.params d.body d.scope pm cd doc)->s₁.heap.CodeRec cd d.name->mg d.name=some (.ref fa) ->
   s₁.heap.get? a=some { cls:=.type "list",data:=.seq vs.toArray }->IntsAre vs ns->ns.length<=n->s₁.gens = #[] ->
   codeAny (model l.prog w) callerA (.call (.ref fa) ⟨[.ref a],[]⟩) (fun r s'=>r=.ok (.ret (.bool true))/\OldK s₁.heap s'.heap/\s'.os=s₁.os/\AllBare s'.gens) s₁) :
  WalkO q loose XP YP l.row.toRowW d [] (fun f vs=>PySem.call f vs):=by
 intro w s₀ s₁ mg mb G Y fa o pm cd doc dV kV ho hd hcd hD hmg hg args vals as hpre hlay hrd hwl hlo
 obtain rfl:dV=.none:=Dflts.none hD hdf
 obtain rfl:kV=.none:=Dflts.noKw hD
 obtain ⟨a,vs,ns,rfl,rfl,hobj,hints,hlen⟩:=Zk1 hn hpre hwl
 refine enter_call (codeAny_mono (call w s₀ s₁ mg mb fa o pm cd doc a vs ns G Y ho (fd_plain hd) hcd hmg hobj hints hlen hg) fun r s' hq=>?_)
 obtain ⟨rfl,h2,h3,h4⟩:=hq
 exact ⟨.inl ⟨.bool true,.bool true,[],rfl,fun _=>rfl,.bool true,Zlb l _,fun _=>⟨Zrx.nil,fun _ hm=>(nomatch hm)⟩⟩,h2,h3,h4⟩
section
variable {prog:Program}{w:World}{A:Around}{E:Value->Shared->Prop}{s:Shared}{K:Frag}
noncomputable def ledger (h:Heap) (L d:Addr):List (Addr × Obj):=(Zqq h.objs.size).filterMap fun a=>if a=L\/a=d then none else (h.get? a).map fun o=>(a,o)
end
end Att
namespace L2
open PySem PySem.Spec PyProof.Rows
theorem ZfF:∀ {vs:List Value}{ns:List Int},IntsAre vs ns->Vals (ns.map V.int) vs
 | _,_,.nil=>.nil
 | _,_,.cons n t h=>.cons ⟨t,rfl⟩ (ZfF h)
noncomputable def Only (H:Hp):Prop:=∀ b,H b=none\/∃ o xs,H b=some (.frz o (.lst xs))
theorem ZmV {P:Program}{w:World}{K:ZpF}{mg mb:Str->Option Value}{CX:CXT}{k:Nat}{fa a:Addr}{fd:FuncData}{x:Str}{sp:Sp}{s₁:Shared}{vs:List Value}{ns:List Int}
  (KX:K.In s₁.heap) (hns:s₁.heap.Ns mainGlobals mg) (hb:s₁.heap.Ns builtinsNs mb) (hbb:∀ x:Str,x ≠ "__name__" -> mb x=bootBuiltins x) (hlim:s₁.heap.NoLimit) (hg:s₁.gens = #[])
  (ha:s₁.heap.get? a=some { cls:=.type "list",data:=.seq vs.toArray }) (hi:IntsAre vs ns) (hl:ns.length<=sizeLine) (hr:Room k callerA)
  (F:∀ base:Heap,K.In base->base.Ns mainGlobals mg->FnOk P w K mg base CX k fa fd [x] sp) (hbind:∀ (s:Shared) (u:Value),BindsTo s fd ⟨[u],[]⟩ [(x,u)])
  (hsp:∀ H:Hp,Only H->SqL K H a (ns.map V.int)->sp [.ref a] H (fun v _=>v=.bl true) fun _ _ _=>False)
  (hCX:∀ H e s',CX [] H s₁ (fun _ _ _=>False) e s'->False) :
  codeAny (model P w) callerA (.call (.ref fa) ⟨[.ref a],[]⟩) (fun r s'=>r=.ok (.ret (.bool true))/\OldK s₁.heap s'.heap/\s'.os=s₁.os/\AllBare s'.gens) s₁:=by
 have rv:=ZfF hi
 have lenV:=hi.length
 -- from an abstract heap in which nothing but the script may be tracked
 have core:∀ H:Hp,Only H->SqL K H a (ns.map V.int)->HOk P w H s₁.heap->(∀ b,H b≠none->b=a)->(H a≠none->K.lookup a=none) ->
   codeAny (model P w) callerA (.call (.ref fa) ⟨[.ref a],[]⟩) (fun r s'=>r=.ok (.ret (.bool true))/\OldK s₁.heap s'.heap/\s'.os=s₁.os/\AllBare s'.gens) s₁:=by
  intro H hO hS hok hA hK
  have base_of:∀ {b:Addr}{o:Obj},s₁.heap.get? b=some o->H b=none->(Zm3 s₁.heap H).get? b=some o:=fun e n=>Zm2 e n
  have noA:∀ {b:Addr}{o:Obj}{es:Array DictEntry}{ep:Nat},s₁.heap.get? b=some o->o.data=.dict es ep->H b=none:=fun {b o es ep} e d=>by
   cases q:H b with
   | none=>rfl
   | some u =>
    have e':b=a:=hA b (by rw [q];simp)
    subst e'
    rw [ha] at e;cases e
    have d':Data.seq vs.toArray _=Data.dict es ep:=d
    cases d'
  have nsK:∀ {b:Addr}{m:Str->Option Value},s₁.heap.Ns b m->(Zm3 s₁.heap H).Ns b m:=fun {b m} ⟨o,es,ep,e,d,r⟩=>⟨o,es,ep,base_of e (noA e d),d,r⟩
  have hKb:K.In (Zm3 s₁.heap H):=fun b o e=>base_of (KX b o e) (by
   cases q:H b with
   | none=>rfl
   | some u =>
    have e':b=a:=hA b (by rw [q];simp)
    subst e'
    rw [hK (by rw [q];simp)] at e;cases e)
  have hM:Mod K mg (Zm3 s₁.heap H):=⟨hKb,nsK hns,⟨mb,nsK hb,hbb⟩,let ⟨mc,h1,h2⟩:=hlim;⟨mc,nsK h1,h2⟩⟩
  have e0:Env0 P w K mg (Zm3 s₁.heap H) callerA [] s₁ H:=⟨rfl,hM,fun b o e=>Zox e,ZrW (ZlH _ _),trivial,fun b hb=>absurd (show b∈([]:List Addr) from hb) (by simp),hok,.of_eq hg⟩
  refine codeAny_mono ((F _ hKb (nsK hns)).run callerA [] s₁ H ⟨[.ref a],[]⟩ [.ref a] [.ref a] _ _ hr e0 (hbind s₁ (.ref a)) (.cons rfl .nil) (hsp H hO hS)) fun r s' h=>?_
  cases r with
  | error e=>exact (hCX H e s' h).elim
  | ok fl =>
   cases fl with
   | next=>exact False.elim h
   | brk=>exact False.elim h
   | cont=>exact False.elim h
   | ret u =>
    obtain ⟨v,H',os,bare,un,hok',r',q⟩:=h
    have q':v=.bl true:=q
    subst q'
    obtain rfl:u=Value.bool true:=r'
    refine ⟨rfl,OldK.of_keep fun b o e=>?_,os,bare⟩
    cases q:H b with
    | none=>exact un.keep b o e q (by intro z;exact absurd (show b∈([]:List Addr) from z) (by simp)) (by simp)
    | some u =>
     rcases hO b with z | ⟨ob,xs,z⟩
     ·rw [q] at z;cases z
     ·have z2:=un.frzs b ob _ z
      obtain ⟨e1,_⟩:=hok b _ z
      obtain ⟨e2,_⟩:=hok' b _ z2
      rw [e] at e1;cases e1
      exact e2
 cases hk:K.lookup a with
 | some o =>
  -- the script is one of the module's own objects
  have e:=KX a o hk
  rw [ha] at e
  cases e
  refine core (fun _=>none) (fun _=>.inl rfl) (.inr ⟨_,vs.toArray,_,hk,rfl,rfl,rfl,by rw [Zqu,lenV];exact hl,by simpa using rv⟩) (fun b u z=>by have z':(none:Option HO)=some u:=z;cases z') (fun b z=>absurd rfl z) fun z=>absurd rfl z
 | none =>
  refine core (fun b=>if b=a then some (.frz { cls:=.type "list",data:=.seq vs.toArray } (.lst (ns.map V.int))) else none) (fun b=>?_) (.inl (.inr ⟨{ cls:=.type "list",data:=.seq vs.toArray },if_pos rfl⟩)) (fun b u z=>?_) (fun b z=>?_) fun _=>hk
  ·by_cases hb:b=a
   ·exact .inr ⟨_,_,if_pos hb⟩
   ·exact .inl (if_neg hb)
  ·by_cases hb:b=a
   ·have z':=(if_pos hb).symm.trans z
    cases z'
    subst hb
    exact ⟨ha,by rw [Zqi];exact hl,vs,_,rv,ha⟩
   ·have z':=(if_neg hb).symm.trans z
    cases z'
  ·by_cases hb:b=a
   ·exact hb
   ·exact absurd (if_neg hb) z
noncomputable abbrev KOf {K:ZpF}{h:Heap} (_:K.In h):ZpF:=K
theorem ZkB {l:Zp5}{n k:Nat}{q:Program}{loose:List Str}{XP:(Str->Option Value)->Heap->Prop}{YP:World->Heap->Prop}{d:DefRec}{K:Params->ZpF}{CX:World->CXT}{sp:World->Sp}{x:Str}
  (hn:l.most=some n) (hn2:n<=sizeLine) (hdf:d.params.defaults=[]) (hr:Room k callerA)
  (hY:∀ (w:World) (h:Heap),YP w h->(K w.params).In h)
  (F:∀ (w:World) (mg:Str->Option Value) (fa:Addr) (h:Heap),(K w.params).In h->h.Ns mainGlobals mg->mg d.name=some (.ref fa) ->
   ∃ fd:FuncData,(∀ (s:Shared) (u:Value),BindsTo s fd ⟨[u],[]⟩ [(x,u)]) /\
    ∀ base:Heap,(K w.params).In base->base.Ns mainGlobals mg->FnOk l.prog w (K w.params) mg base (CX w) k fa fd [x] (sp w))
  (hsp:∀ (w:World) (H:Hp) (a:Addr) (ns:List Int),ns.length<=n->Only H->SqL (K w.params) H a (ns.map V.int)->sp w [.ref a] H (fun v _=>v=.bl true) fun _ _ _=>False)
  (hCX:∀ (w:World) (H:Hp) (s:Shared) (e:Value) (s':Shared),CX w [] H s (fun _ _ _=>False) e s'->False) :
  PySem.W.WalkO q loose XP YP l.row.toRowW d [] (fun f vs=>PySem.call f vs):=by
 refine Att.Zji hn hdf fun w s₀ s₁ mg mb fa o pm cd doc a vs ns G Y ho hd hcd hmg hobj hints hlen hg=>?_
 have KX:=hY w _ Y
 obtain ⟨fd,hb,hF⟩:=F w mg fa _ KX G.T.g hmg
 exact ZmV KX G.T.g G.T.b G.T.builtins G.T.nolimit hg hobj hints (ZrR hlen hn2) hr hF hb (fun H hO hS=>hsp w H a ns hlen hO hS) fun H e s'=>hCX w H s₁ e s'
end L2
/- THE LAST THEOREM (shape;LID,My.* are yours):
   My.Adr: a structure of the addresses that your layer names (classes,functions);My.Txt K t: a structure (Prop) of the equations over K;
   My.txt_mk:{K}{implicit addresses ..} (e1:nsIn K mainGlobals "law" = some (some (.ref f))) (e2:K.lookup f=some ⟨oc,od,.func (fnOf "law" "law" params body scope dV kV doc pm an cdv ct),sl⟩) (e3:codeIn K cdv "law" = true) .. : ∃ t,My.Txt K t
set_option maxRecDepth 100000 in
set_option maxHeartbeats 0 in
theorem PySem.Challenge.cw_LID_holds : PySem.Challenge.rw_LID.Holds := by
 w_on;o_law;k_head;(case hw=>w_witness2)
 k_fill
 refine L2.ZkB (l:=PySem.Challenge.rw_LID) (n:=63) (k:=40) (x:="script") (CX:=fun w=>..) (sp:=fun _=>My.sp_law) rfl (by decide) rfl ⟨rfl,by decide,by decide⟩ (fun w h Y=>PySem.W.kIn_of Y) ?F ?S ?C
 case F =>
  intro w mg fa h KX G hmg
  have T:∃ t,My.Txt (L2.KOf KX) t:=by
   dsimp only [L2.KOf]                          -- K must stand as «<heap const> w.params» for k_is
   refine' My.txt_mk ?e1 ?e2 ?e3 ..
   (case e1 => PySem.W.k_is)                    -- in the order: a name -> its address -> its object -> its parts
   (case e2=>PySem.W.k_is)
   ..
  obtain ⟨t,T⟩:=T
  have e0:=hmg.symm.trans (ZpK KX G T.law)
  cases e0                                       -- fa is the law's own address
  exact ⟨_, fun s u => .of_eq rfl, fun base kb nb => My.law_fn T kb nb⟩     -- if «.of_eq rfl» comes too early: refine' ⟨_, ?b, fun base kb nb => My.law_fn T kb nb⟩; exact fun s u => .of_eq rfl
 case S=>exact fun w H a ns hl hO hS=>..
 case C=>exact ..
(the tactic k_is has no namespace: write k_is) -/
namespace L2
open PySem PySem.Spec PyProof.Rows
noncomputable def Zaw (s:Stmt) (j:Nat):Stmt:=match s with
 | .ClassDef _ _ _ body _ _ _ _ _ _ _=>body.getD j (.Pass ⟨0,0,0,0⟩)
 | _=>.Pass ⟨0,0,0,0⟩
noncomputable def Zaq (s:Stmt):Arguments:=match s with
 | .FunctionDef _ a _ _ _ _ _ _ _ _=>a
 | _=>{ posonlyargs:=[],args:=[],vararg:=none,kwonlyargs:=[],kw_defaults:=[],kwarg:=none,defaults:=[] }
noncomputable def Zai (s:Stmt):List Stmt:=match s with
 | .FunctionDef _ _ b _ _ _ _ _ _ _=>b
 | _=>[]
noncomputable def Zab (s:Stmt):Scope:=match s with
 | .FunctionDef _ _ _ _ _ _ sc _ _ _=>sc
 | _=>{ kind:=.function,names:=[],isGenerator:=false,isCoroutine:=false }
noncomputable abbrev CX0:CXT:=fun _ _ _ _ _ _=>False
noncomputable abbrev E0:XK:=fun _ _ _=>False
theorem ZaR {X:Cx}:ZeJ CX0 X E0:=fun _ _ _ _ _ _ _ h=>h.elim
structure Fun (K:ZpF) (x qual:Str) (st:Stmt) (f:Addr) (fd:FuncData):Prop where
 ex:∃ (oc:Value) (od:Option Addr) (kV doc pm:Value) (an:Option Addr) (cdv ct:Value) (osl:Array (Option Value)),
  fd=ZpH x qual (Zaq st) (Zai st) (Zab st) .none kV doc pm an cdv ct/\K.lookup f=some ⟨oc,od,.func fd,osl⟩/\ZpJ K cdv qual=true
 kp:ZpG K (.ref f)=true
section
variable {P:Program}{w:World}{K:ZpF}{mg:Str->Option Value}{base:Heap}
theorem Fun.ok {x qual:Str}{st:Stmt}{f:Addr}{fd:FuncData}{N ps:List Str}{k:Nat}{sp:Sp} (F:Fun K x qual st f fd) (S:FnScope N ps (Zab st)) (len:∀ vs H Q E,sp vs H Q E->vs.length=ps.length)
  (hbody:∀ (cdv:Value) (A:Around) (outer:List Env) (s:Shared) (H:Hp) (vs:List V) (Q:VK) (E:XK),Room k (A.deeper (envOfC qual (Zab st) s.heap.objs.size f cdv))->sp vs H Q E ->
   ∃ t,PSs (Zcd CX0 P w K mg base N qual (Zab st) f cdv A outer s H E).nox (Zai st) t/\t { nx:=fun _ H'=>Q .non H',rt:=Q } (start N vs) H):FnOk P w K mg base CX0 (k+1) f fd ps sp:=by
 obtain ⟨oc,od,kV,doc,pm,an,cdv,ct,osl,rfl,lk,hcd⟩:=F.ex
 refine fn_of lk hcd S len fun A outer s H vs Q E hr hsp=>?_
 obtain ⟨t,h,q⟩:=hbody cdv A outer s H vs Q E hr hsp
 exact ⟨t,h.nox,q⟩
theorem Fun.binds {x qual:Str}{st:Stmt}{f:Addr}{fd:FuncData}{ps:List Str} (F:Fun K x qual st f fd)
  (h:∀ (kV doc pm:Value) (an:Option Addr) (cdv ct:Value) (us:List Value),us.length=ps.length->bindArgs (ZpH x qual (Zaq st) (Zai st) (Zab st) .none kV doc pm an cdv ct) ⟨us,[]⟩=pure (ps.zip us)):Za7 K fd ps []:=by
 obtain ⟨oc,od,kV,doc,pm,an,cdv,ct,osl,rfl,lk,hcd⟩:=F.ex
 exact .all (h kV doc pm an cdv ct)
theorem ZaP {x qual:Str}{st:Stmt}{f:Addr}{oc:Value}{od an:Option Addr}{osl:Array (Option Value)}{kV doc pm cdv ct:Value} (l:K.lookup f=some ⟨oc,od,.func (ZpH x qual (Zaq st) (Zai st) (Zab st) .none kV doc pm an cdv ct),osl⟩)
  (c:ZpJ K cdv qual=true) (k:ZpG K (.ref f)=true):Fun K x qual st f (ZpH x qual (Zaq st) (Zai st) (Zab st) .none kV doc pm an cdv ct):=⟨⟨oc,od,kV,doc,pm,an,cdv,ct,osl,rfl,l,c⟩,k⟩
end
theorem Zb1 {A:Around}{k:Nat} (hr:Room k A):A.units+1<cLine:=Nat.lt_of_le_of_lt (Nat.add_le_add_left (by decide:1<=64) _) hr.units
section
variable {X:Cx}
theorem Zma:Zc9 X (.builtin "len") (fun xs H Q=>∃ a kvs,xs=[V.ref a]/\H a=some (.dK kvs)/\Q (.int kvs.length) H):=by
 intro pins s σ H xs us Q I r h
 obtain ⟨a,kvs,rfl,ha,q⟩:=h
 obtain ⟨u,rfl,ru⟩:=Zgt r
 cases ru
 exact d_len I (.inl ha) fun t s' I'=>⟨.int kvs.length,H,I',⟨t,rfl⟩,q⟩
end
noncomputable def ZaZ (H H':Hp):Prop:=∀ b o,H b=some o->H' b=some o
theorem ZaZ.refl (H:Hp):ZaZ H H:=fun _ _ h=>h
theorem ZaZ.trans {H H1 H2:Hp} (a:ZaZ H H1) (b:ZaZ H1 H2):ZaZ H H2:=fun c o h=>b c o (a c o h)
theorem ZaZ.seq {K:ZpF}{H H':Hp}{a:Addr}{xs:List V} (e:ZaZ H H') (h:SqL K H a xs):SqL K H' a xs:=by
 rcases h with (h | ⟨o,h⟩) | h
 ·exact .inl (.inl (e _ _ h))
 ·exact .inl (.inr ⟨o,e _ _ h⟩)
 ·exact .inr h
section
variable {κ:Type} [DecidableEq κ]
end
noncomputable def Zgz (env:Env):List (Str × NameKind)->List (Str × Addr)->List (Str × Addr)
 | [],acc=>acc
 | (n,k) :: r,acc=>if (k == NameKind.free)=true then Zgz env r ((n,(env.cells.lookup n).getD 0) :: acc) else Zgz env r acc
theorem Zl7 {env:Env}{n:Str}{c:Addr} (h:env.cells.lookup n=some c):cellOf env n=pure c:=by
 unfold cellOf
 rw [h]
theorem ZgU {env:Env}:∀ (names:List (Str × NameKind)) (acc:List (Str × Addr)),(∀ x∈names,x.2=.free->∃ c,env.cells.lookup x.1=some c) ->
  (forIn names acc fun (x:Str × NameKind) (cs:List (Str × Addr))=>(match x with | (name,kind)=>if (kind == NameKind.free)=true then (do let __do_lift <- cellOf env name;pure PUnit.unit;pure (ForInStep.yield ((name,__do_lift) :: cs)):Sem _) else (do pure PUnit.unit;pure (ForInStep.yield cs)):Sem (ForInStep (List (Str × Addr)))))=pure (Zgz env names acc)
 | [],acc,_=>rfl
 | (n,k) :: r,acc,h=>by
  have ih:=fun a=>ZgU r a fun x hx=>h x (ZqI _ hx)
  rw [List.forIn_cons]
  by_cases hk:(k == NameKind.free)=true
  ·obtain ⟨c,hc⟩:=h (n,k) ZqF (by simpa using hk)
   simp only [hk,if_true,Zgz,Zl7 hc,hc,Option.getD_some,pure_bind]
   exact ih _
  ·simp only [hk,if_false,Zgz,pure_bind]
   exact ih _
theorem ZgT {scope:Scope}{env:Env} (h:∀ x∈scope.names,x.2=.free->∃ c,env.cells.lookup x.1=some c):closureFor scope env=pure (Zgz env scope.names []):=by
 unfold closureFor
 have q:=ZgU scope.names [] h
 exact (congrArg (fun m=>m >>= pure) q).trans (pure_bind _ _)
theorem ZhD {env:Env}:∀ (names:List (Str × NameKind)) (acc:List (Str × Addr)),(∀ x∈names,x.2=.free->∃ c,env.cells.lookup x.1=some c)->(∀ p∈acc,env.cells.lookup p.1=some p.2) ->
  ∀ p∈Zgz env names acc,env.cells.lookup p.1=some p.2
 | [],acc,_,ha=>ha
 | (n,k) :: r,acc,h,ha=>by
  by_cases hk:(k == NameKind.free)=true
  ·obtain ⟨c,hc⟩:=h (n,k) ZqF (by simpa using hk)
   simp only [Zgz,hk,if_true]
   refine ZhD r _ (fun x hx=>h x (ZqI _ hx)) fun p hp=>?_
   rcases Zqt.mp hp with rfl | hp
   ·show env.cells.lookup n=some _
    rw [hc];rfl
   ·exact ha p hp
  ·simp only [Zgz,hk,if_false]
   exact ZhD r _ (fun x hx=>h x (ZqI _ hx)) ha
theorem ZhF {env:Env}:∀ (names:List (Str × NameKind)) (acc:List (Str × Addr)) (p:Str × Addr),p∈acc->p∈Zgz env names acc
 | [],_,_,h=>h
 | (n,k) :: r,acc,p,h=>by
  by_cases hk:(k == NameKind.free)=true
  ·simp only [Zgz,hk,if_true]
   exact ZhF r _ p (ZqI _ h)
  ·simp only [Zgz,hk,if_false]
   exact ZhF r _ p h
theorem ZhE {env:Env}:∀ (names:List (Str × NameKind)) (acc:List (Str × Addr)) (x:Str),(x,NameKind.free)∈names->∃ c,(x,c)∈Zgz env names acc
 | (n,k) :: r,acc,x,h=>by
  rcases Zqt.mp h with e | h
  ·injection e with e1 e2
   subst e1;subst e2
   simp only [Zgz,beq_self_eq_true,if_true]
   exact ⟨_,ZhF r _ _ ZqF⟩
  ·by_cases hk:(k == NameKind.free)=true
   ·simp only [Zgz,hk,if_true]
    exact ZhE r _ x h
   ·simp only [Zgz,hk,if_false]
    exact ZhE r _ x h
theorem Zcz:∀ {l:List (Str × Addr)}{x:Str}{c:Addr},(x,c)∈l->∃ d,l.lookup x=some d
 | (n,d) :: r,x,c,h=>by
  by_cases e:x == n
  ·exact ⟨d,by simp [ZqM,e]⟩
  ·rcases Zqt.mp h with q | q
   ·injection q with q1 _
    subst q1
    simp at e
   ·obtain ⟨d',hd⟩:=Zcz q
    exact ⟨d',by simp [ZqM,e,hd]⟩
theorem Zdn {env:Env}:∀ {names:List (Str × NameKind)}{x:Str}{k:NameKind},
  (names.map fun (n,k)=>if (k == NameKind.free && env.scope.kind == .function && env.kindOf n == some .cell) then (n,NameKind.cell) else (n,k)).lookup x=some k ->
  ∃ k',names.lookup x=some k'/\(k=k'\/k'=.free)
 | [],_,_,h=>by simp at h
 | (n,j) :: r,x,k,h=>by
  have ih:=@Zdn env r x k
  by_cases hc:(j == NameKind.free && env.scope.kind == .function && env.kindOf n == some .cell)=true
  ·simp only [ZqB,hc,if_true,ZqM] at h ⊢
   cases e:x == n with
   | true =>
    rw [e] at h
    refine ⟨j,rfl,.inr ?_⟩
    simp only [Zsr,beq_iff_eq] at hc
    exact hc.1.1
   | false =>
    rw [e] at h
    exact ih h
  ·rw [ZqB] at h
   dsimp only at h
   rw [if_neg hc,ZqM] at h
   rw [ZqM]
   cases e:x == n with
   | true =>
    rw [e] at h
    exact ⟨j,rfl,.inl (by injection h with h;exact h.symm)⟩
   | false =>
    rw [e] at h
    exact ih h
theorem Zfb {env:Env}:∀ {names:List (Str × NameKind)}{x:Str},names.lookup x=some .free ->
  (names.map fun (n,k)=>if (k == NameKind.free && env.scope.kind == .function && env.kindOf n == some .cell) then (n,NameKind.cell) else (n,k)).lookup x=some .cell \/
  (names.map fun (n,k)=>if (k == NameKind.free && env.scope.kind == .function && env.kindOf n == some .cell) then (n,NameKind.cell) else (n,k)).lookup x=some .free
 | [],_,h=>by simp at h
 | (n,j) :: r,x,h=>by
  have ih:=@Zfb env r x
  cases e:x == n with
  | true =>
   rw [ZqM,e] at h
   injection h with h
   subst h
   rw [ZqB]
   dsimp only
   split
   ·exact .inl (by simp [ZqM,e])
   ·exact .inr (by simp [ZqM,e])
  | false =>
   rw [ZqM,e] at h
   rcases ih h with q | q
   ·left
    rw [ZqB]
    dsimp only
    split <;> simp only [ZqM,e] <;> exact q
   ·right
    rw [ZqB]
    dsimp only
    split <;> simp only [ZqM,e] <;> exact q
noncomputable def ccx (X:Cx) (scope:Scope) (N:List Str) (C:Addr) (s:Shared) (H:Hp) (fp:List Addr):Cx :=
 { X with N:=N,s₀:=s,H₀:=H,env:=compEnvC scope (Zgz X.env scope.names []) C X.env,outer:=X.stack,stack:=X.stack,ex:=fp,fn:=fun _=>false,pn:=[],xe:=fun _ _=>False }
structure CScope (X:Cx) (scope:Scope):Prop where
 kind:scope.kind=.function
 nocell:∀ y∈scope.names,y.2≠.cell
 names:∀ y∈scope.names,y.2=.local->scope.names.lookup y.1=some .local
 free:∀ y∈scope.names,y.2=.free->X.env.kindOf y.1=some .cell\/X.env.kindOf y.1=some .free
section
variable {X:Cx}{pins:List (Addr × Obj)}{σ:St}{H:Hp}{s:Shared}
theorem CScope.has {scope:Scope} (S:CScope X scope) (ok:X.Ok):∀ x∈scope.names,x.2=.free->∃ c,X.env.cells.lookup x.1=some c:=fun x hx h=>ok.has _ (S.free x hx h)
theorem Zgg {scope:Scope} (S:CScope X scope) (ok:X.Ok) {x:Str}{c:Addr} (h:(Zgz X.env scope.names []).lookup x=some c):X.env.cells.lookup x=some c :=
 ZhD scope.names [] (S.has ok) (fun p hp=>absurd hp (by simp)) (x,c) (PySem.mem_of_lookup h)
theorem Zjg {scope:Scope} (S:CScope X scope) (ok:X.Ok) {x:Str} (h:scope.names.lookup x=some .free):∃ c,(Zgz X.env scope.names []).lookup x=some c/\X.env.cells.lookup x=some c:=by
 obtain ⟨c,hc⟩:=ZhE (env:=X.env) scope.names [] x (PySem.mem_of_lookup h)
 obtain ⟨d,hd⟩:=Zcz hc
 exact ⟨d,hd,Zgg S ok hd⟩
structure CNames (X:Cx) (scope:Scope) (N:List Str) (k:Nat) (sel:List Nat):Prop where
 len:N.length=k+sel.length
 fr:∀ (i j:Nat) (x:Str),sel[i]? = some j->N[k+i]? = some x->X.N[j]? = some x/\scope.names.lookup x=some .free
noncomputable def cst (σ:St) (k:Nat) (sel:List Nat):St:=Zqk k none ++ sel.map fun j=>(σ[j]?).join
theorem Zpj {k:Nat}{sel:List Nat}:(cst σ k sel).length=k+sel.length:=by
 unfold cst;rw [Zqj,Zqv,Zqi]
theorem ZnT {scope:Scope}{N:List Str}{fp:List Addr} (S:CScope X scope) (I:Inv X pins σ H s) (hf:∀ b∈fp,Zkv X pins H b) (hlt:∀ b∈fp,b<s.heap.objs.size):(ccx X scope N s.heap.objs.size s H fp).Ok where
 mod:=I.ok.mod
 kind:=S.kind
 glob:=I.ok.glob
 blt:=I.ok.blt
 above:=ZrN _
 inj:=fun x y c h1 h2=>I.ok.inj x y c (Zgg S I.ok h1) (Zgg S I.ok h2)
 has:=fun x h=>by
  have h':(relabel scope X.env).names.lookup x=some .cell\/(relabel scope X.env).names.lookup x=some .free:=h
  rcases h' with h' | h'
  ·obtain ⟨k',e,q⟩:=Zdn h'
   rcases q with q | q
   ·subst q
    exact absurd rfl (S.nocell _ (PySem.mem_of_lookup e))
   ·subst q
    obtain ⟨c,hc,_⟩:=Zjg S I.ok e
    exact ⟨c,hc⟩
  ·obtain ⟨k',e,q⟩:=Zdn h'
   have:k'=.free:=by rcases q with q | q;exact q.symm;exact q
   subst this
   obtain ⟨c,hc,_⟩:=Zjg S I.ok e
   exact ⟨c,hc⟩
 cab:=fun x c h=>absurd (show false=true from h) (by simp)
 hd:=I.ok.hd
 frames:=I.ok.frames
 stk:=.inl rfl
 exf:=fun b hb=>⟨ZrP (hlt b hb),fun x c h=>(hf b hb).2.2.2.2.1 x c (Zgg S I.ok h)⟩
 bs:=I.bs
 bsz:=ZrR I.ok.bsz I.sz
 noex:=fun b o e hb=>by
  rcases (hf b hb).2.2.2.1 with z | z
  ·exact I.ok.noex b o e z
  ·exact absurd (ZrQ (Heap.lt_size e) (ZrR I.ok.bsz z)) (ZrU _)
 exfs:=fun b hb z=>by
  rcases Zqt.mp (I.stkSub b z) with q | q
  ·exact (hf b hb).2.1 q
  ·exact (hf b hb).2.2.1 q
 funs:=I.stack
 frf:=I.stkFree
theorem Zpl {scope:Scope}{N:List Str}{fp:List Addr}{k:Nat}{sel:List Nat}{h₁:Heap}{m:Str->Option Value}{t':Nat} (S:CScope X scope) (M:CNames X scope N k sel) (I:Inv X pins σ H s) (hf:∀ b∈fp,Zkv X pins H b) (hlt:∀ b∈fp,b<s.heap.objs.size)
  (hn:h₁.Ns s.heap.objs.size m) (hk:∀ b o,s.heap.get? b=some o->h₁.get? b=some o):Inv (ccx X scope N s.heap.objs.size s H fp) [] (cst σ k sel) H { s with heap:=h₁,toks:=t' }:=by
 refine ⟨ZnT S I hf hlt,rfl,I.bare,Un.kept hk,⟨m,hn,fun i x v e1 e2 e3=>?_⟩,fun x c e=>?_,I.hok.fresh (ZrN _),fun x c e=>I.freeC x c (Zgg S I.ok e),fun p hp=>absurd (show p∈([]:List (Addr × Obj)) from hp) (by simp),I.hok.kept hk,?_⟩
 ·have hi:k<=i:=by
   by_cases hi:k<=i
   ·exact hi
   ·unfold cst at e2
    rw [ZqC (by simp;omega),Zq7] at e2
    split at e2 <;> cases e2
  obtain ⟨d,rfl⟩:∃ d,i=k+d:=⟨i - k,by omega⟩
  unfold cst at e2
  rw [ZqD (by simp),Zqv,Nat.add_sub_cancel_left,Zqy] at e2
  cases ej:sel[d]? with
  | none=>rw [ej] at e2;cases e2
  | some j =>
   rw [ej] at e2
   have e2':(σ[j]?).join=some v:=Option.some.inj e2
   have e4:σ[j]? = some (some v):=by
    cases q:σ[j]? with
    | none=>rw [q] at e2';cases e2'
    | some o=>rw [q] at e2';cases o with
     | none=>cases e2'
     | some w=>cases e2';rfl
   obtain ⟨hN,hfr⟩:=M.fr d j x ej e1
   obtain ⟨mo,hno,hlo⟩:=I.loc
   have hkind:=S.free _ (PySem.mem_of_lookup hfr) rfl
   obtain ⟨u,ru,lu⟩:=hlo j x v hN e4 (by rcases hkind with q | q;exact .inr (.inl q);exact .inr (.inr q))
   obtain ⟨c,hc,hc'⟩:=Zjg S I.ok hfr
   refine ⟨u,ru,.inr ⟨?_,c,hc,?_⟩⟩
   ·exact Zfb hfr
   ·rcases lu with ⟨kl,_⟩ | ⟨_,c',e5,z⟩
    ·rcases hkind with q | q
     ·rw [kl] at q;cases q
     ·rw [kl] at q;cases q
    ·rw [hc'] at e5;cases e5
     obtain ⟨o,ho,hd⟩:=z
     exact ⟨o,hk _ _ ho,hd⟩
 ·obtain ⟨v,o,ho,hd⟩:=I.cell x c (Zgg S I.ok e)
  exact ⟨v,o,hk _ _ ho,hd⟩
 ·rw [Zpj];exact M.len.symm
end
noncomputable def PTs (X:Cx) (ifs:List Expr) (t:TT):Prop :=
 ∀ (pins:List (Addr × Obj)) (s:Shared) (σ:St) (H:Hp) (Q:Bool->Hp->Prop),Inv X pins σ H s->t σ H Q ->
  wpAny (model X.prog X.w) X.A (forIn ifs true fun c r=>if r=true then do let ok <- isTrue c X.env (eval c X.env);pure (ForInStep.yield ok) else pure (ForInStep.yield r)) (TP X pins σ Q) X.xe s
noncomputable def Zeo:TT:=fun _ H Q=>Q true H
theorem ZeW {X:Cx}:PTs X [] Zeo:=fun pins s σ H Q I h=>wpAny_tests_nil ⟨H,I,h⟩
theorem ZfX {X:Cx}{c:Expr}{t:TT} (hc:PT X c t):PTs X [c] t:=fun pins s σ H Q I h=>wpAny_tests_one (hc pins s σ H Q I h)
noncomputable def ZcU (wi:TI) (k:Nat) (sel:List Nat) (g:TG) (tt:TT) (te:TE):TE:=fun σ H Q=>wi σ H fun J H1=>∀ p,H1 p=none ->
 ∃ W:Nat->Nat->St->Hp->Prop,(∃ m,W 0 m (cst σ k sel) (upd H1 p (.lst [])))/\∀ i m σ2 H2,W i m σ2 H2 ->
  (J.stop i H2/\Q (.ref p) H2)\/(J.go i H2/\∀ x H3,J.yld i H2 x H3->g x σ2 H3 fun σ4 H4=>tt σ4 H4 fun b H5 =>
   if b=true then te σ4 H5 fun v H6=>∃ ys,H6 p=some (.lst ys)/\ys.length<sizeLine/\∃ m',m'<m/\W (i+1) m' σ4 (upd H6 p (.lst (ys ++ [v]))) else ∃ m',m'<m/\W (i+1) m' σ4 H5)
theorem Zl4 {X:Cx}{elt tg iter:Expr}{ifs:List Expr}{scope:Scope}{pos:Pos}{it D:Addr}{fp:List Addr}{tn:Nat->Heap->Prop}{J:It}{g:TG}{tt:TT}{te:TE}{W:Nat->Nat->St->Hp->Prop}{R:Result->Shared->Prop}{QQ:Hp->Prop}
  (hx:X.xe=fun _ _=>False) (hc:X.calm=true) (T:Turn X.prog X.w X.K tg J fp it tn) (hg:PG X tg g) (ht:PTs X ifs tt) (he:PE X elt te)
  (hfp:∀ b∈fp,b≠X.env.locals/\b ∉ X.fs/\(b∈X.ex\/X.s₀.heap.objs.size<=b)/\(∀ x c,X.env.cells.lookup x=some c->c≠b)/\∀ p∈X.pn ++ [],p.1≠b)
  (turn:∀ i m σ2 H2,W i m σ2 H2 ->
   (J.stop i H2/\QQ H2)\/(J.go i H2/\∀ x H3,J.yld i H2 x H3->g x σ2 H3 fun σ4 H4=>tt σ4 H4 fun b H5 =>
    if b=true then te σ4 H5 fun v H6=>∃ ys,H6 D=some (.lst ys)/\ys.length<sizeLine/\∃ m',m'<m/\W (i+1) m' σ4 (upd H6 D (.lst (ys ++ [v]))) else ∃ m',m'<m/\W (i+1) m' σ4 H5))
  (hR:∀ s' σ' H',Inv X [] σ' H' s'->QQ H'->R (.ok .next) s') {s:Shared} (m0:Nat) (h:∃ i σ' H',Inv X [] σ' H' s/\tn i s.heap/\(∀ b∈fp,H' b=none)/\W i m0 σ' H') :
  codeAny (model X.prog X.w) X.A (.compLoop (.ListComp elt [⟨tg,iter,ifs,0⟩] scope pos) 0 (.ref it) (.ref D) X.env) R s:=by
 have stat:∀ {H':Hp},(∀ b∈fp,H' b=none)->∀ b∈fp,Zkv X [] H' b:=fun hn b hb=>⟨hn b hb,hfp b hb⟩
 have noE:∀ {α:Type}{t:Sem α}{Q:α->Shared->Prop}{E:Value->Shared->Prop}{s:Shared},wpAny (model X.prog X.w) X.A t Q X.xe s->wpAny (model X.prog X.w) X.A t Q E s:=fun {α t Q E s} h=>by
  rw [hx] at h
  exact wpAny_noRaise h
 refine codeAny_loop rfl (fun n s'=>∃ i σ' H',Inv X [] σ' H' s'/\tn i s'.heap/\(∀ b∈fp,H' b=none)/\W i n σ' H') (fun n s3 hI=>?_) m0 h
 obtain ⟨i,σ3,H3,I3,st3,fr3,w3⟩:=hI
 show wpAny _ X.A ((compTurn (.ListComp elt [⟨tg,iter,ifs,0⟩] scope pos) 0 (.ref it) (.ref D) X.env).onRaise (fun x=>do noteFrame x X.env;theTreesLotGoes x)) _ _ s3
 refine wpAny_noted ?_
 rw [compTurn_list]
 rcases turn i n σ3 H3 w3 with ⟨stop,qn⟩ | ⟨go,step⟩
 ·refine wpAny_bind (wpAny_standAt (wpAny_bind (thn (noE (T.done X rfl rfl rfl hc i [] s3 σ3 H3 X.xe I3 (stat fr3) st3 stop)) fun r s4 ⟨hr,I4⟩=>?_)))
  subst hr
  exact wpAny_pure (hR s4 σ3 H3 I4 qn)
 ·refine wpAny_bind (wpAny_standAt (wpAny_bind (thn (noE (T.item X rfl rfl rfl hc i [] s3 σ3 H3 X.xe I3 (stat fr3) st3 go)) fun r s4 ⟨u,hr,h4⟩=>?_)))
  subst hr
  refine wpAny_bind (thn (noE h4) fun _ s5 ⟨x,H5,I5,r5,y5,st5,fr5⟩=>?_)
  have I5':=I5.pinned (stat fr5) (T.obj _ _ st5)
  refine wpAny_bind (thn (noE (hg _ s5 σ3 H5 x u _ I5' r5 (step x H5 y5))) fun _ s6 ⟨σ6,H6,I6,q6⟩=>?_)
  refine wpAny_bind (thn (noE (ht _ s6 σ6 H6 _ I6 q6)) fun ok s7 ⟨H7,I7,q7⟩=>?_)
  have again:∀ {s8:Shared}{H8:Hp},Inv X ([] ++ Zh1 fp s5.heap) σ6 H8 s8->(∃ m',m'<n/\W (i+1) m' σ6 H8)->∃ m,m<n/\∃ i σ' H',Inv X [] σ' H' s8/\tn i s8.heap/\(∀ b∈fp,H' b=none)/\W i m σ' H':=fun {s8 H8} I8 n8=>by
   obtain ⟨m',hm,w8⟩:=n8
   refine ⟨m',hm,i+1,σ6,H8,I8.unpinned,T.keep _ _ _ st5 fun b hb o e=>(I8.pin (b,o) (ZqG _ (ZqG _ (ZdN hb e)))).1,fun b hb=>?_,w8⟩
   obtain ⟨o,e,d⟩:=T.obj _ _ st5 b hb
   exact (I8.pin (b,o) (ZqG _ (ZqG _ (ZdN hb e)))).2.1
  cases ok with
  | false=>exact wpAny_pure ⟨rfl,again I7 q7⟩
  | true =>
   refine wpAny_bind (wpAny_bind (thn (noE (he _ s7 σ6 H7 _ I7 q7)) fun y s8 ⟨v,H8,I8,r8,ys,hys,hl,q8⟩=>?_))
   refine wpAny_bind (thn (noE (Za9 _ s8 σ6 H8 (.ref D) [v] (.ref D) [y] (fun _ H9=>∃ m',m'<n/\W (i+1) m' σ6 H9) I8 rfl (.cons r8 .nil) ⟨D,ys,v,rfl,rfl,hys,hl,q8⟩)) fun _ s9 ⟨_,H9,I9,_,q9⟩=>?_)
   exact wpAny_pure (wpAny_pure ⟨rfl,again I9 q9⟩)
structure CFree (X:Cx) (pins:List (Addr × Obj)) (H:Hp) (C:Addr) (s:Shared):Prop where
 none:H C=Option.none
 ne:C≠X.env.locals
 above:X.s₀.heap.objs.size<=C
 cells:∀ x c,X.env.cells.lookup x=some c->c≠C
 pins:∀ p∈X.pn ++ pins,p.1≠C
 ns:∃ m,s.heap.Ns C m
theorem ZgR {X:Cx}{pins:List (Addr × Obj)}{σ:St}{elt tg iter:Expr}{ifs:List Expr}{scope:Scope}{pos:Pos}{N:List Str}{k:Nat}{sel:List Nat}{g:TG}{tt:TT}{te:TE}{itv:Value}{s2:Shared}{QQ:VK}{use:Option (Value->Sem Unit)}{Qv:Value->Shared->Prop}
  (S:CScope X scope) (M:CNames X scope N k sel) (hc:X.calm=true)
  (hg:∀ C s H fp,PG (ccx X scope N C s H fp) tg g) (ht:∀ C s H fp,PTs (ccx X scope N C s H fp) ifs tt) (he:∀ C s H fp,PE (ccx X scope N C s H fp) elt te)
  (fin:∀ D C s' H',Inv X pins σ H' s'->CFree X pins H' C s'->QQ (.ref D) H'->compPost (model X.prog X.w) X.A X.xe use Qv (.ref D) C (.ok .next) s')
  (h2:PIE X pins σ tg (fun J H1=>∀ p,H1 p=none->∃ W:Nat->Nat->St->Hp->Prop,(∃ m,W 0 m (cst σ k sel) (upd H1 p (.lst [])))/\∀ i m σ2 H2,W i m σ2 H2 ->
   (J.stop i H2/\QQ (.ref p) H2)\/(J.go i H2/\∀ x H3,J.yld i H2 x H3->g x σ2 H3 fun σ4 H4=>tt σ4 H4 fun b H5 =>
    if b=true then te σ4 H5 fun v H6=>∃ ys,H6 p=some (.lst ys)/\ys.length<sizeLine/\∃ m',m'<m/\W (i+1) m' σ4 (upd H6 p (.lst (ys ++ [v]))) else ∃ m',m'<m/\W (i+1) m' σ4 H5)) itv s2) :
  wpAny (model X.prog X.w) X.A (newList []) (fun acc s₃=>wpAny (model X.prog X.w) X.A (newFunctionEnv scope X.env.globals (Zgz X.env scope.names []) [] X.env.qual none .none (some X.env)) (fun cenv s₄ =>
   codeAny (model X.prog X.w) X.A (.compStart (.ListComp elt [⟨tg,iter,ifs,0⟩] scope pos) 0 itv acc { cenv with scope:=relabel scope X.env }) (compPost (model X.prog X.w) X.A X.xe use Qv acc cenv.locals) s₄) X.xe s₃) X.xe s2:=by
 obtain ⟨it,fp,tn,J,H2,rfl,I2,T,st2,f2,R2⟩:=h2
 have hD:H2 s2.heap.objs.size=none:=I2.hok.fresh (ZrN _)
 obtain ⟨W,⟨m0,w0⟩,turn⟩:=R2 _ hD
 refine wpAny_newObj_type ?_
 have I3:=I2.lnew (its:=[]) (ys:=[]) (t':=s2.toks) .nil (ZrS _)
 generalize hs3:({ s2 with heap:=s2.heap.push { cls:=.type "list",data:=.seq ([]:List Value).toArray },toks:=s2.toks }:Shared)=s3 at I3
 have e3:({ s2 with heap:=s2.heap.push { cls:=.type "list",dict:=none,data:=.seq ([]:List Value).toArray } }:Shared)=s3:=by rw [<- hs3]
 have up:∀ b o,s2.heap.get? b=some o->s3.heap.get? b=some o:=fun b o e=>by rw [<- hs3];exact Heap.get?_push_of_some _ e
 have hsz:s2.heap.objs.size<=s3.heap.objs.size:=by rw [<- hs3];show _<=(s2.heap.push _).objs.size;rw [Heap.size_push];exact Nat.le_succ _
 have hlt2:∀ b∈fp,b<s2.heap.objs.size:=fun b hb=>by
  obtain ⟨o,e,_⟩:=T.obj _ _ st2 b hb
  exact Heap.lt_size e
 have hlt:∀ b∈fp,b<s3.heap.objs.size:=fun b hb=>ZrQ (hlt2 b hb) hsz
 have f3:∀ b∈fp,Zkv X pins (upd H2 s2.heap.objs.size (.lst [])) b:=fun b hb=>⟨by rw [Zak (ZrP (hlt2 b hb))];exact (f2 b hb).1,(f2 b hb).2⟩
 refine wpAny_newFunctionEnv S.nocell (by intro y hy;simp at hy) (fun h₁ hns₁ hsb₁=>?_) S.kind
 have up₁:∀ b o,s3.heap.get? b=some o->h₁.get? b=some o:=fun b o e=>hsb₁.extBut b o (ZrP (Heap.lt_size e)) (Heap.get?_push_of_some _ e)
 have Ic:=Zpl (N:=N) (k:=k) (sel:=sel) (t':=s3.toks+([]:List (Str × Value)).length) S M I3 f3 hlt hns₁ up₁
 have st₁:tn 0 h₁:=T.keep _ _ _ st2 fun b hb o e=>up₁ b o (up b o e)
 have fr:∀ b∈fp,(upd H2 s2.heap.objs.size (.lst [])) b=none:=fun b hb=>(f3 b hb).1
 have loop:codeAny (model X.prog X.w) X.A (.compLoop (.ListComp elt [⟨tg,iter,ifs,0⟩] scope pos) 0 (.ref it) (.ref s2.heap.objs.size) (compEnvC scope (Zgz X.env scope.names []) s3.heap.objs.size X.env))
   (compPost (model X.prog X.w) X.A X.xe use Qv (.ref s2.heap.objs.size) s3.heap.objs.size) { s3 with heap:=h₁,toks:=s3.toks+([]:List (Str × Value)).length }:=by
  refine Zl4 (X:=ccx X scope N s3.heap.objs.size s3 (upd H2 s2.heap.objs.size (.lst [])) fp) (QQ:=fun H'=>QQ (.ref s2.heap.objs.size) H') (W:=W) rfl hc T (hg _ _ _ _) (ht _ _ _ _) (he _ _ _ _) (fun b hb=>?_) turn (fun s' σ' H' I' q'=>?_) m0 ⟨0,cst σ k sel,_,Ic,st₁,fr,w0⟩
  ·refine ⟨ZrP (hlt b hb),?_,.inl hb,fun x c h=>(f3 b hb).2.2.2.2.1 x c (Zgg S I3.ok h),fun p hp=>absurd (show p∈([]:List (Addr × Obj)) from hp) (by simp)⟩
   exact (ZnT (N:=N) S I3 f3 hlt).exfs b hb
  ·have Ie:Inv X pins σ H' s':=I3.call' (ch:=fp) I'.os I'.base I'.hok I'.bare fun b hb=>⟨(f3 b hb).2.2.2.1,(f3 b hb).2.1,(f3 b hb).2.2.2.2.1,(f3 b hb).2.2.2.2.2⟩
   refine fin _ _ s' H' Ie ⟨I'.free,?_,ZrR I3.sz (ZrN _),fun x c e=>?_,fun p hp=>?_,?_⟩ q'
   ·exact Ne.symm (ZrP I3.lt)
   ·obtain ⟨v,o,ho,_⟩:=I3.cell x c e
    exact ZrP (Heap.lt_size ho)
   ·exact ZrP (Heap.lt_size (I3.pin p hp).1)
   ·obtain ⟨m,hn,_⟩:=I'.loc
    exact ⟨m,hn⟩
 exact codeAny_compStart_list loop (T.self X.A 0 _ _ _ st₁ loop)
section
variable {X:Cx}{elt tg iter:Expr}{ifs:List Expr}{scope:Scope}{pos:Pos}{N:List Str}{k:Nat}{sel:List Nat}{wi:TI}{g:TG}{tt:TT}{te:TE}
theorem ZfY (S:CScope X scope) (M:CNames X scope N k sel) (hc:X.calm=true) (hi:PI X tg iter wi)
  (hg:∀ C s H fp,PG (ccx X scope N C s H fp) tg g) (ht:∀ C s H fp,PTs (ccx X scope N C s H fp) ifs tt) (he:∀ C s H fp,PE (ccx X scope N C s H fp) elt te)
  (hs:∀ x,foldedSetIterable iter X.env x=pure x:=by intro _;rfl):PE X (.ListComp elt [⟨tg,iter,ifs,0⟩] scope pos) (ZcU wi k sel g tt te):=by
 intro pins s σ H Q I h
 rw [eval_ListComp]
 refine wpAny_comprehension_free (use:=none) rfl hs (ZgT (S.has I.ok)) S.kind S.names (thn (hi pins s σ H _ I h) fun v s1 h1=>thn h1 fun itv s2 h2=>?_)
 refine ZgR (QQ:=Q) S M hc hg ht he (fun D C s' H' I' F q=>?_) h2
 obtain ⟨m,hn⟩:=F.ns
 exact ⟨m,hn,fun h' hsb=>⟨.ref D,H',I'.turned (t':=s'.toks) (fun b o hb e=>hsb.extBut b o hb e) F.none F.ne (.inr F.above) F.cells F.pins,rfl,q⟩⟩
theorem ZeX {i:Nat}{y:Str}{py spos:Pos} (S:CScope X scope) (M:CNames X scope N k sel) (hc:X.calm=true) (hi:PI X tg iter wi)
  (hg:∀ C s H fp,PG (ccx X scope N C s H fp) tg g) (ht:∀ C s H fp,PTs (ccx X scope N C s H fp) ifs tt) (he:∀ C s H fp,PE (ccx X scope N C s H fp) elt te)
  (hN:X.N.Nodup) (hiy:X.N[i]? = some y) (hy:Loc X.env.scope y)
  (hsw:swapsWith (.ListComp elt [⟨tg,iter,ifs,0⟩] scope pos) (some (.Name y py)) spos.line X.env=pure true)
  (hs:∀ x,foldedSetIterable iter X.env x=pure x:=by intro _;rfl) (hf:X.fn y=true\/X.env.scope.names.lookup y=some .local:=by first | exact .inl rfl | exact .inr rfl | assumption) :
  PS X (.Assign [.Name y py] (.ListComp elt [⟨tg,iter,ifs,0⟩] scope pos) spos) (Zbs (ZcU wi k sel g tt te) (Zan i)):=by
 intro pins s σ H D I h
 rw [exec_Assign_Name_used _ _ _ _ hsw]
 refine wpAny_bind (wpAny_standAt (wpAny_bind ?_))
 show wpAny _ X.A (do let _ <- comprehension (.ListComp elt [⟨tg,iter,ifs,0⟩] scope pos) scope X.env _ (newList []) false (eval iter X.env) (some (assign (.Name y py) X.env))) _ _ s
 refine wpAny_bind (wpAny_mono (wpAny_comprehension_free (use:=some (assign (.Name y py) X.env)) (Q:=fun _ s'=>SP X pins D .next s') rfl hs (ZgT (S.has I.ok)) S.kind S.names
  (thn (hi pins s σ H _ I h) fun v s1 h1=>thn h1 fun itv s2 h2=>?_)) (fun _ s' hq=>wpAny_pure (wpAny_pure hq)) fun _ _ e=>e)
 refine ZgR (QQ:=fun v H1=>D.nx (σ.set i (some v)) H1) S M hc hg ht he (fun Da C s' H' I' F q=>?_) h2
 show wpAny _ X.A (assign (.Name y py) X.env (.ref Da)) _ _ _
 refine wpAny_assign_Name (ZhV I' hN hiy hy (v:=.ref Da) rfl (fun s'' I'' hch=>?_) hf)
 obtain ⟨m,hn⟩:=F.ns
 obtain ⟨a,hsb,ha⟩:=hch
 have haC:C≠a:=by
  rcases ha with ha | ha
  ·rw [ha];exact F.ne
  ·exact Ne.symm (F.cells _ _ ha)
 refine ⟨m,hn.sameBut hsb haC,fun h' hsb'=>⟨σ.set i (some (.ref Da)),H',I''.turned (t':=s''.toks) (fun b o hb e=>hsb'.extBut b o hb e) F.none F.ne (.inr F.above) F.cells F.pins,q⟩⟩
end
section
variable {X:Cx}
theorem PE.imp {e:Expr}{t t':TE} (h:PE X e t) (f:∀ σ H Q,t' σ H Q->t σ H Q):PE X e t':=fun pins s σ H Q I q=>h pins s σ H Q I (f σ H Q q)
theorem OpR.imp {g:Value->Value->Sem Value}{r r':R2} (h:OpR X g r) (f:∀ x y H Q,r' x y H Q->r x y H Q):OpR X g r':=fun pins s σ H x y v u Q I rx ry q=>h pins s σ H x y v u Q I rx ry (f x y H Q q)
theorem IxR.imp {r r':R2} (h:IxR X r) (f:∀ x y H Q,r' x y H Q->r x y H Q):IxR X r':=fun value slice pins s σ H x y v u Q I rx ry q=>h value slice pins s σ H x y v u Q I rx ry (f x y H Q q)
noncomputable def Zad (i:Nat):TE:=fun σ H Q=>match σ[i]? with | some (some v)=>Q v H | _=>False
theorem Zpo {i:Nat}{σ:St}{H:Hp}{Q:VK} (h:Zad i σ H Q):tVar i σ H Q:=by
 unfold Zad at h
 split at h
 ·exact ⟨_,by assumption,h⟩
 ·exact h.elim
theorem cv (i:Nat) {x:Str}{pos:Pos} (hN:X.N[i]? = some x:=by rfl) (hv:Vis X.env.scope x:=by first | exact Or.inl rfl | exact Or.inr (Or.inl rfl) | exact Or.inr (Or.inr rfl)) (hd:(x == ("__debug__" : Str))=false:=by decide)
  (hcd:(x == ("__classdict__" : Str))=false:=by decide):PE X (.Name x pos) (Zad i):=(pe_var hN hv hd hcd).imp fun _ _ _ h=>Zpo h
noncomputable def cI2 (f:Int->Int->V):R2:=fun x y H Q=>match x,y with | .int i,.int j=>Q (f i j) H | _,_=>False
noncomputable def ZbL (C:Int->Int->Prop) (f:Int->Int->V):R2:=fun x y H Q=>match x,y with | .int i,.int j=>C i j/\Q (f i j) H | _,_=>False
theorem ZgX {f:Int->Int->V}{x y:V}{H:Hp}{Q:VK} (h:cI2 f x y H Q):rI0 f x y H Q:=by
 cases x <;> cases y <;> first | exact False.elim h | exact ⟨_,_,rfl,rfl,h⟩
theorem Zmf {C:Int->Int->Prop}{f:Int->Int->V}{x y:V}{H:Hp}{Q:VK} (h:ZbL C f x y H Q):rI C f x y H Q:=by
 cases x <;> cases y <;> first | exact False.elim h | exact ⟨_,_,rfl,rfl,h.1,h.2⟩
theorem Zhn:OpR X (binaryOp .Sub) (cI2 fun i j=>.int (i - j)):=op_sub.imp fun _ _ _ _ h=>ZgX h
theorem Za5:OpR X (binaryOp .FloorDiv) (ZbL ZdR fun i j=>.int (i / j)):=Zou.imp fun _ _ _ _ h=>Zmf h
theorem Zcb:OpR X (binaryOp .Mod) (ZbL (fun _ j=>0<j) fun i j=>.int (i % j)):=op_mod.imp fun _ _ _ _ h=>Zmf h
theorem ZmM:OpR X (binaryOp .BitXor) (cI2 fun i j=>.int (Builtin.bitXor i j)):=op_xor.imp fun _ _ _ _ h=>ZgX h
theorem Zlk:OpR X (compareOp .Lt) (cI2 fun i j=>.bl (decide (i<j))):=op_lt.imp fun _ _ _ _ h=>ZgX h
theorem o_le:OpR X (compareOp .LtE) (cI2 fun i j=>.bl (decide (i<=j))):=op_le.imp fun _ _ _ _ h=>ZgX h
theorem o_gt:OpR X (compareOp .Gt) (cI2 fun i j=>.bl (decide (j<i))):=op_gt.imp fun _ _ _ _ h=>ZgX h
theorem o_ge:OpR X (compareOp .GtE) (cI2 fun i j=>.bl (decide (j<=i))):=op_ge.imp fun _ _ _ _ h=>ZgX h
noncomputable def Zd5:R2:=fun x y H Q=>match x,y with
 | .int i,.int j=>Q (.int (i+j)) H
 | .str i,.str j=>i.length+j.length<=sizeLine/\Q (.str (i ++ j)) H
 | .ref l,.ref b=>∃ xs zs,H l=some (.lst xs)/\H b=some (.lst zs)/\xs.length+zs.length<=sizeLine/\∀ p,H p=none->Q (.ref p) (upd H p (.lst (xs ++ zs)))
 | _,_=>False
theorem ZbM:OpR X (binaryOp .Add) Zd5:=by
 intro pins s σ H x y v u Q I rx ry h
 cases x <;> cases y <;> first
  | exact False.elim h
  | exact op_add pins s σ H _ _ v u Q I rx ry ⟨_,_,rfl,rfl,h⟩
  | exact Zkf pins s σ H _ _ v u Q I rx ry ⟨_,_,rfl,rfl,h.1,h.2⟩
  | (obtain ⟨xs,zs,h1,h2,h3,h4⟩:=h;exact op_cat pins s σ H _ _ v u Q I rx ry ⟨_,_,xs,zs,rfl,rfl,h1,h2,h3,h4⟩)
inductive DeepEq (K:ZpF) (H:Hp):Nat->V->V->Prop where
 | flat {n:Nat}{x:V} (f:ZcO x=true):DeepEq K H n x x
 | lst {n:Nat}{a b:Addr}{xs ys:List V} (h1:SqL K H a xs) (h2:SqL K H b ys) (hl:xs.length=ys.length) (h:∀ (i:Nat) x y,xs[i]? = some x->ys[i]? = some y->DeepEq K H n x y):DeepEq K H (n+1) (.ref a) (.ref b)
 | tup {n:Nat}{a b:Addr}{xs ys:List V} (h1:SqT K H a xs) (h2:SqT K H b ys) (hl:xs.length=ys.length) (h:∀ (i:Nat) x y,xs[i]? = some x->ys[i]? = some y->DeepEq K H n x y):DeepEq K H (n+1) (.ref a) (.ref b)
theorem ZcA {pins:List (Addr × Obj)}{σ:St}{H:Hp}{s:Shared}{a:Addr}{xs:List V} (I:Inv X pins σ H s) (h:SqL X.K H a xs):∃ its:List Value,Vals xs its/\s.heap.IsList a its.toArray:=by
 obtain ⟨its,r,p,_⟩:=I.list h
 exact ⟨its,r,p.isList⟩
theorem ZhM {A:Around}{n:Nat} (h:A.units+(n+1)<cLine):A.in1.units+n<cLine:=by
 have e:A.in1.units=A.units+1:=rfl
 omega
theorem Zjd {pins:List (Addr × Obj)}{σ:St}{H:Hp}{s:Shared} (I:Inv X pins σ H s):∀ {n:Nat}{x y:V},DeepEq X.K H n x y->∀ (A:Around) {u v:Value},A.units+n<cLine->Zbr x u->Zbr y v->SeqAt.EqAt A s u v true
 | _,_,_,.flat f,A,u,v,hu,rx,ry=>by
  have e:=ZlS (A:=A) (s:=s) rx ry f f
  rename_i n x
  have q:eqV x x=true:=by cases x <;> first | rfl | (simp [eqV];done) | exact absurd f (by simp [ZcO])
  rw [q] at e
  exact e
 | _,_,_,@DeepEq.lst _ _ n a b xs ys h1 h2 hl h,A,u,v,hu,rx,ry=>by
  cases rx;cases ry
  by_cases hab:a=b
  ·subst hab;exact SeqAt.EqAt.same _
  ·obtain ⟨its,r1,p1⟩:=ZcA I h1
   obtain ⟨its2,r2,p2⟩:=ZcA I h2
   have e1:=r1.length
   have e2:=r2.length
   have q:=SeqAt.RcAt.lists (A:=A) (e:=fun _=>true) p1 p2 (by simp;omega) (by omega) (fun j j1 j2=>by
    have j1':j<its.length:=by simpa using j1
    have j2':j<its2.length:=by simpa using j2
    obtain ⟨w1,q1,s1⟩:=r1.get (i:=j) (x:=xs[j]'(by omega)) (by simp)
    obtain ⟨w2,q2,s2⟩:=r2.get (i:=j) (x:=ys[j]'(by omega)) (by simp)
    have z1:its.toArray[j]=w1:=by
     have:=Zqm.mp q1
     obtain ⟨_,z⟩:=this
     simpa using z
    have z2:its2.toArray[j]=w2:=by
     have:=Zqm.mp q2
     obtain ⟨_,z⟩:=this
     simpa using z
    rw [z1,z2]
    exact Zjd I (h j _ _ (by simp) (by simp)) A.in1 (ZhM hu) s1 s2)
   have:((Zqq its.toArray.size).all fun _=>true)=true:=by simp
   rw [this] at q
   exact SeqAt.EqAt.of_refs hab q
 | _,_,_,@DeepEq.tup _ _ n a b xs ys h1 h2 hl h,A,u,v,hu,rx,ry=>by
  cases rx;cases ry
  by_cases hab:a=b
  ·subst hab;exact SeqAt.EqAt.same _
  ·obtain ⟨its,r1,p1,_⟩:=I.tuple h1
   obtain ⟨its2,r2,p2,_⟩:=I.tuple h2
   have e1:=r1.length
   have e2:=r2.length
   have q:=SeqAt.RcAt.tuples (A:=A) (e:=fun _=>true) p1 p2 (by omega) (fun j j1 j2=>by
    have j1':j<its.length:=by simpa using j1
    have j2':j<its2.length:=by simpa using j2
    obtain ⟨w1,q1,s1⟩:=r1.get (i:=j) (x:=xs[j]'(by omega)) (by simp)
    obtain ⟨w2,q2,s2⟩:=r2.get (i:=j) (x:=ys[j]'(by omega)) (by simp)
    have z1:its.toArray[j]=w1:=by
     have:=Zqm.mp q1
     obtain ⟨_,z⟩:=this
     simpa using z
    have z2:its2.toArray[j]=w2:=by
     have:=Zqm.mp q2
     obtain ⟨_,z⟩:=this
     simpa using z
    rw [z1,z2]
    exact Zjd I (h j _ _ (by simp) (by simp)) A.in1 (ZhM hu) s1 s2)
   have:(((Zqq (min its.toArray.size its2.toArray.size)).all fun _=>true) && its.toArray.size == its2.toArray.size)=true:=by simp;omega
   rw [this] at q
   exact SeqAt.EqAt.of_refs hab q
end
section
variable {X:Cx}{a b c:Expr}{ta tb tc:TE}{pos:Pos}
noncomputable def ZlQ (xs ys:List V):Bool:=xs.length == ys.length && (Zqq xs.length).all fun i=>eqV (xs.getD i .non) (ys.getD i .non)
theorem Zb2 {xs ys:List V}{us ws:List Value} (r1:Vals xs us) (r2:Vals ys ws) (f1:xs.all ZcO=true) (f2:ys.all ZcO=true) (A:Around) (s:Shared) :
  ∀ j (h1:j<us.toArray.size) (h2:j<ws.toArray.size),SeqAt.EqAt A s us.toArray[j] ws.toArray[j] (eqV (xs.getD j .non) (ys.getD j .non)):=fun j j1 j2=>by
 have e1:=r1.length
 have e2:=r2.length
 have j1':j<us.length:=by simpa using j1
 have j2':j<ws.length:=by simpa using j2
 have x1:j<xs.length:=by omega
 have y1:j<ys.length:=by omega
 obtain ⟨w1,q1,s1⟩:=r1.get (i:=j) (x:=xs[j]) (by simp)
 obtain ⟨w2,q2,s2⟩:=r2.get (i:=j) (x:=ys[j]) (by simp)
 have z1:us.toArray[j]=w1:=by
  obtain ⟨_,z⟩:=Zqm.mp q1
  simpa using z
 have z2:ws.toArray[j]=w2:=by
  obtain ⟨_,z⟩:=Zqm.mp q2
  simpa using z
 rw [z1,z2]
 have g1:xs.getD j .non=xs[j]:=by simp [ZqN,x1]
 have g2:ys.getD j .non=ys[j]:=by simp [ZqN,y1]
 rw [g1,g2]
 exact ZlS s1 s2 (Zra.mp f1 _ (ZqU _)) (Zra.mp f2 _ (ZqU _))
noncomputable def ZpE (K:ZpF) (H:Hp) (p q:Addr) (k:Bool):Prop :=
 (k=true/\DeepEq K H 4 (.ref p) (.ref q)) \/
 (∃ xs ys,SqL K H p xs/\SqL K H q ys/\xs.all ZcO=true/\ys.all ZcO=true/\k=ZlQ xs ys) \/
 (k=false/\∃ xs ys,SqL K H p xs/\SqL K H q ys/\xs.length≠ys.length) \/
 (∃ xs ys,SqT K H p xs/\SqT K H q ys/\xs.all ZcO=true/\ys.all ZcO=true/\k=ZlQ xs ys)
theorem ZjQ {pins:List (Addr × Obj)}{σ:St}{H:Hp}{s:Shared}{p q:Addr}{k:Bool} (I:Inv X pins σ H s) (hu:X.A.units+8<cLine) (h:ZpE X.K H p q k) :
  SeqAt.RcAt X.A s (.ref p) (.ref q) k/\SeqAt.RcNeAt X.A s (.ref p) (.ref q) (!k):=by
 have deep:∀ {xs ys:List V}{n:Nat},n<=4->(SqL X.K H p xs/\SqL X.K H q ys\/SqT X.K H p xs/\SqT X.K H q ys)->xs.length=ys.length->(∀ (i:Nat) x y,xs[i]? = some x->ys[i]? = some y->DeepEq X.K H n x y) ->
   SeqAt.RcAt X.A s (.ref p) (.ref q) true/\SeqAt.RcNeAt X.A s (.ref p) (.ref q) (!true):=fun {xs ys n} hn hq hl hd=>by
  have items:∀ {us ws:List Value},Vals xs us->Vals ys ws->∀ j (h1:j<us.toArray.size) (h2:j<ws.toArray.size),SeqAt.EqAt X.A.in1 s us.toArray[j] ws.toArray[j] true:=fun {us ws} r1 r2 j j1 j2=>by
   have e1:=r1.length
   have e2:=r2.length
   have j1':j<us.length:=by simpa using j1
   have j2':j<ws.length:=by simpa using j2
   obtain ⟨w1,q1,s1⟩:=r1.get (i:=j) (x:=xs[j]'(by omega)) (by simp)
   obtain ⟨w2,q2,s2⟩:=r2.get (i:=j) (x:=ys[j]'(by omega)) (by simp)
   have z1:us.toArray[j]=w1:=by
    obtain ⟨_,z⟩:=Zqm.mp q1
    simpa using z
   have z2:ws.toArray[j]=w2:=by
    obtain ⟨_,z⟩:=Zqm.mp q2
    simpa using z
   rw [z1,z2]
   exact Zjd I (hd j _ _ (by simp) (by simp)) X.A.in1 (by have e:X.A.in1.units=X.A.units+1:=rfl;omega) s1 s2
  rcases hq with ⟨h1,h2⟩ | ⟨h1,h2⟩
  ·obtain ⟨its,r1,p1⟩:=ZcA I h1
   obtain ⟨its2,r2,p2⟩:=ZcA I h2
   have e1:=r1.length
   have e2:=r2.length
   have z:((Zqq its.toArray.size).all fun _=>true)=true:=by simp
   have a1:=SeqAt.RcAt.lists (A:=X.A) (e:=fun _=>true) p1 p2 (by simp;omega) (by omega) (items r1 r2)
   have a2:=SeqAt.RcNeAt.lists (A:=X.A) (e:=fun _=>true) p1 p2 (by simp;omega) (by omega) (items r1 r2)
   rw [z] at a1 a2
   exact ⟨a1,a2⟩
  ·obtain ⟨its,r1,p1,_⟩:=I.tuple h1
   obtain ⟨its2,r2,p2,_⟩:=I.tuple h2
   have e1:=r1.length
   have e2:=r2.length
   have z:(((Zqq (min its.toArray.size its2.toArray.size)).all fun _=>true) && its.toArray.size == its2.toArray.size)=true:=by simp;omega
   have a1:=SeqAt.RcAt.tuples (A:=X.A) (e:=fun _=>true) p1 p2 (by omega) (items r1 r2)
   have a2:=SeqAt.RcNeAt.tuples (A:=X.A) (e:=fun _=>true) p1 p2 (by omega) (items r1 r2)
   rw [z] at a1 a2
   exact ⟨a1,a2⟩
 have flatL:∀ {xs ys:List V},SqL X.K H p xs->SqL X.K H q ys->xs.length≠ys.length->SeqAt.RcAt X.A s (.ref p) (.ref q) false/\SeqAt.RcNeAt X.A s (.ref p) (.ref q) (!false):=fun {xs ys} h1 h2 hl=>by
  obtain ⟨its,r1,p1⟩:=ZcA I h1
  obtain ⟨its2,r2,p2⟩:=ZcA I h2
  have e1:=r1.length
  have e2:=r2.length
  have z:(its.toArray.size != its2.toArray.size)=true:=by simp;omega
  exact ⟨SeqAt.RcAt.lists_lengths p1 p2 z (by omega),SeqAt.RcNeAt.lists_lengths p1 p2 z (by omega)⟩
 rcases h with ⟨rfl,h⟩ | ⟨xs,ys,h1,h2,f1,f2,rfl⟩ | ⟨rfl,xs,ys,h1,h2,hl⟩ | ⟨xs,ys,h1,h2,f1,f2,rfl⟩
 ·cases h with
  | flat f=>simp [ZcO] at f
  | lst h1 h2 hl hd=>exact deep (by decide) (.inl ⟨h1,h2⟩) hl hd
  | tup h1 h2 hl hd=>exact deep (by decide) (.inr ⟨h1,h2⟩) hl hd
 ·by_cases hl:xs.length=ys.length
  ·obtain ⟨its,r1,p1⟩:=ZcA I h1
   obtain ⟨its2,r2,p2⟩:=ZcA I h2
   have e1:=r1.length
   have e2:=r2.length
   have z:ZlQ xs ys=(Zqq its.toArray.size).all fun i=>eqV (xs.getD i .non) (ys.getD i .non):=by
    unfold ZlQ
    rw [Zqu,<- e1,hl]
    simp
   rw [z]
   exact ⟨SeqAt.RcAt.lists p1 p2 (by simp;omega) (by omega) (Zb2 r1 r2 f1 f2 _ _),SeqAt.RcNeAt.lists p1 p2 (by simp;omega) (by omega) (Zb2 r1 r2 f1 f2 _ _)⟩
  ·have z:ZlQ xs ys=false:=by unfold ZlQ;simp [hl]
   rw [z]
   exact flatL h1 h2 hl
 ·exact flatL h1 h2 hl
 ·obtain ⟨its,r1,p1,_⟩:=I.tuple h1
  obtain ⟨its2,r2,p2,_⟩:=I.tuple h2
  have e1:=r1.length
  have e2:=r2.length
  by_cases hl:xs.length=ys.length
  ·have z:ZlQ xs ys=((Zqq (min its.toArray.size its2.toArray.size)).all (fun i=>eqV (xs.getD i .non) (ys.getD i .non)) && its.toArray.size == its2.toArray.size):=by
    unfold ZlQ
    rw [Zqu,Zqu,<- e1,<- e2,hl]
    simp
   rw [z]
   exact ⟨SeqAt.RcAt.tuples p1 p2 (by omega) (Zb2 r1 r2 f1 f2 _ _),SeqAt.RcNeAt.tuples p1 p2 (by omega) (Zb2 r1 r2 f1 f2 _ _)⟩
  ·have z:ZlQ xs ys=((Zqq (min its.toArray.size its2.toArray.size)).all (fun i=>eqV (xs.getD i .non) (ys.getD i .non)) && its.toArray.size == its2.toArray.size):=by
    have z1:ZlQ xs ys=false:=by unfold ZlQ;simp [hl]
    have z2:(its.toArray.size == its2.toArray.size)=false:=by simp;omega
    rw [z1,z2,Bool.and_false]
   rw [z]
   exact ⟨SeqAt.RcAt.tuples p1 p2 (by omega) (Zb2 r1 r2 f1 f2 _ _),SeqAt.RcNeAt.tuples p1 p2 (by omega) (Zb2 r1 r2 f1 f2 _ _)⟩
noncomputable def cEq (K:ZpF):R2:=fun x y H Q=>match x,y with
 | .int i,.int j=>Q (.bl (decide (i=j))) H
 | .bl i,.bl j=>Q (.bl (decide (i=j))) H
 | .str i,.str j=>Q (.bl (decide (i=j))) H
 | .non,.non=>Q (.bl true) H
 | .non,.int _=>Q (.bl false) H
 | .int _,.non=>Q (.bl false) H
 | .non,.str _=>Q (.bl false) H
 | .str _,.non=>Q (.bl false) H
 | .non,.bl _=>Q (.bl false) H
 | .bl _,.non=>Q (.bl false) H
 | .ref p,.ref q=>∃ k,ZpE K H p q k/\Q (.bl k) H
 | _,_=>False
noncomputable def cNe (K:ZpF):R2:=fun x y H Q=>match x,y with
 | .int i,.int j=>Q (.bl (!decide (i=j))) H
 | .bl i,.bl j=>Q (.bl (!decide (i=j))) H
 | .str i,.str j=>Q (.bl (!decide (i=j))) H
 | .non,.non=>Q (.bl false) H
 | .non,.int _=>Q (.bl true) H
 | .int _,.non=>Q (.bl true) H
 | .non,.str _=>Q (.bl true) H
 | .str _,.non=>Q (.bl true) H
 | .non,.bl _=>Q (.bl true) H
 | .bl _,.non=>Q (.bl true) H
 | .ref p,.ref q=>∃ k,ZpE K H p q k/\Q (.bl (!k)) H
 | _,_=>False
theorem dcI {i j:Int}:decide (V.int i=V.int j)=decide (i=j):=by rw [decide_eq_decide];exact ⟨V.int.inj,congrArg _⟩
theorem dcB {i j:Bool}:decide (V.bl i=V.bl j)=decide (i=j):=by rw [decide_eq_decide];exact ⟨V.bl.inj,congrArg _⟩
theorem dcS {i j:Str}:decide (V.str i=V.str j)=decide (i=j):=by rw [decide_eq_decide];exact ⟨V.str.inj,congrArg _⟩
theorem Zfw (hu:X.A.units+8<cLine):OpR X (compareOp .Eq) (cEq X.K):=by
  intro pins s σ H x y v u Q I rx ry h
  have go:rEq x y H Q->wpAny (model X.prog X.w) X.A (compareOp .Eq v u) (EP X pins σ Q) X.xe s:=fun q=>op_eq pins s σ H _ _ v u Q I rx ry q
  cases x <;> cases y <;> first
    | exact False.elim h
    | exact go ⟨rfl,h⟩
    | exact go ⟨rfl,by rw [dcI];exact h⟩
    | exact go ⟨rfl,by rw [dcB];exact h⟩
    | exact go ⟨rfl,by rw [dcS];exact h⟩
    | (obtain ⟨k,e,q⟩:=h
       cases rx;cases ry
       exact (ZjQ I hu e).1 _ _ _ _ ⟨.bl k,H,I,rfl,q⟩)
theorem o_ne (hu:X.A.units+8<cLine):OpR X (compareOp .NotEq) (cNe X.K):=by
  intro pins s σ H x y v u Q I rx ry h
  have go:rNe x y H Q->wpAny (model X.prog X.w) X.A (compareOp .NotEq v u) (EP X pins σ Q) X.xe s:=fun q=>op_ne pins s σ H _ _ v u Q I rx ry q
  cases x <;> cases y <;> first
    | exact False.elim h
    | exact go ⟨rfl,h⟩
    | exact go ⟨rfl,by rw [dcI];exact h⟩
    | exact go ⟨rfl,by rw [dcB];exact h⟩
    | exact go ⟨rfl,by rw [dcS];exact h⟩
    | (obtain ⟨k,e,q⟩:=h
       cases rx;cases ry
       exact (ZjQ I hu e).2 _ _ _ _ ⟨.bl (!k),H,I,rfl,q⟩)
noncomputable def cIs:R2:=fun x y H Q=>match x,y with
 | .bl i,.bl j=>Q (.bl (decide (i=j))) H
 | x,.non=>Q (.bl (decide (x=.non))) H
 | .non,.bl _=>Q (.bl false) H
 | .int _,.bl _=>Q (.bl false) H
 | .str _,.bl _=>Q (.bl false) H
 | .ref _,.bl _=>Q (.bl false) H
 | _,_=>False
noncomputable def Zit:R2:=fun x y H Q=>match x,y with
 | .bl i,.bl j=>Q (.bl (!decide (i=j))) H
 | x,.non=>Q (.bl (!decide (x=.non))) H
 | _,_=>False
theorem Zoz:OpR X (compareOp .Is) cIs:=by
 intro pins s σ H x y v u Q I rx ry h
 have pl:∀ {k:Bool},PySem.plainIs v u=true->(v == u)=k->Q (.bl k) H->wpAny (model X.prog X.w) X.A (compareOp .Is v u) (EP X pins σ Q) X.xe s:=fun {k} hp e q=>wpAny_is_plain hp ⟨.bl k,H,I,by rw [e];rfl,q⟩
 cases y with
 | non =>
  have q:Q (.bl (decide (x=.non))) H:=by cases x <;> exact h
  exact op_isN pins s σ H _ _ v u Q I rx ry ⟨rfl,q⟩
 | bl j =>
  cases ry
  cases x with
  | bl i =>
   cases rx
   exact pl rfl (by cases i <;> cases j <;> rfl) h
  | non=>cases rx;exact pl rfl rfl h
  | int i=>obtain ⟨t,rfl⟩:=rx;exact pl rfl rfl h
  | str i=>obtain ⟨t,rfl⟩:=rx;exact pl rfl rfl h
  | ref i=>cases rx;exact pl rfl rfl h
  | _=>exact False.elim h
 | _=>cases x <;> exact False.elim h
theorem Zi2:OpR X (compareOp .IsNot) Zit:=by
 intro pins s σ H x y v u Q I rx ry h
 cases y with
 | non =>
  have q:Q (.bl (!decide (x=.non))) H:=by cases x <;> exact h
  exact Zot pins s σ H _ _ v u Q I rx ry ⟨rfl,q⟩
 | bl j =>
  cases ry
  cases x with
  | bl i =>
   cases rx
   exact wpAny_isNot_plain rfl ⟨.bl (!decide (i=j)),H,I,(by cases i <;> cases j <;> rfl),h⟩
  | _=>exact False.elim h
 | _=>cases x <;> exact False.elim h
noncomputable def strIn (i j:Str):Bool:=!(Builtin.Str.occurrences j i 0 j.length 1).isEmpty
noncomputable def cIn (K:ZpF) (neg:Bool):R2:=fun x y H Q=>match y with
 | .ref p=>∃ xs,(SqL K H p xs\/SqT K H p xs)/\ZcO x=true/\xs.all ZcO=true/\Q (.bl (if neg then !inV x xs else inV x xs)) H
 | .str j=>match x with | .str i=>Q (.bl (if neg then !strIn i j else strIn i j)) H | _=>False
 | _=>False
theorem Zoy:OpR X (compareOp .NotIn) (cIn X.K true):=by
 intro pins s σ H x y v u Q I rx ry h
 cases y with
 | ref p =>
  obtain ⟨xs,h1,h2,h3,q⟩:=h
  exact Zh7 pins s σ H _ _ v u Q I rx ry ⟨p,xs,rfl,h1,h2,h3,q⟩
 | str j =>
  cases x with
  | str i=>exact Zh6 pins s σ H _ _ v u Q I rx ry ⟨i,j,rfl,rfl,h⟩
  | _=>exact False.elim h
 | _=>exact False.elim h
noncomputable def Zjh (x:V) (k:Bool->Prop):Prop:=match x with | .bl b=>k b | _=>False
theorem Znn {x:V}{k:Bool->Prop} (h:Zjh x k):∃ b,x=.bl b/\k b:=by
 cases x <;> first | exact False.elim h | exact ⟨_,rfl,h⟩
noncomputable def ZbH (t:TE):TT:=fun σ H Q=>t σ H fun x H'=>Zjh x fun k=>Q k H'
noncomputable def ZiB (K:ZpF) (t:TE):TT:=fun σ H Q=>t σ H fun x H'=>match x with
 | .non=>Q false H'
 | .bl b=>Q b H'
 | .int i=>Q (decide (i≠0)) H'
 | .str y=>y.length<=sizeLine/\Q (decide (y.length≠0)) H'
 | .ref p=>∃ k,TruV K (.ref p) H' k/\Q k H'
 | .byt p=>∃ k,TruV K (.byt p) H' k/\Q k H'
 | _=>False
theorem Zdw {t:TE} (ha:PE X a t) (he:∀ whole,isTrue a X.env whole=(do let v <- whole;standAt a.pos;holding [v] (truthy v)):=by intro _;rfl):PT X a (ZiB X.K t):=by
 have h:=ZmF ha he
 have e:ZiB X.K t=(fun σ H Q=>t σ H fun x H'=>∃ k,TruV X.K x H' k/\Q k H'):=by
  funext σ H Q
  unfold ZiB
  congr 1
  funext x H'
  apply propext
  cases x with
  | non=>exact ⟨fun q=>⟨false,rfl,q⟩,fun ⟨k,h1,h2⟩=>by have h1:k=false:=h1;subst h1;exact h2⟩
  | bl b=>exact ⟨fun q=>⟨b,rfl,q⟩,fun ⟨k,h1,h2⟩=>by have h1:k=b:=h1;subst h1;exact h2⟩
  | int i =>
   have z:decide (i≠0)=(i != 0):=by by_cases e:i=0 <;> simp [e]
   exact ⟨fun q=>⟨decide (i≠0),z,q⟩,fun ⟨k,h1,h2⟩=>by have h1:k=(i != 0):=h1;rw [<- z] at h1;subst h1;exact h2⟩
  | str y =>
   have z:decide (y.length≠0)=((y.length:Int) != 0):=by
    by_cases e:y.length=0
    ·simp [e]
    ·have:(y.length:Int)≠0:=by omega
     simp [e,this]
   exact ⟨fun q=>⟨decide (y.length≠0),⟨q.1,z⟩,q.2⟩,fun ⟨k,h1,h2⟩=>by
    have h1:y.length<=sizeLine/\k=((y.length:Int) != 0):=h1
    obtain ⟨h0,h1⟩:=h1
    rw [<- z] at h1;subst h1;exact ⟨h0,h2⟩⟩
  | ref p=>exact Iff.rfl
  | byt y=>exact Iff.rfl
  | flt y=>exact ⟨fun q=>q.elim,fun ⟨k,h1,h2⟩=>h1.elim⟩
  | ty y=>exact ⟨fun q=>q.elim,fun ⟨k,h1,h2⟩=>h1.elim⟩
 rw [e]
 exact h
theorem ZeH {x:V}{k:Bool->Prop}:Zjh x k = ∃ b,x=.bl b/\k b:=propext ⟨Znn,fun ⟨b,e,q⟩=>by subst e;exact q⟩
theorem Zmc (t:TE):ZbH t=Zmt t:=by
 funext σ H Q
 unfold ZbH Zmt
 congr 1
 funext x H'
 exact ZeH
theorem ZaX {op:CmpOp}{r:R2} (ho:OpR X (compareOp op) r) (ha:PE X a ta) (hb:PE X b tb) (hm:behindInMarks op b=false):PT X (.Compare a [op] [b] pos) (ZbH (tOp r ta tb)):=by
 rw [Zmc]
 exact Zon ho ha hb hm
noncomputable def Zfg (r r':R2) (ta tb tc:TE):TE:=fun σ H Q=>ta σ H fun x H1=>tb σ H1 fun y H2=>r x y H2 fun z H3=>Zjh z fun k =>
 (if k=true then tc σ H3 fun w' H4=>r' y w' H4 Q else Q (.bl false) H3)
theorem Ziu (r r':R2) (ta tb tc:TE):Zfg r r' ta tb tc=Zjx r r' ta tb tc:=by
 funext σ H Q
 unfold Zfg Zjx
 congr 1
 funext x H1
 congr 1
 funext y H2
 congr 1
 funext z H3
 exact ZeH
theorem ZlT {op op':CmpOp}{r r':R2} (ho:OpR X (compareOp op) r) (ho':OpR X (compareOp op') r') (ha:PE X a ta) (hb:PE X b tb) (hc:PE X c tc)
  (hm:lastMarks [op,op'] [b,c]=false:=by with_unfolding_all rfl):PE X (.Compare a [op,op'] [b,c] pos) (Zfg r r' ta tb tc):=by
 rw [Ziu]
 exact ZmK ho ho' ha hb hc hm
theorem Zn6 {op op':CmpOp}{r r':R2} (ho:OpR X (compareOp op) r) (ho':OpR X (compareOp op') r') (ha:PE X a ta) (hb:PE X b tb) (hc:PE X c tc)
  (hm:lastMarks [op,op'] [b,c]=false:=by with_unfolding_all rfl):PT X (.Compare a [op,op'] [b,c] pos) (ZbH (Zfg r r' ta tb tc)):=by
 rw [Zmc,Ziu]
 exact ZmG ho ho' ha hb hc hm
noncomputable def ZhH (ta tb:TE):TE:=fun σ H Q=>ta σ H fun x H1=>Zjh x fun c=>if c=true then tb σ H1 Q else Q (.bl false) H1
noncomputable def Zku (ta:TE):TE:=fun σ H Q=>ta σ H fun x H1=>Zjh x fun c=>Q (.bl (!c)) H1
theorem Zno (ta tb:TE):ZhH ta tb=Zob ta tb:=by
 funext σ H Q
 unfold ZhH Zob
 congr 1
 funext x H'
 exact ZeH
theorem Zni (ta:TE):Zku ta=Zn9 ta:=by
 funext σ H Q
 unfold Zku Zn9
 congr 1
 funext x H'
 exact ZeH
variable {rest:List Expr}
theorem ZlU (ha:PE X a ta) (hb:PE X (.BoolOp .And (b :: rest) pos) tb):PE X (.BoolOp .And (a :: b :: rest) pos) (ZhH ta tb):=by
 rw [Zno]
 exact pe_and ha hb
theorem e_not (ha:PE X a ta):PE X (.UnaryOp .Not a pos) (Zku ta):=by
 rw [Zni]
 exact pe_not ha
noncomputable def cIx (K:ZpF):R2:=fun x y H Q=>match x,y with
 | .ref p,.int i=>∃ xs v,(SqL K H p xs\/SqT K H p xs)/\atI xs i=some v/\Q v H
 | .str z,.int i=>z.length<=sizeLine/\∃ c,atI z.cps.toList i=some c/\Q (.str ⟨#[c]⟩) H
 | _,_=>False
theorem ZaH:IxR X (cIx X.K):=ix_seq.imp fun x y H Q h=>by
  cases x <;> cases y <;> first
    | exact False.elim h
    | (obtain ⟨xs,v,h1 | h1,h2,h3⟩:=h
       · exact .inl ⟨_,xs,_,v,rfl,rfl,h1,h2,h3⟩
       · exact .inr (.inl ⟨_,xs,_,v,rfl,rfl,h1,h2,h3⟩))
    | (obtain ⟨h1,c,h2,h3⟩:=h
       exact .inr (.inr ⟨_,_,c,rfl,rfl,h1,h2,h3⟩))
noncomputable def ZiC (K:ZpF):List V->Hp->VK->Prop:=fun vs H Q=>match vs with
 | [.str z]=>z.length<=sizeLine/\Q (.int z.length) H
 | [.ref p]=>(∃ ys,(SqL K H p ys\/SqT K H p ys)/\Q (.int ys.length) H)\/∃ kvs,H p=some (.dK kvs)/\Q (.int kvs.length) H
 | _=>False
theorem ZeF:Zc9 X (.builtin "len") (ZiC X.K):=by
 intro pins s σ H xs us Q I r h
 match xs,h with
 | [.str z],h=>exact Ziq pins s σ H _ us Q I r ⟨z,rfl,h.1,h.2⟩
 | [.ref p],h =>
  rcases h with ⟨ys,h1,h2⟩ | ⟨kvs,h1,h2⟩
  ·exact Zir pins s σ H _ us Q I r ⟨p,ys,rfl,h1,h2⟩
  ·exact Zma pins s σ H _ us Q I r ⟨p,kvs,rfl,h1,h2⟩
noncomputable def cInt:List V->Hp->VK->Prop:=fun vs H Q=>match vs with
 | [.int i]=>Q (.int i) H
 | [.bl k]=>Q (.int (if k then 1 else 0)) H
 | _=>False
theorem c_int:Zc9 X (.type "int") cInt:=by
 intro pins s σ H xs us Q I r h
 match xs,h with
 | [.int i],h=>exact Zis pins s σ H _ us Q I r (.inl ⟨i,rfl,h⟩)
 | [.bl k],h=>exact Zis pins s σ H _ us Q I r (.inr ⟨k,rfl,h⟩)
noncomputable def Znk (K:ZpF):List V->Hp->VK->Prop:=fun vs H Q=>match vs with
 | [.ref p]=>∃ ys,(SqL K H p ys\/SqT K H p ys)/\∀ l,H l=none->Q (.ref l) (upd H l (.lst ys))
 | _=>False
theorem c_list:Zc9 X (.type "list") (Znk X.K):=by
 intro pins s σ H xs us Q I r h
 match xs,h with
 | [.ref p],h =>
  obtain ⟨ys,h1,h2⟩:=h
  exact Zip pins s σ H _ us Q I r ⟨p,ys,rfl,h1,h2⟩
noncomputable def cMin:List V->Hp->VK->Prop:=fun vs H Q=>match vs with
 | [.int i,.int j]=>Q (.int (if j<i then j else i)) H
 | _=>False
theorem Znh (hc:X.calm=true):Zc9 X (.builtin "min") cMin:=by
 intro pins s σ H xs us Q I r h
 match xs,h with
 | [.int i,.int j],h=>exact Zl8 hc pins s σ H _ us Q I r ⟨i,j,rfl,h⟩
noncomputable def cMax:List V->Hp->VK->Prop:=fun vs H Q=>match vs with
 | [.int i,.int j]=>Q (.int (if j > i then j else i)) H
 | _=>False
theorem Zpm (hc:X.calm=true):Zc9 X (.builtin "max") cMax:=by
 intro pins s σ H xs us Q I r h
 match xs,h with
 | [.int i,.int j],h=>exact Zl9 hc pins s σ H _ us Q I r ⟨i,j,rfl,h⟩
noncomputable def Zek (K:ZpF):List V->Hp->VK->Prop:=fun vs H Q=>match vs with
 | [x,.ty T]=>∃ t b,TyOf K H x t/\ZpN K t (.type T)=some b/\Q (.bl b) H
 | [x,.ref C]=>∃ t b,TyOf K H x t/\ZpN K t (.ref C)=some b/\Q (.bl b) H
 | _=>False
theorem ZeG:Zc9 X (.builtin "isinstance") (Zek X.K):=by
 intro pins s σ H xs us Q I r h
 match xs,h with
 | [x,.ty T],h =>
  obtain ⟨t,k,h1,h2,h3⟩:=h
  obtain ⟨u,w',rfl,r1,r2⟩:=Zmq r
  cases r2
  exact Zil I r1 h1 h2 fun tk=>⟨.bl k,H,I.tok tk,rfl,h3⟩
 | [x,.ref C],h =>
  obtain ⟨t,k,h1,h2,h3⟩:=h
  obtain ⟨u,w',rfl,r1,r2⟩:=Zmq r
  cases r2
  exact Zil I r1 h1 h2 fun tk=>⟨.bl k,H,I.tok tk,rfl,h3⟩
noncomputable def csChk (onames:List (Str × NameKind)) (scope:Scope):Bool:=scope.names.all fun y=>decide (y.2≠.cell) && (decide (y.2≠.local) || decide (scope.names.lookup y.1=some .local)) && (decide (y.2≠.free) || decide (onames.lookup y.1=some .cell) || decide (onames.lookup y.1=some .free))
theorem CScope.of {scope:Scope} (onames:List (Str × NameKind)) (h:csChk onames scope=true) (k:scope.kind=.function:=by rfl) (e:X.env.scope.names=onames:=by rfl):CScope X scope:=by
 have q:=Zra.mp h
 refine ⟨k,fun y hy=>?_,fun y hy hl=>?_,fun y hy hf=>?_⟩
 ·have z:=q y hy
  simp only [Zsr,decide_eq_true_eq] at z
  exact z.1.1
 ·have z:=q y hy
  simp only [Zsr,Zsv,decide_eq_true_eq] at z
  exact z.1.2.resolve_left fun w=>w hl
 ·have z:=q y hy
  simp only [Zsr,Zsv,decide_eq_true_eq] at z
  show X.env.scope.names.lookup y.1=_\/X.env.scope.names.lookup y.1=_
  rw [e]
  rcases z.2 with (w | w) | w
  ·exact absurd hf w
  ·exact .inl w
  ·exact .inr w
noncomputable def cnChk (XN:List Str) (scope:Scope) (N:List Str) (k:Nat) (sel:List Nat):Bool:=decide (N.length=k+sel.length) && (Zqq sel.length).all fun i=>match sel[i]?,N[k+i]? with
 | some j,some x=>decide (XN[j]? = some x) && decide (scope.names.lookup x=some .free)
 | _,_=>false
theorem CNames.of {scope:Scope}{N:List Str}{k:Nat}{sel:List Nat} (XN:List Str) (h:cnChk XN scope N k sel=true) (e:X.N=XN:=by rfl):CNames X scope N k sel:=by
 unfold cnChk at h
 simp only [Zsr,decide_eq_true_eq] at h
 refine ⟨h.1,fun i j x h1 h2=>?_⟩
 have hi:i<sel.length:=(Zqm.mp h1).1
 have q:=Zra.mp h.2 i (Zrh.mpr hi)
 rw [h1,h2] at q
 simp only [Zsr,decide_eq_true_eq] at q
 rw [e]
 exact q
end
theorem hr8 {A:Around}{k:Nat} (hr:Room k A):A.units+8<cLine:=by have:=hr.units;omega
section
variable {X:Cx}{a b:Expr}{te:TE}
noncomputable def cPart (t:TE):TO:=fun σ H Q=>t σ H fun x H1=>match x with | .int i=>Q (some i) H1 | _=>False
noncomputable def Zpp:V->Hp->VK->Prop:=fun x H Q=>match x with | .int i=>Q (.int (-i)) H | _=>False
theorem ZkE:UnR X (unaryOp .USub) Zpp:=fun pins s σ H x v Q I rx h=>by
 cases x <;> first | exact False.elim h | exact un_neg pins s σ H _ v Q I rx ⟨_,rfl,h⟩
theorem Zms {op:CmpOp}{t:TE}{pos:Pos} (h:PC X op a b t) (h1:behindInMarks op b=false:=by first | exact ZjG _ (by decide) (by decide) | rfl | with_unfolding_all rfl):PT X (.Compare a [op] [b] pos) (ZbH t):=by
 have e:ZbH t=tB t:=by
  funext σ H Q
  unfold ZbH tB
  congr 1
  funext x H'
  exact ZeH
 rw [e]
 exact pt_cmp h h1
end
section
variable {K:ZpF}{σ:St}{sel:List Nat}{rest:St}{H:Hp}{p:Addr}{tt:TT}{te:TE}{Q:VK}
noncomputable abbrev ZdQ (J:It) (σ:St) (k:Nat) (sel:List Nat) (g:TG) (tt:TT) (te:TE) (Q:VK) (H1:Hp) (p:Addr):Prop :=
 ∃ W:Nat->Nat->St->Hp->Prop,(∃ m,W 0 m (cst σ k sel) (upd H1 p (.lst [])))/\∀ i m σ2 H2,W i m σ2 H2 ->
  (J.stop i H2/\Q (.ref p) H2)\/(J.go i H2/\∀ x H3,J.yld i H2 x H3->g x σ2 H3 fun σ4 H4=>tt σ4 H4 fun b H5 =>
   if b=true then te σ4 H5 fun v H6=>∃ ys,H6 p=some (.lst ys)/\ys.length<sizeLine/\∃ m',m'<m/\W (i+1) m' σ4 (upd H6 p (.lst (ys ++ [v]))) else ∃ m',m'<m/\W (i+1) m' σ4 H5)
theorem ZfE {J:It}{n:Nat}{item:Nat->V} (Pv:Nat->Hp->Prop) (hr:sel.map (fun j=>(σ[j]?).join)=rest) (h0:Pv 0 (upd H p (.lst [])))
  (src:∀ i H2,i<n->Pv i H2->J.go i H2/\∀ x H3,J.yld i H2 x H3->H3=H2/\x=item i) (fin:∀ H2,Pv n H2->J.stop n H2)
  (step:∀ i H2 (R:Hp->Prop),i<n->Pv i H2->(∀ H',Pv (i+1) H'->R H')->tt (some (item i) :: rest) H2 fun b H5 =>
   if b=true then te (some (item i) :: rest) H5 fun v H6=>∃ ys,H6 p=some (.lst ys)/\ys.length<sizeLine/\R (upd H6 p (.lst (ys ++ [v]))) else R H5)
  (hQ:∀ H2,Pv n H2->Q (.ref p) H2):ZdQ J σ 1 sel (Zan 0) tt te Q H p:=by
 refine ⟨fun i m σ2 H2=>i<=n/\m=n - i+1/\(∃ v,σ2=v :: rest)/\Pv i H2,⟨n+1,ZrS _,rfl,⟨none,?_⟩,h0⟩,?_⟩
 ·unfold cst;rw [hr];rfl
 ·rintro i m σ2 H2 ⟨hi,rfl,⟨v,rfl⟩,hP⟩
  by_cases hlt:i<n
  ·right
   obtain ⟨hg,hy⟩:=src i H2 hlt hP
   refine ⟨hg,fun x H3 hx=>?_⟩
   obtain ⟨rfl,rfl⟩:=hy x H3 hx
   exact step i H3 (fun H'=>∃ m',m'<n - i+1/\i+1<=n/\m'=n - (i+1)+1/\(∃ v,(some (item i) :: rest:St)=v :: rest)/\Pv (i+1) H') hlt hP fun H' h'=>⟨n - (i+1)+1,by omega,hlt,rfl,⟨_,rfl⟩,h'⟩
  ·left
   have e:i=n:=by omega
   subst e
   exact ⟨fin H2 hP,hQ H2 hP⟩
theorem Zhd {a:Addr}{xs:List V}{Pv:Nat->Hp->Prop} (hl:∀ i H2,i<=xs.length->Pv i H2->SqL K H2 a xs):∀ i H2,i<xs.length->Pv i H2->(Itl K a).go i H2/\∀ x H3,(Itl K a).yld i H2 x H3->H3=H2/\x=xs.getD i .non:=fun i H2 hi hP=>by
 have q:=hl i H2 (ZrZ hi) hP
 have e:xs[i]? = some (xs.getD i .non):=by simp [ZqN,hi]
 refine ⟨⟨xs,_,q,e⟩,fun x H3 ⟨h1,h2⟩=>⟨h1,?_⟩⟩
 have:=h2 xs q
 rw [e] at this
 exact (Option.some.inj this).symm
theorem ZkW {lo:Int}{n:Nat}{Pv:Nat->Hp->Prop}:∀ i H2,i<n->Pv i H2->(Itr lo n).go i H2/\∀ x H3,(Itr lo n).yld i H2 x H3->H3=H2/\x=.int (lo+i):=fun i H2 hi hP=>⟨hi,fun x H3 h=>h⟩
theorem Zbd {H:Hp}{p:Addr}{o:HO} (hp:H p=none):ZaZ H (upd H p o):=fun b u e=>by rw [Zak (Zaj e hp)];exact e
theorem Zhb {xs:List V}{f:V->V}{i:Nat} (hi:i<xs.length):(xs.take i).map f ++ [f (xs.getD i .non)]=(xs.take (i+1)).map f:=by
 rw [ZqK,Zqo]
 congr 1
 simp [ZqN,hi]
theorem Zl5 {a:Addr}{xs:List V} (f:V->V) (hl:SqL K H a xs) (hp:H p=none) (hr:sel.map (fun j=>(σ[j]?).join)=rest) (hz:xs.length<=sizeLine)
  (he:∀ x H' (Q':VK),x∈xs->ZaZ H H'->Q' (f x) H'->te (some x :: rest) H' Q') (hQ:Q (.ref p) (upd H p (.lst (xs.map f)))):ZdQ (Itl K a) σ 1 sel (Zan 0) Zeo te Q H p:=by
 refine ZfE (n:=xs.length) (item:=fun i=>xs.getD i .non) (fun i H2=>H2=upd H p (.lst ((xs.take i).map f))) hr (by simp) (Zhd ?_) ?_ ?_ ?_
 ·rintro i H2 hi rfl
  exact (Zbd hp).seq hl
 ·rintro H2 rfl
  exact ⟨xs,(Zbd hp).seq hl,ZrN _⟩
 ·rintro i H2 R hi rfl hR
  unfold Zeo
  dsimp only
  rw [if_pos rfl]
  refine he _ _ _ (by rw [show xs.getD i .non=xs[i] from by simp [ZqN,hi]];exact ZqU _) (Zbd hp) ⟨_,Zal,?_,hR _ ?_⟩
  ·rw [Zqi,ZqL];omega
  ·rw [Zg6,Zhb hi]
 ·rintro H2 rfl
  rw [ZqV]
  exact hQ
theorem Znf {lo:Int}{n:Nat} (f:Int->V) (hp:H p=none) (hr:sel.map (fun j=>(σ[j]?).join)=rest) (hz:n<=sizeLine)
  (he:∀ (i:Nat) H' (Q':VK),i<n->ZaZ H H'->Q' (f (lo+i)) H'->te (some (.int (lo+i)) :: rest) H' Q') (hQ:Q (.ref p) (upd H p (.lst ((Zqq n).map fun i=>f (lo+(i:Nat)))))):ZdQ (Itr lo n) σ 1 sel (Zan 0) Zeo te Q H p:=by
 refine ZfE (n:=n) (item:=fun i=>.int (lo+i)) (fun i H2=>H2=upd H p (.lst ((Zqq i).map fun i=>f (lo+(i:Nat))))) hr (by simp) ZkW ?_ ?_ ?_
 ·rintro H2 rfl
  exact ZrN _
 ·rintro i H2 R hi rfl hR
  unfold Zeo
  dsimp only
  rw [if_pos rfl]
  refine he i _ _ hi (Zbd hp) ⟨_,Zal,?_,hR _ ?_⟩
  ·rw [Zqi,Zq3];omega
  ·rw [Zg6,Zrl,Zqo];rfl
 ·rintro H2 rfl
  exact hQ
theorem Zje {a:Addr}{xs:List V} (q:V->Bool) (f:V->V) (hl:SqL K H a xs) (hp:H p=none) (hr:sel.map (fun j=>(σ[j]?).join)=rest) (hz:xs.length<=sizeLine)
  (ht:∀ x H' (Q':Bool->Hp->Prop),x∈xs->ZaZ H H'->Q' (q x) H'->tt (some x :: rest) H' Q')
  (he:∀ x H' (Q':VK),x∈xs->q x=true->ZaZ H H'->Q' (f x) H'->te (some x :: rest) H' Q') (hQ:Q (.ref p) (upd H p (.lst ((xs.filter q).map f)))):ZdQ (Itl K a) σ 1 sel (Zan 0) tt te Q H p:=by
 refine ZfE (n:=xs.length) (item:=fun i=>xs.getD i .non) (fun i H2=>H2=upd H p (.lst (((xs.take i).filter q).map f))) hr (by simp) (Zhd ?_) ?_ ?_ ?_
 ·rintro i H2 hi rfl
  exact (Zbd hp).seq hl
 ·rintro H2 rfl
  exact ⟨xs,(Zbd hp).seq hl,ZrN _⟩
 ·rintro i H2 R hi rfl hR
  have ex:xs.getD i .non=xs[i]:=by simp [ZqN,hi]
  have hm:xs.getD i .non∈xs:=by rw [ex];exact ZqU _
  have et:xs.take (i+1)=xs.take i ++ [xs.getD i .non]:=by rw [ZqK];simp [ZqN,hi]
  refine ht _ _ _ hm (Zbd hp) ?_
  cases hq:q (xs.getD i .non) with
  | true =>
   rw [if_pos rfl]
   refine he _ _ _ hm hq (Zbd hp) ⟨_,Zal,?_,hR _ ?_⟩
   ·rw [Zqi]
    have:=Zrk q (xs.take i)
    rw [ZqL] at this
    omega
   ·rw [Zg6,et,Zrb,Zqo,Zq0,if_pos hq]
    rfl
  | false =>
   rw [if_neg (by simp)]
   refine hR _ ?_
   rw [et,Zrb,Zqo,Zq0,if_neg (by rw [hq];simp),Zry,ZqZ,ZqX]
 ·rintro H2 rfl
  rw [ZqV]
  exact hQ
end
noncomputable def cRef (x:V) (k:Addr->Prop):Prop:=match x with | .ref p=>k p | _=>False
theorem ZhG {x:V}{k:Addr->Prop}:(∃ p,x=.ref p/\k p)=cRef x k:=by
 apply propext
 cases x <;> first
  | exact ⟨fun ⟨p,e,q⟩=>by cases e;exact q,fun q=>⟨_,rfl,q⟩⟩
  | exact ⟨fun ⟨p,e,q⟩=>(by cases e),fun q=>False.elim q⟩
noncomputable def Zme (vs:List V) (k:Int->Prop):Prop:=match vs with | [.int j]=>k j | _=>False
theorem ZjV {vs:List V}{k:Int->Prop}:(∃ j,vs=[.int j]/\k j)=Zme vs k:=by
 apply propext
 constructor
 ·rintro ⟨j,rfl,q⟩;exact q
 ·intro h
  unfold Zme at h
  split at h
  ·exact ⟨_,rfl,h⟩
  ·exact h.elim
noncomputable def Znm (vs:List V) (k:Int->Int->Prop):Prop:=match vs with | [.int i,.int j]=>k i j | _=>False
theorem Znl {vs:List V}{k:Int->Int->Prop}:(∃ i j,vs=[.int i,.int j]/\k i j)=Znm vs k:=by
 apply propext
 constructor
 ·rintro ⟨i,j,rfl,q⟩;exact q
 ·intro h
  unfold Znm at h
  split at h
  ·exact ⟨_,_,rfl,h⟩
  ·exact h.elim
noncomputable def ZcJ (J:It) (g:TG) (tb:TS) (D:Ends) (σ:St) (H:Hp):Prop:=∃ W:Nat->Nat->St->Hp->Prop,(∃ m,W 0 m σ H)/\∀ i m σ H,W i m σ H ->
 (J.stop i H/\D.nx σ H)\/(J.go i H/\∃ N:St->Hp->Prop,(∀ σ' H',N σ' H'->∃ m',m'<m/\W (i+1) m' σ' H')/\∀ x H',J.yld i H x H'->g x σ H' fun σ2 H2=>tb { D with nx:=N,ct:=N,bk:=D.nx } σ2 H2)
noncomputable def ZiA (J:It) (σ:St) (k:Nat) (sel:List Nat) (g:TG) (tt:TT) (te:TE) (Q:VK) (H1:Hp):Prop:=∀ p,H1 p=none->ZdQ J σ k sel g tt te Q H1 p
section
variable {K:ZpF}{te:TE}{ta:TA}{g:TG}{tb:TS}{D:Ends}{σ:St}{H:Hp}{p:Addr}{xs:List V}{k:Nat}{sel:List Nat}{tt:TT}{el:TE}{Q:VK}
theorem ZkQ:ZeN (Zdg K te) g tb D σ H=te σ H (fun x H1=>cRef x fun p=>(∃ xs,SqL K H1 p xs)/\ZcJ (Itl K p) g tb D σ H1):=by
 unfold ZeN Zdg
 congr 1
 funext x H1
 exact ZhG
theorem Zmv:ZeN (iTup K te) g tb D σ H=te σ H (fun x H1=>cRef x fun p=>(∃ xs,SqT K H1 p xs)/\ZcJ (Itt K p) g tb D σ H1):=by
 unfold ZeN iTup
 congr 1
 funext x H1
 exact ZhG
theorem ZkP:ZeN (ZdV ta) g tb D σ H=ta σ H (fun vs H1=>Zme vs fun j=>-(2 ^ 62)<=j/\j<2 ^ 62/\ZcJ (Itr 0 j.toNat) g tb D σ H1):=by
 unfold ZeN ZdV
 congr 1
 funext x H1
 exact ZjV
theorem ZkO:ZeN (ZlG ta) g tb D σ H=ta σ H (fun vs H1=>Znm vs fun i j=>(-(2 ^ 62)<=i/\i<2 ^ 62 /\ -(2 ^ 62)<=j/\j<2 ^ 62)/\ZcJ (Itr i (j - i).toNat) g tb D σ H1):=by
 unfold ZeN ZlG
 congr 1
 funext x H1
 exact Znl
theorem Zj7:ZcU (Zdg K te) k sel g tt el σ H Q=te σ H (fun x H1=>cRef x fun p=>(∃ xs,SqL K H1 p xs)/\ZiA (Itl K p) σ k sel g tt el Q H1):=by
 unfold ZcU Zdg
 congr 1
 funext x H1
 exact ZhG
theorem ZkS:ZcU (iTup K te) k sel g tt el σ H Q=te σ H (fun x H1=>cRef x fun p=>(∃ xs,SqT K H1 p xs)/\ZiA (Itt K p) σ k sel g tt el Q H1):=by
 unfold ZcU iTup
 congr 1
 funext x H1
 exact ZhG
theorem Zj6:ZcU (ZdV ta) k sel g tt el σ H Q=ta σ H (fun vs H1=>Zme vs fun j=>-(2 ^ 62)<=j/\j<2 ^ 62/\ZiA (Itr 0 j.toNat) σ k sel g tt el Q H1):=by
 unfold ZcU ZdV
 congr 1
 funext x H1
 exact ZjV
theorem ZcN (Pv:Nat->St->Hp->Prop) (h0:Pv 0 σ H) (hk:∀ i σ H,i<=xs.length->Pv i σ H->SqL K H p xs)
  (hs:∀ i x σ H,xs[i]? = some x->Pv i σ H->g x σ H fun σ2 H2=>tb { D with nx:=Pv (i+1),ct:=Pv (i+1),bk:=D.nx } σ2 H2) (hd:∀ σ H,Pv xs.length σ H->D.nx σ H):ZcJ (Itl K p) g tb D σ H:=Zm9 Pv h0 hk hs hd
theorem Zm8 (Pv:Nat->St->Hp->Prop) (h0:Pv 0 σ H) (hk:∀ i σ H,i<=xs.length->Pv i σ H->SqT K H p xs)
  (hs:∀ i x σ H,xs[i]? = some x->Pv i σ H->g x σ H fun σ2 H2=>tb { D with nx:=Pv (i+1),ct:=Pv (i+1),bk:=D.nx } σ2 H2) (hd:∀ σ H,Pv xs.length σ H->D.nx σ H):ZcJ (Itt K p) g tb D σ H:=Zpf Pv h0 hk hs hd
theorem Zco {lo:Int}{n:Nat} (Pv:Nat->St->Hp->Prop) (h0:Pv 0 σ H)
  (hs:∀ (i:Nat) σ H,i<n->Pv i σ H->g (.int (lo+i)) σ H fun σ2 H2=>tb { D with nx:=Pv (i+1),ct:=Pv (i+1),bk:=D.nx } σ2 H2) (hd:∀ σ H,Pv n σ H->D.nx σ H):ZcJ (Itr lo n) g tb D σ H:=ZlL Pv h0 hs hd
end
theorem Zde {α:Type}{xs:List α}{i:Int} (d:α) (h0:0<=i) (h1:i<xs.length):atI xs i=some (xs.getD i.toNat d):=by
 obtain ⟨n,rfl⟩:=Zr7 h0
 have hn:n<xs.length:=by omega
 have e:xs[n]? = some (xs.getD n d):=by simp [ZqN,hn]
 exact Zpt e
theorem Zm7 {α β:Type} (f:α->β) (xs:List α) (n:Nat) (d:α):(xs.map f).getD n (f d)=f (xs.getD n d):=by
 simp [ZqN]
theorem Zpu {α β:Type}{f:α->β}{xs:List α}{i:Int} (d:α) (h0:0<=i) (h1:i<xs.length):atI (xs.map f) i=some (f (xs.getD i.toNat d)):=by
 rw [Zde (f d) h0 (by rw [Zqi];exact h1),Zm7]
theorem ZcM {α β:Type}{f:α->β}{xs:List α}{i:Nat}{y:β} (h:(xs.map f)[i]? = some y):∃ x,xs[i]? = some x/\y=f x:=by
 rw [Zqy] at h
 cases e:xs[i]? with
 | none=>rw [e] at h;cases h
 | some x=>rw [e] at h;exact ⟨x,rfl,(Option.some.inj h).symm⟩
theorem ZdK {X:Cx}{x:Str}{v:V}{pos:Pos} (hg:Gl X x) (hm:∃ u,X.mg x=some u/\Zbr v u) (hd:(x == ("__debug__" : Str))=false:=by decide):PE X (.Name x pos) (tC v):=by
 obtain ⟨u,h1,h2⟩:=hm
 exact Zoq hg h1 h2 hd
noncomputable def ZgQ:Expr->Option V
 | .Constant (.int i) _ _=>some (.int i)
 | .Constant (.bool b) _ _=>some (.bl b)
 | .Constant .none _ _=>some .non
 | .Constant (.str x) _ _=>some (.str x)
 | _=>none
noncomputable def ZhC:List Expr->Option (List V)
 | []=>some []
 | e :: r=>match ZgQ e,ZhC r with | some v,some vs=>some (v :: vs) | _,_=>none
noncomputable def Zn7 (vs:List V):TA:=fun _ H Q=>Q vs H
theorem Zlf {X:Cx}{e:Expr}{v:V} (h:ZgQ e=some v):PE X e (tC v):=by
 unfold ZgQ at h
 split at h <;> first
  | (cases h;exact Zag)
  | (cases h;exact ZdS)
  | (cases h;exact Zb9)
  | (cases h;exact Zfc)
  | cases h
theorem Zj9 {e:Expr}{es:List Expr}{env:Env}{v:V} (h:ZgQ e=some v):starEach (e :: es) env=(false,eval e env) :: starEach es env:=by
 unfold ZgQ at h
 split at h <;> first | rfl | cases h
theorem Zh5 {X:Cx}:∀ {es:List Expr}{vs:List V},ZhC es=some vs->PA X es (Zn7 vs)
 | [],vs,h=>by
  have e:vs=[]:=(Option.some.inj h).symm
  subst e
  exact fun pos pins s σ H Q I q=>Zae pos pins s σ H Q I q
 | e :: r,vs,h=>by
  unfold ZhC at h
  cases h1:ZgQ e with
  | none=>rw [h1] at h;cases h
  | some v =>
   cases h2:ZhC r with
   | none=>rw [h1,h2] at h;cases h
   | some ws =>
    rw [h1,h2] at h
    have e':v :: ws=vs:=Option.some.inj h
    subst e'
    exact fun pos pins s σ H Q I q=>Zaa (Zlf h1) (Zh5 h2) (Zj9 h1) pos pins s σ H Q I q
section
variable {X:Cx}{tg:Expr}
variable {te:TE}{g:TG}{tb:TS}{D:Ends}{σ:St}{H:Hp}{k:Nat}{sel:List Nat}{tt:TT}{el:TE}{Q:VK}
noncomputable def ZgW:R2:=fun x y H Q=>match x,y with
 | .int i,.int j=>CMul i j/\Q (.int (i * j)) H
 | .str z,.int n=>MulOk z n/\Q (.str (Txt.mul z n)) H
 | _,_=>False
theorem ZdB:OpR X (binaryOp .Mult) ZgW:=by
  intro pins s σ H x y v u Q I rx ry h
  cases x <;> cases y <;> first
    | exact False.elim h
    | exact op_mul pins s σ H _ _ v u Q I rx ry ⟨_,_,rfl,rfl,h.1,h.2⟩
    | (obtain ⟨t,rfl⟩:=rx
       obtain ⟨t',rfl⟩:=ry
       exact SB.mul h.1 fun t'' k=>⟨.str _,H,I.tok k,⟨t'',rfl⟩,h.2⟩)
end
structure New (H:Hp) (p:Addr) (o:HO) (H':Hp):Prop where
 was:H p=none
 eq:H'=upd H p o
section
variable {H H':Hp}{p:Addr}{o:HO}
theorem New.same (n:New H p o H'):ZaZ H H':=by rw [n.eq];exact Zbd n.was
theorem New.at_ (n:New H p o H'):H' p=some o:=by rw [n.eq];exact Zal
theorem New.ne (n:New H p o H') {b:Addr} (h:b≠p):H' b=H b:=by rw [n.eq];exact Zak h
theorem New.mk' (h:H p=none):New H p o (upd H p o):=⟨h,rfl⟩
theorem New.sq {K:ZpF}{xs:List V} (n:New H p (.lst xs) H'):SqL K H' p xs:=.of n.at_
theorem Zie {F:Addr->Hp->Prop}{o:HO}:(∀ p,H p=none->F p (upd H p o)) = ∀ p H',New H p o H'->F p H' :=
 propext ⟨fun h p H' n=>by rw [n.eq];exact h p n.was,fun h p hp=>h p _ ⟨hp,rfl⟩⟩
end
section
variable {K:ZpF}{t:TA}{σ:St}{H:Hp}{Q:VK}{x:V}{lo hi:Option Int}{vs:List V}{kvs:List (Key × V)}
theorem tLst_n:Zgr t σ H Q=t σ H fun xs H1=>xs.length<=sizeLine/\∀ p H',New H1 p (.lst xs) H'->Q (.ref p) H':=by
 unfold Zgr;congr 1;funext xs H1;rw [Zie (F:=fun p H'=>Q (.ref p) H')]
theorem tTup_n:Zju t σ H Q=t σ H fun xs H1=>xs.length<=sizeLine/\∀ p H',New H1 p (.tup xs) H'->Q (.ref p) H':=by
 unfold Zju;congr 1;funext xs H1;rw [Zie (F:=fun p H'=>Q (.ref p) H')]
theorem Zmx:Zeq σ H Q = ∀ p H',New H p (.dK []) H'->Q (.ref p) H':=by
 unfold Zeq;rw [Zie (F:=fun p H'=>Q (.ref p) H')]
theorem Zpr {p:Addr}:Znk K [.ref p] H Q = ∃ ys,(SqL K H p ys\/SqT K H p ys)/\∀ l H',New H l (.lst ys) H'->Q (.ref l) H':=by
 unfold Znk
 dsimp only
 congr 1;funext xs;rw [Zie (F:=fun p H'=>Q (.ref p) H')]
end
section
variable {K:ZpF}{σ:St}{sel:List Nat}{rest:St}{H:Hp}{tt:TT}{te:TE}{Q:VK}
theorem ZgS {a:Addr}{xs:List V} (f:V->V) (hl:SqL K H a xs) (hr:sel.map (fun j=>(σ[j]?).join)=rest) (hz:xs.length<=sizeLine)
  (he:∀ x H' (Q':VK),x∈xs->ZaZ H H'->Q' (f x) H'->te (some x :: rest) H' Q') (hQ:∀ p H',New H p (.lst (xs.map f)) H'->Q (.ref p) H'):ZiA (Itl K a) σ 1 sel (Zan 0) Zeo te Q H :=
 fun p hp=>Zl5 f hl hp hr hz he (hQ p _ ⟨hp,rfl⟩)
theorem Zgf {lo:Int}{n:Nat} (f:Int->V) (hr:sel.map (fun j=>(σ[j]?).join)=rest) (hz:n<=sizeLine)
  (he:∀ (i:Nat) H' (Q':VK),i<n->ZaZ H H'->Q' (f (lo+i)) H'->te (some (.int (lo+i)) :: rest) H' Q') (hQ:∀ p H',New H p (.lst ((Zqq n).map fun i=>f (lo+(i:Nat)))) H'->Q (.ref p) H'):ZiA (Itr lo n) σ 1 sel (Zan 0) Zeo te Q H :=
 fun p hp=>Znf f hp hr hz he (hQ p _ ⟨hp,rfl⟩)
theorem ZcB {a:Addr}{xs:List V} (q:V->Bool) (f:V->V) (hl:SqL K H a xs) (hr:sel.map (fun j=>(σ[j]?).join)=rest) (hz:xs.length<=sizeLine)
  (ht:∀ x H' (Q':Bool->Hp->Prop),x∈xs->ZaZ H H'->Q' (q x) H'->tt (some x :: rest) H' Q')
  (he:∀ x H' (Q':VK),x∈xs->q x=true->ZaZ H H'->Q' (f x) H'->te (some x :: rest) H' Q') (hQ:∀ p H',New H p (.lst ((xs.filter q).map f)) H'->Q (.ref p) H'):ZiA (Itl K a) σ 1 sel (Zan 0) tt te Q H :=
 fun p hp=>Zje q f hl hp hr hz ht he (hQ p _ ⟨hp,rfl⟩)
end
end L2
set_option maxHeartbeats 4000000
namespace DZ
open PySem
section
variable {prog:Program}{w:World}{A:Around}{E:Value->Shared->Prop}{s:Shared}
end
section
variable {M:Model}{A:Around}{E:Value->Shared->Prop}{s:Shared}
end
structure ZSt (z TI TO i1 i2 t l:Addr) (xs ys:Array Value) (i:Nat) (h:Heap):Prop where
 zo:∃ f0 f1,h.get? z=some { cls:=.type "zip",dict:=none,data:=.fields #[f0,.bool f1,.bool false,.ref TI,.ref TO],slots:=#[] } /\
  (f0=.none\/∃ (T:Addr) (o:Obj),f0=rawInt T/\h.get? T=some o/\T≠z/\T≠TO/\T≠i1/\T≠i2)
 ti:IsPair h TI (.ref i1) (.ref i2)
 to:∃ a b,IsPair h TO a b
 a1:h.IsTupleIter i1 t i
 a2:h.IsListIter i2 l i
 l1:h.IsTuple t xs
 l2:h.IsList l ys
section
variable {prog:Program}{w:World}{A:Around}{E:Value->Shared->Prop}{s:Shared}
end
end DZ
set_option maxHeartbeats 4000000
namespace DZ
open PySem
section
variable {prog:Program}{w:World}{A:Around}{E:Value->Shared->Prop}{h:Heap}{g:Array GenState}{d:Drawn}{t:Nat}{os:OsState}{z:Addr}{vs:Array Value}
end
section
variable {prog:Program}{w:World}{A:Around}{E:Value->Shared->Prop}{s:Shared}
end
end DZ
set_option maxHeartbeats 4000000
namespace DZ
open PySem
section
variable {prog:Program}{w:World}{A:Around}{E:Value->Shared->Prop}{s:Shared}
variable {κ:Type} [DecidableEq κ] {knd:KeyKind prog w κ}
end
end DZ
set_option maxHeartbeats 4000000
namespace L2
open PySem PySem.Spec PyProof.Rows
section
variable {X:Cx}{pins:List (Addr × Obj)}{σ:St}{H:Hp}{s:Shared}{h':Heap}
theorem Inv.dz {t':Nat}{ch:List Addr}{d:Addr}{ob:HO} (I:Inv X pins σ H s) (hch:∀ b∈ch,Zkv X pins H b) (hd:s.heap.objs.size<=d) (k:∀ b o,b ∉ ch->s.heap.get? b=some o->h'.get? b=some o)
  (new:ZbK X.prog X.w (upd H d ob) h' d ob):Inv X pins σ (upd H d ob) { s with heap:=h',toks:=t' }:=by
 have hn:H d=none:=I.hok.fresh hd
 have old:∀ {b o},s.heap.get? b=some o->b≠d:=fun e=>ZrP (ZrQ (Heap.lt_size e) hd)
 have nch:∀ b u,H b=some u->b ∉ ch:=fun b u e z=>by rw [(hch b z).1] at e;cases e
 refine I.step (g':=s.gens) (d':=s.drawn) (ch:=ch) (fun b hb=>?_) (fun b o _ _ hc e _=>k b o hc e) (fun b o _ _ hc e _=>⟨o.slots,k b o hc e⟩) (fun b o _ e n=>by rw [Zak (old e)];exact n)
  (fun b o hc e=>⟨o,k b o hc e⟩) (fun b xs e=>by rw [Zak (Zaj e hn)];exact e) (fun b o u e=>by rw [Zak (Zaj e hn)];exact e) (fun b ps e=>⟨#[],by rw [Zak (Zaj e hn),e];simp⟩) (fun m hm=>?_) (fun b u e=>?_) I.bare
 ·obtain ⟨f0,f1,f2,f3,f4,f5⟩:=hch b hb
  exact ⟨f3,f1,f4,f5⟩
 ·obtain ⟨o,es,ep,ho,r⟩:=hm
  exact ⟨o,es,ep,k _ o (fun z=>(hch _ z).2.1 rfl) ho,r⟩
 ·by_cases hb:b=d
  ·subst hb
   rw [Zal] at e
   cases e
   exact new
  ·rw [Zak hb] at e
   refine (I.hok b u e).stay (fun c v hc q=>k c v ?_ q) (fun c q=>by rw [Zak (Zaj q hn)];exact q) fun c xs q=>by rw [Zak (Zaj q hn)];exact q
   rcases hc with z | z
   ·rw [z];exact nch b u e
   ·exact nch c _ z
end
end L2
namespace NM
noncomputable def okc (c:Nat):Prop:=97<=c/\c<=122
structure Nm (w:List Nat):Prop where
 pos:1<=w.length
 le:w.length<=8
 ok:∀ c∈w,okc c
noncomputable def nx (p:List Nat) (c k:Nat):List Nat:=p ++ (c+1) :: Zqk k 97
inductive Nx:List Nat->List Nat->Prop where
 | at (p:List Nat) (c k:Nat):c≠122->Nx (p ++ c :: Zqk k 122) (nx p c k)
 | all (n:Nat):Nx (Zqk n 122) (Zqk (n % 8+1) 97)
inductive Nxs:Nat->List Nat->List Nat->Prop where
 | zero (w:List Nat):Nxs 0 w w
 | succ {k:Nat}{u v w:List Nat}:Nx u v->Nxs k v w->Nxs (k+1) u w
end NM
namespace ME
section
variable {κ:Type} [DecidableEq κ] {α β:Type}
noncomputable def m2 (f:α->β) (e:List (κ × α)):List (κ × β):=e.map fun p=>(p.1,f p.2)
noncomputable abbrev Gt (κ:Type):=κ × κ × List κ
end
end ME
namespace MC
theorem ZiE:∀ (n a b:Nat),a<n->(a ^^^ b)+(a &&& b)=a ||| b
 | 0,_,_,h=>absurd h (by omega)
 | n+1,a,b,h=>by
  by_cases ha:a=0
  ·subst ha;simp
  have ih:=ZiE n (a / 2) (b / 2) (by omega)
  rw [<- Nat.xor_div_two,<- Nat.and_div_two,<- Nat.or_div_two] at ih
  have e1:=Zr2 (a ^^^ b) 2
  have e2:=Zr2 (a &&& b) 2
  have e3:=Zr2 (a ||| b) 2
  have t:∀ x:Nat,x % 2=(x.testBit 0).toNat:=fun x=>by
   rw [Nat.testBit_zero]
   rcases Zr3 x with q | q <;> simp [q]
  have m1:=t (a ^^^ b)
  have m2:=t (a &&& b)
  have m3:=t (a ||| b)
  rw [Nat.testBit_xor] at m1
  rw [Nat.testBit_and] at m2
  rw [Nat.testBit_or] at m3
  have:(a ^^^ b) % 2+(a &&& b) % 2=(a ||| b) % 2:=by
   rw [m1,m2,m3]
   cases a.testBit 0 <;> cases b.testBit 0 <;> rfl
  omega
end MC
namespace GM
open PySem
end GM
set_option maxHeartbeats 4000000
namespace L2
open PySem PySem.Spec PyProof.Rows
noncomputable def ZiN (t u:TS):TS:=ZaQ t u
theorem mid {t u:TS}{D:Ends}{σ:St}{H:Hp} (M:St->Hp->Prop) (h1:∀ N:St->Hp->Prop,(∀ σ' H',M σ' H'->N σ' H')->t { D with nx:=N } σ H) (h2:∀ σ' H',M σ' H'->u D σ' H'):ZiN t u D σ H:=h1 _ h2
theorem Zci {X:Cx}{st:Stmt}{rest:List Stmt}{t u:TS} (h:PS X st t) (hr:PSs X rest u):PSs X (st :: rest) (ZiN t u):=Zac h hr
theorem mtr {X:Cx}{id:String}{r:V->List V->Hp->VK->Prop} (h:MtM X id r):MtR X id r:=h
theorem Zng {J:It}{σ:St}{k:Nat}{sel:List Nat}{g:TG}{tt:TT}{te:TE}{Q:VK}{H:Hp}{p:Addr}{n:Nat}{item:Nat->V} (Sv:St->Prop) (Pv:Nat->Hp->Prop)
  (hS:Sv (cst σ k sel)) (h0:Pv 0 (upd H p (.lst [])))
  (src:∀ i H2,i<n->Pv i H2->J.go i H2/\∀ x H3,J.yld i H2 x H3->H3=H2/\x=item i) (fin:∀ H2,Pv n H2->J.stop n H2)
  (step:∀ i σ2 H2 (R:St->Hp->Prop),i<n->Sv σ2->Pv i H2->(∀ σ' H',Sv σ'->Pv (i+1) H'->R σ' H')->g (item i) σ2 H2 fun σ4 H4=>tt σ4 H4 fun b H5 =>
   if b=true then te σ4 H5 fun v H6=>∃ ys,H6 p=some (.lst ys)/\ys.length<sizeLine/\R σ4 (upd H6 p (.lst (ys ++ [v]))) else R σ4 H5)
  (hQ:∀ H2,Pv n H2->Q (.ref p) H2):ZdQ J σ k sel g tt te Q H p:=by
 refine ⟨fun i m σ2 H2=>i<=n/\m=n - i+1/\Sv σ2/\Pv i H2,⟨n+1,ZrS _,rfl,hS,h0⟩,?_⟩
 rintro i m σ2 H2 ⟨hi,rfl,hs,hP⟩
 by_cases hlt:i<n
 ·right
  obtain ⟨hg,hy⟩:=src i H2 hlt hP
  refine ⟨hg,fun x H3 hx=>?_⟩
  obtain ⟨rfl,rfl⟩:=hy x H3 hx
  exact step i σ2 H3 (fun σ' H'=>∃ m',m'<n - i+1/\i+1<=n/\m'=n - (i+1)+1/\Sv σ'/\Pv (i+1) H') hlt hs hP fun σ' H' s' h'=>⟨n - (i+1)+1,by omega,hlt,rfl,s',h'⟩
 ·left
  have e:i=n:=by omega
  subst e
  exact ⟨fin H2 hP,hQ H2 hP⟩
noncomputable def ZpB (H H':Hp):Prop:=∀ b o,H b=some o->(∀ xs,o≠.lst xs)->H' b=some o
section
variable {K:ZpF}{H H' H0 H1:Hp}{l a:Addr}{xs ys:List V}{o:HO}
theorem ZaZ.n (s:ZaZ H H'):ZpB H H':=fun b o e _=>s b o e
theorem ZpB.clear (h:H l=some (.lst xs)):ZpB H (upd H l (.lst ys)):=fun b o e n=>by rw [Zak (Zbv e h (n xs))];exact e
theorem ZaZ.put (s:ZaZ H0 H) (h:H0 l=none):ZaZ H0 (upd H l o):=fun b u e=>by rw [Zak (Zaj e h)];exact s b u e
theorem ZaZ.tup (e:ZaZ H H') (h:SqT K H a xs):SqT K H' a xs:=by
 rcases h with (h | ⟨o,h⟩) | h
 ·exact .inl (.inl (e _ _ h))
 ·exact .inl (.inr ⟨o,e _ _ h⟩)
 ·exact .inr h
noncomputable def Keep (N:Addr->Prop) (H H':Hp):Prop:=∀ b o,N b->H b=some o->H' b=some o
theorem ZaZ.keep {N:Addr->Prop} (s:ZaZ H H'):Keep N H H':=fun b o _ e=>s b o e
theorem Keep.tup {N:Addr->Prop} (e:Keep N H H') (n:N a) (h:SqT K H a xs):SqT K H' a xs:=by
 rcases h with (h | ⟨o,h⟩) | h
 ·exact .inl (.inl (e _ _ n h))
 ·exact .inl (.inr ⟨o,e _ _ n h⟩)
 ·exact .inr h
end
theorem ZjN (c:Nat):∀ (k:Nat) (acc:Array Nat),((Zqk k (#[c]:Array Nat)).foldl (· ++ ·) acc).toList=acc.toList ++ Zqk k c
 | 0,acc=>by simp
 | k+1,acc=>by
  rw [ZqS,List.foldl_cons,ZjN c k,ZqS]
  simp
section
variable {K:ZpF}{H:Hp}{p:Addr}{i:Int}{F:V->Prop}
theorem ixI {cs:List Int} (hS:SqL K H p (cs.map V.int)) (h0:0<=i) (h1:i<cs.length) (h:F (.int (cs.getD i.toNat 0))):∃ xs v,(SqL K H p xs\/SqT K H p xs)/\atI xs i=some v/\F v:=⟨_,_,.inl hS,Zpu 0 h0 h1,h⟩
end
theorem Zmk (a b:Nat):Builtin.bitAnd (a:Int) (b:Int)=((a &&& b:Nat):Int):=by rw [bitAnd_pp (by omega) (by omega)];simp
theorem or_nat (a b:Nat):Builtin.bitOr (a:Int) (b:Int)=((a ||| b:Nat):Int):=by
 rw [bitOr_and,Zmk]
 have:=MC.ZiE (a+1) a b (ZrX _)
 have h2:(a ||| b)+(a &&& b)=a+b:=by
  have e:∀ (n a b:Nat),a<n->(a ||| b)+(a &&& b)=a+b:=by
   intro n
   induction n with
   | zero=>intro a b h;omega
   | succ n ih =>
    intro a b h
    by_cases ha:a=0
    ·subst ha;simp
    have i1:=ih (a / 2) (b / 2) (by omega)
    rw [<- Nat.and_div_two,<- Nat.or_div_two] at i1
    have t:∀ x:Nat,x % 2=(x.testBit 0).toNat:=fun x=>by
     rw [Nat.testBit_zero]
     rcases Zr3 x with q | q <;> simp [q]
    have m2:=t (a &&& b)
    have m3:=t (a ||| b)
    rw [Nat.testBit_and] at m2
    rw [Nat.testBit_or] at m3
    have ma:=t a
    have mb:=t b
    have:(a ||| b) % 2+(a &&& b) % 2=a % 2+b % 2:=by
     rw [m2,m3,ma,mb]
     cases a.testBit 0 <;> cases b.testBit 0 <;> rfl
    omega
  exact e (a+1) a b (ZrX _)
 omega
theorem Zg2 (a b:Nat):Builtin.bitXor (a:Int) (b:Int)=((a ^^^ b:Nat):Int):=by
 unfold Builtin.bitXor
 rw [or_nat,Zmk]
 have:=MC.ZiE (a+1) a b (ZrX _)
 omega
end L2
set_option maxHeartbeats 4000000
namespace GM
open PySem L2
end GM
set_option maxHeartbeats 4000000
namespace L2
open PySem PySem.Spec PyProof.Rows
theorem Zmw {σ:St}{H:Hp}{Q:VK}:Zjw σ H Q = ∀ p H',New H p (.dT []) H'->Q (.ref p) H':=by
 unfold Zjw;rw [Zie (F:=fun p H'=>Q (.ref p) H')]
section
open Builtin Builtin.Str
end
theorem ZaZ.nil {H H':Hp}{p:Addr} (s:ZaZ H H') (h:H' p=none):H p=none:=by
 cases e:H p with
 | none=>rfl
 | some o=>rw [s _ _ e] at h;cases h
structure Mad (H:Hp) (p:Addr) (o:HO) (H':Hp):Prop where
 was:H p=none
 at_:H' p=some o
 same:ZaZ H H'
theorem New.mad {H H':Hp}{p:Addr}{o:HO} (n:New H p o H'):Mad H p o H':=⟨n.was,n.at_,n.same⟩
theorem Mad.pre {H H0 H':Hp}{p:Addr}{o:HO} (s:ZaZ H0 H) (n:Mad H p o H'):Mad H0 p o H':=⟨s.nil n.was,n.at_,s.trans n.same⟩
theorem mul_one (c:Nat) (n:Int):(Txt.mul ⟨#[c]⟩ n).cps.toList=Zqk n.toNat c:=by
 unfold Txt.mul
 by_cases h1:n<1
 ·rw [if_pos h1]
  have:n.toNat=0:=by omega
  rw [this]
  rfl
 ·rw [if_neg h1]
  by_cases h2:(n == 1 || Str.length ⟨#[c]⟩ == 0)=true
  ·rw [if_pos h2]
   have h3:n=1:=by
    rw [Zsv] at h2
    rcases h2 with q | q
    ·exact beq_iff_eq.mp q
    ·exact absurd (beq_iff_eq.mp q) (by show ¬ (1:Nat)=0;decide)
   subst h3
   rfl
  ·rw [if_neg h2]
   show ((Zqk n.toNat (#[c]:Array Nat)).foldl (· ++ ·) #[]).toList=_
   rw [ZjN]
   simp
end L2
namespace MF
noncomputable abbrev Pr:=Int × Int
noncomputable def tn (t:Int):Int:=if t % 2=0 then t+1 else t - 1
noncomputable def lo (s t:Int):Int:=if t<s then t else s
noncomputable def hi (s t:Int):Int:=if t > s then t else s
noncomputable def fnd:Int->List Pr->Pr->Option Int
 | _,[],_=>none
 | n,q :: r,p=>if q=p then some n else fnd (n+1) r p
noncomputable def Zmm (s t:Int):Option Int :=
 if lo s t=0 then some 0 else if lo s t=1\/lo s t=hi s t then some (hi s t) else if lo s t=tn (hi s t) then some 0 else none
noncomputable def kn (m:Int) (ps:List Pr) (p:Pr):Int:=(fnd (m+1) ps p).getD (m+1+ps.length)
noncomputable def kp (m:Int) (ps:List Pr) (p:Pr):List Pr:=if (fnd (m+1) ps p).isSome then ps else ps ++ [p]
noncomputable def bt (m:Int) (ps:List Pr) (s t:Int):Int:=match Zmm s t with | some v=>v | none=>2 * kn m ps (lo s t,hi s t)
noncomputable def bp (m:Int) (ps:List Pr) (s t:Int):List Pr:=match Zmm s t with | some _=>ps | none=>kp m ps (lo s t,hi s t)
theorem Zhw:∀ {n:Int}{ps:List Pr}{p:Pr}{i:Int},fnd n ps p=some i->n<=i/\i<n+ps.length/\ps[(i - n).toNat]? = some p
 | n,[],p,i,h=>by simp [fnd] at h
 | n,q :: r,p,i,h=>by
  unfold fnd at h
  by_cases e:q=p
  ·rw [if_pos e] at h
   have:=Option.some.inj h
   subst this
   refine ⟨by omega,by simp only [ZqA];omega,?_⟩
   rw [show (n - n).toNat=0 by omega,Zrm,e]
  ·rw [if_neg e] at h
   obtain ⟨h1,h2,h3⟩:=Zhw h
   refine ⟨by omega,by simp only [ZqA];omega,?_⟩
   rw [show (i - n).toNat=(i - (n+1)).toNat+1 by omega,Zq4]
   exact h3
theorem Zhy:∀ {n:Int}{ps:List Pr}{p:Pr},fnd n ps p=none->p ∉ ps
 | n,[],p,h=>by simp
 | n,q :: r,p,h=>by
  unfold fnd at h
  by_cases e:q=p
  ·rw [if_pos e] at h;cases h
  ·rw [if_neg e] at h
   intro hm
   rcases Zqt.mp hm with e' | e'
   ·exact e e'.symm
   ·exact Zhy h e'
theorem Zhx:∀ {n:Int}{ps:List Pr}{p:Pr},fnd n ps p=none->fnd n (ps ++ [p]) p=some (n+ps.length)
 | n,[],p,h=>by simp [fnd]
 | n,q :: r,p,h=>by
  have e:¬ q=p:=fun e=>by unfold fnd at h;rw [if_pos e] at h;cases h
  unfold fnd at h
  rw [if_neg e] at h
  show fnd n (q :: (r ++ [p])) p=_
  unfold fnd
  rw [if_neg e,Zhx h]
  congr 1
  simp only [ZqA]
  omega
theorem kp_len (m:Int) (ps:List Pr) (p:Pr):ps.length<=(kp m ps p).length/\(kp m ps p).length<=ps.length+1:=by
 unfold kp;split <;> simp
theorem ZnU (m:Int) (ps:List Pr) (s t:Int):ps.length<=(bp m ps s t).length/\(bp m ps s t).length<=ps.length+1:=by
 unfold bp;split
 ·omega
 ·exact kp_len ..
theorem ZmY (m:Int) (ps:List Pr) (p:Pr):m+1<=kn m ps p/\kn m ps p<m+1+(kp m ps p).length:=by
 unfold kn kp
 cases h:fnd (m+1) ps p with
 | none=>simp;omega
 | some i =>
  have:=Zhw h
  simp;omega
noncomputable def Ok (m:Int) (ps:List Pr):Prop:=∀ (i:Nat) (p:Pr),ps[i]? = some p->2<=p.1/\p.1<p.2/\p.1 / 2≠p.2 / 2/\p.2<2 * (m+1+i)
theorem ZkU {s t:Int} (hs:0<=s) (ht:0<=t) (h:Zmm s t=none):2<=lo s t/\lo s t<hi s t/\lo s t / 2≠hi s t / 2:=by
 unfold Zmm at h
 have hlh:lo s t<=hi s t/\0<=lo s t:=by unfold lo hi;split <;> split <;> omega
 by_cases h1:lo s t=0
 ·rw [if_pos h1] at h;cases h
 rw [if_neg h1] at h
 by_cases h2:lo s t=1\/lo s t=hi s t
 ·rw [if_pos h2] at h;cases h
 rw [if_neg h2] at h
 by_cases h3:lo s t=tn (hi s t)
 ·rw [if_pos h3] at h;cases h
 refine ⟨by omega,by omega,fun e=>h3 ?_⟩
 unfold tn
 split <;> omega
theorem ZkT {s t T v:Int} (hs:0<=s) (ht:0<=t) (hs':s<T) (ht':t<T) (h:Zmm s t=some v):0<=v/\v<T:=by
 unfold Zmm at h
 have hlh:lo s t<=hi s t/\0<=lo s t/\hi s t<T:=by unfold lo hi;split <;> split <;> omega
 by_cases h1:lo s t=0
 ·rw [if_pos h1] at h;cases h;omega
 rw [if_neg h1] at h
 by_cases h2:lo s t=1\/lo s t=hi s t
 ·rw [if_pos h2] at h;cases h;omega
 rw [if_neg h2] at h
 by_cases h3:lo s t=tn (hi s t)
 ·rw [if_pos h3] at h;cases h;omega
 rw [if_neg h3] at h;cases h
theorem hi_lt {s t T:Int} (h1:s<T) (h2:t<T):hi s t<T:=by unfold hi;split <;> omega
theorem ZmU (s t:Int):lo s t<=hi s t:=by unfold lo hi;split <;> split <;> omega
theorem Ok.bp {m:Int}{ps:List Pr} (h:Ok m ps) {s t:Int} (hs:0<=s) (ht:0<=t) (hs':s<2 * (m+1+ps.length)) (ht':t<2 * (m+1+ps.length)):Ok m (bp m ps s t):=by
 unfold MF.bp
 cases e:Zmm s t with
 | some v=>exact h
 | none =>
  show Ok m (kp m ps (lo s t,hi s t))
  unfold kp
  split
  ·exact h
  ·intro i p hp
   rcases ZrO i ps.length with hi' | hi'
   ·rw [ZqC hi'] at hp
    exact h i p hp
   ·rw [ZqD hi'] at hp
    have h0:i - ps.length=0:=by
     rcases Nat.eq_zero_or_pos (i - ps.length) with z | z
     ·exact z
     ·rw [ZqQ (by simp;omega)] at hp;cases hp
    rw [h0] at hp
    have:=Option.some.inj hp
    subst this
    have h3:=ZkU hs ht e
    have h4:=hi_lt hs' ht'
    refine ⟨h3.1,h3.2.1,h3.2.2,?_⟩
    show MF.hi s t<_
    have:i=ps.length:=by omega
    subst this
    exact h4
theorem Znp {m:Int} (hm:0<=m) {ps:List Pr}{s t:Int} (hs:0<=s) (ht:0<=t) (hs':s<2 * (m+1+ps.length)) (ht':t<2 * (m+1+ps.length)):0<=bt m ps s t/\bt m ps s t<2 * (m+1+(MF.bp m ps s t).length):=by
 unfold bt MF.bp
 cases e:Zmm s t with
 | some v=>exact ZkT hs ht hs' ht' e
 | none =>
  have:=ZmY m ps (lo s t,hi s t)
  show 0<=2 * kn m ps (lo s t,hi s t)/\2 * kn m ps (lo s t,hi s t)<2 * (m+1+((kp m ps (lo s t,hi s t)).length:Int))
  omega
end MF
namespace MF
noncomputable abbrev RS:=Int × List Pr
noncomputable def InT (m:Int) (ps:List Pr) (t:Int):Prop:=0<=t/\t<2 * (m+1+ps.length)
structure St (m:Int) (ps:List Pr) (n:Nat) (r:RS):Prop where
 ok:Ok m ps->Ok m r.2
 inn:InT m r.2 r.1
 lo:ps.length<=r.2.length
 hi:r.2.length<=ps.length+n
 pre:∃ e,r.2=ps ++ e
 nd:ps.Nodup->r.2.Nodup
theorem InT.tn {m t:Int}{ps:List Pr} (h:InT m ps t):InT m ps (tn t):=by
 have h1:=h.1
 have h2:=h.2
 unfold InT MF.tn
 split <;> omega
theorem bp_pre (m:Int) (ps:List Pr) (s t:Int):∃ e,bp m ps s t=ps ++ e:=by
 unfold bp
 split
 ·exact ⟨[],by simp⟩
 ·unfold kp
  split
  ·exact ⟨[],by simp⟩
  ·exact ⟨_,rfl⟩
theorem bp_nd {m s t:Int}{ps:List Pr} (h:ps.Nodup):(bp m ps s t).Nodup:=by
 unfold bp
 split
 ·exact h
 ·unfold kp
  cases e:fnd (m+1) ps (lo s t,hi s t) with
  | some i=>exact h
  | none =>
   have:=Zhy e
   show (ps ++ [_]).Nodup
   rw [Zrc]
   refine ⟨h,by simp,fun a ha b hb=>?_⟩
   rw [Zql] at hb
   subst hb
   exact fun z=>this (z ▸ ha)
noncomputable def bo (m s t:Int) (ps:List Pr):RS:=(bt m ps s t,bp m ps s t)
theorem bo_st {m s t:Int}{ps:List Pr} (hm:0<=m) (hs:InT m ps s) (ht:InT m ps t):St m ps 1 (bo m s t ps) :=
 ⟨fun h=>h.bp hs.1 ht.1 hs.2 ht.2,Znp hm hs.1 ht.1 hs.2 ht.2,(ZnU m ps s t).1,(ZnU m ps s t).2,bp_pre m ps s t,fun h=>bp_nd h⟩
end MF
set_option maxHeartbeats 4000000
namespace L2
open PySem PySem.Spec PyProof.Rows
noncomputable def knK (p:MF.Pr):List Key:=[.inl p.1,.inl p.2]
theorem Zo8 {p q:MF.Pr} (h:knK p=knK q):p=q:=by
 unfold knK at h
 injection h with h1 h2
 injection h2 with h3 _
 exact Prod.ext (Sum.inl.inj h1) (Sum.inl.inj h3)
noncomputable def kvF:Int->List MF.Pr->List (List Key × V)
 | _,[]=>[]
 | n,p :: r=>(knK p,.int n) :: kvF (n+1) r
theorem Zg4:∀ (n:Int) (ps:List MF.Pr) (p:MF.Pr),Ze4 (kvF n ps) (knK p)=(MF.fnd n ps p).map V.int
 | _,[],_=>rfl
 | n,q :: r,p=>by
  show Ze4 ((knK q,V.int n) :: kvF (n+1) r) (knK p)=_
  unfold MF.fnd
  by_cases e:q=p
  ·rw [if_pos e,ZcR (p:=(knK q,V.int n)) (congrArg knK e)];rfl
  ·rw [if_neg e,ZcS (p:=(knK q,V.int n)) (fun z=>e (Zo8 z)),Zg4 (n+1) r p]
theorem ZjK:∀ (n:Int) (ps:List MF.Pr) (p:MF.Pr),kvF n (ps ++ [p])=kvF n ps ++ [(knK p,.int (n+ps.length))]
 | n,[],p=>by simp [kvF]
 | n,q :: r,p=>by
  show (knK q,V.int n) :: kvF (n+1) (r ++ [p])=(knK q,V.int n) :: (kvF (n+1) r ++ _)
  rw [ZjK (n+1) r p]
  congr 5
  simp only [ZqA]
  omega
theorem Zlw:∀ (n:Int) (ps:List MF.Pr),(kvF n ps).length=ps.length
 | _,[]=>rfl
 | n,q :: r=>by show (kvF (n+1) r).length+1=r.length+1;rw [Zlw (n+1) r]
theorem Zom {n:Int}{ps:List MF.Pr}{p:MF.Pr} (h:MF.fnd n ps p=none):ZeO (kvF n ps) (knK p) (.int (n+ps.length))=kvF n (ps ++ [p]):=by
 unfold ZeO
 rw [Zg5,Zg4,h,ZjK]
 rfl
noncomputable abbrev En:=Addr × MF.Pr
noncomputable abbrev Zav (es:List En):List MF.Pr:=es.map (·.2)
structure PairsAt (H:Hp) (pl kl:Addr) (m:Int) (es:List En):Prop where
 lst:H pl=some (.lst (es.map fun e=>V.ref e.1))
 dct:H kl=some (.dT (kvF (m+1) (Zav es)))
 tup:∀ e∈es,H e.1=some (.tup [.int e.2.1,.int e.2.2])
noncomputable def Un2 (pl kl:Addr) (H H':Hp):Prop:=∀ b o,b≠pl->b≠kl->H b=some o->H' b=some o
section
variable {H H' H1:Hp}{pl kl p2 k2 f dx C:Addr}{m:Int}{es:List En}{o:HO}
theorem Un2.refl:Un2 pl kl H H:=fun _ _ _ _ e=>e
theorem Un2.trans (u:Un2 pl kl H H') (v:Un2 pl kl H' H1):Un2 pl kl H H1:=fun b o n1 n2 e=>v b o n1 n2 (u b o n1 n2 e)
theorem ZaZ.un (s:ZaZ H H'):Un2 pl kl H H':=fun b o _ _ e=>s b o e
theorem un_l:Un2 pl kl H (upd H pl o):=fun b u n1 _ e=>by rw [Zak n1];exact e
theorem un_k:Un2 pl kl H (upd H kl o):=fun b u _ n2 e=>by rw [Zak n2];exact e
theorem PairsAt.same (h:PairsAt H pl kl m es) (s:ZaZ H H'):PairsAt H' pl kl m es:=⟨s _ _ h.lst,s _ _ h.dct,fun e he=>s _ _ (h.tup e he)⟩
structure FoldAt (C:Addr) (H:Hp) (f:Addr) (m:Int) (es:List En) (dx pl kl:Addr):Prop where
 ins:H f=some (.ins C dx [("many",.int m),("pairs",.ref pl),("knots",.ref kl)])
 prs:PairsAt H pl kl m es
theorem FoldAt.same (h:FoldAt C H f m es dx pl kl) (s:ZaZ H H'):FoldAt C H' f m es dx pl kl:=⟨s _ _ h.ins,h.prs.same s⟩
theorem PairsAt.nlk (h:PairsAt H pl kl m es):pl≠kl:=Zbv h.lst h.dct (fun z=>nomatch z)
theorem PairsAt.put (h:PairsAt H pl kl m es) {tp:Addr}{p:MF.Pr} (ht:H tp=some (.tup [.int p.1,.int p.2])) (hf:MF.fnd (m+1) (Zav es) p=none) :
  PairsAt (upd (upd H kl (.dT (kvF (m+1) (Zav es ++ [p])))) pl (.lst ((es.map fun e=>V.ref e.1) ++ [.ref tp]))) pl kl m (es ++ [(tp,p)]):=by
 have nt:∀ {b:Addr}{xs:List V},H b=some (.tup xs)->upd (upd H kl (.dT (kvF (m+1) (Zav es ++ [p])))) pl (.lst ((es.map fun e=>V.ref e.1) ++ [.ref tp])) b=some (.tup xs):=fun {b xs} e=>by
  rw [Zak (Zbv e h.lst (fun z=>nomatch z)),Zak (Zbv e h.dct (fun z=>nomatch z))];exact e
 refine ⟨?_,?_,fun e he=>?_⟩
 ·rw [Zal,Zqo];rfl
 ·rw [Zak h.nlk.symm,Zal,Zav,Zav,Zqo];rfl
 ·rcases Zqp.mp he with he | he
  ·exact nt (h.tup e he)
  ·rw [Zql] at he
   subst he
   exact nt ht
end
theorem ZiD {t:Int} (h:0<=t):Builtin.bitXor t 1=MF.tn t:=by
 obtain ⟨a,rfl⟩:=Zr7 h
 have e:=Zg2 a 1
 rw [show ((1:Nat):Int)=1 from rfl] at e
 rw [e]
 have h1:(a ^^^ 1) / 2=a / 2:=by rw [Nat.xor_div_two];simp
 have h2:(a ^^^ 1) % 2=(a+1) % 2:=by
  have:=Nat.xor_mod_two_pow (a:=a) (b:=1) (n:=1)
  rw [show 2 ^ 1=2 from rfl] at this
  rw [this]
  rcases Zr3 a with q | q
  ·rw [q,show 0 ^^^ 1 % 2=1 from rfl];omega
  ·rw [q,show 1 ^^^ 1 % 2=0 from rfl];omega
 unfold MF.tn
 split <;> omega
theorem ZlK (es:List En) (n:Nat) (h:n<es.length):(es.map fun e=>V.ref e.1).getD n .non=V.ref (es[n]).1:=by simp [ZqN,h]
end L2
set_option maxHeartbeats 4000000
namespace DL
open PySem DZ
section
variable {prog:Program}{w:World}{A:Around}{E:Value->Shared->Prop}{h:Heap}{g:Array GenState}{d:Drawn}{t:Nat}{os:OsState}{z:Addr}{vs:Array Value}{n:Nat}
end
section
variable {prog:Program}{w:World}{A:Around}{E:Value->Shared->Prop}{s:Shared}{κ:Type} [DecidableEq κ] {knd:KeyKind prog w κ}
end
end DL
namespace L2
open PySem PySem.Spec PyProof.Rows
end L2
set_option maxHeartbeats 4000000
namespace EX
open PySem
structure Lv (S:List Addr) (e:Addr) (old:List Addr) (cls:Value) (h h':Heap) (T:Addr):Prop where
 ge:h.objs.size<=T
 exc:∃ oe vs,h'.get? e=some oe/\oe.cls=cls/\oe.data=.fields vs/\vs[1]? = some (.ref T)/\oe.dict=none
 tb:∃ oT ts,h'.get? T=some oT/\oT.data=.fields ts/\ts[3]? = some .none
 keep:∀ b o,b ∉ S->b≠e->b ∉ old->h.get? b=some o->h'.get? b=some o
 slot:∀ b o,b∈S->h.get? b=some o->∃ sl,h'.get? b=some { o with slots:=sl }
theorem ZmS (f:Array Value->Array Value) (o:Obj):(Obj.mapFields f o).dict=o.dict:=by
 unfold Obj.mapFields
 split <;> rfl
section
variable {M:Model}{A:Around}{E:Value->Shared->Prop}{s:Shared}
theorem ZjR {base:Heap}{env:Env}{outer:List Env}{L e:Addr}{oe:Obj}{vs:Array Value}{hd0:Value}{nx:Bool}{Q:Unit->Shared->Prop} (hfr:A.frames=some (env :: outer)) (hl:s.heap.FunFrames base (env :: outer)) (hf:env.frame=some L)
  (he:s.heap.get? e=some oe) (hdn:oe.dict=none) (hd:oe.data=.fields vs) (hsz:1<vs.size)
  (q:∀ h' T,Lv ((env :: outer).filterMap (·.frame)) e [] oe.cls s.heap h' T->Q () { s with heap:=h' }) :
  wpAny M A (do let a <- frameOf env;let pl <- entryPlaceOf L nx;let b <- EntryCells.newEntry hd0 a .none (rawInt L) .none pl;setField (.ref e) 1 b) (fun _ s'=>wpAny M A (setFlight (.ref e) none) Q E s') E s:=by
 have eS:e ∉ (env :: outer).filterMap (·.frame):=fun hm=>by
  obtain ⟨_,o,ho,hnf⟩:=hl.mem hm
  rw [he] at ho
  cases ho
  exact hnf vs hd
 refine wpAny_bind (wpAny_frameOf_fun hfr hl hf fun k1 x1=>wpAny_bind (wpAny_entryPlaceOf fun pl hpl=>?_))
 unfold EntryCells.newEntry newFields
 refine wpAny_bind (wpAny_newObj_type ?_ (hpl.sizeOk5 _ _ _ _ _))
 have e1:k1.get? e=some oe:=(x1.2.1 e eS).trans he
 generalize hob:({ cls:=.type "traceback",dict:=none,data:=.fields ([hd0,.ref L,.none,rawInt L,.none] ++ (if pl.isEmpty then Zqk 6 Value.none else pl)).toArray }:Obj)=ob
 have hobf:∃ ts,ob.data=.fields ts/\3<ts.size:=⟨_,by rw [<- hob],by simp only [Zqu,Zqj,ZqA,ZqT];omega⟩
 obtain ⟨ts,hts,hts3⟩:=hobf
 have hfreed:ob.isFreed=false:=by rw [<- hob];rfl
 have e2:(k1.push ob).get? e=some oe:=Heap.get?_push_of_some _ e1
 refine wpAny_setField e2 hd hsz ?_
 have nTe:k1.objs.size≠e:=ZrV (Heap.lt_size e1)
 have d3:=Obj.data_mapFields hd (·.setIfInBounds 1 (Value.ref k1.objs.size))
 have e3:=Heap.get?_update_self (Obj.mapFields (·.setIfInBounds 1 (Value.ref k1.objs.size))) e2 (Obj.isFreed_of_fields d3)
 have t3:=(Heap.get?_update_other (k1.push ob) (Obj.mapFields (·.setIfInBounds 1 (Value.ref k1.objs.size))) (Ne.symm nTe)).trans (Heap.get?_push_size k1 hfreed)
 unfold setFlight
 refine wpAny_bind (wpAny_field e3 d3 (x:=.ref k1.objs.size) (by simp [hsz]) ?_)
 rw [if_pos (show (Value.ref k1.objs.size != Value.none)=true by simp)]
 refine wpAny_setField t3 hts hts3 (q _ k1.objs.size ?_)
 have up:∀ b o,b≠e->k1.get? b=some o->(((k1.push ob).update e (Obj.mapFields (·.setIfInBounds 1 (Value.ref k1.objs.size)))).update k1.objs.size (Obj.mapFields (·.setIfInBounds 3 ((none:Option Addr).elim Value.none fun f=>rawInt f)))).get? b=some o:=fun b o nb hb=>by
  rw [Heap.get?_update_other _ _ (ZrV (Heap.lt_size hb)),Heap.get?_update_other _ _ (Ne.symm nb)]
  exact Heap.get?_push_of_some _ hb
 refine ⟨by rw [x1.1];exact ZrN _,⟨_,_,(Heap.get?_update_other _ _ nTe).trans e3,Obj.cls_mapFields _ _,d3,by simp [hsz],(ZmS _ _).trans hdn⟩,?_,fun b o hb nb _ hbo=>up b o nb ((x1.2.1 b hb).trans hbo),fun b o hb hbo=>?_⟩
 ·have d4:=Obj.data_mapFields hts (·.setIfInBounds 3 ((none:Option Addr).elim Value.none fun f=>rawInt f))
  exact ⟨_,_,Heap.get?_update_self _ t3 (Obj.isFreed_of_fields d4),d4,by simp [hts3]⟩
 ·obtain ⟨sl,hs⟩:=x1.2.2 b o hbo
  exact ⟨sl,up b _ (fun z=>eS (z ▸ hb)) hs⟩
noncomputable def Trc (h:Heap) (e:Addr) (vs:Array Value) (old:List Addr):Prop :=
 (vs[1]? = some .none/\old=[])\/∃ T0 oT ts,old=[T0]/\vs[1]? = some (.ref T0)/\T0≠e/\h.get? T0=some oT/\oT.data=.fields ts/\ts[3]? = some .none
theorem lands {base:Heap}{env:Env}{outer:List Env}{L e:Addr}{oe:Obj}{vs:Array Value}{old:List Addr}{Q:Unit->Shared->Prop} (hfr:A.frames=some (env :: outer)) (hl:s.heap.FunFrames base (env :: outer)) (hf:env.frame=some L)
  (he:s.heap.get? e=some oe) (hdn:oe.dict=none) (hd:oe.data=.fields vs) (tr:Trc s.heap e vs old)
  (q:∀ h' T,Lv ((env :: outer).filterMap (·.frame)) e old oe.cls s.heap h' T->Q () { s with heap:=h' }):wpAny M A (noteFrame (.ref e) env) (fun _ s'=>wpAny M A (setFlight (.ref e) none) Q E s') E s:=by
 unfold noteFrame
 simp only [hf]
 rcases tr with ⟨h1,rfl⟩ | ⟨T0,oT,ts,rfl,h1,nT,hT,hdT,h3⟩
 ·refine wpAny_bind (wpAny_field he hd h1 ?_)
  rw [if_neg (by decide)]
  exact ZjR hfr hl hf he hdn hd (Zsj.mp h1).1 q
 ·refine wpAny_bind (wpAny_field he hd h1 ?_)
  rw [if_pos (show (Value.ref T0 != Value.none)=true by simp)]
  refine wpAny_bind (wpAny_field hT hdT h3 ?_)
  rw [if_neg (show ¬ ((Value.none == rawInt L)=true) by simp [rawInt])]
  refine wpAny_bind (wpAny_setField hT hdT (Zsj.mp h3).1 ?_)
  have ot:∀ b,b≠T0->(s.heap.update T0 (Obj.mapFields (·.setIfInBounds 3 Value.none))).get? b=s.heap.get? b:=fun b hb=>Heap.get?_update_other _ _ (Ne.symm hb)
  have nf:∀ b o,s.heap.get? b=some o->(∀ vs,o.data≠.fields vs)->b≠T0:=fun b o hb hnf z=>by
   rw [z,hT] at hb
   cases hb
   exact hnf ts hdT
  refine ZjR hfr (hl.of_keeps fun b o hb hnf=>⟨o,(ot b (nf b o hb hnf)).trans hb,rfl⟩) hf ((ot e (Ne.symm nT)).trans he) hdn hd (Zsj.mp h1).1 fun h' T x=>q h' T ⟨?_,x.exc,x.tb,fun b o hb nb no hbo=>?_,fun b o hb hbo=>?_⟩
  ·have:=x.ge
   rw [show (s.heap.update T0 (Obj.mapFields (·.setIfInBounds 3 Value.none))).objs.size=s.heap.objs.size from Heap.size_after_update ..] at this
   exact this
  ·exact x.keep b o hb nb (by simp) ((ot b (fun z=>no (by simp [z]))).trans hbo)
  ·obtain ⟨_,o',ho',hnf⟩:=hl.mem hb
   rw [hbo] at ho'
   cases ho'
   exact x.slot b o hb ((ot b (nf b o hbo hnf)).trans hbo)
theorem leaves {base:Heap}{env:Env}{outer:List Env}{L e:Addr}{oe:Obj}{vs:Array Value}{old:List Addr}{Q:Unit->Shared->Prop} (hfr:A.frames=some (env :: outer)) (hl:s.heap.FunFrames base (env :: outer)) (hf:env.frame=some L)
  (he:s.heap.get? e=some oe) (hdn:oe.dict=none) (hd:oe.data=.fields vs) (tr:Trc s.heap e vs old)
  (q:∀ h' T,Lv ((env :: outer).filterMap (·.frame)) e old oe.cls s.heap h' T->Q () { s with heap:=h' }):wpAny M A (leaving env (.ref e)) Q E s:=by
 unfold leaving
 exact wpAny_bind (lands hfr hl hf he hdn hd tr q)
end
end EX
set_option maxHeartbeats 4000000
namespace L2
open PySem PySem.Spec PyProof.Rows
noncomputable def CX1 (P:Program) (w:World):CXT:=fun outer H s E er s'=>∃ e T C H',er=.ref e/\s'.os=s.os/\AllBare s'.gens/\Un (frs outer) [] H H' s.heap s'.heap/\HOk P w H' s'.heap/\s.heap.get? e=none/\s.heap.get? T=none/\T≠e/\H' e=none/\H' T=none /\
 (∃ oe vs,s'.heap.get? e=some oe/\oe.cls=.ref C/\oe.data=.fields vs/\vs[1]? = some (.ref T)/\oe.dict=none)/\(∃ oT ts,s'.heap.get? T=some oT/\oT.data=.fields ts/\ts[3]? = some .none)/\E (.ref e) (some C) H'
theorem ZbK.has {P:Program}{w:World}{H:Hp}{h:Heap}{a:Addr}{o:HO} (x:ZbK P w H h a o):∃ u,h.get? a=some u:=by
 cases o with
 | lst xs=>obtain ⟨_,_,_,_,e⟩:=x;exact ⟨_,e⟩
 | tup xs=>obtain ⟨_,_,_,_,e,_⟩:=x;exact ⟨_,e⟩
 | dK kvs=>obtain ⟨_,_,_,_,o,_,_,e,_⟩:=x;exact ⟨_,e⟩
 | dT kvs=>obtain ⟨_,_,_,_,o,_,_,e,_⟩:=x;exact ⟨_,e⟩
 | set S n=>obtain ⟨o,_,_,_,e,_⟩:=x;exact ⟨_,e⟩
 | ins C dx fs=>obtain ⟨_,_,_,e,_⟩:=x;exact ⟨_,e⟩
 | own y=>exact x
 | xd fs=>obtain ⟨_,⟨_,_,_,e,_⟩,_⟩:=x;exact ⟨_,e⟩
 | rng lo hi=>obtain ⟨_,_,_,e⟩:=x;exact ⟨_,e⟩
 | frz ob u=>obtain ⟨e,_⟩:=x;exact ⟨_,e⟩
 | tbl ps=>exact ⟨_,(show h.get? a=some _ from x)⟩
 | met f y=>exact ⟨_,(show h.get? a=some _ from x)⟩
 | ext φ=>obtain ⟨_,e,_⟩:=x;exact e
theorem HOk.unseen {P:Program}{w:World}{H:Hp}{h:Heap}{a:Addr} (x:HOk P w H h) (e:h.get? a=none):H a=none:=by
 cases q:H a with
 | none=>rfl
 | some u =>
  obtain ⟨o,z⟩:=(x a u q).has
  rw [e] at z;cases z
noncomputable def Zmp (X:Cx) (pins:List (Addr × Obj)) (H:Hp) (b:Addr):Prop :=
 H b=none/\b≠X.env.locals/\b ∉ X.fs/\(b∈X.ex\/X.s₀.heap.get? b=none)/\(∀ x c,X.env.cells.lookup x=some c->c≠b)/\∀ p∈X.pn ++ pins,p.1≠b
theorem Inv.flOk {X:Cx}{pins:List (Addr × Obj)}{σ:St}{H H':Hp}{s:Shared}{b:Addr} (I:Inv X pins σ H s) (hb:s.heap.get? b=none) (hn:H' b=none):Zmp X pins H' b:=by
 have no:∀ {o:Obj},s.heap.get? b=some o->False:=fun z=>by rw [hb] at z;cases z
 refine ⟨hn,fun z=>?_,fun z=>?_,?_,fun x c e z=>?_,fun p hp z=>?_⟩
 ·obtain ⟨m,⟨o,es,ep,ho,_⟩,_⟩:=I.loc
  rw [<- z] at ho;exact no ho
 ·obtain ⟨_,o,ho,_⟩:=I.funs.mem z
  exact no ho
 ·by_cases hx:b∈X.ex
  ·exact .inl hx
  ·refine .inr ?_
   cases q:X.s₀.heap.get? b with
   | none=>rfl
   | some o =>
    obtain ⟨o',h'⟩:=I.base.there b o q hx
    exact (no h').elim
 ·obtain ⟨v,q⟩:=I.cell x c e
  rw [z] at q
  obtain ⟨o,ho,_⟩:=q
  exact no ho
 ·have:=(I.pin p hp).1
  rw [z] at this
  exact no this
structure Fly (X:Cx) (pins:List (Addr × Obj)) (H:Hp) (e C:Addr) (s:Shared):Prop where
 fe:Zmp X pins H e
 obj:∃ oe vs old,s.heap.get? e=some oe/\oe.cls=.ref C/\oe.data=.fields vs/\EX.Trc s.heap e vs old/\oe.dict=none/\∀ b∈old,Zmp X pins H b
noncomputable def XOk (X:Cx) (E:XK):Prop:=∀ (pins:List (Addr × Obj)) (σ:St) (H:Hp) (s:Shared) (e C:Addr),Inv X pins σ H s->Fly X pins H e C s->E (.ref e) (some C) H->X.xe (.ref e) s
theorem fly_of {X:Cx}{pins:List (Addr × Obj)}{σ:St}{H:Hp}{s s':Shared}{E:XK}{er:Value} (I:Inv X pins σ H s) (h:CX1 X.prog X.w X.stack H s E er s'):∃ e C H',er=.ref e/\Inv X pins σ H' s'/\Fly X pins H' e C s'/\E (.ref e) (some C) H':=by
 obtain ⟨e,T,C,H',rfl,os,bare,un,hok,ge,gT,ne,he,hT,⟨oe,vs,h1,h2,h3,h4,h8⟩,⟨oT,ts,h5,h6,h7⟩,q⟩:=h
 obtain ⟨hh,g,d,t,os'⟩:=s'
 obtain rfl:os'=s.os:=os
 refine ⟨e,C,H',rfl,I.call (h':=hh) (g':=g) (d':=d) (t':=t) (ch:=[]) un hok bare (fun b z=>absurd z (by simp)),⟨I.flOk ge he,oe,vs,[T],h1,h2,h3,.inr ⟨T,oT,ts,rfl,h4,ne,h5,h6,h7⟩,h8,fun b hb=>?_⟩,q⟩
 rw [Zql.mp hb]
 exact I.flOk gT hT
theorem Zos {X:Cx}{E:XK} (h:XOk X E):ZeJ (CX1 X.prog X.w) X E:=fun pins σ H s er s' I hcx=>by
 obtain ⟨e,C,H',rfl,I',fl,q⟩:=fly_of I hcx
 exact h pins σ H' s' e C I' fl q
theorem Zhj {P:Program}{w:World}{X:Cx}:ZeJ (CX1 P w) X E0:=fun _ _ _ _ _ _ _ h=>by
 obtain ⟨_,_,_,_,_,_,_,_,_,_,_,_,_,_,_,_,q⟩:=h
 exact q.elim
section
variable {P:Program}{w:World}{K:ZpF}{mg:Str->Option Value}{base:Heap}
theorem ZdX {N:List Str}{qual:Str}{scope:Scope}{f:Addr}{cdv:Value}{A:Around}{outer:List Env}{s:Shared}{H:Hp}{E:XK}:XOk (Zcd (CX1 P w) P w K mg base N qual scope f cdv A outer s H E) E:=by
 intro pins σ H' s' e C I fl q
 obtain ⟨fe,oe,vs,old,h1,h2,h3,tr,hdn,fo⟩:=fl
 show wpAny (model P w) (A.deeper (envOfC qual scope s.heap.objs.size f cdv)) (leaving (envOfC qual scope s.heap.objs.size f cdv) (.ref e)) (fun _ s''=>CX1 P w outer H s E (.ref e) s'') (fun e' s''=>CX1 P w outer H s E e' s'') s'
 have fr:(A.deeper (envOfC qual scope s.heap.objs.size f cdv)).frames=some (envOfC qual scope s.heap.objs.size f cdv :: outer):=I.ok.frames
 have ff:s'.heap.FunFrames base (envOfC qual scope s.heap.objs.size f cdv :: outer):=I.stack
 have free:∀ b∈(envOfC qual scope s.heap.objs.size f cdv :: outer).filterMap (·.frame),H' b=none:=I.stkFree
 have big:∀ {b},Zmp (Zcd (CX1 P w) P w K mg base N qual scope f cdv A outer s H E) pins H' b->s.heap.get? b=none:=fun {b} hb=>by
  rcases hb.2.2.2.1 with z | z
  ·exact absurd z (by show b ∉ ([]:List Addr);simp)
  ·exact z
 have old_lt:∀ {b o},s.heap.get? b=some o->b≠e/\b ∉ old/\b≠s.heap.objs.size:=fun {b o} hb=>by
  have lt:=Heap.lt_size hb
  refine ⟨fun z=>?_,fun z=>?_,ZrP lt⟩
  ·have:=big fe
   rw [<- z,hb] at this;cases this
  ·have:=big (fo b z)
   rw [hb] at this;cases this
 refine EX.leaves (base:=base) fr ff rfl h1 hdn h3 tr fun h' T lv=>?_
 have inS:∀ {b},b∈(envOfC qual scope s.heap.objs.size f cdv :: outer).filterMap (·.frame)->b=s.heap.objs.size\/b∈frs outer:=fun {b} hb=>by
  rw [Zri] at hb
  exact Zqt.mp hb
 have toS:∀ {b},b∈frs outer->b∈(envOfC qual scope s.heap.objs.size f cdv :: outer).filterMap (·.frame):=fun {b} hb=>by
  rw [Zri]
  exact ZqI _ hb
 have B:=I.base
 have sge:s.heap.objs.size<=s'.heap.objs.size:=I.sz
 have kp:∀ b u,H' b≠none->s'.heap.get? b=some u->h'.get? b=some u:=fun b u nb hb=>by
  refine lv.keep b u (fun z=>nb (free b z)) (fun z=>nb (by rw [z];exact fe.1)) (fun z=>nb (fo b z).1) hb
 refine ⟨e,T,C,H',rfl,I.os,I.bare,⟨fun b o e1 n hb hx=>?_,fun b o e1 n hb hx=>?_,fun b o e1 n hx=>B.free b o e1 n hx,fun b o e1 hx=>?_,B.tups,B.frzs,B.tbls⟩,fun b u e1=>?_,big fe,Heap.get?_none_of_le (ZrR sge lv.ge),?_,fe.1,I.hok.fresh lv.ge,?_,lv.tb,q⟩
 ·obtain ⟨z1,z2,z3⟩:=old_lt e1
  refine lv.keep b o (fun z=>?_) z1 z2 (B.keep b o e1 n hb hx)
  rcases inS z with z | z
  ·exact z3 z
  ·exact hb z
 ·obtain ⟨sl,e2⟩:=B.slot b o e1 n hb hx
  obtain ⟨sl',e3⟩:=lv.slot b _ (toS hb) e2
  exact ⟨sl',e3⟩
 ·obtain ⟨o',e2⟩:=B.there b o e1 hx
  obtain ⟨z1,z2,z3⟩:=old_lt e1
  by_cases hS:b∈(envOfC qual scope s.heap.objs.size f cdv :: outer).filterMap (·.frame)
  ·obtain ⟨sl,e3⟩:=lv.slot b _ hS e2
   exact ⟨_,e3⟩
  ·exact ⟨o',lv.keep b o' hS z1 z2 e2⟩
 ·refine (I.hok b u e1).stay (fun c v hc hv=>kp c v (fun z=>?_) hv) (fun _ z=>z) fun _ _ z=>z
  rcases hc with y | y
  ·rw [y,e1] at z;cases z
  ·rw [y] at z;cases z
 ·exact ZrV (ZrQ (Heap.lt_size h1) lv.ge)
 ·obtain ⟨oe',vs',y1,y2,y3,y4,y5⟩:=lv.exc
  exact ⟨oe',vs',y1,y2.trans h2,y3,y4,y5⟩
theorem Fun.okX {x qual:Str}{st:Stmt}{f:Addr}{fd:FuncData}{N ps:List Str}{k:Nat}{sp:Sp} (F:Fun K x qual st f fd) (S:FnScope N ps (Zab st)) (len:∀ vs H Q E,sp vs H Q E->vs.length=ps.length)
  (hbody:∀ (cdv:Value) (A:Around) (outer:List Env) (s:Shared) (H:Hp) (vs:List V) (Q:VK) (E:XK),Room k (A.deeper (envOfC qual (Zab st) s.heap.objs.size f cdv))->sp vs H Q E ->
   ∃ t,PSs (Zcd (CX1 P w) P w K mg base N qual (Zab st) f cdv A outer s H E) (Zai st) t/\t { nx:=fun _ H'=>Q .non H',rt:=Q } (start N vs) H):FnOk P w K mg base (CX1 P w) (k+1) f fd ps sp:=by
 obtain ⟨oc,od,kV,doc,pm,an,cdv,ct,osl,rfl,lk,hcd⟩:=F.ex
 exact fn_of lk hcd S len fun A outer s H vs Q E hr hsp=>hbody cdv A outer s H vs Q E hr hsp
end
section
open PySem.W
theorem cls_in {K:Frag}{h:Heap}{C:Addr}{bmB:List Value}{newId:String} (X:K.In h) (q:excIn K C bmB newId=true):∃ bm N nm qn bs hdct sn sub ab col dd k0 k1 k2 k3 k5 mN,
  h.get? C=some (excClassObj nm qn C N bs bm hdct sn sub ab col dd k0 k1 k2 k3 k5 newId)/\h.Ns N mN/\mN "__init__" = none/\OwnTail h bmB bm:=by
 have hk:=q
 revert hk
 rw [excIn]
 intro hk
 cases hl:K.lookup C with
 | none=>rw [hl] at hk;cases hk
 | some ob =>
  obtain ⟨c,dd,dt,sl⟩:=ob
  rw [hl] at hk
  split at hk
  next dd' cd sl' he =>
   cases he
   split at hk
   next C' bm k0 k1 k2 k3 n k5 hm hs =>
    simp only [Zsr,beq_iff_eq,Bool.not_eq_true'] at hk
    obtain ⟨⟨⟨⟨⟨hc,hn⟩,hdel⟩,ht⟩,hok⟩,hni⟩:=hk
    cases cd
    cases sl
    simp only at hm hdel hok hni hs
    rw [hm,hdel,hs] at hl
    rw [hc,hn] at hl
    exact ⟨_,_,_,_,_,_,_,_,_,_,_,_,_,_,_,_,_,X _ _ hl,.of_isNs (isNs_of_in X hok),nsMap_none_of_in X hok hni,tail_of_in X ht⟩
   next=>cases hk
  next=>cases hk
end
noncomputable def Zep (C:Addr) (t:TA) (E:XK):TS:=fun _ σ H=>t σ H fun vs H1=>vs.length<=sizeLine/\∀ e,H1 e=none->E (.ref e) (some C) H1
theorem Zc1 {X:Cx}{E:XK}{C:Addr}{x:Str}{bmB:List Value}{B newId initId:String}{e:Expr}{es:List Expr}{t:TA}{np cpos pos:Pos} (F:ExcBaseFacts B newId initId bmB) (q:ZpQ X.K C bmB newId=true) (hbase:bmB.contains (.type "BaseException")=true)
  (hg:Gl X x) (hm:X.mg x=some (.ref C)) (hc:X.calm=true) (hx:XOk X E) (ha:PA X (e :: es) t) (hdb:(x == ("__debug__" : Str))=false:=by decide) (he:starEach (e :: es) X.env=(false,eval e X.env) :: starEach es X.env:=by rfl)
  (hpl:(backTo cpos (starEach (e :: es) X.env)).any (·.1)=false:=by rfl):PS X (.Raise (some (.Call (.Name x np) (e :: es) [] cpos)) none pos) (Zep C t E):=by
 intro pins s σ H D I h
 obtain ⟨bm,N,nm,qn,bs,hdct,sn,sub,ab,col,dd,k0,k1,k2,k3,k5,mN,hC,hN,hni,T⟩:=cls_in I.ok.mod.kin q
 refine wpAny_Raise_call_subT (nm:=nm) (q:=qn) (N:=N) (bs:=bs) (hdct:=hdct) (sn:=sn) (sub:=sub) (ab:=ab) (col:=col) (dd:=dd) (k0:=k0) (k1:=k1) (k2:=k2) (k3:=k3) (k5:=k5) F (T.hasType hbase) (I.ok.hd hc) hpl hni (Zht I hg hm ⟨rfl,?_⟩ hdb)
 have a1:=ha cpos pins s σ H _ I h
 rw [he] at a1 ⊢
 refine Calls.evalArgs_plain (thn a1 fun us s1 ⟨vs,H1,I1,r,hz,q1⟩=>⟨rfl,?_,I1.bk _ _ hC,hN.keeps I1.bk,T.keeps I1.bk,fun h' e' hme=>?_⟩)
 ·show us.length<=_
  rw [<- r.length];exact hz
 ·have I2:Inv X pins σ H1 { s1 with heap:=h' }:=I1.kept (t':=s1.toks) hme.keeps
  obtain ⟨tt,t1,t2,t3⟩:=hme.there
  exact hx pins σ H1 _ e' C I2 ⟨I1.flOk hme.new (I1.hok.unseen hme.new),_,_,[],t1,rfl,rfl,.inl ⟨rfl,rfl⟩,rfl,fun b hb=>absurd hb (by simp)⟩ (q1 e' (I1.hok.unseen hme.new))
noncomputable def Cx.plus (X:Cx) (l:List Addr):Cx:={ X with ex:=l ++ X.ex }
section
variable {X:Cx}{pins:List (Addr × Obj)}{σ:St}{H:Hp}{s:Shared}{l:List Addr}
theorem ZiH (I:Inv X pins σ H s) {b:Addr} (hb:X.s₀.heap.get? b=none) (o:Obj):X.base.get? b≠some o:=fun z=>by
 have:=(I.ok.bs b o z).1
 rw [hb] at this;cases this
theorem Inv.plus (I:Inv X pins σ H s) (h:∀ b∈l,Zmp X pins H b):Inv (X.plus l) pins σ H s:=by
 have K:=I.ok
 refine ⟨⟨K.mod,K.kind,K.glob,K.blt,K.above,K.inj,K.has,K.cab,K.hd,K.frames,K.stk,fun b hb=>?_,K.bs,K.bsz,fun b o e hb=>?_,fun b hb=>?_,K.funs,K.frf⟩,I.os,I.bare,?_,I.loc,I.cell,I.free,I.freeC,I.pin,I.hok,I.len⟩
 ·rcases Zqp.mp hb with z | z
  ·exact ⟨(h b z).2.1,(h b z).2.2.2.2.1⟩
  ·exact K.exf b z
 ·rcases Zqp.mp hb with z | z
  ·rcases (h b z).2.2.2.1 with y | y
   ·exact K.noex b o e y
   ·exact ZiH I y o e
  ·exact K.noex b o e z
 ·rcases Zqp.mp hb with z | z
  ·exact (h b z).2.2.1
  ·exact K.exfs b z
 ·have no:∀ {b:Addr},b ∉ l ++ X.ex->b ∉ X.ex:=fun hb z=>hb (ZqG _ z)
  exact ⟨fun b o e n hb hx=>I.base.keep b o e n hb (no hx),fun b o e n hb hx=>I.base.slot b o e n hb (no hx),fun b o e n hx=>I.base.free b o e n (no hx),fun b o e hx=>I.base.there b o e (no hx),I.base.tups,I.base.frzs,I.base.tbls⟩
theorem Inv.minus (I:Inv (X.plus l) pins σ H s) (K:X.Ok) (h:∀ b∈l,b∈X.ex\/X.s₀.heap.get? b=none):Inv X pins σ H s:=by
 have no:∀ {b:Addr}{o:Obj},X.s₀.heap.get? b=some o->b ∉ X.ex->b ∉ l ++ X.ex:=fun {b o} e hb z=>by
  rcases Zqp.mp z with y | y
  ·rcases h b y with u | u
   ·exact hb u
   ·rw [u] at e;cases e
  ·exact hb y
 exact ⟨K,I.os,I.bare,⟨fun b o e n hb hx=>I.base.keep b o e n hb (no e hx),fun b o e n hb hx=>I.base.slot b o e n hb (no e hx),fun b o e n hx=>I.base.free b o e n (no e hx),fun b o e hx=>I.base.there b o e (no e hx),I.base.tups,I.base.frzs,I.base.tbls⟩,
  I.loc,I.cell,I.free,I.freeC,I.pin,I.hok,I.len⟩
theorem Inv.turn {h':Heap} (I:Inv X pins σ H s) (h:∀ b∈l,Zmp X pins H b)
  (keep:∀ b o,b ∉ frs X.stack->b ∉ l->s.heap.get? b=some o->h'.get? b=some o) (slot:∀ b o,b∈frs X.stack->s.heap.get? b=some o->∃ sl,h'.get? b=some { o with slots:=sl }):Inv X pins σ H { s with heap:=h' }:=by
 have I1:=I.plus h
 have st:∀ b,H b≠none->b ∉ frs X.stack/\b ∉ l:=fun b n=>⟨fun z=>n (I.stkFree b z),fun z=>n (h b z).1⟩
 have u:Un (frs X.stack) l H H s.heap h':=by
  refine ⟨fun b o e n hb hx=>keep b o hb hx e,fun b o e n hb hx=>slot b o hb e,fun b o e n hx=>n,fun b o e hx=>?_,fun _ _ e=>e,fun _ _ _ e=>e,fun b ps e=>⟨#[],by rw [e];simp⟩⟩
  by_cases hb:b∈frs X.stack
  ·obtain ⟨sl,q⟩:=slot b o hb e
   exact ⟨_,q⟩
  ·exact ⟨o,keep b o hb hx e⟩
 have hok:HOk X.prog X.w H h':=fun b u e1=>by
  refine (I.hok b u e1).stay (fun c v hc hv=>?_) (fun _ z=>z) fun _ _ z=>z
  have n:H c≠none:=fun z=>by
   rcases hc with y | y
   ·rw [y,e1] at z;cases z
   ·rw [y] at z;cases z
  exact keep c v (st c n).1 (st c n).2 hv
 exact Inv.minus (l:=l) (I1.call (g':=s.gens) (d':=s.drawn) (t':=s.toks) (ch:=l) u hok I.bare fun b hb=>⟨.inl (ZqJ _ hb),(h b hb).2.1,(h b hb).2.2.2.2.1,(h b hb).2.2.2.2.2⟩) I.ok fun b hb=>(h b hb).2.2.2.1
structure Held (X:Cx) (pins:List (Addr × Obj)) (H:Hp) (e C T:Addr) (s:Shared):Prop where
 fe:Zmp X pins H e
 fT:Zmp X pins H T
 ne:T≠e
 exc:∃ oe vs,s.heap.get? e=some oe/\oe.cls=.ref C/\oe.data=.fields vs/\vs[1]? = some (.ref T)/\oe.dict=none
 tb:∃ oT ts,s.heap.get? T=some oT/\oT.data=.fields ts/\ts[3]? = some .none
theorem again {e C T:Addr}{Q:Unit->Shared->Prop}{A:Around} (I:Inv X pins σ H s) (hd:Held X pins H e C T s)
  (q:∀ h',Inv X pins σ H { s with heap:=h' }->Held X pins H e C T { s with heap:=h' }->Q () { s with heap:=h' }) {E:Value->Shared->Prop} :
  wpAny (model X.prog X.w) A (setFlight (.ref e) none) Q E s:=by
 obtain ⟨fe,fT,ne,⟨oe,vs,h1,h2,h3,h4,h5⟩,⟨oT,ts,t1,t2,t3⟩⟩:=hd
 unfold setFlight
 refine wpAny_bind (wpAny_field h1 h3 h4 ?_)
 rw [if_pos (show (Value.ref T != Value.none)=true by simp)]
 refine wpAny_setField t1 t2 (Zsj.mp t3).1 ?_
 have d4:=Obj.data_mapFields t2 (·.setIfInBounds 3 ((none:Option Addr).elim Value.none fun f=>rawInt f))
 have ot:∀ b,b≠T->(s.heap.update T (Obj.mapFields (·.setIfInBounds 3 ((none:Option Addr).elim Value.none fun f=>rawInt f)))).get? b=s.heap.get? b:=fun b hb=>Heap.get?_update_other _ _ (Ne.symm hb)
 have notT:∀ b,b∈frs X.stack->b≠T:=fun b hb z=>by
  obtain ⟨_,o,ho,nf⟩:=I.stack.mem hb
  rw [z,t1] at ho;cases ho
  exact nf ts t2
 refine q _ (I.turn (l:=[T]) (fun b hb=>?_) (fun b o hb hl ho=>?_) fun b o hb ho=>?_) ⟨fe,fT,ne,⟨oe,vs,(ot e (Ne.symm ne)).trans h1,h2,h3,h4,h5⟩,⟨_,_,Heap.get?_update_self _ t1 (Obj.isFreed_of_fields d4),d4,?_⟩⟩
 ·rw [Zql.mp hb];exact fT
 ·exact (ot b (fun z=>hl (by simp [z]))).trans ho
 ·exact ⟨o.slots,(ot b (notT b hb)).trans ho⟩
 ·simp [(Zsj.mp t3).1]
end
noncomputable def mroIn (K:ZpF) (C:Addr):List Value:=match K.lookup C with
 | some ⟨_,_,.cls cd,_⟩=>cd.mro
 | _=>[]
section
open PySem.W
end
noncomputable def Cx.mk' (X:Cx) (e:Addr):Cx:={ X with A:=X.A.mark (some (.ref e)),calm:=false,xe:=fun _ _=>False }
noncomputable def Cx.tr (X:Cx) (pins:List (Addr × Obj)) (Ex:St->XK):Cx :=
 { X with pn:=X.pn ++ pins,xe:=fun er s=>∃ σ e C H,er=.ref e/\Inv X pins σ H s/\Fly X pins H e C s/\Ex σ (.ref e) (some C) H }
section
variable {X:Cx}{pins:List (Addr × Obj)}{σ:St}{H:Hp}{s:Shared}{e C T:Addr}{D:Ends}{f:Flow}{Ex:St->XK}
theorem Inv.mk' (I:Inv X pins σ H s) (e:Addr):Inv (X.mk' e) pins σ H s :=
 ⟨⟨I.ok.mod,I.ok.kind,I.ok.glob,I.ok.blt,I.ok.above,I.ok.inj,I.ok.has,I.ok.cab,fun h=>Bool.noConfusion h,I.ok.frames,I.ok.stk,I.ok.exf,I.ok.bs,I.ok.bsz,I.ok.noex,I.ok.exfs,I.ok.funs,I.ok.frf⟩,I.os,I.bare,I.base,I.loc,I.cell,I.free,I.freeC,I.pin,I.hok,I.len⟩
theorem Inv.tr (I:Inv X pins σ H s) (Ex:St->XK):Inv (X.tr pins Ex) [] σ H s :=
 ⟨⟨I.ok.mod,I.ok.kind,I.ok.glob,I.ok.blt,I.ok.above,I.ok.inj,I.ok.has,I.ok.cab,I.ok.hd,I.ok.frames,I.ok.stk,I.ok.exf,I.ok.bs,I.ok.bsz,I.ok.noex,I.ok.exfs,I.ok.funs,I.ok.frf⟩,I.os,I.bare,I.base,I.loc,I.cell,I.free,I.freeC,fun p hp=>I.pin p (by rw [ZqX] at hp;exact hp),I.hok,I.len⟩
noncomputable def XOkS (X:Cx) (Ex:St->XK):Prop:=∀ (pins:List (Addr × Obj)) (σ:St) (H:Hp) (s:Shared) (e C:Addr),Inv X pins σ H s->Fly X pins H e C s->Ex σ (.ref e) (some C) H->X.xe (.ref e) s
theorem XOk.toS {E:XK} (h:XOk X E):XOkS X fun _=>E:=fun pins σ H s e C I fl q=>h pins σ H s e C I fl q
end
section
variable {X:Cx}{x:Str}{np pos:Pos}{Dc:Addr}{b₀:Stmt}{body:List Stmt}{rest:List ExceptHandler}{hd:Addr->Addr->TS}{ts:TS}
end
section
variable {X:Cx}{k:Nat}{f C:Addr}{fd:FuncData}{ps:List Str}{sp:Sp}{dvs:List V}{ds:List Value}{Ex:St->XK}{x m:Str}{p pos apos:Pos}{e o:Expr}{es:List Expr}{ta:TE}{t:TA}
end
noncomputable def excAt (a C:Addr):Heap->Prop:=fun h=>∃ o vs,h.get? a=some o/\o.cls=.ref C/\o.data=.fields vs/\o.dict=none
noncomputable def xo (a C:Addr):HO:=.ext (excAt a C)
section
variable {X:Cx}{pins:List (Addr × Obj)}{σ:St}{H:Hp}{s:Shared}{e C T:Addr}
theorem Inv.seen {oe:Obj} (I:Inv X pins σ H s) (fe:Zmp X pins H e) (ho:s.heap.get? e=some oe) (hc:oe.cls=.ref C) {vs:Array Value} (hf:oe.data=.fields vs) (hdn:oe.dict=none):Inv X pins σ (upd H e (xo e C)) s:=by
 have ne:∀ {b u},H b=some u->b≠e:=fun {b u} h z=>by rw [z,fe.1] at h;cases h
 have up:∀ {b u},H b=some u->upd H e (xo e C) b=some u:=fun {b u} h=>(Zak (ne h)).trans h
 refine ⟨I.ok,I.os,I.bare,⟨I.base.keep,I.base.slot,fun b o e1 n hx=>?_,I.base.there,fun b xs h=>up (I.base.tups b xs h),fun b o u h=>up (I.base.frzs b o u h),fun b ps h=>?_⟩,I.loc,I.cell,(Zak (Ne.symm fe.2.1)).trans I.free,fun x c h=>(Zak (fe.2.2.2.2.1 x c h)).trans (I.freeC x c h),fun p hp=>?_,fun b u h=>?_,I.len⟩
 ·refine (Zak fun z=>?_).trans (I.base.free b o e1 n hx)
  rcases fe.2.2.2.1 with y | y
  ·exact hx (z ▸ y)
  ·rw [z,y] at e1;cases e1
 ·obtain ⟨more,q⟩:=I.base.tbls b ps h
  exact ⟨more,up q⟩
 ·obtain ⟨a1,a2,a3⟩:=I.pin p hp
  exact ⟨a1,(Zak (fe.2.2.2.2.2 p hp)).trans a2,a3⟩
 ·by_cases hb:b=e
  ·rw [hb,Zal] at h
   cases h
   rw [hb]
   exact ⟨⟨oe,vs,ho,hc,hf,hdn⟩,⟨oe,ho⟩,fun h1 h2 ⟨o,vs,p1,p2⟩ k=>⟨o,vs,k o p1,p2⟩⟩
  ·rw [Zak hb] at h
   exact (I.hok b u h).stay (fun c v _ q=>q) (fun c q=>up q) fun c xs q=>up q
end
noncomputable def exq (K:ZpF) (C:Addr):Bool :=
 (PySem.W.clsIn K C).isSome && ZpL K (.ref C) "__getattribute__" == some (some (.builtin "BaseException.__getattribute__")) && ZpL K (.ref C) "__getattr__" == some none
 && ZpL K (.ref C) "__class__" == some (some (.builtin "object.__class__")) && Zp2 K (.builtin "object.__class__") "__get__" == some (some (.builtin "getset_descriptor.__get__"))
 && PySem.W.takesIn K (.builtin "object.__class__") == some true && Zp3 K C (.type "object") == some true && Zp3 K C (.type "BaseException") == some true
section
open PySem.W PySem.Calls
variable {prog:Program}{w:World}{A:Around}{E:Value->Shared->Prop}{s:Shared}{K:Frag}{a C:Addr}
end
structure RoomM (k:Nat) (A:Around):Prop where
 dp:A.depth+3 * k+5<recursionLimit
 un:A.units+16 * k+200<cLine
theorem Room.m {k:Nat}{A:Around} (r:Room k A):RoomM k A:=⟨r.dp,r.un⟩
structure FnOkM (P:Program) (w:World) (K:ZpF) (mg:Str->Option Value) (base:Heap) (CX:CXT) (k:Nat) (f:Addr) (fd:FuncData) (ps:List Str) (sp:Sp):Prop where
 len:∀ vs H Q E,sp vs H Q E->vs.length=ps.length
 run:∀ (A:Around) (outer:List Env) (s:Shared) (H:Hp) (args:Args) (us:List Value) (vs:List V) (Q:VK) (E:XK),RoomM k A->Env0 P w K mg base A outer s H->BindsTo s fd args (ps.zip us)->Vals vs us->sp vs H Q E ->
  codeAny (model P w) A (.call (.ref f) args) (CR CX outer P w H s Q E) s
section
variable {X:Cx}{CX:CXT}{k:Nat}{f C:Addr}{fd:FuncData}{ps:List Str}{sp:Sp}{dvs:List V}{ds:List Value}{E:XK}{x m:Str}{p pos apos:Pos}{e o:Expr}{es:List Expr}{ta:TE}{t:TA}
end
theorem passF {P:Program}{w:World}{K:ZpF}{mg:Str->Option Value}{base:Heap}{N:List Str}{qual:Str}{scope:Scope}{f:Addr}{cdv:Value}{A:Around}{outer:List Env}{s:Shared}{H:Hp}{E:XK} :
  PassesOwn (model (Zcd (CX1 P w) P w K mg base N qual scope f cdv A outer s H E).prog (Zcd (CX1 P w) P w K mg base N qual scope f cdv A outer s H E).w) (Zcd (CX1 P w) P w K mg base N qual scope f cdv A outer s H E).A (Zcd (CX1 P w) P w K mg base N qual scope f cdv A outer s H E).env (Zcd (CX1 P w) P w K mg base N qual scope f cdv A outer s H E).xe:=fun _ _ h=>wpAny_leaving_again (SameStack.refl _) h
section
variable {X:Cx}{k:Nat}{f C:Addr}{fd:FuncData}{ps:List Str}{sp:Sp}{dvs:List V}{ds:List Value}{Ex:St->XK}{x:Str}{p pos:Pos}{e:Expr}{es:List Expr}{t:TA}
end
end L2
set_option maxHeartbeats 4000000
namespace DT
open PySem
section
variable {prog:Program}{w:World}{A:Around}{E:Value->Shared->Prop}{s:Shared}{d it:Addr}{od:Obj}{es:Array DictEntry}{ep i:Nat}
end
end DT
namespace L2
open PySem PySem.Spec PyProof.Rows
section
variable {X:Cx}{pins:List (Addr × Obj)}{σ:St}{H:Hp}{s:Shared}{d:Addr}{kvs:List (List Key × V)}{o:Obj}
theorem Inv.dT (I:Inv X pins σ H s) (e:Rd H d (.dT kvs)):kvs.length<=sizeLine/\(d == sysModules)=false/\∃ (xs:List (List Key × Addr × Value)) (od:Obj) (es:Array DictEntry) (ep:Nat),KT H kvs xs/\s.heap.get? d=some od/\od.ExactDict/\od.data=.dict es ep/\es.size=kvs.length /\
  ∀ (i:Nat) p,kvs[i]? = some p->∃ (b:Addr) (h:Int) (v:Value),es[i]? = some ⟨h,.ref b,v⟩/\H b=some (.tup (p.1.map kV)):=by
 obtain ⟨z,y,xs,r,od,es,ep,h1,h2,h3,h4,h5⟩:=(show ZbK X.prog X.w H s.heap d (.dT kvs) from Zok I.hok e)
 have hl:kvs.length=xs.length:=Paired.length r
 have hs:es.size=kvs.length:=by rw [hl,<- Zsf,h4,Zqi]
 refine ⟨z,y,xs,od,es,ep,r,h1,h2,h3,hs,fun i p hp=>?_⟩
 have at_:∀ {l:List (List Key × V)}{m:List (List Key × Addr × Value)}{j:Nat}{q:List Key × V},KT H l m->l[j]? = some q->∃ x,m[j]? = some x/\H x.2.1=some (.tup (q.1.map kV)):=by
  intro l m j q t
  induction t generalizing j with
  | nil=>intro z;simp at z
  | @cons a b as bs hq _ ih =>
   intro z
   cases j with
   | zero =>
    have:a=q:=by simpa using z
    subst this
    exact ⟨b,rfl,hq.2.1⟩
   | succ j=>exact ih (by simpa using z)
 obtain ⟨x,hx,hH⟩:=at_ r hp
 have:es[i]? = some (entryOfKey (tupleKind (Zbo X.prog X.w)) x):=by rw [<- Zse,h4,Zqy,hx];rfl
 exact ⟨x.2.1,_,_,this,hH⟩
end
section
variable {X:Cx}{pins:List (Addr × Obj)}{σ:St}{H:Hp}{s:Shared}
theorem Zkv.fl {b:Addr} (h:Zkv X pins H b):Zmp X pins H b:=⟨h.1,h.2.1,h.2.2.1,h.2.2.2.1.imp id fun z=>by
 cases e:X.s₀.heap.get? b with
 | none=>rfl
 | some o=>exact absurd (Heap.lt_size e) (Nat.not_lt.mpr z),h.2.2.2.2.1,h.2.2.2.2.2⟩
end
noncomputable def Itdn (hi:Int) (n:Nat):It:=⟨fun i _=>i<n,fun i H x H'=>H'=H/\x=.int (hi - i),fun i _=>n<=i⟩
theorem ZkG {P:Program}{w:World}{K:ZpF}{tg:Expr} (it:Addr) (hi:Int) (n:Nat):Turn P w K tg (Itdn hi n) [it] it (fun i h=>IsRangeIter h it (hi+(i:Nat) * (-1)) ((n:Int) - (i:Nat)) (-1)) where
 mem:=by simp
 obj:=fun i h st b hb=>by
  have e:b=it:=by simpa using hb
  subst e
  exact ⟨_,st,fun v z=>by
   have z':Data.fields _=Data.cell v:=z
   cases z'⟩
 keep:=fun i h h' st k=>k it (by simp) _ st
 item:=by
  intro X hP hw hK hc i pins s σ H E I hf st hg
  subst hP hw hK
  obtain ⟨f0,f1,f2,f3,f4,f5⟩:=hf it (by simp)
  have W:=Walks.range (prog:=X.prog) (w:=X.w) (I.ok.hd hc) it hi (-1) n
  refine W.item i s _ _ hg st fun v h' tk hv st' kk=>?_
  obtain ⟨t,rfl⟩:=hv
  have I1:Inv X pins σ H { s with heap:=h',toks:=tk }:=I.turned (fun b o hb e=>kk b o (by simpa using hb) e) f0 f1 f3 f4 f5
  refine ⟨_,rfl,Zm4 (s:={ s with heap:=h',toks:=tk }) (n:="range_iterator") st' rfl rfl (by decide) ⟨.int (hi - i),H,I1,⟨t,?_⟩,⟨rfl,rfl⟩,st',fun b hb=>(hf b hb).1⟩⟩
  congr 1
  omega
 done:=by
  intro X hP hw hK hc i pins s σ H E I hf st hg
  subst hP hw hK
  obtain ⟨f0,f1,f2,f3,f4,f5⟩:=hf it (by simp)
  exact wpAny_pyNext_range_end (I.ok.hd hc) st (by have:n<=i:=hg;omega) fun h' eb=>⟨rfl,I.turned (t':=s.toks) (fun b o hb e=>eb b o hb e) f0 f1 f3 f4 f5⟩
 self:=fun _ _ _ _ _ st h=>wpAny_pyIter_rangeiter st h
theorem ZlP {a:Int} (h1 : -(2 ^ 63)<=a) (h2:a<2 ^ 63):Builtin.Range.rangeFitsLong a=true:=by
 unfold Builtin.Range.rangeFitsLong
 simp
 omega
theorem Zkb {a b:Int} (h1 : -(2 ^ 62)<=a) (h2:a<2 ^ 62) (h3 : -(2 ^ 62)<=b) (h4:b<2 ^ 62):Builtin.Range.small a b (-1)=true:=by
 unfold Builtin.Range.small
 rw [Zp9,ZlP (by omega) (by omega),ZlP (by omega) (by omega),ZlP (by decide) (by decide),ZlP (a:=((a - b).toNat:Int)) (by omega) (by omega),if_neg (by decide),ZlP (a:=b+(-1+1)) (by omega) (by omega)]
 simp
section
variable {X:Cx}{tg:Expr}
noncomputable def Zm1 (ta:TA):TI:=fun σ H R=>ta σ H fun vs H1=>∃ i j:Int,vs=[.int i,.int j,.int (-1)]/\(-(2 ^ 62)<=i/\i<2 ^ 62 /\ -(2 ^ 62)<=j/\j<2 ^ 62)/\R (Itdn i (i - j).toNat) H1
theorem Zh2 {a b c:Expr}{ta:TA}{p pos:Pos} (hg:Gl X "range") (hm:X.mg "range" = none) (ha:PA X [a,b,c] ta) (hs:starEach [a,b,c] X.env=[(false,eval a X.env),(false,eval b X.env),(false,eval c X.env)]:=by rfl) (hs2:starEach [b,c] X.env=[(false,eval b X.env),(false,eval c X.env)]:=by rfl) :
  PI X tg (.Call (.Name "range" p) [a,b,c] [] pos) (Zm1 ta):=by
 intro pins s σ H R I h
 refine Call_ (ZgL I hg hm boot_range (PyProof.Rows.callWith_type1 (thn (ha pos pins s σ H _ I h) fun us s1 ⟨vs,H1,I1,r1,q1⟩=>?_) (by rw [hs,hs2]) (by rw [hs2];rfl)))
 obtain ⟨lo,hi,e,⟨q1,q2,q3,q4⟩,q⟩:=q1
 subst e
 cases r1 with
 | cons r rr =>
 cases rr with
 | cons r' rr =>
 cases rr with
 | cons r'' rr =>
 cases rr
 obtain ⟨t,rfl⟩:=r
 obtain ⟨u,rfl⟩:=r'
 obtain ⟨v,rfl⟩:=r''
 refine call_range_3 (by decide) ?_ (.inl (by unfold Builtin.divisionGoesByPylong;simp;intro z;exact absurd z (by decide)))
 refine wpAny_pyIter_range (IsRange.new ..) (Zkb q1 q2 q3 q4) ?_
 have I2:Inv X pins σ H1 { s1 with heap:=s1.heap.push { cls:=.type "range",data:=.fields #[.int lo t,.int hi u,.int (-1) v] },toks:=s1.toks }:=I1.kept fun b o e=>Heap.get?_push_of_some _ e
 refine ⟨(s1.heap.push { cls:=.type "range",data:=.fields #[.int lo t,.int hi u,.int (-1) v] }).objs.size,[(s1.heap.push { cls:=.type "range",data:=.fields #[.int lo t,.int hi u,.int (-1) v] }).objs.size],_,_,H1,rfl,
  I2.kept (t':=s1.toks) fun b o e=>Heap.get?_push_of_some _ e,ZkG _ lo (lo - hi).toNat,?_,fun b hb=>?_,q⟩
 ·show IsRangeIter _ _ (lo+((0:Nat):Int) * (-1)) ((((lo - hi).toNat:Nat):Int) - ((0:Nat):Int)) (-1)
  rw [Zp9,show lo+((0:Nat):Int) * (-1)=lo by omega,show ((((lo - hi).toNat:Nat):Int) - ((0:Nat):Int))=((lo - hi).toNat:Int) by omega]
  exact Heap.get?_push_size _ rfl
 ·have e:b=(s1.heap.push { cls:=.type "range",data:=.fields #[.int lo t,.int hi u,.int (-1) v] }).objs.size:=by simpa using hb
  subst e
  exact I2.fpOk (ZrN _) (I2.hok.fresh (ZrN _))
end
end L2
set_option maxHeartbeats 4000000
namespace RR
open PySem
section
variable {prog:Program}{w:World}{A:Around}{E:Value->Shared->Prop}{s:Shared}
end
end RR
namespace L2
open PySem PySem.Spec PyProof.Rows
section
variable {X:Cx}{tg:Expr}
end
section
variable {K:ZpF}{ta:TA}{g:TG}{tb:TS}{D:Ends}{σ:St}{H:Hp}
theorem ZkN:ZeN (Zm1 ta) g tb D σ H=ta σ H (fun vs H1=>∃ i j:Int,vs=[.int i,.int j,.int (-1)]/\(-(2 ^ 62)<=i/\i<2 ^ 62 /\ -(2 ^ 62)<=j/\j<2 ^ 62)/\ZcJ (Itdn i (i - j).toNat) g tb D σ H1):=rfl
theorem ZlM {hi:Int}{n:Nat} (Pv:Nat->St->Hp->Prop) (h0:Pv 0 σ H) (hs:∀ (i:Nat) σ H,i<n->Pv i σ H->g (.int (hi - i)) σ H fun σ2 H2=>tb { D with nx:=Pv (i+1),ct:=Pv (i+1),bk:=D.nx } σ2 H2) (hd:∀ σ H,Pv n σ H->D.nx σ H):ZcJ (Itdn hi n) g tb D σ H:=by
 refine ⟨fun i m σ H=>i+m=n/\Pv i σ H,⟨n,by omega,h0⟩,fun i m σ H ⟨hm,hp⟩=>?_⟩
 by_cases hi':i<n
 ·refine .inr ⟨hi',Pv (i+1),fun σ' H' h=>⟨m - 1,by omega,by omega,h⟩,fun x H' ⟨e1,e2⟩=>?_⟩
  subst e1 e2
  exact hs i σ _ hi' hp
 ·have:i=n:=by omega
  subst this
  exact .inl ⟨ZrN _,hd σ H hp⟩
end
noncomputable def Znj:R2:=fun x y H Q=>match x,y with
 | .ref l,.int k=>∃ xs,H l=some (.lst xs) /\ -(2 ^ 63)<=k/\k<2 ^ 63/\xs.length * k.toNat<=sizeLine/\∀ p H',New H p (.lst (Zqk k.toNat xs).flatten) H'->Q (.ref p) H'
 | _,_=>False
theorem ZnB {X:Cx}:OpR X (binaryOp .Mult) Znj:=op_rep.imp fun x y H Q h=>by
  cases x <;> cases y <;> first
    | exact False.elim h
    | (obtain ⟨xs,h1,h2,h3,h4,q⟩:=h
       exact ⟨_,_,xs,rfl,rfl,h1,h2,h3,h4,fun p hp=>q p _ ⟨hp,rfl⟩⟩)
theorem Zk4 (v:V) (n:Nat):(Zqk n [v]).flatten=Zqk n v:=by
 induction n with
 | zero=>rfl
 | succ n ih=>rw [ZqS,Zrj,ih,ZqS];rfl
end L2
set_option maxHeartbeats 4000000
namespace RV
open PySem
section
variable {prog:Program}{w:World}{A:Around}{E:Value->Shared->Prop}{s:Shared}
end
end RV
namespace L2
open PySem PySem.Spec PyProof.Rows
end L2
set_option maxHeartbeats 4000000
namespace L2
open PySem PySem.Spec PyProof.Rows PySem.W
end L2
set_option maxRecDepth 20000
namespace L2
open PySem PySem.Spec PyProof.Rows
variable {X:Cx}
theorem Zlg {pins:List (Addr × Obj)}{σ:St}{H:Hp}{s:Shared}{A:Around}{p q:Addr}{x y:MF.Pr} (I:Inv X pins σ H s) (hu:A.units+2<cLine)
  (h1:H p=some (.tup [.int x.1,.int x.2])) (h2:H q=some (.tup [.int y.1,.int y.2])):SeqAt.EqAt A s (.ref p) (.ref q) (decide (x=y)):=by
 obtain ⟨x1,x2⟩:=x
 obtain ⟨y1,y2⟩:=y
 by_cases e:p=q
 ·subst e
  rw [h1] at h2
  have:(x1,x2)=(y1,y2):=by
   have:=Option.some.inj h2
   simp only [HO.tup.injEq,List.cons.injEq,V.int.injEq,and_true] at this
   rw [this.1,this.2]
  rw [decide_eq_true this]
  exact SeqAt.EqAt.same _
 ·obtain ⟨its,r1,p1,_⟩:=I.tuple (show SqT X.K H p [.int x1,.int x2] from .of h1)
  obtain ⟨its2,r2,p2,_⟩:=I.tuple (show SqT X.K H q [.int y1,.int y2] from .of h2)
  have l1:its.toArray.size=2:=by rw [Zqu];exact r1.length.symm
  have l2:its2.toArray.size=2:=by rw [Zqu];exact r2.length.symm
  have z:decide ((x1,x2)=(y1,y2))=((Zqq (min its.toArray.size its2.toArray.size)).all (fun i=>eqV (([.int x1,.int x2]:List V).getD i .non) (([.int y1,.int y2]:List V).getD i .non)) && its.toArray.size == its2.toArray.size):=by
   rw [l1,l2]
   by_cases a:x1=y1 <;> by_cases b:x2=y2 <;> simp [a,b,eqV,Zqq,Zqq.loop]
  rw [z]
  exact SeqAt.EqAt.of_refs e (SeqAt.RcAt.tuples p1 p2 (by omega) (Zb2 r1 r2 rfl rfl _ _))
noncomputable def eqP (H:Hp) (q:MF.Pr) (v:Value):Bool:=match v with
 | .ref a=>match H a with
  | some (.tup [.int i,.int j])=>decide ((i,j)=q)
  | _=>false
 | _=>false
theorem ZlR {H:Hp}{q:MF.Pr}{e:En} (h:H e.1=some (.tup [.int e.2.1,.int e.2.2])):eqP H q (.ref e.1)=decide (e.2=q):=by
 unfold eqP
 simp only [h]
structure PL (H:Hp) (p:Addr) (es:List En):Prop where
 lst:H p=some (.lst (es.map fun e=>V.ref e.1))
 tup:∀ e∈es,H e.1=some (.tup [.int e.2.1,.int e.2.2])
theorem PL.same {H H':Hp}{p:Addr}{es:List En} (h:PL H p es) (s:ZaZ H H'):PL H' p es:=⟨s _ _ h.lst,fun e he=>s _ _ (h.tup e he)⟩
theorem PL.un {H H':Hp}{p pl kl:Addr}{es:List En}{xs:List V}{kv:List (List Key × V)} (h:PL H p es) (hp:H pl=some (.lst xs)) (hk:H kl=some (.dT kv)) (n:p≠pl) (u:Un2 pl kl H H'):PL H' p es :=
 ⟨u _ _ n (Zbv h.lst hk (fun z=>nomatch z)) h.lst,fun e he=>u _ _ (Zbv (h.tup e he) hp (fun z=>nomatch z)) (Zbv (h.tup e he) hk (fun z=>nomatch z)) (h.tup e he)⟩
theorem PL.put {H:Hp}{p tp:Addr}{es:List En}{q:MF.Pr} (h:PL H p es) (ht:H tp=some (.tup [.int q.1,.int q.2])):PL (upd H p (.lst ((es.map fun e=>V.ref e.1) ++ [.ref tp]))) p (es ++ [(tp,q)]):=by
 have nt:∀ {b:Addr}{ys:List V},H b=some (.tup ys)->b≠p:=fun e=>Zbv e h.lst (fun z=>nomatch z)
 refine ⟨by rw [Zal,Zqo];rfl,fun e he=>?_⟩
 rcases Zqp.mp he with he | he
 ·rw [Zak (nt (h.tup e he))];exact h.tup e he
 ·rw [Zql] at he
  subst he
  rw [Zak (nt ht)];exact ht
theorem ZkC:∀ {es:List En}{its:List Value},Vals (es.map fun e=>V.ref e.1) its->its=es.map fun e=>Value.ref e.1
 | [],_,.nil=>rfl
 | e :: r,_,.cons h t=>by
  cases h
  rw [ZkC t]
  rfl
theorem Zmj {H:Hp}{q:MF.Pr}:∀ {es:List En},(∀ e∈es,H e.1=some (.tup [.int e.2.1,.int e.2.2]))->((es.map fun e=>Value.ref e.1).any (eqP H q))=decide (q∈Zav es)
 | [],_=>by simp
 | e :: r,h=>by
  rw [ZqB,Zq8,Zmj fun e' he=>h e' (ZqI _ he),ZlR (h e (ZqF ..))]
  by_cases a:e.2=q
  ·rw [decide_eq_true a,Bool.true_or,decide_eq_true]
   exact a ▸ ZqF ..
  ·rw [decide_eq_false a,Zsu,decide_eq_decide]
   show _ ↔ q∈e.2 :: Zav r
   rw [Zqt]
   exact ⟨.inr,fun z=>z.resolve_left fun w=>a w.symm⟩
end L2
set_option maxRecDepth 20000
namespace L2
open PySem PySem.Spec PyProof.Rows
variable {X:Cx}
structure PN (H:Hp) (p:Addr) (n:Nat) (es:List En):Prop where
 lst:H p=some (.lst (Zqk n V.non ++ es.map fun e=>V.ref e.1))
 tup:∀ e∈es,H e.1=some (.tup [.int e.2.1,.int e.2.2])
theorem PN.same {H H':Hp}{p:Addr}{n:Nat}{es:List En} (h:PN H p n es) (s:ZaZ H H'):PN H' p n es:=⟨s _ _ h.lst,fun e he=>s _ _ (h.tup e he)⟩
theorem PN.un {H H':Hp}{p pl kl:Addr}{n:Nat}{es:List En}{xs:List V}{kv:List (List Key × V)} (h:PN H p n es) (hp:H pl=some (.lst xs)) (hk:H kl=some (.dT kv)) (ne:p≠pl) (u:Un2 pl kl H H'):PN H' p n es :=
 ⟨u _ _ ne (Zbv h.lst hk (fun z=>nomatch z)) h.lst,fun e he=>u _ _ (Zbv (h.tup e he) hp (fun z=>nomatch z)) (Zbv (h.tup e he) hk (fun z=>nomatch z)) (h.tup e he)⟩
theorem PN.put {H:Hp}{p tp:Addr}{n:Nat}{es:List En}{q:MF.Pr} (h:PN H p n es) (ht:H tp=some (.tup [.int q.1,.int q.2])):PN (upd H p (.lst ((Zqk n V.non ++ es.map fun e=>V.ref e.1) ++ [.ref tp]))) p n (es ++ [(tp,q)]):=by
 have nt:∀ {b:Addr}{ys:List V},H b=some (.tup ys)->b≠p:=fun e=>Zbv e h.lst (fun z=>nomatch z)
 refine ⟨by rw [Zal,Zqo,ZqE];rfl,fun e he=>?_⟩
 rcases Zqp.mp he with he | he
 ·rw [Zak (nt (h.tup e he))];exact h.tup e he
 ·rw [Zql] at he
  subst he
  rw [Zak (nt ht)];exact ht
theorem ZiF:∀ {n:Nat}{es:List En}{its:List Value},Vals (Zqk n V.non ++ es.map fun e=>V.ref e.1) its->its=Zqk n Value.none ++ es.map fun e=>Value.ref e.1
 | 0,_,_,h=>ZkC h
 | n+1,es,_,.cons h t=>by
  cases h
  rw [ZiF t]
  rfl
theorem Zhz {H:Hp}{q:MF.Pr}:eqP H q .none=false:=rfl
theorem Zpw {H:Hp}{q:MF.Pr}{n:Nat}{es:List En} (h:∀ e∈es,H e.1=some (.tup [.int e.2.1,.int e.2.2])):((Zqk n Value.none ++ es.map fun e=>Value.ref e.1).any (eqP H q))=decide (q∈Zav es):=by
 rw [List.any_append,Zmj h]
 have:(Zqk n Value.none).any (eqP H q)=false:=by
  rw [List.any_eq_false]
  intro x hx
  rw [(List.mem_replicate.mp hx).2,Zhz]
  simp
 rw [this,Zsu]
theorem Zls {pins:List (Addr × Obj)}{σ:St}{H:Hp}{s:Shared}{A:Around}{t:Addr}{q:MF.Pr}{n:Nat}{es:List En} (I:Inv X pins σ H s) (hu:A.units+2<cLine) (ht:H t=some (.tup [.int q.1,.int q.2]))
  (h:∀ e∈es,H e.1=some (.tup [.int e.2.1,.int e.2.2])):∀ y,y∈(Zqk n Value.none ++ es.map fun e=>Value.ref e.1).toArray->SeqAt.EqAt A s y (.ref t) (eqP H q y):=by
 intro y hy
 have hy':y∈Zqk n Value.none ++ es.map fun e=>Value.ref e.1:=by simpa using hy
 rcases Zqp.mp hy' with hy' | hy'
 ·rw [(List.mem_replicate.mp hy').2,Zhz]
  obtain ⟨its,r1,p1,_⟩:=I.tuple (show SqT X.K H t _ from .of ht)
  exact SeqAt.EqAt.none_tuple p1 (by omega)
 ·obtain ⟨e,he,rfl⟩:=Zqr.mp hy'
  rw [ZlR (h e he)]
  exact Zlg I hu (h e he) ht
noncomputable def cInN (_:ZpF) (neg:Bool):R2:=fun x y H Q=>match x,y with
 | .ref t,.ref p=>∃ (n:Nat) (es:List En) (q:MF.Pr),H t=some (.tup [.int q.1,.int q.2])/\PN H p n es/\Q (.bl (if neg then !decide (q∈Zav es) else decide (q∈Zav es))) H
 | _,_=>False
theorem ZmN (hu:X.A.units+8<cLine):OpR X (compareOp .NotIn) (cInN X.K true):=by
 intro pins s σ H x y v u Q I rx ry h
 have hu':X.A.in1.units+2<cLine:=by have e:X.A.in1.units=X.A.units+1:=rfl;omega
 match x,y,h with
 | .ref t,.ref p,⟨n,es,q,h1,h2,k⟩ =>
  cases rx;cases ry
  obtain ⟨its,r,pl,hz⟩:=I.list (show SqL X.K H p _ from .of h2.lst)
  have e:=ZiF r
  subst e
  refine SeqAt.notIn_listAt (eqP H q) pl.isList (Zls I hu' h1 h2.tup) ⟨.bl _,H,I,rfl,?_⟩
  rw [show (Zqk n Value.none ++ es.map fun e=>Value.ref e.1).toArray.any (eqP H q)=(Zqk n Value.none ++ es.map fun e=>Value.ref e.1).any (eqP H q) from List.any_toArray ..,Zpw h2.tup]
  exact k
noncomputable def ZiU:V->List V->Hp->VK->Prop:=fun x vs H Q=>match x,vs with
 | .ref l,[.ref t]=>∃ (n:Nat) (es:List En) (q:MF.Pr) (j:Nat),PN H l n es/\H t=some (.tup [.int q.1,.int q.2])/\(Zav es)[j]? = some q/\(∀ i,i<j->(Zav es)[i]? ≠ some q)/\Q (.int (n+j:Nat)) H
 | _,_=>False
theorem Zlp (hu:X.A.units+8<cLine):MtR X "list.index" ZiU:=by
 intro pins s σ H x vs v us Q I rx rv h
 have hu':X.A.in1.units+2<cLine:=by have e:X.A.in1.units=X.A.units+1:=rfl;omega
 match x,vs,h with
 | .ref l,[.ref t],⟨m,es,q,j,h1,h2,h3,h4,k⟩ =>
  cases rx
  obtain ⟨u,rfl,ru⟩:=Zgt rv
  cases ru
  obtain ⟨z,its,n,r,hl,e⟩:=I.lstM h1.lst
  have e':=ZiF r
  subst e'
  have hj:j<es.length:=by
   rcases ZrO j es.length with w | w
   ·exact w
   ·rw [ZqQ (by rw [Zqi];exact w)] at h3;cases h3
  have sz:(Zqk m Value.none ++ es.map fun e=>Value.ref e.1).toArray.size=m+es.length:=by simp
  have at_:∀ i (hm:i<(Zqk m Value.none ++ es.map fun e=>Value.ref e.1).toArray.size),eqP H q (Zqk m Value.none ++ es.map fun e=>Value.ref e.1).toArray[i]=decide (m<=i/\(Zav es)[i - m]? = some q):=by
   intro i hm
   have hm':i<m+es.length:=by rw [sz] at hm;exact hm
   by_cases hi:i<m
   ·have e1:(Zqk m Value.none ++ es.map fun e=>Value.ref e.1).toArray[i]=.none:=by
     rw [List.getElem_toArray,List.getElem_append_left (by rw [Zqv];exact hi),List.getElem_replicate]
    rw [e1,Zhz,decide_eq_false (by omega)]
   ·have hi':i - m<es.length:=by omega
    have e1:(Zqk m Value.none ++ es.map fun e=>Value.ref e.1).toArray[i]=.ref (es[i - m]).1:=by
     rw [List.getElem_toArray,List.getElem_append_right (by rw [Zqv];omega)]
     simp
    rw [e1,ZlR (h1.tup _ (ZqU hi')),decide_eq_decide,Zqy,Zqn hi']
    simp
    exact fun _=>by omega
  refine call_meets Zqf ⟨_,e,rfl⟩ PySem.F.entry_list_index (PySem.F.args_list_index_2 _ _)
   (SeqAt.list_indexAt l _ n none #[] (.ref t) (eqP H q) (m+j) (by rw [sz];omega) ?_ ?_ ?_) ⟨e,Zls I hu' h2 h1.tup,⟨.int (m+j:Nat),H,I.tok _,⟨_,rfl⟩,k⟩⟩
  ·rw [Zqj,Zqv,Zqi] at z
   have:sizeLine<2 ^ 62:=by decide
   omega
  ·rw [at_];exact decide_eq_true ⟨by omega,by rw [show m+j - m=j by omega];exact h3⟩
  ·intro i hi hlt
   rw [at_];exact decide_eq_false fun ⟨a,b⟩=>h4 (i - m) (by omega) b
end L2
set_option maxHeartbeats 4000000
namespace DT
open PySem
end DT
namespace L2
open PySem PySem.Spec PyProof.Rows
theorem ZeZ {α β:Type}{F:α->β->Prop}:∀ {l:List α}{m:List β},Paired F l m->∀ {i:Nat}{q:β},m[i]? = some q->∃ p,l[i]? = some p/\F p q
 | _,_,.nil,i,q,h=>by simp at h
 | _,_,.cons h t,0,q,e=>by
  rw [Zrm] at e
  cases e
  exact ⟨_,rfl,h⟩
 | _,_,.cons h t,i+1,q,e=>by
  rw [Zq4] at e
  obtain ⟨p,a,b⟩:=ZeZ t e
  exact ⟨p,by rw [Zq4];exact a,b⟩
noncomputable def KeysAt (H:Hp) (kvs:List (List Key × V)) (bs:List Addr):Prop:=bs.length=kvs.length/\∀ (i:Nat) (p:List Key × V),kvs[i]? = some p->∃ b,bs[i]? = some b/\H b=some (.tup (p.1.map kV))
noncomputable def cListT (_:ZpF):List V->Hp->VK->Prop:=fun vs H Q=>match vs with
 | [.ref p]=>∃ kvs,Rd H p (.dT kvs)/\∀ bs l H',KeysAt H kvs bs->New H l (.lst (bs.map V.ref)) H'->Q (.ref l) H'
 | _=>False
noncomputable def Zmd (_:ZpF):List V->Hp->VK->Prop:=fun vs H Q=>match vs with
 | [.ref p]=>∃ kvs,Rd H p (.dK kvs)/\∀ l H',New H l (.lst (kvs.map fun kv=>kV kv.1)) H'->Q (.ref l) H'
 | _=>False
theorem is_kV {P:Program}{w:World}{k:Key}{u:Value} (r:(Zbo P w).is k u=true):Zbr (kV k) u:=by
 rcases Zbp r with ⟨i,t,rfl,rfl⟩ | ⟨x,t,rfl,rfl⟩
 ·exact ⟨t,rfl⟩
 ·exact ⟨t,rfl⟩
theorem Zpn {X:Cx} (hc:X.calm=true):Zc9 X (.type "list") (Zmd X.K):=by
 intro pins s σ H xs us Q I r h
 match xs,h with
 | [.ref p],h =>
  obtain ⟨kvs,e,q⟩:=h
  obtain ⟨u1,rfl,e1⟩:=Zgt r
  cases e1
  obtain ⟨z,y,vs,rel,dd⟩:=ZhA I.hok e
  obtain ⟨ep,hat⟩:=dd.dictAt
  have hlen:=rel.length
  refine PySem.W.kdl_call (PySem.W.kdl_dict (knd:=Zbo X.prog X.w) (kvs:=vs) (ep:=ep) y) (I.ok.hd hc) hat (by omega) fun h' tk acc c kp hl ⟨ha,hb⟩=>?_
  have key:∀ n,n<=kvs.length->Vals ((kvs.take n).map fun kv=>kV kv.1) (acc.toList.take n):=by
   intro n
   induction n with
   | zero=>intro _;rw [Zrs,Zrs];exact .nil
   | succ n ih =>
    intro hn
    have han:n<acc.size:=by omega
    obtain ⟨k,x,hk,hv⟩:=hb n acc[n] (Zsl han)
    obtain ⟨p',g1,g2⟩:=ZeZ rel hk
    rw [ZqK,ZqK,show acc.toList[n]? = some acc[n] by simp [han],g1,Zqo]
    exact Paired.snoc (ih (by omega)) (show Zbr (kV p'.1) acc[n] by rw [g2.1];exact is_kV hv)
  have b3:=key kvs.length (ZrN _)
  rw [ZqV,Zrn (by rw [Zsf];omega)] at b3
  have hl':h'.get? s.heap.objs.size=some { cls:=.type "list",dict:=none,data:=.seq acc.toList.toArray c,slots:=#[] }:=by rw [Zsn];exact hl
  exact ⟨.ref s.heap.objs.size,_,I.laid (t':=tk) kp (ZrN _) (show ZbK X.prog X.w _ h' _ (.lst (kvs.map fun kv=>kV kv.1)) from ⟨by rw [Zqi];omega,acc.toList,c,b3,hl'⟩),rfl,q _ _ ⟨I.hok.fresh (ZrN _),rfl⟩⟩
theorem Zkt {σ:St}{sel:List Nat}{rest:St}{H:Hp}{tt:TT}{te:TE}{Q:VK}{lo:Int}{n:Nat} (q:Nat->Bool) (f:Nat->V) (hr:sel.map (fun j=>(σ[j]?).join)=rest) (hz:n<=sizeLine)
  (ht:∀ (i:Nat) H' (Q':Bool->Hp->Prop),i<n->ZaZ H H'->Q' (q i) H'->tt (some (.int (lo+i)) :: rest) H' Q')
  (he:∀ (i:Nat) H' (Q':VK),i<n->q i=true->ZaZ H H'->Q' (f i) H'->te (some (.int (lo+i)) :: rest) H' Q') (hQ:∀ p H',New H p (.lst (((Zqq n).filter q).map f)) H'->Q (.ref p) H'):ZiA (Itr lo n) σ 1 sel (Zan 0) tt te Q H:=by
 intro p hp
 refine ZfE (n:=n) (item:=fun i=>.int (lo+i)) (fun i H2=>H2=upd H p (.lst (((Zqq i).filter q).map f))) hr (by simp) ZkW ?_ ?_ ?_
 ·rintro H2 rfl
  exact ZrN _
 ·rintro i H2 R hi rfl hR
  refine ht i _ _ hi (Zbd hp) ?_
  cases hq:q i with
  | true =>
   rw [if_pos rfl]
   refine he i _ _ hi hq (Zbd hp) ⟨_,Zal,?_,hR _ ?_⟩
   ·rw [Zqi]
    have:=Zrk q (Zqq i)
    rw [Zq3] at this
    omega
   ·rw [Zg6,Zrl,Zrb,Zqo,Zq0,if_pos hq]
    rfl
  | false =>
   rw [if_neg (by simp)]
   refine hR _ ?_
   rw [Zrl,Zrb,Zqo,Zq0,if_neg (by rw [hq];simp),Zry,ZqZ,ZqX]
 ·rintro H2 rfl
  exact hQ p _ ⟨hp,rfl⟩
end L2
namespace MF
section sw
variable (m:Nat) (nd:Nat->Bool)
noncomputable def cnt:Nat->Nat
 | 0=>0
 | i+1=>cnt i+(if nd (m+1+i) then 1 else 0)
noncomputable def bec (k:Nat):Nat:=if k<=m then k else 1+m+cnt m nd (k - m - 1)
noncomputable def mt (t:Int):Int:=2 * (bec m nd (t / 2).toNat:Nat)+t % 2
noncomputable def mp (p:Pr):Pr:=(mt m nd p.1,mt m nd p.2)
variable {m nd}
end sw
noncomputable def mark (L:List Bool) (t:Int):List Bool:=L.set (t / 2).toNat true
noncomputable def ZcH (L:List Bool) (ts:List Int):List Bool:=ts.foldl mark L
noncomputable def look (m:Nat) (P:List Pr) (L:List Bool) (j:Nat):List Bool :=
 if L.getD (m+1+j) false then mark (mark L (P.getD j (0,0)).1) (P.getD j (0,0)).2 else L
noncomputable def down (m:Nat) (P:List Pr) (L:List Bool):Nat->List Bool
 | 0=>L
 | i+1=>look m P (down m P L i) (P.length - 1 - i)
theorem Zey (L:List Bool) (t:Int):(mark L t).length=L.length:=List.length_set ..
theorem ZdE:∀ (ts:List Int) (L:List Bool),(ZcH L ts).length=L.length
 | [],L=>rfl
 | t :: r,L=>(ZdE r (mark L t)).trans (Zey L t)
theorem Zhs (L:List Bool) (t:Int) (k:Nat):(mark L t).getD k false=true ↔ L.getD k false=true\/(k=(t / 2).toNat/\k<L.length):=by
 unfold mark
 rw [Zqs,Zqs,List.getElem?_set]
 by_cases e:(t / 2).toNat=k
 ·rw [if_pos e]
  subst e
  by_cases l:(t / 2).toNat<L.length
  ·rw [if_pos l];simp [l]
  ·rw [if_neg l];simp [l]
 ·rw [if_neg e]
  constructor
  ·exact .inl
  ·rintro (h | ⟨h,_⟩)
   ·exact h
   ·exact absurd h.symm e
theorem Zf6:∀ (ts:List Int) (L:List Bool) (k:Nat),(ZcH L ts).getD k false=true ↔ L.getD k false=true\/((∃ t∈ts,k=(t / 2).toNat)/\k<L.length)
 | [],L,k=>by simp [ZcH]
 | t :: r,L,k=>by
  show (ZcH (mark L t) r).getD k false=true ↔ _
  rw [Zf6 r (mark L t) k,Zhs,Zey]
  simp only [Zqt,exists_eq_or_imp]
  constructor
  ·rintro ((h | ⟨h,l⟩) | ⟨h,l⟩)
   ·exact .inl h
   ·exact .inr ⟨.inl h,l⟩
   ·exact .inr ⟨.inr h,l⟩
  ·rintro (h | ⟨h | h,l⟩)
   ·exact .inl (.inl h)
   ·exact .inl (.inr ⟨h,l⟩)
   ·exact .inr ⟨h,l⟩
noncomputable def Tis (m:Nat) (P:List Pr) (ts:List Int):Prop:=∀ t∈ts,0<=t/\t<2 * ((m:Int)+1+P.length)
end MF
namespace MF
section rs
variable (st:Nat->Bool)
noncomputable def Zi5 (m:Nat) (P:List Pr) (L:List Bool) (j:Nat):List Bool :=
 if L.getD (m+1+j) false && !(st (m+1+j)) then mark (mark L (P.getD j (0,0)).1) (P.getD j (0,0)).2 else L
noncomputable def ZdW (m:Nat) (P:List Pr) (L:List Bool):Nat->List Bool
 | 0=>L
 | i+1=>Zi5 st m P (ZdW m P L i) (P.length - 1 - i)
noncomputable def Zk7 (m:Nat) (P:List Pr) (ts:List Int):List Bool:=ZdW st m P (ZcH (Zqk (1+m+P.length) false) ts) P.length
noncomputable def Zcl (m:Nat) (P:List Pr) (ts:List Int) (k:Nat):Bool:=(Zk7 st m P ts).getD k false
noncomputable def reached (m:Nat) (P:List Pr) (ts:List Int):List Nat:=(Zqq (1+m+P.length)).filter (Zcl st m P ts)
variable {st}
theorem Zlu (m:Nat) (P:List Pr) (L:List Bool) (j:Nat):(Zi5 st m P L j).length=L.length:=by
 unfold Zi5;split
 ·rw [Zey,Zey]
 ·rfl
theorem ZeE (m:Nat) (P:List Pr) (L:List Bool):∀ i,(ZdW st m P L i).length=L.length
 | 0=>rfl
 | i+1=>by unfold ZdW;rw [Zlu,ZeE m P L i]
theorem Zke (m:Nat) (P:List Pr) (ts:List Int):(Zk7 st m P ts).length=1+m+P.length:=by
 unfold Zk7;rw [ZeE,ZdE,Zqv]
theorem Zez (m:Nat) (P:List Pr) (L:List Bool) (j k:Nat):(Zi5 st m P L j).getD k false=true ↔
  L.getD k false=true\/((L.getD (m+1+j) false=true/\st (m+1+j)=false)/\(k=((P.getD j (0,0)).1 / 2).toNat\/k=((P.getD j (0,0)).2 / 2).toNat)/\k<L.length):=by
 unfold Zi5
 split
 ·rename_i h
  have h':L.getD (m+1+j) false=true/\st (m+1+j)=false:=by simpa using h
  rw [Zhs,Zhs,Zey]
  constructor
  ·rintro ((a | ⟨a,b⟩) | ⟨a,b⟩)
   ·exact .inl a
   ·exact .inr ⟨h',.inl a,b⟩
   ·exact .inr ⟨h',.inr a,b⟩
  ·rintro (a | ⟨_,a | a,b⟩)
   ·exact .inl (.inl a)
   ·exact .inl (.inr ⟨a,b⟩)
   ·exact .inr ⟨a,b⟩
 ·rename_i h
  constructor
  ·exact .inl
  ·rintro (a | ⟨a,_⟩)
   ·exact a
   ·exact absurd (by simpa using a) h
theorem Ze1 (m:Nat) (P:List Pr) (L:List Bool) (k:Nat) {i:Nat}:∀ {i'},i<=i'->(ZdW st m P L i).getD k false=true->(ZdW st m P L i').getD k false=true
  | 0, h, a => by have : i = 0 := by omega
                  subst this;exact a
  | j+1,h,a=>by
    rcases ZrO i (j+1) with l | l
    · exact (Zez ..).mpr (.inl (Ze1 m P L k (i':=j) (by omega) a))
    · have:i=j+1:=by omega
      subst this;exact a
theorem ZgP {m:Nat}{P:List Pr} (ho:Ok m P) (L:List Bool) {j:Nat} (hj:j<P.length):∀ {i},P.length - j<=i->i<=P.length->(ZdW st m P L i).getD (m+1+j) false=true->(ZdW st m P L (P.length - 1 - j)).getD (m+1+j) false=true
 | 0,h,_,a=>by omega
 | i+1,h,hi,a=>by
  have hp:P[P.length - 1 - i]? = some P[P.length - 1 - i]:=Zqn (by omega)
  have o:=ho _ _ hp
  have e:P.getD (P.length - 1 - i) (0,0)=P[P.length - 1 - i]:=by rw [Zqs,hp];rfl
  rcases (Zez ..).mp a with a | ⟨a,b,_⟩
  ·rcases ZrO i (P.length - j) with l | l
   ·have:i=P.length - 1 - j:=by omega
    subst this;exact a
   ·exact ZgP ho L hj l (by omega) a
  ·rw [e] at b
   omega
theorem ZmD {m:Nat}{P:List Pr}{ts:List Int}{t:Int} (ht:t∈ts) (h:0<=t/\t<2 * ((m:Int)+1+P.length)):Zcl st m P ts (t / 2).toNat=true :=
 Ze1 m P _ _ (i:=0) (ZrS _) ((Zf6 ..).mpr (.inr ⟨⟨t,ht,rfl⟩,by rw [Zqv];omega⟩))
theorem get_lt {α:Type}{P:List α}{j:Nat}{p:α} (hp:P[j]? = some p):j<P.length:=by
 rcases ZrO j P.length with z | z
 ·exact z
 ·rw [ZqQ z] at hp;cases hp
theorem Zk6 {m:Nat}{P:List Pr} (ho:Ok m P) (ts:List Int) {j:Nat}{p:Pr} (hp:P[j]? = some p) (hn:Zcl st m P ts (m+1+j)=true) (hs:st (m+1+j)=false):Zcl st m P ts (p.1 / 2).toNat=true/\Zcl st m P ts (p.2 / 2).toNat=true:=by
 have hlt:=get_lt hp
 have a:=ZgP ho _ hlt (i:=P.length) (by omega) (ZrN _) hn
 have o:=ho _ _ hp
 have e:P.getD (P.length - 1 - (P.length - 1 - j)) (0,0)=p:=by rw [show P.length - 1 - (P.length - 1 - j)=j by omega,Zqs,hp];rfl
 have key:∀ k,(k=(p.1 / 2).toNat\/k=(p.2 / 2).toNat)->Zcl st m P ts k=true:=by
  intro k hk
  refine Ze1 m P _ _ (i:=P.length - 1 - j+1) (by omega) ((Zez ..).mpr (.inr ⟨?_,?_,?_⟩))
  ·rw [show P.length - 1 - (P.length - 1 - j)=j by omega];exact ⟨a,hs⟩
  ·rw [e];exact hk
  ·rw [ZeE,ZdE,Zqv];omega
 exact ⟨key _ (.inl rfl),key _ (.inr rfl)⟩
theorem ZfU {m:Nat}{P:List Pr}{ts:List Int} (S:Nat->Prop) (h1:∀ t∈ts,S (t / 2).toNat) (h2:∀ j p,P[j]? = some p->S (m+1+j)->st (m+1+j)=false->S (p.1 / 2).toNat/\S (p.2 / 2).toNat) {k:Nat} (h:Zcl st m P ts k=true):S k:=by
 have key:∀ i,i<=P.length->∀ k,(ZdW st m P (ZcH (Zqk (1+m+P.length) false) ts) i).getD k false=true->S k:=by
  intro i
  induction i with
  | zero =>
   intro _ k a
   rcases (Zf6 ..).mp a with a | ⟨⟨t,ht,rfl⟩,_⟩
   ·rw [Zqs,Zq7] at a
    split at a <;> cases a
   ·exact h1 t ht
  | succ i ih =>
   intro hi k a
   have hp:P[P.length - 1 - i]? = some P[P.length - 1 - i]:=Zqn (by omega)
   have e:P.getD (P.length - 1 - i) (0,0)=P[P.length - 1 - i]:=by rw [Zqs,hp];rfl
   rcases (Zez ..).mp a with a | ⟨⟨a,a'⟩,b,_⟩
   ·exact ih (by omega) k a
   ·rw [e] at b
    have:=h2 _ _ hp (ih (by omega) _ a) a'
    rcases b with rfl | rfl
    ·exact this.1
    ·exact this.2
 exact key P.length (ZrN _) k h
theorem Zk5 {m:Nat}{P:List Pr}{ts:List Int}{k:Nat} (h:1+m+P.length<=k):Zcl st m P ts k=false:=by
 unfold Zcl
 rw [Zqs,ZqQ (by rw [Zke];exact h)]
 rfl
end rs
theorem tie2 (k:Nat):(2 * (k:Int) / 2).toNat=k:=by omega
theorem ZmE {st:Nat->Bool}{m:Nat}{P:List Pr} (ho:Ok m P) {n k:Nat} (h:Zcl st m P [2 * (n:Int)] k=true):k<=n:=by
 refine ZfU (S:=fun k=>k<=n) ?_ ?_ h
 ·intro t ht
  rw [Zql] at ht
  subst ht
  omega
 ·intro j p hp hj _
  have:=ho j p hp
  constructor <;> omega
noncomputable def Zge (m:Nat) (P:List Pr) (n:Nat):List Nat:=reached (fun _=>false) m P [2 * (n:Int)]
theorem Zne {m:Nat}{P:List Pr} (ho:Ok m P) {n:Nat} (hn:n<1+m+P.length):Zge m P n=(Zqq (n+1)).filter (Zcl (fun _=>false) m P [2 * (n:Int)]):=by
 unfold Zge reached
 have key:∀ d,(Zqq (n+1+d)).filter (Zcl (fun _=>false) m P [2 * (n:Int)])=(Zqq (n+1)).filter (Zcl (fun _=>false) m P [2 * (n:Int)]):=by
  intro d
  induction d with
  | zero=>rfl
  | succ d ih =>
   rw [show n+1+(d+1)=n+1+d+1 by omega,Zrl,Zrb,ih]
   have:Zcl (fun _=>false) m P [2 * (n:Int)] (n+1+d)=false:=by
    cases h:Zcl (fun _=>false) m P [2 * (n:Int)] (n+1+d) with
    | false=>rfl
    | true=>have:=ZmE ho h;omega
   rw [Zq0,if_neg (by rw [this];simp),Zry,ZqX]
 have:=key (1+m+P.length - (n+1))
 rw [show n+1+(1+m+P.length - (n+1))=1+m+P.length by omega] at this
 exact this
theorem ZeR {st:Nat->Bool}{m:Nat}{P:List Pr}{n:Nat} (h:n<1+m+P.length):Zcl st m P [2 * (n:Int)] n=true:=by
 have:=ZmD (st:=st) (m:=m) (P:=P) (ts:=[2 * (n:Int)]) (Zql.mpr rfl) (by omega)
 rwa [tie2] at this
structure HungAt (st:Nat->Bool) (m:Nat) (P:List Pr) (n i:Nat) (S:Nat->Prop):Prop where
 self:S n
 low:∀ k,S k->Zcl st m P [2 * (n:Int)] k=true
 clo:∀ j p,P[j]? = some p->m+1+j<=n->n - (m+1+j)<i->S (m+1+j)->st (m+1+j)=false->S (p.1 / 2).toNat/\S (p.2 / 2).toNat
theorem HungAt.new {st:Nat->Bool}{m:Nat}{P:List Pr}{n:Nat}{S:Nat->Prop} (h:∀ k,S k ↔ k=n) (hn:n<1+m+P.length):HungAt st m P n 0 S :=
 ⟨(h n).mpr rfl,fun k hk=>by rw [(h k).mp hk];exact ZeR hn,fun j p _ _ hi=>absurd hi (Zr4 _)⟩
end MF
namespace MF
noncomputable def rising (xs:List Int):Bool:=((Zqq (xs.length - 1)).map fun j=>decide (xs.getD j 0<xs.getD (j+1) 0)).all id
noncomputable def ZlE (xs:List Int) (k:Nat):Bool:=decide ((k:Int)∈xs)
theorem Zei {st:Nat->Bool}{m:Nat}{P:List Pr}{ts:List Int}{j:Nat}:j∈reached st m P ts ↔ Zcl st m P ts j=true:=by
 unfold reached
 rw [ZqP,Zrh]
 constructor
 ·exact fun h=>h.2
 ·intro h
  refine ⟨?_,h⟩
  rcases ZrO j (1+m+P.length) with l | l
  ·exact l
  ·rw [Zk5 l] at h;cases h
noncomputable def ZpA (m:Nat) (P:List Pr) (k:Int) (xs:List Int):Prop:=∀ j,Zcl (ZlE xs) m P [2 * k] j=true->m<j\/(j:Int)∈xs
structure LowC (m:Nat) (P:List Pr) (n:Nat) (xs:List Int):Prop where
 ris:xs.Pairwise (· < ·)
 pos:∀ x∈xs,0<x/\x<n
 hang:∀ x∈xs,Zcl (fun _=>false) m P [2 * (n:Int)] x.toNat=true
 stop:ZpA m P n xs
noncomputable def Zmz (m:Nat) (P:List Pr) (k:Int) (xs:List Int):Bool:=((reached (ZlE xs) m P [2 * k]).map fun j=>decide (m<j) || decide ((j:Int)∈xs)).all id
theorem ZkV (m:Nat) (P:List Pr) (k:Int) (xs:List Int):Zmz m P k xs=true ↔ ZpA m P k xs:=by
 unfold Zmz ZpA
 rw [List.all_map,Zra]
 constructor
 ·intro h j hj
  have:=h j (Zei.mpr hj)
  simpa using this
 ·intro h j hj
  have:=h j (Zei.mp hj)
  simpa using this
structure WalkC (m:Nat) (P:List Pr) (n:Nat) (xs:List Int) (ws:List Nat) (c:Nat):Prop where
 nd:ws.Nodup
 self:n∈ws
 rch:∀ w∈ws,Zcl (ZlE xs) m P [2 * (n:Int)] w=true
 out:∀ w∈ws,(w:Int) ∉ xs
 le:∀ w∈ws,w<=n
 high:∀ (i:Nat) w,i<c->ws[i]? = some w->m<w
 clo:∀ (i:Nat) j p,i<c->ws[i]? = some (m+1+j)->P[j]? = some p->(p.1 / 2∈xs\/(p.1 / 2).toNat∈ws)/\(p.2 / 2∈xs\/(p.2 / 2).toNat∈ws)
theorem WalkC.bad {m:Nat}{P:List Pr}{n:Nat}{xs:List Int}{ws:List Nat}{c w:Nat} (h:WalkC m P n xs ws c) (hw:w∈ws) (hm:w<=m):Zmz m P n xs=false:=by
 cases e:Zmz m P n xs with
 | false=>rfl
 | true =>
  rcases (ZkV ..).mp e w (h.rch w hw) with z | z
  ·omega
  ·exact absurd z (h.out w hw)
end MF
set_option maxHeartbeats 4000000
namespace L2
open PySem PySem.Spec PyProof.Rows
theorem ZmZ (x:Int) (xs:List Int):inV (.int x) (xs.map V.int)=decide (x∈xs):=by
 unfold inV
 rw [Zrz,Zst,ZrA,decide_eq_true_eq]
 constructor
 ·rintro ⟨y,hy,e⟩
  have:y=x:=by
   first
   | (simp only [Function.comp,eqV,decide_eq_true_eq] at e;exact e)
   | (simp only [Function.comp,eqV,decide_eq_true_eq] at e;exact e.symm)
   | (simp [Function.comp,eqV] at e;omega)
  exact this ▸ hy
 ·intro h
  exact ⟨x,h,by simp [Function.comp,eqV]⟩
theorem ZlO (xs:List Int):(xs.map V.int).all ZcO=true:=by
 rw [List.all_map,Zra]
 intro x _
 rfl
theorem PS.nox {X:Cx}{st:Stmt}{t:TS} (h:PS X.nox st t):PS X st t:=fun pins s σ H D I hw =>
 wpAny_mono (h pins s σ H D (I.wish _) hw) (fun _ _ q=>q.unwish) fun _ _ z=>False.elim z
end L2
set_option maxHeartbeats 400000
namespace SS
open PySem PySem.Spec PyProof.Rows
section
variable {prog:Program}{w:World}{A:Around}{E:Value->Shared->Prop}{s:Shared}
theorem ZkZ {h:Heap}{a:Addr}{vs:List Value}{out:Array Value}{n:Nat} (ho:h.get? a=some (seqObj "list" vs.toArray n)):(∃ e,(sortedHeap h a vs out).get? a=some (seqObj "list" out e))/\∀ b o,b≠a->h.get? b=some o->(sortedHeap h a vs out).get? b=some o:=by
 unfold sortedHeap
 have g1:=get?_update_seq ho (fun _=>#[])
 have g2:=Heap.get?_push_of_some (seqObj "list" #[] 0) (Heap.get?_push_of_some (seqObj "tuple" vs.toArray 0) g1)
 exact ⟨⟨_,get?_update_seq g2 (fun _=>out)⟩,fun b o hb e=>(Heap.get?_update_other _ _ (Ne.symm hb)).trans (Heap.get?_push_of_some _ (Heap.get?_push_of_some _ ((Heap.get?_update_other _ _ (Ne.symm hb)).trans e)))⟩
end
end SS
set_option maxHeartbeats 4000000
namespace L2
open PySem PySem.Spec PyProof.Rows
end L2
namespace SR
open PySem PyProof.Rows
structure SX (a₀:Array Keyed) (p:Array (Nat × Nat × Nat)) (st:SortSt):Prop where
 perm:(arrOf st).Perm a₀
 kind:kindOf st=oneType'
 failed:failedOf st=none
 pend:pendingOf st=p
noncomputable def Fr (lo:Nat) (xs ys:Array Keyed):Prop:=∀ i,i<lo->xs[i]? = ys[i]?
noncomputable def So (xs:Array Keyed) (lo hi:Nat):Prop:=∀ i j,lo<=i->i<=j->j<hi->K xs i<=K xs j
theorem Fr.refl (lo:Nat) (xs:Array Keyed):Fr lo xs xs:=fun _ _=>rfl
theorem Fr.trans {lo:Nat}{xs ys zs:Array Keyed} (h:Fr lo xs ys) (g:Fr lo ys zs):Fr lo xs zs:=fun i hi=>(h i hi).trans (g i hi)
theorem Fr.key {lo:Nat}{xs ys:Array Keyed} (h:Fr lo xs ys) {i:Nat} (hi:i<lo):K xs i=K ys i:=K_congr (h i hi)
variable {a₀:Array Keyed}{p:Array (Nat × Nat × Nat)}{st:SortSt}
theorem SX.size (h:SX a₀ p st):(arrOf st).size=a₀.size:=h.perm.size_eq
theorem SX.set (h:SX a₀ p st) {xs:Array Keyed} (hp:xs.Perm (arrOf st)):SX a₀ p (setArr st xs):=⟨hp.trans h.perm,h.kind,h.failed,h.pend⟩
theorem ZjW {xs:Array Keyed} (h0:IntKeys xs) {i:Nat} (hi:i<xs.size):∃ t q,xs[i]? = some (.int (K xs i) t,q):=by
 have e:xs[i]? = some xs[i]:=getElem?_pos _ i hi
 obtain ⟨n,t,hn⟩:=h0 xs[i] (by simp)
 refine ⟨t,xs[i].2,?_⟩
 have e2:xs[i]=(.int n t,xs[i].2):=Prod.ext hn rfl
 unfold K
 rw [e,e2]
 rfl
theorem SX.ints (h:SX a₀ p st) (h0:IntKeys a₀):IntKeys (arrOf st):=fun q hq=>h0 q ((Zso.mp h.perm).mem_iff.mp hq)
section
variable {prog:Program}{w:World}{A:Around}{E:Value->Shared->Prop}{s:Shared}
theorem ltX {i j:Nat}{Q:Option Bool->SortSt->Prop} (hB:SX a₀ p st) (h0:IntKeys a₀) (hi:i<a₀.size) (hj:j<a₀.size)
  (h:Q (some (decide (K (arrOf st) i<K (arrOf st) j))) st):wpS (model prog w) A E s (ltAt' i j) Q st:=by
 obtain ⟨t,p,e1⟩:=ZjW (hB.ints h0) (show i<(arrOf st).size by rw [hB.size];exact hi)
 obtain ⟨u,q,e2⟩:=ZjW (hB.ints h0) (show j<(arrOf st).size by rw [hB.size];exact hj)
 exact wpS_ltAt hB.kind e1 e2 h;skip
theorem insX {lo n ok:Nat}{Q:Bool->SortSt->Prop} (h0:IntKeys a₀) (hn:lo+n<=a₀.size) (hok:ok<=n) (hB:SX a₀ p st) (hs:So (arrOf st) lo (lo+ok))
  (h:∀ st',SX a₀ p st'->Fr lo (arrOf st') (arrOf st)->So (arrOf st') lo (lo+n)->Q true st'):wpS (model prog w) A E s (binarySort' lo n ok) Q st:=by
 rw [binarySort'_eq]
 refine wpS_bind (wpS_mono (wpS_forRange (I:=fun k c st'=>c=(none,())/\SX a₀ p st'/\Fr lo (arrOf st') (arrOf st)/\So (arrOf st') lo (lo+min k n))
  (Q:=fun c st'=>c=(none,())/\SX a₀ p st'/\Fr lo (arrOf st') (arrOf st)/\So (arrOf st') lo (lo+n)) ?hst ?hfi ?hin) ?hpo)
 case hpo =>
  rintro c st' ⟨rfl,hB',hf,hs'⟩
  exact wpS_pure (h st' hB' hf hs')
 case hin =>
  refine ⟨rfl,hB,Fr.refl _ _,fun i j hl hij hj=>?_⟩
  by_cases h1:ok=0
  ·have:i=j:=by omega
   rw [this];exact Zr8 _
  ·exact hs i j hl hij (by omega)
 case hfi =>
  rintro c st' ⟨hc,hB',hf,hs'⟩
  rw [show min (max (max ok 1) n) n=n by omega] at hs'
  exact ⟨hc,hB',hf,hs'⟩
 case hst =>
  rintro k c st' hak hkn ⟨rfl,hB',hf,hs'⟩
  rw [show min k n=k by omega] at hs'
  have hk:lo+k<a₀.size:=by omega
  refine wpS_bind (wpS_mono (wpS_forRange (I:=fun x c st2=>st2=st'/\∃ l r,c=(none,l,r)/\l<=r/\r<=k/\r - l<=k - x /\
    (∀ i,i<l->K (arrOf st') (lo+i)<=K (arrOf st') (lo+k))/\(∀ i,r<=i->i<k->K (arrOf st') (lo+k)<K (arrOf st') (lo+i)))
   (Q:=fun c st2=>st2=st'/\∃ l r,c=(none,l,r)/\l<=k /\
    (∀ i,i<l->K (arrOf st') (lo+i)<=K (arrOf st') (lo+k))/\(∀ i,l<=i->i<k->K (arrOf st') (lo+k)<K (arrOf st') (lo+i))) ?h1 ?h2 ?h3) ?h4)
  case h3=>exact ⟨rfl,0,k,rfl,by omega,by omega,by omega,fun i hi=>by omega,fun i h1 h2=>by omega⟩
  case h2 =>
   rintro c st2 ⟨rfl,l,r,rfl,hlr,hrk,hm,hlo,hhi⟩
   have:l=r:=by omega
   subst this
   exact ⟨rfl,l,l,rfl,hrk,hlo,hhi⟩
  case h1 =>
   rintro x c st2 _ hxk ⟨rfl,l,r,rfl,hlr,hrk,hm,hlo,hhi⟩
   dsimp only
   by_cases hge:l ≥ r
   ·rw [if_pos hge]
    have:l=r:=by omega
    subst this
    exact wpS_pure ⟨rfl,l,l,rfl,hrk,hlo,hhi⟩
   ·rw [if_neg hge]
    refine wpS_bind (ltX hB' h0 hk (by omega) ?_)
    by_cases hless:K (arrOf st2) (lo+k)<K (arrOf st2) (lo+(l+r) / 2)
    ·simp only [hless,decide_true,if_true]
     exact wpS_pure ⟨rfl,l,(l+r) / 2,rfl,by omega,by omega,by omega,hlo,fun i h1 h2=>Int.lt_of_lt_of_le hless (hs' _ _ (by omega) (by omega) (by omega))⟩
    ·simp only [hless,decide_false,Zss,if_false]
     exact wpS_pure ⟨rfl,(l+r) / 2+1,r,rfl,by omega,by omega,by omega,fun i h1=>Zsc (hs' (lo+i) (lo+(l+r) / 2) (by omega) (by omega) (by omega)) (Int.not_lt.mp hless),hhi⟩
  case h4 =>
   rintro c st2 ⟨rfl,l,r,rfl,hlk,hlo,hhi⟩
   show wpS _ _ _ _ (do moveDown' (lo+k) (lo+l);pure (ForInStep.yield (none,()))) _ _
   rw [moveDown'_eq]
   have hks:lo+k<(arrOf st2).size:=by rw [hB'.size];exact hk
   have ed:lo+k - (lo+l)=k - l:=by omega
   rw [ed]
   have hbu:∀ i,K (bubble (arrOf st2) (lo+k) (k - l)) i=if i=lo+l then K (arrOf st2) (lo+k) else if lo+l<i/\i<=lo+k then K (arrOf st2) (i - 1) else K (arrOf st2) i:=fun i=>by
    rw [K_bubble hks (by omega),show lo+k - (k - l)=lo+l by omega]
   refine wpS_bind (wpS_modify (wpS_pure ⟨rfl,hB'.set (bubble_perm _ _ _),fun i hi=>?_,?_⟩))
   ·rw [<- hf i hi]
    show (bubble (arrOf st2) (lo+k) (k - l))[i]? = _
    rw [getElem?_bubble hks _ (by omega),if_neg (by omega),if_neg (by omega)]
   ·rw [show lo+min (k+1) n=lo+k+1 by omega]
    intro i j hl hij hj
    show K (bubble (arrOf st2) (lo+k) (k - l)) i<=K (bubble (arrOf st2) (lo+k) (k - l)) j
    have hlo':∀ i,lo<=i->i<lo+l->K (arrOf st2) i<=K (arrOf st2) (lo+k):=fun i h1 h2=>by
     have:=hlo (i - lo) (by omega)
     rwa [show lo+(i - lo)=i by omega] at this
    have hhi':∀ i,lo+l<=i->i<lo+k->K (arrOf st2) (lo+k)<K (arrOf st2) i:=fun i h1 h2=>by
     have:=hhi (i - lo) (by omega) (by omega)
     rwa [show lo+(i - lo)=i by omega] at this
    rw [hbu,hbu]
    repeat' split
    all_goals first
     | (exfalso;omega)
     | exact Zr8 _
     | exact hlo' _ (by omega) (by omega)
     | exact Zsd (hhi' _ (by omega) (by omega))
     | exact hs' _ _ (by omega) (by omega) (by omega)
end
end SR
namespace SR
open PySem PyProof.Rows
noncomputable def Zpv (lo a nrem:Nat):StateT SortSt Sem (Option (Option Nat) × Nat) :=
 forIn [a:nrem] ((none,a):Option (Option Nat) × Nat) fun _ c=>do
  let y <- ltAt' (lo+c.snd) (lo+c.snd - 1)
  match y with
  | some b=>if b=true then pure (ForInStep.done (none,c.snd)) else pure (ForInStep.yield (none,c.snd+1))
  | _=>pure (ForInStep.done (some none,c.snd))
noncomputable def endL (lo n nrem:Nat):StateT SortSt Sem (Option Nat):=do
 reverseSlice' lo (lo+n)
 let c <- Zpv lo n nrem
 match c.fst with
 | some r=>pure r
 | none=>pure (some c.snd)
noncomputable def dscL (lo n nrem:Nat):StateT SortSt Sem (Option (Option Nat) × Nat × Nat) :=
 forIn [n:nrem] ((none,n,0):Option (Option Nat) × Nat × Nat) fun _ c=>do
  let y <- ltAt' (lo+c.snd.fst) (lo+c.snd.fst - 1)
  match y with
  | some b =>
   if b=true then
    if c.snd.snd > 0 then do
     reverseSlice' (lo+c.snd.fst - (c.snd.snd+1)) (lo+c.snd.fst)
     pure (ForInStep.yield (none,c.snd.fst+1,0))
    else pure (ForInStep.yield (none,c.snd.fst+1,0))
   else do
    let y <- ltAt' (lo+c.snd.fst - 1) (lo+c.snd.fst)
    match y with
    | some b =>
     if b=true then pure (ForInStep.done (none,c.snd.fst,c.snd.snd))
     else pure (ForInStep.yield (none,c.snd.fst+1,c.snd.snd+1))
    | _=>pure (ForInStep.done (some none,c.snd.fst,c.snd.snd))
  | _=>pure (ForInStep.done (some none,c.snd.fst,c.snd.snd))
noncomputable def dsc2 (lo n nrem:Nat):StateT SortSt Sem (Option Nat):=do
 liftM (rule "list.sort.descending-run");let c <- dscL lo (n+1) nrem
 match c.fst with
 | some r=>pure r
 | none =>
  if c.snd.snd > 0 then do
   reverseSlice' (lo+c.snd.fst - (c.snd.snd+1)) (lo+c.snd.fst)
   endL lo c.snd.fst nrem
  else endL lo c.snd.fst nrem
theorem Zoj (lo nrem:Nat):countRun' lo nrem=(do
  let c <- Zpv lo 1 nrem
  match c.fst with
  | some r=>pure r
  | none =>
   if (c.snd == nrem)=true then pure (some c.snd)
   else if c.snd > 1 then do
    let y <- ltAt' lo (lo+c.snd - 1)
    match y with
    | some b=>if b=true then pure (some c.snd) else do
      reverseSlice' lo (lo+c.snd)
      dsc2 lo c.snd nrem
    | _=>pure none
   else dsc2 lo c.snd nrem):=by
 rw [countRun'_eq]
 have key:∀ n:Nat,(do
   liftM (rule "list.sort.descending-run");let c <- dscL lo (n+1) nrem
   match c.fst with
   | some r=>pure r
   | none =>
    if c.snd.snd > 0 then do
     reverseSlice' (lo+c.snd.fst - (c.snd.snd+1)) (lo+c.snd.fst)
     reverseSlice' lo (lo+c.snd.fst)
     let d <- Zpv lo c.snd.fst nrem
     match d.fst with | some r=>pure r | none=>pure (some d.snd)
    else do
     reverseSlice' lo (lo+c.snd.fst)
     let d <- Zpv lo c.snd.fst nrem
     match d.fst with | some r=>pure r | none=>pure (some d.snd):StateT SortSt Sem (Option Nat))=dsc2 lo n nrem:=fun n=>rfl
 refine congrArg (bind (Zpv lo 1 nrem)) (funext fun c=>?_)
 obtain ⟨r,n⟩:=c
 cases r with
 | some r=>rfl
 | none =>
  dsimp only
  split
  ·rfl
  ·split
   ·congr 1
    funext y
    cases y with
    | none=>rfl
    | some b =>
     dsimp only
     split
     ·rfl
     ·congr 1
      funext _
      rw [<- key]
      congr 1;funext _;congr 1;funext c;obtain ⟨r,n,q⟩:=c
      cases r with
      | some r=>rfl
      | none =>
       dsimp only
       split
       ·congr 1;funext _;congr 1;funext _;congr 1;funext d;obtain ⟨r,n⟩:=d;cases r <;> rfl
       ·congr 1;funext _;congr 1;funext d;obtain ⟨r,n⟩:=d;cases r <;> rfl
   ·rw [<- key]
    congr 1;funext _;congr 1;funext c;obtain ⟨r,n,q⟩:=c
    cases r with
    | some r=>rfl
    | none =>
     dsimp only
     split
     ·congr 1;funext _;congr 1;funext _;congr 1;funext d;obtain ⟨r,n⟩:=d;cases r <;> rfl
     ·congr 1;funext _;congr 1;funext d;obtain ⟨r,n⟩:=d;cases r <;> rfl
section
variable {prog:Program}{w:World}{A:Around}{E:Value->Shared->Prop}{s:Shared}{a₀:Array Keyed}{p:Array (Nat × Nat × Nat)}{st:SortSt}
noncomputable def De (xs:Array Keyed) (lo hi:Nat):Prop:=∀ i j,lo<=i->i<=j->j<hi->K xs j<=K xs i
theorem ZjH {xs:Array Keyed}{lo i j:Nat} (hj:j<=xs.size) (hi:lo<=i):Fr lo (mirror xs i j ((j - i) / 2)) xs:=fun k hk=>by
 rw [getElem?_mirror_all hj,if_neg (by omega)]
theorem ZdC {xs:Array Keyed}{i j:Nat} (hj:j<=xs.size) (he:∀ k,i<=k->k<j->K xs k=K xs (j - 1)) (k:Nat):K (mirror xs i j ((j - i) / 2)) k=K xs k:=K_mirror_equal hj he k
theorem revX {i j:Nat}{Q:Unit->SortSt->Prop} (h:Q () (setArr st (mirror (arrOf st) i j ((j - i) / 2)))):wpS (model prog w) A E s (reverseSlice' i j) Q st:=wpS_reverse h
theorem ascX {lo a nrem:Nat}{Q:Option (Option Nat) × Nat->SortSt->Prop} (h0:IntKeys a₀) (hn:lo+nrem<=a₀.size) (ha:1<=a) (han:a<=nrem) (hB:SX a₀ p st) (hs:So (arrOf st) lo (lo+a))
  (h:∀ n,a<=n->n<=nrem->So (arrOf st) lo (lo+n)->(n=nrem\/K (arrOf st) (lo+n)<K (arrOf st) (lo+n - 1))->Q (none,n) st):wpS (model prog w) A E s (Zpv lo a nrem) Q st:=by
 unfold Zpv
 refine wpS_forRange (I:=fun x c st'=>st'=st/\c=(none,x)/\So (arrOf st) lo (lo+x)) ?h1 ?h2 ⟨rfl,rfl,hs⟩
 case h2 =>
  rintro c st' ⟨rfl,rfl,hs'⟩
  rw [show max a nrem=nrem by omega] at hs' ⊢
  exact h nrem han (ZrN _) hs' (.inl rfl);skip
 case h1 =>
  rintro x c st' hax hxn ⟨rfl,rfl,hs'⟩
  dsimp only
  refine wpS_bind (ltX hB h0 (by omega) (by omega) ?_)
  by_cases hl:K (arrOf st') (lo+x)<K (arrOf st') (lo+x - 1)
  ·simp only [hl,decide_true,if_true]
   exact wpS_pure (h x hax (by omega) hs' (.inr hl))
  ·simp only [hl,decide_false,Zss,if_false]
   refine wpS_pure ⟨rfl,rfl,fun i j hli hij hj=>?_⟩
   by_cases hjx:j<lo+x
   ·exact hs' i j hli hij hjx
   ·by_cases hi':i=j
    ·rw [hi'];exact Zr8 _
    ·have hj':j=lo+x:=by omega
     subst hj'
     exact Zsc (hs' i (lo+x - 1) hli (by omega) (by omega)) (Int.not_lt.mp hl)
theorem endX {lo n nrem:Nat}{Q:Option Nat->SortSt->Prop} (h0:IntKeys a₀) (hn:lo+nrem<=a₀.size) (h1:1<=n) (hnn:n<=nrem) (hB:SX a₀ p st) (hs:De (arrOf st) lo (lo+n))
  (h:∀ m st',SX a₀ p st'->Fr lo (arrOf st') (arrOf st)->1<=m->m<=nrem->So (arrOf st') lo (lo+m)->Q (some m) st'):wpS (model prog w) A E s (endL lo n nrem) Q st:=by
 unfold endL
 have hsz:lo+n<=(arrOf st).size:=by rw [hB.size];omega
 refine wpS_bind (revX ?_)
 have hB':=hB.set (mirror_perm (arrOf st) lo (lo+n) ((lo+n - lo) / 2))
 refine wpS_bind (ascX h0 hn h1 hnn hB' ?_ fun m hm1 hm2 hsm _=>wpS_pure (h m _ hB' (ZjH hsz (ZrN _)) (by omega) hm2 hsm))
 intro i j hl hij hj
 show K (mirror (arrOf st) lo (lo+n) ((lo+n - lo) / 2)) i<=K (mirror (arrOf st) lo (lo+n) ((lo+n - lo) / 2)) j
 rw [K_mirror hsz,K_mirror hsz,if_pos (by omega),if_pos (by omega)]
 exact hs _ _ (by omega) (by omega) (by omega)
theorem dscX {lo n nrem:Nat}{Q:Option (Option Nat) × Nat × Nat->SortSt->Prop} (h0:IntKeys a₀) (hn:lo+nrem<=a₀.size) (h1:1<=n) (hnn:n<=nrem) (hB:SX a₀ p st) (hs:De (arrOf st) lo (lo+n))
  (h:∀ m q st',SX a₀ p st'->Fr lo (arrOf st') (arrOf st)->n<=m->m<=nrem->De (arrOf st') lo (lo+m)->q+1<=m->(∀ i,lo+m - (q+1)<=i->i<lo+m->K (arrOf st') i=K (arrOf st') (lo+m - 1))->Q (none,m,q) st') :
  wpS (model prog w) A E s (dscL lo n nrem) Q st:=by
 unfold dscL
 refine wpS_forRange (I:=fun x c st'=>∃ q,c=(none,x,q)/\SX a₀ p st'/\Fr lo (arrOf st') (arrOf st)/\De (arrOf st') lo (lo+x)/\q+1<=x /\
   (∀ i,lo+x - (q+1)<=i->i<lo+x->K (arrOf st') i=K (arrOf st') (lo+x - 1))) ?h1 ?h2 ⟨0,rfl,hB,Fr.refl _ _,hs,by omega,fun i h1 h2=>by congr 1;omega⟩
 case h2 =>
  rintro c st' ⟨q,rfl,hB',hf,hs',hq,he⟩
  rw [show max n nrem=nrem by omega] at hs' hq he ⊢
  exact h nrem q st' hB' hf hnn (ZrN _) hs' hq he
 case h1 =>
  rintro x c st' hax hxn ⟨q,rfl,hB',hf,hs',hq,he⟩
  dsimp only
  have hsz:lo+x<=(arrOf st').size:=by rw [hB'.size];omega
  refine wpS_bind (ltX hB' h0 (by omega) (by omega) ?_)
  by_cases hl:K (arrOf st') (lo+x)<K (arrOf st') (lo+x - 1)
  ·simp only [hl,decide_true,if_true]
   have st1:∀ xs:Array Keyed,(∀ k,K xs k=K (arrOf st') k)->De xs lo (lo+(x+1)):=by
    intro xs hk i j hli hij hj
    rw [hk,hk]
    by_cases hjx:j<lo+x
    ·exact hs' i j hli hij hjx
    ·by_cases hi':i=j
     ·rw [hi'];exact Zr8 _
     ·have hj':j=lo+x:=by omega
      subst hj'
      exact Zsc (Zsd hl) (hs' i (lo+x - 1) hli (by omega) (by omega))
   by_cases hneq:q > 0
   ·rw [if_pos hneq]
    exact wpS_bind (revX (wpS_pure ⟨0,rfl,hB'.set (mirror_perm _ _ _ _),(ZjH hsz (by omega)).trans hf,st1 _ (ZdC hsz he),by omega,fun i h1 h2=>by congr 1;omega⟩))
   ·rw [if_neg hneq]
    exact wpS_pure ⟨0,rfl,hB',hf,st1 _ (fun _=>rfl),by omega,fun i h1 h2=>by congr 1;omega⟩
  ·simp only [hl,decide_false,Zss,if_false]
   refine wpS_bind (ltX hB' h0 (by omega) (by omega) ?_)
   by_cases hg:K (arrOf st') (lo+x - 1)<K (arrOf st') (lo+x)
   ·simp only [hg,decide_true,if_true]
    exact wpS_pure (h x q st' hB' hf hax (by omega) hs' hq he)
   ·simp only [hg,decide_false,Zss,if_false]
    have ex:K (arrOf st') (lo+x)=K (arrOf st') (lo+x - 1):=by omega
    refine wpS_pure ⟨q+1,rfl,hB',hf,fun i j hli hij hj=>?_,by omega,fun i h1 h2=>?_⟩
    ·by_cases hjx:j<lo+x
     ·exact hs' i j hli hij hjx
     ·by_cases hi':i=j
      ·rw [hi'];exact Zr8 _
      ·have hj':j=lo+x:=by omega
       subst hj'
       rw [ex];exact hs' i (lo+x - 1) hli (by omega) (by omega)
    ·rw [show lo+(x+1) - 1=lo+x by omega]
     by_cases hix:i=lo+x
     ·rw [hix]
     ·rw [ex];exact he i (by omega) (by omega)
theorem dsc2X {lo n nrem:Nat}{Q:Option Nat->SortSt->Prop} (h0:IntKeys a₀) (hn:lo+nrem<=a₀.size) (hnn:n+1<=nrem) (hB:SX a₀ p st) (hs:De (arrOf st) lo (lo+(n+1)))
  (h:∀ m st',SX a₀ p st'->Fr lo (arrOf st') (arrOf st)->1<=m->m<=nrem->So (arrOf st') lo (lo+m)->Q (some m) st'):wpS (model prog w) A E s (dsc2 lo n nrem) Q st:=by
 unfold dsc2
 refine wpS_bind (wpS_lift (wpAny_rule ⟨rfl,?_⟩))
 refine wpS_bind (dscX h0 hn (by omega) hnn hB hs fun m q st' hB' hf hm1 hm2 hs' hq he=>?_)
 dsimp only
 have hsz:lo+m<=(arrOf st').size:=by rw [hB'.size];omega
 by_cases hneq:q > 0
 ·rw [if_pos hneq]
  refine wpS_bind (revX (endX h0 hn (by omega) hm2 (hB'.set (mirror_perm _ _ _ _)) ?_ fun m2 st2 b f=>h m2 st2 b (f.trans ((ZjH hsz (by omega)).trans hf))))
  intro i j hli hij hj
  show K (mirror (arrOf st') _ _ _) j<=K (mirror (arrOf st') _ _ _) i
  rw [ZdC hsz he,ZdC hsz he]
  exact hs' i j hli hij hj
 ·rw [if_neg hneq]
  exact endX h0 hn (by omega) hm2 hB' hs' fun m2 st2 b f=>h m2 st2 b (f.trans hf)
theorem runX {lo nrem:Nat}{Q:Option Nat->SortSt->Prop} (h0:IntKeys a₀) (hn:lo+nrem<=a₀.size) (h1:1<=nrem) (hB:SX a₀ p st)
  (h:∀ m st',SX a₀ p st'->Fr lo (arrOf st') (arrOf st)->1<=m->m<=nrem->So (arrOf st') lo (lo+m)->Q (some m) st'):wpS (model prog w) A E s (countRun' lo nrem) Q st:=by
 rw [Zoj]
 refine wpS_bind (ascX h0 hn (ZrN 1) h1 hB (fun i j hl hij hj=>by rw [show i=j by omega];exact Zr8 _) fun n hn1 hn2 hsn hor=>?_)
 dsimp only
 by_cases hnn:n=nrem
 ·rw [if_pos (by simpa using hnn)]
  exact wpS_pure (h n st hB (Fr.refl _ _) hn1 hn2 hsn)
 ·rw [if_neg (by simpa using hnn)]
  have hlt:K (arrOf st) (lo+n)<K (arrOf st) (lo+n - 1):=hor.resolve_left hnn
  by_cases hgt:n > 1
  ·rw [if_pos hgt]
   refine wpS_bind (ltX hB h0 (by omega) (by omega) ?_)
   by_cases hr:K (arrOf st) lo<K (arrOf st) (lo+n - 1)
   ·simp only [hr,decide_true,if_true]
    exact wpS_pure (h n st hB (Fr.refl _ _) hn1 hn2 hsn)
   ·simp only [hr,decide_false,Zss,if_false]
    have hsz:lo+n<=(arrOf st).size:=by rw [hB.size];omega
    have hall:∀ k,lo<=k->k<lo+n->K (arrOf st) k=K (arrOf st) (lo+n - 1):=by
     intro k hk1 hk
     have a1:=hsn lo k (ZrN _) hk1 hk
     have a2:=hsn k (lo+n - 1) hk1 (by omega) (by omega)
     omega
    refine wpS_bind (revX (dsc2X h0 hn (by omega) (hB.set (mirror_perm _ _ _ _)) ?_ fun m2 st2 b f=>h m2 st2 b (f.trans (ZjH hsz (ZrN _)))))
    intro i j hli hij hj
    show K (mirror (arrOf st) _ _ _) j<=K (mirror (arrOf st) _ _ _) i
    rw [ZdC hsz hall,ZdC hsz hall]
    by_cases hjn:j<lo+n
    ·rw [hall i hli (by omega),hall j (by omega) hjn];exact Zr8 _
    ·by_cases hi':i=j
     ·rw [hi'];exact Zr8 _
     ·have hj':j=lo+n:=by omega
      subst hj'
      rw [hall i hli (by omega)];exact Zsd hlt
  ·rw [if_neg hgt]
   have hn1':n=1:=by omega
   subst hn1'
   refine dsc2X h0 hn (by omega) hB ?_ h
   intro i j hli hij hj
   by_cases hi':i=j
   ·rw [hi'];exact Zr8 _
   ·have hj1:j=lo+1:=by omega
    have hi0:i=lo+1 - 1:=by omega
    subst hj1
    rw [hi0]
    exact Zsd hlt
end
end SR
namespace SR
open PySem PyProof.Rows
noncomputable def ZdG:Bool->Keyed->Array Keyed->Nat->Nat->Nat->StateT SortSt Sem (Option Nat):=sortPriv% PySem.Builtin.gallop
noncomputable def bey (left:Bool) (key:Keyed) (arr:Array Keyed) (base i:Nat):StateT SortSt Sem (Option Bool):=do
 let x <- elem' arr (base+i)
 if left then lt' x key else return (<- lt' key x).map (!·)
theorem gal_eq (left:Bool) (key:Keyed) (arr:Array Keyed) (base n hint:Nat):ZdG left key arr base n hint=(do
 let mut last:=0
 let mut ofs:=1
 let mut lo:=0
 let mut hi:=0
 let some right <- bey left key arr base hint | return none
 if right then
  let most:=n - hint
  for _ in [0:n] do
   if ofs ≥ most then break
   let some more <- bey left key arr base (hint+ofs) | return none
   if !more then break
   last:=ofs
   ofs:=2 * ofs+1
  lo:=hint+last+1
  hi:=hint+min ofs most
 else
  let most:=hint+1
  for _ in [0:n] do
   if ofs ≥ most then break
   let some found <- bey left key arr base (hint - ofs) | return none
   if found then break
   last:=ofs
   ofs:=2 * ofs+1
  lo:=hint+1 - min ofs most
  hi:=hint - last
 for _ in [0:n] do
  if lo ≥ hi then break
  let m:=lo+(hi - lo) / 2
  let some more <- bey left key arr base m | return none
  if more then lo:=m+1 else hi:=m
 return some hi):=rfl
section
variable {prog:Program}{w:World}{A:Around}{E:Value->Shared->Prop}{s:Shared}{st:SortSt}
theorem lt2 {a b:Int}{t u:Tok}{q r:Value}{Q:Option Bool->SortSt->Prop} (hk:kindOf st=oneType') (h:Q (some (decide (a<b))) st):wpS (model prog w) A E s (lt' (.int a t,q) (.int b u,r)) Q st:=by
 rw [lt'_eq]
 refine wpS_bind (wpS_get ?_)
 rw [hk,keyLt'_oneType]
 exact wpS_bind (wpS_lift (wpAny_attempt (oneLt_int ⟨rfl,wpS_pure h⟩)))
theorem ZcI {arr:Array Keyed}{i:Nat}{x:Keyed}{Q:Keyed->SortSt->Prop} (e:arr[i]? = some x) (h:Q x st):wpS (model prog w) A E s (elem' arr i) Q st:=by
 rw [elem'_eq,e]
 exact wpS_pure h
noncomputable def By (left:Bool) (k:Int) (arr:Array Keyed) (base i:Nat):Prop:=if left then K arr (base+i)<k else K arr (base+i)<=k
instance (left:Bool) (k:Int) (arr:Array Keyed) (base i:Nat):Decidable (By left k arr base i):=by unfold By;infer_instance
theorem beyX {left:Bool}{k:Int}{t:Tok}{q:Value}{arr:Array Keyed}{base i:Nat}{Q:Option Bool->SortSt->Prop} (hk:kindOf st=oneType') (h0:IntKeys arr) (hi:base+i<arr.size) (h:Q (some (decide (By left k arr base i))) st) :
  wpS (model prog w) A E s (bey left (.int k t,q) arr base i) Q st:=by
 obtain ⟨u,r,e⟩:=ZjW h0 hi
 unfold bey
 refine wpS_bind (ZcI e ?_)
 unfold By at h
 cases left with
 | true=>exact lt2 hk h
 | false =>
  refine wpS_bind (lt2 hk (wpS_pure ?_))
  have e2:(some (decide (k<K arr (base+i)))).map (!·)=some (decide (K arr (base+i)<=k)):=by
   show some (!decide (k<K arr (base+i)))=some (decide (K arr (base+i)<=k))
   rw [<- decide_not]
   congr 1
   rw [decide_eq_decide]
   omega
  rw [e2]
  exact h
theorem By.mono {left:Bool}{k:Int}{arr:Array Keyed}{base n i j:Nat} (hs:So arr base (base+n)) (hij:i<=j) (hj:j<n) (h:By left k arr base j):By left k arr base i:=by
 have:=hs (base+i) (base+j) (by omega) (by omega) (by omega)
 unfold By at h ⊢
 cases left <;> simp only [if_true,if_false,Zss] at h ⊢ <;> omega
theorem galX {left:Bool}{k:Int}{t:Tok}{q:Value}{arr:Array Keyed}{base n hint:Nat}{Q:Option Nat->SortSt->Prop} (hk:kindOf st=oneType') (h0:IntKeys arr) (hn:base+n<=arr.size) (hh:hint<n) (hs:So arr base (base+n))
  (h:∀ m,m<=n->(∀ i,i<m->By left k arr base i)->(∀ i,m<=i->i<n->¬ By left k arr base i)->Q (some m) st):wpS (model prog w) A E s (ZdG left (.int k t,q) arr base n hint) Q st:=by
 rw [gal_eq]
 refine wpS_bind (beyX hk h0 (by omega) ?_)
 dsimp only
 by_cases hB:By left k arr base hint
 ·rw [if_pos (decide_eq_true hB)]
  refine wpS_bind (wpS_mono (wpS_forRange (I:=fun x c st'=>st'=st/\∃ l o,c=(none,l,o)/\x<o/\l<o/\hint+l<n/\By left k arr base (hint+l))
   (Q:=fun c st'=>st'=st/\∃ l o,c=(none,l,o)/\l<o/\hint+l<n/\By left k arr base (hint+l)/\(o ≥ n - hint\/(hint+o<n/\¬ By left k arr base (hint+o)))) ?g1 ?g2 ⟨rfl,0,1,rfl,by omega,by omega,hh,hB⟩) ?g3)
  case g2 =>
   rintro c st' ⟨rfl,l,o,rfl,h1,h2,h3,h4⟩
   exact ⟨rfl,l,o,rfl,h2,h3,h4,.inl (by omega)⟩
  case g1 =>
   rintro x c st' _ hx ⟨rfl,l,o,rfl,h1,h2,h3,h4⟩
   dsimp only
   by_cases hge:o ≥ n - hint
   ·rw [if_pos hge]
    exact wpS_pure ⟨rfl,l,o,rfl,h2,h3,h4,.inl hge⟩
   ·rw [if_neg hge]
    refine wpS_bind (beyX hk h0 (by omega) ?_)
    dsimp only
    by_cases hb:By left k arr base (hint+o)
    ·rw [if_neg (by simpa using hb)]
     exact wpS_pure ⟨rfl,o,2 * o+1,rfl,by omega,by omega,by omega,hb⟩
    ·rw [if_pos (by simpa using hb)]
     exact wpS_pure ⟨rfl,l,o,rfl,h2,h3,h4,.inr ⟨by omega,hb⟩⟩
  case g3 =>
   rintro c st' ⟨rfl,l,o,rfl,h2,h3,h4,h5⟩
   dsimp only
   have hA:∀ i,i<hint+l+1->By left k arr base i:=fun i hi=>h4.mono hs (by omega) h3
   have hZ:∀ i,hint+min o (n - hint)<=i->i<n->¬ By left k arr base i:=fun i h6 h7 hc=>by
    rcases h5 with z | ⟨z,nb⟩
    ·omega
    ·exact nb (hc.mono hs (by omega) h7)
   have hlh:hint+l+1<=hint+min o (n - hint):=by omega
   have hhn:hint+min o (n - hint)<=n:=by omega
   generalize hint+l+1=lo0 at *
   generalize hint+min o (n - hint)=hi0 at *
   refine wpS_bind (wpS_mono (wpS_forRange (I:=fun x c st2=>st2=st'/\∃ lo hi,c=(none,lo,hi)/\lo<=hi/\hi<=n/\hi - lo<=n - x/\(∀ i,i<lo->By left k arr base i)/\(∀ i,hi<=i->i<n->¬ By left k arr base i))
    (Q:=fun c st2=>st2=st'/\∃ lo hi,c=(none,lo,hi)/\hi<=n/\(∀ i,i<hi->By left k arr base i)/\(∀ i,hi<=i->i<n->¬ By left k arr base i)) ?b1 ?b2 ⟨rfl,_,_,rfl,by omega,by omega,by omega,hA,hZ⟩) ?b3)
   case b2 =>
    rintro c st2 ⟨rfl,lo,hi,rfl,hlh,hhn,hd,hA,hZ⟩
    have:lo=hi:=by omega
    subst this
    exact ⟨rfl,lo,lo,rfl,hhn,hA,hZ⟩
   case b3 =>
    rintro c st2 ⟨rfl,lo,hi,rfl,hhn,hA,hZ⟩
    exact wpS_pure (h hi hhn hA hZ)
   case b1 =>
    rintro x c st2 _ hx ⟨rfl,lo,hi,rfl,hlh,hhn,hd,hA,hZ⟩
    dsimp only
    by_cases hge:lo ≥ hi
    ·rw [if_pos hge]
     have:lo=hi:=by omega
     subst this
     exact wpS_pure ⟨rfl,lo,lo,rfl,hhn,hA,hZ⟩
    ·rw [if_neg hge]
     refine wpS_bind (beyX hk h0 (by omega) ?_)
     dsimp only
     by_cases hb:By left k arr base (lo+(hi - lo) / 2)
     ·rw [if_pos (decide_eq_true hb)]
      exact wpS_pure ⟨rfl,lo+(hi - lo) / 2+1,hi,rfl,by omega,hhn,by omega,fun i hi'=>hb.mono hs (by omega) (by omega),hZ⟩
     ·rw [if_neg (by simpa using hb)]
      exact wpS_pure ⟨rfl,lo,lo+(hi - lo) / 2,rfl,by omega,by omega,by omega,hA,fun i h1 h2 hc=>hb (hc.mono hs h1 h2)⟩
 ·rw [if_neg (by simpa using hB)]
  refine wpS_bind (wpS_mono (wpS_forRange (I:=fun x c st'=>st'=st/\∃ l o,c=(none,l,o)/\x<o/\l<o/\l<=hint/\¬ By left k arr base (hint - l))
   (Q:=fun c st'=>st'=st/\∃ l o,c=(none,l,o)/\l<o/\l<=hint/\¬ By left k arr base (hint - l)/\(o ≥ hint+1\/(o<=hint/\By left k arr base (hint - o)))) ?k1 ?k2 ⟨rfl,0,1,rfl,by omega,by omega,by omega,hB⟩) ?k3)
  case k2 =>
   rintro c st' ⟨rfl,l,o,rfl,h1,h2,h3,h4⟩
   exact ⟨rfl,l,o,rfl,h2,h3,h4,.inl (by omega)⟩
  case k1 =>
   rintro x c st' _ hx ⟨rfl,l,o,rfl,h1,h2,h3,h4⟩
   dsimp only
   by_cases hge:o ≥ hint+1
   ·rw [if_pos hge]
    exact wpS_pure ⟨rfl,l,o,rfl,h2,h3,h4,.inl hge⟩
   ·rw [if_neg hge]
    refine wpS_bind (beyX hk h0 (by omega) ?_)
    dsimp only
    by_cases hb:By left k arr base (hint - o)
    ·rw [if_pos (decide_eq_true hb)]
     exact wpS_pure ⟨rfl,l,o,rfl,h2,h3,h4,.inr ⟨by omega,hb⟩⟩
    ·rw [if_neg (by simpa using hb)]
     exact wpS_pure ⟨rfl,o,2 * o+1,rfl,by omega,by omega,by omega,hb⟩
  case k3 =>
   rintro c st' ⟨rfl,l,o,rfl,h2,h3,h4,h5⟩
   dsimp only
   have hA:∀ i,i<hint+1 - min o (hint+1)->By left k arr base i:=fun i hi=>by
    rcases h5 with z | ⟨z,nb⟩
    ·omega
    ·exact nb.mono hs (by omega) (by omega)
   have hZ:∀ i,hint - l<=i->i<n->¬ By left k arr base i:=fun i h6 h7 hc=>h4 (hc.mono hs h6 h7)
   have hlh:hint+1 - min o (hint+1)<=hint - l:=by omega
   have hhn:hint - l<=n:=by omega
   generalize hint+1 - min o (hint+1)=lo0 at *
   generalize hint - l=hi0 at *
   refine wpS_bind (wpS_mono (wpS_forRange (I:=fun x c st2=>st2=st'/\∃ lo hi,c=(none,lo,hi)/\lo<=hi/\hi<=n/\hi - lo<=n - x/\(∀ i,i<lo->By left k arr base i)/\(∀ i,hi<=i->i<n->¬ By left k arr base i))
    (Q:=fun c st2=>st2=st'/\∃ lo hi,c=(none,lo,hi)/\hi<=n/\(∀ i,i<hi->By left k arr base i)/\(∀ i,hi<=i->i<n->¬ By left k arr base i)) ?b1 ?b2 ⟨rfl,_,_,rfl,by omega,by omega,by omega,hA,hZ⟩) ?b3)
   case b2 =>
    rintro c st2 ⟨rfl,lo,hi,rfl,hlh,hhn,hd,hA,hZ⟩
    have:lo=hi:=by omega
    subst this
    exact ⟨rfl,lo,lo,rfl,hhn,hA,hZ⟩
   case b3 =>
    rintro c st2 ⟨rfl,lo,hi,rfl,hhn,hA,hZ⟩
    exact wpS_pure (h hi hhn hA hZ)
   case b1 =>
    rintro x c st2 _ hx ⟨rfl,lo,hi,rfl,hlh,hhn,hd,hA,hZ⟩
    dsimp only
    by_cases hge:lo ≥ hi
    ·rw [if_pos hge]
     have:lo=hi:=by omega
     subst this
     exact wpS_pure ⟨rfl,lo,lo,rfl,hhn,hA,hZ⟩
    ·rw [if_neg hge]
     refine wpS_bind (beyX hk h0 (by omega) ?_)
     dsimp only
     by_cases hb:By left k arr base (lo+(hi - lo) / 2)
     ·rw [if_pos (decide_eq_true hb)]
      exact wpS_pure ⟨rfl,lo+(hi - lo) / 2+1,hi,rfl,by omega,hhn,by omega,fun i hi'=>hb.mono hs (by omega) (by omega),hZ⟩
     ·rw [if_neg (by simpa using hb)]
      exact wpS_pure ⟨rfl,lo,lo+(hi - lo) / 2,rfl,by omega,by omega,by omega,hA,fun i h1 h2 hc=>hb (hc.mono hs h1 h2)⟩
end
end SR
namespace SR
open PySem PyProof.Rows
noncomputable def ky (p:Keyed):Int:=numOf p.1
noncomputable def Srt (xs:List Keyed):Prop:=xs.Pairwise fun x y=>ky x<=ky y
structure Mg (A B out:List Keyed) (ia ib:Nat):Prop where
 perm:out.Perm (A.take ia ++ B.take ib)
 srt:Srt out
 low:∀ x∈out,∀ y,y∈A.drop ia\/y∈B.drop ib->ky x<=ky y
theorem Srt.append {xs ys:List Keyed} (hx:Srt xs) (hy:Srt ys) (h:∀ x∈xs,∀ y∈ys,ky x<=ky y):Srt (xs ++ ys):=List.pairwise_append.mpr ⟨hx,hy,h⟩
theorem Srt.drop {xs:List Keyed} (h:Srt xs) (n:Nat):Srt (xs.drop n):=h.sublist (List.drop_sublist _ _)
theorem Srt.take {xs:List Keyed} (h:Srt xs) (n:Nat):Srt (xs.take n):=h.sublist (List.take_sublist _ _)
theorem Srt.cut {xs:List Keyed} (h:Srt xs) (n:Nat):∀ x∈xs.take n,∀ y∈xs.drop n,ky x<=ky y:=by
 have:=h
 rw [<- ZqR n xs] at this
 exact (List.pairwise_append.mp this).2.2
theorem Mg.swap {A B out:List Keyed}{ia ib:Nat} (h:Mg A B out ia ib):Mg B A out ib ia:=⟨h.perm.trans ZqW,h.srt,fun x hx y hy=>h.low x hx y hy.symm⟩
theorem Mg.runA {A B out:List Keyed}{ia ib k:Nat} (h:Mg A B out ia ib) (hA:Srt A) (hk:∀ x∈(A.drop ia).take k,∀ y∈B.drop ib,ky x<=ky y):Mg A B (out ++ (A.drop ia).take k) (ia+k) ib:=by
 refine ⟨?_,h.srt.append ((hA.drop ia).take k) fun x hx y hy=>h.low x hx y (.inl (Zrd hy)),fun x hx y hy=>?_⟩
 ·rw [ZrB]
  refine (h.perm.append_right _).trans ?_
  rw [ZqE,ZqE]
  exact ZqH.append_left _ ZqW
 ·rw [<- ZrC] at hy
  rcases Zqp.mp hx with z | z
  ·exact h.low x z y (hy.imp (fun g=>Zrt g) id)
  ·rcases hy with g | g
   ·exact (hA.drop ia).cut k x z y g
   ·exact hk x z y g
theorem Mg.runB {A B out:List Keyed}{ia ib k:Nat} (h:Mg A B out ia ib) (hB:Srt B) (hk:∀ x∈(B.drop ib).take k,∀ y∈A.drop ia,ky x<=ky y):Mg A B (out ++ (B.drop ib).take k) ia (ib+k):=(h.swap.runA hB hk).swap
theorem Mg.oneA {A B out:List Keyed}{ia ib:Nat}{x:Keyed} (h:Mg A B out ia ib) (hA:Srt A) (hx:A[ia]? = some x) (hk:∀ y∈B.drop ib,ky x<=ky y):Mg A B (out ++ [x]) (ia+1) ib:=by
 have e:(A.drop ia).take 1=[x]:=by
  obtain ⟨hi,he⟩:=Zqm.mp hx
  rw [Zro hi,he]
  rfl
 rw [<- e]
 exact h.runA hA fun z hz=>by
  rw [e,Zql] at hz
  rw [hz]
  exact hk
theorem Mg.oneB {A B out:List Keyed}{ia ib:Nat}{x:Keyed} (h:Mg A B out ia ib) (hB:Srt B) (hx:B[ib]? = some x) (hk:∀ y∈A.drop ia,ky x<=ky y):Mg A B (out ++ [x]) ia (ib+1):=(h.swap.oneA hB hx hk).swap
theorem Mg.done {A B out:List Keyed}{ia ib:Nat} (h:Mg A B out ia ib) (hA:Srt A) (hB:Srt B) (he:A.length<=ia\/B.length<=ib):Srt (out ++ A.drop ia ++ B.drop ib)/\(out ++ A.drop ia ++ B.drop ib).Perm (A ++ B):=by
 constructor
 ·refine ((h.srt.append (hA.drop ia) fun x hx y hy=>h.low x hx y (.inl hy)).append (hB.drop ib) fun x hx y hy=>?_)
  rcases Zqp.mp hx with z | z
  ·exact h.low x z y (.inr hy)
  ·rcases he with g | g
   ·rw [Zre g] at z;simp at z
   ·rw [Zre g] at hy;simp at hy
 ·have e:(A ++ B).Perm ((A.take ia ++ B.take ib) ++ (A.drop ia ++ B.drop ib)):=by
   conv=>lhs;rw [<- ZqR ia A,<- ZqR ib B]
   simp only [ZqE]
   refine ZqH.append_left _ ?_
   rw [<- ZqE,<- ZqE]
   exact ZqH.append_right _ ZqW;skip
  rw [ZqE]
  exact (h.perm.append_right _).trans e.symm
theorem Mg.last {A B out:List Keyed}{ia ib:Nat} (h:Mg A B out ia ib) (hA:Srt A) (hB:Srt B) (hl:∀ x∈B.drop ib,∀ y∈A.drop ia,ky x<=ky y):Srt (out ++ B.drop ib ++ A.drop ia)/\(out ++ B.drop ib ++ A.drop ia).Perm (A ++ B):=by
 constructor
 ·refine ((h.srt.append (hB.drop ib) fun x hx y hy=>h.low x hx y (.inr hy)).append (hA.drop ia) fun x hx y hy=>?_)
  rcases Zqp.mp hx with z | z
  ·exact h.low x z y (.inl hy)
  ·exact hl x z y hy
 ·have e:(A ++ B).Perm ((A.take ia ++ B.take ib) ++ (A.drop ia ++ B.drop ib)):=by
   conv=>lhs;rw [<- ZqR ia A,<- ZqR ib B]
   simp only [ZqE]
   refine ZqH.append_left _ ?_
   rw [<- ZqE,<- ZqE]
   exact ZqH.append_right _ ZqW;skip
  rw [ZqE]
  exact ((h.perm.append_right _).trans (ZqH.append_left _ ZqW)).trans e.symm
noncomputable def Zho:Array Keyed->Array Keyed->StateT SortSt Sem (Array Keyed):=sortPriv% PySem.Builtin.mergeLo
noncomputable def Zkd:Nat->StateT SortSt Sem Unit:=sortPriv% PySem.Builtin.setMinGallop
theorem Zof (g:Nat):Zkd g=modify fun s=>SortSt.mk' (kindOf s) (arrOf s) (pendingOf s) g (failedOf s):=rfl
theorem low_eq (a b:Array Keyed):Zho a b=(do
 rule "list.sort.merge-lo"
 let t:=a.size+b.size
 let dn (o:Array Keyed) (i j:Nat):=o ++ a.extract i a.size ++ b.extract j b.size
 let la (o:Array Keyed) (i j:Nat):=o ++ b.extract j b.size ++ a.extract i a.size
 let mut o:Array Keyed:=#[<- elem' b 0]
 let mut i:=0
 let mut j:=1
 if j == b.size then return dn o i j
 if i+1 == a.size then return la o i j
 let mut g:=gallopOf (<- get)
 for _ in [0:t] do
  let mut ca:=0
  let mut cb:=0
  for _ in [0:t] do
   let some bw <- lt' (<- elem' b j) (<- elem' a i) | return dn o i j
   if bw then
    o:=o.push (<- elem' b j);j:=j+1;cb:=cb+1;ca:=0
    if j == b.size then return dn o i j
    if cb ≥ g then break
   else
    o:=o.push (<- elem' a i);i:=i+1;ca:=ca+1;cb:=0
    if i+1 == a.size then return la o i j
    if ca ≥ g then break
  rule "list.sort.gallop"
  g:=g+1
  for _ in [0:t] do
   if g > 1 then g:=g - 1
   Zkd g
   let some k <- ZdG false (<- elem' b j) a i (a.size - i) 0 | return dn o i j
   ca:=k
   if k > 0 then
    o:=o ++ a.extract i (i+k);i:=i+k
    if i+1 == a.size then return la o i j
    if i == a.size then return dn o i j
   o:=o.push (<- elem' b j);j:=j+1
   if j == b.size then return dn o i j
   let some k <- ZdG true (<- elem' a i) b j (b.size - j) 0 | return dn o i j
   cb:=k
   if k > 0 then
    o:=o ++ b.extract j (j+k);j:=j+k
    if j == b.size then return dn o i j
   o:=o.push (<- elem' a i);i:=i+1
   if i+1 == a.size then return la o i j
   if ca<7 && cb<7 then break
  g:=g+1
  Zkd g
 unsupported "internal:list.sort.merge-bound"):=rfl
section
variable {prog:Program}{w:World}{A:Around}{E:Value->Shared->Prop}{s:Shared}{st:SortSt}
structure SG (st st':SortSt):Prop where
 kind:kindOf st'=kindOf st
 arr:arrOf st'=arrOf st
 pend:pendingOf st'=pendingOf st
 fail:failedOf st'=failedOf st
theorem SG.refl (st:SortSt):SG st st:=⟨rfl,rfl,rfl,rfl⟩
theorem SG.trans {a b c:SortSt} (h:SG a b) (g:SG b c):SG a c:=⟨g.kind.trans h.kind,g.arr.trans h.arr,g.pend.trans h.pend,g.fail.trans h.fail⟩
theorem ZmB {g:Nat}{Q:Unit->SortSt->Prop} (h:∀ st',SG st st'->Q () st'):wpS (model prog w) A E s (Zkd g) Q st:=by
 rw [Zof]
 exact wpS_modify (h _ ⟨rfl,rfl,rfl,rfl⟩)
theorem ZdU {xs:Array Keyed}{i:Nat}{x:Keyed} (h:xs[i]? = some x):K xs i=ky x:=by
 unfold K ky
 rw [h]
theorem Zdc {xs:Array Keyed} (h0:IntKeys xs) {i:Nat} (hi:i<xs.size):∃ k t q,xs[i]? = some (.int k t,q)/\K xs i=k:=by
 obtain ⟨t,q,e⟩:=ZjW h0 hi
 exact ⟨_,t,q,e,rfl⟩
theorem ZjA {xs:Array Keyed} (h:Srt xs.toList) {lo hi:Nat} (hh:hi<=xs.size):So xs lo hi:=fun i j _ hij hj=>by
 have hi':i<xs.toList.length:=by rw [Zsf];omega
 have hj':j<xs.toList.length:=by rw [Zsf];omega
 rw [ZdU (x:=xs.toList[i]) (by rw [<- Zse];exact Zqn hi'),ZdU (x:=xs.toList[j]) (by rw [<- Zse];exact Zqn hj')]
 rcases Nat.eq_or_lt_of_le hij with e | e
 ·subst e;exact Zr8 _
 ·exact Zru.mp h i j hi' hj' e
theorem Zex {xs:List Keyed}{n:Nat}{y:Keyed} (h:y∈xs.drop n):∃ m,n<=m/\xs[m]? = some y:=by
 obtain ⟨k,hk⟩:=Zq5.mp h
 rw [Zrp] at hk
 exact ⟨n+k,by omega,hk⟩
theorem ZdD {xs:List Keyed}{n k:Nat}{y:Keyed} (h:y∈(xs.drop n).take k):∃ m,m<k/\xs[n+m]? = some y:=by
 obtain ⟨m,hm⟩:=Zq5.mp h
 rw [Zrv] at hm
 split at hm
 ·rw [Zrp] at hm
  exact ⟨m,by assumption,hm⟩
 ·cases hm
theorem loX {a b:Array Keyed}{Q:Array Keyed->SortSt->Prop} (hk:kindOf st=oneType') (ia0:IntKeys a) (ib0:IntKeys b) (sA:Srt a.toList) (sB:Srt b.toList) (na:0<a.size) (nb:0<b.size)
  (hf:∀ x∈b.toList.take 1,∀ y∈a.toList,ky x<=ky y) (hl:∀ x∈b.toList,∀ y∈a.toList.drop (a.size - 1),ky x<=ky y)
  (h:∀ o st',SG st st'->Srt o.toList->o.toList.Perm (a.toList ++ b.toList)->Q o st'):wpS (model prog w) A E s (Zho a b) Q st:=by
 rw [low_eq]
 refine wpS_bind (wpS_lift (wpAny_rule ⟨rfl,?_⟩))
 obtain ⟨k0,t0,q0,e0,_⟩:=Zdc ib0 nb
 refine wpS_bind (ZcI e0 ?_)
 have eB:b.toList[0]? = some (.int k0 t0,q0):=by rw [<- e0];simp
 have eT:b.toList.take 1=[(.int k0 t0,q0)]:=by
  obtain ⟨hi,he⟩:=Zqm.mp eB
  rw [List.take_one,List.head?_eq_getElem?,eB]
  rfl
 have m0:Mg a.toList b.toList [(.int k0 t0,q0)] 0 1:=by
  refine ⟨by rw [eT];exact ZqH.refl _,ZrH _ _,fun x hx y hy=>?_⟩
  rw [<- eT] at hx
  rcases hy with z | z
  ·exact hf x hx y z
  ·exact sB.cut 1 x hx y z
 have la:∀ {x:Array Keyed}{i:Nat},(x.extract i).toList=x.toList.drop i:=fun {x i}=>by
  rw [Zsi,Zrf]
  exact Zrn (by rw [List.length_drop,Zsf];exact ZrN _)
 have lb:∀ {x:Array Keyed}{i k:Nat},(x.extract i (i+k)).toList=(x.toList.drop i).take k:=fun {x i k}=>by
  rw [Zsi,Zrf,show i+k - i=k by omega]
 have fin1:∀ {o:Array Keyed}{i j:Nat}{st':SortSt},SG st st'->Mg a.toList b.toList o.toList i j->(a.size<=i\/b.size<=j)->Q (o ++ a.extract i ++ b.extract j) st':=fun {o i j st'} g m e=>by
  have:=m.done sA sB (by simpa using e)
  rw [<- la,<- la,<- Zsg,<- Zsg] at this
  exact h _ st' g this.1 this.2
 have fin2:∀ {o:Array Keyed}{i j:Nat}{st':SortSt},SG st st'->Mg a.toList b.toList o.toList i j->i+1=a.size->Q (o ++ b.extract j ++ a.extract i) st':=fun {o i j st'} g m e=>by
  have:=m.last sA sB (fun x hx y hy=>hl x (Zrt hx) y (by rw [<- e];exact hy))
  rw [<- la,<- la,<- Zsg,<- Zsg] at this
  exact h _ st' g this.1 this.2
 extract_lets o0 i0 j0
 by_cases c1:1=b.size
 ·rw [if_pos (by simpa using c1)]
  exact wpS_pure (fin1 (SG.refl _) m0 (.inr (by omega)))
 rw [if_neg (by simpa using c1)]
 by_cases c2:0+1=a.size
 ·rw [if_pos (by simpa using c2)]
  exact wpS_pure (fin2 (SG.refl _) m0 c2)
 rw [if_neg (by simpa using c2)]
 refine wpS_bind (wpS_get ?_)
 have szA:a.toList.length=a.size:=Zsf
 have szB:b.toList.length=b.size:=Zsf
 refine wpS_bind (wpS_mono (wpS_forRange (I:=fun x c st'=>SG st st'/\∃ o i j g,c=(none,o,i,j,g)/\Mg a.toList b.toList o.toList i j/\i+1<a.size/\j<b.size/\x<i+j)
  (Q:=fun c st'=>∃ r c',c=(some r,c')/\Q r st') ?o1 ?o2 ⟨SG.refl _,_,_,_,_,rfl,m0,by omega,by omega,by omega⟩) ?o3)
 case o2 =>
  rintro c st' ⟨g,o,i,j,gg,rfl,m,h1,h2,h3⟩
  omega
 case o3 =>
  rintro c st' ⟨r,c',rfl,hq⟩
  exact wpS_pure hq
 case o1 =>
  rintro x c st' _ hx ⟨g1,o,i,j,gg,rfl,m,h1,h2,h3⟩
  have atA:∀ {n:Nat}{y:Keyed},a[n]? = some y->a.toList[n]? = some y:=fun {n y} e=>by rw [Zse];exact e
  have atB:∀ {n:Nat}{y:Keyed},b[n]? = some y->b.toList[n]? = some y:=fun {n y} e=>by rw [Zse];exact e
  have lowD:∀ {xs:List Keyed}{n:Nat}{y:Keyed},Srt xs->xs[n]? = some y->∀ z∈xs.drop n,ky y<=ky z:=fun {xs n y} hs e z hz=>by
   obtain ⟨hn,he⟩:=Zqm.mp e
   rw [Zro hn,he] at hz
   have:=hs.drop n
   rw [Zro hn,he] at this
   rcases Zqt.mp hz with rfl | hz;skip
   ·exact Zr8 _
   ·exact (List.pairwise_cons.mp this).1 z hz
  have kA:∀ {n:Nat}{k:Int}{t:Tok}{q:Value},a[n]? = some (.int k t,q)->∀ z∈a.toList.drop n,k<=ky z:=fun {n k t q} e=>lowD sA (atA e)
  have kB:∀ {n:Nat}{k:Int}{t:Tok}{q:Value},b[n]? = some (.int k t,q)->∀ z∈b.toList.drop n,k<=ky z:=fun {n k t q} e=>lowD sB (atB e)
  extract_lets
  refine wpS_bind (wpS_mono (wpS_forRange (I:=fun x c st2=>SG st st2/\∃ o2 i2 j2 ca cb,c=(none,o2,i2,j2,ca,cb)/\Mg a.toList b.toList o2.toList i2 j2/\i2+1<a.size/\j2<b.size/\i+j+x<=i2+j2)
   (Q:=fun c st2=>SG st st2/\((∃ r c',c=(some r,c')/\Q r st2)\/∃ o2 i2 j2 ca cb,c=(none,o2,i2,j2,ca,cb)/\Mg a.toList b.toList o2.toList i2 j2/\i2+1<a.size/\j2<b.size/\i+j+1<=i2+j2)) ?i1 ?i2 ⟨g1,o,i,j,0,0,rfl,m,h1,h2,by omega⟩) ?i3)
  case i2 =>
   rintro c st2 ⟨g2,o2,i2,j2,ca,cb,rfl,m2,p1,p2,p3⟩
   omega
  case i1 =>
   rintro x2 c st2 _ hx2 ⟨g2,o2,i2,j2,ca,cb,rfl,m2,p1,p2,p3⟩
   dsimp only
   obtain ⟨kb,tb,qb,eb,_⟩:=Zdc ib0 p2
   obtain ⟨ka,ta,qa,ea,_⟩:=Zdc ia0 (show i2<a.size by omega)
   refine wpS_bind (ZcI eb (wpS_bind (ZcI ea (wpS_bind (lt2 (g2.kind.trans hk) ?_)))))
   dsimp only
   by_cases hlt:kb<ka
   ·rw [if_pos (decide_eq_true hlt)]
    refine wpS_bind (ZcI eb ?_)
    have m3:Mg a.toList b.toList (o2.push (.int kb tb,qb)).toList i2 (j2+1):=by
     rw [Zsh]
     exact m2.oneB sB (atB eb) fun y hy=>by
      have:=kA ea y hy
      show kb<=ky y
      omega
    by_cases c3:j2+1=b.size
    ·rw [if_pos (by simpa using c3)]
     exact wpS_pure ⟨g2,.inl ⟨_,_,rfl,fin1 g2 m3 (.inr (by omega))⟩⟩
    ·rw [if_neg (by simpa using c3)]
     split
     ·exact wpS_pure ⟨g2,.inr ⟨_,_,_,_,_,rfl,m3,p1,by omega,by omega⟩⟩
     ·exact wpS_pure ⟨g2,_,_,_,_,_,rfl,m3,p1,by omega,by omega⟩
   ·rw [if_neg (by simpa using hlt)]
    refine wpS_bind (ZcI ea ?_)
    have m3:Mg a.toList b.toList (o2.push (.int ka ta,qa)).toList (i2+1) j2:=by
     rw [Zsh]
     exact m2.oneA sA (atA ea) fun y hy=>by
      have:=kB eb y hy
      show ka<=ky y
      omega
    by_cases c3:i2+1+1=a.size
    ·rw [if_pos (by simpa using c3)]
     exact wpS_pure ⟨g2,.inl ⟨_,_,rfl,fin2 g2 m3 c3⟩⟩
    ·rw [if_neg (by simpa using c3)]
     split
     ·exact wpS_pure ⟨g2,.inr ⟨_,_,_,_,_,rfl,m3,by omega,by omega,by omega⟩⟩
     ·exact wpS_pure ⟨g2,_,_,_,_,_,rfl,m3,by omega,by omega,by omega⟩
  case i3 =>
   rintro c st2 ⟨g2,⟨r,c',rfl,hq⟩ | ⟨o2,i2,j2,ca,cb,rfl,m2,p1,p2,p3⟩⟩
   ·exact wpS_pure ⟨r,_,rfl,hq⟩
   ·extract_lets
    refine wpS_bind (wpS_lift (wpAny_rule ⟨rfl,?_⟩))
    extract_lets gz
    refine wpS_bind (wpS_mono (wpS_forRange (I:=fun x c st3=>SG st st3/\∃ o3 i3 j3 g3 ca cb,c=(none,o3,i3,j3,g3,ca,cb)/\Mg a.toList b.toList o3.toList i3 j3/\i3+1<a.size/\j3<b.size/\i2+j2+x<=i3+j3)
     (Q:=fun c st3=>SG st st3/\((∃ r c',c=(some r,c')/\Q r st3)\/∃ o3 i3 j3 g3 ca cb,c=(none,o3,i3,j3,g3,ca,cb)/\Mg a.toList b.toList o3.toList i3 j3/\i3+1<a.size/\j3<b.size/\i2+j2<=i3+j3)) ?j1 ?j2 ⟨g2,o2,i2,j2,_,ca,cb,rfl,m2,p1,p2,by omega⟩) ?j3)
    case j2 =>
     rintro c st3 ⟨g3,o3,i3,j3,gg3,ca,cb,rfl,m3,p4,p5,p6⟩
     omega
    case j3 =>
     rintro c st3 ⟨g3,⟨r,c',rfl,hq⟩ | ⟨o3,i3,j3,gg3,ca,cb,rfl,m3,p4,p5,p6⟩⟩
     ·exact wpS_pure ⟨r,_,rfl,hq⟩
     ·extract_lets
      exact wpS_bind (ZmB fun st4 g4=>wpS_pure ⟨g3.trans g4,o3,i3,j3,_,rfl,m3,p4,p5,by omega⟩)
    case j1 =>
     rintro x3 c st3 _ hx3 ⟨g3,o3,i3,j3,gg3,ca,cb,rfl,m3,p4,p5,p6⟩
     refine wpS_mono (Q:=fun r st4=>SG st st4/\((∃ rr c',r=.done (some rr,c')/\Q rr st4)\/∃ o4 i4 j4 g4 ca4 cb4,(r=.done (none,o4,i4,j4,g4,ca4,cb4)\/r=.yield (none,o4,i4,j4,g4,ca4,cb4))/\Mg a.toList b.toList o4.toList i4 j4/\i4+1<a.size/\j4<b.size/\i2+j2+(x3+1)<=i4+j4)) ?_ ?_
     rotate_left
     ·rintro _ st4 ⟨g4,⟨rr,c',rfl,hq⟩ | ⟨o4,i4,j4,gg4,ca4,cb4,rfl | rfl,m4,q1,q2,q3⟩⟩
      ·exact ⟨g4,.inl ⟨rr,c',rfl,hq⟩⟩
      ·exact ⟨g4,.inr ⟨o4,i4,j4,gg4,ca4,cb4,rfl,m4,q1,q2,by omega⟩⟩
      ·exact ⟨g4,o4,i4,j4,gg4,ca4,cb4,rfl,m4,q1,q2,by omega⟩
     extract_lets z1 z2 z3 z4 z5 z6 z7 z8 z9 z10 z11 z12 jp z13
     have hjp:∀ u g,wpS (model prog w) A E s (jp u g) (fun r st4=>SG st st4/\((∃ rr c',r=.done (some rr,c')/\Q rr st4)\/∃ o4 i4 j4 g4 ca4 cb4,(r=.done (none,o4,i4,j4,g4,ca4,cb4)\/r=.yield (none,o4,i4,j4,g4,ca4,cb4))/\Mg a.toList b.toList o4.toList i4 j4/\i4+1<a.size/\j4<b.size/\i2+j2+(x3+1)<=i4+j4)) st3:=by
      intro u g
      obtain ⟨kb,tb,qb,eb,_⟩:=Zdc ib0 p5
      refine wpS_bind (ZmB fun st4 g4=>?_)
      refine wpS_bind (ZcI eb ?_)
      have hk4:kindOf st4=oneType':=g4.kind.trans (g3.kind.trans hk)
      have g34:=g3.trans g4
      refine wpS_bind (galX hk4 ia0 (by show i3+(a.size - i3)<=_;omega) (by show 0<a.size - i3;omega) ?_ fun k hk1 hk2 hk3=>?_)
      ·exact ZjA sA (by show i3+(a.size - i3)<=_;omega)
      have hk1:k<=a.size - i3:=hk1
      have hk2:∀ n,n<k->K a (i3+n)<=kb:=hk2
      have hk3:∀ n,k<=n->n<a.size - i3->¬ K a (i3+n)<=kb:=hk3
      have up:∀ y∈a.toList.drop (i3+k),kb<=ky y:=fun y hy=>by
       obtain ⟨n,hn,e⟩:=Zex hy
       have h8:n<a.size:=by have:=(Zqm.mp e).1;omega
       have:=hk3 (n - i3) (by omega) (by omega)
       rw [show i3+(n - i3)=n by omega,ZdU (by rw [<- Zse];exact e)] at this
       omega
      have dn:∀ x∈(a.toList.drop i3).take k,∀ y∈b.toList.drop j3,ky x<=ky y:=fun x hx y hy=>by
       obtain ⟨n,hn,e⟩:=ZdD hx
       have h8:=hk2 n hn
       rw [ZdU (by rw [<- Zse];exact e)] at h8
       have:=kB eb y hy
       omega
      dsimp -zeta only
      extract_lets y1 jp2 y3 y4
      have hjp2:∀ u o i,i3<=i->Mg a.toList b.toList o.toList i j3->i+1<a.size->(∀ y∈a.toList.drop i,kb<=ky y)->wpS (model prog w) A E s (jp2 u o i) (fun r st4=>SG st st4/\((∃ rr c',r=.done (some rr,c')/\Q rr st4)\/∃ o4 i4 j4 g4 ca4 cb4,(r=.done (none,o4,i4,j4,g4,ca4,cb4)\/r=.yield (none,o4,i4,j4,g4,ca4,cb4))/\Mg a.toList b.toList o4.toList i4 j4/\i4+1<a.size/\j4<b.size/\i2+j2+(x3+1)<=i4+j4)) st4:=by
       intro u o i hii m4 hi1 hup
       refine wpS_bind (ZcI eb ?_)
       have m5:Mg a.toList b.toList (o.push (.int kb tb,qb)).toList i (j3+1):=by
        rw [Zsh]
        exact m4.oneB sB (atB eb) hup
       by_cases c3:j3+1=b.size
       ·rw [if_pos (by show (j3+1 == b.size)=true;simpa using c3)]
        exact wpS_pure ⟨g34,.inl ⟨_,_,rfl,fin1 (j:=j3+1) g34 m5 (.inr (ZrW c3.symm))⟩⟩
       rw [if_neg (by show ¬ (j3+1 == b.size)=true;simpa using c3)]
       obtain ⟨ka,ta,qa,ea,_⟩:=Zdc ia0 (show i<a.size by omega)
       refine wpS_bind (ZcI ea ?_)
       refine wpS_bind (galX hk4 ib0 (by show j3+1+(b.size - (j3+1))<=_;omega) (by show 0<b.size - (j3+1);omega) (ZjA sB (by show j3+1+(b.size - (j3+1))<=_;omega)) fun k' hq1 hq2 hq3=>?_)
       have hq1:k'<=b.size - (j3+1):=hq1
       have hq2:∀ n,n<k'->K b (j3+1+n)<ka:=hq2
       have hq3:∀ n,k'<=n->n<b.size - (j3+1)->¬ K b (j3+1+n)<ka:=hq3
       have up2:∀ y∈b.toList.drop (j3+1+k'),ka<=ky y:=fun y hy=>by
        obtain ⟨n,hn,e⟩:=Zex hy
        have h8:n<b.size:=by have:=(Zqm.mp e).1;omega
        have:=hq3 (n - (j3+1)) (by omega) (by omega)
        rw [show j3+1+(n - (j3+1))=n by omega,ZdU (by rw [<- Zse];exact e)] at this
        omega
       have dn2:∀ x∈(b.toList.drop (j3+1)).take k',∀ y∈a.toList.drop i,ky x<=ky y:=fun x hx y hy=>by
        obtain ⟨n,hn,e⟩:=ZdD hx
        have h8:=hq2 n hn
        rw [ZdU (by rw [<- Zse];exact e)] at h8
        have:=kA ea y hy
        omega
       dsimp -zeta only
       extract_lets w1 w2 jp3 w4 w5
       have hjp3:∀ u o j,j3+1<=j->Mg a.toList b.toList o.toList i j->j<b.size->(∀ y∈b.toList.drop j,ka<=ky y)->wpS (model prog w) A E s (jp3 u o j) (fun r st4=>SG st st4/\((∃ rr c',r=.done (some rr,c')/\Q rr st4)\/∃ o4 i4 j4 g4 ca4 cb4,(r=.done (none,o4,i4,j4,g4,ca4,cb4)\/r=.yield (none,o4,i4,j4,g4,ca4,cb4))/\Mg a.toList b.toList o4.toList i4 j4/\i4+1<a.size/\j4<b.size/\i2+j2+(x3+1)<=i4+j4)) st4:=by
        intro u o j hjj m6 hj1 hup2
        refine wpS_bind (ZcI ea ?_)
        have m7:Mg a.toList b.toList (o.push (.int ka ta,qa)).toList (i+1) j:=by
         rw [Zsh]
         exact m6.oneA sA (atA ea) hup2
        by_cases c4:i+1+1=a.size
        ·rw [if_pos (by show (i+1+1 == a.size)=true;simpa using c4)]
         exact wpS_pure ⟨g34,.inl ⟨_,_,rfl,fin2 g34 m7 c4⟩⟩
        rw [if_neg (by show ¬ (i+1+1 == a.size)=true;simpa using c4)]
        split
        ·exact wpS_pure ⟨g34,.inr ⟨_,i+1,j,_,_,_,.inl rfl,m7,by omega,hj1,by omega⟩⟩
        ·exact wpS_pure ⟨g34,.inr ⟨_,i+1,j,_,_,_,.inr rfl,m7,by omega,hj1,by omega⟩⟩
       by_cases c5:k' > 0
       ·rw [if_pos c5]
        have m8:Mg a.toList b.toList (o.push (.int kb tb,qb) ++ b.extract (j3+1) (j3+1+k')).toList i (j3+1+k'):=by
         rw [Zsg,lb]
         exact m5.runB sB dn2
        by_cases c6:j3+1+k'=b.size
        ·rw [if_pos (by show (j3+1+k' == b.size)=true;simpa using c6)]
         exact wpS_pure ⟨g34,.inl ⟨_,_,rfl,fin1 (j:=j3+1+k') g34 m8 (.inr (ZrW c6.symm))⟩⟩
        ·rw [if_neg (by show ¬ (j3+1+k' == b.size)=true;simpa using c6)]
         exact hjp3 () _ (j3+1+k') (by omega) m8 (by omega) up2
       ·rw [if_neg c5]
        have k0:k'=0:=by omega
        rw [k0] at up2
        exact hjp3 () _ (j3+1) (ZrN _) m5 (by omega) up2
      by_cases c7:k > 0
      ·rw [if_pos c7]
       have m9:Mg a.toList b.toList (o3 ++ a.extract i3 (i3+k)).toList (i3+k) j3:=by
        rw [Zsg,lb]
        exact m3.runA sA dn
       by_cases c8:i3+k+1=a.size
       ·rw [if_pos (by show (i3+k+1 == a.size)=true;simpa using c8)]
        exact wpS_pure ⟨g34,.inl ⟨_,_,rfl,fin2 (i:=i3+k) g34 m9 c8⟩⟩
       rw [if_neg (by show ¬ (i3+k+1 == a.size)=true;simpa using c8)]
       by_cases c9:i3+k=a.size
       ·rw [if_pos (by show (i3+k == a.size)=true;simpa using c9)]
        exact wpS_pure ⟨g34,.inl ⟨_,_,rfl,fin1 (i:=i3+k) g34 m9 (.inl (ZrW c9.symm))⟩⟩
       rw [if_neg (by show ¬ (i3+k == a.size)=true;simpa using c9)]
       exact hjp2 () _ (i3+k) (by omega) m9 (by omega) up
      ·rw [if_neg c7]
       have k0:k=0:=by omega
       rw [k0] at up
       exact hjp2 () _ i3 (ZrN _) m3 p4 up
     split
     ·exact hjp () _
     ·exact hjp () _
end
end SR
namespace SR
open PySem PyProof.Rows
structure Mh (A B out:List Keyed) (na nb:Nat):Prop where
 perm:out.Perm (A.drop na ++ B.drop nb)
 srt:Srt out.reverse
 high:∀ x∈out,∀ y,y∈A.take na\/y∈B.take nb->ky y<=ky x
theorem Mh.swap {A B out:List Keyed}{na nb:Nat} (h:Mh A B out na nb):Mh B A out nb na:=⟨h.perm.trans ZqW,h.srt,fun x hx y hy=>h.high x hx y hy.symm⟩
theorem Mh.runA {A B out:List Keyed}{na nb m:Nat} (h:Mh A B out na nb) (hA:Srt A) (hm:m<=na) (hk:∀ x∈(A.take na).drop m,∀ y∈B.take nb,ky y<=ky x):Mh A B (out ++ ((A.take na).drop m).reverse) m nb:=by
 have e:A.drop m=(A.take na).drop m ++ A.drop na:=by
  conv=>lhs;rw [<- ZqR na A]
  rw [List.drop_append]
  rcases ZrO A.length na with z | z
  ·rw [Zre (show A.length<=na by omega),List.drop_nil]
  ·rw [ZqL,Zr0 z,show m - na=0 by omega,List.drop_zero]
 refine ⟨?_,?_,fun x hx y hy=>?_⟩
 ·rw [e,ZqE]
  refine (ZqW).trans ?_
  exact ((List.reverse_perm _).append h.perm)
 ·rw [List.reverse_append,List.reverse_reverse]
  refine Srt.append ((hA.take na).drop m) h.srt fun x hx y hy=>?_
  exact h.high y (ZrD.mp hy) x (.inl (Zrt hx))
 ·rcases Zqp.mp hx with z | z
  ·refine h.high x z y (hy.imp (fun g=>?_) id)
   have e2:A.take m=(A.take na).take m:=by rw [ZrE,Zr0 hm]
   rw [e2] at g
   exact Zrd g
  ·rw [ZrD] at z
   rcases hy with g | g
   ·have e2:A.take m=(A.take na).take m:=by rw [ZrE,Zr0 hm]
    rw [e2] at g
    exact (hA.take na).cut m y g x z
   ·exact hk x z y g
theorem Mh.runB {A B out:List Keyed}{na nb m:Nat} (h:Mh A B out na nb) (hB:Srt B) (hm:m<=nb) (hk:∀ x∈(B.take nb).drop m,∀ y∈A.take na,ky y<=ky x):Mh A B (out ++ ((B.take nb).drop m).reverse) na m:=(h.swap.runA hB hm hk).swap
theorem Mh.oneA {A B out:List Keyed}{na nb:Nat}{x:Keyed} (h:Mh A B out (na+1) nb) (hA:Srt A) (hx:A[na]? = some x) (hk:∀ y∈B.take nb,ky y<=ky x):Mh A B (out ++ [x]) na nb:=by
 have e:(A.take (na+1)).drop na=[x]:=by
  obtain ⟨hi,he⟩:=Zqm.mp hx
  rw [List.take_succ,hx,List.drop_append,Zre (by rw [ZqL];omega),ZqL,Zr0 (by omega),ZrT]
  rfl
 have:=h.runA (m:=na) hA (by omega) fun z hz=>by
  rw [e,Zql] at hz
  rw [hz]
  exact hk
 rwa [e] at this
theorem Mh.oneB {A B out:List Keyed}{na nb:Nat}{x:Keyed} (h:Mh A B out na (nb+1)) (hB:Srt B) (hx:B[nb]? = some x) (hk:∀ y∈A.take na,ky y<=ky x):Mh A B (out ++ [x]) na nb:=(h.swap.oneA hB hx hk).swap
theorem Mh.fin {A B out:List Keyed}{na nb:Nat} (h:Mh A B out na nb) (hA:Srt A) (hB:Srt B) (hl:∀ x∈A.take na,∀ y∈B.take nb,ky x<=ky y):Srt (A.take na ++ B.take nb ++ out.reverse)/\(A.take na ++ B.take nb ++ out.reverse).Perm (A ++ B):=by
 constructor
 ·refine ((hA.take na).append (hB.take nb) hl).append h.srt fun x hx y hy=>?_
  exact h.high y (ZrD.mp hy) x (Zqp.mp hx)
 ·have e:(A ++ B).Perm ((A.take na ++ B.take nb) ++ (A.drop na ++ B.drop nb)):=by
   conv=>lhs;rw [<- ZqR na A,<- ZqR nb B]
   simp only [ZqE]
   refine ZqH.append_left _ ?_
   rw [<- ZqE,<- ZqE]
   exact ZqH.append_right _ ZqW;skip
  exact (ZqH.append_left _ ((List.reverse_perm _).trans h.perm)).trans e.symm
noncomputable def Zhp:Array Keyed->Array Keyed->StateT SortSt Sem (Array Keyed):=sortPriv% PySem.Builtin.mergeHi
theorem hig_eq (a b:Array Keyed):Zhp a b=(do
 rule "list.sort.merge-hi"
 let t:=a.size+b.size
 let dn (o:Array Keyed) (i j:Nat):=a.extract 0 i ++ b.extract 0 j ++ o.reverse
 let fb (o:Array Keyed) (i j:Nat):=b.extract 0 j ++ a.extract 0 i ++ o.reverse
 let mut i:=a.size - 1
 let mut j:=b.size
 let mut o:Array Keyed:=#[<- elem' a i]
 if i == 0 then return dn o i j
 if j == 1 then return fb o i j
 let mut g:=gallopOf (<- get)
 for _ in [0:t] do
  let mut ca:=0
  let mut cb:=0
  for _ in [0:t] do
   let some aw <- lt' (<- elem' b (j - 1)) (<- elem' a (i - 1)) | return dn o i j
   if aw then
    i:=i - 1;o:=o.push (<- elem' a i);ca:=ca+1;cb:=0
    if i == 0 then return dn o i j
    if ca ≥ g then break
   else
    j:=j - 1;o:=o.push (<- elem' b j);cb:=cb+1;ca:=0
    if j == 1 then return fb o i j
    if cb ≥ g then break
  rule "list.sort.gallop"
  g:=g+1
  for _ in [0:t] do
   if g > 1 then g:=g - 1
   Zkd g
   let some m <- ZdG false (<- elem' b (j - 1)) a 0 i (i - 1) | return dn o i j
   let k:=i - m
   ca:=k
   if k > 0 then
    o:=o ++ (a.extract m i).reverse;i:=m
    if i == 0 then return dn o i j
   j:=j - 1;o:=o.push (<- elem' b j)
   if j == 1 then return fb o i j
   let some m <- ZdG true (<- elem' a (i - 1)) b 0 j (j - 1) | return dn o i j
   let k:=j - m
   cb:=k
   if k > 0 then
    o:=o ++ (b.extract m j).reverse;j:=m
    if j == 1 then return fb o i j
    if j == 0 then return dn o i j
   i:=i - 1;o:=o.push (<- elem' a i)
   if i == 0 then return dn o i j
   if ca<7 && cb<7 then break
  g:=g+1
  Zkd g
 unsupported "internal:list.sort.merge-bound"):=rfl
section
variable {prog:Program}{w:World}{A:Around}{E:Value->Shared->Prop}{s:Shared}{st:SortSt}
theorem Zig {xs:List Keyed}{n:Nat}{y:Keyed} (h:y∈xs.take n):∃ m,m<n/\xs[m]? = some y:=by
 obtain ⟨m,hm⟩:=Zq5.mp h
 rw [Zrv] at hm
 split at hm
 ·exact ⟨m,by assumption,hm⟩
 ·cases hm
theorem ZnP {xs:List Keyed}{n m:Nat}{y:Keyed} (h:y∈(xs.take n).drop m):∃ k,m<=k/\k<n/\xs[k]? = some y:=by
 obtain ⟨k,hk,e⟩:=Zex h
 rw [Zrv] at e
 split at e
 ·exact ⟨k,hk,by assumption,e⟩
 ·cases e
theorem hiX {a b:Array Keyed}{Q:Array Keyed->SortSt->Prop} (hk:kindOf st=oneType') (ia0:IntKeys a) (ib0:IntKeys b) (sA:Srt a.toList) (sB:Srt b.toList) (na:0<a.size) (nb:0<b.size)
  (hf:∀ x∈b.toList.take 1,∀ y∈a.toList,ky x<=ky y) (hl:∀ x∈b.toList,∀ y∈a.toList.drop (a.size - 1),ky x<=ky y)
  (h:∀ o st',SG st st'->Srt o.toList->o.toList.Perm (a.toList ++ b.toList)->Q o st'):wpS (model prog w) A E s (Zhp a b) Q st:=by
 rw [hig_eq]
 refine wpS_bind (wpS_lift (wpAny_rule ⟨rfl,?_⟩))
 obtain ⟨k0,t0,q0,e0,_⟩:=Zdc ia0 (show a.size - 1<a.size by omega)
 extract_lets
 refine wpS_bind (ZcI e0 ?_)
 have szA:a.toList.length=a.size:=Zsf
 have szB:b.toList.length=b.size:=Zsf
 have eT:a.toList.drop (a.size - 1)=[(.int k0 t0,q0)]:=by
  have e1:a.toList[a.size - 1]? = some (.int k0 t0,q0):=by rw [Zse];exact e0
  obtain ⟨hi,he⟩:=Zqm.mp e1
  rw [Zro hi,he,Zre (by omega)]
 have m0:Mh a.toList b.toList [(.int k0 t0,q0)] (a.size - 1) b.size:=by
  refine ⟨by rw [eT,Zre (by omega),ZqX],ZrH _ _,fun x hx y hy=>?_⟩
  rw [<- eT] at hx
  rcases hy with z | z
  ·exact sA.cut _ y z x hx
  ·exact hl y (Zrd z) x hx
 have la:∀ {x:Array Keyed}{i:Nat},(x.extract 0 i).toList=x.toList.take i:=fun {x i}=>by
  rw [Zsi,Zrf]
  rfl
 have lb:∀ {x:Array Keyed}{i k:Nat},((x.extract i k).reverse).toList=((x.toList.take k).drop i).reverse:=fun {x i k}=>by
  rw [Zsm,Zsi,Zrf,List.drop_take]
 have fin1:∀ {o:Array Keyed}{i j:Nat}{st':SortSt},SG st st'->Mh a.toList b.toList o.toList i j->(i=0\/j=0)->Q (a.extract 0 i ++ b.extract 0 j ++ o.reverse) st':=fun {o i j st'} g m e=>by
  have:=m.fin sA sB (fun x hx y hy=>by
   rcases e with rfl | rfl
   ·simp at hx
   ·simp at hy)
  rw [<- la,<- la,<- Zsg,<- Zsm,<- Zsg] at this
  exact h _ st' g this.1 this.2
 have fin2:∀ {o:Array Keyed}{i j:Nat}{st':SortSt},SG st st'->Mh a.toList b.toList o.toList i j->j=1->Q (b.extract 0 j ++ a.extract 0 i ++ o.reverse) st':=fun {o i j st'} g m e=>by
  have:=m.swap.fin sB sA (fun x hx y hy=>hf x (by rw [<- e];exact hx) y (Zrd hy))
  rw [<- la,<- la,<- Zsg,<- Zsm,<- Zsg] at this
  exact h _ st' g this.1 (this.2.trans ZqW)
 extract_lets
 by_cases c1:a.size - 1=0
 ·rw [if_pos (by show (a.size - 1 == 0)=true;simpa using c1)]
  exact wpS_pure (fin1 (SG.refl _) m0 (.inl c1))
 rw [if_neg (by show ¬ (a.size - 1 == 0)=true;simpa using c1)]
 by_cases c2:b.size=1
 ·rw [if_pos (by show (b.size == 1)=true;simpa using c2)]
  exact wpS_pure (fin2 (SG.refl _) m0 c2)
 rw [if_neg (by show ¬ (b.size == 1)=true;simpa using c2)]
 refine wpS_bind (wpS_get ?_)
 extract_lets
 refine wpS_bind (wpS_mono (wpS_forRange (I:=fun x c st'=>SG st st'/\∃ o i j g,c=(none,i,j,o,g)/\Mh a.toList b.toList o.toList i j/\1<=i/\2<=j/\i<=a.size/\j<=b.size/\x+i+j<a.size+b.size)
  (Q:=fun c st'=>∃ r c',c=(some r,c')/\Q r st') ?o1 ?o2 ⟨SG.refl _,#[(.int k0 t0,q0)],a.size - 1,b.size,_,rfl,m0,by omega,by omega,by omega,by omega,by omega⟩) ?o3)
 case o2 =>
  rintro c st' ⟨g,o,i,j,gg,rfl,m,h1,h2,h3,h4,h5⟩
  omega
 case o3 =>
  rintro c st' ⟨r,c',rfl,hq⟩
  exact wpS_pure hq
 case o1 =>
  rintro x c st' _ hx ⟨g1,o,i,j,gg,rfl,m,h1,h2,h3,h4,h5⟩
  have atA:∀ {n:Nat}{y:Keyed},a[n]? = some y->a.toList[n]? = some y:=fun {n y} e=>by rw [Zse];exact e
  have atB:∀ {n:Nat}{y:Keyed},b[n]? = some y->b.toList[n]? = some y:=fun {n y} e=>by rw [Zse];exact e
  have topD:∀ {xs:List Keyed}{n:Nat}{y:Keyed},Srt xs->xs[n]? = some y->∀ z∈xs.take (n+1),ky z<=ky y:=fun {xs n y} hs e z hz=>by
   rw [List.take_succ,e] at hz
   rcases Zqp.mp hz with g | g
   ·obtain ⟨hn,he⟩:=Zqm.mp e
    exact hs.cut n z g y (by rw [Zro hn,he];exact ZqF ..)
   ·have:z=y:=by simpa using g
    rw [this];exact Zr8 _
  have kA:∀ {n:Nat}{k:Int}{t:Tok}{q:Value},1<=n->a[n - 1]? = some (.int k t,q)->∀ z∈a.toList.take n,ky z<=k:=fun {n k t q} h1 e z hz=>topD sA (atA e) z (by rw [show n - 1+1=n by omega];exact hz)
  have kB:∀ {n:Nat}{k:Int}{t:Tok}{q:Value},1<=n->b[n - 1]? = some (.int k t,q)->∀ z∈b.toList.take n,ky z<=k:=fun {n k t q} h1 e z hz=>topD sB (atB e) z (by rw [show n - 1+1=n by omega];exact hz)
  have oA:∀ {o:Array Keyed}{i j:Nat}{x:Keyed},1<=i->Mh a.toList b.toList o.toList i j->a[i - 1]? = some x->(∀ y∈b.toList.take j,ky y<=ky x)->Mh a.toList b.toList (o.push x).toList (i - 1) j:=fun {o i j x} h1 m e hy=>by
   rw [Zsh]
   exact Mh.oneA (by rw [show i - 1+1=i by omega];exact m) sA (atA e) hy
  have oB:∀ {o:Array Keyed}{i j:Nat}{x:Keyed},1<=j->Mh a.toList b.toList o.toList i j->b[j - 1]? = some x->(∀ y∈a.toList.take i,ky y<=ky x)->Mh a.toList b.toList (o.push x).toList i (j - 1):=fun {o i j x} h1 m e hy=>by
   rw [Zsh]
   exact Mh.oneB (by rw [show j - 1+1=j by omega];exact m) sB (atB e) hy
  extract_lets
  refine wpS_bind (wpS_mono (wpS_forRange (I:=fun x c st2=>SG st st2/\∃ o2 i2 j2 ca cb,c=(none,i2,j2,o2,ca,cb)/\Mh a.toList b.toList o2.toList i2 j2/\1<=i2/\2<=j2/\i2<=a.size/\j2<=b.size/\x+i2+j2<=i+j)
   (Q:=fun c st2=>SG st st2/\((∃ r c',c=(some r,c')/\Q r st2)\/∃ o2 i2 j2 ca cb,c=(none,i2,j2,o2,ca,cb)/\Mh a.toList b.toList o2.toList i2 j2/\1<=i2/\2<=j2/\i2<=a.size/\j2<=b.size/\1+i2+j2<=i+j)) ?i1 ?i2 ⟨g1,o,i,j,0,0,rfl,m,h1,h2,h3,h4,by omega⟩) ?i3)
  case i2 =>
   rintro c st2 ⟨g2,o2,i2,j2,ca,cb,rfl,m2,p1,p2,p3,p4,p5⟩
   have p5:a.size+b.size+i2+j2<=i+j:=p5
   omega
  case i1 =>
   rintro x2 c st2 _ hx2 ⟨g2,o2,i2,j2,ca,cb,rfl,m2,p1,p2,p3,p4,p5⟩
   dsimp only
   obtain ⟨kb,tb,qb,eb,_⟩:=Zdc ib0 (show j2 - 1<b.size by omega)
   obtain ⟨ka,ta,qa,ea,_⟩:=Zdc ia0 (show i2 - 1<a.size by omega)
   refine wpS_bind (ZcI eb (wpS_bind (ZcI ea (wpS_bind (lt2 (g2.kind.trans hk) ?_)))))
   dsimp only
   by_cases hlt:kb<ka
   ·rw [if_pos (decide_eq_true hlt)]
    refine wpS_bind (ZcI ea ?_)
    have m3:=oA p1 m2 ea fun y hy=>by
     have:=kB (by omega) eb y hy
     show ky y<=ka
     omega
    by_cases c3:i2 - 1=0
    ·rw [if_pos (by simpa using c3)]
     exact wpS_pure ⟨g2,.inl ⟨_,_,rfl,fin1 g2 m3 (.inl c3)⟩⟩
    ·rw [if_neg (by simpa using c3)]
     split
     ·exact wpS_pure ⟨g2,.inr ⟨_,_,_,_,_,rfl,m3,by omega,by omega,by omega,by omega,by omega⟩⟩
     ·exact wpS_pure ⟨g2,_,_,_,_,_,rfl,m3,by omega,by omega,by omega,by omega,by omega⟩
   ·rw [if_neg (by simpa using hlt)]
    refine wpS_bind (ZcI eb ?_)
    have m3:=oB (by omega) m2 eb fun y hy=>by
     have:=kA p1 ea y hy
     show ky y<=kb
     omega
    by_cases c3:j2 - 1=1
    ·rw [if_pos (by simpa using c3)]
     exact wpS_pure ⟨g2,.inl ⟨_,_,rfl,fin2 g2 m3 c3⟩⟩
    ·rw [if_neg (by simpa using c3)]
     split
     ·exact wpS_pure ⟨g2,.inr ⟨_,_,_,_,_,rfl,m3,by omega,by omega,by omega,by omega,by omega⟩⟩
     ·exact wpS_pure ⟨g2,_,_,_,_,_,rfl,m3,by omega,by omega,by omega,by omega,by omega⟩
  case i3 =>
   rintro c st2 ⟨g2,⟨r,c',rfl,hq⟩ | ⟨o2,i2,j2,ca,cb,rfl,m2,p1,p2,p3,p4,p5⟩⟩
   ·exact wpS_pure ⟨r,_,rfl,hq⟩
   ·extract_lets
    refine wpS_bind (wpS_lift (wpAny_rule ⟨rfl,?_⟩))
    extract_lets gz
    refine wpS_bind (wpS_mono (wpS_forRange (I:=fun x c st3=>SG st st3/\∃ o3 i3 j3 g3 ca cb,c=(none,i3,j3,o3,g3,ca,cb)/\Mh a.toList b.toList o3.toList i3 j3/\1<=i3/\2<=j3/\i3<=a.size/\j3<=b.size/\x+i3+j3<=i2+j2)
     (Q:=fun c st3=>SG st st3/\((∃ r c',c=(some r,c')/\Q r st3)\/∃ o3 i3 j3 g3 ca cb,c=(none,i3,j3,o3,g3,ca,cb)/\Mh a.toList b.toList o3.toList i3 j3/\1<=i3/\2<=j3/\i3<=a.size/\j3<=b.size/\i3+j3<=i2+j2)) ?j1 ?j2 ⟨g2,o2,i2,j2,_,ca,cb,rfl,m2,p1,p2,p3,p4,by omega⟩) ?j3)
    case j2 =>
     rintro c st3 ⟨g3,o3,i3,j3,gg3,ca,cb,rfl,m3,r1,r2,r3,r4,r5⟩
     have r5:a.size+b.size+i3+j3<=i2+j2:=r5
     omega
    case j3 =>
     rintro c st3 ⟨g3,⟨r,c',rfl,hq⟩ | ⟨o3,i3,j3,gg3,ca,cb,rfl,m3,r1,r2,r3,r4,r5⟩⟩
     ·exact wpS_pure ⟨r,_,rfl,hq⟩
     ·extract_lets
      exact wpS_bind (ZmB fun st4 g4=>wpS_pure ⟨g3.trans g4,o3,i3,j3,_,rfl,m3,r1,r2,r3,r4,by omega⟩)
    case j1 =>
     rintro x3 c st3 _ hx3 ⟨g3,o3,i3,j3,gg3,ca,cb,rfl,m3,r1,r2,r3,r4,r5⟩
     refine wpS_mono (Q:=(fun r st4=>SG st st4/\((∃ rr c',r=.done (some rr,c')/\Q rr st4)\/∃ o4 i4 j4 g4 ca4 cb4,(r=.done (none,i4,j4,o4,g4,ca4,cb4)\/r=.yield (none,i4,j4,o4,g4,ca4,cb4))/\Mh a.toList b.toList o4.toList i4 j4/\1<=i4/\2<=j4/\i4<=a.size/\j4<=b.size/\x3+1+i4+j4<=i2+j2))) ?_ ?_
     rotate_left
     ·rintro _ st4 ⟨g4,⟨rr,c',rfl,hq⟩ | ⟨o4,i4,j4,gg4,ca4,cb4,rfl | rfl,m4,q1,q2,q3,q4,q5⟩⟩
      ·exact ⟨g4,.inl ⟨rr,c',rfl,hq⟩⟩
      ·exact ⟨g4,.inr ⟨o4,i4,j4,gg4,ca4,cb4,rfl,m4,q1,q2,q3,q4,by omega⟩⟩
      ·exact ⟨g4,o4,i4,j4,gg4,ca4,cb4,rfl,m4,q1,q2,q3,q4,by omega⟩
     extract_lets z1 z2 z3 z4 z5 z6 z7 z8 z9 z10 z11 z12 jp z13
     have hjp:∀ u g,wpS (model prog w) A E s (jp u g) (fun r st4=>SG st st4/\((∃ rr c',r=.done (some rr,c')/\Q rr st4)\/∃ o4 i4 j4 g4 ca4 cb4,(r=.done (none,i4,j4,o4,g4,ca4,cb4)\/r=.yield (none,i4,j4,o4,g4,ca4,cb4))/\Mh a.toList b.toList o4.toList i4 j4/\1<=i4/\2<=j4/\i4<=a.size/\j4<=b.size/\x3+1+i4+j4<=i2+j2)) st3:=by
      intro u g
      obtain ⟨kb,tb,qb,eb,_⟩:=Zdc ib0 (show j3 - 1<b.size by omega)
      refine wpS_bind (ZmB fun st4 g4=>?_)
      refine wpS_bind (ZcI eb ?_)
      have hk4:kindOf st4=oneType':=g4.kind.trans (g3.kind.trans hk)
      have g34:=g3.trans g4
      refine wpS_bind (galX hk4 ia0 (by show 0+i3<=_;omega) (by show i3 - 1<i3;omega) (ZjA sA (by show 0+i3<=_;omega)) fun k hk1 hk2 hk3=>?_)
      have hk1:k<=i3:=hk1
      have hk2:∀ n,n<k->K a (0+n)<=kb:=hk2
      have hk3:∀ n,k<=n->n<i3->¬ K a (0+n)<=kb:=hk3
      have lowk:∀ y∈a.toList.take k,ky y<=kb:=fun y hy=>by
       obtain ⟨n,hn,e⟩:=Zig hy
       have:=hk2 n hn
       rwa [Zr1,ZdU (by rw [<- Zse];exact e)] at this
      have upk:∀ x∈(a.toList.take i3).drop k,∀ y∈b.toList.take j3,ky y<=ky x:=fun x hx y hy=>by
       obtain ⟨n,hn1,hn2,e⟩:=ZnP hx
       have:=hk3 n hn1 hn2
       rw [Zr1,ZdU (by rw [<- Zse];exact e)] at this
       have:=kB (by omega) eb y hy
       omega
      dsimp -zeta only
      extract_lets y1 y2 jp2 y3
      have hjp2:∀ u i o,i<=i3->1<=i->Mh a.toList b.toList o.toList i j3->(∀ y∈a.toList.take i,ky y<=kb)->wpS (model prog w) A E s (jp2 u i o) (fun r st4=>SG st st4/\((∃ rr c',r=.done (some rr,c')/\Q rr st4)\/∃ o4 i4 j4 g4 ca4 cb4,(r=.done (none,i4,j4,o4,g4,ca4,cb4)\/r=.yield (none,i4,j4,o4,g4,ca4,cb4))/\Mh a.toList b.toList o4.toList i4 j4/\1<=i4/\2<=j4/\i4<=a.size/\j4<=b.size/\x3+1+i4+j4<=i2+j2)) st4:=by
       intro u i o hii hi1 m4 hlo
       refine wpS_bind (ZcI eb ?_)
       have m5:=oB (by omega) m4 eb hlo
       by_cases c3:j3 - 1=1
       ·rw [if_pos (by show (j3 - 1 == 1)=true;simpa using c3)]
        exact wpS_pure ⟨g34,.inl ⟨_,_,rfl,fin2 (j:=j3 - 1) g34 m5 c3⟩⟩
       rw [if_neg (by show ¬ (j3 - 1 == 1)=true;simpa using c3)]
       obtain ⟨ka,ta,qa,ea,_⟩:=Zdc ia0 (show i - 1<a.size by omega)
       refine wpS_bind (ZcI ea ?_)
       refine wpS_bind (galX hk4 ib0 (by show 0+(j3 - 1)<=_;omega) (by show j3 - 1 - 1<j3 - 1;omega) (ZjA sB (by show 0+(j3 - 1)<=_;omega)) fun k' hq1 hq2 hq3=>?_)
       have hq1:k'<=j3 - 1:=hq1
       have hq2:∀ n,n<k'->K b (0+n)<ka:=hq2
       have hq3:∀ n,k'<=n->n<j3 - 1->¬ K b (0+n)<ka:=hq3
       have low2:∀ y∈b.toList.take k',ky y<=ka:=fun y hy=>by
        obtain ⟨n,hn,e⟩:=Zig hy
        have:=hq2 n hn
        rw [Zr1,ZdU (by rw [<- Zse];exact e)] at this
        omega
       have up2:∀ x∈(b.toList.take (j3 - 1)).drop k',∀ y∈a.toList.take i,ky y<=ky x:=fun x hx y hy=>by
        obtain ⟨n,hn1,hn2,e⟩:=ZnP hx
        have:=hq3 n hn1 hn2
        rw [Zr1,ZdU (by rw [<- Zse];exact e)] at this
        have:=kA hi1 ea y hy
        omega
       dsimp -zeta only
       extract_lets w1 w2 w3 jp3 w5 w6
       have hjp3:∀ u j o,j<=j3 - 1->2<=j->Mh a.toList b.toList o.toList i j->(∀ y∈b.toList.take j,ky y<=ka)->wpS (model prog w) A E s (jp3 u j o) (fun r st4=>SG st st4/\((∃ rr c',r=.done (some rr,c')/\Q rr st4)\/∃ o4 i4 j4 g4 ca4 cb4,(r=.done (none,i4,j4,o4,g4,ca4,cb4)\/r=.yield (none,i4,j4,o4,g4,ca4,cb4))/\Mh a.toList b.toList o4.toList i4 j4/\1<=i4/\2<=j4/\i4<=a.size/\j4<=b.size/\x3+1+i4+j4<=i2+j2)) st4:=by
        intro u j o hjj hj2 m6 hlo2
        refine wpS_bind (ZcI ea ?_)
        have m7:=oA hi1 m6 ea hlo2
        by_cases c4:i - 1=0
        ·rw [if_pos (by show (i - 1 == 0)=true;simpa using c4)]
         exact wpS_pure ⟨g34,.inl ⟨_,_,rfl,fin1 (i:=i - 1) g34 m7 (.inl c4)⟩⟩
        rw [if_neg (by show ¬ (i - 1 == 0)=true;simpa using c4)]
        split
        ·exact wpS_pure ⟨g34,.inr ⟨_,i - 1,j,_,_,_,.inl rfl,m7,by omega,by omega,by omega,by omega,by omega⟩⟩
        ·exact wpS_pure ⟨g34,.inr ⟨_,i - 1,j,_,_,_,.inr rfl,m7,by omega,by omega,by omega,by omega,by omega⟩⟩
       by_cases c5:j3 - 1 - k' > 0
       ·rw [if_pos c5]
        have m8:Mh a.toList b.toList (o.push (.int kb tb,qb) ++ (b.extract k' (j3 - 1)).reverse).toList i k':=by
         rw [Zsg,lb]
         exact m5.runB sB (by omega) up2
        by_cases c6:k'=1
        ·rw [if_pos (by show (k' == 1)=true;simpa using c6)]
         exact wpS_pure ⟨g34,.inl ⟨_,_,rfl,fin2 (j:=k') g34 m8 c6⟩⟩
        rw [if_neg (by show ¬ (k' == 1)=true;simpa using c6)]
        by_cases c7:k'=0
        ·rw [if_pos (by show (k' == 0)=true;simpa using c7)]
         exact wpS_pure ⟨g34,.inl ⟨_,_,rfl,fin1 (j:=k') g34 m8 (.inr c7)⟩⟩
        rw [if_neg (by show ¬ (k' == 0)=true;simpa using c7)]
        exact hjp3 () k' _ (by omega) (by omega) m8 low2
       ·rw [if_neg c5]
        have k0:k'=j3 - 1:=by omega
        rw [k0] at low2
        exact hjp3 () (j3 - 1) _ (ZrN _) (by omega) m5 low2
      by_cases c7:i3 - k > 0
      ·rw [if_pos c7]
       have m9:Mh a.toList b.toList (o3 ++ (a.extract k i3).reverse).toList k j3:=by
        rw [Zsg,lb]
        exact m3.runA sA (by omega) upk
       by_cases c8:k=0
       ·rw [if_pos (by show (k == 0)=true;simpa using c8)]
        exact wpS_pure ⟨g34,.inl ⟨_,_,rfl,fin1 (i:=k) g34 m9 (.inl c8)⟩⟩
       rw [if_neg (by show ¬ (k == 0)=true;simpa using c8)]
       exact hjp2 () k _ (by omega) (by omega) m9 lowk
      ·rw [if_neg c7]
       have k0:k=i3:=by omega
       rw [k0] at lowk
       exact hjp2 () i3 _ (ZrN _) r1 m3 lowk
     split
     ·exact hjp () _
     ·exact hjp () _
end
end SR
namespace SR
open PySem PyProof.Rows
noncomputable def wr (sa:Nat) (l:List (Keyed × Nat)) (xs:Array Keyed):Array Keyed:=l.foldl (fun a q=>a.setIfInBounds (sa+q.2) q.1) xs
theorem ZkA (sa:Nat):∀ (l:List Keyed) (n:Nat) (xs:Array Keyed),sa+n+l.length<=xs.size->∀ j,(wr sa (l.zipIdx n) xs)[j]? = if sa+n<=j/\j<sa+n+l.length then l[j - (sa+n)]? else xs[j]?
 | [],n,xs,_,j=>by
  rw [if_neg (by simp only [ZqT];omega)]
  rfl
 | x :: l,n,xs,h,j=>by
  rw [ZqA] at h
  have:=ZkA sa l (n+1) (xs.setIfInBounds (sa+n) x) (by rw [Zsk];omega) j
  show (wr sa ((x,n) :: l.zipIdx (n+1)) xs)[j]? = _
  show (wr sa (l.zipIdx (n+1)) (xs.setIfInBounds (sa+n) x))[j]? = _
  rw [this,ZqA]
  by_cases h1:sa+(n+1)<=j/\j<sa+(n+1)+l.length
  ·rw [if_pos h1,if_pos (by omega),show j - (sa+n)=j - (sa+(n+1))+1 by omega,Zq4]
  ·rw [if_neg h1]
   by_cases h2:j=sa+n
   ·subst h2
    rw [if_pos (by omega),ZrT,Zrm,Array.getElem?_setIfInBounds_self_of_lt (by omega)]
   ·rw [if_neg (by omega),Array.getElem?_setIfInBounds_ne (by omega)]
theorem Zn0 {sa:Nat}{l:List Keyed}{xs:Array Keyed} (h:sa+l.length<=xs.size):(wr sa l.zipIdx xs).toList=xs.toList.take sa ++ l ++ xs.toList.drop (sa+l.length):=by
 refine List.ext_getElem? fun j=>?_
 have e:=ZkA sa l 0 xs (by omega) j
 rw [Nat.add_zero] at e
 rw [Zse,e]
 have sz:xs.toList.length=xs.size:=Zsf
 have tk:(xs.toList.take sa).length=sa:=by rw [ZqL];omega
 rcases ZrO j sa with z | z
 ·rw [if_neg (by omega),ZqE,ZqC (by omega),Zrr z,Zse]
 ·rcases ZrO j (sa+l.length) with y | y
  ·rw [if_pos (by omega),ZqE,ZqD (by omega),tk,ZqC (by omega)]
  ·rw [if_neg (by omega),ZqD (by rw [Zqj];omega),Zqj,tk,Zrp,Zse]
   congr 1
   omega
theorem ZnZ {sa:Nat}{l:List Keyed}{xs:Array Keyed} (h:sa+l.length<=xs.size) (hp:l.Perm ((xs.toList.drop sa).take l.length)):(wr sa l.zipIdx xs).Perm xs:=by
 refine Zso.mpr ?_
 rw [Zn0 h]
 have e:xs.toList=xs.toList.take sa ++ (xs.toList.drop sa).take l.length ++ xs.toList.drop (sa+l.length):=by
  conv=>lhs;rw [<- ZqR (sa+l.length) xs.toList,ZrB]
 refine ZqH.trans ?_ (ZqH.of_eq e.symm)
 exact ZqH.append_right _ (ZqH.append_left _ hp)
theorem Znu {xs:Array Keyed}{lo n:Nat} (h:So xs lo (lo+n)) (hs:lo+n<=xs.size):Srt ((xs.toList.drop lo).take n):=by
 refine Zru.mpr fun i j hi hj hij=>?_
 rw [ZqL] at hi hj
 have g:∀ m (hm:m<((xs.toList.drop lo).take n).length),ky ((xs.toList.drop lo).take n)[m]=K xs (lo+m):=fun m hm=>by
  rw [ZqL] at hm
  refine (ZdU ?_).symm
  rw [<- Zse,<- Zrp,<- Zrr (show m<n by omega)]
  exact Zqn _
 rw [g i,g j]
 exact h _ _ (by omega) (by omega) (by omega)
theorem ZjP {xs:Array Keyed}{lo n:Nat}:(xs.extract lo (lo+n)).toList=(xs.toList.drop lo).take n:=by
 rw [Zsi,Zrf,show lo+n - lo=n by omega]
theorem ZjO {xs:Array Keyed}{lo n:Nat} (h:lo+n<=xs.size):(xs.extract lo (lo+n)).size=n:=by rw [Array.size_extract];omega
theorem ZfD {xs:Array Keyed}{lo hi:Nat} (h0:IntKeys xs):IntKeys (xs.extract lo hi):=fun q hq=>h0 q (by
 rw [Zsi,Zrf] at hq
 exact Zrt (Zrd hq))
theorem mer_eq (i:Nat):mergeAt' i=(do
 let u <- get
 let (some (sa,na,pw),some (sb,nb,_)):=((pendingOf u)[i]?,(pendingOf u)[i+1]?) | unsupported "internal:list.sort.pending"
 set (setPending u (((pendingOf u).setIfInBounds i (sa,na+nb,pw)).eraseIdxIfInBounds (i+1)))
 let some k <- ZdG false (<- elem' (arrOf u) sb) (arrOf u) sa na 0 | return false
 let (sa,na):=(sa+k,na - k)
 if na == 0 then return true
 let some nb <- ZdG true (<- elem' (arrOf u) (sa+na - 1)) (arrOf u) sb nb (nb - 1) | return false
 if nb == 0 then return true
 let x:=(arrOf u).extract sa sb
 let y:=(arrOf u).extract sb (sb+nb)
 let m <- if na<=nb then Zho x y else Zhp x y
 modify fun u=>setArr u (wr sa m.toList.zipIdx (arrOf u))
 return (failedOf (<- get)).isNone):=rfl
section
variable {prog:Program}{w:World}{A:Around}{E:Value->Shared->Prop}{s:Shared}{st:SortSt}{a₀:Array Keyed}{p:Array (Nat × Nat × Nat)}
theorem setX {st':SortSt}{Q:PUnit->SortSt->Prop} (h:Q ⟨⟩ st'):wpS (model prog w) A E s (set st':StateT SortSt Sem PUnit) Q st:=by
 unfold wpS
 rw [StateT.run_set]
 exact wpAny_pure ⟨rfl,h⟩
theorem merX {i sa na nb pw pw2:Nat}{Q:Bool->SortSt->Prop} (h0:IntKeys a₀) (hB:SX a₀ p st) (hp1:p[i]? = some (sa,na,pw)) (hp2:p[i+1]? = some (sa+na,nb,pw2)) (hna:0<na) (hnb:0<nb) (hsz:sa+na+nb<=a₀.size)
  (s1:So (arrOf st) sa (sa+na)) (s2:So (arrOf st) (sa+na) (sa+na+nb))
  (h:∀ st',SX a₀ ((p.setIfInBounds i (sa,na+nb,pw)).eraseIdxIfInBounds (i+1)) st'->(∀ j,j<sa\/sa+na+nb<=j->(arrOf st')[j]? = (arrOf st)[j]?)->So (arrOf st') sa (sa+na+nb)->Q true st') :
  wpS (model prog w) A E s (mergeAt' i) Q st:=by
 rw [mer_eq]
 refine wpS_bind (wpS_get ?_)
 rw [hB.pend,hp1,hp2]
 dsimp only
 have hI:=hB.ints h0
 have hS:=hB.size
 have hPm:=hB.perm
 have hKd:=hB.kind
 have hFl:=hB.failed
 refine wpS_bind (setX ?_)
 have hX1:SX a₀ ((p.setIfInBounds i (sa,na+nb,pw)).eraseIdxIfInBounds (i+1)) (setPending st ((p.setIfInBounds i (sa,na+nb,pw)).eraseIdxIfInBounds (i+1))):=⟨hPm,hKd,hFl,rfl⟩
 have hA1:arrOf (setPending st ((p.setIfInBounds i (sa,na+nb,pw)).eraseIdxIfInBounds (i+1)))=arrOf st:=rfl
 generalize setPending st ((p.setIfInBounds i (sa,na+nb,pw)).eraseIdxIfInBounds (i+1))=st1 at hX1 hA1
 generalize (p.setIfInBounds i (sa,na+nb,pw)).eraseIdxIfInBounds (i+1)=p1 at hX1 h
 generalize arrOf st=xs at *
 obtain ⟨kb,tb,qb,eb,hkb⟩:=Zdc hI (show sa+na<xs.size by omega)
 refine wpS_bind (ZcI eb ?_)
 refine wpS_bind (galX hX1.kind hI (by omega) hna s1 fun k hk1 hk2 hk3=>?_)
 dsimp only
 have hk2:∀ n,n<k->K xs (sa+n)<=kb:=hk2
 have hk3:∀ n,k<=n->n<na->¬ K xs (sa+n)<=kb:=hk3
 have hbB:∀ j,sa+na<=j->j<sa+na+nb->kb<=K xs j:=fun j g1 g2=>by rw [<- hkb];exact s2 _ _ (ZrN _) g1 g2
 by_cases c1:na - k=0
 ·rw [if_pos (by simpa using c1)]
  refine wpS_pure (h st1 hX1 (fun j _=>by rw [hA1]) fun i' j' hl hij hj=>?_)
  rw [hA1]
  rcases ZrO j' (sa+na) with z | z
  ·exact s1 _ _ hl hij z
  ·rcases ZrO i' (sa+na) with y | y
   ·have:=hk2 (i' - sa) (by omega)
    rw [show sa+(i' - sa)=i' by omega] at this
    exact Zsc this (hbB j' z hj)
   ·exact s2 _ _ y hij hj
 rw [if_neg (by simpa using c1)]
 obtain ⟨kl,tl,ql,el,hkl⟩:=Zdc hI (show sa+k+(na - k) - 1<xs.size by omega)
 have elast:sa+k+(na - k) - 1=sa+na - 1:=by omega
 rw [elast] at hkl
 refine wpS_bind (ZcI el ?_)
 refine wpS_bind (galX hX1.kind hI (by omega) (show nb - 1<nb by omega) s2 fun nc hq1 hq2 hq3=>?_)
 dsimp only
 have hq2:∀ n,n<nc->K xs (sa+na+n)<kl:=hq2
 have hq3:∀ n,nc<=n->n<nb->¬ K xs (sa+na+n)<kl:=hq3
 have hlA:∀ j,sa<=j->j<sa+na->K xs j<=kl:=fun j g1 g2=>by rw [<- hkl];exact s1 _ _ g1 (by omega) (by omega)
 by_cases c2:nc=0
 ·rw [if_pos (by simpa using c2)]
  refine wpS_pure (h st1 hX1 (fun j _=>by rw [hA1]) fun i' j' hl hij hj=>?_)
  rw [hA1]
  rcases ZrO j' (sa+na) with z | z
  ·exact s1 _ _ hl hij z
  ·rcases ZrO i' (sa+na) with y | y
   ·have:=hq3 (j' - (sa+na)) (by omega) (by omega)
    rw [show sa+na+(j' - (sa+na))=j' by omega] at this
    have:=hlA i' hl y
    omega
   ·exact s2 _ _ y hij hj
 rw [if_neg (by simpa using c2)]
 have eX:xs.extract (sa+k) (sa+na)=xs.extract (sa+k) (sa+k+(na - k)):=by rw [show sa+k+(na - k)=sa+na by omega]
 rw [eX]
 have lX:(xs.extract (sa+k) (sa+k+(na - k))).toList=(xs.toList.drop (sa+k)).take (na - k):=ZjP
 have lY:(xs.extract (sa+na) (sa+na+nc)).toList=(xs.toList.drop (sa+na)).take nc:=ZjP
 have zX:(xs.extract (sa+k) (sa+k+(na - k))).size=na - k:=ZjO (by omega)
 have zY:(xs.extract (sa+na) (sa+na+nc)).size=nc:=ZjO (by omega)
 have sX:Srt (xs.extract (sa+k) (sa+k+(na - k))).toList:=by rw [lX];exact Znu (fun i' j' a1 a2 a3=>s1 _ _ (by omega) a2 (by omega)) (by omega)
 have sY:Srt (xs.extract (sa+na) (sa+na+nc)).toList:=by rw [lY];exact Znu (fun i' j' a1 a2 a3=>s2 _ _ a1 a2 (by omega)) (by omega)
 have inX:∀ q∈(xs.extract (sa+k) (sa+k+(na - k))).toList,∃ j,sa+k<=j/\j<sa+na/\K xs j=ky q:=fun q hq=>by
  rw [lX] at hq
  obtain ⟨m,hm,e⟩:=ZdD hq
  exact ⟨sa+k+m,by omega,by omega,ZdU (by rw [<- Zse];exact e)⟩
 have inY:∀ q∈(xs.extract (sa+na) (sa+na+nc)).toList,∃ j,sa+na<=j/\j<sa+na+nc/\K xs j=ky q:=fun q hq=>by
  rw [lY] at hq
  obtain ⟨m,hm,e⟩:=ZdD hq
  exact ⟨sa+na+m,by omega,by omega,ZdU (by rw [<- Zse];exact e)⟩
 have lowX:∀ q∈(xs.extract (sa+k) (sa+k+(na - k))).toList,kb<ky q:=fun q hq=>by
  obtain ⟨j,j1,j2,e⟩:=inX q hq
  have:=hk3 (j - sa) (by omega) (by omega)
  rw [show sa+(j - sa)=j by omega] at this
  omega
 have hf:∀ x∈(xs.extract (sa+na) (sa+na+nc)).toList.take 1,∀ y∈(xs.extract (sa+k) (sa+k+(na - k))).toList,ky x<=ky y:=fun x hx y hy=>by
  have h1:=lowX y hy
  rw [lY,ZrE,Zr0 (by omega)] at hx
  obtain ⟨m,hm,e⟩:=ZdD hx
  have:K xs (sa+na)=ky x:=ZdU (by rw [<- Zse,show sa+na=sa+na+m by omega];exact e)
  omega
 have hl:∀ x∈(xs.extract (sa+na) (sa+na+nc)).toList,∀ y∈(xs.extract (sa+k) (sa+k+(na - k))).toList.drop ((xs.extract (sa+k) (sa+k+(na - k))).size - 1),ky x<=ky y:=fun x hx y hy=>by
  obtain ⟨j,j1,j2,e⟩:=inY x hx
  have h1:=hq2 (j - (sa+na)) (by omega)
  rw [show sa+na+(j - (sa+na))=j by omega] at h1
  rw [zX,lX] at hy
  obtain ⟨m,hm,e2⟩:=Zex hy
  rw [Zrv] at e2
  split at e2
  ·rw [Zrp] at e2
   have:K xs (sa+na - 1)=ky y:=ZdU (by rw [<- Zse,show sa+na - 1=sa+k+m by omega];exact e2)
   omega
  ·cases e2
 have fin:∀ (o:Array Keyed) (st':SortSt),SG st1 st'->Srt o.toList->o.toList.Perm ((xs.extract (sa+k) (sa+k+(na - k))).toList ++ (xs.extract (sa+na) (sa+na+nc)).toList) ->
   wpS (model prog w) A E s (do modify fun u=>setArr u (wr (sa+k) o.toList.zipIdx (arrOf u));let v <- get;pure (failedOf v).isNone) Q st':=fun o st' g so po=>by
  have hol:o.toList.length=(na - k)+nc:=by rw [po.length_eq,Zqj,Zsf,Zsf,zX,zY]
  have ear:arrOf st'=xs:=g.arr.trans hA1
  refine wpS_bind (wpS_modify (wpS_bind (wpS_get (wpS_pure ?_))))
  have efl:failedOf (setArr st' (wr (sa+k) o.toList.zipIdx (arrOf st')))=none:=g.fail.trans hX1.failed
  rw [efl,ear]
  have hle:sa+k+o.toList.length<=xs.size:=by omega
  have hperm:(wr (sa+k) o.toList.zipIdx xs).Perm xs:=ZnZ hle (by
   refine po.trans (ZqH.of_eq ?_)
   rw [hol,lX,lY,ZrB,ZrC,show sa+k+(na - k)=sa+na by omega])
  have get:=ZkA (sa+k) o.toList 0 xs (by omega)
  simp only [Nat.add_zero] at get
  have kin:∀ j,sa+k<=j->j<sa+na+nc->∃ q,o.toList[j - (sa+k)]? = some q/\K (wr (sa+k) o.toList.zipIdx xs) j=ky q:=fun j g1 g2=>by
   have hj:j - (sa+k)<o.toList.length:=by omega
   refine ⟨_,Zqn hj,ZdU ?_⟩
   rw [get,if_pos (by omega)]
   exact Zqn hj
  have kout:∀ j,j<sa+k\/sa+na+nc<=j->K (wr (sa+k) o.toList.zipIdx xs) j=K xs j:=fun j g1=>K_congr (by rw [get,if_neg (by omega)])
  have lo1:∀ q∈o.toList,kb<=ky q:=fun q hq=>by
   rcases Zqp.mp (po.mem_iff.mp hq) with z | z
   ·have:=lowX q z;omega
   ·obtain ⟨j,j1,j2,e⟩:=inY q z
    have:=hbB j j1 (by omega)
    omega
  have lo2:∀ q∈o.toList,∀ t,sa<=t->t<sa+k->K xs t<=ky q:=fun q hq t t1 t2=>by
   have h1:=hk2 (t - sa) (by omega)
   rw [show sa+(t - sa)=t by omega] at h1
   have:=lo1 q hq
   omega
  have up1:∀ q∈o.toList,∀ t,sa+na+nc<=t->t<sa+na+nb->ky q<=K xs t:=fun q hq t t1 t2=>by
   have h1:=hq3 (t - (sa+na)) (by omega) (by omega)
   rw [show sa+na+(t - (sa+na))=t by omega] at h1
   rcases Zqp.mp (po.mem_iff.mp hq) with z | z
   ·obtain ⟨j,j1,j2,e⟩:=inX q z
    have:=hlA j (by omega) j2
    omega
   ·obtain ⟨j,j1,j2,e⟩:=inY q z
    rw [<- e]
    exact s2 _ _ j1 (by omega) t2
  refine h _ ⟨hperm.trans hPm,g.kind.trans hX1.kind,efl,g.pend.trans hX1.pend⟩ (fun j hj=>?_) fun i' j' l1 l2 l3=>?_
  ·show (wr (sa+k) o.toList.zipIdx xs)[j]? = xs[j]?
   rw [get,if_neg (by omega)]
  ·show K (wr (sa+k) o.toList.zipIdx xs) i'<=K (wr (sa+k) o.toList.zipIdx xs) j'
   rcases ZrO i' (sa+k) with y | y
   ·rw [kout i' (.inl y)]
    rcases ZrO j' (sa+k) with z | z
    ·rw [kout j' (.inl z)]
     exact s1 _ _ l1 l2 (by omega)
    ·rcases ZrO j' (sa+na+nc) with v | v
     ·obtain ⟨q,hq,e⟩:=kin j' z v
      rw [e]
      exact lo2 q (Zqw hq) i' l1 y
     ·rw [kout j' (.inr v)]
      have h1:=hk2 (i' - sa) (by omega)
      rw [show sa+(i' - sa)=i' by omega] at h1
      exact Zsc h1 (hbB j' (by omega) l3)
   ·rcases ZrO i' (sa+na+nc) with u | u
    ·obtain ⟨q,hq,e⟩:=kin i' y u
     rw [e]
     rcases ZrO j' (sa+na+nc) with v | v
     ·obtain ⟨r,hr,e2⟩:=kin j' (by omega) v
      rw [e2]
      rcases Nat.eq_or_lt_of_le l2 with z | z
      ·subst z
       rw [hq] at hr
       cases hr
       exact Zr8 _
      ·obtain ⟨a1,a2⟩:=Zqm.mp hq
       obtain ⟨b1,b2⟩:=Zqm.mp hr
       rw [<- a2,<- b2]
       exact Zru.mp so _ _ a1 b1 (by omega)
     ·rw [kout j' (.inr v)]
      exact up1 q (Zqw hq) j' v l3
    ·rw [kout i' (.inr u),kout j' (.inr (by omega))]
     exact s2 _ _ (by omega) l2 l3
 split
 ·exact wpS_bind (loX hX1.kind (ZfD hI) (ZfD hI) sX sY (by omega) (by omega) hf hl fin)
 ·exact wpS_bind (hiX hX1.kind (ZfD hI) (ZfD hI) sX sY (by omega) (by omega) hf hl fin)
end
end SR
namespace SR
open PySem PyProof.Rows
noncomputable def Zc8 (xs:Array Keyed):Nat->Nat->List (Nat × Nat × Nat)->Prop
 | b,e,[]=>b=e
 | b,e,(s,n,_) :: r=>s=b/\0<n/\So xs s (s+n)/\Zc8 xs (b+n) e r
theorem Zc8.le {xs:Array Keyed}:∀ {l:List (Nat × Nat × Nat)}{b e:Nat},Zc8 xs b e l->b+l.length<=e
 | [],b,e,h=>by rw [show b=e from h];exact ZrN _
 | (s,n,p) :: r,b,e,h=>by
  obtain ⟨_,hn,_,h⟩:=h
  have:=h.le
  rw [ZqA]
  omega
theorem Zc8.same {xs ys:Array Keyed}:∀ {l:List (Nat × Nat × Nat)}{b e:Nat},(∀ j,b<=j->j<e->K ys j=K xs j)->Zc8 xs b e l->Zc8 ys b e l
 | [],b,e,_,h=>h
 | (s,n,p) :: r,b,e,hk,h=>by
  obtain ⟨rfl,hn,hs,h⟩:=h
  have hle:=h.le
  refine ⟨rfl,hn,fun i j h1 h2 h3=>?_,h.same fun j h1 h2=>hk j (by omega) h2⟩
  rw [hk i (by omega) (by omega),hk j (by omega) (by omega)]
  exact hs i j h1 h2 h3
theorem Zc8.snoc {xs:Array Keyed}{n p:Nat}:∀ {l:List (Nat × Nat × Nat)}{b e:Nat},Zc8 xs b e l->0<n->So xs e (e+n)->Zc8 xs b (e+n) (l ++ [(e,n,p)])
 | [],b,e,h,hn,hs=>by
  have h:b=e:=h
  subst h
  exact ⟨rfl,hn,hs,rfl⟩
 | (s,m,q) :: r,b,e,h,hn,hs=>by
  obtain ⟨h1,h2,h3,h4⟩:=h
  exact ⟨h1,h2,h3,h4.snoc hn hs⟩
theorem Zc8.at {xs:Array Keyed}:∀ {l:List (Nat × Nat × Nat)}{b e:Nat} (i:Nat),Zc8 xs b e l->i+1<l.length->∃ sa na nb pw pw2,l[i]? = some (sa,na,pw)/\l[i+1]? = some (sa+na,nb,pw2)/\0<na/\0<nb/\b<=sa/\sa+na+nb<=e/\So xs sa (sa+na)/\So xs (sa+na) (sa+na+nb) /\
  ∀ ys:Array Keyed,(∀ j,j<sa\/sa+na+nb<=j->K ys j=K xs j)->So ys sa (sa+na+nb)->Zc8 ys b e ((l.set i (sa,na+nb,pw)).eraseIdx (i+1))
 | [],_,_,i,_,h=>by simp at h
 | [_],_,_,i,_,h=>by simp at h
 | (s,n,p) :: (s2,n2,p2) :: r,b,e,0,h,_=>by
  obtain ⟨rfl,h1,h2,rfl,h3,h4,h5⟩:=h
  have hle:=h5.le
  refine ⟨s,n,n2,p,p2,rfl,rfl,h1,h3,ZrN _,by omega,h2,h4,fun ys hk hs=>?_⟩
  refine ⟨rfl,by omega,by rw [<- Nat.add_assoc];exact hs,?_⟩
  rw [<- Nat.add_assoc]
  exact h5.same fun j g1 g2=>hk j (.inr g1)
 | (s,n,p) :: x :: r,b,e,i+1,h,hi=>by
  obtain ⟨rfl,h1,h2,h3⟩:=h
  obtain ⟨sa,na,nb,pw,pw2,e1,e2,g1,g2,g3,g4,g5,g6,g7⟩:=h3.at i (by simpa using hi)
  refine ⟨sa,na,nb,pw,pw2,e1,e2,g1,g2,by omega,g4,g5,g6,fun ys hk hs=>?_⟩
  refine ⟨rfl,h1,fun i' j' l1 l2 l3=>?_,g7 ys hk hs⟩
  rw [hk i' (.inl (by omega)),hk j' (.inl (by omega))]
  exact h2 i' j' l1 l2 l3
theorem Zc8.pow {xs:Array Keyed}{pw:Nat}{f:Nat × Nat × Nat->Nat × Nat × Nat} (hf:∀ x,f x=(x.1,x.2.1,pw)):∀ {l:List (Nat × Nat × Nat)}{b e:Nat} (k:Nat),Zc8 xs b e l->Zc8 xs b e (l.modify k f)
 | [],b,e,k,h=>by cases k <;> exact h
 | (s,n,p) :: r,b,e,0,h=>by
  show Zc8 xs b e (f (s,n,p) :: r)
  rw [hf]
  exact h
 | (s,n,p) :: r,b,e,k+1,h=>⟨h.1,h.2.1,h.2.2.1,h.2.2.2.pow hf k⟩
section
variable {prog:Program}{w:World}{A:Around}{E:Value->Shared->Prop}{s:Shared}{st:SortSt}{a₀:Array Keyed}
structure SP (a₀:Array Keyed) (lo:Nat) (st:SortSt):Prop where
 perm:(arrOf st).Perm a₀
 kind:kindOf st=oneType'
 failed:failedOf st=none
 chain:Zc8 (arrOf st) 0 lo (pendingOf st).toList
theorem SP.sx {lo:Nat} (h:SP a₀ lo st):SX a₀ (pendingOf st) st:=⟨h.perm,h.kind,h.failed,rfl⟩
theorem stepX {lo i:Nat}{Q:Bool->SortSt->Prop} (h0:IntKeys a₀) (hB:SP a₀ lo st) (hlo:lo<=a₀.size) (hi:i+1<(pendingOf st).size)
  (h:∀ st',SP a₀ lo st'->(pendingOf st').size+1=(pendingOf st).size->(∀ j,lo<=j->(arrOf st')[j]? = (arrOf st)[j]?)->Q true st'):wpS (model prog w) A E s (mergeAt' i) Q st:=by
 obtain ⟨sa,na,nb,pw,pw2,e1,e2,g1,g2,g3,g4,g5,g6,g7⟩:=hB.chain.at i (by rw [Zsf];exact hi)
 rw [Zse] at e1 e2
 refine merX h0 hB.sx e1 e2 g1 g2 (by omega) g5 g6 fun st' hX hfr hso=>?_
 refine h st' ⟨hX.perm,hX.kind,hX.failed,?_⟩ ?_ fun j hj=>hfr j (.inr (by omega))
 ·have:=g7 (arrOf st') (fun j hj=>K_congr (hfr j hj)) hso
  rw [hX.pend,Zsp,dif_pos (by rw [Zsk];exact hi),Array.toList_eraseIdx,Array.toList_setIfInBounds]
  exact this
 ·rw [hX.pend,Zsp,dif_pos (by rw [Zsk];exact hi),Array.size_eraseIdx,Zsk]
  omega
theorem allX {Q:Unit->SortSt->Prop} (h0:IntKeys a₀) (hB:SP a₀ 0 st) (hp:pendingOf st = #[]) (h2:0<a₀.size)
  (h:∀ st',(arrOf st').Perm a₀->failedOf st'=none->SortedTo (arrOf st') a₀.size->Q () st'):wpS (model prog w) A E s sortRuns' Q st:=by
 rw [sortRuns'_eq]
 refine wpS_bind (wpS_get ?_)
 have hsz:(arrOf st).size=a₀.size:=hB.perm.size_eq
 extract_lets sz mr lo0
 refine wpS_bind (wpS_mono (wpS_forRange (I:=fun x c st'=>∃ lo,c=(none,lo)/\SP a₀ lo st'/\lo<=a₀.size/\x<=lo)
  (Q:=fun c st'=>c=(none,a₀.size)/\SP a₀ a₀.size st') ?o1 ?o2 ⟨0,rfl,hB,by omega,ZrN _⟩) ?o3)
 case o2 =>
  rintro c st' ⟨lo,rfl,hP,h3,h4⟩
  have h4:max 0 (arrOf st).size<=lo:=h4
  have:lo=a₀.size:=by omega
  subst this
  exact ⟨rfl,hP⟩
 case o1 =>
  rintro x c st' _ hx ⟨lo,rfl,hP,h3,h4⟩
  extract_lets lo1 jp fo nf
  by_cases c1:lo ≥ a₀.size
  ·rw [if_pos (by show lo ≥ (arrOf st).size;omega)]
   have:lo=a₀.size:=by omega
   subst this
   exact wpS_pure ⟨rfl,hP⟩
  rw [if_neg (by show ¬ lo ≥ (arrOf st).size;omega)]
  refine wpS_bind (runX h0 (by show lo+((arrOf st).size - lo)<=_;omega) (by show 1<=(arrOf st).size - lo;omega) hP.sx fun m st2 hX2 hFr hm1 hm2 hSo=>?_)
  have hm2:m<=(arrOf st).size - lo:=hm2
  have P2:SP a₀ lo st2:=⟨hX2.perm,hX2.kind,hX2.failed,by rw [hX2.pend];exact hP.chain.same fun j g1 g2=>hFr.key g2⟩
  have hSo:So (arrOf st2) lo (lo+m):=hSo
  refine wpS_mono (Q:=fun r st4=>∃ lo',r=.yield (none,lo')/\SP a₀ lo' st4/\lo<lo'/\lo'<=a₀.size) ?_ ?_
  rotate_left
  ·rintro _ st4 ⟨lo',rfl,g1,g2,g3⟩
   exact ⟨lo',rfl,g1,g3,by omega⟩
  dsimp -zeta only
  extract_lets n0
  have hjp:∀ u n st2,SP a₀ lo st2->0<n->lo+n<=a₀.size->So (arrOf st2) lo (lo+n)->wpS (model prog w) A E s (jp u n) (fun r st4=>∃ lo',r=.yield (none,lo')/\SP a₀ lo' st4/\lo<lo'/\lo'<=a₀.size) st2:=by
   intro u n st2 P2 hn hle hso
   refine wpS_bind (wpS_get ?_)
   extract_lets lo2 jp2
   have hjp2:∀ u st3,SP a₀ lo st3->So (arrOf st3) lo (lo+n)->wpS (model prog w) A E s (jp2 u) (fun r st4=>∃ lo',r=.yield (none,lo')/\SP a₀ lo' st4/\lo<lo'/\lo'<=a₀.size) st3:=by
    intro u st3 P3 hso3
    refine wpS_bind (wpS_modify (wpS_pure ⟨lo+n,rfl,⟨P3.perm,P3.kind,P3.failed,?_⟩,by omega,hle⟩))
    show Zc8 (arrOf st3) 0 (lo+n) ((pendingOf st3).push (lo,n,0)).toList
    rw [Zsh]
    exact P3.chain.snoc hn hso3
   cases hbk:(pendingOf st2).back? with
   | none =>
    exact hjp2 () st2 P2 hso
   | some v =>
    obtain ⟨s1,n1,p1⟩:=v
    dsimp -zeta only
    extract_lets pw
    refine wpS_bind (wpS_mono (wpS_forRange (I:=fun x c st3=>c=(none,())/\SP a₀ lo st3/\So (arrOf st3) lo (lo+n))
     (Q:=fun c st3=>c=(none,())/\SP a₀ lo st3/\So (arrOf st3) lo (lo+n)) ?l1 (fun _ _ hh=>hh) ⟨rfl,P2,hso⟩) ?l2)
    case l1 =>
     rintro x c st3 _ _ ⟨rfl,P3,hs3⟩
     refine wpS_bind (wpS_get ?_)
     extract_lets pp
     by_cases c2:(pendingOf st3).size > 1
     ·rw [if_pos c2]
      have e:(pendingOf st3)[(pendingOf st3).size - 2]? = some (pendingOf st3)[(pendingOf st3).size - 2]:=Zsl (by omega)
      show wpS (model prog w) A E s (match (pendingOf st3)[(pendingOf st3).size - 2]? with | some (_,_,older)=>_ | x=>_) _ _
      rw [e]
      dsimp -zeta only
      split
      ·exact wpS_pure ⟨rfl,P3,hs3⟩
      ·refine wpS_bind (stepX h0 P3 h3 (by show (pendingOf st3).size - 2+1<_;omega) fun st4 P4 _ hfr=>?_)
       rw [if_neg (by simp)]
       refine wpS_pure ⟨rfl,P4,fun i' j' l1 l2 l3=>?_⟩
       rw [K_congr (hfr i' l1),K_congr (hfr j' (by omega))]
       exact hs3 i' j' l1 l2 l3
     ·rw [if_neg c2]
      exact wpS_pure ⟨rfl,P3,hs3⟩
    case l2 =>
     rintro c st3 ⟨rfl,P3,hs3⟩
     extract_lets
     refine wpS_bind (wpS_modify ?_)
     refine hjp2 () _ ⟨P3.perm,P3.kind,P3.failed,?_⟩ hs3
     show Zc8 (arrOf st3) 0 lo ((pendingOf st3).modify ((pendingOf st3).size - 1) _).toList
     rw [Array.toList_modify]
     exact P3.chain.pow (pw:=pw) (fun _=>rfl) _
  by_cases c3:m<mr
  ·rw [if_pos c3]
   refine wpS_bind (wpS_lift (wpAny_rule ⟨rfl,?_⟩))
   have hfo:fo=min ((arrOf st).size - lo) mr:=rfl
   refine wpS_bind (insX (lo:=lo) (ok:=m) h0 (by omega) (by omega) P2.sx hSo fun st3 hX3 hFr3 hSo3=>?_)
   rw [if_neg (by simp)]
   exact hjp () fo st3 ⟨hX3.perm,hX3.kind,hX3.failed,by rw [hX3.pend];exact P2.chain.same fun j g1 g2=>hFr3.key g2⟩ (by omega) (by omega) hSo3
  ·rw [if_neg c3]
   exact hjp () m st2 P2 hm1 (by omega) hSo
 case o3 =>
  rintro c st' ⟨rfl,hP⟩
  dsimp -zeta only
  extract_lets
  have hle0:=hP.chain.le
  rw [Zsf] at hle0
  refine wpS_bind (wpS_mono (wpS_forRange (I:=fun x c st3=>c=(none,())/\SP a₀ a₀.size st3/\x+(pendingOf st3).size<=a₀.size+1)
   (Q:=fun c st3=>c=(none,())/\SP a₀ a₀.size st3/\(pendingOf st3).size<=1) ?m1 ?m2 ⟨rfl,hP,by omega⟩) ?m3)
  case m2 =>
   rintro c st3 ⟨rfl,P3,hx⟩
   have hx:max 0 (arrOf st).size+(pendingOf st3).size<=a₀.size+1:=hx
   exact ⟨rfl,P3,by omega⟩
  case m1 =>
   rintro x c st3 _ _ ⟨rfl,P3,hx⟩
   extract_lets
   refine wpS_bind (wpS_get ?_)
   extract_lets pp i1 bf i2
   by_cases c2:(pendingOf st3).size<=1
   ·rw [if_pos c2]
    exact wpS_pure ⟨rfl,P3,c2⟩
   rw [if_neg c2]
   have hi3:i2<=(pendingOf st3).size - 2:=by
    show (if _ then (pendingOf st3).size - 2 - 1 else (pendingOf st3).size - 2)<=(pendingOf st3).size - 2
    split
    ·exact Nat.sub_le _ _
    ·exact ZrN _
   have hi2:i2+1<(pendingOf st3).size:=Nat.lt_of_le_of_lt (Nat.succ_le_succ hi3) (by omega)
   refine wpS_bind (stepX h0 P3 (ZrN _) hi2 fun st4 P4 hz _=>?_)
   rw [if_neg (by simp)]
   exact wpS_pure ⟨rfl,P4,by omega⟩
  case m3 =>
   rintro c st3 ⟨rfl,P3,hx⟩
   refine wpS_pure (h st3 P3.perm P3.failed ?_)
   have hc:=P3.chain
   rw [<- Zsf] at hx
   generalize (pendingOf st3).toList=l at hc hx
   match l,hc,hx with
   | [],hc,_=>have hc:0=a₀.size:=hc;omega
   | [(s1,n1,p1)],hc,_ =>
    obtain ⟨rfl,g1,g2,g3⟩:=hc
    have g3:0+n1=a₀.size:=g3
    intro i j hij hj
    exact g2 i j (ZrS _) hij (by omega)
   | _ :: _ :: _,_,hx=>simp at hx
end
end SR
namespace SR
open PySem PyProof.Rows
section
variable {prog:Program}{w:World}{A:Around}{E:Value->Shared->Prop}{s:Shared}
theorem ZmA {a:Addr}{vs:List Value}{ns:List Int}{n:Nat}{P:Fin->Shared->Prop} (ho:s.heap.get? a=some (seqObj "list" vs.toArray n)) (hI:IntsAre vs ns) (hz:vs.length<=1000000)
  (h:∀ (out:Array Value) (ns':List Int),IntsAre out.toList ns'->ns'.Perm ns->ns'.Pairwise (· <= ·)->P (.done (.ret .none)) { s with heap:=sortedHeap s.heap a vs out }) :
  wpAny (model prog w) A (Builtin.«list.sort» ⟨[.ref a],[]⟩) P E s:=by
 by_cases h64:vs.length<64
 ·exact list_sort_tree ho hI h64 h
 rw [list_sort_plain]
 have big:(1000000:Nat)<=sizeLine:=by decide
 have hvs:vs.toArray.size=vs.length:=by simp
 refine wpAny_bind (listItems_at ho rfl ?_);skip
 refine wpAny_bind (listUpdate_at ho rfl ?_ (hsz:=by rw [hvs];omega) (hsz2:=by show 0<=_;omega))
 obtain ⟨e1,ho1⟩:∃ e1,(s.heap.update a (Obj.mapSeq fun _=>#[])).get? a=some (seqObj "list" #[] e1):=⟨_,get?_update_seq ho (fun _=>#[])⟩
 refine wpAny_bind (seqEpoch_at ho1 rfl ?_);skip
 refine wpAny_bind (wpAny_newTuple ?_)
 refine wpAny_bind (wpAny_newList ?_);skip
 refine wpAny_holding ?_
 have ha:a<s.heap.objs.size:=Heap.lt_size ho
 have ho6:(((s.heap.update a (Obj.mapSeq fun _=>#[])).push (seqObj "tuple" vs.toArray 0)).push (seqObj "list" #[] 0)).get? a=some (seqObj "list" #[] e1):=by
  rw [Heap.get?_push_ne _ _ _ (by rw [size_push',Heap.size_update];exact ZrP (Nat.lt_succ_of_lt ha)),Heap.get?_push_ne _ _ _ (by rw [Heap.size_update];exact ZrP ha)]
  exact ho1
 show wpAny (model prog w) A _ P E { s with heap:=((s.heap.update a (Obj.mapSeq fun _=>#[])).push (seqObj "tuple" vs.toArray 0)).push (seqObj "list" #[] 0) }
 dsimp only
 rw [if_neg (by rw [hvs];omega),if_neg (by rw [hvs];omega)]
 obtain ⟨v₁,v₂,rest,rfl⟩:∃ v₁ v₂ rest,vs=v₁ :: v₂ :: rest:=by
  match vs,h64 with
  | [],h64=>simp at h64
  | [_],h64=>simp at h64
  | v₁ :: v₂ :: rest,_=>exact ⟨v₁,v₂,rest,rfl⟩
 rw [keyKind_ints hI]
 refine wpAny_bind (wpAny_pure ?_)
 refine wpAny_bind (wpAny_mono (allX (a₀:=pairsOf (v₁ :: v₂ :: rest)) (st:=SortSt.mk' oneType' ((v₁ :: v₂ :: rest).toArray.zip (v₁ :: v₂ :: rest).toArray) #[] 7 none)
  (Q:=fun _ st'=>(arrOf st').Perm (pairsOf (v₁ :: v₂ :: rest))/\failedOf st'=none/\SortedTo (arrOf st') (pairsOf (v₁ :: v₂ :: rest)).size)
  hI.intKeys ⟨Array.Perm.refl _,rfl,rfl,rfl⟩ rfl (by rw [pairsOf_size];omega) fun st' a1 a2 a3=>⟨a1,a2,a3⟩) ?_ fun _ _ e=>e)
 rintro ⟨⟨⟩,st'⟩ s' ⟨rfl,hp,hf,hs⟩
 dsimp only
 refine wpAny_bind (seqEpoch_at ho6 rfl ?_);skip
 refine wpAny_bind (listUpdate_at ho6 rfl ?_ (hsz2:=by refine ZrR (ZrW ((Array.size_map ..).trans (hp.size_eq.trans (pairsOf_size _)))) ?_;omega))
 rw [hf]
 simp only [bne_self_eq_false,Zss,if_false]
 obtain ⟨ns',h1,h2,h3⟩:=sorted_out hI hp hs
 exact wpAny_pure (h _ ns' h1 h2 h3)
end
end SR
set_option maxHeartbeats 4000000
namespace DE
open PySem DZ
section
variable {prog:Program}{w:World}{A:Around}{E:Value->Shared->Prop}{h:Heap}{g:Array GenState}{d:Drawn}{t:Nat}{os:OsState}{z:Addr}{vs:Array Value}
end
structure ES (e it l:Addr) (xs:Array Value) (i:Nat) (h:Heap):Prop where
 eo:∃ f0 f1 old,h.get? e=some { cls:=.type "enumerate",dict:=none,data:=.fields #[f0,.bool f1,.ref it,rawInt i,.none,old],slots:=#[] }/\(f0=.none\/∃ (T:Addr) (o:Obj),f0=rawInt T/\h.get? T=some o/\T≠e/\T≠it)
 a1:h.IsListIter it l i
 l1:h.IsList l xs
section
variable {prog:Program}{w:World}{A:Around}{E:Value->Shared->Prop}{s:Shared}
variable {κ:Type} [DecidableEq κ] {knd:KeyKind prog w κ}
end
end DE
namespace L2
open PySem PySem.Spec PyProof.Rows
noncomputable def keyR (n:Nat):List Key:=(Zqq n).map fun i:Nat=>Sum.inl (i:Int)
noncomputable def cDictEn (K:ZpF) (t:TA):TE:=fun σ H Q=>t σ H fun vs H1=>match vs with
 | [.ref a]=>∃ ys:List V,H1 a=some (.lst ys)/\ys.length<=1000/\∀ p H',New H1 p (.dK (Zf5 [] ((keyR ys.length).zip ys))) H'->Q (.ref p) H'
 | _=>False
noncomputable def Zpq (K:ZpF):List V->Hp->VK->Prop:=fun vs H Q=>match vs with
 | [.ref a]=>∃ ns:List Int,SqL K H a (ns.map V.int)/\0<ns.length/\∀ M,M∈ns->(∀ x∈ns,x<=M)->Q (.int M) H
 | _=>False
theorem c_maxL {X:Cx} (hc:X.calm=true):Zc9 X (.builtin "max") (Zpq X.K):=by
 intro pins s σ H xs us Q I r h
 match xs,h with
 | [.ref p],h =>
  obtain ⟨ns,hq,hne,q⟩:=h
  obtain ⟨u1,rfl,e1⟩:=Zgt r
  cases e1
  obtain ⟨its,r',pl,hz⟩:=I.list hq
  have hA:=ZgN r'
  obtain ⟨xs,hxs⟩:=hA.allInts.items
  have hn:numsOf (intItems xs).toList=ns:=by rw [<- hxs];exact hA.numsOf
  rw [nums_intItems] at hn
  have hll:xs.size=ns.length:=by rw [<- hn,Zqi,Zsf]
  have hl:=pl.isList
  rw [hxs] at hl
  refine max_intList (I.ok.hd hc) hl (by omega) fun v h' tk hv hk=>?_
  obtain ⟨t,rfl⟩:=intItems_at hv
  obtain ⟨h1,h2⟩:=argBest_gt (numAt xs) (xs.size - 1)
  refine ⟨.int _,H,I.kept (t':=tk) hk,⟨t,rfl⟩,q _ ?_ fun a ha=>?_⟩
  ·rw [numAt_eq,hn]
   exact getD_mem (by omega)
  ·obtain ⟨j,hj,rfl⟩:=mem_getD ha
   have:=h2 j (by omega)
   rwa [numAt_eq,hn] at this
end L2
set_option maxHeartbeats 4000000
namespace SD
open PySem PySem.Spec PyProof.Rows
section
variable {prog:Program}{w:World}{A:Around}{E:Value->Shared->Prop}{s:Shared}{T:String}{r d:Addr}{n:Nat}{P:Nat->Value->Prop}{OK:Heap->Prop}
theorem Zm0 {R:Result->Shared->Prop}{L:Addr}{c:Nat} (K:Zp6 prog w T r d n P OK) (hh:A.handled=none) (hok:OK s.heap) (hr:L≠r) (hd:L≠d) (hL:s.heap.get? L=some { cls:=.type "list",data:=.seq #[] c }) (hn:n<=sizeLine)
  (hR:∀ h' tk acc' c',(∀ b o,b≠L->s.heap.get? b=some o->h'.get? b=some o)->h'.get? L=some { cls:=.type "list",dict:=none,data:=.seq acc' c',slots:=#[] }->ItemsOf P acc' n->R (.ok (.ret (.ref L))) { s with heap:=h',toks:=tk }) :
  codeAny (model prog w) A (.builtin "list.__iadd__" ⟨[.ref L,.ref r],[]⟩) R s:=by
 refine codeAny_builtin entry_list_iadd' ?_
 rw [Around.under_plainId (show plainId "list.__iadd__" = true by decide +kernel) _]
 exact PySem.W.kdl_extend K hh hok L hr hd (.ref L) c hL hR hn
theorem Zjf {Q:List Value->Shared->Prop} (K:Zp6 prog w T r d n P OK) (hh:A.handled=none) (hok:OK s.heap) (hn:n<=sizeLine)
  (q:∀ acc h' tk,(∀ b o,s.heap.get? b=some o->h'.get? b=some o)->s.heap.objs.size<h'.objs.size->ItemsOf P acc n->Q acc.toList { s with heap:=h',toks:=tk }):wpAny (model prog w) A (collect (.ref r)) Q E s:=by
 obtain ⟨hr,hd⟩:=K.there s.heap hok
 unfold collect;refine wpAny_bind (wpAny_runValue (codeAny_builtin entry_proto_collect' ?_));show wpAny _ _ (do again (.builtin "list.__iadd__" ⟨[<- newList [],.ref r],[]⟩)) _ _ s
 have hL0:(s.heap.push (seqObj "list" #[] 0)).get? s.heap.objs.size=some (seqObj "list" #[] 0):=Heap.get?_push_size _ rfl
 refine wpAny_bind (wpAny_newList (wpAny_pure ⟨Code.quiet_builtin _ (by decide +kernel),Zm0 (s:={ s with heap:=s.heap.push (seqObj "list" #[] 0) }) K hh (K.keep _ _ hok fun b _ o e=>Heap.get?_push_of_some _ e) (ZrV hr) (ZrV hd) hL0 hn fun h' tk acc c kp hL' hi=>?_⟩))
 dsimp only;refine wpAny_bind (wpAny_load hL' (wpAny_pure ?_))
 exact q acc h' tk (fun b o e=>kp b o (ZrP (Heap.lt_size e)) (Heap.get?_push_of_some _ e)) (Heap.lt_size hL') hi
theorem Zka {Q:Value->Shared->Prop}{ks:List Int} (K:Zp6 prog w T r d n P OK) (hh:A.handled=none) (hok:OK s.heap) (h64:n<=100000) (hk:∀ acc,ItemsOf P acc n->IntsAre acc.toList ks)
  (q:∀ h' tk r out e ns',(∀ b o,s.heap.get? b=some o->h'.get? b=some o)->s.heap.objs.size<=r->h'.get? r=some (seqObj "list" out e)->IntsAre out.toList ns'->ns'.Perm ks->ns'.Pairwise (· <= ·)->Q (.ref r) { s with heap:=h',toks:=tk }) :
  wpAny (model prog w) A (call (.builtin "sorted") [.ref r]) Q E s:=by
 refine Calls.call_function_entry kind_sorted plain_sorted entry_sorted (args_sorted1 _) ?_;unfold Builtin.«sorted»;refine wpAny_bind (m:=checkCount "sorted" 1 1 _) (wpAny_pure ?_)
 refine wpAny_bind (Zjf K (by first | exact hh | simpa using hh) hok (by rw [sizeLine_eq];omega) fun acc h' tk kp hlt hi=>?_)
 have a1:=hk acc hi
 have hvl:acc.toList.length<=1000000:=by rw [Zsf,hi.1];omega
 refine wpAny_bind (wpAny_newList ?_ (by rw [sizeLine_eq];omega))
 have hoL:(h'.push (seqObj "list" acc.toList.toArray 0)).get? h'.objs.size=some (seqObj "list" acc.toList.toArray 0):=Heap.get?_push_size _ rfl
 show wpAny _ _ _ _ _ { s with heap:=h'.push (seqObj "list" acc.toList.toArray 0),toks:=tk }
 refine wpAny_bind (wpAny_holding (wpAny_call_entry slot_list_sort ⟨_,hoL,rfl⟩ entry_list_sort (SR.ZmA hoL a1 hvl fun out ns' b1 b2 b3=>⟨_,rfl,wpAny_pure ⟨_,rfl,?_⟩⟩) (args_list_sort _)))
 obtain ⟨⟨e,at_⟩,old⟩:=SS.ZkZ (out:=out) hoL
 exact q _ tk _ out e ns' (fun b o x=>old b o (ZrP (Nat.lt_trans (Heap.lt_size x) hlt)) (Heap.get?_push_of_some _ (kp b o x))) (ZrZ hlt) at_ b1 b2 b3
end
end SD
namespace L2
open PySem PySem.Spec PyProof.Rows
noncomputable def ZjU (_:ZpF):List V->Hp->VK->Prop:=fun vs H Q=>match vs with
 | [.ref p]=>∃ (kvs:List (Key × V)) (ns:List Int),Rd H p (.dK kvs)/\kvs.map (·.1)=ns.map Sum.inl/\ns.length<=100000/\∀ (ns':List Int) (l:Addr) (H':Hp),ns'.Perm ns->ns'.Pairwise (· <= ·)->New H l (.lst (ns'.map V.int)) H'->Q (.ref l) H'
 | _=>False
theorem Zmb {X:Cx} (hc:X.calm=true):Zc9 X (.builtin "sorted") (ZjU X.K):=by
 intro pins s σ H xs us Q I r h
 match xs,h with
 | [.ref p],h =>
  obtain ⟨kvs,ns,e,hns,h64,q⟩:=h
  obtain ⟨u1,rfl,e1⟩:=Zgt r
  cases e1
  obtain ⟨z,y,vs,rel,dd⟩:=ZhA I.hok e
  obtain ⟨ep,hat⟩:=dd.dictAt
  have hlen:=rel.length
  have hnl:kvs.length=ns.length:=by have:=congrArg List.length hns;rwa [Zqi,Zqi] at this
  refine SD.Zka (ks:=ns) (PySem.W.kdl_dict (knd:=Zbo X.prog X.w) (kvs:=vs) (ep:=ep) y) (I.ok.hd hc) hat (by omega) (fun acc ⟨ha,hb⟩=>?_) fun h' tk l out e' ns' kp hge at_ b1 b2 b3=>?_
  ·have key:∀ n,n<=kvs.length->Vals ((kvs.take n).map fun kv=>kV kv.1) (acc.toList.take n):=by
    intro n
    induction n with
    | zero=>intro _;rw [Zrs,Zrs];exact .nil
    | succ n ih =>
     intro hn
     have han:n<acc.size:=by omega
     obtain ⟨k,x,hk,hv⟩:=hb n acc[n] (Zsl han)
     obtain ⟨p',g1,g2⟩:=ZeZ rel hk
     rw [ZqK,ZqK,show acc.toList[n]? = some acc[n] by simp [han],g1,Zqo]
     exact Paired.snoc (ih (by omega)) (show Zbr (kV p'.1) acc[n] by rw [g2.1];exact is_kV hv)
   have b3:=key kvs.length (ZrN _)
   rw [ZqV,Zrn (by rw [Zsf];omega)] at b3
   have e2:(kvs.map fun kv=>kV kv.1)=ns.map V.int:=by
    have:(kvs.map (·.1)).map kV=(ns.map Sum.inl).map kV:=by rw [hns]
    rw [Zqz,Zqz] at this
    exact this
   rw [e2] at b3
   exact ZgN b3
  ·have hsl:(100000:Nat)<=sizeLine:=by decide
   have hl3:ns'.length=ns.length:=b2.length_eq
   exact ⟨.ref l,_,I.laid (a:=l) (o:=.lst (ns'.map V.int)) (h':=h') (t':=tk) kp hge ⟨by rw [Zqi];omega,out.toList,e',ZfF b1,by rw [Zsn];exact at_⟩,rfl,q ns' l _ b2 b3 ⟨I.hok.fresh hge,rfl⟩⟩
end L2
namespace MZ
noncomputable abbrev Ab:=Nat->Option (Option Nat)
noncomputable abbrev Cm:=Nat->Option (Option Nat)
variable {lo:Nat->List Nat}{goal:Nat->Prop}
structure Flow (lo:Nat->List Nat) (goal:Nat->Prop) (ab:Ab):Prop where
 up:∀ p q,ab p=some (some q)->p∈lo q/\ab q≠none
 top:∀ p,ab p=some none->∃ g,goal g/\p∈lo g
 inj:∀ p p' q,ab p=some (some q)->ab p'=some (some q)->p=p'
 src:∀ p,ab p≠none->lo p≠[]->∃ p',ab p'=some (some p)
 ng:∀ p,ab p≠none->¬ goal p
noncomputable def nxt (lo:Nat->List Nat) (ab:Ab) (e:Nat):List Nat :=
 if e % 2=1 then (lo (e / 2)).map (fun l=>2 * l) ++ [2 * (e / 2)] else match ab (e / 2) with
  | none=>[2 * (e / 2)+1]
  | some none=>[]
  | some (some q)=>[2 * q+1]
theorem ZdM {ab:Ab}{p e:Nat} (h:e∈nxt lo ab (2 * p+1)):(∃ l∈lo p,e=2 * l)\/e=2 * p:=by
 unfold nxt at h
 rw [if_pos (by omega),show (2 * p+1) / 2=p by omega,Zqp,Zqr,Zql] at h
 rcases h with ⟨l,hl,rfl⟩ | h
 ·exact .inl ⟨l,hl,rfl⟩
 ·exact .inr h
theorem Zc3 {ab:Ab}{p e:Nat} (h:e∈nxt lo ab (2 * p)):(ab p=none/\e=2 * p+1)\/∃ q,ab p=some (some q)/\e=2 * q+1:=by
 unfold nxt at h
 rw [if_neg (by omega),show (2 * p) / 2=p by omega] at h
 cases ha:ab p with
 | none=>rw [ha] at h;exact .inl ⟨rfl,Zql.mp h⟩
 | some o =>
  rw [ha] at h
  cases o with
  | none=>simp at h
  | some q=>exact .inr ⟨q,rfl,Zql.mp h⟩
structure Path (lo:Nat->List Nat) (goal:Nat->Prop) (ab:Ab) (cm:Cm) (π:Nat->Prop) (s:Nat):Prop where
 succ:∀ e,π e->e≠2 * s+1->∃ e',π e'/\cm e'=some (some e)
 pred:∀ e,π e->cm e=some none\/∃ u,π u/\cm e=some (some u)
 uniq:∀ e e' u,π e->π e'->cm e=some (some u)->cm e'=some (some u)->e=e'
 step:∀ e u,π e->cm e=some (some u)->e∈nxt lo ab u
 start:∀ e,π e->cm e=some none->e % 2=0/\∃ g,goal g/\e / 2∈lo g
 fin:π (2 * s+1)
 spring:lo s=[]
 one:∀ t,π (2 * t+1)->lo t=[]->t=s
 far:∀ p,goal p->¬ π (2 * p)/\¬ π (2 * p+1)
 rk:∃ r:Nat->Nat,∀ e u,cm e=some (some u)->r u<r e
open Classical in
noncomputable def lead (ab:Ab) (cm:Cm) (π:Nat->Prop):Ab:=fun p=>if π (2 * p) then (match cm (2 * p) with
  | some none=>some none
  | some (some u)=>if u=2 * p+1 then none else some (some (u / 2))
  | none=>none) else ab p
section
variable {ab:Ab}{cm:Cm}{π:Nat->Prop}{s:Nat}
theorem ZbV {p:Nat} (h:¬ π (2 * p)):lead ab cm π p=ab p:=by unfold lead;rw [if_neg h]
theorem Zc5 {p:Nat} (h:π (2 * p)) (hc:cm (2 * p)=some none):lead ab cm π p=some none:=by unfold lead;rw [if_pos h,hc]
theorem ZeB {p:Nat} (h:π (2 * p)) (hc:cm (2 * p)=some (some (2 * p+1))):lead ab cm π p=none:=by unfold lead;rw [if_pos h,hc];simp
theorem Zc4 {p u:Nat} (h:π (2 * p)) (hc:cm (2 * p)=some (some u)) (hu:u≠2 * p+1):lead ab cm π p=some (some (u / 2)):=by unfold lead;rw [if_pos h,hc];simp [hu]
variable (F:Flow lo goal ab) (P:Path lo goal ab cm π s)
include P
theorem Zcu {p u:Nat} (h:π (2 * p)) (hc:cm (2 * p)=some (some u)):∃ q,u=2 * q+1/\(p∈lo q\/p=q):=by
 have hs:=P.step _ _ h hc
 rcases (by omega:u=2 * (u / 2)\/u=2 * (u / 2)+1) with e | e
 ·rw [e] at hs
  rcases Zc3 hs with ⟨_,z⟩ | ⟨q,_,z⟩ <;> omega
 ·rw [e] at hs
  refine ⟨u / 2,e,?_⟩
  rcases ZdM hs with ⟨l,hl,z⟩ | z
  ·rw [show p=l by omega];exact .inl hl
  ·exact .inr (by omega)
theorem ZeD {q:Nat} (h:π (2 * q+1)):(π (2 * q)/\cm (2 * q+1)=some (some (2 * q))/\ab q=none)\/∃ p,π (2 * p)/\cm (2 * q+1)=some (some (2 * p))/\ab p=some (some q):=by
 rcases P.pred _ h with hc | ⟨u,hu,hc⟩
 ·have:=(P.start _ h hc).1
  omega
 ·have hs:=P.step _ _ h hc
  rcases (by omega:u=2 * (u / 2)\/u=2 * (u / 2)+1) with e | e
  ·rw [e] at hs hc hu
   rcases Zc3 hs with ⟨ha,z⟩ | ⟨q',ha,z⟩
   ·have:u / 2=q:=by omega
    rw [this] at ha hc hu
    exact .inl ⟨hu,hc,ha⟩
   ·have:q'=q:=by omega
    subst this
    exact .inr ⟨u / 2,hu,hc,ha⟩
  ·rw [e] at hs
   rcases ZdM hs with ⟨l,hl,z⟩ | z <;> omega
include F
theorem ZlN {p q:Nat} (hq:ab q≠none) (h:π (2 * q+1)) (hp:ab p=some (some q)):π (2 * p)/\cm (2 * q+1)=some (some (2 * p)):=by
 rcases ZeD P h with ⟨_,_,z⟩ | ⟨p',h1,h2,h3⟩
 ·exact absurd z hq
 ·rw [F.inj p p' q hp h3]
  exact ⟨h1,h2⟩
theorem Zpb {p q:Nat} (h:π (2 * p)) (hp:ab p=some (some q)):π (2 * q+1)/\cm (2 * q+1)=some (some (2 * p)):=by
 obtain ⟨e,he,hc⟩:=P.succ _ h (by omega)
 rcases Zc3 (P.step _ _ he hc) with ⟨z,_⟩ | ⟨q',z,rfl⟩
 ·rw [hp] at z;cases z
 ·rw [hp] at z
  cases z
  exact ⟨he,hc⟩
omit F in
theorem ZjM {p:Nat} (h:π (2 * p)) (hp:ab p=none):π (2 * p+1)/\cm (2 * p+1)=some (some (2 * p)):=by
 obtain ⟨e,he,hc⟩:=P.succ _ h (by omega)
 rcases Zc3 (P.step _ _ he hc) with ⟨_,rfl⟩ | ⟨q',z,_⟩
 ·exact ⟨he,hc⟩
 ·rw [hp] at z;cases z
omit F in
omit F in
theorem Zpg {q:Nat} (h:π (2 * q+1)) (hq:lo q≠[]):∃ l,π (2 * l)/\cm (2 * l)=some (some (2 * q+1))/\(l∈lo q\/l=q):=by
 obtain ⟨e,he,hc⟩:=P.succ _ h (fun z=>hq ((show s=q by omega) ▸ P.spring))
 rcases ZdM (P.step _ _ he hc) with ⟨l,hl,rfl⟩ | rfl
 ·exact ⟨l,he,hc,.inl hl⟩
 ·exact ⟨q,he,hc,.inr rfl⟩
omit F in
theorem Zln {p:Nat} (h1:cm (2 * p)=some (some (2 * p+1))) (h2:cm (2 * p+1)=some (some (2 * p))):False:=by
 obtain ⟨r,hr⟩:=P.rk
 have a:=hr _ _ h1
 have b:=hr _ _ h2
 omega
variable (hlt:∀ p l,l∈lo p->l<p)
include hlt
theorem ZlA:Flow lo goal (lead ab cm π):=by
 refine ⟨fun p q h=>?_,fun p h=>?_,fun p p' q h h'=>?_,fun p h hp=>?_,fun p h=>?_⟩
 ·-- up
  by_cases hp:π (2 * p)
  ·rcases P.pred _ hp with hc | ⟨u,hu,hc⟩
   ·rw [Zc5 hp hc] at h;cases h
   ·obtain ⟨q',rfl,hl⟩:=Zcu P hp hc
    by_cases e:p=q'
    ·subst e
     rw [ZeB hp hc] at h;cases h
    ·rw [Zc4 hp hc (by omega)] at h
     have:q'=q:=by have:=Option.some.inj (Option.some.inj h);omega
     subst this
     refine ⟨hl.resolve_right e,fun hn=>?_⟩
     -- q' is not taken out
     by_cases hq:π (2 * q')
     ·rcases P.pred _ hq with hc2 | ⟨u2,hu2,hc2⟩
      ·rw [Zc5 hq hc2] at hn;cases hn
      ·obtain ⟨q2,rfl,hl2⟩:=Zcu P hq hc2
       by_cases e2:q'=q2
       ·subst e2
        have:=P.uniq _ _ _ hp hq hc hc2
        omega
       ·rw [Zc4 hq hc2 (by omega)] at hn;cases hn
     ·rw [ZbV hq] at hn
      rcases ZeD P hu with ⟨z,_⟩ | ⟨p3,_,_,z⟩
      ·exact hq z
      ·exact (F.up _ _ z).2 hn
  ·rw [ZbV hp] at h
   obtain ⟨h1,h2⟩:=F.up p q h
   refine ⟨h1,fun hn=>?_⟩
   by_cases hq:π (2 * q)
   ·rcases P.pred _ hq with hc2 | ⟨u2,hu2,hc2⟩
    ·rw [Zc5 hq hc2] at hn;cases hn
    ·obtain ⟨q2,rfl,hl2⟩:=Zcu P hq hc2
     by_cases e2:q=q2
     ·subst e2
      exact hp (ZlN F P h2 hu2 h).1
     ·rw [Zc4 hq hc2 (by omega)] at hn;cases hn
   ·rw [ZbV hq] at hn
    exact h2 hn
 ·-- top
  by_cases hp:π (2 * p)
  ·rcases P.pred _ hp with hc | ⟨u,hu,hc⟩
   ·have:=(P.start _ hp hc).2
    rwa [show 2 * p / 2=p by omega] at this
   ·obtain ⟨q',rfl,hl⟩:=Zcu P hp hc
    by_cases e:p=q'
    ·subst e
     rw [ZeB hp hc] at h;cases h
    ·rw [Zc4 hp hc (by omega)] at h;cases h
  ·rw [ZbV hp] at h
   exact F.top p h
 ·-- inj
  have key:∀ p,lead ab cm π p=some (some q)->(π (2 * p)/\cm (2 * p)=some (some (2 * q+1)))\/(¬ π (2 * p)/\ab p=some (some q)):=fun p h=>by
   by_cases hp:π (2 * p)
   ·rcases P.pred _ hp with hc | ⟨u,hu,hc⟩
    ·rw [Zc5 hp hc] at h;cases h
    ·obtain ⟨q',rfl,hl⟩:=Zcu P hp hc
     by_cases e:p=q'
     ·subst e
      rw [ZeB hp hc] at h;cases h
     ·rw [Zc4 hp hc (by omega)] at h
      have:q'=q:=by have:=Option.some.inj (Option.some.inj h);omega
      subst this
      exact .inl ⟨hp,hc⟩
   ·rw [ZbV hp] at h
    exact .inr ⟨hp,h⟩
  have mix:∀ a b,π (2 * a)->cm (2 * a)=some (some (2 * q+1))->¬ π (2 * b)->ab b=some (some q)->False:=fun a b ha hc hb hab=>by
   have hfq:π (2 * q+1):=by
    rcases P.pred _ ha with z | ⟨u,hu,z⟩
    ·rw [hc] at z;cases z
    ·rw [hc] at z;cases z;exact hu
   exact hb (ZlN F P (F.up _ _ hab).2 hfq hab).1
  rcases key p h with ⟨a1,a2⟩ | ⟨a1,a2⟩ <;> rcases key p' h' with ⟨b1,b2⟩ | ⟨b1,b2⟩
  ·have:=P.uniq _ _ _ a1 b1 a2 b2
   omega
  ·exact (mix p p' a1 a2 b1 b2).elim
  ·exact (mix p' p b1 b2 a1 a2).elim
  ·exact F.inj p p' q a2 b2
 ·-- src
  -- behind the foot of p a head below it
  have below:π (2 * p+1)->¬ (π (2 * p)/\cm (2 * p)=some (some (2 * p+1)))->∃ p',lead ab cm π p'=some (some p):=fun hf hno=>by
   obtain ⟨l,hl,hc,hl2⟩:=Zpg P hf hp
   rcases hl2 with hl2 | rfl
   ·have:=hlt _ _ hl2
    refine ⟨l,?_⟩
    rw [Zc4 hl hc (by omega)]
    congr 2
    omega
   ·exact absurd ⟨hl,hc⟩ hno
  have old:ab p≠none->¬ (π (2 * p)/\cm (2 * p)=some (some (2 * p+1)))->∃ p',lead ab cm π p'=some (some p):=fun hab hno=>by
   obtain ⟨p0,h0⟩:=F.src p hab hp
   by_cases hp0:π (2 * p0)
   ·exact below (Zpb F P hp0 h0).1 hno
   ·exact ⟨p0,by rw [ZbV hp0];exact h0⟩
  have hno:¬ (π (2 * p)/\cm (2 * p)=some (some (2 * p+1))):=fun ⟨z1,z2⟩=>h (ZeB z1 z2)
  by_cases hab:ab p=none
  ·by_cases hpi:π (2 * p)
   ·exact below (ZjM P hpi hab).1 hno
   ·rw [ZbV hpi] at h
    exact absurd hab h
  ·exact old hab hno
 ·-- goals
  intro hg
  have:=P.far p hg
  rw [ZbV this.1] at h
  exact F.ng p h hg
theorem Zii:ab s=none/\lead ab cm π s≠none/\∀ t,lo t=[]->t≠s->(lead ab cm π t≠none ↔ ab t≠none):=by
 have hs:π (2 * s)/\cm (2 * s+1)=some (some (2 * s))/\ab s=none:=by
  rcases ZeD P P.fin with z | ⟨p,_,_,z⟩
  ·exact z
  ·have:=(F.up _ _ z).1
   rw [P.spring] at this
   simp at this
 refine ⟨hs.2.2,fun hn=>?_,fun t ht hts=>?_⟩
 ·rcases P.pred _ hs.1 with hc | ⟨u,hu,hc⟩
  ·rw [Zc5 hs.1 hc] at hn;cases hn
  ·obtain ⟨q,rfl,hl⟩:=Zcu P hs.1 hc
   by_cases e:s=q
   ·subst e
    exact Zln P hc hs.2.1
   ·rw [Zc4 hs.1 hc (by omega)] at hn;cases hn
 ·by_cases hp:π (2 * t)
  ·have hab:ab t≠none:=fun z=>hts (P.one t (ZjM P hp z).1 ht)
   refine ⟨fun _=>hab,fun _ hn=>?_⟩
   rcases P.pred _ hp with hc | ⟨u,hu,hc⟩
   ·rw [Zc5 hp hc] at hn;cases hn
   ·obtain ⟨q,rfl,hl⟩:=Zcu P hp hc
    by_cases e:t=q
    ·subst e
     exact hts (P.one _ hu ht)
    ·rw [Zc4 hp hc (by omega)] at hn;cases hn
  ·rw [ZbV hp]
end
end MZ
namespace MZ
variable {lo:Nat->List Nat}{goal:Nat->Prop}{ab:Ab}
noncomputable abbrev Cs:=List (Nat × Option Nat)
noncomputable def ZaS (cs:Cs):Cm:=fun e=>(cs.find? fun x=>decide (x.1=e)).map (·.2)
noncomputable def ZaL (cs:Cs):List Nat:=cs.map (·.1)
theorem Zdd {cs:Cs} (nd:(ZaL cs).Nodup) {e:Nat}{f:Option Nat}:ZaS cs e=some f ↔ (e,f)∈cs:=by
 unfold ZaS
 induction cs with
 | nil=>simp
 | cons x r ih =>
  obtain ⟨a,b⟩:=x
  unfold ZaL at nd ih
  rw [ZqB,ZqY] at nd
  by_cases h:a=e
  ·subst h
   rw [ZrI (by simp),Option.map_some,Zqt]
   constructor
   ·intro z
    cases z
    exact .inl rfl
   ·rintro (z | z)
    ·cases z;rfl
    ·exact absurd (Zqr.mpr ⟨_,z,rfl⟩) nd.1
  ·rw [ZrJ (by simpa using h),ih nd.2,Zqt]
   constructor
   ·exact .inr
   ·rintro (z | z)
    ·cases z;exact absurd rfl h
    ·exact z
structure Came (lo:Nat->List Nat) (goal:Nat->Prop) (ab:Ab) (cs:Cs):Prop where
 nd:(ZaL cs).Nodup
 from_:∀ (i:Nat) e u,cs[i]? = some (e,some u)->(∃ (j:Nat) (f:Option Nat),j<i/\cs[j]? = some (u,f))/\e∈nxt lo ab u/\∀ t,u=2 * t+1->lo t≠[]
 start:∀ e,(e,none)∈cs->e % 2=0/\∃ g,goal g/\e / 2∈lo g
 all:∀ g l,goal g->l∈lo g->(2 * l,none)∈cs
theorem Came.snoc {cs:Cs} (c:Came lo goal ab cs) {e u:Nat} (hu:u∈ZaL cs) (he:e ∉ ZaL cs) (hn:e∈nxt lo ab u) (hs:∀ t,u=2 * t+1->lo t≠[]):Came lo goal ab (cs ++ [(e,some u)]):=by
 refine ⟨?_,fun i e' u' h=>?_,fun e' h=>?_,fun g l hg hl=>ZqJ _ (c.all g l hg hl)⟩
 ·unfold ZaL at he ⊢
  rw [Zqo,Zrc]
  refine ⟨c.nd,by simp,fun x hx y hy z=>?_⟩
  simp only [ZqB,ZqZ,Zql] at hy
  subst hy
  subst z
  exact he hx
 ·rcases ZrO i cs.length with l | l
  ·rw [ZqC l] at h
   obtain ⟨⟨j,f,hj,hj2⟩,h2⟩:=c.from_ i e' u' h
   exact ⟨⟨j,f,hj,by rw [ZqC (by omega)];exact hj2⟩,h2⟩
  ·have hi:i=cs.length:=by
    have:=(Zqm.mp h).1
    rw [Zqj] at this
    simp at this
    omega
   subst hi
   rw [ZqD (ZrN _),ZrT] at h
   cases h
   obtain ⟨x,hx,e1⟩:=Zqr.mp hu
   obtain ⟨j,hj⟩:=Zq5.mp hx
   obtain ⟨a,b⟩:=x
   cases e1
   have hjl:=(Zqm.mp hj).1
   exact ⟨⟨j,b,hjl,by rw [ZqC hjl];exact hj⟩,hn,hs⟩
 ·rcases Zqp.mp h with z | z
  ·exact c.start e' z
  ·rw [Zql] at z
   cases z
inductive On (cm:Cm) (t:Nat):Nat->Prop where
 | here:On cm t t
 | up {e u:Nat} (h:On cm t e) (hc:cm e=some (some u)):On cm t u
noncomputable def it (cm:Cm) (t:Nat):Nat->Option Nat
 | 0=>some t
 | i+1=>(it cm t i).bind fun e=>(cm e).join
theorem On.it {cm:Cm}{t e:Nat} (h:On cm t e):∃ i,MZ.it cm t i=some e:=by
 induction h with
 | here=>exact ⟨0,rfl⟩
 | up h hc ih =>
  obtain ⟨i,hi⟩:=ih
  exact ⟨i+1,by show (MZ.it cm t i).bind _=_;rw [hi];show (cm _).join=_;rw [hc];rfl⟩
theorem Zpa {cm:Cm}{t:Nat}{r:Nat->Nat} (hr:∀ e u,cm e=some (some u)->r u<r e):∀ {i j a b:Nat},i<j->it cm t i=some a->it cm t j=some b->r b<r a:=by
 have one:∀ {i a b:Nat},it cm t i=some a->it cm t (i+1)=some b->r b<r a:=fun {i a b} ha hb=>by
  have hb:(it cm t i).bind (fun e=>(cm e).join)=some b:=hb
  rw [ha] at hb
  have hb:(cm a).join=some b:=hb
  refine hr a b ?_
  cases h:cm a with
  | none=>rw [h] at hb;cases hb
  | some o=>rw [h] at hb;rw [show o=some b from hb]
 intro i j a b hij ha hb
 induction j generalizing b with
 | zero=>omega
 | succ j ih =>
  cases hj:it cm t j with
  | none =>
   have hb:(it cm t j).bind (fun e=>(cm e).join)=some b:=hb
   rw [hj] at hb
   cases hb
  | some c =>
   have h1:=one hj hb
   by_cases e:i=j
   ·subst e
    rw [ha] at hj
    cases hj
    exact h1
   ·exact Nat.lt_trans h1 (ih (by omega) hj)
theorem Came.path {cs:Cs} (c:Came lo goal ab cs) (F:Flow lo goal ab) (hg:∀ g,goal g->lo g≠[]) {s:Nat} (hs:lo s=[]) (hk:2 * s+1∈ZaL cs):Path lo goal ab (ZaS cs) (On (ZaS cs) (2 * s+1)) s:=by
 have fr:∀ e u,ZaS cs e=some (some u)->u∈ZaL cs/\e∈nxt lo ab u/\(∀ t,u=2 * t+1->lo t≠[])/\(ZaL cs).idxOf u<(ZaL cs).idxOf e:=fun e u h=>by
  obtain ⟨i,hi⟩:=Zq5.mp ((Zdd c.nd).mp h)
  obtain ⟨⟨j,f,hj,hj2⟩,h2,h3⟩:=c.from_ i e u hi
  have hil:=(Zqm.mp hi).1
  have key:∀ {k:Nat}{x:Nat}{y:Option Nat},cs[k]? = some (x,y)->(ZaL cs).idxOf x=k:=fun {k x y} hk=>by
   have hkl:=(Zqm.mp hk).1
   have e1:(ZaL cs)[k]'(by unfold ZaL;rw [Zqi];exact hkl)=x:=by
    unfold ZaL
    rw [List.getElem_map,(Zqm.mp hk).2]
   rw [<- e1]
   exact c.nd.idxOf_getElem k _
  exact ⟨Zqr.mpr ⟨_,Zqw hj2,rfl⟩,h2,h3,by rw [key hi,key hj2];exact hj⟩
 have rk:∀ e u,ZaS cs e=some (some u)->(ZaL cs).idxOf u<(ZaL cs).idxOf e:=fun e u h=>(fr e u h).2.2.2
 have inK:∀ e,On (ZaS cs) (2 * s+1) e->e∈ZaL cs:=fun e h=>by
  cases h with
  | here=>exact hk
  | up h hc=>exact (fr _ _ hc).1
 have got:∀ e,e∈ZaL cs->∃ f,ZaS cs e=some f:=fun e h=>by
  obtain ⟨x,hx,rfl⟩:=Zqr.mp h
  exact ⟨x.2,(Zdd c.nd).mpr hx⟩
 have succ:∀ e,On (ZaS cs) (2 * s+1) e->e≠2 * s+1->∃ e',On (ZaS cs) (2 * s+1) e'/\ZaS cs e'=some (some e):=fun e h hne=>by
  cases h with
  | here=>exact absurd rfl hne
  | up h hc=>exact ⟨_,h,hc⟩
 have ft:∀ p,goal p->¬ On (ZaS cs) (2 * s+1) (2 * p+1):=fun p hp h=>by
  have hlp:=hg p hp
  have hab:ab p=none:=Classical.byContradiction fun z=>F.ng p z hp
  obtain ⟨e',he',hc'⟩:=succ _ h (fun z=>hlp ((show s=p by omega) ▸ hs))
  have hst:=(fr _ _ hc').2.1
  rcases ZdM hst with ⟨l,hl,rfl⟩ | rfl
  ·have:=(Zdd c.nd).mpr (c.all p l hp hl)
   rw [hc'] at this
   cases this
  ·obtain ⟨f,hf⟩:=got _ (inK _ h)
   cases f with
   | none =>
    have:=(c.start _ ((Zdd c.nd).mp hf)).1
    omega
   | some u =>
    have hst2:=(fr _ _ hf).2.1
    rcases (by omega:u=2 * (u / 2)\/u=2 * (u / 2)+1) with e | e
    ·rw [e] at hst2 hf
     rcases Zc3 hst2 with ⟨_,z⟩ | ⟨q,z,z2⟩
     ·rw [show u / 2=p by omega] at hf
      have a1:=rk _ _ hf
      have a2:=rk _ _ hc'
      omega
     ·rw [show q=p by omega] at z
      exact (F.up _ _ z).2 hab
    ·rw [e] at hst2
     rcases ZdM hst2 with ⟨l,_,z⟩ | z <;> omega
 refine ⟨succ,fun e h=>?_,fun e e' u h h' hc hc'=>?_,fun e u h hc=>(fr _ _ hc).2.1,fun e h hc=>c.start e ((Zdd c.nd).mp hc),.here,hs,fun t h ht=>?_,fun p hp=>⟨fun h=>?_,ft p hp⟩,⟨_,rk⟩⟩
 ·obtain ⟨f,hf⟩:=got _ (inK e h)
  cases f with
  | none=>exact .inl hf
  | some u=>exact .inr ⟨u,.up h hf,hf⟩
 ·obtain ⟨i,hi⟩:=h.it
  obtain ⟨j,hj⟩:=h'.it
  have ui:it (ZaS cs) (2 * s+1) (i+1)=some u:=by show (it _ _ i).bind _=_;rw [hi];show (ZaS cs e).join=_;rw [hc];rfl
  have uj:it (ZaS cs) (2 * s+1) (j+1)=some u:=by show (it _ _ j).bind _=_;rw [hj];show (ZaS cs e').join=_;rw [hc'];rfl
  rcases Zr5 i j with l | l | l
  ·have:=Zpa rk (show i+1<j+1 by omega) ui uj
   omega
  ·subst l
   rw [hi] at hj
   exact Option.some.inj hj
  ·have:=Zpa rk (show j+1<i+1 by omega) uj ui
   omega
 ·by_cases e:2 * t+1=2 * s+1
  ·omega
  ·obtain ⟨e',he',hc'⟩:=succ _ h e
   exact absurd ht ((fr _ _ hc').2.2.1 t rfl)
 ·have hab:ab p=none:=Classical.byContradiction fun z=>F.ng p z hp
  obtain ⟨e',he',hc'⟩:=succ _ h (by omega)
  rcases Zc3 (fr _ _ hc').2.1 with ⟨_,rfl⟩ | ⟨q,z,_⟩
  ·exact ft p hp he'
  ·rw [hab] at z;cases z
end MZ
namespace MZ
variable {lo:Nat->List Nat}{goal:Nat->Prop}{ab:Ab}
inductive Wy (ab:Ab) (t:Nat):Nat->Prop where
 | here:Wy ab t t
 | up {p q:Nat} (h:Wy ab t p) (hp:ab p=some (some q)):Wy ab t q
theorem Wy.trans {t p q:Nat} (h:Wy ab t p) (g:Wy ab p q):Wy ab t q:=by
 induction g with
 | here=>exact h
 | up _ hp ih=>exact ih.up hp
theorem Wy.lin {t x y:Nat} (h:Wy ab t x) (g:Wy ab t y):Wy ab x y\/Wy ab y x:=by
 induction h with
 | here=>exact .inl g
 | @up p q h hp ih =>
  rcases ih with z | z
  ·cases z with
   | here=>exact .inr (Wy.here.up hp)
   | @up p' _ z hp' =>
    -- p comes to y by at least one step, the first of which is to q
    have key:∀ {a b:Nat},Wy ab a b->a=b\/∃ c,ab a=some (some c)/\Wy ab c b:=fun {a b} w=>by
     induction w with
     | here=>exact .inl rfl
     | @up u v w hu ih2 =>
      rcases ih2 with rfl | ⟨c,hc,w2⟩
      ·exact .inr ⟨v,hu,.here⟩
      ·exact .inr ⟨c,hc,w2.up hu⟩
    rcases key (z.up hp') with e | ⟨c,hc,w⟩
    ·subst e
     exact .inr (Wy.here.up hp)
    ·rw [hp] at hc
     cases hc
     exact .inl w
  ·exact .inr (z.up hp)
theorem Wy.dom {t p:Nat} (F:Flow lo goal ab) (ht:ab t≠none) (h:Wy ab t p):ab p≠none:=by
 cases h with
 | here=>exact ht
 | up _ hp=>exact (F.up _ _ hp).2
theorem wy_ex (F:Flow lo goal ab) (hlt:∀ p l,l∈lo p->l<p):∀ p,ab p≠none->∃ t,lo t=[]/\ab t≠none/\Wy ab t p:=by
 intro p
 induction p using Nat.strongRecOn with
 | _ p ih =>
  intro hp
  by_cases hs:lo p=[]
  ·exact ⟨p,hs,hp,.here⟩
  ·obtain ⟨q,hq⟩:=F.src p hp hs
   obtain ⟨t,h1,h2,h3⟩:=ih q (hlt _ _ (F.up _ _ hq).1) (by rw [hq];simp)
   exact ⟨t,h1,h2,h3.up hq⟩
theorem Zkz (F:Flow lo goal ab) {t t' p:Nat} (h:Wy ab t p) (g:Wy ab t' p) (ht:lo t=[]) (ht':lo t'=[]):t=t':=by
 induction h with
 | here =>
  cases g with
  | here=>rfl
  | up g hp=>have:=(F.up _ _ hp).1;rw [ht] at this;simp at this
 | up h hp ih =>
  cases g with
  | here=>have:=(F.up _ _ hp).1;rw [ht'] at this;simp at this
  | up g hp'=>exact ih (F.inj _ _ _ hp hp' ▸ g)
theorem Zjl (F:Flow lo goal ab) (hlt:∀ p l,l∈lo p->l<p) {n:Nat} (hn:∀ p,ab p≠none->p<n):∀ (k p:Nat),n - p<=k->ab p≠none->∃ x,Wy ab p x/\ab x=some none
 | 0,p,hk,hp=>by have:=hn p hp;omega
 | k+1,p,hk,hp=>by
  cases h:ab p with
  | none=>exact absurd h hp
  | some o =>
   cases o with
   | none=>exact ⟨p,.here,h⟩
   | some q =>
    have h1:=hlt _ _ (F.up _ _ h).1
    have h2:=hn p hp
    obtain ⟨x,hx,ht⟩:=Zjl F hlt hn k q (by omega) (F.up _ _ h).2
    exact ⟨x,(Wy.here.up h).trans hx,ht⟩
structure Shut (lo:Nat->List Nat) (goal:Nat->Prop) (ab:Ab) (K:Nat->Prop):Prop where
 all:∀ g l,goal g->l∈lo g->K (2 * l)
 shut:∀ e e',K e->e'∈nxt lo ab e->K e'
 dry:∀ t,K (2 * t+1)->lo t≠[]
noncomputable def Zmo (K:Nat->Prop) (p:Nat):Prop:=K (2 * p)/\¬ K (2 * p+1)
section
variable {K:Nat->Prop} (S:Shut lo goal ab K)
include S
theorem Shut.low {p l:Nat} (h:K (2 * p+1)) (hl:l∈lo p):K (2 * l):=by
 refine S.shut _ _ h ?_
 unfold nxt
 rw [if_pos (by omega),show (2 * p+1) / 2=p by omega]
 exact ZqJ _ (Zqr.mpr ⟨l,hl,rfl⟩)
theorem Shut.own {p:Nat} (h:K (2 * p+1)):K (2 * p):=by
 refine S.shut _ _ h ?_
 unfold nxt
 rw [if_pos (by omega),show (2 * p+1) / 2=p by omega]
 exact ZqG _ (Zql.mpr rfl)
theorem Shut.free {p:Nat} (h:K (2 * p)) (hp:ab p=none):K (2 * p+1):=by
 refine S.shut _ _ h ?_
 unfold nxt
 rw [if_neg (by omega),show 2 * p / 2=p by omega,hp]
 exact Zql.mpr rfl
theorem Shut.next {p q:Nat} (h:K (2 * p)) (hp:ab p=some (some q)):K (2 * q+1):=by
 refine S.shut _ _ h ?_
 unfold nxt
 rw [if_neg (by omega),show 2 * p / 2=p by omega,hp]
 exact Zql.mpr rfl
theorem Zhc {p:Nat} (h:Zmo K p):ab p≠none:=fun z=>h.2 (S.free h.1 z)
theorem Zod (F:Flow lo goal ab) {t p:Nat} (ht:lo t=[]) (h:Wy ab t p) (hk:K (2 * p)):∃ x,Wy ab t x/\Zmo K x:=by
 induction h with
 | here=>exact ⟨_,.here,hk,fun z=>S.dry _ z ht⟩
 | @up p q h hp ih =>
  by_cases hf:K (2 * q+1)
  ·exact ih (S.low hf (F.up _ _ hp).1)
  ·exact ⟨q,h.up hp,hk,hf⟩
theorem Zjz {x y:Nat} (h:Wy ab x y) (hk:K (2 * x)):x=y\/K (2 * y+1):=by
 induction h with
 | here=>exact .inl rfl
 | @up p q h hp ih =>
  rcases ih with rfl | z
  ·exact .inr (S.next hk hp)
  ·exact .inr (S.next (S.own z) hp)
theorem Zmy {t x y:Nat} (hx:Wy ab t x) (hy:Wy ab t y) (sx:Zmo K x) (sy:Zmo K y):x=y:=by
 rcases hx.lin hy with z | z
 ·rcases Zjz S z sx.1 with e | e
  ·exact e
  ·exact absurd e sy.2
 ·rcases Zjz S z sy.1 with e | e
  ·exact e.symm
  ·exact absurd e sx.2
end
theorem Zf9 {α β:Type} [DecidableEq β] {R:α->β->Prop} (uni:∀ a a' b,R a b->R a' b->a=a'):∀ {A:List α}{B:List β},A.Nodup->(∀ a∈A,∃ b∈B,R a b)->A.length<=B.length
 | [],B,_,_=>ZrS _
 | a :: A,B,nd,h=>by
  rw [ZqY] at nd
  obtain ⟨b,hb,hr⟩:=h a (ZqF ..)
  have:=Zf9 uni (A:=A) (B:=B.erase b) nd.2 fun a' ha'=>by
   obtain ⟨b',hb',hr'⟩:=h a' (ZqI _ ha')
   refine ⟨b',?_,hr'⟩
   refine (List.mem_erase_of_ne fun e=>?_).mpr hb'
   subst e
   rw [uni a a' b' hr hr'] at nd
   exact nd.1 ha'
  rw [List.length_erase_of_mem hb] at this
  have:0<B.length:=ZrK hb
  rw [ZqA]
  omega
theorem Zj8 {K:Nat->Prop} (S:Shut lo goal ab K) (F:Flow lo goal ab) (hlt:∀ p l,l∈lo p->l<p) {n:Nat} (hn:∀ p,ab p≠none->p<n) {A B:List Nat} (nA:A.Nodup) (nB:B.Nodup) (hA:∀ t,t∈A ↔ lo t=[]/\ab t≠none) (hB:∀ p,p∈B ↔ Zmo K p):A.length=B.length:=by
 refine Nat.le_antisymm (Zf9 (R:=fun t p=>Wy ab t p/\lo t=[]) (fun a a' b h h'=>Zkz F h.1 h'.1 h.2 h'.2) nA fun t ht=>?_) (Zf9 (R:=fun p t=>Wy ab t p/\Zmo K p) (fun a a' b h h'=>Zmy S h.1 h'.1 h.2 h'.2) nB fun p hp=>?_)
 ·obtain ⟨h1,h2⟩:=(hA t).mp ht
  obtain ⟨x,hx,ho⟩:=Zjl F hlt hn _ t (ZrN _) h2
  obtain ⟨g,hg,hl⟩:=F.top x ho
  obtain ⟨y,hy,hst⟩:=Zod S F h1 hx (S.all g x hg hl)
  exact ⟨y,(hB y).mpr hst,hy,h1⟩
 ·have hst:=(hB p).mp hp
  obtain ⟨t,h1,h2,h3⟩:=wy_ex F hlt p (Zhc S hst)
  exact ⟨t,(hA t).mpr ⟨h1,h2⟩,h3,hst⟩
end MZ
namespace MZ
noncomputable def Zkx (as:Cs) (p:Nat) (o:Option Nat):Cs:=if (as.any fun x=>decide (x.1=p))=true then as.map (fun x=>if x.1=p then (x.1,o) else x) else as ++ [(p,o)]
noncomputable def Zks (as:Cs) (p:Nat):Cs:=as.filter fun x=>decide (x.1≠p)
theorem ZeI (as:Cs) (p:Nat):(as.any fun x=>decide (x.1=p))=true ↔ p∈ZaL as:=by
 unfold ZaL
 rw [ZrA,Zqr]
 constructor
 ·rintro ⟨x,hx,e⟩;exact ⟨x,hx,of_decide_eq_true e⟩
 ·rintro ⟨x,hx,e⟩;exact ⟨x,hx,decide_eq_true e⟩
theorem Ze2 {as:Cs}{p:Nat}:ZaS as p=none ↔ p ∉ ZaL as:=by
 unfold ZaS ZaL
 rw [Option.map_eq_none_iff,List.find?_eq_none,Zqr]
 constructor
 ·rintro h ⟨x,hx,e⟩
  exact h x hx (decide_eq_true e)
 ·intro h x hx e
  exact h ⟨x,hx,of_decide_eq_true e⟩
theorem Zc7 {as:Cs}{p:Nat}:ZaS as p≠none ↔ p∈ZaL as:=by
 rw [ne_eq,Ze2]
 exact Classical.not_not
theorem Zhu (as:Cs) (p:Nat) (o:Option Nat):ZaL (Zkx as p o)=if p∈ZaL as then ZaL as else ZaL as ++ [p]:=by
 unfold Zkx
 by_cases h:p∈ZaL as
 ·rw [if_pos ((ZeI as p).mpr h),if_pos h]
  unfold ZaL
  rw [Zqz]
  refine Zq6 fun x _=>?_
  show (if x.1=p then (x.1,o) else x).1=x.1
  split <;> rfl
 ·rw [if_neg (fun z=>h ((ZeI as p).mp z)),if_neg h]
  unfold ZaL
  rw [Zqo]
  rfl
theorem Zif {as:Cs} (nd:(ZaL as).Nodup) (p:Nat) (o:Option Nat):(ZaL (Zkx as p o)).Nodup:=by
 rw [Zhu]
 split
 ·exact nd
 ·rename_i h
  rw [Zrc]
  refine ⟨nd,by simp,fun x hx y hy e=>?_⟩
  rw [Zql] at hy
  subst hy e
  exact h hx
theorem Zl6 {as:Cs} (nd:(ZaL as).Nodup) (p:Nat) (o:Option Nat) (q:Nat):ZaS (Zkx as p o) q=if q=p then some o else ZaS as q:=by
 have nd':=Zif nd p o
 have mem:∀ f,(q,f)∈Zkx as p o ↔ if q=p then f=o else (q,f)∈as:=fun f=>by
  unfold Zkx
  by_cases h:p∈ZaL as
  ·rw [if_pos ((ZeI as p).mpr h),Zqr]
   by_cases e:q=p
   ·subst e
    rw [if_pos rfl]
    constructor
    ·rintro ⟨x,_,hx⟩
     by_cases hq:x.1=q
     ·rw [if_pos hq] at hx;cases hx;rfl
     ·rw [if_neg hq] at hx;rw [hx] at hq;exact absurd rfl hq
    ·rintro rfl
     obtain ⟨x,hx,e⟩:=Zqr.mp h
     exact ⟨x,hx,by rw [if_pos e,e]⟩
   ·rw [if_neg e]
    constructor
    ·rintro ⟨x,hm,hx⟩
     by_cases hq:x.1=p
     ·rw [if_pos hq] at hx;cases hx;exact absurd hq e
     ·rw [if_neg hq] at hx;rw [<- hx];exact hm
    ·intro hm
     exact ⟨_,hm,by rw [if_neg e]⟩
  ·rw [if_neg (fun z=>h ((ZeI as p).mp z)),Zqp,Zql]
   by_cases e:q=p
   ·subst e
    rw [if_pos rfl]
    constructor
    ·rintro (z | z)
     ·exact absurd (Zqr.mpr ⟨_,z,rfl⟩) h
     ·cases z;rfl
    ·rintro rfl;exact .inr rfl
   ·rw [if_neg e]
    constructor
    ·rintro (z | z)
     ·exact z
     ·cases z;exact absurd rfl e
    ·exact .inl
 by_cases e:q=p
 ·rw [if_pos e]
  exact (Zdd nd').mpr ((mem o).mpr (by rw [if_pos e]))
 ·rw [if_neg e]
  cases h:ZaS as q with
  | some f=>exact (Zdd nd').mpr ((mem f).mpr (by rw [if_neg e];exact (Zdd nd).mp h))
  | none =>
   rw [Ze2] at h ⊢
   rw [Zhu]
   split
   ·exact h
   ·rw [Zqp,Zql]
    exact fun z=>z.elim h e
theorem Zlo {as:Cs} (nd:(ZaL as).Nodup) (p:Nat):(ZaL (Zks as p)).Nodup:=by
 unfold ZaL Zks
 exact Zrx.sublist ((List.filter_sublist).map _) nd
theorem Zpk {as:Cs} (nd:(ZaL as).Nodup) (p q:Nat):ZaS (Zks as p) q=if q=p then none else ZaS as q:=by
 have nd':=Zlo nd p
 by_cases e:q=p
 ·rw [if_pos e,Ze2]
  intro h
  obtain ⟨x,hx,e2⟩:=Zqr.mp h
  have:=(ZqP.mp hx).2
  simp at this
  exact this (e2.trans e)
 ·rw [if_neg e]
  cases h:ZaS as q with
  | some f=>exact (Zdd nd').mpr (ZqP.mpr ⟨(Zdd nd).mp h,by simpa using e⟩)
  | none =>
   rw [Ze2] at h ⊢
   intro z
   obtain ⟨x,hx,e2⟩:=Zqr.mp z
   exact h (Zqr.mpr ⟨x,(ZqP.mp hx).1,e2⟩)
noncomputable def Zj0 (cm:Cm) (t i:Nat) (e:Nat):Prop:=∃ j,j<i/\it cm t j=some e
theorem Zn1 {cm:Cm}{t i:Nat}{e:Nat} (h:it cm t i=none):Zj0 cm t i e ↔ On cm t e:=by
  have on:∀ {j a},it cm t j=some a->On cm t a:=by
    intro j
    induction j with
    | zero=>intro a ha;cases ha;exact .here
    | succ j ih =>
      intro a ha
      have ha:(it cm t j).bind (fun e=>(cm e).join)=some a:=ha
      cases hj:it cm t j with
      | none=>rw [hj] at ha;cases ha
      | some b =>
        rw [hj] at ha
        have ha:(cm b).join=some a:=ha
        refine (ih hj).up ?_
        cases hc:cm b with
        | none=>rw [hc] at ha;cases ha
        | some o=>rw [hc] at ha;rw [show o=some a from ha]
  have none_from:∀ j,i<=j->it cm t j=none:=by
    intro j
    induction j with
    | zero => intro hj; have : i = 0 := by omega
              subst this;exact h
    | succ j ih =>
      intro hj
      by_cases e:i=j+1
      · subst e;exact h
      · show (it cm t j).bind _=none
        rw [ih (by omega)]
        rfl
  constructor
  · rintro ⟨j,_,hj⟩
    exact on hj
  · intro ho
    obtain ⟨j,hj⟩:=ho.it
    refine ⟨j,ZrY fun hle=>?_,hj⟩
    rw [none_from j hle] at hj
    cases hj
theorem Zkl {ab:Ab}{cm:Cm}{π π':Nat->Prop} (h:∀ e,π e ↔ π' e):lead ab cm π=lead ab cm π':=by
 have:π=π':=funext fun e=>propext (h e)
 rw [this]
theorem Zlz {ab:Ab}{cm:Cm}{t:Nat}:lead ab cm (Zj0 cm t 0)=ab:=by
 funext p
 exact ZbV (fun ⟨j,hj,_⟩=>by omega)
theorem ZgK {ab:Ab}{cm:Cm}{t i e p:Nat} (h:it cm t i=some e) (hp:2 * p≠e):lead ab cm (Zj0 cm t (i+1)) p=lead ab cm (Zj0 cm t i) p:=by
 have:Zj0 cm t (i+1) (2 * p) ↔ Zj0 cm t i (2 * p):=by
  constructor
  ·rintro ⟨j,hj,hj2⟩
   by_cases e1:j=i
   ·subst e1;rw [h] at hj2;exact absurd (Option.some.inj hj2).symm hp
   ·exact ⟨j,by omega,hj2⟩
  ·rintro ⟨j,hj,hj2⟩
   exact ⟨j,by omega,hj2⟩
 unfold lead
 by_cases g:Zj0 cm t i (2 * p)
 ·rw [if_pos g,if_pos (this.mpr g)]
 ·rw [if_neg g,if_neg (fun z=>g (this.mp z))]
theorem ZkD {cm:Cm}{t i e:Nat} (h:it cm t i=some e):Zj0 cm t (i+1) e:=⟨i,by omega,h⟩
end MZ
namespace ML
open MZ
inductive Dn (lo:Nat->List Nat) (k:Nat):Nat->Prop where
 | here:Dn lo k k
 | low {y x:Nat} (h:Dn lo k y) (hx:x∈lo y):Dn lo k x
inductive Leak (lo:Nat->List Nat) (C:Nat->Prop):Nat->Prop where
 | spring {p:Nat}:¬ C p->lo p=[]->Leak lo C p
 | up {p l:Nat}:¬ C p->l∈lo p->Leak lo C l->Leak lo C p
variable {lo:Nat->List Nat}
theorem Dn.trans {k y x:Nat} (h:Dn lo k y) (g:Dn lo y x):Dn lo k x:=by
 induction g with
 | here=>exact h
 | low _ hx ih=>exact ih.low hx
theorem Dn.le (hlt:∀ p l,l∈lo p->l<p) {k x:Nat} (h:Dn lo k x):x<=k:=by
 induction h with
 | here=>exact ZrN _
 | low _ hx ih=>have:=hlt _ _ hx;omega
theorem Dn.first {k x:Nat} (h:Dn lo k x):x=k\/∃ l∈lo k,Dn lo l x:=by
 induction h with
 | here=>exact .inl rfl
 | low _ hx ih =>
  rcases ih with rfl | ⟨l,hl,g⟩
  ·exact .inr ⟨_,hx,.here⟩
  ·exact .inr ⟨l,hl,g.low hx⟩
theorem Leak.lift {C:Nat->Prop}{k z:Nat} (h:Dn lo k z) (hC:∀ y,Dn lo k y->Dn lo y z->¬ C y) (w:Leak lo C z):Leak lo C k:=by
 induction h with
 | here=>exact w
 | @low y x h hx ih=>exact ih (fun v h1 h2=>hC v h1 (h2.low hx)) (.up (hC y h (.low .here hx)) hx w)
theorem Zly (hlt:∀ p l,l∈lo p->l<p):∀ n p:Nat,p<n->Leak lo (fun c=>c∈([]:List Nat)) p:=by
 intro n
 induction n with
 | zero=>intro p hp;omega
 | succ n ih =>
  intro p hp
  cases h:lo p with
  | nil=>exact .spring (by simp) h
  | cons x r =>
   have hx:x∈lo p:=by rw [h];exact ZqF ..
   exact .up (by simp) hx (ih x (by have:=hlt p x hx;omega))
theorem Zo6 {ab:Ab}{goal:Nat->Prop}{C:Nat->Prop} (F:Flow lo goal ab) {t:Nat} (ht:lo t=[]) {p:Nat} (h:Wy ab t p) (hC:∀ x,Wy ab t x->¬ C x):Leak lo C p:=by
 induction h with
 | here=>exact .spring (hC _ .here) ht
 | up h hp ih=>exact .up (hC _ (h.up hp)) (F.up _ _ hp).1 ih
theorem Zlx {ab:Ab}{goal:Nat->Prop}{K:Nat->Prop} (S:Shut lo goal ab K) {C:Nat->Prop} (hC:∀ p,Zmo K p->C p) {x:Nat} (h:Leak lo C x):¬ K (2 * x):=by
 induction h with
 | spring nb hl =>
  intro hk
  exact nb (hC _ ⟨hk,fun z=>S.dry _ z hl⟩)
 | up nb hl _ ih =>
  intro hk
  exact nb (hC _ ⟨hk,fun z=>ih (S.low z hl)⟩)
theorem wy_dn {ab:Ab}{goal:Nat->Prop} (F:Flow lo goal ab) {p x:Nat} (h:Wy ab p x):Dn lo x p:=by
 induction h with
 | here=>exact .here
 | up h hp ih=>exact (Dn.low .here (F.up _ _ hp).1).trans ih
structure Lab (lo:Nat->List Nat) (lv:Nat->Nat) (s k:Nat) (C:List Nat):Prop where
 mono:∀ l∈lo k,lv l<=lv k
 ris:C.Pairwise (· < ·)
 len:C.length<=s
 dn:∀ c∈C,Dn lo k c/\c≠k
 le:∀ c∈C,lv c+1<=lv k
 dry:∀ l∈lo k,¬ Leak lo (fun c=>c∈C) l
 low:∀ B:List Nat,B.length<=s->(∀ l∈lo k,¬ Leak lo (fun c=>c∈B) l)->∃ c∈B,lv k<=lv c+1
theorem Lab.top {lv:Nat->Nat}{s k:Nat}{C:List Nat} (h:Lab lo lv s k C):∃ c∈C,lv c+1=lv k:=by
 obtain ⟨c,hc,z⟩:=h.low C h.len h.dry
 have:=h.le c hc
 exact ⟨c,hc,by omega⟩
theorem Lab.ext {lv lv':Nat->Nat}{s k:Nat}{C:List Nat} (hlt:∀ p l,l∈lo p->l<p) (h:Lab lo lv s k C) (he:∀ x,x<=k->lv' x=lv x) (hm:∀ x,lv x<=lv' x):Lab lo lv' s k C where
 mono:=fun l hl=>by
  rw [he k (ZrN _),he l (by have:=hlt k l hl;omega)]
  exact h.mono l hl
 ris:=h.ris
 len:=h.len
 dn:=h.dn
 le:=fun c hc=>by
  rw [he k (ZrN _),he c ((h.dn c hc).1.le hlt)]
  exact h.le c hc
 dry:=h.dry
 low:=fun B hB hd=>by
  obtain ⟨c,hc,z⟩:=h.low B hB hd
  exact ⟨c,hc,by rw [he k (ZrN _)];have:=hm c;omega⟩
section
variable {lv:Nat->Nat}{s k g:Nat} (hlt:∀ p l,l∈lo p->l<p) (hne:lo k≠[])
include hlt
theorem Zlq (hm:∀ y,y<k->∀ l∈lo y,lv l<=lv y) {y x:Nat} (h:Dn lo y x) (hy:y<k):lv x<=lv y:=by
 induction h with
 | here=>exact ZrN _
 | @low z x h hx ih =>
  have:=h.le hlt
  have:=hm z (by omega) x hx
  omega
include hne
theorem ZlV:∀ l∈lo k,¬ Leak lo (fun c=>c∈lo k) l:=fun l hl w=>by
 cases w with
 | spring n _=>exact n hl
 | up n _ _=>exact n hl
theorem Zo7 (hr:(lo k).Pairwise (· < ·)) (h2:(lo k).length<=s) (h0:∀ l∈lo k,lv l=0) (hk:lv k=1):Lab lo lv s k (lo k) where
 mono:=fun l hl=>by rw [h0 l hl];omega
 ris:=hr
 len:=h2
 dn:=fun c hc=>⟨.low .here hc,by have:=hlt k c hc;omega⟩
 le:=fun c hc=>by rw [h0 c hc,hk];omega
 dry:=ZlV hlt hne
 low:=fun B hB hd=>by
  cases B with
  | cons c B=>exact ⟨c,ZqF ..,by omega⟩
  | nil =>
   obtain ⟨l,hl⟩:=List.exists_mem_of_ne_nil _ hne
   exact absurd (Zly hlt (l+1) l (by omega)) (hd l hl)
theorem ZmX (hr:(lo k).Pairwise (· < ·)) (h2:(lo k).length<=s) (hm:∀ y,y<k->∀ l∈lo y,lv l<=lv y) (hg:∀ l∈lo k,lv l<=g) (hk:lv k=g+1) {goal:Nat->Prop}{ab:Ab} (F:Flow lo goal ab)
  (hgo:∀ z,goal z->z=k\/(Dn lo k z/\lv z=g)) {n:Nat} (hn:∀ p,ab p≠none->p<n) {ss:List Nat} (nd:ss.Nodup) (mem:∀ t,t∈ss ↔ lo t=[]/\ab t≠none) (hs:ss.length=s+1):Lab lo lv s k (lo k) where
 mono:=fun l hl=>by have:=hg l hl;omega
 ris:=hr
 len:=h2
 dn:=fun c hc=>⟨.low .here hc,by have:=hlt k c hc;omega⟩
 le:=fun c hc=>by have:=hg c hc;omega
 dry:=ZlV hlt hne
 low:=fun B hB hd=>by
  refine Classical.byContradiction fun hno=>?_
  have hlow:∀ c∈B,lv c<g:=fun c hc=>ZrY fun z=>hno ⟨c,hc,by omega⟩
  have:ss.length<=B.length:=by
   refine Zf9 (R:=fun t p=>lo t=[]/\Wy ab t p) (fun a a' b h h'=>Zkz F h.2 h'.2 h.1 h'.1) nd fun t ht=>?_
   obtain ⟨h1,h2⟩:=(mem t).mp ht
   refine Classical.byContradiction fun hb=>?_
   have hB':∀ x,Wy ab t x->¬ x∈B:=fun x hx z=>hb ⟨x,z,h1,hx⟩
   obtain ⟨x,hx,hxt⟩:=Zjl F hlt hn (n - t) t (ZrN _) h2
   obtain ⟨z,hz,hl⟩:=F.top x hxt
   have w:=Zo6 (C:=fun c=>c∈B) F h1 hx hB'
   rcases hgo z hz with rfl | ⟨hd1,hd2⟩
   ·exact hd x hl w
   ·have nz:¬ z∈B:=fun e=>by have:=hlow z e;omega
    have wz:Leak lo (fun c=>c∈B) z:=.up nz hl w
    rcases hd1.first with rfl | ⟨l,hlk,hdl⟩
    ·exact hd x hl w
    ·refine hd l hlk (Leak.lift hdl (fun y _ h2 e=>?_) wz)
     have hy:=hlow y e
     rename_i h1y
     have h3:=h1y.le hlt
     have h4:=hlt k l hlk
     have:=Zlq hlt hm h2 (by omega)
     omega
  omega
theorem Zja (hm:∀ y,y<k->∀ l∈lo y,lv l<=lv y) (hg:∀ l∈lo k,lv l<=g) {goal:Nat->Prop}{ab:Ab} (F:Flow lo goal ab)
  (hgo:∀ z,goal z ↔ z=k\/(Dn lo k z/\lv z=g)) {n:Nat} (hn:∀ p,ab p≠none->p<n) {c:Nat} (hd:ab c≠none):Dn lo k c/\c≠k/\lv c<g:=by
 have hng:=F.ng c hd
 obtain ⟨x,hx,hxt⟩:=Zjl F hlt hn (n - c) c (ZrN _) hd
 obtain ⟨z,hz,hlz⟩:=F.top x hxt
 have dz:Dn lo k z:=by
  rcases (hgo z).mp hz with rfl | ⟨h,_⟩
  ·exact .here
  ·exact h
 have dc:=(dz.low hlz).trans (wy_dn F hx)
 have nk:c≠k:=fun e=>hng ((hgo c).mpr (.inl e))
 have ng:lv c≠g:=fun e=>hng ((hgo c).mpr (.inr ⟨dc,e⟩))
 refine ⟨dc,nk,?_⟩
 rcases dc.first with e | ⟨l',hl',dl⟩
 ·exact absurd e nk
 ·have:=Zlq hlt hm dl (hlt k l' hl')
  have:=hg l' hl'
  omega
theorem ZmW (hm:∀ y,y<k->∀ l∈lo y,lv l<=lv y) (hg:∀ l∈lo k,lv l<=g) (hk:lv k=g) {goal:Nat->Prop}{ab:Ab} (F:Flow lo goal ab)
  (hgo:∀ z,goal z ↔ z=k\/(Dn lo k z/\lv z=g)) {n:Nat} (hn:∀ p,ab p≠none->p<n) {ss:List Nat} (nd:ss.Nodup) (mem:∀ t,t∈ss ↔ lo t=[]/\ab t≠none) (hs:ss.length<=s)
  {K:Nat->Prop} (S:Shut lo goal ab K) {C:List Nat} (hr:C.Pairwise (· < ·)) (hC:∀ p,p∈C ↔ Zmo K p) {l:Nat}{Cl:List Nat} (hl:l∈lo k) (hlg:lv l=g) (hL:Lab lo lv s l Cl):Lab lo lv s k C where
 mono:=fun l hl=>by have:=hg l hl;omega
 ris:=hr
 len:=by
  have:=Zj8 S F hlt hn nd (hr.imp fun h=>ZrP h) mem hC
  omega
 dn:=fun c hc=>by
  have:=Zja hlt hne hm hg F hgo hn (Zhc S ((hC c).mp hc))
  exact ⟨this.1,this.2.1⟩
 le:=fun c hc=>by
  have:=Zja hlt hne hm hg F hgo hn (Zhc S ((hC c).mp hc))
  omega
 dry:=fun l hl w=>Zlx S (fun p hp=>(hC p).mpr hp) w (S.all k l ((hgo k).mpr (.inl rfl)) hl)
 low:=fun B hB hd=>by
  by_cases e:l∈B
  ·exact ⟨l,e,by omega⟩
  ·have hdl:=hd l hl
   obtain ⟨c,hc,z⟩:=hL.low B hB fun x hx w=>hdl (.up e hx w)
   exact ⟨c,hc,by omega⟩
end
end ML
set_option maxHeartbeats 4000000
namespace K30
open PySem PySem.Spec PyProof.Rows L2
noncomputable def top (i:Nat):Stmt:=PySem.Challenge.pw_gatefold_k30_label_by_its_cut.main.body.getD i (.Pass ⟨0,0,0,0⟩)
noncomputable abbrev Zbz:Stmt:=top 7
noncomputable abbrev Zg0:List Str:=["thing"]
theorem ZiP:FnScope Zg0 ["thing"] (Zab Zbz):=⟨rfl,rfl,rfl,by decide +kernel,rfl,by decide +kernel,by decide +kernel⟩
noncomputable abbrev Za2:Stmt:=top 8
noncomputable abbrev Zfi:List Str:=["thing","least","greatest"]
theorem Zhe:FnScope Zfi ["thing","least","greatest"] (Zab Za2):=⟨rfl,rfl,rfl,by decide +kernel,rfl,by decide +kernel,by decide +kernel⟩
noncomputable abbrev ZbC:Stmt:=top 10
noncomputable abbrev Zgj:List Str:=["fold","knots","stops","seen","knot","tie"]
theorem ZcK:FnScope Zgj ["fold","knots","stops"] (Zab ZbC):=⟨rfl,rfl,rfl,by decide +kernel,rfl,by decide +kernel,by decide +kernel⟩
noncomputable abbrev Zd1:Stmt:=top 11
noncomputable abbrev ZnY:List Str:=["fold","knot"]
theorem Zoi:FnScope ZnY ["fold","knot"] (Zab Zd1):=⟨rfl,rfl,rfl,by decide +kernel,rfl,by decide +kernel,by decide +kernel⟩
noncomputable abbrev ZdZ:Stmt:=top 13
noncomputable abbrev ZnW:List Str:=["place"]
theorem Zog:FnScope ZnW ["place"] (Zab ZdZ):=⟨rfl,rfl,rfl,by decide +kernel,rfl,by decide +kernel,by decide +kernel⟩
noncomputable abbrev Zd0:Stmt:=top 14
noncomputable abbrev ZnX:List Str:=["place"]
theorem Zoh:FnScope ZnX ["place"] (Zab Zd0):=⟨rfl,rfl,rfl,by decide +kernel,rfl,by decide +kernel,by decide +kernel⟩
noncomputable abbrev Za1:Stmt:=top 15
noncomputable abbrev Zfh:List Str:=["maze","goals","goal"]
theorem Zet:FnScope Zfh ["maze","goals"] (Zab Za1):=⟨rfl,rfl,rfl,by decide +kernel,rfl,by decide +kernel,by decide +kernel⟩
noncomputable abbrev Za8:Stmt:=top 16
noncomputable abbrev Zel:List Str:=["maze","above","end","place"]
theorem Zfa:FnScope Zel ["maze","above","end"] (Zab Za8):=⟨rfl,rfl,rfl,by decide +kernel,rfl,by decide +kernel,by decide +kernel⟩
noncomputable abbrev Zb5:Stmt:=top 17
noncomputable abbrev ZjY:List Str:=["maze","goals","above","came","goal","lower","waiting","end","place","ahead"]
theorem Zb7:FnScope ZjY ["maze","goals","above"] (Zab Zb5):=⟨rfl,rfl,rfl,by decide +kernel,rfl,by decide +kernel,by decide +kernel⟩
noncomputable abbrev ZdY:Stmt:=top 18
noncomputable abbrev ZnV:List Str:=["above","came","spring","end","place","upper"]
theorem ZfQ:FnScope ZnV ["above","came","spring"] (Zab ZdY):=⟨rfl,rfl,rfl,by decide +kernel,rfl,by decide +kernel,by decide +kernel⟩
noncomputable abbrev Zbx:Stmt:=top 19
noncomputable abbrev ZgY:List Str:=["above","spring","way"]
theorem ZfP:FnScope ZgY ["above","spring"] (Zab Zbx):=⟨rfl,rfl,rfl,by decide +kernel,rfl,by decide +kernel,by decide +kernel⟩
noncomputable abbrev Zbw:Stmt:=top 20
noncomputable abbrev ZeK:List Str:=["maze","above","springs"]
theorem ZgD:FnScope ZeK ["maze","above"] (Zab Zbw):=⟨rfl,rfl,rfl,by decide +kernel,rfl,by decide +kernel,by decide +kernel⟩
noncomputable abbrev Zbq:Stmt:=top 21
noncomputable abbrev Ze3:List Str:=["came"]
theorem ZiO:FnScope Ze3 ["came"] (Zab Zbq):=⟨rfl,rfl,rfl,by decide +kernel,rfl,by decide +kernel,by decide +kernel⟩
noncomputable abbrev ZcC:Stmt:=top 22
noncomputable abbrev Zml:List Str:=["maze","goals","most","above","number","found"]
theorem Zfz:FnScope Zml ["maze","goals","most"] (Zab ZcC):=⟨rfl,rfl,rfl,by decide +kernel,rfl,by decide +kernel,by decide +kernel⟩
noncomputable abbrev Zbg:Stmt:=top 26
noncomputable abbrev Zgk:List Str:=["size"]
theorem ZhY:FnScope Zgk ["size"] (Zab Zbg):=⟨rfl,rfl,rfl,by decide +kernel,rfl,by decide +kernel,by decide +kernel⟩
noncomputable abbrev ZbJ:Stmt:=top 27
noncomputable abbrev Ziz:List Str:=["fold","maze","knot","pair"]
theorem ZdJ:FnScope Ziz ["fold"] (Zab ZbJ):=⟨rfl,rfl,rfl,by decide +kernel,rfl,by decide +kernel,by decide +kernel⟩
noncomputable abbrev Zay:Stmt:=Zaw (top 28) 0
noncomputable abbrev ZcQ:List Str:=["self","fold","size","maze","knot"]
theorem ZbQ:FnScope ZcQ ["self","fold","size"] (Zab Zay):=⟨rfl,rfl,rfl,by decide +kernel,rfl,by decide +kernel,by decide +kernel⟩
noncomputable abbrev Zat:Stmt:=Zaw (top 28) 1
noncomputable abbrev ZbG:List Str:=["self","maze","inner","size","knot","lowers","greatest","goals","told","same"]
theorem ZaY:FnScope ZbG ["self","maze","inner","size"] (Zab Zat):=⟨rfl,rfl,rfl,by decide +kernel,rfl,by decide +kernel,by decide +kernel⟩
noncomputable abbrev ZaU:Stmt:=Zaw (top 28) 2
noncomputable abbrev ZeM:List Str:=["self","knot","level","cut","ways"]
theorem Zgy:FnScope ZeM ["self","knot","level","cut","ways"] (Zab ZaU):=⟨rfl,rfl,rfl,by decide +kernel,rfl,by decide +kernel,by decide +kernel⟩
noncomputable abbrev Zao:Stmt:=Zaw (top 28) 3
noncomputable abbrev ZbX:List Str:=["self","knot"]
theorem ZcW:FnScope ZbX ["self","knot"] (Zab Zao):=⟨rfl,rfl,rfl,by decide +kernel,rfl,by decide +kernel,by decide +kernel⟩
noncomputable abbrev ZaJ:Stmt:=Zaw (top 28) 4
noncomputable abbrev Zd7:List Str:=["self","knot"]
theorem ZfR:FnScope Zd7 ["self","knot"] (Zab ZaJ):=⟨rfl,rfl,rfl,by decide +kernel,rfl,by decide +kernel,by decide +kernel⟩
noncomputable abbrev Za3:Stmt:=Zaw (top 28) 5
noncomputable abbrev Zfj:List Str:=["self","knot"]
theorem Zhf:FnScope Zfj ["self","knot"] (Zab Za3):=⟨rfl,rfl,rfl,by decide +kernel,rfl,by decide +kernel,by decide +kernel⟩
noncomputable abbrev Zb4:Stmt:=top 32
noncomputable abbrev ZjX:List Str:=["tie"]
theorem Zk2:FnScope ZjX ["tie"] (Zab Zb4):=⟨rfl,rfl,rfl,by decide +kernel,rfl,by decide +kernel,by decide +kernel⟩
noncomputable abbrev ZaD:Stmt:=Zaw (top 33) 0
noncomputable abbrev ZdI:List Str:=["self","many"]
theorem Zfr:FnScope ZdI ["self","many"] (Zab ZaD):=⟨rfl,rfl,rfl,by decide +kernel,rfl,by decide +kernel,by decide +kernel⟩
noncomputable abbrev Za4:Stmt:=Zaw (top 33) 1
noncomputable abbrev Zfk:List Str:=["self"]
theorem Zhg:FnScope Zfk ["self"] (Zab Za4):=⟨rfl,rfl,rfl,by decide +kernel,rfl,by decide +kernel,by decide +kernel⟩
noncomputable abbrev ZaK:Stmt:=Zaw (top 33) 2
noncomputable abbrev Zd8:List Str:=["self","tie"]
theorem ZfS:FnScope Zd8 ["self","tie"] (Zab ZaK):=⟨rfl,rfl,rfl,by decide +kernel,rfl,by decide +kernel,by decide +kernel⟩
noncomputable abbrev Zbl:Stmt:=Zaw (top 33) 3
noncomputable abbrev Zgp:List Str:=["self","knot"]
theorem Zh0:FnScope Zgp ["self","knot"] (Zab Zbl):=⟨rfl,rfl,rfl,by decide +kernel,rfl,by decide +kernel,by decide +kernel⟩
noncomputable abbrev Zbm:Stmt:=Zaw (top 33) 4
noncomputable abbrev Zgq:List Str:=["self","one","other","first","second"]
theorem Zdm:FnScope Zgq ["self","one","other"] (Zab Zbm):=⟨rfl,rfl,rfl,by decide +kernel,rfl,by decide +kernel,by decide +kernel⟩
noncomputable abbrev ZaC:Stmt:=Zaw (top 33) 5
noncomputable abbrev ZdH:List Str:=["self","ties"]
theorem Zfq:FnScope ZdH ["self","ties"] (Zab ZaC):=⟨rfl,rfl,rfl,by decide +kernel,rfl,by decide +kernel,by decide +kernel⟩
noncomputable abbrev ZaT:Stmt:=top 35
noncomputable abbrev ZeL:List Str:=["_law_script","_law_k"]
theorem Zgx:FnScope ZeL ["_law_script","_law_k"] (Zab ZaT):=⟨rfl,rfl,rfl,by decide +kernel,rfl,by decide +kernel,by decide +kernel⟩
noncomputable abbrev Zbj:Stmt:=top 36
noncomputable abbrev Zgn:List Str:=["_law_many","_law_cells","_law_pairs_here","_law_left","_law_right","_law_k","_law_top","_law_rest"]
theorem ZaF:FnScope Zgn ["_law_many","_law_cells"] (Zab Zbj):=⟨rfl,rfl,rfl,by decide +kernel,rfl,by decide +kernel,by decide +kernel⟩
noncomputable abbrev Zbk:Stmt:=top 37
noncomputable abbrev Zgo:List Str:=["_law_script","_law_start","_law_count","_law_made","_law_k","_law_cell"]
theorem Zcy:FnScope Zgo ["_law_script","_law_start","_law_count"] (Zab Zbk):=⟨rfl,rfl,rfl,by decide +kernel,rfl,by decide +kernel,by decide +kernel⟩
noncomputable abbrev Zax:Stmt:=top 38
noncomputable abbrev ZcP:List Str:=["_law_many","_law_cell","_law_most","_law_pairs_here","_law_count","_law_k","_law_size"]
theorem ZaO:FnScope ZcP ["_law_many","_law_cell","_law_most"] (Zab Zax):=⟨rfl,rfl,rfl,by decide +kernel,rfl,by decide +kernel,by decide +kernel⟩
noncomputable abbrev Zbc:Stmt:=top 39
noncomputable abbrev ZdP:List Str:=["_law_many","_law_pairs_here","_law_fold_here","_law_knots","_law_ties","_law_one","_law_other","_law_left","_law_right","_law_low","_law_high","_law_tie"]
theorem ZaN:FnScope ZdP ["_law_many","_law_pairs_here"] (Zab Zbc):=⟨rfl,rfl,rfl,by decide +kernel,rfl,by decide +kernel,by decide +kernel⟩
noncomputable abbrev Zby:Stmt:=top 40
noncomputable abbrev ZgZ:List Str:=["_law_knots","_law_knot","_law_cone_of","_law_at"]
theorem Zea:FnScope ZgZ ["_law_knots","_law_knot"] (Zab Zby):=⟨rfl,rfl,rfl,by decide +kernel,rfl,by decide +kernel,by decide +kernel⟩
noncomputable abbrev Zbh:Stmt:=top 41
noncomputable abbrev Zgl:List Str:=["_law_found"]
theorem ZhZ:FnScope Zgl ["_law_found"] (Zab Zbh):=⟨rfl,rfl,rfl,by decide +kernel,rfl,by decide +kernel,by decide +kernel⟩
noncomputable abbrev Zbi:Stmt:=top 42
noncomputable abbrev Zgm:List Str:=["_law_knots","_law_knot","_law_some","_law_todo","_law_seen","_law_at"]
theorem Zcx:FnScope Zgm ["_law_knots","_law_knot","_law_some"] (Zab Zbi):=⟨rfl,rfl,rfl,by decide +kernel,rfl,by decide +kernel,by decide +kernel⟩
noncomputable abbrev ZaI:Stmt:=top 43
noncomputable abbrev Zd6:List Str:=["_law_some","_law_knots","_law_knot","_law_size","_law_marks","_law_hung","_law_high","_law_k"]
theorem ZbB:FnScope Zd6 ["_law_some","_law_knots","_law_knot","_law_size","_law_marks"] (Zab ZaI):=⟨rfl,rfl,rfl,by decide +kernel,rfl,by decide +kernel,by decide +kernel⟩
noncomputable abbrev ZfT:Stmt:=top 44
noncomputable abbrev ZpD:List Str:=["_law_script","_law_first","_law_size","_law_many","_law_last","_law_chain","_law_pairs_here","_law_fold_here","_law_knots","_law_labels","_law_marks","_law_knot","_law_some"]
theorem Zb8:FnScope ZpD ["_law_script"] (Zab ZfT):=⟨rfl,rfl,rfl,by decide +kernel,rfl,by decide +kernel,by decide +kernel⟩
set_option genInjectivity false in
set_option genSizeOf false in
structure Adr where
 f_is_whole:Addr
 d_is_whole:FuncData
 f_is_between:Addr
 d_is_between:FuncData
 f_reached:Addr
 d_reached:FuncData
 f_cone:Addr
 d_cone:FuncData
 f_head:Addr
 d_head:FuncData
 f_foot:Addr
 d_foot:FuncData
 f_need_goals:Addr
 d_need_goals:FuncData
 f_next_ends:Addr
 d_next_ends:FuncData
 f_search:Addr
 d_search:FuncData
 f_lead:Addr
 d_lead:FuncData
 f_way_from:Addr
 d_way_from:FuncData
 f_ways_of:Addr
 d_ways_of:FuncData
 f_stops_of:Addr
 d_stops_of:FuncData
 f_apart:Addr
 d_apart:FuncData
 f_need_size:Addr
 d_need_size:FuncData
 f_maze_of:Addr
 d_maze_of:FuncData
 f_Labels___init__:Addr
 d_Labels___init__:FuncData
 f_Labels_settle:Addr
 d_Labels_settle:FuncData
 f_Labels_keep:Addr
 d_Labels_keep:FuncData
 f_Labels_need_and_knot:Addr
 d_Labels_need_and_knot:FuncData
 f_Labels_label:Addr
 d_Labels_label:FuncData
 f_Labels_cut:Addr
 d_Labels_cut:FuncData
 f_turned:Addr
 d_turned:FuncData
 f_Fold___init__:Addr
 d_Fold___init__:FuncData
 f_Fold_total:Addr
 d_Fold_total:FuncData
 f_Fold_has_tie:Addr
 d_Fold_has_tie:FuncData
 f_Fold_pair:Addr
 d_Fold_pair:FuncData
 f_Fold_both:Addr
 d_Fold_both:FuncData
 f_Fold_and_knot:Addr
 d_Fold_and_knot:FuncData
 f_law_cell_at:Addr
 d_law_cell_at:FuncData
 f_law_pairs:Addr
 d_law_pairs:FuncData
 f_law_mixed:Addr
 d_law_mixed:FuncData
 f_law_digit_pairs:Addr
 d_law_digit_pairs:FuncData
 f_law_fold:Addr
 d_law_fold:FuncData
 f_law_cone:Addr
 d_law_cone:FuncData
 f_law_whole:Addr
 d_law_whole:FuncData
 f_law_stops:Addr
 d_law_stops:FuncData
 f_law_good_cut:Addr
 d_law_good_cut:FuncData
 f_law:Addr
 d_law:FuncData
 c_Labels:Addr
 c_Fold:Addr
 c_NoGoal:Addr
 c_NoKnot:Addr
 c_NoSize:Addr
 c_NoTie:Addr
noncomputable def Zgd (_:Adr):V:=.int 1
noncomputable def Zcj (_:Adr):V:=.int 6
noncomputable def Zc6 (_:Adr):V:=.int 2
noncomputable def ZeC (_:Adr):V:=.int 0
structure Txt (K:ZpF) (mg:Str->Option Value) (a:Adr):Prop where
 mg_is_whole:mg "is_whole" = some (.ref a.f_is_whole)
 fn_is_whole:Fun K "is_whole" "is_whole" Zbz a.f_is_whole a.d_is_whole
 bi_is_whole:Za7 K a.d_is_whole ["thing"] []
 mg_is_between:mg "is_between" = some (.ref a.f_is_between)
 fn_is_between:Fun K "is_between" "is_between" Za2 a.f_is_between a.d_is_between
 bi_is_between:Za7 K a.d_is_between ["thing","least","greatest"] []
 mg_reached:mg "reached" = some (.ref a.f_reached)
 fn_reached:Fun K "reached" "reached" ZbC a.f_reached a.d_reached
 bi_reached:Za7 K a.d_reached ["fold","knots","stops"] []
 mg_cone:mg "cone" = some (.ref a.f_cone)
 fn_cone:Fun K "cone" "cone" Zd1 a.f_cone a.d_cone
 bi_cone:Za7 K a.d_cone ["fold","knot"] []
 mg_head:mg "head" = some (.ref a.f_head)
 fn_head:Fun K "head" "head" ZdZ a.f_head a.d_head
 bi_head:Za7 K a.d_head ["place"] []
 mg_foot:mg "foot" = some (.ref a.f_foot)
 fn_foot:Fun K "foot" "foot" Zd0 a.f_foot a.d_foot
 bi_foot:Za7 K a.d_foot ["place"] []
 mg_need_goals:mg "need_goals" = some (.ref a.f_need_goals)
 fn_need_goals:Fun K "need_goals" "need_goals" Za1 a.f_need_goals a.d_need_goals
 bi_need_goals:Za7 K a.d_need_goals ["maze","goals"] []
 mg_next_ends:mg "next_ends" = some (.ref a.f_next_ends)
 fn_next_ends:Fun K "next_ends" "next_ends" Za8 a.f_next_ends a.d_next_ends
 bi_next_ends:Za7 K a.d_next_ends ["maze","above","end"] []
 mg_search:mg "search" = some (.ref a.f_search)
 fn_search:Fun K "search" "search" Zb5 a.f_search a.d_search
 bi_search:Za7 K a.d_search ["maze","goals","above"] []
 mg_lead:mg "lead" = some (.ref a.f_lead)
 fn_lead:Fun K "lead" "lead" ZdY a.f_lead a.d_lead
 bi_lead:Za7 K a.d_lead ["above","came","spring"] []
 mg_way_from:mg "way_from" = some (.ref a.f_way_from)
 fn_way_from:Fun K "way_from" "way_from" Zbx a.f_way_from a.d_way_from
 bi_way_from:Za7 K a.d_way_from ["above","spring"] []
 mg_ways_of:mg "ways_of" = some (.ref a.f_ways_of)
 fn_ways_of:Fun K "ways_of" "ways_of" Zbw a.f_ways_of a.d_ways_of
 bi_ways_of:Za7 K a.d_ways_of ["maze","above"] []
 mg_stops_of:mg "stops_of" = some (.ref a.f_stops_of)
 fn_stops_of:Fun K "stops_of" "stops_of" Zbq a.f_stops_of a.d_stops_of
 bi_stops_of:Za7 K a.d_stops_of ["came"] []
 mg_apart:mg "apart" = some (.ref a.f_apart)
 fn_apart:Fun K "apart" "apart" ZcC a.f_apart a.d_apart
 bi_apart:Za7 K a.d_apart ["maze","goals","most"] []
 mg_need_size:mg "need_size" = some (.ref a.f_need_size)
 fn_need_size:Fun K "need_size" "need_size" Zbg a.f_need_size a.d_need_size
 bi_need_size:Za7 K a.d_need_size ["size"] []
 mg_maze_of:mg "maze_of" = some (.ref a.f_maze_of)
 fn_maze_of:Fun K "maze_of" "maze_of" ZbJ a.f_maze_of a.d_maze_of
 bi_maze_of:Za7 K a.d_maze_of ["fold"] []
 fn_Labels___init__:Fun K "__init__" "Labels.__init__" Zay a.f_Labels___init__ a.d_Labels___init__
 bi_Labels___init__:Za7 K a.d_Labels___init__ ["self","fold","size"] []
 fn_Labels_settle:Fun K "settle" "Labels.settle" Zat a.f_Labels_settle a.d_Labels_settle
 bi_Labels_settle:Za7 K a.d_Labels_settle ["self","maze","inner","size"] []
 me_Labels_settle:Meth K a.c_Labels "settle" a.f_Labels_settle
 fn_Labels_keep:Fun K "keep" "Labels.keep" ZaU a.f_Labels_keep a.d_Labels_keep
 bi_Labels_keep:Za7 K a.d_Labels_keep ["self","knot","level","cut","ways"] []
 me_Labels_keep:Meth K a.c_Labels "keep" a.f_Labels_keep
 fn_Labels_need_and_knot:Fun K "need_and_knot" "Labels.need_and_knot" Zao a.f_Labels_need_and_knot a.d_Labels_need_and_knot
 bi_Labels_need_and_knot:Za7 K a.d_Labels_need_and_knot ["self","knot"] []
 me_Labels_need_and_knot:Meth K a.c_Labels "need_and_knot" a.f_Labels_need_and_knot
 fn_Labels_label:Fun K "label" "Labels.label" ZaJ a.f_Labels_label a.d_Labels_label
 bi_Labels_label:Za7 K a.d_Labels_label ["self","knot"] []
 me_Labels_label:Meth K a.c_Labels "label" a.f_Labels_label
 fn_Labels_cut:Fun K "cut" "Labels.cut" Za3 a.f_Labels_cut a.d_Labels_cut
 bi_Labels_cut:Za7 K a.d_Labels_cut ["self","knot"] []
 me_Labels_cut:Meth K a.c_Labels "cut" a.f_Labels_cut
 mg_turned:mg "turned" = some (.ref a.f_turned)
 fn_turned:Fun K "turned" "turned" Zb4 a.f_turned a.d_turned
 bi_turned:Za7 K a.d_turned ["tie"] []
 fn_Fold___init__:Fun K "__init__" "Fold.__init__" ZaD a.f_Fold___init__ a.d_Fold___init__
 bi_Fold___init__:Za7 K a.d_Fold___init__ ["self","many"] []
 fn_Fold_total:Fun K "total" "Fold.total" Za4 a.f_Fold_total a.d_Fold_total
 bi_Fold_total:Za7 K a.d_Fold_total ["self"] []
 me_Fold_total:Meth K a.c_Fold "total" a.f_Fold_total
 fn_Fold_has_tie:Fun K "has_tie" "Fold.has_tie" ZaK a.f_Fold_has_tie a.d_Fold_has_tie
 bi_Fold_has_tie:Za7 K a.d_Fold_has_tie ["self","tie"] []
 me_Fold_has_tie:Meth K a.c_Fold "has_tie" a.f_Fold_has_tie
 fn_Fold_pair:Fun K "pair" "Fold.pair" Zbl a.f_Fold_pair a.d_Fold_pair
 bi_Fold_pair:Za7 K a.d_Fold_pair ["self","knot"] []
 me_Fold_pair:Meth K a.c_Fold "pair" a.f_Fold_pair
 fn_Fold_both:Fun K "both" "Fold.both" Zbm a.f_Fold_both a.d_Fold_both
 bi_Fold_both:Za7 K a.d_Fold_both ["self","one","other"] []
 me_Fold_both:Meth K a.c_Fold "both" a.f_Fold_both
 fn_Fold_and_knot:Fun K "and_knot" "Fold.and_knot" ZaC a.f_Fold_and_knot a.d_Fold_and_knot
 bi_Fold_and_knot:Za7 K a.d_Fold_and_knot ["self","ties"] []
 me_Fold_and_knot:Meth K a.c_Fold "and_knot" a.f_Fold_and_knot
 mg_law_cell_at:mg "_law_cell_at" = some (.ref a.f_law_cell_at)
 fn_law_cell_at:Fun K "_law_cell_at" "_law_cell_at" ZaT a.f_law_cell_at a.d_law_cell_at
 bi_law_cell_at:Za7 K a.d_law_cell_at ["_law_script","_law_k"] []
 mg_law_pairs:mg "_law_pairs" = some (.ref a.f_law_pairs)
 fn_law_pairs:Fun K "_law_pairs" "_law_pairs" Zbj a.f_law_pairs a.d_law_pairs
 bi_law_pairs:Za7 K a.d_law_pairs ["_law_many","_law_cells"] []
 mg_law_mixed:mg "_law_mixed" = some (.ref a.f_law_mixed)
 fn_law_mixed:Fun K "_law_mixed" "_law_mixed" Zbk a.f_law_mixed a.d_law_mixed
 bi_law_mixed:Za7 K a.d_law_mixed ["_law_script","_law_start","_law_count"] []
 mg_law_digit_pairs:mg "_law_digit_pairs" = some (.ref a.f_law_digit_pairs)
 fn_law_digit_pairs:Fun K "_law_digit_pairs" "_law_digit_pairs" Zax a.f_law_digit_pairs a.d_law_digit_pairs
 bi_law_digit_pairs:Za7 K a.d_law_digit_pairs ["_law_many","_law_cell","_law_most"] []
 mg_law_fold:mg "_law_fold" = some (.ref a.f_law_fold)
 fn_law_fold:Fun K "_law_fold" "_law_fold" Zbc a.f_law_fold a.d_law_fold
 bi_law_fold:Za7 K a.d_law_fold ["_law_many","_law_pairs_here"] []
 mg_law_cone:mg "_law_cone" = some (.ref a.f_law_cone)
 fn_law_cone:Fun K "_law_cone" "_law_cone" Zby a.f_law_cone a.d_law_cone
 bi_law_cone:Za7 K a.d_law_cone ["_law_knots","_law_knot"] []
 mg_law_whole:mg "_law_whole" = some (.ref a.f_law_whole)
 fn_law_whole:Fun K "_law_whole" "_law_whole" Zbh a.f_law_whole a.d_law_whole
 bi_law_whole:Za7 K a.d_law_whole ["_law_found"] []
 mg_law_stops:mg "_law_stops" = some (.ref a.f_law_stops)
 fn_law_stops:Fun K "_law_stops" "_law_stops" Zbi a.f_law_stops a.d_law_stops
 bi_law_stops:Za7 K a.d_law_stops ["_law_knots","_law_knot","_law_some"] []
 mg_law_good_cut:mg "_law_good_cut" = some (.ref a.f_law_good_cut)
 fn_law_good_cut:Fun K "_law_good_cut" "_law_good_cut" ZaI a.f_law_good_cut a.d_law_good_cut
 bi_law_good_cut:Za7 K a.d_law_good_cut ["_law_some","_law_knots","_law_knot","_law_size","_law_marks"] []
 mg_law:mg "law" = some (.ref a.f_law)
 fn_law:Fun K "law" "law" ZfT a.f_law a.d_law
 bi_law:Za7 K a.d_law ["_law_script"] []
 mg_Labels:mg "Labels" = some (.ref a.c_Labels)
 cl_Labels:Cls K a.c_Labels
 mk_Labels:Mk K a.c_Labels a.f_Labels___init__
 na_Labels_levels:Zdf K a.c_Labels "levels"
 na_Labels_found_cuts:Zdf K a.c_Labels "found_cuts"
 na_Labels_found_ways:Zdf K a.c_Labels "found_ways"
 mg_Fold:mg "Fold" = some (.ref a.c_Fold)
 cl_Fold:Cls K a.c_Fold
 mk_Fold:Mk K a.c_Fold a.f_Fold___init__
 na_Fold_many:Zdf K a.c_Fold "many"
 na_Fold_pairs:Zdf K a.c_Fold "pairs"
 na_Fold_knots:Zdf K a.c_Fold "knots"
 mg_NoGoal:mg "NoGoal" = some (.ref a.c_NoGoal)
 mg_NoKnot:mg "NoKnot" = some (.ref a.c_NoKnot)
 mg_NoSize:mg "NoSize" = some (.ref a.c_NoSize)
 mg_NoTie:mg "NoTie" = some (.ref a.c_NoTie)
 xi_NoGoal:ZpQ K a.c_NoGoal [.type "ValueError",.type "Exception",.type "BaseException",.type "object"] "ValueError.__new__" = true
 xq_NoGoal:exq K a.c_NoGoal=true
 kv_NoGoal:ZpN K (.ref a.c_NoGoal) (.type "ValueError")=some true
 xi_NoKnot:ZpQ K a.c_NoKnot [.type "ValueError",.type "Exception",.type "BaseException",.type "object"] "ValueError.__new__" = true
 xq_NoKnot:exq K a.c_NoKnot=true
 kv_NoKnot:ZpN K (.ref a.c_NoKnot) (.type "ValueError")=some true
 xi_NoSize:ZpQ K a.c_NoSize [.type "ValueError",.type "Exception",.type "BaseException",.type "object"] "ValueError.__new__" = true
 xq_NoSize:exq K a.c_NoSize=true
 kv_NoSize:ZpN K (.ref a.c_NoSize) (.type "ValueError")=some true
 xi_NoTie:ZpQ K a.c_NoTie [.type "ValueError",.type "Exception",.type "BaseException",.type "object"] "ValueError.__new__" = true
 xq_NoTie:exq K a.c_NoTie=true
 kv_NoTie:ZpN K (.ref a.c_NoTie) (.type "ValueError")=some true
 xk_NoGoal:ZpT K a.c_NoGoal "BaseException" = true
 xk_NoKnot:ZpT K a.c_NoKnot "BaseException" = true
 xk_NoSize:ZpT K a.c_NoSize "BaseException" = true
 xk_NoTie:ZpT K a.c_NoTie "BaseException" = true
 gx_ALWAYS:∃ u,mg "ALWAYS" = some u/\Zbr (Zgd a) u
 gx_GREATEST_SIZE:∃ u,mg "GREATEST_SIZE" = some u/\Zbr (Zcj a) u
 gx_LEAST_SIZE:∃ u,mg "LEAST_SIZE" = some u/\Zbr (Zc6 a) u
 gx_NEVER:∃ u,mg "NEVER" = some u/\Zbr (ZeC a) u
 no_bool:mg "bool" = none
 no_int:mg "int" = none
 no_isinstance:mg "isinstance" = none
 no_len:mg "len" = none
 no_list:mg "list" = none
 no_max:mg "max" = none
 no_min:mg "min" = none
 no_range:mg "range" = none
 no_sorted:mg "sorted" = none
seal PE PT PS PSs PA PG PGs PI PO PW PTs PPs PK PC PSet PIp OpR UnR Zc9 IxR SlR MtR MtM ZiN
local macro_rules | `(tactic| walk_at "go")=>`(tactic| try simp only [ZaQ,Zbs,Zan,gTup,Zkp,gNil,gSub,tOp,tC,Zad,cI2,ZbL,Zd5,ZgW,cEq,cNe,cIs,Zit,cIn,Zjh,ZbH,ZiB,Zfg,Zck,Zn8,ZgA,ZbZ,Zcv,tIf,Zbb,Zaf,Zas,Zbt,tCB,ZiC,cInt,Zek,cMin,cMax,Zkw,tOr,Znt,ZhH,Zku,tUn,Zpp,ZkQ,Zmv,ZkP,ZkO,Zj7,ZkS,Zj6,cRef,Zme,Znm,cIx,Zn7,tLst_n,tTup_n,Zmx,Zpr,Zgw,tDIn,Zcp,ZeQ,tBM,tBM0,Zmu,ZbY,Zfp,Znw,tyV,Zpq,ZjU,rPop,ZkR,Zmd,Zoa,Zjv,Zep,ZkN,Znj,cInN,ZiU,Zmw,ZqX,List.cons_append,List.nil_append,Zrm,Zq4,List.set_cons_zero,List.set_cons_succ,decide_eq_true_eq,if_true,if_false,Zss,eq_self,decide_true,decide_false,Bool.not_true,Bool.not_false,Bool.not_eq_true',decide_eq_false_iff_not,Bool.and_true,Bool.true_and])
local macro_rules | `(tactic| walk_at "sd")=>`(tactic| first | exact And.intro (by decide) (by decide) | decide | omega | exact Or.inl (And.intro (by omega) (by omega)) | exact Or.inr (And.intro (by omega) (by omega)) | exact And.intro (by omega) (And.intro (by omega) (by decide)) | exact And.intro (by omega) (by omega))
local macro_rules | `(tactic| walk_at "gs")=>`(tactic| (walk_at "go";repeat (first | (refine And.intro (by walk_at "sd") ?_;walk_at "go"))))
local macro_rules | `(tactic| walk_at "o")=>`(tactic| first | exact Or.inl rfl | exact Or.inr rfl)
variable {P:Program}{w:World}{K:ZpF}{mg:Str->Option Value}{base:Heap}{a:Adr}
noncomputable def ZhW (_:ZpF):Sp:=fun vs H Q _=>∃ t:Int,vs=[.int t]/\0<=t/\Q (.int (MF.tn t)) H
noncomputable def ZfV (K:ZpF):TS:=(Zck (tOp (cI2 fun i j=>.int (Builtin.bitXor i j)) (Zad 0) (tC (.int 1))))
theorem ZkL (T:Txt K mg a) {cdv:Value}{A:Around}{outer:List Env}{s:Shared}{H:Hp}{E:XK} (hr:Room 0 (A.deeper (envOfC "turned" (Zab Zb4) s.heap.objs.size a.f_turned cdv))) :
  PSs (Zcd CX0 P w K mg base ZjX "turned" (Zab Zb4) a.f_turned cdv A outer s H E).nox (Zai Zb4) (ZfV K) :=
 (Zah (ZaB (Zam ZmM (cv 0) Zag)))
theorem Zlh (T:Txt K mg a):FnOk P w K mg base CX0 1 a.f_turned a.d_turned ["tie"] (ZhW K):=by
 refine T.fn_turned.ok Zk2 (fun vs H Q E h=>?_) (fun cdv A outer s H vs Q E hr h=>⟨_,ZkL T hr,?_⟩)
 ·obtain ⟨t,rfl,_⟩:=h;rfl
 ·obtain ⟨t,rfl,h0,q⟩:=h
  show ZfV K _ [some (.int t)] H
  unfold ZfV
  walk_at "go"
  rw [ZiD h0]
  exact q
noncomputable def Zce (a:Adr) (K:ZpF):Sp:=fun vs H Q _=>∃ (x dx:Addr) (m:Int),vs=[.ref x,.int m]/\H x=some (.ins a.c_Fold dx []) /\
 ∀ H' pl kl,(∀ b o,b≠x->H b=some o->H' b=some o)->H pl=none->H kl=none->FoldAt a.c_Fold H' x m [] dx pl kl->Q .non H'
noncomputable def Zch (K:ZpF):TS:=(ZaQ (Znw K (Zad 0) (Zad 1) "many")
  (ZaQ (Znw K (Zad 0) (Zgr Zas) "pairs")
  (Znw K (Zad 0) Zjw "knots")))
theorem Zfo (T:Txt K mg a) {cdv:Value}{A:Around}{outer:List Env}{s:Shared}{H:Hp}{E:XK} (hr:Room 0 (A.deeper (envOfC "Fold.__init__" (Zab ZaD) s.heap.objs.size a.f_Fold___init__ cdv))) :
  PSs (Zcd CX0 P w K mg base ZdI "Fold.__init__" (Zab ZaD) a.f_Fold___init__ cdv A outer s H E).nox (Zai ZaD) (Zch K) :=
 (Zac (ZgF (cv 0) (cv 1) rfl)
   (Zac (ZgF (cv 0) (ZbU Zae) rfl)
   (Zah (ZgF (cv 0) ZmJ rfl))))
theorem Zfv (T:Txt K mg a):FnOk P w K mg base CX0 1 a.f_Fold___init__ a.d_Fold___init__ ["self","many"] (Zce a K):=by
 refine T.fn_Fold___init__.ok Zfr (fun vs H Q E h=>?_) (fun cdv A outer s H vs Q E hr h=>⟨_,Zfo T hr,?_⟩)
 ·obtain ⟨x,dx,m,rfl,_⟩:=h;rfl
 ·obtain ⟨x,dx,m,rfl,hx,q⟩:=h
  show Zch K _ [some (.ref x),some (.int m)] H
  unfold Zch
  walk_at "go"
  refine ⟨x,a.c_Fold,dx,[],rfl,hx,T.cl_Fold,T.na_Fold_many,by decide,?_⟩
  walk_at "go"
  refine ⟨by decide,fun pl H2 n2=>?_⟩
  have x2:=n2.same _ _ (Zal (H:=H) (a:=x) (o:=.ins a.c_Fold dx (Zd3 "many" (.int m) [])))
  refine ⟨x,a.c_Fold,dx,_,rfl,x2,T.cl_Fold,T.na_Fold_pairs,by have:=ZbF "many" (.int m) [];simp only [ZqT] at this;omega,?_⟩
  walk_at "go"
  intro kl H4 n4
  have x4:=n4.same _ _ (Zal (H:=H2) (a:=x) (o:=.ins a.c_Fold dx (Zd3 "pairs" (.ref pl) (Zd3 "many" (.int m) []))))
  refine ⟨x,a.c_Fold,dx,_,rfl,x4,T.cl_Fold,T.na_Fold_knots,by have h7:=ZbF "many" (.int m) [];have h8:=ZbF "pairs" (.ref pl) (Zd3 "many" (.int m) []);simp only [ZqT] at h7;omega,?_⟩
  have hpx:pl≠x:=fun e=>by have:=n2.was;rw [e,Zal] at this;cases this
  have hkx:kl≠x:=fun e=>by have:=n4.was;rw [e,Zal] at this;cases this
  have hp4:H4 pl=some (.lst []):=n4.same _ _ (by rw [Zak hpx];exact n2.at_)
  have hk4:H4 kl=some (.dT []):=n4.at_
  have st:∀ b o,b≠x->H b=some o->H4 b=some o:=fun b o nb e=>n4.same _ _ (by rw [Zak nb];exact n2.same _ _ (by rw [Zak nb];exact e))
  have nop:H pl=none:=by
   have:=n2.was
   rw [Zak hpx] at this
   exact this
  have nok:H kl=none:=by
   have h1:=n4.was
   rw [Zak hkx] at h1
   have h2:=n2.same.nil h1
   rw [Zak hkx] at h2
   exact h2
  refine q _ pl kl (fun b o nb e=>by rw [Zak nb];exact st b o nb e) nop nok ⟨?_,?_,?_,fun e he=>nomatch he⟩
  ·rw [Zal]
   have e1:Zd3 "knots" (.ref kl) (Zd3 "pairs" (.ref pl) (Zd3 "many" (.int m) []))=([("many",V.int m),("pairs",V.ref pl),("knots",V.ref kl)]:List (Str × V)):=by
    have z1:¬ ("many" : Str) = "pairs":=by decide +kernel
    have z2:¬ ("many" : Str) = "knots":=by decide +kernel
    have z3:¬ ("pairs" : Str) = "knots":=by decide +kernel
    simp [Zd3,z1,z2,z3]
   rw [e1]
  ·rw [Zak hpx];exact hp4
  ·rw [Zak hkx];exact hk4
noncomputable def ZaM (a:Adr) (_:ZpF):Sp:=fun vs H Q _=>∃ (f dx pl kl:Addr) (m:Int) (es:List En),vs=[.ref f]/\FoldAt a.c_Fold H f m es dx pl kl/\Q (.int (1+m+es.length)) H
noncomputable def Zc0 (K:ZpF):TS:=(Zck (tOp Zd5 (tOp Zd5 (tC (.int 1)) (Zfp K (Zad 0) "many")) (tCB (ZiC K) (Zaf (Zfp K (Zad 0) "pairs") Zas))))
theorem Zha (T:Txt K mg a) {cdv:Value}{A:Around}{outer:List Env}{s:Shared}{H:Hp}{E:XK} (hr:Room 0 (A.deeper (envOfC "Fold.total" (Zab Za4) s.heap.objs.size a.f_Fold_total cdv))) :
  PSs (Zcd CX0 P w K mg base Zfk "Fold.total" (Zab Za4) a.f_Fold_total cdv A outer s H E).nox (Zai Za4) (Zc0 K) :=
 (Zah (ZaB (Zam ZbM (Zam ZbM Zag (ZbE (cv 0) rfl)) (Zaz ZeF (by rfl) T.no_len PySem.boot_len (Zaa (ZbE (cv 0) rfl) Zae)))))
theorem ZaV (T:Txt K mg a):FnOk P w K mg base CX0 1 a.f_Fold_total a.d_Fold_total ["self"] (ZaM a K):=by
 refine T.fn_Fold_total.ok Zhg (fun vs H Q E h=>?_) (fun cdv A outer s H vs Q E hr h=>⟨_,Zha T hr,?_⟩)
 ·obtain ⟨f,dx,pl,kl,m,es,rfl,_⟩:=h;rfl
 ·obtain ⟨f,dx,pl,kl,m,es,rfl,hf,q⟩:=h
  show Zc0 K _ [some (.ref f)] H
  unfold Zc0
  walk_at "go"
  refine ⟨f,a.c_Fold,dx,_,_,rfl,hf.ins,T.cl_Fold,T.na_Fold_many,rfl,?_⟩
  walk_at "go"
  refine ⟨f,a.c_Fold,dx,_,_,rfl,hf.ins,T.cl_Fold,T.na_Fold_pairs,rfl,?_⟩
  walk_at "go"
  refine .inl ⟨_,.inl (.of hf.prs.lst),?_⟩
  rw [Zqi]
  exact q
noncomputable def Zcq (a:Adr) (_:ZpF):Sp:=fun vs H Q _=>∃ (f dx pl kl:Addr) (m t:Int) (es:List En),vs=[.ref f,.int t]/\FoldAt a.c_Fold H f m es dx pl kl/\Q (.bl (decide (0<=t/\t<2 * (1+m+es.length)))) H
noncomputable def Zct (a:Adr) (K:ZpF):TS:=(Zck (Zfg (cI2 fun i j=>.bl (decide (i<=j))) (cI2 fun i j=>.bl (decide (i<j))) (tC (.int 0)) (Zad 1) (tOp ZgW (tC (.int 2)) (ZbY a.c_Fold "total" (ZaM a K) [] E0 (Zad 0) Zas))))
theorem ZfI (T:Txt K mg a) {cdv:Value}{A:Around}{outer:List Env}{s:Shared}{H:Hp}{E:XK} (hr:Room 1 (A.deeper (envOfC "Fold.has_tie" (Zab ZaK) s.heap.objs.size a.f_Fold_has_tie cdv))) :
  PSs (Zcd CX0 P w K mg base Zd8 "Fold.has_tie" (Zab ZaK) a.f_Fold_has_tie cdv A outer s H E).nox (Zai ZaK) (Zct a K) :=
 (Zah (ZaB (ZlT o_le Zlk Zag (cv 1) (Zam ZdB Zag (Zb6 (cv 0) T.cl_Fold T.me_Fold_total (ZaV T) (hr.mono (by decide)) T.bi_Fold_total .nil ZaR)))))
theorem ZdA (T:Txt K mg a):FnOk P w K mg base CX0 2 a.f_Fold_has_tie a.d_Fold_has_tie ["self","tie"] (Zcq a K):=by
 refine T.fn_Fold_has_tie.ok ZfS (fun vs H Q E h=>?_) (fun cdv A outer s H vs Q E hr h=>⟨_,ZfI T hr,?_⟩)
 ·obtain ⟨f,dx,pl,kl,m,t,es,rfl,_⟩:=h;rfl
 ·obtain ⟨f,dx,pl,kl,m,t,es,rfl,hf,q⟩:=h
  show Zct a K _ [some (.ref f),some (.int t)] H
  unfold Zct
  walk_at "go"
  by_cases h0:0<=t
  ·rw [if_pos h0]
   refine ⟨f,dx,_,rfl,hf.ins,rfl,f,dx,pl,kl,m,es,rfl,hf,?_⟩
   walk_at "go"
   refine ⟨.inl ⟨by decide,by decide⟩,?_⟩
   have e:decide (t<2 * (1+m+(es.length:Int)))=decide (0<=t/\t<2 * (1+m+es.length)):=by rw [decide_eq_decide];omega
   rw [e]
   exact q
  ·rw [if_neg h0]
   have e:false=decide (0<=t/\t<2 * (1+m+(es.length:Int))):=by rw [decide_eq_false (by omega)]
   rw [e]
   exact q
noncomputable def Zdl (a:Adr) (_:ZpF):Sp:=fun vs H Q E=>∃ (f dx pl kl:Addr) (m k:Int) (es:List En),vs=[.ref f,.int k]/\FoldAt a.c_Fold H f m es dx pl kl /\
 (0<=k/\k<1+m+es.length->(k<=m->Q .non H)/\(∀ e,m<k->es[(k - m - 1).toNat]? = some e->Q (.ref e.1) H))/\(¬ (0<=k/\k<1+m+es.length)->∀ e,H e=none->E (.ref e) (some a.c_NoKnot) H)
noncomputable def Zdu (a:Adr) (K:ZpF) (E:XK):TS:=(ZaQ (Zcv (tOr (ZbH (tOp (cI2 fun i j=>.bl (decide (i<j))) (Zad 1) (tC (.int 0)))) (ZbH (tOp (cI2 fun i j=>.bl (decide (j<=i))) (Zad 1) (ZbY a.c_Fold "total" (ZaM a K) [] E0 (Zad 0) Zas)))) (Zep a.c_NoKnot (Zaf (tC (.str "no knot of this fold")) Zas) E) Zbt)
  (ZaQ (Zcv (ZbH (tOp (cI2 fun i j=>.bl (decide (i<=j))) (Zad 1) (Zfp K (Zad 0) "many"))) (Zck (tC .non)) Zbt)
  (Zck (tOp (cIx K) (Zfp K (Zad 0) "pairs") (tOp (cI2 fun i j=>.int (i - j)) (tOp (cI2 fun i j=>.int (i - j)) (Zad 1) (Zfp K (Zad 0) "many")) (tC (.int 1)))))))
theorem ZhT (T:Txt K mg a) {cdv:Value}{A:Around}{outer:List Env}{s:Shared}{H:Hp}{E:XK} (hr:Room 1 (A.deeper (envOfC "Fold.pair" (Zab Zbl) s.heap.objs.size a.f_Fold_pair cdv))) :
  PSs (Zcd (CX1 P w) P w K mg base Zgp "Fold.pair" (Zab Zbl) a.f_Fold_pair cdv A outer s H E) (Zai Zbl) (Zdu a K E) :=
 (Zac (Zbn (PW.pt (Zfs (ZaX Zlk (cv 1) Zag (Zau _)) (Zd2 (ZaX o_ge (cv 1) (Zb6 (cv 0) T.cl_Fold T.me_Fold_total (ZaV T) (hr.mono (by decide)) T.bi_Fold_total .nil ZaR) (Zau _))))) (Zah (Zc1 Zqd T.xi_NoKnot (by decide) rfl T.mg_NoKnot rfl ZdX (Zaa Zfc Zae))) ZaA)
   (Zac (Zbn (ZaX o_le (cv 1) (ZbE (cv 0) rfl) (Zau _)) (Zah (ZaB Zb9)) ZaA)
   (Zah (ZaB (ZaG ZaH (ZbE (cv 0) rfl) (Zam Zhn (Zam Zhn (cv 1) (ZbE (cv 0) rfl)) Zag) (fun _ _=>rfl))))))
theorem Zfe (T:Txt K mg a):FnOk P w K mg base (CX1 P w) 2 a.f_Fold_pair a.d_Fold_pair ["self","knot"] (Zdl a K):=by
 refine T.fn_Fold_pair.okX Zh0 (fun vs H Q E h=>?_) (fun cdv A outer s H vs Q E hr h=>⟨_,ZhT T hr,?_⟩)
 ·obtain ⟨f,dx,pl,kl,m,k,es,rfl,_⟩:=h;rfl
 ·obtain ⟨f,dx,pl,kl,m,k,es,rfl,hf,qi,qo⟩:=h
  show Zdu a K E _ [some (.ref f),some (.int k)] H
  unfold Zdu
  walk_at "go"
  by_cases h0:k<0
  ·rw [if_pos h0]
   exact ⟨by decide,qo (by omega)⟩
  rw [if_neg h0]
  refine ⟨f,dx,_,rfl,hf.ins,rfl,f,dx,pl,kl,m,es,rfl,hf,?_⟩
  walk_at "go"
  by_cases h1:1+m+(es.length:Int)<=k
  ·rw [if_pos h1]
   exact ⟨by decide,qo (by omega)⟩
  rw [if_neg h1]
  obtain ⟨q1,q2⟩:=qi (by omega)
  refine ⟨f,a.c_Fold,dx,_,_,rfl,hf.ins,T.cl_Fold,T.na_Fold_many,rfl,?_⟩
  walk_at "go"
  by_cases hk:k<=m
  ·rw [if_pos hk]
   exact q1 hk
  ·rw [if_neg hk]
   refine ⟨f,a.c_Fold,dx,_,_,rfl,hf.ins,T.cl_Fold,T.na_Fold_pairs,rfl,f,a.c_Fold,dx,_,_,rfl,hf.ins,T.cl_Fold,T.na_Fold_many,rfl,?_⟩
   walk_at "go"
   have hlt:(k - m - 1).toNat<es.length:=by omega
   refine ⟨_,_,.inl (.of hf.prs.lst),Zde .non (by omega) (by rw [Zqi];omega),?_⟩
   rw [ZlK es _ hlt]
   exact q2 _ (by omega) (Zqn hlt)
noncomputable def Zdb (a:Adr) (_:ZpF):Sp:=fun vs H Q _=>∃ (f dx pl kl tp:Addr) (m:Int) (p:MF.Pr) (es:List En),vs=[.ref f,.ref tp]/\FoldAt a.c_Fold H f m es dx pl kl/\H tp=some (.tup [.int p.1,.int p.2])/\es.length<=5000 /\
 ∀ H' es',Un2 pl kl H H'->FoldAt a.c_Fold H' f m es' dx pl kl->Zav es'=MF.kp m (Zav es) p->Q (.int (MF.kn m (Zav es) p)) H'
noncomputable def Zcg (a:Adr) (K:ZpF):TS:=(ZiN (Zcv (ZbH (Zcp (Zad 1) (Zfp K (Zad 0) "knots"))) (ZaQ (ZeQ (Zfp K (Zad 0) "knots") (Zad 1) (ZbY a.c_Fold "total" (ZaM a K) [] E0 (Zad 0) Zas))
  (ZbZ (tBM K "list" ZbI (Zfp K (Zad 0) "pairs") (Zaf (Zad 1) Zas)))) Zbt)
  (Zck (Zgw (Zfp K (Zad 0) "knots") (Zad 1))))
theorem Zfn (T:Txt K mg a) {cdv:Value}{A:Around}{outer:List Env}{s:Shared}{H:Hp}{E:XK} (hr:Room 1 (A.deeper (envOfC "Fold.and_knot" (Zab ZaC) s.heap.objs.size a.f_Fold_and_knot cdv))) :
  PSs (Zcd CX0 P w K mg base ZdH "Fold.and_knot" (Zab ZaC) a.f_Fold_and_knot cdv A outer s H E).nox (Zai ZaC) (Zcg a K) :=
 (Zci (Zbn (Zms (Zca (Zb1 hr) (cv 1) (ZbE (cv 0) rfl))) (Zac (ZcF (Zb1 hr) (ZbE (cv 0) rfl) (cv 1) (Zb6 (cv 0) T.cl_Fold T.me_Fold_total (ZaV T) (hr.mono (by decide)) T.bi_Fold_total .nil ZaR) rfl)
   (Zah (Za0 (Zeg Zqa Zqb Zqc (mtr Za9) (ZbE (cv 0) rfl) (Zaa (cv 1) Zae))))) ZaA)
   (Zah (ZaB (Zdy (Zb1 hr) (ZbE (cv 0) rfl) (cv 1) (fun _ _=>rfl)))))
theorem Zfu (T:Txt K mg a):FnOk P w K mg base CX0 2 a.f_Fold_and_knot a.d_Fold_and_knot ["self","ties"] (Zdb a K):=by
 refine T.fn_Fold_and_knot.ok Zfq (fun vs H Q E h=>?_) (fun cdv A outer s H vs Q E hr h=>⟨_,Zfn T hr,?_⟩)
 ·obtain ⟨f,dx,pl,kl,tp,m,p,es,rfl,_⟩:=h;rfl
 ·obtain ⟨f,dx,pl,kl,tp,m,p,es,rfl,hf,ht,hz,q⟩:=h
  show Zcg a K _ [some (.ref f),some (.ref tp)] H
  unfold Zcg
  have big:(5001:Nat)<=sizeLine:=by decide
  refine mid (fun σ' H'=>σ'=[some (.ref f),some (.ref tp)]/\Un2 pl kl H H'/\∃ es',FoldAt a.c_Fold H' f m es' dx pl kl/\Zav es'=MF.kp m (Zav es) p/\MF.fnd (m+1) (Zav es') p=some (MF.kn m (Zav es) p)/\H' tp=some (.tup [.int p.1,.int p.2])) ?_ ?_
  ·intro N hN
   walk_at "go"
   refine ⟨f,a.c_Fold,dx,_,_,rfl,hf.ins,T.cl_Fold,T.na_Fold_knots,rfl,kl,_,rfl,Zfl.t (k:=knK p) hf.prs.dct ht,?_⟩
   rw [Zg4]
   cases hfd:MF.fnd (m+1) (Zav es) p with
   | some i =>
    walk_at "go"
    refine hN _ _ ⟨rfl,Un2.refl,es,hf,?_,?_,ht⟩
    ·unfold MF.kp;rw [hfd];rfl
    ·unfold MF.kn;rw [hfd];rfl
   | none =>
    walk_at "go"
    refine ⟨f,dx,_,rfl,hf.ins,rfl,f,dx,pl,kl,m,es,rfl,hf,?_⟩
    walk_at "go"
    refine ⟨f,a.c_Fold,dx,_,_,rfl,hf.ins,T.cl_Fold,T.na_Fold_knots,rfl,?_⟩
    walk_at "go"
    refine ⟨kl,_,rfl,Zky.t (k:=knK p) hf.prs.dct ht (by rw [Zlw,Zqi];omega),?_⟩
    have e0:(1+m+(es.length:Int))=(m+1)+((Zav es).length:Nat):=by rw [Zqi];omega
    rw [e0,Zom hfd]
    have nfk:f≠kl:=Zbv hf.ins hf.prs.dct (fun z=>nomatch z)
    have nfl:f≠pl:=Zbv hf.ins hf.prs.lst (fun z=>nomatch z)
    have i2:upd H kl (.dT (kvF (m+1) (Zav es ++ [p]))) f=some (.ins a.c_Fold dx [("many",.int m),("pairs",.ref pl),("knots",.ref kl)]):=by rw [Zak nfk];exact hf.ins
    have l2:upd H kl (.dT (kvF (m+1) (Zav es ++ [p]))) pl=some (.lst (es.map fun e=>V.ref e.1)):=by rw [Zak hf.prs.nlk];exact hf.prs.lst
    walk_at "go"
    refine ⟨f,a.c_Fold,dx,_,_,rfl,i2,T.cl_Fold,T.na_Fold_pairs,rfl,?_⟩
    walk_at "go"
    refine ⟨.inl ⟨by trivial,_,.of l2⟩,pl,_,_,rfl,rfl,l2,by rw [Zqi];omega,?_⟩
    refine hN _ _ ⟨rfl,un_k.trans un_l,es ++ [(tp,p)],⟨?_,hf.prs.put ht hfd⟩,?_,?_,?_⟩
    ·rw [Zak nfl];exact i2
    ·unfold MF.kp;rw [hfd,Zav,Zqo];rfl
    ·unfold MF.kn;rw [hfd,Zav,Zqo];exact MF.Zhx hfd
    ·rw [Zak (Zbv ht hf.prs.lst (fun z=>nomatch z)),Zak (Zbv ht hf.prs.dct (fun z=>nomatch z))];exact ht
  ·rintro σ' H' ⟨rfl,u,es',hf',hp',hfd,ht'⟩
   walk_at "go"
   refine ⟨f,a.c_Fold,dx,_,_,rfl,hf'.ins,T.cl_Fold,T.na_Fold_knots,rfl,kl,.int (MF.kn m (Zav es) p),rfl,?_,q _ es' u hf' hp'⟩
   have:=Zfl.t (k:=knK p) hf'.prs.dct ht'
   rw [Zg4,hfd] at this
   exact this
noncomputable def Ze9 (a:Adr) (_:ZpF):Sp:=fun vs H Q E=>∃ (f dx pl kl:Addr) (m s t:Int) (es:List En),vs=[.ref f,.int s,.int t]/\FoldAt a.c_Fold H f m es dx pl kl/\es.length<=5000 /\
 (0<=s/\0<=t/\s<2 * (1+m+es.length)/\t<2 * (1+m+es.length)->∀ H' es',Un2 pl kl H H'->FoldAt a.c_Fold H' f m es' dx pl kl->Zav es'=MF.bp m (Zav es) s t->Q (.int (MF.bt m (Zav es) s t)) H') /\
 (¬ (0<=s/\0<=t/\s<2 * (1+m+es.length)/\t<2 * (1+m+es.length))->∀ e,H e=none->E (.ref e) (some a.c_NoTie) H)
noncomputable def Zdv (a:Adr) (K:ZpF) (E:XK):TS:=(ZaQ (Zcv (tOr (Zkw (ZiB K (ZbY a.c_Fold "has_tie" (Zcq a K) [] E0 (Zad 0) (Zaf (Zad 1) Zas)))) (Zkw (ZiB K (ZbY a.c_Fold "has_tie" (Zcq a K) [] E0 (Zad 0) (Zaf (Zad 2) Zas))))) (Zep a.c_NoTie (Zaf (tC (.str "no tie of this fold")) Zas) E) Zbt)
  (ZaQ (Zbs (tCB cMin (Zaf (Zad 1) (Zaf (Zad 2) Zas))) (Zan 3))
  (ZaQ (Zbs (tCB cMax (Zaf (Zad 1) (Zaf (Zad 2) Zas))) (Zan 4))
  (ZaQ (Zcv (ZbH (tOp (cEq K) (Zad 3) (tC (ZeC a)))) (Zck (tC (ZeC a))) Zbt)
  (ZaQ (Zcv (tOr (ZbH (tOp (cEq K) (Zad 3) (tC (Zgd a)))) (ZbH (tOp (cEq K) (Zad 3) (Zad 4)))) (Zck (Zad 4)) Zbt)
  (ZaQ (Zcv (ZbH (tOp (cEq K) (Zad 3) (Zbb (ZhW K) [] E0 (Zaf (Zad 4) Zas)))) (Zck (tC (ZeC a))) Zbt)
  (Zck (tOp ZgW (tC (.int 2)) (ZbY a.c_Fold "and_knot" (Zdb a K) [] E0 (Zad 0) (Zaf (Zju (Zaf (Zad 3) (Zaf (Zad 4) Zas))) Zas))))))))))
theorem ZhU (T:Txt K mg a) {cdv:Value}{A:Around}{outer:List Env}{s:Shared}{H:Hp}{E:XK} (hr:Room 2 (A.deeper (envOfC "Fold.both" (Zab Zbm) s.heap.objs.size a.f_Fold_both cdv))) :
  PSs (Zcd (CX1 P w) P w K mg base Zgq "Fold.both" (Zab Zbm) a.f_Fold_both cdv A outer s H E) (Zai Zbm) (Zdv a K E) :=
 (Zac (Zbn (PW.pt (Zfs (Zd4 (Zdw (ZbT (cv 0) T.cl_Fold T.me_Fold_has_tie (ZdA T) (hr.mono (by decide)) T.bi_Fold_has_tie .nil ZaR (Zaa (cv 1) Zae)))) (Zd2 (Zd4 (Zdw (ZbT (cv 0) T.cl_Fold T.me_Fold_has_tie (ZdA T) (hr.mono (by decide)) T.bi_Fold_has_tie .nil ZaR (Zaa (cv 2) Zae))))))) (Zah (Zc1 Zqd T.xi_NoTie (by decide) rfl T.mg_NoTie rfl ZdX (Zaa Zfc Zae))) ZaA)
   (Zac (Zap (i:=3) Zdm.nd rfl (by walk_at "o") (Zaz (Znh rfl) (by rfl) T.no_min PyProof.Rows.boot_min (Zaa (cv 1) (Zaa (cv 2) Zae))))
   (Zac (Zap (i:=4) Zdm.nd rfl (by walk_at "o") (Zaz (Zpm rfl) (by rfl) T.no_max PyProof.Rows.boot_max (Zaa (cv 1) (Zaa (cv 2) Zae))))
   (Zac (Zbn (ZaX (Zfw (hr8 hr)) (cv 3) (ZdK rfl T.gx_NEVER) (Zau _)) (Zah (ZaB (ZdK rfl T.gx_NEVER))) ZaA)
   (Zac (Zbn (PW.pt (Zfs (ZaX (Zfw (hr8 hr)) (cv 3) (ZdK rfl T.gx_ALWAYS) (Zau _)) (Zd2 (ZaX (Zfw (hr8 hr)) (cv 3) (cv 4) (Zau _))))) (Zah (ZaB (cv 4))) ZaA)
   (Zac (Zbn (ZaX (Zfw (hr8 hr)) (cv 3) (Zar (Zlh T) (hr.mono (by decide)) rfl T.mg_turned T.fn_turned.kp T.bi_turned .nil ZaR (Zaa (cv 4) Zae)) (Zau _)) (Zah (ZaB (ZdK rfl T.gx_NEVER))) ZaA)
   (Zah (ZaB (Zam ZdB Zag (ZbT (cv 0) T.cl_Fold T.me_Fold_and_knot (Zfu T) (hr.mono (by decide)) T.bi_Fold_and_knot .nil ZaR (Zaa (Zdx (Zaa (cv 3) (Zaa (cv 4) Zae))) Zae)))))))))))
theorem Zid (T:Txt K mg a):FnOk P w K mg base (CX1 P w) 3 a.f_Fold_both a.d_Fold_both ["self","one","other"] (Ze9 a K):=by
 refine T.fn_Fold_both.okX Zdm (fun vs H Q E h=>?_) (fun cdv A outer s H vs Q E hr h=>⟨_,ZhU T hr,?_⟩)
 ·obtain ⟨f,dx,pl,kl,m,s,t,es,rfl,_⟩:=h;rfl
 ·obtain ⟨f,dx,pl,kl,m,x,y,es,rfl,hf,hz,qi,qo⟩:=h
  show Zdv a K E _ [some (.ref f),some (.int x),some (.int y),none,none] H
  unfold Zdv ZeC Zgd
  walk_at "go"
  refine ⟨f,dx,_,rfl,hf.ins,rfl,f,dx,pl,kl,m,x,es,rfl,hf,?_⟩
  by_cases gx:0<=x/\x<2 * (1+m+(es.length:Int))
  case neg =>
   rw [decide_eq_false gx]
   walk_at "go"
   exact ⟨by decide,qo (fun z=>gx ⟨z.1,z.2.2.1⟩)⟩
  rw [decide_eq_true gx]
  walk_at "go"
  refine ⟨f,dx,_,rfl,hf.ins,rfl,f,dx,pl,kl,m,y,es,rfl,hf,?_⟩
  by_cases gy:0<=y/\y<2 * (1+m+(es.length:Int))
  case neg =>
   rw [decide_eq_false gy]
   walk_at "go"
   exact ⟨by decide,qo (fun z=>gy ⟨z.2.1,z.2.2.2⟩)⟩
  rw [decide_eq_true gy]
  obtain ⟨hx,hx'⟩:=gx
  obtain ⟨hy,hy'⟩:=gy
  have q:=qi ⟨hx,hy,hx',hy'⟩
  walk_at "go"
  have q':=q
  unfold MF.bt MF.bp MF.Zmm at q'
  have e1:(if y<x then y else x)=MF.lo x y:=rfl
  have e2:(if y > x then y else x)=MF.hi x y:=rfl
  rw [e1,e2]
  by_cases h1:MF.lo x y=0
  ·rw [if_pos h1] at q' ⊢
   exact q' H es Un2.refl hf rfl
  rw [if_neg h1] at q' ⊢
  by_cases h2:MF.lo x y=1\/MF.lo x y=MF.hi x y
  ·rw [if_pos h2] at q'
   have fin:=q' H es Un2.refl hf rfl
   rcases h2 with h2 | h2
   ·rw [if_pos h2];exact fin
   ·by_cases h3:MF.lo x y=1
    ·rw [if_pos h3];exact fin
    ·rw [if_neg h3,if_pos h2];exact fin
  rw [if_neg h2] at q'
  rw [if_neg (fun z=>h2 (.inl z)),if_neg (fun z=>h2 (.inr z))]
  have hhi:0<=MF.hi x y:=by unfold MF.hi;split <;> omega
  refine ⟨MF.hi x y,rfl,hhi,?_⟩
  walk_at "go"
  by_cases h3:MF.lo x y=MF.tn (MF.hi x y)
  ·rw [if_pos h3] at q' ⊢
   exact q' H es Un2.refl hf rfl
  rw [if_neg h3] at q' ⊢
  refine ⟨f,dx,_,rfl,hf.ins,rfl,by show 2<=sizeLine;decide,fun tp H2 n2=>?_⟩
  have hf2:=hf.same n2.same
  refine ⟨f,dx,pl,kl,tp,m,(MF.lo x y,MF.hi x y),es,rfl,hf2,n2.at_,hz,fun H' es' u hf' hp'=>?_⟩
  walk_at "go"
  refine ⟨.inl ⟨by decide,by decide⟩,q' H' es' (n2.same.un.trans u) hf' hp'⟩
theorem mk_Fold {a:Adr}{K:ZpF}{H:Hp}{m:Int}{F:Addr->Hp->Prop}{E:XK} (q:∀ x dx pl kl H',ZaZ H H'->H x=none->H pl=none->H kl=none->FoldAt a.c_Fold H' x m [] dx pl kl->F x H') :
  ∀ x dx,H x=none->H dx=none->dx≠x->Zce a K [.ref x,.int m] (upd (upd H dx (.own x)) x (.ins a.c_Fold dx [])) (fun v H2=>v=.non/\F x H2) E:=by
 intro x dx hx hd hne
 refine ⟨x,dx,m,rfl,Zal,fun H' pl kl st hp hk hf=>⟨rfl,q x dx pl kl H' (fun b o e=>?_) hx ?_ ?_ hf⟩⟩
 ·have n1:b≠x:=Zaj e hx
  have n2:b≠dx:=Zaj e hd
  exact st b o n1 (by rw [Zak n1,Zak n2];exact e)
 ·cases e:H pl with
  | none=>rfl
  | some o =>
   rw [Zak (Zaj e hx),Zak (Zaj e hd),e] at hp
   cases hp
 ·cases e:H kl with
  | none=>rfl
  | some o =>
   rw [Zak (Zaj e hx),Zak (Zaj e hd),e] at hk
   cases hk
noncomputable def Scr (K:ZpF) (H:Hp) (p:Addr) (xs:List V) (L:Addr->Prop):Prop:=(SqL K H p xs/\¬ L p)\/∀ H',SqL K H' p xs
theorem at_bl {L:List Bool}{i:Int} (h0:0<=i) (h1:i<L.length):atI (L.map V.bl) i=some (.bl (L.getD i.toNat false)):=by
 rw [Zde .non h0 (by rw [Zqi];exact h1)]
 have:i.toNat<L.length:=by omega
 simp [ZqN,this]
theorem ZnQ {n:Nat}{k:Int} (h0:0<=k) (h1:k<n):ixN n k=some k.toNat:=by
 unfold ixN
 simp [h0,h1]
theorem Znv (L:List Bool) (t:Int):(L.map V.bl).set (t / 2).toNat (.bl true)=(MF.mark L t).map V.bl:=(List.map_set ..).symm
theorem ZgJ {L:List Bool}{ts:List Int}{i:Nat}{t:Int} (h:ts[i]? = some t):MF.ZcH L (ts.take (i+1))=MF.mark (MF.ZcH L (ts.take i)) t:=by
 unfold MF.ZcH
 rw [ZqK,h,List.foldl_append]
 rfl
theorem Zpe {ts:List Int}{i:Nat}{x:V} (h:(ts.map V.int)[i]? = some x):∃ t:Int,x=.int t/\ts[i]? = some t/\t∈ts:=by
 rw [Zqy] at h
 cases e:ts[i]? with
 | none=>rw [e] at h;cases h
 | some t =>
  rw [e] at h
  cases h
  exact ⟨t,rfl,rfl,Zqw e⟩
theorem Zlt (L:List Bool) (p:MF.Pr):MF.ZcH L [p.1,p.2]=MF.mark (MF.mark L p.1) p.2:=rfl
theorem Zm6 {ts:List Int}{i:Nat}{x:V} (h:(ts.map fun t=>V.int (t / 2))[i]? = some x):∃ t:Int,x=.int (t / 2)/\ts[i]? = some t/\t∈ts:=by
 rw [Zqy] at h
 cases e:ts[i]? with
 | none=>rw [e] at h;cases h
 | some t =>
  rw [e] at h
  cases h
  exact ⟨t,rfl,rfl,Zqw e⟩
noncomputable def stp (kvs:List (Key × V)) (k:Nat):Bool:=(Ze4 kvs (.inl (k:Int))).isSome
noncomputable def nzI (k:Nat):V:=.int (k:Int)
noncomputable def ZgB (a:Adr) (K:ZpF):Sp:=fun vs H Q _=>∃ (f dx pl kl p sd:Addr) (m:Nat) (ts:List Int) (kvs:List (Key × V)) (es:List En),vs=[.ref f,.ref p,.ref sd]/\FoldAt a.c_Fold H f m es dx pl kl/\SqL K H p (ts.map fun t=>V.int (t / 2))/\H sd=some (.dK kvs)/\MF.Ok m (Zav es)/\MF.Tis m (Zav es) ts/\m<=10/\es.length<=4000/\ts.length<=4000 /\
 ∀ q H',Mad H q (.lst ((MF.reached (stp kvs) m (Zav es) ts).map nzI)) H'->Q (.ref q) H'
noncomputable def ZeT (a:Adr) (K:ZpF):TS:=(ZaQ (Zbs (tOp Znj (Zgr (Zaf (tC (.bl false)) Zas)) (ZbY a.c_Fold "total" (ZaM a K) [] E0 (Zad 0) Zas)) (Zan 3))
  (ZaQ (ZeN (Zdg K (Zad 1)) (Zan 4) (Zbs (tC (.bl true)) (gSub (Zad 3) (Zad 4) Zol)))
  (ZaQ (ZeN (Zm1 (Zaf (tOp (cI2 fun i j=>.int (i - j)) (ZbY a.c_Fold "total" (ZaM a K) [] E0 (Zad 0) Zas) (tC (.int 1))) (Zaf (Zfp K (Zad 0) "many") (Zaf (tUn Zpp (tC (.int 1))) Zas)))) (Zan 4) (Zcv (Znt (ZiB K (tOp (cIx K) (Zad 3) (Zad 4))) (ZbH (Zcp (Zad 4) (Zad 2)))) (ZeN (iTup K (ZbY a.c_Fold "pair" (Zdl a K) [] E0 (Zad 0) (Zaf (Zad 4) Zas))) (Zan 5) (Zbs (tC (.bl true)) (gSub (Zad 3) (tOp (ZbL ZdR fun i j=>.int (i / j)) (Zad 5) (tC (.int 2))) Zol))) Zbt))
  (Zck (ZcU (ZdV (Zaf (ZbY a.c_Fold "total" (ZaM a K) [] E0 (Zad 0) Zas) Zas)) 1 [3] (Zan 0) (ZiB K (tOp (cIx K) (Zad 1) (Zad 0))) (Zad 0))))))
theorem Zj4 (T:Txt K mg a) {cdv:Value}{A:Around}{outer:List Env}{s:Shared}{H:Hp}{E:XK} (hr:Room 2 (A.deeper (envOfC "reached" (Zab ZbC) s.heap.objs.size a.f_reached cdv))) :
  PSs (Zcd CX0 P w K mg base Zgj "reached" (Zab ZbC) a.f_reached cdv A outer s H E).nox (Zai ZbC) (ZeT a K) :=
 (Zac (Zap (i:=3) ZcK.nd rfl (by walk_at "o") (Zam ZnB (ZbU (Zaa ZdS Zae)) (Zb6 (cv 0) T.cl_Fold T.me_Fold_total (ZaV T) (hr.mono (by decide)) T.bi_Fold_total .nil ZaR)))
   (Zac (ZbW PassesOwn.never rfl (Zb0 (cv 1)) (ZaE (i:=4) ZcK.nd rfl (by walk_at "o")) (Zah (Zla ZdS (Znz (cv 3) (cv 4) ZjC))))
   (Zac (ZbW PassesOwn.never rfl (Zh2 rfl T.no_range (Zaa (Zam Zhn (Zb6 (cv 0) T.cl_Fold T.me_Fold_total (ZaV T) (hr.mono (by decide)) T.bi_Fold_total .nil ZaR) Zag) (Zaa (ZbE (cv 0) rfl) (Zaa (Zld ZkE Zag) Zae)))) (ZaE (i:=4) ZcK.nd rfl (by walk_at "o")) (Zah (Zbn (PW.pt (ZgE (Zdw (ZaG ZaH (cv 3) (cv 4) (fun _ _=>rfl))) (ZeV (Zms (Zca (Zb1 hr) (cv 4) (cv 2)))))) (Zah (ZbW PassesOwn.never rfl (pi_tup (ZbT (cv 0) T.cl_Fold T.me_Fold_pair (Zfe T) (hr.mono (by decide)) T.bi_Fold_pair .nil Zhj (Zaa (cv 4) Zae))) (ZaE (i:=5) ZcK.nd rfl (by walk_at "o")) (Zah (Zla ZdS (Znz (cv 3) (Zam Za5 (cv 5) Zag) ZjC))))) ZaA)))
   (Zah (ZaB (ZfY (N:=["knot","seen"]) (k:=1) (sel:=[3]) (CScope.of (Zab ZbC).names (by decide +kernel)) (CNames.of Zgj (by decide +kernel)) rfl (ZbD rfl T.no_range (Zaa (Zb6 (cv 0) T.cl_Fold T.me_Fold_total (ZaV T) (hr.mono (by decide)) T.bi_Fold_total .nil ZaR) Zae)) (fun _ _ _ _=>(ZaE (i:=0) (show ZqO (["knot","seen"]:List Str) by decide +kernel) rfl (by walk_at "o"))) (fun _ _ _ _=>(ZfX (Zdw (ZaG ZaH (cv 1) (cv 0) (fun _ _=>rfl))))) (fun _ _ _ _=>(cv 0))))))))
theorem Zkg (T:Txt K mg a):FnOk P w K mg base CX0 3 a.f_reached a.d_reached ["fold","knots","stops"] (ZgB a K):=by
 refine T.fn_reached.ok ZcK (fun vs H Q E h=>?_) (fun cdv A outer s H vs Q E hr h=>⟨_,Zj4 T hr,?_⟩)
 ·obtain ⟨f,dx,pl,kl,p,sd,m,ts,kvs,es,rfl,_⟩:=h;rfl
 ·obtain ⟨f,dx,pl,kl,p,sd,m,ts,kvs,es,rfl,hf,hT,hS,ok,hin,hm,hz,htz,q⟩:=h
  show ZeT a K _ [some (.ref f),some (.ref p),some (.ref sd),none,none,none] H
  unfold ZeT
  have big:(20000:Nat)<=sizeLine:=by decide
  have epl:((Zav es).length:Int)=es.length:=by rw [Zqi]
  walk_at "gs"
  intro r1 H1 n1
  refine ⟨f,dx,_,rfl,n1.same _ _ hf.ins,rfl,f,dx,pl,kl,m,es,rfl,hf.same n1.same,?_⟩
  walk_at "gs"
  refine ⟨_,n1.at_,by omega,by omega,by simp only [Zqx];omega,fun nq H2 n2=>?_⟩
  have hw:H nq=none:=n1.same.nil n2.was
  have e0:(Zqk (1+(m:Int)+(es.length:Int)).toNat [V.bl false]).flatten=(MF.ZcH (Zqk (1+m+(Zav es).length) false) (ts.take 0)).map V.bl:=by
   rw [Zk4,show (1+(m:Int)+(es.length:Int)).toNat=1+m+(Zav es).length by omega]
   show _=(Zqk (1+m+(Zav es).length) false).map V.bl
   rw [List.map_replicate]
  rw [e0] at n2
  have hlen:∀ xs:List Int,(MF.ZcH (Zqk (1+m+(Zav es).length) false) xs).length=1+m+(Zav es).length:=fun xs=>by rw [MF.ZdE,Zqv]
  generalize hL0:Zqk (1+m+(Zav es).length) false=L0 at *
  walk_at "gs"
  have s2:=n1.same.trans n2.same
  refine ⟨⟨_,s2.seq hT⟩,ZcN (xs:=ts.map fun t=>V.int (t / 2)) (fun i σ H3=>ZaZ H H3/\H3 nq=some (.lst ((MF.ZcH L0 (ts.take i)).map V.bl))/\∃ v4,σ=[some (.ref f),some (.ref p),some (.ref sd),some (.ref nq),v4,none]) ⟨s2,n2.at_,_,rfl⟩ ?_ ?_ ?_⟩
  ·rintro i σ H3 _ ⟨s3,_⟩
   exact s3.seq hT
  ·rintro i x σ H3 hx ⟨s3,a3,v4,rfl⟩
   obtain ⟨t,rfl,ht,htm⟩:=Zm6 hx
   have hb:=hin t htm
   walk_at "gs"
   refine ⟨nq,_,_,_,rfl,rfl,a3,ZnQ (by omega) (by rw [Zqi,hlen];omega),s3.put hw,?_,_,rfl⟩
   rw [Zal,Znv,ZgJ ht]
  ·rintro σ H3 ⟨s3,a3,v4,rfl⟩
   have f3:=hf.same s3
   rw [Zqi,ZqV] at a3
   walk_at "gs"
   refine ⟨f,dx,_,rfl,f3.ins,rfl,f,dx,pl,kl,m,es,rfl,f3,?_⟩
   walk_at "gs"
   refine ⟨f,a.c_Fold,dx,_,_,rfl,f3.ins,T.cl_Fold,T.na_Fold_many,rfl,?_⟩
   walk_at "gs"
   refine ⟨_,_,rfl,⟨by omega,by omega,by omega,by omega⟩,?_⟩
   rw [show (1+(m:Int)+(es.length:Int) - 1 - (m:Int)).toNat=(Zav es).length by omega]
   have dlen:∀ i,(MF.ZdW (stp kvs) m (Zav es) (MF.ZcH L0 ts) i).length=1+m+(Zav es).length:=fun i=>by rw [MF.ZeE,hlen]
   refine ZlM (fun i σ H4=>ZaZ H H4/\H4 nq=some (.lst ((MF.ZdW (stp kvs) m (Zav es) (MF.ZcH L0 ts) i).map V.bl))/\∃ v4 v5,σ=[some (.ref f),some (.ref p),some (.ref sd),some (.ref nq),v4,v5]) ⟨s3,a3,_,_,rfl⟩ ?_ ?_
   ·rintro i σ H4 hi ⟨s4,a4,v4,v5,rfl⟩
    have f4:=hf.same s4
    have hie:(Zav es).length - 1 - i<es.length:=by omega
    have hee:es[(Zav es).length - 1 - i]? = some es[(Zav es).length - 1 - i]:=Zqn hie
    have hpe:(Zav es)[(Zav es).length - 1 - i]? = some (es[(Zav es).length - 1 - i]).2:=by rw [Zqy,hee];rfl
    obtain ⟨o1,o2,o3,o4⟩:=ok _ _ hpe
    have te:=f4.prs.tup _ (ZqU hie)
    have kn:1+(m:Int)+(es.length:Int) - 1 - (i:Int)=((m+1+((Zav es).length - 1 - i):Nat):Int):=by omega
    have hlk:MF.ZdW (stp kvs) m (Zav es) (MF.ZcH L0 ts) (i+1)=MF.Zi5 (stp kvs) m (Zav es) (MF.ZdW (stp kvs) m (Zav es) (MF.ZcH L0 ts) i) ((Zav es).length - 1 - i):=rfl
    unfold MF.Zi5 at hlk
    rw [Zqs (l:=Zav es),hpe,Option.getD_some] at hlk
    generalize hE:es[(Zav es).length - 1 - i]=e at *
    have hjb:m+1+((Zav es).length - 1 - i)<1+m+(Zav es).length:=by omega
    rw [kn]
    walk_at "gs"
    refine ⟨_,_,.inl (.of a4),at_bl (by omega) (by rw [dlen];omega),?_⟩
    rw [Zr6]
    cases hnd:(MF.ZdW (stp kvs) m (Zav es) (MF.ZcH L0 ts) i).getD (m+1+((Zav es).length - 1 - i)) false with
    | false =>
     rw [hnd,Bool.false_and,if_neg (by simp)] at hlk
     walk_at "go"
     exact ⟨s4,by rw [hlk];exact a4,_,_,rfl⟩
    | true =>
     rw [hnd,Bool.true_and] at hlk
     walk_at "gs"
     refine ⟨sd,_,rfl,Zfl.k (k:=.inl ((m+1+((Zav es).length - 1 - i):Nat):Int)) (s4 _ _ hS),?_⟩
     have hst:(Ze4 kvs (.inl ((m+1+((Zav es).length - 1 - i):Nat):Int))).isSome=stp kvs (m+1+((Zav es).length - 1 - i)):=rfl
     rw [hst]
     cases hsx:stp kvs (m+1+((Zav es).length - 1 - i)) with
     | true =>
      rw [hsx,if_neg (by simp)] at hlk
      walk_at "go"
      exact ⟨s4,by rw [hlk];exact a4,_,_,rfl⟩
     | false =>
      rw [hsx,Bool.not_false,if_pos rfl] at hlk
      walk_at "gs"
      refine ⟨f,dx,_,rfl,f4.ins,rfl,f,dx,pl,kl,m,_,es,rfl,f4,fun _=>⟨fun z=>absurd z (by omega),fun e' _ he'=>?_⟩,fun z=>absurd ⟨by omega,by omega⟩ z⟩
      rw [show (((m+1+((Zav es).length - 1 - i):Nat):Int) - (m:Int) - 1).toNat=(Zav es).length - 1 - i by omega,hee] at he'
      cases he'
      walk_at "gs"
      refine ⟨⟨_,.of te⟩,Zm8 (xs:=[.int e.2.1,.int e.2.2]) (fun j σ H5=>ZaZ H H5/\H5 nq=some (.lst ((MF.ZcH (MF.ZdW (stp kvs) m (Zav es) (MF.ZcH L0 ts) i) ([e.2.1,e.2.2].take j)).map V.bl))/\∃ v4 v5,σ=[some (.ref f),some (.ref p),some (.ref sd),some (.ref nq),v4,v5]) ⟨s4,a4,_,_,rfl⟩ ?_ ?_ ?_⟩
      ·rintro j σ H5 _ ⟨s5,_⟩
       exact .of ((hf.same s5).prs.tup _ (Zqw hee))
      ·rintro j x σ H5 hx ⟨s5,a5,v4,v5,rfl⟩
       obtain ⟨t,rfl,ht,htm⟩:=Zpe (ts:=[e.2.1,e.2.2]) hx
       have hb:0<=t/\t<2 * (1+(m:Int)+es.length):=by
        rcases Zqt.mp htm with rfl | htm
        ·omega
        ·rw [Zql] at htm
         subst htm
         omega
       walk_at "gs"
       refine ⟨nq,_,_,_,rfl,rfl,a5,ZnQ (by omega) (by rw [Zqi,MF.ZdE,dlen];omega),s5.put hw,?_,_,_,rfl⟩
       rw [Zal,Znv,ZgJ ht]
      ·rintro σ H5 ⟨s5,a5,v4,v5,rfl⟩
       refine ⟨s5,?_,_,_,rfl⟩
       rw [hlk,<- Zlt]
       exact a5
   ·rintro σ H4 ⟨s4,a4,v4,v5,rfl⟩
    have f4:=hf.same s4
    walk_at "gs"
    refine ⟨f,dx,_,rfl,f4.ins,rfl,f,dx,pl,kl,m,es,rfl,f4,?_⟩
    walk_at "gs"
    rw [show (1+(m:Int)+(es.length:Int)).toNat=1+m+(Zav es).length by omega]
    refine Zkt (MF.Zcl (stp kvs) m (Zav es) ts) nzI rfl (by omega) ?_ ?_ ?_
    ·intro i H' Q' hi s' q'
     walk_at "gs"
     refine ⟨_,_,.inl (.of (s' _ _ a4)),at_bl (by omega) (by rw [dlen];omega),?_⟩
     rw [show ((0:Int)+(i:Int)).toNat=i by omega]
     have e9:(MF.ZdW (stp kvs) m (Zav es) (MF.ZcH L0 ts) (Zav es).length).getD i false=MF.Zcl (stp kvs) m (Zav es) ts i:=by rw [<- hL0];rfl
     rw [e9]
     walk_at "go"
     exact q'
    ·intro i H' Q' hi _ s' q'
     walk_at "gs"
     rw [show (0:Int)+(i:Int)=(i:Int) by omega]
     exact q'
    ·intro pq H5 n5
     exact q pq H5 ⟨s4.nil n5.was,n5.at_,s4.trans n5.same⟩
noncomputable def ZkY (a:Adr) (_:ZpF):Sp:=fun vs H Q E=>∃ (f dx pl kl:Addr) (m:Nat) (k:Int) (es:List En),vs=[.ref f,.int k]/\FoldAt a.c_Fold H f m es dx pl kl/\MF.Ok m (Zav es)/\m<=10/\es.length<=4000 /\
 (∀ n:Nat,k=n->n<1+m+es.length->∀ q H',Mad H q (.lst ((MF.Zge m (Zav es) n).map nzI)) H'->Q (.ref q) H')/\(¬ (0<=k/\k<1+m+es.length)->∀ e,H e=none->E (.ref e) (some a.c_NoKnot) H)
noncomputable def ZiT (a:Adr) (K:ZpF) (E:XK):TS:=(ZaQ (Zcv (tOr (ZbH (tOp (cI2 fun i j=>.bl (decide (i<j))) (Zad 1) (tC (.int 0)))) (ZbH (tOp (cI2 fun i j=>.bl (decide (j<=i))) (Zad 1) (ZbY a.c_Fold "total" (ZaM a K) [] E0 (Zad 0) Zas)))) (Zep a.c_NoKnot (Zaf (tC (.str "no knot of this fold")) Zas) E) Zbt)
  (Zck (Zbb (ZgB a K) [] E0 (Zaf (Zad 0) (Zaf (Zgr (Zaf (Zad 1) Zas)) (Zaf Zeq Zas))))))
theorem Zn5 (T:Txt K mg a) {cdv:Value}{A:Around}{outer:List Env}{s:Shared}{H:Hp}{E:XK} (hr:Room 3 (A.deeper (envOfC "cone" (Zab Zd1) s.heap.objs.size a.f_cone cdv))) :
  PSs (Zcd (CX1 P w) P w K mg base ZnY "cone" (Zab Zd1) a.f_cone cdv A outer s H E) (Zai Zd1) (ZiT a K E) :=
 (Zac (Zbn (PW.pt (Zfs (ZaX Zlk (cv 1) Zag (Zau _)) (Zd2 (ZaX o_ge (cv 1) (Zb6 (cv 0) T.cl_Fold T.me_Fold_total (ZaV T) (hr.mono (by decide)) T.bi_Fold_total .nil ZaR) (Zau _))))) (Zah (Zc1 Zqd T.xi_NoKnot (by decide) rfl T.mg_NoKnot rfl ZdX (Zaa Zfc Zae))) ZaA)
   (Zah (ZaB (Zar (Zkg T) (hr.mono (by decide)) rfl T.mg_reached T.fn_reached.kp T.bi_reached .nil ZaR (Zaa (cv 0) (Zaa (ZbU (Zaa (cv 1) Zae)) (Zaa ZdL Zae)))))))
theorem Zow (T:Txt K mg a):FnOk P w K mg base (CX1 P w) 4 a.f_cone a.d_cone ["fold","knot"] (ZkY a K):=by
 refine T.fn_cone.okX Zoi (fun vs H Q E h=>?_) (fun cdv A outer s H vs Q E hr h=>⟨_,Zn5 T hr,?_⟩)
 ·obtain ⟨f,dx,pl,kl,m,k,es,rfl,_⟩:=h;rfl
 ·obtain ⟨f,dx,pl,kl,m,k,es,rfl,hf,ok,hm,hz,qi,qo⟩:=h
  show ZiT a K E _ [some (.ref f),some (.int k)] H
  unfold ZiT
  walk_at "go"
  by_cases h0:k<0
  ·rw [if_pos h0]
   exact ⟨by decide,qo (by omega)⟩
  rw [if_neg h0]
  refine ⟨f,dx,_,rfl,hf.ins,rfl,f,dx,pl,kl,m,es,rfl,hf,?_⟩
  walk_at "go"
  by_cases h1:1+(m:Int)+(es.length:Int)<=k
  ·rw [if_pos h1]
   exact ⟨by decide,qo (by omega)⟩
  rw [if_neg h1]
  obtain ⟨n,rfl⟩:=Zr7 (by omega:0<=k)
  have q:=qi n rfl (by omega)
  walk_at "gs"
  refine ⟨by show 1<=sizeLine;decide,fun r1 H1 n1=>?_⟩
  walk_at "gs"
  intro sd H2 n2
  have e1:([V.int (n:Int)]:List V)=[2 * (n:Int)].map fun t=>V.int (t / 2):=by
   show [V.int (n:Int)]=[V.int (2 * (n:Int) / 2)]
   rw [show 2 * (n:Int) / 2=(n:Int) by omega]
  rw [e1] at n1
  have s2:=n1.same.trans n2.same
  refine ⟨f,dx,pl,kl,r1,sd,m,[2 * (n:Int)],[],es,rfl,hf.same s2,.of (n2.same _ _ n1.at_),n2.at_,ok,?_,hm,hz,by simp,fun pq H3 n3=>?_⟩
  ·intro t ht
   rw [Zql] at ht
   subst ht
   have:(Zav es).length=es.length:=Zqi ..
   omega
  ·exact q pq H3 ⟨s2.nil n3.was,n3.at_,s2.trans n3.same⟩
noncomputable def nv (c:Nat):V:=.int (c:Nat)
noncomputable def ov:Option Nat->V
 | none=>.non
 | some u=>nv u
noncomputable def enc (x:Nat × Option Nat):Key × V:=(.inl (x.1:Int),ov x.2)
theorem Zd9 (e:Nat):∀ cs:MZ.Cs,Ze4 (cs.map enc) (.inl (e:Int))=(MZ.ZaS cs e).map ov
 | []=>rfl
 | x :: r=>by
  rw [ZqB]
  by_cases h:x.1=e
  ·rw [ZcR (show (enc x).1=.inl (e:Int) by unfold enc;rw [h])]
   unfold MZ.ZaS
   rw [ZrI (by simpa using h)]
   rfl
  ·rw [ZcS (show ¬ (enc x).1=.inl (e:Int) from fun z=>h (by have:=Sum.inl.inj z;omega)),Zd9 e r]
   unfold MZ.ZaS
   rw [ZrJ (by simpa using h)]
theorem Zpx (e:Nat) (cs:MZ.Cs):((cs.map enc).any fun kv=>decide (kv.1=(.inl (e:Int):Key)))=(cs.any fun x=>decide (x.1=e)):=by
 rw [Zrz]
 congr 1
 funext x
 show decide ((.inl (x.1:Int):Key)=.inl (e:Int))=decide (x.1=e)
 rw [decide_eq_decide]
 exact ⟨fun z=>by have:=Sum.inl.inj z;omega,fun z=>by rw [z]⟩
theorem Zhi (cs:MZ.Cs) (e:Nat) (o:Option Nat):ZeO (cs.map enc) (.inl (e:Int)) (ov o)=(MZ.Zkx cs e o).map enc:=by
 unfold ZeO MZ.Zkx
 rw [Zpx]
 by_cases h:(cs.any fun x=>decide (x.1=e))=true
 ·rw [if_pos h,if_pos h,Zqz,Zqz]
  refine Zq6 fun x _=>?_
  show (if (enc x).1=.inl (e:Int) then ((enc x).1,ov o) else enc x)=enc (if x.1=e then (x.1,o) else x)
  by_cases g:x.1=e
  ·rw [if_pos g,if_pos (show (enc x).1=.inl (e:Int) by unfold enc;rw [g])]
   rfl
  ·rw [if_neg g,if_neg (show ¬ (enc x).1=.inl (e:Int) from fun z=>g (by have:=Sum.inl.inj z;omega))]
 ·rw [if_neg h,if_neg h,Zqo]
  rfl
theorem Znb (cs:MZ.Cs) (e:Nat):Zjb (cs.map enc) (.inl (e:Int))=(MZ.Zks cs e).map enc:=by
 unfold Zjb MZ.Zks
 rw [Zrq]
 congr 1
 refine List.filter_congr fun x _=>?_
 show decide ((enc x).1≠.inl (e:Int))=decide (x.1≠e)
 rw [decide_eq_decide]
 exact ⟨fun z g=>z (by unfold enc;rw [g]),fun z g=>z (by have:=Sum.inl.inj g;omega)⟩
structure MazeAt (H:Hp) (mp:Addr) (rs:List Addr) (ls:List (List Nat)):Prop where
 lst:H mp=some (.lst (rs.map V.ref))
 len:rs.length=ls.length
 at_:∀ (i:Nat) r l,rs[i]? = some r->ls[i]? = some l->H r=some (.lst (l.map nv))
theorem MazeAt.same {H H':Hp}{mp:Addr}{rs:List Addr}{ls:List (List Nat)} (h:MazeAt H mp rs ls) (s:ZaZ H H'):MazeAt H' mp rs ls:=⟨s _ _ h.lst,h.len,fun i r l hr hl=>s _ _ (h.at_ i r l hr hl)⟩
noncomputable def Zba (ls:List (List Nat)) (p:Nat):List Nat:=ls.getD p []
theorem MazeAt.get {H:Hp}{mp:Addr}{rs:List Addr}{ls:List (List Nat)} (h:MazeAt H mp rs ls) {i:Nat} (hi:i<ls.length):∃ r,atI (rs.map V.ref) (i:Int)=some (.ref r)/\H r=some (.lst ((Zba ls i).map nv)):=by
 have hr:rs[i]? = some (rs[i]'(by rw [h.len];exact hi)):=Zqn _
 have hl:ls[i]? = some ls[i]:=Zqn hi
 refine ⟨rs[i]'(by rw [h.len];exact hi),?_,?_⟩
 ·rw [Zde .non (by omega) (by rw [Zqi,h.len];omega),Zr6,Zqs,Zqy,hr]
  rfl
 ·have:=h.at_ i _ _ hr hl
  unfold Zba
  rw [Zqs,hl]
  exact this
noncomputable def ZfO (_:ZpF):Sp:=fun vs H Q _=>∃ p:Nat,vs=[.int p]/\Q (nv (2 * p)) H
noncomputable def ZiR (K:ZpF):TS:=(Zck (tOp ZgW (tC (.int 2)) (Zad 0)))
theorem Zn3 (T:Txt K mg a) {cdv:Value}{A:Around}{outer:List Env}{s:Shared}{H:Hp}{E:XK} (hr:Room 0 (A.deeper (envOfC "head" (Zab ZdZ) s.heap.objs.size a.f_head cdv))) :
  PSs (Zcd CX0 P w K mg base ZnW "head" (Zab ZdZ) a.f_head cdv A outer s H E).nox (Zai ZdZ) (ZiR K) :=
 (Zah (ZaB (Zam ZdB Zag (cv 0))))
theorem Zhm (T:Txt K mg a):FnOk P w K mg base CX0 1 a.f_head a.d_head ["place"] (ZfO K):=by
 refine T.fn_head.ok Zog (fun vs H Q E h=>?_) (fun cdv A outer s H vs Q E hr h=>⟨_,Zn3 T hr,?_⟩)
 ·obtain ⟨p,rfl,_⟩:=h;rfl
 ·obtain ⟨p,rfl,q⟩:=h
  show ZiR K _ [some (.int p)] H
  unfold ZiR
  walk_at "gs"
  exact q
noncomputable def Zdj (_:ZpF):Sp:=fun vs H Q _=>∃ p:Nat,vs=[.int p]/\Q (nv (2 * p+1)) H
noncomputable def ZiS (K:ZpF):TS:=(Zck (tOp Zd5 (tOp ZgW (tC (.int 2)) (Zad 0)) (tC (.int 1))))
theorem Zn4 (T:Txt K mg a) {cdv:Value}{A:Around}{outer:List Env}{s:Shared}{H:Hp}{E:XK} (hr:Room 0 (A.deeper (envOfC "foot" (Zab Zd0) s.heap.objs.size a.f_foot cdv))) :
  PSs (Zcd CX0 P w K mg base ZnX "foot" (Zab Zd0) a.f_foot cdv A outer s H E).nox (Zai Zd0) (ZiS K) :=
 (Zah (ZaB (Zam ZbM (Zam ZdB Zag (cv 0)) Zag)))
theorem Zeh (T:Txt K mg a):FnOk P w K mg base CX0 1 a.f_foot a.d_foot ["place"] (Zdj K):=by
 refine T.fn_foot.ok Zoh (fun vs H Q E h=>?_) (fun cdv A outer s H vs Q E hr h=>⟨_,Zn4 T hr,?_⟩)
 ·obtain ⟨p,rfl,_⟩:=h;rfl
 ·obtain ⟨p,rfl,q⟩:=h
  show ZiS K _ [some (.int p)] H
  unfold ZiS
  walk_at "gs"
  exact q
noncomputable def Zg1 (ls:List (List Nat)) (gs:List Int):Prop:=∀ g∈gs,0<=g/\g<ls.length/\Zba ls g.toNat≠[]
noncomputable def Zer (a:Adr) (_:ZpF):Sp:=fun vs H Q E=>∃ (mp gp:Addr) (rs:List Addr) (ls:List (List Nat)) (gs:List Int),vs=[.ref mp,.ref gp]/\MazeAt H mp rs ls/\H gp=some (.lst (gs.map V.int))/\(Zg1 ls gs->Q .non H)/\(¬ Zg1 ls gs->∀ e,H e=none->E (.ref e) (some a.c_NoGoal) H)
noncomputable def ZcX (a:Adr) (K:ZpF) (E:XK):TS:=(ZeN (Zdg K (Zad 1)) (Zan 2) (Zcv (tOr (ZbH (tOp (cI2 fun i j=>.bl (decide (i<j))) (Zad 2) (tC (.int 0)))) (tOr (ZbH (tOp (cI2 fun i j=>.bl (decide (j<=i))) (Zad 2) (tCB (ZiC K) (Zaf (Zad 0) Zas)))) (ZbH (tOp (cEq K) (tCB (ZiC K) (Zaf (tOp (cIx K) (Zad 0) (Zad 2)) Zas)) (tC (.int 0)))))) (Zep a.c_NoGoal (Zaf (tC (.str "a goal is a spring or no place of the maze")) Zas) E) Zbt))
theorem Zg7 (T:Txt K mg a) {cdv:Value}{A:Around}{outer:List Env}{s:Shared}{H:Hp}{E:XK} (hr:Room 0 (A.deeper (envOfC "need_goals" (Zab Za1) s.heap.objs.size a.f_need_goals cdv))) :
  PSs (Zcd (CX1 P w) P w K mg base Zfh "need_goals" (Zab Za1) a.f_need_goals cdv A outer s H E) (Zai Za1) (ZcX a K E) :=
 (Zah (ZbW passF rfl (Zb0 (cv 1)) (ZaE (i:=2) Zet.nd rfl (by walk_at "o")) (Zah (Zbn (PW.pt (Zfs (ZaX Zlk (cv 2) Zag (Zau _)) (Zfs (ZaX o_ge (cv 2) (Zaz ZeF (by rfl) T.no_len PySem.boot_len (Zaa (cv 0) Zae)) (Zau _)) (Zd2 (ZaX (Zfw (hr8 hr)) (Zaz ZeF (by rfl) T.no_len PySem.boot_len (Zaa (ZaG ZaH (cv 0) (cv 2) (fun _ _=>rfl)) Zae)) Zag (Zau _)))))) (Zah (Zc1 Zqd T.xi_NoGoal (by decide) rfl T.mg_NoGoal rfl ZdX (Zaa Zfc Zae))) ZaA))))
theorem Zhk (T:Txt K mg a):FnOk P w K mg base (CX1 P w) 1 a.f_need_goals a.d_need_goals ["maze","goals"] (Zer a K):=by
 refine T.fn_need_goals.okX Zet (fun vs H Q E h=>?_) (fun cdv A outer s H vs Q E hr h=>⟨_,Zg7 T hr,?_⟩)
 ·obtain ⟨mp,gp,rs,ls,gs,rfl,_⟩:=h;rfl
 ·obtain ⟨mp,gp,rs,ls,gs,rfl,hM,hG,q1,q0⟩:=h
  show ZcX a K E _ [some (.ref mp),some (.ref gp),none] H
  unfold ZcX
  walk_at "gs"
  refine ⟨⟨_,.of hG⟩,ZcN (xs:=gs.map V.int) (fun i σ H2=>H2=H/\Zg1 ls (gs.take i)/\∃ v2,σ=[some (.ref mp),some (.ref gp),v2]) ⟨rfl,fun g hg=>by simp at hg,_,rfl⟩ ?_ ?_ ?_⟩
  ·rintro i σ H2 _ ⟨rfl,_⟩
   exact .of hG
  ·rintro i v σ H2 hv ⟨rfl,hok,v2,rfl⟩
   obtain ⟨g,hg,rfl⟩:=ZcM hv
   have bad:¬ (0<=g/\g<ls.length/\Zba ls g.toNat≠[])->∀ e,H2 e=none->E (.ref e) (some a.c_NoGoal) H2:=fun hno=>q0 fun hall=>hno (hall g (Zqw hg))
   walk_at "gs"
   by_cases c0:g<0
   ·rw [if_pos c0]
    walk_at "gs"
    exact fun e he=>bad (by omega) e he
   rw [if_neg c0]
   refine .inl ⟨_,.inl (.of hM.lst),?_⟩
   rw [Zqi,hM.len]
   by_cases c1:(ls.length:Int)<=g
   ·rw [if_pos c1]
    walk_at "gs"
    exact fun e he=>bad (by omega) e he
   rw [if_neg c1]
   obtain ⟨gn,rfl⟩:=Zr7 (by omega:0<=g)
   obtain ⟨r,h1,h2⟩:=hM.get (i:=gn) (by omega)
   refine ⟨_,_,.inl (.of hM.lst),h1,?_⟩
   refine .inl ⟨_,.inl (.of h2),?_⟩
   rw [Zqi]
   walk_at "gs"
   by_cases c2:((Zba ls gn).length:Int)=0
   ·rw [if_pos c2]
    walk_at "gs"
    refine fun e he=>bad (fun ⟨_,_,z⟩=>z ?_) e he
    rw [Zr6]
    exact ZrF.mp (by omega)
   ·rw [if_neg c2]
    refine ⟨by trivial,fun x hx=>?_,_,rfl⟩
    rw [ZqK,hg] at hx
    rcases Zqp.mp hx with z | z
    ·exact hok x z
    ·simp only [Option.toList_some,Zql] at z
     subst z
     refine ⟨by omega,by omega,fun z=>c2 ?_⟩
     rw [Zr6] at z
     rw [z]
     rfl
  ·rintro σ H2 ⟨rfl,hok,v2,rfl⟩
   rw [Zqi,ZqV] at hok
   walk_at "gs"
   exact q1 hok
noncomputable def Zdh (_:ZpF):Sp:=fun vs H Q _=>∃ (mp ap:Addr) (rs:List Addr) (ls:List (List Nat)) (as:MZ.Cs) (e:Nat),vs=[.ref mp,.ref ap,.int e]/\MazeAt H mp rs ls/\H ap=some (.dK (as.map enc))/\e / 2<ls.length/\ls.length<=1200/\(Zba ls (e / 2)).length<=1200 /\
 ∀ l H',Mad H l (.lst ((MZ.nxt (Zba ls) (MZ.ZaS as) e).map nv)) H'->Q (.ref l) H'
noncomputable def Zdo (K:ZpF):TS:=(ZaQ (Zbs (tOp (ZbL ZdR fun i j=>.int (i / j)) (Zad 2) (tC (.int 2))) (Zan 3))
  (ZaQ (Zcv (ZbH (tOp (cEq K) (Zad 2) (Zbb (Zdj K) [] E0 (Zaf (Zad 3) Zas)))) (Zck (tOp Zd5 (ZcU (Zdg K (tOp (cIx K) (Zad 0) (Zad 3))) 1 [] (Zan 0) Zeo (Zbb (ZfO K) [] E0 (Zaf (Zad 0) Zas))) (Zgr (Zaf (Zbb (ZfO K) [] E0 (Zaf (Zad 3) Zas)) Zas)))) Zbt)
  (ZaQ (Zcv (ZbH (Zcp (Zad 3) (Zad 1))) (Zck (Zgr (Zaf (Zbb (Zdj K) [] E0 (Zaf (Zad 3) Zas)) Zas))) Zbt)
  (Zck (tIf (ZbH (tOp cIs (Zgw (Zad 1) (Zad 3)) (tC .non))) (Zgr Zas) (Zgr (Zaf (Zbb (Zdj K) [] E0 (Zaf (Zgw (Zad 1) (Zad 3)) Zas)) Zas)))))))
theorem ZhN (T:Txt K mg a) {cdv:Value}{A:Around}{outer:List Env}{s:Shared}{H:Hp}{E:XK} (hr:Room 1 (A.deeper (envOfC "next_ends" (Zab Za8) s.heap.objs.size a.f_next_ends cdv))) :
  PSs (Zcd CX0 P w K mg base Zel "next_ends" (Zab Za8) a.f_next_ends cdv A outer s H E).nox (Zai Za8) (Zdo K) :=
 (Zac (Zap (i:=3) Zfa.nd rfl (by walk_at "o") (Zam Za5 (cv 2) Zag))
   (Zac (Zbn (ZaX (Zfw (hr8 hr)) (cv 2) (Zar (Zeh T) (hr.mono (by decide)) rfl T.mg_foot T.fn_foot.kp T.bi_foot .nil ZaR (Zaa (cv 3) Zae)) (Zau _)) (Zah (ZaB (Zam ZbM (ZfY (N:=["lower"]) (k:=1) (sel:=[]) (CScope.of (Zab Za8).names (by decide +kernel)) (CNames.of Zel (by decide +kernel)) rfl (Zb0 (ZaG ZaH (cv 0) (cv 3) (fun _ _=>rfl))) (fun _ _ _ _=>(ZaE (i:=0) (show ZqO (["lower"]:List Str) by decide +kernel) rfl (by walk_at "o"))) (fun _ _ _ _=>ZeW) (fun _ _ _ _=>(Zar (Zhm T) (hr.mono (by decide)) rfl T.mg_head T.fn_head.kp T.bi_head .nil ZaR (Zaa (cv 0) Zae)))) (ZbU (Zaa (Zar (Zhm T) (hr.mono (by decide)) rfl T.mg_head T.fn_head.kp T.bi_head .nil ZaR (Zaa (cv 3) Zae)) Zae))))) ZaA)
   (Zac (Zbn (Zms (Zca (Zb1 hr) (cv 3) (cv 1))) (Zah (ZaB (ZbU (Zaa (Zar (Zeh T) (hr.mono (by decide)) rfl T.mg_foot T.fn_foot.kp T.bi_foot .nil ZaR (Zaa (cv 3) Zae)) Zae)))) ZaA)
   (Zah (ZaB (ZjE (ZaX Zoz (Zdy (Zb1 hr) (cv 1) (cv 3) (fun _ _=>rfl)) Zb9 (Zau _)) (ZbU Zae) (ZbU (Zaa (Zar (Zeh T) (hr.mono (by decide)) rfl T.mg_foot T.fn_foot.kp T.bi_foot .nil ZaR (Zaa (Zdy (Zb1 hr) (cv 1) (cv 3) (fun _ _=>rfl)) Zae)) Zae))))))))
theorem Zh8 (T:Txt K mg a):FnOk P w K mg base CX0 2 a.f_next_ends a.d_next_ends ["maze","above","end"] (Zdh K):=by
 refine T.fn_next_ends.ok Zfa (fun vs H Q E h=>?_) (fun cdv A outer s H vs Q E hr h=>⟨_,ZhN T hr,?_⟩)
 ·obtain ⟨mp,ap,rs,ls,as,e,rfl,_⟩:=h;rfl
 ·obtain ⟨mp,ap,rs,ls,as,e,rfl,hM,hA,he,hl,hll,q⟩:=h
  show Zdo K _ [some (.ref mp),some (.ref ap),some (.int e),none] H
  unfold Zdo
  have big:(20000:Nat)<=sizeLine:=by decide
  have e2:((e:Int) / 2)=((e / 2:Nat):Int):=by omega
  have g1:=Zfl.k (k:=.inl ((e / 2:Nat):Int)) hA
  rw [Zd9] at g1
  walk_at "gs"
  rw [e2]
  refine ⟨e / 2,rfl,?_⟩
  unfold nv
  walk_at "gs"
  by_cases c:(e:Int)=((2 * (e / 2)+1:Nat):Int)
  ·rw [if_pos c]
   have hodd:e % 2=1:=by omega
   obtain ⟨r,h1,h2⟩:=hM.get he
   refine ⟨_,_,.inl (.of hM.lst),h1,?_⟩
   refine ⟨⟨_,.of h2⟩,ZgS (fun v=>match v with | .int l=>.int (2 * l) | _=>.non) (.of h2) rfl (by rw [Zqi];omega) ?_ ?_⟩
   ·intro v H' Q' hv s' q'
    obtain ⟨l,_,rfl⟩:=Zqr.mp hv
    walk_at "gs"
    refine ⟨l,rfl,?_⟩
    have:nv (2 * l)=V.int (2 * (l:Int)):=by unfold nv;congr 1
    rw [this]
    exact q'
   intro l1 H1 n1
   have e1:((Zba ls (e / 2)).map nv).map (fun v=>match v with | .int l=>V.int (2 * l) | _=>.non)=((Zba ls (e / 2)).map fun l=>2 * l).map nv:=by rw [Zqz,Zqz];rfl
   rw [e1] at n1
   walk_at "gs"
   refine ⟨e / 2,rfl,?_⟩
   refine ⟨by show 1<=sizeLine;decide,fun l2 H2 n2=>?_⟩
   refine ⟨_,_,n2.same _ _ n1.at_,n2.at_,by rw [Zqi,Zqi];show _+1<=_;omega,fun l3 hl3=>?_⟩
   have e3:((Zba ls (e / 2)).map fun l=>2 * l).map nv ++ [nv (2 * (e / 2))]=(MZ.nxt (Zba ls) (MZ.ZaS as) e).map nv:=by
    unfold MZ.nxt
    rw [if_pos hodd,Zqo]
    rfl
   rw [e3]
   have s2:=n1.same.trans n2.same
   exact q l3 _ ⟨s2.nil hl3,Zal,s2.trans (Zbd hl3)⟩
  rw [if_neg c]
  have hev:¬ e % 2=1:=by omega
  refine ⟨ap,_,rfl,g1,?_⟩
  cases hc:MZ.ZaS as (e / 2) with
  | none =>
   rw [hc] at g1
   walk_at "gs"
   refine ⟨e / 2,rfl,?_⟩
   refine ⟨by show 1<=sizeLine;decide,fun l2 H2 n2=>?_⟩
   have e3:[nv (2 * (e / 2)+1)]=(MZ.nxt (Zba ls) (MZ.ZaS as) e).map nv:=by
    unfold MZ.nxt
    rw [if_neg hev,hc]
    rfl
   rw [e3] at n2
   exact q l2 H2 n2.mad
  | some o =>
   rw [hc] at g1
   walk_at "gs"
   refine ⟨ap,_,rfl,g1,?_⟩
   cases o with
   | none =>
    show _
    walk_at "gs"
    intro l2 H2 n2
    have e3:([]:List V)=(MZ.nxt (Zba ls) (MZ.ZaS as) e).map nv:=by
     unfold MZ.nxt
     rw [if_neg hev,hc]
     rfl
    rw [e3] at n2
    exact q l2 H2 n2.mad
   | some u =>
    show _
    walk_at "gs"
    refine ⟨ap,_,rfl,g1,?_⟩
    refine ⟨u,rfl,?_⟩
    refine ⟨by show 1<=sizeLine;decide,fun l2 H2 n2=>?_⟩
    have e3:[nv (2 * u+1)]=(MZ.nxt (Zba ls) (MZ.ZaS as) e).map nv:=by
     unfold MZ.nxt
     rw [if_neg hev,hc]
     rfl
    rw [e3] at n2
    exact q l2 H2 n2.mad
noncomputable def ZcL (gs:List Nat) (g:Nat):Prop:=g∈gs
theorem Zcm {n:Nat}:∀ {xs:List Nat},xs.Nodup->(∀ x∈xs,x<n)->xs.length<=n:=fun {xs} nd h=>by
 have:=MZ.Zf9 (R:=fun a b:Nat=>a=b) (fun a a' b h h'=>h.trans h'.symm) (A:=xs) (B:=Zqq n) nd fun a ha=>⟨a,Zrh.mpr (h a ha),rfl⟩
 rwa [Zq3] at this
structure Seek (ls:List (List Nat)) (gs:List Nat) (as cs:MZ.Cs) (ws:List Nat):Prop where
 came:MZ.Came (Zba ls) (ZcL gs) (MZ.ZaS as) cs
 wait:∀ w∈ws,w∈MZ.ZaL cs
 wnd:ws.Nodup
 bd:∀ e∈MZ.ZaL cs,e<2 * ls.length
 done:∀ e∈MZ.ZaL cs,e∈ws\/((∀ t,e=2 * t+1->Zba ls t≠[])/\∀ e'∈MZ.nxt (Zba ls) (MZ.ZaS as) e,e'∈MZ.ZaL cs)
theorem Seek.len {ls:List (List Nat)}{gs:List Nat}{as cs:MZ.Cs}{ws:List Nat} (h:Seek ls gs as cs ws):cs.length<=2 * ls.length:=by
 have:=Zcm h.came.nd h.bd
 unfold MZ.ZaL at this
 rwa [Zqi] at this
structure Mz (ls:List (List Nat)):Prop where
 lt:∀ p l,l∈Zba ls p->l<p
 nd:∀ p,(Zba ls p).Nodup
theorem Mz.len {ls:List (List Nat)} (h:Mz ls) (p:Nat):(Zba ls p).length<=p:=Zcm (h.nd p) (h.lt p)
theorem Zo4 {ls:List (List Nat)}{p l:Nat} (h:l∈Zba ls p):p<ls.length:=by
 refine ZrY fun z=>?_
 unfold Zba at h
 rw [Zqs,ZqQ z] at h
 simp at h
theorem nxt_lt {ls:List (List Nat)} (mz:Mz ls) {as:MZ.Cs} (ab:∀ p q,MZ.ZaS as p=some (some q)->q<ls.length) {e e':Nat} (he:e<2 * ls.length) (h:e'∈MZ.nxt (Zba ls) (MZ.ZaS as) e):e'<2 * ls.length:=by
 rcases (by omega:e=2 * (e / 2)\/e=2 * (e / 2)+1) with z | z
 ·rw [z] at h
  rcases MZ.Zc3 h with ⟨_,rfl⟩ | ⟨q,hq,rfl⟩
  ·omega
  ·have:=ab _ _ hq
   omega
 ·rw [z] at h
  rcases MZ.ZdM h with ⟨l,hl,rfl⟩ | rfl
  ·have:=mz.lt _ _ hl
   omega
  ·omega
noncomputable def ZhX (_:ZpF):Sp:=fun vs H Q _=>∃ (mp gp ap:Addr) (rs:List Addr) (ls:List (List Nat)) (gs:List Nat) (as:MZ.Cs),vs=[.ref mp,.ref gp,.ref ap]/\MazeAt H mp rs ls/\H gp=some (.lst (gs.map nv))/\H ap=some (.dK (as.map enc))/\Mz ls/\ls.length<=1200/\(∀ g∈gs,g<ls.length)/\(∀ p q,MZ.ZaS as p=some (some q)->q<ls.length) /\
 (∀ s cs tp cp H',ZaZ H H'->H cp=none->H' tp=some (.tup [nv s,.ref cp])->H' cp=some (.dK (cs.map enc))->MZ.Came (Zba ls) (ZcL gs) (MZ.ZaS as) cs->Zba ls s=[]->2 * s+1∈MZ.ZaL cs->s<ls.length->(∀ e∈MZ.ZaL cs,e<2 * ls.length)->Q (.ref tp) H') /\
 (∀ cs tp cp H',ZaZ H H'->H' tp=some (.tup [.non,.ref cp])->H' cp=some (.dK (cs.map enc))->Seek ls gs as cs []->Q (.ref tp) H')
noncomputable def ZfW (K:ZpF):TS:=(ZaQ (Zbs Zeq (Zan 3))
  (ZaQ (ZeN (Zdg K (Zad 1)) (Zan 4) (ZeN (Zdg K (tOp (cIx K) (Zad 0) (Zad 4))) (Zan 5) (ZeQ (Zad 3) (Zbb (ZfO K) [] E0 (Zaf (Zad 5) Zas)) (tC .non))))
  (ZaQ (Zbs (tCB (Zmd K) (Zaf (Zad 3) Zas)) (Zan 6))
  (ZaQ (ZgA (ZiB K (Zad 6)) (ZaQ (Zbs (tBM0 K "list" rPop (Zad 6)) (Zan 7))
  (ZaQ (Zbs (tOp (ZbL ZdR fun i j=>.int (i / j)) (Zad 7) (tC (.int 2))) (Zan 8))
  (ZaQ (Zcv (Znt (ZbH (tOp (cEq K) (Zad 7) (Zbb (Zdj K) [] E0 (Zaf (Zad 8) Zas)))) (ZbH (tOp (cEq K) (tCB (ZiC K) (Zaf (tOp (cIx K) (Zad 0) (Zad 8)) Zas)) (tC (.int 0))))) (Zck (Zju (Zaf (Zad 8) (Zaf (Zad 3) Zas)))) Zbt)
  (ZeN (Zdg K (Zbb (Zdh K) [] E0 (Zaf (Zad 0) (Zaf (Zad 2) (Zaf (Zad 7) Zas))))) (Zan 9) (Zcv (ZbH (Zcp (Zad 9) (Zad 3))) (ZaQ (ZeQ (Zad 3) (Zad 9) (Zad 7))
  (ZbZ (tBM K "list" ZbI (Zad 6) (Zaf (Zad 9) Zas)))) Zbt))))))
  (Zck (Zju (Zaf (tC .non) (Zaf (Zad 3) Zas))))))))
theorem ZkM (T:Txt K mg a) {cdv:Value}{A:Around}{outer:List Env}{s:Shared}{H:Hp}{E:XK} (hr:Room 2 (A.deeper (envOfC "search" (Zab Zb5) s.heap.objs.size a.f_search cdv))) :
  PSs (Zcd CX0 P w K mg base ZjY "search" (Zab Zb5) a.f_search cdv A outer s H E).nox (Zai Zb5) (ZfW K) :=
 (Zac (Zap (i:=3) Zb7.nd rfl (by walk_at "o") ZdL)
   (Zac (ZbW PassesOwn.never rfl (Zb0 (cv 1)) (ZaE (i:=4) Zb7.nd rfl (by walk_at "o")) (Zah (ZbW PassesOwn.never rfl (Zb0 (ZaG ZaH (cv 0) (cv 4) (fun _ _=>rfl))) (ZaE (i:=5) Zb7.nd rfl (by walk_at "o")) (Zah (ZcF (Zb1 hr) (cv 3) (Zar (Zhm T) (hr.mono (by decide)) rfl T.mg_head T.fn_head.kp T.bi_head .nil ZaR (Zaa (cv 5) Zae)) Zb9 rfl)))))
   (Zac (Zap (i:=6) Zb7.nd rfl (by walk_at "o") (ZfZ (Zpn rfl) (by rfl) T.no_list PyProof.Rows.boot_list (Zaa (cv 3) Zae)))
   (Zac (ZfA PassesOwn.never (Zdw (cv 6)) (Zac (Zap (i:=7) Zb7.nd rfl (by walk_at "o") (ZnA Zqa Zqg Zqh (mtr ZnO) (cv 6)))
   (Zac (Zap (i:=8) Zb7.nd rfl (by walk_at "o") (Zam Za5 (cv 7) Zag))
   (Zac (Zbn (PW.pt (ZgE (ZaX (Zfw (hr8 hr)) (cv 7) (Zar (Zeh T) (hr.mono (by decide)) rfl T.mg_foot T.fn_foot.kp T.bi_foot .nil ZaR (Zaa (cv 8) Zae)) (Zau _)) (ZeV (ZaX (Zfw (hr8 hr)) (Zaz ZeF (by rfl) T.no_len PySem.boot_len (Zaa (ZaG ZaH (cv 0) (cv 8) (fun _ _=>rfl)) Zae)) Zag (Zau _))))) (Zah (ZaB (Zdx (Zaa (cv 8) (Zaa (cv 3) Zae))))) ZaA)
   (Zah (ZbW PassesOwn.never rfl (Zb0 (Zar (Zh8 T) (hr.mono (by decide)) rfl T.mg_next_ends T.fn_next_ends.kp T.bi_next_ends .nil ZaR (Zaa (cv 0) (Zaa (cv 2) (Zaa (cv 7) Zae))))) (ZaE (i:=9) Zb7.nd rfl (by walk_at "o")) (Zah (Zbn (Zms (Zca (Zb1 hr) (cv 9) (cv 3))) (Zac (ZcF (Zb1 hr) (cv 3) (cv 9) (cv 7) rfl)
   (Zah (Za0 (Zeg Zqa Zqb Zqc (mtr Za9) (cv 6) (Zaa (cv 9) Zae))))) ZaA))))))))
   (Zah (ZaB (Zdx (Zaa Zb9 (Zaa (cv 3) Zae)))))))))
theorem Zli (T:Txt K mg a):FnOk P w K mg base CX0 3 a.f_search a.d_search ["maze","goals","above"] (ZhX K):=by
 refine T.fn_search.ok Zb7 (fun vs H Q E h=>?_) (fun cdv A outer s H vs Q E hr h=>⟨_,ZkM T hr,?_⟩)
 ·obtain ⟨mp,gp,ap,rs,ls,gs,as,rfl,_⟩:=h;rfl
 ·obtain ⟨mp,gp,ap,rs,ls,gs,as,rfl,hM,hG,hA,mz,hn,hgs,hab,q1,q0⟩:=h
  show ZfW K _ [some (.ref mp),some (.ref gp),some (.ref ap),none,none,none,none,none,none,none] H
  unfold ZfW
  have big:(20000:Nat)<=sizeLine:=by decide
  walk_at "gs"
  intro cp H1 n1
  have fc:H cp=none:=n1.was
  walk_at "gs"
  refine ⟨⟨_,.of (n1.same _ _ hG)⟩,ZcN (xs:=gs.map nv) (fun i σ H2=>ZaZ H H2/\∃ (cs:MZ.Cs) (v4 v5:Option V),H2 cp=some (.dK (cs.map enc))/\(MZ.ZaL cs).Nodup/\(∀ x∈cs,x.2=none)/\(∀ e,e∈MZ.ZaL cs ↔ ∃ g∈gs.take i,∃ l∈Zba ls g,e=2 * l)/\σ=[some (.ref mp),some (.ref gp),some (.ref ap),some (.ref cp),v4,v5,none,none,none,none]) ⟨n1.same,[],_,_,n1.at_,Zq2,fun x hx=>by simp at hx,fun e=>by simp [MZ.ZaL],rfl⟩ ?_ ?_ ?_⟩
  ·rintro i σ H2 _ ⟨s2,_⟩
   exact .of (s2 _ _ hG)
  ·rintro i v σ H2 hv ⟨s2,cs,v4,v5,h2,nd2,all2,key2,rfl⟩
   obtain ⟨g,hg,rfl⟩:=ZcM hv
   have hgl:=hgs g (Zqw hg)
   obtain ⟨r,hr1,hr2⟩:=(hM.same s2).get hgl
   have hll:=mz.len g
   unfold nv
   walk_at "gs"
   refine ⟨_,_,.inl (.of (s2 _ _ hM.lst)),hr1,?_⟩
   refine ⟨⟨_,.of hr2⟩,ZcN (xs:=(Zba ls g).map nv) (fun j σ H3=>ZaZ H H3/\H3 r=some (.lst ((Zba ls g).map nv))/\∃ (cs:MZ.Cs) (v5:Option V),H3 cp=some (.dK (cs.map enc))/\(MZ.ZaL cs).Nodup/\(∀ x∈cs,x.2=none)/\(∀ e,e∈MZ.ZaL cs ↔ (∃ g∈gs.take i,∃ l∈Zba ls g,e=2 * l)\/∃ l∈(Zba ls g).take j,e=2 * l)/\σ=[some (.ref mp),some (.ref gp),some (.ref ap),some (.ref cp),some (.int (g:Nat)),v5,none,none,none,none]) ⟨s2,hr2,cs,_,h2,nd2,all2,fun e=>by rw [key2];simp,rfl⟩ ?_ ?_ ?_⟩
   ·rintro j σ H3 _ ⟨_,h3,_⟩
    exact .of h3
   ·rintro j w σ H3 hw ⟨s3,hr3,cs,v5,h3,nd3,all3,key3,rfl⟩
    obtain ⟨l,hl,rfl⟩:=ZcM hw
    have hlm:=Zqw hl
    have hcl:cs.length<=2 * ls.length:=by
     have:=Zcm (n:=2 * ls.length) nd3 fun e he=>by
      rcases (key3 e).mp he with ⟨g',hg',l',hl',rfl⟩ | ⟨l',hl',rfl⟩
      ·have:=mz.lt _ _ hl'
       have:=Zo4 hl'
       omega
      ·have:=mz.lt _ _ (Zrd hl')
       omega
     unfold MZ.ZaL at this
     rwa [Zqi] at this
    unfold nv
    walk_at "gs"
    refine ⟨l,rfl,cp,_,rfl,.k (k:=.inl ((2 * l:Nat):Int)) h3 (by rw [Zqi];omega),s3.put fc,?_,MZ.Zkx cs (2 * l) none,_,?_,MZ.Zif nd3 _ _,fun x hx=>?_,fun e=>?_,rfl⟩
    ·rw [Zak (Zbv hr3 h3 (fun z=>nomatch z))]
     exact hr3
    ·rw [Zal]
     exact congrArg (fun z=>some (HO.dK z)) (Zhi cs (2 * l) none)
    ·have hx':=(MZ.Zdd (MZ.Zif nd3 _ _)).mpr (show (x.1,x.2)∈_ from hx)
     rw [MZ.Zl6 nd3] at hx'
     by_cases e:x.1=2 * l
     ·rw [if_pos e] at hx'
      exact (Option.some.inj hx').symm
     ·rw [if_neg e] at hx'
      exact all3 _ ((MZ.Zdd nd3).mp hx')
    ·rw [MZ.Zhu]
     have ek:(∃ l'∈(Zba ls g).take (j+1),e=2 * l') ↔ (∃ l'∈(Zba ls g).take j,e=2 * l')\/e=2 * l:=by
      rw [ZqK,hl]
      constructor
      ·rintro ⟨l',hl',rfl⟩
       rcases Zqp.mp hl' with z | z
       ·exact .inl ⟨l',z,rfl⟩
       ·simp only [Option.toList_some,Zql] at z
        subst z
        exact .inr rfl
      ·rintro (⟨l',hl',rfl⟩ | rfl)
       ·exact ⟨l',ZqJ _ hl',rfl⟩
       ·exact ⟨l,ZqG _ (by simp),rfl⟩
     rw [ek,<- or_assoc,<- key3]
     split
     ·rename_i hin
      constructor
      ·exact .inl
      ·rintro (z | rfl)
       ·exact z
       ·exact hin
     ·rw [Zqp,Zql]
   ·rintro σ H3 ⟨s3,hr3,cs,v5,h3,nd3,all3,key3,rfl⟩
    rw [Zqi,ZqV] at key3
    refine ⟨s3,cs,_,_,h3,nd3,all3,fun e=>?_,rfl⟩
    rw [key3,ZqK,hg]
    constructor
    ·rintro (⟨g',hg',l,hl,rfl⟩ | ⟨l,hl,rfl⟩)
     ·exact ⟨g',ZqJ _ hg',l,hl,rfl⟩
     ·exact ⟨g,ZqG _ (by simp),l,hl,rfl⟩
    ·rintro ⟨g',hg',l,hl,rfl⟩
     rcases Zqp.mp hg' with z | z
     ·exact .inl ⟨g',z,l,hl,rfl⟩
     ·simp only [Option.toList_some,Zql] at z
      subst z
      exact .inr ⟨l,hl,rfl⟩
  ·rintro σ H2 ⟨s2,cs0,v4,v5,h2,nd2,all2,key2,rfl⟩
   rw [Zqi,ZqV] at key2
   have hC0:MZ.Came (Zba ls) (ZcL gs) (MZ.ZaS as) cs0:=by
    refine ⟨nd2,fun i e u h=>?_,fun e h=>?_,fun g l hg hl=>?_⟩
    ·have:=all2 _ (Zqw h)
     cases this
    ·obtain ⟨g,hg,l,hl,rfl⟩:=(key2 e).mp (Zqr.mpr ⟨_,h,rfl⟩)
     exact ⟨by omega,g,hg,by rw [show 2 * l / 2=l by omega];exact hl⟩
    ·obtain ⟨x,hx,e⟩:=Zqr.mp ((key2 (2 * l)).mpr ⟨g,hg,l,hl,rfl⟩)
     have:=all2 x hx
     rw [<- e,<- this]
     exact hx
   have hS0:Seek ls gs as cs0 (MZ.ZaL cs0):=⟨hC0,fun w hw=>hw,nd2,fun e he=>by
    obtain ⟨g,hg,l,hl,rfl⟩:=(key2 e).mp he
    have:=mz.lt _ _ hl
    have:=Zo4 hl
    omega,fun e he=>.inl he⟩
   walk_at "gs"
   refine ⟨_,.inl h2,fun wp H3 n3=>?_⟩
   have e3:(cs0.map enc).map (fun kv=>kV kv.1)=(MZ.ZaL cs0).map nv:=by unfold MZ.ZaL;rw [Zqz,Zqz];rfl
   rw [e3] at n3
   have s03:=s2.trans n3.same
   have fw:H wp=none:=s2.nil n3.was
   have ncw:cp≠wp:=Zaj h2 n3.was
   walk_at "gs"
   refine ⟨fun m σ H4=>∃ (cs:MZ.Cs) (ws:List Nat) (v4 v5 v7 v8 v9:Option V),ZaZ H H4/\H4 cp=some (.dK (cs.map enc))/\H4 wp=some (.lst (ws.map nv))/\Seek ls gs as cs ws/\m=2 * (2 * ls.length - cs.length)+ws.length/\σ=[some (.ref mp),some (.ref gp),some (.ref ap),some (.ref cp),v4,v5,some (.ref wp),v7,v8,v9],⟨_,cs0,MZ.ZaL cs0,_,_,_,_,_,s03,n3.same _ _ h2,n3.at_,hS0,rfl,rfl⟩,?_⟩
   rintro m σ H4 ⟨cs,ws,v4,v5,v7,v8,v9,s4,h4,hw4,sk,rfl,rfl⟩
   simp only [ZiB,Zad,Zrm,Zq4]
   refine ⟨_,.inl ⟨_,.of hw4,rfl⟩,?_⟩
   rcases ZrL ws with rfl | ⟨ws',e,hwe⟩
   ·rw [if_neg (by simp)]
    walk_at "gs"
    refine ⟨by show 2<=sizeLine;decide,fun tp H5 n5=>?_⟩
    exact q0 cs tp cp H5 (s4.trans n5.same) n5.at_ (n5.same _ _ h4) sk
   rw [ZrM] at hwe
   subst hwe
   rw [if_pos (by simp)]
   have hek:=sk.wait e (by simp)
   have heb:=sk.bd e hek
   have hcl:=sk.len
   have hwn:=Zrc.mp sk.wnd
   refine ⟨fun σ' H'=>∃ (cs':MZ.Cs) (ws2:List Nat) (v4 v5 v7 v8 v9:Option V),ZaZ H H'/\H' cp=some (.dK (cs'.map enc))/\H' wp=some (.lst (ws2.map nv))/\Seek ls gs as cs' ws2/\2 * (2 * ls.length - cs'.length)+ws2.length<=2 * (2 * ls.length - cs.length)+ws'.length/\σ'=[some (.ref mp),some (.ref gp),some (.ref ap),some (.ref cp),v4,v5,some (.ref wp),v7,v8,v9],?_,?_⟩
   ·rintro σ' H' ⟨cs',ws2,w4,w5,w7,w8,w9,z1,z2,z3,z4,z5,rfl⟩
    exact ⟨_,by rw [Zqj,Zqx];omega,cs',ws2,_,_,_,_,_,z1,z2,z3,z4,rfl,rfl⟩
   refine ⟨.inl ⟨by trivial,_,.of hw4⟩,wp,_,nv e,rfl,by trivial,hw4,by rw [Zqo];simp,?_⟩
   have hw5:upd H4 wp (.lst (((ws' ++ [e]).map nv).dropLast)) wp=some (.lst (ws'.map nv)):=by rw [Zal,Zqo];simp
   have h5:upd H4 wp (.lst (((ws' ++ [e]).map nv).dropLast)) cp=some (.dK (cs.map enc)):=by rw [Zak ncw];exact h4
   have s5:ZaZ H (upd H4 wp (.lst (((ws' ++ [e]).map nv).dropLast))):=s4.put fw
   generalize upd H4 wp (.lst (((ws' ++ [e]).map nv).dropLast))=H5 at hw5 h5 s5 ⊢
   unfold nv
   walk_at "gs"
   have e2:((e:Int) / 2)=((e / 2:Nat):Int):=by omega
   rw [e2]
   refine ⟨e / 2,rfl,?_⟩
   unfold nv
   have hM5:=hM.same s5
   obtain ⟨r,hr1,hr2⟩:=hM5.get (i:=e / 2) (by omega)
   have go:(∀ t,e=2 * t+1->Zba ls t≠[])->∀ D:Ends,D.nx=(fun σ' H'=>∃ (cs':MZ.Cs) (ws2:List Nat) (v4 v5 v7 v8 v9:Option V),ZaZ H H'/\H' cp=some (.dK (cs'.map enc))/\H' wp=some (.lst (ws2.map nv))/\Seek ls gs as cs' ws2/\2 * (2 * ls.length - cs'.length)+ws2.length<=2 * (2 * ls.length - cs.length)+ws'.length/\σ'=[some (.ref mp),some (.ref gp),some (.ref ap),some (.ref cp),v4,v5,some (.ref wp),v7,v8,v9])->Zdh K [.ref mp,.ref ap,.int (e:Nat)] H5 (fun x H6=>match x with | .ref p=>(∃ xs,SqL K H6 p xs)/\ZcJ (Itl K p) (Zan 9) (Zcv (ZbH (Zcp (Zad 9) (Zad 3))) (ZaQ (ZeQ (Zad 3) (Zad 9) (Zad 7)) (ZbZ (tBM K "list" ZbI (Zad 6) (Zaf (Zad 9) Zas)))) Zbt) D [some (.ref mp),some (.ref gp),some (.ref ap),some (.ref cp),v4,v5,some (.ref wp),some (.int (e:Nat)),some (.int ((e / 2:Nat):Int)),v9] H6 | _=>False) E0:=fun hns D hD=>by
    refine ⟨mp,ap,rs,ls,as,e,rfl,hM5,s5 _ _ hA,by omega,hn,by have:=mz.len (e / 2);omega,fun l6 H6 md=>?_⟩
    obtain ⟨f6,h6,s6⟩:=md
    have nlw:l6≠wp:=(Zaj hw5 f6).symm
    have nlc:l6≠cp:=(Zaj h5 f6).symm
    refine ⟨⟨_,.of h6⟩,ZcN (xs:=(MZ.nxt (Zba ls) (MZ.ZaS as) e).map nv) (fun j σ H7=>∃ (cs':MZ.Cs) (ws2:List Nat) (v9:Option V),ZaZ H H7/\H7 l6=some (.lst ((MZ.nxt (Zba ls) (MZ.ZaS as) e).map nv))/\H7 cp=some (.dK (cs'.map enc))/\H7 wp=some (.lst (ws2.map nv))/\MZ.Came (Zba ls) (ZcL gs) (MZ.ZaS as) cs'/\(∀ x∈MZ.ZaL cs,x∈MZ.ZaL cs')/\(∀ x∈MZ.ZaL cs',x<2 * ls.length/\(x∈MZ.ZaL cs\/x∈ws2))/\(∀ x∈ws2,x∈MZ.ZaL cs')/\(∀ x∈ws',x∈ws2)/\ws2.Nodup/\cs.length<=cs'.length/\(∀ x∈(MZ.nxt (Zba ls) (MZ.ZaS as) e).take j,x∈MZ.ZaL cs')/\ws2.length+cs.length=ws'.length+cs'.length/\σ=[some (.ref mp),some (.ref gp),some (.ref ap),some (.ref cp),v4,v5,some (.ref wp),some (.int (e:Nat)),some (.int ((e / 2:Nat):Int)),v9]) ⟨cs,ws',_,s5.trans s6,h6,s6 _ _ h5,s6 _ _ hw5,sk.came,fun x hx=>hx,fun x hx=>⟨sk.bd x hx,.inl hx⟩,fun x hx=>sk.wait x (ZqJ _ hx),fun x hx=>hx,hwn.1,ZrN _,fun x hx=>by simp at hx,rfl,rfl⟩ ?_ ?_ ?_⟩
    ·rintro j σ H7 _ ⟨_,_,_,_,h7,_⟩
     exact .of h7
    ·rintro j v σ H7 hv ⟨cs',ws2,w9,s7,hl7,h7,hw7,cm7,sub7,bd7,wt7,ws7,wn7,le7,nx7,ln7,rfl⟩
     obtain ⟨x,hx,rfl⟩:=ZcM hv
     have hxm:=Zqw hx
     have hxb:=nxt_lt mz hab heb hxm
     have hcl':cs'.length<=2 * ls.length:=by
      have:=Zcm cm7.nd fun y hy=>(bd7 y hy).1
      unfold MZ.ZaL at this
      rwa [Zqi] at this
     have hwl':ws2.length<=2 * ls.length:=Zcm wn7 fun y hy=>(bd7 y (wt7 y hy)).1
     have g1:=Zfl.k (k:=.inl (x:Int)) h7
     rw [Zd9] at g1
     unfold nv
     walk_at "gs"
     refine ⟨cp,_,rfl,g1,?_⟩
     have etk:∀ y∈(MZ.nxt (Zba ls) (MZ.ZaS as) e).take (j+1),y∈(MZ.nxt (Zba ls) (MZ.ZaS as) e).take j\/y=x:=fun y hy=>by
      rw [ZqK,hx] at hy
      rcases Zqp.mp hy with z | z
      ·exact .inl z
      ·exact .inr (by simpa using z)
     cases hc:MZ.ZaS cs' x with
     | some f =>
      have hin:=MZ.Zc7.mp (by rw [hc];simp)
      walk_at "go"
      refine ⟨cs',ws2,_,s7,hl7,h7,hw7,cm7,sub7,bd7,wt7,ws7,wn7,le7,fun y hy=>?_,ln7,rfl⟩
      rcases etk y hy with z | rfl
      ·exact nx7 y z
      ·exact hin
     | none =>
      have hno:=MZ.Ze2.mp hc
      walk_at "gs"
      refine ⟨cp,_,rfl,.k (k:=.inl (x:Int)) h7 (by rw [Zqi];omega),?_⟩
      have hw8:upd H7 cp (.dK (ZeO (cs'.map enc) (.inl (x:Int)) (.int (e:Nat)))) wp=some (.lst (ws2.map nv)):=by rw [Zak ncw.symm];exact hw7
      walk_at "gs"
      refine ⟨.inl ⟨by trivial,_,.of hw8⟩,wp,_,_,rfl,rfl,hw8,by rw [Zqi];omega,?_⟩
      have eput:ZeO (cs'.map enc) (.inl (x:Int)) (.int (e:Nat))=(cs' ++ [(x,some e)]).map enc:=by
       have:=Zhi cs' x (some e)
       unfold MZ.Zkx at this
       rw [if_neg (fun z=>hno ((MZ.ZeI cs' x).mp z))] at this
       exact this
      have ek:MZ.ZaL (cs' ++ [(x,some e)])=MZ.ZaL cs' ++ [x]:=by unfold MZ.ZaL;rw [Zqo];rfl
      refine ⟨cs' ++ [(x,some e)],ws2 ++ [x],_,(s7.put fc).put fw,?_,?_,?_,cm7.snoc (sub7 e hek) hno hxm hns,fun y hy=>?_,fun y hy=>?_,fun y hy=>?_,fun y hy=>ZqJ _ (ws7 y hy),?_,by rw [Zqj];omega,fun y hy=>?_,by rw [Zqj,Zqj];simp only [Zqx];omega,rfl⟩
      ·rw [Zak nlw,Zak nlc];exact hl7
      ·rw [Zak ncw,Zal,eput]
      ·rw [Zal,Zqo];rfl
      ·rw [ek];exact ZqJ _ (sub7 y hy)
      ·rw [ek] at hy
       rcases Zqp.mp hy with z | z
       ·exact ⟨(bd7 y z).1,(bd7 y z).2.elim .inl fun w=>.inr (ZqJ _ w)⟩
       ·rw [Zql] at z
        subst z
        exact ⟨hxb,.inr (by simp)⟩
      ·rw [ek]
       rcases Zqp.mp hy with z | z
       ·exact ZqJ _ (wt7 y z)
       ·exact ZqG _ z
      ·rw [Zrc]
       refine ⟨wn7,by simp,fun y hy z hz w=>?_⟩
       rw [Zql] at hz
       subst hz w
       exact hno (wt7 y hy)
      ·rw [ek]
       rcases etk y hy with z | rfl
       ·exact ZqJ _ (nx7 y z)
       ·simp
    ·rintro σ H7 ⟨cs',ws2,w9,s7,hl7,h7,hw7,cm7,sub7,bd7,wt7,ws7,wn7,le7,nx7,ln7,rfl⟩
     rw [Zqi,ZqV] at nx7
     have hcl':cs'.length<=2 * ls.length:=by
      have:=Zcm cm7.nd fun y hy=>(bd7 y hy).1
      unfold MZ.ZaL at this
      rwa [Zqi] at this
     rw [hD]
     refine ⟨cs',ws2,_,_,_,_,_,s7,h7,hw7,⟨cm7,wt7,wn7,fun y hy=>(bd7 y hy).1,fun y hy=>?_⟩,by omega,rfl⟩
     ·rcases (bd7 y hy).2 with z | z
      ·rcases sk.done y z with w | ⟨w1,w2⟩
       ·rcases Zqp.mp w with u | u
        ·exact .inl (ws7 y u)
        ·rw [Zql] at u
         subst u
         exact .inr ⟨hns,fun e' he'=>nx7 e' he'⟩
       ·exact .inr ⟨w1,fun e' he'=>sub7 e' (w2 e' he')⟩
      ·exact .inl z
   walk_at "gs"
   by_cases c:(e:Int)=((2 * (e / 2)+1:Nat):Int)
   ·rw [if_pos c]
    refine ⟨_,_,.inl (.of hM5.lst),hr1,?_⟩
    refine .inl ⟨_,.inl (.of hr2),?_⟩
    rw [Zqi]
    by_cases c0:((Zba ls (e / 2)).length:Int)=0
    ·rw [if_pos c0]
     refine ⟨by show 2<=sizeLine;decide,fun tp H6 n6=>?_⟩
     refine q1 (e / 2) cs tp cp H6 (s5.trans n6.same) fc n6.at_ (n6.same _ _ h5) sk.came (ZrF.mp (by omega)) (by rw [show 2 * (e / 2)+1=e by omega];exact hek) (by omega) sk.bd
    ·rw [if_neg c0]
     refine go (fun t ht z=>c0 (by rw [show e / 2=t by omega,z];rfl)) _ ?_
     rfl
   ·rw [if_neg c]
    refine go (fun t ht z=>c (by omega)) _ ?_
    rfl
theorem Zmh {as:MZ.Cs} (nd:(MZ.ZaL as).Nodup) {n:Nat} (h:∀ p∈MZ.ZaL as,p<n):as.length<=n:=by
 have:=Zcm nd h
 unfold MZ.ZaL at this
 rwa [Zqi] at this
noncomputable def ZkX (_:ZpF):Sp:=fun vs H Q _=>∃ (ap cp:Addr) (lo:Nat->List Nat) (goal:Nat->Prop) (as cs:MZ.Cs) (s n:Nat),vs=[.ref ap,.ref cp,.int s]/\H ap=some (.dK (as.map enc))/\H cp=some (.dK (cs.map enc))/\ap≠cp/\(MZ.ZaL as).Nodup/\(∀ p∈MZ.ZaL as,p<n)/\(∀ e∈MZ.ZaL cs,e<2 * n)/\n<=1200/\MZ.Flow lo goal (MZ.ZaS as)/\MZ.Path lo goal (MZ.ZaS as) (MZ.ZaS cs) (MZ.On (MZ.ZaS cs) (2 * s+1)) s /\
 ∀ as' H',(∀ b o,b≠ap->H b=some o->H' b=some o)->H' ap=some (.dK (as'.map enc))->(MZ.ZaL as').Nodup->(∀ p∈MZ.ZaL as',p<n)->MZ.ZaS as'=MZ.lead (MZ.ZaS as) (MZ.ZaS cs) (MZ.On (MZ.ZaS cs) (2 * s+1))->Q .non H'
noncomputable def ZiQ (K:ZpF):TS:=(ZaQ (Zbs (Zbb (Zdj K) [] E0 (Zaf (Zad 2) Zas)) (Zan 3))
  (ZgA (ZbH (tOp Zit (Zad 3) (tC .non))) (ZaQ (Zbs (tOp (ZbL ZdR fun i j=>.int (i / j)) (Zad 3) (tC (.int 2))) (Zan 4))
  (ZaQ (Zbs (Zgw (Zad 1) (Zad 3)) (Zan 5))
  (ZiN (Zcv (ZbH (tOp (cEq K) (Zad 3) (Zbb (ZfO K) [] E0 (Zaf (Zad 4) Zas)))) (Zcv (ZbH (tOp cIs (Zad 5) (tC .non))) (ZeQ (Zad 0) (Zad 4) (tC .non)) (Zcv (ZbH (tOp (cEq K) (Zad 5) (Zbb (Zdj K) [] E0 (Zaf (Zad 4) Zas)))) (ZbZ (ZkR (Zad 0) (Zad 4))) (ZeQ (Zad 0) (Zad 4) (tOp (ZbL ZdR fun i j=>.int (i / j)) (Zad 5) (tC (.int 2)))))) Zbt)
  (Zbs (Zad 5) (Zan 3)))))))
theorem Zn2 (T:Txt K mg a) {cdv:Value}{A:Around}{outer:List Env}{s:Shared}{H:Hp}{E:XK} (hr:Room 1 (A.deeper (envOfC "lead" (Zab ZdY) s.heap.objs.size a.f_lead cdv))) :
  PSs (Zcd CX0 P w K mg base ZnV "lead" (Zab ZdY) a.f_lead cdv A outer s H E).nox (Zai ZdY) (ZiQ K) :=
 (Zac (Zap (i:=3) ZfQ.nd rfl (by walk_at "o") (Zar (Zeh T) (hr.mono (by decide)) rfl T.mg_foot T.fn_foot.kp T.bi_foot .nil ZaR (Zaa (cv 2) Zae)))
   (Zah (ZfA PassesOwn.never (ZaX Zi2 (cv 3) Zb9 (Zau _)) (Zac (Zap (i:=4) ZfQ.nd rfl (by walk_at "o") (Zam Za5 (cv 3) Zag))
   (Zac (Zap (i:=5) ZfQ.nd rfl (by walk_at "o") (Zdy (Zb1 hr) (cv 1) (cv 3) (fun _ _=>rfl)))
   (Zci (Zbn (ZaX (Zfw (hr8 hr)) (cv 3) (Zar (Zhm T) (hr.mono (by decide)) rfl T.mg_head T.fn_head.kp T.bi_head .nil ZaR (Zaa (cv 4) Zae)) (Zau _)) (Zah (Zbn (ZaX Zoz (cv 5) Zb9 (Zau _)) (Zah (ZcF (Zb1 hr) (cv 0) (cv 4) Zb9 rfl)) (Zah (Zbn (ZaX (Zfw (hr8 hr)) (cv 5) (Zar (Zeh T) (hr.mono (by decide)) rfl T.mg_foot T.fn_foot.kp T.bi_foot .nil ZaR (Zaa (cv 4) Zae)) (Zau _)) (Zah (Za0 (ZmI (cv 0) (cv 4) ⟨rfl,rfl,rfl,rfl⟩))) (Zah (ZcF (Zb1 hr) (cv 0) (cv 4) (Zam Za5 (cv 5) Zag) rfl)))))) ZaA)
   (Zah (Zap (i:=3) ZfQ.nd rfl (by walk_at "o") (cv 5)))))))))
theorem Zov (T:Txt K mg a):FnOk P w K mg base CX0 2 a.f_lead a.d_lead ["above","came","spring"] (ZkX K):=by
 refine T.fn_lead.ok ZfQ (fun vs H Q E h=>?_) (fun cdv A outer s H vs Q E hr h=>⟨_,Zn2 T hr,?_⟩)
 ·obtain ⟨ap,cp,lo,goal,as,cs,s,n,rfl,_⟩:=h;rfl
 ·obtain ⟨ap,cp,lo,goal,as,cs,s,n,rfl,hA,hC,nac,nda,ba,bc,hn,F,P,q⟩:=h
  show ZiQ K _ [some (.ref ap),some (.ref cp),some (.int s),none,none,none] H
  unfold ZiQ
  have big:(20000:Nat)<=sizeLine:=by decide
  obtain ⟨r,hr⟩:=P.rk
  have onI:∀ {i e},MZ.it (MZ.ZaS cs) (2 * s+1) i=some e->MZ.On (MZ.ZaS cs) (2 * s+1) e:=fun {i}=>by
   induction i with
   | zero=>intro e he;cases he;exact .here
   | succ i ih =>
    intro e he
    have he:(MZ.it (MZ.ZaS cs) (2 * s+1) i).bind (fun e=>(MZ.ZaS cs e).join)=some e:=he
    cases hj:MZ.it (MZ.ZaS cs) (2 * s+1) i with
    | none=>rw [hj] at he;cases he
    | some b =>
     rw [hj] at he
     have he:(MZ.ZaS cs b).join=some e:=he
     refine (ih hj).up ?_
     cases hc:MZ.ZaS cs b with
     | none=>rw [hc] at he;cases he
     | some o=>rw [hc] at he;rw [show o=some e from he]
  walk_at "gs"
  refine ⟨s,rfl,?_⟩
  refine ⟨fun m σ H2=>∃ (i:Nat) (as':MZ.Cs) (v4 v5:Option V),(∀ b o,b≠ap->H b=some o->H2 b=some o)/\H2 ap=some (.dK (as'.map enc))/\(MZ.ZaL as').Nodup/\(∀ p∈MZ.ZaL as',p<n)/\MZ.ZaS as'=MZ.lead (MZ.ZaS as) (MZ.ZaS cs) (MZ.Zj0 (MZ.ZaS cs) (2 * s+1) i)/\m=(match MZ.it (MZ.ZaS cs) (2 * s+1) i with | some e=>r e+1 | none=>0)/\σ=[some (.ref ap),some (.ref cp),some (.int s),some (ov (MZ.it (MZ.ZaS cs) (2 * s+1) i)),v4,v5],⟨_,0,as,_,_,fun _ _ _ e=>e,hA,nda,ba,MZ.Zlz.symm,rfl,rfl⟩,?_⟩
  rintro m σ H2 ⟨i,as',v4,v5,s2,h2,nd2,ba2,cm2,rfl,rfl⟩
  cases hi:MZ.it (MZ.ZaS cs) (2 * s+1) i with
  | none =>
   show _
   walk_at "gs"
   refine q as' H2 s2 h2 nd2 ba2 (cm2.trans (MZ.Zkl fun e=>MZ.Zn1 hi))
  | some e =>
   have hon:=onI hi
   have hlen2:=Zmh nd2 ba2
   show _
   walk_at "gs"
   obtain ⟨f,hf⟩:∃ f,MZ.ZaS cs e=some f:=by
    rcases P.pred e hon with z | ⟨u,_,z⟩
    ·exact ⟨_,z⟩
    ·exact ⟨_,z⟩
   have hek:e∈MZ.ZaL cs:=MZ.Zc7.mp (by rw [hf];simp)
   have heb:=bc e hek
   have e2:((e:Int) / 2)=((e / 2:Nat):Int):=by omega
   have hnx:MZ.it (MZ.ZaS cs) (2 * s+1) (i+1)=f:=by
    show (MZ.it (MZ.ZaS cs) (2 * s+1) i).bind (fun e=>(MZ.ZaS cs e).join)=f
    rw [hi]
    show (MZ.ZaS cs e).join=f
    rw [hf]
    rfl
   have hC2:H2 cp=some (.dK (cs.map enc)):=s2 _ _ nac.symm hC
   have g1:=Zfl.k (k:=.inl (e:Int)) hC2
   rw [Zd9,hf] at g1
   have hnew:¬ MZ.Zj0 (MZ.ZaS cs) (2 * s+1) i e:=fun ⟨j,hj,hj2⟩=>by
    have:=MZ.Zpa hr hj hj2 hi
    omega
   refine ⟨fun σ' H'=>∃ (as2:MZ.Cs) (v4 v5:Option V),(∀ b o,b≠ap->H b=some o->H' b=some o)/\H' ap=some (.dK (as2.map enc))/\(MZ.ZaL as2).Nodup/\(∀ p∈MZ.ZaL as2,p<n)/\MZ.ZaS as2=MZ.lead (MZ.ZaS as) (MZ.ZaS cs) (MZ.Zj0 (MZ.ZaS cs) (2 * s+1) (i+1))/\σ'=[some (.ref ap),some (.ref cp),some (.int s),some (ov f),v4,v5],?_,?_⟩
   ·rintro σ' H' ⟨as2,w4,w5,z1,z2,z3,z4,z5,rfl⟩
    refine ⟨_,?_,i+1,as2,w4,w5,z1,z2,z3,z4,z5,rfl,by rw [hnx]⟩
    rw [hnx]
    cases f with
    | none=>exact Nat.succ_pos _
    | some u=>have:=hr e u hf;show r u+1<r e+1;omega
   rw [show ov (some e)=V.int (e:Nat) from rfl]
   walk_at "gs"
   rw [e2]
   refine ⟨cp,_,rfl,g1,?_⟩
   refine mid (fun σ' H'=>∃ as2:MZ.Cs,(∀ b o,b≠ap->H b=some o->H' b=some o)/\H' ap=some (.dK (as2.map enc))/\(MZ.ZaL as2).Nodup/\(∀ p∈MZ.ZaL as2,p<n)/\MZ.ZaS as2=MZ.lead (MZ.ZaS as) (MZ.ZaS cs) (MZ.Zj0 (MZ.ZaS cs) (2 * s+1) (i+1))/\σ'=[some (.ref ap),some (.ref cp),some (.int s),some (.int (e:Nat)),some (.int ((e / 2:Nat):Int)),some (ov f)]) ?_ ?_
   ·intro N hN
    walk_at "gs"
    refine ⟨e / 2,rfl,?_⟩
    unfold nv
    walk_at "gs"
    by_cases c:(e:Int)=((2 * (e / 2):Nat):Int)
    ·rw [if_pos c]
     have ee:2 * (e / 2)=e:=by omega
     have key:∀ as2:MZ.Cs,(MZ.ZaL as2).Nodup->(∀ p,MZ.ZaS as2 p=if p=e / 2 then MZ.lead (MZ.ZaS as) (MZ.ZaS cs) (MZ.Zj0 (MZ.ZaS cs) (2 * s+1) (i+1)) (e / 2) else MZ.ZaS as' p)->∀ H',(∀ b o,b≠ap->H b=some o->H' b=some o)->H' ap=some (.dK (as2.map enc))->N [some (.ref ap),some (.ref cp),some (.int s),some (.int (e:Nat)),some (.int ((e / 2:Nat):Int)),some (ov f)] H':=fun as2 nd3 hcm H' s3 h3=>by
      refine hN _ _ ⟨as2,s3,h3,nd3,fun p hp=>?_,funext fun p=>?_,rfl⟩
      ·by_cases z:p=e / 2
       ·omega
       ·have:=MZ.Zc7.mpr hp
        rw [hcm,if_neg z] at this
        exact ba2 p (MZ.Zc7.mp this)
      ·rw [hcm]
       by_cases z:p=e / 2
       ·rw [if_pos z,z]
       ·rw [if_neg z,cm2,MZ.ZgK hi (by omega)]
     have self:=MZ.ZkD hi
     cases f with
     | none =>
      walk_at "gs"
      refine ⟨ap,_,rfl,.k (k:=.inl ((e / 2:Nat):Int)) h2 (by rw [Zqi];omega),?_⟩
      refine key (MZ.Zkx as' (e / 2) none) (MZ.Zif nd2 _ _) (fun p=>?_) _ (fun b o nb z=>by rw [Zak nb];exact s2 b o nb z) ?_
      ·rw [MZ.Zl6 nd2]
       by_cases z:p=e / 2
       ·rw [if_pos z,if_pos z,MZ.Zc5 (by rw [ee];exact self) (by rw [ee];exact hf)]
       ·rw [if_neg z,if_neg z]
      ·rw [Zal]
       exact congrArg (fun z=>some (HO.dK z)) (Zhi as' (e / 2) none)
     | some u =>
      rw [show ov (some u)=V.int (u:Nat) from rfl] at key ⊢
      walk_at "gs"
      refine ⟨e / 2,rfl,?_⟩
      unfold nv
      walk_at "gs"
      by_cases cu:(u:Int)=((2 * (e / 2)+1:Nat):Int)
      ·rw [if_pos cu]
       have eu:u=2 * (e / 2)+1:=by omega
       walk_at "gs"
       have hne:MZ.ZaS as' (e / 2)≠none:=by
        rw [cm2,MZ.ZbV (by rw [ee];exact hnew)]
        have hpu:MZ.On (MZ.ZaS cs) (2 * s+1) (2 * (e / 2)+1):=eu ▸ hon.up hf
        rcases MZ.ZeD P hpu with ⟨_,z2,_⟩ | ⟨p',_,_,z⟩
        ·exact (MZ.Zln P (p:=e / 2) (by rw [ee,hf,show u=e+1 by omega]) z2).elim
        ·exact (F.up _ _ z).2
       obtain ⟨o,ho⟩:=Option.ne_none_iff_exists'.mp hne
       refine ⟨ap,rfl,.inl ⟨_,.inl h2⟩,?_⟩
       refine ⟨_,.inl ((e / 2:Nat):Int),ov o,h2,rfl,by rw [Zd9,ho];rfl,?_⟩
       refine key (MZ.Zks as' (e / 2)) (MZ.Zlo nd2 _) (fun p=>?_) _ (fun b o nb z=>by rw [Zak nb];exact s2 b o nb z) ?_
       ·rw [MZ.Zpk nd2]
        by_cases z:p=e / 2
        ·rw [if_pos z,if_pos z,MZ.ZeB (by rw [ee];exact self) (by rw [ee,hf,show u=e+1 by omega])]
        ·rw [if_neg z,if_neg z]
       ·rw [Zal,Znb]
      ·rw [if_neg cu]
       have eu2:((u:Int) / 2)=((u / 2:Nat):Int):=by omega
       walk_at "gs"
       rw [eu2]
       refine ⟨ap,_,rfl,.k (k:=.inl ((e / 2:Nat):Int)) h2 (by rw [Zqi];omega),?_⟩
       refine key (MZ.Zkx as' (e / 2) (some (u / 2))) (MZ.Zif nd2 _ _) (fun p=>?_) _ (fun b o nb z=>by rw [Zak nb];exact s2 b o nb z) ?_
       ·rw [MZ.Zl6 nd2]
        by_cases z:p=e / 2
        ·rw [if_pos z,if_pos z,MZ.Zc4 (u:=u) (by rw [ee];exact self) (by rw [ee];exact hf) (by omega)]
        ·rw [if_neg z,if_neg z]
       ·rw [Zal]
        exact congrArg (fun z=>some (HO.dK z)) (Zhi as' (e / 2) (some (u / 2)))
    ·rw [if_neg c]
     refine hN _ _ ⟨as',s2,h2,nd2,ba2,?_,rfl⟩
     rw [cm2]
     funext p
     exact (MZ.ZgK hi (by omega)).symm
   ·rintro σ' H' ⟨as2,z1,z2,z3,z4,z5,rfl⟩
    walk_at "gs"
    exact ⟨as2,_,_,z1,z2,z3,z4,z5,rfl⟩
structure WayOf (ab:MZ.Ab) (s:Nat) (w:List Nat):Prop where
 hd:∃ r,w=s :: r
 st:∀ (i a b:Nat),w[i]? = some a->w[i+1]? = some b->ab a=some (some b)
 tp:∃ v x,w=v ++ [x]/\ab x=some none
theorem Zll {v:List Nat}{x:Nat}:atI ((v ++ [x]).map nv) (-1)=some (nv x):=by
 rw [Zqo]
 unfold atI ixN
 simp
 rw [if_pos (by omega),show (-1+((v.length:Int)+1)).toNat=v.length by omega]
 simp
noncomputable def ZfJ (_:ZpF):Sp:=fun vs H Q _=>∃ (ap:Addr) (lo:Nat->List Nat) (goal:Nat->Prop) (as:MZ.Cs) (s n:Nat),vs=[.ref ap,.int s]/\H ap=some (.dK (as.map enc))/\(∀ p∈MZ.ZaL as,p<n)/\n<=1200/\MZ.Flow lo goal (MZ.ZaS as)/\(∀ p l,l∈lo p->l<p)/\MZ.ZaS as s≠none /\
 ∀ l w H',Mad H l (.lst (w.map nv)) H'->WayOf (MZ.ZaS as) s w->Q (.ref l) H'
noncomputable def Zeb (K:ZpF):TS:=(ZaQ (Zbs (Zgr (Zaf (Zad 1) Zas)) (Zan 2))
  (ZaQ (ZgA (ZbH (tOp Zit (Zgw (Zad 0) (tOp (cIx K) (Zad 2) (tUn Zpp (tC (.int 1))))) (tC .non))) (ZbZ (tBM K "list" ZbI (Zad 2) (Zaf (Zgw (Zad 0) (tOp (cIx K) (Zad 2) (tUn Zpp (tC (.int 1))))) Zas))))
  (Zck (Zad 2))))
theorem ZiI (T:Txt K mg a) {cdv:Value}{A:Around}{outer:List Env}{s:Shared}{H:Hp}{E:XK} (hr:Room 0 (A.deeper (envOfC "way_from" (Zab Zbx) s.heap.objs.size a.f_way_from cdv))) :
  PSs (Zcd CX0 P w K mg base ZgY "way_from" (Zab Zbx) a.f_way_from cdv A outer s H E).nox (Zai Zbx) (Zeb K) :=
 (Zac (Zap (i:=2) ZfP.nd rfl (by walk_at "o") (ZbU (Zaa (cv 1) Zae)))
   (Zac (ZfA PassesOwn.never (ZaX Zi2 (Zdy (Zb1 hr) (cv 0) (ZaG ZaH (cv 2) (Zld ZkE Zag) (fun _ _=>rfl)) (fun _ _=>rfl)) Zb9 (Zau _)) (Zah (Za0 (Zeg Zqa Zqb Zqc (mtr Za9) (cv 2) (Zaa (Zdy (Zb1 hr) (cv 0) (ZaG ZaH (cv 2) (Zld ZkE Zag) (fun _ _=>rfl)) (fun _ _=>rfl)) Zae)))))
   (Zah (ZaB (cv 2)))))
theorem ZiX (T:Txt K mg a):FnOk P w K mg base CX0 1 a.f_way_from a.d_way_from ["above","spring"] (ZfJ K):=by
 refine T.fn_way_from.ok ZfP (fun vs H Q E h=>?_) (fun cdv A outer s H vs Q E hr h=>⟨_,ZiI T hr,?_⟩)
 ·obtain ⟨ap,lo,goal,as,s,n,rfl,_⟩:=h;rfl
 ·obtain ⟨ap,lo,goal,as,s,n,rfl,hA,ba,hn,F,hlt,hs,q⟩:=h
  show Zeb K _ [some (.ref ap),some (.int s),none] H
  unfold Zeb
  have big:(20000:Nat)<=sizeLine:=by decide
  walk_at "gs"
  refine ⟨by show 1<=sizeLine;decide,fun l H1 n1=>?_⟩
  walk_at "gs"
  refine ⟨fun m σ H2=>∃ (v:List Nat) (x:Nat),ZaZ H H2/\H2 l=some (.lst ((v ++ [x]).map nv))/\(∃ r,v ++ [x]=s :: r)/\(∀ (i a b:Nat),(v ++ [x])[i]? = some a->(v ++ [x])[i+1]? = some b->MZ.ZaS as a=some (some b))/\MZ.ZaS as x≠none/\v.length<=x/\m=n - x/\σ=[some (.ref ap),some (.int s),some (.ref l)],⟨_,[],s,n1.same,n1.at_,⟨[],rfl⟩,fun i a b h1 h2=>by simp at h2,hs,ZrS _,rfl,rfl⟩,?_⟩
  rintro m σ H2 ⟨v,x,s2,h2,hd2,st2,hx2,hl2,rfl,rfl⟩
  have hxb:=ba x (MZ.Zc7.mp hx2)
  obtain ⟨o,ho⟩:=Option.ne_none_iff_exists'.mp hx2
  have g1:=Zfl.k (k:=.inl (x:Int)) (s2 _ _ hA)
  rw [Zd9,ho] at g1
  walk_at "gs"
  refine ⟨_,_,.inl (.of h2),Zll,?_⟩
  refine ⟨ap,_,rfl,g1,?_⟩
  cases o with
  | none =>
   show _
   walk_at "gs"
   exact q l (v ++ [x]) H2 ⟨n1.was,h2,s2⟩ ⟨hd2,st2,v,x,rfl,ho⟩
  | some y =>
   have hxy:=hlt _ _ (F.up _ _ ho).1
   have g1:Zfl H2 ap (kV (.inl (x:Int))) (some (V.int (y:Nat))):=g1
   rw [if_pos (fun z=>nomatch z)]
   refine ⟨fun σ' H'=>∃ H3,H3=upd H2 l (.lst ((v ++ [x]).map nv ++ [nv y]))/\H'=H3/\σ'=[some (.ref ap),some (.int s),some (.ref l)],?_,?_⟩
   ·rintro σ' H' ⟨H3,rfl,rfl,rfl⟩
    refine ⟨n - y,by omega,v ++ [x],y,s2.put n1.was,by rw [Zal,Zqo (l₁:=v ++ [x])];rfl,?_,fun i a b h1 h2=>?_,(F.up _ _ ho).2,by rw [Zqj];simp;omega,rfl,rfl⟩
    ·obtain ⟨r,hr⟩:=hd2
     exact ⟨r ++ [y],by rw [hr];rfl⟩
    ·rcases ZrO (i+1) (v ++ [x]).length with g | g
     ·rw [ZqC (by omega)] at h1
      rw [ZqC g] at h2
      exact st2 i a b h1 h2
     ·have hib:i+1<(v ++ [x] ++ [y]).length:=(Zqm.mp h2).1
      rw [Zqj] at hib
      simp only [Zqx] at hib
      have hi:i+1=(v ++ [x]).length:=by omega
      rw [hi,ZqD (ZrN _),ZrT] at h2
      rw [ZqC (by omega),show i=v.length by rw [Zqj] at hi;simp at hi;omega,ZqD (ZrN _),ZrT] at h1
      cases h1
      cases h2
      exact ho
   ·refine ⟨.inl ⟨by trivial,_,.of h2⟩,?_⟩
    refine ⟨_,_,.inl (.of h2),Zll,?_⟩
    refine ⟨ap,_,rfl,g1,?_⟩
    refine ⟨l,_,_,rfl,rfl,h2,by rw [Zqi,Zqj];simp;omega,?_⟩
    exact ⟨_,rfl,rfl,rfl⟩
noncomputable def Zfx (xs:List Nat):List Int:=xs.map fun x:Nat=>(x:Int)
theorem Zf3 (xs:List Nat):(Zfx xs).map V.int=xs.map nv:=by unfold Zfx;rw [Zqz];rfl
theorem ZjL (cs:MZ.Cs):(cs.map enc).map (·.1)=(Zfx (MZ.ZaL cs)).map Sum.inl:=by unfold Zfx MZ.ZaL;rw [Zqz,Zqz,Zqz];rfl
theorem ZgH {ns':List Int}{ks:List Nat} (hp:ns'.Perm (Zfx ks)) (hs:ns'.Pairwise (· <= ·)) (nd:ks.Nodup):∃ xs:List Nat,ns'=Zfx xs/\xs.Perm ks/\xs.Pairwise (· < ·):=by
 have h1:ns'=Zfx (ns'.map Zsa):=by
  unfold Zfx
  rw [Zqz]
  refine (Zrg _).symm.trans (Zq6 fun x hx=>?_)
  obtain ⟨k,_,rfl⟩:=Zqr.mp (hp.mem_iff.mp hx)
  rfl
 have h2:(ns'.map Zsa).Perm ks:=by
  have:=hp.map Zsa
  unfold Zfx at this
  rw [Zqz] at this
  have e:ks.map (Zsa ∘ fun x:Nat=>(x:Int))=ks:=by
   refine (Zq6 fun x _=>?_).trans (Zrg _)
   rfl
  rwa [e] at this
 refine ⟨_,h1,h2,?_⟩
 have hle:(ns'.map Zsa).Pairwise (· <= ·):=by
  rw [List.pairwise_map]
  exact hs.imp fun h=>by omega
 exact Zrx.imp₂ (fun a b g1 g2=>by omega) hle (h2.nodup_iff.mpr nd)
noncomputable def ZfK (_:ZpF):Sp:=fun vs H Q _=>∃ (cp:Addr) (cs:MZ.Cs),vs=[.ref cp]/\H cp=some (.dK (cs.map enc))/\(MZ.ZaL cs).Nodup/\cs.length<=3000 /\
 ∀ l (es:List Nat) H',Mad H l (.lst ((es.map fun e:Nat=>e / 2).map nv)) H'->es.Pairwise (· < ·)->(∀ e,e∈es ↔ e∈MZ.ZaL cs/\2 * (e / 2)+1 ∉ MZ.ZaL cs)->Q (.ref l) H'
noncomputable def Zec (K:ZpF):TS:=(Zck (ZcU (Zdg K (tCB (ZjU K) (Zaf (Zad 0) Zas))) 1 [0] (Zan 0) (ZbH (Zcp (Zbb (Zdj K) [] E0 (Zaf (tOp (ZbL ZdR fun i j=>.int (i / j)) (Zad 0) (tC (.int 2))) Zas)) (Zad 1))) (tOp (ZbL ZdR fun i j=>.int (i / j)) (Zad 0) (tC (.int 2)))))
theorem ZiJ (T:Txt K mg a) {cdv:Value}{A:Around}{outer:List Env}{s:Shared}{H:Hp}{E:XK} (hr:Room 1 (A.deeper (envOfC "stops_of" (Zab Zbq) s.heap.objs.size a.f_stops_of cdv))) :
  PSs (Zcd CX0 P w K mg base Ze3 "stops_of" (Zab Zbq) a.f_stops_of cdv A outer s H E).nox (Zai Zbq) (Zec K) :=
 (Zah (ZaB (ZfY (N:=["end","came"]) (k:=1) (sel:=[0]) (CScope.of (Zab Zbq).names (by decide +kernel)) (CNames.of Ze3 (by decide +kernel)) rfl (Zb0 (Zaz (Zmb rfl) (by rfl) T.no_sorted PyProof.Rows.boot_sorted (Zaa (cv 0) Zae))) (fun _ _ _ _=>(ZaE (i:=0) (show ZqO (["end","came"]:List Str) by decide +kernel) rfl (by walk_at "o"))) (fun _ _ _ _=>(ZfX (Zms (Zca (Zb1 hr) (Zar (Zeh T) (hr.mono (by decide)) rfl T.mg_foot T.fn_foot.kp T.bi_foot .nil ZaR (Zaa (Zam Za5 (cv 0) Zag) Zae)) (cv 1))))) (fun _ _ _ _=>(Zam Za5 (cv 0) Zag)))))
theorem ZiY (T:Txt K mg a):FnOk P w K mg base CX0 2 a.f_stops_of a.d_stops_of ["came"] (ZfK K):=by
 refine T.fn_stops_of.ok ZiO (fun vs H Q E h=>?_) (fun cdv A outer s H vs Q E hr h=>⟨_,ZiJ T hr,?_⟩)
 ·obtain ⟨cp,cs,rfl,_⟩:=h;rfl
 ·obtain ⟨cp,cs,rfl,hC,nd,h64,q⟩:=h
  show Zec K _ [some (.ref cp)] H
  unfold Zec
  have big:(20000:Nat)<=sizeLine:=by decide
  have hkl:(MZ.ZaL cs).length=cs.length:=by unfold MZ.ZaL;rw [Zqi]
  walk_at "gs"
  refine ⟨_,Zfx (MZ.ZaL cs),.inl hC,ZjL cs,by unfold Zfx;rw [Zqi];omega,fun ns' l H1 hp hs n1=>?_⟩
  obtain ⟨xs,rfl,hxp,hxs⟩:=ZgH hp hs nd
  rw [Zf3] at n1
  have hxl:xs.length<=3000:=by rw [hxp.length_eq];omega
  refine ⟨⟨_,n1.sq⟩,ZcB (fun v=>match v with | .int e=>decide (2 * (e.toNat / 2)+1 ∉ MZ.ZaL cs) | _=>false) (fun v=>match v with | .int e=>nv (e.toNat / 2) | _=>.non) n1.sq rfl (by rw [Zqi];omega) ?_ ?_ ?_⟩
  ·intro v H' Q' hv s' q'
   obtain ⟨e,he,rfl⟩:=Zqr.mp hv
   have e2:((e:Int) / 2)=((e / 2:Nat):Int):=by omega
   have g1:=Zfl.k (k:=.inl ((2 * (e / 2)+1:Nat):Int)) (s' _ _ (n1.same _ _ hC))
   rw [Zd9] at g1
   unfold nv
   walk_at "gs"
   rw [e2]
   refine ⟨e / 2,rfl,?_⟩
   refine ⟨cp,_,rfl,g1,?_⟩
   have q':Q' (decide (2 * (e / 2)+1 ∉ MZ.ZaL cs)) H':=q'
   have:(!((MZ.ZaS cs (2 * (e / 2)+1)).map ov).isSome)=decide (2 * (e / 2)+1 ∉ MZ.ZaL cs):=by
    cases hc:MZ.ZaS cs (2 * (e / 2)+1) with
    | none=>rw [decide_eq_true (MZ.Ze2.mp hc)];rfl
    | some f=>rw [decide_eq_false (fun z=>z (MZ.Zc7.mp (by rw [hc];simp)))];rfl
   rw [this]
   exact q'
  ·intro v H' Q' hv _ s' q'
   obtain ⟨e,he,rfl⟩:=Zqr.mp hv
   have e2:((e:Int) / 2)=((e / 2:Nat):Int):=by omega
   unfold nv
   walk_at "gs"
   rw [e2]
   exact q'
  intro l2 H2 n2
  have e3:(((xs.map nv).filter fun v=>match v with | .int e=>decide (2 * (e.toNat / 2)+1 ∉ MZ.ZaL cs) | _=>false).map fun v=>match v with | .int e=>nv (e.toNat / 2) | _=>.non)=((xs.filter fun e=>decide (2 * (e / 2)+1 ∉ MZ.ZaL cs)).map fun e:Nat=>e / 2).map nv:=by
   rw [Zrq,Zqz,Zqz]
   rfl
  rw [e3] at n2
  refine q l2 _ H2 ⟨n1.same.nil n2.was,n2.at_,n1.same.trans n2.same⟩ (hxs.filter _) fun e=>?_
  rw [ZqP,hxp.mem_iff,decide_eq_true_iff]
structure WaysAt (H:Hp) (l:Addr) (rs:List Addr) (ws:List (List Nat)):Prop where
 lst:H l=some (.lst (rs.map V.ref))
 len:rs.length=ws.length
 at_:∀ (i:Nat) r w,rs[i]? = some r->ws[i]? = some w->H r=some (.lst (w.map nv))
noncomputable def ZeP (_:ZpF):Sp:=fun vs H Q _=>∃ (mp ap:Addr) (rs:List Addr) (ls:List (List Nat)) (goal:Nat->Prop) (as:MZ.Cs),vs=[.ref mp,.ref ap]/\MazeAt H mp rs ls/\H ap=some (.dK (as.map enc))/\(MZ.ZaL as).Nodup/\as.length<=3000/\(∀ p∈MZ.ZaL as,p<ls.length)/\ls.length<=1200/\MZ.Flow (Zba ls) goal (MZ.ZaS as)/\Mz ls /\
 ∀ l us (ss:List Nat) ws H',ZaZ H H'->H l=none->WaysAt H' l us ws->(∀ u∈us,H u=none/\u≠l)->ss.Pairwise (· < ·)->(∀ t,t∈ss ↔ Zba ls t=[]/\MZ.ZaS as t≠none)->ws.length=ss.length->(∀ (i:Nat) t w,ss[i]? = some t->ws[i]? = some w->WayOf (MZ.ZaS as) t w)->Q (.ref l) H'
noncomputable def ZeS (K:ZpF):TS:=(ZaQ (Zbs (ZcU (Zdg K (tCB (ZjU K) (Zaf (Zad 1) Zas))) 1 [0] (Zan 0) (ZbH (tOp (cEq K) (tCB (ZiC K) (Zaf (tOp (cIx K) (Zad 1) (Zad 0)) Zas)) (tC (.int 0)))) (Zad 0)) (Zan 2))
  (Zck (ZcU (Zdg K (Zad 2)) 1 [1] (Zan 0) Zeo (Zbb (ZfJ K) [] E0 (Zaf (Zad 1) (Zaf (Zad 0) Zas))))))
theorem Zj3 (T:Txt K mg a) {cdv:Value}{A:Around}{outer:List Env}{s:Shared}{H:Hp}{E:XK} (hr:Room 1 (A.deeper (envOfC "ways_of" (Zab Zbw) s.heap.objs.size a.f_ways_of cdv))) :
  PSs (Zcd CX0 P w K mg base ZeK "ways_of" (Zab Zbw) a.f_ways_of cdv A outer s H E).nox (Zai Zbw) (ZeS K) :=
 (Zac (ZeX (i:=2) (N:=["place","maze"]) (k:=1) (sel:=[0]) (CScope.of (Zab Zbw).names (by decide +kernel)) (CNames.of ZeK (by decide +kernel)) rfl (Zb0 (Zaz (Zmb rfl) (by rfl) T.no_sorted PyProof.Rows.boot_sorted (Zaa (cv 1) Zae))) (fun _ _ _ _=>(ZaE (i:=0) (show ZqO (["place","maze"]:List Str) by decide +kernel) rfl (by walk_at "o"))) (fun _ _ _ _=>(ZfX (ZaX (Zfw (hr8 hr)) (Zaz ZeF (by rfl) T.no_len PySem.boot_len (Zaa (ZaG ZaH (cv 1) (cv 0) (fun _ _=>rfl)) Zae)) Zag (Zau _)))) (fun _ _ _ _=>(cv 0)) ZgD.nd rfl (by walk_at "o") rfl)
   (Zah (ZaB (ZfY (N:=["spring","above"]) (k:=1) (sel:=[1]) (CScope.of (Zab Zbw).names (by decide +kernel)) (CNames.of ZeK (by decide +kernel)) rfl (Zb0 (cv 2)) (fun _ _ _ _=>(ZaE (i:=0) (show ZqO (["spring","above"]:List Str) by decide +kernel) rfl (by walk_at "o"))) (fun _ _ _ _=>ZeW) (fun _ _ _ _=>(Zar (ZiX T) (hr.mono (by decide)) rfl T.mg_way_from T.fn_way_from.kp T.bi_way_from .nil ZaR (Zaa (cv 1) (Zaa (cv 0) Zae))))))))
theorem ZgG (T:Txt K mg a):FnOk P w K mg base CX0 2 a.f_ways_of a.d_ways_of ["maze","above"] (ZeP K):=by
 refine T.fn_ways_of.ok ZgD (fun vs H Q E h=>?_) (fun cdv A outer s H vs Q E hr h=>⟨_,Zj3 T hr,?_⟩)
 ·obtain ⟨mp,ap,rs,ls,goal,as,rfl,_⟩:=h;rfl
 ·obtain ⟨mp,ap,rs,ls,goal,as,rfl,hM,hA,nd,h64,ba,hn,F,mz,q⟩:=h
  show ZeS K _ [some (.ref mp),some (.ref ap),none] H
  unfold ZeS
  have big:(20000:Nat)<=sizeLine:=by decide
  have hkl:(MZ.ZaL as).length=as.length:=by unfold MZ.ZaL;rw [Zqi]
  walk_at "gs"
  refine ⟨_,Zfx (MZ.ZaL as),.inl hA,ZjL as,by unfold Zfx;rw [Zqi];omega,fun ns' l1 H1 hp hs n1=>?_⟩
  obtain ⟨xs,rfl,hxp,hxs⟩:=ZgH hp hs nd
  rw [Zf3] at n1
  have hxl:xs.length<=3000:=by rw [hxp.length_eq];omega
  refine ⟨⟨_,n1.sq⟩,ZcB (fun v=>match v with | .int e=>decide ((Zba ls e.toNat).length=0) | _=>false) id n1.sq rfl (by rw [Zqi];omega) ?_ ?_ ?_⟩
  ·intro v H' Q' hv s' q'
   obtain ⟨e,he,rfl⟩:=Zqr.mp hv
   have heb:=ba e (hxp.mem_iff.mp he)
   obtain ⟨r,h1,h2⟩:=(hM.same (n1.same.trans s')).get heb
   unfold nv
   walk_at "gs"
   refine ⟨_,_,.inl (.of (s' _ _ (n1.same _ _ hM.lst))),h1,?_⟩
   refine .inl ⟨_,.inl (.of h2),?_⟩
   rw [Zqi]
   walk_at "gs"
   have q':Q' (decide ((Zba ls e).length=0)) H':=q'
   rw [show decide (((Zba ls e).length:Int)=0)=decide ((Zba ls e).length=0) by rw [decide_eq_decide];omega]
   exact q'
  ·intro v H' Q' hv _ s' q'
   walk_at "gs"
   exact q'
  intro l2 H2 n2
  have e3:(((xs.map nv).filter fun v=>match v with | .int e=>decide ((Zba ls e.toNat).length=0) | _=>false).map id)=(xs.filter fun e=>decide ((Zba ls e).length=0)).map nv:=by
   rw [Zrg,Zrq]
   rfl
  rw [e3] at n2
  have s02:=n1.same.trans n2.same
  obtain ⟨ss,hss⟩:∃ ss,ss=xs.filter fun e=>decide ((Zba ls e).length=0):=⟨_,rfl⟩
  rw [<- hss] at n2
  have hsm:∀ t,t∈ss ↔ Zba ls t=[]/\MZ.ZaS as t≠none:=fun t=>by
   rw [hss,ZqP,hxp.mem_iff,<- MZ.Zc7,decide_eq_true_iff,ZrF,and_comm]
  have hsl:ss.length<=3000:=by rw [hss];exact ZrR (Zrk ..) hxl
  walk_at "gs"
  refine ⟨⟨_,n2.sq⟩,fun cp hcp=>Zng (n:=(ss.map nv).length) (item:=fun i=>(ss.map nv).getD i .non) (fun σ=>∃ v0,σ=[v0,some (.ref ap)]) (fun i H3=>ZaZ H2 H3/\∃ (us:List Addr) (ws:List (List Nat)),H3 cp=some (.lst (us.map V.ref))/\us.length=i/\ws.length=i/\(∀ u∈us,H2 u=none/\u≠cp)/\(∀ (j:Nat) u w,us[j]? = some u->ws[j]? = some w->H3 u=some (.lst (w.map nv)))/\∀ (j:Nat) t w,ss[j]? = some t->ws[j]? = some w->WayOf (MZ.ZaS as) t w) ⟨_,rfl⟩ ⟨Zbd hcp,[],[],Zal,rfl,rfl,fun u hu=>by simp at hu,fun j u w hu=>by simp at hu,fun j t w _ hw=>by simp at hw⟩ (Zhd (xs:=ss.map nv) ?_) ?_ ?_ ?_⟩
  ·rintro i H3 _ ⟨s3,_⟩
   exact .of (s3 _ _ n2.at_)
  ·rintro H3 ⟨s3,_⟩
   exact ⟨_,.of (s3 _ _ n2.at_),ZrN _⟩
  ·rintro i σ3 H3 R hi ⟨v0,rfl⟩ ⟨s3,us,ws,h3,hul,hwl,hun,hat,hway⟩ hR
   rw [Zqi] at hi
   have hti:ss[i]? = some ss[i]:=Zqn hi
   have htm:=(hsm _).mp (ZqU hi)
   rw [show (ss.map nv).getD i .non=nv ss[i] by rw [Zqs,Zqy,hti];rfl]
   generalize ss[i]=t at *
   unfold nv
   walk_at "gs"
   refine ⟨ap,Zba ls,goal,as,t,ls.length,rfl,s3 _ _ (s02 _ _ hA),ba,hn,F,mz.lt,htm.2,fun l4 w H4 md hw=>?_⟩
   obtain ⟨f4,h4,s4⟩:=md
   have ncp:l4≠cp:=(Zaj h3 f4).symm
   refine ⟨_,s4 _ _ h3,by rw [Zqi];omega,hR _ _ ⟨_,rfl⟩ ⟨(s3.trans s4).put hcp,us ++ [l4],ws ++ [w],by rw [Zal,Zqo];rfl,by rw [Zqj,hul];rfl,by rw [Zqj,hwl];rfl,fun u hu=>?_,fun j u w' hu hw'=>?_,fun j t' w' ht' hw'=>?_⟩⟩
   ·rcases Zqp.mp hu with z | z
    ·exact hun u z
    ·rw [Zql] at z
     subst z
     exact ⟨s3.nil f4,ncp⟩
   ·by_cases hji:j<i
    ·rw [ZqC (by omega)] at hu hw'
     rw [Zak (hun u (Zqw hu)).2]
     exact s4 _ _ (hat j u w' hu hw')
    ·have hjl:j<us.length+1:=by have:=(Zqm.mp hu).1;rwa [Zqj] at this
     have hj:j=us.length:=by omega
     subst hj
     rw [ZqD (ZrN _),ZrT] at hu
     rw [show us.length=ws.length by omega,ZqD (ZrN _),ZrT] at hw'
     cases hu
     cases hw'
     rw [Zak ncp]
     exact h4
   ·by_cases hji:j<i
    ·rw [ZqC (by omega)] at hw'
     exact hway j t' w' ht' hw'
    ·have hjl:j<ws.length+1:=by have:=(Zqm.mp hw').1;rwa [Zqj] at this
     have hj:j=i:=by omega
     subst hj
     rw [hti] at ht'
     rw [<- hwl,ZqD (ZrN _),ZrT] at hw'
     cases ht'
     cases hw'
     exact hw
  rintro H3 ⟨s3,us,ws,h3,hul,hwl,hun,hat,hway⟩
  rw [Zqi] at hul hwl
  exact q cp us ss ws H3 (s02.trans s3) (s02.nil hcp) ⟨h3,by omega,hat⟩ (fun u hu=>⟨s02.nil (hun u hu).1,(hun u hu).2⟩) (by rw [hss];exact hxs.filter _) hsm hwl hway
noncomputable def Cnt (ls:List (List Nat)) (as:MZ.Cs) (i:Nat):Prop:=∃ A:List Nat,A.Nodup/\(∀ t,t∈A ↔ Zba ls t=[]/\MZ.ZaS as t≠none)/\A.length=i
theorem Cnt.eq {ls:List (List Nat)}{as:MZ.Cs}{i:Nat} (h:Cnt ls as i) {B:List Nat} (nB:B.Nodup) (hB:∀ t,t∈B ↔ Zba ls t=[]/\MZ.ZaS as t≠none):B.length=i:=by
 obtain ⟨A,nA,hA,rfl⟩:=h
 exact Nat.le_antisymm (MZ.Zf9 (R:=fun a b:Nat=>a=b) (fun a a' b h h'=>h.trans h'.symm) nB fun b hb=>⟨b,(hA b).mpr ((hB b).mp hb),rfl⟩) (MZ.Zf9 (R:=fun a b:Nat=>a=b) (fun a a' b h h'=>h.trans h'.symm) nA fun b hb=>⟨b,(hB b).mpr ((hA b).mp hb),rfl⟩)
theorem ZfC {xs:List Nat} (h:xs.Pairwise (· < ·)):xs.Nodup:=h.imp fun h=>ZrP h
theorem Zk0 {ls:List (List Nat)}{gs:List Nat}{as cs:MZ.Cs} (h:Seek ls gs as cs []):MZ.Shut (Zba ls) (ZcL gs) (MZ.ZaS as) (fun e=>e∈MZ.ZaL cs):=by
 refine ⟨fun g l hg hl=>Zqr.mpr ⟨_,h.came.all g l hg hl,rfl⟩,fun e e' he hn=>?_,fun t ht=>?_⟩
 ·rcases h.done e he with z | z
  ·simp at z
  ·exact z.2 e' hn
 ·rcases h.done _ ht with z | z
  ·simp at z
  ·exact z.1 t rfl
structure Told (ls:List (List Nat)) (gs:List Nat) (most:Nat) (H:Hp) (wl:Addr) (v:V) (us:List Addr) (ss:List Nat) (ws:List (List Nat)) (as:MZ.Cs):Prop where
 ways:WaysAt H wl us ws
 flow:MZ.Flow (Zba ls) (ZcL gs) (MZ.ZaS as)
 bd:∀ p∈MZ.ZaL as,p<ls.length
 ris:ss.Pairwise (· < ·)
 mem:∀ t,t∈ss ↔ Zba ls t=[]/\MZ.ZaS as t≠none
 len:ws.length=ss.length
 way:∀ (i:Nat) t w,ss[i]? = some t->ws[i]? = some w->WayOf (MZ.ZaS as) t w
 rest:(v=.non/\ss.length=most+1)\/∃ (sl:Addr) (es:List Nat) (cs:MZ.Cs),v=.ref sl/\H sl=some (.lst ((es.map fun e:Nat=>e / 2).map nv))/\sl≠wl/\sl ∉ us/\Seek ls gs as cs []/\es.Pairwise (· < ·)/\(∀ e,e∈es ↔ e∈MZ.ZaL cs/\2 * (e / 2)+1 ∉ MZ.ZaL cs)/\ss.length<=most
noncomputable def ZjB (a:Adr) (_:ZpF):Sp:=fun vs H Q E=>∃ (mp gp:Addr) (rs:List Addr) (ls:List (List Nat)) (gi:List Int) (most:Nat),vs=[.ref mp,.ref gp,.int most]/\MazeAt H mp rs ls/\H gp=some (.lst (gi.map V.int))/\Mz ls/\ls.length<=1200/\most<=10 /\
 (∀ gs tp wl v us ss ws as H',gi=Zfx gs->Zg1 ls gi->ZaZ H H'->H tp=none->H wl=none->(∀ u∈us,H u=none)->(∀ b,v=.ref b->H b=none)->H' tp=some (.tup [.ref wl,v])->Told ls gs most H' wl v us ss ws as->Q (.ref tp) H')/\(¬ Zg1 ls gi->∀ e,H e=none->E (.ref e) (some a.c_NoGoal) H)
noncomputable def Zhh (a:Adr) (K:ZpF) (E:XK):TS:=(ZaQ (ZbZ (Zbb (Zer a K) [] E (Zaf (Zad 0) (Zaf (Zad 1) Zas))))
  (ZaQ (Zbs Zeq (Zan 3))
  (ZaQ (ZeN (ZdV (Zaf (tOp Zd5 (Zad 2) (tC (.int 1))) Zas)) (Zan 4) (ZaQ (Zbs (Zbb (ZhX K) [] E0 (Zaf (Zad 0) (Zaf (Zad 1) (Zaf (Zad 3) Zas)))) (Zan 5))
  (ZaQ (Zcv (ZbH (tOp cIs (tOp (cIx K) (Zad 5) (tC (.int 0))) (tC .non))) (Zck (Zju (Zaf (Zbb (ZeP K) [] E0 (Zaf (Zad 0) (Zaf (Zad 3) Zas))) (Zaf (Zbb (ZfK K) [] E0 (Zaf (tOp (cIx K) (Zad 5) (tC (.int 1))) Zas)) Zas)))) Zbt)
  (ZbZ (Zbb (ZkX K) [] E0 (Zaf (Zad 3) (Zaf (tOp (cIx K) (Zad 5) (tC (.int 1))) (Zaf (tOp (cIx K) (Zad 5) (tC (.int 0))) Zas))))))))
  (Zck (Zju (Zaf (Zbb (ZeP K) [] E0 (Zaf (Zad 0) (Zaf (Zad 3) Zas))) (Zaf (tC .non) Zas)))))))
theorem Zmr (T:Txt K mg a) {cdv:Value}{A:Around}{outer:List Env}{s:Shared}{H:Hp}{E:XK} (hr:Room 3 (A.deeper (envOfC "apart" (Zab ZcC) s.heap.objs.size a.f_apart cdv))) :
  PSs (Zcd (CX1 P w) P w K mg base Zml "apart" (Zab ZcC) a.f_apart cdv A outer s H E) (Zai ZcC) (Zhh a K E) :=
 (Zac (Za0 (Zar (Zhk T) (hr.mono (by decide)) rfl T.mg_need_goals T.fn_need_goals.kp T.bi_need_goals .nil (Zos ZdX) (Zaa (cv 0) (Zaa (cv 1) Zae))))
   (Zac (Zap (i:=3) Zfz.nd rfl (by walk_at "o") ZdL)
   (Zac (PS.nox (ZbW PassesOwn.never rfl (ZbD rfl T.no_range (Zaa (Zam ZbM (cv 2) Zag) Zae)) (ZaE (i:=4) Zfz.nd rfl (by walk_at "o")) (Zac (Zap (i:=5) Zfz.nd rfl (by walk_at "o") (Zar (Zli T) (hr.mono (by decide)) rfl T.mg_search T.fn_search.kp T.bi_search .nil ZaR (Zaa (cv 0) (Zaa (cv 1) (Zaa (cv 3) Zae)))))
   (Zac (Zbn (ZaX Zoz (ZaG ZaH (cv 5) Zag (fun _ _=>rfl)) Zb9 (Zau _)) (Zah (ZaB (Zdx (Zaa (Zar (ZgG T) (hr.mono (by decide)) rfl T.mg_ways_of T.fn_ways_of.kp T.bi_ways_of .nil ZaR (Zaa (cv 0) (Zaa (cv 3) Zae))) (Zaa (Zar (ZiY T) (hr.mono (by decide)) rfl T.mg_stops_of T.fn_stops_of.kp T.bi_stops_of .nil ZaR (Zaa (ZaG ZaH (cv 5) Zag (fun _ _=>rfl)) Zae)) Zae))))) ZaA)
   (Zah (Za0 (Zar (Zov T) (hr.mono (by decide)) rfl T.mg_lead T.fn_lead.kp T.bi_lead .nil ZaR (Zaa (cv 3) (Zaa (ZaG ZaH (cv 5) Zag (fun _ _=>rfl)) (Zaa (ZaG ZaH (cv 5) Zag (fun _ _=>rfl)) Zae))))))))))
   (Zah (ZaB (Zdx (Zaa (Zar (ZgG T) (hr.mono (by decide)) rfl T.mg_ways_of T.fn_ways_of.kp T.bi_ways_of .nil ZaR (Zaa (cv 0) (Zaa (cv 3) Zae))) (Zaa Zb9 Zae))))))))
theorem ZmL (T:Txt K mg a):FnOk P w K mg base (CX1 P w) 4 a.f_apart a.d_apart ["maze","goals","most"] (ZjB a K):=by
 refine T.fn_apart.okX Zfz (fun vs H Q E h=>?_) (fun cdv A outer s H vs Q E hr h=>⟨_,Zmr T hr,?_⟩)
 ·obtain ⟨mp,gp,rs,ls,gi,most,rfl,_⟩:=h;rfl
 ·obtain ⟨mp,gp,rs,ls,gi,most,rfl,hM,hG,mz,hn,hmo,q1,q0⟩:=h
  show Zhh a K E _ [some (.ref mp),some (.ref gp),some (.int most),none,none,none] H
  unfold Zhh
  have big:(20000:Nat)<=sizeLine:=by decide
  walk_at "gs"
  refine ⟨mp,gp,rs,ls,gi,rfl,hM,hG,fun hok=>?_,q0⟩
  obtain ⟨gs,hgs⟩:∃ gs,gi=Zfx gs:=⟨gi.map Zsa,by
   unfold Zfx
   rw [Zqz]
   refine (Zrg _).symm.trans (Zq6 fun x hx=>?_)
   have:=(hok x hx).1
   show x=((x.toNat:Nat):Int)
   omega⟩
  have hG':=hG
  rw [hgs,Zf3] at hG'
  have hgb:∀ g∈gs,g<ls.length/\Zba ls g≠[]:=fun g hg=>by
   obtain ⟨_,h2,h3⟩:=hok (g:Int) (by rw [hgs];exact Zqr.mpr ⟨g,hg,rfl⟩)
   rw [Zr6] at h3
   exact ⟨by omega,h3⟩
  walk_at "gs"
  intro ap H1 n1
  have fa:H ap=none:=n1.was
  have flow0:MZ.Flow (Zba ls) (ZcL gs) (MZ.ZaS []):=⟨fun p q h=>(nomatch h),fun p h=>(nomatch h),fun p p' q h=>(nomatch h),fun p h=>absurd rfl h,fun p h=>absurd rfl h⟩
  walk_at "gs"
  rw [show ((most:Int)+1).toNat=most+1 by omega]
  refine Zco (fun i σ H2=>ZaZ H H2/\∃ (as:MZ.Cs) (v4 v5:Option V),H2 ap=some (.dK (as.map enc))/\(MZ.ZaL as).Nodup/\(∀ p∈MZ.ZaL as,p<ls.length)/\MZ.Flow (Zba ls) (ZcL gs) (MZ.ZaS as)/\Cnt ls as i/\σ=[some (.ref mp),some (.ref gp),some (.int most),some (.ref ap),v4,v5]) ⟨n1.same,[],_,_,n1.at_,Zq2,fun p hp=>by simp [MZ.ZaL] at hp,flow0,⟨[],Zq2,fun t=>⟨fun z=>by simp at z,fun z=>absurd rfl z.2⟩,rfl⟩,rfl⟩ ?_ ?_
  ·rintro i σ H2 hi ⟨s2,as,v4,v5,h2,nd2,ba2,F2,c2,rfl⟩
   have hal:=Zmh nd2 ba2
   walk_at "gs"
   refine ⟨mp,gp,ap,rs,ls,gs,as,rfl,hM.same s2,s2 _ _ hG',h2,mz,by omega,fun g hg=>(hgb g hg).1,fun p q hpq=>ba2 q (MZ.Zc7.mp (F2.up p q hpq).2),fun s cs tp cp H3 s3 fc3 h3 hc3 cm3 hls hk3 hsb hcb=>?_,fun cs tp cp H3 s3 h3 hc3 sk=>?_⟩
   ·-- a spring was come to
    have P:=cm3.path F2 (fun g hg=>(hgb g hg).2) hls hk3
    have nac:ap≠cp:=Zaj h2 fc3
    walk_at "gs"
    refine ⟨_,_,.inr (.of h3),rfl,?_⟩
    unfold nv
    walk_at "gs"
    refine ⟨_,_,.inr (.of h3),rfl,?_⟩
    refine ⟨_,_,.inr (.of h3),rfl,?_⟩
    refine ⟨ap,cp,Zba ls,ZcL gs,as,cs,s,ls.length,rfl,s3 _ _ h2,hc3,nac,nd2,ba2,hcb,by omega,F2,P,fun as' H4 s4 h4 nd4 ba4 cm4=>?_⟩
    ·have F4:=MZ.ZlA F2 P mz.lt
     rw [<- cm4] at F4
     obtain ⟨l1,l2,l3⟩:=MZ.Zii F2 P mz.lt
     rw [<- cm4] at l2 l3
     refine ⟨fun b o e=>?_,as',_,_,h4,nd4,ba4,F4,?_,rfl⟩
     ·exact s4 b o (Zaj e fa) (s3 _ _ (s2 _ _ e))
     ·obtain ⟨A,nA,hA,rfl⟩:=c2
      refine ⟨s :: A,ZqY.mpr ⟨fun z=>((hA s).mp z).2 l1,nA⟩,fun t=>?_,rfl⟩
      rw [Zqt,hA]
      constructor
      ·rintro (rfl | ⟨z1,z2⟩)
       ·exact ⟨hls,l2⟩
       ·refine ⟨z1,?_⟩
        by_cases e:t=s
        ·subst e;exact l2
        ·exact (l3 t z1 e).mpr z2
      ·rintro ⟨z1,z2⟩
       by_cases e:t=s
       ·exact .inl e
       ·exact .inr ⟨z1,(l3 t z1 e).mp z2⟩
   ·walk_at "gs"
    refine ⟨_,_,.inr (.of h3),rfl,?_⟩
    walk_at "gs"
    refine ⟨mp,ap,rs,ls,ZcL gs,as,rfl,hM.same (s2.trans s3),s3 _ _ h2,nd2,by omega,ba2,by omega,F2,mz,fun wl us ss ws H4 s4 f4 hW hun ris mem len way=>?_⟩
    refine ⟨_,_,.inr (.of (s4 _ _ h3)),rfl,?_⟩
    refine ⟨cp,cs,rfl,s4 _ _ hc3,sk.came.nd,by have:=sk.len;omega,fun sl es H5 md hes hem=>?_⟩
    obtain ⟨f5,h5,s5⟩:=md
    refine ⟨by show 2<=sizeLine;decide,fun tp' H6 n6=>?_⟩
    have s03:=s2.trans s3
    have s04:=s03.trans s4
    have s05:=s04.trans s5
    have s46:=s5.trans n6.same
    refine q1 gs tp' wl (.ref sl) us ss ws as H6 hgs hok (s05.trans n6.same) (s05.nil n6.was) (s03.nil f4) (fun u hu=>s03.nil (hun u hu).1) (fun b e=>by cases e;exact s04.nil f5) n6.at_ ⟨⟨s46 _ _ hW.lst,hW.len,fun i r w hr hw=>s46 _ _ (hW.at_ i r w hr hw)⟩,F2,ba2,ris,mem,len,way,.inr ⟨sl,es,cs,rfl,n6.same _ _ h5,(Zaj hW.lst f5).symm,fun z=>?_,sk,hes,hem,?_⟩⟩
    ·obtain ⟨j,hj⟩:=Zq5.mp z
     have hjl:j<ws.length:=by rw [<- hW.len];exact (Zqm.mp hj).1
     have:=hW.at_ j sl _ hj (Zqn hjl)
     rw [f5] at this
     cases this
    ·have:=c2.eq (ZfC ris) mem
     omega
  ·rintro σ H2 ⟨s2,as,v4,v5,h2,nd2,ba2,F2,c2,rfl⟩
   have hal:=Zmh nd2 ba2
   walk_at "gs"
   refine ⟨mp,ap,rs,ls,ZcL gs,as,rfl,hM.same s2,h2,nd2,by omega,ba2,by omega,F2,mz,fun wl us ss ws H4 s4 f4 hW hun ris mem len way=>?_⟩
   refine ⟨by show 2<=sizeLine;decide,fun tp' H6 n6=>?_⟩
   have s04:=s2.trans s4
   exact q1 gs tp' wl .non us ss ws as H6 hgs hok (s04.trans n6.same) (s04.nil n6.was) (s2.nil f4) (fun u hu=>s2.nil (hun u hu).1) (fun b e=>nomatch e) n6.at_ ⟨⟨n6.same _ _ hW.lst,hW.len,fun i r w hr hw=>n6.same _ _ (hW.at_ i r w hr hw)⟩,F2,ba2,ris,mem,len,way,.inl ⟨rfl,c2.eq (ZfC ris) mem⟩⟩
noncomputable def Nice (H:Hp):V->Prop
 | .int _=>True
 | .bl _=>True
 | .str _=>True
 | .non=>True
 | .ref a=>(∃ xs,H a=some (.lst xs))\/∃ xs,H a=some (.tup xs)
 | _=>False
noncomputable def whole:V->Bool
 | .int _=>true
 | _=>false
noncomputable def ZfN (_:ZpF):Sp:=fun vs H Q _=>∃ v:V,vs=[v]/\Nice H v/\Q (.bl (whole v)) H
noncomputable def Zef (K:ZpF):TS:=(Zck (ZhH (tCB (Zek K) (Zaf (Zad 0) (Zaf (tC (.ty "int")) Zas))) (Zku (tCB (Zek K) (Zaf (Zad 0) (Zaf (tC (.ty "bool")) Zas))))))
theorem ZiM (T:Txt K mg a) {cdv:Value}{A:Around}{outer:List Env}{s:Shared}{H:Hp}{E:XK} (hr:Room 0 (A.deeper (envOfC "is_whole" (Zab Zbz) s.heap.objs.size a.f_is_whole cdv))) :
  PSs (Zcd CX0 P w K mg base Zg0 "is_whole" (Zab Zbz) a.f_is_whole cdv A outer s H E).nox (Zai Zbz) (Zef K) :=
 (Zah (ZaB (ZlU (Zaz ZeG (by rfl) T.no_isinstance PyProof.Rows.boot_isinstance (Zaa (cv 0) (Zaa (Zf0 (v:=.ty "int") rfl T.no_int PyProof.Rows.boot_int rfl) Zae))) (Zh4 (e_not (Zaz ZeG (by rfl) T.no_isinstance PyProof.Rows.boot_isinstance (Zaa (cv 0) (Zaa (Zf0 (v:=.ty "bool") rfl T.no_bool PyProof.Rows.boot_bool rfl) Zae))))))))
theorem Zi1 (T:Txt K mg a):FnOk P w K mg base CX0 1 a.f_is_whole a.d_is_whole ["thing"] (ZfN K):=by
 refine T.fn_is_whole.ok ZiP (fun vs H Q E h=>?_) (fun cdv A outer s H vs Q E hr h=>⟨_,ZiM T hr,?_⟩)
 ·obtain ⟨v,rfl,_⟩:=h;rfl
 ·obtain ⟨v,rfl,hv,q⟩:=h
  show Zef K _ [some v] H
  unfold Zef
  walk_at "gs"
  cases v with
  | int i =>
   refine ⟨_,true,.int _,rfl,?_⟩
   walk_at "gs"
   refine ⟨_,false,.int _,rfl,?_⟩
   walk_at "gs"
   exact q
  | bl x =>
   refine ⟨_,true,.bl _,rfl,?_⟩
   walk_at "gs"
   refine ⟨_,true,.bl _,rfl,?_⟩
   walk_at "gs"
   exact q
  | str z =>
   refine ⟨_,false,.str _,rfl,?_⟩
   walk_at "gs"
   exact q
  | non =>
   refine ⟨_,false,.non,rfl,?_⟩
   walk_at "gs"
   exact q
  | ref r =>
   rcases hv with ⟨xs,e⟩ | ⟨xs,e⟩
   ·refine ⟨_,false,.lst e,rfl,?_⟩
    walk_at "gs"
    exact q
   ·refine ⟨_,false,.tup e,rfl,?_⟩
    walk_at "gs"
    exact q
  | _=>exact hv.elim
noncomputable def btw (v:V) (l g:Int):Bool:=match v with
 | .int i=>decide (l<=i/\i<=g)
 | _=>false
theorem Zlm {v:V} (h:whole v=false) (l g:Int):btw v l g=false:=by
 cases v with
 | int i=>cases h
 | _=>rfl
theorem is_int {v:V} (h:whole v=true):∃ i,v=.int i:=by
 cases v with
 | int i=>exact ⟨i,rfl⟩
 | _=>cases h
noncomputable def Zes (_:ZpF):Sp:=fun vs H Q _=>∃ (v:V) (l g:Int),vs=[v,.int l,.int g]/\Nice H v/\Q (.bl (btw v l g)) H
noncomputable def ZcY (K:ZpF):TS:=(Zck (ZhH (Zbb (ZfN K) [] E0 (Zaf (Zad 0) Zas)) (Zfg (cI2 fun i j=>.bl (decide (i<=j))) (cI2 fun i j=>.bl (decide (i<=j))) (Zad 1) (Zad 0) (Zad 2))))
theorem Zg8 (T:Txt K mg a) {cdv:Value}{A:Around}{outer:List Env}{s:Shared}{H:Hp}{E:XK} (hr:Room 1 (A.deeper (envOfC "is_between" (Zab Za2) s.heap.objs.size a.f_is_between cdv))) :
  PSs (Zcd CX0 P w K mg base Zfi "is_between" (Zab Za2) a.f_is_between cdv A outer s H E).nox (Zai Za2) (ZcY K) :=
 (Zah (ZaB (ZlU (Zar (Zi1 T) (hr.mono (by decide)) rfl T.mg_is_whole T.fn_is_whole.kp T.bi_is_whole .nil ZaR (Zaa (cv 0) Zae)) (Zh4 (ZlT o_le o_le (cv 1) (cv 0) (cv 2))))))
theorem Zhl (T:Txt K mg a):FnOk P w K mg base CX0 2 a.f_is_between a.d_is_between ["thing","least","greatest"] (Zes K):=by
 refine T.fn_is_between.ok Zhe (fun vs H Q E h=>?_) (fun cdv A outer s H vs Q E hr h=>⟨_,Zg8 T hr,?_⟩)
 ·obtain ⟨v,l,g,rfl,_⟩:=h;rfl
 ·obtain ⟨v,l,g,rfl,hv,q⟩:=h
  show ZcY K _ [some v,some (.int l),some (.int g)] H
  unfold ZcY
  walk_at "gs"
  refine ⟨v,rfl,hv,?_⟩
  cases hw:whole v with
  | false =>
   rw [Zlm hw] at q
   walk_at "gs"
   exact q
  | true =>
   obtain ⟨i,rfl⟩:=is_int hw
   have q:Q (.bl (decide (l<=i/\i<=g))) H:=q
   walk_at "gs"
   by_cases h:l<=i
   ·rw [if_pos h]
    rw [show decide (l<=i/\i<=g)=decide (i<=g) by rw [decide_eq_decide];omega] at q
    exact q
   ·rw [if_neg h]
    rw [decide_eq_false (fun z=>h z.1)] at q
    exact q
noncomputable def Zf2 (v:V):Bool:=btw v 2 6
noncomputable def Ze5 (a:Adr) (_:ZpF):Sp:=fun vs H Q E=>∃ v:V,vs=[v]/\Nice H v/\(Zf2 v=true->Q .non H)/\(Zf2 v=false->∀ e,H e=none->E (.ref e) (some a.c_NoSize) H)
noncomputable def Zdp (a:Adr) (K:ZpF) (E:XK):TS:=(Zcv (Zkw (ZiB K (Zbb (Zes K) [] E0 (Zaf (Zad 0) (Zaf (tC (Zc6 a)) (Zaf (tC (Zcj a)) Zas)))))) (Zep a.c_NoSize (Zaf (tC (.str "not a whole number from 2 to 6")) Zas) E) Zbt)
theorem ZhO (T:Txt K mg a) {cdv:Value}{A:Around}{outer:List Env}{s:Shared}{H:Hp}{E:XK} (hr:Room 2 (A.deeper (envOfC "need_size" (Zab Zbg) s.heap.objs.size a.f_need_size cdv))) :
  PSs (Zcd (CX1 P w) P w K mg base Zgk "need_size" (Zab Zbg) a.f_need_size cdv A outer s H E) (Zai Zbg) (Zdp a K E) :=
 (Zah (Zbn (Zd4 (Zdw (Zar (Zhl T) (hr.mono (by decide)) rfl T.mg_is_between T.fn_is_between.kp T.bi_is_between .nil ZaR (Zaa (cv 0) (Zaa (ZdK rfl T.gx_LEAST_SIZE) (Zaa (ZdK rfl T.gx_GREATEST_SIZE) Zae)))))) (Zah (Zc1 Zqd T.xi_NoSize (by decide) rfl T.mg_NoSize rfl ZdX (Zaa Zfc Zae))) ZaA))
theorem Zh9 (T:Txt K mg a):FnOk P w K mg base (CX1 P w) 3 a.f_need_size a.d_need_size ["size"] (Ze5 a K):=by
 refine T.fn_need_size.okX ZhY (fun vs H Q E h=>?_) (fun cdv A outer s H vs Q E hr h=>⟨_,ZhO T hr,?_⟩)
 ·obtain ⟨v,rfl,_⟩:=h;rfl
 ·obtain ⟨v,rfl,hv,q1,q0⟩:=h
  show Zdp a K E _ [some v] H
  unfold Zdp Zc6 Zcj
  walk_at "gs"
  refine ⟨v,_,_,rfl,hv,?_⟩
  have e:btw v 2 6=Zf2 v:=rfl
  rw [e]
  cases h:Zf2 v with
  | true =>
   walk_at "gs"
   exact q1 h
  | false =>
   walk_at "gs"
   exact q0 h
noncomputable def Zbe (m:Nat) (P:List MF.Pr):List (List Nat):=Zqk (m+1) [] ++ P.map fun p=>[(p.1 / 2).toNat,(p.2 / 2).toNat]
theorem Zcc (m:Nat) (P:List MF.Pr):(Zbe m P).length=m+1+P.length:=by
 unfold Zbe
 rw [Zqj,Zqv,Zqi]
theorem Zih {m:Nat}{P:List MF.Pr}{k:Nat} (h:k<=m):(Zbe m P)[k]? = some []:=by
 unfold Zbe
 rw [ZqC (by rw [Zqv];omega),Zq7,if_pos (by omega)]
theorem ZgI {m:Nat}{P:List MF.Pr}{j:Nat}{p:MF.Pr} (h:P[j]? = some p):(Zbe m P)[m+1+j]? = some [(p.1 / 2).toNat,(p.2 / 2).toNat]:=by
 unfold Zbe
 rw [ZqD (by rw [Zqv];omega),Zqv,show m+1+j - (m+1)=j by omega,Zqy,h]
 rfl
theorem ZjI {m:Nat}{P:List MF.Pr}{k:Nat} (h:k<=m):Zba (Zbe m P) k=[]:=by
 unfold Zba
 rw [Zqs,Zih h]
 rfl
theorem ZdF {m:Nat}{P:List MF.Pr}{j:Nat}{p:MF.Pr} (h:P[j]? = some p):Zba (Zbe m P) (m+1+j)=[(p.1 / 2).toNat,(p.2 / 2).toNat]:=by
 unfold Zba
 rw [Zqs,ZgI h]
 rfl
theorem Zi6 {m:Nat}{P:List MF.Pr}{k l:Nat} (h:l∈Zba (Zbe m P) k):∃ j p,k=m+1+j/\P[j]? = some p/\(l=(p.1 / 2).toNat\/l=(p.2 / 2).toNat):=by
 have hk:=Zo4 h
 rw [Zcc] at hk
 rcases ZrO m k with z | z
 ·have hj:k - m - 1<P.length:=by omega
  refine ⟨k - m - 1,P[k - m - 1],by omega,Zqn hj,?_⟩
  rw [show k=m+1+(k - m - 1) by omega,ZdF (Zqn hj)] at h
  simpa using h
 ·rw [ZjI z] at h
  simp at h
theorem Ze0 {m:Nat}{P:List MF.Pr} (ok:MF.Ok m P):Mz (Zbe m P):=by
 refine ⟨fun k l h=>?_,fun k=>?_⟩
 ·obtain ⟨j,p,rfl,hp,e⟩:=Zi6 h
  have:=ok j p hp
  omega
 ·rcases ZrO m k with z | z
  ·rcases ZrO (k - m - 1) P.length with y | y
   ·rw [show k=m+1+(k - m - 1) by omega,ZdF (Zqn y)]
    have:=ok _ _ (Zqn y)
    simp
    omega
   ·unfold Zba
    rw [Zqs,ZqQ (by rw [Zcc];omega)]
    exact Zq2
  ·rw [ZjI z];exact Zq2
theorem MazeAt.snoc {H:Hp}{mp bp:Addr}{rs:List Addr}{ls:List (List Nat)}{bs:List Nat} (h:MazeAt H mp rs ls) (hb:H bp=some (.lst (bs.map nv))) (nr:mp ∉ rs) (nb:mp≠bp):MazeAt (upd H mp (.lst (rs.map V.ref ++ [.ref bp]))) mp (rs ++ [bp]) (ls ++ [bs]):=by
 refine ⟨by rw [Zal,Zqo];rfl,by rw [Zqj,Zqj,h.len];rfl,fun i r l hr hl=>?_⟩
 have hne:mp≠r:=fun z=>by
  have:=Zqw hr
  rcases Zqp.mp this with g | g
  ·exact nr (z ▸ g)
  ·rw [Zql] at g;exact nb (z.trans g)
 rw [Zak hne.symm]
 rcases Zr5 i ls.length with z | z | z
 ·rw [ZqC (by rw [h.len];exact z)] at hr
  rw [ZqC z] at hl
  exact h.at_ i r l hr hl
 ·subst z
  rw [ZqD (by rw [h.len];exact ZrN _),h.len,ZrT] at hr
  rw [ZqD (ZrN _),ZrT] at hl
  cases hr;cases hl
  exact hb
 ·rw [ZqQ (by rw [Zqj,Zqx];omega)] at hl
  cases hl
noncomputable def ZgC (a:Adr) (_:ZpF):Sp:=fun vs H Q _=>∃ (f dx pl kl:Addr) (m:Nat) (es:List En),vs=[.ref f]/\FoldAt a.c_Fold H f m es dx pl kl/\MF.Ok m (Zav es)/\m<=10/\es.length<=4000 /\
 ∀ mp rs H',ZaZ H H'->H mp=none->(∀ r∈rs,H r=none/\mp≠r)->MazeAt H' mp rs (Zbe m (Zav es))->Q (.ref mp) H'
noncomputable def ZeU (a:Adr) (K:ZpF):TS:=(ZaQ (Zbs (Zgr Zas) (Zan 1))
  (ZaQ (ZeN (ZdV (Zaf (ZbY a.c_Fold "total" (ZaM a K) [] E0 (Zad 0) Zas) Zas)) (Zan 2) (ZaQ (Zbs (ZbY a.c_Fold "pair" (Zdl a K) [] E0 (Zad 0) (Zaf (Zad 2) Zas)) (Zan 3))
  (ZbZ (tBM K "list" ZbI (Zad 1) (Zaf (tIf (ZbH (tOp cIs (Zad 3) (tC .non))) (Zgr Zas) (Zgr (Zaf (tOp (ZbL ZdR fun i j=>.int (i / j)) (tOp (cIx K) (Zad 3) (tC (.int 0))) (tC (.int 2))) (Zaf (tOp (ZbL ZdR fun i j=>.int (i / j)) (tOp (cIx K) (Zad 3) (tC (.int 1))) (tC (.int 2))) Zas)))) Zas)))))
  (Zck (Zad 1))))
theorem Zj5 (T:Txt K mg a) {cdv:Value}{A:Around}{outer:List Env}{s:Shared}{H:Hp}{E:XK} (hr:Room 2 (A.deeper (envOfC "maze_of" (Zab ZbJ) s.heap.objs.size a.f_maze_of cdv))) :
  PSs (Zcd CX0 P w K mg base Ziz "maze_of" (Zab ZbJ) a.f_maze_of cdv A outer s H E).nox (Zai ZbJ) (ZeU a K) :=
 (Zac (Zap (i:=1) ZdJ.nd rfl (by walk_at "o") (ZbU Zae))
   (Zac (ZbW PassesOwn.never rfl (ZbD rfl T.no_range (Zaa (Zb6 (cv 0) T.cl_Fold T.me_Fold_total (ZaV T) (hr.mono (by decide)) T.bi_Fold_total .nil ZaR) Zae)) (ZaE (i:=2) ZdJ.nd rfl (by walk_at "o")) (Zac (Zap (i:=3) ZdJ.nd rfl (by walk_at "o") (ZbT (cv 0) T.cl_Fold T.me_Fold_pair (Zfe T) (hr.mono (by decide)) T.bi_Fold_pair .nil Zhj (Zaa (cv 2) Zae)))
   (Zah (Za0 (Zeg Zqa Zqb Zqc (mtr Za9) (cv 1) (Zaa (ZjE (ZaX Zoz (cv 3) Zb9 (Zau _)) (ZbU Zae) (ZbU (Zaa (Zam Za5 (ZaG ZaH (cv 3) Zag (fun _ _=>rfl)) Zag) (Zaa (Zam Za5 (ZaG ZaH (cv 3) Zag (fun _ _=>rfl)) Zag) Zae)))) Zae))))))
   (Zah (ZaB (cv 1)))))
theorem Zkh (T:Txt K mg a):FnOk P w K mg base CX0 3 a.f_maze_of a.d_maze_of ["fold"] (ZgC a K):=by
 refine T.fn_maze_of.ok ZdJ (fun vs H Q E h=>?_) (fun cdv A outer s H vs Q E hr h=>⟨_,Zj5 T hr,?_⟩)
 ·obtain ⟨f,dx,pl,kl,m,es,rfl,_⟩:=h;rfl
 ·obtain ⟨f,dx,pl,kl,m,es,rfl,hf,ok,hm,hz,q⟩:=h
  show ZeU a K _ [some (.ref f),none,none,none] H
  unfold ZeU
  have big:(20000:Nat)<=sizeLine:=by decide
  have epl:(Zav es).length=es.length:=Zqi ..
  walk_at "gs"
  intro mp H1 n1
  have f1:=hf.same n1.same
  walk_at "gs"
  refine ⟨f,dx,_,rfl,f1.ins,rfl,f,dx,pl,kl,m,es,rfl,f1,?_⟩
  walk_at "gs"
  rw [show (1+(m:Int)+(es.length:Int)).toNat=m+1+es.length by omega]
  refine Zco (fun i σ H2=>ZaZ H H2/\∃ (rs:List Addr) (v2 v3:Option V),(∀ r∈rs,H r=none/\mp≠r)/\MazeAt H2 mp rs ((Zbe m (Zav es)).take i)/\σ=[some (.ref f),some (.ref mp),v2,v3]) ⟨n1.same,[],_,_,fun r hr=>by simp at hr,⟨n1.at_,rfl,fun i r l hr=>by simp at hr⟩,rfl⟩ ?_ ?_
  ·rintro i σ H2 hi ⟨s2,rs,v2,v3,hrs,hM,rfl⟩
   have f2:=hf.same s2
   have hrl:rs.length=i:=by rw [hM.len,ZqL,Zcc];omega
   have nr:mp ∉ rs:=fun z=>(hrs mp z).2 rfl
   walk_at "gs"
   refine ⟨f,dx,_,rfl,f2.ins,rfl,f,dx,pl,kl,m,_,es,rfl,f2,fun _=>⟨fun hle=>?_,fun e hlt he=>?_⟩,fun z=>absurd ⟨by omega,by omega⟩ z⟩
   ·walk_at "gs"
    refine ⟨.inl ⟨by trivial,_,.of hM.lst⟩,by show 0<=sizeLine;omega,fun r3 H3 n3=>?_⟩
    have hM3:=hM.same n3.same
    have nm:mp≠r3:=Zaj hM.lst n3.was
    refine ⟨mp,_,_,rfl,rfl,hM3.lst,by rw [Zqi];omega,(s2.trans n3.same).put n1.was,rs ++ [r3],_,_,fun r hr=>?_,?_,rfl⟩
    ·rcases Zqp.mp hr with z | z
     ·exact hrs r z
     ·rw [Zql] at z;subst z;exact ⟨s2.nil n3.was,nm⟩
    ·rw [ZqK,Zih (by omega)]
     exact hM3.snoc (bs:=[]) n3.at_ nr nm
   ·obtain ⟨j,hj⟩:∃ j,i=m+1+j:=⟨i - m - 1,by omega⟩
    have he':es[j]? = some e:=by rw [<- he];congr 1;omega
    have hp:(Zav es)[j]? = some e.2:=by rw [Zqy,he'];rfl
    obtain ⟨o1,o2,o3,o4⟩:=ok _ _ hp
    have te:=f2.prs.tup _ (Zqw he')
    walk_at "gs"
    refine ⟨.inl ⟨by trivial,_,.of hM.lst⟩,?_⟩
    refine ⟨_,_,.inr (.of te),rfl,?_⟩
    walk_at "gs"
    refine ⟨_,_,.inr (.of te),rfl,?_⟩
    walk_at "gs"
    refine ⟨by show 2<=sizeLine;decide,fun r3 H3 n3=>?_⟩
    have hM3:=hM.same n3.same
    have nm:mp≠r3:=Zaj hM.lst n3.was
    refine ⟨mp,_,_,rfl,rfl,hM3.lst,by rw [Zqi];omega,(s2.trans n3.same).put n1.was,rs ++ [r3],_,_,fun r hr=>?_,?_,rfl⟩
    ·rcases Zqp.mp hr with z | z
     ·exact hrs r z
     ·rw [Zql] at z;subst z;exact ⟨s2.nil n3.was,nm⟩
    ·rw [ZqK,hj,ZgI hp,<- hj]
     refine hM3.snoc (bs:=[(e.2.1 / 2).toNat,(e.2.2 / 2).toNat]) ?_ nr nm
     rw [n3.at_]
     show some (HO.lst [V.int (e.2.1 / 2),V.int (e.2.2 / 2)])=some (HO.lst [nv _,nv _])
     unfold nv
     rw [show ((e.2.1 / 2).toNat:Int)=e.2.1 / 2 by omega,show ((e.2.2 / 2).toNat:Int)=e.2.2 / 2 by omega]
  ·rintro σ H2 ⟨s2,rs,v2,v3,hrs,hM,rfl⟩
   rw [Zrn (by rw [Zcc];omega)] at hM
   walk_at "gs"
   exact q mp rs H2 s2 n1.was hrs hM
theorem Zl3 {m:Nat}{P:List MF.Pr} (ok:MF.Ok m P) {n:Nat} (hn:n<1+m+P.length) {k:Nat}:k∈MF.Zge m P n ↔ ML.Dn (Zba (Zbe m P)) n k:=by
 unfold MF.Zge
 rw [MF.Zei]
 constructor
 ·intro h
  refine MF.ZfU (S:=ML.Dn (Zba (Zbe m P)) n) (fun t ht=>?_) (fun j p hp hS _=>?_) h
  ·rw [Zql] at ht
   subst ht
   rw [MF.tie2]
   exact .here
  ·exact ⟨hS.low (by rw [ZdF hp];simp),hS.low (by rw [ZdF hp];simp)⟩
 ·intro h
  induction h with
  | here=>exact MF.ZeR hn
  | low h hx ih =>
   obtain ⟨j,p,rfl,hp,e⟩:=Zi6 hx
   have:=MF.Zk6 ok [2 * (n:Int)] hp ih rfl
   rcases e with rfl | rfl
   ·exact this.1
   ·exact this.2
theorem Zl2 {m:Nat}{P:List MF.Pr} (ok:MF.Ok m P) {n:Nat} (hn:n<1+m+P.length):∃ v,MF.Zge m P n=v ++ [n]:=by
 rw [MF.Zne ok hn,Zrl,Zrb]
 refine ⟨(Zqq n).filter (MF.Zcl (fun _=>false) m P [2 * (n:Int)]),?_⟩
 rw [Zq0,if_pos (MF.ZeR hn)]
 rfl
theorem Znd (m:Nat) (P:List MF.Pr) (n:Nat):(MF.Zge m P n).length<=1+m+P.length:=by
 unfold MF.Zge MF.reached
 refine ZrR (Zrk ..) ?_
 rw [Zq3]
 exact ZrN _
noncomputable def kvR:Nat->List Addr->List (Key × V)
 | _,[]=>[]
 | n,c :: r=>(.inl (n:Int),.ref c) :: kvR (n+1) r
theorem Zg3:∀ (n:Nat) (cs:List Addr) (k:Int),Ze4 (kvR n cs) (.inl k)=if (n:Int)<=k then (cs[(k - n).toNat]?).map V.ref else none
 | n,[],k=>by
  show none=_
  split <;> simp
 | n,c :: r,k=>by
  show Ze4 ((.inl (n:Int),.ref c) :: kvR (n+1) r) (.inl k)=_
  by_cases e:k=n
  ·subst e
   rw [ZcR rfl,if_pos (Zr8 _),show ((n:Int) - (n:Int)).toNat=0 by omega]
   rfl
  ·rw [ZcS (fun z=>e (by have:=Sum.inl.inj z;omega)),Zg3 (n+1) r k]
   by_cases h:(n:Int)<=k
   ·rw [if_pos (by omega),if_pos h,show (k - (n:Int)).toNat=(k - ((n+1:Nat):Int)).toNat+1 by omega,Zq4]
   ·rw [if_neg (by omega),if_neg h]
theorem ZjJ:∀ (n:Nat) (cs:List Addr) (c:Addr),kvR n (cs ++ [c])=kvR n cs ++ [(.inl ((n+cs.length:Nat):Int),.ref c)]
 | n,[],c=>rfl
 | n,x :: r,c=>by
  show (.inl (n:Int),.ref x) :: kvR (n+1) (r ++ [c])=(.inl (n:Int),.ref x) :: (kvR (n+1) r ++ _)
  rw [ZjJ (n+1) r c,ZqA,show n+1+r.length=n+(r.length+1) by omega]
theorem Zmi:∀ (n:Nat) (cs:List Addr) (k:Nat),n+cs.length<=k->((kvR n cs).any fun kv=>decide (kv.1=(.inl (k:Int):Key)))=false
 | n,[],k,_=>rfl
 | n,c :: r,k,h=>by
  rw [ZqA] at h
  show (decide ((.inl (n:Int):Key)=.inl (k:Int)) || _)=false
  rw [decide_eq_false (fun z=>by have:=Sum.inl.inj z;omega),Zsu]
  exact Zmi (n+1) r k (by omega)
theorem Zk9 (n:Nat) (cs:List Addr) (c:Addr):ZeO (kvR n cs) (.inl ((n+cs.length:Nat):Int)) (.ref c)=kvR n (cs ++ [c]):=by
 unfold ZeO
 rw [Zmi n cs _ (ZrN _),if_neg (by simp),ZjJ]
theorem Zi7:∀ (n:Nat) (cs:List Addr),(kvR n cs).length=cs.length
 | _,[]=>rfl
 | n,c :: r=>by
  show (kvR (n+1) r).length+1=r.length+1
  rw [Zi7]
structure LabAt (C:Addr) (H:Hp) (x dx ll fc fw:Addr) (m:Nat) (lvs:List Nat) (cas was:List Addr):Prop where
 ins:H x=some (.ins C dx [("levels",.ref ll),("found_cuts",.ref fc),("found_ways",.ref fw)])
 lst:H ll=some (.lst (lvs.map nv))
 cuts:H fc=some (.dK (kvR (m+1) cas))
 ways:H fw=some (.dK (kvR (m+1) was))
noncomputable def Un3 (ll fc fw:Addr) (H H':Hp):Prop:=∀ b o,b≠ll->b≠fc->b≠fw->H b=some o->H' b=some o
theorem Un3.trans {ll fc fw:Addr}{H H' H1:Hp} (u:Un3 ll fc fw H H') (v:Un3 ll fc fw H' H1):Un3 ll fc fw H H1:=fun b o n1 n2 n3 e=>v b o n1 n2 n3 (u b o n1 n2 n3 e)
theorem Zjm {ll fc fw:Addr}{H H':Hp} (s:ZaZ H H'):Un3 ll fc fw H H':=fun b o _ _ _ e=>s b o e
theorem LabAt.same {C:Addr}{H H':Hp}{x dx ll fc fw:Addr}{m:Nat}{lvs:List Nat}{cas was:List Addr} (h:LabAt C H x dx ll fc fw m lvs cas was) (s:ZaZ H H'):LabAt C H' x dx ll fc fw m lvs cas was:=⟨s _ _ h.ins,s _ _ h.lst,s _ _ h.cuts,s _ _ h.ways⟩
noncomputable def Zb3 (a:Adr) (_:ZpF):Sp:=fun vs H Q _=>∃ (x dx ll fc fw c w:Addr) (m k lev:Nat) (lvs:List Nat) (cas was:List Addr),vs=[.ref x,.int k,.int lev,.ref c,.ref w]/\LabAt a.c_Labels H x dx ll fc fw m lvs cas was/\k=m+1+cas.length/\cas.length=was.length/\lvs.length<=10000/\k<=10000/\fc≠fw /\
 ∀ H',Un3 ll fc fw H H'->LabAt a.c_Labels H' x dx ll fc fw m (lvs ++ [lev]) (cas ++ [c]) (was ++ [w])->Q .non H'
noncomputable def ZcE (K:ZpF):TS:=(ZaQ (ZbZ (tBM K "list" ZbI (Zfp K (Zad 0) "levels") (Zaf (Zad 2) Zas)))
  (ZaQ (ZeQ (Zfp K (Zad 0) "found_cuts") (Zad 1) (Zad 3))
  (ZeQ (Zfp K (Zad 0) "found_ways") (Zad 1) (Zad 4))))
theorem Zgv (T:Txt K mg a) {cdv:Value}{A:Around}{outer:List Env}{s:Shared}{H:Hp}{E:XK} (hr:Room 0 (A.deeper (envOfC "Labels.keep" (Zab ZaU) s.heap.objs.size a.f_Labels_keep cdv))) :
  PSs (Zcd CX0 P w K mg base ZeM "Labels.keep" (Zab ZaU) a.f_Labels_keep cdv A outer s H E).nox (Zai ZaU) (ZcE K) :=
 (Zac (Za0 (Zeg Zqa Zqb Zqc (mtr Za9) (ZbE (cv 0) rfl) (Zaa (cv 2) Zae)))
   (Zac (ZcF (Zb1 hr) (ZbE (cv 0) rfl) (cv 1) (cv 3) rfl)
   (Zah (ZcF (Zb1 hr) (ZbE (cv 0) rfl) (cv 1) (cv 4) rfl))))
theorem ZcG (T:Txt K mg a):FnOk P w K mg base CX0 1 a.f_Labels_keep a.d_Labels_keep ["self","knot","level","cut","ways"] (Zb3 a K):=by
 refine T.fn_Labels_keep.ok Zgy (fun vs H Q E h=>?_) (fun cdv A outer s H vs Q E hr h=>⟨_,Zgv T hr,?_⟩)
 ·obtain ⟨x,dx,ll,fc,fw,c,w,m,k,lev,lvs,cas,was,rfl,_⟩:=h;rfl
 ·obtain ⟨x,dx,ll,fc,fw,c,w,m,k,lev,lvs,cas,was,rfl,hL,hk,hcw,hz,hkz,nf,q⟩:=h
  show ZcE K _ [some (.ref x),some (.int k),some (.int lev),some (.ref c),some (.ref w)] H
  unfold ZcE
  have big:(20000:Nat)<=sizeLine:=by decide
  have n1:ll≠x:=Zbv hL.lst hL.ins (fun z=>nomatch z)
  have n2:fc≠x:=Zbv hL.cuts hL.ins (fun z=>nomatch z)
  have n3:fw≠x:=Zbv hL.ways hL.ins (fun z=>nomatch z)
  have n4:ll≠fc:=Zbv hL.lst hL.cuts (fun z=>nomatch z)
  have n5:ll≠fw:=Zbv hL.lst hL.ways (fun z=>nomatch z)
  walk_at "gs"
  refine ⟨x,a.c_Labels,dx,_,_,rfl,hL.ins,T.cl_Labels,T.na_Labels_levels,rfl,?_⟩
  walk_at "gs"
  refine ⟨.inl ⟨by trivial,_,.of hL.lst⟩,ll,_,_,rfl,rfl,hL.lst,by rw [Zqi];omega,?_⟩
  have hx1:upd H ll (.lst (lvs.map nv ++ [.int lev])) x=some (.ins a.c_Labels dx [("levels",.ref ll),("found_cuts",.ref fc),("found_ways",.ref fw)]):=by rw [Zak n1.symm];exact hL.ins
  have hc1:upd H ll (.lst (lvs.map nv ++ [.int lev])) fc=some (.dK (kvR (m+1) cas)):=by rw [Zak n4.symm];exact hL.cuts
  have hw1:upd H ll (.lst (lvs.map nv ++ [.int lev])) fw=some (.dK (kvR (m+1) was)):=by rw [Zak n5.symm];exact hL.ways
  have hl1:upd H ll (.lst (lvs.map nv ++ [.int lev])) ll=some (.lst ((lvs ++ [lev]).map nv)):=by rw [Zal,Zqo];rfl
  have u1:Un3 ll fc fw H (upd H ll (.lst (lvs.map nv ++ [.int lev]))):=fun b o g1 _ _ e=>by rw [Zak g1];exact e
  generalize upd H ll (.lst (lvs.map nv ++ [.int lev]))=H1 at *
  walk_at "gs"
  refine ⟨x,a.c_Labels,dx,_,_,rfl,hx1,T.cl_Labels,T.na_Labels_found_cuts,rfl,fc,_,rfl,Zky.k (k:=.inl (k:Int)) hc1 (by rw [Zi7];omega),?_⟩
  have e2:ZeO (kvR (m+1) cas) (.inl (k:Int)) (.ref c)=kvR (m+1) (cas ++ [c]):=by rw [hk];exact Zk9 _ _ _
  rw [e2]
  walk_at "gs"
  have hx2:upd H1 fc (.dK (kvR (m+1) (cas ++ [c]))) x=some (.ins a.c_Labels dx [("levels",.ref ll),("found_cuts",.ref fc),("found_ways",.ref fw)]):=by rw [Zak n2.symm];exact hx1
  have hw2:upd H1 fc (.dK (kvR (m+1) (cas ++ [c]))) fw=some (.dK (kvR (m+1) was)):=by rw [Zak nf.symm];exact hw1
  refine ⟨x,a.c_Labels,dx,_,_,rfl,hx2,T.cl_Labels,T.na_Labels_found_ways,rfl,fw,_,rfl,Zky.k (k:=.inl (k:Int)) hw2 (by rw [Zi7];omega),?_⟩
  have e3:ZeO (kvR (m+1) was) (.inl (k:Int)) (.ref w)=kvR (m+1) (was ++ [w]):=by rw [hk,hcw];exact Zk9 _ _ _
  rw [e3]
  refine q _ (fun b o g1 g2 g3 e=>?_) ⟨?_,?_,?_,Zal⟩
  ·rw [Zak g3,Zak g2];exact u1 b o g1 g2 g3 e
  ·rw [Zak n3.symm];exact hx2
  ·rw [Zak n5,Zak n4];exact hl1
  ·rw [Zak nf,Zal]
noncomputable def Zdk (a:Adr) (_:ZpF):Sp:=fun vs H Q E=>∃ (x dx ll fc fw:Addr) (m:Nat) (k:Int) (lvs:List Nat) (cas was:List Addr),vs=[.ref x,.int k]/\LabAt a.c_Labels H x dx ll fc fw m lvs cas was/\(∀ n:Nat,k=n->n<lvs.length->Q (nv (lvs.getD n 0)) H)/\(¬ (0<=k/\k<lvs.length)->∀ e,H e=none->E (.ref e) (some a.c_NoKnot) H)
theorem Zgh {xs:List Nat}{n:Nat} (h:n<xs.length):atI (xs.map nv) (n:Int)=some (nv (xs.getD n 0)):=by
 rw [Zde .non (by omega) (by rw [Zqi];omega),Zr6,Zqs,Zqs,Zqy,Zqn h]
 rfl
noncomputable def Zcs (a:Adr) (K:ZpF) (E:XK):TS:=(ZaQ (Zcv (tOr (ZbH (tOp (cI2 fun i j=>.bl (decide (i<j))) (Zad 1) (tC (.int 0)))) (ZbH (tOp (cI2 fun i j=>.bl (decide (j<=i))) (Zad 1) (tCB (ZiC K) (Zaf (Zfp K (Zad 0) "levels") Zas))))) (Zep a.c_NoKnot (Zaf (tC (.str "no knot of these labels")) Zas) E) Zbt)
  (Zck (tOp (cIx K) (Zfp K (Zad 0) "levels") (Zad 1))))
theorem ZfH (T:Txt K mg a) {cdv:Value}{A:Around}{outer:List Env}{s:Shared}{H:Hp}{E:XK} (hr:Room 0 (A.deeper (envOfC "Labels.label" (Zab ZaJ) s.heap.objs.size a.f_Labels_label cdv))) :
  PSs (Zcd (CX1 P w) P w K mg base Zd7 "Labels.label" (Zab ZaJ) a.f_Labels_label cdv A outer s H E) (Zai ZaJ) (Zcs a K E) :=
 (Zac (Zbn (PW.pt (Zfs (ZaX Zlk (cv 1) Zag (Zau _)) (Zd2 (ZaX o_ge (cv 1) (Zaz ZeF (by rfl) T.no_len PySem.boot_len (Zaa (ZbE (cv 0) rfl) Zae)) (Zau _))))) (Zah (Zc1 Zqd T.xi_NoKnot (by decide) rfl T.mg_NoKnot rfl ZdX (Zaa Zfc Zae))) ZaA)
   (Zah (ZaB (ZaG ZaH (ZbE (cv 0) rfl) (cv 1) (fun _ _=>rfl)))))
theorem Zf1 (T:Txt K mg a):FnOk P w K mg base (CX1 P w) 1 a.f_Labels_label a.d_Labels_label ["self","knot"] (Zdk a K):=by
 refine T.fn_Labels_label.okX ZfR (fun vs H Q E h=>?_) (fun cdv A outer s H vs Q E hr h=>⟨_,ZfH T hr,?_⟩)
 ·obtain ⟨x,dx,ll,fc,fw,m,k,lvs,cas,was,rfl,_⟩:=h;rfl
 ·obtain ⟨x,dx,ll,fc,fw,m,k,lvs,cas,was,rfl,hL,q1,q0⟩:=h
  show Zcs a K E _ [some (.ref x),some (.int k)] H
  unfold Zcs
  walk_at "gs"
  by_cases h0:k<0
  ·rw [if_pos h0]
   exact ⟨by show 1<=sizeLine;decide,q0 (by omega)⟩
  rw [if_neg h0]
  refine ⟨x,a.c_Labels,dx,_,_,rfl,hL.ins,T.cl_Labels,T.na_Labels_levels,rfl,.inl ⟨_,.inl (.of hL.lst),?_⟩⟩
  rw [Zqi]
  by_cases h1:(lvs.length:Int)<=k
  ·rw [if_pos h1]
   exact ⟨by show 1<=sizeLine;decide,q0 (by omega)⟩
  rw [if_neg h1]
  obtain ⟨n,rfl⟩:=Zr7 (by omega:0<=k)
  refine ⟨x,a.c_Labels,dx,_,_,rfl,hL.ins,T.cl_Labels,T.na_Labels_levels,rfl,_,_,.inl (.of hL.lst),Zgh (by omega),q1 n rfl (by omega)⟩
noncomputable def ZbO (a:Adr) (_:ZpF):Sp:=fun vs H Q E=>∃ (x dx ll fc fw:Addr) (m:Nat) (k:Int) (lvs:List Nat) (cas was:List Addr),vs=[.ref x,.int k]/\LabAt a.c_Labels H x dx ll fc fw m lvs cas was/\(m<k/\k<m+1+cas.length->Q .non H)/\(¬ (m<k/\k<m+1+cas.length)->∀ e,H e=none->E (.ref e) (some a.c_NoKnot) H)
theorem Zpc {m:Nat}{cas:List Addr}{k:Int}:(Ze4 (kvR (m+1) cas) (.inl k)).isSome=decide (m<k/\k<m+1+cas.length):=by
 rw [Zg3]
 by_cases h:((m+1:Nat):Int)<=k
 ·rw [if_pos h,Option.isSome_map]
  by_cases g:(k - ((m+1:Nat):Int)).toNat<cas.length
  ·rw [Zqn g,decide_eq_true (by omega)];rfl
  ·rw [ZqQ (by omega),decide_eq_false (by omega)];rfl
 ·rw [if_neg h,decide_eq_false (by omega)];rfl
noncomputable def Zbu (a:Adr) (K:ZpF) (E:XK):TS:=(Zcv (ZbH (Zcp (Zad 1) (Zfp K (Zad 0) "found_cuts"))) (Zep a.c_NoKnot (Zaf (tC (.str "no and-knot of these labels")) Zas) E) Zbt)
theorem ZcT (T:Txt K mg a) {cdv:Value}{A:Around}{outer:List Env}{s:Shared}{H:Hp}{E:XK} (hr:Room 0 (A.deeper (envOfC "Labels.need_and_knot" (Zab Zao) s.heap.objs.size a.f_Labels_need_and_knot cdv))) :
  PSs (Zcd (CX1 P w) P w K mg base ZbX "Labels.need_and_knot" (Zab Zao) a.f_Labels_need_and_knot cdv A outer s H E) (Zai Zao) (Zbu a K E) :=
 (Zah (Zbn (Zms (Zca (Zb1 hr) (cv 1) (ZbE (cv 0) rfl))) (Zah (Zc1 Zqd T.xi_NoKnot (by decide) rfl T.mg_NoKnot rfl ZdX (Zaa Zfc Zae))) ZaA))
theorem Zc2 (T:Txt K mg a):FnOk P w K mg base (CX1 P w) 1 a.f_Labels_need_and_knot a.d_Labels_need_and_knot ["self","knot"] (ZbO a K):=by
 refine T.fn_Labels_need_and_knot.okX ZcW (fun vs H Q E h=>?_) (fun cdv A outer s H vs Q E hr h=>⟨_,ZcT T hr,?_⟩)
 ·obtain ⟨x,dx,ll,fc,fw,m,k,lvs,cas,was,rfl,_⟩:=h;rfl
 ·obtain ⟨x,dx,ll,fc,fw,m,k,lvs,cas,was,rfl,hL,q1,q0⟩:=h
  show Zbu a K E _ [some (.ref x),some (.int k)] H
  unfold Zbu
  walk_at "gs"
  refine ⟨x,a.c_Labels,dx,_,_,rfl,hL.ins,T.cl_Labels,T.na_Labels_found_cuts,rfl,fc,_,rfl,Zfl.k (k:=.inl k) hL.cuts,?_⟩
  rw [Zpc]
  by_cases h:m<k/\k<m+1+cas.length
  ·rw [decide_eq_true h]
   walk_at "gs"
   exact q1 h
  ·rw [decide_eq_false h]
   walk_at "gs"
   exact q0 h
noncomputable def ZcV (a:Adr) (_:ZpF):Sp:=fun vs H Q E=>∃ (x dx ll fc fw:Addr) (m:Nat) (k:Int) (lvs:List Nat) (cas was:List Addr) (css:List (List Nat)),vs=[.ref x,.int k]/\LabAt a.c_Labels H x dx ll fc fw m lvs cas was/\cas.length=css.length/\(∀ (i:Nat) c C,cas[i]? = some c->css[i]? = some C->H c=some (.lst (C.map nv))) /\
 (∀ (i:Nat) C,k=((m+1+i:Nat):Int)->css[i]? = some C->∀ q H',New H q (.lst (C.map nv)) H'->Q (.ref q) H')/\(¬ (m<k/\k<m+1+cas.length)->∀ e,H e=none->E (.ref e) (some a.c_NoKnot) H)
noncomputable def ZcZ (a:Adr) (K:ZpF) (E:XK):TS:=(ZaQ (ZbZ (ZbY a.c_Labels "need_and_knot" (ZbO a K) [] E (Zad 0) (Zaf (Zad 1) Zas)))
  (Zck (tCB (Znk K) (Zaf (Zgw (Zfp K (Zad 0) "found_cuts") (Zad 1)) Zas))))
theorem Zg9 (T:Txt K mg a) {cdv:Value}{A:Around}{outer:List Env}{s:Shared}{H:Hp}{E:XK} (hr:Room 1 (A.deeper (envOfC "Labels.cut" (Zab Za3) s.heap.objs.size a.f_Labels_cut cdv))) :
  PSs (Zcd (CX1 P w) P w K mg base Zfj "Labels.cut" (Zab Za3) a.f_Labels_cut cdv A outer s H E) (Zai Za3) (ZcZ a K E) :=
 (Zac (Za0 (ZbT (cv 0) T.cl_Labels T.me_Labels_need_and_knot (Zc2 T) (hr.mono (by decide)) T.bi_Labels_need_and_knot .nil (Zos ZdX) (Zaa (cv 1) Zae)))
   (Zah (ZaB (ZfZ c_list (by rfl) T.no_list PyProof.Rows.boot_list (Zaa (Zdy (Zb1 hr) (ZbE (cv 0) rfl) (cv 1) (fun _ _=>rfl)) Zae)))))
theorem Zev (T:Txt K mg a):FnOk P w K mg base (CX1 P w) 2 a.f_Labels_cut a.d_Labels_cut ["self","knot"] (ZcV a K):=by
 refine T.fn_Labels_cut.okX Zhf (fun vs H Q E h=>?_) (fun cdv A outer s H vs Q E hr h=>⟨_,Zg9 T hr,?_⟩)
 ·obtain ⟨x,dx,ll,fc,fw,m,k,lvs,cas,was,css,rfl,_⟩:=h;rfl
 ·obtain ⟨x,dx,ll,fc,fw,m,k,lvs,cas,was,css,rfl,hL,hcl,hat,q1,q0⟩:=h
  show ZcZ a K E _ [some (.ref x),some (.int k)] H
  unfold ZcZ
  walk_at "gs"
  refine ⟨x,dx,_,rfl,hL.ins,rfl,x,dx,ll,fc,fw,m,k,lvs,cas,was,rfl,hL,fun hk=>?_,q0⟩
  obtain ⟨i,rfl⟩:∃ i:Nat,k=((m+1+i:Nat):Int):=⟨(k - m - 1).toNat,by omega⟩
  have hi:i<cas.length:=by omega
  have hv:Ze4 (kvR (m+1) cas) (.inl ((m+1+i:Nat):Int))=some (.ref cas[i]):=by
   rw [Zg3,if_pos (by omega),show (((m+1+i:Nat):Int) - ((m+1:Nat):Int)).toNat=i by omega,Zqn hi]
   rfl
  have hC:css[i]? = some (css[i]'(by omega)):=Zqn _
  have hc:=hat i _ _ (Zqn hi) hC
  walk_at "gs"
  have g:=Zfl.k (k:=.inl ((m+1+i:Nat):Int)) hL.cuts
  rw [hv] at g
  refine ⟨x,a.c_Labels,dx,_,_,rfl,hL.ins,T.cl_Labels,T.na_Labels_found_cuts,rfl,fc,_,rfl,g,?_⟩
  walk_at "gs"
  exact ⟨_,.inl (.of hc),fun l H' n'=>q1 i _ rfl hC l H' n'⟩
noncomputable def Shw (lo:Nat->List Nat) (lv:Nat->Nat) (s k:Nat) (ws:List (List Nat)):Prop :=
 (lv k=1/\ws=[])\/(2<=lv k/\ws.length=s+1/\∃ (goal:Nat->Prop) (ab:MZ.Ab) (ss:List Nat),MZ.Flow lo goal ab/\(∀ z,goal z->ML.Dn lo k z/\lv k<=lv z+1)/\(∀ p,ab p≠none->ML.Dn lo k p/\lv p+2<=lv k)/\ss.Pairwise (· < ·)/\(∀ t,t∈ss ↔ lo t=[]/\ab t≠none)/\ws.length=ss.length/\∀ (i:Nat) t w,ss[i]? = some t->ws[i]? = some w->WayOf ab t w)
theorem Shw.pos {lo:Nat->List Nat}{lv:Nat->Nat}{s k:Nat}{ws:List (List Nat)} (h:Shw lo lv s k ws):0<ws.length ↔ 1<lv k:=by
 rcases h with ⟨h1,h2⟩ | ⟨h1,h2,_⟩
 ·rw [h2,h1];simp
 ·omega
theorem Shw.ext {lo:Nat->List Nat}{lv lv':Nat->Nat}{s k:Nat}{ws:List (List Nat)} (hlt:∀ p l,l∈lo p->l<p) (h:Shw lo lv s k ws) (he:∀ x,x<=k->lv' x=lv x):Shw lo lv' s k ws:=by
 have ek:=he k (ZrN _)
 rcases h with ⟨h1,h2⟩ | ⟨h1,h2,goal,ab,ss,F,hg,hp,rest⟩
 ·exact .inl ⟨by rw [ek];exact h1,h2⟩
 ·exact .inr ⟨by rw [ek];exact h1,h2,goal,ab,ss,F,fun z hz=>⟨(hg z hz).1,by rw [ek,he z ((hg z hz).1.le hlt)];exact (hg z hz).2⟩,fun p hd=>⟨(hp p hd).1,by rw [ek,he p ((hp p hd).1.le hlt)];exact (hp p hd).2⟩,rest⟩
theorem Shw.up {lo:Nat->List Nat}{lv:Nat->Nat}{s k l:Nat}{ws:List (List Nat)} (h:Shw lo lv s l ws) (hl:l∈lo k) (e:lv k=lv l):Shw lo lv s k ws:=by
 have d:ML.Dn lo k l:=.low .here hl
 rcases h with ⟨h1,h2⟩ | ⟨h1,h2,goal,ab,ss,F,hg,hp,rest⟩
 ·exact .inl ⟨by rw [e];exact h1,h2⟩
 ·exact .inr ⟨by rw [e];exact h1,h2,goal,ab,ss,F,fun z hz=>⟨d.trans (hg z hz).1,by rw [e];exact (hg z hz).2⟩,fun p hd=>⟨d.trans (hp p hd).1,by rw [e];exact (hp p hd).2⟩,rest⟩
structure LInv (C:Addr) (S:Addr->Prop) (H:Hp) (x dx ll fc fw:Addr) (m:Nat) (P:List MF.Pr) (s:Nat) (lvs:List Nat) (cas was:List Addr) (css:List (List Nat)) (wss:List (List (List Nat))):Prop where
 at_:LabAt C H x dx ll fc fw m lvs cas was
 nf:fc≠fw
 sll:S ll
 dom:∀ b,S b->∃ o,H b=some o
 len:lvs.length=m+1+cas.length
 wl:cas.length=was.length
 cl:cas.length=css.length
 sl:was.length=wss.length
 low:∀ k,k<=m->lvs.getD k 0=0
 cut:∀ (i:Nat) c C,cas[i]? = some c->css[i]? = some C->H c=some (.lst (C.map nv))/\¬ S c
 way:∀ (i:Nat) w ws,was[i]? = some w->wss[i]? = some ws->∃ us,WaysAt H w us ws/\¬ S w/\∀ u∈us,¬ S u
 lab:∀ (i:Nat) C,css[i]? = some C->ML.Lab (Zba (Zbe m P)) (fun k=>lvs.getD k 0) s (m+1+i) C
 shw:∀ (i:Nat) ws,wss[i]? = some ws->Shw (Zba (Zbe m P)) (fun k=>lvs.getD k 0) s (m+1+i) ws
theorem Un3.lst {ll fc fw b:Addr}{H H':Hp}{xs:List V}{ks ks':List (Key × V)} (u:Un3 ll fc fw H H') (hc:H fc=some (.dK ks)) (hw:H fw=some (.dK ks')) (e:H b=some (.lst xs)) (n:b≠ll):H' b=some (.lst xs) :=
 u b _ n (Zbv e hc (fun z=>nomatch z)) (Zbv e hw (fun z=>nomatch z)) e
theorem WaysAt.un3 {ll fc fw w:Addr}{H H':Hp}{us:List Addr}{ws:List (List Nat)}{ks ks':List (Key × V)} (h:WaysAt H w us ws) (u:Un3 ll fc fw H H') (hc:H fc=some (.dK ks)) (hw:H fw=some (.dK ks')) (n:w≠ll) (nu:∀ u∈us,u≠ll):WaysAt H' w us ws :=
 ⟨u.lst hc hw h.lst n,h.len,fun i r y hr hy=>u.lst hc hw (h.at_ i r y hr hy) (nu r (Zqw hr))⟩
theorem MazeAt.un3 {ll fc fw w:Addr}{H H':Hp}{us:List Addr}{ws:List (List Nat)}{ks ks':List (Key × V)} (h:MazeAt H w us ws) (u:Un3 ll fc fw H H') (hc:H fc=some (.dK ks)) (hw:H fw=some (.dK ks')) (n:w≠ll) (nu:∀ u∈us,u≠ll):MazeAt H' w us ws :=
 ⟨u.lst hc hw h.lst n,h.len,fun i r y hr hy=>u.lst hc hw (h.at_ i r y hr hy) (nu r (Zqw hr))⟩
theorem WaysAt.same {H H':Hp}{w:Addr}{us:List Addr}{ws:List (List Nat)} (h:WaysAt H w us ws) (s:ZaZ H H'):WaysAt H' w us ws :=
 ⟨s _ _ h.lst,h.len,fun i r y hr hy=>s _ _ (h.at_ i r y hr hy)⟩
theorem ZaW {xs:List Nat}{y k:Nat} (h:k<xs.length):(xs ++ [y]).getD k 0=xs.getD k 0:=by
 rw [Zqs,Zqs,ZqC h]
theorem Zim {xs:List Nat}{y k:Nat} (h:k=xs.length):(xs ++ [y]).getD k 0=y:=by
 subst h
 rw [Zqs,ZqD (ZrN _),ZrT]
 rfl
theorem Zff {xs:List Nat}{y k:Nat}:xs.getD k 0<=(xs ++ [y]).getD k 0:=by
 rcases ZrO k xs.length with z | z
 ·rw [ZaW z];exact ZrN _
 ·rw [Zqs,ZqQ z];exact ZrS _
theorem Zcn {α:Type}{xs:List α}{y z:α}{i:Nat} (h:(xs ++ [y])[i]? = some z):xs[i]? = some z\/(i=xs.length/\z=y):=by
 rcases Zr5 i xs.length with w | w | w
 ·rw [ZqC w] at h;exact .inl h
 ·subst w
  rw [ZqD (ZrN _),ZrT] at h
  cases h
  exact .inr ⟨rfl,rfl⟩
 ·rw [ZqQ (by rw [Zqj,Zqx];omega)] at h
  cases h
theorem LInv.same {C:Addr}{S:Addr->Prop}{H H':Hp}{x dx ll fc fw:Addr}{m:Nat}{P:List MF.Pr}{s:Nat}{lvs:List Nat}{cas was:List Addr}{css:List (List Nat)}{wss:List (List (List Nat))} (h:LInv C S H x dx ll fc fw m P s lvs cas was css wss) (st:ZaZ H H'):LInv C S H' x dx ll fc fw m P s lvs cas was css wss :=
 ⟨h.at_.same st,h.nf,h.sll,fun b hb=>by obtain ⟨o,ho⟩:=h.dom b hb;exact ⟨o,st _ _ ho⟩,h.len,h.wl,h.cl,h.sl,h.low,fun i c C hc hC=>⟨st _ _ (h.cut i c C hc hC).1,(h.cut i c C hc hC).2⟩,fun i w ws hw hs=>by
  obtain ⟨us,h1,h2,h3⟩:=h.way i w ws hw hs
  exact ⟨us,h1.same st,h2,h3⟩,h.lab,h.shw⟩
theorem LInv.more {C:Addr}{S:Addr->Prop}{H H':Hp}{x dx ll fc fw c w:Addr}{m:Nat}{P:List MF.Pr}{s lev:Nat}{lvs:List Nat}{cas was:List Addr}{css:List (List Nat)}{wss:List (List (List Nat))}{Cn:List Nat}{ws:List (List Nat)} (h:LInv C S H x dx ll fc fw m P s lvs cas was css wss) (ok:MF.Ok m P)
  (u:Un3 ll fc fw H H') (h':LabAt C H' x dx ll fc fw m (lvs ++ [lev]) (cas ++ [c]) (was ++ [w])) (hc:H' c=some (.lst (Cn.map nv))) (nc:¬ S c) (hw:∃ us,WaysAt H' w us ws/\¬ S w/\∀ u∈us,¬ S u)
  (hlab:ML.Lab (Zba (Zbe m P)) (fun k=>(lvs ++ [lev]).getD k 0) s (m+1+cas.length) Cn) (hshw:Shw (Zba (Zbe m P)) (fun k=>(lvs ++ [lev]).getD k 0) s (m+1+cas.length) ws) :
  LInv C S H' x dx ll fc fw m P s (lvs ++ [lev]) (cas ++ [c]) (was ++ [w]) (css ++ [Cn]) (wss ++ [ws]):=by
 have mz:=Ze0 ok
 have hl:=h.len
 have hcl:=h.cl
 have hwl:=h.wl
 have hsl:=h.sl
 have nl:∀ {b:Addr},¬ S b->b≠ll:=fun nb e=>nb (e ▸ h.sll)
 refine ⟨h',h.nf,h.sll,fun b hb=>?_,?_,?_,?_,?_,fun k hk=>?_,fun i c' C' hc' hC'=>?_,fun i w' ws' hw' hs'=>?_,fun i C' hC'=>?_,fun i ws' hs'=>?_⟩
 ·by_cases e1:b=ll
  ·exact ⟨_,e1 ▸ h'.lst⟩
  by_cases e2:b=fc
  ·exact ⟨_,e2 ▸ h'.cuts⟩
  by_cases e3:b=fw
  ·exact ⟨_,e3 ▸ h'.ways⟩
  obtain ⟨o,ho⟩:=h.dom b hb
  exact ⟨o,u b o e1 e2 e3 ho⟩
 ·simp only [Zqj,Zqx];omega
 ·simp only [Zqj,Zqx];omega
 ·simp only [Zqj,Zqx];omega
 ·simp only [Zqj,Zqx];omega
 ·rw [ZaW (by omega)];exact h.low k hk
 ·rcases Zcn hc' with z | ⟨z,rfl⟩
  ·have:=(Zqm.mp z).1
   rcases Zcn hC' with y | ⟨y,_⟩
   ·have:=h.cut i c' C' z y
    exact ⟨u.lst h.at_.cuts h.at_.ways this.1 (nl this.2),this.2⟩
   ·omega
  ·rcases Zcn hC' with y | ⟨_,rfl⟩
   ·have:=(Zqm.mp y).1;omega
   ·exact ⟨hc,nc⟩
 ·rcases Zcn hw' with z | ⟨z,rfl⟩
  ·have:=(Zqm.mp z).1
   rcases Zcn hs' with y | ⟨y,_⟩
   ·obtain ⟨us,h1,h2,h3⟩:=h.way i w' ws' z y
    exact ⟨us,h1.un3 u h.at_.cuts h.at_.ways (nl h2) (fun u hu=>nl (h3 u hu)),h2,h3⟩
   ·omega
  ·rcases Zcn hs' with y | ⟨_,rfl⟩
   ·have:=(Zqm.mp y).1;omega
   ·exact hw
 ·rcases Zcn hC' with y | ⟨rfl,rfl⟩
  ·have:=(Zqm.mp y).1
   exact (h.lab i C' y).ext mz.lt (fun k hk=>ZaW (by omega)) (fun k=>Zff)
  ·rw [<- hcl];exact hlab
 ·rcases Zcn hs' with y | ⟨rfl,rfl⟩
  ·have:=(Zqm.mp y).1
   exact (h.shw i ws' y).ext mz.lt (fun k hk=>ZaW (by omega))
  ·rw [<- hsl,<- hwl];exact hshw
theorem LInv.less {C:Addr}{S S':Addr->Prop}{H:Hp}{x dx ll fc fw:Addr}{m:Nat}{P:List MF.Pr}{s:Nat}{lvs:List Nat}{cas was:List Addr}{css:List (List Nat)}{wss:List (List (List Nat))} (h:LInv C S H x dx ll fc fw m P s lvs cas was css wss) (hl:S' ll) (hs:∀ b,S' b->S b):LInv C S' H x dx ll fc fw m P s lvs cas was css wss :=
 ⟨h.at_,h.nf,hl,fun b hb=>h.dom b (hs b hb),h.len,h.wl,h.cl,h.sl,h.low,fun i c C hc hC=>⟨(h.cut i c C hc hC).1,fun z=>(h.cut i c C hc hC).2 (hs _ z)⟩,fun i w ws hw hs'=>by
  obtain ⟨us,h1,h2,h3⟩:=h.way i w ws hw hs'
  exact ⟨us,h1,fun z=>h2 (hs _ z),fun u hu z=>h3 u hu (hs _ z)⟩,h.lab,h.shw⟩
theorem Znq {v:Nat}{r:List Nat}:atI ((v :: r).map nv) 0=some (nv v):=by
 rw [Zde .non (by omega) (by rw [Zqi,ZqA];omega)]
 rfl
theorem Zf4:∀ l:List Nat,(Zfx l).map Zsa=l
 | []=>rfl
 | x :: r=>by
  show (Zsa (x:Int)) :: (Zfx r).map Zsa=x :: r
  rw [Zf4 r,Zr6]
theorem ZmR {xs ys:List Nat} (h:Zfx xs=Zfx ys):xs=ys:=by rw [<- Zf4 xs,h,Zf4]
theorem LInv.mono {C:Addr}{S:Addr->Prop}{H:Hp}{x dx ll fc fw:Addr}{m:Nat}{P:List MF.Pr}{s:Nat}{lvs:List Nat}{cas was:List Addr}{css:List (List Nat)}{wss:List (List (List Nat))} (h:LInv C S H x dx ll fc fw m P s lvs cas was css wss):∀ y,y<m+1+cas.length->∀ l∈Zba (Zbe m P) y,lvs.getD l 0<=lvs.getD y 0:=by
 intro y hy l hl
 obtain ⟨j,p,rfl,hp,_⟩:=Zi6 hl
 have hj:j<css.length:=by have:=h.cl;omega
 exact (h.lab j _ (Zqn hj)).mono l hl
noncomputable def Zda (a:Adr) (_:ZpF):Sp:=fun vs H Q _=>∃ (S:Addr->Prop) (x dx ll fc fw mp ip:Addr) (rs:List Addr) (m s:Nat) (P:List MF.Pr) (lvs:List Nat) (cas was:List Addr) (css:List (List Nat)) (wss:List (List (List Nat))),vs=[.ref x,.ref mp,.ref ip,.int s]/\LInv a.c_Labels S H x dx ll fc fw m P s lvs cas was css wss/\cas.length<P.length/\MF.Ok m P/\m+1+P.length<=130/\2<=s/\s<=6/\MazeAt H mp rs (Zbe m P)/\mp≠ll/\(∀ r∈rs,¬ S r)/\H ip=some (.lst ((MF.Zge m P (m+1+cas.length)).map nv)) /\
 ∀ H' lvs' cas' was' css' wss',Un3 ll fc fw H H'->LInv a.c_Labels S H' x dx ll fc fw m P s lvs' cas' was' css' wss'->cas'.length=cas.length+1->Q .non H'
noncomputable def Zcf (a:Adr) (K:ZpF):TS:=(ZaQ (Zbs (tOp (cIx K) (Zad 2) (tUn Zpp (tC (.int 1)))) (Zan 4))
  (ZaQ (Zbs (tOp (cIx K) (Zad 1) (Zad 4)) (Zan 5))
  (ZaQ (Zbs (tCB (Zpq K) (Zaf (ZcU (Zdg K (Zad 5)) 1 [0] (Zan 0) Zeo (tOp (cIx K) (Zfp K (Zad 1) "levels") (Zad 0))) Zas)) (Zan 6))
  (ZaQ (Zcv (ZbH (tOp (cEq K) (Zad 6) (tC (.int 0)))) (ZaQ (ZbZ (ZbY a.c_Labels "keep" (Zb3 a K) [] E0 (Zad 0) (Zaf (Zad 4) (Zaf (tC (.int 1)) (Zaf (Zad 5) (Zaf (Zgr Zas) Zas))))))
  Zn8) Zbt)
  (ZaQ (Zbs (ZcU (Zdg K (Zad 2)) 1 [4,0,6] (Zan 0) (tOr (ZbH (tOp (cEq K) (Zad 0) (Zad 1))) (ZbH (tOp (cEq K) (tOp (cIx K) (Zfp K (Zad 2) "levels") (Zad 0)) (Zad 3)))) (Zad 0)) (Zan 7))
  (ZaQ (Zbs (Zbb (ZjB a K) [] E0 (Zaf (Zad 1) (Zaf (Zad 7) (Zaf (Zad 3) Zas)))) (Zan 8))
  (Zcv (ZbH (tOp cIs (tOp (cIx K) (Zad 8) (tC (.int 1))) (tC .non))) (ZbZ (ZbY a.c_Labels "keep" (Zb3 a K) [] E0 (Zad 0) (Zaf (Zad 4) (Zaf (tOp Zd5 (Zad 6) (tC (.int 1))) (Zaf (Zad 5) (Zaf (tOp (cIx K) (Zad 8) (tC (.int 0))) Zas)))))) (ZaQ (Zbs (ZcU (Zdg K (Zad 5)) 1 [0,6] (Zan 0) (ZbH (tOp (cEq K) (tOp (cIx K) (Zfp K (Zad 1) "levels") (Zad 0)) (Zad 2))) (Zad 0)) (Zan 9))
  (ZbZ (ZbY a.c_Labels "keep" (Zb3 a K) [] E0 (Zad 0) (Zaf (Zad 4) (Zaf (Zad 6) (Zaf (tOp (cIx K) (Zad 8) (tC (.int 1))) (Zaf (Zgw (Zfp K (Zad 0) "found_ways") (tOp (cIx K) (Zad 9) (tC (.int 0)))) Zas))))))))))))))
theorem Zfm (T:Txt K mg a) {cdv:Value}{A:Around}{outer:List Env}{s:Shared}{H:Hp}{E:XK} (hr:Room 4 (A.deeper (envOfC "Labels.settle" (Zab Zat) s.heap.objs.size a.f_Labels_settle cdv))) :
  PSs (Zcd CX0 P w K mg base ZbG "Labels.settle" (Zab Zat) a.f_Labels_settle cdv A outer s H E).nox (Zai Zat) (Zcf a K) :=
 (Zac (Zap (i:=4) ZaY.nd rfl (by walk_at "o") (ZaG ZaH (cv 2) (Zld ZkE Zag) (fun _ _=>rfl)))
   (Zac (Zap (i:=5) ZaY.nd rfl (by walk_at "o") (ZaG ZaH (cv 1) (cv 4) (fun _ _=>rfl)))
   (Zac (Zap (i:=6) ZaY.nd rfl (by walk_at "o") (Zaz (c_maxL rfl) (by rfl) T.no_max PyProof.Rows.boot_max (Zaa (ZfY (N:=["lower","self"]) (k:=1) (sel:=[0]) (CScope.of (Zab Zat).names (by decide +kernel)) (CNames.of ZbG (by decide +kernel)) rfl (Zb0 (cv 5)) (fun _ _ _ _=>(ZaE (i:=0) (show ZqO (["lower","self"]:List Str) by decide +kernel) rfl (by walk_at "o"))) (fun _ _ _ _=>ZeW) (fun _ _ _ _=>(ZaG ZaH (ZbE (cv 1) rfl) (cv 0) (fun _ _=>rfl)))) Zae)))
   (Zac (Zbn (ZaX (Zfw (hr8 hr)) (cv 6) Zag (Zau _)) (Zac (Za0 (ZbT (cv 0) T.cl_Labels T.me_Labels_keep (ZcG T) (hr.mono (by decide)) T.bi_Labels_keep .nil ZaR (Zaa (cv 4) (Zaa Zag (Zaa (cv 5) (Zaa (ZbU Zae) Zae))))))
   (Zah Zoo)) ZaA)
   (Zac (ZeX (i:=7) (N:=["lower","knot","self","greatest"]) (k:=1) (sel:=[4,0,6]) (CScope.of (Zab Zat).names (by decide +kernel)) (CNames.of ZbG (by decide +kernel)) rfl (Zb0 (cv 2)) (fun _ _ _ _=>(ZaE (i:=0) (show ZqO (["lower","knot","self","greatest"]:List Str) by decide +kernel) rfl (by walk_at "o"))) (fun _ _ _ _=>(ZfX (PW.pt (Zfs (ZaX (Zfw (hr8 hr)) (cv 0) (cv 1) (Zau _)) (Zd2 (ZaX (Zfw (hr8 hr)) (ZaG ZaH (ZbE (cv 2) rfl) (cv 0) (fun _ _=>rfl)) (cv 3) (Zau _))))))) (fun _ _ _ _=>(cv 0)) ZaY.nd rfl (by walk_at "o") rfl)
   (Zac (Zap (i:=8) ZaY.nd rfl (by walk_at "o") (Zar (ZmL T) (hr.mono (by decide)) rfl T.mg_apart T.fn_apart.kp T.bi_apart .nil Zhj (Zaa (cv 1) (Zaa (cv 7) (Zaa (cv 3) Zae)))))
   (Zah (Zbn (ZaX Zoz (ZaG ZaH (cv 8) Zag (fun _ _=>rfl)) Zb9 (Zau _)) (Zah (Za0 (ZbT (cv 0) T.cl_Labels T.me_Labels_keep (ZcG T) (hr.mono (by decide)) T.bi_Labels_keep .nil ZaR (Zaa (cv 4) (Zaa (Zam ZbM (cv 6) Zag) (Zaa (cv 5) (Zaa (ZaG ZaH (cv 8) Zag (fun _ _=>rfl)) Zae))))))) (Zac (ZeX (i:=9) (N:=["lower","self","greatest"]) (k:=1) (sel:=[0,6]) (CScope.of (Zab Zat).names (by decide +kernel)) (CNames.of ZbG (by decide +kernel)) rfl (Zb0 (cv 5)) (fun _ _ _ _=>(ZaE (i:=0) (show ZqO (["lower","self","greatest"]:List Str) by decide +kernel) rfl (by walk_at "o"))) (fun _ _ _ _=>(ZfX (ZaX (Zfw (hr8 hr)) (ZaG ZaH (ZbE (cv 1) rfl) (cv 0) (fun _ _=>rfl)) (cv 2) (Zau _)))) (fun _ _ _ _=>(cv 0)) ZaY.nd rfl (by walk_at "o") rfl)
   (Zah (Za0 (ZbT (cv 0) T.cl_Labels T.me_Labels_keep (ZcG T) (hr.mono (by decide)) T.bi_Labels_keep .nil ZaR (Zaa (cv 4) (Zaa (cv 6) (Zaa (ZaG ZaH (cv 8) Zag (fun _ _=>rfl)) (Zaa (Zdy (Zb1 hr) (ZbE (cv 0) rfl) (ZaG ZaH (cv 9) Zag (fun _ _=>rfl)) (fun _ _=>rfl)) Zae))))))))))))))))
theorem Zft (T:Txt K mg a):FnOk P w K mg base CX0 5 a.f_Labels_settle a.d_Labels_settle ["self","maze","inner","size"] (Zda a K):=by
 refine T.fn_Labels_settle.ok ZaY (fun vs H Q E h=>?_) (fun cdv A outer s H vs Q E hr h=>⟨_,Zfm T hr,?_⟩)
 ·obtain ⟨S0,x,dx,ll,fc,fw,mp,ip,rs,m,s,P,lvs,cas,was,css,wss,rfl,_⟩:=h;rfl
 ·obtain ⟨S0,x,dx,ll,fc,fw,mp,ip,rs,m,s,P',lvs,cas,was,css,wss,rfl,hL,hlt,ok,hn,s2,s6,hM,nml,nrl,hI,q⟩:=h
  show Zcf a K _ [some (.ref x),some (.ref mp),some (.ref ip),some (.int s),none,none,none,none,none,none] H
  unfold Zcf
  have big:(20000:Nat)<=sizeLine:=by decide
  have mz:=Ze0 ok
  have hlen:=hL.len
  have hN:m+1+cas.length<1+m+P'.length:=by omega
  obtain ⟨cv,hcv⟩:=Zl2 ok hN
  have hI':=hI
  rw [hcv] at hI'
  obtain ⟨p,hp⟩:∃ p,P'[cas.length]? = some p:=⟨_,Zqn hlt⟩
  obtain ⟨o1,o2,o3,o4⟩:=ok _ _ hp
  have hlo:=ZdF (m:=m) hp
  obtain ⟨r,hr1,hr2⟩:=hM.get (i:=m+1+cas.length) (by rw [Zcc];omega)
  rw [hlo] at hr2
  obtain ⟨lowa,hla⟩:∃ l:Nat,l=(p.1 / 2).toNat:=⟨_,rfl⟩
  obtain ⟨lowb,hlb⟩:∃ l:Nat,l=(p.2 / 2).toNat:=⟨_,rfl⟩
  rw [<- hla,<- hlb] at hr2 hlo
  have la:lowa<m+1+cas.length:=by omega
  have lb:lowb<m+1+cas.length:=by omega
  have lab:lowa<lowb:=by omega
  walk_at "gs"
  refine ⟨_,_,.inl (.of hI'),Zll,?_⟩
  generalize hNN:m+1+cas.length=N at *
  unfold nv
  walk_at "gs"
  refine ⟨_,_,.inl (.of hM.lst),hr1,?_⟩
  walk_at "gs"
  refine ⟨⟨_,.of hr2⟩,ZgS (fun v=>match v with | .int l=>nv (lvs.getD l.toNat 0) | _=>.non) (.of hr2) rfl (by rw [Zqi];show 2<=_;omega) ?_ ?_⟩
  ·intro v H' Q' hv s' q'
   obtain ⟨l,hl,rfl⟩:=Zqr.mp hv
   have hl':l<lvs.length:=by
    rcases Zqt.mp hl with z | z
    ·omega
    ·rw [Zql] at z;omega
   have q':Q' (nv (lvs.getD l 0)) H':=q'
   unfold nv
   walk_at "gs"
   exact ⟨x,a.c_Labels,dx,_,_,rfl,s' _ _ hL.at_.ins,T.cl_Labels,T.na_Labels_levels,rfl,_,_,.inl (.of (s' _ _ hL.at_.lst)),Zgh hl',q'⟩
  intro l1 H1 n1
  have hL1:=hL.same n1.same
  have hM1:=hM.same n1.same
  have hI1:=n1.same _ _ hI
  refine ⟨[(lvs.getD lowa 0:Nat),(lvs.getD lowb 0:Nat)],.of n1.at_,by simp,fun M hMm hMx=>?_⟩
  obtain ⟨g,rfl⟩:∃ g:Nat,M=g:=by
   rcases Zqt.mp hMm with z | z
   ·exact ⟨_,z⟩
   ·rw [Zql] at z;exact ⟨_,z⟩
  have ga:lvs.getD lowa 0<=g:=by have:=hMx _ (ZqF ..);omega
  have gb:lvs.getD lowb 0<=g:=by have:=hMx _ (ZqI _ (Zql.mpr rfl));omega
  have gg:lvs.getD lowa 0=g\/lvs.getD lowb 0=g:=by
   rcases Zqt.mp hMm with z | z
   ·exact .inl (by omega)
   ·rw [Zql] at z;exact .inr (by omega)
  have hne:Zba (Zbe m P') N≠[]:=by rw [hlo];simp
  have hris:(Zba (Zbe m P') N).Pairwise (· < ·):=by rw [hlo];simpa using lab
  have hl2:(Zba (Zbe m P') N).length<=s:=by rw [hlo];exact s2
  have hgl:∀ lev:Nat,∀ l∈Zba (Zbe m P') N,(lvs ++ [lev]).getD l 0<=g:=fun lev l hl=>by
   rw [hlo] at hl
   rcases Zqt.mp hl with z | z
   ·subst z;rw [ZaW (by omega)];exact ga
   ·rw [Zql] at z;subst z;rw [ZaW (by omega)];exact gb
  have hmono:∀ lev:Nat,∀ y,y<N->∀ l∈Zba (Zbe m P') y,(lvs ++ [lev]).getD l 0<=(lvs ++ [lev]).getD y 0:=fun lev y hy l hl=>by
   have:=mz.lt y l hl
   rw [ZaW (by omega),ZaW (by omega)]
   exact hL.mono y (by omega) l hl
  have hNk:∀ lev:Nat,(lvs ++ [lev]).getD N 0=lev:=fun lev=>Zim (by omega)
  have nl:∀ {b:Addr},¬ S0 b->b≠ll:=fun nb e=>nb (e ▸ hL.sll)
  have nrl':¬ S0 r:=by
   have hi:N<rs.length:=by rw [hM.len,Zcc];omega
   rw [Zde .non (by omega) (by rw [Zqi];omega),Zr6,Zqs,Zqy,Zqn hi] at hr1
   have:rs[N]=r:=by simpa using hr1
   rw [<- this]
   exact nrl _ (ZqU hi)
  by_cases h0:(g:Int)=0
  ·rw [if_pos h0]
   have g0:g=0:=by omega
   subst g0
   refine ⟨x,dx,_,rfl,hL1.at_.ins,rfl,by show 0<=sizeLine;omega,fun wp H2 n2=>?_⟩
   have hL2:=hL1.same n2.same
   have s02:=n1.same.trans n2.same
   refine ⟨x,dx,ll,fc,fw,r,wp,m,N,1,lvs,cas,was,rfl,hL2.at_,hNN.symm,hL.wl,by omega,by omega,hL.nf,fun H3 u3 h3=>?_⟩
   have nwl:¬ S0 wp:=fun z=>by obtain ⟨o,ho⟩:=hL1.dom wp z;rw [n2.was] at ho;cases ho
   have hr3:=u3.lst hL2.at_.cuts hL2.at_.ways (s02 _ _ hr2) (nl nrl')
   have hw3:=u3.lst hL2.at_.cuts hL2.at_.ways n2.at_ (nl nwl)
   refine q H3 _ _ _ _ _ ((Zjm s02).trans u3) (LInv.more (Cn:=[lowa,lowb]) (ws:=[]) hL2 ok u3 h3 hr3 nrl' ⟨[],⟨hw3,rfl,fun i r y hr=>by simp at hr⟩,nwl,fun u hu=>by simp at hu⟩ ?_ ?_) (by rw [Zqj];rfl)
   ·rw [hNN,<- hlo]
    exact ML.Zo7 mz.lt hne hris hl2 (fun l hl=>by have:=hgl 1 l hl;omega) (hNk 1)
   ·rw [hNN]
    exact .inl ⟨hNk 1,rfl⟩
  rw [if_neg h0]
  obtain ⟨gs,hgs⟩:∃ gs,gs=(MF.Zge m P' N).filter fun k=>decide (k=N\/lvs.getD k 0=g):=⟨_,rfl⟩
  have hgm:∀ z,z∈gs ↔ z=N\/(ML.Dn (Zba (Zbe m P')) N z/\lvs.getD z 0=g):=fun z=>by
   rw [hgs,ZqP,decide_eq_true_iff,Zl3 ok hN]
   constructor
   ·rintro ⟨h1,h2 | h2⟩
    ·exact .inl h2
    ·exact .inr ⟨h1,h2⟩
   ·rintro (rfl | ⟨h1,h2⟩)
    ·exact ⟨.here,.inl rfl⟩
    ·exact ⟨h1,.inr h2⟩
  refine ⟨⟨_,.of hI1⟩,ZcB (rest:=[some (.int (N:Nat)),some (.ref x),some (.int (g:Nat))]) (fun v=>match v with | .int e=>decide (e.toNat=N\/lvs.getD e.toNat 0=g) | _=>false) id (.of hI1) rfl (by rw [Zqi];have:=Znd m P' N;omega) ?_ ?_ ?_⟩
  ·intro v H' Q' hv s' q'
   obtain ⟨e,he,rfl⟩:=Zqr.mp hv
   have hle:=((Zl3 ok hN).mp he).le mz.lt
   have q':Q' (decide (e=N\/lvs.getD e 0=g)) H':=q'
   unfold nv
   walk_at "gs"
   by_cases hen:(e:Int)=(N:Int)
   ·rw [if_pos hen]
    rw [decide_eq_true (.inl (by omega))] at q'
    exact q'
   ·rw [if_neg hen]
    rw [show decide (e=N\/lvs.getD e 0=g)=decide ((lvs.getD e 0:Int)=(g:Int)) by rw [decide_eq_decide];omega] at q'
    exact ⟨x,a.c_Labels,dx,_,_,rfl,s' _ _ hL1.at_.ins,T.cl_Labels,T.na_Labels_levels,rfl,_,_,.inl (.of (s' _ _ hL1.at_.lst)),Zgh (by omega),q'⟩
  ·intro v H' Q' hv _ s' q'
   walk_at "gs"
   exact q'
  intro gp H2 n2
  have e2:(((MF.Zge m P' N).map nv).filter fun v=>match v with | .int e=>decide (e.toNat=N\/lvs.getD e.toNat 0=g) | _=>false).map id=(Zfx gs).map V.int:=by
   rw [Zrg,Zrq,Zf3,hgs]
   rfl
  rw [e2] at n2
  have hL2:=hL1.same n2.same
  have hM2:=hM1.same n2.same
  have s02:=n1.same.trans n2.same
  have hok:Zg1 (Zbe m P') (Zfx gs):=fun z hz=>by
   obtain ⟨k,hk,rfl⟩:=Zqr.mp hz
   have hkN:m<k/\k<=N:=by
    rcases (hgm k).mp hk with rfl | ⟨h1,h2⟩
    ·omega
    ·refine ⟨ZrY fun z=>?_,h1.le mz.lt⟩
     have:=hL.low k z
     omega
   refine ⟨by omega,by rw [Zcc];omega,?_⟩
   rw [Zr6]
   obtain ⟨j,rfl⟩:∃ j,k=m+1+j:=⟨k - m - 1,by omega⟩
   rw [ZdF (Zqn (show j<P'.length by omega))]
   simp
  refine ⟨mp,gp,rs,Zbe m P',Zfx gs,s,rfl,hM2,n2.at_,mz,by rw [Zcc];omega,by omega,fun gs' tp wl v us ss ws as H3 egs _ s3 ft fw3 fus fsl htp told=>?_,fun hno=>absurd hok hno⟩
  rw [<- ZmR egs] at told
  have hL3:=hL2.same s3
  have hM3:=hM2.same s3
  have s03:=s02.trans s3
  have nwl:¬ S0 wl:=fun z=>by obtain ⟨o,ho⟩:=hL2.dom wl z;rw [fw3] at ho;cases ho
  have nus:∀ u∈us,¬ S0 u:=fun u hu z=>by obtain ⟨o,ho⟩:=hL2.dom u z;rw [fus u hu] at ho;cases ho
  have hbd:∀ p,MZ.ZaS as p≠none->p<(Zbe m P').length:=fun p hp=>told.bd p (MZ.Zc7.mp hp)
  have hgo:∀ lev:Nat,∀ z,ZcL gs z ↔ z=N\/(ML.Dn (Zba (Zbe m P')) N z/\(lvs ++ [lev]).getD z 0=g):=fun lev z=>by
   refine (hgm z).trans ?_
   constructor
   ·rintro (h1 | ⟨h1,h2⟩)
    ·exact .inl h1
    ·by_cases e:z=N
     ·exact .inl e
     ·have:=h1.le mz.lt
      exact .inr ⟨h1,by rw [ZaW (by omega)];exact h2⟩
   ·rintro (h1 | ⟨h1,h2⟩)
    ·exact .inl h1
    ·by_cases e:z=N
     ·exact .inl e
     ·have:=h1.le mz.lt
      rw [ZaW (by omega)] at h2
      exact .inr ⟨h1,h2⟩
  refine ⟨_,_,.inr (.of htp),rfl,?_⟩
  rcases told.rest with ⟨rfl,hss⟩ | ⟨sl,es,cs,rfl,hsl,nsw,nsu,sk,hes,hem,hss⟩
  ·rw [if_pos rfl]
   refine ⟨x,dx,_,rfl,hL3.at_.ins,rfl,?_⟩
   refine ⟨_,_,.inr (.of htp),rfl,?_⟩
   refine ⟨x,dx,ll,fc,fw,r,wl,m,N,g+1,lvs,cas,was,rfl,hL3.at_,hNN.symm,hL.wl,by omega,by omega,hL.nf,fun H4 u4 h4=>?_⟩
   have hr4:=u4.lst hL3.at_.cuts hL3.at_.ways (s03 _ _ hr2) (nl nrl')
   refine q H4 _ _ _ _ _ ((Zjm s03).trans u4) (LInv.more (Cn:=[lowa,lowb]) (ws:=ws) hL3 ok u4 h4 hr4 nrl' ⟨us,told.ways.un3 u4 hL3.at_.cuts hL3.at_.ways (nl nwl) (fun u hu=>nl (nus u hu)),nwl,nus⟩ ?_ ?_) (by rw [Zqj];rfl)
   ·rw [hNN,<- hlo]
    exact ML.ZmX mz.lt hne hris hl2 (hmono (g+1)) (hgl (g+1)) (hNk (g+1)) told.flow (fun z hz=>(hgo (g+1) z).mp hz) hbd (ZfC told.ris) told.mem hss
   ·rw [hNN]
    have e1:=hNk (g+1)
    refine .inr ⟨by show 2<=(lvs ++ [g+1]).getD N 0;omega,by rw [told.len,hss],ZcL gs,MZ.ZaS as,ss,told.flow,fun z hz=>?_,fun c hc=>?_,told.ris,told.mem,told.len,told.way⟩
    ·rcases (hgo (g+1) z).mp hz with rfl | ⟨h1,h2⟩
     ·exact ⟨.here,by omega⟩
     ·exact ⟨h1,by show (lvs ++ [g+1]).getD N 0<=(lvs ++ [g+1]).getD z 0+1;omega⟩
    ·have:=ML.Zja mz.lt hne (hmono (g+1)) (hgl (g+1)) told.flow (hgo (g+1)) hbd hc
     exact ⟨this.1,by show (lvs ++ [g+1]).getD c 0+2<=(lvs ++ [g+1]).getD N 0;omega⟩
  ·rw [if_neg (by simp)]
   walk_at "gs"
   have hr3:=s03 _ _ hr2
   refine ⟨⟨_,.of hr3⟩,ZcB (rest:=[some (.ref x),some (.int (g:Nat))]) (fun v=>match v with | .int e=>decide (lvs.getD e.toNat 0=g) | _=>false) id (.of hr3) rfl (by rw [Zqi];show 2<=_;omega) ?_ ?_ ?_⟩
   ·intro v H' Q' hv s' q'
    obtain ⟨l,hl,rfl⟩:=Zqr.mp hv
    have hl':l<lvs.length:=by
     rcases Zqt.mp hl with z | z
     ·omega
     ·rw [Zql] at z;omega
    have q':Q' (decide (lvs.getD l 0=g)) H':=q'
    unfold nv
    walk_at "gs"
    rw [show decide (lvs.getD l 0=g)=decide ((lvs.getD l 0:Int)=(g:Int)) by rw [decide_eq_decide];omega] at q'
    exact ⟨x,a.c_Labels,dx,_,_,rfl,s' _ _ hL3.at_.ins,T.cl_Labels,T.na_Labels_levels,rfl,_,_,.inl (.of (s' _ _ hL3.at_.lst)),Zgh hl',q'⟩
   ·intro v H' Q' hv _ s' q'
    walk_at "gs"
    exact q'
   intro sp H4 n4
   have e4:(([lowa,lowb].map nv).filter fun v=>match v with | .int e=>decide (lvs.getD e.toNat 0=g) | _=>false).map id=([lowa,lowb].filter fun e=>decide (lvs.getD e 0=g)).map nv:=by
    rw [Zrg,Zrq]
    rfl
   rw [e4] at n4
   obtain ⟨l,rest,hlr⟩:∃ l rest,([lowa,lowb].filter fun e=>decide (lvs.getD e 0=g))=l :: rest:=by
    cases e:[lowa,lowb].filter fun e=>decide (lvs.getD e 0=g) with
    | cons l rest=>exact ⟨l,rest,rfl⟩
    | nil =>
     have:=List.filter_eq_nil_iff.mp e
     rcases gg with z | z
     ·exact absurd (decide_eq_true z) (this lowa (by simp))
     ·exact absurd (decide_eq_true z) (this lowb (by simp))
   rw [hlr] at n4
   obtain ⟨hlm,hlg⟩:=ZqP.mp (show l∈[lowa,lowb].filter fun e=>decide (lvs.getD e 0=g) by rw [hlr];exact ZqF ..)
   rw [decide_eq_true_iff] at hlg
   have hlN:l<N:=by
    rcases Zqt.mp hlm with z | z
    ·omega
    ·rw [Zql] at z;omega
   have hml:m<l:=ZrY fun z=>by have:=hL.low l z;omega
   obtain ⟨i,rfl⟩:∃ i,l=m+1+i:=⟨l - m - 1,by omega⟩
   have hi:i<was.length:=by have:=hL.wl;omega
   obtain ⟨wss',hws'⟩:∃ w,wss[i]? = some w:=⟨_,Zqn (by have:=hL.sl;omega)⟩
   obtain ⟨C',hC'⟩:∃ C,css[i]? = some C:=⟨_,Zqn (by have:=hL.cl;have:=hL.wl;omega)⟩
   have hv:Ze4 (kvR (m+1) was) (.inl ((m+1+i:Nat):Int))=some (.ref was[i]):=by
    rw [Zg3,if_pos (by omega),show (((m+1+i:Nat):Int) - ((m+1:Nat):Int)).toNat=i by omega,Zqn hi]
    rfl
   have hL4:=hL3.same n4.same
   obtain ⟨us',hW4,nw4,nu4⟩:=hL4.way i _ _ (Zqn hi) hws'
   have g4:=Zfl.k (k:=.inl ((m+1+i:Nat):Int)) hL4.at_.ways
   rw [hv] at g4
   refine ⟨x,dx,_,rfl,hL4.at_.ins,rfl,_,_,.inr (.of (n4.same _ _ htp)),rfl,x,a.c_Labels,dx,_,_,rfl,hL4.at_.ins,T.cl_Labels,T.na_Labels_found_ways,rfl,_,_,.inl (.of n4.at_),Znq,fw,_,rfl,g4,?_⟩
   refine ⟨x,dx,ll,fc,fw,sl,was[i],m,N,g,lvs,cas,was,rfl,hL4.at_,hNN.symm,hL.wl,by omega,by omega,hL.nf,fun H5 u5 h5=>?_⟩
   have nsl:¬ S0 sl:=fun z=>by obtain ⟨o,ho⟩:=hL2.dom sl z;rw [fsl sl rfl] at ho;cases ho
   have hsl5:=u5.lst hL4.at_.cuts hL4.at_.ways (n4.same _ _ hsl) (nl nsl)
   have S:=Zk0 sk
   have ev:∀ e∈es,e=2 * (e / 2)/\MZ.Zmo (fun e=>e∈MZ.ZaL cs) (e / 2):=fun e he=>by
    obtain ⟨a1,a2⟩:=(hem e).mp he
    have e2:e=2 * (e / 2):=by
     rcases (by omega:e=2 * (e / 2)\/e=2 * (e / 2)+1) with z | z
     ·exact z
     ·exact absurd (z ▸ a1) a2
    exact ⟨e2,by show 2 * (e / 2)∈MZ.ZaL cs;rw [<- e2];exact a1,a2⟩
   have rB:(es.map fun e:Nat=>e / 2).Pairwise (· < ·):=by
    refine List.pairwise_map.mpr (hes.imp_of_mem fun {a b} ha hb hab=>?_)
    have:=(ev a ha).1
    have:=(ev b hb).1
    omega
   have mB:∀ p,p∈(es.map fun e:Nat=>e / 2) ↔ MZ.Zmo (fun e=>e∈MZ.ZaL cs) p:=fun p=>by
    rw [Zqr]
    constructor
    ·rintro ⟨e,he,rfl⟩
     exact (ev e he).2
    ·intro st
     refine ⟨2 * p,(hem _).mpr ⟨st.1,?_⟩,by omega⟩
     rw [show 2 * p / 2=p by omega]
     exact st.2
   have hlE:∀ k,k<=m+1+i->(lvs ++ [g]).getD k 0=lvs.getD k 0:=fun k hk=>ZaW (by omega)
   have hlo':m+1+i∈Zba (Zbe m P') N:=by rw [hlo];exact hlm
   refine q H5 _ _ _ _ _ ((Zjm (s03.trans n4.same)).trans u5) (LInv.more (Cn:=es.map fun e:Nat=>e / 2) (ws:=wss') hL4 ok u5 h5 hsl5 nsl ⟨us',hW4.un3 u5 hL4.at_.cuts hL4.at_.ways (nl nw4) (fun u hu=>nl (nu4 u hu)),nw4,nu4⟩ ?_ ?_) (by rw [Zqj];rfl)
   ·rw [hNN]
    exact ML.ZmW mz.lt hne (hmono g) (hgl g) (hNk g) told.flow (hgo g) hbd (ZfC told.ris) told.mem hss S rB mB hlo' ((hlE _ (ZrN _)).trans hlg) ((hL.lab i C' hC').ext mz.lt hlE (fun k=>Zff))
   ·rw [hNN]
    exact ((hL.shw i wss' hws').ext mz.lt hlE).up hlo' (by show (lvs ++ [g]).getD N 0=(lvs ++ [g]).getD (m+1+i) 0;rw [hNk,hlE _ (ZrN _),hlg])
noncomputable def ZbP (a:Adr) (K:ZpF):Sp:=fun vs H Q E=>∃ (x dx f fdx pl kl:Addr) (v:V) (m:Nat) (es:List En),vs=[.ref x,.ref f,v]/\H x=some (.ins a.c_Labels dx [])/\FoldAt a.c_Fold H f m es fdx pl kl/\MF.Ok m (Zav es)/\m<=10/\m+1+es.length<=130/\Nice H v /\
 (∀ s:Nat,v=.int s->2<=s->s<=6->∀ H' ll fc fw lvs cas was css wss,(∀ b o,b≠x->H b=some o->H' b=some o)->H ll=none->H fc=none->H fw=none->LInv a.c_Labels (fun b=>b=ll\/∃ o,H b=some o) H' x dx ll fc fw m (Zav es) s lvs cas was css wss->cas.length=es.length->Q .non H')/\(Zf2 v=false->∀ e,H e=none->E (.ref e) (some a.c_NoSize) H)
noncomputable def ZbS (a:Adr) (K:ZpF) (E:XK):TS:=(ZaQ (ZbZ (Zbb (Ze5 a K) [] E (Zaf (Zad 2) Zas)))
  (ZaQ (Znw K (Zad 0) (tOp Znj (Zgr (Zaf (tC (.int 0)) Zas)) (tOp Zd5 (Zfp K (Zad 1) "many") (tC (.int 1)))) "levels")
  (ZaQ (Znw K (Zad 0) Zeq "found_cuts")
  (ZaQ (Znw K (Zad 0) Zeq "found_ways")
  (ZaQ (Zbs (Zbb (ZgC a K) [] E0 (Zaf (Zad 1) Zas)) (Zan 3))
  (ZeN (ZlG (Zaf (tOp Zd5 (Zfp K (Zad 1) "many") (tC (.int 1))) (Zaf (ZbY a.c_Fold "total" (ZaM a K) [] E0 (Zad 1) Zas) Zas))) (Zan 4) (ZbZ (ZbY a.c_Labels "settle" (Zda a K) [] E0 (Zad 0) (Zaf (Zad 3) (Zaf (Zbb (ZkY a K) [] E0 (Zaf (Zad 1) (Zaf (Zad 4) Zas))) (Zaf (Zad 2) Zas)))))))))))
theorem Zen (T:Txt K mg a) {cdv:Value}{A:Around}{outer:List Env}{s:Shared}{H:Hp}{E:XK} (hr:Room 5 (A.deeper (envOfC "Labels.__init__" (Zab Zay) s.heap.objs.size a.f_Labels___init__ cdv))) :
  PSs (Zcd (CX1 P w) P w K mg base ZcQ "Labels.__init__" (Zab Zay) a.f_Labels___init__ cdv A outer s H E) (Zai Zay) (ZbS a K E) :=
 (Zac (Za0 (Zar (Zh9 T) (hr.mono (by decide)) rfl T.mg_need_size T.fn_need_size.kp T.bi_need_size .nil (Zos ZdX) (Zaa (cv 2) Zae)))
   (Zac (ZgF (cv 0) (Zam ZnB (ZbU (Zaa Zag Zae)) (Zam ZbM (ZbE (cv 1) rfl) Zag)) rfl)
   (Zac (ZgF (cv 0) ZdL rfl)
   (Zac (ZgF (cv 0) ZdL rfl)
   (Zac (Zap (i:=3) ZbQ.nd rfl (by walk_at "o") (Zar (Zkh T) (hr.mono (by decide)) rfl T.mg_maze_of T.fn_maze_of.kp T.bi_maze_of .nil ZaR (Zaa (cv 1) Zae)))
   (Zah (PS.nox (ZbW PassesOwn.never rfl (Zh3 rfl T.no_range (Zaa (Zam ZbM (ZbE (cv 1) rfl) Zag) (Zaa (Zb6 (cv 1) T.cl_Fold T.me_Fold_total (ZaV T) (hr.mono (by decide)) T.bi_Fold_total .nil ZaR) Zae))) (ZaE (i:=4) ZbQ.nd rfl (by walk_at "o")) (Zah (Za0 (ZbT (cv 0) T.cl_Labels T.me_Labels_settle (Zft T) (hr.mono (by decide)) T.bi_Labels_settle .nil ZaR (Zaa (cv 3) (Zaa (Zar (Zow T) (hr.mono (by decide)) rfl T.mg_cone T.fn_cone.kp T.bi_cone .nil Zhj (Zaa (cv 1) (Zaa (cv 4) Zae))) (Zaa (cv 2) Zae))))))))))))))
theorem Zew (T:Txt K mg a):FnOk P w K mg base (CX1 P w) 6 a.f_Labels___init__ a.d_Labels___init__ ["self","fold","size"] (ZbP a K):=by
 refine T.fn_Labels___init__.okX ZbQ (fun vs H Q E h=>?_) (fun cdv A outer s H vs Q E hr h=>⟨_,Zen T hr,?_⟩)
 ·obtain ⟨x,dx,f,fdx,pl,kl,v,m,es,rfl,_⟩:=h;rfl
 ·obtain ⟨x,dx,f,fdx,pl,kl,v,m,es,rfl,hx,hf,ok,hm,hn,hv,q1,q0⟩:=h
  show ZbS a K E _ [some (.ref x),some (.ref f),some v,none,none] H
  unfold ZbS
  have big:(20000:Nat)<=sizeLine:=by decide
  have epl:(Zav es).length=es.length:=Zqi ..
  walk_at "gs"
  refine ⟨v,rfl,hv,fun hs=>?_,q0⟩
  obtain ⟨s,rfl,s2,s6⟩:∃ s:Nat,v=.int s/\2<=s/\s<=6:=by
   unfold Zf2 btw at hs
   split at hs
   ·rename_i i
    have:=of_decide_eq_true hs
    exact ⟨i.toNat,by congr 1;omega,by omega,by omega⟩
   ·cases hs
  have q:=q1 s rfl s2 s6
  walk_at "gs"
  intro z1 H1 n1
  have f1:=hf.same n1.same
  refine ⟨f,a.c_Fold,fdx,_,_,rfl,f1.ins,T.cl_Fold,T.na_Fold_many,rfl,?_⟩
  refine ⟨_,n1.at_,by omega,by omega,by show 1 * _<=_;omega,fun ll H2 n2=>?_⟩
  have e2:(Zqk ((m:Int)+1).toNat [V.int 0]).flatten=(Zqk (m+1) 0).map nv:=by
   rw [Zk4,show ((m:Int)+1).toNat=m+1 by omega,List.map_replicate]
   rfl
  rw [e2] at n2
  have s02:=n1.same.trans n2.same
  have fl:H ll=none:=n1.same.nil n2.was
  have x2:=s02 _ _ hx
  have hfx:f≠x:=fun z=>by
   have:=hf.ins
   rw [z,hx] at this
   simp at this
  refine ⟨x,a.c_Labels,dx,[],rfl,x2,T.cl_Labels,T.na_Labels_levels,by decide,fun fc H3 n3=>?_⟩
  have nlx:ll≠x:=(Zaj hx fl).symm
  have ncx:fc≠x:=fun e=>by have:=n3.was;rw [e,Zal] at this;cases this
  have fcn:H fc=none:=by
   have:=n3.was
   rw [Zak ncx] at this
   exact s02.nil this
  have x3:H3 x=some (.ins a.c_Labels dx (Zd3 "levels" (.ref ll) [])):=n3.same _ _ Zal
  have u3:∀ b o,b≠x->H2 b=some o->H3 b=some o:=fun b o nb e=>n3.same _ _ (by rw [Zak nb];exact e)
  refine ⟨x,a.c_Labels,dx,_,rfl,x3,T.cl_Labels,T.na_Labels_found_cuts,by have:=ZbF "levels" (.ref ll) [];simp only [ZqT] at this;omega,?_⟩
  walk_at "gs"
  intro fw H4 n4
  have nwx:fw≠x:=fun e=>by have:=n4.was;rw [e,Zal] at this;cases this
  have fw3:H3 fw=none:=by
   have:=n4.was
   rw [Zak nwx] at this
   exact this
  have fwn:H fw=none:=by
   cases e:H fw with
   | none=>rfl
   | some o=>have:=u3 _ _ nwx (s02 _ _ e);rw [fw3] at this;cases this
  have nf:fc≠fw:=Zaj n3.at_ fw3
  have x4:H4 x=some (.ins a.c_Labels dx (Zd3 "found_cuts" (.ref fc) (Zd3 "levels" (.ref ll) []))):=n4.same _ _ Zal
  have u4:∀ b o,b≠x->H3 b=some o->H4 b=some o:=fun b o nb e=>n4.same _ _ (by rw [Zak nb];exact e)
  refine ⟨x,a.c_Labels,dx,_,rfl,x4,T.cl_Labels,T.na_Labels_found_ways,by have h7:=ZbF "levels" (.ref ll) [];have h8:=ZbF "found_cuts" (.ref fc) (Zd3 "levels" (.ref ll) []);simp only [ZqT] at h7;omega,?_⟩
  have e5:Zd3 "found_ways" (.ref fw) (Zd3 "found_cuts" (.ref fc) (Zd3 "levels" (.ref ll) []))=([("levels",V.ref ll),("found_cuts",V.ref fc),("found_ways",V.ref fw)]:List (Str × V)):=by
   have z1:¬ ("levels" : Str) = "found_cuts":=by decide +kernel
   have z2:¬ ("levels" : Str) = "found_ways":=by decide +kernel
   have z3:¬ ("found_cuts" : Str) = "found_ways":=by decide +kernel
   simp [Zd3,z1,z2,z3]
  rw [e5]
  have x5:upd H4 x (.ins a.c_Labels dx [("levels",V.ref ll),("found_cuts",V.ref fc),("found_ways",V.ref fw)]) x=some (.ins a.c_Labels dx [("levels",V.ref ll),("found_cuts",V.ref fc),("found_ways",V.ref fw)]):=Zal
  have u5:∀ b o,b≠x->H4 b=some o->upd H4 x (.ins a.c_Labels dx [("levels",V.ref ll),("found_cuts",V.ref fc),("found_ways",V.ref fw)]) b=some o:=fun b o nb e=>by rw [Zak nb];exact e
  generalize upd H4 x (.ins a.c_Labels dx [("levels",V.ref ll),("found_cuts",V.ref fc),("found_ways",V.ref fw)])=H5 at x5 u5 ⊢
  have st:∀ b o,b≠x->H b=some o->H5 b=some o:=fun b o nb e=>u5 _ _ nb (u4 _ _ nb (u3 _ _ nb (s02 _ _ e)))
  have hnx:∀ {b:Addr}{o:HO},H b=some o->(∀ d,o≠.ins a.c_Labels d [])->b≠x:=fun {b o} e n z=>by subst z;rw [hx] at e;cases e;exact n _ rfl
  have f5:FoldAt a.c_Fold H5 f m es fdx pl kl:=⟨st _ _ hfx hf.ins,st _ _ (Zbv hf.prs.lst hx (fun z=>nomatch z)) hf.prs.lst,st _ _ (Zbv hf.prs.dct hx (fun z=>nomatch z)) hf.prs.dct,fun e he=>st _ _ (Zbv (hf.prs.tup e he) hx (fun z=>nomatch z)) (hf.prs.tup e he)⟩
  have l5:H5 ll=some (.lst ((Zqk (m+1) 0).map nv)):=u5 _ _ nlx (u4 _ _ nlx (u3 _ _ nlx n2.at_))
  have c5:H5 fc=some (.dK (kvR (m+1) [])):=u5 _ _ ncx (u4 _ _ ncx n3.at_)
  have w5:H5 fw=some (.dK (kvR (m+1) [])):=u5 _ _ nwx n4.at_
  walk_at "gs"
  refine ⟨f,fdx,pl,kl,m,es,rfl,f5,ok,hm,by omega,fun mp rs H6 s6' fm hrs hM=>?_⟩
  have f6:=f5.same s6'
  walk_at "gs"
  refine ⟨f,a.c_Fold,fdx,_,_,rfl,f6.ins,T.cl_Fold,T.na_Fold_many,rfl,?_⟩
  walk_at "gs"
  refine ⟨f,fdx,_,rfl,f6.ins,rfl,f,fdx,pl,kl,m,es,rfl,f6,?_⟩
  walk_at "gs"
  rw [show (1+(m:Int)+(es.length:Int) - ((m:Int)+1)).toNat=es.length by omega]
  have nml:mp≠ll:=(Zaj l5 fm).symm
  have nrl':∀ r∈rs,¬ (r=ll\/∃ o,H r=some o):=fun r hr z=>by
   rcases z with z | ⟨o,ho⟩
   ·exact (Zaj l5 (hrs r hr).1).symm z
   ·by_cases e:r=x
    ·have:=(hrs r hr).1;rw [e,x5] at this;cases this
    ·have:=st r o e ho;rw [(hrs r hr).1] at this;cases this
  have nrl:∀ r∈rs,r≠ll:=fun r hr e=>nrl' r hr (.inl e)
  have hdm:∀ b,(b=ll\/∃ o,H b=some o)->∃ o,H5 b=some o:=fun b hb=>by
   rcases hb with rfl | ⟨o,ho⟩
   ·exact ⟨_,l5⟩
   ·by_cases e:b=x
    ·exact ⟨_,e ▸ x5⟩
    ·exact ⟨_,st b o e ho⟩
  have hL0:LInv a.c_Labels (fun b=>b=ll\/∃ o,H b=some o) H6 x dx ll fc fw m (Zav es) s (Zqk (m+1) 0) [] [] [] [] :=
   ⟨⟨s6' _ _ x5,s6' _ _ l5,s6' _ _ c5,s6' _ _ w5⟩,nf,.inl rfl,fun b hb=>by obtain ⟨o,ho⟩:=hdm b hb;exact ⟨o,s6' _ _ ho⟩,by rw [Zqv];rfl,rfl,rfl,rfl,fun k hk=>by rw [Zqs,Zq7,if_pos (by omega)];rfl,fun i c C hc=>by simp at hc,fun i w ws hw=>by simp at hw,fun i C hC=>by simp at hC,fun i ws hs=>by simp at hs⟩
  refine Zco (fun i σ H7=>Un3 ll fc fw H6 H7/\∃ lvs cas was css wss,∃ v4:Option V,LInv a.c_Labels (fun b=>b=ll\/∃ o,H b=some o) H7 x dx ll fc fw m (Zav es) s lvs cas was css wss/\cas.length=i/\σ=[some (.ref x),some (.ref f),some (.int s),some (.ref mp),v4]) ⟨fun b o _ _ _ e=>e,_,_,_,_,_,_,hL0,rfl,rfl⟩ ?_ ?_
  ·rintro i σ H7 hi ⟨u7,lvs,cas,was,css,wss,v4,hL7,hci,rfl⟩
   have f7:FoldAt a.c_Fold H7 f m es fdx pl kl:=by
    have nn:∀ {b:Addr}{o:HO},H b=some o->(∀ d,o≠.ins a.c_Labels d [])->H7 b=some o:=fun {b o} e n=>u7 _ _ (Zaj e fl) (Zaj e fcn) (Zaj e fwn) (s6' _ _ (st _ _ (hnx e n) e))
    exact ⟨nn hf.ins (fun d z=>by simp at z),nn hf.prs.lst (fun d z=>nomatch z),nn hf.prs.dct (fun d z=>nomatch z),fun e he=>nn (hf.prs.tup e he) (fun d z=>nomatch z)⟩
   have hM7:=hM.un3 u7 (s6' _ _ c5) (s6' _ _ w5) nml nrl
   walk_at "gs"
   refine ⟨x,dx,_,rfl,hL7.at_.ins,rfl,f,fdx,pl,kl,m,_,es,rfl,f7,ok,hm,by omega,fun n hnn hnl ip H8 md=>?_,fun z=>absurd ⟨by omega,by omega⟩ z⟩
   obtain ⟨fi,hi8,s8⟩:=md
   have enn:n=m+1+cas.length:=by omega
   rw [enn] at hi8
   have hL8:=hL7.same s8
   refine ⟨_,x,dx,ll,fc,fw,mp,ip,rs,m,s,Zav es,lvs,cas,was,css,wss,rfl,hL8,by omega,ok,by omega,s2,s6,hM7.same s8,nml,nrl',hi8,fun H9 lvs' cas' was' css' wss' u9 hL9 hc9=>?_⟩
   exact ⟨(u7.trans (Zjm s8)).trans u9,lvs',cas',was',css',wss',_,hL9,by omega,rfl⟩
  ·rintro σ H7 ⟨u7,lvs,cas,was,css,wss,v4,hL7,hci,rfl⟩
   walk_at "gs"
   exact q H7 ll fc fw lvs cas was css wss (fun b o nb e=>u7 _ _ (Zaj e fl) (Zaj e fcn) (Zaj e fwn) (s6' _ _ (st _ _ nb e))) fl fcn fwn hL7 hci
theorem mk_Labels {a:Adr}{K:ZpF}{H:Hp}{f fdx pl kl:Addr}{m s:Nat}{es:List En}{F:Addr->Hp->Prop}{E:XK} (hf:FoldAt a.c_Fold H f m es fdx pl kl) (ok:MF.Ok m (Zav es)) (hm:m<=10) (hn:m+1+es.length<=130) (s2:2<=s) (s6:s<=6)
  (q:∀ x dx ll fc fw H' lvs cas was css wss,ZaZ H H'->H x=none->H ll=none->H fc=none->H fw=none->LInv a.c_Labels (fun b=>b=ll\/∃ o,H b=some o) H' x dx ll fc fw m (Zav es) s lvs cas was css wss->cas.length=es.length->F x H') :
  ∀ x dx,H x=none->H dx=none->dx≠x->ZbP a K [.ref x,.ref f,.int s] (upd (upd H dx (.own x)) x (.ins a.c_Labels dx [])) (fun v H2=>v=.non/\F x H2) E:=by
 intro x dx hx hd hne
 have st0:ZaZ H (upd (upd H dx (.own x)) x (.ins a.c_Labels dx [])):=(Zbd hd).trans (Zbd (by rw [Zak hne.symm];exact hx))
 refine ⟨x,dx,f,fdx,pl,kl,.int s,m,es,rfl,Zal,hf.same st0,ok,hm,hn,trivial,fun s' e _ _ H' ll fc fw lvs cas was css wss st hl hc hw hL hle=>?_,fun z=>?_⟩
 ·have:s'=s:=by have:=V.int.inj e;omega
  subst this
  refine ⟨rfl,q x dx ll fc fw H' lvs cas was css wss (fun b o e=>?_) hx (st0.nil hl) (st0.nil hc) (st0.nil hw) (hL.less (.inl rfl) fun b hb=>hb.imp id fun ⟨o,ho⟩=>⟨o,st0 _ _ ho⟩) hle⟩
  have n1:b≠x:=Zaj e hx
  exact st b o n1 (st0 _ _ e)
 ·unfold Zf2 btw at z
  have:=of_decide_eq_false z
  omega
noncomputable def Zbf (K:ZpF):Sp:=fun vs H Q _=>∃ (p:Addr) (ns:List Int) (k:Nat),vs=[.ref p,.int k]/\SqL K H p (ns.map V.int)/\∀ c,Q (.int c) H
noncomputable def ZcD (K:ZpF):TS:=(ZaQ (Zcv (ZbH (tOp (cI2 fun i j=>.bl (decide (i<j))) (Zad 1) (tCB (ZiC K) (Zaf (Zad 0) Zas)))) (Zck (tOp (cIx K) (Zad 0) (Zad 1))) Zbt)
  (Zck (tC (.int 0))))
theorem Zgu (T:Txt K mg a) {cdv:Value}{A:Around}{outer:List Env}{s:Shared}{H:Hp}{E:XK} (hr:Room 0 (A.deeper (envOfC "_law_cell_at" (Zab ZaT) s.heap.objs.size a.f_law_cell_at cdv))) :
  PSs (Zcd CX0 P w K mg base ZeL "_law_cell_at" (Zab ZaT) a.f_law_cell_at cdv A outer s H E).nox (Zai ZaT) (ZcD K) :=
 (Zac (Zbn (ZaX Zlk (cv 1) (Zaz ZeF (by rfl) T.no_len PySem.boot_len (Zaa (cv 0) Zae)) (Zau _)) (Zah (ZaB (ZaG ZaH (cv 0) (cv 1) (fun _ _=>rfl)))) ZaA)
   (Zah (ZaB Zag)))
theorem ZbA (T:Txt K mg a):FnOk P w K mg base CX0 1 a.f_law_cell_at a.d_law_cell_at ["_law_script","_law_k"] (Zbf K):=by
 refine T.fn_law_cell_at.ok Zgx (fun vs H Q E h=>?_) (fun cdv A outer s H vs Q E hr h=>⟨_,Zgu T hr,?_⟩)
 ·obtain ⟨p,ns,k,rfl,_⟩:=h;rfl
 ·obtain ⟨p,ns,k,rfl,hS,q⟩:=h
  show ZcD K _ [some (.ref p),some (.int k)] H
  unfold ZcD
  walk_at "go"
  refine .inl ⟨_,.inl hS,?_⟩
  rw [Zqi]
  by_cases h:(k:Int)<ns.length
  ·rw [if_pos h]
   exact ixI hS (by omega) h (q _)
  ·rw [if_neg h]
   exact q 0
noncomputable def ZhI (m:Nat) (ps:List MF.Pr):Prop:=∀ (i:Nat) (q:MF.Pr),ps[i]? = some q->0<=q.1/\q.1<2 * ((m:Int)+1+i)/\0<=q.2/\q.2<2 * ((m:Int)+1+i)
theorem ZhI.snoc {m:Nat}{ps:List MF.Pr} (h:ZhI m ps) {q:MF.Pr} (hq:0<=q.1/\q.1<2 * ((m:Int)+1+ps.length)/\0<=q.2/\q.2<2 * ((m:Int)+1+ps.length)):ZhI m (ps ++ [q]):=fun i p hp=>by
 rcases Zcn hp with z | ⟨rfl,rfl⟩
 ·exact h i p z
 ·exact hq
noncomputable def Ze7 (_:ZpF):Sp:=fun vs H Q _=>∃ (cp:Addr) (m:Nat) (ns:List Int),vs=[.int m,.ref cp]/\H cp=some (.lst (ns.map V.int))/\1<=m/\m<=10/\ns.length<=110 /\
 ∀ pp es H',ZaZ H H'->H pp=none->PL H' pp es->es.length=ns.length->ZhI m (Zav es)->Q (.ref pp) H'
noncomputable def Zds (K:ZpF):TS:=(ZaQ (Zbs (Zgr Zas) (Zan 2))
  (ZaQ (Zbs (tC (.int 1)) (Zan 3))
  (ZaQ (Zbs (Zad 0) (Zan 4))
  (ZaQ (ZeN (ZdV (Zaf (tCB (ZiC K) (Zaf (Zad 1) Zas)) Zas)) (Zan 5) (ZaQ (Zbs (tOp Zd5 (Zad 0) (Zad 5)) (Zan 6))
  (ZaQ (Zbs (tOp (ZbL ZdR fun i j=>.int (i / j)) (tOp (cIx K) (Zad 1) (Zad 5)) (tC (.int 20))) (Zan 7))
  (ZiN (Zcv (ZbH (tOp (cI2 fun i j=>.bl (decide (i<j))) (tOp (ZbL (fun _ j=>0<j) fun i j=>.int (i % j)) (tOp (cIx K) (Zad 1) (Zad 5)) (tC (.int 5))) (tC (.int 2)))) (ZaQ (Zbs (tOp (cI2 fun i j=>.int (i - j)) (Zad 6) (tOp (ZbL (fun _ j=>0<j) fun i j=>.int (i % j)) (Zad 7) (tCB cMin (Zaf (Zad 6) (Zaf (tC (.int 3)) Zas))))) (Zan 3))
  (Zbs (tOp Zd5 (tC (.int 1)) (tOp (ZbL (fun _ j=>0<j) fun i j=>.int (i % j)) (tOp Zd5 (tOp (ZbL ZdR fun i j=>.int (i / j)) (Zad 7) (tC (.int 3))) (tOp ZgW (tC (.int 2)) (Zad 5))) (Zad 0))) (Zan 4))) (Zcv (ZbH (tOp (cEq K) (tOp (ZbL (fun _ j=>0<j) fun i j=>.int (i % j)) (tOp (cIx K) (Zad 1) (Zad 5)) (tC (.int 5))) (tC (.int 2)))) (ZaQ (Zbs (tOp (cI2 fun i j=>.int (i - j)) (Zad 6) (tOp (ZbL (fun _ j=>0<j) fun i j=>.int (i % j)) (Zad 7) (tCB cMin (Zaf (Zad 6) (Zaf (tC (.int 8)) Zas))))) (Zan 3))
  (Zbs (tOp Zd5 (tC (.int 1)) (tOp (ZbL (fun _ j=>0<j) fun i j=>.int (i % j)) (tOp Zd5 (tOp (ZbL ZdR fun i j=>.int (i / j)) (Zad 7) (tC (.int 8))) (tOp ZgW (tC (.int 3)) (Zad 5))) (Zad 6))) (Zan 4))) (Zcv (ZbH (tOp (cEq K) (tOp (ZbL (fun _ j=>0<j) fun i j=>.int (i % j)) (tOp (cIx K) (Zad 1) (Zad 5)) (tC (.int 5))) (tC (.int 4)))) (ZaQ (Zbs (Zad 6) (Zan 3))
  (Zbs (tOp (cI2 fun i j=>.int (i - j)) (Zad 6) (tC (.int 1))) (Zan 4))) Zbt)))
  (ZbZ (tBM K "list" ZbI (Zad 2) (Zaf (Zju (Zaf (tOp Zd5 (tOp ZgW (tC (.int 2)) (Zad 3)) (tOp (ZbL (fun _ j=>0<j) fun i j=>.int (i % j)) (tOp (ZbL ZdR fun i j=>.int (i / j)) (tOp (cIx K) (Zad 1) (Zad 5)) (tC (.int 5))) (tC (.int 2)))) (Zaf (tOp Zd5 (tOp ZgW (tC (.int 2)) (Zad 4)) (tOp (ZbL (fun _ j=>0<j) fun i j=>.int (i % j)) (tOp (ZbL ZdR fun i j=>.int (i / j)) (tOp (cIx K) (Zad 1) (Zad 5)) (tC (.int 10))) (tC (.int 2)))) Zas))) Zas)))))))
  (Zck (Zad 2))))))
theorem ZhR (T:Txt K mg a) {cdv:Value}{A:Around}{outer:List Env}{s:Shared}{H:Hp}{E:XK} (hr:Room 0 (A.deeper (envOfC "_law_pairs" (Zab Zbj) s.heap.objs.size a.f_law_pairs cdv))) :
  PSs (Zcd CX0 P w K mg base Zgn "_law_pairs" (Zab Zbj) a.f_law_pairs cdv A outer s H E).nox (Zai Zbj) (Zds K) :=
 (Zac (Zap (i:=2) ZaF.nd rfl (by walk_at "o") (ZbU Zae))
   (Zac (Zap (i:=3) ZaF.nd rfl (by walk_at "o") Zag)
   (Zac (Zap (i:=4) ZaF.nd rfl (by walk_at "o") (cv 0))
   (Zac (ZbW PassesOwn.never rfl (ZbD rfl T.no_range (Zaa (Zaz ZeF (by rfl) T.no_len PySem.boot_len (Zaa (cv 1) Zae)) Zae)) (ZaE (i:=5) ZaF.nd rfl (by walk_at "o")) (Zac (Zap (i:=6) ZaF.nd rfl (by walk_at "o") (Zam ZbM (cv 0) (cv 5)))
   (Zac (Zap (i:=7) ZaF.nd rfl (by walk_at "o") (Zam Za5 (ZaG ZaH (cv 1) (cv 5) (fun _ _=>rfl)) Zag))
   (Zci (Zbn (ZaX Zlk (Zam Zcb (ZaG ZaH (cv 1) (cv 5) (fun _ _=>rfl)) Zag) Zag (Zau _)) (Zac (Zap (i:=3) ZaF.nd rfl (by walk_at "o") (Zam Zhn (cv 6) (Zam Zcb (cv 7) (Zaz (Znh rfl) (by rfl) T.no_min PyProof.Rows.boot_min (Zaa (cv 6) (Zaa Zag Zae))))))
   (Zah (Zap (i:=4) ZaF.nd rfl (by walk_at "o") (Zam ZbM Zag (Zam Zcb (Zam ZbM (Zam Za5 (cv 7) Zag) (Zam ZdB Zag (cv 5))) (cv 0)))))) (Zah (Zbn (ZaX (Zfw (hr8 hr)) (Zam Zcb (ZaG ZaH (cv 1) (cv 5) (fun _ _=>rfl)) Zag) Zag (Zau _)) (Zac (Zap (i:=3) ZaF.nd rfl (by walk_at "o") (Zam Zhn (cv 6) (Zam Zcb (cv 7) (Zaz (Znh rfl) (by rfl) T.no_min PyProof.Rows.boot_min (Zaa (cv 6) (Zaa Zag Zae))))))
   (Zah (Zap (i:=4) ZaF.nd rfl (by walk_at "o") (Zam ZbM Zag (Zam Zcb (Zam ZbM (Zam Za5 (cv 7) Zag) (Zam ZdB Zag (cv 5))) (cv 6)))))) (Zah (Zbn (ZaX (Zfw (hr8 hr)) (Zam Zcb (ZaG ZaH (cv 1) (cv 5) (fun _ _=>rfl)) Zag) Zag (Zau _)) (Zac (Zap (i:=3) ZaF.nd rfl (by walk_at "o") (cv 6))
   (Zah (Zap (i:=4) ZaF.nd rfl (by walk_at "o") (Zam Zhn (cv 6) Zag)))) ZaA)))))
   (Zah (Za0 (Zeg Zqa Zqb Zqc (mtr Za9) (cv 2) (Zaa (Zdx (Zaa (Zam ZbM (Zam ZdB Zag (cv 3)) (Zam Zcb (Zam Za5 (ZaG ZaH (cv 1) (cv 5) (fun _ _=>rfl)) Zag) Zag)) (Zaa (Zam ZbM (Zam ZdB Zag (cv 4)) (Zam Zcb (Zam Za5 (ZaG ZaH (cv 1) (cv 5) (fun _ _=>rfl)) Zag) Zag)) Zae))) Zae))))))))
   (Zah (ZaB (cv 2)))))))
theorem Zib (T:Txt K mg a):FnOk P w K mg base CX0 1 a.f_law_pairs a.d_law_pairs ["_law_many","_law_cells"] (Ze7 K):=by
 refine T.fn_law_pairs.ok ZaF (fun vs H Q E h=>?_) (fun cdv A outer s H vs Q E hr h=>⟨_,ZhR T hr,?_⟩)
 ·obtain ⟨cp,m,ns,rfl,_⟩:=h;rfl
 ·obtain ⟨cp,m,ns,rfl,hS,m1,m10,hn,q⟩:=h
  show Zds K _ [some (.int m),some (.ref cp),none,none,none,none,none,none] H
  unfold Zds
  have big:(20000:Nat)<=sizeLine:=by decide
  walk_at "gs"
  intro pp H1 n1
  walk_at "gs"
  refine .inl ⟨_,.inl (.of (n1.same _ _ hS)),?_⟩
  rw [Zqi]
  walk_at "gs"
  rw [Zr6]
  refine Zco (fun i σ H2=>ZaZ H H2/\∃ (es:List En) (l r:Int) (v5 v6 v7:Option V),PL H2 pp es/\es.length=i/\ZhI m (Zav es)/\0<=l/\l<=m+i/\0<=r/\r<=m+i/\σ=[some (.int m),some (.ref cp),some (.ref pp),some (.int l),some (.int r),v5,v6,v7]) ⟨n1.same,[],_,_,_,_,_,⟨n1.at_,fun e he=>by simp at he⟩,rfl,fun i q hq=>by simp [Zav] at hq,by omega,by omega,by omega,by omega,rfl⟩ ?_ ?_
  ·rintro i σ H2 hi ⟨s2,es,l,r,v5,v6,v7,hP,hle,hT,l0,l1,r0,r1,rfl⟩
   have hS2:=s2 _ _ hS
   obtain ⟨c,hc⟩:∃ c:Int,atI (ns.map V.int) (0+(i:Int))=some (.int c):=by
    refine ⟨ns[i],?_⟩
    rw [Zde .non (by omega) (by rw [Zqi];omega),show (0+(i:Int)).toNat=i by omega,Zqs,Zqy,Zqn hi]
    rfl
   have hc5:=Zr9 c (show (5:Int)≠0 by decide)
   walk_at "gs"
   refine ⟨_,_,.inl (.of hS2),hc,?_⟩
   walk_at "gs"
   refine mid (fun σ' H'=>H'=H2/\∃ l' r':Int,0<=l'/\l'<=m+i/\0<=r'/\r'<=m+i/\σ'=[some (.int m),some (.ref cp),some (.ref pp),some (.int l'),some (.int r'),some (.int (0+(i:Int))),some (.int ((m:Int)+(0+(i:Int)))),some (.int (c / 20))]) ?_ ?_
   ·intro N hN
    walk_at "gs"
    refine ⟨_,_,.inl (.of hS2),hc,?_⟩
    walk_at "gs"
    by_cases c1:c % 5<2
    ·rw [if_pos c1]
     have gm:1<=(if 3<(m:Int)+(0+(i:Int)) then 3 else (m:Int)+(0+(i:Int)))/\(if 3<(m:Int)+(0+(i:Int)) then 3 else (m:Int)+(0+(i:Int)))<=(m:Int)+i:=by split <;> omega
     generalize (if 3<(m:Int)+(0+(i:Int)) then 3 else (m:Int)+(0+(i:Int)))=G at gm ⊢
     have x1:=Zr9 (c / 20) (show G≠0 by omega)
     have x2:=Zsb (c / 20) (show 0<G by omega)
     have y1:=Zr9 (c / 20 / 3+2 * (0+(i:Int))) (show (m:Int)≠0 by omega)
     have y2:=Zsb (c / 20 / 3+2 * (0+(i:Int))) (show 0<(m:Int) by omega)
     walk_at "gs"
     exact hN _ _ ⟨rfl,_,_,by omega,by omega,by omega,by omega,rfl⟩
    ·rw [if_neg c1]
     refine ⟨_,_,.inl (.of hS2),hc,?_⟩
     walk_at "gs"
     by_cases c2:c % 5=2
     ·rw [if_pos c2]
      have gm:1<=(if 8<(m:Int)+(0+(i:Int)) then 8 else (m:Int)+(0+(i:Int)))/\(if 8<(m:Int)+(0+(i:Int)) then 8 else (m:Int)+(0+(i:Int)))<=(m:Int)+i:=by split <;> omega
      generalize (if 8<(m:Int)+(0+(i:Int)) then 8 else (m:Int)+(0+(i:Int)))=G at gm ⊢
      have x1:=Zr9 (c / 20) (show G≠0 by omega)
      have x2:=Zsb (c / 20) (show 0<G by omega)
      have y1:=Zr9 (c / 20 / 8+3 * (0+(i:Int))) (show (m:Int)+(0+(i:Int))≠0 by omega)
      have y2:=Zsb (c / 20 / 8+3 * (0+(i:Int))) (show 0<(m:Int)+(0+(i:Int)) by omega)
      walk_at "gs"
      exact hN _ _ ⟨rfl,_,_,by omega,by omega,by omega,by omega,rfl⟩
     ·rw [if_neg c2]
      refine ⟨_,_,.inl (.of hS2),hc,?_⟩
      walk_at "gs"
      by_cases c3:c % 5=4
      ·rw [if_pos c3]
       exact hN _ _ ⟨rfl,_,_,by omega,by omega,by omega,by omega,rfl⟩
      ·rw [if_neg c3]
       exact hN _ _ ⟨rfl,l,r,l0,l1,r0,r1,rfl⟩
   rintro σ3 H3 ⟨rfl,l',r',g0,g1,g2,g3,rfl⟩
   walk_at "gs"
   refine ⟨.inl ⟨by trivial,_,.of hP.lst⟩,?_⟩
   walk_at "gs"
   refine ⟨_,_,.inl (.of hS2),hc,?_⟩
   walk_at "gs"
   refine ⟨_,_,.inl (.of hS2),hc,?_⟩
   walk_at "gs"
   refine ⟨by show 2<=sizeLine;decide,fun tp H4 n4=>?_⟩
   have hP4:=hP.same n4.same
   refine ⟨pp,_,_,rfl,rfl,hP4.lst,by rw [Zqi];omega,(s2.trans n4.same).put n1.was,es ++ [(tp,(_,_))],_,_,_,_,_,hP4.put n4.at_,by rw [Zqj,Zqx];omega,?_,by omega,by omega,by omega,by omega,rfl⟩
   have e:Zav (es ++ [(tp,(2 * l'+c / 5 % 2,2 * r'+c / 10 % 2))])=Zav es ++ [(2 * l'+c / 5 % 2,2 * r'+c / 10 % 2)]:=Zqo
   rw [e]
   refine hT.snoc ⟨?_,?_,?_,?_⟩ <;> (try rw [Zqi]) <;> show _ <;> omega
  ·rintro σ H2 ⟨s2,es,l,r,v5,v6,v7,hP,hle,hT,l0,l1,r0,r1,rfl⟩
   walk_at "gs"
   exact q pp es H2 s2 n1.was hP hle hT
theorem ZhL {t:Int} (h:0<=t) (j:Int) (h0:0<=j) (h1:j<=1):Builtin.bitXor t j=t\/Builtin.bitXor t j=MF.tn t:=by
 have:j=0\/j=1:=by omega
 rcases this with rfl | rfl
 ·left
  obtain ⟨x,rfl⟩:=Zr7 h
  have:=Zg2 x 0
  rw [show ((0:Nat):Int)=0 from rfl] at this
  rw [this,Nat.xor_zero]
 ·right;exact ZiD h
theorem ZjZ {l h:Int} (hl:0<=l) (hh:0<=h):Builtin.bitXor l h=1 ↔ l=MF.tn h:=by
 rw [<- ZiD hh]
 obtain ⟨x,rfl⟩:=Zr7 hl
 obtain ⟨y,rfl⟩:=Zr7 hh
 have e1:=Zg2 x y
 have e2:=Zg2 y 1
 rw [show ((1:Nat):Int)=1 from rfl] at e2
 rw [e1,e2]
 constructor
 ·intro h
  have h:x ^^^ y=1:=by omega
  rw [<- h,Nat.xor_comm x y,<- Nat.xor_assoc,Nat.xor_self,Nat.zero_xor]
 ·intro h
  have h:x=y ^^^ 1:=by omega
  rw [h,Nat.xor_comm (y ^^^ 1) y,<- Nat.xor_assoc,Nat.xor_self,Nat.zero_xor]
  rfl
theorem Zio:∀ {n:Int}{ps:List MF.Pr}{q:MF.Pr}{i:Int},MF.fnd n ps q=some i->∃ j:Nat,i=n+j/\ps[j]? = some q/\∀ a,a<j->ps[a]? ≠ some q
 | n,[],q,i,h=>by simp [MF.fnd] at h
 | n,p :: r,q,i,h=>by
  unfold MF.fnd at h
  by_cases e:p=q
  ·rw [if_pos e] at h
   cases h
   exact ⟨0,by omega,by rw [e];rfl,fun a ha=>absurd ha (Zr4 _)⟩
  ·rw [if_neg e] at h
   obtain ⟨j,h1,h2,h3⟩:=Zio h
   refine ⟨j+1,by omega,h2,fun a ha=>?_⟩
   cases a with
   | zero=>intro z;exact e (by simpa using z)
   | succ a=>exact h3 a (by omega)
theorem Zlr {n:Int}{ps:List MF.Pr}{q:MF.Pr}:q∈ps ↔ (MF.fnd n ps q).isSome=true:=by
 cases h:MF.fnd n ps q with
 | none=>simp [MF.Zhy h]
 | some i =>
  obtain ⟨_,_,h3⟩:=MF.Zhw h
  simp [Zqw h3]
theorem fnd_kp {m:Int}{ps:List MF.Pr}{p:MF.Pr}:MF.fnd (m+1) (MF.kp m ps p) p=some (MF.kn m ps p):=by
 unfold MF.kp MF.kn
 cases h:MF.fnd (m+1) ps p with
 | some i=>simp [h]
 | none=>simp [MF.Zhx h]
theorem Znr {H H' H1:Hp}{pl kl:Addr} (s:ZaZ H H') (u:Un2 pl kl H' H1) (hp:H pl=none) (hk:H kl=none):ZaZ H H1:=fun b o e=>u b o (Zaj e hp) (Zaj e hk) (s b o e)
noncomputable def ZfL (a:Adr) (_:ZpF):Sp:=fun vs H Q _=>∃ (cp:Addr) (m:Nat) (ep:List En),vs=[.int m,.ref cp]/\PL H cp ep/\ZhI m (Zav ep)/\1<=m/\m<=10/\ep.length<=110 /\
 ∀ tp f dx pl kl kn es es2 H',ZaZ H H'->H' tp=some (.tup [.ref f,.ref kn])->FoldAt a.c_Fold H' f m es dx pl kl->H f=none->H pl=none->H kl=none->H kn=none->PN H' kn (m+1) es2->Zav es2=Zav es->MF.Ok m (Zav es)->es.length<=ep.length->kn≠pl->Q (.ref tp) H'
noncomputable def Zed (a:Adr) (K:ZpF):TS:=(ZaQ (Zbs (Zmu a.c_Fold (Zce a K) [] E0 (Zaf (Zad 0) Zas)) (Zan 2))
  (ZaQ (Zbs (ZcU (ZdV (Zaf (tOp Zd5 (Zad 0) (tC (.int 1))) Zas)) 1 [] (Zan 0) Zeo (tC .non)) (Zan 3))
  (ZaQ (Zbs (ZcU (ZdV (Zaf (tOp Zd5 (Zad 0) (tC (.int 1))) Zas)) 1 [] (Zan 0) Zeo (tOp ZgW (tC (.int 2)) (Zad 0))) (Zan 4))
  (ZaQ (ZeN (Zdg K (Zad 1)) (gTup K 2 (Zkp (Zan 5) (Zkp (Zan 6) gNil))) (ZaQ (Zbs (tOp (cI2 fun i j=>.int (Builtin.bitXor i j)) (tOp (cIx K) (Zad 4) (tOp (ZbL ZdR fun i j=>.int (i / j)) (Zad 5) (tC (.int 2)))) (tOp (ZbL (fun _ j=>0<j) fun i j=>.int (i % j)) (Zad 5) (tC (.int 2)))) (Zan 7))
  (ZaQ (Zbs (tOp (cI2 fun i j=>.int (Builtin.bitXor i j)) (tOp (cIx K) (Zad 4) (tOp (ZbL ZdR fun i j=>.int (i / j)) (Zad 6) (tC (.int 2)))) (tOp (ZbL (fun _ j=>0<j) fun i j=>.int (i % j)) (Zad 6) (tC (.int 2)))) (Zan 8))
  (ZaQ (Zbs (tCB cMin (Zaf (Zad 7) (Zaf (Zad 8) Zas))) (Zan 9))
  (ZaQ (Zbs (tCB cMax (Zaf (Zad 7) (Zaf (Zad 8) Zas))) (Zan 10))
  (ZaQ (Zbs (Zad 9) (Zan 11))
  (ZiN (Zcv (ZbH (tOp (cEq K) (tOp (cI2 fun i j=>.int (Builtin.bitXor i j)) (Zad 9) (Zad 10)) (tC (.int 1)))) (Zbs (tC (.int 0)) (Zan 11)) (Zcv (ZbH (tOp (cEq K) (Zad 9) (tC (.int 1)))) (Zbs (Zad 10) (Zan 11)) (Zcv (Znt (ZbH (tOp (cI2 fun i j=>.bl (decide (j<i))) (Zad 9) (tC (.int 1)))) (ZbH (tOp (cNe K) (Zad 9) (Zad 10)))) (ZiN (Zcv (ZbH (tOp (cInN K true) (Zju (Zaf (Zad 9) (Zaf (Zad 10) Zas))) (Zad 3))) (ZbZ (tBM K "list" ZbI (Zad 3) (Zaf (Zju (Zaf (Zad 9) (Zaf (Zad 10) Zas))) Zas))) Zbt)
  (Zbs (tOp ZgW (tC (.int 2)) (tBM K "list" ZiU (Zad 3) (Zaf (Zju (Zaf (Zad 9) (Zaf (Zad 10) Zas))) Zas))) (Zan 11))) Zbt)))
  (ZaQ (ZbZ (tBM K "list" ZbI (Zad 4) (Zaf (Zad 11) Zas)))
  (ZbZ (ZbY a.c_Fold "both" (Ze9 a K) [] E0 (Zad 2) (Zaf (Zad 7) (Zaf (Zad 8) Zas))))))))))))
  (Zck (Zju (Zaf (Zad 2) (Zaf (Zad 3) Zas))))))))
theorem ZiK (T:Txt K mg a) {cdv:Value}{A:Around}{outer:List Env}{s:Shared}{H:Hp}{E:XK} (hr:Room 3 (A.deeper (envOfC "_law_fold" (Zab Zbc) s.heap.objs.size a.f_law_fold cdv))) :
  PSs (Zcd CX0 P w K mg base ZdP "_law_fold" (Zab Zbc) a.f_law_fold cdv A outer s H E).nox (Zai Zbc) (Zed a K) :=
 (Zac (Zap (i:=2) ZaN.nd rfl (by walk_at "o") (Zle T.mk_Fold (Zfv T) (hr.mono (by decide)) rfl T.mg_Fold T.bi_Fold___init__ .nil ZaR (Zaa (cv 0) Zae)))
   (Zac (ZeX (i:=3) (N:=["_law_k"]) (k:=1) (sel:=[]) (CScope.of (Zab Zbc).names (by decide +kernel)) (CNames.of ZdP (by decide +kernel)) rfl (ZbD rfl T.no_range (Zaa (Zam ZbM (cv 0) Zag) Zae)) (fun _ _ _ _=>(ZaE (i:=0) (show ZqO (["_law_k"]:List Str) by decide +kernel) rfl (by walk_at "o"))) (fun _ _ _ _=>ZeW) (fun _ _ _ _=>Zb9) ZaN.nd rfl (by walk_at "o") rfl)
   (Zac (ZeX (i:=4) (N:=["_law_k"]) (k:=1) (sel:=[]) (CScope.of (Zab Zbc).names (by decide +kernel)) (CNames.of ZdP (by decide +kernel)) rfl (ZbD rfl T.no_range (Zaa (Zam ZbM (cv 0) Zag) Zae)) (fun _ _ _ _=>(ZaE (i:=0) (show ZqO (["_law_k"]:List Str) by decide +kernel) rfl (by walk_at "o"))) (fun _ _ _ _=>ZeW) (fun _ _ _ _=>(Zam ZdB Zag (cv 0))) ZaN.nd rfl (by walk_at "o") rfl)
   (Zac (ZbW PassesOwn.never rfl (Zb0 (cv 1)) (Zny rfl (ZfB (ZaE (i:=5) ZaN.nd rfl (by walk_at "o")) (ZfB (ZaE (i:=6) ZaN.nd rfl (by walk_at "o")) Zlc))) (Zac (Zap (i:=7) ZaN.nd rfl (by walk_at "o") (Zam ZmM (ZaG ZaH (cv 4) (Zam Za5 (cv 5) Zag) (fun _ _=>rfl)) (Zam Zcb (cv 5) Zag)))
   (Zac (Zap (i:=8) ZaN.nd rfl (by walk_at "o") (Zam ZmM (ZaG ZaH (cv 4) (Zam Za5 (cv 6) Zag) (fun _ _=>rfl)) (Zam Zcb (cv 6) Zag)))
   (Zac (Zap (i:=9) ZaN.nd rfl (by walk_at "o") (Zaz (Znh rfl) (by rfl) T.no_min PyProof.Rows.boot_min (Zaa (cv 7) (Zaa (cv 8) Zae))))
   (Zac (Zap (i:=10) ZaN.nd rfl (by walk_at "o") (Zaz (Zpm rfl) (by rfl) T.no_max PyProof.Rows.boot_max (Zaa (cv 7) (Zaa (cv 8) Zae))))
   (Zac (Zap (i:=11) ZaN.nd rfl (by walk_at "o") (cv 9))
   (Zci (Zbn (ZaX (Zfw (hr8 hr)) (Zam ZmM (cv 9) (cv 10)) Zag (Zau _)) (Zah (Zap (i:=11) ZaN.nd rfl (by walk_at "o") Zag)) (Zah (Zbn (ZaX (Zfw (hr8 hr)) (cv 9) Zag (Zau _)) (Zah (Zap (i:=11) ZaN.nd rfl (by walk_at "o") (cv 10))) (Zah (Zbn (PW.pt (ZgE (ZaX o_gt (cv 9) Zag (Zau _)) (ZeV (ZaX (o_ne (hr8 hr)) (cv 9) (cv 10) (Zau _))))) (Zci (Zbn (ZaX (ZmN (hr8 hr)) (Zdx (Zaa (cv 9) (Zaa (cv 10) Zae))) (cv 3) (by with_unfolding_all rfl)) (Zah (Za0 (Zeg Zqa Zqb Zqc (mtr Za9) (cv 3) (Zaa (Zdx (Zaa (cv 9) (Zaa (cv 10) Zae))) Zae)))) ZaA)
   (Zah (Zap (i:=11) ZaN.nd rfl (by walk_at "o") (Zam ZdB Zag (Zeg Zqa Zqf PySem.F.type_list_index (Zlp (hr8 hr)) (cv 3) (Zaa (Zdx (Zaa (cv 9) (Zaa (cv 10) Zae))) Zae)))))) ZaA)))))
   (Zac (Za0 (Zeg Zqa Zqb Zqc (mtr Za9) (cv 4) (Zaa (cv 11) Zae)))
   (Zah (Za0 (ZbT (cv 2) T.cl_Fold T.me_Fold_both (Zid T) (hr.mono (by decide)) T.bi_Fold_both .nil Zhj (Zaa (cv 7) (Zaa (cv 8) Zae)))))))))))))
   (Zah (ZaB (Zdx (Zaa (cv 2) (Zaa (cv 3) Zae)))))))))
theorem ZiZ (T:Txt K mg a):FnOk P w K mg base CX0 4 a.f_law_fold a.d_law_fold ["_law_many","_law_pairs_here"] (ZfL a K):=by
 refine T.fn_law_fold.ok ZaN (fun vs H Q E h=>?_) (fun cdv A outer s H vs Q E hr h=>⟨_,ZiK T hr,?_⟩)
 ·obtain ⟨cp,m,ep,rfl,_⟩:=h;rfl
 ·obtain ⟨cp,m,ep,rfl,hS,hT,m1,m10,hn,q⟩:=h
  show Zed a K _ [some (.int m),some (.ref cp),none,none,none,none,none,none,none,none,none,none] H
  unfold Zed
  have big:(20000:Nat)<=sizeLine:=by decide
  walk_at "gs"
  refine mk_Fold fun f dx pl kl H1 s1 ff fp fk f1=>?_
  walk_at "gs"
  rw [show ((m:Int)+1).toNat=m+1 by omega]
  refine Zgf (lo:=0) (fun _=>.non) rfl (by omega) (fun i H' Q' hi s' q'=>?_) (fun kn H2 n2=>?_)
  ·walk_at "gs"
   exact q'
  have e2:((Zqq (m+1)).map fun i:Nat=>(fun _:Int=>V.non) (0+(i:Nat)))=Zqk (m+1) V.non ++ ([]:List En).map fun e=>V.ref e.1:=by
   rw [ZqZ,ZqX]
   exact List.map_const' .. ▸ by rw [Zq3]
  rw [e2] at n2
  walk_at "gs"
  refine Zgf (lo:=0) (fun k=>.int (2 * k)) rfl (by omega) (fun i H' Q' hi s' q'=>?_) (fun tl H3 n3=>?_)
  ·walk_at "gs"
   exact q'
  have e3:((Zqq (m+1)).map fun i:Nat=>(fun k:Int=>V.int (2 * k)) (0+(i:Nat)))=((Zqq (m+1)).map fun i:Nat=>2 * (i:Int)).map V.int:=by
   rw [Zqz]
   refine Zq6 fun i _=>?_
   show V.int (2 * (0+(i:Int)))=V.int (2 * (i:Int))
   rw [Int.zero_add]
  rw [e3] at n3
  have s03:=(s1.trans n2.same).trans n3.same
  walk_at "gs"
  have s4:ZaZ H3 H3:=ZaZ.refl _
  have s04:=s03.trans s4
  have hPP:=hS.same s03
  have hpl:ep.length=ep.length:=rfl
  have f4:=((f1.same n2.same).same n3.same).same s4
  have fkn:H kn=none:=s1.nil n2.was
  have ftl:H tl=none:=(s1.trans n2.same).nil n3.was
  have nkp:kn≠pl:=(Zaj f1.prs.lst n2.was).symm
  have ntp:tl≠pl:=(Zaj (n2.same _ _ f1.prs.lst) n3.was).symm
  have ntk:tl≠kn:=(Zaj n2.at_ n3.was).symm
  have npp:cp≠pl:=Zaj hS.lst fp
  have npk:cp≠kn:=Zaj hS.lst fkn
  have npt:cp≠tl:=Zaj hS.lst ftl
  refine ⟨⟨_,.of hPP.lst⟩,ZcN (xs:=ep.map fun e=>V.ref e.1) (fun i σ H5=>ZaZ H H5/\PL H5 cp ep/\∃ (es es2:List En) (ts:List Int) (w5 w6 w7 w8 w9 w10 w11:Option V),FoldAt a.c_Fold H5 f m es dx pl kl/\PN H5 kn (m+1) es2/\Zav es2=Zav es/\MF.Ok m (Zav es)/\es.length<=i/\H5 tl=some (.lst (ts.map V.int))/\ts.length=m+1+i/\(∀ t∈ts,MF.InT m (Zav es) t)/\σ=[some (.int m),some (.ref cp),some (.ref f),some (.ref kn),some (.ref tl),w5,w6,w7,w8,w9,w10,w11])
   ⟨s04,hPP,[],[],_,_,_,_,_,_,_,_,f4,⟨s4 _ _ (n3.same _ _ n2.at_),fun e he=>by simp at he⟩,rfl,fun i p hp=>by simp [Zav] at hp,ZrN _,s4 _ _ n3.at_,by rw [Zqi,Zq3],fun t ht=>?_,rfl⟩ ?_ ?_ ?_⟩
  ·obtain ⟨k,hk,rfl⟩:=Zqr.mp ht
   rw [Zrh] at hk
   exact ⟨by omega,by show _<2 * ((m:Int)+1+(([]:List MF.Pr).length:Int));rw [ZqT];omega⟩
  ·rintro i σ H5 _ ⟨_,hp5,_⟩
   exact .of hp5.lst
  ·rintro i v σ H5 hv ⟨s5,hp5,es,es2,ts,w5,w6,w7,w8,w9,w10,w11,f5,k5,e5,ok5,hl5,t5,tl5,ti5,rfl⟩
   obtain ⟨e,he,rfl⟩:=ZcM hv
   have hte:=hp5.tup e (Zqw he)
   obtain ⟨x0,x1,y0,y1⟩:=hT i e.2 (by rw [Zqy,he];rfl)
   have hi:i<ep.length:=(Zqm.mp he).1
   have atT:∀ z:Int,0<=z->z<2 * ((m:Int)+1+i)->∃ t,atI (ts.map V.int) (z / 2)=some (.int t)/\MF.InT m (Zav es) t:=fun z z0 z1=>by
    have hz:(z / 2).toNat<ts.length:=by omega
    refine ⟨ts[(z / 2).toNat],?_,ti5 _ (ZqU hz)⟩
    rw [Zde .non (by omega) (by rw [Zqi];omega),Zqs,Zqy,Zqn hz]
    rfl
   obtain ⟨u,hu,inu⟩:=atT e.2.1 x0 x1
   obtain ⟨v,hv',inv⟩:=atT e.2.2 y0 y1
   walk_at "gs"
   refine ⟨e.1,_,rfl,.of hte,rfl,_,_,rfl,_,_,rfl,rfl,?_⟩
   walk_at "gs"
   refine ⟨_,_,.inl (.of t5),hu,?_⟩
   walk_at "gs"
   refine ⟨_,_,.inl (.of t5),hv',?_⟩
   walk_at "gs"
   have inx:MF.InT m (Zav es) (Builtin.bitXor u (e.2.1 % 2)):=by
    rcases ZhL inu.1 (e.2.1 % 2) (by omega) (by omega) with z | z <;> rw [z]
    ·exact inu
    ·exact inu.tn
   have iny:MF.InT m (Zav es) (Builtin.bitXor v (e.2.2 % 2)):=by
    rcases ZhL inv.1 (e.2.2 % 2) (by omega) (by omega) with z | z <;> rw [z]
    ·exact inv
    ·exact inv.tn
   generalize Builtin.bitXor u (e.2.1 % 2)=x at inx ⊢
   generalize Builtin.bitXor v (e.2.2 % 2)=y at iny ⊢
   have g1:(if y<x then y else x)=MF.lo x y:=rfl
   have g2:(if y > x then y else x)=MF.hi x y:=rfl
   rw [g1,g2]
   have st:=MF.bo_st (m:=(m:Int)) (by omega) inx iny
   have hlh:=MF.ZmU x y
   have hl0:0<=MF.lo x y:=by have:=inx.1;have:=iny.1;unfold MF.lo;split <;> omega
   have epl:(Zav es).length=es.length:=Zqi ..
   have epl2:es2.length=es.length:=by rw [<- epl,<- e5];exact (Zqi ..).symm
   refine mid (fun σ' H'=>∃ es2',(∀ b o,b≠kn->H5 b=some o->H' b=some o)/\PN H' kn (m+1) es2'/\Zav es2'=MF.bp m (Zav es) x y/\σ'=[some (.int m),some (.ref cp),some (.ref f),some (.ref kn),some (.ref tl),some (.int e.2.1),some (.int e.2.2),some (.int x),some (.int y),some (.int (MF.lo x y)),some (.int (MF.hi x y)),some (.int (MF.bt m (Zav es) x y))]) ?_ ?_
   ·intro N hN
    have hN':=hN
    clear hN
    unfold MF.bt MF.bp MF.Zmm at hN'
    generalize MF.lo x y=l at *
    generalize MF.hi x y=g at *
    have xo:=ZjZ (l:=l) (h:=g) hl0 (by omega)
    walk_at "gs"
    have htn:l=MF.tn g->l≠1/\l≠g\/l=0:=fun z=>by unfold MF.tn at z;split at z <;> omega
    by_cases c1:Builtin.bitXor l g=1
    ·rw [if_pos c1]
     have z:=xo.mp c1
     have hz:=htn z
     refine hN' _ _ ⟨es2,fun b o _ e=>e,k5,?_,?_⟩
     ·by_cases c0:l=0
      ·rw [if_pos c0];exact e5
      ·rw [if_neg c0,if_neg (by omega),if_pos z];exact e5
     ·by_cases c0:l=0
      ·rw [if_pos c0]
      ·rw [if_neg c0,if_neg (by omega),if_pos z]
    ·rw [if_neg c1]
     have nz:¬ l=MF.tn g:=fun z=>c1 (xo.mpr z)
     by_cases c2:l=1
     ·rw [if_pos c2]
      refine hN' _ _ ⟨es2,fun b o _ e=>e,k5,?_,?_⟩
      ·rw [if_neg (by omega),if_pos (.inl c2)];exact e5
      ·rw [if_neg (by omega),if_pos (.inl c2)]
     ·rw [if_neg c2]
      by_cases c3:1<l
      ·rw [if_pos c3]
       by_cases c4:l=g
       ·rw [if_neg (by simpa using c4)]
        refine hN' _ _ ⟨es2,fun b o _ e=>e,k5,?_,?_⟩
        ·rw [if_neg (by omega),if_pos (.inr c4)];exact e5
        ·rw [if_neg (by omega),if_pos (.inr c4),c4]
       ·rw [if_pos c4]
        rw [if_neg (show ¬ l=0 by omega),if_neg (show ¬ (l=1\/l=g) by omega),if_neg nz] at hN'
        refine mid (fun σ' H'=>∃ es2',(∀ b o,b≠kn->H5 b=some o->H' b=some o)/\PN H' kn (m+1) es2'/\Zav es2'=MF.kp m (Zav es) (l,g)/\σ'=[some (.int m),some (.ref cp),some (.ref f),some (.ref kn),some (.ref tl),some (.int e.2.1),some (.int e.2.2),some (.int x),some (.int y),some (.int l),some (.int g),some (.int l)]) ?_ ?_
        ·intro N2 hN2
         walk_at "gs"
         refine ⟨by show 2<=sizeLine;decide,fun tq H6 n6=>⟨m+1,es2,(l,g),n6.at_,k5.same n6.same,?_⟩⟩
         have k6:=k5.same n6.same
         by_cases hin:(l,g)∈Zav es2
         ·rw [if_neg (fun z=>z hin)]
          refine hN2 _ _ ⟨es2,fun b o _ e=>n6.same _ _ e,k6,?_,rfl⟩
          unfold MF.kp
          rw [e5] at hin ⊢
          rw [if_pos (Zlr.mp hin)]
         ·rw [if_pos hin]
          refine ⟨.inl ⟨by trivial,_,.of k6.lst⟩,by show 2<=sizeLine;decide,fun tr H7 n7=>?_⟩
          have k7:=k6.same n7.same
          refine ⟨kn,_,_,rfl,rfl,k7.lst,by rw [Zqj,Zqv,Zqi];omega,hN2 _ _ ⟨es2 ++ [(tr,(l,g))],fun b o nb e=>by rw [Zak nb];exact n7.same _ _ (n6.same _ _ e),k7.put n7.at_,?_,rfl⟩⟩
          unfold MF.kp
          rw [e5] at hin
          rw [if_neg (fun z=>hin (Zlr.mpr z)),<- e5]
          exact Zqo
        rintro σ6 H6 ⟨es6,u6,k6,p6,rfl⟩
        have hfk:MF.fnd ((m:Int)+1) (Zav es6) (l,g)=some (MF.kn m (Zav es) (l,g)):=by
         rw [p6]
         exact fnd_kp
        obtain ⟨j,hj1,hj2,hj3⟩:=Zio hfk
        walk_at "gs"
        refine ⟨.inl ⟨by trivial,_,.of k6.lst⟩,by show 2<=sizeLine;decide,fun tq H7 n7=>⟨m+1,es6,(l,g),j,k6.same n7.same,n7.at_,hj2,hj3,?_⟩⟩
        walk_at "gs"
        refine hN' _ _ ⟨es6,fun b o nb e=>n7.same _ _ (u6 b o nb e),k6.same n7.same,p6,?_⟩
        rw [hj1]
        congr 12
      ·rw [if_neg c3]
       refine hN' _ _ ⟨es2,fun b o _ e=>e,k5,?_,?_⟩
       ·rw [if_pos (by omega)];exact e5
       ·rw [if_pos (by omega),show l=0 by omega]
   rintro σ6 H6 ⟨es6,u6,k6,p6,rfl⟩
   have f6:FoldAt a.c_Fold H6 f m es dx pl kl:=⟨u6 _ _ (Zbv f5.ins k5.lst (fun z=>nomatch z)) f5.ins,u6 _ _ nkp.symm f5.prs.lst,u6 _ _ (Zbv f5.prs.dct k5.lst (fun z=>nomatch z)) f5.prs.dct,fun e he=>u6 _ _ (Zbv (f5.prs.tup e he) k5.lst (fun z=>nomatch z)) (f5.prs.tup e he)⟩
   have t6:=u6 _ _ ntk t5
   have p6':PL H6 cp ep:=⟨u6 _ _ npk hp5.lst,fun e he=>u6 _ _ (Zbv (hp5.tup e he) k5.lst (fun z=>nomatch z)) (hp5.tup e he)⟩
   have s6:ZaZ H H6:=fun b o e=>u6 _ _ (Zaj e fkn) (s5 _ _ e)
   walk_at "gs"
   refine ⟨.inl ⟨by trivial,_,.of t6⟩,tl,_,_,rfl,rfl,t6,by rw [Zqi];omega,?_⟩
   have nl:∀ {b:Addr}{o:HO},b≠tl->H6 b=some o->upd H6 tl (.lst (ts.map V.int ++ [.int (MF.bt m (Zav es) x y)])) b=some o:=fun n e=>by rw [Zak n];exact e
   have f7:FoldAt a.c_Fold (upd H6 tl (.lst (ts.map V.int ++ [.int (MF.bt m (Zav es) x y)]))) f m es dx pl kl:=⟨nl (Zbv f6.ins t6 (fun z=>nomatch z)) f6.ins,nl ntp.symm f6.prs.lst,nl (Zbv f6.prs.dct t6 (fun z=>nomatch z)) f6.prs.dct,fun e he=>nl (Zbv (f6.prs.tup e he) t6 (fun z=>nomatch z)) (f6.prs.tup e he)⟩
   have k7:PN (upd H6 tl (.lst (ts.map V.int ++ [.int (MF.bt m (Zav es) x y)]))) kn (m+1) es6:=⟨nl ntk.symm k6.lst,fun e he=>nl (Zbv (k6.tup e he) t6 (fun z=>nomatch z)) (k6.tup e he)⟩
   have p7:PL (upd H6 tl (.lst (ts.map V.int ++ [.int (MF.bt m (Zav es) x y)]))) cp ep:=⟨nl npt p6'.lst,fun e he=>nl (Zbv (p6'.tup e he) t6 (fun z=>nomatch z)) (p6'.tup e he)⟩
   have s7:=s6.put (o:=.lst (ts.map V.int ++ [.int (MF.bt m (Zav es) x y)])) ftl
   have t7:upd H6 tl (.lst (ts.map V.int ++ [.int (MF.bt m (Zav es) x y)])) tl=some (.lst ((ts ++ [MF.bt m (Zav es) x y]).map V.int)):=by rw [Zal,Zqo];rfl
   generalize upd H6 tl (.lst (ts.map V.int ++ [.int (MF.bt m (Zav es) x y)]))=H7 at *
   have jx:=inx.2
   have jy:=iny.2
   walk_at "gs"
   refine ⟨f,dx,_,rfl,f7.ins,rfl,f,dx,pl,kl,m,x,y,es,rfl,f7,by omega,fun _ H8 es8 u8 f8 q8=>?_,fun z=>absurd ⟨inx.1,iny.1,by omega,by omega⟩ z⟩
   have l8:=st.hi
   have l9:=st.lo
   have ok8:=st.ok ok5
   have in8:=st.inn
   simp only [MF.bo] at l8 l9 ok8 in8
   rw [<- q8] at l8 l9 ok8 in8
   have epl8:(Zav es8).length=es8.length:=Zqi ..
   refine ⟨Znr s7 u8 fp fk,p7.un f7.prs.lst f7.prs.dct npp u8,es8,es6,_,_,_,_,_,_,_,_,f8,k7.un f7.prs.lst f7.prs.dct nkp u8,by rw [p6,q8],ok8,by omega,u8 _ _ ntp (Zbv t7 f7.prs.dct (fun z=>nomatch z)) t7,by rw [Zqj,Zqx];omega,fun t ht=>?_,rfl⟩
   rcases Zqp.mp ht with z | z
   ·have:=ti5 t z
    exact ⟨this.1,by have:=this.2;omega⟩
   ·rw [Zql] at z
    subst z
    exact in8
  ·rintro σ H5 ⟨s5,hp5,es,es2,ts,w5,w6,w7,w8,w9,w10,w11,f5,k5,e5,ok5,hl5,t5,tl5,ti5,rfl⟩
   rw [Zqi,hpl] at hl5
   walk_at "gs"
   refine ⟨by show 2<=sizeLine;decide,fun tp H6 n6=>?_⟩
   exact q tp f dx pl kl kn es es2 H6 (s5.trans n6.same) n6.at_ (f5.same n6.same) ff fp fk fkn (k5.same n6.same) e5 ok5 hl5 nkp
noncomputable def Ze8 (K:ZpF):Sp:=fun vs H Q _=>∃ (p:Addr) (ns:List Int) (n:Nat),vs=[.ref p,.int 3,.int n]/\SqL K H p (ns.map V.int)/\n<=60 /\
 ∀ l (cs:List Int) H',ZaZ H H'->H' l=some (.lst (cs.map V.int))->cs.length=n->Q (.ref l) H'
noncomputable def Zdt (K:ZpF):TS:=(ZaQ (Zbs (Zgr Zas) (Zan 3))
  (ZaQ (ZeN (ZdV (Zaf (Zad 2) Zas)) (Zan 4) (ZaQ (Zbs (tOp Zd5 (tOp Zd5 (tOp (ZbL (fun _ j=>0<j) fun i j=>.int (i % j)) (Zbb (Zbf K) [] E0 (Zaf (Zad 0) (Zaf (tOp Zd5 (Zad 1) (Zad 4)) Zas))) (tC (.int 2147483647))) (tOp ZgW (tOp ZgW (tC (.int 7919)) (Zad 4)) (Zad 4))) (tC (.int 11))) (Zan 5))
  (ZbZ (tBM K "list" ZbI (Zad 3) (Zaf (tOp (ZbL (fun _ j=>0<j) fun i j=>.int (i % j)) (tOp ZgW (tOp (ZbL (fun _ j=>0<j) fun i j=>.int (i % j)) (tOp ZgW (Zad 5) (tC (.int 48271))) (tC (.int 2147483647))) (tC (.int 16807))) (tC (.int 2147483647))) Zas)))))
  (Zck (Zad 3))))
theorem ZhS (T:Txt K mg a) {cdv:Value}{A:Around}{outer:List Env}{s:Shared}{H:Hp}{E:XK} (hr:Room 1 (A.deeper (envOfC "_law_mixed" (Zab Zbk) s.heap.objs.size a.f_law_mixed cdv))) :
  PSs (Zcd CX0 P w K mg base Zgo "_law_mixed" (Zab Zbk) a.f_law_mixed cdv A outer s H E).nox (Zai Zbk) (Zdt K) :=
 (Zac (Zap (i:=3) Zcy.nd rfl (by walk_at "o") (ZbU Zae))
   (Zac (ZbW PassesOwn.never rfl (ZbD rfl T.no_range (Zaa (cv 2) Zae)) (ZaE (i:=4) Zcy.nd rfl (by walk_at "o")) (Zac (Zap (i:=5) Zcy.nd rfl (by walk_at "o") (Zam ZbM (Zam ZbM (Zam Zcb (Zar (ZbA T) (hr.mono (by decide)) rfl T.mg_law_cell_at T.fn_law_cell_at.kp T.bi_law_cell_at .nil ZaR (Zaa (cv 0) (Zaa (Zam ZbM (cv 1) (cv 4)) Zae))) Zag) (Zam ZdB (Zam ZdB Zag (cv 4)) (cv 4))) Zag))
   (Zah (Za0 (Zeg Zqa Zqb Zqc (mtr Za9) (cv 3) (Zaa (Zam Zcb (Zam ZdB (Zam Zcb (Zam ZdB (cv 5) Zag) Zag) Zag) Zag) Zae))))))
   (Zah (ZaB (cv 3)))))
theorem Zic (T:Txt K mg a):FnOk P w K mg base CX0 2 a.f_law_mixed a.d_law_mixed ["_law_script","_law_start","_law_count"] (Ze8 K):=by
 refine T.fn_law_mixed.ok Zcy (fun vs H Q E h=>?_) (fun cdv A outer s H vs Q E hr h=>⟨_,ZhS T hr,?_⟩)
 ·obtain ⟨p,ns,n,rfl,_⟩:=h;rfl
 ·obtain ⟨p,ns,n,rfl,hS,hn,q⟩:=h
  show Zdt K _ [some (.ref p),some (.int 3),some (.int n),none,none,none] H
  unfold Zdt
  have big:(20000:Nat)<=sizeLine:=by decide
  walk_at "gs"
  intro l H1 n1
  walk_at "gs"
  refine Zco (fun i σ H2=>ZaZ H H2/\∃ (cs:List Int) (v4 v5:Option V),H2 l=some (.lst (cs.map V.int))/\cs.length=i/\σ=[some (.ref p),some (.int 3),some (.int n),some (.ref l),v4,v5]) ⟨n1.same,[],_,_,n1.at_,rfl,rfl⟩ ?_ ?_
  ·rintro i σ H2 hi ⟨s2,cs,v4,v5,h2,hcl,rfl⟩
   rw [Zr6] at hi
   walk_at "gs"
   rw [show (3:Int)+(0+(i:Int))=((3+i:Nat):Int) by omega]
   refine ⟨p,ns,3+i,rfl,s2.seq hS,fun c=>?_⟩
   refine ⟨by omega,.inr ⟨by omega,by omega⟩,.inr ⟨by omega,by omega⟩,.inl ⟨by trivial,_,.of h2⟩,.inr ⟨by decide,by decide⟩,by omega,.inr ⟨by decide,by decide⟩,by omega,l,_,_,rfl,rfl,h2,by rw [Zqi];omega,s2.put n1.was,cs ++ [_],_,_,by rw [Zal,Zqo];rfl,by rw [Zqj,hcl];rfl,rfl⟩
  ·rintro σ H2 ⟨s2,cs,v4,v5,h2,hcl,rfl⟩
   rw [Zr6] at hcl
   walk_at "gs"
   exact q l cs H2 s2 h2 hcl
noncomputable def Zcw (_:ZpF):Sp:=fun vs H Q _=>∃ (c:Int) (m most:Nat),vs=[.int m,.int c,.int most]/\m<=10/\most<=16 /\
 ∀ pp es H',ZaZ H H'->H pp=none->PL H' pp es->es.length<=most->ZhI m (Zav es)->Q (.ref pp) H'
noncomputable def ZbR (K:ZpF):TS:=(ZaQ (Zbs (Zgr Zas) (Zan 3))
  (ZaQ (Zbs (tOp (ZbL (fun _ j=>0<j) fun i j=>.int (i % j)) (Zad 1) (tOp Zd5 (Zad 2) (tC (.int 1)))) (Zan 4))
  (ZaQ (Zbs (tOp (ZbL ZdR fun i j=>.int (i / j)) (Zad 1) (tOp Zd5 (Zad 2) (tC (.int 1)))) (Zan 1))
  (ZaQ (ZeN (ZdV (Zaf (Zad 4) Zas)) (Zan 5) (ZaQ (Zbs (tOp ZgW (tC (.int 2)) (tOp Zd5 (tOp Zd5 (Zad 0) (tC (.int 1))) (Zad 5))) (Zan 6))
  (ZaQ (ZbZ (tBM K "list" ZbI (Zad 3) (Zaf (Zju (Zaf (tOp (ZbL (fun _ j=>0<j) fun i j=>.int (i % j)) (Zad 1) (Zad 6)) (Zaf (tOp (ZbL (fun _ j=>0<j) fun i j=>.int (i % j)) (tOp (ZbL ZdR fun i j=>.int (i / j)) (Zad 1) (Zad 6)) (Zad 6)) Zas))) Zas)))
  (Zbs (tOp (ZbL ZdR fun i j=>.int (i / j)) (tOp (ZbL ZdR fun i j=>.int (i / j)) (Zad 1) (Zad 6)) (Zad 6)) (Zan 1)))))
  (Zck (Zad 3))))))
theorem Zem (T:Txt K mg a) {cdv:Value}{A:Around}{outer:List Env}{s:Shared}{H:Hp}{E:XK} (hr:Room 0 (A.deeper (envOfC "_law_digit_pairs" (Zab Zax) s.heap.objs.size a.f_law_digit_pairs cdv))) :
  PSs (Zcd CX0 P w K mg base ZcP "_law_digit_pairs" (Zab Zax) a.f_law_digit_pairs cdv A outer s H E).nox (Zai Zax) (ZbR K) :=
 (Zac (Zap (i:=3) ZaO.nd rfl (by walk_at "o") (ZbU Zae))
   (Zac (Zap (i:=4) ZaO.nd rfl (by walk_at "o") (Zam Zcb (cv 1) (Zam ZbM (cv 2) Zag)))
   (Zac (Zap (i:=1) ZaO.nd rfl (by walk_at "o") (Zam Za5 (cv 1) (Zam ZbM (cv 2) Zag)))
   (Zac (ZbW PassesOwn.never rfl (ZbD rfl T.no_range (Zaa (cv 4) Zae)) (ZaE (i:=5) ZaO.nd rfl (by walk_at "o")) (Zac (Zap (i:=6) ZaO.nd rfl (by walk_at "o") (Zam ZdB Zag (Zam ZbM (Zam ZbM (cv 0) Zag) (cv 5))))
   (Zac (Za0 (Zeg Zqa Zqb Zqc (mtr Za9) (cv 3) (Zaa (Zdx (Zaa (Zam Zcb (cv 1) (cv 6)) (Zaa (Zam Zcb (Zam Za5 (cv 1) (cv 6)) (cv 6)) Zae))) Zae)))
   (Zah (Zap (i:=1) ZaO.nd rfl (by walk_at "o") (Zam Za5 (Zam Za5 (cv 1) (cv 6)) (cv 6)))))))
   (Zah (ZaB (cv 3)))))))
theorem Zeu (T:Txt K mg a):FnOk P w K mg base CX0 1 a.f_law_digit_pairs a.d_law_digit_pairs ["_law_many","_law_cell","_law_most"] (Zcw K):=by
 refine T.fn_law_digit_pairs.ok ZaO (fun vs H Q E h=>?_) (fun cdv A outer s H vs Q E hr h=>⟨_,Zem T hr,?_⟩)
 ·obtain ⟨c,m,most,rfl,_⟩:=h;rfl
 ·obtain ⟨c,m,most,rfl,hm,hmo,q⟩:=h
  show ZbR K _ [some (.int m),some (.int c),some (.int most),none,none,none,none] H
  unfold ZbR
  have big:(20000:Nat)<=sizeLine:=by decide
  walk_at "gs"
  intro pp H1 n1
  have x1:=Zr9 c (show (most:Int)+1≠0 by omega)
  have x2:=Zsb c (show 0<(most:Int)+1 by omega)
  obtain ⟨cnt,hcnt⟩:=Zr7 x1
  walk_at "gs"
  rw [hcnt]
  walk_at "gs"
  rw [Zr6]
  refine Zco (fun i σ H2=>ZaZ H H2/\∃ (es:List En) (d:Int) (v5 v6:Option V),PL H2 pp es/\es.length=i/\ZhI m (Zav es)/\σ=[some (.int m),some (.int d),some (.int most),some (.ref pp),some (.int (cnt:Nat)),v5,v6]) ⟨n1.same,[],_,_,_,⟨n1.at_,fun e he=>by simp at he⟩,rfl,fun i q hq=>by simp [Zav] at hq,rfl⟩ ?_ ?_
  ·rintro i σ H2 hi ⟨s2,es,d,v5,v6,hP,hle,hT,rfl⟩
   walk_at "gs"
   obtain ⟨S,hS⟩:∃ S:Int,S=2 * ((m:Int)+1+(0+(i:Int))):=⟨_,rfl⟩
   rw [<- hS]
   have y1:=Zr9 d (show S≠0 by omega)
   have y2:=Zsb d (show 0<S by omega)
   have z1:=Zr9 (d / S) (show S≠0 by omega)
   have z2:=Zsb (d / S) (show 0<S by omega)
   refine ⟨.inl ⟨by trivial,_,.of hP.lst⟩,by omega,⟨by omega,by omega⟩,by omega,by show 2<=sizeLine;decide,fun tp H4 n4=>?_⟩
   have hP4:=hP.same n4.same
   refine ⟨pp,_,_,rfl,rfl,hP4.lst,by rw [Zqi];omega,⟨by omega,by omega⟩,⟨by omega,by omega⟩,(s2.trans n4.same).put n1.was,es ++ [(tp,(d % S,d / S % S))],_,_,_,hP4.put n4.at_,by rw [Zqj,Zqx];omega,?_,rfl⟩
   have e:Zav (es ++ [(tp,(d % S,d / S % S))])=Zav es ++ [(d % S,d / S % S)]:=Zqo
   rw [e]
   refine hT.snoc ⟨?_,?_,?_,?_⟩ <;> (try rw [Zqi]) <;> show _ <;> omega
  ·rintro σ H2 ⟨s2,es,d,v5,v6,hP,hle,hT,rfl⟩
   walk_at "gs"
   exact q pp es H2 s2 n1.was hP (by omega) hT
noncomputable def kvM (ks:List Nat):List (Key × V):=ks.map fun k:Nat=>((.inl (k:Int):Key),V.bl true)
theorem Zi8 (ks:List Nat):(kvM ks).length=ks.length:=Zqi ..
noncomputable def Zgi (ks:List Nat) (k:Nat):List Nat:=if k∈ks then ks else ks ++ [k]
theorem Zhr {ks:List Nat}{k x:Nat}:x∈Zgi ks k ↔ x∈ks\/x=k:=by
 unfold Zgi
 split
 ·rename_i h
  exact ⟨.inl,fun z=>z.elim id fun e=>e ▸ h⟩
 ·rw [Zqp,Zql]
theorem Zpz {ks:List Nat}{k:Nat} (h:ks.Nodup):(Zgi ks k).Nodup:=by
 unfold Zgi
 split
 ·exact h
 ·rename_i hn
  exact Zrc.mpr ⟨h,by simp,fun a ha b hb e=>hn (by rw [Zql] at hb;rw [<- hb,<- e];exact ha)⟩
theorem ZiG (ks:List Nat) (k:Nat):(Ze4 (kvM ks) (.inl (k:Int))).isSome=decide (k∈ks):=by
 induction ks with
 | nil=>rfl
 | cons x r ih =>
  show (Ze4 (((.inl (x:Int):Key),V.bl true) :: kvM r) (.inl (k:Int))).isSome=_
  by_cases e:x=k
  ·rw [ZcR (by rw [e]),decide_eq_true (by rw [e];exact ZqF ..)];rfl
  ·rw [ZcS (fun z=>e (by have:=Sum.inl.inj z;omega)),ih,decide_eq_decide,Zqt]
   exact ⟨.inr,fun z=>z.resolve_left fun w=>e w.symm⟩
theorem ZiV (ks:List Nat) (k:Nat):ZeO (kvM ks) (.inl (k:Int)) (.bl true)=kvM (Zgi ks k):=by
 unfold ZeO Zgi
 have ha:((kvM ks).any fun kv=>decide (kv.1=(.inl (k:Int):Key)))=decide (k∈ks):=by
  unfold kvM
  rw [Zrz,Zst,ZrA,decide_eq_true_iff]
  constructor
  ·rintro ⟨x,hx,h⟩
   have h:=of_decide_eq_true h
   have:x=k:=by have:=Sum.inl.inj h;omega
   exact this ▸ hx
  ·exact fun h=>⟨k,h,decide_eq_true rfl⟩
 rw [ha]
 by_cases h:k∈ks
 ·rw [if_pos (decide_eq_true h),if_pos h]
  unfold kvM
  rw [Zqz]
  refine Zq6 fun x _=>?_
  show (if ((.inl (x:Int):Key),V.bl true).1=.inl (k:Int) then (((.inl (x:Int):Key),V.bl true).1,V.bl true) else _)=_
  split <;> rfl
 ·rw [if_neg (by simpa using h),if_neg h]
  unfold kvM
  rw [Zqo]
  rfl
theorem Znx {H:Hp}{kn:Addr}{m:Nat}{es:List En} (h:PN H kn (m+1) es) {i:Nat} (hi:i<=m):atI (Zqk (m+1) V.non ++ es.map fun e=>V.ref e.1) (i:Int)=some .non:=by
 rw [Zde .non (by omega) (by rw [Zqj,Zqv];omega),Zr6,Zqs,ZqC (by rw [Zqv];omega),Zq7,if_pos (by omega)]
 rfl
theorem ZiW {H:Hp}{kn:Addr}{m:Nat}{es:List En} (h:PN H kn (m+1) es) {j:Nat}{e:En} (he:es[j]? = some e):atI (Zqk (m+1) V.non ++ es.map fun e=>V.ref e.1) ((m+1+j:Nat):Int)=some (.ref e.1):=by
 have hj:=(Zqm.mp he).1
 rw [Zde .non (by omega) (by rw [Zqj,Zqv,Zqi];omega),Zr6,Zqs,ZqD (by rw [Zqv];omega),Zqv,show m+1+j - (m+1)=j by omega,Zqy,he]
 rfl
noncomputable def Zdi (_:ZpF):Sp:=fun vs H Q _=>∃ i:Int,vs=[.int i]/\Q (.bl true) H
noncomputable def Zdq (K:ZpF):TS:=(Zck (ZhH (tCB (Zek K) (Zaf (Zad 0) (Zaf (tC (.ty "int")) Zas))) (Zku (tCB (Zek K) (Zaf (Zad 0) (Zaf (tC (.ty "bool")) Zas))))))
theorem ZhP (T:Txt K mg a) {cdv:Value}{A:Around}{outer:List Env}{s:Shared}{H:Hp}{E:XK} (hr:Room 0 (A.deeper (envOfC "_law_whole" (Zab Zbh) s.heap.objs.size a.f_law_whole cdv))) :
  PSs (Zcd CX0 P w K mg base Zgl "_law_whole" (Zab Zbh) a.f_law_whole cdv A outer s H E).nox (Zai Zbh) (Zdq K) :=
 (Zah (ZaB (ZlU (Zaz ZeG (by rfl) T.no_isinstance PyProof.Rows.boot_isinstance (Zaa (cv 0) (Zaa (Zf0 (v:=.ty "int") rfl T.no_int PyProof.Rows.boot_int rfl) Zae))) (Zh4 (e_not (Zaz ZeG (by rfl) T.no_isinstance PyProof.Rows.boot_isinstance (Zaa (cv 0) (Zaa (Zf0 (v:=.ty "bool") rfl T.no_bool PyProof.Rows.boot_bool rfl) Zae))))))))
theorem Zfd (T:Txt K mg a):FnOk P w K mg base CX0 1 a.f_law_whole a.d_law_whole ["_law_found"] (Zdi K):=by
 refine T.fn_law_whole.ok ZhZ (fun vs H Q E h=>?_) (fun cdv A outer s H vs Q E hr h=>⟨_,ZhP T hr,?_⟩)
 ·obtain ⟨i,rfl,_⟩:=h;rfl
 ·obtain ⟨i,rfl,q⟩:=h
  show Zdq K _ [some (.int i)] H
  unfold Zdq
  walk_at "go"
  refine ⟨_,true,.int i,rfl,?_⟩
  walk_at "go"
  refine ⟨_,false,.int i,rfl,?_⟩
  walk_at "go"
  exact q
noncomputable def ZfM (_:ZpF):Sp:=fun vs H Q _=>∃ (kn:Addr) (m k:Nat) (es:List En),vs=[.ref kn,.int k]/\PN H kn (m+1) es/\MF.Ok m (Zav es)/\k<m+1+es.length/\m+1+es.length<=1000 /\
 ∀ l ks H',ZaZ H H'->H' l=some (.dK (kvM ks))->(∀ x,ML.Dn (Zba (Zbe m (Zav es))) k x->x∈ks)->Q (.ref l) H'
noncomputable def Zee (K:ZpF):TS:=(ZaQ (Zbs (Zoa [((Zad 1),(tC (.bl true)))]) (Zan 2))
  (ZaQ (ZeN (Zm1 (Zaf (Zad 1) (Zaf (tC (.int 0)) (Zaf (tUn Zpp (tC (.int 1))) Zas)))) (Zan 3) (Zcv (Znt (ZbH (tDIn (Zad 3) (Zad 2))) (ZbH (tOp Zit (tOp (cIx K) (Zad 0) (Zad 3)) (tC .non)))) (ZaQ (ZeQ (Zad 2) (tOp (ZbL ZdR fun i j=>.int (i / j)) (tOp (cIx K) (tOp (cIx K) (Zad 0) (Zad 3)) (tC (.int 0))) (tC (.int 2))) (tC (.bl true)))
  (ZeQ (Zad 2) (tOp (ZbL ZdR fun i j=>.int (i / j)) (tOp (cIx K) (tOp (cIx K) (Zad 0) (Zad 3)) (tC (.int 1))) (tC (.int 2))) (tC (.bl true)))) Zbt))
  (Zck (Zad 2))))
theorem ZiL (T:Txt K mg a) {cdv:Value}{A:Around}{outer:List Env}{s:Shared}{H:Hp}{E:XK} (hr:Room 0 (A.deeper (envOfC "_law_cone" (Zab Zby) s.heap.objs.size a.f_law_cone cdv))) :
  PSs (Zcd CX0 P w K mg base ZgZ "_law_cone" (Zab Zby) a.f_law_cone cdv A outer s H E).nox (Zai Zby) (Zee K) :=
 (Zac (Zap (i:=2) Zea.nd rfl (by walk_at "o") (Zor (ZmH (cv 1) ZdS Zop) rfl rfl (by simp) (by decide)))
   (Zac (ZbW PassesOwn.never rfl (Zh2 rfl T.no_range (Zaa (cv 1) (Zaa Zag (Zaa (Zld ZkE Zag) Zae)))) (ZaE (i:=3) Zea.nd rfl (by walk_at "o")) (Zah (Zbn (PW.pt (ZgE (Zms (pc_din (Zb1 hr) (cv 3) (cv 2))) (ZeV (ZaX Zi2 (ZaG ZaH (cv 0) (cv 3) (fun _ _=>rfl)) Zb9 (Zau _))))) (Zac (ZcF (Zb1 hr) (cv 2) (Zam Za5 (ZaG ZaH (ZaG ZaH (cv 0) (cv 3) (fun _ _=>rfl)) Zag (fun _ _=>rfl)) Zag) ZdS rfl)
   (Zah (ZcF (Zb1 hr) (cv 2) (Zam Za5 (ZaG ZaH (ZaG ZaH (cv 0) (cv 3) (fun _ _=>rfl)) Zag (fun _ _=>rfl)) Zag) ZdS rfl))) ZaA)))
   (Zah (ZaB (cv 2)))))
theorem Zi0 (T:Txt K mg a):FnOk P w K mg base CX0 1 a.f_law_cone a.d_law_cone ["_law_knots","_law_knot"] (ZfM K):=by
 refine T.fn_law_cone.ok Zea (fun vs H Q E h=>?_) (fun cdv A outer s H vs Q E hr h=>⟨_,ZiL T hr,?_⟩)
 ·obtain ⟨kn,m,k,es,rfl,_⟩:=h;rfl
 ·obtain ⟨kn,m,k,es,rfl,hN,ok,hk,hz,q⟩:=h
  show Zee K _ [some (.ref kn),some (.int k),none,none] H
  unfold Zee
  have big:(20000:Nat)<=sizeLine:=by decide
  walk_at "gs"
  intro sd hsd
  refine ⟨Zal,[(.inl (k:Int),.bl true)],rfl,by simp,_,_,rfl,⟨by omega,by omega,by omega,by omega⟩,?_⟩
  rw [show ((k:Int) - 0).toNat=k by omega]
  have mz:=Ze0 ok
  have epl:(Zav es).length=es.length:=Zqi ..
  have s1:ZaZ H (upd (upd H sd (.dK [])) sd (.dK (Zf5 [] [(.inl (k:Int),.bl true)]))):=(Zbd hsd).put hsd
  refine ZlM (fun i σ H2=>ZaZ H H2/\∃ (ks:List Nat) (v3:Option V),H2 sd=some (.dK (kvM ks))/\ks.length<=1+2 * i/\k∈ks/\(∀ y∈ks,y<=k)/\(∀ y∈ks,k<y+i->∀ l∈Zba (Zbe m (Zav es)) y,l∈ks)/\σ=[some (.ref kn),some (.int k),some (.ref sd),v3]) ⟨s1,[k],_,Zal,by simp,by simp,fun y hy=>by simp at hy;omega,fun y hy h=>by simp at hy;omega,rfl⟩ ?_ ?_
  ·rintro i σ H2 hi ⟨s2,ks,v3,d2,hkl,hkk,hle,hcl,rfl⟩
   have hN2:=hN.same s2
   rw [show (k:Int) - (i:Int)=((k - i:Nat):Int) by omega]
   walk_at "gs"
   refine ⟨sd,_,rfl,Zfl.k (k:=.inl ((k - i:Nat):Int)) d2,?_⟩
   rw [ZiG]
   by_cases hin:k - i∈ks
   case neg =>
    rw [decide_eq_false hin]
    walk_at "go"
    refine ⟨s2,ks,_,d2,by omega,hkk,hle,fun y hy h=>?_,rfl⟩
    rcases ZrO k (y+i) with z | z
    ·exact hcl y hy z
    ·have:y=k - i:=by omega
     exact absurd (this ▸ hy) hin
   rw [decide_eq_true hin]
   walk_at "gs"
   rcases ZrO m (k - i) with hm | hm
   ·obtain ⟨j,hj⟩:∃ j,k - i=m+1+j:=⟨k - i - m - 1,by omega⟩
    obtain ⟨e,he⟩:∃ e,es[j]? = some e:=⟨_,Zqn (by omega)⟩
    have hpe:(Zav es)[j]? = some e.2:=by rw [Zqy,he];rfl
    obtain ⟨o1,o2,o3,o4⟩:=ok _ _ hpe
    have te:=hN2.tup e (Zqw he)
    have hat:=ZiW hN2 he
    rw [<- hj] at hat
    have n1:kn≠sd:=Zbv hN2.lst d2 (fun z=>nomatch z)
    obtain ⟨x,hx⟩:=Zr7 (by omega:0<=e.2.1 / 2)
    obtain ⟨y,hy⟩:=Zr7 (by omega:0<=e.2.2 / 2)
    refine ⟨_,_,.inl (.of hN2.lst),hat,?_⟩
    walk_at "gs"
    rw [if_pos (by simp)]
    refine ⟨_,_,.inl (.of hN2.lst),hat,_,_,.inr (.of te),rfl,⟨by omega,by omega⟩,?_⟩
    rw [hx]
    refine ⟨sd,_,rfl,Zky.k (k:=.inl (x:Int)) d2 (by rw [Zi8];omega),?_⟩
    rw [ZiV]
    have s3:ZaZ H (upd H2 sd (.dK (kvM (Zgi ks x)))):=s2.put hsd
    have hN3:=hN.same s3
    refine ⟨_,_,.inl (.of hN3.lst),hat,_,_,.inr (.of (hN3.tup e (Zqw he))),rfl,⟨by omega,by omega⟩,?_⟩
    rw [hy]
    have al:∀ (l:List Nat) (z:Nat),(Zgi l z).length<=l.length+1:=fun l z=>by unfold Zgi;split <;> simp
    have a1:=al ks x
    have a2:=al (Zgi ks x) y
    refine ⟨sd,_,rfl,Zky.k (k:=.inl (y:Int)) Zal (by rw [Zi8];omega),?_⟩
    rw [ZiV]
    have hlo:Zba (Zbe m (Zav es)) (k - i)=[x,y]:=by
     rw [hj,ZdF hpe,hx,hy,Zr6,Zr6]
    have hmem:∀ z,z∈Zgi (Zgi ks x) y ↔ z∈ks\/z=x\/z=y:=fun z=>by rw [Zhr,Zhr,or_assoc]
    have hxk:x<=k/\y<=k:=by
     have h1:=mz.lt (k - i) x (by rw [hlo];simp)
     have h2:=mz.lt (k - i) y (by rw [hlo];simp)
     omega
    refine ⟨s3.put hsd,Zgi (Zgi ks x) y,_,Zal,by omega,(hmem k).mpr (.inl hkk),fun z hz=>?_,fun z hz h l hl=>?_,rfl⟩
    ·rcases (hmem z).mp hz with g | rfl | rfl
     ·exact hle z g
     ·exact hxk.1
     ·exact hxk.2
    ·rcases ZrO k (z+i) with g | g
     ·rcases (hmem z).mp hz with g' | rfl | rfl
      ·exact (hmem l).mpr (.inl (hcl z g' g l hl))
      ·have h1:=mz.lt (k - i) z (by rw [hlo];simp)
       omega
      ·have h1:=mz.lt (k - i) z (by rw [hlo];simp)
       omega
     ·have:z=k - i:=by omega
      subst this
      rw [hlo] at hl
      simp only [Zqt,List.not_mem_nil,or_false] at hl
      exact (hmem l).mpr (.inr hl)
   ·refine ⟨_,_,.inl (.of hN2.lst),Znx hN2 hm,?_⟩
    walk_at "go"
    refine ⟨s2,ks,_,d2,by omega,hkk,hle,fun y hy h l hl=>?_,rfl⟩
    rcases ZrO k (y+i) with z | z
    ·exact hcl y hy z l hl
    ·have:y=k - i:=by omega
     subst this
     rw [ZjI hm] at hl
     simp at hl
  ·rintro σ H2 ⟨s2,ks,v3,d2,hkl,hkk,hle,hcl,rfl⟩
   walk_at "gs"
   refine q sd ks H2 s2 d2 fun x hx=>?_
   induction hx with
   | here=>exact hkk
   | @low y x h hx ih =>
    refine hcl y ih ?_ x hx
    have:=mz.lt y x hx
    omega
noncomputable def Ze6 (_:ZpF):Sp:=fun vs H Q _=>∃ (kn cp:Addr) (m k:Nat) (es:List En) (C:List Nat),vs=[.ref kn,.int k,.ref cp]/\PN H kn (m+1) es/\H cp=some (.lst (C.map nv))/\MF.Ok m (Zav es)/\m<k/\k<m+1+es.length/\m+1+es.length<=1000/\(∀ l∈Zba (Zbe m (Zav es)) k,¬ ML.Leak (Zba (Zbe m (Zav es))) (fun c=>c∈C) l) /\
 ∀ H',ZaZ H H'->Q (.bl true) H'
theorem in_nv {xs:List Nat}{x:Nat}:decide ((x:Int)∈Zfx xs)=decide (x∈xs):=by
  rw [decide_eq_decide]
  unfold Zfx
  rw [Zqr]
  exact ⟨fun ⟨y, hy, e⟩ => by have : y = x := by omega
                              rw [<- this];exact hy,fun h=>⟨x,h,rfl⟩⟩
noncomputable def Zdr (K:ZpF):TS:=(ZaQ (Zbs (Zgr (Zaf (tOp (ZbL ZdR fun i j=>.int (i / j)) (tOp (cIx K) (tOp (cIx K) (Zad 0) (Zad 1)) (tC (.int 0))) (tC (.int 2))) (Zaf (tOp (ZbL ZdR fun i j=>.int (i / j)) (tOp (cIx K) (tOp (cIx K) (Zad 0) (Zad 1)) (tC (.int 1))) (tC (.int 2))) Zas))) (Zan 3))
  (ZaQ (Zbs Zeq (Zan 4))
  (ZaQ (ZgA (ZbH (tOp (cI2 fun i j=>.bl (decide (j<i))) (tCB (ZiC K) (Zaf (Zad 3) Zas)) (tC (.int 0)))) (ZaQ (Zbs (tBM0 K "list" rPop (Zad 3)) (Zan 5))
  (Zcv (Znt (ZbH (tOp (cIn K true) (Zad 5) (Zad 2))) (ZbH (Zcp (Zad 5) (Zad 4)))) (ZaQ (ZeQ (Zad 4) (Zad 5) (tC (.bl true)))
  (ZaQ (Zcv (ZbH (tOp cIs (tOp (cIx K) (Zad 0) (Zad 5)) (tC .non))) (Zck (tC (.bl false))) Zbt)
  (ZaQ (ZbZ (tBM K "list" ZbI (Zad 3) (Zaf (tOp (ZbL ZdR fun i j=>.int (i / j)) (tOp (cIx K) (tOp (cIx K) (Zad 0) (Zad 5)) (tC (.int 0))) (tC (.int 2))) Zas)))
  (ZbZ (tBM K "list" ZbI (Zad 3) (Zaf (tOp (ZbL ZdR fun i j=>.int (i / j)) (tOp (cIx K) (tOp (cIx K) (Zad 0) (Zad 5)) (tC (.int 1))) (tC (.int 2))) Zas)))))) Zbt)))
  (Zck (tC (.bl true))))))
theorem ZhQ (T:Txt K mg a) {cdv:Value}{A:Around}{outer:List Env}{s:Shared}{H:Hp}{E:XK} (hr:Room 0 (A.deeper (envOfC "_law_stops" (Zab Zbi) s.heap.objs.size a.f_law_stops cdv))) :
  PSs (Zcd CX0 P w K mg base Zgm "_law_stops" (Zab Zbi) a.f_law_stops cdv A outer s H E).nox (Zai Zbi) (Zdr K) :=
 (Zac (Zap (i:=3) Zcx.nd rfl (by walk_at "o") (ZbU (Zaa (Zam Za5 (ZaG ZaH (ZaG ZaH (cv 0) (cv 1) (fun _ _=>rfl)) Zag (fun _ _=>rfl)) Zag) (Zaa (Zam Za5 (ZaG ZaH (ZaG ZaH (cv 0) (cv 1) (fun _ _=>rfl)) Zag (fun _ _=>rfl)) Zag) Zae))))
   (Zac (Zap (i:=4) Zcx.nd rfl (by walk_at "o") ZdL)
   (Zac (ZfA PassesOwn.never (ZaX o_gt (Zaz ZeF (by rfl) T.no_len PySem.boot_len (Zaa (cv 3) Zae)) Zag (Zau _)) (Zac (Zap (i:=5) Zcx.nd rfl (by walk_at "o") (ZnA Zqa Zqg Zqh (mtr ZnO) (cv 3)))
   (Zah (Zbn (PW.pt (ZgE (ZaX Zoy (cv 5) (cv 2) (by with_unfolding_all rfl)) (ZeV (Zms (Zca (Zb1 hr) (cv 5) (cv 4)))))) (Zac (ZcF (Zb1 hr) (cv 4) (cv 5) ZdS rfl)
   (Zac (Zbn (ZaX Zoz (ZaG ZaH (cv 0) (cv 5) (fun _ _=>rfl)) Zb9 (Zau _)) (Zah (ZaB ZdS)) ZaA)
   (Zac (Za0 (Zeg Zqa Zqb Zqc (mtr Za9) (cv 3) (Zaa (Zam Za5 (ZaG ZaH (ZaG ZaH (cv 0) (cv 5) (fun _ _=>rfl)) Zag (fun _ _=>rfl)) Zag) Zae)))
   (Zah (Za0 (Zeg Zqa Zqb Zqc (mtr Za9) (cv 3) (Zaa (Zam Za5 (ZaG ZaH (ZaG ZaH (cv 0) (cv 5) (fun _ _=>rfl)) Zag (fun _ _=>rfl)) Zag) Zae))))))) ZaA))))
   (Zah (ZaB ZdS)))))
theorem Zia (T:Txt K mg a):FnOk P w K mg base CX0 1 a.f_law_stops a.d_law_stops ["_law_knots","_law_knot","_law_some"] (Ze6 K):=by
 refine T.fn_law_stops.ok Zcx (fun vs H Q E h=>?_) (fun cdv A outer s H vs Q E hr h=>⟨_,ZhQ T hr,?_⟩)
 ·obtain ⟨kn,cp,m,k,es,C,rfl,_⟩:=h;rfl
 ·obtain ⟨kn,cp,m,k,es,C,rfl,hN,hC,ok,hmk,hk,hz,hdry,q⟩:=h
  show Zdr K _ [some (.ref kn),some (.int k),some (.ref cp),none,none,none] H
  unfold Zdr
  have big:(20000:Nat)<=sizeLine:=by decide
  have mz:=Ze0 ok
  have epl:(Zav es).length=es.length:=Zqi ..
  have two:∀ {k:Nat},m<k->k<m+1+es.length->∃ (e:En) (x y:Nat),e∈es/\atI (Zqk (m+1) V.non ++ es.map fun e=>V.ref e.1) (k:Int)=some (.ref e.1)/\e.2.1 / 2=x/\e.2.2 / 2=y/\Zba (Zbe m (Zav es)) k=[x,y]:=fun {k} h1 h2=>by
   obtain ⟨j,hj⟩:∃ j,k=m+1+j:=⟨k - m - 1,by omega⟩
   obtain ⟨e,he⟩:∃ e,es[j]? = some e:=⟨_,Zqn (by omega)⟩
   have hpe:(Zav es)[j]? = some e.2:=by rw [Zqy,he];rfl
   obtain ⟨o1,o2,o3,o4⟩:=ok _ _ hpe
   obtain ⟨x,hx⟩:=Zr7 (by omega:0<=e.2.1 / 2)
   obtain ⟨y,hy⟩:=Zr7 (by omega:0<=e.2.2 / 2)
   refine ⟨e,x,y,Zqw he,by rw [hj];exact ZiW hN he,hx,hy,?_⟩
   rw [hj,ZdF hpe,hx,hy,Zr6,Zr6]
  obtain ⟨e,x,y,hem,hat,hx,hy,hlo⟩:=two hmk hk
  walk_at "gs"
  refine ⟨_,_,.inl (.of hN.lst),hat,_,_,.inr (.of (hN.tup e hem)),rfl,⟨by omega,by omega⟩,_,_,.inl (.of hN.lst),hat,_,_,.inr (.of (hN.tup e hem)),rfl,⟨by omega,by omega⟩,by show 2<=sizeLine;decide,?_⟩
  rw [hx,hy]
  intro tp H1 n1 sd H2 n2
  have s02:=n1.same.trans n2.same
  have fsd:H sd=none:=n1.same.nil n2.was
  have nts:tp≠sd:=Zaj n1.at_ n2.was
  have lts:∀ l∈Zba (Zbe m (Zav es)) k,l<m+1+es.length:=fun l hl=>by have:=mz.lt k l hl;omega
  refine ⟨fun n σ H3=>ZaZ H H3/\∃ (ts ks:List Nat) (v5:Option V),H3 tp=some (.lst (ts.map nv))/\H3 sd=some (.dK (kvM ks))/\ks.Nodup/\(∀ x∈ks,x<m+1+es.length)/\(∀ t∈ts,t<m+1+es.length/\¬ ML.Leak (Zba (Zbe m (Zav es))) (fun c=>c∈C) t)/\ts.length<=2+2 * ks.length/\n=3 * (m+1+es.length - ks.length)+ts.length/\σ=[some (.ref kn),some (.int k),some (.ref cp),some (.ref tp),some (.ref sd),v5],⟨_,s02,[x,y],[],_,n2.same _ _ n1.at_,n2.at_,Zq2,fun x hx=>by simp at hx,fun t ht=>by rw [<- hlo] at ht;exact ⟨lts t ht,hdry t ht⟩,by simp,rfl,rfl⟩,?_⟩
  rintro n σ H3 ⟨s3,ts,ks,v5,h3,d3,nd3,lt3,ok3,ll3,rfl,rfl⟩
  have hkl:=Zcm nd3 lt3
  have hN3:=hN.same s3
  walk_at "gs"
  refine .inl ⟨_,.inl (.of h3),?_⟩
  rw [Zqi]
  by_cases c1:(0:Int)<(ts.length:Int)
  case neg =>
   rw [if_neg c1]
   exact q H3 s3
  rw [if_pos c1]
  obtain ⟨v,t,rfl⟩:∃ v t,ts=v ++ [t]:=by
   rcases ZrL ts with z | ⟨v,t,z⟩
   ·rw [z] at c1;simp at c1
   ·exact ⟨v,t,by rw [z,ZrM]⟩
  rw [Zqj,Zqx] at ll3
  obtain ⟨htb,htl⟩:=ok3 t (by simp)
  have okv:∀ t∈v,t<m+1+es.length/\¬ ML.Leak (Zba (Zbe m (Zav es))) (fun c=>c∈C) t:=fun t ht=>ok3 t (ZqJ _ ht)
  refine ⟨_,fun _ _ z=>z,?_⟩
  have el:((v ++ [t]).map nv)[((v ++ [t]).map nv).length - 1]? = some (V.int (t:Nat)):=by
   rw [Zqo,Zqj,List.map_singleton,Zqx,Nat.add_sub_cancel,ZqD (ZrN _),ZrT]
   rfl
  have ed:((v ++ [t]).map nv).dropLast=v.map nv:=by rw [Zqo,List.map_singleton,List.dropLast_concat]
  refine ⟨.inl ⟨trivial,_,.of h3⟩,tp,_,_,rfl,trivial,h3,el,?_⟩
  rw [ed]
  have ftp:H tp=none:=n1.was
  have s4:ZaZ H (upd H3 tp (.lst (v.map nv))):=s3.put ftp
  have t4:upd H3 tp (.lst (v.map nv)) tp=some (.lst (v.map nv)):=Zal
  have d4:upd H3 tp (.lst (v.map nv)) sd=some (.dK (kvM ks)):=by rw [Zak nts.symm];exact d3
  generalize upd H3 tp (.lst (v.map nv))=H4 at s4 t4 d4 ⊢
  have hC4:=s4 _ _ hC
  rw [<- Zf3] at hC4
  refine ⟨_,.inl (.of hC4),rfl,ZlO _,?_⟩
  rw [ZmZ,in_nv]
  have stay:∃ m',m'<3 * (m+1+es.length - ks.length)+(v ++ [t]).length/\ZaZ H H4/\∃ (ts ks:List Nat) (v5:Option V),H4 tp=some (.lst (ts.map nv))/\H4 sd=some (.dK (kvM ks))/\ks.Nodup/\(∀ x∈ks,x<m+1+es.length)/\(∀ t∈ts,t<m+1+es.length/\¬ ML.Leak (Zba (Zbe m (Zav es))) (fun c=>c∈C) t)/\ts.length<=2+2 * ks.length/\m'=3 * (m+1+es.length - ks.length)+ts.length/\[some (.ref kn),some (.int k),some (.ref cp),some (.ref tp),some (.ref sd),some (.int (t:Nat))]=[some (.ref kn),some (.int k),some (.ref cp),some (.ref tp),some (.ref sd),v5] :=
   ⟨_,by rw [Zqj,Zqx];exact ZrX _,s4,v,ks,_,t4,d4,nd3,lt3,okv,by omega,rfl,rfl⟩
  by_cases hin:t∈C
  ·rw [decide_eq_true hin,if_neg (by simp)]
   exact stay
  rw [decide_eq_false hin,if_pos rfl]
  refine ⟨sd,_,rfl,Zfl.k (k:=.inl (t:Int)) d4,?_⟩
  rw [ZiG]
  by_cases hks:t∈ks
  ·rw [decide_eq_true hks,if_neg (by simp)]
   exact stay
  rw [decide_eq_false hks,if_pos rfl]
  have kl2:ks.length+1<=m+1+es.length:=Zcm (xs:=t :: ks) (ZqY.mpr ⟨hks,nd3⟩) fun x hx=>by
   rcases Zqt.mp hx with rfl | hx
   ·exact htb
   ·exact lt3 x hx
  refine ⟨sd,_,rfl,Zky.k (k:=.inl (t:Int)) d4 (by rw [Zi8];omega),?_⟩
  rw [ZiV]
  have s5:ZaZ H (upd H4 sd (.dK (kvM (Zgi ks t)))):=s4.put fsd
  have t5:upd H4 sd (.dK (kvM (Zgi ks t))) tp=some (.lst (v.map nv)):=by rw [Zak nts];exact t4
  have d5:upd H4 sd (.dK (kvM (Zgi ks t))) sd=some (.dK (kvM (Zgi ks t))):=Zal
  generalize upd H4 sd (.dK (kvM (Zgi ks t)))=H5 at s5 t5 d5 ⊢
  have hN5:=hN.same s5
  have htm:m<t:=by
   refine ZrY fun z=>htl (.spring hin (ZjI z))
  obtain ⟨e',x',y',hem',hat',hx',hy',hlo'⟩:=two htm htb
  refine ⟨_,_,.inl (.of hN5.lst),hat',?_⟩
  rw [if_neg (by simp)]
  refine ⟨.inl ⟨trivial,_,.of t5⟩,_,_,.inl (.of hN5.lst),hat',_,_,.inr (.of (hN5.tup e' hem')),rfl,⟨by omega,by omega⟩,?_⟩
  rw [hx']
  refine ⟨tp,_,_,rfl,rfl,t5,by rw [Zqi];omega,?_⟩
  have s6:ZaZ H (upd H5 tp (.lst (v.map nv ++ [.int (x':Nat)]))):=s5.put ftp
  have t6:upd H5 tp (.lst (v.map nv ++ [.int (x':Nat)])) tp=some (.lst ((v ++ [x']).map nv)):=by rw [Zal,Zqo];rfl
  have d6:upd H5 tp (.lst (v.map nv ++ [.int (x':Nat)])) sd=some (.dK (kvM (Zgi ks t))):=by rw [Zak nts.symm];exact d5
  generalize upd H5 tp (.lst (v.map nv ++ [.int (x':Nat)]))=H6 at s6 t6 d6 ⊢
  have hN6:=hN.same s6
  refine ⟨.inl ⟨trivial,_,.of t6⟩,_,_,.inl (.of hN6.lst),hat',_,_,.inr (.of (hN6.tup e' hem')),rfl,⟨by omega,by omega⟩,?_⟩
  rw [hy']
  refine ⟨tp,_,_,rfl,rfl,t6,by rw [Zqi,Zqj,Zqx];omega,?_⟩
  have hal:(Zgi ks t).length=ks.length+1:=by unfold Zgi;rw [if_neg hks,Zqj];rfl
  have okl:∀ l∈Zba (Zbe m (Zav es)) t,l<m+1+es.length/\¬ ML.Leak (Zba (Zbe m (Zav es))) (fun c=>c∈C) l:=fun l hl=>⟨by have:=mz.lt t l hl;omega,fun z=>htl (.up hin hl z)⟩
  rw [hlo'] at okl
  refine ⟨_,?_,s6.put ftp,v ++ [x'] ++ [y'],Zgi ks t,_,by rw [Zal,Zqo (l₁:=v ++ [x'])];rfl,by rw [Zak nts.symm];exact d6,Zpz nd3,fun x hx=>?_,fun l hl=>?_,?_,rfl,rfl⟩
  ·rw [hal,Zqj,Zqj,Zqj,Zqx,Zqx,Zqx];omega
  ·rcases Zhr.mp hx with g | rfl
   ·exact lt3 x g
   ·exact htb
  ·rcases Zqp.mp hl with g | g
   ·rcases Zqp.mp g with g' | g'
    ·exact okv l g'
    ·rw [Zql] at g';rw [g'];exact okl x' (by simp)
   ·rw [Zql] at g;rw [g];exact okl y' (by simp)
  ·rw [hal,Zqj,Zqj,Zqx,Zqx];omega
noncomputable def ZbN (_:ZpF):Sp:=fun vs H Q _=>∃ (cp kn mk:Addr) (m k s:Nat) (es:List En) (C lvs:List Nat),vs=[.ref cp,.ref kn,.int k,.int s,.ref mk]/\PN H kn (m+1) es/\H cp=some (.lst (C.map nv))/\H mk=some (.lst (lvs.map nv))/\MF.Ok m (Zav es)/\m<k/\k<m+1+es.length/\m+1+es.length<=1000/\lvs.length=m+1+es.length/\s<=6/\ML.Lab (Zba (Zbe m (Zav es))) (fun k=>lvs.getD k 0) s k C /\
 ∀ H',ZaZ H H'->Q (.bl true) H'
theorem Zmg {xs:List Nat}{i x:Nat} (h:xs[i]? = some x):atI (xs.map nv) (i:Int)=some (.int (x:Nat)):=by
 have hi:=(Zqm.mp h).1
 rw [Zde .non (by omega) (by rw [Zqi];omega),Zr6,Zqs,Zqy,h]
 rfl
noncomputable def Zcr (K:ZpF):TS:=(ZaQ (Zcv (tOr (Zkw (ZiB K (tCB (Zek K) (Zaf (Zad 0) (Zaf (tC (.ty "list")) Zas))))) (Zkw (ZbH (Zfg (cI2 fun i j=>.bl (decide (i<j))) (cI2 fun i j=>.bl (decide (i<=j))) (tC (.int 0)) (tCB (ZiC K) (Zaf (Zad 0) Zas)) (Zad 3))))) (Zck (tC (.bl false))) Zbt)
  (ZaQ (Zbs (Zbb (ZfM K) [] E0 (Zaf (Zad 1) (Zaf (Zad 2) Zas))) (Zan 5))
  (ZaQ (Zbs (tC (.int 0)) (Zan 6))
  (ZaQ (ZeN (ZdV (Zaf (tCB (ZiC K) (Zaf (Zad 0) Zas)) Zas)) (Zan 7) (ZaQ (Zcv (tOr (Zkw (ZiB K (Zbb (Zdi K) [] E0 (Zaf (tOp (cIx K) (Zad 0) (Zad 7)) Zas)))) (tOr (ZbH (Zcp (tOp (cIx K) (Zad 0) (Zad 7)) (Zad 5))) (ZbH (tOp (cEq K) (tOp (cIx K) (Zad 0) (Zad 7)) (Zad 2))))) (Zck (tC (.bl false))) Zbt)
  (ZaQ (Zcv (Znt (ZbH (tOp (cI2 fun i j=>.bl (decide (j<i))) (Zad 7) (tC (.int 0)))) (Zkw (ZbH (tOp (cI2 fun i j=>.bl (decide (i<j))) (tOp (cIx K) (Zad 0) (tOp (cI2 fun i j=>.int (i - j)) (Zad 7) (tC (.int 1)))) (tOp (cIx K) (Zad 0) (Zad 7)))))) (Zck (tC (.bl false))) Zbt)
  (Zbs (tCB cMax (Zaf (Zad 6) (Zaf (tOp (cIx K) (Zad 4) (tOp (cIx K) (Zad 0) (Zad 7))) Zas))) (Zan 6)))))
  (Zck (ZhH (tOp (cEq K) (tOp Zd5 (Zad 6) (tC (.int 1))) (tOp (cIx K) (Zad 4) (Zad 2))) (Zbb (Ze6 K) [] E0 (Zaf (Zad 1) (Zaf (Zad 2) (Zaf (Zad 0) Zas))))))))))
theorem ZfG (T:Txt K mg a) {cdv:Value}{A:Around}{outer:List Env}{s:Shared}{H:Hp}{E:XK} (hr:Room 1 (A.deeper (envOfC "_law_good_cut" (Zab ZaI) s.heap.objs.size a.f_law_good_cut cdv))) :
  PSs (Zcd CX0 P w K mg base Zd6 "_law_good_cut" (Zab ZaI) a.f_law_good_cut cdv A outer s H E).nox (Zai ZaI) (Zcr K) :=
 (Zac (Zbn (PW.pt (Zfs (Zd4 (Zdw (Zaz ZeG (by rfl) T.no_isinstance PyProof.Rows.boot_isinstance (Zaa (cv 0) (Zaa (Zf0 (v:=.ty "list") rfl T.no_list PyProof.Rows.boot_list rfl) Zae))))) (Zd2 (Zd4 (Zn6 Zlk o_le Zag (Zaz ZeF (by rfl) T.no_len PySem.boot_len (Zaa (cv 0) Zae)) (cv 3)))))) (Zah (ZaB ZdS)) ZaA)
   (Zac (Zap (i:=5) ZbB.nd rfl (by walk_at "o") (Zar (Zi0 T) (hr.mono (by decide)) rfl T.mg_law_cone T.fn_law_cone.kp T.bi_law_cone .nil ZaR (Zaa (cv 1) (Zaa (cv 2) Zae))))
   (Zac (Zap (i:=6) ZbB.nd rfl (by walk_at "o") Zag)
   (Zac (ZbW PassesOwn.never rfl (ZbD rfl T.no_range (Zaa (Zaz ZeF (by rfl) T.no_len PySem.boot_len (Zaa (cv 0) Zae)) Zae)) (ZaE (i:=7) ZbB.nd rfl (by walk_at "o")) (Zac (Zbn (PW.pt (Zfs (Zd4 (Zdw (Zar (Zfd T) (hr.mono (by decide)) rfl T.mg_law_whole T.fn_law_whole.kp T.bi_law_whole .nil ZaR (Zaa (ZaG ZaH (cv 0) (cv 7) (fun _ _=>rfl)) Zae)))) (Zfs (Zms (Zca (Zb1 hr) (ZaG ZaH (cv 0) (cv 7) (fun _ _=>rfl)) (cv 5))) (Zd2 (ZaX (Zfw (hr8 hr)) (ZaG ZaH (cv 0) (cv 7) (fun _ _=>rfl)) (cv 2) (Zau _)))))) (Zah (ZaB ZdS)) ZaA)
   (Zac (Zbn (PW.pt (ZgE (ZaX o_gt (cv 7) Zag (Zau _)) (ZeV (Zd4 (ZaX Zlk (ZaG ZaH (cv 0) (Zam Zhn (cv 7) Zag) (fun _ _=>rfl)) (ZaG ZaH (cv 0) (cv 7) (fun _ _=>rfl)) (Zau _)))))) (Zah (ZaB ZdS)) ZaA)
   (Zah (Zap (i:=6) ZbB.nd rfl (by walk_at "o") (Zaz (Zpm rfl) (by rfl) T.no_max PyProof.Rows.boot_max (Zaa (cv 6) (Zaa (ZaG ZaH (cv 4) (ZaG ZaH (cv 0) (cv 7) (fun _ _=>rfl)) (fun _ _=>rfl)) Zae))))))))
   (Zah (ZaB (ZlU (ZeY (Zfw (hr8 hr)) (Zam ZbM (cv 6) Zag) (ZaG ZaH (cv 4) (cv 2) (fun _ _=>rfl)) (Zau _)) (Zh4 (Zar (Zia T) (hr.mono (by decide)) rfl T.mg_law_stops T.fn_law_stops.kp T.bi_law_stops .nil ZaR (Zaa (cv 1) (Zaa (cv 2) (Zaa (cv 0) Zae))))))))))))
theorem Zdz (T:Txt K mg a):FnOk P w K mg base CX0 2 a.f_law_good_cut a.d_law_good_cut ["_law_some","_law_knots","_law_knot","_law_size","_law_marks"] (ZbN K):=by
 refine T.fn_law_good_cut.ok ZbB (fun vs H Q E h=>?_) (fun cdv A outer s H vs Q E hr h=>⟨_,ZfG T hr,?_⟩)
 ·obtain ⟨cp,kn,mk,m,k,s,es,C,lvs,rfl,_⟩:=h;rfl
 ·obtain ⟨cp,kn,mk,m,k,s,es,C,lvs,rfl,hN,hC,hM,ok,hmk,hk,hz,hll,s6,L,q⟩:=h
  show Zcr K _ [some (.ref cp),some (.ref kn),some (.int k),some (.int s),some (.ref mk),none,none,none] H
  unfold Zcr
  have big:(20000:Nat)<=sizeLine:=by decide
  have mz:=Ze0 ok
  obtain ⟨c0,hc0,ht0⟩:=L.top
  have hCl:=L.len
  have hC0:0<C.length:=ZrK hc0
  walk_at "gs"
  refine ⟨_,true,.lst hC,rfl,?_⟩
  rw [if_neg (by simp)]
  refine .inl ⟨_,.inl (.of hC),?_⟩
  rw [Zqi]
  rw [if_pos (by omega),if_neg (by omega)]
  refine ⟨kn,m,k,es,rfl,hN,ok,hk,hz,fun hg hks H1 s1 dh hall=>?_⟩
  have hC1:=s1 _ _ hC
  have hM1:=s1 _ _ hM
  refine .inl ⟨_,.inl (.of hC1),by rw [Zqi];omega,by rw [Zqi];omega,?_⟩
  rw [Zqi,Zr6]
  have lvC:∀ c∈C,c<lvs.length/\c≠k/\c∈hks:=fun c hc=>by
   obtain ⟨h1,h2⟩:=L.dn c hc
   exact ⟨by have:=h1.le mz.lt;omega,h2,hall c h1⟩
  refine Zco (fun i σ H2=>H2=H1/\∃ (h:Nat) (v7:Option V),(∀ j c,j<i->C[j]? = some c->lvs.getD c 0<=h)/\(h=0\/∃ c∈C,lvs.getD c 0=h)/\σ=[some (.ref cp),some (.ref kn),some (.int k),some (.int s),some (.ref mk),some (.ref hg),some (.int (h:Nat)),v7]) ⟨rfl,0,_,fun j c hj=>absurd hj (Zr4 _),.inl rfl,rfl⟩ ?_ ?_
  ·rintro i σ H2 hi ⟨rfl,h,v7,hu,hh,rfl⟩
   obtain ⟨c,hc⟩:∃ c,C[i]? = some c:=⟨_,Zqn hi⟩
   have hcm:=Zqw hc
   obtain ⟨hcl,hck,hch⟩:=lvC c hcm
   have hat:=Zmg hc
   walk_at "gs"
   rw [Int.zero_add]
   refine ⟨_,_,.inl (.of hC1),hat,?_⟩
   refine ⟨_,rfl,?_⟩
   walk_at "gs"
   refine ⟨_,_,.inl (.of hC1),hat,?_⟩
   refine ⟨hg,_,rfl,Zfl.k (k:=.inl (c:Int)) dh,?_⟩
   rw [ZiG,decide_eq_true hch,if_neg (by simp)]
   refine ⟨_,_,.inl (.of hC1),hat,?_⟩
   show if ((c:Nat):Int)=((k:Nat):Int) then _ else _
   rw [if_neg (by omega)]
   have fin:True/\∃ (h':Nat) (v7:Option V),(∀ j c,j<i+1->C[j]? = some c->lvs.getD c 0<=h')/\(h'=0\/∃ c∈C,lvs.getD c 0=h')/\[some (.ref cp),some (.ref kn),some (.int k),some (.int s),some (.ref mk),some (.ref hg),some (.int (if ((lvs.getD c 0:Nat):Int) > (h:Int) then ((lvs.getD c 0:Nat):Int) else (h:Int))),some (.int (i:Nat))]=[some (.ref cp),some (.ref kn),some (.int k),some (.int s),some (.ref mk),some (.ref hg),some (.int (h':Nat)),v7]:=by
    refine ⟨trivial,(if lvs.getD c 0 > h then lvs.getD c 0 else h),some (.int (i:Nat)),fun j c' hj hc'=>?_,?_,?_⟩
    ·rcases ZrO j i with z | z
     ·have:=hu j c' z hc'
      split <;> omega
     ·have:j=i:=by omega
      subst this
      rw [hc] at hc'
      cases hc'
      split <;> omega
    ·by_cases g:lvs.getD c 0 > h
     ·rw [if_pos g];exact .inr ⟨c,hcm,rfl⟩
     ·rw [if_neg g];exact hh
    ·have:(if ((lvs.getD c 0:Nat):Int) > (h:Int) then ((lvs.getD c 0:Nat):Int) else (h:Int))=((if lvs.getD c 0 > h then lvs.getD c 0 else h:Nat):Int):=by
      split <;> split <;> omega
     rw [this]
   by_cases hi0:i=0
   ·rw [if_neg (by omega)]
    exact ⟨_,_,.inl (.of hC1),hat,_,_,.inl (.of hM1),Zgh hcl,fin⟩
   rw [if_pos (by omega),show (i:Int) - 1=((i - 1:Nat):Int) by omega]
   obtain ⟨y,hy⟩:∃ y,C[i - 1]? = some y:=⟨_,Zqn (by omega)⟩
   have hlt:y<c:=by
    obtain ⟨a1,rfl⟩:=Zqm.mp hc
    obtain ⟨b1,rfl⟩:=Zqm.mp hy
    exact Zru.mp L.ris (i - 1) i b1 a1 (by omega)
   refine ⟨_,_,.inl (.of hC1),Zmg hy,_,_,.inl (.of hC1),hat,?_⟩
   show if ¬ ((y:Int)<(c:Int)) then _ else _
   rw [if_neg (by omega)]
   exact ⟨_,_,.inl (.of hC1),hat,_,_,.inl (.of hM1),Zgh hcl,fin⟩
  ·rintro σ H2 ⟨rfl,h,v7,hu,hh,rfl⟩
   walk_at "gs"
   refine ⟨_,_,.inl (.of hM1),Zgh (by omega:k<lvs.length),?_⟩
   obtain ⟨j0,hj0⟩:=Zq5.mp hc0
   have h1:=hu j0 c0 (Zqm.mp hj0).1 hj0
   have ht0:lvs.getD c0 0+1=lvs.getD k 0:=ht0
   have h2:h+1=lvs.getD k 0:=by
    rcases hh with z | ⟨c,hc,z⟩
    ·omega
    ·have h3:lvs.getD c 0+1<=lvs.getD k 0:=L.le c hc
     omega
   show if ((h:Int)+1)=((lvs.getD k 0:Nat):Int) then _ else _
   rw [if_pos (by omega)]
   exact ⟨kn,cp,m,k,es,C,rfl,hN.same s1,hC1,ok,hmk,hk,hz,L.dry,fun H3 s3=>q H3 (s1.trans s3)⟩
noncomputable def sp_law (K:ZpF):Sp:=fun vs H Q _=>∃ (p:Addr) (ns:List Int),vs=[.ref p]/\SqL K H p (ns.map V.int)/\ns.length<=63/\∀ H',Q (.bl true) H'
noncomputable def Zk8 (a:Adr) (K:ZpF):TS:=(ZaQ (Zbs (Zbb (Zbf K) [] E0 (Zaf (Zad 0) (Zaf (tC (.int 0)) Zas))) (Zan 1))
  (ZaQ (Zbs (tOp (cIx K) (Zgr (Zn7 [(.int 3),(.int 2),(.int 4),(.int 2),(.int 3),(.int 5),(.int 2),(.int 3),(.int 6)])) (tOp (ZbL (fun _ j=>0<j) fun i j=>.int (i % j)) (Zbb (Zbf K) [] E0 (Zaf (Zad 0) (Zaf (tC (.int 1)) Zas))) (tC (.int 9)))) (Zan 2))
  (ZaQ (Zbs (tOp Zd5 (tC (.int 2)) (tOp (ZbL (fun _ j=>0<j) fun i j=>.int (i % j)) (tOp (ZbL ZdR fun i j=>.int (i / j)) (Zad 1) (tC (.int 6))) (tC (.int 9)))) (Zan 3))
  (ZiN (Zcv (ZbH (tOp (cI2 fun i j=>.bl (decide (i<j))) (tOp (ZbL (fun _ j=>0<j) fun i j=>.int (i % j)) (Zad 1) (tC (.int 6))) (tC (.int 5)))) (Zbs (tOp Zd5 (tOp Zd5 (Zad 2) (tC (.int 1))) (tOp (ZbL (fun _ j=>0<j) fun i j=>.int (i % j)) (tOp (ZbL ZdR fun i j=>.int (i / j)) (Zad 1) (tC (.int 6))) (tOp (cI2 fun i j=>.int (i - j)) (tC (.int 10)) (Zad 2)))) (Zan 3)) Zbt)
  (ZaQ (Zbs (tC (.int 42)) (Zan 4))
  (ZiN (Zcv (ZbH (tOp (cI2 fun i j=>.bl (decide (j<i))) (Zad 2) (tC (.int 4)))) (Zbs (tC (.int 32)) (Zan 4)) Zbt)
  (ZiN (Zbs (ZcU (ZdV (Zaf (tOp ZgW (tOp (ZbL (fun _ j=>0<j) fun i j=>.int (i % j)) (tOp (ZbL ZdR fun i j=>.int (i / j)) (Zad 1) (tC (.int 60))) (tC (.int 60))) (tCB cInt (Zaf (ZhH (tOp (cEq K) (tOp (ZbL (fun _ j=>0<j) fun i j=>.int (i % j)) (tOp (ZbL ZdR fun i j=>.int (i / j)) (Zad 1) (tC (.int 6))) (tC (.int 10))) (tC (.int 3))) (tOp (cI2 fun i j=>.bl (decide (i<j))) (Zad 2) (tC (.int 4)))) Zas))) Zas)) 1 [] (Zan 0) Zeo (tOp ZgW (tC (.int 5)) (tOp (ZbL (fun _ j=>0<j) fun i j=>.int (i % j)) (Zad 0) (tC (.int 4))))) (Zan 5))
  (ZaQ (Zbs (Zbb (Zcw K) [] E0 (Zaf (Zad 3) (Zaf (Zbb (Zbf K) [] E0 (Zaf (Zad 0) (Zaf (tC (.int 2)) Zas))) (Zaf (tC (.int 16)) Zas)))) (Zan 6))
  (ZiN (Zcv (ZbH (tOp (cEq K) (tOp (ZbL (fun _ j=>0<j) fun i j=>.int (i % j)) (tOp (ZbL ZdR fun i j=>.int (i / j)) (Zbb (Zbf K) [] E0 (Zaf (Zad 0) (Zaf (tC (.int 1)) Zas))) (tC (.int 9))) (tC (.int 2))) (tC (.int 0)))) (Zbs (Zbb (Ze7 K) [] E0 (Zaf (Zad 3) (Zaf (tOp Zd5 (Zad 5) (Zbb (Ze8 K) [] E0 (Zaf (Zad 0) (Zaf (tC (.int 3)) (Zaf (tOp (ZbL (fun _ j=>0<j) fun i j=>.int (i % j)) (tOp (ZbL ZdR fun i j=>.int (i / j)) (Zbb (Zbf K) [] E0 (Zaf (Zad 0) (Zaf (tC (.int 1)) Zas))) (tC (.int 18))) (tOp (cI2 fun i j=>.int (i - j)) (Zad 4) (tC (.int 1)))) Zas))))) Zas))) (Zan 6)) Zbt)
  (ZiN (Zbs (Zbb (ZfL a K) [] E0 (Zaf (Zad 3) (Zaf (Zad 6) Zas))) (gTup K 2 (Zkp (Zan 7) (Zkp (Zan 8) gNil))))
  (ZiN (Zbs (Zmu a.c_Labels (ZbP a K) [] E0 (Zaf (Zad 7) (Zaf (Zad 2) Zas))) (Zan 9))
  (ZaQ (Zbs (Zgr Zas) (Zan 10))
  (ZiN (ZeN (ZdV (Zaf (tCB (ZiC K) (Zaf (Zad 8) Zas)) Zas)) (Zan 11) (ZaQ (ZbZ (tBM K "list" ZbI (Zad 10) (Zaf (ZbY a.c_Labels "label" (Zdk a K) [] E0 (Zad 9) (Zaf (Zad 11) Zas)) Zas)))
  (Zcv (tOr (Zkw (ZiB K (Zbb (Zdi K) [] E0 (Zaf (tOp (cIx K) (Zad 10) (Zad 11)) Zas)))) (ZbH (tOp (cNe K) (tOp (cEq K) (tOp (cIx K) (Zad 10) (Zad 11)) (tC (.int 0))) (tOp cIs (tOp (cIx K) (Zad 8) (Zad 11)) (tC .non))))) (Zck (tC (.bl false))) Zbt)))
  (ZaQ (ZeN (ZlG (Zaf (tOp Zd5 (Zad 3) (tC (.int 1))) (Zaf (tCB (ZiC K) (Zaf (Zad 8) Zas)) Zas))) (Zan 11) (ZaQ (Zbs (ZbY a.c_Labels "cut" (ZcV a K) [] E0 (Zad 9) (Zaf (Zad 11) Zas)) (Zan 12))
  (ZaQ (Zcv (Zkw (ZiB K (Zbb (ZbN K) [] E0 (Zaf (Zad 12) (Zaf (Zad 8) (Zaf (Zad 11) (Zaf (Zad 2) (Zaf (Zad 10) Zas)))))))) (Zck (tC (.bl false))) Zbt)
  (ZaQ (ZbZ (tBM K "list" ZbI (Zad 12) (Zaf (Zad 11) Zas)))
  (Zcv (Zkw (ZiB K (Zbb (ZbN K) [] E0 (Zaf (ZbY a.c_Labels "cut" (ZcV a K) [] E0 (Zad 9) (Zaf (Zad 11) Zas)) (Zaf (Zad 8) (Zaf (Zad 11) (Zaf (Zad 2) (Zaf (Zad 10) Zas)))))))) (Zck (tC (.bl false))) Zbt)))))
  (Zck (tOp (cEq K) (ZbY a.c_Fold "total" (ZaM a K) [] E0 (Zad 7) Zas) (tCB (ZiC K) (Zaf (Zad 8) Zas))))))))))))))))))
theorem tm_law (T:Txt K mg a) {cdv:Value}{A:Around}{outer:List Env}{s:Shared}{H:Hp}{E:XK} (hr:Room 7 (A.deeper (envOfC "law" (Zab ZfT) s.heap.objs.size a.f_law cdv))) :
  PSs (Zcd CX0 P w K mg base ZpD "law" (Zab ZfT) a.f_law cdv A outer s H E).nox (Zai ZfT) (Zk8 a K) :=
 (Zac (Zap (i:=1) Zb8.nd rfl (by walk_at "o") (Zar (ZbA T) (hr.mono (by decide)) rfl T.mg_law_cell_at T.fn_law_cell_at.kp T.bi_law_cell_at .nil ZaR (Zaa (cv 0) (Zaa Zag Zae))))
   (Zac (Zap (i:=2) Zb8.nd rfl (by walk_at "o") (ZaG ZaH (ZbU (Zh5 (vs:=[(.int 3),(.int 2),(.int 4),(.int 2),(.int 3),(.int 5),(.int 2),(.int 3),(.int 6)]) rfl)) (Zam Zcb (Zar (ZbA T) (hr.mono (by decide)) rfl T.mg_law_cell_at T.fn_law_cell_at.kp T.bi_law_cell_at .nil ZaR (Zaa (cv 0) (Zaa Zag Zae))) Zag) (fun _ _=>rfl)))
   (Zac (Zap (i:=3) Zb8.nd rfl (by walk_at "o") (Zam ZbM Zag (Zam Zcb (Zam Za5 (cv 1) Zag) Zag)))
   (Zci (Zbn (ZaX Zlk (Zam Zcb (cv 1) Zag) Zag (Zau _)) (Zah (Zap (i:=3) Zb8.nd rfl (by walk_at "o") (Zam ZbM (Zam ZbM (cv 2) Zag) (Zam Zcb (Zam Za5 (cv 1) Zag) (Zam Zhn Zag (cv 2)))))) ZaA)
   (Zac (Zap (i:=4) Zb8.nd rfl (by walk_at "o") Zag)
   (Zci (Zbn (ZaX o_gt (cv 2) Zag (Zau _)) (Zah (Zap (i:=4) Zb8.nd rfl (by walk_at "o") Zag)) ZaA)
   (Zci (ZeX (i:=5) (N:=["_law_k"]) (k:=1) (sel:=[]) (CScope.of (Zab ZfT).names (by decide +kernel)) (CNames.of ZpD (by decide +kernel)) rfl (ZbD rfl T.no_range (Zaa (Zam ZdB (Zam Zcb (Zam Za5 (cv 1) Zag) Zag) (ZfZ c_int (by rfl) T.no_int PyProof.Rows.boot_int (Zaa (ZlU (ZeY (Zfw (hr8 hr)) (Zam Zcb (Zam Za5 (cv 1) Zag) Zag) Zag (Zau _)) (Zh4 (ZeY Zlk (cv 2) Zag (Zau _)))) Zae))) Zae)) (fun _ _ _ _=>(ZaE (i:=0) (show ZqO (["_law_k"]:List Str) by decide +kernel) rfl (by walk_at "o"))) (fun _ _ _ _=>ZeW) (fun _ _ _ _=>(Zam ZdB Zag (Zam Zcb (cv 0) Zag))) Zb8.nd rfl (by walk_at "o") rfl)
   (Zac (Zap (i:=6) Zb8.nd rfl (by walk_at "o") (Zar (Zeu T) (hr.mono (by decide)) rfl T.mg_law_digit_pairs T.fn_law_digit_pairs.kp T.bi_law_digit_pairs .nil ZaR (Zaa (cv 3) (Zaa (Zar (ZbA T) (hr.mono (by decide)) rfl T.mg_law_cell_at T.fn_law_cell_at.kp T.bi_law_cell_at .nil ZaR (Zaa (cv 0) (Zaa Zag Zae))) (Zaa Zag Zae)))))
   (Zci (Zbn (ZaX (Zfw (hr8 hr)) (Zam Zcb (Zam Za5 (Zar (ZbA T) (hr.mono (by decide)) rfl T.mg_law_cell_at T.fn_law_cell_at.kp T.bi_law_cell_at .nil ZaR (Zaa (cv 0) (Zaa Zag Zae))) Zag) Zag) Zag (Zau _)) (Zah (Zap (i:=6) Zb8.nd rfl (by walk_at "o") (Zar (Zib T) (hr.mono (by decide)) rfl T.mg_law_pairs T.fn_law_pairs.kp T.bi_law_pairs .nil ZaR (Zaa (cv 3) (Zaa (Zam ZbM (cv 5) (Zar (Zic T) (hr.mono (by decide)) rfl T.mg_law_mixed T.fn_law_mixed.kp T.bi_law_mixed .nil ZaR (Zaa (cv 0) (Zaa Zag (Zaa (Zam Zcb (Zam Za5 (Zar (ZbA T) (hr.mono (by decide)) rfl T.mg_law_cell_at T.fn_law_cell_at.kp T.bi_law_cell_at .nil ZaR (Zaa (cv 0) (Zaa Zag Zae))) Zag) (Zam Zhn (cv 4) Zag)) Zae))))) Zae))))) ZaA)
   (Zci (Zla (Zar (ZiZ T) (hr.mono (by decide)) rfl T.mg_law_fold T.fn_law_fold.kp T.bi_law_fold .nil ZaR (Zaa (cv 3) (Zaa (cv 6) Zae))) (Zny rfl (ZfB (ZaE (i:=7) Zb8.nd rfl (by walk_at "o")) (ZfB (ZaE (i:=8) Zb8.nd rfl (by walk_at "o")) Zlc))))
   (Zci (Zap (i:=9) Zb8.nd rfl (by walk_at "o") (Zle T.mk_Labels (Zew T) (hr.mono (by decide)) rfl T.mg_Labels T.bi_Labels___init__ .nil Zhj (Zaa (cv 7) (Zaa (cv 2) Zae))))
   (Zac (Zap (i:=10) Zb8.nd rfl (by walk_at "o") (ZbU Zae))
   (Zci (ZbW PassesOwn.never rfl (ZbD rfl T.no_range (Zaa (Zaz ZeF (by rfl) T.no_len PySem.boot_len (Zaa (cv 8) Zae)) Zae)) (ZaE (i:=11) Zb8.nd rfl (by walk_at "o")) (Zac (Za0 (Zeg Zqa Zqb Zqc (mtr Za9) (cv 10) (Zaa (ZbT (cv 9) T.cl_Labels T.me_Labels_label (Zf1 T) (hr.mono (by decide)) T.bi_Labels_label .nil Zhj (Zaa (cv 11) Zae)) Zae)))
   (Zah (Zbn (PW.pt (Zfs (Zd4 (Zdw (Zar (Zfd T) (hr.mono (by decide)) rfl T.mg_law_whole T.fn_law_whole.kp T.bi_law_whole .nil ZaR (Zaa (ZaG ZaH (cv 10) (cv 11) (fun _ _=>rfl)) Zae)))) (Zd2 (ZaX (o_ne (hr8 hr)) (ZeY (Zfw (hr8 hr)) (ZaG ZaH (cv 10) (cv 11) (fun _ _=>rfl)) Zag (Zau _)) (ZeY Zoz (ZaG ZaH (cv 8) (cv 11) (fun _ _=>rfl)) Zb9 (Zau _)) (Zau _))))) (Zah (ZaB ZdS)) ZaA))))
   (Zac (ZbW PassesOwn.never rfl (Zh3 rfl T.no_range (Zaa (Zam ZbM (cv 3) Zag) (Zaa (Zaz ZeF (by rfl) T.no_len PySem.boot_len (Zaa (cv 8) Zae)) Zae))) (ZaE (i:=11) Zb8.nd rfl (by walk_at "o")) (Zac (Zap (i:=12) Zb8.nd rfl (by walk_at "o") (ZbT (cv 9) T.cl_Labels T.me_Labels_cut (Zev T) (hr.mono (by decide)) T.bi_Labels_cut .nil Zhj (Zaa (cv 11) Zae)))
   (Zac (Zbn (Zd4 (Zdw (Zar (Zdz T) (hr.mono (by decide)) rfl T.mg_law_good_cut T.fn_law_good_cut.kp T.bi_law_good_cut .nil ZaR (Zaa (cv 12) (Zaa (cv 8) (Zaa (cv 11) (Zaa (cv 2) (Zaa (cv 10) Zae)))))))) (Zah (ZaB ZdS)) ZaA)
   (Zac (Za0 (Zeg Zqa Zqb Zqc (mtr Za9) (cv 12) (Zaa (cv 11) Zae)))
   (Zah (Zbn (Zd4 (Zdw (Zar (Zdz T) (hr.mono (by decide)) rfl T.mg_law_good_cut T.fn_law_good_cut.kp T.bi_law_good_cut .nil ZaR (Zaa (ZbT (cv 9) T.cl_Labels T.me_Labels_cut (Zev T) (hr.mono (by decide)) T.bi_Labels_cut .nil Zhj (Zaa (cv 11) Zae)) (Zaa (cv 8) (Zaa (cv 11) (Zaa (cv 2) (Zaa (cv 10) Zae)))))))) (Zah (ZaB ZdS)) ZaA))))))
   (Zah (ZaB (ZeY (Zfw (hr8 hr)) (Zb6 (cv 7) T.cl_Fold T.me_Fold_total (ZaV T) (hr.mono (by decide)) T.bi_Fold_total .nil ZaR) (Zaz ZeF (by rfl) T.no_len PySem.boot_len (Zaa (cv 8) Zae)) (Zau _))))))))))))))))))
theorem ok_law (T:Txt K mg a):FnOk P w K mg base CX0 8 a.f_law a.d_law ["_law_script"] (sp_law K):=by
 refine T.fn_law.ok Zb8 (fun vs H Q E h=>?_) (fun cdv A outer s H vs Q E hr h=>⟨_,tm_law T hr,?_⟩)
 ·obtain ⟨p,ns,rfl,_⟩:=h;rfl
 ·obtain ⟨p,ns,rfl,hS,hl,k⟩:=h
  show Zk8 a K _ [some (.ref p),none,none,none,none,none,none,none,none,none,none,none,none] H
  unfold Zk8
  have big:(20000:Nat)<=sizeLine:=by decide
  walk_at "gs"
  refine ⟨p,ns,0,rfl,hS,fun c0=>?_⟩
  walk_at "gs"
  intro q1 H1 n1
  refine ⟨p,ns,1,rfl,n1.same.seq hS,fun c1=>⟨by omega,?_⟩⟩
  obtain ⟨s,hs,s2,s6⟩:∃ s:Nat,atI [V.int 3,V.int 2,V.int 4,V.int 2,V.int 3,V.int 5,V.int 2,V.int 3,V.int 6] (c1 % 9)=some (.int (s:Nat))/\2<=s/\s<=6:=by
   rcases (by omega:c1 % 9=0\/c1 % 9=1\/c1 % 9=2\/c1 % 9=3\/c1 % 9=4\/c1 % 9=5\/c1 % 9=6\/c1 % 9=7\/c1 % 9=8) with z | z | z | z | z | z | z | z | z <;> rw [z]
   ·exact ⟨3,rfl,by omega,by omega⟩
   ·exact ⟨2,rfl,by omega,by omega⟩
   ·exact ⟨4,rfl,by omega,by omega⟩
   ·exact ⟨2,rfl,by omega,by omega⟩
   ·exact ⟨3,rfl,by omega,by omega⟩
   ·exact ⟨5,rfl,by omega,by omega⟩
   ·exact ⟨2,rfl,by omega,by omega⟩
   ·exact ⟨3,rfl,by omega,by omega⟩
   ·exact ⟨6,rfl,by omega,by omega⟩
  refine ⟨_,_,.inl (.of n1.at_),hs,⟨by omega,by omega⟩,by omega,?_⟩
  have hS1:=n1.same.seq hS
  refine mid (fun σ' H'=>H'=H1/\∃ m:Nat,2<=m/\m<=10/\σ'=[some (.ref p),some (.int c0),some (.int s),some (.int m),none,none,none,none,none,none,none,none,none]) ?_ ?_
  ·intro N hN
   walk_at "gs"
   by_cases c:c0 % 6<5
   ·rw [if_pos c]
    have x1:=Zr9 (c0 / 6) (show 10 - (s:Int)≠0 by omega)
    have x2:=Zsb (c0 / 6) (show 0<10 - (s:Int) by omega)
    obtain ⟨m,hm⟩:=Zr7 (by omega:0<=(s:Int)+1+c0 / 6 % (10 - (s:Int)))
    walk_at "gs"
    rw [hm]
    exact hN _ _ ⟨rfl,m,by omega,by omega,rfl⟩
   ·rw [if_neg c]
    obtain ⟨m,hm⟩:=Zr7 (by omega:0<=2+c0 / 6 % 9)
    rw [hm]
    exact hN _ _ ⟨rfl,m,by omega,by omega,rfl⟩
  rintro σ2 H2 ⟨rfl,m,m2,m10,rfl⟩
  walk_at "gs"
  refine mid (fun σ' H'=>H'=H2/\∃ la:Nat,32<=la/\la<=42/\σ'=[some (.ref p),some (.int c0),some (.int s),some (.int m),some (.int la),none,none,none,none,none,none,none,none]) ?_ ?_
  ·intro N hN
   walk_at "gs"
   by_cases c:(4:Int)<(s:Int)
   ·rw [if_pos c]
    exact hN _ _ ⟨rfl,32,by omega,by omega,rfl⟩
   ·rw [if_neg c]
    exact hN _ _ ⟨rfl,42,by omega,by omega,rfl⟩
  rintro σ3 H3 ⟨rfl,la,la1,la2,rfl⟩
  refine mid (fun σ' H'=>ZaZ H3 H'/\∃ (cp:Addr) (xs:List Int),H' cp=some (.lst (xs.map V.int))/\xs.length<=59/\σ'=[some (.ref p),some (.int c0),some (.int s),some (.int m),some (.int la),some (.ref cp),none,none,none,none,none,none,none]) ?_ ?_
  ·intro N hN
   walk_at "gs"
   have key:∀ R:Int,0<=R->R<=59->(-2 ^ 62<=R/\R<2 ^ 62/\ZiA (Itr 0 R.toNat) [some (V.ref p),some (V.int c0),some (V.int s),some (V.int m),some (V.int la),none,none,none,none,none,none,none,none] 1 [] (Zan 0) Zeo (tOp ZgW (tC (V.int 5)) (tOp (ZbL (fun x j=>0<j) fun i j=>V.int (i % j)) (Zad 0) (tC (V.int 4)))) (fun x H1=>N [some (V.ref p),some (V.int c0),some (V.int s),some (V.int m),some (V.int la),some x,none,none,none,none,none,none,none] H1) H3):=fun R r0 r1=>by
    refine ⟨by omega,by omega,Zgf (fun k=>V.int (5 * (k % 4))) rfl (by omega) ?_ ?_⟩
    ·intro i H' Q' hi s' q'
     walk_at "gs"
     exact q'
    ·intro l H5 n5
     refine hN _ _ ⟨n5.same,l,(Zqq R.toNat).map fun i=>5 * ((0+((i:Nat):Int)) % 4),?_,by rw [Zqi,Zq3];omega,rfl⟩
     rw [Zqz]
     exact n5.at_
   by_cases c:c0 / 6 % 10=3
   ·rw [if_pos c]
    by_cases g:(s:Int)<4
    ·rw [if_pos g,Int.mul_one]
     exact ⟨.inl ⟨by omega,by omega⟩,key _ (by omega) (by omega)⟩
    ·rw [if_neg g,Int.mul_zero]
     exact ⟨.inl ⟨by omega,by omega⟩,key _ (by omega) (by omega)⟩
   ·rw [if_neg c,Int.mul_zero]
    exact ⟨.inl ⟨by omega,by omega⟩,key _ (by omega) (by omega)⟩
  rintro σ4 H4 ⟨s4,cp,xs,hcp,hxl,rfl⟩
  have hS4:=s4.seq hS1
  walk_at "gs"
  refine ⟨p,ns,2,rfl,hS4,fun c2=>?_⟩
  refine ⟨c2,m,16,rfl,by omega,by omega,fun pp1 ep1 H5 s5 f5 hP1 hl1 hT1=>?_⟩
  refine mid (fun σ' H'=>ZaZ H4 H'/\∃ (pp:Addr) (ep:List En),PL H' pp ep/\ep.length<=100/\ZhI m (Zav ep)/\σ'=[some (.ref p),some (.int c0),some (.int s),some (.int m),some (.int la),some (.ref cp),some (.ref pp),none,none,none,none,none,none]) ?_ ?_
  ·intro N hN
   walk_at "gs"
   refine ⟨p,ns,1,rfl,s5.seq hS4,fun c3=>?_⟩
   walk_at "gs"
   by_cases c:c3 / 9 % 2=0
   ·rw [if_pos c]
    refine ⟨p,ns,1,rfl,s5.seq hS4,fun c4=>?_⟩
    have x1:=Zr9 (c4 / 18) (show (la:Int) - 1≠0 by omega)
    have x2:=Zsb (c4 / 18) (show 0<(la:Int) - 1 by omega)
    obtain ⟨n,hn⟩:=Zr7 x1
    walk_at "gs"
    rw [hn]
    refine ⟨p,ns,n,rfl,s5.seq hS4,by omega,fun l cs H6 s6' hl6 hcl=>?_⟩
    refine ⟨_,_,s6' _ _ (s5 _ _ hcp),hl6,by rw [Zqi,Zqi];omega,fun l7 h7=>?_⟩
    rw [<- Zqo]
    refine ⟨l7,m,xs ++ cs,rfl,Zal,by omega,by omega,by rw [Zqj];omega,fun pp es H8 s8 f8 hP8 hle8 hT8=>?_⟩
    rw [Zqj] at hle8
    exact hN _ _ ⟨((s5.trans s6').trans (Zbd h7)).trans s8,pp,es,hP8,by omega,hT8,rfl⟩
   ·rw [if_neg c]
    exact hN _ _ ⟨s5,pp1,ep1,hP1,by omega,hT1,rfl⟩
  rintro σ6 H6 ⟨s6',pp,ep,hP2,hl2,hT2,rfl⟩
  refine mid (fun σ' H'=>∃ (f dx pl kl kn:Addr) (es es2:List En),FoldAt a.c_Fold H' f m es dx pl kl/\PN H' kn (m+1) es2/\Zav es2=Zav es/\MF.Ok m (Zav es)/\es.length<=100/\σ'=[some (.ref p),some (.int c0),some (.int s),some (.int m),some (.int la),some (.ref cp),some (.ref pp),some (.ref f),some (.ref kn),none,none,none,none]) ?_ ?_
  ·intro N hN
   walk_at "gs"
   refine ⟨pp,m,ep,rfl,hP2,hT2,by omega,by omega,by omega,fun tp f dx pl kl kn es es2 H3 s3 htp hf ff fp fk fkn hK e2 ok hle nkp=>?_⟩
   refine ⟨tp,_,rfl,.of htp,rfl,_,_,rfl,_,_,rfl,rfl,?_⟩
   exact hN _ _ ⟨f,dx,pl,kl,kn,es,es2,hf,hK,e2,ok,by omega,rfl⟩
  rintro σ7 H7 ⟨f,dx,pl,kl,kn,es,es2,f7,k7,e2,ok,hle,rfl⟩
  have epl:(Zav es).length=es.length:=Zqi ..
  have epl2:es2.length=es.length:=by rw [<- epl,<- e2];exact (Zqi ..).symm
  refine mid (fun σ' H'=>∃ (x xd ll fc fw:Addr) (lvs:List Nat) (cas was:List Addr) (css:List (List Nat)) (wss:List (List (List Nat))),ZaZ H7 H'/\LInv a.c_Labels (fun b=>b=ll\/∃ o,H7 b=some o) H' x xd ll fc fw m (Zav es) s lvs cas was css wss/\cas.length=es.length/\σ'=[some (.ref p),some (.int c0),some (.int s),some (.int m),some (.int la),some (.ref cp),some (.ref pp),some (.ref f),some (.ref kn),some (.ref x),none,none,none]) ?_ ?_
  ·intro N hN
   walk_at "gs"
   refine mk_Labels f7 ok (by omega) (by omega) s2 s6 fun x xd ll fc fw H5 lvs cas was css wss s5 hx hll hfc hfw hL hcl=>?_
   exact hN _ _ ⟨x,xd,ll,fc,fw,lvs,cas,was,css,wss,s5,hL,hcl,rfl⟩
  rintro σ8 H8 ⟨x,xd,ll,fc,fw,lvs,cas,was,css,wss,s8,hL,hcl,rfl⟩
  have k8:=k7.same s8
  have hlen:=hL.len
  have hclS:=hL.cl
  have mz:=Ze0 ok
  walk_at "gs"
  intro mk H9 n9
  have hL9:=hL.same n9.same
  refine mid (fun σ' H'=>ZaZ H8 H'/\H' mk=some (.lst (lvs.map nv))/\∃ v11:Option V,σ'=[some (.ref p),some (.int c0),some (.int s),some (.int m),some (.int la),some (.ref cp),some (.ref pp),some (.ref f),some (.ref kn),some (.ref x),some (.ref mk),v11,none]) ?_ ?_
  ·intro N hN
   walk_at "gs"
   have k9:=k8.same n9.same
   refine .inl ⟨_,.inl (.of k9.lst),?_⟩
   rw [Zqj,Zqv,Zqi,epl2]
   walk_at "gs"
   rw [Zr6]
   refine Zco (fun i σ H2=>ZaZ H8 H2/\H2 mk=some (.lst ((lvs.take i).map nv))/\∃ v11:Option V,σ=[some (.ref p),some (.int c0),some (.int s),some (.int m),some (.int la),some (.ref cp),some (.ref pp),some (.ref f),some (.ref kn),some (.ref x),some (.ref mk),v11,none]) ⟨n9.same,n9.at_,_,rfl⟩ ?_ ?_
   ·rintro i σ H10 hi ⟨s10,h10,v11,rfl⟩
    have hil:i<lvs.length:=by omega
    have hL10:=hL.same s10
    have k10:=k8.same s10
    walk_at "gs"
    refine ⟨.inl ⟨by trivial,_,.of h10⟩,x,xd,_,rfl,hL10.at_.ins,rfl,x,xd,ll,fc,fw,m,_,lvs,cas,was,rfl,hL10.at_,fun n en hn=>?_,fun z=>absurd ⟨by omega,by omega⟩ z⟩
    have:n=i:=by omega
    subst this
    refine ⟨mk,_,_,rfl,rfl,h10,by rw [Zqi,ZqL];omega,?_⟩
    have et:(lvs.take n).map nv ++ [nv (lvs.getD n 0)]=(lvs.take (n+1)).map nv:=by
     rw [ZqK,Zqn hil,Zqo,Zqs,Zqn hil]
     rfl
    rw [et]
    have s11:ZaZ H8 (upd H10 mk (.lst ((lvs.take (n+1)).map nv))):=s10.put n9.was
    have h11:upd H10 mk (.lst ((lvs.take (n+1)).map nv)) mk=some (.lst ((lvs.take (n+1)).map nv)):=Zal
    generalize upd H10 mk (.lst ((lvs.take (n+1)).map nv))=H11 at s11 h11 ⊢
    have hat:atI ((lvs.take (n+1)).map nv) (n:Int)=some (.int ((lvs.getD n 0:Nat):Int)):=by
     refine Zmg ?_
     rw [Zrr (by omega),Zqs,Zqn hil]
     rfl
    rw [Int.zero_add]
    walk_at "gs"
    have k11:=k8.same s11
    refine ⟨_,_,.inl (.of h11),hat,_,rfl,?_⟩
    walk_at "gs"
    refine ⟨_,_,.inl (.of h11),hat,?_⟩
    rcases ZrO m n with hm | hm
    ·obtain ⟨j,hj⟩:∃ j,n=m+1+j:=⟨n - m - 1,by omega⟩
     obtain ⟨e,he⟩:∃ e,es2[j]? = some e:=⟨_,Zqn (by omega)⟩
     have hat2:=ZiW k11 he
     rw [<- hj] at hat2
     obtain ⟨C,hC⟩:∃ C,css[j]? = some C:=⟨_,Zqn (by omega)⟩
     obtain ⟨c,hc,hct⟩:=(hL.lab j C hC).top
     rw [<- hj] at hct
     have hct:lvs.getD c 0+1=lvs.getD n 0:=hct
     refine ⟨_,_,.inl (.of k11.lst),hat2,?_⟩
     rw [decide_eq_false (by omega:¬ ((lvs.getD n 0:Nat):Int)=0),decide_eq_false (fun z=>nomatch z),if_neg (by simp)]
     exact ⟨s11,h11,_,rfl⟩
    ·refine ⟨_,_,.inl (.of k11.lst),Znx k11 hm,?_⟩
     rw [hL.low n hm,decide_eq_true (show ((0:Nat):Int)=0 from rfl),decide_eq_true rfl,if_neg (by simp)]
     exact ⟨s11,h11,_,rfl⟩
   ·rintro σ H10 ⟨s10,h10,v11,rfl⟩
    rw [Zrn (by omega)] at h10
    exact hN _ _ ⟨s10,h10,_,rfl⟩
  rintro σ10 H10 ⟨s10,h10,v11,rfl⟩
  walk_at "gs"
  have k10:=k8.same s10
  refine .inl ⟨_,.inl (.of k10.lst),?_⟩
  rw [Zqj,Zqv,Zqi,epl2]
  refine ⟨⟨by omega,by omega,by omega,by omega⟩,?_⟩
  rw [show (((m+1+es.length:Nat):Int) - ((m:Int)+1)).toNat=es.length by omega]
  have ok2:MF.Ok m (Zav es2):=by rw [e2];exact ok
  refine Zco (fun i σ H2=>ZaZ H8 H2/\H2 mk=some (.lst (lvs.map nv))/\∃ v11 v12:Option V,σ=[some (.ref p),some (.int c0),some (.int s),some (.int m),some (.int la),some (.ref cp),some (.ref pp),some (.ref f),some (.ref kn),some (.ref x),some (.ref mk),v11,v12]) ⟨s10,h10,_,_,rfl⟩ ?_ ?_
  ·rintro i σ H11 hi ⟨s11,h11,v11,v12,rfl⟩
   have hL11:=hL.same s11
   obtain ⟨C,hC⟩:∃ C,css[i]? = some C:=⟨_,Zqn (by omega)⟩
   have Lb:=hL.lab i C hC
   rw [<- e2] at Lb
   have goodc:∀ {H2:Hp}{cq:Addr}{Q':VK}{E':XK},ZaZ H8 H2->H2 mk=some (.lst (lvs.map nv))->H2 cq=some (.lst (C.map nv))->(∀ H',ZaZ H2 H'->Q' (.bl true) H')->ZbN K [.ref cq,.ref kn,.int ((m:Int)+1+(i:Int)),.int s,.ref mk] H2 Q' E':=fun {H2 cq Q' E'} s2 hm hq q=>⟨cq,kn,mk,m,m+1+i,s,es2,C,lvs,by rw [show (m:Int)+1+(i:Int)=((m+1+i:Nat):Int) by omega],k8.same s2,hq,hm,ok2,by omega,by omega,by omega,by omega,s6,Lb,q⟩
   walk_at "gs"
   refine ⟨x,xd,_,rfl,hL11.at_.ins,rfl,x,xd,ll,fc,fw,m,_,lvs,cas,was,css,rfl,hL11.at_,hclS,fun j c C hc hC=>(hL11.cut j c C hc hC).1,fun j C' ej hC' q H12 n12=>?_,fun z=>absurd ⟨by omega,by omega⟩ z⟩
   have:j=i:=by omega
   subst this
   rw [hC] at hC'
   cases hC'
   have s12:=s11.trans n12.same
   refine goodc s12 (n12.same _ _ h11) n12.at_ fun H13 s13=>?_
   walk_at "gs"
   have hCl:=Lb.len
   refine ⟨.inl ⟨by trivial,_,.of (s13 _ _ n12.at_)⟩,q,_,_,rfl,rfl,s13 _ _ n12.at_,by rw [Zqi];omega,?_⟩
   have f8:H8 q=none:=s11.nil n12.was
   have nq:mk≠q:=Zaj h11 n12.was
   have s14:ZaZ H8 (upd H13 q (.lst (C.map nv ++ [.int ((m:Int)+1+(j:Int))]))):=(s12.trans s13).put f8
   have h14:upd H13 q (.lst (C.map nv ++ [.int ((m:Int)+1+(j:Int))])) mk=some (.lst (lvs.map nv)):=by rw [Zak nq];exact s13 _ _ (n12.same _ _ h11)
   generalize upd H13 q (.lst (C.map nv ++ [.int ((m:Int)+1+(j:Int))]))=H14 at s14 h14 ⊢
   have hL14:=hL.same s14
   walk_at "gs"
   refine ⟨x,xd,_,rfl,hL14.at_.ins,rfl,x,xd,ll,fc,fw,m,_,lvs,cas,was,css,rfl,hL14.at_,hclS,fun j c C hc hC=>(hL14.cut j c C hc hC).1,fun j' C' ej' hC' q2 H15 n15=>?_,fun z=>absurd ⟨by omega,by omega⟩ z⟩
   have:j'=j:=by omega
   subst this
   rw [hC] at hC'
   cases hC'
   have s15:=s14.trans n15.same
   refine goodc s15 (n15.same _ _ h14) n15.at_ fun H16 s16=>?_
   walk_at "gs"
   exact ⟨s15.trans s16,s16 _ _ (n15.same _ _ h14),_,_,rfl⟩
  ·rintro σ H11 ⟨s11,h11,v11,v12,rfl⟩
   have f11:=f7.same (s8.trans s11)
   have k11:=k8.same s11
   walk_at "gs"
   refine ⟨f,dx,_,rfl,f11.ins,rfl,f,dx,pl,kl,m,es,rfl,f11,?_⟩
   walk_at "gs"
   refine .inl ⟨_,.inl (.of k11.lst),?_⟩
   rw [Zqj,Zqv,Zqi,epl2,decide_eq_true (by omega)]
   exact k _
theorem Zga {us:List Value} (h:us.length=1):∃ a,us=[a]:=List.length_eq_one_iff.mp h
theorem ZdT {us:List Value} (h:us.length=2):∃ a b,us=[a,b]:=by
 obtain _ | ⟨a,t⟩:=us
 ·cases h
 ·obtain ⟨b,rfl⟩:=Zga (Nat.succ.inj h)
  exact ⟨a,b,rfl⟩
theorem Zfy {us:List Value} (h:us.length=3):∃ a b c,us=[a,b,c]:=by
 obtain _ | ⟨a,t⟩:=us
 ·cases h
 ·obtain ⟨b,c,rfl⟩:=ZdT (Nat.succ.inj h)
  exact ⟨a,b,c,rfl⟩
theorem lenN4 {us:List Value} (h:us.length=4):∃ a b c d,us=[a,b,c,d]:=by
 obtain _ | ⟨a,t⟩:=us
 ·cases h
 ·obtain ⟨b,c,d,rfl⟩:=Zfy (Nat.succ.inj h)
  exact ⟨a,b,c,d,rfl⟩
theorem lenN5 {us:List Value} (h:us.length=5):∃ a b c d e,us=[a,b,c,d,e]:=by
 obtain _ | ⟨a,t⟩:=us
 ·cases h
 ·obtain ⟨b,c,d,e,rfl⟩:=lenN4 (Nat.succ.inj h)
  exact ⟨a,b,c,d,e,rfl⟩
theorem all_mk {l:Zp5}{w:World}{K:ZpF}{h:Heap}{mg:Str->Option Value}{fa:Addr} (X:K.In h) (G:h.Ns mainGlobals mg) (hfa:mg "law" = some (.ref fa))
  {f0:Addr}{od0 an0:Option Addr}{sl0:Array (Option Value)}{oc0 kV0 dc0 pm0 cd0 ct0:Value}{f1:Addr}{od1 an1:Option Addr}{sl1:Array (Option Value)}{oc1 kV1 dc1 pm1 cd1 ct1:Value}{f2:Addr}{od2 an2:Option Addr}{sl2:Array (Option Value)}{oc2 kV2 dc2 pm2 cd2 ct2:Value}{f3:Addr}{od3 an3:Option Addr}{sl3:Array (Option Value)}{oc3 kV3 dc3 pm3 cd3 ct3:Value}{f4:Addr}{od4 an4:Option Addr}{sl4:Array (Option Value)}{oc4 kV4 dc4 pm4 cd4 ct4:Value}{f5:Addr}{od5 an5:Option Addr}{sl5:Array (Option Value)}{oc5 kV5 dc5 pm5 cd5 ct5:Value}{f6:Addr}{od6 an6:Option Addr}{sl6:Array (Option Value)}{oc6 kV6 dc6 pm6 cd6 ct6:Value}{f7:Addr}{od7 an7:Option Addr}{sl7:Array (Option Value)}{oc7 kV7 dc7 pm7 cd7 ct7:Value}{f8:Addr}{od8 an8:Option Addr}{sl8:Array (Option Value)}{oc8 kV8 dc8 pm8 cd8 ct8:Value}{f9:Addr}{od9 an9:Option Addr}{sl9:Array (Option Value)}{oc9 kV9 dc9 pm9 cd9 ct9:Value}{f10:Addr}{od10 an10:Option Addr}{sl10:Array (Option Value)}{oc10 kV10 dc10 pm10 cd10 ct10:Value}{f11:Addr}{od11 an11:Option Addr}{sl11:Array (Option Value)}{oc11 kV11 dc11 pm11 cd11 ct11:Value}{f12:Addr}{od12 an12:Option Addr}{sl12:Array (Option Value)}{oc12 kV12 dc12 pm12 cd12 ct12:Value}{f13:Addr}{od13 an13:Option Addr}{sl13:Array (Option Value)}{oc13 kV13 dc13 pm13 cd13 ct13:Value}{f14:Addr}{od14 an14:Option Addr}{sl14:Array (Option Value)}{oc14 kV14 dc14 pm14 cd14 ct14:Value}{f15:Addr}{od15 an15:Option Addr}{sl15:Array (Option Value)}{oc15 kV15 dc15 pm15 cd15 ct15:Value}{f16:Addr}{od16 an16:Option Addr}{sl16:Array (Option Value)}{oc16 kV16 dc16 pm16 cd16 ct16:Value}{f17:Addr}{od17 an17:Option Addr}{sl17:Array (Option Value)}{oc17 kV17 dc17 pm17 cd17 ct17:Value}{f18:Addr}{od18 an18:Option Addr}{sl18:Array (Option Value)}{oc18 kV18 dc18 pm18 cd18 ct18:Value}{f19:Addr}{od19 an19:Option Addr}{sl19:Array (Option Value)}{oc19 kV19 dc19 pm19 cd19 ct19:Value}{f20:Addr}{od20 an20:Option Addr}{sl20:Array (Option Value)}{oc20 kV20 dc20 pm20 cd20 ct20:Value}{f21:Addr}{od21 an21:Option Addr}{sl21:Array (Option Value)}{oc21 kV21 dc21 pm21 cd21 ct21:Value}{f22:Addr}{od22 an22:Option Addr}{sl22:Array (Option Value)}{oc22 kV22 dc22 pm22 cd22 ct22:Value}{f23:Addr}{od23 an23:Option Addr}{sl23:Array (Option Value)}{oc23 kV23 dc23 pm23 cd23 ct23:Value}{f24:Addr}{od24 an24:Option Addr}{sl24:Array (Option Value)}{oc24 kV24 dc24 pm24 cd24 ct24:Value}{f25:Addr}{od25 an25:Option Addr}{sl25:Array (Option Value)}{oc25 kV25 dc25 pm25 cd25 ct25:Value}{f26:Addr}{od26 an26:Option Addr}{sl26:Array (Option Value)}{oc26 kV26 dc26 pm26 cd26 ct26:Value}{f27:Addr}{od27 an27:Option Addr}{sl27:Array (Option Value)}{oc27 kV27 dc27 pm27 cd27 ct27:Value}{f28:Addr}{od28 an28:Option Addr}{sl28:Array (Option Value)}{oc28 kV28 dc28 pm28 cd28 ct28:Value}{f29:Addr}{od29 an29:Option Addr}{sl29:Array (Option Value)}{oc29 kV29 dc29 pm29 cd29 ct29:Value}{f30:Addr}{od30 an30:Option Addr}{sl30:Array (Option Value)}{oc30 kV30 dc30 pm30 cd30 ct30:Value}{f31:Addr}{od31 an31:Option Addr}{sl31:Array (Option Value)}{oc31 kV31 dc31 pm31 cd31 ct31:Value}{f32:Addr}{od32 an32:Option Addr}{sl32:Array (Option Value)}{oc32 kV32 dc32 pm32 cd32 ct32:Value}{f33:Addr}{od33 an33:Option Addr}{sl33:Array (Option Value)}{oc33 kV33 dc33 pm33 cd33 ct33:Value}{f34:Addr}{od34 an34:Option Addr}{sl34:Array (Option Value)}{oc34 kV34 dc34 pm34 cd34 ct34:Value}{f35:Addr}{od35 an35:Option Addr}{sl35:Array (Option Value)}{oc35 kV35 dc35 pm35 cd35 ct35:Value}{f36:Addr}{od36 an36:Option Addr}{sl36:Array (Option Value)}{oc36 kV36 dc36 pm36 cd36 ct36:Value}{f37:Addr}{od37 an37:Option Addr}{sl37:Array (Option Value)}{oc37 kV37 dc37 pm37 cd37 ct37:Value}{f38:Addr}{od38 an38:Option Addr}{sl38:Array (Option Value)}{oc38 kV38 dc38 pm38 cd38 ct38:Value}{C_Labels:Addr}{C_Fold:Addr}{C_NoGoal:Addr}{C_NoKnot:Addr}{C_NoSize:Addr}{C_NoTie:Addr}{ug_ALWAYS:Tok}{ug_GREATEST_SIZE:Tok}{ug_LEAST_SIZE:Tok}{ug_NEVER:Tok}
  (aC_Labels:ZpI K mainGlobals "Labels" = some (some (.ref C_Labels)))
  (aC_Fold:ZpI K mainGlobals "Fold" = some (some (.ref C_Fold)))
  (aC_NoGoal:ZpI K mainGlobals "NoGoal" = some (some (.ref C_NoGoal)))
  (aC_NoKnot:ZpI K mainGlobals "NoKnot" = some (some (.ref C_NoKnot)))
  (aC_NoSize:ZpI K mainGlobals "NoSize" = some (some (.ref C_NoSize)))
  (aC_NoTie:ZpI K mainGlobals "NoTie" = some (some (.ref C_NoTie)))
  (a0:ZpI K mainGlobals "is_whole" = some (some (.ref f0)))
  (l0:K.lookup f0=some ⟨oc0,od0,.func (ZpH "is_whole" "is_whole" (Zaq Zbz) (Zai Zbz) (Zab Zbz) .none kV0 dc0 pm0 an0 cd0 ct0),sl0⟩)
  (c0:ZpJ K cd0 "is_whole" = true)
  (k0:ZpG K (.ref f0)=true)
  (a1:ZpI K mainGlobals "is_between" = some (some (.ref f1)))
  (l1:K.lookup f1=some ⟨oc1,od1,.func (ZpH "is_between" "is_between" (Zaq Za2) (Zai Za2) (Zab Za2) .none kV1 dc1 pm1 an1 cd1 ct1),sl1⟩)
  (c1:ZpJ K cd1 "is_between" = true)
  (k1:ZpG K (.ref f1)=true)
  (a2:ZpI K mainGlobals "reached" = some (some (.ref f2)))
  (l2:K.lookup f2=some ⟨oc2,od2,.func (ZpH "reached" "reached" (Zaq ZbC) (Zai ZbC) (Zab ZbC) .none kV2 dc2 pm2 an2 cd2 ct2),sl2⟩)
  (c2:ZpJ K cd2 "reached" = true)
  (k2:ZpG K (.ref f2)=true)
  (a3:ZpI K mainGlobals "cone" = some (some (.ref f3)))
  (l3:K.lookup f3=some ⟨oc3,od3,.func (ZpH "cone" "cone" (Zaq Zd1) (Zai Zd1) (Zab Zd1) .none kV3 dc3 pm3 an3 cd3 ct3),sl3⟩)
  (c3:ZpJ K cd3 "cone" = true)
  (k3:ZpG K (.ref f3)=true)
  (a4:ZpI K mainGlobals "head" = some (some (.ref f4)))
  (l4:K.lookup f4=some ⟨oc4,od4,.func (ZpH "head" "head" (Zaq ZdZ) (Zai ZdZ) (Zab ZdZ) .none kV4 dc4 pm4 an4 cd4 ct4),sl4⟩)
  (c4:ZpJ K cd4 "head" = true)
  (k4:ZpG K (.ref f4)=true)
  (a5:ZpI K mainGlobals "foot" = some (some (.ref f5)))
  (l5:K.lookup f5=some ⟨oc5,od5,.func (ZpH "foot" "foot" (Zaq Zd0) (Zai Zd0) (Zab Zd0) .none kV5 dc5 pm5 an5 cd5 ct5),sl5⟩)
  (c5:ZpJ K cd5 "foot" = true)
  (k5:ZpG K (.ref f5)=true)
  (a6:ZpI K mainGlobals "need_goals" = some (some (.ref f6)))
  (l6:K.lookup f6=some ⟨oc6,od6,.func (ZpH "need_goals" "need_goals" (Zaq Za1) (Zai Za1) (Zab Za1) .none kV6 dc6 pm6 an6 cd6 ct6),sl6⟩)
  (c6:ZpJ K cd6 "need_goals" = true)
  (k6:ZpG K (.ref f6)=true)
  (a7:ZpI K mainGlobals "next_ends" = some (some (.ref f7)))
  (l7:K.lookup f7=some ⟨oc7,od7,.func (ZpH "next_ends" "next_ends" (Zaq Za8) (Zai Za8) (Zab Za8) .none kV7 dc7 pm7 an7 cd7 ct7),sl7⟩)
  (c7:ZpJ K cd7 "next_ends" = true)
  (k7:ZpG K (.ref f7)=true)
  (a8:ZpI K mainGlobals "search" = some (some (.ref f8)))
  (l8:K.lookup f8=some ⟨oc8,od8,.func (ZpH "search" "search" (Zaq Zb5) (Zai Zb5) (Zab Zb5) .none kV8 dc8 pm8 an8 cd8 ct8),sl8⟩)
  (c8:ZpJ K cd8 "search" = true)
  (k8:ZpG K (.ref f8)=true)
  (a9:ZpI K mainGlobals "lead" = some (some (.ref f9)))
  (l9:K.lookup f9=some ⟨oc9,od9,.func (ZpH "lead" "lead" (Zaq ZdY) (Zai ZdY) (Zab ZdY) .none kV9 dc9 pm9 an9 cd9 ct9),sl9⟩)
  (c9:ZpJ K cd9 "lead" = true)
  (k9:ZpG K (.ref f9)=true)
  (a10:ZpI K mainGlobals "way_from" = some (some (.ref f10)))
  (l10:K.lookup f10=some ⟨oc10,od10,.func (ZpH "way_from" "way_from" (Zaq Zbx) (Zai Zbx) (Zab Zbx) .none kV10 dc10 pm10 an10 cd10 ct10),sl10⟩)
  (c10:ZpJ K cd10 "way_from" = true)
  (k10:ZpG K (.ref f10)=true)
  (a11:ZpI K mainGlobals "ways_of" = some (some (.ref f11)))
  (l11:K.lookup f11=some ⟨oc11,od11,.func (ZpH "ways_of" "ways_of" (Zaq Zbw) (Zai Zbw) (Zab Zbw) .none kV11 dc11 pm11 an11 cd11 ct11),sl11⟩)
  (c11:ZpJ K cd11 "ways_of" = true)
  (k11:ZpG K (.ref f11)=true)
  (a12:ZpI K mainGlobals "stops_of" = some (some (.ref f12)))
  (l12:K.lookup f12=some ⟨oc12,od12,.func (ZpH "stops_of" "stops_of" (Zaq Zbq) (Zai Zbq) (Zab Zbq) .none kV12 dc12 pm12 an12 cd12 ct12),sl12⟩)
  (c12:ZpJ K cd12 "stops_of" = true)
  (k12:ZpG K (.ref f12)=true)
  (a13:ZpI K mainGlobals "apart" = some (some (.ref f13)))
  (l13:K.lookup f13=some ⟨oc13,od13,.func (ZpH "apart" "apart" (Zaq ZcC) (Zai ZcC) (Zab ZcC) .none kV13 dc13 pm13 an13 cd13 ct13),sl13⟩)
  (c13:ZpJ K cd13 "apart" = true)
  (k13:ZpG K (.ref f13)=true)
  (a14:ZpI K mainGlobals "need_size" = some (some (.ref f14)))
  (l14:K.lookup f14=some ⟨oc14,od14,.func (ZpH "need_size" "need_size" (Zaq Zbg) (Zai Zbg) (Zab Zbg) .none kV14 dc14 pm14 an14 cd14 ct14),sl14⟩)
  (c14:ZpJ K cd14 "need_size" = true)
  (k14:ZpG K (.ref f14)=true)
  (a15:ZpI K mainGlobals "maze_of" = some (some (.ref f15)))
  (l15:K.lookup f15=some ⟨oc15,od15,.func (ZpH "maze_of" "maze_of" (Zaq ZbJ) (Zai ZbJ) (Zab ZbJ) .none kV15 dc15 pm15 an15 cd15 ct15),sl15⟩)
  (c15:ZpJ K cd15 "maze_of" = true)
  (k15:ZpG K (.ref f15)=true)
  (a16:ZpL K (.ref C_Labels) "__init__" = some (some (.ref f16)))
  (i16:ZpM K (.ref f16)=true)
  (l16:K.lookup f16=some ⟨oc16,od16,.func (ZpH "__init__" "Labels.__init__" (Zaq Zay) (Zai Zay) (Zab Zay) .none kV16 dc16 pm16 an16 cd16 ct16),sl16⟩)
  (c16:ZpJ K cd16 "Labels.__init__" = true)
  (k16:ZpG K (.ref f16)=true)
  (a17:ZpL K (.ref C_Labels) "settle" = some (some (.ref f17)))
  (i17:ZpM K (.ref f17)=true)
  (l17:K.lookup f17=some ⟨oc17,od17,.func (ZpH "settle" "Labels.settle" (Zaq Zat) (Zai Zat) (Zab Zat) .none kV17 dc17 pm17 an17 cd17 ct17),sl17⟩)
  (c17:ZpJ K cd17 "Labels.settle" = true)
  (k17:ZpG K (.ref f17)=true)
  (a18:ZpL K (.ref C_Labels) "keep" = some (some (.ref f18)))
  (i18:ZpM K (.ref f18)=true)
  (l18:K.lookup f18=some ⟨oc18,od18,.func (ZpH "keep" "Labels.keep" (Zaq ZaU) (Zai ZaU) (Zab ZaU) .none kV18 dc18 pm18 an18 cd18 ct18),sl18⟩)
  (c18:ZpJ K cd18 "Labels.keep" = true)
  (k18:ZpG K (.ref f18)=true)
  (a19:ZpL K (.ref C_Labels) "need_and_knot" = some (some (.ref f19)))
  (i19:ZpM K (.ref f19)=true)
  (l19:K.lookup f19=some ⟨oc19,od19,.func (ZpH "need_and_knot" "Labels.need_and_knot" (Zaq Zao) (Zai Zao) (Zab Zao) .none kV19 dc19 pm19 an19 cd19 ct19),sl19⟩)
  (c19:ZpJ K cd19 "Labels.need_and_knot" = true)
  (k19:ZpG K (.ref f19)=true)
  (a20:ZpL K (.ref C_Labels) "label" = some (some (.ref f20)))
  (i20:ZpM K (.ref f20)=true)
  (l20:K.lookup f20=some ⟨oc20,od20,.func (ZpH "label" "Labels.label" (Zaq ZaJ) (Zai ZaJ) (Zab ZaJ) .none kV20 dc20 pm20 an20 cd20 ct20),sl20⟩)
  (c20:ZpJ K cd20 "Labels.label" = true)
  (k20:ZpG K (.ref f20)=true)
  (a21:ZpL K (.ref C_Labels) "cut" = some (some (.ref f21)))
  (i21:ZpM K (.ref f21)=true)
  (l21:K.lookup f21=some ⟨oc21,od21,.func (ZpH "cut" "Labels.cut" (Zaq Za3) (Zai Za3) (Zab Za3) .none kV21 dc21 pm21 an21 cd21 ct21),sl21⟩)
  (c21:ZpJ K cd21 "Labels.cut" = true)
  (k21:ZpG K (.ref f21)=true)
  (a22:ZpI K mainGlobals "turned" = some (some (.ref f22)))
  (l22:K.lookup f22=some ⟨oc22,od22,.func (ZpH "turned" "turned" (Zaq Zb4) (Zai Zb4) (Zab Zb4) .none kV22 dc22 pm22 an22 cd22 ct22),sl22⟩)
  (c22:ZpJ K cd22 "turned" = true)
  (k22:ZpG K (.ref f22)=true)
  (a23:ZpL K (.ref C_Fold) "__init__" = some (some (.ref f23)))
  (i23:ZpM K (.ref f23)=true)
  (l23:K.lookup f23=some ⟨oc23,od23,.func (ZpH "__init__" "Fold.__init__" (Zaq ZaD) (Zai ZaD) (Zab ZaD) .none kV23 dc23 pm23 an23 cd23 ct23),sl23⟩)
  (c23:ZpJ K cd23 "Fold.__init__" = true)
  (k23:ZpG K (.ref f23)=true)
  (a24:ZpL K (.ref C_Fold) "total" = some (some (.ref f24)))
  (i24:ZpM K (.ref f24)=true)
  (l24:K.lookup f24=some ⟨oc24,od24,.func (ZpH "total" "Fold.total" (Zaq Za4) (Zai Za4) (Zab Za4) .none kV24 dc24 pm24 an24 cd24 ct24),sl24⟩)
  (c24:ZpJ K cd24 "Fold.total" = true)
  (k24:ZpG K (.ref f24)=true)
  (a25:ZpL K (.ref C_Fold) "has_tie" = some (some (.ref f25)))
  (i25:ZpM K (.ref f25)=true)
  (l25:K.lookup f25=some ⟨oc25,od25,.func (ZpH "has_tie" "Fold.has_tie" (Zaq ZaK) (Zai ZaK) (Zab ZaK) .none kV25 dc25 pm25 an25 cd25 ct25),sl25⟩)
  (c25:ZpJ K cd25 "Fold.has_tie" = true)
  (k25:ZpG K (.ref f25)=true)
  (a26:ZpL K (.ref C_Fold) "pair" = some (some (.ref f26)))
  (i26:ZpM K (.ref f26)=true)
  (l26:K.lookup f26=some ⟨oc26,od26,.func (ZpH "pair" "Fold.pair" (Zaq Zbl) (Zai Zbl) (Zab Zbl) .none kV26 dc26 pm26 an26 cd26 ct26),sl26⟩)
  (c26:ZpJ K cd26 "Fold.pair" = true)
  (k26:ZpG K (.ref f26)=true)
  (a27:ZpL K (.ref C_Fold) "both" = some (some (.ref f27)))
  (i27:ZpM K (.ref f27)=true)
  (l27:K.lookup f27=some ⟨oc27,od27,.func (ZpH "both" "Fold.both" (Zaq Zbm) (Zai Zbm) (Zab Zbm) .none kV27 dc27 pm27 an27 cd27 ct27),sl27⟩)
  (c27:ZpJ K cd27 "Fold.both" = true)
  (k27:ZpG K (.ref f27)=true)
  (a28:ZpL K (.ref C_Fold) "and_knot" = some (some (.ref f28)))
  (i28:ZpM K (.ref f28)=true)
  (l28:K.lookup f28=some ⟨oc28,od28,.func (ZpH "and_knot" "Fold.and_knot" (Zaq ZaC) (Zai ZaC) (Zab ZaC) .none kV28 dc28 pm28 an28 cd28 ct28),sl28⟩)
  (c28:ZpJ K cd28 "Fold.and_knot" = true)
  (k28:ZpG K (.ref f28)=true)
  (a29:ZpI K mainGlobals "_law_cell_at" = some (some (.ref f29)))
  (l29:K.lookup f29=some ⟨oc29,od29,.func (ZpH "_law_cell_at" "_law_cell_at" (Zaq ZaT) (Zai ZaT) (Zab ZaT) .none kV29 dc29 pm29 an29 cd29 ct29),sl29⟩)
  (c29:ZpJ K cd29 "_law_cell_at" = true)
  (k29:ZpG K (.ref f29)=true)
  (a30:ZpI K mainGlobals "_law_pairs" = some (some (.ref f30)))
  (l30:K.lookup f30=some ⟨oc30,od30,.func (ZpH "_law_pairs" "_law_pairs" (Zaq Zbj) (Zai Zbj) (Zab Zbj) .none kV30 dc30 pm30 an30 cd30 ct30),sl30⟩)
  (c30:ZpJ K cd30 "_law_pairs" = true)
  (k30:ZpG K (.ref f30)=true)
  (a31:ZpI K mainGlobals "_law_mixed" = some (some (.ref f31)))
  (l31:K.lookup f31=some ⟨oc31,od31,.func (ZpH "_law_mixed" "_law_mixed" (Zaq Zbk) (Zai Zbk) (Zab Zbk) .none kV31 dc31 pm31 an31 cd31 ct31),sl31⟩)
  (c31:ZpJ K cd31 "_law_mixed" = true)
  (k31:ZpG K (.ref f31)=true)
  (a32:ZpI K mainGlobals "_law_digit_pairs" = some (some (.ref f32)))
  (l32:K.lookup f32=some ⟨oc32,od32,.func (ZpH "_law_digit_pairs" "_law_digit_pairs" (Zaq Zax) (Zai Zax) (Zab Zax) .none kV32 dc32 pm32 an32 cd32 ct32),sl32⟩)
  (c32:ZpJ K cd32 "_law_digit_pairs" = true)
  (k32:ZpG K (.ref f32)=true)
  (a33:ZpI K mainGlobals "_law_fold" = some (some (.ref f33)))
  (l33:K.lookup f33=some ⟨oc33,od33,.func (ZpH "_law_fold" "_law_fold" (Zaq Zbc) (Zai Zbc) (Zab Zbc) .none kV33 dc33 pm33 an33 cd33 ct33),sl33⟩)
  (c33:ZpJ K cd33 "_law_fold" = true)
  (k33:ZpG K (.ref f33)=true)
  (a34:ZpI K mainGlobals "_law_cone" = some (some (.ref f34)))
  (l34:K.lookup f34=some ⟨oc34,od34,.func (ZpH "_law_cone" "_law_cone" (Zaq Zby) (Zai Zby) (Zab Zby) .none kV34 dc34 pm34 an34 cd34 ct34),sl34⟩)
  (c34:ZpJ K cd34 "_law_cone" = true)
  (k34:ZpG K (.ref f34)=true)
  (a35:ZpI K mainGlobals "_law_whole" = some (some (.ref f35)))
  (l35:K.lookup f35=some ⟨oc35,od35,.func (ZpH "_law_whole" "_law_whole" (Zaq Zbh) (Zai Zbh) (Zab Zbh) .none kV35 dc35 pm35 an35 cd35 ct35),sl35⟩)
  (c35:ZpJ K cd35 "_law_whole" = true)
  (k35:ZpG K (.ref f35)=true)
  (a36:ZpI K mainGlobals "_law_stops" = some (some (.ref f36)))
  (l36:K.lookup f36=some ⟨oc36,od36,.func (ZpH "_law_stops" "_law_stops" (Zaq Zbi) (Zai Zbi) (Zab Zbi) .none kV36 dc36 pm36 an36 cd36 ct36),sl36⟩)
  (c36:ZpJ K cd36 "_law_stops" = true)
  (k36:ZpG K (.ref f36)=true)
  (a37:ZpI K mainGlobals "_law_good_cut" = some (some (.ref f37)))
  (l37:K.lookup f37=some ⟨oc37,od37,.func (ZpH "_law_good_cut" "_law_good_cut" (Zaq ZaI) (Zai ZaI) (Zab ZaI) .none kV37 dc37 pm37 an37 cd37 ct37),sl37⟩)
  (c37:ZpJ K cd37 "_law_good_cut" = true)
  (k37:ZpG K (.ref f37)=true)
  (a38:ZpI K mainGlobals "law" = some (some (.ref f38)))
  (l38:K.lookup f38=some ⟨oc38,od38,.func (ZpH "law" "law" (Zaq ZfT) (Zai ZfT) (Zab ZfT) .none kV38 dc38 pm38 an38 cd38 ct38),sl38⟩)
  (c38:ZpJ K cd38 "law" = true)
  (k38:ZpG K (.ref f38)=true)
  (xi_NoGoal:ZpQ K C_NoGoal [.type "ValueError",.type "Exception",.type "BaseException",.type "object"] "ValueError.__new__" = true)
  (xq_NoGoal:exq K C_NoGoal=true)
  (kv_NoGoal:ZpN K (.ref C_NoGoal) (.type "ValueError")=some true)
  (xi_NoKnot:ZpQ K C_NoKnot [.type "ValueError",.type "Exception",.type "BaseException",.type "object"] "ValueError.__new__" = true)
  (xq_NoKnot:exq K C_NoKnot=true)
  (kv_NoKnot:ZpN K (.ref C_NoKnot) (.type "ValueError")=some true)
  (xi_NoSize:ZpQ K C_NoSize [.type "ValueError",.type "Exception",.type "BaseException",.type "object"] "ValueError.__new__" = true)
  (xq_NoSize:exq K C_NoSize=true)
  (kv_NoSize:ZpN K (.ref C_NoSize) (.type "ValueError")=some true)
  (xi_NoTie:ZpQ K C_NoTie [.type "ValueError",.type "Exception",.type "BaseException",.type "object"] "ValueError.__new__" = true)
  (xq_NoTie:exq K C_NoTie=true)
  (kv_NoTie:ZpN K (.ref C_NoTie) (.type "ValueError")=some true)
  (xk_NoGoal:ZpT K C_NoGoal "BaseException" = true)
  (xk_NoKnot:ZpT K C_NoKnot "BaseException" = true)
  (xk_NoSize:ZpT K C_NoSize "BaseException" = true)
  (xk_NoTie:ZpT K C_NoTie "BaseException" = true)
  (pg_Labels:ZpU K C_Labels Str.empty=true)
  (hd_Labels:ZpV K C_Labels=true)
  (po_Labels:ZpX K C_Labels=true)
  (sa_Labels:ZpL K (.ref C_Labels) "__setattr__" = some (some (.builtin "object.__setattr__")))
  (mk_Labels:ZpY K C_Labels=true)
  (kc_Labels:ZpG K (.ref C_Labels)=true)
  (n_Labels_levels:ZpL K (.ref C_Labels) "levels" = some none)
  (n_Labels_found_cuts:ZpL K (.ref C_Labels) "found_cuts" = some none)
  (n_Labels_found_ways:ZpL K (.ref C_Labels) "found_ways" = some none)
  (pg_Fold:ZpU K C_Fold Str.empty=true)
  (hd_Fold:ZpV K C_Fold=true)
  (po_Fold:ZpX K C_Fold=true)
  (sa_Fold:ZpL K (.ref C_Fold) "__setattr__" = some (some (.builtin "object.__setattr__")))
  (mk_Fold:ZpY K C_Fold=true)
  (kc_Fold:ZpG K (.ref C_Fold)=true)
  (n_Fold_many:ZpL K (.ref C_Fold) "many" = some none)
  (n_Fold_pairs:ZpL K (.ref C_Fold) "pairs" = some none)
  (n_Fold_knots:ZpL K (.ref C_Fold) "knots" = some none)
  (g_ALWAYS:ZpI K mainGlobals "ALWAYS" = some (some (.int 1 ug_ALWAYS)))
  (g_GREATEST_SIZE:ZpI K mainGlobals "GREATEST_SIZE" = some (some (.int 6 ug_GREATEST_SIZE)))
  (g_LEAST_SIZE:ZpI K mainGlobals "LEAST_SIZE" = some (some (.int 2 ug_LEAST_SIZE)))
  (g_NEVER:ZpI K mainGlobals "NEVER" = some (some (.int 0 ug_NEVER)))
  (z_bool:ZpI K mainGlobals "bool" = some none)
  (z_int:ZpI K mainGlobals "int" = some none)
  (z_isinstance:ZpI K mainGlobals "isinstance" = some none)
  (z_len:ZpI K mainGlobals "len" = some none)
  (z_list:ZpI K mainGlobals "list" = some none)
  (z_max:ZpI K mainGlobals "max" = some none)
  (z_min:ZpI K mainGlobals "min" = some none)
  (z_range:ZpI K mainGlobals "range" = some none)
  (z_sorted:ZpI K mainGlobals "sorted" = some none) :
  ∃ fd:FuncData,(∀ (s:Shared) (v:Value),BindsTo s fd ⟨[v],[]⟩ [("_law_script",v)])/\∀ base:Heap,K.In base->base.Ns mainGlobals mg->FnOk l.prog w K mg base CX0 8 fa fd ["_law_script"] (sp_law K):=by
 have e:=hfa.symm.trans (ZpK X G a38)
 cases e
 have F0:=ZaP (st:=Zbz) l0 c0 k0
 have B0:=F0.binds (ps:=["thing"]) fun _ _ _ _ _ _ us hl=>by obtain ⟨_,rfl⟩:=Zga hl;rfl
 have F1:=ZaP (st:=Za2) l1 c1 k1
 have B1:=F1.binds (ps:=["thing","least","greatest"]) fun _ _ _ _ _ _ us hl=>by obtain ⟨_,_,_,rfl⟩:=Zfy hl;rfl
 have F2:=ZaP (st:=ZbC) l2 c2 k2
 have B2:=F2.binds (ps:=["fold","knots","stops"]) fun _ _ _ _ _ _ us hl=>by obtain ⟨_,_,_,rfl⟩:=Zfy hl;rfl
 have F3:=ZaP (st:=Zd1) l3 c3 k3
 have B3:=F3.binds (ps:=["fold","knot"]) fun _ _ _ _ _ _ us hl=>by obtain ⟨_,_,rfl⟩:=ZdT hl;rfl
 have F4:=ZaP (st:=ZdZ) l4 c4 k4
 have B4:=F4.binds (ps:=["place"]) fun _ _ _ _ _ _ us hl=>by obtain ⟨_,rfl⟩:=Zga hl;rfl
 have F5:=ZaP (st:=Zd0) l5 c5 k5
 have B5:=F5.binds (ps:=["place"]) fun _ _ _ _ _ _ us hl=>by obtain ⟨_,rfl⟩:=Zga hl;rfl
 have F6:=ZaP (st:=Za1) l6 c6 k6
 have B6:=F6.binds (ps:=["maze","goals"]) fun _ _ _ _ _ _ us hl=>by obtain ⟨_,_,rfl⟩:=ZdT hl;rfl
 have F7:=ZaP (st:=Za8) l7 c7 k7
 have B7:=F7.binds (ps:=["maze","above","end"]) fun _ _ _ _ _ _ us hl=>by obtain ⟨_,_,_,rfl⟩:=Zfy hl;rfl
 have F8:=ZaP (st:=Zb5) l8 c8 k8
 have B8:=F8.binds (ps:=["maze","goals","above"]) fun _ _ _ _ _ _ us hl=>by obtain ⟨_,_,_,rfl⟩:=Zfy hl;rfl
 have F9:=ZaP (st:=ZdY) l9 c9 k9
 have B9:=F9.binds (ps:=["above","came","spring"]) fun _ _ _ _ _ _ us hl=>by obtain ⟨_,_,_,rfl⟩:=Zfy hl;rfl
 have F10:=ZaP (st:=Zbx) l10 c10 k10
 have B10:=F10.binds (ps:=["above","spring"]) fun _ _ _ _ _ _ us hl=>by obtain ⟨_,_,rfl⟩:=ZdT hl;rfl
 have F11:=ZaP (st:=Zbw) l11 c11 k11
 have B11:=F11.binds (ps:=["maze","above"]) fun _ _ _ _ _ _ us hl=>by obtain ⟨_,_,rfl⟩:=ZdT hl;rfl
 have F12:=ZaP (st:=Zbq) l12 c12 k12
 have B12:=F12.binds (ps:=["came"]) fun _ _ _ _ _ _ us hl=>by obtain ⟨_,rfl⟩:=Zga hl;rfl
 have F13:=ZaP (st:=ZcC) l13 c13 k13
 have B13:=F13.binds (ps:=["maze","goals","most"]) fun _ _ _ _ _ _ us hl=>by obtain ⟨_,_,_,rfl⟩:=Zfy hl;rfl
 have F14:=ZaP (st:=Zbg) l14 c14 k14
 have B14:=F14.binds (ps:=["size"]) fun _ _ _ _ _ _ us hl=>by obtain ⟨_,rfl⟩:=Zga hl;rfl
 have F15:=ZaP (st:=ZbJ) l15 c15 k15
 have B15:=F15.binds (ps:=["fold"]) fun _ _ _ _ _ _ us hl=>by obtain ⟨_,rfl⟩:=Zga hl;rfl
 have F16:=ZaP (st:=Zay) l16 c16 k16
 have B16:=F16.binds (ps:=["self","fold","size"]) fun _ _ _ _ _ _ us hl=>by obtain ⟨_,_,_,rfl⟩:=Zfy hl;rfl
 have F17:=ZaP (st:=Zat) l17 c17 k17
 have B17:=F17.binds (ps:=["self","maze","inner","size"]) fun _ _ _ _ _ _ us hl=>by obtain ⟨_,_,_,_,rfl⟩:=lenN4 hl;rfl
 have F18:=ZaP (st:=ZaU) l18 c18 k18
 have B18:=F18.binds (ps:=["self","knot","level","cut","ways"]) fun _ _ _ _ _ _ us hl=>by obtain ⟨_,_,_,_,_,rfl⟩:=lenN5 hl;rfl
 have F19:=ZaP (st:=Zao) l19 c19 k19
 have B19:=F19.binds (ps:=["self","knot"]) fun _ _ _ _ _ _ us hl=>by obtain ⟨_,_,rfl⟩:=ZdT hl;rfl
 have F20:=ZaP (st:=ZaJ) l20 c20 k20
 have B20:=F20.binds (ps:=["self","knot"]) fun _ _ _ _ _ _ us hl=>by obtain ⟨_,_,rfl⟩:=ZdT hl;rfl
 have F21:=ZaP (st:=Za3) l21 c21 k21
 have B21:=F21.binds (ps:=["self","knot"]) fun _ _ _ _ _ _ us hl=>by obtain ⟨_,_,rfl⟩:=ZdT hl;rfl
 have F22:=ZaP (st:=Zb4) l22 c22 k22
 have B22:=F22.binds (ps:=["tie"]) fun _ _ _ _ _ _ us hl=>by obtain ⟨_,rfl⟩:=Zga hl;rfl
 have F23:=ZaP (st:=ZaD) l23 c23 k23
 have B23:=F23.binds (ps:=["self","many"]) fun _ _ _ _ _ _ us hl=>by obtain ⟨_,_,rfl⟩:=ZdT hl;rfl
 have F24:=ZaP (st:=Za4) l24 c24 k24
 have B24:=F24.binds (ps:=["self"]) fun _ _ _ _ _ _ us hl=>by obtain ⟨_,rfl⟩:=Zga hl;rfl
 have F25:=ZaP (st:=ZaK) l25 c25 k25
 have B25:=F25.binds (ps:=["self","tie"]) fun _ _ _ _ _ _ us hl=>by obtain ⟨_,_,rfl⟩:=ZdT hl;rfl
 have F26:=ZaP (st:=Zbl) l26 c26 k26
 have B26:=F26.binds (ps:=["self","knot"]) fun _ _ _ _ _ _ us hl=>by obtain ⟨_,_,rfl⟩:=ZdT hl;rfl
 have F27:=ZaP (st:=Zbm) l27 c27 k27
 have B27:=F27.binds (ps:=["self","one","other"]) fun _ _ _ _ _ _ us hl=>by obtain ⟨_,_,_,rfl⟩:=Zfy hl;rfl
 have F28:=ZaP (st:=ZaC) l28 c28 k28
 have B28:=F28.binds (ps:=["self","ties"]) fun _ _ _ _ _ _ us hl=>by obtain ⟨_,_,rfl⟩:=ZdT hl;rfl
 have F29:=ZaP (st:=ZaT) l29 c29 k29
 have B29:=F29.binds (ps:=["_law_script","_law_k"]) fun _ _ _ _ _ _ us hl=>by obtain ⟨_,_,rfl⟩:=ZdT hl;rfl
 have F30:=ZaP (st:=Zbj) l30 c30 k30
 have B30:=F30.binds (ps:=["_law_many","_law_cells"]) fun _ _ _ _ _ _ us hl=>by obtain ⟨_,_,rfl⟩:=ZdT hl;rfl
 have F31:=ZaP (st:=Zbk) l31 c31 k31
 have B31:=F31.binds (ps:=["_law_script","_law_start","_law_count"]) fun _ _ _ _ _ _ us hl=>by obtain ⟨_,_,_,rfl⟩:=Zfy hl;rfl
 have F32:=ZaP (st:=Zax) l32 c32 k32
 have B32:=F32.binds (ps:=["_law_many","_law_cell","_law_most"]) fun _ _ _ _ _ _ us hl=>by obtain ⟨_,_,_,rfl⟩:=Zfy hl;rfl
 have F33:=ZaP (st:=Zbc) l33 c33 k33
 have B33:=F33.binds (ps:=["_law_many","_law_pairs_here"]) fun _ _ _ _ _ _ us hl=>by obtain ⟨_,_,rfl⟩:=ZdT hl;rfl
 have F34:=ZaP (st:=Zby) l34 c34 k34
 have B34:=F34.binds (ps:=["_law_knots","_law_knot"]) fun _ _ _ _ _ _ us hl=>by obtain ⟨_,_,rfl⟩:=ZdT hl;rfl
 have F35:=ZaP (st:=Zbh) l35 c35 k35
 have B35:=F35.binds (ps:=["_law_found"]) fun _ _ _ _ _ _ us hl=>by obtain ⟨_,rfl⟩:=Zga hl;rfl
 have F36:=ZaP (st:=Zbi) l36 c36 k36
 have B36:=F36.binds (ps:=["_law_knots","_law_knot","_law_some"]) fun _ _ _ _ _ _ us hl=>by obtain ⟨_,_,_,rfl⟩:=Zfy hl;rfl
 have F37:=ZaP (st:=ZaI) l37 c37 k37
 have B37:=F37.binds (ps:=["_law_some","_law_knots","_law_knot","_law_size","_law_marks"]) fun _ _ _ _ _ _ us hl=>by obtain ⟨_,_,_,_,_,rfl⟩:=lenN5 hl;rfl
 have F38:=ZaP (st:=ZfT) l38 c38 k38
 have B38:=F38.binds (ps:=["_law_script"]) fun _ _ _ _ _ _ us hl=>by obtain ⟨_,rfl⟩:=Zga hl;rfl
 have T:Txt K mg ⟨f0,_,f1,_,f2,_,f3,_,f4,_,f5,_,f6,_,f7,_,f8,_,f9,_,f10,_,f11,_,f12,_,f13,_,f14,_,f15,_,f16,_,f17,_,f18,_,f19,_,f20,_,f21,_,f22,_,f23,_,f24,_,f25,_,f26,_,f27,_,f28,_,f29,_,f30,_,f31,_,f32,_,f33,_,f34,_,f35,_,f36,_,f37,_,_,_,C_Labels,C_Fold,C_NoGoal,C_NoKnot,C_NoSize,C_NoTie⟩:=⟨ZpK X G a0,F0,B0,ZpK X G a1,F1,B1,ZpK X G a2,F2,B2,ZpK X G a3,F3,B3,ZpK X G a4,F4,B4,ZpK X G a5,F5,B5,ZpK X G a6,F6,B6,ZpK X G a7,F7,B7,ZpK X G a8,F8,B8,ZpK X G a9,F9,B9,ZpK X G a10,F10,B10,ZpK X G a11,F11,B11,ZpK X G a12,F12,B12,ZpK X G a13,F13,B13,ZpK X G a14,F14,B14,ZpK X G a15,F15,B15,F16,B16,F17,B17,⟨a17,i17,k17⟩,F18,B18,⟨a18,i18,k18⟩,F19,B19,⟨a19,i19,k19⟩,F20,B20,⟨a20,i20,k20⟩,F21,B21,⟨a21,i21,k21⟩,ZpK X G a22,F22,B22,F23,B23,F24,B24,⟨a24,i24,k24⟩,F25,B25,⟨a25,i25,k25⟩,F26,B26,⟨a26,i26,k26⟩,F27,B27,⟨a27,i27,k27⟩,F28,B28,⟨a28,i28,k28⟩,ZpK X G a29,F29,B29,ZpK X G a30,F30,B30,ZpK X G a31,F31,B31,ZpK X G a32,F32,B32,ZpK X G a33,F33,B33,ZpK X G a34,F34,B34,ZpK X G a35,F35,B35,ZpK X G a36,F36,B36,ZpK X G a37,F37,B37,ZpK X G a38,F38,B38,ZpK X G aC_Labels,⟨pg_Labels,hd_Labels,po_Labels,sa_Labels⟩,⟨mk_Labels,a16,i16,kc_Labels⟩,n_Labels_levels,n_Labels_found_cuts,n_Labels_found_ways,ZpK X G aC_Fold,⟨pg_Fold,hd_Fold,po_Fold,sa_Fold⟩,⟨mk_Fold,a23,i23,kc_Fold⟩,n_Fold_many,n_Fold_pairs,n_Fold_knots,ZpK X G aC_NoGoal,ZpK X G aC_NoKnot,ZpK X G aC_NoSize,ZpK X G aC_NoTie,xi_NoGoal,xq_NoGoal,kv_NoGoal,xi_NoKnot,xq_NoKnot,kv_NoKnot,xi_NoSize,xq_NoSize,kv_NoSize,xi_NoTie,xq_NoTie,kv_NoTie,xk_NoGoal,xk_NoKnot,xk_NoSize,xk_NoTie,⟨_,ZpK X G g_ALWAYS,⟨_,rfl⟩⟩,⟨_,ZpK X G g_GREATEST_SIZE,⟨_,rfl⟩⟩,⟨_,ZpK X G g_LEAST_SIZE,⟨_,rfl⟩⟩,⟨_,ZpK X G g_NEVER,⟨_,rfl⟩⟩,ZpR X G z_bool,ZpR X G z_int,ZpR X G z_isinstance,ZpR X G z_len,ZpR X G z_list,ZpR X G z_max,ZpR X G z_min,ZpR X G z_range,ZpR X G z_sorted⟩
 exact ⟨_,fun s v=>.of_eq rfl,fun base _ _=>ok_law T⟩
theorem walk {l:Zp5}{q:Program}{loose:List Str}{XP:(Str->Option Value)->Heap->Prop}{YP:World->Heap->Prop}{d:DefRec}{K:Params->ZpF} (hn:l.most=some 63) (hdf:d.params.defaults=[])
  (hY:∀ (w:World) (h:Heap),YP w h->(K w.params).In h)
  (F:∀ (w:World) (mg:Str->Option Value) (fa:Addr) (h:Heap),(K w.params).In h->h.Ns mainGlobals mg->mg d.name=some (.ref fa) ->
   ∃ fd:FuncData,(∀ (s:Shared) (u:Value),BindsTo s fd ⟨[u],[]⟩ [("_law_script",u)])/\∀ base:Heap,(K w.params).In base->base.Ns mainGlobals mg->FnOk l.prog w (K w.params) mg base CX0 8 fa fd ["_law_script"] (sp_law (K w.params))) :
  PySem.W.WalkO q loose XP YP l.row.toRowW d [] (fun f vs=>PySem.call f vs) :=
 L2.ZkB (n:=63) (k:=8) (x:="_law_script") (CX:=fun _=>CX0) (sp:=fun w=>sp_law (K w.params)) hn (by decide) hdf ⟨rfl,by decide,by decide⟩ hY F (fun _ _ a ns hl _ hS=>⟨a,ns,rfl,hS,hl,fun _=>rfl⟩) fun _ _ _ _ _ z=>z
end K30
lay_quick PySem.Challenge.pw_gatefold_k30_label_by_its_cut
namespace OT
open PySem PySem.W PySem.Spec PyProof.Rows L2
noncomputable section
noncomputable abbrev PM:=Params
noncomputable abbrev OB:=Obj
noncomputable abbrev TP:Program:=PySem.W.Fast.tw10423151435166282330
noncomputable def tT (i:Nat):Stmt:=TP.main.body.getD i (.Pass ⟨0,0,0,0⟩)
noncomputable abbrev vs (s:Str) (t:Nat):Value:=.str s t
noncomputable abbrev vr (a:Nat):Value:=.ref a
noncomputable abbrev vi (a:Int) (t:Nat):Value:=.int a t
noncomputable abbrev vn:Value:=.none
noncomputable abbrev df (a:Array Value):Data:=.fields a
noncomputable abbrev dq (a:Array Value) (n:Nat):Data:=.seq a n
noncomputable abbrev dd (a:Array DictEntry) (n:Nat):Data:=.dict a n
noncomputable abbrev de (P:Params) (s:Str) (t:Nat) (v:Value):DictEntry:=.mk (PyData.keyHash P s) (.str s t) v
noncomputable abbrev ob (t:String) (d:Data) (sl:Array (Option Value)):Obj:=⟨.type t,none,d,sl⟩
noncomputable abbrev nd:=BT.node
noncomputable abbrev nl:=BT.nil
noncomputable abbrev Zl (P:PM):BT:=BT.nil
noncomputable abbrev N (f:PM->OB) (a b:PM->BT) (P:PM):BT:=BT.node (f P) (a P) (b P)
noncomputable abbrev M (f:PM->OB) (a:PM->BT) (P:PM):BT:=BT.node (f P) (a P) BT.nil
noncomputable abbrev L (f:PM->OB) (P:PM):BT:=BT.node (f P) BT.nil BT.nil
noncomputable abbrev bF:Value:=.bool false
noncomputable abbrev bT:Value:=.bool true
noncomputable abbrev vb (y:String):Value:=.builtin y
noncomputable abbrev vt (y:String):Value:=.type y
noncomputable abbrev sr (a:Nat):Option Value:=some (.ref a)
noncomputable abbrev ss (s:Str) (t:Nat):Option Value:=some (.str s t)
noncomputable abbrev z0:Value:=.int 0 0
noncomputable abbrev of (y:String) (l:List Value):Obj:=⟨.type y,none,.fields ⟨l⟩,⟨[]⟩⟩
noncomputable abbrev oq (y:String) (l:List Value) (n:Nat):Obj:=⟨.type y,none,.seq ⟨l⟩ n,⟨[]⟩⟩
noncomputable abbrev od (y:String) (l:List DictEntry) (n:Nat):Obj:=⟨.type y,none,.dict ⟨l⟩ n,⟨[]⟩⟩
noncomputable abbrev y0:String:=PySem.W.SL.s2766695959194262286x5
noncomputable abbrev y1:String:=PySem.W.SL.s5856160107412720595x4
noncomputable abbrev y2:String:=PySem.W.SL.s658472552662922059x5
noncomputable abbrev y3:String:=PySem.W.SL.s14018661285674007319x4
noncomputable abbrev y4:String:=PySem.W.SL.s7097527257260152453x26
noncomputable abbrev y5:String:=PySem.W.SL.s6070975301684473832x10
noncomputable abbrev y6:String:=PySem.W.SL.s11030030927630378310x26
noncomputable abbrev y7:String:=PySem.W.SL.s10062305145149207511x16
noncomputable abbrev y8:String:=PySem.W.SL.s17162191345867700912x4
noncomputable abbrev y9:String:=PySem.W.SL.s5946037652744460706x9
noncomputable abbrev y10:String:=PySem.W.SL.s4278001404047624695x13
noncomputable abbrev y11:String:=PySem.W.SL.s2742458400755230247x6
noncomputable abbrev y12:String:=PySem.W.SL.s4209523147560561109x18
noncomputable abbrev y13:String:=PySem.W.SL.s14755015743595814543x17
noncomputable abbrev y14:String:=PySem.W.SL.s10220274742760427390x26
noncomputable abbrev y15:String:=PySem.W.SL.s4290257624100764138x5
noncomputable abbrev y16:String:=PySem.W.SL.s4860613602091757760x24
noncomputable abbrev y17:String:=PySem.W.SL.s7174869446012820540x8
noncomputable abbrev y18:String:=PySem.W.SL.s11443829558043349243x14
noncomputable abbrev y19:String:=PySem.W.SL.s6511155373996960695x17
noncomputable abbrev y20:String:=PySem.W.SL.s12411053484034534018x21
noncomputable abbrev b0 (P:PM):OB:=PySem.W.boot_o_0 P
noncomputable abbrev b1 (P:PM):OB:=PySem.W.boot_o_1 P
noncomputable abbrev b2 (P:PM):OB:=PySem.W.boot_o_2 P
noncomputable abbrev b3 (P:PM):OB:=PySem.W.boot_o_3 P
noncomputable abbrev b4 (P:PM):OB:=PySem.W.boot_o_4 P
noncomputable abbrev b5 (P:PM):OB:=PySem.W.boot_o_5 P
noncomputable abbrev b6 (P:PM):OB:=PySem.W.boot_o_6 P
noncomputable abbrev b7 (P:PM):OB:=PySem.W.boot_o_7 P
noncomputable abbrev b8 (P:PM):OB:=PySem.W.boot_o_8 P
noncomputable abbrev b9 (P:PM):OB:=PySem.W.boot_o_9 P
noncomputable abbrev b10 (P:PM):OB:=PySem.W.boot_o_10 P
noncomputable abbrev j0 (a b:Str) (s:Stmt):OB:=⟨vn,none,.func (.mk a b (Zaq s) (.stmts (Zai s)) (Zab s) 0 [] vn vn vn vn none vn vn 0),⟨[]⟩⟩
noncomputable abbrev j1 (a b:Str) (s:Stmt) (q:Str) (t n:Nat):OB:=⟨(vt y17),none,.func (.mk a b (Zaq s) (.stmts (Zai s)) (Zab s) 3 [] vn vn vn (vs q t) none (vr n) vn 0),⟨[]⟩⟩
noncomputable abbrev q0:Str:=⟨⟨[76,97,98,101,108,115]⟩⟩
noncomputable abbrev q1:Str:=⟨⟨[47,99,108,97,105,109,47,99,117,116,46,112,121]⟩⟩
noncomputable abbrev q2:Str:=⟨⟨[95,108,97,119,95,100,105,103,105,116,95,112,97,105,114,115]⟩⟩
noncomputable abbrev q3:Str:=⟨⟨[110,101,120,116,95,101,110,100,115]⟩⟩
noncomputable abbrev q4:Str:=⟨⟨[115,101,97,114,99,104]⟩⟩
noncomputable abbrev q5:Str:=⟨⟨[78,111,84,105,101]⟩⟩
noncomputable abbrev q6:Str:=⟨⟨[103,97,116,101,102,111,108,100,46,101,114,114,111,114,115]⟩⟩
noncomputable abbrev q7:Str:=⟨⟨[114,101,97,99,104,101,100]⟩⟩
noncomputable abbrev q8:Str:=⟨⟨[102,111,108,100]⟩⟩
noncomputable abbrev q9:Str:=⟨⟨[107,110,111,116,115]⟩⟩
noncomputable abbrev q12:Str:=⟨⟨[116,111,116,97,108]⟩⟩
noncomputable abbrev q13:Str:=⟨⟨[107,110,111,116]⟩⟩
noncomputable abbrev q15:Str:=⟨⟨[109,97,110,121]⟩⟩
noncomputable abbrev q16:Str:=⟨⟨[116,105,101]⟩⟩
noncomputable abbrev q17:Str:=⟨⟨[112,97,105,114]⟩⟩
noncomputable abbrev q20:Str:=⟨⟨[103,97,116,101,102,111,108,100,46,99,111,110,101,115]⟩⟩
noncomputable abbrev q21:Str:=⟨⟨[95,108,97,119,95,99,101,108,108,95,97,116]⟩⟩
noncomputable abbrev q22:Str:=⟨⟨[95,108,97,119,95,115,99,114,105,112,116]⟩⟩
noncomputable abbrev q23:Str:=⟨⟨[95,108,97,119,95,107]⟩⟩
noncomputable abbrev q25:Str:=⟨⟨[95,108,97,119,95,103,111,111,100,95,99,117,116]⟩⟩
noncomputable abbrev q26:Str:=⟨⟨[95,108,97,119,95,115,111,109,101]⟩⟩
noncomputable abbrev q27:Str:=⟨⟨[95,108,97,119,95,107,110,111,116,115]⟩⟩
noncomputable abbrev q28:Str:=⟨⟨[95,108,97,119,95,107,110,111,116]⟩⟩
noncomputable abbrev q29:Str:=⟨⟨[95,108,97,119,95,115,105,122,101]⟩⟩
noncomputable abbrev q30:Str:=⟨⟨[95,108,97,119,95,109,97,114,107,115]⟩⟩
noncomputable abbrev q33:Str:=⟨⟨[95,108,97,119,95,104,117,110,103]⟩⟩
noncomputable abbrev q34:Str:=⟨⟨[95,108,97,119,95,99,111,110,101]⟩⟩
noncomputable abbrev q35:Str:=⟨⟨[95,108,97,119,95,104,105,103,104]⟩⟩
noncomputable abbrev q36:Str:=⟨⟨[95,108,97,119,95,119,104,111,108,101]⟩⟩
noncomputable abbrev q38:Str:=⟨⟨[95,108,97,119,95,115,116,111,112,115]⟩⟩
noncomputable abbrev q39:Str:=⟨⟨[108,97,119,95,103,97,116,101,102,111,108,100,95,107,51,48,95,108,97,98,101,108,95,98,121,95,105,116,115,95,99,117,116]⟩⟩
noncomputable abbrev q40:Str:=⟨⟨[95,95,109,111,100,117,108,101,95,95]⟩⟩
noncomputable abbrev q41:Str:=⟨⟨[95,95,113,117,97,108,110,97,109,101,95,95]⟩⟩
noncomputable abbrev q42:Str:=⟨⟨[78,111,75,110,111,116]⟩⟩
noncomputable abbrev q43:Str:=⟨⟨[95,95,102,105,114,115,116,108,105,110,101,110,111,95,95]⟩⟩
noncomputable abbrev q44:Str:=⟨⟨[95,95,115,116,97,116,105,99,95,97,116,116,114,105,98,117,116,101,115,95,95]⟩⟩
noncomputable abbrev q45:Str:=⟨⟨[95,108,97,119,95,109,97,110,121]⟩⟩
noncomputable abbrev q46:Str:=⟨⟨[95,108,97,119,95,99,101,108,108]⟩⟩
noncomputable abbrev q47:Str:=⟨⟨[95,108,97,119,95,109,111,115,116]⟩⟩
noncomputable abbrev q48:Str:=⟨⟨[95,108,97,119,95,112,97,105,114,115,95,104,101,114,101]⟩⟩
noncomputable abbrev q49:Str:=⟨⟨[95,108,97,119,95,99,111,117,110,116]⟩⟩
noncomputable abbrev q50:Str:=⟨⟨[115,116,111,112,115,95,111,102]⟩⟩
noncomputable abbrev q51:Str:=⟨⟨[99,97,109,101]⟩⟩
noncomputable abbrev q52:Str:=⟨⟨[101,110,100]⟩⟩
noncomputable abbrev q54:Str:=⟨⟨[102,111,111,116]⟩⟩
noncomputable abbrev q55:Str:=⟨⟨[103,97,116,101,102,111,108,100,46,109,97,122,101,115]⟩⟩
noncomputable abbrev q56:Str:=⟨⟨[110,101,101,100,95,97,110,100,95,107,110,111,116]⟩⟩
noncomputable abbrev q57:Str:=⟨⟨[76,97,98,101,108,115,46,110,101,101,100,95,97,110,100,95,107,110,111,116]⟩⟩
noncomputable abbrev q58:Str:=⟨⟨[109,97,122,101]⟩⟩
noncomputable abbrev q59:Str:=⟨⟨[116,117,114,110,101,100]⟩⟩
noncomputable abbrev q60:Str:=⟨⟨[95,95,110,97,109,101,95,95]⟩⟩
noncomputable abbrev q61:Str:=⟨⟨[95,95,100,111,99,95,95]⟩⟩
noncomputable abbrev q62:Str:=⟨⟨[95,95,112,97,99,107,97,103,101,95,95]⟩⟩
noncomputable abbrev q63:Str:=⟨⟨[95,95,108,111,97,100,101,114,95,95]⟩⟩
noncomputable abbrev q64:Str:=⟨⟨[95,95,115,112,101,99,95,95]⟩⟩
noncomputable abbrev q65:Str:=⟨⟨[95,95,97,110,110,111,116,97,116,105,111,110,115,95,95]⟩⟩
noncomputable abbrev q66:Str:=⟨⟨[95,95,98,117,105,108,116,105,110,115,95,95]⟩⟩
noncomputable abbrev q67:Str:=⟨⟨[95,95,102,105,108,101,95,95]⟩⟩
noncomputable abbrev q68:Str:=⟨⟨[95,95,99,97,99,104,101,100,95,95]⟩⟩
noncomputable abbrev q69:Str:=⟨⟨[70,111,108,100,69,114,114,111,114]⟩⟩
noncomputable abbrev q70:Str:=⟨⟨[78,111,71,111,97,108]⟩⟩
noncomputable abbrev q71:Str:=⟨⟨[78,111,83,105,122,101]⟩⟩
noncomputable abbrev q72:Str:=⟨⟨[105,115,95,119,104,111,108,101]⟩⟩
noncomputable abbrev q73:Str:=⟨⟨[105,115,95,98,101,116,119,101,101,110]⟩⟩
noncomputable abbrev q74:Str:=⟨⟨[99,111,110,101]⟩⟩
noncomputable abbrev q75:Str:=⟨⟨[104,101,97,100]⟩⟩
noncomputable abbrev q76:Str:=⟨⟨[110,101,101,100,95,103,111,97,108,115]⟩⟩
noncomputable abbrev q77:Str:=⟨⟨[108,101,97,100]⟩⟩
noncomputable abbrev q78:Str:=⟨⟨[119,97,121,95,102,114,111,109]⟩⟩
noncomputable abbrev q79:Str:=⟨⟨[119,97,121,115,95,111,102]⟩⟩
noncomputable abbrev q80:Str:=⟨⟨[97,112,97,114,116]⟩⟩
noncomputable abbrev q81:Str:=⟨⟨[76,69,65,83,84,95,83,73,90,69]⟩⟩
noncomputable abbrev q82:Str:=⟨⟨[71,82,69,65,84,69,83,84,95,83,73,90,69]⟩⟩
noncomputable abbrev q83:Str:=⟨⟨[110,101,101,100,95,115,105,122,101]⟩⟩
noncomputable abbrev q84:Str:=⟨⟨[109,97,122,101,95,111,102]⟩⟩
noncomputable abbrev q85:Str:=⟨⟨[78,69,86,69,82]⟩⟩
noncomputable abbrev q86:Str:=⟨⟨[65,76,87,65,89,83]⟩⟩
noncomputable abbrev q87:Str:=⟨⟨[70,111,108,100]⟩⟩
noncomputable abbrev q88:Str:=⟨⟨[95,108,97,119,95,112,97,105,114,115]⟩⟩
noncomputable abbrev q89:Str:=⟨⟨[95,108,97,119,95,109,105,120,101,100]⟩⟩
noncomputable abbrev q90:Str:=⟨⟨[95,108,97,119,95,102,111,108,100]⟩⟩
noncomputable abbrev q91:Str:=⟨⟨[108,97,119]⟩⟩
noncomputable abbrev q92:Str:=⟨⟨[116,104,105,110,103]⟩⟩
noncomputable abbrev q95:Str:=⟨⟨[103,97,116,101,102,111,108,100,46,119,104,111,108,101,115]⟩⟩
noncomputable abbrev q96:Str:=⟨⟨[115,101,116,116,108,101]⟩⟩
noncomputable abbrev q97:Str:=⟨⟨[76,97,98,101,108,115,46,115,101,116,116,108,101]⟩⟩
noncomputable abbrev q98:Str:=⟨⟨[115,101,108,102]⟩⟩
noncomputable abbrev q100:Str:=⟨⟨[115,105,122,101]⟩⟩
noncomputable abbrev q102:Str:=⟨⟨[103,114,101,97,116,101,115,116]⟩⟩
noncomputable abbrev q103:Str:=⟨⟨[108,101,118,101,108,115]⟩⟩
noncomputable abbrev q104:Str:=⟨⟨[108,111,119,101,114]⟩⟩
noncomputable abbrev q105:Str:=⟨⟨[107,101,101,112]⟩⟩
noncomputable abbrev q106:Str:=⟨⟨[103,111,97,108,115]⟩⟩
noncomputable abbrev q109:Str:=⟨⟨[102,111,117,110,100,95,119,97,121,115]⟩⟩
noncomputable abbrev q110:Str:=⟨⟨[95,108,97,119,95,116,111,100,111]⟩⟩
noncomputable abbrev q111:Str:=⟨⟨[95,108,97,119,95,115,101,101,110]⟩⟩
noncomputable abbrev q112:Str:=⟨⟨[95,108,97,119,95,97,116]⟩⟩
noncomputable abbrev Zmn:Str:=⟨⟨[95,95,105,110,105,116,95,95]⟩⟩
noncomputable abbrev q114:Str:=⟨⟨[70,111,108,100,46,95,95,105,110,105,116,95,95]⟩⟩
noncomputable abbrev q115:Str:=⟨⟨[99,117,116]⟩⟩
noncomputable abbrev q116:Str:=⟨⟨[76,97,98,101,108,115,46,99,117,116]⟩⟩
noncomputable abbrev q117:Str:=⟨⟨[76,97,98,101,108,115,46,107,101,101,112]⟩⟩
noncomputable abbrev q118:Str:=⟨⟨[108,101,118,101,108]⟩⟩
noncomputable abbrev q119:Str:=⟨⟨[119,97,121,115]⟩⟩
noncomputable abbrev q121:Str:=⟨⟨[102,111,117,110,100,95,99,117,116,115]⟩⟩
noncomputable abbrev Zgs:Str:=⟨⟨[103,97,116,101,102,111,108,100,46,108,97,98,101,108,115]⟩⟩
noncomputable abbrev q123:Str:=⟨⟨[95,95,119,101,97,107,114,101,102,95,95]⟩⟩
noncomputable abbrev q124:Str:=⟨⟨[76,97,98,101,108,115,46,95,95,105,110,105,116,95,95]⟩⟩
noncomputable abbrev q125:Str:=⟨⟨[70,111,108,100,46,116,111,116,97,108]⟩⟩
noncomputable abbrev q126:Str:=⟨⟨[112,97,105,114,115]⟩⟩
noncomputable abbrev q127:Str:=⟨⟨[108,97,98,101,108]⟩⟩
noncomputable abbrev q128:Str:=⟨⟨[76,97,98,101,108,115,46,108,97,98,101,108]⟩⟩
noncomputable abbrev q129:Str:=⟨⟨[60,109,111,100,117,108,101,62]⟩⟩
noncomputable abbrev q130:Str:=⟨⟨[97,110,100,95,107,110,111,116]⟩⟩
noncomputable abbrev q131:Str:=⟨⟨[70,111,108,100,46,97,110,100,95,107,110,111,116]⟩⟩
noncomputable abbrev q132:Str:=⟨⟨[116,105,101,115]⟩⟩
noncomputable abbrev q134:Str:=⟨⟨[98,111,116,104]⟩⟩
noncomputable abbrev q135:Str:=⟨⟨[70,111,108,100,46,98,111,116,104]⟩⟩
noncomputable abbrev q136:Str:=⟨⟨[104,97,115,95,116,105,101]⟩⟩
noncomputable abbrev q137:Str:=⟨⟨[70,111,108,100,46,104,97,115,95,116,105,101]⟩⟩
noncomputable abbrev ZhK:Str:=⟨⟨[103,97,116,101,102,111,108,100,46,102,111,108,100,115]⟩⟩
noncomputable abbrev q140:Str:=⟨⟨[95,108,97,119,95,115,116,97,114,116]⟩⟩
noncomputable abbrev q141:Str:=⟨⟨[95,108,97,119,95,109,97,100,101]⟩⟩
noncomputable abbrev q142:Str:=⟨⟨[103,111,97,108]⟩⟩
noncomputable abbrev q143:Str:=⟨⟨[76,97,98,101,108,115,46,119,97,121,115]⟩⟩
noncomputable abbrev q144:Str:=⟨⟨[119,97,121]⟩⟩
noncomputable abbrev q145:Str:=⟨⟨[108,101,97,115,116]⟩⟩
noncomputable abbrev q146:Str:=⟨⟨[97,98,111,118,101]⟩⟩
noncomputable abbrev q147:Str:=⟨⟨[112,108,97,99,101]⟩⟩
noncomputable abbrev q148:Str:=⟨⟨[95,108,97,119,95,99,111,110,101,95,111,102]⟩⟩
noncomputable abbrev q149:Str:=⟨⟨[95,95,100,105,99,116,95,95]⟩⟩
noncomputable abbrev q154:Str:=⟨⟨[95,108,97,119,95,108,101,102,116]⟩⟩
noncomputable abbrev q155:Str:=⟨⟨[95,108,97,119,95,114,105,103,104,116]⟩⟩
noncomputable abbrev q160:Str:=⟨⟨[95,108,97,119,95,102,111,117,110,100]⟩⟩
noncomputable abbrev q166:Str:=⟨⟨[95,108,97,119,95,99,101,108,108,115]⟩⟩
noncomputable abbrev q167:Str:=⟨⟨[95,108,97,119,95,116,111,112]⟩⟩
noncomputable abbrev q168:Str:=⟨⟨[95,108,97,119,95,114,101,115,116]⟩⟩
noncomputable abbrev q170:Str:=⟨⟨[115,112,114,105,110,103]⟩⟩
noncomputable abbrev q171:Str:=⟨⟨[70,111,108,100,46,112,97,105,114]⟩⟩
noncomputable abbrev q173:Str:=⟨⟨[117,112,112,101,114]⟩⟩
noncomputable abbrev q174:Str:=⟨⟨[119,97,105,116,105,110,103]⟩⟩
noncomputable abbrev q175:Str:=⟨⟨[97,104,101,97,100]⟩⟩
noncomputable abbrev q176:Str:=⟨⟨[109,111,115,116]⟩⟩
noncomputable abbrev q177:Str:=⟨⟨[110,117,109,98,101,114]⟩⟩
noncomputable abbrev q178:Str:=⟨⟨[102,111,117,110,100]⟩⟩
noncomputable abbrev q181:Str:=⟨⟨[111,110,101]⟩⟩
noncomputable abbrev q182:Str:=⟨⟨[111,116,104,101,114]⟩⟩
noncomputable abbrev q183:Str:=⟨⟨[102,105,114,115,116]⟩⟩
noncomputable abbrev q184:Str:=⟨⟨[115,101,99,111,110,100]⟩⟩
noncomputable abbrev q185:Str:=⟨⟨[95,95,109,97,105,110,95,95]⟩⟩
noncomputable def o43 (P:PM):OB:=oq y0 [] 0
noncomputable abbrev e:=L o43
noncomputable def o44 (P:PM):OB:=(Obj.mk vn none (df ⟨[]⟩) ⟨[]⟩)
noncomputable def o45 (P:PM):OB:=of y1 [vs q129 182,vs q129 183,vs q1 184,vi 1 0,z0,z0,z0,z0,vr 11,bF,vi 181 0,vr 12,vn,vn,vn,vn,vi 185 0,vi 1 0,vs q1 186]
noncomputable def o46 (P:PM):OB:=(ob y2 Data.plain ⟨[(sr 13),(sr 3),(sr 3),none,(ss q185 164),none,(sr 0)]⟩)
noncomputable def o49 (P:PM):OB:=od y3 [de P q60 165 (vs q6 187),de P q61 166 vn,de P q62 167 vn,de P q63 168 (vb y4),de P q64 169 vn,de P q65 170 (vr 6),de P q66 171 (vr 4),de P q67 173 (vs q1 172),de P q68 174 vn,de P q69 206 (vr 24)] 10
noncomputable def o50 (P:PM):OB:=(Obj.mk vn none (df ⟨[vi 2 0,z0,vr 20]⟩) ⟨[]⟩)
noncomputable def o51 (P:PM):OB:=oq y0 [(vt y5)] 0
noncomputable def o52 (P:PM):OB:=of y6 [(vb y7),(vt y8)]
noncomputable def o53 (P:PM):OB:=od y3 [de P q40 196 (vs q6 187),de P q41 198 (vs q69 197),de P q43 200 (vi 2 199),de P q44 201 (vr 22)] 4
noncomputable def o56 (P:PM):OB:=of y1 [vs q69 191,vs q69 192,vs q1 193,vi 2 0,z0,z0,z0,z0,vr 18,bF,vi 181 0,vr 19,vn,vn,vn,vn,vi 194 0,vi 2 0,vs q1 195]
noncomputable def o57 (P:PM):OB:=(ob y2 Data.plain ⟨[(sr 20),(sr 3),(sr 17),none,(ss q6 187),none,(sr 0)]⟩)
noncomputable def o59 (P:PM):OB:=od y3 [de P q40 196 (vs q6 187),de P q43 200 (vi 2 199),de P q44 201 (vr 22),de P q123 203 (vr 25),de P q61 204 vn] 3
noncomputable def o60 (P:PM):OB:=(ob y8 (Data.cls (ClassData.mk q69 [(vt y5)] [vr 24,(vt y5),(vt y9),(vt y10),(vt y11)] 23 q69 true [] [] false none false)) ⟨[(sr 15),none,(ss q69 189),(ss q69 197),(some (vb y12)),(some bT)]⟩)
noncomputable def o61 (P:PM):OB:=of y13 [vs q123 202,vr 24,(vb y14),vn]
noncomputable def o62 (P:PM):OB:=of y15 [vr 24,vr 24,vr 24]
noncomputable def o63 (P:PM):OB:=of y6 [(vb y16),vr 24]
noncomputable def o64 (P:PM):OB:=od y3 [de P q60 165 (vs q6 187),de P q61 166 vn,de P q62 167 vn,de P q63 168 (vb y4),de P q64 169 vn,de P q65 170 (vr 6),de P q66 171 (vr 4),de P q67 173 (vs q1 172),de P q68 174 vn,de P q69 206 (vr 24),de P q5 222 (vr 37)] 11
noncomputable def o65 (P:PM):OB:=(Obj.mk vn none (df ⟨[vi 2 0,z0,vr 20,vi 4 0,z0,vr 33]⟩) ⟨[]⟩)
noncomputable def o66 (P:PM):OB:=(ob y8 (Data.cls (ClassData.mk q69 [(vt y5)] [vr 24,(vt y5),(vt y9),(vt y10),(vt y11)] 23 q69 true [] [vr 37] false none false)) ⟨[(sr 15),none,(ss q69 189),(ss q69 197),(some (vb y12)),(some bT)]⟩)
noncomputable def o67 (P:PM):OB:=oq y0 [vr 24] 0
noncomputable def o69 (P:PM):OB:=od y3 [de P q40 214 (vs q6 187),de P q41 216 (vs q5 215),de P q43 218 (vi 4 217),de P q44 219 (vr 35)] 4
noncomputable def o72 (P:PM):OB:=of y1 [vs q5 209,vs q5 210,vs q1 211,vi 4 0,z0,z0,z0,z0,vr 31,bF,vi 181 0,vr 32,vn,vn,vn,vn,vi 212 0,vi 4 0,vs q1 213]
noncomputable def o73 (P:PM):OB:=(ob y2 Data.plain ⟨[(sr 33),(sr 3),(sr 30),none,(ss q6 187),none,(sr 0)]⟩)
noncomputable def o75 (P:PM):OB:=od y3 [de P q40 214 (vs q6 187),de P q43 218 (vi 4 217),de P q44 219 (vr 35),de P q61 220 vn] 2
noncomputable def o76 (P:PM):OB:=(ob y8 (Data.cls (ClassData.mk q5 [vr 24] [vr 37,vr 24,(vt y5),(vt y9),(vt y10),(vt y11)] 36 q5 true [] [] false none false)) ⟨[(sr 28),none,(ss q5 207),(ss q5 215),(some (vb y12)),(some bT)]⟩)
noncomputable def o77 (P:PM):OB:=of y15 [vr 37,vr 37,vr 37]
noncomputable def o78 (P:PM):OB:=of y6 [(vb y16),vr 37]
noncomputable def o79 (P:PM):OB:=od y3 [de P q60 165 (vs q6 187),de P q61 166 vn,de P q62 167 vn,de P q63 168 (vb y4),de P q64 169 vn,de P q65 170 (vr 6),de P q66 171 (vr 4),de P q67 173 (vs q1 172),de P q68 174 vn,de P q69 206 (vr 24),de P q5 222 (vr 37),de P q42 238 (vr 49)] 12
noncomputable def o80 (P:PM):OB:=(Obj.mk vn none (df ⟨[vi 2 0,z0,vr 20,vi 4 0,z0,vr 33,vi 6 0,z0,vr 45]⟩) ⟨[]⟩)
noncomputable def o81 (P:PM):OB:=(ob y8 (Data.cls (ClassData.mk q69 [(vt y5)] [vr 24,(vt y5),(vt y9),(vt y10),(vt y11)] 23 q69 true [] [vr 37,vr 49] false none false)) ⟨[(sr 15),none,(ss q69 189),(ss q69 197),(some (vb y12)),(some bT)]⟩)
noncomputable def o84 (P:PM):OB:=od y3 [de P q40 230 (vs q6 187),de P q41 232 (vs q42 231),de P q43 234 (vi 6 233),de P q44 235 (vr 47)] 4
noncomputable def o87 (P:PM):OB:=of y1 [vs q42 225,vs q42 226,vs q1 227,vi 6 0,z0,z0,z0,z0,vr 43,bF,vi 181 0,vr 44,vn,vn,vn,vn,vi 228 0,vi 6 0,vs q1 229]
noncomputable def o88 (P:PM):OB:=(ob y2 Data.plain ⟨[(sr 45),(sr 3),(sr 42),none,(ss q6 187),none,(sr 0)]⟩)
noncomputable def o90 (P:PM):OB:=od y3 [de P q40 230 (vs q6 187),de P q43 234 (vi 6 233),de P q44 235 (vr 47),de P q61 236 vn] 2
noncomputable def o91 (P:PM):OB:=(ob y8 (Data.cls (ClassData.mk q42 [vr 24] [vr 49,vr 24,(vt y5),(vt y9),(vt y10),(vt y11)] 48 q42 true [] [] false none false)) ⟨[(sr 40),none,(ss q42 223),(ss q42 231),(some (vb y12)),(some bT)]⟩)
noncomputable def o92 (P:PM):OB:=of y15 [vr 49,vr 49,vr 49]
noncomputable def o93 (P:PM):OB:=of y6 [(vb y16),vr 49]
noncomputable def o94 (P:PM):OB:=od y3 [de P q60 165 (vs q6 187),de P q61 166 vn,de P q62 167 vn,de P q63 168 (vb y4),de P q64 169 vn,de P q65 170 (vr 6),de P q66 171 (vr 4),de P q67 173 (vs q1 172),de P q68 174 vn,de P q69 206 (vr 24),de P q5 222 (vr 37),de P q42 238 (vr 49),de P q70 254 (vr 61)] 13
noncomputable def o95 (P:PM):OB:=(Obj.mk vn none (df ⟨[vi 2 0,z0,vr 20,vi 4 0,z0,vr 33,vi 6 0,z0,vr 45,vi 8 0,z0,vr 57]⟩) ⟨[]⟩)
noncomputable def o96 (P:PM):OB:=(ob y8 (Data.cls (ClassData.mk q69 [(vt y5)] [vr 24,(vt y5),(vt y9),(vt y10),(vt y11)] 23 q69 true [] [vr 37,vr 49,vr 61] false none false)) ⟨[(sr 15),none,(ss q69 189),(ss q69 197),(some (vb y12)),(some bT)]⟩)
noncomputable def o99 (P:PM):OB:=od y3 [de P q40 246 (vs q6 187),de P q41 248 (vs q70 247),de P q43 250 (vi 8 249),de P q44 251 (vr 59)] 4
noncomputable def ZnN (P:PM):OB:=of y1 [vs q70 241,vs q70 242,vs q1 243,vi 8 0,z0,z0,z0,z0,vr 55,bF,vi 181 0,vr 56,vn,vn,vn,vn,vi 244 0,vi 8 0,vs q1 245]
noncomputable def ZnM (P:PM):OB:=(ob y2 Data.plain ⟨[(sr 57),(sr 3),(sr 54),none,(ss q6 187),none,(sr 0)]⟩)
noncomputable def ZmP (P:PM):OB:=od y3 [de P q40 246 (vs q6 187),de P q43 250 (vi 8 249),de P q44 251 (vr 59),de P q61 252 vn] 2
noncomputable def ZmO (P:PM):OB:=(ob y8 (Data.cls (ClassData.mk q70 [vr 24] [vr 61,vr 24,(vt y5),(vt y9),(vt y10),(vt y11)] 60 q70 true [] [] false none false)) ⟨[(sr 52),none,(ss q70 239),(ss q70 247),(some (vb y12)),(some bT)]⟩)
noncomputable def ZnL (P:PM):OB:=of y15 [vr 61,vr 61,vr 61]
noncomputable def ZnK (P:PM):OB:=of y6 [(vb y16),vr 61]
noncomputable def o109 (P:PM):OB:=od y3 [de P q60 165 (vs q55 305),de P q61 166 vn,de P q62 167 vn,de P q63 168 (vb y4),de P q64 169 vn,de P q65 170 (vr 6),de P q66 171 (vr 4),de P q67 173 (vs q1 172),de P q68 174 vn,de P q69 206 (vr 24),de P q5 222 (vr 37),de P q42 238 (vr 49),de P q70 254 (vr 61),de P q71 270 (vr 73),de P q72 279 (vr 82),de P q73 288 (vr 89),de P q7 296 (vr 94),de P q74 304 (vr 101),de P q75 313 (vr 108)] 19
noncomputable def o110 (P:PM):OB:=(Obj.mk vn none (df ⟨[vi 2 0,z0,vr 20,vi 4 0,z0,vr 33,vi 6 0,z0,vr 45,vi 8 0,z0,vr 57,vi 10 0,z0,vr 69,vi 13 0,z0,vr 81,vi 15 0,z0,vr 88,vi 18 0,z0,vr 93,vi 27 0,z0,vr 100,vi 32 0,z0,vr 107]⟩) ⟨[]⟩)
noncomputable def ZnJ (P:PM):OB:=(ob y8 (Data.cls (ClassData.mk q69 [(vt y5)] [vr 24,(vt y5),(vt y9),(vt y10),(vt y11)] 23 q69 true [] [vr 37,vr 49,vr 61,vr 73] false none false)) ⟨[(sr 15),none,(ss q69 189),(ss q69 197),(some (vb y12)),(some bT)]⟩)
noncomputable def Zo3 (P:PM):OB:=od y3 [de P q40 262 (vs q6 187),de P q41 264 (vs q71 263),de P q43 266 (vi 10 265),de P q44 267 (vr 71)] 4
noncomputable def Zo2 (P:PM):OB:=of y1 [vs q71 257,vs q71 258,vs q1 259,vi 10 0,z0,z0,z0,z0,vr 67,bF,vi 181 0,vr 68,vn,vn,vn,vn,vi 260 0,vi 10 0,vs q1 261]
noncomputable def Zo1 (P:PM):OB:=(ob y2 Data.plain ⟨[(sr 69),(sr 3),(sr 66),none,(ss q6 187),none,(sr 0)]⟩)
noncomputable def ZnI (P:PM):OB:=od y3 [de P q40 262 (vs q6 187),de P q43 266 (vi 10 265),de P q44 267 (vr 71),de P q61 268 vn] 2
noncomputable def ZnH (P:PM):OB:=(ob y8 (Data.cls (ClassData.mk q71 [vr 24] [vr 73,vr 24,(vt y5),(vt y9),(vt y10),(vt y11)] 72 q71 true [] [] false none false)) ⟨[(sr 64),none,(ss q71 255),(ss q71 263),(some (vb y12)),(some bT)]⟩)
noncomputable def Zo0 (P:PM):OB:=of y15 [vr 73,vr 73,vr 73]
noncomputable def ZoZ (P:PM):OB:=of y6 [(vb y16),vr 73]
noncomputable def ZoY (P:PM):OB:=oq y0 [vs q92 276] 0
noncomputable def ZoX (P:PM):OB:=j0 q72 q72 (tT 7)
noncomputable def ZnG (P:PM):OB:=of y1 [vs q72 273,vs q72 274,vs q1 275,vi 13 0,vi 1 0,z0,z0,vi 3 0,vr 76,bT,vi 181 0,vr 77,vn,vr 78,vr 79,vr 80,vi 277 0,vi 13 0,vs q1 278]
noncomputable def ZoW (P:PM):OB:=j1 q72 q72 (tT 7) q95 271 81
noncomputable def ZoV (P:PM):OB:=oq y0 [vs q92 283,vs q145 284,vs q102 285] 0
noncomputable def ZoU (P:PM):OB:=j0 q73 q73 (tT 8)
noncomputable def ZnF (P:PM):OB:=of y1 [vs q73 280,vs q73 281,vs q1 282,vi 15 0,vi 3 0,z0,z0,vi 3 0,vr 83,bT,vi 181 0,vr 84,vn,vr 85,vr 86,vr 87,vi 286 0,vi 15 0,vs q1 287]
noncomputable def ZoT (P:PM):OB:=j1 q73 q73 (tT 8) q95 271 88
noncomputable def ZoS (P:PM):OB:=j0 q7 q7 (tT 10)
noncomputable def ZnE (P:PM):OB:=of y1 [vs q7 291,vs q7 292,vs q1 293,vi 18 0,vi 3 0,z0,z0,vi 3 0,vr 90,bT,vi 181 0,vr 91,vn,vn,vn,vr 92,vi 294 0,vi 18 0,vs q1 295]
noncomputable def ZoR (P:PM):OB:=j1 q7 q7 (tT 10) q20 289 93
noncomputable def ZoQ (P:PM):OB:=oq y0 [vs q8 300,vs q13 301] 0
noncomputable def ZoP (P:PM):OB:=j0 q74 q74 (tT 11)
noncomputable def ZnD (P:PM):OB:=of y1 [vs q74 297,vs q74 298,vs q1 299,vi 27 0,vi 2 0,z0,z0,vi 3 0,vr 95,bT,vi 181 0,vr 96,vn,vr 97,vr 98,vr 99,vi 302 0,vi 27 0,vs q1 303]
noncomputable def ZoO (P:PM):OB:=j1 q74 q74 (tT 11) q20 289 100
noncomputable def ZoN (P:PM):OB:=oq y0 [vs q147 310] 0
noncomputable def ZoM (P:PM):OB:=j0 q75 q75 (tT 13)
noncomputable def ZnC (P:PM):OB:=of y1 [vs q75 307,vs q75 308,vs q1 309,vi 32 0,vi 1 0,z0,z0,vi 3 0,vr 102,bT,vi 181 0,vr 103,vn,vr 104,vr 105,vr 106,vi 311 0,vi 32 0,vs q1 312]
noncomputable def ZoL (P:PM):OB:=j1 q75 q75 (tT 13) q55 305 107
noncomputable def o157 (P:PM):OB:=od y3 [de P q60 165 (vs Zgs 397),de P q61 166 vn,de P q62 167 vn,de P q63 168 (vb y4),de P q64 169 vn,de P q65 170 (vr 6),de P q66 171 (vr 4),de P q67 173 (vs q1 172),de P q68 174 vn,de P q69 206 (vr 24),de P q5 222 (vr 37),de P q42 238 (vr 49),de P q70 254 (vr 61),de P q71 270 (vr 73),de P q72 279 (vr 82),de P q73 288 (vr 89),de P q7 296 (vr 94),de P q74 304 (vr 101),de P q75 313 (vr 108),de P q54 320 (vr 115),de P q76 329 (vr 122),de P q3 335 (vr 127),de P q4 351 (vr 134),de P q77 363 (vr 141),de P q78 372 (vr 148),de P q79 378 (vr 153),de P q50 384 (vr 158),de P q80 396 (vr 165),de P q81 400 (vi 2 399),de P q82 402 (vi 6 401),de P q83 409 (vr 172),de P q84 419 (vr 179)] 32
noncomputable def o158 (P:PM):OB:=(Obj.mk vn none (df ⟨[vi 2 0,z0,vr 20,vi 4 0,z0,vr 33,vi 6 0,z0,vr 45,vi 8 0,z0,vr 57,vi 10 0,z0,vr 69,vi 13 0,z0,vr 81,vi 15 0,z0,vr 88,vi 18 0,z0,vr 93,vi 27 0,z0,vr 100,vi 32 0,z0,vr 107,vi 34 0,z0,vr 114,vi 36 0,z0,vr 121,vi 40 0,z0,vr 126,vi 47 0,z0,vr 133,vi 63 0,z0,vr 140,vi 76 0,z0,vr 147,vi 81 0,z0,vr 152,vi 84 0,z0,vr 157,vi 86 0,z0,vr 164,vi 98 0,z0,vr 171,vi 101 0,z0,vr 178]⟩) ⟨[]⟩)
noncomputable def o161 (P:PM):OB:=oq y0 [vs q147 317] 0
noncomputable def o163 (P:PM):OB:=j0 q54 q54 (tT 14)
noncomputable def ZoK (P:PM):OB:=of y1 [vs q54 314,vs q54 315,vs q1 316,vi 34 0,vi 1 0,z0,z0,vi 3 0,vr 109,bT,vi 181 0,vr 110,vn,vr 111,vr 112,vr 113,vi 318 0,vi 34 0,vs q1 319]
noncomputable def o165 (P:PM):OB:=j1 q54 q54 (tT 14) q55 305 114
noncomputable def o168 (P:PM):OB:=oq y0 [vs q58 324,vs q106 325,vs q142 326] 0
noncomputable def o170 (P:PM):OB:=j0 q76 q76 (tT 15)
noncomputable def ZoJ (P:PM):OB:=of y1 [vs q76 321,vs q76 322,vs q1 323,vi 36 0,vi 2 0,z0,z0,vi 3 0,vr 116,bT,vi 181 0,vr 117,vn,vr 118,vr 119,vr 120,vi 327 0,vi 36 0,vs q1 328]
noncomputable def o172 (P:PM):OB:=j1 q76 q76 (tT 15) q55 305 121
noncomputable def o175 (P:PM):OB:=j0 q3 q3 (tT 16)
noncomputable def ZoI (P:PM):OB:=of y1 [vs q3 330,vs q3 331,vs q1 332,vi 40 0,vi 3 0,z0,z0,vi 3 0,vr 123,bT,vi 181 0,vr 124,vn,vn,vn,vr 125,vi 333 0,vi 40 0,vs q1 334]
noncomputable def o177 (P:PM):OB:=j1 q3 q3 (tT 16) q55 305 126
noncomputable def o180 (P:PM):OB:=oq y0 [vs q58 339,vs q106 340,vs q146 341,vs q51 342,vs q142 343,vs q104 344,vs q174 345,vs q52 346,vs q147 347,vs q175 348] 0
noncomputable def o182 (P:PM):OB:=j0 q4 q4 (tT 17)
noncomputable def ZoH (P:PM):OB:=of y1 [vs q4 336,vs q4 337,vs q1 338,vi 47 0,vi 3 0,z0,z0,vi 3 0,vr 128,bT,vi 181 0,vr 129,vn,vr 130,vr 131,vr 132,vi 349 0,vi 47 0,vs q1 350]
noncomputable def o184 (P:PM):OB:=j1 q4 q4 (tT 17) q55 305 133
noncomputable def o187 (P:PM):OB:=oq y0 [vs q146 355,vs q51 356,vs q170 357,vs q52 358,vs q147 359,vs q173 360] 0
noncomputable def o189 (P:PM):OB:=j0 q77 q77 (tT 18)
noncomputable def ZoG (P:PM):OB:=of y1 [vs q77 352,vs q77 353,vs q1 354,vi 63 0,vi 3 0,z0,z0,vi 3 0,vr 135,bT,vi 181 0,vr 136,vn,vr 137,vr 138,vr 139,vi 361 0,vi 63 0,vs q1 362]
noncomputable def o191 (P:PM):OB:=j1 q77 q77 (tT 18) q55 305 140
noncomputable def o194 (P:PM):OB:=oq y0 [vs q146 367,vs q170 368,vs q144 369] 0
noncomputable def o196 (P:PM):OB:=j0 q78 q78 (tT 19)
noncomputable def ZoF (P:PM):OB:=of y1 [vs q78 364,vs q78 365,vs q1 366,vi 76 0,vi 2 0,z0,z0,vi 3 0,vr 142,bT,vi 181 0,vr 143,vn,vr 144,vr 145,vr 146,vi 370 0,vi 76 0,vs q1 371]
noncomputable def o198 (P:PM):OB:=j1 q78 q78 (tT 19) q55 305 147
noncomputable def o201 (P:PM):OB:=j0 q79 q79 (tT 20)
noncomputable def ZoE (P:PM):OB:=of y1 [vs q79 373,vs q79 374,vs q1 375,vi 81 0,vi 2 0,z0,z0,vi 3 0,vr 149,bT,vi 181 0,vr 150,vn,vn,vn,vr 151,vi 376 0,vi 81 0,vs q1 377]
noncomputable def o203 (P:PM):OB:=j1 q79 q79 (tT 20) q55 305 152
noncomputable def o206 (P:PM):OB:=j0 q50 q50 (tT 21)
noncomputable def ZoD (P:PM):OB:=of y1 [vs q50 379,vs q50 380,vs q1 381,vi 84 0,vi 1 0,z0,z0,vi 3 0,vr 154,bT,vi 181 0,vr 155,vn,vn,vn,vr 156,vi 382 0,vi 84 0,vs q1 383]
noncomputable def o208 (P:PM):OB:=j1 q50 q50 (tT 21) q55 305 157
noncomputable def o211 (P:PM):OB:=oq y0 [vs q58 388,vs q106 389,vs q176 390,vs q146 391,vs q177 392,vs q178 393] 0
noncomputable def o213 (P:PM):OB:=j0 q80 q80 (tT 22)
noncomputable def ZoC (P:PM):OB:=of y1 [vs q80 385,vs q80 386,vs q1 387,vi 86 0,vi 3 0,z0,z0,vi 3 0,vr 159,bT,vi 181 0,vr 160,vn,vr 161,vr 162,vr 163,vi 394 0,vi 86 0,vs q1 395]
noncomputable def o215 (P:PM):OB:=j1 q80 q80 (tT 22) q55 305 164
noncomputable def o218 (P:PM):OB:=oq y0 [vs q100 406] 0
noncomputable def o220 (P:PM):OB:=j0 q83 q83 (tT 26)
noncomputable def ZoB (P:PM):OB:=of y1 [vs q83 403,vs q83 404,vs q1 405,vi 98 0,vi 1 0,z0,z0,vi 3 0,vr 166,bT,vi 181 0,vr 167,vn,vr 168,vr 169,vr 170,vi 407 0,vi 98 0,vs q1 408]
noncomputable def o222 (P:PM):OB:=j1 q83 q83 (tT 26) Zgs 397 171
noncomputable def o225 (P:PM):OB:=oq y0 [vs q8 413,vs q58 414,vs q13 415,vs q17 416] 0
noncomputable def o227 (P:PM):OB:=j0 q84 q84 (tT 27)
noncomputable def ZoA (P:PM):OB:=of y1 [vs q84 410,vs q84 411,vs q1 412,vi 101 0,vi 1 0,z0,z0,vi 3 0,vr 173,bT,vi 181 0,vr 174,vn,vr 175,vr 176,vr 177,vi 417 0,vi 101 0,vs q1 418]
noncomputable def o229 (P:PM):OB:=j1 q84 q84 (tT 27) Zgs 397 178
noncomputable def o230 (P:PM):OB:=od y3 [de P q60 165 (vs Zgs 397),de P q61 166 vn,de P q62 167 vn,de P q63 168 (vb y4),de P q64 169 vn,de P q65 170 (vr 6),de P q66 171 (vr 4),de P q67 173 (vs q1 172),de P q68 174 vn,de P q69 206 (vr 24),de P q5 222 (vr 37),de P q42 238 (vr 49),de P q70 254 (vr 61),de P q71 270 (vr 73),de P q72 279 (vr 82),de P q73 288 (vr 89),de P q7 296 (vr 94),de P q74 304 (vr 101),de P q75 313 (vr 108),de P q54 320 (vr 115),de P q76 329 (vr 122),de P q3 335 (vr 127),de P q4 351 (vr 134),de P q77 363 (vr 141),de P q78 372 (vr 148),de P q79 378 (vr 153),de P q50 384 (vr 158),de P q80 396 (vr 165),de P q81 400 (vi 2 399),de P q82 402 (vi 6 401),de P q83 409 (vr 172),de P q84 419 (vr 179),de P q0 500 (vr 234)] 33
noncomputable def o231 (P:PM):OB:=(Obj.mk vn none (df ⟨[vi 2 0,z0,vr 20,vi 4 0,z0,vr 33,vi 6 0,z0,vr 45,vi 8 0,z0,vr 57,vi 10 0,z0,vr 69,vi 13 0,z0,vr 81,vi 15 0,z0,vr 88,vi 18 0,z0,vr 93,vi 27 0,z0,vr 100,vi 32 0,z0,vr 107,vi 34 0,z0,vr 114,vi 36 0,z0,vr 121,vi 40 0,z0,vr 126,vi 47 0,z0,vr 133,vi 63 0,z0,vr 140,vi 76 0,z0,vr 147,vi 81 0,z0,vr 152,vi 84 0,z0,vr 157,vi 86 0,z0,vr 164,vi 98 0,z0,vr 171,vi 101 0,z0,vr 178,vi 107 0,z0,vr 185]⟩) ⟨[]⟩)
noncomputable def o234 (P:PM):OB:=od y3 [de P q40 427 (vs Zgs 397),de P q41 429 (vs q0 428),de P q43 431 (vi 107 430),de P Zmn 442 (vr 193),de P q96 448 (vr 198),de P q105 459 (vr 205),de P q56 467 (vr 212),de P q127 475 (vr 219),de P q115 483 (vr 226),de P q119 489 (vr 231),de P q44 493 (vr 232)] 11
noncomputable def o236 (P:PM):OB:=(Obj.mk vn none (df ⟨[vi 109 0,vi 4 0,vr 192,vi 118 0,vi 4 0,vr 197,vi 133 0,vi 4 0,vr 204,vi 138 0,vi 4 0,vr 211,vi 142 0,vi 4 0,vr 218,vi 147 0,vi 4 0,vr 225,vi 151 0,vi 4 0,vr 230]⟩) ⟨[]⟩)
noncomputable def o237 (P:PM):OB:=of y1 [vs q0 422,vs q0 423,vs q1 424,vi 107 0,z0,z0,z0,z0,vr 183,bF,vi 181 0,vr 184,vn,vn,vn,vn,vi 425 0,vi 107 0,vs q1 426]
noncomputable def o238 (P:PM):OB:=(ob y2 Data.plain ⟨[(sr 185),(sr 3),(sr 182),none,(ss Zgs 397),none,(sr 0)]⟩)
noncomputable def o241 (P:PM):OB:=oq y0 [vs q98 435,vs q8 436,vs q100 437,vs q58 438,vs q13 439] 0
noncomputable def o243 (P:PM):OB:=j0 Zmn q124 (Zaw (tT 28) 0)
noncomputable def o244 (P:PM):OB:=of y1 [vs Zmn 432,vs q124 433,vs q1 434,vi 109 0,vi 3 0,z0,z0,vi 3 0,vr 187,bT,vi 181 0,vr 188,vn,vr 189,vr 190,vr 191,vi 440 0,vi 109 0,vs q1 441]
noncomputable def o245 (P:PM):OB:=j1 Zmn q124 (Zaw (tT 28) 0) Zgs 397 192
noncomputable def o248 (P:PM):OB:=j0 q96 q97 (Zaw (tT 28) 1)
noncomputable def o249 (P:PM):OB:=of y1 [vs q96 443,vs q97 444,vs q1 445,vi 118 0,vi 4 0,z0,z0,vi 3 0,vr 194,bT,vi 181 0,vr 195,vn,vn,vn,vr 196,vi 446 0,vi 118 0,vs q1 447]
noncomputable def o250 (P:PM):OB:=j1 q96 q97 (Zaw (tT 28) 1) Zgs 397 197
noncomputable def o253 (P:PM):OB:=oq y0 [vs q98 452,vs q13 453,vs q118 454,vs q115 455,vs q119 456] 0
noncomputable def o255 (P:PM):OB:=j0 q105 q117 (Zaw (tT 28) 2)
noncomputable def o256 (P:PM):OB:=of y1 [vs q105 449,vs q117 450,vs q1 451,vi 133 0,vi 5 0,z0,z0,vi 3 0,vr 199,bT,vi 181 0,vr 200,vn,vr 201,vr 202,vr 203,vi 457 0,vi 133 0,vs q1 458]
noncomputable def o257 (P:PM):OB:=j1 q105 q117 (Zaw (tT 28) 2) Zgs 397 204
noncomputable def o260 (P:PM):OB:=oq y0 [vs q98 463,vs q13 464] 0
noncomputable def o262 (P:PM):OB:=j0 q56 q57 (Zaw (tT 28) 3)
noncomputable def o263 (P:PM):OB:=of y1 [vs q56 460,vs q57 461,vs q1 462,vi 138 0,vi 2 0,z0,z0,vi 3 0,vr 206,bT,vi 181 0,vr 207,vn,vr 208,vr 209,vr 210,vi 465 0,vi 138 0,vs q1 466]
noncomputable def o264 (P:PM):OB:=j1 q56 q57 (Zaw (tT 28) 3) Zgs 397 211
noncomputable def o267 (P:PM):OB:=oq y0 [vs q98 471,vs q13 472] 0
noncomputable def o269 (P:PM):OB:=j0 q127 q128 (Zaw (tT 28) 4)
noncomputable def o270 (P:PM):OB:=of y1 [vs q127 468,vs q128 469,vs q1 470,vi 142 0,vi 2 0,z0,z0,vi 3 0,vr 213,bT,vi 181 0,vr 214,vn,vr 215,vr 216,vr 217,vi 473 0,vi 142 0,vs q1 474]
noncomputable def o271 (P:PM):OB:=j1 q127 q128 (Zaw (tT 28) 4) Zgs 397 218
noncomputable def o274 (P:PM):OB:=oq y0 [vs q98 479,vs q13 480] 0
noncomputable def o276 (P:PM):OB:=j0 q115 q116 (Zaw (tT 28) 5)
noncomputable def o277 (P:PM):OB:=of y1 [vs q115 476,vs q116 477,vs q1 478,vi 147 0,vi 2 0,z0,z0,vi 3 0,vr 220,bT,vi 181 0,vr 221,vn,vr 222,vr 223,vr 224,vi 481 0,vi 147 0,vs q1 482]
noncomputable def o278 (P:PM):OB:=j1 q115 q116 (Zaw (tT 28) 5) Zgs 397 225
noncomputable def o281 (P:PM):OB:=j0 q119 q143 (Zaw (tT 28) 6)
noncomputable def o282 (P:PM):OB:=of y1 [vs q119 484,vs q143 485,vs q1 486,vi 151 0,vi 2 0,z0,z0,vi 3 0,vr 227,bT,vi 181 0,vr 228,vn,vn,vn,vr 229,vi 487 0,vi 151 0,vs q1 488]
noncomputable def o283 (P:PM):OB:=j1 q119 q143 (Zaw (tT 28) 6) Zgs 397 230
noncomputable def o284 (P:PM):OB:=oq y0 [vs q121 490,vs q109 491,vs q103 492] 0
noncomputable def o285 (P:PM):OB:=od y3 [de P q40 427 (vs Zgs 397),de P q43 431 (vi 107 430),de P Zmn 442 (vr 193),de P q96 448 (vr 198),de P q105 459 (vr 205),de P q56 467 (vr 212),de P q127 475 (vr 219),de P q115 483 (vr 226),de P q119 489 (vr 231),de P q44 493 (vr 232),de P q149 495 (vr 235),de P q123 497 (vr 236),de P q61 498 vn] 4
noncomputable def o286 (P:PM):OB:=(ob y8 (Data.cls (ClassData.mk q0 [(vt y11)] [vr 234,(vt y11)] 233 q0 true [] [] false none false)) ⟨[none,none,(ss q0 420),(ss q0 428),(some (vb y18)),(some bT)]⟩)
noncomputable def o287 (P:PM):OB:=of y13 [vs q149 494,vr 234,(vb y19),(vb y20)]
noncomputable def o288 (P:PM):OB:=of y13 [vs q123 496,vr 234,(vb y14),vn]
noncomputable def o289 (P:PM):OB:=of y15 [vr 234,vr 234,vr 234]
noncomputable def o290 (P:PM):OB:=of y6 [(vb y16),vr 234]
noncomputable def o291 (P:PM):OB:=od y3 [de P q60 165 (vs ZhK 501),de P q61 166 vn,de P q62 167 vn,de P q63 168 (vb y4),de P q64 169 vn,de P q65 170 (vr 6),de P q66 171 (vr 4),de P q67 173 (vs q1 172),de P q68 174 vn,de P q69 206 (vr 24),de P q5 222 (vr 37),de P q42 238 (vr 49),de P q70 254 (vr 61),de P q71 270 (vr 73),de P q72 279 (vr 82),de P q73 288 (vr 89),de P q7 296 (vr 94),de P q74 304 (vr 101),de P q75 313 (vr 108),de P q54 320 (vr 115),de P q76 329 (vr 122),de P q3 335 (vr 127),de P q4 351 (vr 134),de P q77 363 (vr 141),de P q78 372 (vr 148),de P q79 378 (vr 153),de P q50 384 (vr 158),de P q80 396 (vr 165),de P q81 400 (vi 2 399),de P q82 402 (vi 6 401),de P q83 409 (vr 172),de P q84 419 (vr 179),de P q0 500 (vr 234),de P q85 504 (vi 0 503),de P q86 506 (vi 1 505),de P q59 513 (vr 245)] 36
noncomputable def o292 (P:PM):OB:=(Obj.mk vn none (df ⟨[vi 2 0,z0,vr 20,vi 4 0,z0,vr 33,vi 6 0,z0,vr 45,vi 8 0,z0,vr 57,vi 10 0,z0,vr 69,vi 13 0,z0,vr 81,vi 15 0,z0,vr 88,vi 18 0,z0,vr 93,vi 27 0,z0,vr 100,vi 32 0,z0,vr 107,vi 34 0,z0,vr 114,vi 36 0,z0,vr 121,vi 40 0,z0,vr 126,vi 47 0,z0,vr 133,vi 63 0,z0,vr 140,vi 76 0,z0,vr 147,vi 81 0,z0,vr 152,vi 84 0,z0,vr 157,vi 86 0,z0,vr 164,vi 98 0,z0,vr 171,vi 101 0,z0,vr 178,vi 107 0,z0,vr 185,vi 157 0,z0,vr 244]⟩) ⟨[]⟩)
noncomputable def o295 (P:PM):OB:=oq y0 [vs q16 510] 0
noncomputable def o297 (P:PM):OB:=j0 q59 q59 (tT 32)
noncomputable def o298 (P:PM):OB:=of y1 [vs q59 507,vs q59 508,vs q1 509,vi 157 0,vi 1 0,z0,z0,vi 3 0,vr 239,bT,vi 181 0,vr 240,vn,vr 241,vr 242,vr 243,vi 511 0,vi 157 0,vs q1 512]
noncomputable def o299 (P:PM):OB:=j1 q59 q59 (tT 32) ZhK 501 244
noncomputable def o300 (P:PM):OB:=od y3 [de P q60 165 (vs q39 587),de P q61 166 vn,de P q62 167 vn,de P q63 168 (vb y4),de P q64 169 vn,de P q65 170 (vr 6),de P q66 171 (vr 4),de P q67 173 (vs q1 172),de P q68 174 vn,de P q69 206 (vr 24),de P q5 222 (vr 37),de P q42 238 (vr 49),de P q70 254 (vr 61),de P q71 270 (vr 73),de P q72 279 (vr 82),de P q73 288 (vr 89),de P q7 296 (vr 94),de P q74 304 (vr 101),de P q75 313 (vr 108),de P q54 320 (vr 115),de P q76 329 (vr 122),de P q3 335 (vr 127),de P q4 351 (vr 134),de P q77 363 (vr 141),de P q78 372 (vr 148),de P q79 378 (vr 153),de P q50 384 (vr 158),de P q80 396 (vr 165),de P q81 400 (vi 2 399),de P q82 402 (vi 6 401),de P q83 409 (vr 172),de P q84 419 (vr 179),de P q0 500 (vr 234),de P q85 504 (vi 0 503),de P q86 506 (vi 1 505),de P q59 513 (vr 245),de P q87 586 (vr 297)] 37
noncomputable def o301 (P:PM):OB:=(Obj.mk vn none (df ⟨[vi 2 0,z0,vr 20,vi 4 0,z0,vr 33,vi 6 0,z0,vr 45,vi 8 0,z0,vr 57,vi 10 0,z0,vr 69,vi 13 0,z0,vr 81,vi 15 0,z0,vr 88,vi 18 0,z0,vr 93,vi 27 0,z0,vr 100,vi 32 0,z0,vr 107,vi 34 0,z0,vr 114,vi 36 0,z0,vr 121,vi 40 0,z0,vr 126,vi 47 0,z0,vr 133,vi 63 0,z0,vr 140,vi 76 0,z0,vr 147,vi 81 0,z0,vr 152,vi 84 0,z0,vr 157,vi 86 0,z0,vr 164,vi 98 0,z0,vr 171,vi 101 0,z0,vr 178,vi 107 0,z0,vr 185,vi 157 0,z0,vr 244,vi 159 0,z0,vr 251]⟩) ⟨[]⟩)
noncomputable def o304 (P:PM):OB:=od y3 [de P q40 521 (vs ZhK 501),de P q41 523 (vs q87 522),de P q43 525 (vi 159 524),de P Zmn 533 (vr 259),de P q12 540 (vr 266),de P q136 548 (vr 273),de P q17 556 (vr 280),de P q134 567 (vr 287),de P q130 575 (vr 294),de P q44 579 (vr 295)] 10
noncomputable def o306 (P:PM):OB:=(Obj.mk vn none (df ⟨[vi 161 0,vi 4 0,vr 258,vi 166 0,vi 4 0,vr 265,vi 169 0,vi 4 0,vr 272,vi 172 0,vi 4 0,vr 279,vi 179 0,vi 4 0,vr 286,vi 192 0,vi 4 0,vr 293]⟩) ⟨[]⟩)
noncomputable def o307 (P:PM):OB:=of y1 [vs q87 516,vs q87 517,vs q1 518,vi 159 0,z0,z0,z0,z0,vr 249,bF,vi 181 0,vr 250,vn,vn,vn,vn,vi 519 0,vi 159 0,vs q1 520]
noncomputable def o308 (P:PM):OB:=(ob y2 Data.plain ⟨[(sr 251),(sr 3),(sr 248),none,(ss ZhK 501),none,(sr 0)]⟩)
noncomputable def o311 (P:PM):OB:=oq y0 [vs q98 529,vs q15 530] 0
noncomputable def o313 (P:PM):OB:=j0 Zmn q114 (Zaw (tT 33) 0)
noncomputable def o314 (P:PM):OB:=of y1 [vs Zmn 526,vs q114 527,vs q1 528,vi 161 0,vi 2 0,z0,z0,vi 3 0,vr 253,bT,vi 181 0,vr 254,vn,vr 255,vr 256,vr 257,vi 531 0,vi 161 0,vs q1 532]
noncomputable def o315 (P:PM):OB:=j1 Zmn q114 (Zaw (tT 33) 0) ZhK 501 258
noncomputable def o318 (P:PM):OB:=oq y0 [vs q98 537] 0
noncomputable def o320 (P:PM):OB:=j0 q12 q125 (Zaw (tT 33) 1)
noncomputable def o321 (P:PM):OB:=of y1 [vs q12 534,vs q125 535,vs q1 536,vi 166 0,vi 1 0,z0,z0,vi 3 0,vr 260,bT,vi 181 0,vr 261,vn,vr 262,vr 263,vr 264,vi 538 0,vi 166 0,vs q1 539]
noncomputable def o322 (P:PM):OB:=j1 q12 q125 (Zaw (tT 33) 1) ZhK 501 265
noncomputable def o325 (P:PM):OB:=oq y0 [vs q98 544,vs q16 545] 0
noncomputable def o327 (P:PM):OB:=j0 q136 q137 (Zaw (tT 33) 2)
noncomputable def o328 (P:PM):OB:=of y1 [vs q136 541,vs q137 542,vs q1 543,vi 169 0,vi 2 0,z0,z0,vi 3 0,vr 267,bT,vi 181 0,vr 268,vn,vr 269,vr 270,vr 271,vi 546 0,vi 169 0,vs q1 547]
noncomputable def o329 (P:PM):OB:=j1 q136 q137 (Zaw (tT 33) 2) ZhK 501 272
noncomputable def o332 (P:PM):OB:=oq y0 [vs q98 552,vs q13 553] 0
noncomputable def o334 (P:PM):OB:=j0 q17 q171 (Zaw (tT 33) 3)
noncomputable def o335 (P:PM):OB:=of y1 [vs q17 549,vs q171 550,vs q1 551,vi 172 0,vi 2 0,z0,z0,vi 3 0,vr 274,bT,vi 181 0,vr 275,vn,vr 276,vr 277,vr 278,vi 554 0,vi 172 0,vs q1 555]
noncomputable def o336 (P:PM):OB:=j1 q17 q171 (Zaw (tT 33) 3) ZhK 501 279
noncomputable def o339 (P:PM):OB:=oq y0 [vs q98 560,vs q181 561,vs q182 562,vs q183 563,vs q184 564] 0
noncomputable def o341 (P:PM):OB:=j0 q134 q135 (Zaw (tT 33) 4)
noncomputable def o342 (P:PM):OB:=of y1 [vs q134 557,vs q135 558,vs q1 559,vi 179 0,vi 3 0,z0,z0,vi 3 0,vr 281,bT,vi 181 0,vr 282,vn,vr 283,vr 284,vr 285,vi 565 0,vi 179 0,vs q1 566]
noncomputable def o343 (P:PM):OB:=j1 q134 q135 (Zaw (tT 33) 4) ZhK 501 286
noncomputable def o346 (P:PM):OB:=oq y0 [vs q98 571,vs q132 572] 0
noncomputable def o348 (P:PM):OB:=j0 q130 q131 (Zaw (tT 33) 5)
noncomputable def o349 (P:PM):OB:=of y1 [vs q130 568,vs q131 569,vs q1 570,vi 192 0,vi 2 0,z0,z0,vi 3 0,vr 288,bT,vi 181 0,vr 289,vn,vr 290,vr 291,vr 292,vi 573 0,vi 192 0,vs q1 574]
noncomputable def o350 (P:PM):OB:=j1 q130 q131 (Zaw (tT 33) 5) ZhK 501 293
noncomputable def o351 (P:PM):OB:=oq y0 [vs q9 576,vs q15 577,vs q126 578] 0
noncomputable def o352 (P:PM):OB:=od y3 [de P q40 521 (vs ZhK 501),de P q43 525 (vi 159 524),de P Zmn 533 (vr 259),de P q12 540 (vr 266),de P q136 548 (vr 273),de P q17 556 (vr 280),de P q134 567 (vr 287),de P q130 575 (vr 294),de P q44 579 (vr 295),de P q149 581 (vr 298),de P q123 583 (vr 299),de P q61 584 vn] 4
noncomputable def o353 (P:PM):OB:=(ob y8 (Data.cls (ClassData.mk q87 [(vt y11)] [vr 297,(vt y11)] 296 q87 true [] [] false none false)) ⟨[none,none,(ss q87 514),(ss q87 522),(some (vb y18)),(some bT)]⟩)
noncomputable def o354 (P:PM):OB:=of y13 [vs q149 580,vr 297,(vb y19),(vb y20)]
noncomputable def o355 (P:PM):OB:=of y13 [vs q123 582,vr 297,(vb y14),vn]
noncomputable def o356 (P:PM):OB:=of y15 [vr 297,vr 297,vr 297]
noncomputable def o357 (P:PM):OB:=of y6 [(vb y16),vr 297]
noncomputable def o358 (P:PM):OB:=od y3 [de P q60 165 (vs q39 587),de P q61 166 vn,de P q62 167 vn,de P q63 168 (vb y4),de P q64 169 vn,de P q65 170 (vr 6),de P q66 171 (vr 4),de P q67 173 (vs q1 172),de P q68 174 vn,de P q69 206 (vr 24),de P q5 222 (vr 37),de P q42 238 (vr 49),de P q70 254 (vr 61),de P q71 270 (vr 73),de P q72 279 (vr 82),de P q73 288 (vr 89),de P q7 296 (vr 94),de P q74 304 (vr 101),de P q75 313 (vr 108),de P q54 320 (vr 115),de P q76 329 (vr 122),de P q3 335 (vr 127),de P q4 351 (vr 134),de P q77 363 (vr 141),de P q78 372 (vr 148),de P q79 378 (vr 153),de P q50 384 (vr 158),de P q80 396 (vr 165),de P q81 400 (vi 2 399),de P q82 402 (vi 6 401),de P q83 409 (vr 172),de P q84 419 (vr 179),de P q0 500 (vr 234),de P q85 504 (vi 0 503),de P q86 506 (vi 1 505),de P q59 513 (vr 245),de P q87 586 (vr 297),de P q21 596 (vr 308),de P q88 610 (vr 315),de P q89 622 (vr 322),de P q2 635 (vr 329),de P q90 641 (vr 334),de P q34 651 (vr 341),de P q36 658 (vr 348),de P q38 670 (vr 355),de P q25 684 (vr 362),de P q91 690 (vr 367)] 47
noncomputable def o359 (P:PM):OB:=(Obj.mk vn none (df ⟨[vi 2 0,z0,vr 20,vi 4 0,z0,vr 33,vi 6 0,z0,vr 45,vi 8 0,z0,vr 57,vi 10 0,z0,vr 69,vi 13 0,z0,vr 81,vi 15 0,z0,vr 88,vi 18 0,z0,vr 93,vi 27 0,z0,vr 100,vi 32 0,z0,vr 107,vi 34 0,z0,vr 114,vi 36 0,z0,vr 121,vi 40 0,z0,vr 126,vi 47 0,z0,vr 133,vi 63 0,z0,vr 140,vi 76 0,z0,vr 147,vi 81 0,z0,vr 152,vi 84 0,z0,vr 157,vi 86 0,z0,vr 164,vi 98 0,z0,vr 171,vi 101 0,z0,vr 178,vi 107 0,z0,vr 185,vi 157 0,z0,vr 244,vi 159 0,z0,vr 251,vi 198 0,z0,vr 307,vi 202 0,z0,vr 314,vi 220 0,z0,vr 321,vi 226 0,z0,vr 328,vi 235 0,z0,vr 333,vi 256 0,z0,vr 340,vi 263 0,z0,vr 347,vi 265 0,z0,vr 354,vi 277 0,z0,vr 361,vi 289 0,z0,vr 366]⟩) ⟨[]⟩)
noncomputable def o362 (P:PM):OB:=oq y0 [vs q22 592,vs q23 593] 0
noncomputable def o364 (P:PM):OB:=j0 q21 q21 (tT 35)
noncomputable def o365 (P:PM):OB:=of y1 [vs q21 589,vs q21 590,vs q1 591,vi 198 0,vi 2 0,z0,z0,vi 3 0,vr 302,bT,vi 181 0,vr 303,vn,vr 304,vr 305,vr 306,vi 594 0,vi 198 0,vs q1 595]
noncomputable def o366 (P:PM):OB:=j1 q21 q21 (tT 35) q39 587 307
noncomputable def o369 (P:PM):OB:=oq y0 [vs q45 600,vs q166 601,vs q48 602,vs q154 603,vs q155 604,vs q23 605,vs q167 606,vs q168 607] 0
noncomputable def o371 (P:PM):OB:=j0 q88 q88 (tT 36)
noncomputable def o372 (P:PM):OB:=of y1 [vs q88 597,vs q88 598,vs q1 599,vi 202 0,vi 2 0,z0,z0,vi 3 0,vr 309,bT,vi 181 0,vr 310,vn,vr 311,vr 312,vr 313,vi 608 0,vi 202 0,vs q1 609]
noncomputable def o373 (P:PM):OB:=j1 q88 q88 (tT 36) q39 587 314
noncomputable def o376 (P:PM):OB:=oq y0 [vs q22 614,vs q140 615,vs q49 616,vs q141 617,vs q23 618,vs q46 619] 0
noncomputable def o378 (P:PM):OB:=j0 q89 q89 (tT 37)
noncomputable def o379 (P:PM):OB:=of y1 [vs q89 611,vs q89 612,vs q1 613,vi 220 0,vi 3 0,z0,z0,vi 3 0,vr 316,bT,vi 181 0,vr 317,vn,vr 318,vr 319,vr 320,vi 620 0,vi 220 0,vs q1 621]
noncomputable def o380 (P:PM):OB:=j1 q89 q89 (tT 37) q39 587 321
noncomputable def o383 (P:PM):OB:=oq y0 [vs q45 626,vs q46 627,vs q47 628,vs q48 629,vs q49 630,vs q23 631,vs q29 632] 0
noncomputable def o385 (P:PM):OB:=j0 q2 q2 (tT 38)
noncomputable def o386 (P:PM):OB:=of y1 [vs q2 623,vs q2 624,vs q1 625,vi 226 0,vi 3 0,z0,z0,vi 3 0,vr 323,bT,vi 181 0,vr 324,vn,vr 325,vr 326,vr 327,vi 633 0,vi 226 0,vs q1 634]
noncomputable def o387 (P:PM):OB:=j1 q2 q2 (tT 38) q39 587 328
noncomputable def o390 (P:PM):OB:=j0 q90 q90 (tT 39)
noncomputable def o391 (P:PM):OB:=of y1 [vs q90 636,vs q90 637,vs q1 638,vi 235 0,vi 2 0,z0,z0,vi 3 0,vr 330,bT,vi 181 0,vr 331,vn,vn,vn,vr 332,vi 639 0,vi 235 0,vs q1 640]
noncomputable def o392 (P:PM):OB:=j1 q90 q90 (tT 39) q39 587 333
noncomputable def o395 (P:PM):OB:=oq y0 [vs q27 645,vs q28 646,vs q148 647,vs q112 648] 0
noncomputable def o397 (P:PM):OB:=j0 q34 q34 (tT 40)
noncomputable def o398 (P:PM):OB:=of y1 [vs q34 642,vs q34 643,vs q1 644,vi 256 0,vi 2 0,z0,z0,vi 3 0,vr 335,bT,vi 181 0,vr 336,vn,vr 337,vr 338,vr 339,vi 649 0,vi 256 0,vs q1 650]
noncomputable def o399 (P:PM):OB:=j1 q34 q34 (tT 40) q39 587 340
noncomputable def o402 (P:PM):OB:=oq y0 [vs q160 655] 0
noncomputable def o404 (P:PM):OB:=j0 q36 q36 (tT 41)
noncomputable def o405 (P:PM):OB:=of y1 [vs q36 652,vs q36 653,vs q1 654,vi 263 0,vi 1 0,z0,z0,vi 3 0,vr 342,bT,vi 181 0,vr 343,vn,vr 344,vr 345,vr 346,vi 656 0,vi 263 0,vs q1 657]
noncomputable def o406 (P:PM):OB:=j1 q36 q36 (tT 41) q39 587 347
noncomputable def o409 (P:PM):OB:=oq y0 [vs q27 662,vs q28 663,vs q26 664,vs q110 665,vs q111 666,vs q112 667] 0
noncomputable def o411 (P:PM):OB:=j0 q38 q38 (tT 42)
noncomputable def o412 (P:PM):OB:=of y1 [vs q38 659,vs q38 660,vs q1 661,vi 265 0,vi 3 0,z0,z0,vi 3 0,vr 349,bT,vi 181 0,vr 350,vn,vr 351,vr 352,vr 353,vi 668 0,vi 265 0,vs q1 669]
noncomputable def o413 (P:PM):OB:=j1 q38 q38 (tT 42) q39 587 354
noncomputable def o416 (P:PM):OB:=oq y0 [vs q26 674,vs q27 675,vs q28 676,vs q29 677,vs q30 678,vs q33 679,vs q35 680,vs q23 681] 0
noncomputable def o418 (P:PM):OB:=j0 q25 q25 (tT 43)
noncomputable def o419 (P:PM):OB:=of y1 [vs q25 671,vs q25 672,vs q1 673,vi 277 0,vi 5 0,z0,z0,vi 3 0,vr 356,bT,vi 181 0,vr 357,vn,vr 358,vr 359,vr 360,vi 682 0,vi 277 0,vs q1 683]
noncomputable def o420 (P:PM):OB:=j1 q25 q25 (tT 43) q39 587 361
noncomputable def o423 (P:PM):OB:=j0 q91 q91 (tT 44)
noncomputable def o424 (P:PM):OB:=of y1 [vs q91 685,vs q91 686,vs q1 687,vi 289 0,vi 1 0,z0,z0,vi 3 0,vr 363,bT,vi 181 0,vr 364,vn,vn,vn,vr 365,vi 688 0,vi 289 0,vs q1 689]
noncomputable def o425 (P:PM):OB:=j1 q91 q91 (tT 44) q39 587 366
noncomputable def ZlI (P:Params):Heap:=(Heap.mk ⟨[b0 P,b1 P,b2 P,b3 P,b4 P,b5 P,b6 P,b7 P,b8 P,b9 P,b10 P,o43 P,o44 P,o45 P,o46 P]⟩ (PySem.Life.mk [] [] [] 0 [] [] false ⟨[]⟩ [] 0 false false false 0 [2000,10,10] false 0 true [] [] 0 false))
noncomputable def ZkK (P:PM):BT:=(N b0 (N b1 (N b3 (L b7) e) (N b5 (L b9) (L o45))) (N b2 (N b4 (L b8) (L o44)) (N b6 (L b10) (L o46)))) P
noncomputable def ZkJ (P:PM):BT:=(N b0 (N b1 (N o49 (N b7 (L o51) (L o59)) (N o43 (L o44) (L o63))) (N b5 (N b9 (L o53) (L o61)) (M o45 (L o57)))) (N b2 (N b4 (N b8 (L o52) (L o60)) (M o50 (L o56))) (N b6 (N b10 e (L o62)) (M o46 e)))) P
noncomputable def ZkI (P:PM):BT:=(N b0 (N b1 (N o64 (N b7 (M o51 e) (M o59 (L o78))) (N o43 (M o44 e) (L o63))) (N b5 (N b9 (M o53 (L o72)) (L o61)) (N o45 (M o57 (L o76)) (L o52)))) (N b2 (N b4 (N b8 (M o52 (L o44)) (L o66)) (N o65 (M o56 (L o75)) (L o67))) (N b6 (N b10 (M o43 (L o73)) (L o62)) (N o46 (M o43 (L o77)) (L o69))))) P
noncomputable def ZkH (P:PM):BT:=(N b0 (N b1 (N o79 (N b7 (N o51 e e) (M o59 (L o78))) (N o43 (N o44 e (L o93)) (M o63 e))) (N b5 (N b9 (N o53 (L o72) (L o91)) (M o61 (L o52))) (N o45 (M o57 (L o76)) (M o52 (L o87))))) (N b2 (N b4 (N b8 (N o52 (L o44) (L o90)) (M o81 (L o67))) (N o80 (M o56 (L o75)) (M o67 (L o44)))) (N b6 (N b10 (N o43 (L o73) (L o92)) (M o62 (L o84))) (N o46 (M o43 (L o77)) (M o69 (L o88)))))) P
noncomputable def Zjt (P:PM):BT:=(N b0 (N b1 (N o94 (N b7 (N o51 (M o43 (L ZnK)) e) (N o59 (L o78) e)) (N o43 (N o44 e (L o93)) (N o63 e e))) (N b5 (N b9 (N o53 (L o72) (L o91)) (N o61 (L o52) (L ZnN))) (N o45 (N o57 (L o76) (L o52)) (N o52 (L o87) (L ZmO))))) (N b2 (N b4 (N b8 (N o52 (L o44) (L o90)) (N o96 (L o67) (L o44))) (N o95 (N o56 (L o75) (L o67)) (N o67 (L o44) (L ZmP)))) (N b6 (N b10 (N o43 (L o73) (L o92)) (N o62 (L o84) (L ZnM))) (N o46 (N o43 (L o77) (L o99)) (N o69 (L o88) (L ZnL)))))) P
noncomputable def Zjs (P:PM):BT:=(N b0 (N b1 (N o109 (N b7 (N o51 (N o43 (L ZnK) e) (M o43 e)) (N o59 (N o78 e (L o44)) (M o43 (L ZoU)))) (N o43 (N o44 (N o43 e (L ZoP)) (M o93 e)) (N o63 (N o43 (L ZoZ) (L ZnC)) (M o43 (L o44))))) (N b5 (N b9 (N o53 (N o72 (L o52) (L ZoQ)) (M o91 (L ZnG))) (N o61 (N o52 (L ZnH) e) (M ZnN (L ZoT)))) (N o45 (N o57 (N o76 (L Zo2) (L ZoO)) (M o52 (L ZoV))) (N o52 (M o87 (L o44)) (M ZmO (L ZnE)))))) (N b2 (N b4 (N b8 (N o52 (N o44 (L o67) (L o44)) (M o90 (L ZoX))) (N ZnJ (N o67 (L ZnI) (L ZoN)) (M o44 (L ZnF)))) (N o110 (N o56 (N o75 (L o44) (L ZnD)) (M o67 (L o44))) (N o67 (N o44 e (L ZoL)) (M ZmP (L ZoS))))) (N b6 (N b10 (N o43 (N o73 (L Zo3) e) (M o92 (L ZoW))) (N o62 (N o84 (L Zo0) (L ZoM)) (M ZnM e))) (N o46 (N o43 (N o77 (L Zo1) e) (M o99 e)) (N o69 (M o88 (L ZoY)) (M ZnL (L ZoR))))))) P
noncomputable def Zjr (P:PM):BT:=(N b0 (N b1 (N o157 (N b7 (N o51 (N o43 (M ZnK (L o177)) (M o43 e)) (N o43 (M o43 (L o44)) (M o161 (L o225)))) (N o59 (N o78 (M o43 e) (M o44 (L o44))) (N o43 (M ZoU (L o201)) e))) (N o43 (N o44 (N o43 (M o43 e) (M ZoP (L o213))) (N o93 (M o43 (L ZoF)) (M o165 (L o229)))) (N o63 (N o43 (M ZoZ (L o189)) (M ZnC (L ZoB))) (N o43 (M o44 (L o44)) e)))) (N b5 (N b9 (N o53 (N o72 (M o52 (L o44)) (M ZoQ (L o211))) (N o91 (M ZnG e) (M o163 (L o227)))) (N o61 (N o52 (M ZnH (L o187)) (M o43 e)) (N ZnN (M ZoT (L o203)) (L ZoJ)))) (N o45 (N o57 (N o76 (M Zo2 (L ZoH)) (M ZoO (L o215))) (N o52 (M ZoV e) (L o44))) (N o52 (N o87 (M o44 (L o191)) (M o43 e)) (N ZmO (M ZnE (L ZoD)) (L o175)))))) (N b2 (N b4 (N b8 (N o52 (N o44 (M o67 e) (M o44 (L o44))) (N o90 (M ZoX (L o194)) (M o43 e))) (N ZnJ (N o67 (M ZnI (L o44)) (M ZoN (L o218))) (N o44 (M ZnF (L ZoE)) (L o170)))) (N o158 (N o56 (N o75 (M o44 (L o182)) (M ZnD (L ZoC))) (N o67 (M o44 (L o198)) e)) (N o67 (N o44 (M o43 (L ZoG)) (M ZoL (L o222))) (N ZmP (M ZoS (L o206)) (L o44))))) (N b6 (N b10 (N o43 (N o73 (M Zo3 (L o180)) (M o43 e)) (N o92 (M ZoW (L o196)) (M ZoK (L ZoA)))) (N o62 (N o84 (M Zo0 e) (M ZoM (L o220))) (N ZnM (M o43 e) (L o172)))) (N o46 (N o43 (N o77 (M Zo1 (L o184)) (M o43 e)) (N o99 (M o43 (L o44)) (L o168))) (N o69 (N o88 (M ZoY e) (M o44 (L o44))) (N ZnL (M ZoR (L o208)) (L ZoI))))))) P
noncomputable def Zjq (P:PM):BT:=(N b0 (N b1 (N o230 (N b7 (N o51 (N o43 (N ZnK (L o177) (L o243)) (N o43 e e)) (N o43 (N o43 (L o44) (L o44)) (M o161 (L o225)))) (N o59 (N o78 (N o43 e e) (N o44 (L o44) (L o283))) (N o43 (N ZoU (L o201) (L o267)) (M o43 e)))) (N o43 (N o44 (N o43 (N o43 e (L o44)) (N ZoP (L o213) e)) (N o93 (N o43 (L ZoF) (L o263)) (M o165 (L o229)))) (N o63 (N o43 (N ZoZ (L o189) (L o255)) (N ZnC (L ZoB) (L o287))) (N o43 (N o44 (L o44) (L o271)) (M o43 e))))) (N b5 (N b9 (N o53 (N o72 (N o52 (L o44) (L o245)) (N ZoQ (L o211) (L o277))) (N o91 (N ZnG e e) (M o163 (L o227)))) (N o61 (N o52 (N ZnH (L o187) (L o253)) (N o43 e (L o285))) (N ZnN (N ZoT (L o203) (L o269)) (M ZoJ (L o237))))) (N o45 (N o57 (N o76 (N Zo2 (L ZoH) (L o249)) (N ZoO (L o215) (L o281))) (N o52 (N ZoV e e) (M o44 (L o52)))) (N o52 (N o87 (N o44 (L o191) (L o257)) (N o43 e (L o289))) (N ZmO (N ZnE (L ZoD) (L o44)) (M o175 (L o241))))))) (N b2 (N b4 (N b8 (N o52 (N o44 (N o67 e (L o244)) (N o44 (L o44) (L o276))) (N o90 (N ZoX (L o194) (L o260)) (M o43 e))) (N ZnJ (N o67 (N ZnI (L o44) (L o44)) (N ZoN (L o218) (L o284))) (N o44 (N ZnF (L ZoE) e) (M o170 (L o236))))) (N o231 (N o56 (N o75 (N o44 (L o182) (L o248)) (N ZnD (L ZoC) (L o44))) (N o67 (N o44 (L o198) (L o264)) (M o43 e))) (N o67 (N o44 (N o43 (L ZoG) (L o256)) (N ZoL (L o222) (L o288))) (N ZmP (N ZoS (L o206) e) (M o44 (L o44)))))) (N b6 (N b10 (N o43 (N o73 (N Zo3 (L o180) e) (N o43 e (L o278))) (N o92 (N ZoW (L o196) (L o262)) (M ZoK (L ZoA)))) (N o62 (N o84 (N Zo0 e e) (N ZoM (L o220) (L o286))) (N ZnM (N o43 e (L o270)) (M o172 (L o238))))) (N o46 (N o43 (N o77 (N Zo1 (L o184) (L o250)) (N o43 e (L o282))) (N o99 (N o43 (L o44) (L o44)) (M o168 (L o234)))) (N o69 (N o88 (N ZoY e e) (N o44 (L o44) (L o290))) (N ZnL (N ZoR (L o208) (L o274)) (M ZoI e))))))) P
noncomputable def Zjp (P:PM):BT:=(N b0 (N b1 (N o291 (N b7 (N o51 (N o43 (N ZnK (L o177) (L o243)) (N o43 e e)) (N o43 (N o43 (L o44) (L o44)) (N o161 (L o225) e))) (N o59 (N o78 (N o43 e e) (N o44 (L o44) (L o283))) (N o43 (N ZoU (L o201) (L o267)) (M o43 e)))) (N o43 (N o44 (N o43 (N o43 e (L o44)) (N ZoP (L o213) e)) (N o93 (N o43 (L ZoF) (L o263)) (N o165 (L o229) (L o297)))) (N o63 (N o43 (N ZoZ (L o189) (L o255)) (N ZnC (L ZoB) (L o287))) (N o43 (N o44 (L o44) (L o271)) (M o43 e))))) (N b5 (N b9 (N o53 (N o72 (N o52 (L o44) (L o245)) (N ZoQ (L o211) (L o277))) (N o91 (N ZnG e e) (N o163 (L o227) (L o295)))) (N o61 (N o52 (N ZnH (L o187) (L o253)) (N o43 e (L o285))) (N ZnN (N ZoT (L o203) (L o269)) (M ZoJ (L o237))))) (N o45 (N o57 (N o76 (N Zo2 (L ZoH) (L o249)) (N ZoO (L o215) (L o281))) (N o52 (N ZoV e e) (N o44 (L o52) (L o299)))) (N o52 (N o87 (N o44 (L o191) (L o257)) (N o43 e (L o289))) (N ZmO (N ZnE (L ZoD) (L o44)) (M o175 (L o241))))))) (N b2 (N b4 (N b8 (N o52 (N o44 (N o67 e (L o244)) (N o44 (L o44) (L o276))) (N o90 (N ZoX (L o194) (L o260)) (N o43 e (L o44)))) (N ZnJ (N o67 (N ZnI (L o44) (L o44)) (N ZoN (L o218) (L o284))) (N o44 (N ZnF (L ZoE) e) (M o170 (L o236))))) (N o292 (N o56 (N o75 (N o44 (L o182) (L o248)) (N ZnD (L ZoC) (L o44))) (N o67 (N o44 (L o198) (L o264)) (N o43 e (L o298)))) (N o67 (N o44 (N o43 (L ZoG) (L o256)) (N ZoL (L o222) (L o288))) (N ZmP (N ZoS (L o206) e) (M o44 (L o44)))))) (N b6 (N b10 (N o43 (N o73 (N Zo3 (L o180) e) (N o43 e (L o278))) (N o92 (N ZoW (L o196) (L o262)) (N ZoK (L ZoA) e))) (N o62 (N o84 (N Zo0 e e) (N ZoM (L o220) (L o286))) (N ZnM (N o43 e (L o270)) (M o172 (L o238))))) (N o46 (N o43 (N o77 (N Zo1 (L o184) (L o250)) (N o43 e (L o282))) (N o99 (N o43 (L o44) (L o44)) (M o168 (L o234)))) (N o69 (N o88 (N ZoY e e) (N o44 (L o44) (L o290))) (N ZnL (N ZoR (L o208) (L o274)) (M ZoI e))))))) P
noncomputable def Zjo (P:PM):BT:=(N b0 (N b1 (N o300 (N b7 (N o51 (N o43 (N ZnK (M o177 (L o311)) (L o243)) (N o43 (M o43 (L o343)) e)) (N o43 (N o43 (M o44 (L o327)) (L o44)) (N o161 (L o225) e))) (N o59 (N o78 (N o43 (M o43 e) e) (N o44 (M o44 (L o351)) (L o283))) (N o43 (N ZoU (M o201 (L o335)) (L o267)) (N o43 e (L o52))))) (N o43 (N o44 (N o43 (N o43 (M o43 (L o315)) (L o44)) (N ZoP (M o213 e) e)) (N o93 (N o43 (M ZoF (L o44)) (L o263)) (N o165 (L o229) (L o297)))) (N o63 (N o43 (N ZoZ (M o189 e) (L o255)) (N ZnC (M ZoB (L o355)) (L o287))) (N o43 (N o44 (M o44 (L o339)) (L o271)) (N o43 e (L o307)))))) (N b5 (N b9 (N o53 (N o72 (N o52 (M o44 (L o313)) (L o245)) (N ZoQ (M o211 (L o44)) (L o277))) (N o91 (N ZnG (M o43 (L o329)) e) (N o163 (L o227) (L o295)))) (N o61 (N o52 (N ZnH (M o187 (L o321)) (L o253)) (N o43 (M o43 (L o353)) (L o285))) (N ZnN (N ZoT (M o203 e) (L o269)) (N ZoJ (L o237) e)))) (N o45 (N o57 (N o76 (N Zo2 (M ZoH (L o44)) (L o249)) (N ZoO (M o215 (L o349)) (L o281))) (N o52 (N ZoV (M o43 e) e) (N o44 (L o52) (L o299)))) (N o52 (N o87 (N o44 (M o191 (L o325)) (L o257)) (N o43 (M o43 (L o357)) (L o289))) (N ZmO (N ZnE (M ZoD (L o341)) (L o44)) (N o175 (L o241) e)))))) (N b2 (N b4 (N b8 (N o52 (N o44 (N o67 (M o43 e) (L o244)) (N o44 (M o44 e) (L o276))) (N o90 (N ZoX (M o194 (L o328)) (L o260)) (N o43 e (L o44)))) (N ZnJ (N o67 (N ZnI (M o44 (L o320)) (L o44)) (N ZoN (M o218 (L o352)) (L o284))) (N o44 (N ZnF (M ZoE (L o336)) e) (N o170 (L o236) (L o304))))) (N o301 (N o56 (N o75 (N o44 (M o182 e) (L o248)) (N ZnD (M ZoC (L o348)) (L o44))) (N o67 (N o44 (M o198 (L o332)) (L o264)) (N o43 e (L o298)))) (N o67 (N o44 (N o43 (M ZoG (L o44)) (L o256)) (N ZoL (M o222 (L o356)) (L o288))) (N ZmP (N ZoS (M o206 e) e) (N o44 (L o44) (L o308)))))) (N b6 (N b10 (N o43 (N o73 (N Zo3 (M o180 (L o314)) e) (N o43 (M o43 (L o346)) (L o278))) (N o92 (N ZoW (M o196 e) (L o262)) (N ZoK (L ZoA) e))) (N o62 (N o84 (N Zo0 (M o43 (L o322)) e) (N ZoM (M o220 (L o354)) (L o286))) (N ZnM (N o43 (M o43 (L o44)) (L o270)) (N o172 (L o238) (L o306))))) (N o46 (N o43 (N o77 (N Zo1 (M o184 (L o318)) (L o250)) (N o43 (M o43 (L o350)) (L o282))) (N o99 (N o43 (M o44 (L o334)) (L o44)) (N o168 (L o234) e))) (N o69 (N o88 (N ZoY (M o43 e) e) (N o44 (L o44) (L o290))) (N ZnL (N ZoR (M o208 (L o342)) (L o274)) (N ZoI e (L o44)))))))) P
noncomputable def Zjn (P:PM):BT:=(N b0 (N b1 (N o358 (N b7 (N o51 (N o43 (N ZnK (M o177 (L o311)) (M o243 e)) (N o43 (M o43 (L o343)) (M o43 (L o409)))) (N o43 (N o43 (M o44 (L o327)) (M o44 e)) (N o161 (M o225 (L o44)) (M o43 (L o425))))) (N o59 (N o78 (N o43 (M o43 e) (M o43 (L o385))) (N o44 (M o44 (L o351)) (M o283 e))) (N o43 (N ZoU (M o201 (L o335)) (M o267 (L o44))) (N o43 (M o43 (L o369)) (L o52))))) (N o43 (N o44 (N o43 (N o43 (M o43 (L o315)) (M o44 e)) (N ZoP (M o213 e) (M o43 (L o413)))) (N o93 (N o43 (M ZoF (L o44)) (M o263 (L o397))) (N o165 (M o229 (L o365)) (L o297)))) (N o63 (N o43 (N ZoZ (M o189 e) (M o255 (L o44))) (N ZnC (M ZoB (L o355)) (M o287 e))) (N o43 (N o44 (M o44 (L o339)) (M o271 (L o405))) (N o43 (M o43 (L o373)) (L o307)))))) (N b5 (N b9 (N o53 (N o72 (N o52 (M o44 (L o313)) (M o245 (L o379))) (N ZoQ (M o211 (L o44)) (M o277 (L o411)))) (N o91 (N ZnG (M o43 (L o329)) (M o43 (L o395))) (N o163 (M o227 e) (L o295)))) (N o61 (N o52 (N ZnH (M o187 (L o321)) (M o253 (L o387))) (N o43 (M o43 (L o353)) (M o285 (L o419)))) (N ZnN (N ZoT (M o203 e) (M o269 e)) (N ZoJ (M o237 (L o371)) e)))) (N o45 (N o57 (N o76 (N Zo2 (M ZoH (L o44)) (M o249 (L o383))) (N ZoO (M o215 (L o349)) (M o281 (L o44)))) (N o52 (N ZoV (M o43 e) (M o43 (L o399))) (N o44 (M o52 e) (L o299)))) (N o52 (N o87 (N o44 (M o191 (L o325)) (M o257 (L o391))) (N o43 (M o43 (L o357)) (M o289 (L o423)))) (N ZmO (N ZnE (M ZoD (L o341)) (M o44 e)) (N o175 (M o241 (L o44)) e)))))) (N b2 (N b4 (N b8 (N o52 (N o44 (N o67 (M o43 e) (M o244 (L o378))) (N o44 (M o44 e) (M o276 e))) (N o90 (N ZoX (M o194 (L o328)) (M o260 (L o44))) (N o43 (M o43 (L o362)) (L o44)))) (N ZnJ (N o67 (N ZnI (M o44 (L o320)) (M o44 (L o386))) (N ZoN (M o218 (L o352)) (M o284 (L o418)))) (N o44 (N ZnF (M ZoE (L o336)) (M o43 (L o402))) (N o170 (M o236 e) (L o304))))) (N o359 (N o56 (N o75 (N o44 (M o182 e) (M o248 (L o44))) (N ZnD (M ZoC (L o348)) (M o44 e))) (N o67 (N o44 (M o198 (L o332)) (M o264 (L o398))) (N o43 (M o43 (L o366)) (L o298)))) (N o67 (N o44 (N o43 (M ZoG (L o44)) (M o256 (L o390))) (N ZoL (M o222 (L o356)) (M o288 (L o44)))) (N ZmP (N ZoS (M o206 e) (M o43 (L o406))) (N o44 (M o44 e) (L o308)))))) (N b6 (N b10 (N o43 (N o73 (N Zo3 (M o180 (L o314)) (M o43 (L o380))) (N o43 (M o43 (L o346)) (M o278 (L o412)))) (N o92 (N ZoW (M o196 e) (M o262 e)) (N ZoK (M ZoA (L o364)) e))) (N o62 (N o84 (N Zo0 (M o43 (L o322)) (M o43 e)) (N ZoM (M o220 (L o354)) (M o286 (L o420)))) (N ZnM (N o43 (M o43 (L o44)) (M o270 (L o404))) (N o172 (M o238 (L o372)) (L o306))))) (N o46 (N o43 (N o77 (N Zo1 (M o184 (L o318)) (M o250 e)) (N o43 (M o43 (L o350)) (M o282 (L o416)))) (N o99 (N o43 (M o44 (L o334)) (M o44 e)) (N o168 (M o234 (L o44)) e))) (N o69 (N o88 (N ZoY (M o43 e) (M o43 (L o392))) (N o44 (M o44 e) (M o290 (L o424)))) (N ZnL (N ZoR (M o208 (L o342)) (M o274 (L o44))) (N ZoI (M o43 (L o376)) (L o44)))))))) P
noncomputable def ZdO (P:Params):Heap:=(Heap.mk ⟨[b0 P,b1 P,b2 P,o358 P,b4 P,b5 P,b6 P,b7 P,b8 P,b9 P,b10 P,o43 P,o359 P,o45 P,o46 P,o51 P,o52 P,o53 P,o43 P,o44 P,o56 P,o57 P,o43 P,o59 P,ZnJ P,o61 P,o62 P,o63 P,o67 P,o52 P,o69 P,o43 P,o44 P,o72 P,o73 P,o43 P,o75 P,o76 P,o77 P,o78 P,o67 P,o52 P,o84 P,o43 P,o44 P,o87 P,o88 P,o43 P,o90 P,o91 P,o92 P,o93 P,o67 P,o52 P,o99 P,o43 P,o44 P,ZnN P,ZnM P,o43 P,ZmP P,ZmO P,ZnL P,ZnK P,o67 P,o52 P,Zo3 P,o43 P,o44 P,Zo2 P,Zo1 P,o43 P,ZnI P,ZnH P,Zo0 P,ZoZ P,o43 P,o44 P,ZoY P,o43 P,ZoX P,ZnG P,ZoW P,o43 P,o44 P,ZoV P,o43 P,ZoU P,ZnF P,ZoT P,o43 P,o44 P,ZoS P,ZnE P,ZoR P,o43 P,o44 P,ZoQ P,o43 P,ZoP P,ZnD P,ZoO P,o43 P,o44 P,ZoN P,o43 P,ZoM P,ZnC P,ZoL P,o43 P,o44 P,o161 P,o43 P,o163 P,ZoK P,o165 P,o43 P,o44 P,o168 P,o43 P,o170 P,ZoJ P,o172 P,o43 P,o44 P,o175 P,ZoI P,o177 P,o43 P,o44 P,o180 P,o43 P,o182 P,ZoH P,o184 P,o43 P,o44 P,o187 P,o43 P,o189 P,ZoG P,o191 P,o43 P,o44 P,o194 P,o43 P,o196 P,ZoF P,o198 P,o43 P,o44 P,o201 P,ZoE P,o203 P,o43 P,o44 P,o206 P,ZoD P,o208 P,o43 P,o44 P,o211 P,o43 P,o213 P,ZoC P,o215 P,o43 P,o44 P,o218 P,o43 P,o220 P,ZoB P,o222 P,o43 P,o44 P,o225 P,o43 P,o227 P,ZoA P,o229 P,o43 P,o52 P,o234 P,o43 P,o236 P,o237 P,o238 P,o43 P,o44 P,o241 P,o43 P,o243 P,o244 P,o245 P,o43 P,o44 P,o248 P,o249 P,o250 P,o43 P,o44 P,o253 P,o43 P,o255 P,o256 P,o257 P,o43 P,o44 P,o260 P,o43 P,o262 P,o263 P,o264 P,o43 P,o44 P,o267 P,o43 P,o269 P,o270 P,o271 P,o43 P,o44 P,o274 P,o43 P,o276 P,o277 P,o278 P,o43 P,o44 P,o281 P,o282 P,o283 P,o284 P,o285 P,o286 P,o287 P,o288 P,o289 P,o290 P,o43 P,o44 P,o295 P,o43 P,o297 P,o298 P,o299 P,o43 P,o52 P,o304 P,o43 P,o306 P,o307 P,o308 P,o43 P,o44 P,o311 P,o43 P,o313 P,o314 P,o315 P,o43 P,o44 P,o318 P,o43 P,o320 P,o321 P,o322 P,o43 P,o44 P,o325 P,o43 P,o327 P,o328 P,o329 P,o43 P,o44 P,o332 P,o43 P,o334 P,o335 P,o336 P,o43 P,o44 P,o339 P,o43 P,o341 P,o342 P,o343 P,o43 P,o44 P,o346 P,o43 P,o348 P,o349 P,o350 P,o351 P,o352 P,o353 P,o354 P,o355 P,o356 P,o357 P,o43 P,o44 P,o362 P,o43 P,o364 P,o365 P,o366 P,o43 P,o44 P,o369 P,o43 P,o371 P,o372 P,o373 P,o43 P,o44 P,o376 P,o43 P,o378 P,o379 P,o380 P,o43 P,o44 P,o383 P,o43 P,o385 P,o386 P,o387 P,o43 P,o44 P,o390 P,o391 P,o392 P,o43 P,o44 P,o395 P,o43 P,o397 P,o398 P,o399 P,o43 P,o44 P,o402 P,o43 P,o404 P,o405 P,o406 P,o43 P,o44 P,o409 P,o43 P,o411 P,o412 P,o413 P,o43 P,o44 P,o416 P,o43 P,o418 P,o419 P,o420 P,o43 P,o44 P,o423 P,o424 P,o425 P]⟩ (PySem.Life.mk [] [] [] 0 [] [] false ⟨[]⟩ [] 0 false false false 0 [2000,10,10] false 0 true [] [] 0 false))
noncomputable def ev (p:Program):Env:=Env.mk p.main.scope mainNs mainNs [] Str.empty none (.ref 13) (some 14) 0
noncomputable def cE (p:Program):Code:=.body (behindTheImports p) (ev p)
noncomputable def st (p:Program) (i k:Nat):List Stmt:=((behindTheImports p).drop i).take k
noncomputable def LF:Life:=Life.mk [] [] [] 0 [] [] false #[] [] 0 false false false 0 [2000,10,10] false 0 true [] [] 0 false
noncomputable def SS (T:Params->BT) (n k:Nat) (w:World) (os:OsState):SharedT:=⟨T w.params,n,LF,⟨[]⟩,⟨0,0,0,0⟩,k,os⟩
noncomputable def Pc (f:(String->Option Builtin)->Program->World->Nat->Option Value->Nat->Nat->SharedT->Thread->Option (Flow × SharedT × Code × Pos)) (tb:String->Option Builtin) (p:Program) (N i k:Nat) (pos pos':Pos) (T T':Params->BT) (n t n' t':Nat):Prop :=
 ∀ (w:World) (os:OsState),f tb p w 11 (some (.ref 6)) 1 N (SS T n t w os) (piecesOf (st p i k) (ev p) (cE p) pos [topFrame ⟨0,0,0,0⟩])=some (.next,SS T' n' t' w os,cE p,pos')
theorem Pc.plain {N i k:Nat}{pos pos':Pos}{T T':Params->BT}{n t n' t':Nat} (h:Pc PySem.W.Fast.tw10110043849684766642 PySem.W.Fast.tw14364793385576792824 TP N i k pos pos' T T' n t n' t'):Pc segRunT treeTable PySem.Challenge.pw_gatefold_k30_label_by_its_cut N i k pos pos' T T' n t n' t':=by
 rw [PySem.W.Fast.te10110043849684766642,PySem.W.Fast.te14364793385576792824,PySem.W.Fast.te10423151435166282330]
 exact h
theorem c0:Pc segRunT treeTable PySem.Challenge.pw_gatefold_k30_label_by_its_cut 196 0 2 ⟨0,0,0,0⟩ ⟨2,0,3,8⟩ ZkK ZkJ 15 187 28 207:=Pc.plain (fun w os=>by kernel_rfl)
theorem c1:Pc segRunT treeTable PySem.Challenge.pw_gatefold_k30_label_by_its_cut 214 2 1 ⟨2,0,3,8⟩ ⟨4,0,5,8⟩ ZkJ ZkI 28 207 40 223:=Pc.plain (fun w os=>by kernel_rfl)
theorem c2:Pc segRunT treeTable PySem.Challenge.pw_gatefold_k30_label_by_its_cut 214 3 1 ⟨4,0,5,8⟩ ⟨6,0,7,8⟩ ZkI ZkH 40 223 52 239:=Pc.plain (fun w os=>by kernel_rfl)
theorem c3:Pc segRunT treeTable PySem.Challenge.pw_gatefold_k30_label_by_its_cut 214 4 1 ⟨6,0,7,8⟩ ⟨8,0,9,8⟩ ZkH Zjt 52 239 64 255:=Pc.plain (fun w os=>by kernel_rfl)
theorem c4:Pc segRunT treeTable PySem.Challenge.pw_gatefold_k30_label_by_its_cut 386 5 9 ⟨8,0,9,8⟩ ⟨32,0,33,20⟩ Zjt Zjs 64 255 109 314:=Pc.plain (fun w os=>by kernel_rfl)
theorem c5:Pc segRunT treeTable PySem.Challenge.pw_gatefold_k30_label_by_its_cut 364 14 14 ⟨32,0,33,20⟩ ⟨101,0,106,15⟩ Zjs Zjr 109 314 180 420:=Pc.plain (fun w os=>by kernel_rfl)
theorem c6:Pc segRunT treeTable PySem.Challenge.pw_gatefold_k30_label_by_its_cut 415 28 1 ⟨101,0,106,15⟩ ⟨107,0,153,59⟩ Zjr Zjq 180 420 239 501:=Pc.plain (fun w os=>by kernel_rfl)
theorem c7:Pc segRunT treeTable PySem.Challenge.pw_gatefold_k30_label_by_its_cut 57 29 4 ⟨107,0,153,59⟩ ⟨157,0,158,18⟩ Zjq Zjp 239 501 246 514:=Pc.plain (fun w os=>by kernel_rfl)
theorem c8:Pc segRunT treeTable PySem.Challenge.pw_gatefold_k30_label_by_its_cut 396 33 2 ⟨157,0,158,18⟩ ⟨197,0,197,8⟩ Zjp Zjo 246 514 302 589:=Pc.plain (fun w os=>by kernel_rfl)
theorem c9:Pc segRunT treeTable PySem.Challenge.pw_gatefold_k30_label_by_its_cut 319 35 10 ⟨197,0,197,8⟩ ⟨289,0,316,52⟩ Zjo Zjn 302 589 368 691:=Pc.plain (fun w os=>by kernel_rfl)
noncomputable abbrev PW:Program:=PySem.Challenge.pw_gatefold_k30_label_by_its_cut
noncomputable abbrev B0:List Frame:=[topFrame ⟨0,0,0,0⟩]
theorem step {p:Program}{N i k:Nat}{pos pos':Pos}{T T':Params->BT}{n t n' t':Nat} (c:Pc segRunT treeTable p N i k pos pos' T T' n t n' t') {M:Nat}{r:Shared}{w:World}{os:OsState}
  (h:topRun treeTable p w 11 (some (.ref 6)) M (SS T' n' t' w os).abs (restOf ((behindTheImports p).drop (i+k)) (ev p) (cE p) pos' [topFrame ⟨0,0,0,0⟩])=some r) :
  topRun treeTable p w 11 (some (.ref 6)) (N+M) (SS T n t w os).abs (restOf ((behindTheImports p).drop i) (ev p) (cE p) pos [topFrame ⟨0,0,0,0⟩])=some r:=by
 have e:(behindTheImports p).drop i=st p i k ++ (behindTheImports p).drop (i+k):=by
  unfold st
  rw [<- ZrC]
  exact (ZqR _ _).symm
 rw [e]
 exact piece_app (segRun_of (c w os)) h
noncomputable def Fn (f:(String->Option Builtin)->Program->World->Nat->Option Value->Nat->Shared->Thread->Option Shared) (tb:String->Option Builtin) (p:Program):Prop :=
 ∀ (w:World) (os:OsState),f tb p w 11 (some (.ref 6)) 2 (SS Zjn 368 691 w os).abs ⟨doneF .next,cE p,⟨289,0,316,52⟩,[topFrame ⟨0,0,0,0⟩]⟩=some ⟨ZdO w.params,⟨[]⟩,⟨0,0,0,0⟩,691,os⟩
theorem fin:Fn topRun treeTable PW:=by
 rw [PySem.W.Fast.te14082659384304107361,PySem.W.Fast.te14364793385576792824,show PW=TP from PySem.W.Fast.te10423151435166282330]
 exact fun w os=>by kernel_rfl
noncomputable def Pr (f:(String->Option Builtin)->Program->World->Nat->Option Value->Nat->Shared->Thread->Option (Shared × Thread)) (d:(String->Option Builtin)->Code->Sem Fin) (tb:String->Option Builtin) (p:Program):Prop :=
 ∀ (w:World) (os:OsState),f tb p w 11 (some (.ref 6)) 12 ⟨boot_heap w.params,⟨[]⟩,boot_drawn,boot_toks,os⟩ (topStub p)=some (⟨ZlI w.params,⟨[]⟩,⟨0,0,0,0⟩,187,os⟩,⟨d tb (cE p),cE p,⟨0,0,0,0⟩,[topFrame ⟨0,0,0,0⟩]⟩)
theorem preT:Pr topGo denote treeTable PW:=by
 rw [PySem.W.Fast.te15667345088766844465,PySem.W.Fast.te11892475500146522536,PySem.W.Fast.te14364793385576792824,show PW=TP from PySem.W.Fast.te10423151435166282330]
 exact fun w os=>by kernel_rfl
noncomputable def Bl (f:(String->Option Builtin)->Program->World->Nat->Option Value->Nat->Nat->Shared->Thread->Option (Flow × Shared × Code × Pos)) (tb:String->Option Builtin) (p:Program):Prop :=
 ∀ (w:World) (os:OsState),f tb p w 11 (some (.ref 6)) 1 1 ⟨ZlI w.params,⟨[]⟩,⟨0,0,0,0⟩,187,os⟩ (blockOf (behindTheImports p) (ev p) (cE p) ⟨0,0,0,0⟩ [topFrame ⟨0,0,0,0⟩])=some (.next,(SS ZkK 15 187 w os).abs,cE p,⟨0,0,0,0⟩)
theorem blk:Bl segRun treeTable PW:=by
 rw [PySem.W.Fast.te14374325043358763698,PySem.W.Fast.te14364793385576792824,show PW=TP from PySem.W.Fast.te10423151435166282330]
 exact fun w os=>by kernel_rfl
theorem d44:(behindTheImports PW).drop 45=[]:=by kernel_rfl
theorem run (w:World) (os:OsState):topRun treeTable PW w 11 (some (.ref 6)) (12+(1+(196+(214+(214+(214+(386+(364+(415+(57+(396+(319+2)))))))))))) ⟨boot_heap w.params,⟨[]⟩,boot_drawn,boot_toks,os⟩ (topStub PW)=some ⟨ZdO w.params,⟨[]⟩,⟨0,0,0,0⟩,691,os⟩:=by
 refine go_top (preT w os) ?_
 refine piece_block (blk w os) ?_
 refine step c0 (step c1 (step c2 (step c3 (step c4 (step c5 (step c6 (step c7 (step c8 (step c9 ?_)))))))))
 rw [d44]
 exact fin w os
theorem size (w:World):((boot_heap w.params).isNs mainGlobals && (Array.mk ([]:List GenState)).size == 0,(boot_heap w.params).objs.size,(boot_heap w.params).nsMap mainGlobals "__annotations__")=(true,11,some (.ref 6)):=by kernel_rfl
theorem op:∀ w:World,(fencedOpening treeTable PW w 5660).map (fun s=>(s.heap,s.gens,s.drawn,s.toks))=some (boot_heap w.params,Array.mk [],boot_drawn,boot_toks) :=
 boot_open (by kernel_rfl) (by decide) (fun s=>by kernel_rfl)
noncomputable def KP:List Nat:=[1,2,3,4,5,7,8,10,11,13,14,15,16,17,18,19,20,21,22,24,25,26,27,28,30,31,32,33,35,36,37,38,39,40,41,42,43,44]
noncomputable def VW (p:Program):Program:={ p with main:={ p.main with body:=KP.filterMap fun i=>p.main.body[i]? } }
noncomputable abbrev S9 (w:World) (os:OsState):Shared:=⟨ZdO w.params,⟨[]⟩,⟨0,0,0,0⟩,691,os⟩
noncomputable def LA (im:List Stmt->List Str) (p:Program):Prop :=
 ∀ (w:World) (os:OsState),(staticsOk (im p.main.body) (boot_heap w.params) (ZdO w.params) && namesBound p (ZdO w.params) && gensDone (S9 w os) && laidKept (boot_heap w.params) (ZdO w.params))=true
theorem la:LA importedModules PW:=by
 rw [PySem.W.Fast.te5923862056798008813,show PW=TP from PySem.W.Fast.te10423151435166282330]
 exact fun w os=>by kernel_rfl
noncomputable abbrev XT (q:Program):Shared->Bool:=fun s=>xlAt q [] s && recOk [] s
theorem lb0 (w:World) (os:OsState):PySem.W.Fast.tw4187177175401517315 (VW TP) [] (PySem.W.Fast.tw5923862056798008813 TP.main.body) (XT (VW TP)) true (S9 w os)=openGood (VW TP) []:=by kernel_rfl
end
end OT
namespace K30
open PySem PySem.Spec PyProof.Rows L2
noncomputable abbrev Q (l:List Nat):Str:=⟨⟨l⟩⟩
noncomputable abbrev fq (b c:Str) (s:Stmt) (q:Str) (t n:Nat):Obj:=⟨(Value.type "function"),none,.func (ZpH b c (Zaq s) (Zai s) (Zab s) Value.none Value.none Value.none (Value.str q t) none (Value.ref n) Value.none),⟨[]⟩⟩
set_option maxRecDepth 100000 in
noncomputable def KF:Params->ZpF:=fun P =>
 (nat_lit 82,fq "is_whole" "is_whole" Zbz OT.q95 271 81) ::
 (nat_lit 89,fq "is_between" "is_between" Za2 OT.q95 271 88) ::
 (nat_lit 94,fq "reached" "reached" ZbC OT.q20 289 93) ::
 (nat_lit 101,fq "cone" "cone" Zd1 OT.q20 289 100) ::
 (nat_lit 108,fq "head" "head" ZdZ OT.q55 305 107) ::
 (nat_lit 115,fq "foot" "foot" Zd0 OT.q55 305 114) ::
 (nat_lit 122,fq "need_goals" "need_goals" Za1 OT.q55 305 121) ::
 (nat_lit 127,fq "next_ends" "next_ends" Za8 OT.q55 305 126) ::
 (nat_lit 134,fq "search" "search" Zb5 OT.q55 305 133) ::
 (nat_lit 141,fq "lead" "lead" ZdY OT.q55 305 140) ::
 (nat_lit 148,fq "way_from" "way_from" Zbx OT.q55 305 147) ::
 (nat_lit 153,fq "ways_of" "ways_of" Zbw OT.q55 305 152) ::
 (nat_lit 158,fq "stops_of" "stops_of" Zbq OT.q55 305 157) ::
 (nat_lit 165,fq "apart" "apart" ZcC OT.q55 305 164) ::
 (nat_lit 172,fq "need_size" "need_size" Zbg OT.Zgs 397 171) ::
 (nat_lit 179,fq "maze_of" "maze_of" ZbJ OT.Zgs 397 178) ::
 (nat_lit 193,fq "__init__" "Labels.__init__" Zay OT.Zgs 397 192) ::
 (nat_lit 198,fq "settle" "Labels.settle" Zat OT.Zgs 397 197) ::
 (nat_lit 205,fq "keep" "Labels.keep" ZaU OT.Zgs 397 204) ::
 (nat_lit 212,fq "need_and_knot" "Labels.need_and_knot" Zao OT.Zgs 397 211) ::
 (nat_lit 219,fq "label" "Labels.label" ZaJ OT.Zgs 397 218) ::
 (nat_lit 226,fq "cut" "Labels.cut" Za3 OT.Zgs 397 225) ::
 (nat_lit 245,fq "turned" "turned" Zb4 OT.ZhK 501 244) ::
 (nat_lit 259,fq "__init__" "Fold.__init__" ZaD OT.ZhK 501 258) ::
 (nat_lit 266,fq "total" "Fold.total" Za4 OT.ZhK 501 265) ::
 (nat_lit 273,fq "has_tie" "Fold.has_tie" ZaK OT.ZhK 501 272) ::
 (nat_lit 280,fq "pair" "Fold.pair" Zbl OT.ZhK 501 279) ::
 (nat_lit 287,fq "both" "Fold.both" Zbm OT.ZhK 501 286) ::
 (nat_lit 294,fq "and_knot" "Fold.and_knot" ZaC OT.ZhK 501 293) ::
 (nat_lit 308,fq "_law_cell_at" "_law_cell_at" ZaT OT.q39 587 307) ::
 (nat_lit 315,fq "_law_pairs" "_law_pairs" Zbj OT.q39 587 314) ::
 (nat_lit 322,fq "_law_mixed" "_law_mixed" Zbk OT.q39 587 321) ::
 (nat_lit 329,fq "_law_digit_pairs" "_law_digit_pairs" Zax OT.q39 587 328) ::
 (nat_lit 334,fq "_law_fold" "_law_fold" Zbc OT.q39 587 333) ::
 (nat_lit 341,fq "_law_cone" "_law_cone" Zby OT.q39 587 340) ::
 (nat_lit 348,fq "_law_whole" "_law_whole" Zbh OT.q39 587 347) ::
 (nat_lit 355,fq "_law_stops" "_law_stops" Zbi OT.q39 587 354) ::
 (nat_lit 362,fq "_law_good_cut" "_law_good_cut" ZaI OT.q39 587 361) ::
 (nat_lit 367,fq "law" "law" ZfT OT.q39 587 366) ::
 (nat_lit 81,OT.ZnG P) ::
 (nat_lit 88,OT.ZnF P) ::
 (nat_lit 93,OT.ZnE P) ::
 (nat_lit 100,OT.ZnD P) ::
 (nat_lit 107,OT.ZnC P) ::
 (nat_lit 114,OT.ZoK P) ::
 (nat_lit 121,OT.ZoJ P) ::
 (nat_lit 126,OT.ZoI P) ::
 (nat_lit 133,OT.ZoH P) ::
 (nat_lit 140,OT.ZoG P) ::
 (nat_lit 147,OT.ZoF P) ::
 (nat_lit 152,OT.ZoE P) ::
 (nat_lit 157,OT.ZoD P) ::
 (nat_lit 164,OT.ZoC P) ::
 (nat_lit 171,OT.ZoB P) ::
 (nat_lit 178,OT.ZoA P) ::
 (nat_lit 192,OT.o244 P) ::
 (nat_lit 197,OT.o249 P) ::
 (nat_lit 204,OT.o256 P) ::
 (nat_lit 211,OT.o263 P) ::
 (nat_lit 218,OT.o270 P) ::
 (nat_lit 225,OT.o277 P) ::
 (nat_lit 244,OT.o298 P) ::
 (nat_lit 258,OT.o314 P) ::
 (nat_lit 265,OT.o321 P) ::
 (nat_lit 272,OT.o328 P) ::
 (nat_lit 279,OT.o335 P) ::
 (nat_lit 286,OT.o342 P) ::
 (nat_lit 293,OT.o349 P) ::
 (nat_lit 307,OT.o365 P) ::
 (nat_lit 314,OT.o372 P) ::
 (nat_lit 321,OT.o379 P) ::
 (nat_lit 328,OT.o386 P) ::
 (nat_lit 333,OT.o391 P) ::
 (nat_lit 340,OT.o398 P) ::
 (nat_lit 347,OT.o405 P) ::
 (nat_lit 354,OT.o412 P) ::
 (nat_lit 361,OT.o419 P) ::
 (nat_lit 366,OT.o424 P) ::
 (nat_lit 2,OT.b2 P) ::
 (nat_lit 3,OT.o358 P) ::
 (nat_lit 24,OT.ZnJ P) ::
 (nat_lit 23,OT.o59 P) ::
 (nat_lit 37,OT.o76 P) ::
 (nat_lit 36,OT.o75 P) ::
 (nat_lit 49,OT.o91 P) ::
 (nat_lit 48,OT.o90 P) ::
 (nat_lit 61,OT.ZmO P) ::
 (nat_lit 60,OT.ZmP P) ::
 (nat_lit 73,OT.ZnH P) ::
 (nat_lit 72,OT.ZnI P) ::
 (nat_lit 234,OT.o286 P) ::
 (nat_lit 233,OT.o285 P) ::
 (nat_lit 297,OT.o353 P) ::
 (nat_lit 296,OT.o352 P) :: []
end K30
namespace OT
open PySem PySem.W PySem.Spec
noncomputable abbrev AS:List Addr:=(nat_lit 82 :: nat_lit 89 :: nat_lit 94 :: nat_lit 101 :: nat_lit 108 :: nat_lit 115 :: nat_lit 122 :: nat_lit 127 :: nat_lit 134 :: nat_lit 141 :: nat_lit 148 :: nat_lit 153 :: nat_lit 158 :: nat_lit 165 :: nat_lit 172 :: nat_lit 179 :: nat_lit 193 :: nat_lit 198 :: nat_lit 205 :: nat_lit 212 :: nat_lit 219 :: nat_lit 226 :: nat_lit 245 :: nat_lit 259 :: nat_lit 266 :: nat_lit 273 :: nat_lit 280 :: nat_lit 287 :: nat_lit 294 :: nat_lit 308 :: nat_lit 315 :: nat_lit 322 :: nat_lit 329 :: nat_lit 334 :: nat_lit 341 :: nat_lit 348 :: nat_lit 355 :: nat_lit 362 :: nat_lit 367 :: nat_lit 81 :: nat_lit 88 :: nat_lit 93 :: nat_lit 100 :: nat_lit 107 :: nat_lit 114 :: nat_lit 121 :: nat_lit 126 :: nat_lit 133 :: nat_lit 140 :: nat_lit 147 :: nat_lit 152 :: nat_lit 157 :: nat_lit 164 :: nat_lit 171 :: nat_lit 178 :: nat_lit 192 :: nat_lit 197 :: nat_lit 204 :: nat_lit 211 :: nat_lit 218 :: nat_lit 225 :: nat_lit 244 :: nat_lit 258 :: nat_lit 265 :: nat_lit 272 :: nat_lit 279 :: nat_lit 286 :: nat_lit 293 :: nat_lit 307 :: nat_lit 314 :: nat_lit 321 :: nat_lit 328 :: nat_lit 333 :: nat_lit 340 :: nat_lit 347 :: nat_lit 354 :: nat_lit 361 :: nat_lit 366 :: nat_lit 2 :: nat_lit 3 :: nat_lit 24 :: nat_lit 23 :: nat_lit 37 :: nat_lit 36 :: nat_lit 49 :: nat_lit 48 :: nat_lit 61 :: nat_lit 60 :: nat_lit 73 :: nat_lit 72 :: nat_lit 234 :: nat_lit 233 :: nat_lit 297 :: nat_lit 296 :: [])
noncomputable abbrev HK:Hook:=kHook K30.KF AS (fun _=>by kernel_rfl)
theorem lb (w:World) (os:OsState):openSeen (VW PW) [] (importedModules PW.main.body) (XT (VW PW)) true (S9 w os)=openGood (VW PW) []:=by
 rw [PySem.W.Fast.te4187177175401517315,PySem.W.Fast.te5923862056798008813,show PW=TP from PySem.W.Fast.te10423151435166282330]
 exact lb0 w os
theorem lc (w:World) (os:OsState):HK.obs (S9 w os)=HK.val w:=by kernel_rfl
theorem left:LeftO PW (VW PW) [] (XT (VW PW)) HK.obs HK.val 5660 :=
 LeftO.of_pieces op size run (by decide) fun w=>funext fun os=>by
  rw [la w os,lb w os,lc w os]
end OT
open PySem PySem.W PyProof.Rows
set_option maxRecDepth 100000 in
set_option maxHeartbeats 0 in
theorem PySem.Challenge.cw_gatefold_k30_label_by_its_cut_holds : PySem.Challenge.rw_gatefold_k30_label_by_its_cut.Holds := by
 w_on;o_law
 refine holds_open (q:=OT.VW OT.PW) (loose:=[]) (Xt:=OT.XT (OT.VW OT.PW)) (XP:=XL (OT.VW OT.PW) []) (Yf:=OT.HK.obs) (Ya:=OT.HK.val) (YP:=OT.HK.says) (N:=5660) OT.left OT.HK.of OT.HK.keeps
  (fun s e=>xl_of s (Bool.and_eq_true_iff.mp e).1) XL.keeps (by rfl) (by rfl) (by rfl)
  (fun s e=>recFacts_of (Bool.and_eq_true_iff.mp e).2) (by rfl) (by first | assumption | decide +kernel)
  (by decide +kernel)
  ⟨rfl,rfl,rfl,rfl,rfl,by decide +kernel⟩ ?hw ?hc
 case hw=>w_witness2
 refine K30.walk (l:=PySem.Challenge.rw_gatefold_k30_label_by_its_cut) (K:=K30.KF) rfl rfl (fun w h Y=>PySem.W.kIn_of Y) ?F
 case F =>
  intro w mg fa h KX G hmg
  k_fill
  refine' K30.all_mk KX G hmg ?aC_Labels ?aC_Fold ?aC_NoGoal ?aC_NoKnot ?aC_NoSize ?aC_NoTie ?a0 ?l0 ?c0 ?k0 ?a1 ?l1 ?c1 ?k1 ?a2 ?l2 ?c2 ?k2 ?a3 ?l3 ?c3 ?k3 ?a4 ?l4 ?c4 ?k4 ?a5 ?l5 ?c5 ?k5 ?a6 ?l6 ?c6 ?k6 ?a7 ?l7 ?c7 ?k7 ?a8 ?l8 ?c8 ?k8 ?a9 ?l9 ?c9 ?k9 ?a10 ?l10 ?c10 ?k10 ?a11 ?l11 ?c11 ?k11 ?a12 ?l12 ?c12 ?k12 ?a13 ?l13 ?c13 ?k13 ?a14 ?l14 ?c14 ?k14 ?a15 ?l15 ?c15 ?k15 ?a16 ?i16 ?l16 ?c16 ?k16 ?a17 ?i17 ?l17 ?c17 ?k17 ?a18 ?i18 ?l18 ?c18 ?k18 ?a19 ?i19 ?l19 ?c19 ?k19 ?a20 ?i20 ?l20 ?c20 ?k20 ?a21 ?i21 ?l21 ?c21 ?k21 ?a22 ?l22 ?c22 ?k22 ?a23 ?i23 ?l23 ?c23 ?k23 ?a24 ?i24 ?l24 ?c24 ?k24 ?a25 ?i25 ?l25 ?c25 ?k25 ?a26 ?i26 ?l26 ?c26 ?k26 ?a27 ?i27 ?l27 ?c27 ?k27 ?a28 ?i28 ?l28 ?c28 ?k28 ?a29 ?l29 ?c29 ?k29 ?a30 ?l30 ?c30 ?k30 ?a31 ?l31 ?c31 ?k31 ?a32 ?l32 ?c32 ?k32 ?a33 ?l33 ?c33 ?k33 ?a34 ?l34 ?c34 ?k34 ?a35 ?l35 ?c35 ?k35 ?a36 ?l36 ?c36 ?k36 ?a37 ?l37 ?c37 ?k37 ?a38 ?l38 ?c38 ?k38 ?xi_NoGoal ?xq_NoGoal ?kv_NoGoal ?xi_NoKnot ?xq_NoKnot ?kv_NoKnot ?xi_NoSize ?xq_NoSize ?kv_NoSize ?xi_NoTie ?xq_NoTie ?kv_NoTie ?xk_NoGoal ?xk_NoKnot ?xk_NoSize ?xk_NoTie ?pg_Labels ?hd_Labels ?po_Labels ?sa_Labels ?mk_Labels ?kc_Labels ?n_Labels_levels ?n_Labels_found_cuts ?n_Labels_found_ways ?pg_Fold ?hd_Fold ?po_Fold ?sa_Fold ?mk_Fold ?kc_Fold ?n_Fold_many ?n_Fold_pairs ?n_Fold_knots ?g_ALWAYS ?g_GREATEST_SIZE ?g_LEAST_SIZE ?g_NEVER ?z_bool ?z_int ?z_isinstance ?z_len ?z_list ?z_max ?z_min ?z_range ?z_sorted
  (case aC_Labels | aC_Fold | aC_NoGoal | aC_NoKnot | aC_NoSize | aC_NoTie | a0 | l0 | c0 | k0 | a1 | l1 | c1 | k1 | a2 | l2 | c2 | k2 | a3 | l3 | c3 | k3 | a4 | l4 | c4 | k4 | a5 | l5 | c5 | k5 | a6 | l6 | c6 | k6 | a7 | l7 | c7 | k7 | a8 | l8 | c8 | k8 | a9 | l9 | c9 | k9 | a10 | l10 | c10 | k10 | a11 | l11 | c11 | k11 | a12 | l12 | c12 | k12 | a13 | l13 | c13 | k13 | a14 | l14 | c14 | k14 | a15 | l15 | c15 | k15 | a16 | i16 | l16 | c16 | k16 | a17 | i17 | l17 | c17 | k17 | a18 | i18 | l18 | c18 | k18 | a19 | i19 | l19 | c19 | k19 | a20 | i20 | l20 | c20 | k20 | a21 | i21 | l21 | c21 | k21 | a22 | l22 | c22 | k22 | a23 | i23 | l23 | c23 | k23 | a24 | i24 | l24 | c24 | k24 | a25 | i25 | l25 | c25 | k25 | a26 | i26 | l26 | c26 | k26 | a27 | i27 | l27 | c27 | k27 | a28 | i28 | l28 | c28 | k28 | a29 | l29 | c29 | k29 | a30 | l30 | c30 | k30 | a31 | l31 | c31 | k31 | a32 | l32 | c32 | k32 | a33 | l33 | c33 | k33 | a34 | l34 | c34 | k34 | a35 | l35 | c35 | k35 | a36 | l36 | c36 | k36 | a37 | l37 | c37 | k37 | a38 | l38 | c38 | k38=>k_is)
  (case xi_NoGoal=>kernel_rfl)
  (case xq_NoGoal=>first | rfl | decide +kernel | k_is)
  (case kv_NoGoal=>first | rfl | decide +kernel | k_is)
  (case xi_NoKnot=>kernel_rfl)
  (case xq_NoKnot=>first | rfl | decide +kernel | k_is)
  (case kv_NoKnot=>first | rfl | decide +kernel | k_is)
  (case xi_NoSize=>kernel_rfl)
  (case xq_NoSize=>first | rfl | decide +kernel | k_is)
  (case kv_NoSize=>first | rfl | decide +kernel | k_is)
  (case xi_NoTie=>kernel_rfl)
  (case xq_NoTie=>first | rfl | decide +kernel | k_is)
  (case kv_NoTie=>first | rfl | decide +kernel | k_is)
  (case xk_NoGoal=>first | rfl | decide +kernel | k_is)
  (case xk_NoKnot=>first | rfl | decide +kernel | k_is)
  (case xk_NoSize=>first | rfl | decide +kernel | k_is)
  (case xk_NoTie=>first | rfl | decide +kernel | k_is)
  (case pg_Labels | hd_Labels | po_Labels | sa_Labels | mk_Labels | kc_Labels | n_Labels_levels | n_Labels_found_cuts | n_Labels_found_ways | pg_Fold | hd_Fold | po_Fold | sa_Fold | mk_Fold | kc_Fold | n_Fold_many | n_Fold_pairs | n_Fold_knots | g_ALWAYS | g_GREATEST_SIZE | g_LEAST_SIZE | g_NEVER | z_bool | z_int | z_isinstance | z_len | z_list | z_max | z_min | z_range | z_sorted=>k_is)

