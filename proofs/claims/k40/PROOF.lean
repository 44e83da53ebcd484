import PyProof.Rows.All
import Wide.All
import OpenK.AllK
import Wide.FinOn
import Lean
import PyProof.EqAt
import PyProof.EqKinds
import PyProof.TupleCall
import PyProof.ZipIter
import PyProof.WalksMore
import PyProof.ListNew
import PyProof.IsiBase
import PyProof.DictList
import PyProof.AttrMiss
import PyProof.FactsAll.dict
import PyProof.ListRange
import PyProof.StrLawsWords
import PyProof.StationsW
import KE.KIsAll
import PyProof.PassesOwn
import PyProof.DictIter
import KE.KRevIter
import KE.KRangeStep
import KE.RegMulBits
import KE.KDictList
import PyProof.EnumStmt
import PyProof.Draws
import PyProof.EnumMake
import PyProof.Rows.SumAny
import KE.KIntText
import PyProof.StrCalls2
import PyProof.Rows.StrItems
import PyProof.StrLawsChain
import PyProof.StrLawsTight
import PyProof.Rows.StrLen
import PyProof.StrCalls6
import KE.KListMore
import PyProof.MeetsStr3
import PySem.Challenge.RW_gatefold_k40_board_unread
open PySem.W renaming Frag → ZoW, kitOne → ZoX, nsIn → ZoY, mg_of → ZoZ, findIn → Zo0, mg_none_of → Zo1, fnOf → Zo2, kia_one → Zo3, ktsIn → Zo4, keepIn → Zo5, emptyDict → Zo6, instObj → Zo7, codeIn → Zo8, plainGet → Zo9, excIn → Zpa, lookIn → Zpb, hasDictIn → Zpc, isFn → Zpd, callWith_K → Zpe, methodObj → Zpf, plainGet_of → Zpg, plainOver → Zph, takerIn → Zpi, makesIn → Zpj, specialIn → Zpk, mroIn → Zpl, cellsFrom_some → Zpm, OpenLaw → Zpn, kitAny → Zpo, KdlSrc → Zpp, codeRec_of → Zpq
open PySem.F renaming plainAttrs_str → Zpr, excBase_ValueError → Zps, slot_str_join → Zpt, type_str_join → Zpu, plainAttrs_list → Zpv, slot_list_append → Zpw, type_list_append → Zpx, slot_str_split → Zpy, type_str_split → Zpz, slot_str_replace → ZpA, type_str_replace → ZpB
open List renaming length_map → ZpC, map_cons → ZpD, mem_cons → ZpE, getElem?_map → ZpF, length_cons → ZpG, getElem?_eq_getElem → ZpH, length_append → ZpI, range → ZpJ, map_append → ZpK, getElem?_eq_some_iff → ZpL, mem_append → ZpM, size_toArray → ZpN, map_map → ZpO, mem_of_getElem? → ZpP, mem_singleton → ZpQ, mem_cons_of_mem → ZpR, mem_map → ZpS, mem_append_right → ZpT, Nodup → ZpU, getElem?_cons_succ → ZpV, getElem?_append_right → ZpW, getD → ZpX, not_mem_nil → ZpY, mem_cons_self → ZpZ, getElem?_eq_none → Zp0, take_length → Zp1, length_take → Zp2, length_nil → Zp3, append_nil → Zp4, getElem?_append_left → Zp5, length_drop → Zp6, length → Zp7, all_eq_true → Zp8, length_range → Zp9, append_assoc → Zqa, mem_append_left → Zqb, map_nil → Zqc, lookup_cons → Zqd, sum_cons → Zqe, length_set → Zqf, getElem_mem → Zqg, mem_range → Zqh, replicate → Zqi, take_add_one → Zqj, take_of_length_le → Zqk, ext_getElem? → Zql, filterMap_cons → Zqm, getElem?_set_self → Zqn, lookup → Zqo, all_map → Zqp, map_take → Zqq, mem_iff_getElem? → Zqr, cons_ne_nil → Zqs, find?_cons → Zqt, any_cons → Zqu, cons_append → Zqv, range_succ → Zqw, map_congr_left → Zqx, take_zero → Zqy, set_cons_succ → Zqz, mem_of_mem_take → ZqA, mem_of_mem_drop → ZqB, append_inj' → ZqC, map_drop → ZqD, nodup_cons → ZqE, of_mem_zip → ZqF, exists_cons_of_ne_nil → ZqG, mem_or_eq_of_mem_set → ZqH, mem_filter → ZqI, getElem?_set_ne → ZqJ, length_replicate → ZqK, all_cons → ZqL, length_singleton → ZqM, foldl_cons → ZqN, drop_eq_getElem_cons → ZqO, drop_left → ZqP, pairwise_cons → ZqQ, getElem?_range → ZqR, take_append_drop → ZqS, map_set → ZqT, getElem?_replicate → ZqU, drop_eq_nil_of_le → ZqV, getElem?_cons_zero → ZqW, length_pos_of_mem → ZqX
open Nat renaming le_refl → ZqY, ne_of_lt → ZqZ, le_trans → Zq0, lt_of_lt_of_le → Zq1, ne_of_gt → Zq2, zero_le → Zq3, pow_le_pow_right → Zq4, sub_self → Zq5, lt_irrefl → Zq6, le_of_lt → Zq7, le_succ → Zq8, lt_succ_self → Zq9, le_add_right → Zra, succ_pos → Zrb, add_sub_cancel → Zrc, pow_pos → Zrd, mul_le_mul → Zre, one_le_two_pow → Zrf, mod_eq_of_lt → Zrg, testBit_eq_decide_div_mod_eq → Zrh
open Int renaming toNat_natCast → Zri, emod_nonneg → Zrj, emod_lt_of_pos → Zrk, eq_ofNat_of_zero_le → Zrl, le_refl → Zrm, fdiv_eq_ediv_of_nonneg → Zrn
open Array renaming getElem?_eq_some_iff → Zro, length_toList → Zrp, toList → Zrq, toList_extract → Zrr
open Bool renaming false_ne_true → Zrs, and_eq_true → Zrt, eq_iff_iff → Zru, or_eq_true → Zrv, false_eq_true → Zrw, not_eq_true' → Zrx, eq_false_iff → Zry, and_eq_true_iff → Zrz
local macro_rules | `(tactic| omega) => `(tactic| first | ((fail_if_success (fail_if_success omega +splitDisjunctions)); lia) | omega +splitDisjunctions)
set_option Elab.async false
set_option linter.all false
set_option maxRecDepth 100000
namespace L2
open PySem PySem.Spec PyProof.Rows
noncomputable abbrev Key:=Sum Int Str
noncomputable def vL:Key->Value->Bool
 | .inl k,v=>Value.isInt k v
 | .inr x,v=>Value.isStrOf x v
noncomputable def GD (w:World):Key->Int
 | .inl k=>hashInt k
 | .inr x=>hashStr w x
theorem nh:∀ {k:Key}{v:Value},vL k v=true->(∃ i t,k=Sum.inl i/\v=Value.int i t)\/(∃ x t,k=Sum.inr x/\v=Value.str x t)
 | .inl i,v,h=>by
  obtain ⟨t,e⟩:=Value.isInt_shape (k:=i) (v:=v) h
  exact .inl ⟨i,t,rfl,e⟩
 | .inr x,v,h=>by
  obtain ⟨t,e⟩:=Value.isStrOf_shape (x:=x) (v:=v) h
  exact .inr ⟨x,t,rfl,e⟩
theorem UA (i:Int) (t:Tok):vL (.inl i) (.int i t)=true:=by simp [vL,Value.isInt]
theorem So (x:Str) (t:Tok):vL (.inr x) (.str x t)=true:=by simp [vL,Value.isStrOf]
theorem qY (a b:Int):decide ((Sum.inl a:Key)=Sum.inl b)=(a == b):=by
 by_cases e:a=b
 ·subst e;simp
 ·have h:¬ (Sum.inl a:Key)=Sum.inl b:=fun q=>e (Sum.inl.inj q)
  rw [decide_eq_false h]
  exact (beq_eq_false_iff_ne.mpr e).symm
theorem rj (a b:Str):decide ((Sum.inr a:Key)=Sum.inr b)=decide (a=b):=by
 by_cases e:a=b
 ·subst e;simp
 ·have h:¬ (Sum.inr a:Key)=Sum.inr b:=fun q=>e (Sum.inr.inj q)
  rw [decide_eq_false h,decide_eq_false e]
theorem uY (a:Int) (b:Str):decide ((Sum.inl a:Key)=Sum.inr b)=false:=decide_eq_false (fun q=>nomatch q)
theorem uK (a:Str) (b:Int):decide ((Sum.inr a:Key)=Sum.inl b)=false:=decide_eq_false (fun q=>nomatch q)
noncomputable def iL (prog:Program) (w:World):PySem.KeyKind prog w Key where
 is:=vL
 hash:=GD w
 inj:=fun v a b ha hb=>by
  rcases nh ha with ⟨i,t,rfl,rfl⟩ | ⟨x,t,rfl,rfl⟩
  ·rcases nh hb with ⟨j,u,rfl,e⟩ | ⟨y,u,rfl,e⟩
   ·injection e with e1 _;rw [e1]
   ·exact nomatch e
  ·rcases nh hb with ⟨j,u,rfl,e⟩ | ⟨y,u,rfl,e⟩
   ·exact nomatch e
   ·injection e with e1 _;rw [e1]
 byValue:=fun k v h=>by
  rcases nh h with ⟨i,t,rfl,rfl⟩ | ⟨x,t,rfl,rfl⟩ <;> rfl
 pyHash:=fun hv h=>by
  rcases nh hv with ⟨i,t,rfl,rfl⟩ | ⟨x,t,rfl,rfl⟩
  ·exact wpAny_pyHash_int h
  ·exact wpAny_pyHash_str h
 eqBool:=fun hu hv h=>by
  rcases nh hu with ⟨i,t,rfl,rfl⟩ | ⟨x,t,rfl,rfl⟩
  ·rcases nh hv with ⟨j,u,rfl,rfl⟩ | ⟨y,u,rfl,rfl⟩
   ·rw [qY] at h;exact wpAny_eqBool_int h
   ·rw [uY] at h;exact SeqAt.EqAt.int_str i t y u _ _ _ _ h
  ·rcases nh hv with ⟨j,u,rfl,rfl⟩ | ⟨y,u,rfl,rfl⟩
   ·rw [uK] at h;exact SeqAt.EqAt.str_int x t j u _ _ _ _ h
   ·rw [rj] at h;exact wpAny_eqBool_str h
 «strs»:=fun k x t v h=>by
  rcases nh h with ⟨i,u,rfl,e⟩ | ⟨y,u,rfl,e⟩
  ·exact nomatch e
  ·injection e with e1 _
   subst e1
   cases v <;> rfl
theorem Pe (prog:Program) (w:World) (i:Int) (t:Tok):(iL prog w).is (.inl i) (.int i t)=true:=UA i t
theorem QX (prog:Program) (w:World) (x:Str) (t:Tok):(iL prog w).is (.inr x) (.str x t)=true:=So x t
inductive V where
 | non | bl (b:Bool) | int (i:Int) | str (x:Str) | byt (b:Array UInt8) | flt (b:UInt64) | ref (a:Addr) | ty (n:String)
 deriving DecidableEq
noncomputable def aP:V->Value->Prop
 | .non,u=>u=Value.none
 | .bl b,u=>u=Value.bool b
 | .int i,u=>∃ t,u=Value.int i t
 | .str x,u=>∃ t,u=Value.str x t
 | .byt b,u=>∃ t,u=Value.bytes b t
 | .flt b,u=>∃ t,u=Value.float b t
 | .ref a,u=>u=Value.ref a
 | .ty n,u=>u=Value.type n
noncomputable abbrev Vals:List V->List Value->Prop:=Paired aP
theorem Vals.length {xs:List V}{us:List Value} (r:Vals xs us):xs.length=us.length:=Paired.length r
theorem Vals.get:∀ {xs:List V}{us:List Value}{i:Nat}{x:V},Vals xs us->xs[i]? = some x->∃ u,us[i]? = some u/\aP x u
 | _,_,_,_,.nil,e=>by simp at e
 | _,_,0,_,.cons r _,e=>by simp at e;subst e;exact ⟨_,rfl,r⟩
 | _,_,i+1,x,.cons _ t,e=>by
  obtain ⟨u,h1,h2⟩:=Vals.get (i:=i) (x:=x) t (by simpa using e)
  exact ⟨u,by simpa using h1,h2⟩
theorem Vals.set {x:V}{u:Value} (r:aP x u):∀ {xs:List V}{us:List Value} (i:Nat),Vals xs us->Vals (xs.set i x) (us.set i u)
 | _,_,_,.nil=>.nil
 | _,_,0,.cons _ t=>.cons r t
 | _,_,i+1,.cons q t=>.cons q (Vals.set r i t)
theorem Vals.append:∀ {xs ys:List V}{us ws:List Value},Vals xs us->Vals ys ws->Vals (xs ++ ys) (us ++ ws)
 | _,_,_,_,.nil,s=>s
 | _,_,_,_,.cons r t,s=>.cons r (Vals.append t s)
theorem Vals.take:∀ {xs:List V}{us:List Value} (n:Nat),Vals xs us->Vals (xs.take n) (us.take n)
 | _,_,0,_=>.nil
 | _,_,_+1,.nil=>.nil
 | _,_,n+1,.cons r t=>.cons r (Vals.take n t)
theorem Vals.drop:∀ {xs:List V}{us:List Value} (n:Nat),Vals xs us->Vals (xs.drop n) (us.drop n)
 | _,_,0,r=>r
 | _,_,_+1,.nil=>.nil
 | _,_,n+1,.cons _ t=>Vals.drop n t
noncomputable def jI:Option V->Option Value->Prop
 | some v,some u=>aP v u
 | none,none=>True
 | _,_=>False
noncomputable def KV {κ:Type}:List (κ × V)->List (κ × Value)->Prop:=Paired fun (p:κ × V) (q:κ × Value)=>p.1=q.1/\aP p.2 q.2
noncomputable def kV:Key->V
 | .inl i=>.int i
 | .inr x=>.str x
inductive HO where
  | lst (xs:List V)
  | tup (xs:List V)
  | dK (kvs:List (Key × V)) | dT (kvs:List (List Key × V))
  | set (S:Int->Bool) (n:Nat)
  | ins (C dx:Addr) (fs:List (Str × V))
  | own (x:Addr)
  | xd (fs:List (Str × V))
  | met (f x:Addr)
  | rng (lo hi:Int)
  | frz (o:Obj) (u:HO)
  | tbl (ps:Array Value)
  | ext (φ:Heap->Prop)
noncomputable abbrev Hp:=Addr->Option HO
noncomputable def upd (H:Hp) (a:Addr) (o:HO):Hp:=fun b=>if b=a then some o else H b
theorem cq {H:Hp}{a:Addr}{o:HO}:upd H a o a=some o:=by unfold upd;rw [if_pos rfl]
theorem bo {H:Hp}{a b:Addr}{o:HO} (h:b≠a):upd H a o b=H b:=by unfold upd;rw [if_neg h]
theorem Hq {H:Hp}{a:Addr}{o u:HO}:upd (upd H a o) a u=upd H a u:=by
 funext b;unfold upd;split <;> rfl
theorem nv {H:Hp}{a b:Addr}{o u:HO} (h:H a=some o) (h':H b=some u) (d:o≠u):a≠b:=by
 intro e;subst e;rw [h] at h';exact d (Option.some.inj h')
theorem gc {H:Hp}{a b:Addr}{o:HO} (h:H a=some o) (h':H b=none):a≠b:=by
 intro e;subst e;rw [h] at h';cases h'
section
variable (P:Program) (w:World)
noncomputable def dA (H:Hp) (h:Heap) (a:Addr):HO->Prop
 | .lst xs=>xs.length<=sizeLine/\∃ (its:List Value) (n:Nat),Vals xs its/\h.get? a=some { cls:=.type "list",data:=.seq its.toArray n }
 | .tup xs=>xs.length<=sizeLine/\∃ its:List Value,Vals xs its/\IsTup h a its.toArray
 | .dK kvs=>kvs.length<=sizeLine/\(a == sysModules)=false/\∃ vs,KV kvs vs/\h.DictOf (iL P w) a vs
 | .dT kvs=>kvs.length<=sizeLine/\(a == sysModules)=false/\∃ xs:List (List Key × Addr × Value),
   Paired (fun (p:List Key × V) (q:List Key × Addr × Value)=>p.1=q.1/\H q.2.1=some (.tup (p.1.map kV))/\aP p.2 q.2.2) kvs xs /\
   ∃ o es ep,h.get? a=some o/\o.ExactDict/\o.data=.dict es ep/\es.toList=xs.map (entryOfKey (tupleKind (iL P w)))/\(xs.map (·.1)).Nodup
 | .set S n=>h.SetOf (intKind P w) a S n
 | .ins C dx fs=>H dx=some (.own a)/\fs.length<=1000/\dx≠a/\h.get? a=some (Zo7 C dx) /\
   ∃ mA,h.Ns1 dx mA/\(∀ f,jI (fs.lookup f) (mA f))/\PySem.Within mA (fs.map (·.1))
 | .own _=>∃ o,h.get? a=some o
 | .xd fs=>∃ mA,h.Ns1 a mA/\∀ f,jI (fs.lookup f) (mA f)
 | .rng lo hi=>∃ t u v,h.get? a=some { cls:=.type "range",data:=.fields #[.int lo t,.int hi u,.int 1 v] }
 | .frz o u=>h.get? a=some o/\dA H h a u
 | .tbl ps=>h.get? a=some { cls:=.none,data:=.fields ps }
 | .met f x=>h.get? a=some (Zpf (.ref f) (.ref x))
 | .ext φ=>φ h/\(∃ o,h.get? a=some o)/\∀ h1 h2:Heap,φ h1->(∀ o,h1.get? a=some o->h2.get? a=some o)->φ h2
noncomputable def d6 (H:Hp) (h:Heap):Prop:=∀ a o,H a=some o->dA P w H h a o
end
section
variable {P:Program}{w:World}{H H':Hp}{h h':Heap}{a:Addr}{o:HO}
theorem dA.lt (x:dA P w H h a o):a<h.objs.size:=by
 cases o with
 | lst xs=>obtain ⟨_,_,_,_,e⟩:=x;exact Heap.lt_size e
 | tup xs=>obtain ⟨_,_,_,p⟩:=x;exact p.lt
 | dK kvs=>obtain ⟨_,_,_,_,o,_,_,e,_⟩:=x;exact Heap.lt_size e
 | dT kvs=>obtain ⟨_,_,_,_,o,_,_,e,_⟩:=x;exact Heap.lt_size e
 | set S n=>obtain ⟨o,_,_,_,e,_⟩:=x;exact Heap.lt_size e
 | ins C dx fs=>obtain ⟨_,_,_,e,_⟩:=x;exact Heap.lt_size e
 | own y=>obtain ⟨_,e⟩:=x;exact Heap.lt_size e
 | xd fs=>obtain ⟨_,⟨_,_,_,e,_⟩,_⟩:=x;exact Heap.lt_size e
 | rng lo hi=>obtain ⟨_,_,_,e⟩:=x;exact Heap.lt_size e
 | frz ob u=>obtain ⟨e,_⟩:=x;exact Heap.lt_size e
 | tbl ps=>exact Heap.lt_size (show h.get? a=some _ from x)
 | met f y=>exact Heap.lt_size (show h.get? a=some _ from x)
 | ext φ=>obtain ⟨_,⟨_,e⟩,_⟩:=x;exact Heap.lt_size e
theorem Paired.qO {α β:Type}{F G:α->β->Prop}:∀ {l₁:List α}{l₂:List β},Paired F l₁ l₂->(∀ a b,F a b->G a b)->Paired G l₁ l₂
 | _,_,.nil,_=>.nil
 | _,_,.cons r t,f=>.cons (f _ _ r) (Paired.qO t f)
theorem dA.fV (x:dA P w H h a o) (k:∀ b u,(b=a\/H b=some (.own a))->h.get? b=some u->h'.get? b=some u)
  (ho:∀ b,H b=some (.own a)->H' b=some (.own a)) (ht:∀ b xs,H b=some (.tup xs)->H' b=some (.tup xs)):dA P w H' h' a o:=by
 induction o with
 | lst xs=>obtain ⟨z,its,n,r,e⟩:=x;exact ⟨z,its,n,r,k _ _ (.inl rfl) e⟩
 | tup xs=>obtain ⟨z,its,r,ob,e,c⟩:=x;exact ⟨z,its,r,ob,k _ _ (.inl rfl) e,c⟩
 | dK kvs=>obtain ⟨z,y,vs,r,ob,es,ep,e,c⟩:=x;exact ⟨z,y,vs,r,ob,es,ep,k _ _ (.inl rfl) e,c⟩
 | dT kvs =>
  obtain ⟨z,y,xs,r,ob,es,ep,e,c⟩:=x
  exact ⟨z,y,xs,Paired.qO r fun p q z=>⟨z.1,ht _ _ z.2.1,z.2.2⟩,ob,es,ep,k _ _ (.inl rfl) e,c⟩
 | set S n=>obtain ⟨ob,es,ep,t,e,c⟩:=x;exact ⟨ob,es,ep,t,k _ _ (.inl rfl) e,c⟩
 | ins C dx fs =>
  obtain ⟨d,z,ne,e,mA,⟨od,es,ep,e2,c⟩,r⟩:=x
  exact ⟨ho _ d,z,ne,k _ _ (.inl rfl) e,mA,⟨od,es,ep,k _ _ (.inr d) e2,c⟩,r⟩
 | own y=>obtain ⟨ob,e⟩:=x;exact ⟨ob,k _ _ (.inl rfl) e⟩
 | xd fs=>obtain ⟨mA,⟨od,es,ep,e,c⟩,r⟩:=x;exact ⟨mA,⟨od,es,ep,k _ _ (.inl rfl) e,c⟩,r⟩
 | rng lo hi=>obtain ⟨t,u,v,e⟩:=x;exact ⟨t,u,v,k _ _ (.inl rfl) e⟩
 | frz ob u ih=>obtain ⟨e,q⟩:=x;exact ⟨k _ _ (.inl rfl) e,ih q⟩
 | tbl ps =>
  have e:h.get? a=some { cls:=.none,data:=.fields ps }:=x
  show h'.get? a=some { cls:=.none,data:=.fields ps }
  exact k a _ (.inl rfl) e
 | met f y =>
  have e:h.get? a=some (Zpf (.ref f) (.ref y)):=x
  show h'.get? a=some (Zpf (.ref f) (.ref y))
  exact k a _ (.inl rfl) e
 | ext φ=>obtain ⟨p,⟨o,e⟩,st⟩:=x;exact ⟨st _ _ p fun o q=>k _ _ (.inl rfl) q,⟨o,k _ _ (.inl rfl) e⟩,st⟩
theorem d6.lt (x:d6 P w H h) (e:H a=some o):a<h.objs.size:=(x a o e).lt
theorem d6.fresh (x:d6 P w H h) (e:h.objs.size<=a):H a=none:=by
 cases q:H a with
 | none=>rfl
 | some u=>exact absurd (Zq1 (x.lt q) e) (Zq6 _)
theorem d6.kept (x:d6 P w H h) (k:∀ b u,h.get? b=some u->h'.get? b=some u):d6 P w H h':=fun a o e =>
 (x a o e).fV (fun b u _ q=>k b u q) (fun _ q=>q) fun _ _ q=>q
theorem d6.laid (x:d6 P w H h) (k:∀ b u,h.get? b=some u->h'.get? b=some u) (hp:h.objs.size<=a) (new:dA P w (upd H a o) h' a o):d6 P w (upd H a o) h':=fun b u e=>by
 have hn:=x.fresh hp
 by_cases hb:b=a
 ·subst hb;rw [cq] at e;cases e;exact new
 ·rw [bo hb] at e
  exact (x b u e).fV (fun c v _ q=>k c v q) (fun c q=>by rw [bo (gc q hn)];exact q) fun c xs q=>by rw [bo (gc q hn)];exact q
end
noncomputable def Rd (H:Hp) (a:Addr) (u:HO):Prop:=H a=some u\/∃ o,H a=some (.frz o u)
theorem Rd.of {H:Hp}{a:Addr}{u:HO} (h:H a=some u):Rd H a u:=.inl h
theorem Rd.ok {P:Program}{w:World}{H:Hp}{h:Heap}{a:Addr}{u:HO} (r:Rd H a u) (x:d6 P w H h):dA P w H h a u:=by
 rcases r with r | ⟨o,r⟩
 ·exact x a u r
 ·obtain ⟨_,q⟩:=x a _ r
  exact q
noncomputable def zb:Option HO->Prop
 | some (.lst _)=>True
 | some (.dK _)=>True
 | some (.dT _)=>True
 | some (.set _ _)=>True
 | some (.ins _ _ _)=>True
 | some (.ext _)=>True
 | _=>False
section
variable {P:Program}{w:World}{H:Hp}{h h':Heap}{x e:Addr}{o':HO}
theorem d6.write (ok:d6 P w H h) (mu:zb (H x)) (he:e=x\/H e=some (.own x)) (k:∀ b u,b≠e->h.get? b=some u->h'.get? b=some u) (vM:∃ u,h'.get? e=some u)
  (new:dA P w (upd H x o') h' x o'):d6 P w (upd H x o') h':=fun b u q=>by
 have yN:∀ c y,H c=some (.own y)->c≠x:=fun c y r z=>by subst z;rw [r] at mu;exact mu
 have FE:∀ c xs,H c=some (.tup xs)->c≠x:=fun c xs r z=>by subst z;rw [r] at mu;exact mu
 by_cases hb:b=x
 ·subst hb;rw [cq] at q;cases q;exact new
 ·rw [bo hb] at q
  by_cases hbe:b=e
  ·have q':H b=some (.own x):=by
    rcases he with z | z
    ·exact absurd (hbe.trans z) hb
    ·rw [hbe];exact z
   rw [q] at q';cases q'
   obtain ⟨v,hv⟩:=vM
   exact ⟨v,by rw [hbe];exact hv⟩
  ·refine (ok b u q).fV (fun c v hc r=>k c v ?_ r) (fun c r=>by rw [bo (yN c b r)];exact r) fun c xs r=>by rw [bo (FE c xs r)];exact r
   rcases hc with rfl | hc
   ·exact hbe
   ·rintro rfl
    rcases he with z | z
    ·exact yN c b hc z
    ·rw [hc] at z;cases z;exact hb rfl
end
structure Un (fs ex:List Addr) (H H':Hp) (h h':Heap):Prop where
 keep:∀ b o,h.get? b=some o->H b=none->b ∉ fs->b ∉ ex->h'.get? b=some o
 slot:∀ b o,h.get? b=some o->H b=none->b∈fs->b ∉ ex->∃ sl,h'.get? b=some { o with slots:=sl }
 free:∀ b o,h.get? b=some o->H b=none->b ∉ ex->H' b=none
 there:∀ b o,h.get? b=some o->b ∉ ex->∃ o',h'.get? b=some o'
 eT:∀ b xs,H b=some (.tup xs)->H' b=some (.tup xs)
 d9:∀ b o u,H b=some (.frz o u)->H' b=some (.frz o u)
 eZ:∀ b ps,H b=some (.tbl ps)->∃ more,H' b=some (.tbl (ps ++ more))
section
variable {fs TZ ex Vi:List Addr}{H H1 H2:Hp}{h h1 h2 h':Heap}{a x e:Addr}{o:HO}
theorem Un.any (u:Un fs ex H H1 h h1) {b:Addr}{ob:Obj} (q:h.get? b=some ob) (n:H b=none) (hx:b ∉ ex):∃ sl,h1.get? b=some { ob with slots:=sl }:=by
 by_cases hb:b∈fs
 ·exact u.slot b ob q n hb hx
 ·exact ⟨ob.slots,u.keep b ob q n hb hx⟩
theorem Un.kept (k:∀ b u,h.get? b=some u->h'.get? b=some u):Un fs ex H H h h' :=
 ⟨fun b ob q _ _ _=>k b ob q,fun b ob q _ _ _=>⟨ob.slots,k b ob q⟩,fun _ _ _ n _=>n,fun b ob q _=>⟨ob,k b ob q⟩,fun _ _ q=>q,fun _ _ _ q=>q,fun _ ps q=>⟨#[],by rw [q];simp⟩⟩
theorem Un.refl:Un fs ex H H h h:=Un.kept fun _ _ q=>q
theorem Un.laid (k:∀ b u,h.get? b=some u->h'.get? b=some u) (hp:h.objs.size<=a) (hn:H a=none):Un fs ex H (upd H a o) h h' where
 keep:=fun b u q _ _ _=>k b u q
 slot:=fun b u q _ _ _=>⟨u.slots,k b u q⟩
 free:=fun b u q n _=>by rw [bo (ZqZ (Zq1 (Heap.lt_size q) hp))];exact n
 there:=fun b u q _=>⟨u,k b u q⟩
 eT:=fun b xs q=>by rw [bo (gc q hn)];exact q
 d9:=fun b u xs q=>by rw [bo (gc q hn)];exact q
 eZ:=fun b ps q=>⟨#[],by rw [bo (gc q hn),q];simp⟩
theorem Un.write (mu:zb (H x)) (he:e=x\/H e=some (.own x)) (k:∀ b u,b≠e->h.get? b=some u->h'.get? b=some u) (vM:∃ u,h'.get? e=some u):Un fs ex H (upd H x o) h h':=by
 have hx:∀ b,H b=none->b≠x:=fun b n z=>by subst z;rw [n] at mu;exact mu
 have hb:∀ b,H b=none->b≠e:=fun b n z=>by
  subst z
  rcases he with r | r
  ·exact hx b n r
  ·rw [n] at r;cases r
 have hm:∀ b u,H b=some u->¬ zb (some u)->b≠x:=fun b u q nm z=>by subst z;rw [q] at mu;exact nm mu
 refine ⟨fun b u q n _ _=>k b u (hb b n) q,fun b u q n _ _=>⟨u.slots,k b u (hb b n) q⟩,fun b u q n _=>by rw [bo (hx b n)];exact n,fun b u q _=>?_,
  fun b xs q=>by rw [bo (hm b _ q fun z=>z)];exact q,fun b u xs q=>by rw [bo (hm b _ q fun z=>z)];exact q,fun b ps q=>⟨#[],by rw [bo (hm b _ q fun z=>z),q];simp⟩⟩
 by_cases hbe:b=e
 ·subst hbe;exact vM
 ·exact ⟨u,k b u hbe q⟩
end
noncomputable def BI (h:Heap) (H:Hp):List Addr:=(ZpJ h.objs.size).filter fun a=>(H a).isSome
noncomputable def nS (h:Heap) (H:Hp):Heap:=PySem.W.hideAll h (BI h H)
theorem R1 (h:Heap) (H:Hp):(nS h H).objs.size=h.objs.size:=PySem.W.hideAll_size _ _
theorem Pt {h:Heap}{H:Hp}{b:Addr}{o:Obj} (e:h.get? b=some o) (n:H b=none):(nS h H).get? b=some o :=
 PySem.W.hideAll_get _ e fun hm=>by
  have q:(H b).isSome=true:=(ZqI.mp hm).2
  rw [n] at q;simp at q
theorem R5 {h:Heap}{H:Hp}{b:Addr}{o:Obj} (e:(nS h H).get? b=some o):h.get? b=some o/\H b=none:=by
 have e':h.get? b=some o:=PySem.W.of_hideAll (BI h H) e
 refine ⟨e',?_⟩
 cases q:H b with
 | none=>rfl
 | some x =>
  have hm:b∈BI h H:=ZqI.mpr ⟨Zqh.mpr (Heap.lt_size e'),by simp [q]⟩
  have z:(nS h H).get? b=none:=PySem.W.hideAll_none (BI h H) hm
  rw [z] at e;cases e
noncomputable def SE (g h:Heap) (L:Addr):List (Addr × Obj):=(ZpJ h.objs.size).filterMap fun a=>if a=L\/(g.get? a).isSome=true then none else (h.get? a).map fun o=>(a,o)
noncomputable def bD (g h:Heap) (L d:Addr):List (Addr × Obj):=(SE g h L).filter fun p=>decide (p.1≠d)
structure Mod (K:ZoW) (mg:Str->Option Value) (base:Heap):Prop where
 o9:K.In base
 glob:base.Ns mainGlobals mg
 blt:∃ mb,base.Ns builtinsNs mb/\∀ x:Str,x ≠ "__name__" -> mb x=bootBuiltins x
 nolimit:base.NoLimit
structure Cx where
 prog:Program
 w:World
 K:ZoW
 mg:Str->Option Value
 base:Heap
 A:Around
 N:List Str
 s₀:Shared
 H₀:Hp
 env:Env
 outer:List Env
 stack:List Env
 ex:List Addr
 fn:Str->Bool
 calm:Bool
 pn:List (Addr × Obj)
 xe:Value->Shared->Prop
noncomputable def gg (l:List Env):List Addr:=l.filterMap (·.frame)
noncomputable abbrev Cx.fs (X:Cx):List Addr:=gg X.outer
noncomputable def BN (sc:Scope) (x:Str):Prop:=sc.names.lookup x=some .local\/sc.names.lookup x=some .cell\/sc.names.lookup x=some .free
noncomputable def Loc (sc:Scope) (x:Str):Prop:=sc.names.lookup x=some .local\/sc.names.lookup x=some .cell
noncomputable def Look (env:Env) (h:Heap) (m:Str->Option Value) (x:Str) (u:Value):Prop :=
 (env.kindOf x=some .local/\m x=some u)\/((env.kindOf x=some .cell\/env.kindOf x=some .free)/\∃ c,env.cells.lookup x=some c/\h.IsCell c (some u))
structure Cx.Ok (X:Cx):Prop where
 mod:Mod X.K X.mg X.base
 kind:X.env.scope.kind=.function
 glob:X.env.globals=mainGlobals
 blt:X.env.builtins=builtinsNs
 above:X.s₀.heap.objs.size<=X.env.locals
 inj:∀ x y c,X.env.cells.lookup x=some c->X.env.cells.lookup y=some c->x=y
 has:∀ x,(X.env.kindOf x=some .cell\/X.env.kindOf x=some .free)->∃ c,X.env.cells.lookup x=some c
 kW:∀ x c,X.fn x=true->X.env.cells.lookup x=some c->X.s₀.heap.objs.size<=c
 hd:X.calm=true->X.A.handled=none
 frames:X.A.frames=some X.stack
 lS:X.stack=X.outer\/(X.stack=X.env :: X.outer/\X.env.frame=some X.env.locals)
 nK:∀ b∈X.ex,b≠X.env.locals/\∀ x c,X.env.cells.lookup x=some c->c≠b
 bs:∀ b o,X.base.get? b=some o->X.s₀.heap.get? b=some o/\X.H₀ b=none
 iO:X.base.objs.size<=X.s₀.heap.objs.size
 fz:∀ b o,X.base.get? b=some o->b ∉ X.ex
 fL:∀ b∈X.ex,b ∉ X.fs
 cu:X.s₀.heap.FunFrames X.base X.outer
 jB:∀ b∈X.fs,X.H₀ b=none
structure Inv (X:Cx) (pins:List (Addr × Obj)) (σ:List (Option V)) (H:Hp) (s:Shared):Prop where
 ok:X.Ok
 os:s.os=X.s₀.os
 bare:AllBare s.gens
 base:Un X.fs X.ex X.H₀ H X.s₀.heap s.heap
 loc:∃ m,s.heap.Ns X.env.locals m/\∀ (i:Nat) (x:Str) (v:V),X.N[i]? = some x->σ[i]? = some (some v)->BN X.env.scope x->∃ u,aP v u/\Look X.env s.heap m x u
 cell:∀ x c,X.env.cells.lookup x=some c->∃ v,s.heap.IsCell c v
 free:H X.env.locals=none
 bj:∀ x c,X.env.cells.lookup x=some c->H c=none
 pin:∀ p∈X.pn ++ pins,s.heap.get? p.1=some p.2/\H p.1=none/\p.1≠X.env.locals/\p.1 ∉ X.fs/\∀ v,p.2.data≠.cell v
 aB:d6 X.prog X.w H s.heap
 len:σ.length=X.N.length
section
variable {X:Cx}{pins:List (Addr × Obj)}{σ:List (Option V)}{H H':Hp}{s:Shared}{h':Heap}
theorem Cx.Ok.FV (ok:X.Ok) {b:Addr}{o:Obj} (e:X.base.get? b=some o):b ∉ X.fs:=fun hb=>by
 have:=(ok.cu.mem hb).1
 rw [e] at this;cases this
theorem Inv.bs (I:Inv X pins σ H s):∀ b o,X.base.get? b=some o->s.heap.get? b=some o/\H b=none:=fun b o e =>
 ⟨I.base.keep b o (I.ok.bs b o e).1 (I.ok.bs b o e).2 (I.ok.FV e) (I.ok.fz b o e),I.base.free b o (I.ok.bs b o e).1 (I.ok.bs b o e).2 (I.ok.fz b o e)⟩
theorem Inv.bk (I:Inv X pins σ H s):∀ b o,X.base.get? b=some o->s.heap.get? b=some o:=fun b o e=>(I.bs b o e).1
theorem Inv.mod (I:Inv X pins σ H s):Mod X.K X.mg X.base:=I.ok.mod
theorem Inv.en (I:Inv X pins σ H s):X.K.In s.heap:=I.ok.mod.o9.keeps I.bk
theorem Inv.nolimit (I:Inv X pins σ H s):s.heap.NoLimit:=I.ok.mod.nolimit.keeps I.bk
theorem Inv.fr (I:Inv X pins σ H s):∃ m,Fr X.base X.env.locals s.heap m :=
 let ⟨m,hn,_⟩:=I.loc
 ⟨m,hn,I.bk,Zq0 I.ok.iO I.ok.above⟩
theorem Inv.lt (I:Inv X pins σ H s):X.env.locals<s.heap.objs.size:=let ⟨_,hn,_⟩:=I.loc;hn.lt
theorem Inv.sz (I:Inv X pins σ H s):X.s₀.heap.objs.size<=s.heap.objs.size:=Zq0 I.ok.above (Zq7 I.lt)
theorem Inv.Hm (I:Inv X pins σ H s) {a:Addr} (h:s.heap.objs.size<=a):a ∉ X.fs:=fun hb=>by
 obtain ⟨_,o,ho,_⟩:=I.ok.cu.mem hb
 exact absurd (Zq1 (Heap.lt_size ho) (Zq0 I.sz h)) (Zq6 _)
theorem Inv.nQ (I:Inv X pins σ H s):∀ x c,X.env.cells.lookup x=some c->c≠X.env.locals:=fun x c e z=>by
 obtain ⟨v,o,ho,hd⟩:=I.cell x c e
 obtain ⟨m,⟨o',es,ep,gP,hd',_⟩,_⟩:=I.loc
 rw [z,gP] at ho;cases ho;rw [hd'] at hd;cases hd
theorem Inv.cu (I:Inv X pins σ H s):s.heap.FunFrames X.base X.outer:=by
 have all:∀ (l:List Env),(∀ b∈gg l,b∈X.fs)->X.s₀.heap.FunFrames X.base l->s.heap.FunFrames X.base l:=by
  intro l
  induction l with
  | nil=>intro _ _;trivial
  | cons env r ih =>
   intro hs hl
   obtain ⟨hk,⟨L,o,hf,hn,ho,hd⟩,hr⟩:=hl
   have hL:L∈X.fs:=hs L (by unfold gg;rw [Zqm,hf];exact ZpZ)
   obtain ⟨sl,e⟩:=I.base.slot L o ho (I.ok.jB L hL) hL fun z=>I.ok.fL L z hL
   exact ⟨hk,⟨L,_,hf,hn,e,hd⟩,ih (fun b hb=>hs b (by unfold gg;rw [Zqm,hf];exact ZpR _ hb)) hr⟩
 exact all X.outer (fun _ hb=>hb) I.ok.cu
theorem Inv.stack (I:Inv X pins σ H s):s.heap.FunFrames X.base X.stack:=by
 rcases I.ok.lS with e | ⟨e,hf⟩
 ·rw [e];exact I.cu
 ·rw [e]
  obtain ⟨m,hn,_⟩:=I.loc
  refine .cons (by rw [I.ok.kind];decide) hf hn ?_ I.cu
  exact Heap.get?_none_of_le (Zq0 I.ok.iO I.ok.above)
theorem Inv.jZ (I:Inv X pins σ H s):∀ b∈gg X.stack,b∈X.env.locals :: X.fs:=fun b hb=>by
 rcases I.ok.lS with e | ⟨e,hf⟩
 ·rw [e] at hb;exact ZpR _ hb
 ·rw [e] at hb
  unfold gg at hb
  rw [Zqm,hf] at hb
  exact hb
theorem Inv.fG (I:Inv X pins σ H s):∀ b∈gg X.stack,H b=none:=fun b hb=>by
 rcases ZpE.mp (I.jZ b hb) with e | hb
 ·rw [e];exact I.free
 ·obtain ⟨_,o,ho,_⟩:=I.ok.cu.mem hb
  exact I.base.free b o ho (I.ok.jB b hb) fun z=>I.ok.fL b z hb
theorem Inv.step {g':Array GenState}{t':Nat}{d':Drawn}{ch:List Addr} (I:Inv X pins σ H s)
  (jk:∀ b∈ch,(b∈X.ex\/X.s₀.heap.objs.size<=b)/\b≠X.env.locals/\(∀ x c,X.env.cells.lookup x=some c->c≠b)/\∀ p∈X.pn ++ pins,p.1≠b)
  (keep:∀ b o,b≠X.env.locals->b ∉ X.fs->b ∉ ch->s.heap.get? b=some o->H b=none->h'.get? b=some o)
  (slot:∀ b o,b≠X.env.locals->b∈X.fs->b ∉ ch->s.heap.get? b=some o->H b=none->∃ sl,h'.get? b=some { o with slots:=sl }) (free:∀ b o,b ∉ ch->s.heap.get? b=some o->H b=none->H' b=none)
  (there:∀ b o,b ∉ ch->s.heap.get? b=some o->∃ o',h'.get? b=some o')
  (eT:∀ b xs,H b=some (.tup xs)->H' b=some (.tup xs)) (d9:∀ b o u,H b=some (.frz o u)->H' b=some (.frz o u)) (eZ:∀ b ps,H b=some (.tbl ps)->∃ more,H' b=some (.tbl (ps ++ more)))
  (ns:∀ m,s.heap.Ns X.env.locals m->h'.Ns X.env.locals m) (aB:d6 X.prog X.w H' h') (hg:AllBare g') :
  Inv X pins σ H' { s with heap:=h',gens:=g',drawn:=d',toks:=t' }:=by
 have L5:∀ b o,X.s₀.heap.get? b=some o->b≠X.env.locals:=fun b o e=>ZqZ (Zq1 (Heap.lt_size e) I.ok.above)
 have vQ:∀ b o,X.s₀.heap.get? b=some o->b ∉ X.ex->b ∉ ch:=fun b o e hx hb=>by
  rcases (jk b hb).1 with z | z
  ·exact hx z
  ·exact absurd (Zq1 (Heap.lt_size e) z) (Zq6 _)
 have cellK:∀ x c,X.env.cells.lookup x=some c->∀ v,s.heap.IsCell c v->h'.IsCell c v:=fun x c e v ⟨o,ho,hd⟩=>by
  have pE:c ∉ ch:=fun z=>(jk c z).2.2.1 x c e rfl
  by_cases hc:c∈X.fs
  ·obtain ⟨sl,q⟩:=slot c o (I.nQ x c e) hc pE ho (I.bj x c e)
   exact ⟨_,q,hd⟩
  ·exact ⟨o,keep c o (I.nQ x c e) hc pE ho (I.bj x c e),hd⟩
 refine ⟨I.ok,I.os,hg,⟨fun b o e n hb hx=>?_,fun b o e n hb hx=>?_,fun b o e n hx=>?_,fun b o e hx=>?_,fun b xs e=>eT b xs (I.base.eT b xs e),fun b o xs e=>d9 b o xs (I.base.d9 b o xs e),fun b ps e=>?_⟩,?_,fun x c e=>?_,?_,fun x c e=>?_,fun p hp=>?_,aB,I.len⟩
 ·exact keep b o (L5 b o e) hb (vQ b o e hx) (I.base.keep b o e n hb hx) (I.base.free b o e n hx)
 ·obtain ⟨sl,e1⟩:=I.base.slot b o e n hb hx
  obtain ⟨sl',e2⟩:=slot b _ (L5 b o e) hb (vQ b o e hx) e1 (I.base.free b o e n hx)
  exact ⟨sl',e2⟩
 ·obtain ⟨o',e1⟩:=I.base.there b o e hx
  exact free b o' (vQ b o e hx) e1 (I.base.free b o e n hx)
 ·obtain ⟨o',e1⟩:=I.base.there b o e hx
  exact there b o' (vQ b o e hx) e1
 ·obtain ⟨m1,e1⟩:=I.base.eZ b ps e
  obtain ⟨m2,e2⟩:=eZ b _ e1
  exact ⟨m1 ++ m2,by rw [e2,Array.append_assoc]⟩
 ·obtain ⟨m,hn,hl⟩:=I.loc
  refine ⟨m,ns m hn,fun i x v e1 e2 e3=>?_⟩
  obtain ⟨u,r,l⟩:=hl i x v e1 e2 e3
  refine ⟨u,r,?_⟩
  rcases l with l | ⟨k,c,e,z⟩
  ·exact .inl l
  ·exact .inr ⟨k,c,e,cellK x c e _ z⟩
 ·obtain ⟨v,z⟩:=I.cell x c e
  exact ⟨v,cellK x c e v z⟩
 ·obtain ⟨m,⟨o,_,_,ho,_⟩,_⟩:=I.loc
  exact free _ o (fun z=>(jk _ z).2.1 rfl) ho I.free
 ·obtain ⟨v,o,ho,hd⟩:=I.cell x c e
  exact free c o (fun z=>(jk c z).2.2.1 x c e rfl) ho (I.bj x c e)
 ·obtain ⟨e,n,ne,nf,d⟩:=I.pin p hp
  have pE:p.1 ∉ ch:=fun z=>(jk p.1 z).2.2.2 p hp rfl
  exact ⟨keep p.1 p.2 ne nf pE e n,free p.1 p.2 pE e n,ne,nf,d⟩
theorem Inv.un {t':Nat} (I:Inv X pins σ H s) (u:Un X.fs [] H H' s.heap h') (aB:d6 X.prog X.w H' h'):Inv X pins σ H' { s with heap:=h',toks:=t' }:=by
 obtain ⟨m,⟨o,es,ep,ho,r⟩,_⟩:=id I.loc
 obtain ⟨sl,hL⟩:=u.any ho I.free (by simp)
 exact I.step (g':=s.gens) (d':=s.drawn) (ch:=[]) (fun _ z=>nomatch z) (fun b o _ hb _ e n=>u.keep b o e n hb (by simp)) (fun b o _ hb _ e n=>u.slot b o e n hb (by simp)) (fun b o _ e n=>u.free b o e n (by simp)) (fun b o _ e=>u.there b o e (by simp)) u.eT u.d9 u.eZ (fun m' hm=>by
  obtain ⟨o',es',ep',gP,r'⟩:=hm
  rw [ho] at gP;cases gP
  exact ⟨_,es',ep',hL,r'⟩) aB I.bare
theorem Inv.call {g':Array GenState}{t':Nat}{d':Drawn}{ch:List Addr} (I:Inv X pins σ H s) (u:Un (gg X.stack) ch H H' s.heap h') (aB:d6 X.prog X.w H' h') (hg:AllBare g')
  (jk:∀ b∈ch,(b∈X.ex\/X.s₀.heap.objs.size<=b)/\b≠X.env.locals/\(∀ x c,X.env.cells.lookup x=some c->c≠b)/\∀ p∈X.pn ++ pins,p.1≠b) :
  Inv X pins σ H' { s with heap:=h',gens:=g',drawn:=d',toks:=t' }:=by
 obtain ⟨m,⟨o,es,ep,ho,r⟩,_⟩:=id I.loc
 obtain ⟨sl,hL⟩:=u.any ho I.free fun z=>(jk _ z).2.1 rfl
 exact I.step (ch:=ch) jk (fun b o hL hb hc e n=>u.keep b o e n (fun z=>(ZpE.mp (I.jZ b z)).elim hL hb) hc) (fun b o _ _ hc e n=>u.any e n hc) (fun b o hc e n=>u.free b o e n hc) (fun b o hc e=>u.there b o e hc) u.eT u.d9 u.eZ (fun m' hm=>by
  obtain ⟨o',es',ep',gP,r'⟩:=hm
  rw [ho] at gP;cases gP
  exact ⟨_,es',ep',hL,r'⟩) aB hg
theorem Inv.turned {t':Nat}{it:Addr} (I:Inv X pins σ H s) (k:∀ b o,b≠it->s.heap.get? b=some o->h'.get? b=some o) (hn:H it=none) (hL:it≠X.env.locals)
  (h1:it∈X.ex\/X.s₀.heap.objs.size<=it) (h2:∀ x c,X.env.cells.lookup x=some c->c≠it) (h3:∀ p∈X.pn ++ pins,p.1≠it):Inv X pins σ H { s with heap:=h',toks:=t' }:=by
 have pX:∀ b u,H b=some u->b≠it:=fun b u e z=>by rw [z,hn] at e;cases e
 refine I.step (g':=s.gens) (d':=s.drawn) (ch:=[it]) (fun b hb=>?_) (fun b o _ _ hc e _=>k b o (fun z=>hc (by simp [z])) e) (fun b o _ _ hc e _=>⟨o.slots,k b o (fun z=>hc (by simp [z])) e⟩) (fun _ _ _ _ n=>n)
  (fun b o hc e=>⟨o,k b o (fun z=>hc (by simp [z])) e⟩) (fun _ _ e=>e) (fun _ _ _ e=>e) (fun b ps e=>⟨#[],by rw [e];simp⟩) (fun m hm=>?_) (fun b u e=>?_) I.bare
 ·have e:b=it:=by simpa using hb
  subst e
  exact ⟨h1,hL,h2,h3⟩
 ·obtain ⟨o,es,ep,ho,r⟩:=hm
  exact ⟨o,es,ep,k _ o (Ne.symm hL) ho,r⟩
 ·refine (I.aB b u e).fV (fun c v hc q=>k c v ?_ q) (fun _ q=>q) fun _ _ q=>q
  rcases hc with z | z
  ·rw [z];exact pX b u e
  ·exact pX c _ z
theorem Inv.tok (I:Inv X pins σ H s) (t:Nat):Inv X pins σ H { s with toks:=t }:=I.un (h':=s.heap) (t':=t) Un.refl I.aB
theorem Inv.kept {t':Nat} (I:Inv X pins σ H s) (k:∀ b u,s.heap.get? b=some u->h'.get? b=some u):Inv X pins σ H { s with heap:=h',toks:=t' }:=I.un (Un.kept k) (I.aB.kept k)
theorem Inv.laid {a:Addr}{o:HO}{t':Nat} (I:Inv X pins σ H s) (k:∀ b u,s.heap.get? b=some u->h'.get? b=some u) (hp:s.heap.objs.size<=a) (new:dA X.prog X.w (upd H a o) h' a o) :
  Inv X pins σ (upd H a o) { s with heap:=h',toks:=t' }:=I.un (Un.laid k hp (I.aB.fresh hp)) (I.aB.laid k hp new)
theorem Inv.write {x e:Addr}{o:HO}{t':Nat} (I:Inv X pins σ H s) (mu:zb (H x)) (he:e=x\/H e=some (.own x)) (k:∀ b u,b≠e->s.heap.get? b=some u->h'.get? b=some u) (vM:∃ u,h'.get? e=some u)
  (new:dA X.prog X.w (upd H x o) h' x o):Inv X pins σ (upd H x o) { s with heap:=h',toks:=t' }:=I.un (Un.write mu he k vM) (I.aB.write mu he k vM new)
theorem Inv.kf {gw:List (Addr × Obj)} (I:Inv X pins σ H s) (h:∀ p∈gw,s.heap.get? p.1=some p.2/\H p.1=none/\p.1≠X.env.locals/\p.1 ∉ X.fs/\∀ v,p.2.data≠.cell v):Inv X gw σ H s :=
 ⟨I.ok,I.os,I.bare,I.base,I.loc,I.cell,I.free,I.bj,fun p hp=>(ZpM.mp hp).elim (fun z=>I.pin p (Zqb _ z)) (h p),I.aB,I.len⟩
theorem D2 {N:List Str} (hN:N.Nodup) {i j:Nat}{x:Str} (a:N[i]? = some x) (b:N[j]? = some x):i=j:=by
 obtain ⟨h1,e1⟩:=ZpL.mp a
 obtain ⟨h2,e2⟩:=ZpL.mp b
 exact (List.getElem_inj hN).mp (e1.trans e2.symm)
theorem Hw {M:Model}{A:Around}{E:Value->Shared->Prop}{i:Nat}{x:Str}{v:V}{u:Value}{Q:Unit->Shared->Prop} (I:Inv X pins σ H s) (hN:X.N.Nodup) (hi:X.N[i]? = some x) (hx:Loc X.env.scope x) (r:aP v u)
  (h:∀ s',Inv X pins (σ.set i (some v)) H s'->(∃ a,Heap.SameBut a s.heap s'.heap/\(a=X.env.locals\/X.env.cells.lookup x=some a))->Q () s') (hf:X.fn x=true\/X.env.scope.names.lookup x=some .local:=by first | exact .inl rfl | exact .inr rfl | assumption):wpAny M A (storeName X.env x u) Q E s:=by
 obtain ⟨m,hn,hl⟩:=id I.loc
 have rM:(X.env.scope.kind == .class || (X.env.scope.kind == .module && X.env.locals != X.env.globals))=false:=by rw [I.ok.kind];rfl
 have KN:i<σ.length:=by rw [I.len];exact (ZpL.mp hi).1
 have nQ:=I.nQ
 have tracked:∀ {a:Addr}{h':Heap},(∃ o,s.heap.get? a=some o/\H a=none)->Heap.SameBut a s.heap h'->d6 X.prog X.w H h':=fun {a h'} ha hs b ob e=>by
  obtain ⟨_,_,iH⟩:=ha
  refine (I.aB b ob e).fV (fun c w' hc q=>(hs.2 c ?_).trans q) (fun _ q=>q) fun _ _ q=>q
  rintro rfl
  rcases hc with rfl | hc
  ·rw [iH] at e;cases e
  ·rw [iH] at hc;cases hc
 rcases hx with hk | hk
 ·refine wpAny_storeName_local hk hn (fun h' hn' hs=>?_) rM
  obtain ⟨oL,_,_,xE,_⟩:=id hn
  refine h _ ⟨I.ok,I.os,I.bare,⟨fun b o e n hb hx=>?_,fun b o e n hb hx=>?_,I.base.free,fun b o e hx=>?_,I.base.eT,I.base.d9,I.base.eZ⟩,⟨_,hn',fun j y v' e1 e2 e3=>?_⟩,fun y c e=>?_,I.free,I.bj,fun p hp=>?_,tracked ⟨oL,xE,I.free⟩ hs,by simpa using I.len⟩ ⟨_,hs,.inl rfl⟩
  ·exact (hs.2 b (ZqZ (Zq1 (Heap.lt_size e) I.ok.above))).trans (I.base.keep b o e n hb hx)
  ·obtain ⟨sl,e1⟩:=I.base.slot b o e n hb hx
   exact ⟨sl,(hs.2 b (ZqZ (Zq1 (Heap.lt_size e) I.ok.above))).trans e1⟩
  ·obtain ⟨o',e1⟩:=I.base.there b o e hx
   exact ⟨o',(hs.2 b (ZqZ (Zq1 (Heap.lt_size e) I.ok.above))).trans e1⟩
  ·by_cases hj:j=i
   ·subst hj
    rw [hi] at e1;cases e1
    rw [Zqn KN] at e2
    cases e2
    exact ⟨u,r,.inl ⟨hk,by simp⟩⟩
   ·rw [ZqJ (Ne.symm hj)] at e2
    obtain ⟨u',r',q⟩:=hl j y v' e1 e2 e3
    refine ⟨u',r',?_⟩
    rcases q with ⟨k,e⟩ | ⟨k,c,e,z⟩
    ·refine .inl ⟨k,?_⟩
     have:y≠x:=fun e=>hj (D2 hN e1 (e ▸ hi))
     simp [this,e]
    ·exact .inr ⟨k,c,e,z.sameBut hs (nQ y c e)⟩
  ·obtain ⟨w',z⟩:=I.cell y c e
   exact ⟨w',z.sameBut hs (nQ y c e)⟩
  ·obtain ⟨e,n,ne,nf,d⟩:=I.pin p hp
   exact ⟨(hs.2 p.1 ne).trans e,n,ne,nf,d⟩
 ·have C5:X.fn x=true:=by
   rcases hf with z | z
   ·exact z
   ·rw [z] at hk;cases hk
  obtain ⟨c,hc⟩:=I.ok.has x (.inl hk)
  obtain ⟨w',z⟩:=I.cell x c hc
  refine wpAny_storeName_cell I.ok.kind hk hc z (fun h' hc' hs=>?_)
  obtain ⟨oc,hoc,hocd⟩:=id z
  refine h { s with heap:=h' } ⟨I.ok,I.os,I.bare,⟨fun b o e n hb hx=>?_,fun b o e n hb hx=>?_,I.base.free,fun b o e hx=>?_,I.base.eT,I.base.d9,I.base.eZ⟩,⟨m,hn.sameBut hs (Ne.symm (nQ x c hc)),fun j y v' e1 e2 e3=>?_⟩,fun y c' e=>?_,I.free,I.bj,fun p hp=>?_,tracked ⟨oc,hoc,I.bj x c hc⟩ hs,by simpa using I.len⟩ ⟨c,hs,.inr hc⟩
  ·exact (hs.2 b (ZqZ (Zq1 (Heap.lt_size e) (I.ok.kW x c C5 hc)))).trans (I.base.keep b o e n hb hx)
  ·obtain ⟨sl,e1⟩:=I.base.slot b o e n hb hx
   exact ⟨sl,(hs.2 b (ZqZ (Zq1 (Heap.lt_size e) (I.ok.kW x c C5 hc)))).trans e1⟩
  ·obtain ⟨o',e1⟩:=I.base.there b o e hx
   exact ⟨o',(hs.2 b (ZqZ (Zq1 (Heap.lt_size e) (I.ok.kW x c C5 hc)))).trans e1⟩
  ·by_cases hj:j=i
   ·subst hj
    rw [hi] at e1;cases e1
    rw [Zqn KN] at e2
    cases e2
    exact ⟨u,r,.inr ⟨.inl hk,c,hc,hc'⟩⟩
   ·rw [ZqJ (Ne.symm hj)] at e2
    obtain ⟨u',r',q⟩:=hl j y v' e1 e2 e3
    refine ⟨u',r',?_⟩
    rcases q with q | ⟨k,c',e,z'⟩
    ·exact .inl q
    ·refine .inr ⟨k,c',e,z'.sameBut hs ?_⟩
     rintro rfl
     exact hj (D2 hN e1 (I.ok.inj _ _ _ e hc ▸ hi))
  ·by_cases hcc:c'=c
   ·subst hcc;exact ⟨_,hc'⟩
   ·obtain ⟨w2,z2⟩:=I.cell y c' e
    exact ⟨w2,z2.sameBut hs hcc⟩
  ·obtain ⟨e,n,ne,nf,d⟩:=I.pin p hp
   refine ⟨(hs.2 p.1 ?_).trans e,n,ne,nf,d⟩
   intro q
   rw [q,hoc] at e
   have q':oc=p.2:=Option.some.inj e
   exact d w' (by rw [<- q'];exact hocd)
theorem Ce {M:Model}{A:Around}{E:Value->Shared->Prop}{i:Nat}{x:Str}{v:V}{u:Value}{Q:Unit->Shared->Prop} (I:Inv X pins σ H s) (hN:X.N.Nodup) (hi:X.N[i]? = some x) (hx:Loc X.env.scope x) (r:aP v u)
  (h:∀ s',Inv X pins (σ.set i (some v)) H s'->Q () s') (hf:X.fn x=true\/X.env.scope.names.lookup x=some .local:=by first | exact .inl rfl | exact .inr rfl | assumption):wpAny M A (storeName X.env x u) Q E s :=
 Hw I hN hi hx r (fun s' I' _=>h s' I') hf
theorem Inv.m8 {s':Shared}{ch:List Addr} (I:Inv X pins σ H s) (ho:s'.os=s.os) (u:Un (gg X.stack) ch H H' s.heap s'.heap) (aB:d6 X.prog X.w H' s'.heap) (hg:AllBare s'.gens)
  (jk:∀ b∈ch,(b∈X.ex\/X.s₀.heap.objs.size<=b)/\b≠X.env.locals/\(∀ x c,X.env.cells.lookup x=some c->c≠b)/\∀ p∈X.pn ++ pins,p.1≠b):Inv X pins σ H' s':=by
 obtain ⟨h',g',d',t',o'⟩:=s'
 have e:o'=s.os:=ho
 subst e
 exact I.call (g':=g') (t':=t') (d':=d') u aB hg jk
end
noncomputable abbrev XK:=Value->Option Addr->Hp->Prop
noncomputable abbrev St:=List (Option V)
noncomputable abbrev VK:=V->Hp->Prop
noncomputable abbrev TE:=St->Hp->VK->Prop
noncomputable abbrev TT:=St->Hp->(Bool->Hp->Prop)->Prop
noncomputable abbrev TA:=St->Hp->(List V->Hp->Prop)->Prop
structure Ends where
 nx:St->Hp->Prop
 rt:VK
 bk:St->Hp->Prop:=fun _ _=>False
 ct:St->Hp->Prop:=fun _ _=>False
noncomputable abbrev TS:=Ends->St->Hp->Prop
noncomputable def EP (X:Cx) (pins:List (Addr × Obj)) (σ:St) (Q:VK) (u:Value) (s':Shared):Prop:=∃ v H',Inv X pins σ H' s'/\aP v u/\Q v H'
noncomputable def TP (X:Cx) (pins:List (Addr × Obj)) (σ:St) (Q:Bool->Hp->Prop) (b:Bool) (s':Shared):Prop:=∃ H',Inv X pins σ H' s'/\Q b H'
noncomputable def AP (X:Cx) (pins:List (Addr × Obj)) (σ:St) (Q:List V->Hp->Prop) (us:List Value) (s':Shared):Prop:=∃ vs H',Inv X pins σ H' s'/\Vals vs us/\Q vs H'
noncomputable def SP (X:Cx) (pins:List (Addr × Obj)) (D:Ends) (f:Flow) (s':Shared):Prop :=
 match f with
 | .next=>∃ σ' H',Inv X pins σ' H' s'/\D.nx σ' H'
 | .brk=>∃ σ' H',Inv X pins σ' H' s'/\D.bk σ' H'
 | .cont=>∃ σ' H',Inv X pins σ' H' s'/\D.ct σ' H'
 | .ret u=>∃ v σ' H',Inv X pins σ' H' s'/\aP v u/\D.rt v H'
noncomputable def PE (X:Cx) (e:Expr) (t:TE):Prop :=
 ∀ (pins:List (Addr × Obj)) (s:Shared) (σ:St) (H:Hp) (Q:VK),Inv X pins σ H s->t σ H Q->wpAny (model X.prog X.w) X.A (eval e X.env) (EP X pins σ Q) X.xe s
noncomputable def PT (X:Cx) (e:Expr) (t:TT):Prop :=
 ∀ (pins:List (Addr × Obj)) (s:Shared) (σ:St) (H:Hp) (Q:Bool->Hp->Prop),Inv X pins σ H s->t σ H Q->wpAny (model X.prog X.w) X.A (isTrue e X.env (eval e X.env)) (TP X pins σ Q) X.xe s
noncomputable def PW (X:Cx) (e:Expr) (t:TT):Prop :=
 ∀ (jK:Sem Value) (pins:List (Addr × Obj)) (s:Shared) (σ:St) (H:Hp) (Q:Bool->Hp->Prop),Inv X pins σ H s->t σ H Q->wpAny (model X.prog X.w) X.A (isTrue e X.env jK) (TP X pins σ Q) X.xe s
theorem PW.pt {X:Cx}{e:Expr}{t:TT} (h:PW X e t):PT X e t:=h _
noncomputable def PA (X:Cx) (es:List Expr) (t:TA):Prop :=
 ∀ (pos:Pos) (pins:List (Addr × Obj)) (s:Shared) (σ:St) (H:Hp) (Q:List V->Hp->Prop),Inv X pins σ H s->t σ H Q->wpAny (model X.prog X.w) X.A (spliced (backTo pos (starEach es X.env))) (AP X pins σ Q) X.xe s
noncomputable def PS (X:Cx) (st:Stmt) (t:TS):Prop :=
 ∀ (pins:List (Addr × Obj)) (s:Shared) (σ:St) (H:Hp) (D:Ends),Inv X pins σ H s->t D σ H->wpAny (model X.prog X.w) X.A (exec st X.env) (SP X pins D) X.xe s
noncomputable def gy (X:Cx) (st:List Stmt) (t:TS):Prop :=
 ∀ (pins:List (Addr × Obj)) (s:Shared) (σ:St) (H:Hp) (D:Ends),Inv X pins σ H s->t D σ H->wpAny (model X.prog X.w) X.A (execs st X.env) (SP X pins D) X.xe s
theorem aE {α:Type}{t:Sem α}{Q Q':α->Shared->Prop}{M:Model}{A:Around}{E:Value->Shared->Prop}{s:Shared} (h:wpAny M A t Q E s) (hQ:∀ a s,Q a s->Q' a s):wpAny M A t Q' E s:=wpAny_mono h hQ fun _ _ x=>x
section
variable {X:Cx}
noncomputable def A2 (i:Nat):TE:=fun σ H Q=>∃ v,σ[i]? = some (some v)/\Q v H
noncomputable def tC (v:V):TE:=fun _ H Q=>Q v H
theorem sx {i:Nat}{x:Str}{pos:Pos} (hN:X.N[i]? = some x) (hv:BN X.env.scope x) (hd:(x == ("__debug__" : Str))=false:=by decide) (gm:(x == ("__classdict__" : Str))=false:=by decide):PE X (.Name x pos) (A2 i):=by
 intro pins s σ H Q I h
 obtain ⟨v,e,h⟩:=h
 obtain ⟨m,hn,hl⟩:=I.loc
 obtain ⟨u,r,l⟩:=hl i x v hN e hv
 have fin:EP X pins σ Q u s:=⟨v,H,I,r,h⟩
 rcases l with ⟨hk,hm⟩ | ⟨hk,c,hc,hcell⟩
 ·exact wpAny_Name (wpAny_loadName_local I.ok.kind hk hn hm fin) hd
 ·rcases hk with hk | hk
  ·exact wpAny_Name (wpAny_loadName_cell I.ok.kind hk hc hcell fin) hd
  ·exact wpAny_Name (wpAny_loadName_free I.ok.kind hk hc hcell fin gm) hd
theorem ak {i j pos}:PE X (.Constant (.int i) j pos) (tC (.int i)):=fun _ _ _ H _ I h=>wpAny_Constant_int ⟨.int i,H,I.tok _,⟨_,rfl⟩,h⟩
theorem uL {b j pos}:PE X (.Constant (.bool b) j pos) (tC (.bl b)):=fun _ _ _ H _ I h=>Constant_bool ⟨.bl b,H,I,rfl,h⟩
theorem tN {j pos}:PE X (.Constant .none j pos) (tC .non):=fun _ _ _ H _ I h=>Constant_none ⟨.non,H,I,rfl,h⟩
theorem aM {x j pos}:PE X (.Constant (.str x) j pos) (tC (.str x)):=fun _ _ _ H _ I h=>Calls.Constant_str ⟨.str x,H,I.tok _,⟨_,rfl⟩,h⟩
noncomputable def Gl (X:Cx) (x:Str):Prop:=X.env.kindOf x=some .globalImplicit
theorem pO {E:Value->Shared->Prop}{pins:List (Addr × Obj)}{s:Shared}{σ:St}{H:Hp}{x:Str}{u:Value}{pos:Pos}{Q:Value->Shared->Prop} (I:Inv X pins σ H s) (hg:Gl X x) (hm:X.mg x=some u) (h:Q u s)
  (hd:(x == ("__debug__" : Str))=false:=by decide):wpAny (model X.prog X.w) X.A (eval (.Name x pos) X.env) Q E s :=
 Calls.Name_function_global I.ok.kind hg (Calls.loadGlobal_global (by rw [I.ok.glob];exact I.mod.glob.keeps I.bk) hm h) hd
theorem ou {E:Value->Shared->Prop}{pins:List (Addr × Obj)}{s:Shared}{σ:St}{H:Hp}{x:Str}{u:Value}{pos:Pos}{Q:Value->Shared->Prop} (I:Inv X pins σ H s) (hg:Gl X x) (hm:X.mg x=none) (hv:bootBuiltins x=some u) (h:Q u s)
  (hn:x ≠ "__name__":=by decide) (hd:(x == ("__debug__" : Str))=false:=by decide):wpAny (model X.prog X.w) X.A (eval (.Name x pos) X.env) Q E s:=by
 obtain ⟨mb,h1,h2⟩:=I.mod.blt
 exact Calls.Name_function_global I.ok.kind hg (Calls.loadGlobal_builtin (by rw [I.ok.glob];exact I.mod.glob.keeps I.bk) hm (by rw [I.ok.blt];exact h1.keeps I.bk) ((h2 x hn).trans hv) h) hd
theorem mr {x:Str}{v:V}{u:Value}{pos:Pos} (hg:Gl X x) (hm:X.mg x=some u) (r:aP v u) (hd:(x == ("__debug__" : Str))=false:=by decide):PE X (.Name x pos) (tC v) :=
 fun _ _ _ H _ I h=>pO I hg hm ⟨v,H,I,r,h⟩ hd
theorem EI {x:Str}{v:V}{u:Value}{pos:Pos} (hg:Gl X x) (hm:X.mg x=none) (hv:bootBuiltins x=some u) (r:aP v u) (hn:x ≠ "__name__":=by decide) (hd:(x == ("__debug__" : Str))=false:=by decide):PE X (.Name x pos) (tC v) :=
 fun _ _ _ H _ I h=>ou I hg hm hv ⟨v,H,I,r,h⟩ hn hd
variable {a b:Expr}{ta tb:TE}{pos:Pos}
noncomputable def PC (X:Cx) (op:CmpOp) (a b:Expr) (t:TE):Prop :=
 ∀ (pins:List (Addr × Obj)) (s:Shared) (σ:St) (H:Hp) (Q:VK),Inv X pins σ H s->t σ H Q ->
  wpAny (model X.prog X.w) X.A (eval a X.env) (fun v s₁=>wpAny (model X.prog X.w) X.A (eval b X.env) (fun u s₂=>wpAny (model X.prog X.w) X.A (compareOp op v u) (EP X pins σ Q) X.xe s₂) X.xe s₁) X.xe s
theorem Fc (b:Expr) {op:CmpOp} (h:op≠.In) (h2:op≠.NotIn):behindInMarks op b=false:=by
 have e1:(op == CmpOp.In)=false:=by cases op <;> first | rfl | exact absurd rfl h
 have e2:(op == CmpOp.NotIn)=false:=by cases op <;> first | rfl | exact absurd rfl h2
 cases b <;> simp [behindInMarks,e1,e2]
noncomputable def tB (t:TE):TT:=fun σ H Q=>t σ H fun x H1=>∃ c,x=.bl c/\Q c H1
theorem qw {op:CmpOp}{t:TE} (h:PC X op a b t) (h1:behindInMarks op b=false:=by first | exact Fc _ (by decide) (by decide) | rfl):PE X (.Compare a [op] [b] pos) t:=fun pins s σ H Q I hw=>wpAny_Compare1 (h pins s σ H Q I hw) h1
theorem qX {op:CmpOp}{t:TE} (h:PC X op a b t) (h1:behindInMarks op b=false:=by first | exact Fc _ (by decide) (by decide) | rfl):PT X (.Compare a [op] [b] pos) (tB t):=by
 intro pins s σ H Q I hw
 refine wpAny_isTrue_Compare1 (aE (h pins s σ H _ I hw) fun v s1 h1=>aE h1 fun u s2 h2=>aE h2 fun c s3 ⟨x,H1,I1,r1,q1⟩=>?_) h1
 obtain ⟨d,rfl,q⟩:=q1
 cases r1
 exact wpAny_truthy_bool ⟨H1,I1,q⟩
variable {tA qF:TT}{bD:List Expr}
noncomputable def pv (t u:TT):TT:=fun σ H Q=>t σ H fun c H1=>if c=true then u σ H1 Q else Q false H1
noncomputable def lC (t u:TT):TT:=fun σ H Q=>t σ H fun c H1=>if c=true then Q true H1 else u σ H1 Q
noncomputable def nj (t:TT):TT:=fun σ H Q=>t σ H fun c H1=>Q (!c) H1
theorem MP (ha:PT X a tA):PW X (.BoolOp .And [a] pos) tA:=by
 intro wh pins s σ H Q I h
 refine isTrue_and (aE (ha pins s σ H Q I h) fun c s1 e=>?_)
 cases c with
 | true=>exact isTrue_and_nil e
 | false=>exact e
theorem oX (ha:PT X a tA):PW X (.BoolOp .Or [a] pos) tA:=by
 intro wh pins s σ H Q I h
 refine isTrue_or (aE (ha pins s σ H Q I h) fun c s1 e=>?_)
 cases c with
 | false=>exact isTrue_or_nil e
 | true=>exact e
theorem K3 (ha:PT X a tA) (hb:PW X (.BoolOp .And (b :: bD) pos) qF):PW X (.BoolOp .And (a :: b :: bD) pos) (pv tA qF):=by
 intro wh pins s σ H Q I h
 refine isTrue_and (aE (ha pins s σ H _ I h) fun c s1 ⟨H1,I1,q1⟩=>?_)
 cases c with
 | true=>exact hb wh pins s1 σ H1 Q I1 q1
 | false=>exact ⟨H1,I1,q1⟩
theorem mB (ha:PT X a tA) (hb:PW X (.BoolOp .Or (b :: bD) pos) qF):PW X (.BoolOp .Or (a :: b :: bD) pos) (lC tA qF):=by
 intro wh pins s σ H Q I h
 refine isTrue_or (aE (ha pins s σ H _ I h) fun c s1 ⟨H1,I1,q1⟩=>?_)
 cases c with
 | true=>exact ⟨H1,I1,q1⟩
 | false=>exact hb wh pins s1 σ H1 Q I1 q1
theorem pD (ha:PT X a tA):PT X (.UnaryOp .Not a pos) (nj tA):=by
 intro pins s σ H Q I h
 exact isTrue_not (ha pins s σ H (fun c H1=>Q (!c) H1) I h)
noncomputable def Gm (ta tb:TE):TE:=fun σ H Q=>ta σ H fun x H1=>∃ c,x=.bl c/\if c=true then tb σ H1 Q else Q (.bl false) H1
noncomputable def qT (ta tb:TE):TE:=fun σ H Q=>ta σ H fun x H1=>∃ c,x=.bl c/\if c=true then Q (.bl true) H1 else tb σ H1 Q
noncomputable def Hr (ta:TE):TE:=fun σ H Q=>ta σ H fun x H1=>∃ c,x=.bl c/\Q (.bl (!c)) H1
theorem vj {op}{t:TE} (h:PE X a t):PE X (.BoolOp op [a] pos) t:=fun pins s σ H Q I hw=>BoolOp_one (h pins s σ H Q I hw)
theorem sv (ha:PE X a ta) (hb:PE X (.BoolOp .And (b :: bD) pos) tb):PE X (.BoolOp .And (a :: b :: bD) pos) (Gm ta tb):=by
 intro pins s σ H Q I h
 refine BoolOp_and (aE (ha pins s σ H _ I h) fun v s1 ⟨x,H1,I1,r1,q1⟩=>?_)
 obtain ⟨c,rfl,q1⟩:=q1
 cases r1
 refine wpAny_truthy_bool ?_
 cases c with
 | true=>exact hb pins s1 σ H1 Q I1 q1
 | false=>exact ⟨.bl false,H1,I1,rfl,q1⟩
theorem xJ (ha:PE X a ta) (hb:PE X (.BoolOp .Or (b :: bD) pos) tb):PE X (.BoolOp .Or (a :: b :: bD) pos) (qT ta tb):=by
 intro pins s σ H Q I h
 refine BoolOp_or (aE (ha pins s σ H _ I h) fun v s1 ⟨x,H1,I1,r1,q1⟩=>?_)
 obtain ⟨c,rfl,q1⟩:=q1
 cases r1
 refine wpAny_truthy_bool ?_
 cases c with
 | false=>exact hb pins s1 σ H1 Q I1 q1
 | true=>exact ⟨.bl true,H1,I1,rfl,q1⟩
theorem uJ (ha:PE X a ta):PE X (.UnaryOp .Not a pos) (Hr ta):=by
 intro pins s σ H Q I h
 refine UnaryOp_ (aE (ha pins s σ H _ I h) fun v s1 ⟨x,H1,I1,r1,q1⟩=>?_)
 obtain ⟨c,rfl,q1⟩:=q1
 cases r1
 exact not_of (wpAny_truthy_bool ⟨.bl (!c),H1,I1,rfl,q1⟩)
noncomputable def Hk (t:TT) (ta tb:TE):TE:=fun σ H Q=>t σ H fun c H1=>if c=true then ta σ H1 Q else tb σ H1 Q
theorem Sr {c:Expr} (hc:PT X c tA) (ha:PE X a ta) (hb:PE X b tb):PE X (.IfExp c a b pos) (Hk tA ta tb):=by
 intro pins s σ H Q I h
 refine wpAny_IfExp (aE (hc pins s σ H _ I h) fun d s1 ⟨H1,I1,q1⟩=>?_)
 cases d with
 | true=>exact ha pins s1 σ H1 Q I1 q1
 | false=>exact hb pins s1 σ H1 Q I1 q1
end
noncomputable def aR (K:ZoW) (H:Hp) (a:Addr) (xs:List V):Prop :=
 Rd H a (.lst xs) \/
  ∃ (o:Obj) (its:Array Value) (n:Nat),K.lookup a=some o/\o.cls=.type "list" /\ o.dict=none/\o.data=.seq its n/\its.size<=sizeLine/\Vals xs its.toList
noncomputable def cW (K:ZoW) (H:Hp) (a:Addr) (xs:List V):Prop :=
 Rd H a (.tup xs) \/
  ∃ (o:Obj) (its:Array Value) (n:Nat),K.lookup a=some o/\o.cls=.type "tuple" /\ o.data=.seq its n/\its.size<=sizeLine/\Vals xs its.toList
noncomputable def Ec:Value->Option V
 | .none=>some .non
 | .bool b=>some (.bl b)
 | .int i _=>some (.int i)
 | .str x _=>some (.str x)
 | .bytes b _=>some (.byt b)
 | .float b _=>some (.flt b)
 | .ref a=>some (.ref a)
 | .type n=>some (.ty n)
 | _=>none
theorem aP.abs {x:V}{u:Value} (r:aP x u):Ec u=some x:=by
 cases x with
 | non=>cases r;rfl
 | bl _=>cases r;rfl
 | int _=>obtain ⟨t,rfl⟩:=r;rfl
 | str _=>obtain ⟨t,rfl⟩:=r;rfl
 | byt _=>obtain ⟨t,rfl⟩:=r;rfl
 | flt _=>obtain ⟨t,rfl⟩:=r;rfl
 | ref _=>cases r;rfl
 | ty _=>cases r;rfl
theorem aP.inj {x y:V}{u:Value} (r:aP x u) (q:aP y u):x=y:=Option.some.inj (r.abs.symm.trans q.abs)
theorem Vals.inj:∀ {xs ys:List V}{us:List Value},Vals xs us->Vals ys us->xs=ys
 | _,_,_,.nil,.nil=>rfl
 | _,_,_,.cons r t,.cons r' t'=>by rw [r.inj r',Vals.inj t t']
section
variable {X:Cx}{pins:List (Addr × Obj)}{σ:St}{H:Hp}{s:Shared}{a:Addr}{xs ys:List V}
theorem aR.of {K:ZoW} (h:H a=some (.lst xs)):aR K H a xs:=.inl (.inl h)
theorem cW.of {K:ZoW} (h:H a=some (.tup xs)):cW K H a xs:=.inl (.inl h)
theorem Inv.list (I:Inv X pins σ H s) (h:aR X.K H a xs):∃ its:List Value,Vals xs its/\PlainL s.heap a its.toArray/\xs.length<=sizeLine:=by
 rcases h with h | ⟨o,its,n,hk,hc,hd,hs,hz,r⟩
 ·obtain ⟨z,its,n,r,e⟩:=h.ok I.aB
  exact ⟨its,r,⟨_,n,e,rfl,rfl,rfl⟩,z⟩
 ·refine ⟨its.toList,r,⟨o,n,I.en a o hk,hc,hd,by simpa using hs⟩,?_⟩
  have e:=r.length
  simp only [Zrp] at e
  omega
theorem Inv.tuple (I:Inv X pins σ H s) (h:cW X.K H a xs):∃ its:List Value,Vals xs its/\IsTup s.heap a its.toArray/\xs.length<=sizeLine:=by
 rcases h with h | ⟨o,its,n,hk,hc,hs,hz,r⟩
 ·obtain ⟨z,its,r,p⟩:=h.ok I.aB
  exact ⟨its,r,p,z⟩
 ·refine ⟨its.toList,r,⟨o,I.en a o hk,hc,n,by simpa using hs⟩,?_⟩
  have e:=r.length
  simp only [Zrp] at e
  omega
theorem Inv.gQ (I:Inv X pins σ H s) (h:aR X.K H a xs) (h':aR X.K H a ys):xs=ys:=by
 obtain ⟨its,r,⟨o,n,e,_,_,d⟩,_⟩:=I.list h
 obtain ⟨its',r',⟨o',n',e',_,_,d'⟩,_⟩:=I.list h'
 rw [e] at e';cases e'
 rw [d] at d'
 injection d' with d1 _
 have:its=its':=by simpa using congrArg Zrq d1
 subst this
 exact r.inj r'
theorem Inv.kO (I:Inv X pins σ H s) (h:cW X.K H a xs) (h':cW X.K H a ys):xs=ys:=by
 obtain ⟨its,r,⟨o,e,_,n,d⟩,_⟩:=I.tuple h
 obtain ⟨its',r',⟨o',e',_,n',d'⟩,_⟩:=I.tuple h'
 rw [e] at e';cases e'
 rw [d] at d'
 injection d' with d1 _
 have:its=its':=by simpa using congrArg Zrq d1
 subst this
 exact r.inj r'
end
noncomputable abbrev Cx.iC (X:Cx) (E:Value->Shared->Prop):Cx:={ X with xe:=E }
noncomputable abbrev Cx.yi (X:Cx):Cx:=X.iC fun _ _=>False
theorem Cx.Ok.iC {X:Cx} (ok:X.Ok) (E:Value->Shared->Prop):(X.iC E).Ok :=
 ⟨ok.mod,ok.kind,ok.glob,ok.blt,ok.above,ok.inj,ok.has,ok.kW,ok.hd,ok.frames,ok.lS,ok.nK,ok.bs,ok.iO,ok.fz,ok.fL,ok.cu,ok.jB⟩
theorem Cx.Ok.unwish {X:Cx}{E:Value->Shared->Prop} (ok:(X.iC E).Ok):X.Ok :=
 ⟨ok.mod,ok.kind,ok.glob,ok.blt,ok.above,ok.inj,ok.has,ok.kW,ok.hd,ok.frames,ok.lS,ok.nK,ok.bs,ok.iO,ok.fz,ok.fL,ok.cu,ok.jB⟩
section
variable {X:Cx}{pins:List (Addr × Obj)}{σ:St}{H:Hp}{s:Shared}{E:Value->Shared->Prop}
theorem Inv.iC (I:Inv X pins σ H s) (E:Value->Shared->Prop):Inv (X.iC E) pins σ H s:=⟨I.ok.iC E,I.os,I.bare,I.base,I.loc,I.cell,I.free,I.bj,I.pin,I.aB,I.len⟩
theorem Inv.unwish (I:Inv (X.iC E) pins σ H s):Inv X pins σ H s:=⟨I.ok.unwish,I.os,I.bare,I.base,I.loc,I.cell,I.free,I.bj,I.pin,I.aB,I.len⟩
theorem SP.unwish {D:Ends}{f:Flow}{s':Shared} (h:SP (X.iC E) pins D f s'):SP X pins D f s':=by
 cases f with
 | next=>obtain ⟨σ',H',I,q⟩:=h;exact ⟨σ',H',I.unwish,q⟩
 | brk=>obtain ⟨σ',H',I,q⟩:=h;exact ⟨σ',H',I.unwish,q⟩
 | cont=>obtain ⟨σ',H',I,q⟩:=h;exact ⟨σ',H',I.unwish,q⟩
 | ret u=>obtain ⟨v,σ',H',I,r,q⟩:=h;exact ⟨v,σ',H',I.unwish,r,q⟩
theorem gy.yi {st:List Stmt}{t:TS} (h:gy X.yi st t):gy X st t:=fun pins s σ H D I hw =>
 wpAny_mono (h pins s σ H D (I.iC _) hw) (fun _ _ q=>q.unwish) fun _ _ z=>False.elim z
end
section
variable {X:Cx}{st:Stmt}{bD:List Stmt}{t u:TS}{e:Expr}{te:TE}{pos:Pos}
noncomputable def eh:TS:=fun D σ H=>D.nx σ H
noncomputable def aV (t u:TS):TS:=fun D σ H=>t { D with nx:=u D } σ H
theorem eU:gy X [] eh:=fun _ _ σ H _ I h=>wpAny_execs_nil ⟨σ,H,I,h⟩
theorem aW (h1:PS X st t) (h2:gy X bD u):gy X (st :: bD) (aV t u):=by
 intro pins s σ H D I h
 refine wpAny_execs_cons (aE (h1 pins s σ H { D with nx:=u D } I h) fun f s1 q=>?_)
 cases f with
 | next =>
  obtain ⟨σ',H',I',q⟩:=q
  exact h2 pins s1 σ' H' D I' q
 | ret v=>exact q
 | brk=>exact q
 | cont=>exact q
theorem aS (h1:PS X st t):gy X [st] t:=by
 intro pins s σ H D I h
 refine wpAny_execs_cons (aE (h1 pins s σ H D I h) fun f s1 q=>?_)
 cases f with
 | next=>exact wpAny_execs_nil q
 | ret v=>exact q
 | brk=>exact q
 | cont=>exact q
theorem Inv.quiet {pins:List (Addr × Obj)}{σ:St}{H:Hp}{s:Shared} (I:Inv X pins σ H s):interactive X.env=false:=by simp [interactive,I.ok.kind]
noncomputable def nI (te:TE):TS:=fun D σ H=>te σ H fun _ H1=>D.nx σ H1
theorem oZ (he:PE X e te) (hs:swapsWith e none pos.line X.env=pure false:=by rfl):PS X (.Expr e pos) (nI te):=by
 intro pins s σ H D I h
 exact wpAny_Expr_any (aE (he pins s σ H _ I h) fun v s1 ⟨x,H1,I1,r1,q1⟩=>⟨σ,H1,I1,q1⟩) I.quiet hs
noncomputable def cA (te:TE):TS:=fun D σ H=>te σ H D.rt
theorem cY (he:PE X e te):PS X (.Return (some e) pos) (cA te):=by
 intro pins s σ H D I h
 exact wpAny_Return_some (aE (he pins s σ H _ I h) fun v s1 ⟨x,H1,I1,r1,q1⟩=>⟨x,σ,H1,I1,r1,q1⟩)
noncomputable def cM (c:TT) (t u:TS):TS:=fun D σ H=>c σ H fun b H1=>if b=true then t D σ H1 else u D σ H1
theorem dD {c:Expr}{a b:List Stmt}{tc:TT} (hc:PT X c tc) (ha:gy X a t) (hb:gy X b u):PS X (.If c a b pos) (cM tc t u):=by
 intro pins s σ H D I h
 refine wpAny_If (aE (hc pins s σ H _ I h) fun d s1 ⟨H1,I1,q1⟩=>?_)
 cases d with
 | true=>exact ha pins s1 σ H1 D I1 q1
 | false=>exact hb pins s1 σ H1 D I1 q1
end
noncomputable abbrev TG:=V->St->Hp->(St->Hp->Prop)->Prop
noncomputable abbrev ql:=List V->St->Hp->(St->Hp->Prop)->Prop
noncomputable def PG (X:Cx) (target:Expr) (t:TG):Prop :=
 ∀ (pins:List (Addr × Obj)) (s:Shared) (σ:St) (H:Hp) (v:V) (u:Value) (Q:St->Hp->Prop),Inv X pins σ H s->aP v u->t v σ H Q ->
  wpAny (model X.prog X.w) X.A (assign target X.env u) (fun _ s'=>∃ σ' H',Inv X pins σ' H' s'/\Q σ' H') X.xe s
noncomputable def zh (X:Cx) (ts:List Expr) (t:ql):Prop :=
 ∀ (pins:List (Addr × Obj)) (s:Shared) (σ:St) (H:Hp) (vs:List V) (us:List Value) (Q:St->Hp->Prop),Inv X pins σ H s->Vals vs us->t vs σ H Q ->
  wpAny (model X.prog X.w) X.A (assignInOrder ((assignEach ts X.env).map (·.2)) us) (fun _ s'=>∃ σ' H',Inv X pins σ' H' s'/\Q σ' H') X.xe s
noncomputable abbrev sR:=V->V->V->Hp->(Hp->Prop)->Prop
noncomputable def qV (X:Cx) (t:sR):Prop :=
 ∀ (pins:List (Addr × Obj)) (s:Shared) (σ:St) (H:Hp) (o i v:V) (ov iv u:Value) (Q:Hp->Prop),Inv X pins σ H s->aP o ov->aP i iv->aP v u->t o i v H Q ->
  wpAny (model X.prog X.w) X.A (setItem ov iv u) (fun _ s'=>∃ H',Inv X pins σ H' s'/\Q H') X.xe s
noncomputable abbrev Q9:=V->V->Hp->VK->Prop
noncomputable def RG (X:Cx) (op:Operator) (t:Q9):Prop :=
 ∀ (pins:List (Addr × Obj)) (s:Shared) (σ:St) (H:Hp) (x y:V) (v u:Value) (Q:VK),Inv X pins σ H s->aP x v->aP y u->t x y H Q ->
  wpAny (model X.prog X.w) X.A (inplaceOp op v u) (EP X pins σ Q) X.xe s
section
variable {X:Cx}{pos:Pos}
noncomputable def aK (i:Nat):TG:=fun v σ H Q=>Q (σ.set i (some v)) H
theorem eu {i:Nat}{x:Str} (hN:X.N.Nodup) (hi:X.N[i]? = some x) (hx:Loc X.env.scope x) (hf:X.fn x=true\/X.env.scope.names.lookup x=some .local:=by first | exact .inl rfl | exact .inr rfl | assumption):PG X (.Name x pos) (aK i):=by
 intro pins s σ H v u Q I r h
 exact wpAny_assign_Name (Ce I hN hi hx r (fun s' I'=>⟨_,H,I',h⟩) hf)
noncomputable def pS:ql:=fun vs σ H Q=>vs=[]/\Q σ H
noncomputable def jj (t:TG) (u:ql):ql:=fun vs σ H Q=>∃ v r,vs=v :: r/\t v σ H fun σ' H'=>u r σ' H' Q
theorem vo:zh X [] pS:=by
 intro pins s σ H vs us Q I r h
 obtain ⟨e,h⟩:=h
 subst e
 cases r
 exact assignInOrder_nil ⟨σ,H,I,h⟩
theorem jJ {e:Expr}{es:List Expr}{t:TG}{u:ql} (h1:PG X e t) (h2:zh X es u)
  (hs:(assignEach (e :: es) X.env).map (·.2)=assign e X.env :: (assignEach es X.env).map (·.2):=by rfl):zh X (e :: es) (jj t u):=by
 intro pins s σ H vs us Q I r h
 obtain ⟨v,vr,e1,h⟩:=h
 subst e1
 cases r with
 | cons r rr =>
  rw [hs]
  refine assignInOrder_cons (aE (h1 pins s σ H _ _ _ I r h) fun _ s1 ⟨σ1,H1,I1,q1⟩=>?_)
  exact h2 pins s1 σ1 H1 _ _ Q I1 rr q1
noncomputable def oP (K:ZoW) (n:Nat) (t:ql):TG:=fun v σ H Q=>∃ a xs,v=.ref a/\cW K H a xs/\xs.length=n/\t xs σ H Q
theorem vN {es:List Expr}{k:Nat}{t:ql}{n:Nat} (hc:X.calm=true) (h:zh X es t)
  (hn:(assignEach es X.env).length=n:=by rfl) (lY:(assignEach es X.env).findIdx? (·.1)=none:=by rfl):PG X (.Tuple es k pos) (oP X.K n t):=by
 intro pins s σ H v u Q I r hw
 obtain ⟨a,xs,e1,hq,hl,hw⟩:=hw
 subst e1
 cases r
 obtain ⟨its,rv,ht,hz⟩:=I.tuple hq
 refine assign_Tuple_tuple (I.ok.hd hc) ht (by simp [hn,<- hl,rv.length]) lY fun h' hx=>?_
 have I1:Inv X pins σ H { s with heap:=h' }:=I.kept (t':=s.toks) fun b o e=>hx b o (ZqZ (Heap.lt_size e)) e
 exact h pins _ σ H xs _ Q I1 (by simpa using rv) hw
noncomputable def nC (to ti:TE) (t:sR):TG:=fun v σ H Q=>to σ H fun o H1=>ti σ H1 fun i H2=>t o i v H2 fun H3=>Q σ H3
theorem pk {o i:Expr}{to ti:TE}{t:sR} (ho:PE X o to) (hi:PE X i ti) (hs:qV X t)
  (ha:∀ v,assign (.Subscript o i pos) X.env v=(do
   let ov <- holding [v] (eval o X.env)
   let iv <- holding [v,ov] (eval i X.env)
   standAt pos
   holding [v,ov,iv] (setItem ov iv v)
   release [v,ov,iv] []):=by intro _;rfl):PG X (.Subscript o i pos) (nC to ti t):=by
 intro pins s σ H v u Q I r h
 rw [ha]
 refine wpAny_bind (wpAny_holding (aE (ho pins s σ H _ I h) fun ov s1 ⟨x,H1,I1,r1,q1⟩=>?_))
 refine wpAny_bind (wpAny_holding (aE (hi pins s1 σ H1 _ I1 q1) fun iv s2 ⟨y,H2,I2,r2,q2⟩=>?_))
 refine wpAny_bind (wpAny_standAt (wpAny_bind (wpAny_holding (aE (hs pins s2 σ H2 x y v ov iv u _ I2 r1 r2 r q2) fun _ s3 ⟨H3,I3,q3⟩=>?_))))
 exact wpAny_release ⟨σ,H3,I3,q3⟩
noncomputable def bG (te:TE) (g:TG):TS:=fun D σ H=>te σ H fun x H1=>g x σ H1 D.nx
theorem o6 {tg e:Expr}{te:TE}{g:TG} (he:PE X e te) (hg:PG X tg g) (hs:swapsWithSole [tg] e pos.line X.env=pure false:=by rfl) (hw:swappedStores [tg] e X.env=pure none:=by rfl)
  (h1:(assignEach [tg] X.env).map (·.2)=[assign tg X.env]:=by rfl):PS X (.Assign [tg] e pos) (bG te g):=by
 intro pins s σ H D I h
 refine wpAny_Assign_stores (aE (he pins s σ H _ I h) fun v s1 ⟨x,H1,I1,r1,q1⟩=>?_) hs hw
 rw [h1]
 exact aE (hg pins s1 σ H1 x v _ I1 r1 q1) fun _ s2 q=>q
theorem dv {i:Nat}{x:Str}{e:Expr}{te:TE}{pos':Pos} (hN:X.N.Nodup) (hi:X.N[i]? = some x) (hx:Loc X.env.scope x) (he:PE X e te) (hs:swapsWith e (some (.Name x pos')) pos.line X.env=pure false:=by rfl) (hf:X.fn x=true\/X.env.scope.names.lookup x=some .local:=by first | exact .inl rfl | exact .inr rfl | assumption) :
  PS X (.Assign [.Name x pos'] e pos) (bG te (aK i)):=by
 intro pins s σ H D I h
 refine wpAny_Assign_Name (aE (he pins s σ H _ I h) fun v s1 ⟨y,H1,I1,r1,q1⟩=>?_) hs
 exact Ce I1 hN hi hx r1 (fun s2 I2=>⟨_,H1,I2,q1⟩) hf
end
section
variable {X:Cx}{pos:Pos}
end
structure It where
 go:Nat->Hp->Prop
 jm:Nat->Hp->V->Hp->Prop
 stop:Nat->Hp->Prop
noncomputable def i5 (X:Cx) (pins:List (Addr × Obj)) (H:Hp) (b:Addr):Prop :=
 H b=none/\b≠X.env.locals/\b ∉ X.fs/\(b∈X.ex\/X.s₀.heap.objs.size<=b)/\(∀ x c,X.env.cells.lookup x=some c->c≠b)/\∀ p∈X.pn ++ pins,p.1≠b
theorem Inv.js {X:Cx}{pins:List (Addr × Obj)}{σ:St}{H H':Hp}{s:Shared}{b:Addr} (I:Inv X pins σ H s) (hb:s.heap.objs.size<=b) (hn:H' b=none):i5 X pins H' b:=by
 refine ⟨hn,Zq2 (Zq1 I.lt hb),I.Hm hb,.inr (Zq0 I.sz hb),fun x c e z=>?_,fun p hp z=>?_⟩
 ·obtain ⟨v,q⟩:=I.cell x c e
  exact absurd (Zq1 q.lt (by rw [z];exact hb)) (Zq6 _)
 ·exact absurd (Zq1 (Heap.lt_size (I.pin p hp).1) (by rw [z];exact hb)) (Zq6 _)
structure Turn (P:Program) (w:World) (K:ZoW) (tg:Expr) (J:It) (fp:List Addr) (it:Addr) (tn:Nat->Heap->Prop):Prop where
 mem:it∈fp
 obj:∀ i h,tn i h->∀ b∈fp,∃ o,h.get? b=some o/\∀ v,o.data≠.cell v
 keep:∀ i h h',tn i h->(∀ b∈fp,∀ o,h.get? b=some o->h'.get? b=some o)->tn i h'
 item:∀ (X:Cx),X.prog=P->X.w=w->X.K=K->X.calm=true->∀ (i:Nat) (pins:List (Addr × Obj)) (s:Shared) (σ:St) (H:Hp) (E:Value->Shared->Prop),Inv X pins σ H s->(∀ b∈fp,i5 X pins H b)->tn i s.heap->J.go i H ->
  wpAny (model P w) X.A (pyNext (.ref it)) (fun r s1=>∃ u,r=some u /\
   wpAny (model P w) X.A (letOwnedTupleGo tg (.ref it) u) (fun _ s2=>∃ x H',Inv X pins σ H' s2/\aP x u/\J.jm i H x H'/\tn (i+1) s2.heap/\∀ b∈fp,H' b=none) E s1) E s
 done:∀ (X:Cx),X.prog=P->X.w=w->X.K=K->X.calm=true->∀ (i:Nat) (pins:List (Addr × Obj)) (s:Shared) (σ:St) (H:Hp) (E:Value->Shared->Prop),Inv X pins σ H s->(∀ b∈fp,i5 X pins H b)->tn i s.heap->J.stop i H ->
  wpAny (model P w) X.A (pyNext (.ref it)) (fun r s1=>r=none/\Inv X pins σ H s1) E s
 self:∀ (A:Around) (i:Nat) (s:Shared) (Q:Value->Shared->Prop) (E:Value->Shared->Prop),tn i s.heap->Q (.ref it) s->wpAny (model P w) A (pyIter (.ref it)) Q E s
noncomputable abbrev TI:=St->Hp->(It->Hp->Prop)->Prop
noncomputable def yu (X:Cx) (pins:List (Addr × Obj)) (σ:St) (tg:Expr) (R:It->Hp->Prop) (lZ:Value) (s2:Shared):Prop :=
 ∃ (it:Addr) (fp:List Addr) (tn:Nat->Heap->Prop) (J:It) (H':Hp),lZ=.ref it/\Inv X pins σ H' s2/\Turn X.prog X.w X.K tg J fp it tn/\tn 0 s2.heap/\(∀ b∈fp,i5 X pins H' b)/\R J H'
noncomputable def PI (X:Cx) (tg iter:Expr) (wi:TI):Prop :=
 ∀ (pins:List (Addr × Obj)) (s:Shared) (σ:St) (H:Hp) (R:It->Hp->Prop),Inv X pins σ H s->wi σ H R ->
  wpAny (model X.prog X.w) X.A (eval iter X.env) (fun v s1=>wpAny (model X.prog X.w) X.A (pyIter v) (yu X pins σ tg R) X.xe s1) X.xe s
theorem CA {M:Model}{A:Around}{E:Value->Shared->Prop}{s:Shared}{tg:Expr}{it:Addr}{u:Value}{o:Obj}{n:String}{vs:Array Value}{Q:Unit->Shared->Prop} (ho:s.heap.get? it=some o) (hc:o.cls=.type n) (hd:o.data=.fields vs)
    (hn:["enumerate","zip","dict_itemiterator","dict_reverseitemiterator","odict_iterator","itertools.zip_longest","itertools.pairwise"].contains n=false) (hQ:Q () s):wpAny M A (letOwnedTupleGo tg (.ref it) u) Q E s:=by
  unfold letOwnedTupleGo
  cases tg <;> first
    | exact wpAny_pure hQ
    | (cases u <;> first
        | exact wpAny_pure hQ
        | (refine wpAny_bind (wpAny_load ho ?_)
           rw [hc,hd]
           show wpAny M A (if (["enumerate","zip","dict_itemiterator","dict_reverseitemiterator","odict_iterator","itertools.zip_longest","itertools.pairwise"].contains n && vs[0]? == some (rawInt _))=true then _ else _) Q E s
           rw [if_neg (by intro h;rw [hn,Bool.false_and] at h;cases h)]
           exact wpAny_pure hQ))
noncomputable def lx (K:ZoW) (a:Addr):It :=
 ⟨fun i H=>∃ xs x,aR K H a xs/\xs[i]? = some x,fun i H x H'=>H'=H/\∀ xs,aR K H a xs->xs[i]? = some x,fun i H=>∃ xs,aR K H a xs/\xs.length<=i⟩
noncomputable def vK (K:ZoW) (a:Addr):It :=
 ⟨fun i H=>∃ xs x,cW K H a xs/\xs[i]? = some x,fun i H x H'=>H'=H/\∀ xs,cW K H a xs->xs[i]? = some x,fun i H=>∃ xs,cW K H a xs/\xs.length<=i⟩
noncomputable def jL (lo:Int) (n:Nat):It:=⟨fun i _=>i<n,fun i H x H'=>H'=H/\x=.int (lo+i),fun i _=>n<=i⟩
theorem Rq {P:Program}{w:World}{K:ZoW}{tg:Expr} (a it:Addr):Turn P w K tg (lx K a) [it] it (fun i h=>h.IsListIter it a i) where
 mem:=by simp
 obj:=fun i h st b hb=>by
  have e:b=it:=by simpa using hb
  subst e
  obtain ⟨o,e,c,d⟩:=st
  exact ⟨o,e,fun v z=>by rw [d] at z;cases z⟩
 keep:=fun i h h' st k=>st.at fun o e=>k it (by simp) o e
 item:=by
  intro X hP hw hK hc i pins s σ H E I hf st hg
  subst hP hw hK
  obtain ⟨xs,x,hq,hx⟩:=hg
  obtain ⟨its,rv,p,hz⟩:=I.list hq
  obtain ⟨u,hu,ru⟩:=rv.get hx
  obtain ⟨f0,f1,f2,f3,f4,f5⟩:=hf it (by simp)
  refine wpAny_pyNext_list_item st p.isList (x:=u) (by simpa using hu) fun h' st' sb=>?_
  have I1:Inv X pins σ H { s with heap:=h' }:=I.turned (t':=s.toks) (fun b o hb e=>(sb.2 b hb).trans e) f0 f1 f3 f4 f5
  obtain ⟨o,e,c,d⟩:=id st'
  exact ⟨u,rfl,CA (s:={ s with heap:=h' }) e c d (by decide) ⟨x,H,I1,ru,⟨rfl,fun ys hy=>by rw [I.gQ hy hq];exact hx⟩,st',fun b hb=>(hf b hb).1⟩⟩
 done:=by
  intro X hP hw hK hc i pins s σ H E I hf st hg
  subst hP hw hK
  obtain ⟨xs,hq,hx⟩:=hg
  obtain ⟨its,rv,p,hz⟩:=I.list hq
  obtain ⟨f0,f1,f2,f3,f4,f5⟩:=hf it (by simp)
  have hl:=rv.length
  exact wpAny_pyNext_list_end (I.ok.hd hc) st p.isList (by simp;omega) fun h' eb=>⟨rfl,I.turned (t':=s.toks) (fun b o hb e=>eb b o hb e) f0 f1 f3 f4 f5⟩
 self:=fun _ _ _ _ _ st h=>wpAny_pyIter_listiter st h
theorem Ue {P:Program}{w:World}{K:ZoW}{tg:Expr} (a it:Addr):Turn P w K tg (vK K a) [it] it (fun i h=>h.IsTupleIter it a i) where
 mem:=by simp
 obj:=fun i h st b hb=>by
  have e:b=it:=by simpa using hb
  subst e
  obtain ⟨o,e,c,d⟩:=st
  exact ⟨o,e,fun v z=>by rw [d] at z;cases z⟩
 keep:=fun i h h' st k=>st.at fun o e=>k it (by simp) o e
 item:=by
  intro X hP hw hK hc i pins s σ H E I hf st hg
  subst hP hw hK
  obtain ⟨xs,x,hq,hx⟩:=hg
  obtain ⟨its,rv,p,hz⟩:=I.tuple hq
  obtain ⟨u,hu,ru⟩:=rv.get hx
  obtain ⟨f0,f1,f2,f3,f4,f5⟩:=hf it (by simp)
  refine wpAny_pyNext_tuple_item st (show s.heap.IsTuple a its.toArray from p) (x:=u) (by simpa using hu) fun h' st' sb=>?_
  have I1:Inv X pins σ H { s with heap:=h' }:=I.turned (t':=s.toks) (fun b o hb e=>(sb.2 b hb).trans e) f0 f1 f3 f4 f5
  obtain ⟨o,e,c,d⟩:=id st'
  exact ⟨u,rfl,CA (s:={ s with heap:=h' }) e c d (by decide) ⟨x,H,I1,ru,⟨rfl,fun ys hy=>by rw [I.kO hy hq];exact hx⟩,st',fun b hb=>(hf b hb).1⟩⟩
 done:=by
  intro X hP hw hK hc i pins s σ H E I hf st hg
  subst hP hw hK
  obtain ⟨xs,hq,hx⟩:=hg
  obtain ⟨its,rv,p,hz⟩:=I.tuple hq
  obtain ⟨f0,f1,f2,f3,f4,f5⟩:=hf it (by simp)
  have hl:=rv.length
  exact wpAny_pyNext_tuple_end (I.ok.hd hc) st (show s.heap.IsTuple a its.toArray from p) (by simp;omega) fun h' eb=>⟨rfl,I.turned (t':=s.toks) (fun b o hb e=>eb b o hb e) f0 f1 f3 f4 f5⟩
 self:=fun _ _ _ _ _ st h=>wpAny_pyIter_tupleiter st h
theorem RC {P:Program}{w:World}{K:ZoW}{tg:Expr} (it:Addr) (lo:Int) (n:Nat):Turn P w K tg (jL lo n) [it] it (fun i h=>IsRangeIter h it (lo+(i:Nat) * 1) ((n:Int) - (i:Nat)) 1) where
 mem:=by simp
 obj:=fun i h st b hb=>by
  have e:b=it:=by simpa using hb
  subst e
  exact ⟨_,st,fun v z=>by
   have z':Data.fields _=Data.cell v:=z
   cases z'⟩
 keep:=fun i h h' st k=>k it (by simp) _ st
 item:=by
  intro X hP hw hK hc i pins s σ H E I hf st hg
  subst hP hw hK
  obtain ⟨f0,f1,f2,f3,f4,f5⟩:=hf it (by simp)
  have W:=Walks.range (prog:=X.prog) (w:=X.w) (I.ok.hd hc) it lo 1 n
  refine W.item i s _ _ hg st fun v h' tk hv st' kk=>?_
  obtain ⟨t,rfl⟩:=hv
  have I1:Inv X pins σ H { s with heap:=h',toks:=tk }:=I.turned (fun b o hb e=>kk b o (by simpa using hb) e) f0 f1 f3 f4 f5
  refine ⟨_,rfl,CA (s:={ s with heap:=h',toks:=tk }) (n:="range_iterator") st' rfl rfl (by decide) ⟨.int (lo+i),H,I1,⟨t,?_⟩,⟨rfl,rfl⟩,st',fun b hb=>(hf b hb).1⟩⟩
  rw [Int.mul_one]
 done:=by
  intro X hP hw hK hc i pins s σ H E I hf st hg
  subst hP hw hK
  obtain ⟨f0,f1,f2,f3,f4,f5⟩:=hf it (by simp)
  exact wpAny_pyNext_range_end (I.ok.hd hc) st (by have:n<=i:=hg;omega) fun h' eb=>⟨rfl,I.turned (t':=s.toks) (fun b o hb e=>eb b o hb e) f0 f1 f3 f4 f5⟩
 self:=fun _ _ _ _ _ st h=>wpAny_pyIter_rangeiter st h
section
variable {X:Cx}{tg:Expr}
noncomputable def jg (K:ZoW) (tl:TE):TI:=fun σ H R=>tl σ H fun x H1=>∃ a,x=.ref a/\(∃ xs,aR K H1 a xs)/\R (lx K a) H1
noncomputable def kB (K:ZoW) (tl:TE):TI:=fun σ H R=>tl σ H fun x H1=>∃ a,x=.ref a/\(∃ xs,cW K H1 a xs)/\R (vK K a) H1
theorem lq {l:Expr}{tl:TE} (hl:PE X l tl):PI X tg l (jg X.K tl):=by
 intro pins s σ H R I h
 refine aE (hl pins s σ H _ I h) fun v s1 ⟨x,H1,I1,r1,q1⟩=>?_
 obtain ⟨a,e,⟨xs,hq⟩,q⟩:=q1
 subst e
 cases r1
 obtain ⟨its,rv,p,hz⟩:=I1.list hq
 refine wpAny_pyIter_list p.isList ?_
 refine ⟨s1.heap.objs.size,[s1.heap.objs.size],_,_,H1,rfl,I1.kept (t':=s1.toks) fun b o e=>Heap.get?_push_of_some _ e,Rq a _,⟨_,Heap.get?_push_size _ rfl,rfl,rfl⟩,fun b hb=>?_,q⟩
 have e:b=s1.heap.objs.size:=by simpa using hb
 subst e
 exact I1.js (ZqY _) (I1.aB.fresh (ZqY _))
theorem qG {l:Expr}{tl:TE} (hl:PE X l tl):PI X tg l (kB X.K tl):=by
 intro pins s σ H R I h
 refine aE (hl pins s σ H _ I h) fun v s1 ⟨x,H1,I1,r1,q1⟩=>?_
 obtain ⟨a,e,⟨xs,hq⟩,q⟩:=q1
 subst e
 cases r1
 obtain ⟨its,rv,p,hz⟩:=I1.tuple hq
 refine wpAny_pyIter_tuple (show s1.heap.IsTuple a its.toArray from p) ?_
 refine ⟨s1.heap.objs.size,[s1.heap.objs.size],_,_,H1,rfl,I1.kept (t':=s1.toks) fun b o e=>Heap.get?_push_of_some _ e,Ue a _,⟨_,Heap.get?_push_size _ rfl,rfl,rfl⟩,fun b hb=>?_,q⟩
 have e:b=s1.heap.objs.size:=by simpa using hb
 subst e
 exact I1.js (ZqY _) (I1.aB.fresh (ZqY _))
theorem Nr {pins:List (Addr × Obj)}{σ:St}{H:Hp}{s:Shared}{R:It->Hp->Prop}{E:Value->Shared->Prop}{lo hi:Int}{t u v:Tok}{tk:Nat} (I:Inv X pins σ H s) (h1 : -(2 ^ 62)<=lo) (h2:lo<2 ^ 62) (h3 : -(2 ^ 62)<=hi) (h4:hi<2 ^ 62)
  (q:R (jL lo (hi - lo).toNat) H):wpAny (model X.prog X.w) X.A (pyIter (.ref s.heap.objs.size)) (yu X pins σ tg R) E { s with heap:=s.heap.push { cls:=.type "range",data:=.fields #[.int lo t,.int hi u,.int 1 v] },toks:=tk }:=by
 refine wpAny_pyIter_range (IsRange.new ..) (small_one h1 h2 h3 h4) ?_
 have I1:Inv X pins σ H { s with heap:=s.heap.push { cls:=.type "range",data:=.fields #[.int lo t,.int hi u,.int 1 v] },toks:=tk }:=I.kept fun b o e=>Heap.get?_push_of_some _ e
 refine ⟨(s.heap.push { cls:=.type "range",data:=.fields #[.int lo t,.int hi u,.int 1 v] }).objs.size,[(s.heap.push { cls:=.type "range",data:=.fields #[.int lo t,.int hi u,.int 1 v] }).objs.size],_,_,H,rfl,
  I1.kept (t':=tk) fun b o e=>Heap.get?_push_of_some _ e,RC _ lo (hi - lo).toNat,?_,fun b hb=>?_,q⟩
 ·have e1:lo+((0:Nat):Int) * 1=lo:=by simp
  have e2:(((hi - lo).toNat:Nat):Int) - ((0:Nat):Int)=Builtin.Range.rangeSize lo hi 1:=by rw [rangeSize_one];split <;> omega
  show IsRangeIter _ _ (lo+((0:Nat):Int) * 1) ((((hi - lo).toNat:Nat):Int) - ((0:Nat):Int)) 1
  rw [e1,e2]
  exact Heap.get?_push_size _ rfl
 ·have e:b=(s.heap.push { cls:=.type "range",data:=.fields #[.int lo t,.int hi u,.int 1 v] }).objs.size:=by simpa using hb
  subst e
  exact I1.js (ZqY _) (I1.aB.fresh (ZqY _))
noncomputable def oy (ta:TA):TI:=fun σ H R=>ta σ H fun vs H1=>∃ j:Int,vs=[.int j] /\ -(2 ^ 62)<=j/\j<2 ^ 62/\R (jL 0 j.toNat) H1
noncomputable def xl (ta:TA):TI:=fun σ H R=>ta σ H fun vs H1=>∃ i j:Int,vs=[.int i,.int j]/\(-(2 ^ 62)<=i/\i<2 ^ 62 /\ -(2 ^ 62)<=j/\j<2 ^ 62)/\R (jL i (j - i).toNat) H1
theorem CF {a:Expr}{ta:TA}{p pos:Pos} (hg:Gl X "range") (hm:X.mg "range" = none) (ha:PA X [a] ta) (hs:starEach [a] X.env=[(false,eval a X.env)]:=by rfl):PI X tg (.Call (.Name "range" p) [a] [] pos) (oy ta):=by
 intro pins s σ H R I h
 refine Call_ (ou I hg hm boot_range (PyProof.Rows.callWith_type1 (aE (ha pos pins s σ H _ I h) fun us s1 ⟨vs,H1,I1,r1,q1⟩=>?_) hs rfl))
 obtain ⟨j,e,q1,q2,q⟩:=q1
 subst e
 cases r1 with
 | cons r rr =>
  cases rr
  obtain ⟨t,rfl⟩:=r
  exact call_range_1 (Nr I1 (by omega) (by omega) q1 q2 (by simpa using q))
theorem OI {a b:Expr}{ta:TA}{p pos:Pos} (hg:Gl X "range") (hm:X.mg "range" = none) (ha:PA X [a,b] ta) (hs:starEach [a,b] X.env=[(false,eval a X.env),(false,eval b X.env)]:=by rfl) (lV:starEach [b] X.env=[(false,eval b X.env)]:=by rfl) :
  PI X tg (.Call (.Name "range" p) [a,b] [] pos) (xl ta):=by
 intro pins s σ H R I h
 refine Call_ (ou I hg hm boot_range (PyProof.Rows.callWith_type1 (aE (ha pos pins s σ H _ I h) fun us s1 ⟨vs,H1,I1,r1,q1⟩=>?_) (by rw [hs,lV]) (by rw [lV];rfl)))
 obtain ⟨i,j,e,⟨q1,q2,q3,q4⟩,q⟩:=q1
 subst e
 cases r1 with
 | cons r rr =>
  cases rr with
  | cons r' rr =>
   cases rr
   obtain ⟨t,rfl⟩:=r
   obtain ⟨t',rfl⟩:=r'
   exact call_range_2 (Nr I1 q1 q2 q3 q4 q)
noncomputable def jD (wi:TI) (g:TG) (tb:TS):TS:=fun D σ H=>wi σ H fun J H1=>∃ W:Nat->Nat->St->Hp->Prop,(∃ m,W 0 m σ H1)/\∀ i m σ H,W i m σ H ->
 (J.stop i H/\D.nx σ H)\/(J.go i H/\∃ N:St->Hp->Prop,(∀ σ' H',N σ' H'->∃ m',m'<m/\W (i+1) m' σ' H')/\∀ x H',J.jm i H x H'->g x σ H' fun σ2 H2=>tb { D with nx:=N,ct:=N,bk:=D.nx } σ2 H2)
noncomputable def vY (fp:List Addr) (h:Heap):List (Addr × Obj):=fp.filterMap fun b=>(h.get? b).map fun o=>(b,o)
theorem vx {fp:List Addr}{h:Heap}{b:Addr}{o:Obj} (hb:b∈fp) (e:h.get? b=some o):(b,o)∈vY fp h:=List.mem_filterMap.mpr ⟨b,hb,by rw [e];rfl⟩
theorem R9 {fp:List Addr}{h:Heap}{p:Addr × Obj} (hp:p∈vY fp h):p.1∈fp/\h.get? p.1=some p.2:=by
 obtain ⟨b,hb,e⟩:=List.mem_filterMap.mp hp
 cases q:h.get? b with
 | none=>rw [q] at e;cases e
 | some o =>
  rw [q] at e
  have e':(b,o)=p:=Option.some.inj e
  subst e'
  exact ⟨hb,q⟩
theorem Inv.pinned {pins:List (Addr × Obj)}{σ:St}{H:Hp}{s:Shared}{fp:List Addr} (I:Inv X pins σ H s) (hf:∀ b∈fp,i5 X pins H b) (ho:∀ b∈fp,∃ o,s.heap.get? b=some o/\∀ v,o.data≠.cell v):Inv X (pins ++ vY fp s.heap) σ H s :=
 I.kf fun p hp=>(ZpM.mp hp).elim (fun z=>I.pin p (ZpT _ z)) fun z=>by
  obtain ⟨hb,e⟩:=R9 z
  obtain ⟨f0,f1,f2,_⟩:=hf p.1 hb
  obtain ⟨o,e',d⟩:=ho p.1 hb
  rw [e] at e';cases e'
  exact ⟨e,f0,f1,f2,d⟩
theorem Inv.dM {pins pl:List (Addr × Obj)}{σ:St}{H:Hp}{s:Shared} (I:Inv X (pins ++ pl) σ H s):Inv X pins σ H s:=I.kf fun p hp=>I.pin p (ZpT _ (Zqb _ hp))
theorem zH {iter:Expr}{body:List Stmt}{wi:TI}{g:TG}{tb:TS}{pos:Pos} (hp:PassesOwn (model X.prog X.w) X.A X.env X.xe) (hc:X.calm=true) (hi:PI X tg iter wi) (hg:PG X tg g) (hb:gy X body tb)
  (hs:∀ x,foldedSetIterable iter X.env x=pure x:=by intro _;rfl):PS X (.For tg iter body [] pos) (jD wi g tb):=by
 intro pins s σ H D I h
 refine wpAny_For (aE (hi pins s σ H _ I h) fun v s1 h1=>aE h1 fun lZ s2 h2=>?_) hs
 obtain ⟨it,fp,tn,J,H2,e,I2,T,st2,f2,W,⟨m0,w0⟩,turn⟩:=h2
 subst e
 -- what stays true of nZ iterator's objects through nZ loop
 have stat:∀ {H':Hp},(∀ b∈fp,H' b=none)->∀ b∈fp,i5 X pins H' b:=fun hn b hb=>⟨hn b hb,(f2 b hb).2⟩
 refine codeAny_forLoop_any (fun n s'=>∃ i σ' H',Inv X pins σ' H' s'/\tn i s'.heap/\(∀ b∈fp,H' b=none)/\W i n σ' H') ?_ m0 ⟨0,σ,H2,I2,st2,fun b hb=>(f2 b hb).1,w0⟩
 rintro n s3 ⟨i,σ3,H3,I3,st3,fr3,w3⟩
 rcases turn i n σ3 H3 w3 with ⟨stop,qn⟩ | ⟨go,N,hN,step⟩
 ·refine wpAny_passesOwn hp (aE (T.done X rfl rfl rfl hc i pins s3 σ3 H3 X.xe I3 (stat fr3) st3 stop) fun r s4 ⟨hr,I4⟩=>?_)
  subst hr
  exact wpAny_execs_nil ⟨σ3,H3,I4,qn⟩
 ·refine wpAny_passesOwn hp (aE (T.item X rfl rfl rfl hc i pins s3 σ3 H3 X.xe I3 (stat fr3) st3 go) fun r s4 ⟨u,hr,h4⟩=>?_)
  subst hr
  refine wpAny_passesOwn hp (aE h4 fun _ s5 ⟨x,H5,I5,r5,y5,st5,fr5⟩=>?_)
  have I5':=I5.pinned (stat fr5) (T.obj _ _ st5)
  refine wpAny_passesOwn hp (aE (hg _ s5 σ3 H5 x u _ I5' r5 (step x H5 y5)) fun _ s6 ⟨σ6,H6,I6,q6⟩=>?_)
  refine wpAny_passesOwn hp (aE (hb _ s6 σ6 H6 _ I6 q6) fun f s7 q7=>?_)
  have again:∀ {σ7:St}{H7:Hp},Inv X (pins ++ vY fp s5.heap) σ7 H7 s7->N σ7 H7->∃ m,m<n/\∃ i σ' H',Inv X pins σ' H' s7/\tn i s7.heap/\(∀ b∈fp,H' b=none)/\W i m σ' H':=fun {σ7 H7} I7 n7=>by
   obtain ⟨m',hm,w7⟩:=hN σ7 H7 n7
   refine ⟨m',hm,i+1,σ7,H7,I7.dM,T.keep _ _ _ st5 fun b hb o e=>(I7.pin (b,o) (ZpT _ (ZpT _ (vx hb e)))).1,fun b hb=>?_,w7⟩
   obtain ⟨o,e,d⟩:=T.obj _ _ st5 b hb
   exact (I7.pin (b,o) (ZpT _ (ZpT _ (vx hb e)))).2.1
  cases f with
  | next=>obtain ⟨σ7,H7,I7,n7⟩:=q7;exact again I7 n7
  | cont=>obtain ⟨σ7,H7,I7,n7⟩:=q7;exact again I7 n7
  | brk=>obtain ⟨σ7,H7,I7,q7⟩:=q7;exact ⟨σ7,H7,I7.dM,q7⟩
  | ret v=>obtain ⟨x7,σ7,H7,I7,r7,q7⟩:=q7;exact ⟨x7,σ7,H7,I7.dM,r7,q7⟩
end
theorem Q4 {K:ZoW}{a:Addr}{xs:List V}{g:TG}{tb:TS}{D:Ends}{σ:St}{H:Hp} (Pv:Nat->St->Hp->Prop) (h0:Pv 0 σ H) (hl:∀ i σ H,i<=xs.length->Pv i σ H->aR K H a xs)
  (hs:∀ i x σ H,xs[i]? = some x->Pv i σ H->g x σ H fun σ2 H2=>tb { D with nx:=Pv (i+1),ct:=Pv (i+1),bk:=D.nx } σ2 H2) (hd:∀ σ H,Pv xs.length σ H->D.nx σ H) :
  ∃ W:Nat->Nat->St->Hp->Prop,(∃ m,W 0 m σ H)/\∀ i m σ H,W i m σ H ->
   ((lx K a).stop i H/\D.nx σ H)\/((lx K a).go i H/\∃ N:St->Hp->Prop,(∀ σ' H',N σ' H'->∃ m',m'<m/\W (i+1) m' σ' H')/\∀ x H',(lx K a).jm i H x H'->g x σ H' fun σ2 H2=>tb { D with nx:=N,ct:=N,bk:=D.nx } σ2 H2):=by
 refine ⟨fun i m σ H=>m=xs.length - i/\i<=xs.length/\Pv i σ H,⟨xs.length,by simp,Zq3 _,h0⟩,?_⟩
 rintro i m σ H ⟨rfl,hi,p⟩
 have q:=hl i σ H hi p
 by_cases dw:i<xs.length
 ·refine .inr ⟨⟨xs,xs[i],q,by simp [dw]⟩,Pv (i+1),fun σ' H' p'=>⟨xs.length - (i+1),by omega,rfl,dw,p'⟩,fun x H' y=>?_⟩
  obtain ⟨e,y⟩:=y
  subst e
  exact hs i x σ _ (y xs q) p
 ·have e:i=xs.length:=by omega
  subst e
  exact .inl ⟨⟨xs,q,ZqY _⟩,hd σ H p⟩
theorem Tw {lo:Int}{n:Nat}{g:TG}{tb:TS}{D:Ends}{σ:St}{H:Hp} (Pv:Nat->St->Hp->Prop) (h0:Pv 0 σ H)
  (hs:∀ i σ H,i<n->Pv i σ H->g (.int (lo+i)) σ H fun σ2 H2=>tb { D with nx:=Pv (i+1),ct:=Pv (i+1),bk:=D.nx } σ2 H2) (hd:∀ σ H,Pv n σ H->D.nx σ H) :
  ∃ W:Nat->Nat->St->Hp->Prop,(∃ m,W 0 m σ H)/\∀ i m σ H,W i m σ H ->
   ((jL lo n).stop i H/\D.nx σ H)\/((jL lo n).go i H/\∃ N:St->Hp->Prop,(∀ σ' H',N σ' H'->∃ m',m'<m/\W (i+1) m' σ' H')/\∀ x H',(jL lo n).jm i H x H'->g x σ H' fun σ2 H2=>tb { D with nx:=N,ct:=N,bk:=D.nx } σ2 H2):=by
 refine ⟨fun i m σ H=>m=n - i/\i<=n/\Pv i σ H,⟨n,by simp,Zq3 _,h0⟩,?_⟩
 rintro i m σ H ⟨rfl,hi,p⟩
 by_cases dw:i<n
 ·refine .inr ⟨dw,Pv (i+1),fun σ' H' p'=>⟨n - (i+1),by omega,rfl,dw,p'⟩,fun x H' y=>?_⟩
  obtain ⟨e,y⟩:=y
  subst e y
  exact hs i σ _ dw p
 ·have e:i=n:=by omega
  subst e
  exact .inl ⟨ZqY _,hd σ H p⟩
noncomputable abbrev R2:=V->V->Hp->VK->Prop
noncomputable def bX (X:Cx) (f:Value->Value->Sem Value) (r:R2):Prop :=
 ∀ (pins:List (Addr × Obj)) (s:Shared) (σ:St) (H:Hp) (x y:V) (v u:Value) (Q:VK),Inv X pins σ H s->aP x v->aP y u->r x y H Q ->
  wpAny (model X.prog X.w) X.A (f v u) (EP X pins σ Q) X.xe s
noncomputable def wA (X:Cx) (f:Value->Sem Value) (r:V->Hp->VK->Prop):Prop :=
 ∀ (pins:List (Addr × Obj)) (s:Shared) (σ:St) (H:Hp) (x:V) (v:Value) (Q:VK),Inv X pins σ H s->aP x v->r x H Q ->
  wpAny (model X.prog X.w) X.A (f v) (EP X pins σ Q) X.xe s
noncomputable def gI (X:Cx) (f:Value) (r:List V->Hp->VK->Prop):Prop :=
 ∀ (pins:List (Addr × Obj)) (s:Shared) (σ:St) (H:Hp) (xs:List V) (us:List Value) (Q:VK),Inv X pins σ H s->Vals xs us->r xs H Q ->
  wpAny (model X.prog X.w) X.A (call f us) (EP X pins σ Q) X.xe s
noncomputable def Ek (X:Cx) (r:V->Hp->(Bool->Hp->Prop)->Prop):Prop :=
 ∀ (pins:List (Addr × Obj)) (s:Shared) (σ:St) (H:Hp) (x:V) (v:Value) (Q:Bool->Hp->Prop),Inv X pins σ H s->aP x v->r x H Q ->
  wpAny (model X.prog X.w) X.A (truthy v) (TP X pins σ Q) X.xe s
noncomputable def af (r:R2) (ta tb:TE):TE:=fun σ H Q=>ta σ H fun x H1=>tb σ H1 fun y H2=>r x y H2 Q
noncomputable def j5 (r:V->Hp->VK->Prop) (ta:TE):TE:=fun σ H Q=>ta σ H fun x H1=>r x H1 Q
noncomputable def rI (C:Int->Int->Prop) (g:Int->Int->V):R2:=fun x y H Q=>∃ i j,x=.int i/\y=.int j/\C i j/\Q (g i j) H
noncomputable def oF (g:Int->Int->V):R2:=fun x y H Q=>∃ i j,x=.int i/\y=.int j/\Q (g i j) H
noncomputable def rU (g:Int->V):V->Hp->VK->Prop:=fun x H Q=>∃ i,x=.int i/\Q (g i) H
section
variable {X:Cx}{a b c:Expr}{ta tb tc:TE}{pos:Pos}
theorem sh (ha:PE X a ta) (hb:PE X b tb) {pins:List (Addr × Obj)}{s:Shared}{σ:St}{H:Hp}{R:V->V->Hp->Prop} (I:Inv X pins σ H s)
  (h:ta σ H fun x H1=>tb σ H1 fun y H2=>R x y H2) {Q:Value->Shared->Prop}{f:Value->Value->Sem Value}
  (hf:∀ v u s2 x y H2,Inv X pins σ H2 s2->aP x v->aP y u->R x y H2->wpAny (model X.prog X.w) X.A (f v u) Q X.xe s2) :
  wpAny (model X.prog X.w) X.A (eval a X.env) (fun v s₁=>wpAny (model X.prog X.w) X.A (eval b X.env) (fun u s₂=>wpAny (model X.prog X.w) X.A (f v u) Q X.xe s₂) X.xe s₁) X.xe s:=by
 refine aE (ha pins s σ H _ I h) fun v s1 ⟨x,H1,I1,r1,q1⟩=>?_
 refine aE (hb pins s1 σ H1 _ I1 q1) fun u s2 ⟨y,H2,I2,r2,q2⟩=>?_
 exact hf v u s2 x y H2 I2 r1 r2 q2
theorem aw {op:Operator}{r:R2} (ho:bX X (binaryOp op) r) (ha:PE X a ta) (hb:PE X b tb):PE X (.BinOp a op b pos) (af r ta tb):=by
 intro pins s σ H Q I h
 exact wpAny_BinOp (sh ha hb I h fun v u s2 x y H2 I2 rx ry q=>ho pins s2 σ H2 x y v u Q I2 rx ry q)
theorem kN {op:UnaryOp}{r:V->Hp->VK->Prop} (ho:wA X (unaryOp op) r) (ha:PE X a ta):PE X (.UnaryOp op a pos) (j5 r ta):=by
 intro pins s σ H Q I h
 exact UnaryOp_ (aE (ha pins s σ H _ I h) fun v s1 ⟨x,H1,I1,r1,q1⟩=>ho pins s1 σ H1 x v Q I1 r1 q1)
theorem vU {f:Value->Value->Sem Value}{C:Int->Int->Prop}{g:Int->Int->Int}
  (rule:∀ (i j:Int) (t u:Tok) (s:Shared) (Q:Value->Shared->Prop) (E:Value->Shared->Prop),C i j->Q (.int (g i j) s.toks) { s with toks:=s.toks+1 }->wpAny (model X.prog X.w) X.A (f (.int i t) (.int j u)) Q E s) :
  bX X f (rI C fun i j=>.int (g i j)):=by
 intro pins s σ H x y v u Q I rx ry h
 obtain ⟨i,j,rfl,rfl,hc,q⟩:=h
 obtain ⟨t,rfl⟩:=rx
 obtain ⟨t',rfl⟩:=ry
 exact rule i j t t' s _ _ hc ⟨.int (g i j),H,I.tok _,⟨_,rfl⟩,q⟩
theorem rE {f:Value->Value->Sem Value}{g:Int->Int->Int}
  (rule:∀ (i j:Int) (t u:Tok) (s:Shared) (Q:Value->Shared->Prop) (E:Value->Shared->Prop),Q (.int (g i j) s.toks) { s with toks:=s.toks+1 }->wpAny (model X.prog X.w) X.A (f (.int i t) (.int j u)) Q E s) :
  bX X f (oF fun i j=>.int (g i j)):=by
 intro pins s σ H x y v u Q I rx ry h
 obtain ⟨i,j,rfl,rfl,q⟩:=h
 obtain ⟨t,rfl⟩:=rx
 obtain ⟨t',rfl⟩:=ry
 exact rule i j t t' s _ _ ⟨.int (g i j),H,I.tok _,⟨_,rfl⟩,q⟩
theorem ug {f:Value->Value->Sem Value}{g:Int->Int->Bool}
  (rule:∀ (i j:Int) (t u:Tok) (s:Shared) (Q:Value->Shared->Prop) (E:Value->Shared->Prop),Q (.bool (g i j)) s->wpAny (model X.prog X.w) X.A (f (.int i t) (.int j u)) Q E s) :
  bX X f (oF fun i j=>.bl (g i j)):=by
 intro pins s σ H x y v u Q I rx ry h
 obtain ⟨i,j,rfl,rfl,q⟩:=h
 obtain ⟨t,rfl⟩:=rx
 obtain ⟨t',rfl⟩:=ry
 exact rule i j t t' s _ _ ⟨.bl (g i j),H,I,rfl,q⟩
noncomputable def cX (i j:Int):Prop:=0<j/\j<1073741824
noncomputable def km (i j:Int):Prop:=0<=j/\j<=1000000/\i.natAbs<2 ^ 64
noncomputable def kE (i j:Int):Prop:=(-(2 ^ 64)<i/\i<2 ^ 64)\/(-(2 ^ 64)<j/\j<2 ^ 64)
theorem kE.ok {i j:Int} (h:kE i j):IntMulOk i j:=by
 rcases h with ⟨h1,h2⟩ | ⟨h1,h2⟩
 ·exact .of_left (intBits_le_64 h1 h2)
 ·exact .of_right (intBits_le_64 h1 h2)
theorem P8 (k:Nat):(0:Int)<=2 ^ k:=by
 rw [two_pow_cast]
 exact Int.natCast_nonneg _
theorem so:bX X (binaryOp .Add) (oF fun i j=>.int (i+j)):=rE fun _ _ _ _ _ _ _ q=>add_int q
theorem vc:bX X (binaryOp .Sub) (oF fun i j=>.int (i - j)):=rE fun _ _ _ _ _ _ _ q=>sub_int q
theorem rg:bX X (binaryOp .Mult) (rI kE fun i j=>.int (i * j)):=vU fun _ _ _ _ _ _ _ hc q=>mul_int q hc.ok
theorem RN:bX X (binaryOp .FloorDiv) (rI cX fun i j=>.int (i / j)):=vU fun i j _ _ _ _ _ hc q=>by
 have h1:(0:Int)<j:=hc.1
 have h2:j<1073741824:=hc.2
 exact floordiv_int (by omega) (by rw [Zrn i (by omega)];exact q) (.inl (PyProof.noPylong_small (by omega)))
theorem tZ:bX X (binaryOp .Mod) (rI (fun _ j=>0<j) fun i j=>.int (i % j)):=vU fun i j _ _ _ _ _ hc q=>by
 have h1:(0:Int)<j:=hc
 exact mod_int' (by omega) (by rw [Int.fmod_eq_emod_of_nonneg i (by omega)];exact q)
theorem uN:bX X (binaryOp .Pow) (rI km fun i j=>.int (i ^ j.toNat)):=vU fun _ _ _ _ _ _ _ hc q=>pow_int_small hc.1 hc.2.1 hc.2.2 q
theorem uP:bX X (binaryOp .LShift) (rI km fun i j=>.int (i * 2 ^ j.toNat)):=vU fun _ _ _ _ _ _ _ hc q=>lshift_int_small hc.1 hc.2.1 hc.2.2 q
theorem rY:bX X (binaryOp .RShift) (rI (fun _ j=>0<=j) fun i j=>.int (i / 2 ^ j.toNat)):=vU fun i j _ _ _ _ _ hc q =>
 rshift_int hc (by rw [Zrn i (P8 _)];exact q)
theorem rH:bX X (binaryOp .BitAnd) (oF fun i j=>.int (Builtin.bitAnd i j)):=rE fun _ _ _ _ _ _ _ q=>and_int q
theorem NY {f:Value->Sem Value}{g:Int->Int}
  (rule:∀ (i:Int) (t:Tok) (s:Shared) (Q:Value->Shared->Prop) (E:Value->Shared->Prop),Q (.int (g i) s.toks) { s with toks:=s.toks+1 }->wpAny (model X.prog X.w) X.A (f (.int i t)) Q E s) :
  wA X f (rU fun i=>.int (g i)):=by
 intro pins s σ H x v Q I rx h
 obtain ⟨i,rfl,q⟩:=h
 obtain ⟨t,rfl⟩:=rx
 exact rule i t s _ _ ⟨.int (g i),H,I.tok _,⟨_,rfl⟩,q⟩
theorem qz:wA X (unaryOp .USub) (rU fun i=>.int (-i)):=NY fun _ _ _ _ _ q=>neg_int q
end
noncomputable def Aq:V->V->Bool
 | .non,.non=>true | .non,.int _=>true | .int _,.non=>true | .non,.bl _=>true | .bl _,.non=>true | .non,.str _=>true | .str _,.non=>true
 | .int _,.int _=>true | .bl _,.bl _=>true | .str _,.str _=>true | .byt _,.byt _=>true
 | .int _,.str _=>true | .str _,.int _=>true | .bl _,.str _=>true | .str _,.bl _=>true
 | _,_=>false
noncomputable def JT:R2:=fun x y H Q=>Aq x y=true/\Q (.bl (decide (x=y))) H
noncomputable def Mc:R2:=fun x y H Q=>Aq x y=true/\Q (.bl (!decide (x=y))) H
theorem KG {i j:Int}:decide (V.int i=V.int j)=(i == j):=by
 rw [Zru]
 simp
theorem La {i j:Bool}:decide (V.bl i=V.bl j)=(i == j):=by
 rw [Zru]
 simp
theorem Jf {i j:Str}:decide (V.str i=V.str j)=(i == j):=by
 rw [Zru]
 simp
theorem IW {i j:Array UInt8}:decide (V.byt i=V.byt j)=(i.toList == j.toList):=by
 rw [Zru]
 cases i
 cases j
 simp
section
variable {X:Cx}{a b c:Expr}{ta tb tc:TE}{pos:Pos}
theorem eV {pins:List (Addr × Obj)}{σ:St}{H:Hp}{s:Shared}{Q:VK}{k k':Bool} (I:Inv X pins σ H s) (q:Q (.bl k) H) (e:k=k'):EP X pins σ Q (.bool k') s:=by
 subst e
 exact ⟨.bl k,H,I,rfl,q⟩
theorem Bd:bX X (compareOp .Eq) JT:=by
 intro pins s σ H x y v u Q I rx ry h
 obtain ⟨hs,q⟩:=h
 cases x with
 | non =>
  cases rx
  cases y with
  | non=>cases ry;exact PySem.EqNone.eq_none_none (eV I q (by simp))
  | bl j=>cases ry;exact PySem.EqNone.eq_none_bool (eV I q (by simp))
  | int j=>obtain ⟨t',rfl⟩:=ry;exact PySem.EqNone.eq_none_int (eV I q (by simp))
  | str j=>obtain ⟨t',rfl⟩:=ry;exact PySem.EqNone.eq_none_str (eV I q (by simp))
  | _=>exact absurd (show false=true from hs) Zrs
 | bl i =>
  cases rx
  cases y with
  | non=>cases ry;exact PySem.EqNone.eq_bool_none (eV I q (by simp))
  | bl j=>cases ry;exact eq_bool (eV I q La)
  | str j=>obtain ⟨t',rfl⟩:=ry;exact PySem.EqMixed.eq_bool_str (eV I q (by simp))
  | _=>exact absurd (show false=true from hs) Zrs
 | int i =>
  obtain ⟨t,rfl⟩:=rx
  cases y with
  | non=>cases ry;exact PySem.EqNone.eq_int_none (eV I q (by simp))
  | int j=>obtain ⟨t',rfl⟩:=ry;exact eq_int (eV I q KG)
  | str j=>obtain ⟨t',rfl⟩:=ry;exact PySem.EqMixed.eq_int_str (eV I q (by simp))
  | _=>exact absurd (show false=true from hs) Zrs
 | str i =>
  obtain ⟨t,rfl⟩:=rx
  cases y with
  | non=>cases ry;exact PySem.EqNone.eq_str_none (eV I q (by simp))
  | bl j=>cases ry;exact PySem.EqMixed.eq_str_bool (eV I q (by simp))
  | int j=>obtain ⟨t',rfl⟩:=ry;exact PySem.EqMixed.eq_str_int (eV I q (by simp))
  | str j=>obtain ⟨t',rfl⟩:=ry;exact eq_str (eV I q Jf)
  | _=>exact absurd (show false=true from hs) Zrs
 | byt i =>
  obtain ⟨t,rfl⟩:=rx
  cases y with
  | byt j=>obtain ⟨t',rfl⟩:=ry;exact PySem.W.eq_bytes (eV I q IW)
  | _=>exact absurd (show false=true from hs) Zrs
 | _=>cases y <;> exact absurd (show false=true from hs) Zrs
theorem xp:bX X (compareOp .NotEq) Mc:=by
 intro pins s σ H x y v u Q I rx ry h
 obtain ⟨hs,q⟩:=h
 cases x with
 | non =>
  cases rx
  cases y with
  | non=>cases ry;exact PySem.EqNone.ne_none_none (eV I q (by simp))
  | bl j=>cases ry;exact PySem.EqNone.ne_none_bool (eV I q (by simp))
  | int j=>obtain ⟨t',rfl⟩:=ry;exact PySem.EqNone.ne_none_int (eV I q (by simp))
  | str j=>obtain ⟨t',rfl⟩:=ry;exact PySem.EqNone.ne_none_str (eV I q (by simp))
  | _=>exact absurd (show false=true from hs) Zrs
 | bl i =>
  cases rx
  cases y with
  | non=>cases ry;exact PySem.EqNone.ne_bool_none (eV I q (by simp))
  | bl j=>cases ry;exact ne_bool (eV I q (congrArg not La))
  | str j=>obtain ⟨t',rfl⟩:=ry;exact PySem.EqMixed.ne_bool_str (eV I q (by simp))
  | _=>exact absurd (show false=true from hs) Zrs
 | int i =>
  obtain ⟨t,rfl⟩:=rx
  cases y with
  | non=>cases ry;exact PySem.EqNone.ne_int_none (eV I q (by simp))
  | int j=>obtain ⟨t',rfl⟩:=ry;exact ne_int (eV I q (congrArg not KG))
  | str j=>obtain ⟨t',rfl⟩:=ry;exact PySem.EqMixed.ne_int_str (eV I q (by simp))
  | _=>exact absurd (show false=true from hs) Zrs
 | str i =>
  obtain ⟨t,rfl⟩:=rx
  cases y with
  | non=>cases ry;exact PySem.EqNone.ne_str_none (eV I q (by simp))
  | bl j=>cases ry;exact PySem.EqMixed.ne_str_bool (eV I q (by simp))
  | int j=>obtain ⟨t',rfl⟩:=ry;exact PySem.EqMixed.ne_str_int (eV I q (by simp))
  | str j=>obtain ⟨t',rfl⟩:=ry;exact ne_str (eV I q (congrArg not Jf))
  | _=>exact absurd (show false=true from hs) Zrs
 | byt i =>
  obtain ⟨t,rfl⟩:=rx
  cases y with
  | byt j=>obtain ⟨t',rfl⟩:=ry;exact PySem.W.ne_bytes (eV I q (congrArg not IW))
  | _=>exact absurd (show false=true from hs) Zrs
 | _=>cases y <;> exact absurd (show false=true from hs) Zrs
theorem wZ:bX X (compareOp .Lt) (oF fun i j=>.bl (decide (i<j))):=ug fun _ _ _ _ _ _ _ q=>lt_int q
theorem AF:bX X (compareOp .LtE) (oF fun i j=>.bl (decide (i<=j))):=ug fun _ _ _ _ _ _ _ q=>le_int q
theorem zp:bX X (compareOp .Gt) (oF fun i j=>.bl (decide (j<i))):=ug fun _ _ _ _ _ _ _ q=>gt_int q
theorem Uc:bX X (compareOp .In) (fun x y H Q=>∃ i j,x=.str i/\y=.str j/\Q (.bl (!(Builtin.Str.occurrences j i 0 j.length 1).isEmpty)) H):=by
 intro pins s σ H x y v u Q I rx ry h
 obtain ⟨i,j,rfl,rfl,q⟩:=h
 obtain ⟨t,rfl⟩:=rx
 obtain ⟨t',rfl⟩:=ry
 exact in_str (eV I q rfl)
theorem cB (b:Expr) {op:CmpOp} (h:op≠.In:=by decide) (h2:op≠.NotIn:=by decide):behindInMarks op b=false:=by
 have e1:(op == CmpOp.In)=false:=by cases op <;> first | rfl | exact absurd rfl h
 have e2:(op == CmpOp.NotIn)=false:=by cases op <;> first | rfl | exact absurd rfl h2
 cases b <;> simp [behindInMarks,e1,e2]
theorem AJ {op:CmpOp}{r:R2} (ho:bX X (compareOp op) r) (ha:PE X a ta) (hb:PE X b tb) (hm:behindInMarks op b=false):PE X (.Compare a [op] [b] pos) (af r ta tb):=by
 intro pins s σ H Q I h
 exact wpAny_Compare1 (sh ha hb I h fun v u s2 x y H2 I2 rx ry q=>ho pins s2 σ H2 x y v u Q I2 rx ry q) hm
noncomputable def CM (t:TE):TT:=fun σ H Q=>t σ H fun x H'=>∃ k,x=.bl k/\Q k H'
theorem Td {op:CmpOp}{r:R2} (ho:bX X (compareOp op) r) (ha:PE X a ta) (hb:PE X b tb) (hm:behindInMarks op b=false):PT X (.Compare a [op] [b] pos) (CM (af r ta tb)):=by
 intro pins s σ H Q I h
 refine wpAny_isTrue_Compare1 (aE (ha pins s σ H _ I h) fun v s1 ⟨x,H1,I1,r1,q1⟩=>aE (hb pins s1 σ H1 _ I1 q1) fun u s2 ⟨y,H2,I2,r2,q2⟩ =>
  aE (ho pins s2 σ H2 x y v u _ I2 r1 r2 q2) fun c s3 ⟨z,H3,I3,r3,k,e,q3⟩=>?_) hm
 subst e
 cases r3
 exact wpAny_truthy_bool ⟨H3,I3,q3⟩
noncomputable def DC (r r':R2) (ta tb tc:TE):TE:=fun σ H Q=>ta σ H fun x H1=>tb σ H1 fun y H2=>r x y H2 fun z H3=>∃ k,z=.bl k /\
 (if k=true then tc σ H3 fun w' H4=>r' y w' H4 Q else Q (.bl false) H3)
theorem Py {op rJ:CmpOp}{r r':R2} (ho:bX X (compareOp op) r) (gP:bX X (compareOp rJ) r') (ha:PE X a ta) (hb:PE X b tb) (hc:PE X c tc)
  (hm:lastMarks [op,rJ] [b,c]=false:=by with_unfolding_all rfl):PE X (.Compare a [op,rJ] [b,c] pos) (DC r r' ta tb tc):=by
 intro pins s σ H Q I h
 refine Compare_chain (aE (ha pins s σ H _ I h) fun v s1 ⟨x,H1,I1,r1,q1⟩=>chain_link (aE (hb pins s1 σ H1 _ I1 q1) fun u s2 ⟨y,H2,I2,r2,q2⟩ =>
  aE (ho pins s2 σ H2 x y v u _ I2 r1 r2 q2) fun d s3 ⟨z,H3,I3,r3,k,e,q3⟩=>?_)) hm
 subst e
 cases r3
 refine wpAny_truthy_bool ?_
 cases k with
 | false=>exact ite_ff ⟨.bl false,H3,I3,rfl,q3⟩
 | true=>exact ite_tt (chain_last (aE (hc pins s3 σ H3 _ I3 q3) fun w' s4 ⟨z',H4,I4,r4,q4⟩=>gP pins s4 σ H4 y z' u w' Q I4 r2 r4 q4))
noncomputable def mY (K:ZoW) (x:V) (H:Hp) (k:Bool):Prop :=
 match x with
 | .non=>k=false
 | .bl b=>k=b
 | .int i=>k=(i != 0)
 | .str y=>y.length<=sizeLine/\k=((y.length:Int) != 0)
 | .byt y=>y.size<=sizeLine/\k=((y.size:Int) != 0)
 | .ref p=>(∃ xs,aR K H p xs/\k = !xs.isEmpty)\/(∃ xs,cW K H p xs/\k = !xs.isEmpty)\/∃ kvs,H p=some (.dK kvs)/\k = !kvs.isEmpty
 | _=>False
theorem NH {κ:Type}{kvs:List (κ × V)}{vs:List (κ × Value)} (r:KV kvs vs):(!vs.isEmpty) = !kvs.isEmpty:=by
 cases r <;> rfl
theorem KR {xs:List V}{its:List Value} (r:Vals xs its):(!its.toArray.isEmpty) = !xs.isEmpty:=by
 cases r <;> simp
theorem sE:(sizeLine:Nat)<2 ^ 63:=by rw [sizeLine_eq];decide
theorem tX:Ek X (fun x H Q=>∃ k,mY X.K x H k/\Q k H):=by
 intro pins s σ H x v Q I rx h
 obtain ⟨k,e,q⟩:=h
 have hl:=sE
 have hs:sizeLine=16777216:=sizeLine_eq
 cases x with
 | non =>
  cases rx
  have e':k=false:=e
  subst e'
  exact truthy_none ⟨H,I,q⟩
 | bl b =>
  cases rx
  have e':k=b:=e
  subst e'
  exact wpAny_truthy_bool ⟨H,I,q⟩
 | int i =>
  obtain ⟨t,rfl⟩:=rx
  have e':k=(i != 0):=e
  subst e'
  exact PySem.P.truthy_int ⟨H,I,q⟩
 | str y =>
  obtain ⟨t,rfl⟩:=rx
  obtain ⟨hy,e'⟩:y.length<=sizeLine/\k=((y.length:Int) != 0):=e
  subst e'
  exact PySem.P.truthy_str (by omega) ⟨H,I.tok _,q⟩
 | byt y =>
  obtain ⟨t,rfl⟩:=rx
  obtain ⟨hy,e'⟩:y.size<=sizeLine/\k=((y.size:Int) != 0):=e
  subst e'
  exact PySem.W.truthy_bytes (by omega) ⟨H,I.tok _,q⟩
 | ref p =>
  cases rx
  have e':(∃ xs,aR X.K H p xs/\k = !xs.isEmpty)\/(∃ xs,cW X.K H p xs/\k = !xs.isEmpty)\/∃ kvs,H p=some (.dK kvs)/\k = !kvs.isEmpty:=e
  rcases e' with ⟨xs,hx,e'⟩ | ⟨xs,hx,e'⟩ | ⟨kvs,hx,e'⟩
  ·subst e'
   obtain ⟨its,r,pl,hz⟩:=I.list hx
   have hlen:=r.length
   exact wpAny_truthy_list pl.isList (by simp only [ZpN];omega) ⟨H,I.tok _,by rw [KR r];exact q⟩
  ·subst e'
   obtain ⟨its,r,pl,hz⟩:=I.tuple hx
   have hlen:=r.length
   exact truthy_tuple pl (by simp only [ZpN];omega) ⟨H,I.tok _,by rw [KR r];exact q⟩
  ·subst e'
   obtain ⟨hz,hS,vs,r,m⟩:kvs.length<=sizeLine/\(p == sysModules)=false/\∃ vs,KV kvs vs/\s.heap.DictOf (iL X.prog X.w) p vs:=I.aB p _ hx
   have hlen:kvs.length=vs.length:=Paired.length r
   exact wpAny_truthy_dict hS m (by omega) ⟨H,I.tok _,by rw [NH r];exact q⟩
 | _=>exact (show False from e).elim
theorem OZ (ha:PE X a ta) (he:∀ jK,isTrue a X.env jK=(do let v <- jK;standAt a.pos;holding [v] (truthy v))) :
  PT X a (fun σ H Q=>ta σ H fun x H'=>∃ k,mY X.K x H' k/\Q k H'):=by
 intro pins s σ H Q I h
 exact isTrue_plain (aE (ha pins s σ H _ I h) fun v s1 ⟨x,H1,I1,r1,q1⟩=>tX pins s1 σ H1 x v Q I1 r1 q1) (he _)
theorem Tf:bX X (binaryOp .Add) (fun x y H Q=>∃ i j,x=.str i/\y=.str j/\i.length+j.length<=sizeLine/\Q (.str (i ++ j)) H):=by
 intro pins s σ H x y v u Q I rx ry h
 obtain ⟨i,j,rfl,rfl,hz,q⟩:=h
 obtain ⟨t,rfl⟩:=rx
 obtain ⟨t',rfl⟩:=ry
 exact add_str (fun t' tk=>⟨.str (i ++ j),H,I.tok _,⟨_,rfl⟩,q⟩) hz
theorem jA {x:V}{us:List Value} (r:Vals [x] us):∃ u,us=[u]/\aP x u:=by
 cases r with
 | cons r1 r2=>cases r2;exact ⟨_,rfl,r1⟩
theorem sL {x y:V}{us:List Value} (r:Vals [x,y] us):∃ u w',us=[u,w']/\aP x u/\aP y w':=by
 cases r with
 | cons r1 r2 =>
  cases r2 with
  | cons r3 r4=>cases r4;exact ⟨_,_,rfl,r1,r3⟩
theorem QD (hc:X.calm=true):gI X (.builtin "max") (fun xs H Q=>∃ i j,xs=[.int i,.int j]/\Q (.int (if j > i then j else i)) H):=by
 intro pins s σ H xs us Q I r h
 obtain ⟨i,j,rfl,q⟩:=h
 obtain ⟨u,w',rfl,⟨t,rfl⟩,⟨t',rfl⟩⟩:=sL r
 refine max_two_ints (I.ok.hd hc) fun h' tk k=>⟨_,H,I.kept k,?_,q⟩
 by_cases hj:j > i
 ·rw [if_pos hj,if_pos hj];exact ⟨_,rfl⟩
 ·rw [if_neg hj,if_neg hj];exact ⟨_,rfl⟩
theorem Jy:gI X (.type "int") (fun xs H Q=>(∃ i,xs=[.int i]/\Q (.int i) H)\/∃ k,xs=[.bl k]/\Q (.int (if k then 1 else 0)) H):=by
 intro pins s σ H xs us Q I r h
 rcases h with ⟨i,rfl,q⟩ | ⟨k,rfl,q⟩
 ·obtain ⟨u,rfl,t,rfl⟩:=jA r
  exact call_int_int ⟨.int i,H,I,⟨_,rfl⟩,q⟩
 ·obtain ⟨u,rfl,r1⟩:=jA r
  cases r1
  exact call_int_bool ⟨.int (if k then 1 else 0),H,I.tok _,⟨_,rfl⟩,q⟩
theorem ON:gI X (.type "str") (fun xs H Q=>∃ i,xs=[.int i]/\i.natAbs.log2<1920/\Q (.str (toString i)) H):=by
 intro pins s σ H xs us Q I r h
 obtain ⟨i,rfl,hz,q⟩:=h
 obtain ⟨u,rfl,t,rfl⟩:=jA r
 exact PySem.P.str_of_int hz ⟨.str _,H,I.tok _,⟨_,rfl⟩,q⟩
end
structure jT (h:Heap) (x dx C:Addr) (mA:Str->Option Value):Prop where
 obj:h.get? x=some (Zo7 C dx)
 ns:h.Ns1 dx mA
 ne:dx≠x
theorem RP {h:Heap}{dx:Addr}{mA:Str->Option Value} (n:h.Ns1 dx mA):∃ od,h.get? dx=some od/\∀ name,Zpb name od=some (mA name):=by
 obtain ⟨o,es,ep,ho,hd,hk,_,hm⟩:=n
 refine ⟨o,ho,fun name=>?_⟩
 have e:=hm name
 unfold nsFind findBy at e
 rw [<- Array.find?_toList] at e
 unfold Zpb
 rw [hd]
 dsimp only
 split
 ·rename_i y q
  rw [q] at e
  exact congrArg some e
 ·rename_i q
  rw [q] at e
  have a:es.toList.any (·.refKey)=false:=by
   rw [List.any_eq_false]
   intro y hy
   obtain ⟨z,t,hkey⟩:=hk y (Array.mem_toList_iff.mp hy)
   simp [DictEntry.refKey,hkey]
  have a':¬ es.toList.any (·.refKey)=true:=by rw [a];exact Zrs
  rw [if_neg a']
  exact congrArg some e
theorem jT.look {h:Heap}{x dx C:Addr}{mA:Str->Option Value} (I:jT h x dx C mA):∃ od,PySem.W.InstAt h x (Zo7 C dx) C (some od)/\∀ name,Zpb name od=some (mA name) :=
 let ⟨od,ho,hl⟩:=RP I.ns
 ⟨od,⟨I.obj,rfl,rfl,ho⟩,hl⟩
section
variable {prog:Program}{w:World}{A:Around}{E:Value->Shared->Prop}{s:Shared}{K:ZoW}{x dx C f:Addr}{mA:Str->Option Value}{name:Str}{v:Value}
theorem OU {expr:Bool}{Q:Value->Shared->Prop} (X:K.In s.heap) (I:jT s.heap x dx C mA) (hg:Zo9 K C name=true) (hh:Zpc K C=true)
  (ha:Zo0 K (.ref C) name=some none) (hv:mA name=some v) (Cj:PySem.W.handedIn v=true) (h:Q v { s with toks:=s.toks+1 }) :
  wpAny (model prog w) A (getAttr (.ref x) name expr) Q E s:=by
 obtain ⟨od,J,hl⟩:=I.look
 exact PySem.W.get_value X J (Zpg hg).1 (PySem.W.findObj_own hh ha rfl (by rw [hl,hv])) Cj h
theorem Tp {pl:Sem Bool}{Q:Value × List Value->Shared->Prop} (X:K.In s.heap) (I:jT s.heap x dx C mA) (hg:Zo9 K C name=true)
  (hf:Zo0 K (.ref C) name=some (some (.ref f))) (ht:Zpd K (.ref f)=true) (hv:mA name=none) (h:Q (.ref f,[.ref x]) s) :
  wpAny (model prog w) A (getMethod (.ref x) name pl) Q E s:=by
 obtain ⟨od,J,hl⟩:=I.look
 exact PySem.W.method_fn X J (Zpg hg).1 (Zpg hg).2 hf (beq_iff_eq.mp ht) (by show (Zpb name od).map (·.isSome)=some false;rw [hl,hv];rfl) h
theorem Ta {ns:List Str}{Q:Unit->Shared->Prop} (X:K.In s.heap) (I:jT s.heap x dx C mA)
  (hs:Zo0 K (.ref C) "__setattr__" = some (some (.builtin "object.__setattr__"))) (hp:Zph K C=true) (ht:Zpi K C name=some none) (hh:Zpc K C=true)
  (hw:PySem.Within mA ns) (hsz:ns.length<=sizeLine)
  (h:∀ h',jT h' x dx C (fun y=>if y=name then some v else mA y)->Heap.SameBut dx s.heap h'->Q () { s with heap:=h',toks:=s.toks+2 }) :
  wpAny (model prog w) A (setAttr (.ref x) name v) Q E s:=by
 obtain ⟨od,J,hl⟩:=I.look
 refine PySem.W.set_plain X J hs (PySem.W.osa_open (s:={ s with toks:=s.toks+1 }) (r:=none) X J hp ht fun b=>?_)
 obtain ⟨cd,hc,hd'⟩:=PySem.W.any_some hh
 have hx:s.heap.get? x=some ⟨.ref C,some dx,.plain,#[]⟩:=I.obj
 refine wpAny_bind (wpAny_pure (wpAny_bind (wpAny_bind (wpAny_loadPart hx (wpAny_bind (PySem.W.Looks.here (s:={ s with toks:=s.toks+1 }) (PySem.W.looks_clsIn X hc) ?_))))))
 rw [hd']
 refine wpAny_pure (a:=some dx) (wpAny_bind (wpAny_pure (wpAny_bind ?_)))
 refine wpAny_nsSet1 (s:={ s with toks:=s.toks+1 }) I.ns fun h' uc lV=>?_
 obtain ⟨oD,esD,epD,hoD,hdD,hcD⟩:=uc.count (PySem.Within.cons name v hw)
 refine wpAny_bind (wpAny_lookBehind hoD (by rw [hdD];exact pastItsLine_dict (Zq0 hcD (by rw [ZpG];omega))) ?_)
 exact wpAny_pure (h _ ⟨(lV.2 _ (Ne.symm I.ne)).trans I.obj,uc,I.ne⟩ lV)
theorem Sd {R:Result->Shared->Prop}{vs:List Value}{kw:List (Str × Value)} (X:K.In s.heap) (hm:Zpj K C=true)
  (hi:Zo0 K (.ref C) "__init__" = some (some (.ref f))) (hf:PySem.W.typeIn K (.ref f)=some (.type "function"))
  (h:codeAny (model prog w) (A.under (.builtin "type.__call__" ⟨.ref C :: vs,kw⟩)) (.call (.ref f) ⟨.ref (s.heap.objs.size+1) :: vs,kw⟩) (PySem.W.InitBack (s.heap.objs.size+1) R)
   { s with heap:=(s.heap.push Zo6).push (Zo7 C s.heap.objs.size) }) :
  codeAny (model prog w) A (.call (.ref C) ⟨vs,kw⟩) R s:=by
 obtain ⟨hh,g,d,t,os⟩:=s
 exact PySem.W.make_core (PySem.W.makes_of X hm) (PySem.W.looks_findIn X hi) (fun self=>PySem.W.bind_fn X self hf) (.inl rfl) h
end
noncomputable def dB (f:Str) (v:V):List (Str × V)->List (Str × V)
 | []=>[(f,v)]
 | (g,x) :: r=>if g=f then (g,v) :: r else (g,x) :: dB f v r
theorem Me (f g:Str) (v:V):∀ fs:List (Str × V),(dB f v fs).lookup g=if g=f then some v else fs.lookup g
 | []=>by
  show Zqo g [(f,v)]=_
  by_cases h:g=f
  ·have hb:(g == f)=true:=beq_iff_eq.mpr h
   simp only [Zqo,hb,if_pos h]
  ·have hb:(g == f)=false:=beq_eq_false_iff_ne.mpr h
   simp only [Zqo,hb,if_neg h]
 | (k,x) :: r=>by
  have ih:=Me f g v r
  rw [show dB f v ((k,x) :: r)=(if k=f then (k,v) :: r else (k,x) :: dB f v r) from rfl]
  by_cases hk:k=f
  ·rw [if_pos hk]
   by_cases h:g=k
   ·have hb:(g == k)=true:=beq_iff_eq.mpr h
    simp only [Zqo,hb,if_pos (h.trans hk)]
   ·have hb:(g == k)=false:=beq_eq_false_iff_ne.mpr h
    simp only [Zqo,hb,if_neg (fun e:g=f=>h (e.trans hk.symm))]
  ·rw [if_neg hk]
   by_cases h:g=k
   ·have hb:(g == k)=true:=beq_iff_eq.mpr h
    simp only [Zqo,hb,if_neg (fun e:g=f=>hk (h.symm.trans e))]
   ·have hb:(g == k)=false:=beq_eq_false_iff_ne.mpr h
    simp only [Zqo,hb]
    exact ih
theorem DH (f:Str) (v:V):∀ fs:List (Str × V),f∈(dB f v fs).map (·.1)/\∀ g,g∈fs.map (·.1)->g∈(dB f v fs).map (·.1)
 | []=>⟨by simp [dB],fun g h=>by simp at h⟩
 | (k,x) :: r=>by
  obtain ⟨i1,i2⟩:=DH f v r
  rw [show dB f v ((k,x) :: r)=(if k=f then (k,v) :: r else (k,x) :: dB f v r) from rfl]
  by_cases hk:k=f
  ·rw [if_pos hk]
   subst hk
   exact ⟨by simp,fun g h=>by simpa using h⟩
  ·rw [if_neg hk]
   refine ⟨?_,fun g h=>?_⟩
   ·rw [ZpD]
    exact ZpR _ i1
   ·rw [ZpD] at h ⊢
    rcases ZpE.mp h with e | e
    ·exact ZpE.mpr (.inl e)
    ·exact ZpR _ (i2 g e)
theorem z9 (f:Str) (v:V):∀ fs:List (Str × V),(dB f v fs).length<=fs.length+1
 | []=>by simp [dB]
 | (k,x) :: r=>by
  have ih:=z9 f v r
  rw [show dB f v ((k,x) :: r)=(if k=f then (k,v) :: r else (k,x) :: dB f v r) from rfl]
  by_cases hk:k=f
  ·rw [if_pos hk,ZpG,ZpG];omega
  ·rw [if_neg hk,ZpG,ZpG];omega
theorem jI.some_of {v:V}{o:Option Value} (r:jI (some v) o):∃ u,o=some u/\aP v u:=by
 cases o with
 | none=>exact (show False from r).elim
 | some u=>exact ⟨u,rfl,r⟩
theorem jI.none_of {o:Option Value} (r:jI none o):o=none:=by
 cases o with
 | none=>rfl
 | some u=>exact (show False from r).elim
theorem Rp {v:V}{u:Value} (r:aP v u):PySem.W.handedIn u=true:=by
 cases v with
 | non=>cases (show u=Value.none from r);rfl
 | bl b=>cases (show u=Value.bool b from r);rfl
 | int i=>obtain ⟨t,e⟩:=(show ∃ t,u=Value.int i t from r);cases e;rfl
 | str x=>obtain ⟨t,e⟩:=(show ∃ t,u=Value.str x t from r);cases e;rfl
 | byt b=>obtain ⟨t,e⟩:=(show ∃ t,u=Value.bytes b t from r);cases e;rfl
 | flt b=>obtain ⟨t,e⟩:=(show ∃ t,u=Value.float b t from r);cases e;rfl
 | ref a=>cases (show u=Value.ref a from r);rfl
 | ty n=>cases (show u=Value.type n from r);rfl
section
variable {P:Program}{w:World}{H H':Hp}{h h':Heap}{a C dx:Addr}{fs TZ:List (Str × V)}
theorem C1 (aB:d6 P w H h) (e:H a=some (.ins C dx fs)):∃ mA,jT h a dx C mA/\(∀ f,jI (fs.lookup f) (mA f))/\PySem.Within mA (fs.map (·.1))/\fs.length<=1000/\H dx=some (.own a):=by
 obtain ⟨d,z,ne,ob,mA,n,r,q⟩:=(show dA P w H h a (.ins C dx fs) from aB a _ e)
 exact ⟨mA,⟨ob,n,ne⟩,r,q,z,d⟩
end
structure mV (K:ZoW) (C:Addr):Prop where
 pg:Zo9 K C Str.empty=true
 hd:Zpc K C=true
 po:Zph K C=true
 sa:Zo0 K (.ref C) "__setattr__" = some (some (.builtin "object.__setattr__"))
theorem mV.get {K:ZoW}{C:Addr} (c:mV K C) (f:Str):Zo9 K C f=true:=c.pg
noncomputable def ox (K:ZoW) (C:Addr) (f:Str):Prop:=Zo0 K (.ref C) f=some none
theorem ox.wD {K:ZoW}{C:Addr}{f:Str} (n:ox K C f):Zpi K C f=some none:=by
 unfold Zpi
 rw [show Zo0 K (.ref C) f=some none from n]
 rfl
structure Vg (K:ZoW) (C:Addr) (f:Str) (v:V) (u:Value):Prop where
 at_:Zo0 K (.ref C) f=some (some u)
 rel:aP v u
 get:Zpk K u "__get__" = some none
 cp:PySem.W.copiedNames.contains f=false
structure Meth (K:ZoW) (C:Addr) (m:Str) (f:Addr):Prop where
 at_:Zo0 K (.ref C) m=some (some (.ref f))
 fn:Zpd K (.ref f)=true
 kp:Zo5 K (.ref f)=true
section
variable {X:Cx}{pins:List (Addr × Obj)}{σ:St}{H:Hp}{s:Shared}{a C dx:Addr}{fs:List (Str × V)}{f:Str}{v:V}{A:Around}{E:Value->Shared->Prop}
theorem TH {b:Bool}{Q:Value->Shared->Prop} (I:Inv X pins σ H s) (e:H a=some (.ins C dx fs)) (c:mV X.K C) (n:ox X.K C f) (l:fs.lookup f=some v)
  (h:∀ u s',Inv X pins σ H s'->aP v u->Q u s'):wpAny (model X.prog X.w) A (getAttr (.ref a) f b) Q E s:=by
 obtain ⟨mA,O,r,_,_,_⟩:=C1 I.aB e
 obtain ⟨u,hu,ru⟩:=jI.some_of (v:=v) (o:=mA f) (by rw [<- l];exact r f)
 exact OU I.en O (c.get f) c.hd n hu (Rp ru) (h u _ (I.tok _) ru)
theorem Ub {m:Str}{g:Addr}{pl:Sem Bool}{Q:Value × List Value->Shared->Prop} (I:Inv X pins σ H s) (e:H a=some (.ins C dx fs)) (c:mV X.K C) (k:Meth X.K C m g) (l:fs.lookup m=none)
  (h:Q (.ref g,[.ref a]) s):wpAny (model X.prog X.w) A (getMethod (.ref a) m pl) Q E s:=by
 obtain ⟨mA,O,r,_,_,_⟩:=C1 I.aB e
 have hn:mA m=none:=jI.none_of (by rw [<- l];exact r m)
 exact Tp I.en O (c.get m) k.at_ k.fn hn h
theorem RI {y:V}{u:Value}{Q:Unit->Shared->Prop} (I:Inv X pins σ H s) (e:H a=some (.ins C dx fs)) (c:mV X.K C) (n:ox X.K C f) (hl:fs.length<1000) (ry:aP y u)
  (h:∀ s',Inv X pins σ (upd H a (.ins C dx (dB f y fs))) s'->Q () s'):wpAny (model X.prog X.w) A (setAttr (.ref a) f u) Q E s:=by
 obtain ⟨mA,O,r,wi,_,ho⟩:=C1 I.aB e
 have hz:(fs.map (·.1)).length<=sizeLine:=by rw [ZpC,sizeLine_eq];omega
 refine Ta I.en O c.sa c.po n.wD c.hd wi hz fun h' O' sb=>h _ ?_
 have hd:∃ o,h'.get? dx=some o:=let ⟨o,_,_,e',_⟩:=O'.ns;⟨o,e'⟩
 refine I.write (x:=a) (e:=dx) (by rw [e];exact True.intro) (.inr ho) (fun b q hb z=>(sb.2 b hb).trans z) hd ?_
 refine ⟨by rw [bo O.ne];exact ho,?_,O.ne,O'.obj,_,O'.ns,fun g=>?_,fun g hg=>?_⟩
 ·have:=z9 f y fs;omega
 ·show jI ((dB f y fs).lookup g) (if g=f then some u else mA g)
  rw [Me]
  by_cases q:g=f
  ·rw [if_pos q,if_pos q];exact ry
  ·rw [if_neg q,if_neg q];exact r g
 ·by_cases q:g=f
  ·rw [q];exact (DH f y fs).1
  ·refine (DH f y fs).2 g (wi g fun z=>hg ?_)
   show (if g=f then some u else mA g)=none
   rw [if_neg q];exact z
theorem Inv.made (I:Inv X pins σ H s):Inv X pins σ (upd (upd H s.heap.objs.size (.own (s.heap.objs.size+1))) (s.heap.objs.size+1) (.ins C s.heap.objs.size []))
  { s with heap:=(s.heap.push Zo6).push (Zo7 C s.heap.objs.size) }:=by
 have e1:(s.heap.push Zo6).get? s.heap.objs.size=some Zo6:=Heap.get?_push_size s.heap rfl
 have e2:((s.heap.push Zo6).push (Zo7 C s.heap.objs.size)).get? (s.heap.objs.size+1)=some (Zo7 C s.heap.objs.size):=by
  have:=Heap.get?_push_size (s.heap.push Zo6) (o:=Zo7 C s.heap.objs.size) rfl
  rwa [Heap.size_push] at this
 have e3:(s.heap.push Zo6).Ns s.heap.objs.size (fun _=>none):=⟨Zo6,#[],_,e1,rfl,(fun e he=>absurd he (by simp)),fun _=>rfl⟩
 have I1:=I.laid (a:=s.heap.objs.size) (o:=.own (s.heap.objs.size+1)) (h':=s.heap.push Zo6) (t':=s.toks) (fun b u q=>Heap.get?_push_of_some _ q) (ZqY _) ⟨_,e1⟩
 refine I1.laid (a:=s.heap.objs.size+1) (o:=.ins C s.heap.objs.size []) (t':=s.toks) (fun b u q=>Heap.get?_push_of_some _ q) (Nat.le_of_eq (Heap.size_push _ _)) ?_
 have ne:s.heap.objs.size≠s.heap.objs.size+1:=ZqZ (Zq9 _)
 refine ⟨by rw [bo ne,cq],Zq3 _,ne,e2,fun _=>none,(Heap.Ns1.of_empty e3).at fun o q=>Heap.get?_push_of_some _ q,fun _=>True.intro,fun y hy=>absurd rfl hy⟩
theorem OW {prog:Program}{w:World}{env:Env}{e:Expr}{f:Str}{pos:Pos}{s:Shared}{Q:Value->Shared->Prop} (hb:attributeBase e f env (eval e env)=eval e env)
  (h:wpAny (model prog w) A (eval e env) (fun o s₁=>wpAny (model prog w) A (getAttr o f true) Q E s₁) E s):wpAny (model prog w) A (eval (.Attribute e f pos) env) Q E s :=
 Attribute_any_ h (by rw [arm_eval_Attribute,hb])
end
noncomputable def m4 (K:ZoW) (ta:TE) (f:Str):TE:=fun σ H Q=>ta σ H fun x H1=>∃ a C dx fs v,x=.ref a/\H1 a=some (.ins C dx fs)/\mV K C/\ox K C f/\fs.lookup f=some v/\Q v H1
noncomputable def mj (K:ZoW) (ta tv:TE) (f:Str):TS:=fun D σ H=>tv σ H fun y H1=>ta σ H1 fun x H2=>∃ a C dx fs,x=.ref a/\H2 a=some (.ins C dx fs)/\mV K C/\ox K C f/\fs.length<1000 /\
 D.nx σ (upd H2 a (.ins C dx (dB f y fs)))
section
variable {X:Cx}{o e value:Expr}{f:Str}{pos pos' Gk:Pos}{ta tv:TE}
theorem GZ (he:PE X e ta) (hb:attributeBase e f X.env (eval e X.env)=eval e X.env):PE X (.Attribute e f pos) (m4 X.K ta f):=by
 intro pins s σ H Q I h
 refine OW hb (aE (he pins s σ H _ I h) fun u s1 ⟨x,H1,I1,rx,a,C,dx,fs,v,ex,ea,c,n,l,q⟩=>?_)
 subst ex
 obtain rfl:u=Value.ref a:=rx
 exact TH I1 ea c n l fun u' s2 I2 ru=>⟨v,H1,I2,ru,q⟩
theorem DV (ha:PE X o ta) (hv:PE X value tv) (hs:swapsWith value (some (.Attribute o f pos')) pos.line X.env=pure false):PS X (.Assign [.Attribute o f pos'] value pos) (mj X.K ta tv f):=by
 intro pins s σ H D I h
 refine plainObj_wpAny_Assign_Attribute (aE (hv pins s σ H _ I h) fun u s1 ⟨y,H1,I1,ry,q⟩=>aE (ha pins s1 σ H1 _ I1 q) fun ov s2 ⟨x,H2,I2,rx,a,C,dx,fs,ex,ea,c,n,l,q2⟩=>?_) hs
 subst ex
 obtain rfl:ov=Value.ref a:=rx
 exact RI I2 ea c n l ry fun s3 I3=>⟨σ,_,I3,q2⟩
end
section
variable {X:Cx}{pins:List (Addr × Obj)}{σ:St}{H:Hp}{s:Shared}{A:Around}{E:Value->Shared->Prop}{Q:Value->Shared->Prop}{c:Value}{b:Bool}
inductive fA (K:ZoW) (H:Hp):V->Value->Prop where
 | non:fA K H .non (.type "NoneType")
 | bl (x:Bool):fA K H (.bl x) (.type "bool")
 | int (i:Int):fA K H (.int i) (.type "int")
 | str (x:Str):fA K H (.str x) (.type "str")
 | flt (x:UInt64):fA K H (.flt x) (.type "float")
 | lst {a:Addr}{xs:List V} (e:H a=some (.lst xs)):fA K H (.ref a) (.type "list")
 | frz {a:Addr}{o:Obj}{xs:List V} (e:H a=some (.frz o (.lst xs))):fA K H (.ref a) (.type "list")
 | tup {a:Addr}{xs:List V} (e:H a=some (.tup xs)):fA K H (.ref a) (.type "tuple")
 | dK {a:Addr}{kvs:List (Key × V)} (e:H a=some (.dK kvs)):fA K H (.ref a) (.type "dict")
 | dT {a:Addr}{kvs:List (List Key × V)} (e:H a=some (.dT kvs)):fA K H (.ref a) (.type "dict")
 | ins {a C dx:Addr}{fs:List (Str × V)} (e:H a=some (.ins C dx fs)) (cl:mV K C) (ha:Zo0 K (.ref C) "__class__" = some (some (.builtin "object.__class__")))
   (hn:Zpk K (.builtin "object.__class__") "__get__" = some (some (.builtin "getset_descriptor.__get__"))) (B9:PySem.W.takesIn K (.builtin "object.__class__")=some true)
   (hm:Zpl K C (.type "object")=some true):fA K H (.ref a) (.ref C)
theorem ML {x:V}{u t:Value} (I:Inv X pins σ H s) (rx:aP x u) (ty:fA X.K H x t) (e:ZoX X.K t c=some b) (h:∀ tk,Q (.bool b) { s with toks:=tk }) :
  wpAny (model X.prog X.w) A (call (.builtin "isinstance") [u,c]) Q E s:=by
 cases ty with
 | non=>cases (show u=Value.none from rx);exact Zo3 PySem.W.kitx_none I.en True.intro e (fun z=>nomatch z) h
 | bl y=>cases (show u=Value.bool y from rx);exact Zo3 PySem.W.kitx_bool I.en True.intro e (fun z=>nomatch z) h
 | int i=>obtain ⟨t,q⟩:=(show ∃ t,u=Value.int i t from rx);cases q;exact Zo3 PySem.W.kitx_int I.en True.intro e (fun z=>nomatch z) h
 | str y=>obtain ⟨t,q⟩:=(show ∃ t,u=Value.str y t from rx);cases q;exact Zo3 PySem.W.kitx_str I.en True.intro e (fun z=>nomatch z) h
 | flt y=>obtain ⟨t,q⟩:=(show ∃ t,u=Value.float y t from rx);cases q;exact Zo3 PySem.W.kitx_float I.en True.intro e (fun z=>nomatch z) h
 | @lst a xs ea =>
  cases (show u=Value.ref a from rx)
  obtain ⟨_,_,n,_,h1⟩:=(show dA X.prog X.w H s.heap a (.lst xs) from I.aB a _ ea)
  exact Zo3 PySem.W.kitx_list I.en ⟨_,h1,rfl⟩ e (fun z=>nomatch z) h
 | @frz a ob xs ea =>
  cases (show u=Value.ref a from rx)
  obtain ⟨_,_,_,n,_,h1⟩:=(show dA X.prog X.w H s.heap a (.frz ob (.lst xs)) from I.aB a _ ea)
  exact Zo3 PySem.W.kitx_list I.en ⟨_,h1,rfl⟩ e (fun z=>nomatch z) h
 | @tup a xs ea =>
  cases (show u=Value.ref a from rx)
  obtain ⟨_,_,_,p⟩:=(show dA X.prog X.w H s.heap a (.tup xs) from I.aB a _ ea)
  obtain ⟨o,h1,h2,_⟩:=p
  exact Zo3 PySem.W.kitx_tuple I.en ⟨o,h1,h2⟩ e (fun z=>nomatch z) h
 | @dK a kvs ea =>
  cases (show u=Value.ref a from rx)
  obtain ⟨_,_,vs,_,p⟩:=(show dA X.prog X.w H s.heap a (.dK kvs) from I.aB a _ ea)
  obtain ⟨o,es,ep,h1,h2,_⟩:=p
  exact Zo3 PySem.W.kitx_dict I.en ⟨o,h1,h2.1⟩ e (fun z=>nomatch z) h
 | @dT a kvs ea =>
  cases (show u=Value.ref a from rx)
  obtain ⟨_,_,xs,_,o,es,ep,h1,h2,_⟩:=(show dA X.prog X.w H s.heap a (.dT kvs) from I.aB a _ ea)
  exact Zo3 PySem.W.kitx_dict I.en ⟨o,h1,h2.1⟩ e (fun z=>nomatch z) h
 | @ins a C dx fs ea cl ha hn B9 hm =>
  cases (show u=Value.ref a from rx)
  obtain ⟨mA,O,_⟩:=C1 I.aB ea
  obtain ⟨od,J,_⟩:=O.look
  exact Zo3 (PySem.W.kitx_own (cl.get _) cl.hd ha hn B9 hm) I.en J e (fun z=>nomatch z) h
end
structure aX (k:Nat) (A:Around):Prop where
 hd:A.handled=none
 dp:A.depth+3 * k+5<recursionLimit
 un:A.units+16 * k+200<cLine
theorem aX.mono {j k:Nat}{A:Around} (r:aX k A) (h:j<=k):aX j A:=⟨r.hd,by have:=r.dp;omega,by have:=r.un;omega⟩
theorem aX.deeper {k:Nat}{A:Around} (r:aX (k+1) A) (env:Env):aX k (A.deeper env) :=
 ⟨r.hd,by have:=r.dp;show A.depth+1+3 * k+5<_;omega,by have:=r.un;show A.units+3+16 * k+200<_;omega⟩
theorem aX.in1 {k:Nat}{A:Around} (r:aX (k+1) A):aX k A.in1 :=
 ⟨r.hd,by have:=r.dp;show A.depth+3 * k+5<_;omega,by have:=r.un;show A.units+1+16 * k+200<_;omega⟩
theorem Qj {A:Around}{C:Addr}{us:List Value}{kw:List (Str × Value)}:(A.under (.builtin "type.__call__" ⟨.ref C :: us,kw⟩)).depth=A.depth+1:=by
 first | rfl | simp [Around.under,Code.weight,Code.isCreation,Code.isGuard,Code.isCaller,Code.frames,Code.isFrame,guardIds]
theorem UN {A:Around}{C:Addr}{us:List Value}{kw:List (Str × Value)}:(A.under (.builtin "type.__call__" ⟨.ref C :: us,kw⟩)).units=A.units+1:=by
 first | rfl | simp [Around.under,Code.cUnits,Code.frames,Code.isFrame]
theorem aX.make {k:Nat}{A:Around} (r:aX (k+1) A) (C:Addr) (us:List Value) (kw:List (Str × Value)):aX k (A.under (.builtin "type.__call__" ⟨.ref C :: us,kw⟩)) :=
 ⟨r.hd,by have:=r.dp;rw [Qj];omega,by have:=r.un;rw [UN];omega⟩
theorem aX.depth {k:Nat}{A:Around} (r:aX k A):A.depth<recursionLimit:=by have:=r.dp;omega
theorem aX.units {k:Nat}{A:Around} (r:aX k A):A.units+64<cLine:=by have:=r.un;omega
noncomputable def ar:TA:=fun _ H Q=>Q [] H
noncomputable def ah (ta:TE) (tr:TA):TA:=fun σ H Q=>ta σ H fun x H1=>tr σ H1 fun xs H2=>Q (x :: xs) H2
section
variable {X:Cx}{e:Expr}{es:List Expr}{te:TE}{t:TA}{pos:Pos}
theorem au:PA X [] ar:=fun _ _ _ _ H Q I h=>Calls.spliced_nil ⟨[],H,I,.nil,h⟩
theorem ai (ha:PE X e te) (hr:PA X es t) (hs:starEach (e :: es) X.env=(false,eval e X.env) :: starEach es X.env:=by rfl):PA X (e :: es) (ah te t):=by
 intro pos pins s σ H Q I h
 rw [hs]
 show wpAny _ _ (spliced ((false,eval e X.env) :: backTo pos (starEach es X.env))) _ _ s
 refine Calls.spliced_cons (aE (ha pins s σ H _ I h) fun u s1 ⟨x,H1,I1,r1,q1⟩=>?_)
 exact aE (hr pos pins s1 σ H1 _ I1 q1) fun us s2 ⟨xs,H2,I2,r2,q2⟩=>⟨x :: xs,H2,I2,.cons r1 r2,q2⟩
noncomputable def pK (t:TA):TE:=fun σ H Q=>t σ H fun xs H1=>xs.length<=sizeLine/\∀ p,H1 p=none->Q (.ref p) (upd H1 p (.tup xs))
noncomputable def fH (t:TA):TE:=fun σ H Q=>t σ H fun xs H1=>xs.length<=sizeLine/\∀ p,H1 p=none->Q (.ref p) (upd H1 p (.lst xs))
theorem zW {x1} (h:PA X es t):PE X (.Tuple es x1 pos) (pK t):=by
 intro pins s σ H Q I hq
 refine wpAny_Tuple_spliced (aE (h pos pins s σ H _ I hq) fun us s1 ⟨xs,H1,I1,r,z,q⟩=>⟨by rw [<- r.length];exact z,?_⟩)
 have hf:H1 s1.heap.objs.size=none:=I1.aB.fresh (ZqY _)
 refine ⟨.ref s1.heap.objs.size,upd H1 s1.heap.objs.size (.tup xs),I1.laid (t':=s1.toks) (fun b u e=>Heap.get?_push_of_some _ e) (ZqY _) ?_,rfl,q _ hf⟩
 exact ⟨z,us,r,⟨_,Heap.get?_push_size _ rfl,rfl,_,rfl⟩⟩
theorem gN (h:PA X es t):PE X (.List es pos) (fH t):=by
 intro pins s σ H Q I hq
 refine wpAny_List_spliced (aE (h pos pins s σ H _ I hq) fun us s1 ⟨xs,H1,I1,r,z,q⟩=>⟨by rw [<- r.length];exact z,?_⟩)
 have hf:H1 s1.heap.objs.size=none:=I1.aB.fresh (ZqY _)
 refine ⟨.ref s1.heap.objs.size,upd H1 s1.heap.objs.size (.lst xs),I1.laid (t':=s1.toks) (fun b u e=>Heap.get?_push_of_some _ e) (ZqY _) ?_,rfl,q _ hf⟩
 exact ⟨z,us,0,r,Heap.get?_push_size _ rfl⟩
end
noncomputable abbrev Sp:=List V->Hp->VK->XK->Prop
noncomputable abbrev jq:=List Env->Hp->Shared->XK->Value->Shared->Prop
structure gC (P:Program) (w:World) (K:ZoW) (mg:Str->Option Value) (base:Heap) (A:Around) (outer:List Env) (s:Shared) (H:Hp):Prop where
 frames:A.frames=some outer
 mod:Mod K mg base
 bs:∀ b o,base.get? b=some o->s.heap.get? b=some o/\H b=none
 iO:base.objs.size<=s.heap.objs.size
 cu:s.heap.FunFrames base outer
 jB:∀ b∈gg outer,H b=none
 aB:d6 P w H s.heap
 bare:AllBare s.gens
noncomputable def CE (outer:List Env) (P:Program) (w:World) (H:Hp) (s:Shared) (Q:VK) (u:Value) (s':Shared):Prop :=
 ∃ v H',s'.os=s.os/\AllBare s'.gens/\Un (gg outer) [] H H' s.heap s'.heap/\d6 P w H' s'.heap/\aP v u/\Q v H'
noncomputable def CR (CX:jq) (outer:List Env) (P:Program) (w:World) (H:Hp) (s:Shared) (Q:VK) (E:XK) (r:Result) (s':Shared):Prop :=
 match r with
 | .ok (.ret u)=>CE outer P w H s Q u s'
 | .ok _=>False
 | .error e=>CX outer H s E e s'
structure aJ (P:Program) (w:World) (K:ZoW) (mg:Str->Option Value) (base:Heap) (CX:jq) (k:Nat) (f:Addr) (fd:FuncData) (ps:List Str) (sp:Sp):Prop where
 len:∀ vs H Q E,sp vs H Q E->vs.length=ps.length
 run:∀ (A:Around) (outer:List Env) (s:Shared) (H:Hp) (args:Args) (us:List Value) (vs:List V) (Q:VK) (E:XK),aX k A->gC P w K mg base A outer s H->BindsTo s fd args (ps.zip us)->Vals vs us->sp vs H Q E ->
  codeAny (model P w) A (.call (.ref f) args) (CR CX outer P w H s Q E) s
theorem gC.make {P:Program}{w:World}{K:ZoW}{mg:Str->Option Value}{base:Heap}{A:Around}{outer:List Env}{s:Shared}{H:Hp} (e:gC P w K mg base A outer s H) (C:Addr) (us:List Value) (kw:List (Str × Value)) :
  gC P w K mg base (A.under (.builtin "type.__call__" ⟨.ref C :: us,kw⟩)) outer s H:=⟨by first | exact e.frames | (simpa [Around.under,Code.envs,Code.isFrame,pushEnvs] using e.frames),e.mod,e.bs,e.iO,e.cu,e.jB,e.aB,e.bare⟩
theorem gC.in1 {P:Program}{w:World}{K:ZoW}{mg:Str->Option Value}{base:Heap}{A:Around}{outer:List Env}{s:Shared}{H:Hp} (e:gC P w K mg base A outer s H) :
  gC P w K mg base A.in1 outer s H:=⟨e.frames,e.mod,e.bs,e.iO,e.cu,e.jB,e.aB,e.bare⟩
section
variable {X:Cx}{pins:List (Addr × Obj)}{σ:St}{H:Hp}{s s':Shared}
theorem Inv.oK (I:Inv X pins σ H s):gC X.prog X.w X.K X.mg X.base X.A X.stack s H :=
 ⟨I.ok.frames,I.ok.mod,I.bs,Zq0 I.ok.iO I.sz,I.stack,I.fG,I.aB,I.bare⟩
theorem Inv.after {Q:VK}{u:Value} (I:Inv X pins σ H s) (h:CE X.stack X.prog X.w H s Q u s'):EP X pins σ Q u s':=by
 obtain ⟨v,H',os,bare,un,aB,r,q⟩:=h
 obtain ⟨hh,g,d,t,os'⟩:=s'
 obtain rfl:os'=s.os:=os
 exact ⟨v,H',I.call (h':=hh) (g':=g) (d':=d) (t':=t) (ch:=[]) un aB bare (fun b z=>absurd z (by simp)),r,q⟩
end
noncomputable def bS (sp:Sp) (d5:List V) (E:XK) (t:TA):TE:=fun σ H Q=>t σ H fun vs H1=>sp (vs ++ d5) H1 Q E
noncomputable def B5 (C:Addr) (m:Str) (sp:Sp) (d5:List V) (E:XK) (ta:TE) (t:TA):TE:=fun σ H Q=>ta σ H fun x H1=>∃ a dx fs,x=.ref a/\H1 a=some (.ins C dx fs)/\fs.lookup m=none /\
 t σ H1 fun vs H2=>sp (x :: (vs ++ d5)) H2 Q E
noncomputable def Hy (C:Addr) (sp:Sp) (d5:List V) (E:XK) (t:TA):TE:=fun σ H Q=>t σ H fun vs H1=>∀ x dx,H1 x=none->H1 dx=none->dx≠x ->
 sp (.ref x :: (vs ++ d5)) (upd (upd H1 dx (.own x)) x (.ins C dx [])) (fun v H2=>v=.non/\Q (.ref x) H2) E
noncomputable def kq (K:ZoW) (fd:FuncData) (ps:List Str) (ds:List Value):Prop :=
 ∀ (s:Shared) (us:List Value),K.In s.heap->(us ++ ds).length=ps.length->BindsTo s fd ⟨us,[]⟩ (ps.zip (us ++ ds))
theorem kq.all {K:ZoW}{fd:FuncData}{ps:List Str} (h:∀ us:List Value,us.length=ps.length->bindArgs fd ⟨us,[]⟩=pure (ps.zip us)):kq K fd ps []:=fun s us _ hl=>by
 rw [Zp4] at hl ⊢
 exact .of_eq (h us hl)
noncomputable def mL (CX:jq) (X:Cx) (E:XK):Prop:=∀ (pins:List (Addr × Obj)) (σ:St) (H:Hp) (s:Shared) (e:Value) (s':Shared),Inv X pins σ H s->CX X.stack H s E e s'->X.xe e s'
section
variable {X:Cx}{CX:jq}{k:Nat}{f C:Addr}{fd:FuncData}{ps:List Str}{sp:Sp}{d5:List V}{ds:List Value}{E:XK}{x m:Str}{p pos apos:Pos}{e o:Expr}{es:List Expr}{ta:TE}{t:TA}
theorem JL {pins:List (Addr × Obj)}{σ:St}{H:Hp}{s:Shared}{Q:VK}{us:List Value}{vs:List V} (F:aJ X.prog X.w X.K X.mg X.base CX k f fd ps sp) (hr:aX k X.A) (hb:kq X.K fd ps ds) (hd:Vals d5 ds) (hx:mL CX X E)
  (I:Inv X pins σ H s) (r:Vals vs us) (h:sp (vs ++ d5) H Q E):wpAny (model X.prog X.w) X.A (call (.ref f) us) (EP X pins σ Q) X.xe s:=by
 have r2:Vals (vs ++ d5) (us ++ ds):=r.append hd
 have hl:(us ++ ds).length=ps.length:=by rw [<- r2.length];exact F.len _ _ _ _ h
 refine wpAny_call (codeAny_mono (F.run X.A X.stack s H ⟨us,[]⟩ (us ++ ds) (vs ++ d5) Q E hr I.oK (hb s us I.en hl) r2 h) fun r s' hq=>?_)
 cases r with
 | error e=>exact hx pins σ H s e s' I hq
 | ok fl =>
  cases fl with
  | ret u=>exact I.after hq
  | next=>exact False.elim hq
  | brk=>exact False.elim hq
  | cont=>exact False.elim hq
theorem kM (F:aJ X.prog X.w X.K X.mg X.base CX k f fd ps sp) (hr:aX k X.A) (hg:Gl X x) (hm:X.mg x=some (.ref f)) (hk:Zo5 X.K (.ref f)=true) (hb:kq X.K fd ps ds) (hd:Vals d5 ds) (hx:mL CX X E)
  (ha:PA X (e :: es) t) (iZ:(x == ("__debug__" : Str))=false:=by decide) (he:starEach (e :: es) X.env=(false,eval e X.env) :: starEach es X.env:=by rfl) (gx:(backTo pos (starEach es X.env)).any (·.1)=false:=by rfl) :
  PE X (.Call (.Name x p) (e :: es) [] pos) (bS sp d5 E t):=by
 intro pins s σ H Q I h
 refine wpAny_Call_Name_kw (pO I hg hm ?_ iZ)
 refine Zpe (h₀:=X.base) I.ok.mod.o9 hk (aE (ha pos pins s σ H _ I h) fun us s1 ⟨vs,H1,I1,r,q⟩=>⟨I1.en,?_⟩) he gx
 exact JL F hr hb hd hx I1 r q
theorem Jq {pl:Sem Bool} (he:PE X o ta) (c:mV X.K C) (hm:Meth X.K C m f) (F:aJ X.prog X.w X.K X.mg X.base CX k f fd ps sp) (hr:aX k X.A) (hb:kq X.K fd ps ds) (hd:Vals d5 ds) (hx:mL CX X E)
  (ht:eval (.Call (.Attribute o m apos) [] [] pos) X.env=(do
   let ov <- eval o X.env
   standAt apos.atName
   let (f,first) <- holding [ov] (getMethod ov m pl)
   callWith pos f first (backTo pos (starEach [] X.env)) (backToKw pos (keywordEach [] X.env))):=by rfl) :
  PE X (.Call (.Attribute o m apos) [] [] pos) (B5 C m sp d5 E ta ar):=by
 intro pins s σ H Q I h
 refine PySem.W.methodCall_KW (pl:=pl) (aE (he pins s σ H _ I h) fun u s1 ⟨x,H1,I1,rx,a,dx,fs,ex,ea,l,q⟩=>?_) ht
 subst ex
 obtain rfl:u=Value.ref a:=rx
 refine Ub I1 ea c hm l ?_
 exact PySem.W.callWith_K0 (first:=[.ref a]) I1.en hm.kp (JL (us:=[.ref a]) (vs:=[.ref a]) F hr hb hd hx I1 (.cons rfl .nil) q)
structure Mk (K:ZoW) (C f:Addr):Prop where
 makes:Zpj K C=true
 init:Zo0 K (.ref C) "__init__" = some (some (.ref f))
 fn:Zpd K (.ref f)=true
 kp:Zo5 K (.ref C)=true
theorem Rn {pins:List (Addr × Obj)}{σ:St}{H:Hp}{s:Shared}{Q:VK}{us:List Value}{vs:List V} (M:Mk X.K C f) (F:aJ X.prog X.w X.K X.mg X.base CX k f fd ps sp) (hr:aX (k+1) X.A) (hb:kq X.K fd ps ds) (hd:Vals d5 ds)
  (hx:mL CX X E) (I:Inv X pins σ H s) (r:Vals vs us)
  (h:∀ x dx,H x=none->H dx=none->dx≠x->sp (.ref x :: (vs ++ d5)) (upd (upd H dx (.own x)) x (.ins C dx [])) (fun v H2=>v=.non/\Q (.ref x) H2) E) :
  wpAny (model X.prog X.w) X.A (call (.ref C) us) (EP X pins σ Q) X.xe s:=by
 have hq:=h (s.heap.objs.size+1) s.heap.objs.size (I.aB.fresh (Zq8 _)) (I.aB.fresh (ZqY _)) (ZqZ (Zq9 _))
 have I2:=Inv.made (C:=C) I
 have r2:Vals (V.ref (s.heap.objs.size+1) :: (vs ++ d5)) (Value.ref (s.heap.objs.size+1) :: (us ++ ds)):=.cons rfl (r.append hd)
 have hl:(Value.ref (s.heap.objs.size+1) :: us ++ ds).length=ps.length:=by
  have e:=r2.length
  rw [F.len _ _ _ _ hq] at e
  exact e.symm
 refine wpAny_call (Sd (f:=f) I.en M.makes M.init (beq_iff_eq.mp M.fn) (codeAny_mono (F.run _ X.stack _ _ ⟨Value.ref (s.heap.objs.size+1) :: us,[]⟩ (Value.ref (s.heap.objs.size+1) :: (us ++ ds)) _ _ E (hr.make C us [])
  (I2.oK.make C us []) (hb _ (Value.ref (s.heap.objs.size+1) :: us) I2.en hl) r2 hq) fun r s' hq'=>?_))
 cases r with
 | error e=>exact hx pins σ _ _ e s' I2 hq'
 | ok fl =>
  cases fl with
  | ret u =>
   obtain ⟨v,H',I3,rv,ev,q3⟩:=I2.after hq'
   subst ev
   exact ⟨rv,⟨V.ref (s.heap.objs.size+1),H',I3,rfl,q3⟩⟩
  | next=>exact False.elim hq'
  | brk=>exact False.elim hq'
  | cont=>exact False.elim hq'
theorem SJ (M:Mk X.K C f) (F:aJ X.prog X.w X.K X.mg X.base CX k f fd ps sp) (hr:aX (k+1) X.A) (hg:Gl X x) (hm:X.mg x=some (.ref C)) (hb:kq X.K fd ps ds) (hd:Vals d5 ds) (hx:mL CX X E)
  (ha:PA X (e :: es) t) (iZ:(x == ("__debug__" : Str))=false:=by decide) (he:starEach (e :: es) X.env=(false,eval e X.env) :: starEach es X.env:=by rfl) (gx:(backTo pos (starEach es X.env)).any (·.1)=false:=by rfl) :
  PE X (.Call (.Name x p) (e :: es) [] pos) (Hy C sp d5 E t):=by
 intro pins s σ H Q I h
 refine wpAny_Call_Name_kw (pO I hg hm ?_ iZ)
 refine Zpe (h₀:=X.base) I.ok.mod.o9 M.kp (aE (ha pos pins s σ H _ I h) fun us s1 ⟨vs,H1,I1,r,q⟩=>⟨I1.en,?_⟩) he gx
 exact Rn M F hr hb hd hx I1 r q
end
noncomputable def PK (X:Cx) (J0:List Keyword) (t:TA):Prop :=
 ∀ (pos:Pos) (pins:List (Addr × Obj)) (s:Shared) (σ:St) (H:Hp) (Q:List V->Hp->Prop),Inv X pins σ H s->t σ H Q->wpAny (model X.prog X.w) X.A (evalAll ((backToKw pos (keywordEach J0 X.env)).map (·.2))) (AP X pins σ Q) X.xe s
section
variable {X:Cx}{CX:jq}{k:Nat}{f C:Addr}{fd:FuncData}{ps ks:List Str}{sp:Sp}{E:XK}{x m:Str}{p pos apos Sl:Pos}{e o:Expr}{es:List Expr}{J0:List Keyword}{te ta:TE}{t tk:TA}{nm:Option Str}
structure Gr (K:ZoW) (fd:FuncData) (ps ks:List Str) (g:List Value->List Value->List Value) (gV:List V->List V->List V):Prop where
 to:∀ (s:Shared) (us ws:List Value),K.In s.heap->(g us ws).length=ps.length->BindsTo s fd ⟨us,ks.zip ws⟩ (ps.zip (g us ws))
 rel:∀ {vs:List V}{us:List Value}{zs:List V}{ws:List Value},Vals vs us->Vals zs ws->Vals (gV vs zs) (g us ws)
variable {g:List Value->List Value->List Value}{gV:List V->List V->List V}
end
structure aj (N P:List Str) (sc:Scope):Prop where
 kind:sc.kind=.function
 co:sc.isCoroutine=false
 gen:sc.isGenerator=false
 nd:N.Nodup
 pre:N.take P.length=P
 par:∀ x∈P,sc.names.lookup x=some .local\/sc.names.lookup x=some .cell
 u4:∀ y∈sc.names,y.2≠.free
theorem KC {kindOf:Str->Option NameKind}{x:Str}:∀ {binds:List (Str × Value)}{m:Str->Option Value},(∀ v,(x,v) ∉ binds)->bindL kindOf binds m x=m x
 | [],_,_=>rfl
 | (n,v) :: r,m,h=>by
  unfold bindL
  rw [KC fun w hw=>h w (ZpR _ hw)]
  split
  ·have:x≠n:=by rintro rfl;exact h v ZpZ
   simp [this]
  ·rfl
theorem LL {kindOf:Str->Option NameKind}{x:Str}:∀ {binds:List (Str × Value)}{m:Str->Option Value},(∀ v,(x,v) ∉ binds)->bindC kindOf binds m x=m x
 | [],_,_=>rfl
 | (n,v) :: r,m,h=>by
  unfold bindC
  rw [LL fun w hw=>h w (ZpR _ hw)]
  split
  ·rfl
  ·have:x≠n:=by rintro rfl;exact h v ZpZ
   simp [this]
theorem JE {kindOf:Str->Option NameKind}{x:Str}{v:Value}:∀ {P:List Str}{vs:List Value}{i:Nat}{m:Str->Option Value},P.Nodup->P[i]? = some x->vs[i]? = some v->kindOf x=some .local ->
  bindL kindOf (P.zip vs) m x=some v
 | [],_,_,_,_,h,_,_=>by simp at h
 | _ :: _,[],_,_,_,_,h,_=>by simp at h
 | p :: P,w :: vs,0,m,nd,h1,h2,hk=>by
  simp at h1 h2;subst h1;subst h2
  show bindL kindOf ((p,w) :: P.zip vs) m p=_
  unfold bindL
  rw [KC fun v hv=>(ZqE.mp nd).1 (ZqF hv).1,if_pos hk]
  simp
 | p :: P,w :: vs,i+1,m,nd,h1,h2,hk=>by
  show bindL kindOf ((p,w) :: P.zip vs) m x=_
  unfold bindL
  exact JE (i:=i) (ZqE.mp nd).2 (by simpa using h1) (by simpa using h2) hk
theorem MJ {kindOf:Str->Option NameKind}{x:Str}{v:Value}:∀ {P:List Str}{vs:List Value}{i:Nat}{m:Str->Option Value},P.Nodup->P[i]? = some x->vs[i]? = some v->kindOf x≠some .local ->
  bindC kindOf (P.zip vs) m x=some v
 | [],_,_,_,_,h,_,_=>by simp at h
 | _ :: _,[],_,_,_,_,h,_=>by simp at h
 | p :: P,w :: vs,0,m,nd,h1,h2,hk=>by
  simp at h1 h2;subst h1;subst h2
  show bindC kindOf ((p,w) :: P.zip vs) m p=_
  unfold bindC
  rw [LL fun v hv=>(ZqE.mp nd).1 (ZqF hv).1,if_neg hk]
  simp
 | p :: P,w :: vs,i+1,m,nd,h1,h2,hk=>by
  show bindC kindOf ((p,w) :: P.zip vs) m x=_
  unfold bindC
  exact MJ (i:=i) (ZqE.mp nd).2 (by simpa using h1) (by simpa using h2) hk
noncomputable def jM (N:List Str) (vs:List V):St:=vs.map some ++ Zqi (N.length - vs.length) none
noncomputable def iJ (CX:jq) (P:Program) (w:World) (K:ZoW) (mg:Str->Option Value) (base:Heap) (N:List Str) (qual:Str) (scope:Scope) (f:Addr) (cd:Value) (A:Around) (outer:List Env) (s:Shared) (H:Hp) (E:XK):Cx where
 prog:=P
 w:=w
 K:=K
 mg:=mg
 base:=base
 A:=A.deeper (envOfC qual scope s.heap.objs.size f cd)
 N:=N
 s₀:=s
 H₀:=H
 env:=envOfC qual scope s.heap.objs.size f cd
 outer:=outer
 stack:=envOfC qual scope s.heap.objs.size f cd :: outer
 ex:=[]
 calm:=true
 fn:=fun _=>true
 pn:=[]
 xe:=fun e s'=>wpAny (model P w) (A.deeper (envOfC qual scope s.heap.objs.size f cd)) (leaving (envOfC qual scope s.heap.objs.size f cd) e) (fun _ s''=>CX outer H s E e s'') (fun e' s''=>CX outer H s E e' s'') s'
theorem Jk {sc:Scope}{n:Nat}{x:Str} (h:sc.names.lookup x=some .cell):∃ c,(cellsFrom n sc.names []).lookup x=some c:=by
 have q:=Zpm sc.names n [] (.inl h)
 exact Option.isSome_iff_exists.mp q
theorem Jz {CX:jq}{P:Program}{w:World}{K:ZoW}{mg:Str->Option Value}{base:Heap}{N ps:List Str}{qual:Str}{scope:Scope}{f:Addr}{cd:Value}{A:Around}{outer:List Env}{s s1:Shared}{H:Hp}{E:XK}{us:List Value}{vs:List V}
  (S:aj N ps scope) (hd:A.handled=none) (e0:gC P w K mg base A outer s H) (hl:vs.length=ps.length) (r:Vals vs us)
  (x:InCallC s s.heap.objs.size (bindL (envOfC qual scope s.heap.objs.size f cd).kindOf (ps.zip us) fun _=>none) (cellsFrom (s.heap.objs.size+1) scope.names []) (bindC (envOfC qual scope s.heap.objs.size f cd).kindOf (ps.zip us) fun _=>none) s1) :
  Inv (iJ CX P w K mg base N qual scope f cd A outer s H E) [] (jM N vs) H s1:=by
 have gx:ps.length<=N.length:=by have:=congrArg Zp7 S.pre;rw [Zp2] at this;omega
 obtain ⟨h1,tk,rfl,hk⟩:=x.done
 have yY:∀ b:Addr,b ∉ (iJ CX P w K mg base N qual scope f cd A outer s H E).ex:=fun b z=>absurd (show b∈([]:List Addr) from z) (by simp)
 refine ⟨⟨e0.mod,S.kind,rfl,rfl,ZqY _,fun y z c h1 h2=>?_,fun y hy=>?_,fun y c _ h=>?_,fun _=>hd,Around.frames_deeper e0.frames,.inr ⟨rfl,rfl⟩,fun b z=>absurd z (yY b),e0.bs,e0.iO,fun b _ _=>yY b,fun b z=>absurd z (yY b),e0.cu,e0.jB⟩,
  rfl,e0.bare,Un.kept hk,⟨_,x.toInCall.ns,fun i y v h1 h2 h3=>?_⟩,fun y c h=>⟨_,x.cell y c h⟩,e0.aB.fresh (ZqY _),fun y c h=>?_,fun p hp=>absurd (show p∈([]:List (Addr × Obj)) from hp) (by simp),e0.aB.kept hk,?_⟩
 ·exact name_of_addr x.apart (PySem.mem_of_lookup h1) (PySem.mem_of_lookup h2)
 ·have hy:scope.names.lookup y=some .cell\/scope.names.lookup y=some .free:=hy
  rcases hy with hy | hy
  ·exact Jk hy
  ·exact absurd rfl (S.u4 _ (PySem.mem_of_lookup hy))
 ·exact Zq7 (x.above y c (PySem.mem_of_lookup h))
 ·have hi:i<vs.length:=by
   unfold jM at h2
   by_cases hi:i<vs.length
   ·exact hi
   ·rw [ZpW (by simpa using hi)] at h2
    rw [ZqU] at h2
    split at h2 <;> cases h2
  have ha:vs[i]? = some v:=by
   unfold jM at h2
   rw [Zp5 (by simpa using hi),ZpF] at h2
   cases e:vs[i]? with
   | none=>rw [e] at h2;cases h2
   | some a=>rw [e] at h2;cases h2;rfl
  obtain ⟨u,hu,rv⟩:=r.get ha
  have hp:ps[i]? = some y:=by
   rw [<- S.pre,List.getElem?_take_of_lt (by omega)];exact h1
  have MB:ps.Nodup:=by rw [<- S.pre];exact S.nd.sublist (List.take_sublist _ _)
  refine ⟨u,rv,?_⟩
  rcases S.par y (ZpP hp) with k | k
  ·exact .inl ⟨k,JE MB hp hu k⟩
  ·obtain ⟨c,e⟩:=Jk (n:=s.heap.objs.size+1) k
   refine .inr ⟨.inl k,c,e,?_⟩
   have q:=x.cell y c e
   rw [MJ MB hp hu (by show scope.names.lookup y≠_;rw [k];decide)] at q
   exact q
 ·exact e0.aB.fresh (Zq7 (x.above y c (PySem.mem_of_lookup h)))
 ·unfold jM
  show _=N.length
  rw [ZpI,ZpC,ZqK]
  omega
theorem pW {CX:jq}{P:Program}{w:World}{K:ZoW}{mg:Str->Option Value}{base:Heap}{k:Nat}{f:Addr}{name qual:Str}{params:Arguments}{body:List Stmt}{scope:Scope}{dV kV doc pm aG ct oc:Value}{an od:Option Addr}
  {jw:Array (Option Value)}{N ps:List Str}{sp:Sp} (lk:K.lookup f=some ⟨oc,od,.func (Zo2 name qual params body scope dV kV doc pm an aG ct),jw⟩) (gm:Zo8 K aG qual=true) (S:aj N ps scope)
  (len:∀ vs H Q E,sp vs H Q E->vs.length=ps.length)
  (fK:∀ (A:Around) (outer:List Env) (s:Shared) (H:Hp) (vs:List V) (Q:VK) (E:XK),aX k (A.deeper (envOfC qual scope s.heap.objs.size f aG))->sp vs H Q E ->
   ∃ t,gy (iJ CX P w K mg base N qual scope f aG A outer s H E) body t/\t { nx:=fun _ H'=>Q .non H',rt:=Q } (jM N vs) H) :
  aJ P w K mg base CX (k+1) f (Zo2 name qual params body scope dV kV doc pm an aG ct) ps sp:=by
 refine ⟨len,fun A outer s H args us vs Q E hr e0 hb r jd=>?_⟩
 have hl:=len _ _ _ _ jd
 have KX:K.In s.heap:=e0.mod.o9.keeps fun b o e=>(e0.bs b o e).1
 have lim:s.heap.NoLimit:=e0.mod.nolimit.keeps fun b o e=>(e0.bs b o e).1
 have kA:∀ y∈ps.zip us,scope.names.lookup y.1=some .local\/(scope.names.lookup y.1=some .cell/\((cellsFrom (s.heap.objs.size+1) scope.names []).lookup y.1).isSome=true):=fun ⟨n,v⟩ hy=>by
  rcases S.par n (ZqF hy).1 with q | q
  ·exact .inl q
  ·exact .inr ⟨q,Zpm _ _ _ (.inl q)⟩
 refine codeAny_call_function hr.depth (KX _ _ lk) rfl S.co S.gen rfl (Zpq KX gm) (hb _ _ _ _ ?_)
 refine wpAny_newFunctionEnv_cells S.kind kA fun env he s1 x=>?_
 subst he
 refine ⟨lim.keeps x.toInCall.keep,codeAny_func ?_⟩
 obtain ⟨t,ht,hq⟩:=fK A outer s H vs Q E (hr.deeper _) jd
 have I:Inv (iJ CX P w K mg base N qual scope f aG A outer s H E) [] (jM N vs) H s1:=Jz S hr.hd e0 hl r x
 refine wpAny_mono (ht [] s1 (jM N vs) H _ I hq) (fun fl s' hs=>?_) fun e s' hs=>hs
 have fin:∀ {σ':St}{H':Hp}{v:V}{u:Value},Inv (iJ CX P w K mg base N qual scope f aG A outer s H E) [] σ' H' s'->aP v u->Q v H'->CE outer P w H s Q u s' :=
  fun {σ' H' v u} J rv q=>⟨v,H',J.os,J.bare,J.base,J.aB,rv,q⟩
 cases fl with
 | ret u =>
  obtain ⟨v,σ',H',J,rv,q⟩:=hs
  exact fin J rv q
 | next =>
  obtain ⟨σ',H',J,q⟩:=hs
  exact fin (v:=V.non) (u:=Value.none) J rfl q
 | brk =>
  obtain ⟨_,_,_,q⟩:=hs
  exact False.elim q
 | cont =>
  obtain ⟨_,_,_,q⟩:=hs
  exact False.elim q
section
variable {X:Cx}{x:Str}{p pos:Pos}{e:Expr}{es:List Expr}{t:TA}{id T:String}{r:List V->Hp->VK->Prop}
noncomputable def bw (r:List V->Hp->VK->Prop) (t:TA):TE:=fun σ H Q=>t σ H fun vs H1=>r vs H1 Q
theorem dX (hc:gI X (.builtin id) r) (hg:Gl X x) (hm:X.mg x=none) (hv:bootBuiltins x=some (.builtin id)) (ha:PA X (e :: es) t) (hn:x ≠ "__name__":=by decide) (iZ:(x == ("__debug__" : Str))=false:=by decide)
  (he:starEach (e :: es) X.env=(false,eval e X.env) :: starEach es X.env:=by rfl) (gx:(backTo pos (starEach es X.env)).any (·.1)=false:=by rfl):PE X (.Call (.Name x p) (e :: es) [] pos) (bw r t):=by
 intro pins s σ H Q I h
 refine wpAny_Call_Name_kw (ou I hg hm hv ?_ hn iZ)
 exact PyProof.Rows.callWith_builtin1 (aE (ha pos pins s σ H _ I h) fun us s1 ⟨vs,H1,I1,r1,q1⟩=>hc pins s1 σ H1 vs us Q I1 r1 q1) he gx
theorem fP (hc:gI X (.type T) r) (hg:Gl X x) (hm:X.mg x=none) (hv:bootBuiltins x=some (.type T)) (ha:PA X (e :: es) t) (hn:x ≠ "__name__":=by decide) (iZ:(x == ("__debug__" : Str))=false:=by decide)
  (he:starEach (e :: es) X.env=(false,eval e X.env) :: starEach es X.env:=by rfl) (gx:(backTo pos (starEach es X.env)).any (·.1)=false:=by rfl):PE X (.Call (.Name x p) (e :: es) [] pos) (bw r t):=by
 intro pins s σ H Q I h
 refine wpAny_Call_Name_kw (ou I hg hm hv ?_ hn iZ)
 exact PyProof.Rows.callWith_type1 (aE (ha pos pins s σ H _ I h) fun us s1 ⟨vs,H1,I1,r1,q1⟩=>hc pins s1 σ H1 vs us Q I1 r1 q1) he gx
end
end L2
namespace HT
open PySem PyProof.Rows
section
open PySem.SeqAt
open PySem.AutoSeq1 (wpAny_loadPart')
open PySem.MeetsSeq PySem.MeetsSeq2 PySem.MeetsSeq3
end
section
variable {prog:Program}{w:World}{A:Around}{E:Value->Shared->Prop}{s:Shared}
noncomputable def ij (n d:Nat):Option Int->Nat
 | none=>d
 | some v=>if v<0 then (v+(n:Int)).toNat else min v.toNat n
theorem HM (n d:Nat):ij n d none=d:=rfl
theorem wU (n d k:Nat):ij n d (some (k:Int))=min k n:=by
 show (if (k:Int)<0 then ((k:Int)+(n:Int)).toNat else min (k:Int).toNat n)=min k n
 rw [if_neg (by omega),Zri]
end
end HT
namespace L2
open PySem PySem.Spec PyProof.Rows
noncomputable abbrev TO:=St->Hp->(Option Int->Hp->Prop)->Prop
noncomputable def PO (X:Cx) (e:Option Expr) (t:TO):Prop :=
 ∀ (pins:List (Addr × Obj)) (s:Shared) (σ:St) (H:Hp) (Q:Option Int->Hp->Prop),Inv X pins σ H s->t σ H Q ->
  wpAny (model X.prog X.w) X.A (evalPart e X.env) (fun u s'=>∃ o H',Inv X pins σ H' s'/\IsPart u o/\Q o H') X.xe s
noncomputable def kJ:TO:=fun _ H Q=>Q none H
noncomputable def Du (t:TE):TO:=fun σ H Q=>t σ H fun x H1=>∃ i,x=.int i/\Q (some i) H1
theorem Nc {ns:List Int}:∀ {us:List Value},Vals (ns.map V.int) us->IntsAre us ns:=by
 induction ns with
 | nil=>intro us r;rw [Zqc] at r;cases r;exact .nil
 | cons n ns ih =>
  intro us r
  rw [ZpD] at r
  cases r with
  | cons r1 r2 =>
   obtain ⟨t,e⟩:=r1
   subst e
   exact .cons n t (ih r2)
section
variable {X:Cx}{e:Expr}{te:TE}{lo hi:Option Expr}{tl th:TO}{pos p2:Pos}
theorem mR:PO X none kJ:=by
 intro pins s σ H Q I h
 rw [evalPart_none]
 exact wpAny_pure ⟨none,H,I,.none,h⟩
theorem O2 (h:PE X e te):PO X (some e) (Du te):=by
 intro pins s σ H Q I hw
 rw [evalPart_some]
 refine aE (h pins s σ H _ I hw) fun u s1 ⟨x,H1,I1,r1,q1⟩=>?_
 obtain ⟨i,rfl,q⟩:=q1
 obtain ⟨t,rfl⟩:=r1
 exact ⟨some i,H1,I1,.int i t,q⟩
noncomputable def oh (X:Cx) (r:V->Option Int->Option Int->Hp->VK->Prop):Prop :=
 ∀ (pins:List (Addr × Obj)) (s:Shared) (σ:St) (H:Hp) (x:V) (v vl vu:Value) (lo hi:Option Int) (sl:Addr) (Q:VK),Inv X pins σ H s->aP x v->s.heap.IsSliceOf sl vl vu .none->IsPart vl lo->IsPart vu hi->r x lo hi H Q ->
  ∃ T id,typeLookup (.type T) "__getitem__" = pure (some (.builtin id))/\s.TypeIs v T/\wpAny (model X.prog X.w) X.A (getItem v (.ref sl)) (EP X pins σ Q) X.xe s
noncomputable def jY (r:V->Option Int->Option Int->Hp->VK->Prop) (te:TE) (tl th:TO):TE:=fun σ H Q=>te σ H fun x H1=>tl σ H1 fun l H2=>th σ H2 fun u H3=>r x l u H3 Q
theorem kR {r:V->Option Int->Option Int->Hp->VK->Prop} (hr:oh X r) (he:PE X e te) (hl:PO X lo tl) (hu:PO X hi th):PE X (.Subscript e (.Slice lo hi none p2) pos) (jY r te tl th):=by
 intro pins s σ H Q I h
 refine Subscript_ (aE (he pins s σ H _ I h) fun v s1 ⟨x,H1,I1,r1,q1⟩=>?_)
 refine wpAny_Slice (aE (hl pins s1 σ H1 _ I1 q1) fun vl s2 ⟨l,H2,I2,pl,q2⟩=>aE (hu pins s2 σ H2 _ I2 q2) fun vu s3 ⟨u,H3,I3,pu,q3⟩=>?_)
 rw [evalPart_none]
 refine wpAny_pure ?_
 have I4:Inv X pins σ H3 { s3 with heap:=s3.heap.push { cls:=.type "slice",data:=.fields #[vl,vu,.none] } }:=I3.kept (t':=s3.toks) fun b ob q=>Heap.get?_push_of_some _ q
 obtain ⟨T,id,hT,ht,hg⟩:=hr pins { s3 with heap:=s3.heap.push { cls:=.type "slice",data:=.fields #[vl,vu,.none] } } σ H3 x v vl vu l u s3.heap.objs.size Q I4 r1 (Heap.IsSliceOf.new ..) pl pu q3
 show wpAny (model X.prog X.w) X.A (subscriptTail e (.Slice lo hi none p2) v (.ref s3.heap.objs.size)) (EP X pins σ Q) X.xe { s3 with heap:=s3.heap.push { cls:=.type "slice",data:=.fields #[vl,vu,.none] } }
 exact tail_any (ops:=[.ref s3.heap.objs.size,v]) ht hT hg (by with_unfolding_all rfl)
noncomputable def fO (xs:List V) (lo hi:Option Int):List V:=(xs.drop (HT.ij xs.length 0 lo)).take (HT.ij xs.length xs.length hi - HT.ij xs.length 0 lo)
theorem T1 (xs:List V) (lo hi:Option Int):(fO xs lo hi).length<=xs.length:=by
 unfold fO
 rw [Zp2,Zp6]
 omega
end
noncomputable def jH (n:Nat) (i:Int):Option Nat:=if 0<=i then (if i<n then some i.toNat else none) else if -(n:Int)<=i then some (i+n).toNat else none
noncomputable def dC {α:Type} (xs:List α) (i:Int):Option α:=(jH xs.length i).bind fun j=>xs[j]?
theorem Jj {n:Nat}{i:Int}{j:Nat} (h:jH n i=some j):seqIndex? i n=some j/\j<n /\ -(n:Int)<=i/\i<n:=by
 unfold jH at h
 by_cases h0:0<=i
 ·rw [if_pos h0] at h
  by_cases h1:i<n
  ·rw [if_pos h1] at h
   have e:i.toNat=j:=Option.some.inj h
   exact ⟨by rw [seqIndex_of h0 h1,e],by omega,by omega,h1⟩
  ·rw [if_neg h1] at h;cases h
 ·rw [if_neg h0] at h
  by_cases h1 : -(n:Int)<=i
  ·rw [if_pos h1] at h
   have e:(i+n).toNat=j:=Option.some.inj h
   exact ⟨by rw [seqIndex_neg (by omega) h1,e],by omega,h1,by omega⟩
  ·rw [if_neg h1] at h;cases h
theorem GH {α:Type}{xs:List α}{i:Int}{v:α} (h:dC xs i=some v):∃ j,seqIndex? i xs.length=some j/\xs[j]? = some v/\j<xs.length /\ -(xs.length:Int)<=i/\i<xs.length:=by
 unfold dC at h
 cases e:jH xs.length i with
 | none=>rw [e] at h;cases h
 | some j =>
  rw [e] at h
  obtain ⟨h1,h2,h3,h4⟩:=Jj e
  exact ⟨j,h1,h,h2,h3,h4⟩
theorem Uj {α:Type}{xs:List α}{j:Nat}{v:α} (h:xs[j]? = some v):dC xs (j:Int)=some v:=by
 have hj:j<xs.length:=(ZpL.mp h).1
 have e:jH xs.length (j:Int)=some j:=by
  unfold jH
  rw [if_pos (by omega),if_pos (by omega)];simp
 unfold dC;rw [e];exact h
noncomputable def Kl (b:Expr):Prop:=∀ o i,subscripted b false o i=operate [o,i] (getItem o i)
noncomputable def j9 (X:Cx) (r:R2):Prop :=
 ∀ (value slice:Expr) (pins:List (Addr × Obj)) (s:Shared) (σ:St) (H:Hp) (x y:V) (v u:Value) (Q:VK),Inv X pins σ H s->aP x v->aP y u->r x y H Q ->
  subscripted slice false v u=operate [v,u] (getItem v u)->wpAny (model X.prog X.w) X.A (subscriptTail value slice v u) (EP X pins σ Q) X.xe s
noncomputable def nq (X:Cx) (id:String) (r:V->List V->Hp->VK->Prop):Prop :=
 ∀ (pins:List (Addr × Obj)) (s:Shared) (σ:St) (H:Hp) (x:V) (xs:List V) (v:Value) (us:List Value) (Q:VK),Inv X pins σ H s->aP x v->Vals xs us->r x xs H Q ->
  wpAny (model X.prog X.w) X.A (call (.builtin id) (v :: us)) (EP X pins σ Q) X.xe s
section
variable {X:Cx}{a b:Expr}{ta tb:TE}{pos:Pos}
theorem j9.or {r r':R2} (h:j9 X r) (h':j9 X r'):j9 X (fun x y H Q=>r x y H Q\/r' x y H Q):=by
 intro value slice pins s σ H x y v u Q I rx ry q hs
 rcases q with q | q
 ·exact h value slice pins s σ H x y v u Q I rx ry q hs
 ·exact h' value slice pins s σ H x y v u Q I rx ry q hs
theorem bN {r:R2} (hr:j9 X r) (ha:PE X a ta) (hb:PE X b tb) (hs:Kl b):PE X (.Subscript a b pos) (af r ta tb):=by
 intro pins s σ H Q I h
 exact Subscript_ (sh ha hb I h fun v u s2 x y H2 I2 rx ry q=>hr a b pins s2 σ H2 x y v u Q I2 rx ry q (hs _ _))
noncomputable def zC (K:ZoW):R2:=fun x y H Q=>∃ p xs i v,x=.ref p/\y=.int i/\aR K H p xs/\dC xs i=some v/\Q v H
noncomputable def wx (K:ZoW):R2:=fun x y H Q=>∃ p xs i v,x=.ref p/\y=.int i/\cW K H p xs/\dC xs i=some v/\Q v H
noncomputable def AB:R2:=fun x y H Q=>∃ z i c,x=.str z/\y=.int i/\z.length<=sizeLine/\dC z.cps.toList i=some c/\Q (.str ⟨#[c]⟩) H
theorem Pk:j9 X (zC X.K):=by
 intro value slice pins s σ H x y v u Q I rx ry h hs
 obtain ⟨p,xs,i,z,rfl,rfl,hq,he,q⟩:=h
 cases rx
 obtain ⟨t,rfl⟩:=ry
 obtain ⟨its,r,pl,hz⟩:=I.list hq
 obtain ⟨j,h1,h2,h3,h4,h5⟩:=GH he
 obtain ⟨w,ew,rw'⟩:=r.get h2
 have hl:=r.length
 have hn:=sE
 have fin:EP X pins σ Q w s:=⟨z,H,I,rw',q⟩
 by_cases h0:0<=i
 ·have hj:i.toNat=j:=by
   rw [seqIndex_of h0 h5] at h1
   exact Option.some.inj h1
  exact item_listR pl.isList h0 (by omega) (by rw [hj];simpa using ew) fin hs
 ·have hj:(i+(its.toArray.size:Int)).toNat=j:=by
   rw [seqIndex_neg (by omega) h4] at h1
   rw [ZpN,<- hl]
   exact Option.some.inj h1
  exact subscriptTail_builtinR (x:=w) pl.isList.typeIs slot_list_getitem.lookup
   (wpAny_getItem_list_neg (Q:=fun r s'=>r=w/\EP X pins σ Q r s') pl.isList (by omega) (by rw [ZpN] <;> omega) (by omega) (by rw [hj];simpa using ew) ⟨rfl,fin⟩) hs
theorem qN:j9 X (wx X.K):=by
 intro value slice pins s σ H x y v u Q I rx ry h hs
 obtain ⟨p,xs,i,z,rfl,rfl,hq,he,q⟩:=h
 cases rx
 obtain ⟨t,rfl⟩:=ry
 obtain ⟨its,r,pl,hz⟩:=I.tuple hq
 obtain ⟨j,h1,h2,h3,h4,h5⟩:=GH he
 obtain ⟨w,ew,rw'⟩:=r.get h2
 have hl:=r.length
 have hn:=sE
 have fin:EP X pins σ Q w s:=⟨z,H,I,rw',q⟩
 exact subscriptTail_builtinR (x:=w) pl.typeIs slot_tuple_getitem.lookup
  (getItem_tuple (j:=j) (Q:=fun r s'=>r=w/\EP X pins σ Q r s') pl (by omega) (by omega) (by rw [ZpN,<- hl];exact h1) (by simpa using ew) ⟨rfl,fin⟩) hs
theorem rK:j9 X AB:=by
 intro value slice pins s σ H x y v u Q I rx ry h hs
 obtain ⟨z,i,c,rfl,rfl,hz,he,q⟩:=h
 obtain ⟨t,rfl⟩:=rx
 obtain ⟨t',rfl⟩:=ry
 obtain ⟨j,h1,h2,h3,h4,h5⟩:=GH he
 have hl:z.cps.toList.length=z.length:=by simp [Str.length]
 rw [hl] at h1 h4 h5
 have hn:=sE
 exact tail_any (typeIs_str s z t) slot_str_getitem.lookup (getItem_str (c:=c) (by
  have e1:decide (i < -(2 ^ 63:Int))=false:=decide_eq_false (by omega)
  have e2:decide (i ≥ 2 ^ 63)=false:=decide_eq_false (by omega)
  rw [e1,e2,Bool.or_false]) (by rw [h1];simpa using h2) ⟨.str ⟨#[c]⟩,H,I.tok _,⟨_,rfl⟩,q⟩) hs
noncomputable def Rw (K:ZoW):R2:=fun x y H Q=>zC K x y H Q\/wx K x y H Q\/AB x y H Q
theorem rX:j9 X (Rw X.K):=Pk.or (qN.or rK)
theorem P7 (its:List Value) (n j:Nat) (u:Value):Obj.mapSeq (·.setIfInBounds j u) { cls:=.type "list",data:=.seq its.toArray n }={ cls:=.type "list",data:=.seq (its.set j u).toArray n }:=by
 simp [Obj.mapSeq]
theorem Inv.lst {pins:List (Addr × Obj)}{σ:St}{H:Hp}{s:Shared}{p:Addr}{xs:List V} (I:Inv X pins σ H s) (h:H p=some (.lst xs)) :
  ∃ (its:List Value) (n:Nat),Vals xs its/\s.heap.get? p=some { cls:=.type "list",data:=.seq its.toArray n }/\xs.length<=sizeLine:=by
 obtain ⟨z,its,n,r,e⟩:=I.aB p _ h
 exact ⟨its,n,r,e,z⟩
theorem Inv.rn {pins:List (Addr × Obj)}{σ:St}{H:Hp}{s:Shared}{p:Addr}{xs ys:List V}{its its':List Value}{n n':Nat}{f:Obj->Obj} (I:Inv X pins σ H s) (h:H p=some (.lst xs))
  (ho:s.heap.get? p=some { cls:=.type "list",data:=.seq its.toArray n }) (hf:f { cls:=.type "list",data:=.seq its.toArray n }={ cls:=.type "list",data:=.seq its'.toArray n' }) (r:Vals ys its') (hz:ys.length<=sizeLine) (t:Nat) :
  Inv X pins σ (upd H p (.lst ys)) { s with heap:=s.heap.update p f,toks:=t }:=by
 have e:(s.heap.update p f).get? p=some { cls:=.type "list",data:=.seq its'.toArray n' }:=by
  rw [Heap.get?_update_self f ho (by rw [hf] <;> rfl),hf]
 refine I.write (x:=p) (e:=p) (by rw [h];trivial) (.inl rfl) (fun b u hb q=>(Heap.get?_update_other _ _ (Ne.symm hb)).trans q) ⟨_,e⟩ ?_
 exact ⟨hz,its',n',r,e⟩
noncomputable def kg:V->V->V->Hp->(Hp->Prop)->Prop:=fun o i v H Q=>∃ p xs k j,o=.ref p/\i=.int k/\H p=some (.lst xs)/\jH xs.length k=some j/\Q (upd H p (.lst (xs.set j v)))
theorem oQ:qV X kg:=by
 intro pins s σ H o i v ov iv u Q I ro ri rv h
 obtain ⟨p,xs,k,j,rfl,rfl,hp,hj,q⟩:=h
 cases ro
 obtain ⟨t,rfl⟩:=ri
 obtain ⟨its,n,r,ho,hz⟩:=I.lst hp
 obtain ⟨h1,h2,h3,h4⟩:=Jj hj
 have hl:=r.length
 have hn:=sE
 have I':Inv X pins σ (upd H p (.lst (xs.set j v))) { s with heap:=s.heap.update p (Obj.mapSeq (·.setIfInBounds j u)) } :=
  I.rn hp ho (P7 its n j u) (r.set rv j) (by rw [Zqf];exact hz) s.toks
 by_cases h0:0<=k
 ·have hk:k.toNat=j:=by
   rw [seqIndex_of h0 h4] at h1
   exact Option.some.inj h1
  exact PySem.W.ki_setAt ho h0 (by omega) (by rw [ZpN,<- hl];exact h4) (by rw [hk];exact ⟨_,I',q⟩)
 ·have hk:(k+(its.toArray.size:Int)).toNat=j:=by
   rw [seqIndex_neg (by omega) h3] at h1
   rw [ZpN,<- hl]
   exact Option.some.inj h1
  exact PySem.W.ki_setBack ho (by omega) (by rw [ZpN,<- hl];exact h3) (by omega) (by rw [hk];exact ⟨_,I',q⟩)
theorem O4 (lo hi:Option Int) (n:Nat):(sliceBounds lo hi none n).1=((HT.ij n 0 lo:Nat):Int)/\(sliceBounds lo hi none n).2.1=((HT.ij n n hi:Nat):Int)/\(sliceBounds lo hi none n).2.2=1:=by
 refine ⟨?_,?_,rfl⟩
 ·cases lo with
  | none=>simp [sliceBounds,HT.ij]
  | some i =>
   simp only [sliceBounds,HT.ij,Option.getD_none,show (1:Int) > 0 by decide,if_true]
   by_cases h:i<0
   ·simp only [h,if_true] <;> omega
   ·simp only [h,if_false] <;> omega
 ·cases hi with
  | none=>simp [sliceBounds,HT.ij]
  | some i =>
   simp only [sliceBounds,HT.ij,Option.getD_none,show (1:Int) > 0 by decide,if_true]
   by_cases h:i<0
   ·simp only [h,if_true] <;> omega
   ·simp only [h,if_false] <;> omega
theorem Pm (its:List Value) (lo hi:Option Int):slicePick its.toArray lo hi none=((its.drop (HT.ij its.length 0 lo)).take (HT.ij its.length its.length hi - HT.ij its.length 0 lo)).toArray:=by
 obtain ⟨h1,h2,h3⟩:=O4 lo hi its.toArray.size
 unfold slicePick
 rw [h1,h2,h3]
 simp only [sliceRange_one,pick_run,ZpN] <;> rfl
noncomputable def De (K:ZoW):V->Option Int->Option Int->Hp->VK->Prop:=fun x lo hi H Q=>∃ a xs,x=.ref a/\aR K H a xs/\∀ p,H p=none->Q (.ref p) (upd H p (.lst (fO xs lo hi)))
theorem QM:oh X (De X.K):=by
 intro pins s σ H x v vl vu lo hi sl Q I rx hs pl pu h
 obtain ⟨a,xs,rfl,hx,q⟩:=h
 cases rx
 obtain ⟨its,r,ht,hz⟩:=I.list hx
 have hlen:=r.length
 refine ⟨"list",_,slot_list_getitem.lookup,ht.isList.typeIs,?_⟩
 refine wpAny_getItem_list_slice ht.isList hs pl pu .none (by simp) ?_ (by rw [ZpN] <;> omega)
 rw [Pm,<- hlen]
 refine ⟨.ref s.heap.objs.size,_,I.laid (t':=s.toks) (o:=.lst (fO xs lo hi)) (fun b ob q=>Heap.get?_push_of_some _ q) (ZqY _) ?_,rfl,q _ (I.aB.fresh (ZqY _))⟩
 exact ⟨Zq0 (T1 xs lo hi) hz,_,0,(r.drop (HT.ij xs.length 0 lo)).take (HT.ij xs.length xs.length hi - HT.ij xs.length 0 lo),Heap.get?_push_size _ rfl⟩
noncomputable def i6:V->Bool
 | .non=>true
 | .bl _=>true
 | .int _=>true
 | .str _=>true
 | _=>false
noncomputable def jX:V->V->Bool
 | .non,.non=>true
 | .bl a,.bl b=>a == b
 | .bl a,.int b=>(if a then 1 else 0) == b
 | .int a,.bl b=>a == (if b then 1 else 0)
 | .int a,.int b=>a == b
 | .str a,.str b=>a == b
 | _,_=>false
theorem F5 {A:Around}{s:Shared}{y x:V}{u v:Value} (ry:aP y u) (rx:aP x v) (fy:i6 y=true) (fx:i6 x=true):SeqAt.EqAt A s u v (jX y x):=by
 cases y with
 | non =>
  cases ry
  cases x with
  | non=>cases rx;exact SeqAt.EqAt.same _
  | bl b=>cases rx;exact SeqAt.EqAt.none_bool b
  | int b=>obtain ⟨t,rfl⟩:=rx;exact SeqAt.EqAt.none_int b t
  | str b=>obtain ⟨t,rfl⟩:=rx;exact SeqAt.EqAt.none_str b t
  | _=>exact absurd (show false=true from fx) Zrs
 | bl a =>
  cases ry
  cases x with
  | non=>cases rx;exact SeqAt.EqAt.bool_none a
  | bl b=>cases rx;exact SeqAt.EqAt.bool_bool a b
  | int b=>obtain ⟨t,rfl⟩:=rx;exact SeqAt.EqAt.bool_int a b t
  | str b=>obtain ⟨t,rfl⟩:=rx;exact SeqAt.EqAt.bool_str a b t
  | _=>exact absurd (show false=true from fx) Zrs
 | int a =>
  obtain ⟨t',rfl⟩:=ry
  cases x with
  | non=>cases rx;exact SeqAt.EqAt.int_none a t'
  | bl b=>cases rx;exact SeqAt.EqAt.int_bool a t' b
  | int b=>obtain ⟨t,rfl⟩:=rx;exact SeqAt.EqAt.int_int a t' b t
  | str b=>obtain ⟨t,rfl⟩:=rx;exact SeqAt.EqAt.int_str a t' b t
  | _=>exact absurd (show false=true from fx) Zrs
 | str a =>
  obtain ⟨t',rfl⟩:=ry
  cases x with
  | non=>cases rx;exact SeqAt.EqAt.str_none a t'
  | bl b=>cases rx;exact SeqAt.EqAt.str_bool a t' b
  | int b=>obtain ⟨t,rfl⟩:=rx;exact SeqAt.EqAt.str_int a t' b t
  | str b=>obtain ⟨t,rfl⟩:=rx;exact SeqAt.EqAt.str_str a t' b t
  | _=>exact absurd (show false=true from fx) Zrs
 | _=>exact absurd (show false=true from fy) Zrs
noncomputable def oH (x:V) (u:Value):Bool:=match u with
 | .none=>jX .non x
 | .bool b=>jX (.bl b) x
 | .int i _=>jX (.int i) x
 | .str z _=>jX (.str z) x
 | _=>false
theorem LR {x y:V}{u:Value} (r:aP y u) (f:i6 y=true):oH x u=jX y x:=by
 cases y with
 | non=>cases r;rfl
 | bl b=>cases r;rfl
 | int i=>obtain ⟨t,rfl⟩:=r;rfl
 | str z=>obtain ⟨t,rfl⟩:=r;rfl
 | _=>exact absurd (show false=true from f) Zrs
theorem Ho {x:V}:∀ {xs:List V}{us:List Value},Vals xs us->xs.all i6=true->us.any (oH x)=xs.any fun y=>jX y x
 | _,_,.nil,_=>rfl
 | y :: xs,u :: us,.cons r t,f=>by
  rw [ZqL,Zrt] at f
  rw [Zqu,Zqu,LR r f.1,Ho t f.2]
theorem HY {A:Around}{s:Shared}{x:V}{v:Value} (rx:aP x v) (fx:i6 x=true):∀ {xs:List V}{us:List Value},Vals xs us->xs.all i6=true->∀ u∈us,SeqAt.EqAt A s u v (oH x u)
 | _,_,.nil,_=>fun u hu=>by cases hu
 | y :: xs,u :: us,.cons r t,f=>fun u' hu=>by
  rw [ZqL,Zrt] at f
  rcases ZpE.mp hu with rfl | hu
  ·rw [LR r f.1];exact F5 r rx f.1 fx
  ·exact HY rx fx t f.2 u' hu
noncomputable def CQ (x:V) (xs:List V):Bool:=xs.any fun y=>jX y x
noncomputable def Ol (K:ZoW) (neg:Bool):R2:=fun x y H Q=>∃ p xs,y=.ref p/\(aR K H p xs\/cW K H p xs)/\i6 x=true/\xs.all i6=true/\Q (.bl (if neg then !CQ x xs else CQ x xs)) H
theorem RE:bX X (compareOp .In) (Ol X.K false):=by
 intro pins s σ H x y v u Q I rx ry h
 obtain ⟨p,xs,rfl,hq,fx,fs,q⟩:=h
 cases ry
 rcases hq with hq | hq
 ·obtain ⟨its,r,pl,hz⟩:=I.list hq
  refine SeqAt.in_listAt (oH x) pl.isList (fun w hw=>HY rx fx r fs w (by simpa using hw)) ⟨.bl _,H,I,rfl,?_⟩
  rw [show its.toArray.any (oH x)=its.any (oH x) by simp,Ho r fs]
  exact q
 ·obtain ⟨its,r,pl,hz⟩:=I.tuple hq
  refine SeqAt.in_tupleAt (oH x) pl (fun w hw=>HY rx fx r fs w (by simpa using hw)) ⟨.bl _,H,I,rfl,?_⟩
  rw [show its.toArray.any (oH x)=its.any (oH x) by simp,Ho r fs]
  exact q
theorem TU:gI X (.builtin "len") (fun xs H Q=>∃ p ys,xs=[.ref p]/\(aR X.K H p ys\/cW X.K H p ys)/\Q (.int ys.length) H):=by
 intro pins s σ H xs us Q I r h
 obtain ⟨p,ys,rfl,hq,q⟩:=h
 obtain ⟨u,rfl,rx⟩:=jA r
 cases rx
 have hn:=sE
 rcases hq with hq | hq
 ·obtain ⟨its,r',pl,hz⟩:=I.list hq
  have hlen:=r'.length
  exact Calls.call_len_list pl.isList (by simp only [ZpN] <;> omega) ⟨.int ys.length,H,I.tok _,⟨s.toks+1,by rw [ZpN,hlen]⟩,q⟩
 ·obtain ⟨its,r',pl,hz⟩:=I.tuple hq
  have hlen:=r'.length
  exact len_tuple pl (by simp only [ZpN] <;> omega) ⟨.int ys.length,H,I.tok _,⟨s.toks+1,by rw [ZpN,hlen]⟩,q⟩
theorem Ua:gI X (.builtin "len") (fun xs H Q=>∃ z,xs=[.str z]/\z.length<=sizeLine/\Q (.int z.length) H):=by
 intro pins s σ H xs us Q I r h
 obtain ⟨z,rfl,hz,q⟩:=h
 obtain ⟨u,rfl,t,rfl⟩:=jA r
 have hn:=sE
 exact len_str (by omega) ⟨.int z.length,H,I.tok _,⟨_,rfl⟩,q⟩
theorem Ra:gI X (.type "list") (fun xs H Q=>∃ p ys,xs=[.ref p]/\(aR X.K H p ys\/cW X.K H p ys)/\∀ l,H l=none->Q (.ref l) (upd H l (.lst ys))):=by
 intro pins s σ H xs us Q I r h
 obtain ⟨p,ys,rfl,hq,q⟩:=h
 obtain ⟨u,rfl,rx⟩:=jA r
 cases rx
 have fin:∀ (its:List Value),Vals ys its->ys.length<=sizeLine->∀ (h':Heap) (c':Nat),(∀ b o',s.heap.get? b=some o'->h'.get? b=some o') ->
   h'.get? s.heap.objs.size=some { cls:=.type "list",dict:=none,data:=.seq its.toArray c',slots:=#[] }->EP X pins σ Q (.ref s.heap.objs.size) { s with heap:=h' }:=fun its r' hz h' c' kp e =>
  ⟨.ref s.heap.objs.size,_,I.laid (t':=s.toks) kp (ZqY _) (show dA X.prog X.w _ h' _ (.lst ys) from ⟨hz,its,c',r',e⟩),rfl,q _ (I.aB.fresh (ZqY _))⟩
 rcases hq with hq | hq
 ·obtain ⟨its,r',pl,hz⟩:=I.list hq
  have hlen:=r'.length
  obtain ⟨o,ho,hc,n,hd⟩:=pl.isList
  exact call_list_seq p (.inl rfl) ho hc hd (fun h' c' kp e=>fin its r' hz h' c' kp e) (by simp only [ZpN] <;> omega)
 ·obtain ⟨its,r',pl,hz⟩:=I.tuple hq
  have hlen:=r'.length
  obtain ⟨o,ho,hc,n,hd⟩:=pl
  exact call_list_seq p (.inr rfl) ho hc hd (fun h' c' kp e=>fin its r' hz h' c' kp e) (by simp only [ZpN] <;> omega)
theorem T7:gI X (.type "tuple") (fun xs H Q=>∃ p ys,xs=[.ref p]/\((aR X.K H p ys/\∀ l,H l=none->Q (.ref l) (upd H l (.tup ys)))\/(cW X.K H p ys/\Q (.ref p) H))):=by
 intro pins s σ H xs us Q I r h
 obtain ⟨p,ys,rfl,h⟩:=h
 obtain ⟨u,rfl,rx⟩:=jA r
 cases rx
 rcases h with ⟨hq,q⟩ | ⟨hq,q⟩
 ·obtain ⟨its,r',pl,hz⟩:=I.list hq
  have hlen:=r'.length
  refine call_tuple_list pl.isList (fun h' kp=>?_) (by simp only [ZpN] <;> omega)
  have I1:Inv X pins σ H { s with heap:=h' }:=I.kept (t':=s.toks) kp
  have I2:Inv X pins σ (upd H h'.objs.size (.tup ys)) { s with heap:=h'.push { cls:=.type "tuple",data:=.seq its.toArray } } :=
   I1.laid (t':=s.toks) (fun b o e=>Heap.get?_push_of_some _ e) (ZqY _) (show dA X.prog X.w _ _ _ (.tup ys) from ⟨hz,its,r',IsTup.new _ _⟩)
  exact ⟨.ref h'.objs.size,_,I2,rfl,q _ (I1.aB.fresh (ZqY _))⟩
 ·obtain ⟨its,r',pl,hz⟩:=I.tuple hq
  exact call_tuple_same pl ⟨.ref p,H,I,rfl,q⟩
noncomputable def B7 (K:ZoW) (T:String) (x:V) (H:Hp):Prop:=match x with
 | .str _=>T = "str"
 | .int _=>T = "int"
 | .ref p=>(T = "list" /\ ∃ xs,aR K H p xs)\/(T = "tuple" /\ ∃ o,K.lookup p=some o/\o.cls=.type "tuple" /\ o.dict=none) \/
   (T = "dict" /\ ((∃ kvs,H p=some (.dK kvs))\/∃ kvs,H p=some (.dT kvs)))\/(T = "set" /\ ∃ S n,H p=some (.set S n))
 | _=>False
theorem Nk {pins:List (Addr × Obj)}{σ:St}{H:Hp}{s:Shared}{T:String}{x:V}{v:Value} (I:Inv X pins σ H s) (r:aP x v) (ty:B7 X.K T x H) :
  s.TypeIs v T/\∀ a,v=.ref a->∃ ob,s.heap.get? a=some ob/\ob.dict=none:=by
 cases x with
 | str z =>
  obtain ⟨t,rfl⟩:=r
  cases (show T = "str" from ty)
  exact ⟨typeIs_str s z t,fun _ e=>nomatch e⟩
 | int i =>
  obtain ⟨t,rfl⟩:=r
  cases (show T = "int" from ty)
  exact ⟨typeIs_int s i t,fun _ e=>nomatch e⟩
 | ref p =>
  cases r
  rcases ty with ⟨rfl,xs,hq⟩ | ⟨rfl,o,hk,hc,hd⟩ | ⟨rfl,hk⟩ | ⟨rfl,S,n,hk⟩
  ·obtain ⟨its,_,pl,_⟩:=I.list hq
   refine ⟨pl.isList.typeIs,fun a e=>?_⟩
   cases e
   obtain ⟨o,n,e,c,hd,_⟩:=pl
   exact ⟨o,e,hd⟩
  ·refine ⟨⟨o,I.en p o hk,hc⟩,fun a e=>?_⟩
   cases e
   exact ⟨o,I.en _ o hk,hd⟩
  ·have z:∃ o,s.heap.get? p=some o/\o.ExactDict:=by
    rcases hk with ⟨kvs,hk⟩ | ⟨kvs,hk⟩
    ·obtain ⟨_,_,_,_,o,_,_,e,ex,_⟩:=I.aB p _ hk
     exact ⟨o,e,ex⟩
    ·obtain ⟨_,_,_,_,o,_,_,e,ex,_⟩:=I.aB p _ hk
     exact ⟨o,e,ex⟩
   obtain ⟨o,e,ex⟩:=z
   refine ⟨⟨o,e,ex.1⟩,fun a e2=>?_⟩
   cases e2
   exact ⟨o,e,ex.2.1⟩
  ·obtain ⟨o,_,_,_,e,ex,_⟩:=I.aB p _ hk
   refine ⟨⟨o,e,ex.1⟩,fun a e2=>?_⟩
   cases e2
   exact ⟨o,e,ex.2.1⟩
 | _=>exact False.elim ty
noncomputable def sg (K:ZoW) (T:String) (r:V->List V->Hp->VK->Prop) (to:TE):TE:=fun σ H Q=>to σ H fun x H1=>B7 K T x H1/\r x [] H1 Q
noncomputable def gS (K:ZoW) (T:String) (r:V->List V->Hp->VK->Prop) (to:TE) (t:TA):TE:=fun σ H Q=>to σ H fun x H1=>B7 K T x H1/\t σ H1 fun xs H2=>r x xs H2 Q
variable {o e:Expr}{es:List Expr}{to:TE}{t:TA}{name:Str}{apos aU:Pos}{T id:String}{r:V->List V->Hp->VK->Prop}
theorem tF (pa:PlainAttrs T) (slot:Slot T name id) (nz:typeOf (.builtin id)=pure (.type "method_descriptor")) (hm:nq X id r) (ho:PE X o to)
  (fF:attributeBase o name X.env (eval o X.env)=eval o X.env:=by rfl) (g7:(apos.endLine == aU.line)=true:=by rfl):PE X (.Call (.Attribute o name apos) [] [] aU) (sg X.K T r to):=by
 intro pins s σ H Q I h
 refine wpAny_Call_method0_late fF g7 (aE (ho pins s σ H _ I h) fun v s1 ⟨x,H1,I1,r1,ty,q1⟩=>?_)
 obtain ⟨h1,h2⟩:=Nk I1 r1 ty
 exact ⟨T,id,pa,slot,nz,h1,h2,Calls.callWith_builtin rfl (PySem.evalArgs_none (hm pins s1 σ H1 x [] v [] Q I1 r1 .nil q1))⟩
theorem iD (pa:PlainAttrs T) (slot:Slot T name id) (nz:typeOf (.builtin id)=pure (.type "method_descriptor")) (hm:nq X id r) (ho:PE X o to) (ha:PA X (e :: es) t)
  (fF:attributeBase o name X.env (eval o X.env)=eval o X.env:=by rfl)
  (m3:((backTo aU (starEach (e :: es) X.env)).all (fun x=>!x.1) && (backToKw aU (keywordEach [] X.env)).all (fun x=>x.1.isSome)
   && decide ((e :: es).length+([]:List Keyword).length+(if ([]:List Keyword).isEmpty then 0 else 1)<30))=true:=by rfl)
  (g7:(apos.endLine == aU.line)=true:=by rfl) (hs:starEach (e :: es) X.env=(false,eval e X.env) :: starEach es X.env:=by rfl) (qy:(backTo aU (starEach es X.env)).any (·.1)=false:=by rfl) :
  PE X (.Call (.Attribute o name apos) (e :: es) [] aU) (gS X.K T r to t):=by
 intro pins s σ H Q I h
 refine wpAny_Call_method_late fF m3 g7 rfl (aE (ho pins s σ H _ I h) fun v s1 ⟨x,H1,I1,r1,ty,q1⟩=>?_)
 obtain ⟨h1,h2⟩:=Nk I1 r1 ty
 refine ⟨T,id,pa,slot,nz,h1,h2,?_⟩
 have hA:=ha aU pins s1 σ H1 _ I1 q1
 rw [hs] at hA ⊢
 refine Calls.callWith_builtin (by show (false || (backTo aU (starEach es X.env)).any (·.1))=false;rw [qy] <;> rfl) (Calls.evalArgs_plain ?_)
 exact aE hA fun us s2 ⟨vs,H2,I2,r2,q2⟩=>hm pins s2 σ H2 x vs v us Q I2 r1 r2 q2
/- xs.append(e),list.index on a module's tuple .. are nq facts of 06m -/
end
noncomputable def DD (X:Cx) (id:String) (r:V->List V->Hp->VK->Prop):Prop :=
 ∀ (pins:List (Addr × Obj)) (s:Shared) (σ:St) (H:Hp) (x:V) (xs:List V) (v:Value) (us:List Value) (Q:VK),Inv X pins σ H s->aP x v->Vals xs us->r x xs H Q ->
  wpAny (model X.prog X.w) X.A (call (.builtin id) (v :: us)) (EP X pins σ Q) X.xe s
theorem Vals.one:∀ {x:V}{us:List Value},Vals [x] us->∃ u,us=[u]/\aP x u
 | _,_,.cons r .nil=>⟨_,rfl,r⟩
theorem Vals.two:∀ {x y:V}{us:List Value},Vals [x,y] us->∃ u v,us=[u,v]/\aP x u/\aP y v
 | _,_,_,.cons r (.cons q .nil)=>⟨_,_,rfl,r,q⟩
theorem Vals.zero:∀ {us:List Value},Vals [] us->us=[]
 | _,.nil=>rfl
theorem Vals.dropLast {xs:List V}{us:List Value} (h:Vals xs us):Vals xs.dropLast us.dropLast:=by
 induction h with
 | nil=>exact .nil
 | cons r t ih =>
  cases t with
  | nil=>exact .nil
  | cons q t'=>exact .cons r ih
section
variable {X:Cx}{pins:List (Addr × Obj)}{σ:St}{H:Hp}{s:Shared}{l b:Addr}{xs ys zs:List V}
theorem Inv.Ab {its its':List Value}{n:Nat}{f:Array Value->Array Value}{t':Nat} (I:Inv X pins σ H s) (hH:H l=some (.lst xs))
  (e:s.heap.get? l=some { cls:=.type "list",data:=.seq its.toArray n }) (hf:f its.toArray=its'.toArray) (hv:Vals ys its') (hz:ys.length<=sizeLine) :
  Inv X pins σ (upd H l (.lst ys)) { s with heap:=s.heap.update l (Obj.mapSeq f),toks:=t' }:=by
 have q:=PySem.IsL.update e f
 rw [hf] at q
 refine I.write (x:=l) (e:=l) (by rw [hH];exact trivial) (.inl rfl) (fun b' u hb hu=>(Heap.get?_update_other s.heap (Obj.mapSeq f) (Ne.symm hb)).trans hu) ⟨_,q⟩ ?_
 exact ⟨hz,its',_,hv,q⟩
theorem Inv.oG {its:List Value}{t':Nat} (I:Inv X pins σ H s) (hv:Vals ys its) (hz:ys.length<=sizeLine) :
  Inv X pins σ (upd H s.heap.objs.size (.lst ys)) { s with heap:=s.heap.push { cls:=.type "list",data:=.seq its.toArray },toks:=t' } :=
 I.laid (fun _ _ q=>Heap.get?_push_of_some _ q) (ZqY _) ⟨hz,its,0,hv,Heap.get?_push_size _ rfl⟩
theorem Inv.fresh (I:Inv X pins σ H s):H s.heap.objs.size=none:=I.aB.fresh (ZqY _)
theorem Inv.m5 (I:Inv X pins σ H s) (hH:H l=some (.lst xs)):xs.length<=sizeLine/\∃ (its:List Value) (n:Nat),Vals xs its/\xs.length=its.length/\s.heap.get? l=some { cls:=.type "list",data:=.seq its.toArray n }:=by
 obtain ⟨z,its,n,r,e⟩:=I.aB l _ hH
 exact ⟨z,its,n,r,r.length,e⟩
end
section
variable {X:Cx}
noncomputable def qg:V->List V->Hp->VK->Prop:=fun x vs H Q=>∃ l xs y,x=.ref l/\vs=[y]/\H l=some (.lst xs)/\xs.length<sizeLine/\Q .non (upd H l (.lst (xs ++ [y])))
theorem qo:DD X "list.append" qg:=by
 intro pins s σ H x vs v us Q I rx rv h
 obtain ⟨l,xs,y,rfl,rfl,hH,hz,q⟩:=h
 cases rx
 obtain ⟨u,rfl,ru⟩:=rv.one
 obtain ⟨z,its,n,r,hl,e⟩:=I.m5 hH
 refine call_meets F.slot_list_append ⟨_,e,rfl⟩ F.entry_list_append (F.args_list_append_2 _ _) (PySem.list_append l its.toArray n u (by rw [ZpN];omega)) ⟨e,?_⟩
 refine ⟨.non,_,I.Ab (its':=its ++ [u]) hH e (by simp) (r.append (.cons ru .nil)) ?_,rfl,q⟩
 rw [ZpI,ZqM]
 omega
noncomputable def E9:R2:=fun x y H Q=>∃ l b xs zs,x=.ref l/\y=.ref b/\H l=some (.lst xs)/\H b=some (.lst zs)/\xs.length+zs.length<=sizeLine/\∀ p,H p=none->Q (.ref p) (upd H p (.lst (xs ++ zs)))
theorem qE:bX X (binaryOp .Add) E9:=by
 intro pins s σ H x y v u Q I rx ry h
 obtain ⟨l,b,xs,zs,rfl,rfl,hH,hB,hz,q⟩:=h
 cases rx
 cases ry
 obtain ⟨z,its,n,r,hl,e⟩:=I.m5 hH
 obtain ⟨z2,its2,n2,r2,og,e2⟩:=I.m5 hB
 refine PySem.P.add_list e e2 ?_ (by rw [ZpN,ZpN];omega)
 have ea:its.toArray ++ its2.toArray=(its ++ its2).toArray:=by simp
 rw [ea]
 exact ⟨.ref _,_,I.oG (t':=s.toks) (r.append r2) (by rw [ZpI];omega),rfl,q _ I.fresh⟩
end
section
variable {prog:Program}{w:World}{A:Around}{E:Value->Shared->Prop}{s:Shared}
end
section
variable {X:Cx}
end
section
variable {κ:Type} [DecidableEq κ]
noncomputable def fi (kvs:List (κ × V)) (k:κ):Option V:=(kvs.find? fun kv=>decide (kv.1=k)).map (·.2)
noncomputable def gz (kvs:List (κ × V)) (k:κ) (v:V):List (κ × V) :=
 if (kvs.any fun kv=>decide (kv.1=k))=true then kvs.map (fun kv=>if kv.1=k then (kv.1,v) else kv) else kvs ++ [(k,v)]
theorem mO {p:κ × V}{r:List (κ × V)}{k:κ} (e:p.1=k):fi (p :: r) k=some p.2:=by simp [fi,Zqt,e]
theorem mH {p:κ × V}{r:List (κ × V)}{k:κ} (e:¬ p.1=k):fi (p :: r) k=fi r k:=by simp [fi,Zqt,e]
theorem Ci (k:κ):∀ kvs:List (κ × V),(kvs.any fun kv=>decide (kv.1=k))=(fi kvs k).isSome
 | []=>rfl
 | p :: r=>by
  rw [Zqu]
  by_cases e:p.1=k
  ·simp only [mO e,decide_eq_true e,Bool.true_or,Option.isSome_some]
  ·rw [mH e,decide_eq_false e,Bool.false_or];exact Ci k r
theorem Jt (k j:κ) (y:V):∀ kvs:List (κ × V),fi (kvs.map fun kv=>if kv.1=k then (kv.1,y) else kv) j=(fi kvs j).map fun x=>if j=k then y else x
 | []=>rfl
 | p :: r=>by
  have ih:=Jt k j y r
  rw [ZpD]
  by_cases h:p.1=k
  ·rw [if_pos h]
   by_cases e:p.1=j
   ·rw [mO (p:=(p.1,y)) e,mO e,Option.map_some,if_pos (e.symm.trans h)]
   ·rw [mH (p:=(p.1,y)) e,mH e,ih]
  ·rw [if_neg h]
   by_cases e:p.1=j
   ·rw [mO (p:=p) e,mO e,Option.map_some,if_neg (fun z=>h (e.trans z))]
   ·rw [mH (p:=p) e,mH e,ih]
theorem IJ (k j:κ) (y:V):∀ kvs:List (κ × V),fi kvs k=none->fi (kvs ++ [(k,y)]) j=if j=k then some y else fi kvs j
 | [],_=>by
  by_cases e:k=j
  ·rw [if_pos e.symm];exact mO (p:=(k,y)) e
  ·rw [if_neg (fun z=>e z.symm)];exact mH (p:=(k,y)) e
 | p :: r,hn=>by
  rw [Zqv]
  have hk:¬ p.1=k:=fun z=>by rw [mO z] at hn;cases hn
  rw [mH hk] at hn
  have ih:=IJ k j y r hn
  by_cases e:p.1=j
  ·rw [mO e,mO e,if_neg (fun z=>hk (e.trans z))]
  ·rw [mH e,mH e,ih]
theorem Jh (kvs:List (κ × V)) (k j:κ) (y:V):fi (gz kvs k y) j=if j=k then some y else fi kvs j:=by
 unfold gz
 by_cases a:(kvs.any fun kv=>decide (kv.1=k))=true
 ·rw [if_pos a,Jt]
  rw [Ci] at a
  by_cases e:j=k
  ·obtain ⟨x,hx⟩:=Option.isSome_iff_exists.mp a
   rw [if_pos e,e,hx,Option.map_some,if_pos rfl]
  ·rw [if_neg e]
   cases fi kvs j with
   | none=>rfl
   | some x=>rw [Option.map_some,if_neg e]
 ·rw [if_neg a]
  refine IJ k j y kvs ?_
  rw [Ci] at a
  cases q:fi kvs k with
  | none=>rfl
  | some x=>rw [q] at a;exact (a rfl).elim
theorem G1 (kvs:List (κ × V)) (k:κ) (v:V):(gz kvs k v).length<=kvs.length+1:=by
 unfold gz
 split
 ·rw [ZpC];omega
 ·rw [ZpI,ZpG,Zp3];omega
theorem jI.cR {o:Option V}{u:Option Value} (r:jI o u):o.isSome=u.isSome:=by
 cases o with
 | none=>cases u with
  | none=>rfl
  | some _=>exact (show False from r).elim
 | some _=>cases u with
  | none=>exact (show False from r).elim
  | some _=>rfl
theorem jI.getD {o:Option V}{u:Option Value}{d:V}{d':Value} (r:jI o u) (rd:aP d d'):aP (o.getD d) (u.getD d'):=by
 cases o with
 | none=>cases u with
  | none=>exact rd
  | some _=>exact (show False from r).elim
 | some _=>cases u with
  | none=>exact (show False from r).elim
  | some _=>exact r
theorem KV.val {kvs:List (κ × V)}{vs:List (κ × Value)} (r:KV kvs vs) (k:κ):jI (fi kvs k) (valueAt vs k):=by
 unfold KV at r
 induction r with
 | nil=>exact True.intro
 | @cons p q ps qs h t ih =>
  obtain ⟨h1,h2⟩:=h
  by_cases e:p.1=k
  ·have e':q.1=k:=h1.symm.trans e
   have b:valueAt (q :: qs) k=some q.2:=by simp [valueAt,Zqt,e']
   rw [mO e,b];exact h2
  ·have e':¬ q.1=k:=fun z=>e (h1.trans z)
   have b:valueAt (q :: qs) k=valueAt qs k:=by simp [valueAt,Zqt,e']
   rw [mH e,b];exact ih
theorem KV.any {kvs:List (κ × V)}{vs:List (κ × Value)} (r:KV kvs vs) (k:κ):(kvs.any fun kv=>decide (kv.1=k))=vs.any fun kv=>decide (kv.1=k):=by
 unfold KV at r
 induction r with
 | nil=>rfl
 | cons h t ih=>rw [Zqu,Zqu,ih,h.1]
theorem KV.tW {kvs:List (κ × V)}{vs:List (κ × Value)} (r:KV kvs vs) (k:κ) {y:V}{u:Value} (ry:aP y u) :
  KV (kvs.map fun kv=>if kv.1=k then (kv.1,y) else kv) (vs.map fun kv=>if kv.1=k then (kv.1,u) else kv):=by
 unfold KV at r ⊢
 induction r with
 | nil=>exact .nil
 | @cons p q ps qs h t ih =>
  rw [ZpD,ZpD]
  refine .cons ?_ ih
  obtain ⟨h1,h2⟩:=h
  by_cases e:p.1=k
  ·rw [if_pos e,if_pos (h1.symm.trans e)];exact ⟨h1,ry⟩
  ·rw [if_neg e,if_neg (fun z=>e (h1.trans z))];exact ⟨h1,h2⟩
theorem KV.put {kvs:List (κ × V)}{vs:List (κ × Value)} (r:KV kvs vs) (k:κ) {y:V}{u:Value} (ry:aP y u):KV (gz kvs k y) (stored vs k u):=by
 unfold gz stored
 rw [r.any k]
 by_cases e:(vs.any fun kv=>decide (kv.1=k))=true
 ·rw [if_pos e,if_pos e];exact r.tW k ry
 ·rw [if_neg e,if_neg e];exact Paired.snoc r ⟨rfl,ry⟩
theorem KV.keys {kvs:List (κ × V)}{vs:List (κ × Value)} (r:KV kvs vs):kvs.map (·.1)=vs.map (·.1):=by
 unfold KV at r
 induction r with
 | nil=>rfl
 | cons h t ih=>rw [ZpD,ZpD,ih,h.1]
theorem KV.length {kvs:List (κ × V)}{vs:List (κ × Value)} (r:KV kvs vs):kvs.length=vs.length:=Paired.length r
end
theorem AD {P:Program}{w:World}{k:Key}{u:Value} (r:aP (kV k) u):(iL P w).is k u=true:=by
 cases k with
 | inl i=>obtain ⟨t,e⟩:=(show ∃ t,u=Value.int i t from r);subst e;exact Pe P w i t
 | inr x=>obtain ⟨t,e⟩:=(show ∃ t,u=Value.str x t from r);subst e;exact QX P w x t
theorem IE {P:Program}{w:World}:∀ {ks:List Key}{us:List Value},Vals (ks.map kV) us->ItemsAre (iL P w) ks us
 | [],_,r=>by rw [Zqc] at r;cases r;exact .nil
 | k :: ks,_,r=>by
  rw [ZpD] at r
  cases r with
  | cons h t=>exact .cons (AD h) (IE t)
noncomputable abbrev KT (H:Hp):List (List Key × V)->List (List Key × Addr × Value)->Prop:=Paired fun p q=>p.1=q.1/\H q.2.1=some (.tup (p.1.map kV))/\aP p.2 q.2.2
theorem KT.val {H:Hp}{kvs:List (List Key × V)}{xs:List (List Key × Addr × Value)} (r:KT H kvs xs) (k:List Key):jI (fi kvs k) ((atKey xs k).map (·.2)):=by
 induction r with
 | nil=>exact True.intro
 | @cons p q ps qs h t ih =>
  obtain ⟨h1,_,h2⟩:=h
  by_cases e:p.1=k
  ·have e':q.1=k:=h1.symm.trans e
   have b:atKey (q :: qs) k=some q.2:=by simp [atKey,Zqt,e']
   rw [mO e,b];exact h2
  ·have e':¬ q.1=k:=fun z=>e (h1.trans z)
   have b:atKey (q :: qs) k=atKey qs k:=by simp [atKey,Zqt,e']
   rw [mH e,b];exact ih
theorem KT.tW {H:Hp}{kvs:List (List Key × V)}{xs:List (List Key × Addr × Value)} (r:KT H kvs xs) (k:List Key) {y:V}{u:Value} (ry:aP y u) :
  KT H (kvs.map fun kv=>if kv.1=k then (kv.1,y) else kv) (xs.map (putAt k u)):=by
 induction r with
 | nil=>exact .nil
 | @cons p q ps qs h t ih =>
  rw [ZpD,ZpD]
  refine .cons ?_ ih
  obtain ⟨h1,h2,h3⟩:=h
  unfold putAt
  by_cases e:p.1=k
  ·rw [if_pos e,if_pos (h1.symm.trans e)];exact ⟨h1,h2,ry⟩
  ·rw [if_neg e,if_neg (fun z=>e (h1.trans z))];exact ⟨h1,h2,h3⟩
theorem KT.put {H:Hp}{kvs:List (List Key × V)}{xs:List (List Key × Addr × Value)} (r:KT H kvs xs) (k:List Key) {b:Addr}{y:V}{u:Value} (hb:H b=some (.tup (k.map kV))) (ry:aP y u) :
  KT H (gz kvs k y) (storedH xs k b u):=by
 have e:(kvs.any fun kv=>decide (kv.1=k))=(atKey xs k).isSome:=by
  rw [Ci,(r.val k).cR,Option.isSome_map]
 unfold gz storedH
 rw [e]
 by_cases q:(atKey xs k).isSome=true
 ·rw [if_pos q,if_pos q];exact r.tW k ry
 ·rw [if_neg q,if_neg q];exact Paired.snoc r ⟨rfl,hb,ry⟩
theorem KT.keeps {H H':Hp}{kvs:List (List Key × V)}{xs:List (List Key × Addr × Value)} (r:KT H kvs xs) (ht:∀ b ys,H b=some (.tup ys)->H' b=some (.tup ys)):KT H' kvs xs :=
 Paired.qO r fun _ _ z=>⟨z.1,ht _ _ z.2.1,z.2.2⟩
section
variable {P:Program}{w:World}{H:Hp}{h:Heap}{a:Addr}
theorem FI {u:HO} (ok:d6 P w H h) (e:Rd H a u):dA P w H h a u:=e.ok ok
theorem Aw {kvs:List (Key × V)} (ok:d6 P w H h) (e:Rd H a (.dK kvs)):kvs.length<=sizeLine/\(a == sysModules)=false/\∃ vs,KV kvs vs/\h.DictOf (iL P w) a vs :=
 show dA P w H h a (.dK kvs) from FI ok e
theorem ya {kvs:List (Key × V)} (ok:d6 P w H h) (e:H a=some (.dK kvs)):kvs.length<=sizeLine/\(a == sysModules)=false/\∃ vs,KV kvs vs/\h.DictOf (iL P w) a vs:=Aw ok (.inl e)
theorem Ct {ks:List Key} (ok:d6 P w H h) (e:H a=some (.tup (ks.map kV))):(tupleKind (iL P w)).is h ks a:=by
 obtain ⟨_,its,r,o,h1,h2,n,h3⟩:=(show dA P w H h a (.tup (ks.map kV)) from ok a _ e)
 exact ⟨o,its.toArray,n,h1,h2,h3,by simpa using IE r⟩
theorem G5 {kvs:List (List Key × V)} (ok:d6 P w H h) (e:Rd H a (.dT kvs)):kvs.length<=sizeLine/\(a == sysModules)=false /\
  ∃ xs,KT H kvs xs/\h.DictOfH (tupleKind (iL P w)) a xs:=by
 obtain ⟨z,y,xs,r,o,es,ep,h1,h2,h3,h4,h5⟩:=(show dA P w H h a (.dT kvs) from FI ok e)
 refine ⟨z,y,xs,r,o,es,ep,h1,h2,h3,h4,fun x hx=>?_,h5⟩
 have all:∀ {l:List (List Key × V)}{m:List (List Key × Addr × Value)},KT H l m->∀ x∈m,(tupleKind (iL P w)).is h x.1 x.2.1:=by
  intro l m q
  induction q with
  | nil=>intro x hx;exact nomatch hx
  | @cons p q ps qs hq t ih =>
   intro x hx
   rcases ZpE.mp hx with e | hx
   ·subst e
    exact Ct ok (by rw [<- hq.1];exact hq.2.1)
   ·exact ih x hx
 exact all r x hx
theorem Bn {kvs:List (List Key × V)} (ok:d6 P w H h) (e:H a=some (.dT kvs)):kvs.length<=sizeLine/\(a == sysModules)=false /\
  ∃ xs,KT H kvs xs/\h.DictOfH (tupleKind (iL P w)) a xs:=G5 ok (.inl e)
end
noncomputable def nH (H:Hp) (a:Addr) (y:V) (r:Option V):Prop :=
 (∃ kvs k,Rd H a (.dK kvs)/\y=kV k/\r=fi kvs k)\/∃ kvs k b,Rd H a (.dT kvs)/\y=.ref b/\H b=some (.tup (k.map kV))/\r=fi kvs k
noncomputable def sZ (H:Hp) (a:Addr) (y v:V) (H':Hp):Prop :=
 (∃ kvs k,H a=some (.dK kvs)/\y=kV k/\kvs.length<sizeLine/\H'=upd H a (.dK (gz kvs k v))) \/
 ∃ kvs k b,H a=some (.dT kvs)/\y=.ref b/\H b=some (.tup (k.map kV))/\kvs.length<sizeLine/\H'=upd H a (.dT (gz kvs k v))
theorem nH.k {H:Hp}{a:Addr}{kvs:List (Key × V)}{k:Key} (e:H a=some (.dK kvs)):nH H a (kV k) (fi kvs k):=.inl ⟨kvs,k,.inl e,rfl,rfl⟩
theorem nH.t {H:Hp}{a b:Addr}{kvs:List (List Key × V)}{k:List Key} (e:H a=some (.dT kvs)) (eb:H b=some (.tup (k.map kV))):nH H a (.ref b) (fi kvs k):=.inr ⟨kvs,k,b,.inl e,rfl,eb,rfl⟩
theorem sZ.k {H:Hp}{a:Addr}{kvs:List (Key × V)}{k:Key}{v:V} (e:H a=some (.dK kvs)) (hl:kvs.length<sizeLine):sZ H a (kV k) v (upd H a (.dK (gz kvs k v))):=.inl ⟨kvs,k,e,rfl,hl,rfl⟩
theorem sZ.t {H:Hp}{a b:Addr}{kvs:List (List Key × V)}{k:List Key}{v:V} (e:H a=some (.dT kvs)) (eb:H b=some (.tup (k.map kV))) (hl:kvs.length<sizeLine) :
  sZ H a (.ref b) v (upd H a (.dT (gz kvs k v))):=.inr ⟨kvs,k,b,e,rfl,eb,hl,rfl⟩
section
variable {X:Cx}{pins:List (Addr × Obj)}{σ:St}{H:Hp}{s:Shared}{a:Addr}{y v:V}{u r:Value}{o:Option V}{A:Around}{E:Value->Shared->Prop}
theorem Inv.big (I:Inv X pins σ H s):sysModules<s.heap.objs.size:=by
 have h:mainGlobals<s.heap.objs.size:=(I.mod.glob.keeps I.bk).lt
 exact Nat.lt_trans (by decide) h
theorem HI {Q:Value->Shared->Prop} (hu:A.units+1<cLine) (I:Inv X pins σ H s) (g:nH H a y o) (ry:aP y u) (h:∀ s',Inv X pins σ H s'->Q (.bool o.isSome) s') :
  wpAny (model X.prog X.w) A (compareOp .In u (.ref a)) Q E s:=by
 rcases g with ⟨kvs,k,e,ey,l⟩ | ⟨kvs,k,b,e,ey,eb,l⟩
 ·subst ey
  obtain ⟨z,hd,vs,rel,dd⟩:=Aw I.aB e
  refine wpAny_in_of (AD ry) hd dd.mapOf ?_
  rw [<- (rel.val k).cR,<- l]
  exact h _ (I.tok _)
 ·subst ey
  cases (show u=Value.ref b from ry)
  obtain ⟨z,hd,xs,rel,dd⟩:=G5 I.aB e
  refine wpAny_in_heap (tupleKind_room_in1 hu) (Ct I.aB eb) hd dd ?_
  have q:=(rel.val k).cR
  rw [Option.isSome_map] at q
  rw [<- q,<- l]
  exact h _ (I.tok _)
theorem Ov {Q:Value->Shared->Prop} (hu:A.units+1<cLine) (I:Inv X pins σ H s) (g:nH H a y o) (ry:aP y u) (h:∀ s',Inv X pins σ H s'->Q (.bool (!o.isSome)) s') :
  wpAny (model X.prog X.w) A (compareOp .NotIn u (.ref a)) Q E s:=by
 rcases g with ⟨kvs,k,e,ey,l⟩ | ⟨kvs,k,b,e,ey,eb,l⟩
 ·subst ey
  obtain ⟨z,hd,vs,rel,dd⟩:=Aw I.aB e
  refine wpAny_notIn_of (AD ry) hd dd.mapOf ?_
  rw [<- (rel.val k).cR,<- l]
  exact h _ (I.tok _)
 ·subst ey
  cases (show u=Value.ref b from ry)
  obtain ⟨z,hd,xs,rel,dd⟩:=G5 I.aB e
  refine wpAny_notIn_heap (tupleKind_room_in1 hu) (Ct I.aB eb) hd dd ?_
  have q:=(rel.val k).cR
  rw [Option.isSome_map] at q
  rw [<- q,<- l]
  exact h _ (I.tok _)
theorem Kq {h':Heap}{t':Nat}{ob:HO} (I:Inv X pins σ H s) (mu:zb (H a)) (hs:Heap.SameBut a s.heap h') (he:∃ q,h'.get? a=some q) (new:dA X.prog X.w (upd H a ob) h' a ob) :
  Inv X pins σ (upd H a ob) { s with heap:=h',toks:=t' } :=
 I.write (x:=a) (e:=a) mu (.inl rfl) (fun b q hb z=>(hs.2 b hb).trans z) he new
theorem ID {P:Program}{w:World}{H':Hp}{h':Heap}{kvs:List (Key × V)}{vs:List (Key × Value)} (z:kvs.length<=sizeLine) (hd:(a == sysModules)=false) (rel:KV kvs vs) (dd:h'.DictOf (iL P w) a vs) :
  dA P w H' h' a (.dK kvs):=⟨z,hd,vs,rel,dd⟩
theorem NA {H':Hp}{Q:Unit->Shared->Prop} (hu:A.units+1<cLine) (I:Inv X pins σ H s) (g:sZ H a y v H') (ry:aP y u) (rv:aP v r) (h:∀ s',Inv X pins σ H' s'->Q () s') :
  wpAny (model X.prog X.w) A (setItem (.ref a) u r) Q E s:=by
 rcases g with ⟨kvs,k,e,ey,l,eH⟩ | ⟨kvs,k,b,e,ey,eb,l,eH⟩
 ·subst ey eH
  obtain ⟨z,hd,vs,rel,dd⟩:=ya I.aB e
  have hz:vs.length<=sizeLine:=by rw [<- rel.length];exact z
  have hl:(gz kvs k v).length<=sizeLine:=by have:=G1 kvs k v;omega
  refine wpAny_setItem_pairs (hsz:=hz) (AD ry) dd fun h' dd' hs=>h _ ?_
  have he:∃ q,h'.get? a=some q:=let ⟨q,_,_,hq,_⟩:=dd';⟨q,hq⟩
  exact Kq I (by rw [e];exact True.intro) hs he (ID hl hd (rel.put k rv) dd')
 ·subst ey eH
  cases (show u=Value.ref b from ry)
  obtain ⟨z,hd,xs,rel,dd⟩:=Bn I.aB e
  have hz:xs.length<=sizeLine:=by rw [<- Paired.length rel];exact z
  have hl:(gz kvs k v).length<=sizeLine:=by have:=G1 kvs k v;omega
  refine wpAny_setItem_heap (hsz:=hz) (tupleKind_room_in1 hu) (Ct I.aB eb) dd fun h' dd' hs=>h _ ?_
  obtain ⟨q,es,ep,hq,h2,h3,h4,_,h5⟩:=dd'
  refine Kq I (by rw [e];exact True.intro) hs ⟨q,hq⟩ ⟨hl,hd,_,(rel.put k eb rv).keeps fun c ys ec=>?_,q,es,ep,hq,h2,h3,h4,h5⟩
  rw [bo (nv ec e (fun z=>nomatch z))]
  exact ec
end
section
variable {X:Cx}{pins:List (Addr × Obj)}{σ:St}{H:Hp}{s:Shared}{a:Addr}{kvs:List (Key × V)}{k:Key}{u:Value}{A:Around}{E:Value->Shared->Prop}
theorem Ap {Q:Value->Shared->Prop} (I:Inv X pins σ H s) (e:Rd H a (.dK kvs)) (h:∀ t s',Inv X pins σ H s'->Q (.int kvs.length t) s'):wpAny (model X.prog X.w) A (call (.builtin "len") [.ref a]) Q E s:=by
 obtain ⟨z,hd,vs,rel,dd⟩:=Aw I.aB e
 refine call_len_dict hd dd (by rw [<- rel.length];rw [sizeLine_eq] at z;omega) ?_
 rw [<- rel.length]
 exact h _ _ (I.tok _)
end
noncomputable def tD (ty td:TE):TE:=fun σ H Q=>ty σ H fun y H1=>td σ H1 fun x H2=>∃ a o,x=.ref a/\nH H2 a y o/\Q (.bl o.isSome) H2
noncomputable def D7 (ty td:TE):TE:=fun σ H Q=>ty σ H fun y H1=>td σ H1 fun x H2=>∃ a o,x=.ref a/\nH H2 a y o/\Q (.bl (!o.isSome)) H2
noncomputable def Cn (td ty tv:TE):TS:=fun D σ H=>tv σ H fun v H1=>td σ H1 fun x H2=>ty σ H2 fun y H3=>∃ a H4,x=.ref a/\sZ H3 a y v H4/\D.nx σ H4
section
variable {X:Cx}{o i e value:Expr}{pos pos' Gk:Pos}{td ty tv:TE}
theorem rk (hu:X.A.units+1<cLine) (hi:PE X i ty) (ho:PE X o td):PC X .In i o (tD ty td):=by
 intro pins s σ H Q I h
 refine aE (hi pins s σ H _ I h) fun iv s1 ⟨y,H1,I1,ry,q1⟩=>aE (ho pins s1 σ H1 _ I1 q1) fun u s2 ⟨x,H2,I2,rx,a,ov,ex,g,q2⟩=>?_
 subst ex
 obtain rfl:u=Value.ref a:=rx
 exact HI hu I2 g ry fun s3 I3=>⟨.bl ov.isSome,H2,I3,rfl,q2⟩
theorem Rb (hu:X.A.units+1<cLine) (hi:PE X i ty) (ho:PE X o td):PC X .NotIn i o (D7 ty td):=by
 intro pins s σ H Q I h
 refine aE (hi pins s σ H _ I h) fun iv s1 ⟨y,H1,I1,ry,q1⟩=>aE (ho pins s1 σ H1 _ I1 q1) fun u s2 ⟨x,H2,I2,rx,a,ov,ex,g,q2⟩=>?_
 subst ex
 obtain rfl:u=Value.ref a:=rx
 exact Ov hu I2 g ry fun s3 I3=>⟨.bl (!ov.isSome),H2,I3,rfl,q2⟩
theorem Ng (hu:X.A.units+1<cLine) (ho:PE X o td) (hi:PE X i ty) (hv:PE X value tv) (hs:swapsWith value (some (.Subscript o i pos')) pos.line X.env=pure false) :
  PS X (.Assign [.Subscript o i pos'] value pos) (Cn td ty tv):=by
 intro pins s σ H D I h
 refine wpAny_Assign_Subscript (aE (hv pins s σ H _ I h) fun r s1 ⟨v,H1,I1,rv,q1⟩=>aE (ho pins s1 σ H1 _ I1 q1) fun u s2 ⟨x,H2,I2,rx,q2⟩=>aE (hi pins s2 σ H2 _ I2 q2) fun iv s3 ⟨y,H3,I3,ry,a,H4,ex,g,q3⟩=>?_) hs
 subst ex
 obtain rfl:u=Value.ref a:=rx
 exact NA hu I3 g ry rv fun s4 I4=>⟨σ,H4,I4,q3⟩
end
theorem R7 {P:Program}{w:World}{H:Hp} (h:Heap) (hb:sysModules<h.objs.size):dA P w H (h.push { cls:=.type "dict",data:=.dict #[] }) h.objs.size (.dK []) :=
 ⟨Zq3 _,beq_eq_false_iff_ne.mpr (Ne.symm (ZqZ hb)),[],.nil,Heap.DictOf.new h⟩
noncomputable def Cd:TE:=fun _ H Q=>∀ p,H p=none->Q (.ref p) (upd H p (.dK []))
section
variable {X:Cx}{pos:Pos}
theorem RQ:PE X (.Dict [] [] pos) Cd:=fun pins s σ H Q I h =>
 wpAny_Dict_empty ⟨.ref s.heap.objs.size,_,I.laid (a:=s.heap.objs.size) (o:=.dK []) (t':=s.toks) (fun _ _ q=>Heap.get?_push_of_some _ q) (ZqY _) (R7 s.heap I.big),rfl,h _ (I.aB.fresh (ZqY _))⟩
end
noncomputable def Im:List (TE × TE)->St->Hp->(List (V × V)->Hp->Prop)->Prop
 | [],_,H,Q=>Q [] H
 | (tk,tv) :: r,σ,H,Q=>tk σ H fun x H1=>tv σ H1 fun y H2=>Im r σ H2 fun ps H3=>Q ((x,y) :: ps) H3
noncomputable abbrev VV:List (V × V)->List (Value × Value)->Prop:=Paired fun p q=>aP p.1 q.1/\aP p.2 q.2
noncomputable def TK (X:Cx) (pos:Pos) (keys:List (Option Expr)) (values:List Expr) (NR:List (TE × TE)):Prop :=
 ∀ (pins:List (Addr × Obj)) (s:Shared) (σ:St) (H:Hp) (Q:List (V × V)->Hp->Prop),Inv X pins σ H s->Im NR σ H Q ->
  wpAny (model X.prog X.w) X.A (evalPairs (pairTrees keys values X.env pos)) (fun vs s'=>∃ ps H',Inv X pins σ H' s'/\VV ps vs/\Q ps H') X.xe s
noncomputable def mz (kvs more:List (Key × V)):List (Key × V):=more.foldl (fun acc kv=>gz acc kv.1 kv.2) kvs
theorem Km:∀ (more kvs:List (Key × V)),(mz kvs more).length<=kvs.length+more.length
 | [],kvs=>by show kvs.length<=kvs.length+0;omega
 | p :: r,kvs=>by
  have h1:=Km r (gz kvs p.1 p.2)
  have h2:=G1 kvs p.1 p.2
  show (mz (gz kvs p.1 p.2) r).length<=_
  rw [ZpG];omega
structure M1 (X:Cx) (o:Expr) (m:Str) (apos:Pos) (e:Expr) (aU:Pos):Prop where
 base:attributeBase o m X.env (eval o X.env)=eval o X.env
 P6:((backTo aU (starEach [e] X.env)).all (fun x=>!x.1) && (backToKw aU (keywordEach [] X.env)).all (fun x=>x.1.isSome)
  && decide (([e]:List Expr).length+([]:List Keyword).length+(if ([]:List Keyword).isEmpty then 0 else 1)<30))=true
 line:(apos.endLine == aU.line)=true
 trees:backTo aU (starEach [e] X.env)=[(false,eval e X.env)]
structure M2 (X:Cx) (o:Expr) (m:Str) (apos:Pos) (e f:Expr) (aU:Pos):Prop where
 base:attributeBase o m X.env (eval o X.env)=eval o X.env
 P6:((backTo aU (starEach [e,f] X.env)).all (fun x=>!x.1) && (backToKw aU (keywordEach [] X.env)).all (fun x=>x.1.isSome)
  && decide (([e,f]:List Expr).length+([]:List Keyword).length+(if ([]:List Keyword).isEmpty then 0 else 1)<30))=true
 line:(apos.endLine == aU.line)=true
 trees:backTo aU (starEach [e,f] X.env)=[(false,eval e X.env),(false,eval f X.env)]
section
variable {X:Cx}{pins:List (Addr × Obj)}{σ:St}{H:Hp}{s:Shared}{a:Addr}{y d:V}{u r:Value}{o:Option V}{A:Around}{E:Value->Shared->Prop}
end
section
variable {X:Cx}{o e f:Expr}{apos aU:Pos}{td ty tx:TE}
end
section
variable {X:Cx}{pins:List (Addr × Obj)}{σ:St}{H:Hp}{s:Shared}{a:Addr}{kvs:List (Key × V)}{A:Around}{E:Value->Shared->Prop}
end
section
variable {X:Cx}{pins:List (Addr × Obj)}{σ:St}{H:Hp}{s:Shared}{a:Addr}{y:V}{u:Value}{A:Around}{E:Value->Shared->Prop}
end
end L2
namespace JZ
open PySem PySem.W PySem.Calls PyProof.Rows
theorem Rt {P:Params}{h:Heap}:∀ (ns:List Int) (vs:List Value),WellAll P h vs (ns.map WData.int)->IntsAre vs ns:=by
 intro ns
 induction ns with
 | nil =>
  intro vs w
  rw [Zqc] at w
  cases w
  exact .nil
 | cons n ns ih =>
  intro vs w
  rw [ZpD] at w
  cases w with
  | cons a b =>
   cases a
   exact .cons _ _ (ih _ b)
theorem Se {l:OpenLaw}{n:Nat} (hn:l.most=some n) {P:Params}{h:Heap}{args:List WData}{vals:List Value}
  (cS:l.row.toRowW.claim.pre args=true) (mZ:WellAll P h vals args) :
  ∃ a vs ns,vals=[Value.ref a]/\args=[WData.list (ns.map WData.int)]/\h.get? a=some { cls:=.type "list",data:=.seq vs.toArray }/\IntsAre vs ns/\ns.length<=n:=by
 have oI:WShape.hasAll [] args [.list .int]=true:=(pre_splitW cS).1
 have hc:l.pre.holds [] { args:=args }=true:=(pre_splitW cS).2
 obtain ⟨d,r,rfl,h1,h2⟩:=hasAllW_cons oI
 obtain rfl:=hasAllW_nil h2
 obtain ⟨xs,rfl,h3⟩:=hasW_list h1
 obtain ⟨ns,rfl⟩:=items_int h3
 have hlen:ns.length<=n:=by
  unfold OpenLaw.pre at hc
  have h4:(WTm.not (.lt (.lit (.int (n:Int))) (.len (.arg 0)))).holds [] { args:=[.list (ns.map .int)] }=true:=by
   have h4:=(holds_andW hc).1
   rw [hn] at h4
   exact h4
  have h5:=condW_of h4 (w_not (w_lt w_lit (w_len_list (w_arg rfl))))
  rw [ZpC] at h5
  refine Nat.le_of_not_lt fun q=>?_
  have q':(n:Int)<((ns.length:Nat):Int):=by omega
  first
   | (rw [decide_eq_true q'] at h5;exact absurd h5 (by decide))
   | (simp at h5;omega)
 cases mZ with
 | cons w1 w2 =>
  cases w2
  cases w1 with
  | list ho hall=>exact ⟨_,_,ns,rfl,rfl,ho,Rt ns _ hall,hlen⟩
theorem Sn (l:OpenLaw) (args:List WData):l.row.toRowW.claim.post args (.bool true) args=true :=
 postW_of (r:=l.row.toRowW) (X:=(true == true))
  (show WShape.has [] (.bool true) .bool=true by first | rfl | decide | simp [WShape.has,WShape.arms,WShape.armsAll])
  (show (WTm.eq .res (.lit (.bool true))).value [] { args:=args,res:=some (.bool true),after:=args }=some (.bool (true == true)) from w_eq_bool (w_res rfl) w_lit) rfl
theorem Qq {l:OpenLaw}{n:Nat}{q:Program}{loose:List Str}{XP:(Str->Option Value)->Heap->Prop}{YP:World->Heap->Prop}{d:DefRec}
  (hn:l.most=some n) (xq:d.params.defaults=[])
  (call:∀ (w:World) (s₀ s₁:Shared) (mg mb:Str->Option Value) (fa:Addr) (o:Obj) (pm cd doc:Value) (a:Addr) (vs:List Value) (ns:List Int),
   Ground q loose [] XP w s₀ mg mb s₁.heap->YP w s₁.heap ->
   s₁.heap.get? fa=some o->o.data=.func (docDef d.name d.params d.body d.scope pm cd doc)->s₁.heap.CodeRec cd d.name->mg d.name=some (.ref fa) ->
   s₁.heap.get? a=some { cls:=.type "list",data:=.seq vs.toArray }->IntsAre vs ns->ns.length<=n->s₁.gens = #[] ->
   codeAny (model l.prog w) callerA (.call (.ref fa) ⟨[.ref a],[]⟩) (fun r s'=>r=.ok (.ret (.bool true))/\OldK s₁.heap s'.heap/\s'.os=s₁.os/\AllBare s'.gens) s₁) :
  WalkO q loose XP YP l.row.toRowW d [] (fun f vs=>PySem.call f vs):=by
 intro w s₀ s₁ mg mb G Y fa o pm cd doc dV kV ho hd gm hD hmg hg args vals as cS hlay hrd mZ hlo
 obtain rfl:dV=.none:=Dflts.none hD xq
 obtain rfl:kV=.none:=Dflts.noKw hD
 obtain ⟨a,vs,ns,rfl,rfl,hobj,hints,hlen⟩:=Se hn cS mZ
 refine enter_call (codeAny_mono (call w s₀ s₁ mg mb fa o pm cd doc a vs ns G Y ho (fd_plain hd) gm hmg hobj hints hlen hg) fun r s' hq=>?_)
 obtain ⟨rfl,h2,h3,h4⟩:=hq
 exact ⟨.inl ⟨.bool true,.bool true,[],rfl,fun _=>rfl,.bool true,Sn l _,fun _=>⟨List.Pairwise.nil,fun _ hm=>(nomatch hm)⟩⟩,h2,h3,h4⟩
section
variable {prog:Program}{w:World}{A:Around}{E:Value->Shared->Prop}{s:Shared}{K:Frag}
noncomputable def ledger (h:Heap) (L d:Addr):List (Addr × Obj):=(ZpJ h.objs.size).filterMap fun a=>if a=L\/a=d then none else (h.get? a).map fun o=>(a,o)
end
end JZ
namespace L2
open PySem PySem.Spec PyProof.Rows
theorem Ik:∀ {vs:List Value}{ns:List Int},IntsAre vs ns->Vals (ns.map V.int) vs
 | _,_,.nil=>.nil
 | _,_,.cons n t h=>.cons ⟨t,rfl⟩ (Ik h)
noncomputable def tR (H:Hp):Prop:=∀ b,H b=none\/∃ o xs,H b=some (.frz o (.lst xs))
theorem P0 {P:Program}{w:World}{K:ZoW}{mg mb:Str->Option Value}{CX:jq}{k:Nat}{fa a:Addr}{fd:FuncData}{x:Str}{sp:Sp}{s₁:Shared}{vs:List Value}{ns:List Int}
  (KX:K.In s₁.heap) (xI:s₁.heap.Ns mainGlobals mg) (hb:s₁.heap.Ns builtinsNs mb) (O6:∀ x:Str,x ≠ "__name__" -> mb x=bootBuiltins x) (EC:s₁.heap.NoLimit) (hg:s₁.gens = #[])
  (ha:s₁.heap.get? a=some { cls:=.type "list",data:=.seq vs.toArray }) (hi:IntsAre vs ns) (hl:ns.length<=sizeLine) (hr:aX k callerA)
  (F:∀ base:Heap,K.In base->base.Ns mainGlobals mg->aJ P w K mg base CX k fa fd [x] sp) (Ba:∀ (s:Shared) (u:Value),BindsTo s fd ⟨[u],[]⟩ [(x,u)])
  (jd:∀ H:Hp,tR H->aR K H a (ns.map V.int)->sp [.ref a] H (fun v _=>v=.bl true) fun _ _ _=>False)
  (GY:∀ H e s',CX [] H s₁ (fun _ _ _=>False) e s'->False) :
  codeAny (model P w) callerA (.call (.ref fa) ⟨[.ref a],[]⟩) (fun r s'=>r=.ok (.ret (.bool true))/\OldK s₁.heap s'.heap/\s'.os=s₁.os/\AllBare s'.gens) s₁:=by
 have rv:=Ik hi
 have GI:=hi.length
 -- from an abstract heap in which nothing but nZ script may be tracked
 have core:∀ H:Hp,tR H->aR K H a (ns.map V.int)->d6 P w H s₁.heap->(∀ b,H b≠none->b=a)->(H a≠none->K.lookup a=none) ->
   codeAny (model P w) callerA (.call (.ref fa) ⟨[.ref a],[]⟩) (fun r s'=>r=.ok (.ret (.bool true))/\OldK s₁.heap s'.heap/\s'.os=s₁.os/\AllBare s'.gens) s₁:=by
  intro H hO hS aB hA hK
  have kz:∀ {b:Addr}{o:Obj},s₁.heap.get? b=some o->H b=none->(nS s₁.heap H).get? b=some o:=fun e n=>Pt e n
  have yY:∀ {b:Addr}{o:Obj}{es:Array DictEntry}{ep:Nat},s₁.heap.get? b=some o->o.data=.dict es ep->H b=none:=fun {b o es ep} e d=>by
   cases q:H b with
   | none=>rfl
   | some u =>
    have e':b=a:=hA b (by rw [q];simp)
    subst e'
    rw [ha] at e;cases e
    have d':Data.seq vs.toArray _=Data.dict es ep:=d
    cases d'
  have Cb:∀ {b:Addr}{m:Str->Option Value},s₁.heap.Ns b m->(nS s₁.heap H).Ns b m:=fun {b m} ⟨o,es,ep,e,d,r⟩=>⟨o,es,ep,kz e (yY e d),d,r⟩
  have MV:K.In (nS s₁.heap H):=fun b o e=>kz (KX b o e) (by
   cases q:H b with
   | none=>rfl
   | some u =>
    have e':b=a:=hA b (by rw [q];simp)
    subst e'
    rw [hK (by rw [q];simp)] at e;cases e)
  have hM:Mod K mg (nS s₁.heap H):=⟨MV,Cb xI,⟨mb,Cb hb,O6⟩,let ⟨mc,h1,h2⟩:=EC;⟨mc,Cb h1,h2⟩⟩
  have e0:gC P w K mg (nS s₁.heap H) callerA [] s₁ H:=⟨rfl,hM,fun b o e=>R5 e,Nat.le_of_eq (R1 _ _),trivial,fun b hb=>absurd (show b∈([]:List Addr) from hb) (by simp),aB,.of_eq hg⟩
  refine codeAny_mono ((F _ MV (Cb xI)).run callerA [] s₁ H ⟨[.ref a],[]⟩ [.ref a] [.ref a] _ _ hr e0 (Ba s₁ (.ref a)) (.cons rfl .nil) (jd H hO hS)) fun r s' h=>?_
  cases r with
  | error e=>exact (GY H e s' h).elim
  | ok fl =>
   cases fl with
   | next=>exact False.elim h
   | brk=>exact False.elim h
   | cont=>exact False.elim h
   | ret u =>
    obtain ⟨v,H',os,bare,un,hok',r',q⟩:=h
    have q':v=.bl true:=q
    subst q'
    obtain rfl:u=Value.bool true:=r'
    refine ⟨rfl,OldK.of_keep fun b o e=>?_,os,bare⟩
    cases q:H b with
    | none=>exact un.keep b o e q (by intro z;exact absurd (show b∈([]:List Addr) from z) (by simp)) (by simp)
    | some u =>
     rcases hO b with z | ⟨ob,xs,z⟩
     ·rw [q] at z;cases z
     ·have z2:=un.d9 b ob _ z
      obtain ⟨e1,_⟩:=aB b _ z
      obtain ⟨e2,_⟩:=hok' b _ z2
      rw [e] at e1;cases e1
      exact e2
 cases hk:K.lookup a with
 | some o =>
  -- nZ script is one of nZ module's own objects
  have e:=KX a o hk
  rw [ha] at e
  cases e
  refine core (fun _=>none) (fun _=>.inl rfl) (.inr ⟨_,vs.toArray,_,hk,rfl,rfl,rfl,by rw [ZpN,GI];exact hl,by simpa using rv⟩) (fun b u z=>by have z':(none:Option HO)=some u:=z;cases z') (fun b z=>absurd rfl z) fun z=>absurd rfl z
 | none =>
  refine core (fun b=>if b=a then some (.frz { cls:=.type "list",data:=.seq vs.toArray } (.lst (ns.map V.int))) else none) (fun b=>?_) (.inl (.inr ⟨{ cls:=.type "list",data:=.seq vs.toArray },if_pos rfl⟩)) (fun b u z=>?_) (fun b z=>?_) fun _=>hk
  ·by_cases hb:b=a
   ·exact .inr ⟨_,_,if_pos hb⟩
   ·exact .inl (if_neg hb)
  ·by_cases hb:b=a
   ·have z':=(if_pos hb).symm.trans z
    cases z'
    subst hb
    exact ⟨ha,by rw [ZpC];exact hl,vs,_,rv,ha⟩
   ·have z':=(if_neg hb).symm.trans z
    cases z'
  ·by_cases hb:b=a
   ·exact hb
   ·exact absurd (if_neg hb) z
noncomputable abbrev Lj {K:ZoW}{h:Heap} (_:K.In h):ZoW:=K
theorem K7 {l:Zpn}{n k:Nat}{q:Program}{loose:List Str}{XP:(Str->Option Value)->Heap->Prop}{YP:World->Heap->Prop}{d:DefRec}{K:Params->ZoW}{CX:World->jq}{sp:World->Sp}{x:Str}
  (hn:l.most=some n) (uc:n<=sizeLine) (xq:d.params.defaults=[]) (hr:aX k callerA)
  (hY:∀ (w:World) (h:Heap),YP w h->(K w.params).In h)
  (F:∀ (w:World) (mg:Str->Option Value) (fa:Addr) (h:Heap),(K w.params).In h->h.Ns mainGlobals mg->mg d.name=some (.ref fa) ->
   ∃ fd:FuncData,(∀ (s:Shared) (u:Value),BindsTo s fd ⟨[u],[]⟩ [(x,u)]) /\
    ∀ base:Heap,(K w.params).In base->base.Ns mainGlobals mg->aJ l.prog w (K w.params) mg base (CX w) k fa fd [x] (sp w))
  (jd:∀ (w:World) (H:Hp) (a:Addr) (ns:List Int),ns.length<=n->tR H->aR (K w.params) H a (ns.map V.int)->sp w [.ref a] H (fun v _=>v=.bl true) fun _ _ _=>False)
  (GY:∀ (w:World) (H:Hp) (s:Shared) (e:Value) (s':Shared),CX w [] H s (fun _ _ _=>False) e s'->False) :
  PySem.W.WalkO q loose XP YP l.row.toRowW d [] (fun f vs=>PySem.call f vs):=by
 refine JZ.Qq hn xq fun w s₀ s₁ mg mb fa o pm cd doc a vs ns G Y ho hd gm hmg hobj hints hlen hg=>?_
 have KX:=hY w _ Y
 obtain ⟨fd,hb,hF⟩:=F w mg fa _ KX G.T.g hmg
 exact P0 KX G.T.g G.T.b G.T.builtins G.T.nolimit hg hobj hints (Zq0 hlen uc) hr hF hb (fun H hO hS=>jd w H a ns hlen hO hS) fun H e s'=>GY w H s₁ e s'
end L2
/- THE LAST THEOREM (shape;LID,My.* are yours):
   My.dy: a structure of nZ addresses that your layer names (classes,functions);My.Txt K t: a structure (Prop) of nZ equations over K;
   My.txt_mk:{K}{implicit addresses ..} (e1:nsIn K mainGlobals "law" = some (some (.ref f))) (e2:K.lookup f=some ⟨oc,od,.func (fnOf "law" "law" params body scope dV kV doc pm an aG ct),sl⟩) (e3:codeIn K aG "law" = true) .. : ∃ t,My.Txt K t
set_option maxRecDepth 100000 in
set_option maxHeartbeats 0 in
theorem PySem.Challenge.cw_LID_holds : PySem.Challenge.rw_LID.Holds := by
 w_on;o_law;k_head;(case hw=>w_witness2)
 k_fill
 refine L2.K7 (l:=PySem.Challenge.rw_LID) (n:=63) (k:=40) (x:="script") (CX:=fun w=>..) (sp:=fun _=>My.h9) rfl (by decide) rfl ⟨rfl,by decide,by decide⟩ (fun w h Y=>PySem.W.kIn_of Y) ?F ?S ?C
 case F =>
  intro w mg fa h KX G hmg
  have T:∃ t,My.Txt (L2.Lj KX) t:=by
   dsimp only [L2.Lj]                          -- K must stand as «<heap const> w.params» for k_is
   refine' My.txt_mk ?e1 ?e2 ?e3 ..
   (case e1 => PySem.W.k_is)                    -- in nZ order: a name -> its address -> its object -> its parts
   (case e2=>PySem.W.k_is)
   ..
  obtain ⟨t,T⟩:=T
  have e0:=hmg.symm.trans (ZoZ KX G T.law)
  cases e0                                       -- fa is nZ law's own address
  exact ⟨_, fun s u => .of_eq rfl, fun base kb nb => My.law_fn T kb nb⟩     -- if «.of_eq rfl» comes too early: refine' ⟨_, ?b, fun base kb nb => My.law_fn T kb nb⟩; exact fun s u => .of_eq rfl
 case S=>exact fun w H a ns hl hO hS=>..
 case C=>exact ..
(nZ tactic k_is has no namespace: write k_is) -/
namespace L2
open PySem PySem.Spec PyProof.Rows
noncomputable def lE (s:Stmt) (j:Nat):Stmt:=match s with
 | .ClassDef _ _ _ body _ _ _ _ _ _ _=>body.getD j (.Pass ⟨0,0,0,0⟩)
 | _=>.Pass ⟨0,0,0,0⟩
noncomputable def lT (s:Stmt):Arguments:=match s with
 | .FunctionDef _ a _ _ _ _ _ _ _ _=>a
 | _=>{ posonlyargs:=[],args:=[],vararg:=none,kwonlyargs:=[],kw_defaults:=[],kwarg:=none,defaults:=[] }
noncomputable def jh (s:Stmt):List Stmt:=match s with
 | .FunctionDef _ _ b _ _ _ _ _ _ _=>b
 | _=>[]
noncomputable def ba (s:Stmt):Scope:=match s with
 | .FunctionDef _ _ _ _ _ _ sc _ _ _=>sc
 | _=>{ kind:=.function,names:=[],isGenerator:=false,isCoroutine:=false }
noncomputable abbrev gd:jq:=fun _ _ _ _ _ _=>False
noncomputable abbrev E0:XK:=fun _ _ _=>False
theorem dO {X:Cx}:mL gd X E0:=fun _ _ _ _ _ _ _ h=>h.elim
structure iY (K:ZoW) (x qual:Str) (st:Stmt) (f:Addr) (fd:FuncData):Prop where
 ex:∃ (oc:Value) (od:Option Addr) (kV doc pm:Value) (an:Option Addr) (aG ct:Value) (jw:Array (Option Value)),
  fd=Zo2 x qual (lT st) (jh st) (ba st) .none kV doc pm an aG ct/\K.lookup f=some ⟨oc,od,.func fd,jw⟩/\Zo8 K aG qual=true
 kp:Zo5 K (.ref f)=true
section
variable {P:Program}{w:World}{K:ZoW}{mg:Str->Option Value}{base:Heap}
theorem iY.ok {x qual:Str}{st:Stmt}{f:Addr}{fd:FuncData}{N ps:List Str}{k:Nat}{sp:Sp} (F:iY K x qual st f fd) (S:aj N ps (ba st)) (len:∀ vs H Q E,sp vs H Q E->vs.length=ps.length)
  (fK:∀ (aG:Value) (A:Around) (outer:List Env) (s:Shared) (H:Hp) (vs:List V) (Q:VK) (E:XK),aX k (A.deeper (envOfC qual (ba st) s.heap.objs.size f aG))->sp vs H Q E ->
   ∃ t,gy (iJ gd P w K mg base N qual (ba st) f aG A outer s H E).yi (jh st) t/\t { nx:=fun _ H'=>Q .non H',rt:=Q } (jM N vs) H):aJ P w K mg base gd (k+1) f fd ps sp:=by
 obtain ⟨oc,od,kV,doc,pm,an,aG,ct,jw,rfl,lk,gm⟩:=F.ex
 refine pW lk gm S len fun A outer s H vs Q E hr jd=>?_
 obtain ⟨t,h,q⟩:=fK aG A outer s H vs Q E hr jd
 exact ⟨t,h.yi,q⟩
theorem iY.binds {x qual:Str}{st:Stmt}{f:Addr}{fd:FuncData}{ps:List Str} (F:iY K x qual st f fd)
  (h:∀ (kV doc pm:Value) (an:Option Addr) (aG ct:Value) (us:List Value),us.length=ps.length->bindArgs (Zo2 x qual (lT st) (jh st) (ba st) .none kV doc pm an aG ct) ⟨us,[]⟩=pure (ps.zip us)):kq K fd ps []:=by
 obtain ⟨oc,od,kV,doc,pm,an,aG,ct,jw,rfl,lk,gm⟩:=F.ex
 exact .all (h kV doc pm an aG ct)
theorem Mi {x qual:Str}{st:Stmt}{f:Addr}{oc:Value}{od an:Option Addr}{jw:Array (Option Value)}{kV doc pm aG ct:Value} (l:K.lookup f=some ⟨oc,od,.func (Zo2 x qual (lT st) (jh st) (ba st) .none kV doc pm an aG ct),jw⟩)
  (c:Zo8 K aG qual=true) (k:Zo5 K (.ref f)=true):iY K x qual st f (Zo2 x qual (lT st) (jh st) (ba st) .none kV doc pm an aG ct):=⟨⟨oc,od,kV,doc,pm,an,aG,ct,jw,rfl,l,c⟩,k⟩
end
theorem BS {A:Around}{k:Nat} (hr:aX k A):A.units+1<cLine:=Nat.lt_of_le_of_lt (Nat.add_le_add_left (by decide:1<=64) _) hr.units
section
variable {X:Cx}
theorem PU:gI X (.builtin "len") (fun xs H Q=>∃ a kvs,xs=[V.ref a]/\H a=some (.dK kvs)/\Q (.int kvs.length) H):=by
 intro pins s σ H xs us Q I r h
 obtain ⟨a,kvs,rfl,ha,q⟩:=h
 obtain ⟨u,rfl,ru⟩:=jA r
 cases ru
 exact Ap I (.inl ha) fun t s' I'=>⟨.int kvs.length,H,I',⟨t,rfl⟩,q⟩
end
noncomputable def aH (H H':Hp):Prop:=∀ b o,H b=some o->H' b=some o
theorem aH.refl (H:Hp):aH H H:=fun _ _ h=>h
theorem aH.trans {H H1 H2:Hp} (a:aH H H1) (b:aH H1 H2):aH H H2:=fun c o h=>b c o (a c o h)
theorem aH.free {H H':Hp} (e:aH H H') {l:Addr} (h:H' l=Option.none):H l=Option.none:=by
 cases q:H l with
 | none=>rfl
 | some o =>
  rw [e l o q] at h
  cases h
theorem aH.seq {K:ZoW}{H H':Hp}{a:Addr}{xs:List V} (e:aH H H') (h:aR K H a xs):aR K H' a xs:=by
 rcases h with (h | ⟨o,h⟩) | h
 ·exact .inl (.inl (e _ _ h))
 ·exact .inl (.inr ⟨o,e _ _ h⟩)
 ·exact .inr h
section
variable {κ:Type} [DecidableEq κ]
end
noncomputable def ib (env:Env):List (Str × NameKind)->List (Str × Addr)->List (Str × Addr)
 | [],acc=>acc
 | (n,k) :: r,acc=>if (k == NameKind.free)=true then ib env r ((n,(env.cells.lookup n).getD 0) :: acc) else ib env r acc
theorem Ow {env:Env}{n:Str}{c:Addr} (h:env.cells.lookup n=some c):cellOf env n=pure c:=by
 unfold cellOf
 rw [h]
theorem Iv {env:Env}:∀ (names:List (Str × NameKind)) (acc:List (Str × Addr)),(∀ x∈names,x.2=.free->∃ c,env.cells.lookup x.1=some c) ->
  (forIn names acc fun (x:Str × NameKind) (cs:List (Str × Addr))=>(match x with | (name,kind)=>if (kind == NameKind.free)=true then (do let __do_lift <- cellOf env name;pure PUnit.unit;pure (ForInStep.yield ((name,__do_lift) :: cs)):Sem _) else (do pure PUnit.unit;pure (ForInStep.yield cs)):Sem (ForInStep (List (Str × Addr)))))=pure (ib env names acc)
 | [],acc,_=>rfl
 | (n,k) :: r,acc,h=>by
  have ih:=fun a=>Iv r a fun x hx=>h x (ZpR _ hx)
  rw [List.forIn_cons]
  by_cases hk:(k == NameKind.free)=true
  ·obtain ⟨c,hc⟩:=h (n,k) ZpZ (by simpa using hk)
   simp only [hk,if_true,ib,Ow hc,hc,Option.getD_some,pure_bind]
   exact ih _
  ·simp only [hk,if_false,ib,pure_bind]
   exact ih _
theorem CY {scope:Scope}{env:Env} (h:∀ x∈scope.names,x.2=.free->∃ c,env.cells.lookup x.1=some c):closureFor scope env=pure (ib env scope.names []):=by
 unfold closureFor
 have q:=Iv scope.names [] h
 exact (congrArg (fun m=>m >>= pure) q).trans (pure_bind _ _)
theorem Fh {env:Env}:∀ (names:List (Str × NameKind)) (acc:List (Str × Addr)),(∀ x∈names,x.2=.free->∃ c,env.cells.lookup x.1=some c)->(∀ p∈acc,env.cells.lookup p.1=some p.2) ->
  ∀ p∈ib env names acc,env.cells.lookup p.1=some p.2
 | [],acc,_,ha=>ha
 | (n,k) :: r,acc,h,ha=>by
  by_cases hk:(k == NameKind.free)=true
  ·obtain ⟨c,hc⟩:=h (n,k) ZpZ (by simpa using hk)
   simp only [ib,hk,if_true]
   refine Fh r _ (fun x hx=>h x (ZpR _ hx)) fun p hp=>?_
   rcases ZpE.mp hp with rfl | hp
   ·show env.cells.lookup n=some _
    rw [hc];rfl
   ·exact ha p hp
  ·simp only [ib,hk,if_false]
   exact Fh r _ (fun x hx=>h x (ZpR _ hx)) ha
theorem Fd {env:Env}:∀ (names:List (Str × NameKind)) (acc:List (Str × Addr)) (p:Str × Addr),p∈acc->p∈ib env names acc
 | [],_,_,h=>h
 | (n,k) :: r,acc,p,h=>by
  by_cases hk:(k == NameKind.free)=true
  ·simp only [ib,hk,if_true]
   exact Fd r _ p (ZpR _ h)
  ·simp only [ib,hk,if_false]
   exact Fd r _ p h
theorem GC {env:Env}:∀ (names:List (Str × NameKind)) (acc:List (Str × Addr)) (x:Str),(x,NameKind.free)∈names->∃ c,(x,c)∈ib env names acc
 | (n,k) :: r,acc,x,h=>by
  rcases ZpE.mp h with e | h
  ·injection e with e1 e2
   subst e1;subst e2
   simp only [ib,beq_self_eq_true,if_true]
   exact ⟨_,Fd r _ _ ZpZ⟩
  ·by_cases hk:(k == NameKind.free)=true
   ·simp only [ib,hk,if_true]
    exact GC r _ x h
   ·simp only [ib,hk,if_false]
    exact GC r _ x h
theorem Le:∀ {l:List (Str × Addr)}{x:Str}{c:Addr},(x,c)∈l->∃ d,l.lookup x=some d
 | (n,d) :: r,x,c,h=>by
  by_cases e:x == n
  ·exact ⟨d,by simp [Zqd,e]⟩
  ·rcases ZpE.mp h with q | q
   ·injection q with q1 _
    subst q1
    simp at e
   ·obtain ⟨d',hd⟩:=Le q
    exact ⟨d',by simp [Zqd,e,hd]⟩
theorem HV {env:Env}:∀ {names:List (Str × NameKind)}{x:Str}{k:NameKind},
  (names.map fun (n,k)=>if (k == NameKind.free && env.scope.kind == .function && env.kindOf n == some .cell) then (n,NameKind.cell) else (n,k)).lookup x=some k ->
  ∃ k',names.lookup x=some k'/\(k=k'\/k'=.free)
 | [],_,_,h=>by simp at h
 | (n,j) :: r,x,k,h=>by
  have ih:=@HV env r x k
  by_cases hc:(j == NameKind.free && env.scope.kind == .function && env.kindOf n == some .cell)=true
  ·simp only [ZpD,hc,if_true,Zqd] at h ⊢
   cases e:x == n with
   | true =>
    rw [e] at h
    refine ⟨j,rfl,.inr ?_⟩
    simp only [Zrt,beq_iff_eq] at hc
    exact hc.1.1
   | false =>
    rw [e] at h
    exact ih h
  ·rw [ZpD] at h
   dsimp only at h
   rw [if_neg hc,Zqd] at h
   rw [Zqd]
   cases e:x == n with
   | true =>
    rw [e] at h
    exact ⟨j,rfl,.inl (by injection h with h;exact h.symm)⟩
   | false =>
    rw [e] at h
    exact ih h
theorem Nn {env:Env}:∀ {names:List (Str × NameKind)}{x:Str},names.lookup x=some .free ->
  (names.map fun (n,k)=>if (k == NameKind.free && env.scope.kind == .function && env.kindOf n == some .cell) then (n,NameKind.cell) else (n,k)).lookup x=some .cell \/
  (names.map fun (n,k)=>if (k == NameKind.free && env.scope.kind == .function && env.kindOf n == some .cell) then (n,NameKind.cell) else (n,k)).lookup x=some .free
 | [],_,h=>by simp at h
 | (n,j) :: r,x,h=>by
  have ih:=@Nn env r x
  cases e:x == n with
  | true =>
   rw [Zqd,e] at h
   injection h with h
   subst h
   rw [ZpD]
   dsimp only
   split
   ·exact .inl (by simp [Zqd,e])
   ·exact .inr (by simp [Zqd,e])
  | false =>
   rw [Zqd,e] at h
   rcases ih h with q | q
   ·left
    rw [ZpD]
    dsimp only
    split <;> simp only [Zqd,e] <;> exact q
   ·right
    rw [ZpD]
    dsimp only
    split <;> simp only [Zqd,e] <;> exact q
noncomputable def iW (X:Cx) (scope:Scope) (N:List Str) (C:Addr) (s:Shared) (H:Hp) (fp:List Addr):Cx :=
 { X with N:=N,s₀:=s,H₀:=H,env:=compEnvC scope (ib X.env scope.names []) C X.env,outer:=X.stack,stack:=X.stack,ex:=fp,fn:=fun _=>false,pn:=[],xe:=fun _ _=>False }
structure aD (X:Cx) (scope:Scope):Prop where
 kind:scope.kind=.function
 j8:∀ y∈scope.names,y.2≠.cell
 names:∀ y∈scope.names,y.2=.local->scope.names.lookup y.1=some .local
 free:∀ y∈scope.names,y.2=.free->X.env.kindOf y.1=some .cell\/X.env.kindOf y.1=some .free
section
variable {X:Cx}{pins:List (Addr × Obj)}{σ:St}{H:Hp}{s:Shared}
theorem aD.has {scope:Scope} (S:aD X scope) (ok:X.Ok):∀ x∈scope.names,x.2=.free->∃ c,X.env.cells.lookup x.1=some c:=fun x hx h=>ok.has _ (S.free x hx h)
theorem px {scope:Scope} (S:aD X scope) (ok:X.Ok) {x:Str}{c:Addr} (h:(ib X.env scope.names []).lookup x=some c):X.env.cells.lookup x=some c :=
 Fh scope.names [] (S.has ok) (fun p hp=>absurd hp (by simp)) (x,c) (PySem.mem_of_lookup h)
theorem Gh {scope:Scope} (S:aD X scope) (ok:X.Ok) {x:Str} (h:scope.names.lookup x=some .free):∃ c,(ib X.env scope.names []).lookup x=some c/\X.env.cells.lookup x=some c:=by
 obtain ⟨c,hc⟩:=GC (env:=X.env) scope.names [] x (PySem.mem_of_lookup h)
 obtain ⟨d,hd⟩:=Le hc
 exact ⟨d,hd,px S ok hd⟩
structure aF (X:Cx) (scope:Scope) (N:List Str) (k:Nat) (sel:List Nat):Prop where
 len:N.length=k+sel.length
 fr:∀ (i j:Nat) (x:Str),sel[i]? = some j->N[k+i]? = some x->X.N[j]? = some x/\scope.names.lookup x=some .free
noncomputable def cst (σ:St) (k:Nat) (sel:List Nat):St:=Zqi k none ++ sel.map fun j=>(σ[j]?).join
theorem RW {k:Nat}{sel:List Nat}:(cst σ k sel).length=k+sel.length:=by
 unfold cst;rw [ZpI,ZqK,ZpC]
theorem Hh {scope:Scope}{N:List Str}{fp:List Addr} (S:aD X scope) (I:Inv X pins σ H s) (hf:∀ b∈fp,i5 X pins H b) (dw:∀ b∈fp,b<s.heap.objs.size):(iW X scope N s.heap.objs.size s H fp).Ok where
 mod:=I.ok.mod
 kind:=S.kind
 glob:=I.ok.glob
 blt:=I.ok.blt
 above:=ZqY _
 inj:=fun x y c h1 h2=>I.ok.inj x y c (px S I.ok h1) (px S I.ok h2)
 has:=fun x h=>by
  have h':(relabel scope X.env).names.lookup x=some .cell\/(relabel scope X.env).names.lookup x=some .free:=h
  rcases h' with h' | h'
  ·obtain ⟨k',e,q⟩:=HV h'
   rcases q with q | q
   ·subst q
    exact absurd rfl (S.j8 _ (PySem.mem_of_lookup e))
   ·subst q
    obtain ⟨c,hc,_⟩:=Gh S I.ok e
    exact ⟨c,hc⟩
  ·obtain ⟨k',e,q⟩:=HV h'
   have:k'=.free:=by rcases q with q | q;exact q.symm;exact q
   subst this
   obtain ⟨c,hc,_⟩:=Gh S I.ok e
   exact ⟨c,hc⟩
 kW:=fun x c h=>absurd (show false=true from h) (by simp)
 hd:=I.ok.hd
 frames:=I.ok.frames
 lS:=.inl rfl
 nK:=fun b hb=>⟨ZqZ (dw b hb),fun x c h=>(hf b hb).2.2.2.2.1 x c (px S I.ok h)⟩
 bs:=I.bs
 iO:=Zq0 I.ok.iO I.sz
 fz:=fun b o e hb=>by
  rcases (hf b hb).2.2.2.1 with z | z
  ·exact I.ok.fz b o e z
  ·exact absurd (Zq1 (Heap.lt_size e) (Zq0 I.ok.iO z)) (Zq6 _)
 fL:=fun b hb z=>by
  rcases ZpE.mp (I.jZ b z) with q | q
  ·exact (hf b hb).2.1 q
  ·exact (hf b hb).2.2.1 q
 cu:=I.stack
 jB:=I.fG
theorem IZ {scope:Scope}{N:List Str}{fp:List Addr}{k:Nat}{sel:List Nat}{h₁:Heap}{m:Str->Option Value}{t':Nat} (S:aD X scope) (M:aF X scope N k sel) (I:Inv X pins σ H s) (hf:∀ b∈fp,i5 X pins H b) (dw:∀ b∈fp,b<s.heap.objs.size)
  (hn:h₁.Ns s.heap.objs.size m) (hk:∀ b o,s.heap.get? b=some o->h₁.get? b=some o):Inv (iW X scope N s.heap.objs.size s H fp) [] (cst σ k sel) H { s with heap:=h₁,toks:=t' }:=by
 refine ⟨Hh S I hf dw,rfl,I.bare,Un.kept hk,⟨m,hn,fun i x v e1 e2 e3=>?_⟩,fun x c e=>?_,I.aB.fresh (ZqY _),fun x c e=>I.bj x c (px S I.ok e),fun p hp=>absurd (show p∈([]:List (Addr × Obj)) from hp) (by simp),I.aB.kept hk,?_⟩
 ·have hi:k<=i:=by
   by_cases hi:k<=i
   ·exact hi
   ·unfold cst at e2
    rw [Zp5 (by simp;omega),ZqU] at e2
    split at e2 <;> cases e2
  obtain ⟨d,rfl⟩:∃ d,i=k+d:=⟨i - k,by omega⟩
  unfold cst at e2
  rw [ZpW (by simp),ZqK,Nat.add_sub_cancel_left,ZpF] at e2
  cases ej:sel[d]? with
  | none=>rw [ej] at e2;cases e2
  | some j =>
   rw [ej] at e2
   have e2':(σ[j]?).join=some v:=Option.some.inj e2
   have e4:σ[j]? = some (some v):=by
    cases q:σ[j]? with
    | none=>rw [q] at e2';cases e2'
    | some o=>rw [q] at e2';cases o with
     | none=>cases e2'
     | some w=>cases e2';rfl
   obtain ⟨hN,jt⟩:=M.fr d j x ej e1
   obtain ⟨mo,pR,hlo⟩:=I.loc
   have kA:=S.free _ (PySem.mem_of_lookup jt) rfl
   obtain ⟨u,ru,lu⟩:=hlo j x v hN e4 (by rcases kA with q | q;exact .inr (.inl q);exact .inr (.inr q))
   obtain ⟨c,hc,hc'⟩:=Gh S I.ok jt
   refine ⟨u,ru,.inr ⟨?_,c,hc,?_⟩⟩
   ·exact Nn jt
   ·rcases lu with ⟨kl,_⟩ | ⟨_,c',e5,z⟩
    ·rcases kA with q | q
     ·rw [kl] at q;cases q
     ·rw [kl] at q;cases q
    ·rw [hc'] at e5;cases e5
     obtain ⟨o,ho,hd⟩:=z
     exact ⟨o,hk _ _ ho,hd⟩
 ·obtain ⟨v,o,ho,hd⟩:=I.cell x c (px S I.ok e)
  exact ⟨v,o,hk _ _ ho,hd⟩
 ·rw [RW];exact M.len.symm
end
noncomputable def mX (X:Cx) (ifs:List Expr) (t:TT):Prop :=
 ∀ (pins:List (Addr × Obj)) (s:Shared) (σ:St) (H:Hp) (Q:Bool->Hp->Prop),Inv X pins σ H s->t σ H Q ->
  wpAny (model X.prog X.w) X.A (forIn ifs true fun c r=>if r=true then do let ok <- isTrue c X.env (eval c X.env);pure (ForInStep.yield ok) else pure (ForInStep.yield r)) (TP X pins σ Q) X.xe s
noncomputable def fR:TT:=fun _ H Q=>Q true H
theorem jz {X:Cx}:mX X [] fR:=fun pins s σ H Q I h=>wpAny_tests_nil ⟨H,I,h⟩
theorem PR {X:Cx}{c:Expr}{t:TT} (hc:PT X c t):mX X [c] t:=fun pins s σ H Q I h=>wpAny_tests_one (hc pins s σ H Q I h)
noncomputable def eg (wi:TI) (k:Nat) (sel:List Nat) (g:TG) (tt:TT) (te:TE):TE:=fun σ H Q=>wi σ H fun J H1=>∀ p,H1 p=none ->
 ∃ W:Nat->Nat->St->Hp->Prop,(∃ m,W 0 m (cst σ k sel) (upd H1 p (.lst [])))/\∀ i m σ2 H2,W i m σ2 H2 ->
  (J.stop i H2/\Q (.ref p) H2)\/(J.go i H2/\∀ x H3,J.jm i H2 x H3->g x σ2 H3 fun σ4 H4=>tt σ4 H4 fun b H5 =>
   if b=true then te σ4 H5 fun v H6=>∃ ys,H6 p=some (.lst ys)/\ys.length<sizeLine/\∃ m',m'<m/\W (i+1) m' σ4 (upd H6 p (.lst (ys ++ [v]))) else ∃ m',m'<m/\W (i+1) m' σ4 H5)
theorem PY {X:Cx}{elt tg iter:Expr}{ifs:List Expr}{scope:Scope}{pos:Pos}{it D:Addr}{fp:List Addr}{tn:Nat->Heap->Prop}{J:It}{g:TG}{tt:TT}{te:TE}{W:Nat->Nat->St->Hp->Prop}{R:Result->Shared->Prop}{QQ:Hp->Prop}
  (hx:X.xe=fun _ _=>False) (hc:X.calm=true) (T:Turn X.prog X.w X.K tg J fp it tn) (hg:PG X tg g) (ht:mX X ifs tt) (he:PE X elt te)
  (D5:∀ b∈fp,b≠X.env.locals/\b ∉ X.fs/\(b∈X.ex\/X.s₀.heap.objs.size<=b)/\(∀ x c,X.env.cells.lookup x=some c->c≠b)/\∀ p∈X.pn ++ [],p.1≠b)
  (turn:∀ i m σ2 H2,W i m σ2 H2 ->
   (J.stop i H2/\QQ H2)\/(J.go i H2/\∀ x H3,J.jm i H2 x H3->g x σ2 H3 fun σ4 H4=>tt σ4 H4 fun b H5 =>
    if b=true then te σ4 H5 fun v H6=>∃ ys,H6 D=some (.lst ys)/\ys.length<sizeLine/\∃ m',m'<m/\W (i+1) m' σ4 (upd H6 D (.lst (ys ++ [v]))) else ∃ m',m'<m/\W (i+1) m' σ4 H5))
  (hR:∀ s' σ' H',Inv X [] σ' H' s'->QQ H'->R (.ok .next) s') {s:Shared} (m0:Nat) (h:∃ i σ' H',Inv X [] σ' H' s/\tn i s.heap/\(∀ b∈fp,H' b=none)/\W i m0 σ' H') :
  codeAny (model X.prog X.w) X.A (.compLoop (.ListComp elt [⟨tg,iter,ifs,0⟩] scope pos) 0 (.ref it) (.ref D) X.env) R s:=by
 have stat:∀ {H':Hp},(∀ b∈fp,H' b=none)->∀ b∈fp,i5 X [] H' b:=fun hn b hb=>⟨hn b hb,D5 b hb⟩
 have jS:∀ {α:Type}{t:Sem α}{Q:α->Shared->Prop}{E:Value->Shared->Prop}{s:Shared},wpAny (model X.prog X.w) X.A t Q X.xe s->wpAny (model X.prog X.w) X.A t Q E s:=fun {α t Q E s} h=>by
  rw [hx] at h
  exact wpAny_noRaise h
 refine codeAny_loop rfl (fun n s'=>∃ i σ' H',Inv X [] σ' H' s'/\tn i s'.heap/\(∀ b∈fp,H' b=none)/\W i n σ' H') (fun n s3 hI=>?_) m0 h
 obtain ⟨i,σ3,H3,I3,st3,fr3,w3⟩:=hI
 show wpAny _ X.A ((compTurn (.ListComp elt [⟨tg,iter,ifs,0⟩] scope pos) 0 (.ref it) (.ref D) X.env).onRaise (fun x=>do noteFrame x X.env;theTreesLotGoes x)) _ _ s3
 refine wpAny_noted ?_
 rw [compTurn_list]
 rcases turn i n σ3 H3 w3 with ⟨stop,qn⟩ | ⟨go,step⟩
 ·refine wpAny_bind (wpAny_standAt (wpAny_bind (aE (jS (T.done X rfl rfl rfl hc i [] s3 σ3 H3 X.xe I3 (stat fr3) st3 stop)) fun r s4 ⟨hr,I4⟩=>?_)))
  subst hr
  exact wpAny_pure (hR s4 σ3 H3 I4 qn)
 ·refine wpAny_bind (wpAny_standAt (wpAny_bind (aE (jS (T.item X rfl rfl rfl hc i [] s3 σ3 H3 X.xe I3 (stat fr3) st3 go)) fun r s4 ⟨u,hr,h4⟩=>?_)))
  subst hr
  refine wpAny_bind (aE (jS h4) fun _ s5 ⟨x,H5,I5,r5,y5,st5,fr5⟩=>?_)
  have I5':=I5.pinned (stat fr5) (T.obj _ _ st5)
  refine wpAny_bind (aE (jS (hg _ s5 σ3 H5 x u _ I5' r5 (step x H5 y5))) fun _ s6 ⟨σ6,H6,I6,q6⟩=>?_)
  refine wpAny_bind (aE (jS (ht _ s6 σ6 H6 _ I6 q6)) fun ok s7 ⟨H7,I7,q7⟩=>?_)
  have again:∀ {s8:Shared}{H8:Hp},Inv X ([] ++ vY fp s5.heap) σ6 H8 s8->(∃ m',m'<n/\W (i+1) m' σ6 H8)->∃ m,m<n/\∃ i σ' H',Inv X [] σ' H' s8/\tn i s8.heap/\(∀ b∈fp,H' b=none)/\W i m σ' H':=fun {s8 H8} I8 n8=>by
   obtain ⟨m',hm,w8⟩:=n8
   refine ⟨m',hm,i+1,σ6,H8,I8.dM,T.keep _ _ _ st5 fun b hb o e=>(I8.pin (b,o) (ZpT _ (ZpT _ (vx hb e)))).1,fun b hb=>?_,w8⟩
   obtain ⟨o,e,d⟩:=T.obj _ _ st5 b hb
   exact (I8.pin (b,o) (ZpT _ (ZpT _ (vx hb e)))).2.1
  cases ok with
  | false=>exact wpAny_pure ⟨rfl,again I7 q7⟩
  | true =>
   refine wpAny_bind (wpAny_bind (aE (jS (he _ s7 σ6 H7 _ I7 q7)) fun y s8 ⟨v,H8,I8,r8,ys,hys,hl,q8⟩=>?_))
   refine wpAny_bind (aE (jS (qo _ s8 σ6 H8 (.ref D) [v] (.ref D) [y] (fun _ H9=>∃ m',m'<n/\W (i+1) m' σ6 H9) I8 rfl (.cons r8 .nil) ⟨D,ys,v,rfl,rfl,hys,hl,q8⟩)) fun _ s9 ⟨_,H9,I9,_,q9⟩=>?_)
   exact wpAny_pure (wpAny_pure ⟨rfl,again I9 q9⟩)
structure mG (X:Cx) (pins:List (Addr × Obj)) (H:Hp) (C:Addr) (s:Shared):Prop where
 none:H C=Option.none
 ne:C≠X.env.locals
 above:X.s₀.heap.objs.size<=C
 cells:∀ x c,X.env.cells.lookup x=some c->c≠C
 pins:∀ p∈X.pn ++ pins,p.1≠C
 ns:∃ m,s.heap.Ns C m
theorem JR {X:Cx}{pins:List (Addr × Obj)}{σ:St}{elt tg iter:Expr}{ifs:List Expr}{scope:Scope}{pos:Pos}{N:List Str}{k:Nat}{sel:List Nat}{g:TG}{tt:TT}{te:TE}{lZ:Value}{s2:Shared}{QQ:VK}{use:Option (Value->Sem Unit)}{Qv:Value->Shared->Prop}
  (S:aD X scope) (M:aF X scope N k sel) (hc:X.calm=true)
  (hg:∀ C s H fp,PG (iW X scope N C s H fp) tg g) (ht:∀ C s H fp,mX (iW X scope N C s H fp) ifs tt) (he:∀ C s H fp,PE (iW X scope N C s H fp) elt te)
  (fin:∀ D C s' H',Inv X pins σ H' s'->mG X pins H' C s'->QQ (.ref D) H'->compPost (model X.prog X.w) X.A X.xe use Qv (.ref D) C (.ok .next) s')
  (h2:yu X pins σ tg (fun J H1=>∀ p,H1 p=none->∃ W:Nat->Nat->St->Hp->Prop,(∃ m,W 0 m (cst σ k sel) (upd H1 p (.lst [])))/\∀ i m σ2 H2,W i m σ2 H2 ->
   (J.stop i H2/\QQ (.ref p) H2)\/(J.go i H2/\∀ x H3,J.jm i H2 x H3->g x σ2 H3 fun σ4 H4=>tt σ4 H4 fun b H5 =>
    if b=true then te σ4 H5 fun v H6=>∃ ys,H6 p=some (.lst ys)/\ys.length<sizeLine/\∃ m',m'<m/\W (i+1) m' σ4 (upd H6 p (.lst (ys ++ [v]))) else ∃ m',m'<m/\W (i+1) m' σ4 H5)) lZ s2) :
  wpAny (model X.prog X.w) X.A (newList []) (fun acc s₃=>wpAny (model X.prog X.w) X.A (newFunctionEnv scope X.env.globals (ib X.env scope.names []) [] X.env.qual none .none (some X.env)) (fun lg s₄ =>
   codeAny (model X.prog X.w) X.A (.compStart (.ListComp elt [⟨tg,iter,ifs,0⟩] scope pos) 0 lZ acc { lg with scope:=relabel scope X.env }) (compPost (model X.prog X.w) X.A X.xe use Qv acc lg.locals) s₄) X.xe s₃) X.xe s2:=by
 obtain ⟨it,fp,tn,J,H2,rfl,I2,T,st2,f2,R2⟩:=h2
 have hD:H2 s2.heap.objs.size=none:=I2.aB.fresh (ZqY _)
 obtain ⟨W,⟨m0,w0⟩,turn⟩:=R2 _ hD
 refine wpAny_newObj_type ?_
 have I3:=I2.oG (its:=[]) (ys:=[]) (t':=s2.toks) .nil (Zq3 _)
 generalize hs3:({ s2 with heap:=s2.heap.push { cls:=.type "list",data:=.seq ([]:List Value).toArray },toks:=s2.toks }:Shared)=s3 at I3
 have e3:({ s2 with heap:=s2.heap.push { cls:=.type "list",dict:=none,data:=.seq ([]:List Value).toArray } }:Shared)=s3:=by rw [<- hs3]
 have up:∀ b o,s2.heap.get? b=some o->s3.heap.get? b=some o:=fun b o e=>by rw [<- hs3];exact Heap.get?_push_of_some _ e
 have hsz:s2.heap.objs.size<=s3.heap.objs.size:=by rw [<- hs3];show _<=(s2.heap.push _).objs.size;rw [Heap.size_push];exact Zq8 _
 have ml:∀ b∈fp,b<s2.heap.objs.size:=fun b hb=>by
  obtain ⟨o,e,_⟩:=T.obj _ _ st2 b hb
  exact Heap.lt_size e
 have dw:∀ b∈fp,b<s3.heap.objs.size:=fun b hb=>Zq1 (ml b hb) hsz
 have f3:∀ b∈fp,i5 X pins (upd H2 s2.heap.objs.size (.lst [])) b:=fun b hb=>⟨by rw [bo (ZqZ (ml b hb))];exact (f2 b hb).1,(f2 b hb).2⟩
 refine wpAny_newFunctionEnv S.j8 (by intro y hy;simp at hy) (fun h₁ hns₁ hsb₁=>?_) S.kind
 have AM:∀ b o,s3.heap.get? b=some o->h₁.get? b=some o:=fun b o e=>hsb₁.extBut b o (ZqZ (Heap.lt_size e)) (Heap.get?_push_of_some _ e)
 have Ic:=IZ (N:=N) (k:=k) (sel:=sel) (t':=s3.toks+([]:List (Str × Value)).length) S M I3 f3 dw hns₁ AM
 have xj:tn 0 h₁:=T.keep _ _ _ st2 fun b hb o e=>AM b o (up b o e)
 have fr:∀ b∈fp,(upd H2 s2.heap.objs.size (.lst [])) b=none:=fun b hb=>(f3 b hb).1
 have loop:codeAny (model X.prog X.w) X.A (.compLoop (.ListComp elt [⟨tg,iter,ifs,0⟩] scope pos) 0 (.ref it) (.ref s2.heap.objs.size) (compEnvC scope (ib X.env scope.names []) s3.heap.objs.size X.env))
   (compPost (model X.prog X.w) X.A X.xe use Qv (.ref s2.heap.objs.size) s3.heap.objs.size) { s3 with heap:=h₁,toks:=s3.toks+([]:List (Str × Value)).length }:=by
  refine PY (X:=iW X scope N s3.heap.objs.size s3 (upd H2 s2.heap.objs.size (.lst [])) fp) (QQ:=fun H'=>QQ (.ref s2.heap.objs.size) H') (W:=W) rfl hc T (hg _ _ _ _) (ht _ _ _ _) (he _ _ _ _) (fun b hb=>?_) turn (fun s' σ' H' I' q'=>?_) m0 ⟨0,cst σ k sel,_,Ic,xj,fr,w0⟩
  ·refine ⟨ZqZ (dw b hb),?_,.inl hb,fun x c h=>(f3 b hb).2.2.2.2.1 x c (px S I3.ok h),fun p hp=>absurd (show p∈([]:List (Addr × Obj)) from hp) (by simp)⟩
   exact (Hh (N:=N) S I3 f3 dw).fL b hb
  ·have Ie:Inv X pins σ H' s':=I3.m8 (ch:=fp) I'.os I'.base I'.aB I'.bare fun b hb=>⟨(f3 b hb).2.2.2.1,(f3 b hb).2.1,(f3 b hb).2.2.2.2.1,(f3 b hb).2.2.2.2.2⟩
   refine fin _ _ s' H' Ie ⟨I'.free,?_,Zq0 I3.sz (ZqY _),fun x c e=>?_,fun p hp=>?_,?_⟩ q'
   ·exact Ne.symm (ZqZ I3.lt)
   ·obtain ⟨v,o,ho,_⟩:=I3.cell x c e
    exact ZqZ (Heap.lt_size ho)
   ·exact ZqZ (Heap.lt_size (I3.pin p hp).1)
   ·obtain ⟨m,hn,_⟩:=I'.loc
    exact ⟨m,hn⟩
 exact codeAny_compStart_list loop (T.self X.A 0 _ _ _ xj loop)
section
variable {X:Cx}{elt tg iter:Expr}{ifs:List Expr}{scope:Scope}{pos:Pos}{N:List Str}{k:Nat}{sel:List Nat}{wi:TI}{g:TG}{tt:TT}{te:TE}
theorem lI (S:aD X scope) (M:aF X scope N k sel) (hc:X.calm=true) (hi:PI X tg iter wi)
  (hg:∀ C s H fp,PG (iW X scope N C s H fp) tg g) (ht:∀ C s H fp,mX (iW X scope N C s H fp) ifs tt) (he:∀ C s H fp,PE (iW X scope N C s H fp) elt te)
  (hs:∀ x,foldedSetIterable iter X.env x=pure x:=by intro _;rfl):PE X (.ListComp elt [⟨tg,iter,ifs,0⟩] scope pos) (eg wi k sel g tt te):=by
 intro pins s σ H Q I h
 rw [eval_ListComp]
 refine wpAny_comprehension_free (use:=none) rfl hs (CY (S.has I.ok)) S.kind S.names (aE (hi pins s σ H _ I h) fun v s1 h1=>aE h1 fun lZ s2 h2=>?_)
 refine JR (QQ:=Q) S M hc hg ht he (fun D C s' H' I' F q=>?_) h2
 obtain ⟨m,hn⟩:=F.ns
 exact ⟨m,hn,fun h' hsb=>⟨.ref D,H',I'.turned (t':=s'.toks) (fun b o hb e=>hsb.extBut b o hb e) F.none F.ne (.inr F.above) F.cells F.pins,rfl,q⟩⟩
theorem GU {i:Nat}{y:Str}{py m7:Pos} (S:aD X scope) (M:aF X scope N k sel) (hc:X.calm=true) (hi:PI X tg iter wi)
  (hg:∀ C s H fp,PG (iW X scope N C s H fp) tg g) (ht:∀ C s H fp,mX (iW X scope N C s H fp) ifs tt) (he:∀ C s H fp,PE (iW X scope N C s H fp) elt te)
  (hN:X.N.Nodup) (Ia:X.N[i]? = some y) (hy:Loc X.env.scope y)
  (Gn:swapsWith (.ListComp elt [⟨tg,iter,ifs,0⟩] scope pos) (some (.Name y py)) m7.line X.env=pure true)
  (hs:∀ x,foldedSetIterable iter X.env x=pure x:=by intro _;rfl) (hf:X.fn y=true\/X.env.scope.names.lookup y=some .local:=by first | exact .inl rfl | exact .inr rfl | assumption) :
  PS X (.Assign [.Name y py] (.ListComp elt [⟨tg,iter,ifs,0⟩] scope pos) m7) (bG (eg wi k sel g tt te) (aK i)):=by
 intro pins s σ H D I h
 rw [exec_Assign_Name_used _ _ _ _ Gn]
 refine wpAny_bind (wpAny_standAt (wpAny_bind ?_))
 show wpAny _ X.A (do let _ <- comprehension (.ListComp elt [⟨tg,iter,ifs,0⟩] scope pos) scope X.env _ (newList []) false (eval iter X.env) (some (assign (.Name y py) X.env))) _ _ s
 refine wpAny_bind (wpAny_mono (wpAny_comprehension_free (use:=some (assign (.Name y py) X.env)) (Q:=fun _ s'=>SP X pins D .next s') rfl hs (CY (S.has I.ok)) S.kind S.names
  (aE (hi pins s σ H _ I h) fun v s1 h1=>aE h1 fun lZ s2 h2=>?_)) (fun _ s' hq=>wpAny_pure (wpAny_pure hq)) fun _ _ e=>e)
 refine JR (QQ:=fun v H1=>D.nx (σ.set i (some v)) H1) S M hc hg ht he (fun Da C s' H' I' F q=>?_) h2
 show wpAny _ X.A (assign (.Name y py) X.env (.ref Da)) _ _ _
 refine wpAny_assign_Name (Hw I' hN Ia hy (v:=.ref Da) rfl (fun s'' I'' jk=>?_) hf)
 obtain ⟨m,hn⟩:=F.ns
 obtain ⟨a,hsb,ha⟩:=jk
 have F3:C≠a:=by
  rcases ha with ha | ha
  ·rw [ha];exact F.ne
  ·exact Ne.symm (F.cells _ _ ha)
 refine ⟨m,hn.sameBut hsb F3,fun h' hsb'=>⟨σ.set i (some (.ref Da)),H',I''.turned (t':=s''.toks) (fun b o hb e=>hsb'.extBut b o hb e) F.none F.ne (.inr F.above) F.cells F.pins,q⟩⟩
end
section
variable {X:Cx}
theorem PE.imp {e:Expr}{t t':TE} (h:PE X e t) (f:∀ σ H Q,t' σ H Q->t σ H Q):PE X e t':=fun pins s σ H Q I q=>h pins s σ H Q I (f σ H Q q)
theorem bX.imp {g:Value->Value->Sem Value}{r r':R2} (h:bX X g r) (f:∀ x y H Q,r' x y H Q->r x y H Q):bX X g r':=fun pins s σ H x y v u Q I rx ry q=>h pins s σ H x y v u Q I rx ry (f x y H Q q)
theorem j9.imp {r r':R2} (h:j9 X r) (f:∀ x y H Q,r' x y H Q->r x y H Q):j9 X r':=fun value slice pins s σ H x y v u Q I rx ry q=>h value slice pins s σ H x y v u Q I rx ry (f x y H Q q)
theorem oh.imp {r r':V->Option Int->Option Int->Hp->VK->Prop} (h:oh X r) (f:∀ x lo hi H Q,r' x lo hi H Q->r x lo hi H Q):oh X r':=fun pins s σ H x v vl vu lo hi sl Q I rx hs pl pu q=>h pins s σ H x v vl vu lo hi sl Q I rx hs pl pu (f x lo hi H Q q)
noncomputable def aa (i:Nat):TE:=fun σ H Q=>match σ[i]? with | some (some v)=>Q v H | _=>False
theorem K8 {i:Nat}{σ:St}{H:Hp}{Q:VK} (h:aa i σ H Q):A2 i σ H Q:=by
 unfold aa at h
 split at h
 ·exact ⟨_,by assumption,h⟩
 ·exact h.elim
theorem cv (i:Nat) {x:Str}{pos:Pos} (hN:X.N[i]? = some x:=by rfl) (hv:BN X.env.scope x:=by first | exact Or.inl rfl | exact Or.inr (Or.inl rfl) | exact Or.inr (Or.inr rfl)) (hd:(x == ("__debug__" : Str))=false:=by decide)
  (gm:(x == ("__classdict__" : Str))=false:=by decide):PE X (.Name x pos) (aa i):=(sx hN hv hd gm).imp fun _ _ _ h=>K8 h
noncomputable def fQ (f:Int->Int->V):R2:=fun x y H Q=>match x,y with | .int i,.int j=>Q (f i j) H | _,_=>False
noncomputable def aQ (C:Int->Int->Prop) (f:Int->Int->V):R2:=fun x y H Q=>match x,y with | .int i,.int j=>C i j/\Q (f i j) H | _,_=>False
theorem zG {f:Int->Int->V}{x y:V}{H:Hp}{Q:VK} (h:fQ f x y H Q):oF f x y H Q:=by
 cases x <;> cases y <;> first | exact False.elim h | exact ⟨_,_,rfl,rfl,h⟩
theorem AA {C:Int->Int->Prop}{f:Int->Int->V}{x y:V}{H:Hp}{Q:VK} (h:aQ C f x y H Q):rI C f x y H Q:=by
 cases x <;> cases y <;> first | exact False.elim h | exact ⟨_,_,rfl,rfl,h.1,h.2⟩
theorem CO:bX X (binaryOp .Sub) (fQ fun i j=>.int (i - j)):=vc.imp fun _ _ _ _ h=>zG h
theorem fg:bX X (binaryOp .FloorDiv) (aQ cX fun i j=>.int (i / j)):=RN.imp fun _ _ _ _ h=>AA h
theorem dE:bX X (binaryOp .Mod) (aQ (fun _ j=>0<j) fun i j=>.int (i % j)):=tZ.imp fun _ _ _ _ h=>AA h
theorem vR:bX X (binaryOp .LShift) (aQ km fun i j=>.int (i * 2 ^ j.toNat)):=uP.imp fun _ _ _ _ h=>AA h
theorem E5:bX X (binaryOp .RShift) (aQ (fun _ j=>0<=j) fun i j=>.int (i / 2 ^ j.toNat)):=rY.imp fun _ _ _ _ h=>AA h
theorem zv:bX X (binaryOp .BitAnd) (fQ fun i j=>.int (Builtin.bitAnd i j)):=rH.imp fun _ _ _ _ h=>zG h
theorem oM:bX X (compareOp .Lt) (fQ fun i j=>.bl (decide (i<j))):=wZ.imp fun _ _ _ _ h=>zG h
theorem yH:bX X (compareOp .LtE) (fQ fun i j=>.bl (decide (i<=j))):=AF.imp fun _ _ _ _ h=>zG h
theorem kS:bX X (compareOp .Gt) (fQ fun i j=>.bl (decide (j<i))):=zp.imp fun _ _ _ _ h=>zG h
noncomputable def bc:R2:=fun x y H Q=>match x,y with
 | .int i,.int j=>Q (.int (i+j)) H
 | .str i,.str j=>i.length+j.length<=sizeLine/\Q (.str (i ++ j)) H
 | .ref l,.ref b=>∃ xs zs,H l=some (.lst xs)/\H b=some (.lst zs)/\xs.length+zs.length<=sizeLine/\∀ p,H p=none->Q (.ref p) (upd H p (.lst (xs ++ zs)))
 | _,_=>False
theorem bf:bX X (binaryOp .Add) bc:=by
 intro pins s σ H x y v u Q I rx ry h
 cases x <;> cases y <;> first
  | exact False.elim h
  | exact so pins s σ H _ _ v u Q I rx ry ⟨_,_,rfl,rfl,h⟩
  | exact Tf pins s σ H _ _ v u Q I rx ry ⟨_,_,rfl,rfl,h.1,h.2⟩
  | (obtain ⟨xs,zs,h1,h2,h3,h4⟩:=h;exact qE pins s σ H _ _ v u Q I rx ry ⟨_,_,xs,zs,rfl,rfl,h1,h2,h3,h4⟩)
inductive bR (K:ZoW) (H:Hp):Nat->V->V->Prop where
 | flat {n:Nat}{x:V} (f:i6 x=true):bR K H n x x
 | lst {n:Nat}{a b:Addr}{xs ys:List V} (h1:aR K H a xs) (h2:aR K H b ys) (hl:xs.length=ys.length) (h:∀ (i:Nat) x y,xs[i]? = some x->ys[i]? = some y->bR K H n x y):bR K H (n+1) (.ref a) (.ref b)
 | tup {n:Nat}{a b:Addr}{xs ys:List V} (h1:cW K H a xs) (h2:cW K H b ys) (hl:xs.length=ys.length) (h:∀ (i:Nat) x y,xs[i]? = some x->ys[i]? = some y->bR K H n x y):bR K H (n+1) (.ref a) (.ref b)
theorem pB {pins:List (Addr × Obj)}{σ:St}{H:Hp}{s:Shared}{a:Addr}{xs:List V} (I:Inv X pins σ H s) (h:aR X.K H a xs):∃ its:List Value,Vals xs its/\s.heap.IsList a its.toArray:=by
 obtain ⟨its,r,p,_⟩:=I.list h
 exact ⟨its,r,p.isList⟩
theorem IK {A:Around}{n:Nat} (h:A.units+(n+1)<cLine):A.in1.units+n<cLine:=by
 have e:A.in1.units=A.units+1:=rfl
 omega
theorem D9 {pins:List (Addr × Obj)}{σ:St}{H:Hp}{s:Shared} (I:Inv X pins σ H s):∀ {n:Nat}{x y:V},bR X.K H n x y->∀ (A:Around) {u v:Value},A.units+n<cLine->aP x u->aP y v->SeqAt.EqAt A s u v true
 | _,_,_,.flat f,A,u,v,hu,rx,ry=>by
  have e:=F5 (A:=A) (s:=s) rx ry f f
  rename_i n x
  have q:jX x x=true:=by cases x <;> first | rfl | (simp [jX];done) | exact absurd f (by simp [i6])
  rw [q] at e
  exact e
 | _,_,_,@bR.lst _ _ n a b xs ys h1 h2 hl h,A,u,v,hu,rx,ry=>by
  cases rx;cases ry
  by_cases hab:a=b
  ·subst hab;exact SeqAt.EqAt.same _
  ·obtain ⟨its,r1,p1⟩:=pB I h1
   obtain ⟨its2,r2,p2⟩:=pB I h2
   have e1:=r1.length
   have e2:=r2.length
   have q:=SeqAt.RcAt.lists (A:=A) (e:=fun _=>true) p1 p2 (by simp;omega) (by omega) (fun j j1 j2=>by
    have j1':j<its.length:=by simpa using j1
    have j2':j<its2.length:=by simpa using j2
    obtain ⟨w1,q1,s1⟩:=r1.get (i:=j) (x:=xs[j]'(by omega)) (by simp)
    obtain ⟨w2,q2,s2⟩:=r2.get (i:=j) (x:=ys[j]'(by omega)) (by simp)
    have z1:its.toArray[j]=w1:=by
     have:=ZpL.mp q1
     obtain ⟨_,z⟩:=this
     simpa using z
    have z2:its2.toArray[j]=w2:=by
     have:=ZpL.mp q2
     obtain ⟨_,z⟩:=this
     simpa using z
    rw [z1,z2]
    exact D9 I (h j _ _ (by simp) (by simp)) A.in1 (IK hu) s1 s2)
   have:((ZpJ its.toArray.size).all fun _=>true)=true:=by simp
   rw [this] at q
   exact SeqAt.EqAt.of_refs hab q
 | _,_,_,@bR.tup _ _ n a b xs ys h1 h2 hl h,A,u,v,hu,rx,ry=>by
  cases rx;cases ry
  by_cases hab:a=b
  ·subst hab;exact SeqAt.EqAt.same _
  ·obtain ⟨its,r1,p1,_⟩:=I.tuple h1
   obtain ⟨its2,r2,p2,_⟩:=I.tuple h2
   have e1:=r1.length
   have e2:=r2.length
   have q:=SeqAt.RcAt.tuples (A:=A) (e:=fun _=>true) p1 p2 (by omega) (fun j j1 j2=>by
    have j1':j<its.length:=by simpa using j1
    have j2':j<its2.length:=by simpa using j2
    obtain ⟨w1,q1,s1⟩:=r1.get (i:=j) (x:=xs[j]'(by omega)) (by simp)
    obtain ⟨w2,q2,s2⟩:=r2.get (i:=j) (x:=ys[j]'(by omega)) (by simp)
    have z1:its.toArray[j]=w1:=by
     have:=ZpL.mp q1
     obtain ⟨_,z⟩:=this
     simpa using z
    have z2:its2.toArray[j]=w2:=by
     have:=ZpL.mp q2
     obtain ⟨_,z⟩:=this
     simpa using z
    rw [z1,z2]
    exact D9 I (h j _ _ (by simp) (by simp)) A.in1 (IK hu) s1 s2)
   have:(((ZpJ (min its.toArray.size its2.toArray.size)).all fun _=>true) && its.toArray.size == its2.toArray.size)=true:=by simp;omega
   rw [this] at q
   exact SeqAt.EqAt.of_refs hab q
end
section
variable {X:Cx}{a b c:Expr}{ta tb tc:TE}{pos:Pos}
noncomputable def mE (xs ys:List V):Bool:=xs.length == ys.length && (ZpJ xs.length).all fun i=>jX (xs.getD i .non) (ys.getD i .non)
theorem ve {xs ys:List V}{us ws:List Value} (r1:Vals xs us) (r2:Vals ys ws) (f1:xs.all i6=true) (f2:ys.all i6=true) (A:Around) (s:Shared) :
  ∀ j (h1:j<us.toArray.size) (h2:j<ws.toArray.size),SeqAt.EqAt A s us.toArray[j] ws.toArray[j] (jX (xs.getD j .non) (ys.getD j .non)):=fun j j1 j2=>by
 have e1:=r1.length
 have e2:=r2.length
 have j1':j<us.length:=by simpa using j1
 have j2':j<ws.length:=by simpa using j2
 have x1:j<xs.length:=by omega
 have y1:j<ys.length:=by omega
 obtain ⟨w1,q1,s1⟩:=r1.get (i:=j) (x:=xs[j]) (by simp)
 obtain ⟨w2,q2,s2⟩:=r2.get (i:=j) (x:=ys[j]) (by simp)
 have z1:us.toArray[j]=w1:=by
  obtain ⟨_,z⟩:=ZpL.mp q1
  simpa using z
 have z2:ws.toArray[j]=w2:=by
  obtain ⟨_,z⟩:=ZpL.mp q2
  simpa using z
 rw [z1,z2]
 have g1:xs.getD j .non=xs[j]:=by simp [ZpX,x1]
 have g2:ys.getD j .non=ys[j]:=by simp [ZpX,y1]
 rw [g1,g2]
 exact F5 s1 s2 (Zp8.mp f1 _ (Zqg _)) (Zp8.mp f2 _ (Zqg _))
noncomputable def Eh (K:ZoW) (H:Hp) (p q:Addr) (k:Bool):Prop :=
 (k=true/\bR K H 4 (.ref p) (.ref q)) \/
 (∃ xs ys,aR K H p xs/\aR K H q ys/\xs.all i6=true/\ys.all i6=true/\k=mE xs ys) \/
 (k=false/\∃ xs ys,aR K H p xs/\aR K H q ys/\xs.length≠ys.length) \/
 (∃ xs ys,cW K H p xs/\cW K H q ys/\xs.all i6=true/\ys.all i6=true/\k=mE xs ys)
theorem Lw {pins:List (Addr × Obj)}{σ:St}{H:Hp}{s:Shared}{p q:Addr}{k:Bool} (I:Inv X pins σ H s) (hu:X.A.units+8<cLine) (h:Eh X.K H p q k) :
  SeqAt.RcAt X.A s (.ref p) (.ref q) k/\SeqAt.RcNeAt X.A s (.ref p) (.ref q) (!k):=by
 have deep:∀ {xs ys:List V}{n:Nat},n<=4->(aR X.K H p xs/\aR X.K H q ys\/cW X.K H p xs/\cW X.K H q ys)->xs.length=ys.length->(∀ (i:Nat) x y,xs[i]? = some x->ys[i]? = some y->bR X.K H n x y) ->
   SeqAt.RcAt X.A s (.ref p) (.ref q) true/\SeqAt.RcNeAt X.A s (.ref p) (.ref q) (!true):=fun {xs ys n} hn hq hl hd=>by
  have items:∀ {us ws:List Value},Vals xs us->Vals ys ws->∀ j (h1:j<us.toArray.size) (h2:j<ws.toArray.size),SeqAt.EqAt X.A.in1 s us.toArray[j] ws.toArray[j] true:=fun {us ws} r1 r2 j j1 j2=>by
   have e1:=r1.length
   have e2:=r2.length
   have j1':j<us.length:=by simpa using j1
   have j2':j<ws.length:=by simpa using j2
   obtain ⟨w1,q1,s1⟩:=r1.get (i:=j) (x:=xs[j]'(by omega)) (by simp)
   obtain ⟨w2,q2,s2⟩:=r2.get (i:=j) (x:=ys[j]'(by omega)) (by simp)
   have z1:us.toArray[j]=w1:=by
    obtain ⟨_,z⟩:=ZpL.mp q1
    simpa using z
   have z2:ws.toArray[j]=w2:=by
    obtain ⟨_,z⟩:=ZpL.mp q2
    simpa using z
   rw [z1,z2]
   exact D9 I (hd j _ _ (by simp) (by simp)) X.A.in1 (by have e:X.A.in1.units=X.A.units+1:=rfl;omega) s1 s2
  rcases hq with ⟨h1,h2⟩ | ⟨h1,h2⟩
  ·obtain ⟨its,r1,p1⟩:=pB I h1
   obtain ⟨its2,r2,p2⟩:=pB I h2
   have e1:=r1.length
   have e2:=r2.length
   have z:((ZpJ its.toArray.size).all fun _=>true)=true:=by simp
   have a1:=SeqAt.RcAt.lists (A:=X.A) (e:=fun _=>true) p1 p2 (by simp;omega) (by omega) (items r1 r2)
   have a2:=SeqAt.RcNeAt.lists (A:=X.A) (e:=fun _=>true) p1 p2 (by simp;omega) (by omega) (items r1 r2)
   rw [z] at a1 a2
   exact ⟨a1,a2⟩
  ·obtain ⟨its,r1,p1,_⟩:=I.tuple h1
   obtain ⟨its2,r2,p2,_⟩:=I.tuple h2
   have e1:=r1.length
   have e2:=r2.length
   have z:(((ZpJ (min its.toArray.size its2.toArray.size)).all fun _=>true) && its.toArray.size == its2.toArray.size)=true:=by simp;omega
   have a1:=SeqAt.RcAt.tuples (A:=X.A) (e:=fun _=>true) p1 p2 (by omega) (items r1 r2)
   have a2:=SeqAt.RcNeAt.tuples (A:=X.A) (e:=fun _=>true) p1 p2 (by omega) (items r1 r2)
   rw [z] at a1 a2
   exact ⟨a1,a2⟩
 have p8:∀ {xs ys:List V},aR X.K H p xs->aR X.K H q ys->xs.length≠ys.length->SeqAt.RcAt X.A s (.ref p) (.ref q) false/\SeqAt.RcNeAt X.A s (.ref p) (.ref q) (!false):=fun {xs ys} h1 h2 hl=>by
  obtain ⟨its,r1,p1⟩:=pB I h1
  obtain ⟨its2,r2,p2⟩:=pB I h2
  have e1:=r1.length
  have e2:=r2.length
  have z:(its.toArray.size != its2.toArray.size)=true:=by simp;omega
  exact ⟨SeqAt.RcAt.lists_lengths p1 p2 z (by omega),SeqAt.RcNeAt.lists_lengths p1 p2 z (by omega)⟩
 rcases h with ⟨rfl,h⟩ | ⟨xs,ys,h1,h2,f1,f2,rfl⟩ | ⟨rfl,xs,ys,h1,h2,hl⟩ | ⟨xs,ys,h1,h2,f1,f2,rfl⟩
 ·cases h with
  | flat f=>simp [i6] at f
  | lst h1 h2 hl hd=>exact deep (by decide) (.inl ⟨h1,h2⟩) hl hd
  | tup h1 h2 hl hd=>exact deep (by decide) (.inr ⟨h1,h2⟩) hl hd
 ·by_cases hl:xs.length=ys.length
  ·obtain ⟨its,r1,p1⟩:=pB I h1
   obtain ⟨its2,r2,p2⟩:=pB I h2
   have e1:=r1.length
   have e2:=r2.length
   have z:mE xs ys=(ZpJ its.toArray.size).all fun i=>jX (xs.getD i .non) (ys.getD i .non):=by
    unfold mE
    rw [ZpN,<- e1,hl]
    simp
   rw [z]
   exact ⟨SeqAt.RcAt.lists p1 p2 (by simp;omega) (by omega) (ve r1 r2 f1 f2 _ _),SeqAt.RcNeAt.lists p1 p2 (by simp;omega) (by omega) (ve r1 r2 f1 f2 _ _)⟩
  ·have z:mE xs ys=false:=by unfold mE;simp [hl]
   rw [z]
   exact p8 h1 h2 hl
 ·exact p8 h1 h2 hl
 ·obtain ⟨its,r1,p1,_⟩:=I.tuple h1
  obtain ⟨its2,r2,p2,_⟩:=I.tuple h2
  have e1:=r1.length
  have e2:=r2.length
  by_cases hl:xs.length=ys.length
  ·have z:mE xs ys=((ZpJ (min its.toArray.size its2.toArray.size)).all (fun i=>jX (xs.getD i .non) (ys.getD i .non)) && its.toArray.size == its2.toArray.size):=by
    unfold mE
    rw [ZpN,ZpN,<- e1,<- e2,hl]
    simp
   rw [z]
   exact ⟨SeqAt.RcAt.tuples p1 p2 (by omega) (ve r1 r2 f1 f2 _ _),SeqAt.RcNeAt.tuples p1 p2 (by omega) (ve r1 r2 f1 f2 _ _)⟩
  ·have z:mE xs ys=((ZpJ (min its.toArray.size its2.toArray.size)).all (fun i=>jX (xs.getD i .non) (ys.getD i .non)) && its.toArray.size == its2.toArray.size):=by
    have z1:mE xs ys=false:=by unfold mE;simp [hl]
    have z2:(its.toArray.size == its2.toArray.size)=false:=by simp;omega
    rw [z1,z2,Bool.and_false]
   rw [z]
   exact ⟨SeqAt.RcAt.tuples p1 p2 (by omega) (ve r1 r2 f1 f2 _ _),SeqAt.RcNeAt.tuples p1 p2 (by omega) (ve r1 r2 f1 f2 _ _)⟩
noncomputable def gA (K:ZoW):R2:=fun x y H Q=>match x,y with
 | .int i,.int j=>Q (.bl (decide (i=j))) H
 | .bl i,.bl j=>Q (.bl (decide (i=j))) H
 | .str i,.str j=>Q (.bl (decide (i=j))) H
 | .non,.non=>Q (.bl true) H
 | .non,.int _=>Q (.bl false) H
 | .int _,.non=>Q (.bl false) H
 | .non,.str _=>Q (.bl false) H
 | .str _,.non=>Q (.bl false) H
 | .non,.bl _=>Q (.bl false) H
 | .bl _,.non=>Q (.bl false) H
 | .ref p,.ref q=>∃ k,Eh K H p q k/\Q (.bl k) H
 | _,_=>False
noncomputable def mi (K:ZoW):R2:=fun x y H Q=>match x,y with
 | .int i,.int j=>Q (.bl (!decide (i=j))) H
 | .bl i,.bl j=>Q (.bl (!decide (i=j))) H
 | .str i,.str j=>Q (.bl (!decide (i=j))) H
 | .non,.non=>Q (.bl false) H
 | .non,.int _=>Q (.bl true) H
 | .int _,.non=>Q (.bl true) H
 | .non,.str _=>Q (.bl true) H
 | .str _,.non=>Q (.bl true) H
 | .non,.bl _=>Q (.bl true) H
 | .bl _,.non=>Q (.bl true) H
 | .ref p,.ref q=>∃ k,Eh K H p q k/\Q (.bl (!k)) H
 | _,_=>False
theorem LS {i j:Int}:decide (V.int i=V.int j)=decide (i=j):=by rw [decide_eq_decide];exact ⟨V.int.inj,congrArg _⟩
theorem Nu {i j:Bool}:decide (V.bl i=V.bl j)=decide (i=j):=by rw [decide_eq_decide];exact ⟨V.bl.inj,congrArg _⟩
theorem MM {i j:Str}:decide (V.str i=V.str j)=decide (i=j):=by rw [decide_eq_decide];exact ⟨V.str.inj,congrArg _⟩
theorem ic (hu:X.A.units+8<cLine):bX X (compareOp .Eq) (gA X.K):=by
  intro pins s σ H x y v u Q I rx ry h
  have go:JT x y H Q->wpAny (model X.prog X.w) X.A (compareOp .Eq v u) (EP X pins σ Q) X.xe s:=fun q=>Bd pins s σ H _ _ v u Q I rx ry q
  cases x <;> cases y <;> first
    | exact False.elim h
    | exact go ⟨rfl,h⟩
    | exact go ⟨rfl,by rw [LS];exact h⟩
    | exact go ⟨rfl,by rw [Nu];exact h⟩
    | exact go ⟨rfl,by rw [MM];exact h⟩
    | (obtain ⟨k,e,q⟩:=h
       cases rx;cases ry
       exact (Lw I hu e).1 _ _ _ _ ⟨.bl k,H,I,rfl,q⟩)
theorem nE (hu:X.A.units+8<cLine):bX X (compareOp .NotEq) (mi X.K):=by
  intro pins s σ H x y v u Q I rx ry h
  have go:Mc x y H Q->wpAny (model X.prog X.w) X.A (compareOp .NotEq v u) (EP X pins σ Q) X.xe s:=fun q=>xp pins s σ H _ _ v u Q I rx ry q
  cases x <;> cases y <;> first
    | exact False.elim h
    | exact go ⟨rfl,h⟩
    | exact go ⟨rfl,by rw [LS];exact h⟩
    | exact go ⟨rfl,by rw [Nu];exact h⟩
    | exact go ⟨rfl,by rw [MM];exact h⟩
    | (obtain ⟨k,e,q⟩:=h
       cases rx;cases ry
       exact (Lw I hu e).2 _ _ _ _ ⟨.bl (!k),H,I,rfl,q⟩)
noncomputable def Ff:R2:=fun x y H Q=>match x,y with
 | .bl i,.bl j=>Q (.bl (!decide (i=j))) H
 | x,.non=>Q (.bl (!decide (x=.non))) H
 | _,_=>False
noncomputable def bu (i j:Str):Bool:=!(Builtin.Str.occurrences j i 0 j.length 1).isEmpty
noncomputable def CC (K:ZoW) (neg:Bool):R2:=fun x y H Q=>match y with
 | .ref p=>∃ xs,(aR K H p xs\/cW K H p xs)/\i6 x=true/\xs.all i6=true/\Q (.bl (if neg then !CQ x xs else CQ x xs)) H
 | .str j=>match x with | .str i=>Q (.bl (if neg then !bu i j else bu i j)) H | _=>False
 | _=>False
theorem Bw:bX X (compareOp .In) (CC X.K false):=by
 intro pins s σ H x y v u Q I rx ry h
 cases y with
 | ref p =>
  obtain ⟨xs,h1,h2,h3,q⟩:=h
  exact RE pins s σ H _ _ v u Q I rx ry ⟨p,xs,rfl,h1,h2,h3,q⟩
 | str j =>
  cases x with
  | str i=>exact Uc pins s σ H _ _ v u Q I rx ry ⟨i,j,rfl,rfl,h⟩
  | _=>exact False.elim h
 | _=>exact False.elim h
noncomputable def pA (x:V) (k:Bool->Prop):Prop:=match x with | .bl b=>k b | _=>False
theorem Qx {x:V}{k:Bool->Prop} (h:pA x k):∃ b,x=.bl b/\k b:=by
 cases x <;> first | exact False.elim h | exact ⟨_,rfl,h⟩
noncomputable def bK (t:TE):TT:=fun σ H Q=>t σ H fun x H'=>pA x fun k=>Q k H'
noncomputable def kd (K:ZoW) (t:TE):TT:=fun σ H Q=>t σ H fun x H'=>match x with
 | .non=>Q false H'
 | .bl b=>Q b H'
 | .int i=>Q (decide (i≠0)) H'
 | .str y=>y.length<=sizeLine/\Q (decide (y.length≠0)) H'
 | .ref p=>∃ k,mY K (.ref p) H' k/\Q k H'
 | .byt p=>∃ k,mY K (.byt p) H' k/\Q k H'
 | _=>False
theorem nF {t:TE} (ha:PE X a t) (he:∀ jK,isTrue a X.env jK=(do let v <- jK;standAt a.pos;holding [v] (truthy v)):=by intro _;rfl):PT X a (kd X.K t):=by
 have h:=OZ ha he
 have e:kd X.K t=(fun σ H Q=>t σ H fun x H'=>∃ k,mY X.K x H' k/\Q k H'):=by
  funext σ H Q
  unfold kd
  congr 1
  funext x H'
  apply propext
  cases x with
  | non=>exact ⟨fun q=>⟨false,rfl,q⟩,fun ⟨k,h1,h2⟩=>by have h1:k=false:=h1;subst h1;exact h2⟩
  | bl b=>exact ⟨fun q=>⟨b,rfl,q⟩,fun ⟨k,h1,h2⟩=>by have h1:k=b:=h1;subst h1;exact h2⟩
  | int i =>
   have z:decide (i≠0)=(i != 0):=by by_cases e:i=0 <;> simp [e]
   exact ⟨fun q=>⟨decide (i≠0),z,q⟩,fun ⟨k,h1,h2⟩=>by have h1:k=(i != 0):=h1;rw [<- z] at h1;subst h1;exact h2⟩
  | str y =>
   have z:decide (y.length≠0)=((y.length:Int) != 0):=by
    by_cases e:y.length=0
    ·simp [e]
    ·have:(y.length:Int)≠0:=by omega
     simp [e,this]
   exact ⟨fun q=>⟨decide (y.length≠0),⟨q.1,z⟩,q.2⟩,fun ⟨k,h1,h2⟩=>by
    have h1:y.length<=sizeLine/\k=((y.length:Int) != 0):=h1
    obtain ⟨h0,h1⟩:=h1
    rw [<- z] at h1;subst h1;exact ⟨h0,h2⟩⟩
  | ref p=>exact Iff.rfl
  | byt y=>exact Iff.rfl
  | flt y=>exact ⟨fun q=>q.elim,fun ⟨k,h1,h2⟩=>h1.elim⟩
  | ty y=>exact ⟨fun q=>q.elim,fun ⟨k,h1,h2⟩=>h1.elim⟩
 rw [e]
 exact h
theorem vd {x:V}{k:Bool->Prop}:pA x k = ∃ b,x=.bl b/\k b:=propext ⟨Qx,fun ⟨b,e,q⟩=>by subst e;exact q⟩
theorem FL (t:TE):bK t=CM t:=by
 funext σ H Q
 unfold bK CM
 congr 1
 funext x H'
 exact vd
theorem cI {op:CmpOp}{r:R2} (ho:bX X (compareOp op) r) (ha:PE X a ta) (hb:PE X b tb) (hm:behindInMarks op b=false):PT X (.Compare a [op] [b] pos) (bK (af r ta tb)):=by
 rw [FL]
 exact Td ho ha hb hm
noncomputable def xP (r r':R2) (ta tb tc:TE):TE:=fun σ H Q=>ta σ H fun x H1=>tb σ H1 fun y H2=>r x y H2 fun z H3=>pA z fun k =>
 (if k=true then tc σ H3 fun w' H4=>r' y w' H4 Q else Q (.bl false) H3)
theorem O8 (r r':R2) (ta tb tc:TE):xP r r' ta tb tc=DC r r' ta tb tc:=by
 funext σ H Q
 unfold xP DC
 congr 1
 funext x H1
 congr 1
 funext y H2
 congr 1
 funext z H3
 exact vd
theorem Uy {op rJ:CmpOp}{r r':R2} (ho:bX X (compareOp op) r) (gP:bX X (compareOp rJ) r') (ha:PE X a ta) (hb:PE X b tb) (hc:PE X c tc)
  (hm:lastMarks [op,rJ] [b,c]=false:=by with_unfolding_all rfl):PE X (.Compare a [op,rJ] [b,c] pos) (xP r r' ta tb tc):=by
 rw [O8]
 exact Py ho gP ha hb hc hm
noncomputable def oo (ta tb:TE):TE:=fun σ H Q=>ta σ H fun x H1=>pA x fun c=>if c=true then tb σ H1 Q else Q (.bl false) H1
noncomputable def mJ (ta tb:TE):TE:=fun σ H Q=>ta σ H fun x H1=>pA x fun c=>if c=true then Q (.bl true) H1 else tb σ H1 Q
noncomputable def uE (ta:TE):TE:=fun σ H Q=>ta σ H fun x H1=>pA x fun c=>Q (.bl (!c)) H1
theorem QG (ta tb:TE):oo ta tb=Gm ta tb:=by
 funext σ H Q
 unfold oo Gm
 congr 1
 funext x H'
 exact vd
theorem RM (ta tb:TE):mJ ta tb=qT ta tb:=by
 funext σ H Q
 unfold mJ qT
 congr 1
 funext x H'
 exact vd
theorem QB (ta:TE):uE ta=Hr ta:=by
 funext σ H Q
 unfold uE Hr
 congr 1
 funext x H'
 exact vd
variable {bD:List Expr}
theorem wF (ha:PE X a ta) (hb:PE X (.BoolOp .And (b :: bD) pos) tb):PE X (.BoolOp .And (a :: b :: bD) pos) (oo ta tb):=by
 rw [QG]
 exact sv ha hb
theorem Hl (ha:PE X a ta) (hb:PE X (.BoolOp .Or (b :: bD) pos) tb):PE X (.BoolOp .Or (a :: b :: bD) pos) (mJ ta tb):=by
 rw [RM]
 exact xJ ha hb
theorem El (ha:PE X a ta):PE X (.UnaryOp .Not a pos) (uE ta):=by
 rw [QB]
 exact uJ ha
noncomputable def bE (K:ZoW):R2:=fun x y H Q=>match x,y with
 | .ref p,.int i=>∃ xs v,(aR K H p xs\/cW K H p xs)/\dC xs i=some v/\Q v H
 | .str z,.int i=>z.length<=sizeLine/\∃ c,dC z.cps.toList i=some c/\Q (.str ⟨#[c]⟩) H
 | _,_=>False
theorem bM:j9 X (bE X.K):=rX.imp fun x y H Q h=>by
  cases x <;> cases y <;> first
    | exact False.elim h
    | (obtain ⟨xs,v,h1 | h1,h2,h3⟩:=h
       · exact .inl ⟨_,xs,_,v,rfl,rfl,h1,h2,h3⟩
       · exact .inr (.inl ⟨_,xs,_,v,rfl,rfl,h1,h2,h3⟩))
    | (obtain ⟨h1,c,h2,h3⟩:=h
       exact .inr (.inr ⟨_,_,c,rfl,rfl,h1,h2,h3⟩))
noncomputable def tL (K:ZoW):V->Option Int->Option Int->Hp->VK->Prop:=fun x lo hi H Q=>match x with
 | .ref p=>∃ xs,aR K H p xs/\∀ q,H q=none->Q (.ref q) (upd H q (.lst (fO xs lo hi)))
 | _=>False
theorem qc:oh X (tL X.K):=QM.imp fun x lo hi H Q h=>by
 cases x <;> first | exact False.elim h | (obtain ⟨xs,h1,h2⟩:=h;exact ⟨_,xs,rfl,h1,h2⟩)
noncomputable def gY (K:ZoW):List V->Hp->VK->Prop:=fun vs H Q=>match vs with
 | [.str z]=>z.length<=sizeLine/\Q (.int z.length) H
 | [.ref p]=>(∃ ys,(aR K H p ys\/cW K H p ys)/\Q (.int ys.length) H)\/∃ kvs,H p=some (.dK kvs)/\Q (.int kvs.length) H
 | _=>False
theorem iE:gI X (.builtin "len") (gY X.K):=by
 intro pins s σ H xs us Q I r h
 match xs,h with
 | [.str z],h=>exact Ua pins s σ H _ us Q I r ⟨z,rfl,h.1,h.2⟩
 | [.ref p],h =>
  rcases h with ⟨ys,h1,h2⟩ | ⟨kvs,h1,h2⟩
  ·exact TU pins s σ H _ us Q I r ⟨p,ys,rfl,h1,h2⟩
  ·exact PU pins s σ H _ us Q I r ⟨p,kvs,rfl,h1,h2⟩
noncomputable def cInt:List V->Hp->VK->Prop:=fun vs H Q=>match vs with
 | [.int i]=>Q (.int i) H
 | [.bl k]=>Q (.int (if k then 1 else 0)) H
 | _=>False
theorem o7:gI X (.type "int") cInt:=by
 intro pins s σ H xs us Q I r h
 match xs,h with
 | [.int i],h=>exact Jy pins s σ H _ us Q I r (.inl ⟨i,rfl,h⟩)
 | [.bl k],h=>exact Jy pins s σ H _ us Q I r (.inr ⟨k,rfl,h⟩)
noncomputable def oE (K:ZoW):List V->Hp->VK->Prop:=fun vs H Q=>match vs with
 | [.ref p]=>∃ ys,(aR K H p ys\/cW K H p ys)/\∀ l,H l=none->Q (.ref l) (upd H l (.lst ys))
 | _=>False
theorem wd:gI X (.type "list") (oE X.K):=by
 intro pins s σ H xs us Q I r h
 match xs,h with
 | [.ref p],h =>
  obtain ⟨ys,h1,h2⟩:=h
  exact Ra pins s σ H _ us Q I r ⟨p,ys,rfl,h1,h2⟩
noncomputable def vP (K:ZoW):List V->Hp->VK->Prop:=fun vs H Q=>match vs with
 | [.ref p]=>∃ ys,((aR K H p ys/\∀ l,H l=none->Q (.ref l) (upd H l (.tup ys)))\/(cW K H p ys/\Q (.ref p) H))
 | _=>False
theorem D6:gI X (.type "tuple") (vP X.K):=by
 intro pins s σ H xs us Q I r h
 match xs,h with
 | [.ref p],h =>
  obtain ⟨ys,h1⟩:=h
  exact T7 pins s σ H _ us Q I r ⟨p,ys,rfl,h1⟩
noncomputable def ub:List V->Hp->VK->Prop:=fun vs H Q=>match vs with
 | [.int i,.int j]=>Q (.int (if j > i then j else i)) H
 | _=>False
theorem yL (hc:X.calm=true):gI X (.builtin "max") ub:=by
 intro pins s σ H xs us Q I r h
 match xs,h with
 | [.int i,.int j],h=>exact QD hc pins s σ H _ us Q I r ⟨i,j,rfl,h⟩
noncomputable def Cf (K:ZoW):List V->Hp->VK->Prop:=fun vs H Q=>match vs with
 | [x,.ty T]=>∃ t b,fA K H x t/\ZoX K t (.type T)=some b/\Q (.bl b) H
 | [x,.ref C]=>∃ t b,fA K H x t/\ZoX K t (.ref C)=some b/\Q (.bl b) H
 | _=>False
theorem LM:gI X (.builtin "isinstance") (Cf X.K):=by
 intro pins s σ H xs us Q I r h
 match xs,h with
 | [x,.ty T],h =>
  obtain ⟨t,k,h1,h2,h3⟩:=h
  obtain ⟨u,w',rfl,r1,r2⟩:=sL r
  cases r2
  exact ML I r1 h1 h2 fun tk=>⟨.bl k,H,I.tok tk,rfl,h3⟩
 | [x,.ref C],h =>
  obtain ⟨t,k,h1,h2,h3⟩:=h
  obtain ⟨u,w',rfl,r1,r2⟩:=sL r
  cases r2
  exact ML I r1 h1 h2 fun tk=>⟨.bl k,H,I.tok tk,rfl,h3⟩
noncomputable def AX (onames:List (Str × NameKind)) (scope:Scope):Bool:=scope.names.all fun y=>decide (y.2≠.cell) && (decide (y.2≠.local) || decide (scope.names.lookup y.1=some .local)) && (decide (y.2≠.free) || decide (onames.lookup y.1=some .cell) || decide (onames.lookup y.1=some .free))
theorem aD.of {scope:Scope} (onames:List (Str × NameKind)) (h:AX onames scope=true) (k:scope.kind=.function:=by rfl) (e:X.env.scope.names=onames:=by rfl):aD X scope:=by
 have q:=Zp8.mp h
 refine ⟨k,fun y hy=>?_,fun y hy hl=>?_,fun y hy hf=>?_⟩
 ·have z:=q y hy
  simp only [Zrt,decide_eq_true_eq] at z
  exact z.1.1
 ·have z:=q y hy
  simp only [Zrt,Zrv,decide_eq_true_eq] at z
  exact z.1.2.resolve_left fun w=>w hl
 ·have z:=q y hy
  simp only [Zrt,Zrv,decide_eq_true_eq] at z
  show X.env.scope.names.lookup y.1=_\/X.env.scope.names.lookup y.1=_
  rw [e]
  rcases z.2 with (w | w) | w
  ·exact absurd hf w
  ·exact .inl w
  ·exact .inr w
noncomputable def pL (XN:List Str) (scope:Scope) (N:List Str) (k:Nat) (sel:List Nat):Bool:=decide (N.length=k+sel.length) && (ZpJ sel.length).all fun i=>match sel[i]?,N[k+i]? with
 | some j,some x=>decide (XN[j]? = some x) && decide (scope.names.lookup x=some .free)
 | _,_=>false
theorem aF.of {scope:Scope}{N:List Str}{k:Nat}{sel:List Nat} (XN:List Str) (h:pL XN scope N k sel=true) (e:X.N=XN:=by rfl):aF X scope N k sel:=by
 unfold pL at h
 simp only [Zrt,decide_eq_true_eq] at h
 refine ⟨h.1,fun i j x h1 h2=>?_⟩
 have hi:i<sel.length:=(ZpL.mp h1).1
 have q:=Zp8.mp h.2 i (Zqh.mpr hi)
 rw [h1,h2] at q
 simp only [Zrt,decide_eq_true_eq] at q
 rw [e]
 exact q
end
theorem eM {A:Around}{k:Nat} (hr:aX k A):A.units+8<cLine:=by have:=hr.units;omega
section
variable {X:Cx}{a b:Expr}{te:TE}
noncomputable def iR (t:TE):TO:=fun σ H Q=>t σ H fun x H1=>match x with | .int i=>Q (some i) H1 | _=>False
theorem Pa (t:TE):iR t=Du t:=by
 funext σ H Q
 unfold iR Du
 congr 1
 funext x H'
 apply propext
 cases x <;> first
  | exact ⟨fun q=>⟨_,rfl,q⟩,fun ⟨i,e,q⟩=>by cases e;exact q⟩
  | exact ⟨fun q=>False.elim q,fun ⟨i,e,q⟩=>by cases e⟩
theorem j6 (h:PE X a te):PO X (some a) (iR te):=by
 rw [Pa]
 exact O2 h
noncomputable def jQ:V->Hp->VK->Prop:=fun x H Q=>match x with | .int i=>Q (.int (-i)) H | _=>False
theorem lA:wA X (unaryOp .USub) jQ:=fun pins s σ H x v Q I rx h=>by
 cases x <;> first | exact False.elim h | exact qz pins s σ H _ v Q I rx ⟨_,rfl,h⟩
theorem Ei {op:CmpOp}{t:TE}{pos:Pos} (h:PC X op a b t) (h1:behindInMarks op b=false:=by first | exact Fc _ (by decide) (by decide) | rfl | with_unfolding_all rfl):PT X (.Compare a [op] [b] pos) (bK t):=by
 have e:bK t=tB t:=by
  funext σ H Q
  unfold bK tB
  congr 1
  funext x H'
  exact vd
 rw [e]
 exact qX h h1
end
section
variable {K:ZoW}{σ:St}{sel:List Nat}{bD:St}{H:Hp}{p:Addr}{tt:TT}{te:TE}{Q:VK}
noncomputable abbrev pI (J:It) (σ:St) (k:Nat) (sel:List Nat) (g:TG) (tt:TT) (te:TE) (Q:VK) (H1:Hp) (p:Addr):Prop :=
 ∃ W:Nat->Nat->St->Hp->Prop,(∃ m,W 0 m (cst σ k sel) (upd H1 p (.lst [])))/\∀ i m σ2 H2,W i m σ2 H2 ->
  (J.stop i H2/\Q (.ref p) H2)\/(J.go i H2/\∀ x H3,J.jm i H2 x H3->g x σ2 H3 fun σ4 H4=>tt σ4 H4 fun b H5 =>
   if b=true then te σ4 H5 fun v H6=>∃ ys,H6 p=some (.lst ys)/\ys.length<sizeLine/\∃ m',m'<m/\W (i+1) m' σ4 (upd H6 p (.lst (ys ++ [v]))) else ∃ m',m'<m/\W (i+1) m' σ4 H5)
theorem BY {J:It}{n:Nat}{item:Nat->V} (Pv:Nat->Hp->Prop) (hr:sel.map (fun j=>(σ[j]?).join)=bD) (h0:Pv 0 (upd H p (.lst [])))
  (src:∀ i H2,i<n->Pv i H2->J.go i H2/\∀ x H3,J.jm i H2 x H3->H3=H2/\x=item i) (fin:∀ H2,Pv n H2->J.stop n H2)
  (step:∀ i H2 (R:Hp->Prop),i<n->Pv i H2->(∀ H',Pv (i+1) H'->R H')->tt (some (item i) :: bD) H2 fun b H5 =>
   if b=true then te (some (item i) :: bD) H5 fun v H6=>∃ ys,H6 p=some (.lst ys)/\ys.length<sizeLine/\R (upd H6 p (.lst (ys ++ [v]))) else R H5)
  (hQ:∀ H2,Pv n H2->Q (.ref p) H2):pI J σ 1 sel (aK 0) tt te Q H p:=by
 refine ⟨fun i m σ2 H2=>i<=n/\m=n - i+1/\(∃ v,σ2=v :: bD)/\Pv i H2,⟨n+1,Zq3 _,rfl,⟨none,?_⟩,h0⟩,?_⟩
 ·unfold cst;rw [hr];rfl
 ·rintro i m σ2 H2 ⟨hi,rfl,⟨v,rfl⟩,hP⟩
  by_cases dw:i<n
  ·right
   obtain ⟨hg,hy⟩:=src i H2 dw hP
   refine ⟨hg,fun x H3 hx=>?_⟩
   obtain ⟨rfl,rfl⟩:=hy x H3 hx
   exact step i H3 (fun H'=>∃ m',m'<n - i+1/\i+1<=n/\m'=n - (i+1)+1/\(∃ v,(some (item i) :: bD:St)=v :: bD)/\Pv (i+1) H') dw hP fun H' h'=>⟨n - (i+1)+1,by omega,dw,rfl,⟨_,rfl⟩,h'⟩
  ·left
   have e:i=n:=by omega
   subst e
   exact ⟨fin H2 hP,hQ H2 hP⟩
theorem Dz {a:Addr}{xs:List V}{Pv:Nat->Hp->Prop} (hl:∀ i H2,i<=xs.length->Pv i H2->aR K H2 a xs):∀ i H2,i<xs.length->Pv i H2->(lx K a).go i H2/\∀ x H3,(lx K a).jm i H2 x H3->H3=H2/\x=xs.getD i .non:=fun i H2 hi hP=>by
 have q:=hl i H2 (Zq7 hi) hP
 have e:xs[i]? = some (xs.getD i .non):=by simp [ZpX,hi]
 refine ⟨⟨xs,_,q,e⟩,fun x H3 ⟨h1,h2⟩=>⟨h1,?_⟩⟩
 have:=h2 xs q
 rw [e] at this
 exact (Option.some.inj this).symm
theorem Sm {a:Addr}{xs:List V}{Pv:Nat->Hp->Prop} (hl:∀ i H2,i<=xs.length->Pv i H2->cW K H2 a xs):∀ i H2,i<xs.length->Pv i H2->(vK K a).go i H2/\∀ x H3,(vK K a).jm i H2 x H3->H3=H2/\x=xs.getD i .non:=fun i H2 hi hP=>by
 have q:=hl i H2 (Zq7 hi) hP
 have e:xs[i]? = some (xs.getD i .non):=by simp [ZpX,hi]
 refine ⟨⟨xs,_,q,e⟩,fun x H3 ⟨h1,h2⟩=>⟨h1,?_⟩⟩
 have:=h2 xs q
 rw [e] at this
 exact (Option.some.inj this).symm
theorem Te {lo:Int}{n:Nat}{Pv:Nat->Hp->Prop}:∀ i H2,i<n->Pv i H2->(jL lo n).go i H2/\∀ x H3,(jL lo n).jm i H2 x H3->H3=H2/\x=.int (lo+i):=fun i H2 hi hP=>⟨hi,fun x H3 h=>h⟩
theorem iU {H:Hp}{p:Addr}{o:HO} (hp:H p=none):aH H (upd H p o):=fun b u e=>by rw [bo (gc e hp)];exact e
theorem TF {xs:List V}{f:V->V}{i:Nat} (hi:i<xs.length):(xs.take i).map f ++ [f (xs.getD i .non)]=(xs.take (i+1)).map f:=by
 rw [Zqj,ZpK]
 congr 1
 simp [ZpX,hi]
theorem Od {a:Addr}{xs:List V} (f:V->V) (hl:aR K H a xs) (hp:H p=none) (hr:sel.map (fun j=>(σ[j]?).join)=bD) (hz:xs.length<=sizeLine)
  (he:∀ x H' (Q':VK),x∈xs->aH H H'->Q' (f x) H'->te (some x :: bD) H' Q') (hQ:Q (.ref p) (upd H p (.lst (xs.map f)))):pI (lx K a) σ 1 sel (aK 0) fR te Q H p:=by
 refine BY (n:=xs.length) (item:=fun i=>xs.getD i .non) (fun i H2=>H2=upd H p (.lst ((xs.take i).map f))) hr (by simp) (Dz ?_) ?_ ?_ ?_
 ·rintro i H2 hi rfl
  exact (iU hp).seq hl
 ·rintro H2 rfl
  exact ⟨xs,(iU hp).seq hl,ZqY _⟩
 ·rintro i H2 R hi rfl hR
  unfold fR
  dsimp only
  rw [if_pos rfl]
  refine he _ _ _ (by rw [show xs.getD i .non=xs[i] from by simp [ZpX,hi]];exact Zqg _) (iU hp) ⟨_,cq,?_,hR _ ?_⟩
  ·rw [ZpC,Zp2];omega
  ·rw [Hq,TF hi]
 ·rintro H2 rfl
  rw [Zp1]
  exact hQ
theorem PQ {lo:Int}{n:Nat} (f:Int->V) (hp:H p=none) (hr:sel.map (fun j=>(σ[j]?).join)=bD) (hz:n<=sizeLine)
  (he:∀ (i:Nat) H' (Q':VK),i<n->aH H H'->Q' (f (lo+i)) H'->te (some (.int (lo+i)) :: bD) H' Q') (hQ:Q (.ref p) (upd H p (.lst ((ZpJ n).map fun i=>f (lo+(i:Nat)))))):pI (jL lo n) σ 1 sel (aK 0) fR te Q H p:=by
 refine BY (n:=n) (item:=fun i=>.int (lo+i)) (fun i H2=>H2=upd H p (.lst ((ZpJ i).map fun i=>f (lo+(i:Nat))))) hr (by simp) Te ?_ ?_ ?_
 ·rintro H2 rfl
  exact ZqY _
 ·rintro i H2 R hi rfl hR
  unfold fR
  dsimp only
  rw [if_pos rfl]
  refine he i _ _ hi (iU hp) ⟨_,cq,?_,hR _ ?_⟩
  ·rw [ZpC,Zp9];omega
  ·rw [Hq,Zqw,ZpK];rfl
 ·rintro H2 rfl
  exact hQ
end
noncomputable def kU (x:V) (k:Addr->Prop):Prop:=match x with | .ref p=>k p | _=>False
theorem Cq {x:V}{k:Addr->Prop}:(∃ p,x=.ref p/\k p)=kU x k:=by
 apply propext
 cases x <;> first
  | exact ⟨fun ⟨p,e,q⟩=>by cases e;exact q,fun q=>⟨_,rfl,q⟩⟩
  | exact ⟨fun ⟨p,e,q⟩=>(by cases e),fun q=>False.elim q⟩
noncomputable def Ae (vs:List V) (k:Int->Prop):Prop:=match vs with | [.int j]=>k j | _=>False
theorem Iq {vs:List V}{k:Int->Prop}:(∃ j,vs=[.int j]/\k j)=Ae vs k:=by
 apply propext
 constructor
 ·rintro ⟨j,rfl,q⟩;exact q
 ·intro h
  unfold Ae at h
  split at h
  ·exact ⟨_,rfl,h⟩
  ·exact h.elim
noncomputable def CJ (vs:List V) (k:Int->Int->Prop):Prop:=match vs with | [.int i,.int j]=>k i j | _=>False
theorem Nw {vs:List V}{k:Int->Int->Prop}:(∃ i j,vs=[.int i,.int j]/\k i j)=CJ vs k:=by
 apply propext
 constructor
 ·rintro ⟨i,j,rfl,q⟩;exact q
 ·intro h
  unfold CJ at h
  split at h
  ·exact ⟨_,_,rfl,h⟩
  ·exact h.elim
noncomputable def p0 (J:It) (g:TG) (tb:TS) (D:Ends) (σ:St) (H:Hp):Prop:=∃ W:Nat->Nat->St->Hp->Prop,(∃ m,W 0 m σ H)/\∀ i m σ H,W i m σ H ->
 (J.stop i H/\D.nx σ H)\/(J.go i H/\∃ N:St->Hp->Prop,(∀ σ' H',N σ' H'->∃ m',m'<m/\W (i+1) m' σ' H')/\∀ x H',J.jm i H x H'->g x σ H' fun σ2 H2=>tb { D with nx:=N,ct:=N,bk:=D.nx } σ2 H2)
noncomputable def lU (J:It) (σ:St) (k:Nat) (sel:List Nat) (g:TG) (tt:TT) (te:TE) (Q:VK) (H1:Hp):Prop:=∀ p,H1 p=none->pI J σ k sel g tt te Q H1 p
section
variable {K:ZoW}{te:TE}{ta:TA}{g:TG}{tb:TS}{D:Ends}{σ:St}{H:Hp}{p:Addr}{xs:List V}{k:Nat}{sel:List Nat}{tt:TT}{el:TE}{Q:VK}
theorem Ug:jD (jg K te) g tb D σ H=te σ H (fun x H1=>kU x fun p=>(∃ xs,aR K H1 p xs)/\p0 (lx K p) g tb D σ H1):=by
 unfold jD jg
 congr 1
 funext x H1
 exact Cq
theorem RL:jD (kB K te) g tb D σ H=te σ H (fun x H1=>kU x fun p=>(∃ xs,cW K H1 p xs)/\p0 (vK K p) g tb D σ H1):=by
 unfold jD kB
 congr 1
 funext x H1
 exact Cq
theorem RD:jD (oy ta) g tb D σ H=ta σ H (fun vs H1=>Ae vs fun j=>-(2 ^ 62)<=j/\j<2 ^ 62/\p0 (jL 0 j.toNat) g tb D σ H1):=by
 unfold jD oy
 congr 1
 funext x H1
 exact Iq
theorem QZ:jD (xl ta) g tb D σ H=ta σ H (fun vs H1=>CJ vs fun i j=>(-(2 ^ 62)<=i/\i<2 ^ 62 /\ -(2 ^ 62)<=j/\j<2 ^ 62)/\p0 (jL i (j - i).toNat) g tb D σ H1):=by
 unfold jD xl
 congr 1
 funext x H1
 exact Nw
theorem Q5:eg (jg K te) k sel g tt el σ H Q=te σ H (fun x H1=>kU x fun p=>(∃ xs,aR K H1 p xs)/\lU (lx K p) σ k sel g tt el Q H1):=by
 unfold eg jg
 congr 1
 funext x H1
 exact Cq
theorem NM:eg (kB K te) k sel g tt el σ H Q=te σ H (fun x H1=>kU x fun p=>(∃ xs,cW K H1 p xs)/\lU (vK K p) σ k sel g tt el Q H1):=by
 unfold eg kB
 congr 1
 funext x H1
 exact Cq
theorem RZ:eg (oy ta) k sel g tt el σ H Q=ta σ H (fun vs H1=>Ae vs fun j=>-(2 ^ 62)<=j/\j<2 ^ 62/\lU (jL 0 j.toNat) σ k sel g tt el Q H1):=by
 unfold eg oy
 congr 1
 funext x H1
 exact Iq
theorem HH (Pv:Nat->St->Hp->Prop) (h0:Pv 0 σ H) (hk:∀ i σ H,i<=xs.length->Pv i σ H->aR K H p xs)
  (hs:∀ i x σ H,xs[i]? = some x->Pv i σ H->g x σ H fun σ2 H2=>tb { D with nx:=Pv (i+1),ct:=Pv (i+1),bk:=D.nx } σ2 H2) (hd:∀ σ H,Pv xs.length σ H->D.nx σ H):p0 (lx K p) g tb D σ H:=Q4 Pv h0 hk hs hd
theorem IQ {lo:Int}{n:Nat} (Pv:Nat->St->Hp->Prop) (h0:Pv 0 σ H)
  (hs:∀ (i:Nat) σ H,i<n->Pv i σ H->g (.int (lo+i)) σ H fun σ2 H2=>tb { D with nx:=Pv (i+1),ct:=Pv (i+1),bk:=D.nx } σ2 H2) (hd:∀ σ H,Pv n σ H->D.nx σ H):p0 (jL lo n) g tb D σ H:=Tw Pv h0 hs hd
end
theorem D3 {α:Type}{xs:List α}{i:Int} (d:α) (h0:0<=i) (h1:i<xs.length):dC xs i=some (xs.getD i.toNat d):=by
 obtain ⟨n,rfl⟩:=Zrl h0
 have hn:n<xs.length:=by omega
 have e:xs[n]? = some (xs.getD n d):=by simp [ZpX,hn]
 exact Uj e
theorem QU {α β:Type} (f:α->β) (xs:List α) (n:Nat) (d:α):(xs.map f).getD n (f d)=f (xs.getD n d):=by
 simp [ZpX]
theorem Q2 {α β:Type}{f:α->β}{xs:List α}{i:Int} (d:α) (h0:0<=i) (h1:i<xs.length):dC (xs.map f) i=some (f (xs.getD i.toNat d)):=by
 rw [D3 (f d) h0 (by rw [ZpC];exact h1),QU]
theorem Ss {α β:Type}{f:α->β}{xs:List α}{i:Nat}{y:β} (h:(xs.map f)[i]? = some y):∃ x,xs[i]? = some x/\y=f x:=by
 rw [ZpF] at h
 cases e:xs[i]? with
 | none=>rw [e] at h;cases h
 | some x=>rw [e] at h;exact ⟨x,rfl,(Option.some.inj h).symm⟩
theorem vq {X:Cx}{x:Str}{v:V}{pos:Pos} (hg:Gl X x) (hm:∃ u,X.mg x=some u/\aP v u) (hd:(x == ("__debug__" : Str))=false:=by decide):PE X (.Name x pos) (tC v):=by
 obtain ⟨u,h1,h2⟩:=hm
 exact mr hg h1 h2 hd
noncomputable def vk:Expr->Option V
 | .Constant (.int i) _ _=>some (.int i)
 | .Constant (.bool b) _ _=>some (.bl b)
 | .Constant .none _ _=>some .non
 | .Constant (.str x) _ _=>some (.str x)
 | _=>none
noncomputable def BU:List Expr->Option (List V)
 | []=>some []
 | e :: r=>match vk e,BU r with | some v,some vs=>some (v :: vs) | _,_=>none
noncomputable def mW (vs:List V):TA:=fun _ H Q=>Q vs H
theorem QC {X:Cx}{e:Expr}{v:V} (h:vk e=some v):PE X e (tC v):=by
 unfold vk at h
 split at h <;> first
  | (cases h;exact ak)
  | (cases h;exact uL)
  | (cases h;exact tN)
  | (cases h;exact aM)
  | cases h
theorem OP {e:Expr}{es:List Expr}{env:Env}{v:V} (h:vk e=some v):starEach (e :: es) env=(false,eval e env) :: starEach es env:=by
 unfold vk at h
 split at h <;> first | rfl | cases h
theorem ni {X:Cx}:∀ {es:List Expr}{vs:List V},BU es=some vs->PA X es (mW vs)
 | [],vs,h=>by
  have e:vs=[]:=(Option.some.inj h).symm
  subst e
  exact fun pos pins s σ H Q I q=>au pos pins s σ H Q I q
 | e :: r,vs,h=>by
  unfold BU at h
  cases h1:vk e with
  | none=>rw [h1] at h;cases h
  | some v =>
   cases h2:BU r with
   | none=>rw [h1,h2] at h;cases h
   | some ws =>
    rw [h1,h2] at h
    have e':v :: ws=vs:=Option.some.inj h
    subst e'
    exact fun pos pins s σ H Q I q=>ai (QC h1) (ni h2) (OP h1) pos pins s σ H Q I q
section
variable {X:Cx}{tg:Expr}
noncomputable def GV:V->Option Int->Option Int->Hp->VK->Prop:=fun x lo hi H Q=>match x with
 | .str z=>z.length<=sizeLine/\Q (.str (Txt.slice z lo hi)) H
 | _=>False
theorem Ad:oh X GV:=by
 intro pins s σ H x v vl vu lo hi sl Q I rx hs pl pu h
 cases x with
 | str z =>
  obtain ⟨t,rfl⟩:=rx
  obtain ⟨hz,q⟩:=h
  refine ⟨"str",_,F.slot_str_getitem.lookup,typeIs_str _ _ _,?_⟩
  have fin:∀ t' k,EP X pins σ Q (.str (Txt.slice z lo hi) t') { s with toks:=k }:=fun t' k=>⟨.str (Txt.slice z lo hi),H,I.tok k,⟨t',rfl⟩,q⟩
  cases pl with
  | none=>cases pu with
   | none=>exact wpAny_getItem_str_slice (l:=none) (u:=none) (st:=none) hs rfl (post_val_or_str ⟨Zq0 (Txt.slice_le z _ _) hz,fin⟩)
   | int j uj=>exact wpAny_getItem_str_slice (l:=none) (u:=some (j,uj)) (st:=none) hs rfl (post_val_or_str ⟨Zq0 (Txt.slice_le z _ _) hz,fin⟩)
  | int i ui=>cases pu with
   | none=>exact wpAny_getItem_str_slice (l:=some (i,ui)) (u:=none) (st:=none) hs rfl (post_val_or_str ⟨Zq0 (Txt.slice_le z _ _) hz,fin⟩)
   | int j uj=>exact wpAny_getItem_str_slice (l:=some (i,ui)) (u:=some (j,uj)) (st:=none) hs rfl (post_val_or_str ⟨Zq0 (Txt.slice_le z _ _) hz,fin⟩)
 | _=>exact False.elim h
noncomputable def nX (z:Str):It:=⟨fun i _=>i<z.cps.size,fun i H x H'=>H'=H/\∃ c,z.cps[i]? = some c/\x=.str ⟨#[c]⟩,fun i _=>z.cps.size<=i⟩
theorem Og {P:Program}{w:World}{K:ZoW}{tg:Expr} (it:Addr) (z:Str) (t:Tok) (ty:String) (nz:ty = "str_ascii_iterator" \/ ty = "str_iterator") :
  Turn P w K tg (nX z) [it] it (fun i h=>h.IsStrIter it ty z t i) where
 mem:=by simp
 obj:=fun i h st b hb=>by
  have e:b=it:=by simpa using hb
  subst e
  obtain ⟨o,e,c,d⟩:=st
  exact ⟨o,e,fun v z=>by rw [d] at z;cases z⟩
 keep:=fun i h h' st k=>by
  obtain ⟨o,e,c,d⟩:=st
  exact ⟨o,k it (by simp) o e,c,d⟩
 item:=by
  intro X hP hw hK hc i pins s σ H E I hf st hg
  subst hP hw hK
  obtain ⟨f0,f1,f2,f3,f4,f5⟩:=hf it (by simp)
  have hi:i<z.cps.size:=hg
  have hx:z.cps[i]? = some z.cps[i]:=by simp [hi]
  have fin:∀ h',h'.IsStrIter it ty z t (i+1)->Heap.SameBut it s.heap h'->∃ u,(some (Value.str ⟨#[z.cps[i]]⟩ s.toks))=some u /\
    wpAny (model X.prog X.w) X.A (letOwnedTupleGo tg (.ref it) u) (fun _ s2=>∃ x H',Inv X pins σ H' s2/\aP x u/\(nX z).jm i H x H'/\s2.heap.IsStrIter it ty z t (i+1)/\∀ b∈[it],H' b=none) E { s with heap:=h',toks:=s.toks+1 }:=fun h' st' sb=>by
   have I1:Inv X pins σ H { s with heap:=h',toks:=s.toks+1 }:=I.turned (fun b o hb e=>(sb.2 b hb).trans e) f0 f1 f3 f4 f5
   obtain ⟨o,e,cl,d⟩:=id st'
   exact ⟨_,rfl,CA (s:={ s with heap:=h',toks:=s.toks+1 }) e cl d (by rcases nz with q | q <;> subst q <;> decide) ⟨.str ⟨#[z.cps[i]]⟩,H,I1,⟨s.toks,rfl⟩,⟨rfl,_,hx,rfl⟩,st',fun b hb=>(hf b hb).1⟩⟩
  rcases nz with q | q
  ·subst q
   exact wpAny_pyNext_ascii_item st hx fin
  ·subst q
   exact wpAny_pyNext_wide_item st hx fin
 done:=by
  intro X hP hw hK hc i pins s σ H E I hf st hg
  subst hP hw hK
  obtain ⟨f0,f1,f2,f3,f4,f5⟩:=hf it (by simp)
  have hx:z.cps[i]? = none:=by
   have:z.cps.size<=i:=hg
   simp;exact this
  rcases nz with q | q
  ·subst q
   exact wpAny_pyNext_ascii_end (I.ok.hd hc) st hx fun h' eb=>⟨rfl,I.turned (t':=s.toks) (fun b o hb e=>eb b o hb e) f0 f1 f3 f4 f5⟩
  ·subst q
   exact wpAny_pyNext_wide_end (I.ok.hd hc) st hx fun h' eb=>⟨rfl,I.turned (t':=s.toks) (fun b o hb e=>eb b o hb e) f0 f1 f3 f4 f5⟩
 self:=fun A i s Q E st h=>by
  rcases nz with q | q
  ·subst q
   exact wpAny_pyIter_striter_ascii st h
  ·subst q
   exact wpAny_pyIter_striter_wide st h
noncomputable def lG (tl:TE):TI:=fun σ H R=>tl σ H fun x H1=>match x with | .str z=>R (nX z) H1 | _=>False
theorem JO {l:Expr}{tl:TE} (hl:PE X l tl):PI X tg l (lG tl):=by
 intro pins s σ H R I h
 refine aE (hl pins s σ H _ I h) fun v s1 ⟨x,H1,I1,r1,q1⟩=>?_
 cases x with
 | str z =>
  obtain ⟨t,rfl⟩:=r1
  have fin:∀ (ty:String),(ty = "str_ascii_iterator" \/ ty = "str_iterator")->yu X pins σ tg R (.ref s1.heap.objs.size) { s1 with heap:=s1.heap.push { cls:=.type ty,data:=.fields #[.str z t,.int 0 0] } }:=fun ty nz=>by
   refine ⟨s1.heap.objs.size,[s1.heap.objs.size],_,_,H1,rfl,I1.kept (t':=s1.toks) fun b o e=>Heap.get?_push_of_some _ e,Og _ z t ty nz,⟨_,Heap.get?_push_size _ rfl,rfl,rfl⟩,fun b hb=>?_,q1⟩
   have e:b=s1.heap.objs.size:=by simpa using hb
   subst e
   exact I1.js (ZqY _) (I1.aB.fresh (ZqY _))
  cases ha:z.cps.all (· < 128)
  ·exact wpAny_pyIter_wide ha (fin _ (.inr rfl))
  ·exact wpAny_pyIter_ascii ha (fin _ (.inl rfl))
 | _=>exact False.elim q1
variable {te:TE}{g:TG}{tb:TS}{D:Ends}{σ:St}{H:Hp}{k:Nat}{sel:List Nat}{tt:TT}{el:TE}{Q:VK}
theorem NC:jD (lG te) g tb D σ H=te σ H (fun x H1=>match x with | .str z=>p0 (nX z) g tb D σ H1 | _=>False):=rfl
theorem RJ:eg (lG te) k sel g tt el σ H Q=te σ H (fun x H1=>match x with | .str z=>lU (nX z) σ k sel g tt el Q H1 | _=>False):=by
 unfold eg lG lU
 congr 1
theorem SF {z:Str}{Pv:Nat->Hp->Prop}:∀ i H2,i<z.cps.size->Pv i H2->(nX z).go i H2/\∀ x H3,(nX z).jm i H2 x H3->H3=H2/\x=.str ⟨#[z.cps.getD i 0]⟩:=fun i H2 hi hP=>by
 refine ⟨hi,fun x H3 ⟨h1,c,h2,h3⟩=>⟨h1,?_⟩⟩
 have e:z.cps.getD i 0=c:=by
  have:z.cps[i]? = some z.cps[i]:=by simp [hi]
  rw [this] at h2
  cases h2
  simp [Array.getD,hi]
 rw [e];exact h3
theorem SM {bD:St}{p:Addr}{z:Str} (f:Nat->V) (hp:H p=none) (hr:sel.map (fun j=>(σ[j]?).join)=bD) (hz:z.cps.size<=sizeLine)
  (he:∀ c H' (Q':VK),c∈z.cps.toList->aH H H'->Q' (f c) H'->el (some (.str ⟨#[c]⟩) :: bD) H' Q') (hQ:Q (.ref p) (upd H p (.lst (z.cps.toList.map f)))):pI (nX z) σ 1 sel (aK 0) fR el Q H p:=by
 have hlen:z.cps.toList.length=z.cps.size:=by simp
 refine BY (n:=z.cps.size) (item:=fun i=>.str ⟨#[z.cps.getD i 0]⟩) (fun i H2=>H2=upd H p (.lst ((z.cps.toList.take i).map f))) hr (by simp) SF ?_ ?_ ?_
 ·rintro H2 rfl
  exact ZqY _
 ·rintro i H2 R hi rfl hR
  unfold fR
  dsimp only
  rw [if_pos rfl]
  have e:z.cps.toList[i]? = some (z.cps.getD i 0):=by simp [Array.getD,hi]
  refine he _ _ _ (ZpP e) (iU hp) ⟨_,cq,?_,hR _ ?_⟩
  ·rw [ZpC,Zp2];omega
  ·rw [Hq,Zqj,e,ZpK];rfl
 ·rintro H2 rfl
  rw [<- hlen,Zp1]
  exact hQ
noncomputable def lF (K:ZoW):List V->Hp->VK->Prop:=fun vs H Q=>match vs with
 | [.ref p]=>∃ bs:List Bool,aR K H p (bs.map V.bl)/\Q (.bl (bs.all id)) H
 | _=>False
theorem Cr (hc:X.calm=true):gI X (.builtin "all") (lF X.K):=by
 intro pins s σ H xs us Q I r h
 match xs,h with
 | [.ref p],h =>
  obtain ⟨bs,h1,q⟩:=h
  obtain ⟨u,rfl,ru⟩:=jA r
  cases ru
  obtain ⟨its,rv,pl,hz⟩:=I.list h1
  have hlen:=rv.length
  rw [ZpC] at hlen
  have dw:p<s.heap.objs.size:=by obtain ⟨_,e,_⟩:=pl.isList;exact Heap.lt_size e
  have hh:X.A.in1.handled=none:=I.ok.hd hc
  refine call_all_walk (wpAny_pyIter_list pl.isList ⟨s.heap.objs.size,_,_,its.toArray.size,_,_,fun i=>bs.getD i false,rfl,Walks.list hh s.heap.objs.size p (ZqZ dw) its.toArray,⟨⟨_,Heap.get?_push_size _ rfl,rfl,rfl⟩,pl.isList.push _⟩,?_,?_⟩)
  ·intro i v Q' E' s' hv hq
   have Cj:its[i]? = some v:=by simpa using hv
   have hi:i<its.length:=(ZpL.mp Cj).1
   obtain ⟨u,hu,ru⟩:=rv.get (i:=i) (x:=.bl (bs.getD i false)) (by rw [ZpF];simp [ZpX,show i<bs.length by omega])
   rw [Cj] at hu
   cases hu
   cases ru
   exact wpAny_truthy_bool hq
  ·intro h' tk kk
   refine ⟨.bl (bs.all id),H,?_,?_,q⟩
   ·exact I.kept fun b o e=>kk b o (by simp;exact ZqZ (Heap.lt_size e)) (Heap.get?_push_of_some _ e)
   ·have e:((ZpJ its.toArray.size).all fun i=>bs.getD i false)=bs.all id:=by
     rw [ZpN,<- hlen]
     rw [Zru]
     simp only [Zp8,Zqh,id_eq]
     constructor
     ·intro z b hb
      obtain ⟨i,hi,rfl⟩:=List.mem_iff_getElem.mp hb
      have:=z i hi
      simpa [ZpX,hi] using this
     ·intro z i hi
      have:=z bs[i] (Zqg _)
      simpa [ZpX,hi] using this
    rw [e];rfl
noncomputable def tJ:R2:=fun x y H Q=>match x,y with
 | .int i,.int j=>kE i j/\Q (.int (i * j)) H
 | .str z,.int n=>MulOk z n/\Q (.str (Txt.mul z n)) H
 | _,_=>False
theorem Bt:bX X (binaryOp .Mult) tJ:=by
  intro pins s σ H x y v u Q I rx ry h
  cases x <;> cases y <;> first
    | exact False.elim h
    | exact rg pins s σ H _ _ v u Q I rx ry ⟨_,_,rfl,rfl,h.1,h.2⟩
    | (obtain ⟨t,rfl⟩:=rx
       obtain ⟨t',rfl⟩:=ry
       exact SB.mul h.1 fun t'' k=>⟨.str _,H,I.tok k,⟨t'',rfl⟩,h.2⟩)
end
structure fb (H:Hp) (p:Addr) (o:HO) (H':Hp):Prop where
 fX:H p=none
 eq:H'=upd H p o
section
variable {H H':Hp}{p:Addr}{o:HO}
theorem fb.same (n:fb H p o H'):aH H H':=by rw [n.eq];exact iU n.fX
theorem fb.at_ (n:fb H p o H'):H' p=some o:=by rw [n.eq];exact cq
theorem fb.ne (n:fb H p o H') {b:Addr} (h:b≠p):H' b=H b:=by rw [n.eq];exact bo h
theorem fb.sq {K:ZoW}{xs:List V} (n:fb H p (.lst xs) H'):aR K H' p xs:=.of n.at_
theorem vH {F:Addr->Hp->Prop}{o:HO}:(∀ p,H p=none->F p (upd H p o)) = ∀ p H',fb H p o H'->F p H' :=
 propext ⟨fun h p H' n=>by rw [n.eq];exact h p n.fX,fun h p hp=>h p _ ⟨hp,rfl⟩⟩
end
section
variable {K:ZoW}{t:TA}{σ:St}{H:Hp}{Q:VK}{x:V}{lo hi:Option Int}{vs:List V}{kvs:List (Key × V)}
theorem tQ:fH t σ H Q=t σ H fun xs H1=>xs.length<=sizeLine/\∀ p H',fb H1 p (.lst xs) H'->Q (.ref p) H':=by
 unfold fH;congr 1;funext xs H1;rw [vH (F:=fun p H'=>Q (.ref p) H')]
theorem tO:pK t σ H Q=t σ H fun xs H1=>xs.length<=sizeLine/\∀ p H',fb H1 p (.tup xs) H'->Q (.ref p) H':=by
 unfold pK;congr 1;funext xs H1;rw [vH (F:=fun p H'=>Q (.ref p) H')]
theorem TB:Cd σ H Q = ∀ p H',fb H p (.dK []) H'->Q (.ref p) H':=by
 unfold Cd;rw [vH (F:=fun p H'=>Q (.ref p) H')]
theorem qJ {p:Addr}:tL K (.ref p) lo hi H Q = ∃ xs,aR K H p xs/\∀ q H',fb H q (.lst (fO xs lo hi)) H'->Q (.ref q) H':=by
 unfold tL
 dsimp only
 congr 1;funext xs;rw [vH (F:=fun p H'=>Q (.ref p) H')]
theorem Sq {p:Addr}:oE K [.ref p] H Q = ∃ ys,(aR K H p ys\/cW K H p ys)/\∀ l H',fb H l (.lst ys) H'->Q (.ref l) H':=by
 unfold oE
 dsimp only
 congr 1;funext xs;rw [vH (F:=fun p H'=>Q (.ref p) H')]
theorem R0 {p:Addr}:vP K [.ref p] H Q = ∃ ys,((aR K H p ys/\∀ l H',fb H l (.tup ys) H'->Q (.ref l) H')\/(cW K H p ys/\Q (.ref p) H)):=by
 unfold vP
 dsimp only
 congr 1;funext xs;rw [vH (F:=fun p H'=>Q (.ref p) H')]
end
section
variable {K:ZoW}{σ:St}{sel:List Nat}{bD:St}{H:Hp}{tt:TT}{te:TE}{Q:VK}
theorem Bz {a:Addr}{xs:List V} (f:V->V) (hl:aR K H a xs) (hr:sel.map (fun j=>(σ[j]?).join)=bD) (hz:xs.length<=sizeLine)
  (he:∀ x H' (Q':VK),x∈xs->aH H H'->Q' (f x) H'->te (some x :: bD) H' Q') (hQ:∀ p H',fb H p (.lst (xs.map f)) H'->Q (.ref p) H'):lU (lx K a) σ 1 sel (aK 0) fR te Q H :=
 fun p hp=>Od f hl hp hr hz he (hQ p _ ⟨hp,rfl⟩)
theorem JP {lo:Int}{n:Nat} (f:Int->V) (hr:sel.map (fun j=>(σ[j]?).join)=bD) (hz:n<=sizeLine)
  (he:∀ (i:Nat) H' (Q':VK),i<n->aH H H'->Q' (f (lo+i)) H'->te (some (.int (lo+i)) :: bD) H' Q') (hQ:∀ p H',fb H p (.lst ((ZpJ n).map fun i=>f (lo+(i:Nat)))) H'->Q (.ref p) H'):lU (jL lo n) σ 1 sel (aK 0) fR te Q H :=
 fun p hp=>PQ f hp hr hz he (hQ p _ ⟨hp,rfl⟩)
theorem IA {z:Str} (f:Nat->V) (hr:sel.map (fun j=>(σ[j]?).join)=bD) (hz:z.cps.size<=sizeLine)
  (he:∀ c H' (Q':VK),c∈z.cps.toList->aH H H'->Q' (f c) H'->te (some (.str ⟨#[c]⟩) :: bD) H' Q') (hQ:∀ p H',fb H p (.lst (z.cps.toList.map f)) H'->Q (.ref p) H'):lU (nX z) σ 1 sel (aK 0) fR te Q H :=
 fun p hp=>SM f hp hr hz he (hQ p _ ⟨hp,rfl⟩)
end
noncomputable def ka (K:ZoW):V->Option Int->Option Int->Hp->VK->Prop:=fun x lo hi H Q=>match x with
 | .ref p=>∃ xs,aR K H p xs/\∀ q H',fb H q (.lst (fO xs lo hi)) H'->Q (.ref q) H'
 | .str z=>z.length<=sizeLine/\Q (.str (Txt.slice z lo hi)) H
 | _=>False
theorem kG {X:Cx}:oh X (ka X.K):=by
 intro pins s σ H x v vl vu lo hi sl Q I rx hs pl pu h
 cases x with
 | ref p=>exact qc pins s σ H (.ref p) v vl vu lo hi sl Q I rx hs pl pu (by rw [qJ];exact h)
 | str z=>exact Ad pins s σ H (.str z) v vl vu lo hi sl Q I rx hs pl pu h
 | _=>exact False.elim h
end L2
set_option maxHeartbeats 4000000
namespace DZ
open PySem
section
variable {prog:Program}{w:World}{A:Around}{E:Value->Shared->Prop}{s:Shared}
end
section
variable {M:Model}{A:Around}{E:Value->Shared->Prop}{s:Shared}
end
structure U6 (z TI TO i1 i2 t l:Addr) (xs ys:Array Value) (i:Nat) (h:Heap):Prop where
 zo:∃ f0 f1,h.get? z=some { cls:=.type "zip",dict:=none,data:=.fields #[f0,.bool f1,.bool false,.ref TI,.ref TO],slots:=#[] } /\
  (f0=.none\/∃ (T:Addr) (o:Obj),f0=rawInt T/\h.get? T=some o/\T≠z/\T≠TO/\T≠i1/\T≠i2)
 ti:IsPair h TI (.ref i1) (.ref i2)
 to:∃ a b,IsPair h TO a b
 a1:h.IsTupleIter i1 t i
 a2:h.IsListIter i2 l i
 l1:h.IsTuple t xs
 l2:h.IsList l ys
section
variable {prog:Program}{w:World}{A:Around}{E:Value->Shared->Prop}{s:Shared}
end
end DZ
set_option maxHeartbeats 4000000
namespace DZ
open PySem
section
variable {prog:Program}{w:World}{A:Around}{E:Value->Shared->Prop}{h:Heap}{g:Array GenState}{d:Drawn}{t:Nat}{os:OsState}{z:Addr}{vs:Array Value}
end
theorem DP:mroOf (.type "dict")=pure [.type "dict",.type "object"]:=by rw [mroOf_type];kernel_rfl
theorem Tc:typeLookup (.type "dict") "__new__" = pure (some (.builtin "dict.__new__")):=by rw [typeLookup_type,builtinLookup_eq_fast];kernel_rfl
theorem Sy:TypeCalled "dict" "dict.__new__" "dict.__init__" :=
 ⟨by decide +kernel,by decide +kernel,⟨_,_,DP⟩,madeBy_type DP Tc (by decide +kernel),by decide +kernel,by rw [isSubtype_type];kernel_rfl,F.slot_dict_init⟩
theorem PD (a:Value):checkTypeCall "dict" ⟨[a],[]⟩=pure ():=by kernel_rfl
theorem UR (a:Value):checkBuiltinCall "dict.__new__" ⟨[.type "dict",a],[]⟩=pure ():=by kernel_rfl
theorem RY:entryFor table "dict.__new__" = some Builtin.«dict.__new__»:=entryFor_of_tree (by kernel_rfl)
theorem Mn:entryFor table "dict.update.loop" = some Builtin.«dict.update.loop»:=entryFor_of_tree (by kernel_rfl)
theorem KH:plainId "dict.__new__" = true:=by decide +kernel
theorem BM:plainId "dict.update.loop" = true:=by decide +kernel
theorem Jx:isSubtype (.type "dict") (.type "dict")=pure true:=by rw [isSubtype_type];kernel_rfl
section
variable {prog:Program}{w:World}{A:Around}{E:Value->Shared->Prop}{s:Shared}
theorem Po (a:Value) {Q:Value->Shared->Prop} (h:Q (.ref s.heap.objs.size) { s with heap:=s.heap.push { cls:=.type "dict",data:=.dict #[] } }) :
  codeAny (model prog w) A (.call (.builtin "dict.__new__") ⟨[.type "dict",a],[]⟩) (wants Q E) s:=by
 refine codeAny_of_tree ?_
 show wpAny _ A.in1 (do checkBuiltinCall "dict.__new__" ⟨[.type "dict",a],[]⟩;again (.builtin "dict.__new__" ⟨[.type "dict",a],[]⟩)) _ _ s
 refine wpAny_bind (wpAny_of_eq (UR a) (wpAny_pure ⟨plainId_quiet KH _,codeAny_builtin RY ?_⟩))
 rw [Around.under_plainId KH _]
 have G4:=Jx
 have hm:=DP
 obtain ⟨hp,g,d,tk,os⟩:=s
 wp_walk
 exact h
end
end DZ
set_option maxHeartbeats 4000000
namespace DZ
open PySem
section
variable {prog:Program}{w:World}{A:Around}{E:Value->Shared->Prop}{s:Shared}
theorem TR {κ:Type} [DecidableEq κ] (kvs:List (κ × Value)) (k:κ) (v:Value):(stored kvs k v).length<=kvs.length+1:=by
 unfold stored
 split
 ·rw [ZpC];exact Zq8 _
 ·rw [ZpI];exact ZqY _
variable {κ:Type} [DecidableEq κ] {knd:KeyKind prog w κ}
end
end DZ
set_option maxHeartbeats 4000000
namespace L2
open PySem PySem.Spec PyProof.Rows
section
variable {X:Cx}{pins:List (Addr × Obj)}{σ:St}{H:Hp}{s:Shared}{h':Heap}
theorem Inv.dz {t':Nat}{ch:List Addr}{d:Addr}{ob:HO} (I:Inv X pins σ H s) (jk:∀ b∈ch,i5 X pins H b) (hd:s.heap.objs.size<=d) (k:∀ b o,b ∉ ch->s.heap.get? b=some o->h'.get? b=some o)
  (new:dA X.prog X.w (upd H d ob) h' d ob):Inv X pins σ (upd H d ob) { s with heap:=h',toks:=t' }:=by
 have hn:H d=none:=I.aB.fresh hd
 have old:∀ {b o},s.heap.get? b=some o->b≠d:=fun e=>ZqZ (Zq1 (Heap.lt_size e) hd)
 have pE:∀ b u,H b=some u->b ∉ ch:=fun b u e z=>by rw [(jk b z).1] at e;cases e
 refine I.step (g':=s.gens) (d':=s.drawn) (ch:=ch) (fun b hb=>?_) (fun b o _ _ hc e _=>k b o hc e) (fun b o _ _ hc e _=>⟨o.slots,k b o hc e⟩) (fun b o _ e n=>by rw [bo (old e)];exact n)
  (fun b o hc e=>⟨o,k b o hc e⟩) (fun b xs e=>by rw [bo (gc e hn)];exact e) (fun b o u e=>by rw [bo (gc e hn)];exact e) (fun b ps e=>⟨#[],by rw [bo (gc e hn),e];simp⟩) (fun m hm=>?_) (fun b u e=>?_) I.bare
 ·obtain ⟨f0,f1,f2,f3,f4,f5⟩:=jk b hb
  exact ⟨f3,f1,f4,f5⟩
 ·obtain ⟨o,es,ep,ho,r⟩:=hm
  exact ⟨o,es,ep,k _ o (fun z=>(jk _ z).2.1 rfl) ho,r⟩
 ·by_cases hb:b=d
  ·subst hb
   rw [cq] at e
   cases e
   exact new
  ·rw [bo hb] at e
   refine (I.aB b u e).fV (fun c v hc q=>k c v ?_ q) (fun c q=>by rw [bo (gc q hn)];exact q) fun c xs q=>by rw [bo (gc q hn)];exact q
   rcases hc with z | z
   ·rw [z];exact pE b u e
   ·exact pE c _ z
end
noncomputable def tE (t u:TS):TS:=aV t u
theorem mid {t u:TS}{D:Ends}{σ:St}{H:Hp} (M:St->Hp->Prop) (h1:∀ N:St->Hp->Prop,(∀ σ' H',M σ' H'->N σ' H')->t { D with nx:=N } σ H) (h2:∀ σ' H',M σ' H'->u D σ' H'):tE t u D σ H:=h1 _ h2
theorem BL {X:Cx}{st:Stmt}{bD:List Stmt}{t u:TS} (h:PS X st t) (hr:gy X bD u):gy X (st :: bD) (tE t u):=aW h hr
theorem wz {X:Cx}{id:String}{r:V->List V->Hp->VK->Prop} (h:DD X id r):nq X id r:=h
theorem C7 {J:It}{σ:St}{k:Nat}{sel:List Nat}{g:TG}{tt:TT}{te:TE}{Q:VK}{H:Hp}{p:Addr}{n:Nat}{item:Nat->V} (Sv:St->Prop) (Pv:Nat->Hp->Prop)
  (hS:Sv (cst σ k sel)) (h0:Pv 0 (upd H p (.lst [])))
  (src:∀ i H2,i<n->Pv i H2->J.go i H2/\∀ x H3,J.jm i H2 x H3->H3=H2/\x=item i) (fin:∀ H2,Pv n H2->J.stop n H2)
  (step:∀ i σ2 H2 (R:St->Hp->Prop),i<n->Sv σ2->Pv i H2->(∀ σ' H',Sv σ'->Pv (i+1) H'->R σ' H')->g (item i) σ2 H2 fun σ4 H4=>tt σ4 H4 fun b H5 =>
   if b=true then te σ4 H5 fun v H6=>∃ ys,H6 p=some (.lst ys)/\ys.length<sizeLine/\R σ4 (upd H6 p (.lst (ys ++ [v]))) else R σ4 H5)
  (hQ:∀ H2,Pv n H2->Q (.ref p) H2):pI J σ k sel g tt te Q H p:=by
 refine ⟨fun i m σ2 H2=>i<=n/\m=n - i+1/\Sv σ2/\Pv i H2,⟨n+1,Zq3 _,rfl,hS,h0⟩,?_⟩
 rintro i m σ2 H2 ⟨hi,rfl,hs,hP⟩
 by_cases dw:i<n
 ·right
  obtain ⟨hg,hy⟩:=src i H2 dw hP
  refine ⟨hg,fun x H3 hx=>?_⟩
  obtain ⟨rfl,rfl⟩:=hy x H3 hx
  exact step i σ2 H3 (fun σ' H'=>∃ m',m'<n - i+1/\i+1<=n/\m'=n - (i+1)+1/\Sv σ'/\Pv (i+1) H') dw hs hP fun σ' H' s' h'=>⟨n - (i+1)+1,by omega,dw,rfl,s',h'⟩
 ·left
  have e:i=n:=by omega
  subst e
  exact ⟨fin H2 hP,hQ H2 hP⟩
noncomputable def Dp (H H':Hp):Prop:=∀ b o,H b=some o->(∀ xs,o≠.lst xs)->H' b=some o
section
variable {K:ZoW}{H H' H0 H1:Hp}{l a:Addr}{xs ys:List V}{o:HO}
theorem aH.n (s:aH H H'):Dp H H':=fun b o e _=>s b o e
theorem Dp.clear (h:H l=some (.lst xs)):Dp H (upd H l (.lst ys)):=fun b o e n=>by rw [bo (nv e h (n xs))];exact e
theorem aH.put (s:aH H0 H) (h:H0 l=none):aH H0 (upd H l o):=fun b u e=>by rw [bo (gc e h)];exact s b u e
theorem aH.tup (e:aH H H') (h:cW K H a xs):cW K H' a xs:=by
 rcases h with (h | ⟨o,h⟩) | h
 ·exact .inl (.inl (e _ _ h))
 ·exact .inl (.inr ⟨o,e _ _ h⟩)
 ·exact .inr h
noncomputable def qB (N:Addr->Prop) (H H':Hp):Prop:=∀ b o,N b->H b=some o->H' b=some o
theorem aH.keep {N:Addr->Prop} (s:aH H H'):qB N H H':=fun b o _ e=>s b o e
theorem qB.tup {N:Addr->Prop} (e:qB N H H') (n:N a) (h:cW K H a xs):cW K H' a xs:=by
 rcases h with (h | ⟨o,h⟩) | h
 ·exact .inl (.inl (e _ _ n h))
 ·exact .inl (.inr ⟨o,e _ _ n h⟩)
 ·exact .inr h
theorem fb.free (n:fb H a o H'):H a=none:=n.fX
end
theorem bz (a b:Str):(a ++ b).cps.toList=a.cps.toList ++ b.cps.toList:=by
 show (a.cps ++ b.cps).toList=_
 simp
theorem IP (z:Str):z.cps.toList.length=z.length:=by
 show z.cps.toList.length=z.cps.size
 simp
theorem gf {y z:Str} (h:y.cps.toList=z.cps.toList):y=z:=by
 cases y;cases z
 congr 1
 exact Array.toList_inj.mp h
theorem QE {z:Str}{j:Int} (h0:0<=j) (h1:j<=z.length):(Txt.slice z none (some j)).cps.toList=z.cps.toList.take j.toNat:=by
 have h:=slice_closes_to (x:=z) (j:=j) ⟨h0,by rw [IP];exact h1⟩
 rw [beq_iff_eq] at h
 rw [h]
 simp
theorem TL {z:Str}{i:Int} (h0:0<=i) (h1:i<=z.length):(Txt.slice z (some i) none).cps.toList=z.cps.toList.drop i.toNat:=by
 rw [slice_from_eq h0 h1 rfl]
 show ((z.cps.toList.drop i.toNat).take ((z.length:Int) - i).toNat)=_
 rw [Zqk]
 rw [Zp6,IP]
 omega
theorem Jp (c:Nat):∀ (k:Nat) (acc:Array Nat),((Zqi k (#[c]:Array Nat)).foldl (· ++ ·) acc).toList=acc.toList ++ Zqi k c
 | 0,acc=>by simp
 | k+1,acc=>by
  rw [List.replicate_succ,ZqN,Jp c k,List.replicate_succ]
  simp
section
variable {K:ZoW}{H:Hp}{p:Addr}{i:Int}{F:V->Prop}
theorem QS {cs:List Int} (hS:aR K H p (cs.map V.int)) (h0:0<=i) (h1:i<cs.length) (h:F (.int (cs.getD i.toNat 0))):∃ xs v,(aR K H p xs\/cW K H p xs)/\dC xs i=some v/\F v:=⟨_,_,.inl hS,Q2 0 h0 h1,h⟩
end
theorem Lh:∀ (n:Nat) (us:List Value) (f:Nat->V) (m:Nat),us.length=n->(∀ (i:Nat) u,us[i]? = some u->aP (f (m+i)) u)->Vals ((ZpJ n).map fun i=>f (m+i)) us
 | 0,[],f,m,_,_=>.nil
 | n+1,u :: us,f,m,hl,h=>by
  rw [List.range_succ_eq_map,ZpD,ZpO]
  have h0:=h 0 u rfl
  refine .cons h0 ?_
  have ih:=Lh n us f (m+1) (by simpa using hl) fun i u' hu=>by
   have:=h (i+1) u' (by simpa using hu)
   rw [show m+(i+1)=m+1+i by omega] at this
   exact this
  have e:(ZpJ n).map ((fun i=>f (m+i)) ∘ Nat.succ)=(ZpJ n).map fun i=>f (m+1+i):=by
   refine Zqx fun i _=>?_
   show f (m+(i+1))=f (m+1+i)
   rw [show m+(i+1)=m+1+i by omega]
  rw [e]
  exact ih
theorem RK (c w:Nat):((c:Int) * 2 ^ ((w:Int)).toNat:Int)=((c * 2 ^ w:Nat):Int):=by simp
theorem SH (a b:Nat):Builtin.bitAnd (a:Int) (b:Int)=((a &&& b:Nat):Int):=by rw [bitAnd_pp (by omega) (by omega)];simp
theorem zT {X:Cx}:bX X (binaryOp .Pow) (aQ km fun i j=>.int (i ^ j.toNat)):=uN.imp fun _ _ _ _ h=>AA h
section
open Builtin Builtin.Str
end
theorem J3:∀ (l:List (Str × Tok)),Vals ((l.map (·.1)).map V.str) (strValues l)
 | []=>.nil
 | p :: r=>.cons ⟨p.2,rfl⟩ (J3 r)
theorem Mh:∀ {ts:List Str}{us:List Value},Vals (ts.map V.str) us->∃ l:List (Str × Tok),us=strValues l/\l.map (·.1)=ts
 | [],_,.nil=>⟨[],rfl,rfl⟩
 | z :: ts,_,.cons r t=>by
  obtain ⟨l,rfl,rfl⟩:=Mh t
  obtain ⟨tk,rfl⟩:=r
  exact ⟨(z,tk) :: l,rfl,rfl⟩
noncomputable def Ea:V->List V->Hp->VK->Prop:=fun x vs H Q=>match x,vs with
 | .str z,[]=>z.length+2<=sizeLine/\∀ p H',fb H p (.lst ((Txt.words z).map V.str)) H'->Q (.ref p) H'
 | _,_=>False
noncomputable def lW (K:ZoW):V->List V->Hp->VK->Prop:=fun x vs H Q=>match x,vs with
 | .str z,[.ref a]=>∃ ts:List Str,aR K H a (ts.map V.str)/\(ts.map (·.length)).sum+ts.length<=1048576/\z.length<=16/\Q (.str (Str.join z ts)) H
 | _,_=>False
theorem nr {X:Cx}:nq X "str.join" (lW X.K):=by
 intro pins s σ H x vs v us Q I rx rv h
 cases x with
 | str z =>
  match vs,h with
  | [.ref a],h =>
   obtain ⟨ts,hl,hw,hz,q⟩:=h
   obtain ⟨t,rfl⟩:=rx
   obtain ⟨u,rfl,ru⟩:=jA rv
   cases ru
   obtain ⟨its,r,pl,_⟩:=I.list hl
   obtain ⟨l,rfl,dw⟩:=Mh r
   refine SC.join pl.isList dw (joinOk_of_weight hw hz) fun t' k=>?_
   refine ⟨.str (Str.join z ts),H,I.tok _,⟨t',?_⟩,q⟩
   show Value.str (Builtin.Str.glued z ts) t'=_
   rw [StrLaws.glued_eq_join]
 | _=>exact False.elim h
theorem aH.nil {H H':Hp}{p:Addr} (s:aH H H') (h:H' p=none):H p=none:=by
 cases e:H p with
 | none=>rfl
 | some o=>rw [s _ _ e] at h;cases h
structure vp (H:Hp) (p:Addr) (o:HO) (H':Hp):Prop where
 fX:H p=none
 at_:H' p=some o
 same:aH H H'
theorem vp.pre {H H0 H':Hp}{p:Addr}{o:HO} (s:aH H0 H) (n:vp H p o H'):vp H0 p o H':=⟨s.nil n.fX,n.at_,s.trans n.same⟩
theorem mul_one (c:Nat) (n:Int):(Txt.mul ⟨#[c]⟩ n).cps.toList=Zqi n.toNat c:=by
 unfold Txt.mul
 by_cases h1:n<1
 ·rw [if_pos h1]
  have:n.toNat=0:=by omega
  rw [this]
  rfl
 ·rw [if_neg h1]
  by_cases h2:(n == 1 || Str.length ⟨#[c]⟩ == 0)=true
  ·rw [if_pos h2]
   have h3:n=1:=by
    rw [Zrv] at h2
    rcases h2 with q | q
    ·exact beq_iff_eq.mp q
    ·exact absurd (beq_iff_eq.mp q) (by show ¬ (1:Nat)=0;decide)
   subst h3
   rfl
  ·rw [if_neg h2]
   show ((Zqi n.toNat (#[c]:Array Nat)).foldl (· ++ ·) #[]).toList=_
   rw [Jp]
   simp
noncomputable abbrev En:=Addr × (Int × Int)
theorem xW (xs:List V):fO xs (some 1) none=xs.drop 1:=by
 unfold fO
 have e1:HT.ij xs.length 0 (some 1)=min 1 xs.length:=by
  have:=HT.wU xs.length 0 1
  rw [show ((1:Nat):Int)=1 from rfl] at this
  rw [this]
 have e2:HT.ij xs.length xs.length none=xs.length:=rfl
 rw [e1,e2]
 cases xs with
 | nil=>rfl
 | cons a r =>
  have:min 1 (a :: r).length=1:=by simp only [ZpG];omega
  rw [this,Zqk (by simp)]
end L2
set_option maxHeartbeats 4000000
namespace DL
open PySem DZ
theorem Pp:entryFor table "list.__getattribute__" = some Builtin.«object.__getattribute__» :=
 entryFor_alias (id':="object.__getattribute__") (by kernel_rfl) (by first | rfl | decide +kernel) (by decide +kernel) (by kernel_rfl)
theorem Rg:typeLookup (.type "list") "keys" = pure none:=by rw [typeLookup_type,builtinLookup_eq_fast];kernel_rfl
section
variable {prog:Program}{w:World}{A:Around}{E:Value->Shared->Prop}{h:Heap}{g:Array GenState}{d:Drawn}{t:Nat}{os:OsState}{z:Addr}{vs:Array Value}{n:Nat}
theorem Uq {tk:Tok}{Q:Fin->Shared->Prop} (hh:A.handled=none) (hz:h.get? z=some { cls:=.type "list",dict:=none,data:=.seq vs n,slots:=#[] })
  (hE:∀ h' e t',(∀ c o,h.get? c=some o->h'.get? c=some o)->(∃ o,h'.get? e=some o/\o.cls=.type "AttributeError")->E (.ref e) ⟨h',g,d,t',os⟩) :
  wpAny (model prog w) A (Builtin.«object.__getattribute__» ⟨[.ref z,.str "keys" tk],[]⟩) Q E ⟨h,g,d,t,os⟩:=by
 have hT:(⟨h,g,d,t,os⟩:Shared).TypeIs (.ref z) "list":=⟨_,hz,rfl⟩
 have f4:=Rg
 repeat (any_goals (first | assumption | wp_step))
 refine wpAny_raiseAttrError hh (fun h' tk' e x=>?_) (attrMsg_fits (by decide +kernel) (by decide +kernel))
 obtain ⟨t',u',he⟩:=x.there
 exact hE h' e tk' (fun c o q=>x.keeps c o q) ⟨_,he,rfl⟩
theorem Qp {tk:Tok}{R:Result->Shared->Prop} (hh:A.handled=none) (hz:h.get? z=some { cls:=.type "list",dict:=none,data:=.seq vs n,slots:=#[] })
  (hE:∀ h' e t',(∀ c o,h.get? c=some o->h'.get? c=some o)->(∃ o,h'.get? e=some o/\o.cls=.type "AttributeError")->R (.error (.ref e)) ⟨h',g,d,t',os⟩) :
  codeAny (model prog w) A (.call (.builtin "list.__getattribute__") ⟨[.ref z,.str "keys" tk],[]⟩) R ⟨h,g,d,t,os⟩ :=
 codeAny_call_builtin F.slot_list_getattribute.plain Pp (F.slot_list_getattribute.check _ _ _ _ _ _ _ _ (show (⟨h,g,d,t,os⟩:Shared).TypeIs (.ref z) "list" from ⟨_,hz,rfl⟩) (F.args_list_getattribute_2 _ _) (Uq hh hz hE))
theorem Qe {tk:Tok}{Q:Value->Shared->Prop} (hh:A.handled=none) (hz:h.get? z=some { cls:=.type "list",dict:=none,data:=.seq vs n,slots:=#[] })
  (hE:∀ h' e t',(∀ c o,h.get? c=some o->h'.get? c=some o)->(∃ o,h'.get? e=some o/\o.cls=.type "AttributeError")->E (.ref e) ⟨h',g,d,t',os⟩) :
  wpAny (model prog w) A (getAttrBy (.ref z) (.str "keys" tk) false) Q E ⟨h,g,d,t,os⟩:=by
 have hT:(⟨h,g,d,t,os⟩:Shared).TypeIs (.ref z) "list":=⟨_,hz,rfl⟩
 have f2:=F.slot_list_getattribute.lookup
 have f3:=F.slot_list_getattribute.bind (.ref z)
 have f1:=sub_AttributeError
 repeat (any_goals (first | assumption | wp_step))
 refine Qp hh hz fun h' e t' k he=>?_
 obtain ⟨o,ho,hc⟩:=he
 have U4:(⟨h',g,d,t',os⟩:Shared).TypeIs (.ref e) "AttributeError":=⟨o,ho,hc⟩
 have fin:=hE h' e t' k ⟨o,ho,hc⟩
 have f5:typeLookup (.type "list") "__getattr__" = pure none:=by rw [typeLookup_type,builtinLookup_eq_fast];kernel_rfl
 show wpAny _ _ (getattributeRaised _ _ _ _ _ _ _) _ _ _
 unfold getattributeRaised
 repeat (any_goals (first | assumption | wp_step))
theorem RX {Q:Option Value->Shared->Prop} (hh:A.handled=none) (hz:h.get? z=some { cls:=.type "list",dict:=none,data:=.seq vs n,slots:=#[] })
  (hq:∀ h' t',(∀ c o,h.get? c=some o->h'.get? c=some o)->Q none ⟨h',g,d,t',os⟩) :
  wpAny (model prog w) A (getAttr? (.ref z) "keys") Q E ⟨h,g,d,t,os⟩:=by
 unfold getAttr? getAttrBy?
 have f1:=sub_AttributeError
 refine wpAny_bind (wpAny_mkText ?_)
 refine wpAny_bind (wpAny_attempt (Qe hh hz fun h' e t' k he=>?_))
 obtain ⟨o,ho,hc⟩:=he
 refine wpAny_bind (wpAny_isInstance (T:="AttributeError") (b:=true) ⟨o,ho,hc⟩ f1 ?_)
 exact wpAny_pure (hq _ _ k)
end
section
variable {prog:Program}{w:World}{A:Around}{E:Value->Shared->Prop}{s:Shared}{κ:Type} [DecidableEq κ] {knd:KeyKind prog w κ}
noncomputable def KI (knd:KeyKind prog w κ) (d it:Addr) (xs:Array Value) (es:List (κ × Value)) (h:Heap):Prop :=
 ∀ (j:Nat) p,es[j]? = some p->∃ T kx o m,xs[j]? = some (.ref T)/\T≠d/\T≠it/\knd.is p.1 kx=true/\h.get? T=some o/\o.cls=.type "tuple" /\ o.data=.seq #[kx,p.2] m
theorem Nd {it l d:Addr}{xs:Array Value}{es:List (κ × Value)}{R:Result->Shared->Prop} (hh:A.handled=none) (n1:it≠d) (n2:l≠d) (n3:l≠it) (hk:es.length=xs.size) (hz:xs.size<=2000) :
  ∀ (m i:Nat) (s:Shared) (kvs:List (κ × Value)),i+m=xs.size->kvs.length<=i->s.heap.IsListIter it l i->s.heap.IsList l xs->KI knd d it xs es s.heap->s.heap.DictOf knd d kvs ->
   (∀ h' t',h'.DictOf knd d ((es.drop i).foldl (fun e p=>stored e p.1 p.2) kvs)->(∀ c o,c≠d->c≠it->s.heap.get? c=some o->h'.get? c=some o)->R (.ok (.ret .none)) { s with heap:=h',toks:=t' }) ->
   codeAny (model prog w) A (.builtin "dict.update.loop" ⟨[.ref d,.ref it,rawInt i,.none],[]⟩) R s
 | 0,i,s,kvs,hm,hl,S,L,P,hd,hR=>by
  refine codeAny_builtin Mn ?_
  rw [Around.under_plainId BM _]
  unfold Builtin.«dict.update.loop»
  refine wpAny_bind (wpAny_pyNext_list_end hh S L (Array.getElem?_eq_none (by omega)) fun h' eb=>?_)
  have e1:es.drop i=[]:=ZqV (by omega)
  rw [e1] at hR
  have hd':h'.DictOf knd d kvs:=by
   obtain ⟨o,es,ep,ho,r⟩:=hd
   exact ⟨o,es,ep,eb _ _ n1.symm ho,r⟩
  exact wpAny_bind (wpAny_pure (wpAny_pure (hR h' s.toks hd' fun c o c0 c1 e=>eb c o c1 e)))
 | m+1,i,s,kvs,hm,hl,S,L,P,hd,hR=>by
  refine codeAny_builtin Mn ?_
  rw [Around.under_plainId BM _]
  unfold Builtin.«dict.update.loop»
  have hi:i<es.length:=by omega
  have RB:es[i]? = some es[i]:=ZpH hi
  obtain ⟨T,kx,o,mm,hx,nd,pX,hkx,ho,yA,hda⟩:=P i _ RB
  refine wpAny_bind (wpAny_pyNext_list_item S L (x:=.ref T) hx fun h1 S1 sb1=>?_)
  have k1:∀ c o,c≠it->s.heap.get? c=some o->h1.get? c=some o:=fun c o hc e=>(sb1.2 c hc).trans e
  refine wpAny_bind (wpAny_holding ?_)
  have Dl:h1.DictOf knd d kvs:=by
   obtain ⟨o,es,ep,ho,r⟩:=hd
   exact ⟨o,es,ep,k1 _ _ n1.symm ho,r⟩
  refine wpAny_bind (wpAny_tryCatch ?_)
  unfold Builtin.Dict.pairItems
  refine wpAny_bind (wpAny_typeOf (T:="tuple") ⟨o,k1 _ _ pX ho,yA⟩ ?_)
  rw [if_pos (by decide)]
  refine wpAny_bind (wpAny_seqItems (k1 _ _ pX ho) hda (wpAny_pure ?_))
  refine wpAny_holding (wpAny_dictSet_pairs (knd:=knd) (s:={ s with heap:=h1 }) hkx Dl (fun h2 d2 sb=>?_) (Zq0 hl (Zq0 (by omega) (show 2000<=sizeLine by decide))))
  have k2:∀ c o,c≠d->h1.get? c=some o->h2.get? c=some o:=fun c o hc e=>(sb.2 c hc).trans e
  have S2:h2.IsListIter it l (i+1):=S1.at fun o e=>k2 it o n1 e
  have L2:h2.IsList l xs:=L.at fun o e=>k2 l o n2 (k1 l o n3 e)
  have P2:KI knd d it xs es h2:=fun j p hj=>by
   obtain ⟨T',kx',o',m',q1,q2,q3,q4,q5,q6,q7⟩:=P j p hj
   exact ⟨T',kx',o',m',q1,q2,q3,q4,k2 _ _ q2 (k1 _ _ q3 q5),q6,q7⟩
  refine wpAny_pure ⟨plainId_quiet BM _,?_⟩
  have e1:es.drop i=es[i] :: es.drop (i+1):=ZqO hi
  refine Nd hh n1 n2 n3 hk hz m (i+1) _ _ (by omega) ?_ S2 L2 P2 d2 ?_
  ·have:=TR kvs es[i].1 es[i].2
   omega
  ·intro h' t' d' k'
   rw [e1] at hR
   exact hR h' t' d' fun c o c0 c1 e=>k' c o c0 c1 (k2 c o c0 (k1 c o c1 e))
theorem qh {l:Addr}{xs:Array Value}{n:Nat}{Q:Value->Shared->Prop} (hz:s.heap.get? l=some { cls:=.type "list",dict:=none,data:=.seq xs n,slots:=#[] })
  (h:Q (.ref s.heap.objs.size) { s with heap:=s.heap.push { cls:=.type "list_iterator",data:=.fields #[.ref l,.int 0 0] } }):wpAny (model prog w) A (pyIter (.ref l)) Q E s:=wpAny_pyIter_list (items:=xs) ⟨_,hz,rfl,n,rfl⟩ h
theorem S5 {l:Addr}{xs:Array Value}{n:Nat}{es:List (κ × Value)}{Q:Value->Shared->Prop} (hh:A.handled=none) (hl:s.heap.get? l=some { cls:=.type "list",dict:=none,data:=.seq xs n,slots:=#[] })
  (hk:es.length=xs.size) (hz:xs.size<=2000) (P:∀ (j:Nat) p,es[j]? = some p->∃ T kx o m,xs[j]? = some (.ref T)/\knd.is p.1 kx=true/\s.heap.get? T=some o/\o.cls=.type "tuple" /\ o.data=.seq #[kx,p.2] m)
  (q:∀ h' t',h'.DictOf knd s.heap.objs.size (es.foldl (fun e p=>stored e p.1 p.2) [])->(∀ c o,s.heap.get? c=some o->h'.get? c=some o)->Q (.ref s.heap.objs.size) { s with heap:=h',toks:=t' }) :
  wpAny (model prog w) A (call (.type "dict") [.ref l]) Q E s:=by
 refine callType_codes (Q₁:=fun v s1=>v=.ref s.heap.objs.size/\s1={ s with heap:=s.heap.push { cls:=.type "dict",data:=.dict #[] } }) Sy (PD _) F.entry_dict_init (Po _ ⟨rfl,rfl⟩) ?_
 rintro obj s1 ⟨rfl,rfl⟩
 refine ⟨⟨_,Heap.get?_push_size _ rfl,rfl⟩,F.args_dict_init_2 _ _,?_⟩
 obtain ⟨hp,g,d0,tk,os⟩:=s
 dsimp only at *
 have hl':=Heap.get?_push_of_some { cls:=.type "dict",data:=.dict #[] } hl
 have UW:(⟨hp.push { cls:=.type "dict",data:=.dict #[] },g,d0,tk,os⟩:Shared).TypeIs (.ref hp.objs.size) "dict":=⟨_,Heap.get?_push_size _ rfl,rfl⟩
 have Ve:(⟨hp.push { cls:=.type "dict",data:=.dict #[] },g,d0,tk,os⟩:Shared).TypeIs (.ref l) "list":=⟨_,hl',rfl⟩
 have G4:=Jx
 unfold Builtin.«dict.__init__»
 repeat (any_goals (first | assumption | (with_reducible refine RX hh hl' fun h' t' k=>?_) | (with_reducible refine qh (k _ _ hl') ?_) | wp_step))
 have lt:∀ {c:Addr}{o:Obj},hp.get? c=some o->c≠hp.objs.size:=fun e=>ZqZ (Heap.lt_size e)
 have up:∀ c o,hp.get? c=some o->h'.get? c=some o:=fun c o e=>k c o (Heap.get?_push_of_some _ e)
 have FY:∀ c o,hp.get? c=some o->(h'.push { cls:=.type "list_iterator",data:=.fields #[.ref l,.int 0 0] }).get? c=some o:=fun c o e=>Heap.get?_push_of_some _ (up c o e)
 have GF:∀ {c:Addr}{o:Obj},hp.get? c=some o->c≠h'.objs.size:=fun e=>ZqZ (Heap.lt_size (up _ _ e))
 have nd:h'.objs.size≠hp.objs.size:=(ZqZ (Heap.lt_size (k _ _ (Heap.get?_push_size _ rfl)))).symm
 refine ⟨plainId_quiet BM _,Nd (A:=A.in1) (knd:=knd) (es:=es) (show A.in1.handled=none from hh) nd (lt hl) (GF hl) hk hz xs.size 0 _ [] (by omega) (by simp) ⟨_,Heap.get?_push_size _ rfl,rfl,rfl⟩ ⟨_,FY _ _ hl,rfl,n,rfl⟩ (fun j p hj=>?_) ?_ ?_⟩
 ·obtain ⟨T,kx,o,m,q1,q2,q3,q4,q5⟩:=P j p hj
  exact ⟨T,kx,o,m,q1,lt q3,GF q3,q2,FY _ _ q3,q4,q5⟩
 ·obtain ⟨o,es,ep,ho,r⟩:=Heap.DictOf.new (knd:=knd) hp
  exact ⟨o,es,ep,Heap.get?_push_of_some _ (k _ _ ho),r⟩
 ·intro h2 t2 d2 k2
  refine ⟨rfl,q h2 t2 ?_ fun c o e=>k2 c o (lt e) (GF e) (FY c o e)⟩
  simpa using d2
end
end DL
namespace L2
open PySem PySem.Spec PyProof.Rows
noncomputable def Fu (_:ZoW):List V->Hp->VK->Prop:=fun vs H Q=>match vs with
 | [.ref a]=>∃ (ys:List V) (ps:List (Key × V)),H a=some (.lst ys)/\ys.length=ps.length/\ps.length<=2000/\(∀ (j:Nat) p,ps[j]? = some p->∃ T,ys[j]? = some (.ref T)/\H T=some (.tup [kV p.1,p.2]))/\∀ p H',fb H p (.dK (mz [] ps)) H'->Q (.ref p) H'
 | _=>False
theorem JA {F:Nat->Key × V->Key × Value->Prop}:∀ (ps:List (Key × V)) (m:Nat),(∀ (j:Nat) p,ps[j]? = some p->∃ u,aP p.2 u/\F (m+j) p (p.1,u)) ->
  ∃ es:List (Key × Value),es.length=ps.length/\(∀ (j:Nat) e,es[j]? = some e->∃ p,ps[j]? = some p/\F (m+j) p e)/\∀ (kvs:List (Key × V)) (ws:List (Key × Value)),KV kvs ws->KV (ps.foldl (fun acc kv=>gz acc kv.1 kv.2) kvs) (es.foldl (fun e p=>stored e p.1 p.2) ws)
 | [],m,_=>⟨[],rfl,fun j e h=>by simp at h,fun kvs ws r=>r⟩
 | p :: r,m,h=>by
  obtain ⟨u,ru,fu⟩:=h 0 p rfl
  obtain ⟨es,hl,he,hk⟩:=JA r (m+1) fun j p' hj=>by
   obtain ⟨u',h1,h2⟩:=h (j+1) p' (by simpa using hj)
   exact ⟨u',h1,by rw [show m+1+j=m+(j+1) by omega];exact h2⟩
  refine ⟨(p.1,u) :: es,by simp [hl],fun j e hj=>?_,fun kvs ws rr=>hk _ _ (rr.put p.1 ru)⟩
  cases j with
  | zero =>
   have:(p.1,u)=e:=by simpa using hj
   subst this
   exact ⟨p,rfl,fu⟩
  | succ j =>
   obtain ⟨p',h1,h2⟩:=he j e (by simpa using hj)
   exact ⟨p',by simpa using h1,by rw [show m+(j+1)=m+1+j by omega];exact h2⟩
theorem PJ {X:Cx} (hc:X.calm=true):gI X (.type "dict") (Fu X.K):=by
 intro pins s σ H xs us Q I r h
 match xs,h with
 | [.ref a],h =>
  obtain ⟨ys,ps,hL,hl,hz,hp,q⟩:=h
  obtain ⟨u1,rfl,e1⟩:=jA r
  cases e1
  obtain ⟨z,its,n,rv,hlen,hget⟩:=I.m5 hL
  have item:∀ (j:Nat) p,ps[j]? = some p->∃ u,aP p.2 u/\∃ T kx o m,its[j]? = some (.ref T)/\(iL X.prog X.w).is p.1 kx=true/\s.heap.get? T=some o/\o.cls=.type "tuple" /\ o.data=.seq #[kx,u] m:=fun j p hj=>by
   obtain ⟨T,hT,hH⟩:=hp j p hj
   obtain ⟨uT,h1,h2⟩:=rv.get hT
   cases h2
   obtain ⟨itt,rt,⟨o,ho,yA,m,hda⟩,_⟩:=I.tuple (cW.of hH)
   obtain ⟨w1,w2,rfl,r1,r2⟩:=Vals.two rt
   exact ⟨w2,r2,T,w1,o,m,h1,AD r1,ho,yA,hda⟩
  obtain ⟨es,hel,hes,hkv⟩:=JA (F:=fun j p e=>∃ T kx o m,its[j]? = some (.ref T)/\(iL X.prog X.w).is e.1 kx=true/\s.heap.get? T=some o/\o.cls=.type "tuple" /\ o.data=.seq #[kx,e.2] m) ps 0 fun j p hj=>by
   obtain ⟨u,h1,T,kx,o,m,h2⟩:=item j p hj
   exact ⟨u,h1,T,kx,o,m,by rw [Nat.zero_add];exact h2⟩
  refine DL.S5 (knd:=iL X.prog X.w) (es:=es) (I.ok.hd hc) hget (by rw [ZpN];omega) (by rw [ZpN];omega) (fun j p hj=>?_) fun h2 t2 dd k2=>?_
  ·obtain ⟨p',_,T,kx,o,m,q1,q2,q3,q4,q5⟩:=hes j p hj
   exact ⟨T,kx,o,m,by rw [Nat.zero_add] at q1;simpa using q1,q2,q3,q4,q5⟩
  ·have iH:H s.heap.objs.size=none:=I.aB.fresh (ZqY _)
   have rel:KV (mz [] ps) (es.foldl (fun e p=>stored e p.1 p.2) []):=hkv [] [] .nil
   have A1:(mz [] ps).length<=sizeLine:=by
    have h1:=Km ps []
    rw [Zp3] at h1
    rw [sizeLine_eq];omega
   have Qz:((s.heap.objs.size:Addr) == sysModules)=false:=beq_eq_false_iff_ne.mpr (Ne.symm (ZqZ I.big))
   refine ⟨.ref s.heap.objs.size,upd H s.heap.objs.size (.dK (mz [] ps)),?_,rfl,q _ _ ⟨iH,rfl⟩⟩
   exact I.dz (ch:=[]) (h':=h2) (t':=t2) (fun b hb=>nomatch hb) (ZqY _) (fun b o _ e=>k2 b o e) (ID A1 Qz rel dd)
end L2
set_option maxHeartbeats 4000000
namespace EX
open PySem
structure Lv (S:List Addr) (e:Addr) (old:List Addr) (cls:Value) (h h':Heap) (T:Addr):Prop where
 ge:h.objs.size<=T
 exc:∃ oe vs,h'.get? e=some oe/\oe.cls=cls/\oe.data=.fields vs/\vs[1]? = some (.ref T)/\oe.dict=none
 tb:∃ oT ts,h'.get? T=some oT/\oT.data=.fields ts/\ts[3]? = some .none
 keep:∀ b o,b ∉ S->b≠e->b ∉ old->h.get? b=some o->h'.get? b=some o
 slot:∀ b o,b∈S->h.get? b=some o->∃ sl,h'.get? b=some { o with slots:=sl }
theorem Kt (f:Array Value->Array Value) (o:Obj):(Obj.mapFields f o).dict=o.dict:=by
 unfold Obj.mapFields
 split <;> rfl
section
variable {M:Model}{A:Around}{E:Value->Shared->Prop}{s:Shared}
theorem EF {base:Heap}{env:Env}{outer:List Env}{L e:Addr}{oe:Obj}{vs:Array Value}{pV:Value}{nx:Bool}{Q:Unit->Shared->Prop} (jt:A.frames=some (env :: outer)) (hl:s.heap.FunFrames base (env :: outer)) (hf:env.frame=some L)
  (he:s.heap.get? e=some oe) (iq:oe.dict=none) (hd:oe.data=.fields vs) (hsz:1<vs.size)
  (q:∀ h' T,Lv ((env :: outer).filterMap (·.frame)) e [] oe.cls s.heap h' T->Q () { s with heap:=h' }) :
  wpAny M A (do let a <- frameOf env;let pl <- entryPlaceOf L nx;let b <- EntryCells.newEntry pV a .none (rawInt L) .none pl;setField (.ref e) 1 b) (fun _ s'=>wpAny M A (setFlight (.ref e) none) Q E s') E s:=by
 have eS:e ∉ (env :: outer).filterMap (·.frame):=fun hm=>by
  obtain ⟨_,o,ho,hnf⟩:=hl.mem hm
  rw [he] at ho
  cases ho
  exact hnf vs hd
 refine wpAny_bind (wpAny_frameOf_fun jt hl hf fun k1 x1=>wpAny_bind (wpAny_entryPlaceOf fun pl gx=>?_))
 unfold EntryCells.newEntry newFields
 refine wpAny_bind (wpAny_newObj_type ?_ (gx.sizeOk5 _ _ _ _ _))
 have e1:k1.get? e=some oe:=(x1.2.1 e eS).trans he
 generalize hob:({ cls:=.type "traceback",dict:=none,data:=.fields ([pV,.ref L,.none,rawInt L,.none] ++ (if pl.isEmpty then Zqi 6 Value.none else pl)).toArray }:Obj)=ob
 have tG:∃ ts,ob.data=.fields ts/\3<ts.size:=⟨_,by rw [<- hob],by simp only [ZpN,ZpI,ZpG,Zp3];omega⟩
 obtain ⟨ts,hts,hts3⟩:=tG
 have jV:ob.isFreed=false:=by rw [<- hob];rfl
 have e2:(k1.push ob).get? e=some oe:=Heap.get?_push_of_some _ e1
 refine wpAny_setField e2 hd hsz ?_
 have vz:k1.objs.size≠e:=Zq2 (Heap.lt_size e1)
 have d3:=Obj.data_mapFields hd (·.setIfInBounds 1 (Value.ref k1.objs.size))
 have e3:=Heap.get?_update_self (Obj.mapFields (·.setIfInBounds 1 (Value.ref k1.objs.size))) e2 (Obj.isFreed_of_fields d3)
 have t3:=(Heap.get?_update_other (k1.push ob) (Obj.mapFields (·.setIfInBounds 1 (Value.ref k1.objs.size))) (Ne.symm vz)).trans (Heap.get?_push_size k1 jV)
 unfold setFlight
 refine wpAny_bind (wpAny_field e3 d3 (x:=.ref k1.objs.size) (by simp [hsz]) ?_)
 rw [if_pos (show (Value.ref k1.objs.size != Value.none)=true by simp)]
 refine wpAny_setField t3 hts hts3 (q _ k1.objs.size ?_)
 have up:∀ b o,b≠e->k1.get? b=some o->(((k1.push ob).update e (Obj.mapFields (·.setIfInBounds 1 (Value.ref k1.objs.size)))).update k1.objs.size (Obj.mapFields (·.setIfInBounds 3 ((none:Option Addr).elim Value.none fun f=>rawInt f)))).get? b=some o:=fun b o nb hb=>by
  rw [Heap.get?_update_other _ _ (Zq2 (Heap.lt_size hb)),Heap.get?_update_other _ _ (Ne.symm nb)]
  exact Heap.get?_push_of_some _ hb
 refine ⟨by rw [x1.1];exact ZqY _,⟨_,_,(Heap.get?_update_other _ _ vz).trans e3,Obj.cls_mapFields _ _,d3,by simp [hsz],(Kt _ _).trans iq⟩,?_,fun b o hb nb _ hbo=>up b o nb ((x1.2.1 b hb).trans hbo),fun b o hb hbo=>?_⟩
 ·have d4:=Obj.data_mapFields hts (·.setIfInBounds 3 ((none:Option Addr).elim Value.none fun f=>rawInt f))
  exact ⟨_,_,Heap.get?_update_self _ t3 (Obj.isFreed_of_fields d4),d4,by simp [hts3]⟩
 ·obtain ⟨sl,hs⟩:=x1.2.2 b o hbo
  exact ⟨sl,up b _ (fun z=>eS (z ▸ hb)) hs⟩
noncomputable def CS (h:Heap) (e:Addr) (vs:Array Value) (old:List Addr):Prop :=
 (vs[1]? = some .none/\old=[])\/∃ T0 oT ts,old=[T0]/\vs[1]? = some (.ref T0)/\T0≠e/\h.get? T0=some oT/\oT.data=.fields ts/\ts[3]? = some .none
theorem lands {base:Heap}{env:Env}{outer:List Env}{L e:Addr}{oe:Obj}{vs:Array Value}{old:List Addr}{Q:Unit->Shared->Prop} (jt:A.frames=some (env :: outer)) (hl:s.heap.FunFrames base (env :: outer)) (hf:env.frame=some L)
  (he:s.heap.get? e=some oe) (iq:oe.dict=none) (hd:oe.data=.fields vs) (tr:CS s.heap e vs old)
  (q:∀ h' T,Lv ((env :: outer).filterMap (·.frame)) e old oe.cls s.heap h' T->Q () { s with heap:=h' }):wpAny M A (noteFrame (.ref e) env) (fun _ s'=>wpAny M A (setFlight (.ref e) none) Q E s') E s:=by
 unfold noteFrame
 simp only [hf]
 rcases tr with ⟨h1,rfl⟩ | ⟨T0,oT,ts,rfl,h1,nT,hT,jC,h3⟩
 ·refine wpAny_bind (wpAny_field he hd h1 ?_)
  rw [if_neg (by decide)]
  exact EF jt hl hf he iq hd (Zro.mp h1).1 q
 ·refine wpAny_bind (wpAny_field he hd h1 ?_)
  rw [if_pos (show (Value.ref T0 != Value.none)=true by simp)]
  refine wpAny_bind (wpAny_field hT jC h3 ?_)
  rw [if_neg (show ¬ ((Value.none == rawInt L)=true) by simp [rawInt])]
  refine wpAny_bind (wpAny_setField hT jC (Zro.mp h3).1 ?_)
  have ot:∀ b,b≠T0->(s.heap.update T0 (Obj.mapFields (·.setIfInBounds 3 Value.none))).get? b=s.heap.get? b:=fun b hb=>Heap.get?_update_other _ _ (Ne.symm hb)
  have nf:∀ b o,s.heap.get? b=some o->(∀ vs,o.data≠.fields vs)->b≠T0:=fun b o hb hnf z=>by
   rw [z,hT] at hb
   cases hb
   exact hnf ts jC
  refine EF jt (hl.of_keeps fun b o hb hnf=>⟨o,(ot b (nf b o hb hnf)).trans hb,rfl⟩) hf ((ot e (Ne.symm nT)).trans he) iq hd (Zro.mp h1).1 fun h' T x=>q h' T ⟨?_,x.exc,x.tb,fun b o hb nb no hbo=>?_,fun b o hb hbo=>?_⟩
  ·have:=x.ge
   rw [show (s.heap.update T0 (Obj.mapFields (·.setIfInBounds 3 Value.none))).objs.size=s.heap.objs.size from Heap.size_after_update ..] at this
   exact this
  ·exact x.keep b o hb nb (by simp) ((ot b (fun z=>no (by simp [z]))).trans hbo)
  ·obtain ⟨_,o',gP,hnf⟩:=hl.mem hb
   rw [hbo] at gP
   cases gP
   exact x.slot b o hb ((ot b (nf b o hbo hnf)).trans hbo)
theorem qS {base:Heap}{env:Env}{outer:List Env}{L e:Addr}{oe:Obj}{vs:Array Value}{old:List Addr}{Q:Unit->Shared->Prop} (jt:A.frames=some (env :: outer)) (hl:s.heap.FunFrames base (env :: outer)) (hf:env.frame=some L)
  (he:s.heap.get? e=some oe) (iq:oe.dict=none) (hd:oe.data=.fields vs) (tr:CS s.heap e vs old)
  (q:∀ h' T,Lv ((env :: outer).filterMap (·.frame)) e old oe.cls s.heap h' T->Q () { s with heap:=h' }):wpAny M A (leaving env (.ref e)) Q E s:=by
 unfold leaving
 exact wpAny_bind (lands jt hl hf he iq hd tr q)
end
end EX
set_option maxHeartbeats 4000000
namespace L2
open PySem PySem.Spec PyProof.Rows
noncomputable def eB (P:Program) (w:World):jq:=fun outer H s E er s'=>∃ e T C H',er=.ref e/\s'.os=s.os/\AllBare s'.gens/\Un (gg outer) [] H H' s.heap s'.heap/\d6 P w H' s'.heap/\s.heap.get? e=none/\s.heap.get? T=none/\T≠e/\H' e=none/\H' T=none /\
 (∃ oe vs,s'.heap.get? e=some oe/\oe.cls=.ref C/\oe.data=.fields vs/\vs[1]? = some (.ref T)/\oe.dict=none)/\(∃ oT ts,s'.heap.get? T=some oT/\oT.data=.fields ts/\ts[3]? = some .none)/\E (.ref e) (some C) H'
theorem dA.has {P:Program}{w:World}{H:Hp}{h:Heap}{a:Addr}{o:HO} (x:dA P w H h a o):∃ u,h.get? a=some u:=by
 cases o with
 | lst xs=>obtain ⟨_,_,_,_,e⟩:=x;exact ⟨_,e⟩
 | tup xs=>obtain ⟨_,_,_,_,e,_⟩:=x;exact ⟨_,e⟩
 | dK kvs=>obtain ⟨_,_,_,_,o,_,_,e,_⟩:=x;exact ⟨_,e⟩
 | dT kvs=>obtain ⟨_,_,_,_,o,_,_,e,_⟩:=x;exact ⟨_,e⟩
 | set S n=>obtain ⟨o,_,_,_,e,_⟩:=x;exact ⟨_,e⟩
 | ins C dx fs=>obtain ⟨_,_,_,e,_⟩:=x;exact ⟨_,e⟩
 | own y=>exact x
 | xd fs=>obtain ⟨_,⟨_,_,_,e,_⟩,_⟩:=x;exact ⟨_,e⟩
 | rng lo hi=>obtain ⟨_,_,_,e⟩:=x;exact ⟨_,e⟩
 | frz ob u=>obtain ⟨e,_⟩:=x;exact ⟨_,e⟩
 | tbl ps=>exact ⟨_,(show h.get? a=some _ from x)⟩
 | met f y=>exact ⟨_,(show h.get? a=some _ from x)⟩
 | ext φ=>obtain ⟨_,e,_⟩:=x;exact e
theorem d6.i3 {P:Program}{w:World}{H:Hp}{h:Heap}{a:Addr} (x:d6 P w H h) (e:h.get? a=none):H a=none:=by
 cases q:H a with
 | none=>rfl
 | some u =>
  obtain ⟨o,z⟩:=(x a u q).has
  rw [e] at z;cases z
noncomputable def iz (X:Cx) (pins:List (Addr × Obj)) (H:Hp) (b:Addr):Prop :=
 H b=none/\b≠X.env.locals/\b ∉ X.fs/\(b∈X.ex\/X.s₀.heap.get? b=none)/\(∀ x c,X.env.cells.lookup x=some c->c≠b)/\∀ p∈X.pn ++ pins,p.1≠b
theorem Inv.kQ {X:Cx}{pins:List (Addr × Obj)}{σ:St}{H H':Hp}{s:Shared}{b:Addr} (I:Inv X pins σ H s) (hb:s.heap.get? b=none) (hn:H' b=none):iz X pins H' b:=by
 have no:∀ {o:Obj},s.heap.get? b=some o->False:=fun z=>by rw [hb] at z;cases z
 refine ⟨hn,fun z=>?_,fun z=>?_,?_,fun x c e z=>?_,fun p hp z=>?_⟩
 ·obtain ⟨m,⟨o,es,ep,ho,_⟩,_⟩:=I.loc
  rw [<- z] at ho;exact no ho
 ·obtain ⟨_,o,ho,_⟩:=I.cu.mem z
  exact no ho
 ·by_cases hx:b∈X.ex
  ·exact .inl hx
  ·refine .inr ?_
   cases q:X.s₀.heap.get? b with
   | none=>rfl
   | some o =>
    obtain ⟨o',h'⟩:=I.base.there b o q hx
    exact (no h').elim
 ·obtain ⟨v,q⟩:=I.cell x c e
  rw [z] at q
  obtain ⟨o,ho,_⟩:=q
  exact no ho
 ·have:=(I.pin p hp).1
  rw [z] at this
  exact no this
structure mF (X:Cx) (pins:List (Addr × Obj)) (H:Hp) (e C:Addr) (s:Shared):Prop where
 fe:iz X pins H e
 obj:∃ oe vs old,s.heap.get? e=some oe/\oe.cls=.ref C/\oe.data=.fields vs/\EX.CS s.heap e vs old/\oe.dict=none/\∀ b∈old,iz X pins H b
noncomputable def vC (X:Cx) (E:XK):Prop:=∀ (pins:List (Addr × Obj)) (σ:St) (H:Hp) (s:Shared) (e C:Addr),Inv X pins σ H s->mF X pins H e C s->E (.ref e) (some C) H->X.xe (.ref e) s
theorem LU {X:Cx}{pins:List (Addr × Obj)}{σ:St}{H:Hp}{s s':Shared}{E:XK}{er:Value} (I:Inv X pins σ H s) (h:eB X.prog X.w X.stack H s E er s'):∃ e C H',er=.ref e/\Inv X pins σ H' s'/\mF X pins H' e C s'/\E (.ref e) (some C) H':=by
 obtain ⟨e,T,C,H',rfl,os,bare,un,aB,ge,gT,ne,he,hT,⟨oe,vs,h1,h2,h3,h4,h8⟩,⟨oT,ts,h5,h6,h7⟩,q⟩:=h
 obtain ⟨hh,g,d,t,os'⟩:=s'
 obtain rfl:os'=s.os:=os
 refine ⟨e,C,H',rfl,I.call (h':=hh) (g':=g) (d':=d) (t':=t) (ch:=[]) un aB bare (fun b z=>absurd z (by simp)),⟨I.kQ ge he,oe,vs,[T],h1,h2,h3,.inr ⟨T,oT,ts,rfl,h4,ne,h5,h6,h7⟩,h8,fun b hb=>?_⟩,q⟩
 rw [ZpQ.mp hb]
 exact I.kQ gT hT
theorem ly {X:Cx}{E:XK} (h:vC X E):mL (eB X.prog X.w) X E:=fun pins σ H s er s' I hcx=>by
 obtain ⟨e,C,H',rfl,I',fl,q⟩:=LU I hcx
 exact h pins σ H' s' e C I' fl q
theorem Ak {P:Program}{w:World}{X:Cx}:mL (eB P w) X E0:=fun _ _ _ _ _ _ _ h=>by
 obtain ⟨_,_,_,_,_,_,_,_,_,_,_,_,_,_,_,_,q⟩:=h
 exact q.elim
section
variable {P:Program}{w:World}{K:ZoW}{mg:Str->Option Value}{base:Heap}
theorem ie {N:List Str}{qual:Str}{scope:Scope}{f:Addr}{aG:Value}{A:Around}{outer:List Env}{s:Shared}{H:Hp}{E:XK}:vC (iJ (eB P w) P w K mg base N qual scope f aG A outer s H E) E:=by
 intro pins σ H' s' e C I fl q
 obtain ⟨fe,oe,vs,old,h1,h2,h3,tr,iq,fo⟩:=fl
 show wpAny (model P w) (A.deeper (envOfC qual scope s.heap.objs.size f aG)) (leaving (envOfC qual scope s.heap.objs.size f aG) (.ref e)) (fun _ s''=>eB P w outer H s E (.ref e) s'') (fun e' s''=>eB P w outer H s E e' s'') s'
 have fr:(A.deeper (envOfC qual scope s.heap.objs.size f aG)).frames=some (envOfC qual scope s.heap.objs.size f aG :: outer):=I.ok.frames
 have ff:s'.heap.FunFrames base (envOfC qual scope s.heap.objs.size f aG :: outer):=I.stack
 have free:∀ b∈(envOfC qual scope s.heap.objs.size f aG :: outer).filterMap (·.frame),H' b=none:=I.fG
 have big:∀ {b},iz (iJ (eB P w) P w K mg base N qual scope f aG A outer s H E) pins H' b->s.heap.get? b=none:=fun {b} hb=>by
  rcases hb.2.2.2.1 with z | z
  ·exact absurd z (by show b ∉ ([]:List Addr);simp)
  ·exact z
 have hU:∀ {b o},s.heap.get? b=some o->b≠e/\b ∉ old/\b≠s.heap.objs.size:=fun {b o} hb=>by
  have lt:=Heap.lt_size hb
  refine ⟨fun z=>?_,fun z=>?_,ZqZ lt⟩
  ·have:=big fe
   rw [<- z,hb] at this;cases this
  ·have:=big (fo b z)
   rw [hb] at this;cases this
 refine EX.qS (base:=base) fr ff rfl h1 iq h3 tr fun h' T lv=>?_
 have Ih:∀ {b},b∈(envOfC qual scope s.heap.objs.size f aG :: outer).filterMap (·.frame)->b=s.heap.objs.size\/b∈gg outer:=fun {b} hb=>by
  rw [Zqm] at hb
  exact ZpE.mp hb
 have toS:∀ {b},b∈gg outer->b∈(envOfC qual scope s.heap.objs.size f aG :: outer).filterMap (·.frame):=fun {b} hb=>by
  rw [Zqm]
  exact ZpR _ hb
 have B:=I.base
 have EB:s.heap.objs.size<=s'.heap.objs.size:=I.sz
 have kp:∀ b u,H' b≠none->s'.heap.get? b=some u->h'.get? b=some u:=fun b u nb hb=>by
  refine lv.keep b u (fun z=>nb (free b z)) (fun z=>nb (by rw [z];exact fe.1)) (fun z=>nb (fo b z).1) hb
 refine ⟨e,T,C,H',rfl,I.os,I.bare,⟨fun b o e1 n hb hx=>?_,fun b o e1 n hb hx=>?_,fun b o e1 n hx=>B.free b o e1 n hx,fun b o e1 hx=>?_,B.eT,B.d9,B.eZ⟩,fun b u e1=>?_,big fe,Heap.get?_none_of_le (Zq0 EB lv.ge),?_,fe.1,I.aB.fresh lv.ge,?_,lv.tb,q⟩
 ·obtain ⟨z1,z2,z3⟩:=hU e1
  refine lv.keep b o (fun z=>?_) z1 z2 (B.keep b o e1 n hb hx)
  rcases Ih z with z | z
  ·exact z3 z
  ·exact hb z
 ·obtain ⟨sl,e2⟩:=B.slot b o e1 n hb hx
  obtain ⟨sl',e3⟩:=lv.slot b _ (toS hb) e2
  exact ⟨sl',e3⟩
 ·obtain ⟨o',e2⟩:=B.there b o e1 hx
  obtain ⟨z1,z2,z3⟩:=hU e1
  by_cases hS:b∈(envOfC qual scope s.heap.objs.size f aG :: outer).filterMap (·.frame)
  ·obtain ⟨sl,e3⟩:=lv.slot b _ hS e2
   exact ⟨_,e3⟩
  ·exact ⟨o',lv.keep b o' hS z1 z2 e2⟩
 ·refine (I.aB b u e1).fV (fun c v hc hv=>kp c v (fun z=>?_) hv) (fun _ z=>z) fun _ _ z=>z
  rcases hc with y | y
  ·rw [y,e1] at z;cases z
  ·rw [y] at z;cases z
 ·exact Zq2 (Zq1 (Heap.lt_size h1) lv.ge)
 ·obtain ⟨oe',vs',y1,y2,y3,y4,y5⟩:=lv.exc
  exact ⟨oe',vs',y1,y2.trans h2,y3,y4,y5⟩
theorem iY.S3 {x qual:Str}{st:Stmt}{f:Addr}{fd:FuncData}{N ps:List Str}{k:Nat}{sp:Sp} (F:iY K x qual st f fd) (S:aj N ps (ba st)) (len:∀ vs H Q E,sp vs H Q E->vs.length=ps.length)
  (fK:∀ (aG:Value) (A:Around) (outer:List Env) (s:Shared) (H:Hp) (vs:List V) (Q:VK) (E:XK),aX k (A.deeper (envOfC qual (ba st) s.heap.objs.size f aG))->sp vs H Q E ->
   ∃ t,gy (iJ (eB P w) P w K mg base N qual (ba st) f aG A outer s H E) (jh st) t/\t { nx:=fun _ H'=>Q .non H',rt:=Q } (jM N vs) H):aJ P w K mg base (eB P w) (k+1) f fd ps sp:=by
 obtain ⟨oc,od,kV,doc,pm,an,aG,ct,jw,rfl,lk,gm⟩:=F.ex
 exact pW lk gm S len fun A outer s H vs Q E hr jd=>fK aG A outer s H vs Q E hr jd
end
section
open PySem.W
theorem qp {K:Frag}{h:Heap}{C:Addr}{vg:List Value}{newId:String} (X:K.In h) (q:excIn K C vg newId=true):∃ bm N nm qn bs hdct sn sub ab col dd k0 k1 k2 k3 k5 mN,
  h.get? C=some (excClassObj nm qn C N bs bm hdct sn sub ab col dd k0 k1 k2 k3 k5 newId)/\h.Ns N mN/\mN "__init__" = none/\OwnTail h vg bm:=by
 have hk:=q
 revert hk
 rw [excIn]
 intro hk
 cases hl:K.lookup C with
 | none=>rw [hl] at hk;cases hk
 | some ob =>
  obtain ⟨c,dd,dt,sl⟩:=ob
  rw [hl] at hk
  split at hk
  next dd' cd sl' he =>
   cases he
   split at hk
   next C' bm k0 k1 k2 k3 n k5 hm hs =>
    simp only [Zrt,beq_iff_eq,Zrx] at hk
    obtain ⟨⟨⟨⟨⟨hc,hn⟩,hdel⟩,ht⟩,aB⟩,hni⟩:=hk
    cases cd
    cases sl
    simp only at hm hdel aB hni hs
    rw [hm,hdel,hs] at hl
    rw [hc,hn] at hl
    exact ⟨_,_,_,_,_,_,_,_,_,_,_,_,_,_,_,_,_,X _ _ hl,.of_isNs (isNs_of_in X aB),nsMap_none_of_in X aB hni,tail_of_in X ht⟩
   next=>cases hk
  next=>cases hk
end
noncomputable def kj (C:Addr) (t:TA) (E:XK):TS:=fun _ σ H=>t σ H fun vs H1=>vs.length<=sizeLine/\∀ e,H1 e=none->E (.ref e) (some C) H1
theorem lN {X:Cx}{E:XK}{C:Addr}{x:Str}{vg:List Value}{B newId tH:String}{e:Expr}{es:List Expr}{t:TA}{np aU pos:Pos} (F:ExcBaseFacts B newId tH vg) (q:Zpa X.K C vg newId=true) (fF:vg.contains (.type "BaseException")=true)
  (hg:Gl X x) (hm:X.mg x=some (.ref C)) (hc:X.calm=true) (hx:vC X E) (ha:PA X (e :: es) t) (iZ:(x == ("__debug__" : Str))=false:=by decide) (he:starEach (e :: es) X.env=(false,eval e X.env) :: starEach es X.env:=by rfl)
  (gx:(backTo aU (starEach (e :: es) X.env)).any (·.1)=false:=by rfl):PS X (.Raise (some (.Call (.Name x np) (e :: es) [] aU)) none pos) (kj C t E):=by
 intro pins s σ H D I h
 obtain ⟨bm,N,nm,qn,bs,hdct,sn,sub,ab,col,dd,k0,k1,k2,k3,k5,mN,hC,hN,hni,T⟩:=qp I.ok.mod.o9 q
 refine wpAny_Raise_call_subT (nm:=nm) (q:=qn) (N:=N) (bs:=bs) (hdct:=hdct) (sn:=sn) (sub:=sub) (ab:=ab) (col:=col) (dd:=dd) (k0:=k0) (k1:=k1) (k2:=k2) (k3:=k3) (k5:=k5) F (T.hasType fF) (I.ok.hd hc) gx hni (pO I hg hm ⟨rfl,?_⟩ iZ)
 have a1:=ha aU pins s σ H _ I h
 rw [he] at a1 ⊢
 refine Calls.evalArgs_plain (aE a1 fun us s1 ⟨vs,H1,I1,r,hz,q1⟩=>⟨rfl,?_,I1.bk _ _ hC,hN.keeps I1.bk,T.keeps I1.bk,fun h' e' hme=>?_⟩)
 ·show us.length<=_
  rw [<- r.length];exact hz
 ·have I2:Inv X pins σ H1 { s1 with heap:=h' }:=I1.kept (t':=s1.toks) hme.keeps
  obtain ⟨tt,t1,t2,t3⟩:=hme.there
  exact hx pins σ H1 _ e' C I2 ⟨I1.kQ hme.new (I1.aB.i3 hme.new),_,_,[],t1,rfl,rfl,.inl ⟨rfl,rfl⟩,rfl,fun b hb=>absurd hb (by simp)⟩ (q1 e' (I1.aB.i3 hme.new))
noncomputable def Cx.plus (X:Cx) (l:List Addr):Cx:={ X with ex:=l ++ X.ex }
section
variable {X:Cx}{pins:List (Addr × Obj)}{σ:St}{H:Hp}{s:Shared}{l:List Addr}
theorem QW (I:Inv X pins σ H s) {b:Addr} (hb:X.s₀.heap.get? b=none) (o:Obj):X.base.get? b≠some o:=fun z=>by
 have:=(I.ok.bs b o z).1
 rw [hb] at this;cases this
theorem Inv.plus (I:Inv X pins σ H s) (h:∀ b∈l,iz X pins H b):Inv (X.plus l) pins σ H s:=by
 have K:=I.ok
 refine ⟨⟨K.mod,K.kind,K.glob,K.blt,K.above,K.inj,K.has,K.kW,K.hd,K.frames,K.lS,fun b hb=>?_,K.bs,K.iO,fun b o e hb=>?_,fun b hb=>?_,K.cu,K.jB⟩,I.os,I.bare,?_,I.loc,I.cell,I.free,I.bj,I.pin,I.aB,I.len⟩
 ·rcases ZpM.mp hb with z | z
  ·exact ⟨(h b z).2.1,(h b z).2.2.2.2.1⟩
  ·exact K.nK b z
 ·rcases ZpM.mp hb with z | z
  ·rcases (h b z).2.2.2.1 with y | y
   ·exact K.fz b o e y
   ·exact QW I y o e
  ·exact K.fz b o e z
 ·rcases ZpM.mp hb with z | z
  ·exact (h b z).2.2.1
  ·exact K.fL b z
 ·have no:∀ {b:Addr},b ∉ l ++ X.ex->b ∉ X.ex:=fun hb z=>hb (ZpT _ z)
  exact ⟨fun b o e n hb hx=>I.base.keep b o e n hb (no hx),fun b o e n hb hx=>I.base.slot b o e n hb (no hx),fun b o e n hx=>I.base.free b o e n (no hx),fun b o e hx=>I.base.there b o e (no hx),I.base.eT,I.base.d9,I.base.eZ⟩
theorem Inv.minus (I:Inv (X.plus l) pins σ H s) (K:X.Ok) (h:∀ b∈l,b∈X.ex\/X.s₀.heap.get? b=none):Inv X pins σ H s:=by
 have no:∀ {b:Addr}{o:Obj},X.s₀.heap.get? b=some o->b ∉ X.ex->b ∉ l ++ X.ex:=fun {b o} e hb z=>by
  rcases ZpM.mp z with y | y
  ·rcases h b y with u | u
   ·exact hb u
   ·rw [u] at e;cases e
  ·exact hb y
 exact ⟨K,I.os,I.bare,⟨fun b o e n hb hx=>I.base.keep b o e n hb (no e hx),fun b o e n hb hx=>I.base.slot b o e n hb (no e hx),fun b o e n hx=>I.base.free b o e n (no e hx),fun b o e hx=>I.base.there b o e (no e hx),I.base.eT,I.base.d9,I.base.eZ⟩,
  I.loc,I.cell,I.free,I.bj,I.pin,I.aB,I.len⟩
theorem Inv.turn {h':Heap} (I:Inv X pins σ H s) (h:∀ b∈l,iz X pins H b)
  (keep:∀ b o,b ∉ gg X.stack->b ∉ l->s.heap.get? b=some o->h'.get? b=some o) (slot:∀ b o,b∈gg X.stack->s.heap.get? b=some o->∃ sl,h'.get? b=some { o with slots:=sl }):Inv X pins σ H { s with heap:=h' }:=by
 have I1:=I.plus h
 have st:∀ b,H b≠none->b ∉ gg X.stack/\b ∉ l:=fun b n=>⟨fun z=>n (I.fG b z),fun z=>n (h b z).1⟩
 have u:Un (gg X.stack) l H H s.heap h':=by
  refine ⟨fun b o e n hb hx=>keep b o hb hx e,fun b o e n hb hx=>slot b o hb e,fun b o e n hx=>n,fun b o e hx=>?_,fun _ _ e=>e,fun _ _ _ e=>e,fun b ps e=>⟨#[],by rw [e];simp⟩⟩
  by_cases hb:b∈gg X.stack
  ·obtain ⟨sl,q⟩:=slot b o hb e
   exact ⟨_,q⟩
  ·exact ⟨o,keep b o hb hx e⟩
 have aB:d6 X.prog X.w H h':=fun b u e1=>by
  refine (I.aB b u e1).fV (fun c v hc hv=>?_) (fun _ z=>z) fun _ _ z=>z
  have n:H c≠none:=fun z=>by
   rcases hc with y | y
   ·rw [y,e1] at z;cases z
   ·rw [y] at z;cases z
  exact keep c v (st c n).1 (st c n).2 hv
 exact Inv.minus (l:=l) (I1.call (g':=s.gens) (d':=s.drawn) (t':=s.toks) (ch:=l) u aB I.bare fun b hb=>⟨.inl (Zqb _ hb),(h b hb).2.1,(h b hb).2.2.2.2.1,(h b hb).2.2.2.2.2⟩) I.ok fun b hb=>(h b hb).2.2.2.1
structure nP (X:Cx) (pins:List (Addr × Obj)) (H:Hp) (e C T:Addr) (s:Shared):Prop where
 fe:iz X pins H e
 fT:iz X pins H T
 ne:T≠e
 exc:∃ oe vs,s.heap.get? e=some oe/\oe.cls=.ref C/\oe.data=.fields vs/\vs[1]? = some (.ref T)/\oe.dict=none
 tb:∃ oT ts,s.heap.get? T=some oT/\oT.data=.fields ts/\ts[3]? = some .none
theorem land {e C:Addr}{Q:Unit->Shared->Prop} (I:Inv X pins σ H s) (hs:X.stack=X.env :: X.outer/\X.env.frame=some X.env.locals) (fl:mF X pins H e C s)
  (q:∀ h' T,Inv X pins σ H { s with heap:=h' }->nP X pins H e C T { s with heap:=h' }->Q () { s with heap:=h' }) {E:Value->Shared->Prop} :
  wpAny (model X.prog X.w) X.A (noteFrame (.ref e) X.env) (fun _ s'=>wpAny (model X.prog X.w) X.A (setFlight (.ref e) none) Q E s') E s:=by
 obtain ⟨fe,oe,vs,old,h1,h2,h3,tr,iq,fo⟩:=fl
 have fr:X.A.frames=some (X.env :: X.outer):=by rw [I.ok.frames,hs.1]
 have ff:s.heap.FunFrames X.base (X.env :: X.outer):=by rw [<- hs.1];exact I.stack
 refine EX.lands fr ff hs.2 h1 iq h3 tr fun h' T lv=>?_
 have es:gg X.stack=(X.env :: X.outer).filterMap (·.frame):=by rw [hs.1];rfl
 have I2:Inv X pins σ H { s with heap:=h' }:=by
  refine I.turn (l:=e :: old) (fun b hb=>?_) (fun b o hb hl ho=>?_) (fun b o hb ho=>?_)
  ·rcases ZpE.mp hb with z | z
   ·rw [z];exact fe
   ·exact fo b z
  ·rw [es] at hb
   exact lv.keep b o hb (fun z=>hl (by simp [z])) (fun z=>hl (by simp [z])) ho
  ·rw [es] at hb
   exact lv.slot b o hb ho
 have gT:s.heap.get? T=none:=Heap.get?_none_of_le lv.ge
 refine q h' T I2 ⟨fe,I.kQ gT (I.aB.i3 gT),?_,?_,lv.tb⟩
 ·exact Zq2 (Zq1 (Heap.lt_size h1) lv.ge)
 ·obtain ⟨oe',vs',y1,y2,y3,y4,y5⟩:=lv.exc
  exact ⟨oe',vs',y1,y2.trans h2,y3,y4,y5⟩
theorem again {e C T:Addr}{Q:Unit->Shared->Prop}{A:Around} (I:Inv X pins σ H s) (hd:nP X pins H e C T s)
  (q:∀ h',Inv X pins σ H { s with heap:=h' }->nP X pins H e C T { s with heap:=h' }->Q () { s with heap:=h' }) {E:Value->Shared->Prop} :
  wpAny (model X.prog X.w) A (setFlight (.ref e) none) Q E s:=by
 obtain ⟨fe,fT,ne,⟨oe,vs,h1,h2,h3,h4,h5⟩,⟨oT,ts,t1,t2,t3⟩⟩:=hd
 unfold setFlight
 refine wpAny_bind (wpAny_field h1 h3 h4 ?_)
 rw [if_pos (show (Value.ref T != Value.none)=true by simp)]
 refine wpAny_setField t1 t2 (Zro.mp t3).1 ?_
 have d4:=Obj.data_mapFields t2 (·.setIfInBounds 3 ((none:Option Addr).elim Value.none fun f=>rawInt f))
 have ot:∀ b,b≠T->(s.heap.update T (Obj.mapFields (·.setIfInBounds 3 ((none:Option Addr).elim Value.none fun f=>rawInt f)))).get? b=s.heap.get? b:=fun b hb=>Heap.get?_update_other _ _ (Ne.symm hb)
 have rL:∀ b,b∈gg X.stack->b≠T:=fun b hb z=>by
  obtain ⟨_,o,ho,nf⟩:=I.stack.mem hb
  rw [z,t1] at ho;cases ho
  exact nf ts t2
 refine q _ (I.turn (l:=[T]) (fun b hb=>?_) (fun b o hb hl ho=>?_) fun b o hb ho=>?_) ⟨fe,fT,ne,⟨oe,vs,(ot e (Ne.symm ne)).trans h1,h2,h3,h4,h5⟩,⟨_,_,Heap.get?_update_self _ t1 (Obj.isFreed_of_fields d4),d4,?_⟩⟩
 ·rw [ZpQ.mp hb];exact fT
 ·exact (ot b (fun z=>hl (by simp [z]))).trans ho
 ·exact ⟨o.slots,(ot b (rL b hb)).trans ho⟩
 ·simp [(Zro.mp t3).1]
end
noncomputable def mroIn (K:ZoW) (C:Addr):List Value:=match K.lookup C with
 | some ⟨_,_,.cls cd,_⟩=>cd.mro
 | _=>[]
section
open PySem.W
theorem Nl {K:Frag}{h:Heap}{C:Addr} (X:K.In h) (q:ktsIn K C "BaseException" = true):∃ nm qn N bs bm hdct sn sub ab col dd k0 k1 k2 k3 k5 newId,
  h.get? C=some (excClassObj nm qn C N bs bm hdct sn sub ab col dd k0 k1 k2 k3 k5 newId)/\bm.contains (.type "BaseException")=true/\mroIn K C=.ref C :: bm:=by
 obtain ⟨nm,qn,N,bs,bm,hdct,sn,sub,ab,col,dd,k0,k1,k2,k3,k5,newId,hC,hb,_⟩:=kts_cls X q
 refine ⟨nm,qn,N,bs,bm,hdct,sn,sub,ab,col,dd,k0,k1,k2,k3,k5,newId,hC,hb,?_⟩
 cases hl:K.lookup C with
 | none=>unfold ktsIn at q;rw [hl] at q;cases q
 | some ob =>
  have:=X _ _ hl
  rw [hC] at this
  cases this
  unfold mroIn
  rw [hl]
end
theorem KW {M:Model}{A:Around}{E:Value->Shared->Prop}{h:Heap}{g:Array GenState}{d:Drawn}{t:Nat}{os:OsState}{e C D:Addr}{oe:Obj}{K:ZoW}{Q:Bool->Shared->Prop} (X:K.In h)
  (qC:Zo4 K C "BaseException" = true) (qD:Zo4 K D "BaseException" = true) (he:h.get? e=some oe) (rM:oe.cls=.ref C) (hq:Q ((mroIn K C).contains (.ref D)) ⟨h,g,d,t,os⟩) :
  wpAny M A (excMatches (.ref e) (.ref D)) Q E ⟨h,g,d,t,os⟩:=by
 obtain ⟨nm,qn,N,bs,bm,hdct,sn,sub,ab,col,dd,k0,k1,k2,k3,k5,newId,hC,hbC,mC⟩:=Nl X qC
 obtain ⟨nm',qn',N',bs',bm',hdct',sn',sub',ab',col',dd',k0',k1',k2',k3',k5',newId',hD,hbD,mD⟩:=Nl X qD
 have Q7:(Value.ref D :: bm').contains (.type "BaseException")=true:=by rw [List.contains_cons,hbD,Bool.or_true]
 have f:=tc_notTuple
 rw [mC] at hq
 unfold excMatches
 repeat (first | (with_reducible refine wpAny_loadPart_at he ?_;rw [rM]) | with_reducible refine wpAny_loadPart_at hD ?_ | (with_reducible refine wpAny_isSubtype_exc hD ?_;rw [Q7]) | with_reducible refine wpAny_isSubtype_exc hC ?_ | wp_step)
 all_goals (cases hb:(Value.ref C :: bm).contains (.ref D) <;> (rw [hb] at hq;wp_walk;exact hq))
noncomputable def Cx.mk' (X:Cx) (e:Addr):Cx:={ X with A:=X.A.mark (some (.ref e)),calm:=false,xe:=fun _ _=>False }
noncomputable def Cx.tr (X:Cx) (pins:List (Addr × Obj)) (Ex:St->XK):Cx :=
 { X with pn:=X.pn ++ pins,xe:=fun er s=>∃ σ e C H,er=.ref e/\Inv X pins σ H s/\mF X pins H e C s/\Ex σ (.ref e) (some C) H }
section
variable {X:Cx}{pins:List (Addr × Obj)}{σ:St}{H:Hp}{s:Shared}{e C T:Addr}{D:Ends}{f:Flow}{Ex:St->XK}
theorem Inv.mk' (I:Inv X pins σ H s) (e:Addr):Inv (X.mk' e) pins σ H s :=
 ⟨⟨I.ok.mod,I.ok.kind,I.ok.glob,I.ok.blt,I.ok.above,I.ok.inj,I.ok.has,I.ok.kW,fun h=>Bool.noConfusion h,I.ok.frames,I.ok.lS,I.ok.nK,I.ok.bs,I.ok.iO,I.ok.fz,I.ok.fL,I.ok.cu,I.ok.jB⟩,I.os,I.bare,I.base,I.loc,I.cell,I.free,I.bj,I.pin,I.aB,I.len⟩
theorem Inv.j4 (I:Inv (X.mk' e) pins σ H s) (K:X.Ok):Inv X pins σ H s:=⟨K,I.os,I.bare,I.base,I.loc,I.cell,I.free,I.bj,I.pin,I.aB,I.len⟩
theorem Inv.tr (I:Inv X pins σ H s) (Ex:St->XK):Inv (X.tr pins Ex) [] σ H s :=
 ⟨⟨I.ok.mod,I.ok.kind,I.ok.glob,I.ok.blt,I.ok.above,I.ok.inj,I.ok.has,I.ok.kW,I.ok.hd,I.ok.frames,I.ok.lS,I.ok.nK,I.ok.bs,I.ok.iO,I.ok.fz,I.ok.fL,I.ok.cu,I.ok.jB⟩,I.os,I.bare,I.base,I.loc,I.cell,I.free,I.bj,fun p hp=>I.pin p (by rw [Zp4] at hp;exact hp),I.aB,I.len⟩
theorem Inv.iX {gw:List (Addr × Obj)} (I:Inv (X.tr pins Ex) gw σ H s):Inv X pins σ H s :=
 ⟨⟨I.ok.mod,I.ok.kind,I.ok.glob,I.ok.blt,I.ok.above,I.ok.inj,I.ok.has,I.ok.kW,I.ok.hd,I.ok.frames,I.ok.lS,I.ok.nK,I.ok.bs,I.ok.iO,I.ok.fz,I.ok.fL,I.ok.cu,I.ok.jB⟩,I.os,I.bare,I.base,I.loc,I.cell,I.free,I.bj,fun p hp=>I.pin p (Zqb _ hp),I.aB,I.len⟩
theorem mF.iX {gw:List (Addr × Obj)} (F:mF (X.tr pins Ex) gw H e C s):mF X pins H e C s:=by
 have up:∀ {b},iz (X.tr pins Ex) gw H b->iz X pins H b:=fun {b} h=>⟨h.1,h.2.1,h.2.2.1,h.2.2.2.1,h.2.2.2.2.1,fun p hp=>h.2.2.2.2.2 p (Zqb _ hp)⟩
 obtain ⟨oe,vs,old,h1,h2,h3,h4,h6,h5⟩:=F.obj
 exact ⟨up F.fe,oe,vs,old,h1,h2,h3,h4,h6,fun b hb=>up (h5 b hb)⟩
noncomputable def oa (X:Cx) (Ex:St->XK):Prop:=∀ (pins:List (Addr × Obj)) (σ:St) (H:Hp) (s:Shared) (e C:Addr),Inv X pins σ H s->mF X pins H e C s->Ex σ (.ref e) (some C) H->X.xe (.ref e) s
theorem rN:oa (X.tr pins Ex) Ex:=fun gw σ H s e C I fl q=>⟨σ,e,C,H,rfl,I.iX,fl.iX,q⟩
theorem vC.toS {E:XK} (h:vC X E):oa X fun _=>E:=fun pins σ H s e C I fl q=>h pins σ H s e C I fl q
theorem SP.j4 (h:SP (X.mk' e) pins D f s) (K:X.Ok):SP X pins D f s:=by
 cases f with
 | ret u=>obtain ⟨v,σ',H',I,r,q⟩:=h;exact ⟨v,σ',H',I.j4 K,r,q⟩
 | next=>obtain ⟨σ',H',I,q⟩:=h;exact ⟨σ',H',I.j4 K,q⟩
 | brk=>obtain ⟨σ',H',I,q⟩:=h;exact ⟨σ',H',I.j4 K,q⟩
 | cont=>obtain ⟨σ',H',I,q⟩:=h;exact ⟨σ',H',I.j4 K,q⟩
theorem SP.iX (h:SP (X.tr pins Ex) [] D f s):SP X pins D f s:=by
 cases f with
 | ret u=>obtain ⟨v,σ',H',I,r,q⟩:=h;exact ⟨v,σ',H',I.iX,r,q⟩
 | next=>obtain ⟨σ',H',I,q⟩:=h;exact ⟨σ',H',I.iX,q⟩
 | brk=>obtain ⟨σ',H',I,q⟩:=h;exact ⟨σ',H',I.iX,q⟩
 | cont=>obtain ⟨σ',H',I,q⟩:=h;exact ⟨σ',H',I.iX,q⟩
end
noncomputable def PH (X:Cx) (hs:List ExceptHandler) (hd:Addr->Addr->TS):Prop :=
 ∀ (pins:List (Addr × Obj)) (s:Shared) (σ:St) (H:Hp) (D:Ends) (e C T:Addr),Inv X pins σ H s->nP X pins H e C T s->hd e C D σ H->wpAny (model X.prog X.w) X.A (handleBy (.ref e) X.env hs) (SP X pins D) X.xe s
noncomputable def uh:Addr->Addr->TS:=fun _ _ _ _ _=>False
noncomputable def vS (K:ZoW) (Dc:Addr) (su bD:Addr->Addr->TS):Addr->Addr->TS:=fun e C D σ H =>
 Zo4 K C "BaseException" = true/\if (mroIn K C).contains (.ref Dc) then su e C D σ H else bD e C D σ H
section
variable {X:Cx}{x:Str}{np pos:Pos}{Dc:Addr}{b₀:Stmt}{body:List Stmt}{bD:List ExceptHandler}{hd:Addr->Addr->TS}{ts:TS}
theorem rP:PH X [] uh:=fun _ _ _ _ _ _ _ _ _ _ h=>h.elim
theorem OX (q:Zo4 X.K Dc "BaseException" = true) (hg:Gl X x) (hm:X.mg x=some (.ref Dc)) (hb:∀ e,gy (X.mk' e) (b₀ :: body) ts) (hr:PH X bD hd) (iZ:(x == ("__debug__" : Str))=false:=by decide) :
  PH X (.ExceptHandler (some (.Name x np)) none (b₀ :: body) pos :: bD) (vS X.K Dc (fun _ _=>ts) hd):=by
 intro pins s σ H D e C T I hl h
 obtain ⟨qC,h⟩:=h
 refine wpAny_handleBy_cons (codeAny_handlers_test ?_) (by intro z;cases z)
 refine pO (X:=X.mk' e) (I.mk' e) hg hm ?_ iZ
 obtain ⟨oe,vs,h1,h2,h3,h4,h5⟩:=hl.exc
 obtain ⟨hp,g,d,t,os⟩:=s
 refine KW I.en qC q h1 h2 ?_
 cases hc:(mroIn X.K C).contains (.ref Dc) with
 | false =>
  rw [hc] at h
  exact hr pins _ σ H D e C T I hl h
 | true =>
  rw [hc] at h
  refine codeAny_handlers_suite (again (A:=X.A.mark (some (.ref e))) I hl fun h' I2 og=>?_)
  exact wpAny_mono (hb e pins _ σ H D (I2.mk' e) h) (fun f s2 z=>z.j4 I.ok) fun _ _ z=>z.elim
noncomputable def qf (tb:(St->XK)->TS) (hd:Addr->Addr->TS):TS:=fun D σ H=>tb (fun σ' er oc H'=>∃ e C,er=.ref e/\oc=some C/\hd e C D σ' H') D σ H
theorem sk {b:List Stmt}{h₀:ExceptHandler}{hs:List ExceptHandler}{tb:(St->XK)->TS} (st:X.stack=X.env :: X.outer/\X.env.frame=some X.env.locals) (hb:∀ pins Ex,gy (X.tr pins Ex) b (tb Ex)) (hh:PH X (h₀ :: hs) hd):PS X (.Try b (h₀ :: hs) [] [] pos) (qf tb hd):=by
 intro pins s σ H D I h
 refine wpAny_Try_except (wpAny_mono (hb pins _ [] s σ H D (I.tr _) h) (fun f s2 z=>?_) fun er s2 z=>?_)
 ·have z':=SP.iX z
  cases f with
  | next=>exact wpAny_pure z'
  | ret u=>exact z'
  | brk=>exact z'
  | cont=>exact z'
 ·obtain ⟨σ',e,C,H',rfl,I2,fl,e2,C2,r1,r2,q⟩:=z
  cases r1;cases r2
  exact land I2 st fl fun h' T I3 hl=>hh pins _ σ' H' D e C T I3 hl q
end
noncomputable def F8 (sp:Sp) (d5:List V) (Ex:St->XK) (t:TA):TE:=fun σ H Q=>t σ H fun vs H1=>sp (vs ++ d5) H1 Q (Ex σ)
section
variable {X:Cx}{k:Nat}{f C:Addr}{fd:FuncData}{ps:List Str}{sp:Sp}{d5:List V}{ds:List Value}{Ex:St->XK}{x m:Str}{p pos apos:Pos}{e o:Expr}{es:List Expr}{ta:TE}{t:TA}
theorem Oo {pins:List (Addr × Obj)}{σ:St}{H:Hp}{s:Shared}{Q:VK}{us:List Value}{vs:List V} (hx:oa X Ex) (F:aJ X.prog X.w X.K X.mg X.base (eB X.prog X.w) k f fd ps sp) (hr:aX k X.A) (hb:kq X.K fd ps ds) (hd:Vals d5 ds)
  (I:Inv X pins σ H s) (r:Vals vs us) (h:sp (vs ++ d5) H Q (Ex σ)):wpAny (model X.prog X.w) X.A (call (.ref f) us) (EP X pins σ Q) X.xe s:=by
 have all:=r.append hd
 have n1:=all.length
 rw [F.len _ _ _ _ h] at n1
 apply wpAny_call
 apply codeAny_mono (F.run X.A X.stack s H ⟨us,[]⟩ (us ++ ds) (vs ++ d5) Q (Ex σ) hr I.oK (hb s us I.en n1.symm) all h)
 intro res s2 q
 match res,q with
 | .ok (.ret u),q=>exact I.after q
 | .error er,q =>
  obtain ⟨e,C,H2,hr,I2,fl,q2⟩:=LU I q
  rw [hr]
  exact hx pins σ H2 s2 e C I2 fl q2
theorem OA (hx:oa X Ex) (F:aJ X.prog X.w X.K X.mg X.base (eB X.prog X.w) k f fd ps sp) (hr:aX k X.A) (hg:Gl X x) (hm:X.mg x=some (.ref f)) (hk:Zo5 X.K (.ref f)=true) (hb:kq X.K fd ps ds) (hd:Vals d5 ds)
  (ha:PA X (e :: es) t) (iZ:(x == ("__debug__" : Str))=false:=by decide) (he:starEach (e :: es) X.env=(false,eval e X.env) :: starEach es X.env:=by rfl) (gx:(backTo pos (starEach es X.env)).any (·.1)=false:=by rfl) :
  PE X (.Call (.Name x p) (e :: es) [] pos) (F8 sp d5 Ex t):=fun pins s σ H Q I h =>
 wpAny_Call_Name_kw (pO I hg hm (Zpe I.mod.o9 hk (aE (ha pos pins s σ H _ I h) fun us s2 ⟨vs,H2,I2,r2,q2⟩=>⟨I2.en,Oo hx F hr hb hd I2 r2 q2⟩) he gx) iZ)
end
noncomputable def EG (a C:Addr):Heap->Prop:=fun h=>∃ o vs,h.get? a=some o/\o.cls=.ref C/\o.data=.fields vs/\o.dict=none
noncomputable def xo (a C:Addr):HO:=.ext (EG a C)
section
variable {X:Cx}{pins:List (Addr × Obj)}{σ:St}{H:Hp}{s:Shared}{e C T:Addr}
theorem Inv.seen {oe:Obj} (I:Inv X pins σ H s) (fe:iz X pins H e) (ho:s.heap.get? e=some oe) (hc:oe.cls=.ref C) {vs:Array Value} (hf:oe.data=.fields vs) (iq:oe.dict=none):Inv X pins σ (upd H e (xo e C)) s:=by
 have ne:∀ {b u},H b=some u->b≠e:=fun {b u} h z=>by rw [z,fe.1] at h;cases h
 have up:∀ {b u},H b=some u->upd H e (xo e C) b=some u:=fun {b u} h=>(bo (ne h)).trans h
 refine ⟨I.ok,I.os,I.bare,⟨I.base.keep,I.base.slot,fun b o e1 n hx=>?_,I.base.there,fun b xs h=>up (I.base.eT b xs h),fun b o u h=>up (I.base.d9 b o u h),fun b ps h=>?_⟩,I.loc,I.cell,(bo (Ne.symm fe.2.1)).trans I.free,fun x c h=>(bo (fe.2.2.2.2.1 x c h)).trans (I.bj x c h),fun p hp=>?_,fun b u h=>?_,I.len⟩
 ·refine (bo fun z=>?_).trans (I.base.free b o e1 n hx)
  rcases fe.2.2.2.1 with y | y
  ·exact hx (z ▸ y)
  ·rw [z,y] at e1;cases e1
 ·obtain ⟨more,q⟩:=I.base.eZ b ps h
  exact ⟨more,up q⟩
 ·obtain ⟨a1,a2,a3⟩:=I.pin p hp
  exact ⟨a1,(bo (fe.2.2.2.2.2 p hp)).trans a2,a3⟩
 ·by_cases hb:b=e
  ·rw [hb,cq] at h
   cases h
   rw [hb]
   exact ⟨⟨oe,vs,ho,hc,hf,iq⟩,⟨oe,ho⟩,fun h1 h2 ⟨o,vs,p1,p2⟩ k=>⟨o,vs,k o p1,p2⟩⟩
  ·rw [bo hb] at h
   exact (I.aB b u h).fV (fun c v _ q=>q) (fun c q=>up q) fun c xs q=>up q
theorem Qw {M:Model}{A:Around}{E:Value->Shared->Prop}{i:Nat}{n:Str}{v:V}{Q:Unit->Shared->Prop} (I:Inv X pins σ H s) (hN:X.N.Nodup) (hi:X.N[i]? = some n) (hk:X.env.scope.names.lookup n=some .local) (hv:σ[i]? = some (some v))
  (h:∀ s',Inv X pins (σ.set i none) H s'->Q () s'):wpAny M A (unbindName X.env n) Q E s:=by
 obtain ⟨m,hn,hl⟩:=id I.loc
 obtain ⟨u,_,lk⟩:=hl i n v hi hv (.inl hk)
 have hm:m n=some u:=by
  rcases lk with z | ⟨z,_⟩
  ·exact z.2
  ·rw [show X.env.kindOf n=some .local from hk] at z
   rcases z with z | z <;> cases z
 refine wpAny_unbindName_local hk hn hm (by rw [I.ok.kind];rfl) fun h' u' hn' hs=>?_
 have old:∀ {b o},X.s₀.heap.get? b=some o->h'.get? b=s.heap.get? b:=fun {b o} e=>hs.2 b (ZqZ (Zq1 (Heap.lt_size e) I.ok.above))
 refine h _ ⟨I.ok,I.os,I.bare,⟨fun b o e n hb hx=>(old e).trans (I.base.keep b o e n hb hx),fun b o e n hb hx=>?_,I.base.free,fun b o e hx=>?_,I.base.eT,I.base.d9,I.base.eZ⟩,⟨_,hn',fun j y w e1 e2 e3=>?_⟩,fun y c e=>?_,I.free,I.bj,fun p hp=>?_,fun b ob e=>?_,by simpa using I.len⟩
 ·rw [show h'.get? b=s.heap.get? b from old e];exact I.base.slot b o e n hb hx
 ·rw [show h'.get? b=s.heap.get? b from old e];exact I.base.there b o e hx
 ·have hj:j≠i:=fun z=>by
   rw [z] at e2
   have hz:i<σ.length:=by rw [I.len];exact (ZpL.mp hi).1
   rw [Zqn hz] at e2
   cases e2
  rw [ZqJ (Ne.symm hj)] at e2
  obtain ⟨u2,r2,q⟩:=hl j y w e1 e2 e3
  refine ⟨u2,r2,?_⟩
  rcases q with ⟨k,z⟩ | ⟨k,c,z1,z2⟩
  ·refine .inl ⟨k,?_⟩
   have ny:y≠n:=fun z=>hj (D2 hN e1 (z ▸ hi))
   simp only [ny,if_false,z]
  ·exact .inr ⟨k,c,z1,z2.sameBut hs (I.nQ y c z1)⟩
 ·obtain ⟨w,z⟩:=I.cell y c e
  exact ⟨w,z.sameBut hs (I.nQ y c e)⟩
 ·obtain ⟨a1,a2,a3,a4⟩:=I.pin p hp
  exact ⟨(hs.2 p.1 a3).trans a1,a2,a3,a4⟩
 ·refine (I.aB b ob e).fV (fun c v hc hv=>(hs.2 c fun z=>?_).trans hv) (fun _ q=>q) fun _ _ q=>q
  have fr:=I.free
  rw [<- z] at fr
  rcases hc with y | y
  ·rw [<- y,fr] at e;cases e
  ·rw [fr] at y;cases y
theorem NQ {prog:Program}{w:World}{A:Around}{s:Shared}{env:Env}{R:Result->Shared->Prop}{e:Value}{n:Str}{b₀:Stmt}{body:List Stmt}{pos:Pos}
  (h:wpAny (model prog w) A (setFlight e none) (fun _ s₁=>wpAny (model prog w) A (storeName env n e) (fun _ s₂=>wpAny (model prog w) A (execs (b₀ :: body) env) (fun f s₃=>R (.ok f) s₃) (fun _ _=>False) s₂) (fun _ _=>False) s₁) (fun _ _=>False) s) :
  codeAny (model prog w) A (.handlers e [.ExceptHandler none (some n) (b₀ :: body) pos] env) R s:=by
 refine codeAny_of_tree ?_
 show wpAny _ A (do return Fin.done (<- (handleWith e env [.ExceptHandler none (some n) (b₀ :: body) pos]).onRaise (fun x=>do noteFrame x env;theTreesLotGoes x))) _ _ s
 refine wpAny_bind (wpAny_noted ?_)
 unfold handleWith
 refine wpAny_bind (wpAny_standAt (wpAny_bind (wpAny_mono h (fun _ s1 h1=>?_) fun _ _ z=>z.elim)))
 refine wpAny_bind (wpAny_bindName (wpAny_mono h1 (fun _ s2 h2=>?_) fun _ _ z=>z.elim))
 exact wpAny_bind (wpAny_attempt (wpAny_mono h2 (fun f s3 h3=>wpAny_pure (wpAny_pure h3)) fun _ _ z=>z.elim))
end
noncomputable def Co (i:Nat) (ts:TS):Addr->Addr->TS:=fun e C D σ H =>
 ts { nx:=fun σ' H'=>D.nx (σ'.set i none) H',rt:=D.rt,bk:=fun σ' H'=>D.bk (σ'.set i none) H',ct:=fun σ' H'=>D.ct (σ'.set i none) H' } (σ.set i (some (.ref e))) (upd H e (xo e C))
theorem pJ {X:Cx}{i:Nat}{x n:Str}{np pos:Pos}{Dc:Addr}{b₀:Stmt}{body:List Stmt}{bD:List ExceptHandler}{hd:Addr->Addr->TS}{ts:TS} (q:Zo4 X.K Dc "BaseException" = true) (hg:Gl X x) (hm:X.mg x=some (.ref Dc))
  (hN:X.N.Nodup) (hi:X.N[i]? = some n) (hk:X.env.scope.names.lookup n=some .local) (hb:∀ e,gy (X.mk' e) (b₀ :: body) ts) (hr:PH X bD hd) (iZ:(x == ("__debug__" : Str))=false:=by decide) :
  PH X (.ExceptHandler (some (.Name x np)) (some n) (b₀ :: body) pos :: bD) (vS X.K Dc (Co i ts) hd):=by
 intro pins s σ H D e C T I hl h
 obtain ⟨qC,h⟩:=h
 refine wpAny_handleBy_cons (codeAny_handlers_test ?_) (by intro z;cases z)
 refine pO (X:=X.mk' e) (I.mk' e) hg hm ?_ iZ
 obtain ⟨oe,vs,h1,h2,h3,h4,h5⟩:=hl.exc
 obtain ⟨hp,g,d,t,os⟩:=s
 refine KW I.en qC q h1 h2 ?_
 cases hc:(mroIn X.K C).contains (.ref Dc) with
 | false =>
  rw [hc] at h
  exact hr pins _ σ H D e C T I hl h
 | true =>
  rw [hc] at h
  refine NQ (again (A:=X.A.mark (some (.ref e))) I hl fun h' I2 og=>?_)
  obtain ⟨oe2,vs2,g1,g2,g3,g4,g5⟩:=og.exc
  have I3:=I2.seen og.fe g1 g2 g3 g5
  refine Ce (i:=i) I3 hN hi (.inl hk) (v:=.ref e) rfl (fun s4 I4=>?_) (.inr hk)
  refine wpAny_mono (hb e pins _ _ _ _ (I4.mk' e) h) (fun f s5 z=>?_) fun _ _ z=>z.elim
  have fin:∀ {σ' H'}{Q:Flow->Shared->Prop},Inv X pins σ' H' s5->(∀ s',Inv X pins (σ'.set i none) H' s'->Q f s')->wpAny (model X.prog X.w) X.A (do bindName X.env n .none;unbindBehindTheSuite X.env n pos) (fun _ s'=>Q f s') X.xe s5:=fun {σ' H' Q} I5 k=>by
   refine wpAny_bind (wpAny_bindName (Ce (i:=i) I5 hN hi (.inl hk) (v:=.non) rfl (fun s6 I6=>?_) (.inr hk)))
   unfold unbindBehindTheSuite
   have hz:i<σ'.length:=by rw [I5.len];exact (ZpL.mp hi).1
   refine wpAny_onRaise (Qw (i:=i) (v:=.non) I6 hN hi hk (Zqn hz) fun s7 I7=>k s7 ?_)
   rw [List.set_set] at I7
   exact I7
  have z':=SP.j4 z I.ok
  cases f with
  | next=>obtain ⟨σ',H',I5,q5⟩:=z';exact fin I5 fun s' I'=>⟨_,H',I',q5⟩
  | brk=>obtain ⟨σ',H',I5,q5⟩:=z';exact fin I5 fun s' I'=>⟨_,H',I',q5⟩
  | cont=>obtain ⟨σ',H',I5,q5⟩:=z';exact fin I5 fun s' I'=>⟨_,H',I',q5⟩
  | ret u=>obtain ⟨v,σ',H',I5,r5,q5⟩:=z';exact fin I5 fun s' I'=>⟨v,_,H',I',r5,q5⟩
noncomputable def nJ (K:ZoW) (C:Addr):Bool :=
 (PySem.W.clsIn K C).isSome && Zo0 K (.ref C) "__getattribute__" == some (some (.builtin "BaseException.__getattribute__")) && Zo0 K (.ref C) "__getattr__" == some none
 && Zo0 K (.ref C) "__class__" == some (some (.builtin "object.__class__")) && Zpk K (.builtin "object.__class__") "__get__" == some (some (.builtin "getset_descriptor.__get__"))
 && PySem.W.takesIn K (.builtin "object.__class__") == some true && Zpl K C (.type "object") == some true && Zpl K C (.type "BaseException") == some true
section
open PySem.W PySem.Calls
variable {prog:Program}{w:World}{A:Around}{E:Value->Shared->Prop}{s:Shared}{K:Frag}{a C:Addr}
theorem Oq {Q:Option Value->Shared->Prop} (q:nJ K C=true) (X:K.In s.heap) (p:EG a C s.heap) (k:Q (some (.ref C)) { s with toks:=s.toks+1 }):wpAny (model prog w) A (getAttr? (.ref a) "__class__") Q E s:=by
 unfold nJ at q
 simp only [Zrt,beq_iff_eq] at q
 obtain ⟨⟨⟨⟨⟨⟨⟨hc,hga⟩,hgt⟩,ha⟩,hn⟩,B9⟩,hm⟩,hb⟩:=q
 obtain ⟨o,vs,h1,h2,h3,h4⟩:=p
 have I:InstAt s.heap a o C none:=⟨h1,h2,by unfold notCls;rw [h3],by rw [h4];trivial⟩
 have hf:findObj K C none "__class__" = some (.bind (.builtin "getset_descriptor.__get__") (.builtin "object.__class__")):=by
  obtain ⟨cd,gm⟩:=Option.isSome_iff_exists.mp hc
  unfold findObj
  rw [gm,Option.bind_some,ha,Option.bind_some]
  simp [hn,B9]
 obtain ⟨hh,g,d,t,os⟩:=s
 have L0:=I.type (M:=model prog w)
 have L1:=looks_findIn (M:=model prog w) X hga
 have L2:=looks_findIn (M:=model prog w) X hgt
 have L3:=looks_find (M:=model prog w) X I hf
 have L4:=looks_mroIn (M:=model prog w) X hb
 have f3:=F.attr_ValueError.ga.bind (.ref a)
 unfold getAttr? getAttrBy? getAttrBy
 refine wpAny_bind (wpAny_mkText (wpAny_bind (wpAny_attempt (wpAny_holding (wpAny_bind (L0.at (wpAny_bind (L1.at ?_))))))))
 show wpAny _ _ (if (onTheHeap (.ref C) && Value.builtin "BaseException.__getattribute__" == Value.builtin "object.__getattribute__")=true then _ else getAttrByItsOwn _ _ _ _ _ _) _ _ _
 have n1:(Value.builtin "BaseException.__getattribute__" == Value.builtin "object.__getattribute__")=false:=by decide +kernel
 rw [n1,Bool.and_false,if_neg (by decide)]
 unfold getAttrByItsOwn hookBefore
 rw [if_pos (show onTheHeap (.ref C)=true from rfl)]
 refine wpAny_bind (L2.at (wpAny_bind (wpAny_attempt (wpAny_holding ?_))))
 unfold callGetattribute
 rw [if_neg (by decide)]
 unfold boundAndCalled
 rw [f3]
 refine wpAny_bind (wpAny_pure ?_)
 show wpAny _ _ (call (.builtin "BaseException.__getattribute__") [.ref a,.str "__class__" t]) _ _ _
 refine wpAny_call (codeAny_call_builtin F.attr_ValueError.ga.plain F.entry_bexc_ga ?_)
 have hk:builtinKind "BaseException.__getattribute__" = some .slot:=by decide +kernel
 have um:splitId "BaseException.__getattribute__" = some ("BaseException","__getattribute__"):=by decide +kernel
 have U5:=F.args_bexc_ga (.ref a) (.str "__class__" t)
 simp only [checkBuiltinCall,hk,um]
 refine wpAny_bind ?_
 unfold isInstance
 refine wpAny_bind (L0.at (L4.at ?_))
 simp only [Bool.not_true,Zrw,if_false]
 have UK:∀ {Q':Unit->Shared->Prop}{E':Value->Shared->Prop}{A':Around}{s':Shared},Q' () s'->wpAny (model prog w) A' (match Manifest.signature? "BaseException.__getattribute__" with
   | some sig=>Bind.checkArgs "BaseException.__getattribute__" sig { pos:=[Value.ref a,Value.str (Str.ofString "__class__") t] }
   | x=>pure ()) Q' E' s':=fun {Q' E' A' s'} q=>by
  repeat (first | assumption | wp_step)
 refine UK ?_
 unfold Builtin.«object.__getattribute__»
 refine wpAny_bind (wpAny_pure ?_)
 refine wpAny_bind (wpAny_pure ?_)
 refine wpAny_bind (L0.at (wpAny_bind (L3.at ?_)))
 show wpAny _ _ (holding [Value.builtin "object.__class__"] (call (.builtin "getset_descriptor.__get__") [.builtin "object.__class__",.ref a,.ref C]) >>= ret) _ _ _
 refine wpAny_bind (wpAny_holding (wpAny_call (class_get (s:=⟨hh,g,d,t+1,os⟩) (od:=none) X I hm (wpAny_pure ?_))))
 exact handed_on rfl (wpAny_pure k)
theorem EE (q:nJ K C=true):KitX K (.ref a) (.ref C) (EG a C):=by
 have hc:(clsIn K C).isSome=true:=by
  unfold nJ at q
  simp only [Zrt] at q
  exact q.1.1.1.1.1.1.1
 obtain ⟨cd,gm⟩:=Option.isSome_iff_exists.mp hc
 unfold clsIn at gm
 split at gm
 next c' d' cd' sl' ho =>
  refine ⟨fun M h _ p=>?_,fun M h X _=>?_,fun h tp dd its n sl X htp=>?_,fun {_ _ _ _ _ _} X p k=>Oq q X p k⟩
  ·obtain ⟨o,vs,h1,h2,_⟩:=p
   rw [<- h2]
   exact (Looks.ld h1).andThen .now
  ·intro A' Q' E' s' k z
   unfold isType loadHead
   exact wpAny_bind (wpAny_loadPart (k _ _ (X _ _ ho)) (wpAny_pure z))
  ·refine Zry.mpr fun z=>?_
   cases Value.ref.inj (beq_iff_eq.mp z)
   have:=X _ _ ho
   rw [htp] at this
   cases this
 next=>cases gm
end
noncomputable def kF (K:ZoW):List V->Hp->VK->Prop:=fun vs H Q=>match vs with
 | [.ref a,.ty T]=>∃ C b,H a=some (xo a C)/\nJ K C=true/\ZoX K (.ref C) (.type T)=some b/\Q (.bl b) H
 | [.ref a,.ref D]=>∃ C b,H a=some (xo a C)/\nJ K C=true/\(ZoX K (.ref C) (.ref D)=some b\/∃ cs:List Addr,H D=some (.tup (cs.map V.ref))/\Zpo K (.ref C) (cs.map Value.ref)=some b)/\Q (.bl b) H
 | _=>False
theorem LY:∀ {cs:List Addr}{us:List Value},Vals (cs.map V.ref) us->us=cs.map Value.ref
 | [],_,.nil=>rfl
 | c :: cs,_,.cons r t=>by
  rw [show _=Value.ref c from r,LY t]
  rfl
theorem Cm {X:Cx}:gI X (.builtin "isinstance") (kF X.K):=by
 intro pins s σ H xs us Q I r h
 match xs,h with
 | [.ref a,.ty T],h =>
  obtain ⟨C,b,h1,h2,h3,h4⟩:=h
  obtain ⟨u,w',rfl,r1,r2⟩:=sL r
  cases r1;cases r2
  exact Zo3 (EE h2) I.en (show dA X.prog X.w H s.heap a (xo a C) from I.aB a _ h1).1 h3 (fun z=>nomatch z) fun tk=>⟨.bl b,H,I.tok tk,rfl,h4⟩
 | [.ref a,.ref D],h =>
  obtain ⟨C,b,h1,h2,h3,h4⟩:=h
  obtain ⟨u,w',rfl,r1,r2⟩:=sL r
  cases r1;cases r2
  have p:=(show dA X.prog X.w H s.heap a (xo a C) from I.aB a _ h1).1
  rcases h3 with h3 | ⟨cs,h5,h3⟩
  ·exact Zo3 (EE h2) I.en p h3 (fun z=>nomatch z) fun tk=>⟨.bl b,H,I.tok tk,rfl,h4⟩
  ·obtain ⟨_,its,rv,ob,t1,t2,n,t3⟩:=(show dA X.prog X.w H s.heap D (.tup (cs.map V.ref)) from I.aB D _ h5)
   obtain ⟨c0,dd,dt,sl⟩:=ob
   cases (show c0=_ from t2)
   cases (show dt=_ from t3)
   rw [LY rv] at t1
   exact PySem.W.kia_tup (EE h2) I.en p t1 h3 (fun z=>nomatch z) fun tk=>⟨.bl b,H,I.tok tk,rfl,h4⟩
structure cU (k:Nat) (A:Around):Prop where
 dp:A.depth+3 * k+5<recursionLimit
 un:A.units+16 * k+200<cLine
theorem aX.m {k:Nat}{A:Around} (r:aX k A):cU k A:=⟨r.dp,r.un⟩
theorem cU.mark {k:Nat}{A:Around} (r:cU k A) (v:Option Value):cU k (A.mark v):=⟨r.dp,r.un⟩
theorem cU.deeper {k:Nat}{A:Around} (r:cU (k+1) A) (env:Env):cU k (A.deeper env) :=
 ⟨by have:=r.dp;show A.depth+1+3 * k+5<_;omega,by have:=r.un;show A.units+3+16 * k+200<_;omega⟩
structure jv (P:Program) (w:World) (K:ZoW) (mg:Str->Option Value) (base:Heap) (CX:jq) (k:Nat) (f:Addr) (fd:FuncData) (ps:List Str) (sp:Sp):Prop where
 len:∀ vs H Q E,sp vs H Q E->vs.length=ps.length
 run:∀ (A:Around) (outer:List Env) (s:Shared) (H:Hp) (args:Args) (us:List Value) (vs:List V) (Q:VK) (E:XK),cU k A->gC P w K mg base A outer s H->BindsTo s fd args (ps.zip us)->Vals vs us->sp vs H Q E ->
  codeAny (model P w) A (.call (.ref f) args) (CR CX outer P w H s Q E) s
noncomputable def CB (CX:jq) (P:Program) (w:World) (K:ZoW) (mg:Str->Option Value) (base:Heap) (N:List Str) (qual:Str) (scope:Scope) (f:Addr) (cd:Value) (A:Around) (outer:List Env) (s:Shared) (H:Hp) (E:XK):Cx :=
 { iJ CX P w K mg base N qual scope f cd A outer s H E with calm:=false }
theorem Inv.mK {X:Cx}{pins:List (Addr × Obj)}{σ:St}{H:Hp}{s:Shared} (I:Inv X pins σ H s) (A':Around) (QY:Value->Shared->Prop) (hf:A'.frames=X.A.frames):Inv { X with A:=A',calm:=false,xe:=QY } pins σ H s :=
 ⟨⟨I.ok.mod,I.ok.kind,I.ok.glob,I.ok.blt,I.ok.above,I.ok.inj,I.ok.has,I.ok.kW,fun h=>Bool.noConfusion h,hf.trans I.ok.frames,I.ok.lS,I.ok.nK,I.ok.bs,I.ok.iO,I.ok.fz,I.ok.fL,I.ok.cu,I.ok.jB⟩,I.os,I.bare,I.base,I.loc,I.cell,I.free,I.bj,I.pin,I.aB,I.len⟩
theorem tS {CX:jq}{P:Program}{w:World}{K:ZoW}{mg:Str->Option Value}{base:Heap}{k:Nat}{f:Addr}{name qual:Str}{params:Arguments}{body:List Stmt}{scope:Scope}{dV kV doc pm aG ct oc:Value}{an od:Option Addr}
  {jw:Array (Option Value)}{N ps:List Str}{sp:Sp} (lk:K.lookup f=some ⟨oc,od,.func (Zo2 name qual params body scope dV kV doc pm an aG ct),jw⟩) (gm:Zo8 K aG qual=true) (S:aj N ps scope)
  (len:∀ vs H Q E,sp vs H Q E->vs.length=ps.length)
  (fK:∀ (A:Around) (outer:List Env) (s:Shared) (H:Hp) (vs:List V) (Q:VK) (E:XK),cU k (A.deeper (envOfC qual scope s.heap.objs.size f aG))->sp vs H Q E ->
   ∃ t,gy (CB CX P w K mg base N qual scope f aG A outer s H E) body t/\t { nx:=fun _ H'=>Q .non H',rt:=Q } (jM N vs) H) :
  jv P w K mg base CX (k+1) f (Zo2 name qual params body scope dV kV doc pm an aG ct) ps sp:=by
 constructor
 ·exact len
 intro A outer s H args us vs Q E hr e0 hb r jd
 have kp:=fun b o e=>(e0.bs b o e).1
 have KX:=e0.mod.o9.keeps kp
 have lim:=e0.mod.nolimit.keeps kp
 have dep:A.depth<recursionLimit:=by have:=hr.dp;omega
 apply codeAny_call_function dep (KX _ _ lk) rfl S.co S.gen rfl (Zpq KX gm)
 apply hb
 apply wpAny_newFunctionEnv_cells S.kind
 ·rintro ⟨n,v⟩ hy
  rcases S.par n (ZqF hy).1 with z | z
  ·exact Or.inl z
  ·exact Or.inr ⟨z,Zpm _ _ _ (Or.inl z)⟩
 rintro env rfl s1 x
 refine ⟨lim.keeps x.toInCall.keep,codeAny_func ?_⟩
 obtain ⟨t,ht,hq⟩:=fK A outer s H vs Q E (hr.deeper _) jd
 have e1:gC P w K mg base { A with handled:=none } outer s H:=⟨e0.frames,e0.mod,e0.bs,e0.iO,e0.cu,e0.jB,e0.aB,e0.bare⟩
 have I0:Inv (iJ CX P w K mg base N qual scope f aG { A with handled:=none } outer s H E) [] (jM N vs) H s1:=Jz S rfl e1 (len _ _ _ _ jd) r x
 have I:Inv (CB CX P w K mg base N qual scope f aG A outer s H E) [] (jM N vs) H s1:=I0.mK (A.deeper (envOfC qual scope s.heap.objs.size f aG)) _ rfl
 refine wpAny_mono (ht [] s1 (jM N vs) H _ I hq) (fun fl s' hs=>?_) fun e s' hs=>hs
 cases fl with
 | ret u =>
  rcases hs with ⟨v,_,H',J,rv,q⟩
  exact ⟨v,H',J.os,J.bare,J.base,J.aB,rv,q⟩
 | next =>
  rcases hs with ⟨_,H',J,q⟩
  exact ⟨.non,H',J.os,J.bare,J.base,J.aB,rfl,q⟩
 | brk=>exact hs.elim fun _ z=>z.elim fun _ z=>z.2.elim
 | cont=>exact hs.elim fun _ z=>z.elim fun _ z=>z.2.elim
theorem iY.UJ {P:Program}{w:World}{K:ZoW}{mg:Str->Option Value}{base:Heap}{CX:jq}{x qual:Str}{st:Stmt}{f:Addr}{fd:FuncData}{N ps:List Str}{k:Nat}{sp:Sp} (F:iY K x qual st f fd) (S:aj N ps (ba st)) (len:∀ vs H Q E,sp vs H Q E->vs.length=ps.length)
  (fK:∀ (aG:Value) (A:Around) (outer:List Env) (s:Shared) (H:Hp) (vs:List V) (Q:VK) (E:XK),cU k (A.deeper (envOfC qual (ba st) s.heap.objs.size f aG))->sp vs H Q E ->
   ∃ t,gy (CB CX P w K mg base N qual (ba st) f aG A outer s H E) (jh st) t/\t { nx:=fun _ H'=>Q .non H',rt:=Q } (jM N vs) H):jv P w K mg base CX (k+1) f fd ps sp:=by
 obtain ⟨oc,od,kV,doc,pm,an,aG,ct,jw,rfl,lk,gm⟩:=F.ex
 exact tS lk gm S len fun A outer s H vs Q E hr jd=>fK aG A outer s H vs Q E hr jd
section
variable {X:Cx}{CX:jq}{k:Nat}{f C:Addr}{fd:FuncData}{ps:List Str}{sp:Sp}{d5:List V}{ds:List Value}{E:XK}{x m:Str}{p pos apos:Pos}{e o:Expr}{es:List Expr}{ta:TE}{t:TA}
theorem QK {pins:List (Addr × Obj)}{σ:St}{H:Hp}{s:Shared}{Q:VK}{us:List Value}{vs:List V} (hx:mL CX X E) (F:jv X.prog X.w X.K X.mg X.base CX k f fd ps sp) (hr:cU k X.A) (hb:kq X.K fd ps ds) (hd:Vals d5 ds)
  (I:Inv X pins σ H s) (r:Vals vs us) (h:sp (vs ++ d5) H Q E):wpAny (model X.prog X.w) X.A (call (.ref f) us) (EP X pins σ Q) X.xe s:=by
 have all:=r.append hd
 have n1:=all.length
 rw [F.len _ _ _ _ h] at n1
 apply wpAny_call
 apply codeAny_mono (F.run X.A X.stack s H ⟨us,[]⟩ (us ++ ds) (vs ++ d5) Q E hr I.oK (hb s us I.en n1.symm) all h)
 intro res s2 q
 match res,q with
 | .ok (.ret u),q=>exact I.after q
 | .error er,q=>exact hx pins σ H s er s2 I q
theorem KJ (hx:mL CX X E) (F:jv X.prog X.w X.K X.mg X.base CX k f fd ps sp) (hr:cU k X.A) (hg:Gl X x) (hm:X.mg x=some (.ref f)) (hk:Zo5 X.K (.ref f)=true) (hb:kq X.K fd ps ds) (hd:Vals d5 ds)
  (ha:PA X (e :: es) t) (iZ:(x == ("__debug__" : Str))=false:=by decide) (he:starEach (e :: es) X.env=(false,eval e X.env) :: starEach es X.env:=by rfl) (gx:(backTo pos (starEach es X.env)).any (·.1)=false:=by rfl) :
  PE X (.Call (.Name x p) (e :: es) [] pos) (bS sp d5 E t):=fun pins s σ H Q I h =>
 wpAny_Call_Name_kw (pO I hg hm (Zpe I.mod.o9 hk (aE (ha pos pins s σ H _ I h) fun us s2 ⟨vs,H2,I2,r2,q2⟩=>⟨I2.en,QK hx F hr hb hd I2 r2 q2⟩) he gx) iZ)
end
theorem pQ {P:Program}{w:World}{K:ZoW}{mg:Str->Option Value}{base:Heap}{N:List Str}{qual:Str}{scope:Scope}{f:Addr}{aG:Value}{A:Around}{outer:List Env}{s:Shared}{H:Hp}{E:XK} :
  PassesOwn (model (iJ (eB P w) P w K mg base N qual scope f aG A outer s H E).prog (iJ (eB P w) P w K mg base N qual scope f aG A outer s H E).w) (iJ (eB P w) P w K mg base N qual scope f aG A outer s H E).A (iJ (eB P w) P w K mg base N qual scope f aG A outer s H E).env (iJ (eB P w) P w K mg base N qual scope f aG A outer s H E).xe:=fun _ _ h=>wpAny_leaving_again (SameStack.refl _) h
section
variable {X:Cx}{k:Nat}{f C:Addr}{fd:FuncData}{ps:List Str}{sp:Sp}{d5:List V}{ds:List Value}{Ex:St->XK}{x:Str}{p pos:Pos}{e:Expr}{es:List Expr}{t:TA}
end
structure FT (K:ZoW) (mg:Str->Option Value) (x:Str) (st:Stmt) (ps:List Str) (f:Addr) (d:FuncData):Prop where
 m:mg x=some (.ref f)
 n:iY K x x st f d
 b:kq K d ps []
structure FM (K:ZoW) (c:Addr) (x q:Str) (st:Stmt) (ps:List Str) (f:Addr) (d:FuncData):Prop where
 n:iY K x q st f d
 b:kq K d ps []
 e:Meth K c x f
noncomputable def FP (K:ZoW) (x:Str) (st:Stmt) (f:Addr):Prop:=∃ d,ZoY K mainGlobals x=some (some (.ref f))/\iY K x x st f d
noncomputable def FQ (K:ZoW) (c:Addr) (x q:Str) (st:Stmt) (f:Addr):Prop:=∃ d,iY K x q st f d/\Meth K c x f
structure CP (K:ZoW) (x:Str) (c:Addr):Prop where
 a:ZoY K mainGlobals x=some (some (.ref c))
 pg:Zo9 K c Str.empty=true
 hd:Zpc K c=true
 po:Zph K c=true
 sa:Zo0 K (.ref c) "__setattr__" = some (some (.builtin "object.__setattr__"))
 mk':Zpj K c=true
 kc:Zo5 K (.ref c)=true
section
variable {P:Program}{w:World}{K:ZoW}{mg:Str->Option Value}{base h:Heap}{x q:Str}{st:Stmt}{ps N:List Str}{f c:Addr}{d:FuncData}{k:Nat}{sp:Sp}
theorem CP.cl (p:CP K x c):mV K c:=⟨p.pg,p.hd,p.po,p.sa⟩
theorem FP.mk' {oc:Value}{od an:Option Addr}{jw:Array (Option Value)}{kV doc pm aG ct:Value} (a:ZoY K mainGlobals x=some (some (.ref f)))
  (l:K.lookup f=some ⟨oc,od,.func (Zo2 x x (lT st) (jh st) (ba st) .none kV doc pm an aG ct),jw⟩)
  (c:Zo8 K aG x=true) (k:Zo5 K (.ref f)=true):FP K x st f:=⟨_,a,Mi l c k⟩
theorem FQ.mk' {oc:Value}{od an:Option Addr}{jw:Array (Option Value)}{kV doc pm aG ct:Value} (a:Zo0 K (.ref c) x=some (some (.ref f))) (i:Zpd K (.ref f)=true)
  (l:K.lookup f=some ⟨oc,od,.func (Zo2 x q (lT st) (jh st) (ba st) .none kV doc pm an aG ct),jw⟩)
  (e:Zo8 K aG q=true) (k:Zo5 K (.ref f)=true):FQ K c x q st f:=⟨_,Mi l e k,⟨a,i,k⟩⟩
theorem FP.ft (p:FP K x st f) (X:K.In h) (G:h.Ns mainGlobals mg)
  (B:∀ (kV doc pm:Value) (an:Option Addr) (aG ct:Value) (us:List Value),us.length=ps.length->bindArgs (Zo2 x x (lT st) (jh st) (ba st) .none kV doc pm an aG ct) ⟨us,[]⟩=pure (ps.zip us)):FT K mg x st ps f p.choose :=
 ⟨ZoZ X G p.choose_spec.1,p.choose_spec.2,p.choose_spec.2.binds B⟩
theorem FQ.fm (p:FQ K c x q st f)
  (B:∀ (kV doc pm:Value) (an:Option Addr) (aG ct:Value) (us:List Value),us.length=ps.length->bindArgs (Zo2 x q (lT st) (jh st) (ba st) .none kV doc pm an aG ct) ⟨us,[]⟩=pure (ps.zip us)):FM K c x q st ps f p.choose :=
 ⟨p.choose_spec.1,p.choose_spec.1.binds B,p.choose_spec.2⟩
theorem CP.Sk (p:CP K x c) {y:Str} (r:FQ K c "__init__" y st f):Mk K c f:=⟨p.mk',r.choose_spec.2.at_,r.choose_spec.2.fn,p.kc⟩
theorem iY.tY {p:Str} (F:iY K x q st f d) (B:∀ (kV doc pm:Value) (an:Option Addr) (aG ct u:Value),bindArgs (Zo2 x q (lT st) (jh st) (ba st) .none kV doc pm an aG ct) ⟨[u],[]⟩=pure [(p,u)]) (s:Shared) (v:Value):BindsTo s d ⟨[v],[]⟩ [(p,v)]:=by
 obtain ⟨oc,od,kV,doc,pm,an,aG,ct,jw,rfl,lk,gm⟩:=F.ex
 exact .of_eq (B kV doc pm an aG ct v)
end
noncomputable abbrev TM (P:Program) (w:World) (K:ZoW) (mg:Str->Option Value) (base:Heap) (k:Nat) (q:Str) (st:Stmt) (N:List Str) (f:Addr) (R:TS):Prop :=
 ∀ {aG:Value}{A:Around}{outer:List Env}{s:Shared}{H:Hp}{E:XK},aX k (A.deeper (envOfC q (ba st) s.heap.objs.size f aG))->gy (iJ gd P w K mg base N q (ba st) f aG A outer s H E).yi (jh st) R
noncomputable abbrev TX (P:Program) (w:World) (K:ZoW) (mg:Str->Option Value) (base:Heap) (k:Nat) (q:Str) (st:Stmt) (N:List Str) (f:Addr) (R:XK->TS):Prop :=
 ∀ {aG:Value}{A:Around}{outer:List Env}{s:Shared}{H:Hp}{E:XK},aX k (A.deeper (envOfC q (ba st) s.heap.objs.size f aG))->gy (iJ (eB P w) P w K mg base N q (ba st) f aG A outer s H E) (jh st) (R E)
section
variable {P:Program}{w:World}{K:ZoW}{mg:Str->Option Value}{base h:Heap}{x q:Str}{st:Stmt}{ps N:List Str}{f c:Addr}{d:FuncData}{k:Nat}{sp:Sp}
theorem iY.iS {R:TS} (F:iY K x q st f d) (S:aj N ps (ba st)) (tm:TM P w K mg base k q st N f R) (len:∀ vs H Q E,sp vs H Q E->vs.length=ps.length)
  (hb:∀ H vs Q E,sp vs H Q E->R { nx:=fun _ H'=>Q .non H',rt:=Q } (jM N vs) H):aJ P w K mg base gd (k+1) f d ps sp :=
 F.ok S len fun _ _ _ _ H vs Q E hr h=>⟨R,tm hr,hb H vs Q E h⟩
theorem iY.iF {R:XK->TS} (F:iY K x q st f d) (S:aj N ps (ba st)) (tm:TX P w K mg base k q st N f R) (len:∀ vs H Q E,sp vs H Q E->vs.length=ps.length)
  (hb:∀ H vs Q E,sp vs H Q E->R E { nx:=fun _ H'=>Q .non H',rt:=Q } (jM N vs) H):aJ P w K mg base (eB P w) (k+1) f d ps sp :=
 F.S3 S len fun _ _ _ _ H vs Q E hr h=>⟨R E,tm hr,hb H vs Q E h⟩
end
section
variable {X:Cx}{CX:jq}{k:Nat}{f C:Addr}{fd:FuncData}{ps:List Str}{sp:Sp}{x:Str}{st:Stmt}{E:XK}{e o:Expr}{es:List Expr}{t:TA}{p pos apos:Pos}{ta:TE}
theorem hm {j k:Nat}{A:Around} (hr:aX k A) (h:j<=k:=by decide):aX j A:=hr.mono h
theorem eC (T:FT X.K X.mg x st ps f fd) (F:aJ X.prog X.w X.K X.mg X.base CX k f fd ps sp) (hr:aX k X.A) (hx:mL CX X E)
  (ha:PA X (e :: es) t) (hg:Gl X x:=by rfl) (iZ:(x == ("__debug__" : Str))=false:=by decide) (he:starEach (e :: es) X.env=(false,eval e X.env) :: starEach es X.env:=by rfl) (gx:(backTo pos (starEach es X.env)).any (·.1)=false:=by rfl) :
  PE X (.Call (.Name x p) (e :: es) [] pos) (bS sp [] E t):=kM F hr hg T.m T.n.kp T.b .nil hx ha iZ he gx
end
theorem Q1:bootBuiltins "ValueError" = some (.type "ValueError"):=by first | rfl | decide +kernel | kernel_rfl
end L2
set_option maxHeartbeats 4000000
namespace DT
open PySem
section
variable {prog:Program}{w:World}{A:Around}{E:Value->Shared->Prop}{s:Shared}{d it:Addr}{od:Obj}{es:Array DictEntry}{ep i:Nat}
end
end DT
namespace L2
open PySem PySem.Spec PyProof.Rows
section
variable {X:Cx}{pins:List (Addr × Obj)}{σ:St}{H:Hp}{s:Shared}{d:Addr}{kvs:List (List Key × V)}{o:Obj}
theorem Inv.dT (I:Inv X pins σ H s) (e:Rd H d (.dT kvs)):kvs.length<=sizeLine/\(d == sysModules)=false/\∃ (xs:List (List Key × Addr × Value)) (od:Obj) (es:Array DictEntry) (ep:Nat),KT H kvs xs/\s.heap.get? d=some od/\od.ExactDict/\od.data=.dict es ep/\es.size=kvs.length /\
  ∀ (i:Nat) p,kvs[i]? = some p->∃ (b:Addr) (h:Int) (v:Value),es[i]? = some ⟨h,.ref b,v⟩/\H b=some (.tup (p.1.map kV)):=by
 obtain ⟨z,y,xs,r,od,es,ep,h1,h2,h3,h4,h5⟩:=(show dA X.prog X.w H s.heap d (.dT kvs) from FI I.aB e)
 have hl:kvs.length=xs.length:=Paired.length r
 have hs:es.size=kvs.length:=by rw [hl,<- Zrp,h4,ZpC]
 refine ⟨z,y,xs,od,es,ep,r,h1,h2,h3,hs,fun i p hp=>?_⟩
 have at_:∀ {l:List (List Key × V)}{m:List (List Key × Addr × Value)}{j:Nat}{q:List Key × V},KT H l m->l[j]? = some q->∃ x,m[j]? = some x/\H x.2.1=some (.tup (q.1.map kV)):=by
  intro l m j q t
  induction t generalizing j with
  | nil=>intro z;simp at z
  | @cons a b as bs hq _ ih =>
   intro z
   cases j with
   | zero =>
    have:a=q:=by simpa using z
    subst this
    exact ⟨b,rfl,hq.2.1⟩
   | succ j=>exact ih (by simpa using z)
 obtain ⟨x,hx,hH⟩:=at_ r hp
 have:es[i]? = some (entryOfKey (tupleKind (iL X.prog X.w)) x):=by rw [<- Array.getElem?_toList,h4,ZpF,hx];rfl
 exact ⟨x.2.1,_,_,this,hH⟩
end
section
variable {X:Cx}{pins:List (Addr × Obj)}{σ:St}{H:Hp}{s:Shared}
theorem i5.fl {b:Addr} (h:i5 X pins H b):iz X pins H b:=⟨h.1,h.2.1,h.2.2.1,h.2.2.2.1.imp id fun z=>by
 cases e:X.s₀.heap.get? b with
 | none=>rfl
 | some o=>exact absurd (Heap.lt_size e) (Nat.not_lt.mpr z),h.2.2.2.2.1,h.2.2.2.2.2⟩
theorem Inv.adopt {e:Addr}{o:HO} (I:Inv X pins σ H s) (fe:iz X pins H e) (ok:dA X.prog X.w (upd H e o) s.heap e o):Inv X pins σ (upd H e o) s:=by
 have ne:∀ {b u},H b=some u->b≠e:=fun {b u} h z=>by rw [z,fe.1] at h;cases h
 have up:∀ {b u},H b=some u->upd H e o b=some u:=fun {b u} h=>(bo (ne h)).trans h
 refine ⟨I.ok,I.os,I.bare,⟨I.base.keep,I.base.slot,fun b o e1 n hx=>?_,I.base.there,fun b xs h=>up (I.base.eT b xs h),fun b o u h=>up (I.base.d9 b o u h),fun b ps h=>?_⟩,I.loc,I.cell,(bo (Ne.symm fe.2.1)).trans I.free,fun x c h=>(bo (fe.2.2.2.2.1 x c h)).trans (I.bj x c h),fun p hp=>?_,fun b u h=>?_,I.len⟩
 ·refine (bo fun z=>?_).trans (I.base.free b o e1 n hx)
  rcases fe.2.2.2.1 with y | y
  ·exact hx (z ▸ y)
  ·rw [z,y] at e1;cases e1
 ·obtain ⟨more,q⟩:=I.base.eZ b ps h
  exact ⟨more,up q⟩
 ·obtain ⟨a1,a2,a3⟩:=I.pin p hp
  exact ⟨a1,(bo (fe.2.2.2.2.2 p hp)).trans a2,a3⟩
 ·by_cases hb:b=e
  ·rw [hb,cq] at h
   cases h
   rw [hb]
   exact ok
  ·rw [bo hb] at h
   exact (I.aB b u h).fV (fun c v _ q=>q) (fun c q=>up q) fun c xs q=>up q
theorem Inv.gF {h':Heap}{t':Nat}{l:List Addr} (I:Inv X pins σ H s) (hl:∀ b∈l,i5 X pins H b) (k:∀ b o,b ∉ l->s.heap.get? b=some o->h'.get? b=some o):Inv X pins σ H { s with heap:=h',toks:=t' }:=by
 have pX:∀ b u,H b=some u->b ∉ l:=fun b u e z=>by rw [(hl b z).1] at e;cases e
 refine I.step (g':=s.gens) (d':=s.drawn) (ch:=l) (fun b hb=>?_) (fun b o _ _ hc e _=>k b o hc e) (fun b o _ _ hc e _=>⟨o.slots,k b o hc e⟩) (fun _ _ _ _ n=>n)
  (fun b o hc e=>⟨o,k b o hc e⟩) (fun _ _ e=>e) (fun _ _ _ e=>e) (fun b ps e=>⟨#[],by rw [e];simp⟩) (fun m hm=>?_) (fun b u e=>?_) I.bare
 ·obtain ⟨f0,f1,f2,f3,f4,f5⟩:=hl b hb
  exact ⟨f3,f1,f4,f5⟩
 ·obtain ⟨o,es,ep,ho,r⟩:=hm
  exact ⟨o,es,ep,k _ o (fun z=>(hl _ z).2.1 rfl) ho,r⟩
 ·refine (I.aB b u e).fV (fun c v hc q=>k c v ?_ q) (fun _ q=>q) fun _ _ q=>q
  rcases hc with z | z
  ·rw [z];exact pX b u e
  ·exact pX c _ z
end
noncomputable def wM (K:ZoW) (l1 l2:Addr):It :=
  ⟨fun i H=>∃ xs ys x y,aR K H l1 xs/\aR K H l2 ys/\xs[i]? = some x/\ys[i]? = some y,
   fun i H v H'=>∃ T x y,v=.ref T/\H T=none/\H'=upd H T (.tup [x,y])/\(∀ xs,aR K H l1 xs->xs[i]? = some x)/\(∀ ys,aR K H l2 ys->ys[i]? = some y),
   fun i H=>∃ xs ys,aR K H l1 xs/\aR K H l2 ys/\(xs.length<=i\/ys.length<=i)⟩
theorem NG {P:Program}{w:World}{K:ZoW}{elts:List Expr}{k:Nat}{pos:Pos} (l1 l2 z TI TO i1 i2:Addr) (ap:ZipApart z TI TO i1 i2 l1 l2) :
    Turn P w K (.Tuple elts k pos) (wM K l1 l2) [z,TI,TO,i1,i2] z (fun i h=>IsZip h z TI TO .none/\IsPair h TI (.ref i1) (.ref i2)/\(∃ a b,IsPair h TO a b)/\h.IsListIter i1 l1 i/\h.IsListIter i2 l2 i) where
  mem:=by simp
  obj:=fun i h ⟨a1,a2,⟨x,y,a3⟩,a4,a5⟩ b hb=>by
    simp only [ZpE,ZpY,or_false] at hb
    rcases hb with rfl | rfl | rfl | rfl | rfl
    · exact ⟨_,a1,fun v z=>nomatch z⟩
    · exact ⟨_,a2,fun v z=>nomatch z⟩
    · exact ⟨_,a3,fun v z=>nomatch z⟩
    · obtain ⟨o,e,c,d⟩:=a4
      exact ⟨o,e,fun v z=>by rw [d] at z;cases z⟩
    · obtain ⟨o,e,c,d⟩:=a5
      exact ⟨o,e,fun v z=>by rw [d] at z;cases z⟩
  keep:=fun i h h' ⟨a1,a2,⟨x,y,a3⟩,a4,a5⟩ k=>⟨k _ (by simp) _ a1,k _ (by simp) _ a2,⟨x,y,k _ (by simp) _ a3⟩,a4.at fun o e=>k _ (by simp) o e,a5.at fun o e=>k _ (by simp) o e⟩
  item:=by
    intro X hP hw hK hc i pins s σ H E I hf st hg
    subst hP hw hK
    obtain ⟨xs,ys,x,y,hq1,hq2,hx,hy⟩:=hg
    obtain ⟨its1,rv1,p1,vv⟩:=I.list hq1
    obtain ⟨its2,rv2,p2,hz2⟩:=I.list hq2
    obtain ⟨u1,hu1,ru1⟩:=rv1.get hx
    obtain ⟨u2,hu2,ru2⟩:=rv2.get hy
    obtain ⟨sa,sb,sc,sd,se⟩:=st
    have W:=WalksT.zip2 (prog:=X.prog) (w:=X.w) (I.ok.hd hc) z TI TO i1 i2 l1 l2 ap its1.toArray its2.toArray
    have n1:i<its1.length:=(ZpL.mp hu1).1
    have n2:i<its2.length:=(ZpL.mp hu2).1
    have hw:∀ b∈[z,TO,i1,i2],i5 X pins H b:=fun b hb=>hf b (W.sub b hb |> fun _=>by simp only [ZpE,ZpY,or_false] at hb ⊢;rcases hb with h | h | h | h <;> simp [h])
    refine W.item i s _ _ (by simp;omega) ⟨sa,sb,sc,sd,se,p1.isList,p2.isList⟩ fun T vals h' tk hv hT it mid kp=>?_
    obtain ⟨x',y',e1,e2,rfl⟩:=hv
    have q1 : x' = u1 := by have : its1[i]? = some x' := by simpa using e1
                            rw [hu1] at this;cases this;rfl
    have q2 : y' = u2 := by have : its2[i]? = some y' := by simpa using e2
                            rw [hu2] at this;cases this;rfl
    subst q1 q2
    have aT:=W.apart i T h' mid
    refine ⟨.ref T,rfl,W.go elts k pos i T _ _ _ mid fun h'' st'' kp''=>?_⟩
    have I1:Inv X pins σ H { s with heap:=h'',toks:=tk }:=I.gF hw fun b o hb e=>kp'' b o hb (kp b o hb e)
    have fT:H T=none:=I.aB.fresh hT
    obtain ⟨oT,gT,cT,dT⟩:=it
    have ok:dA X.prog X.w (upd H T (.tup [x,y])) h'' T (.tup [x,y]):=⟨by show 2<=sizeLine;decide,[x',y'],.cons ru1 (.cons ru2 .nil),show h''.IsTuple T #[x',y'] from ⟨oT,kp'' T oT aT gT,cT,dT⟩⟩
    obtain ⟨b1,b2,b3,b4,b5,_,_⟩:=st''
    refine ⟨.ref T,_,I1.adopt (s:={ s with heap:=h'',toks:=tk }) (I.js hT fT).fl ok,rfl,⟨T,x,y,rfl,fT,rfl,fun zs hz=>by rw [I.gQ hz hq1];exact hx,fun zs hz=>by rw [I.gQ hz hq2];exact hy⟩,⟨b1,b2,b3,b4,b5⟩,fun b hb=>?_⟩
    have FU:b≠T:=fun e=>by
      obtain ⟨ra,rb,sc⟩:=sc
      obtain ⟨o4,s4,_⟩:=sd
      obtain ⟨o5,s5,_⟩:=se
      have:∃ o,s.heap.get? b=some o:=by
        simp only [ZpE,ZpY,or_false] at hb
        rcases hb with rfl | rfl | rfl | rfl | rfl
        · exact ⟨_,sa⟩
        · exact ⟨_,sb⟩
        · exact ⟨_,sc⟩
        · exact ⟨_,s4⟩
        · exact ⟨_,s5⟩
      obtain ⟨o,ho⟩:=this
      have:=Heap.lt_size ho
      rw [e] at this
      exact absurd this (Nat.not_lt.mpr hT)
    rw [bo FU]
    exact (hf b hb).1
  done:=by
    intro X hP hw hK hc i pins s σ H E I hf st hg
    subst hP hw hK
    obtain ⟨xs,ys,hq1,hq2,hlen⟩:=hg
    obtain ⟨its1,rv1,p1,vv⟩:=I.list hq1
    obtain ⟨its2,rv2,p2,hz2⟩:=I.list hq2
    obtain ⟨sa,sb,⟨a,b,sc⟩,sd,se⟩:=st
    have l1:=rv1.length
    have l2:=rv2.length
    have hw:∀ b∈[z,TO,i1,i2],i5 X pins H b:=fun b hb=>hf b (by simp only [ZpE,ZpY,or_false] at hb ⊢;rcases hb with h | h | h | h <;> simp [h])
    refine wpAny_pyNext_zip_end (I.ok.hd hc) ap sa sb sc sd se p1.isList p2.isList (hlen.imp (fun h=>by simp;omega) fun h=>by simp;omega) fun h' kp=>⟨rfl,I.gF (t':=s.toks) hw fun b o hb e=>?_⟩
    simp only [ZpE,ZpY,or_false,not_or] at hb
    exact kp b o hb.1 hb.2.1 hb.2.2.1 hb.2.2.2 e
  self:=fun _ _ _ _ _ st h=>wpAny_pyIter_zip st.1 h
theorem QL (n l1 l2:Nat) (h1:l1<n) (h2:l2<n):ZipApart (n+4) (n+2) (n+3) n (n+1) l1 l2:=by
 constructor <;> first | exact Zq2 (by omega) | exact ZqZ (by omega)
noncomputable def om (K:ZoW) (ta:TA):TI:=fun σ H R=>ta σ H fun vs H1=>∃ a b:Addr,vs=[.ref a,.ref b]/\(∃ xs,aR K H1 a xs)/\(∃ ys,aR K H1 b ys)/\R (wM K a b) H1
theorem tK {X:Cx}{elts:List Expr}{k:Nat}{tp:Pos}{a b:Expr}{ta:TA}{p pos:Pos} (hg:Gl X "zip") (hm:X.mg "zip" = none) (ha:PA X [a,b] ta) (hs:starEach [a,b] X.env=[(false,eval a X.env),(false,eval b X.env)]:=by rfl) (lV:starEach [b] X.env=[(false,eval b X.env)]:=by rfl) :
  PI X (.Tuple elts k tp) (.Call (.Name "zip" p) [a,b] [] pos) (om X.K ta):=by
 intro pins s σ H R I h
 refine Call_ (ou I hg hm PyProof.Rows.boot_zip (PyProof.Rows.callWith_type1 (aE (ha pos pins s σ H _ I h) fun us s1 ⟨vs,H1,I1,r1,q1⟩=>?_) (by rw [hs,lV]) (by rw [lV];rfl)))
 obtain ⟨l1,l2,e,⟨xs,h1⟩,⟨ys,h2⟩,q⟩:=q1
 subst e
 obtain ⟨u1,u2,rfl,e1,e2⟩:=sL r1
 cases e1;cases e2
 obtain ⟨its1,rv1,p1,vv⟩:=I1.list h1
 obtain ⟨its2,rv2,p2,hz2⟩:=I1.list h2
 refine call_zip_2 p1.isList p2.isList fun h' a1 a2 a3 a4 a5 hsz kp=>?_
 have n1:l1<s1.heap.objs.size:=by obtain ⟨o,e,_⟩:=p1.isList;exact Heap.lt_size e
 have n2:l2<s1.heap.objs.size:=by obtain ⟨o,e,_⟩:=p2.isList;exact Heap.lt_size e
 refine wpAny_pyIter_zip a1 ?_
 generalize hn:s1.heap.objs.size=n at *
 refine ⟨n+4,[n+4,n+2,n+3,n,n+1],_,_,H1,rfl,I1.kept (t':=s1.toks) kp,NG l1 l2 (n+4) (n+2) (n+3) n (n+1) ?_,⟨a1,a2,⟨_,_,a3⟩,a4,a5⟩,fun b hb=>?_,q⟩
 ·exact QL n l1 l2 n1 n2
 ·have hb':n<=b:=by
   simp only [ZpE,ZpY,or_false] at hb
   rcases hb with rfl | rfl | rfl | rfl | rfl
   ·exact Zra n 4
   ·exact Zra n 2
   ·exact Zra n 3
   ·exact ZqY _
   ·exact Zra n 1
  exact I1.js (by rw [hn];exact hb') (I1.aB.fresh (by rw [hn];exact hb'))
theorem Tq {K:ZoW}{ta:TA}{g:TG}{tb:TS}{D:Ends}{σ:St}{H:Hp}:jD (om K ta) g tb D σ H=ta σ H (fun vs H1=>∃ a b:Addr,vs=[.ref a,.ref b]/\(∃ xs,aR K H1 a xs)/\(∃ ys,aR K H1 b ys)/\p0 (wM K a b) g tb D σ H1):=rfl
section
variable {X:Cx}{tg:Expr}
end
end L2
set_option maxHeartbeats 4000000
namespace RR
open PySem
section
variable {prog:Program}{w:World}{A:Around}{E:Value->Shared->Prop}{s:Shared}
end
end RR
namespace L2
open PySem PySem.Spec PyProof.Rows
section
variable {X:Cx}{tg:Expr}
end
section
variable {K:ZoW}{ta:TA}{g:TG}{tb:TS}{D:Ends}{σ:St}{H:Hp}
end
end L2
set_option maxHeartbeats 4000000
namespace RV
open PySem
section
variable {prog:Program}{w:World}{A:Around}{E:Value->Shared->Prop}{s:Shared}
end
end RV
namespace L2
open PySem PySem.Spec PyProof.Rows
end L2
set_option maxHeartbeats 4000000
namespace L2
open PySem PySem.Spec PyProof.Rows PySem.W
end L2
set_option maxRecDepth 20000
namespace L2
open PySem PySem.Spec PyProof.Rows
variable {X:Cx}
structure PL (H:Hp) (p:Addr) (es:List En):Prop where
 lst:H p=some (.lst (es.map fun e=>V.ref e.1))
 tup:∀ e∈es,H e.1=some (.tup [.int e.2.1,.int e.2.2])
end L2
set_option maxHeartbeats 4000000
namespace DT
open PySem
end DT
namespace L2
open PySem PySem.Spec PyProof.Rows
theorem MS {α β:Type}{F:α->β->Prop}:∀ {l:List α}{m:List β},Paired F l m->∀ {i:Nat}{q:β},m[i]? = some q->∃ p,l[i]? = some p/\F p q
 | _,_,.nil,i,q,h=>by simp at h
 | _,_,.cons h t,0,q,e=>by
  rw [ZqW] at e
  cases e
  exact ⟨_,rfl,h⟩
 | _,_,.cons h t,i+1,q,e=>by
  rw [ZpV] at e
  obtain ⟨p,a,b⟩:=MS t e
  exact ⟨p,by rw [ZpV];exact a,b⟩
theorem xv {P:Program}{w:World}{k:Key}{u:Value} (r:(iL P w).is k u=true):aP (kV k) u:=by
 rcases nh r with ⟨i,t,rfl,rfl⟩ | ⟨x,t,rfl,rfl⟩
 ·exact ⟨t,rfl⟩
 ·exact ⟨t,rfl⟩
end L2
namespace MF
noncomputable def B2 (xs:List Int):Bool:=((ZpJ (xs.length - 1)).map fun j=>decide (xs.getD j 0<xs.getD (j+1) 0)).all id
noncomputable def oJ (xs:List Int):Prop:=∀ j,j+1<xs.length->xs.getD j 0<xs.getD (j+1) 0
theorem LG (xs:List Int):B2 xs=true ↔ oJ xs:=by
 unfold B2 oJ
 rw [Zqp,Zp8]
 constructor
 ·intro h j hj
  have:=h j (Zqh.mpr (by omega))
  simpa using this
 ·intro h j hj
  rw [Zqh] at hj
  simpa using h j (by omega)
theorem ue {xs:List Int} (h:xs.Pairwise (· < ·)):oJ xs:=by
 intro j hj
 have a:xs.getD j 0=xs[j]:=by simp [ZpX,show j<xs.length by omega]
 have b:xs.getD (j+1) 0=xs[j+1]:=by simp [ZpX,hj]
 rw [a,b]
 exact List.pairwise_iff_getElem.mp h j (j+1) (by omega) hj (by omega)
end MF
set_option maxHeartbeats 4000000
namespace L2
open PySem PySem.Spec PyProof.Rows
theorem Sg {K:ZoW}{ta:TA}{k:Nat}{sel:List Nat}{g:TG}{tt:TT}{el:TE}{σ:L2.St}{H:Hp}{Q:VK}:eg (om K ta) k sel g tt el σ H Q=ta σ H (fun vs H1=>∃ a b:Addr,vs=[.ref a,.ref b]/\(∃ xs,aR K H1 a xs)/\(∃ ys,aR K H1 b ys)/\lU (wM K a b) σ k sel g tt el Q H1):=rfl
theorem N3 {K:ZoW}{σ:L2.St}{k:Nat}{sel:List Nat}{g:TG}{tt:TT}{te:TE}{Q:VK}{H:Hp}{p a b:Addr}{xs ys:List V}{n:Nat} (hn:n=min xs.length ys.length) (Sv:L2.St->Prop) (Pv:Nat->Hp->Prop) (hS:Sv (cst σ k sel)) (h0:Pv 0 (upd H p (.lst [])))
  (hk:∀ i H2,i<=n->Pv i H2->aR K H2 a xs/\aR K H2 b ys)
  (step:∀ i x y t σ2 H2 (R:L2.St->Hp->Prop),xs[i]? = some x->ys[i]? = some y->H2 t=none->Sv σ2->Pv i H2->(∀ σ' H',Sv σ'->Pv (i+1) H'->R σ' H')->g (.ref t) σ2 (upd H2 t (.tup [x,y])) fun σ4 H4=>tt σ4 H4 fun bb H5 =>
   if bb=true then te σ4 H5 fun v H6=>∃ zs,H6 p=some (.lst zs)/\zs.length<sizeLine/\R σ4 (upd H6 p (.lst (zs ++ [v]))) else R σ4 H5)
  (hQ:∀ H2,Pv n H2->Q (.ref p) H2):pI (wM K a b) σ k sel g tt te Q H p:=by
 refine ⟨fun i m σ2 H2=>i<=n/\m=n - i+1/\Sv σ2/\Pv i H2,⟨n+1,Zq3 _,rfl,hS,h0⟩,?_⟩
 rintro i m σ2 H2 ⟨hi,rfl,hs,hP⟩
 obtain ⟨s1,s2⟩:=hk i H2 hi hP
 by_cases dw:i<n
 ·right
  have h1:i<xs.length:=by omega
  have h2:i<ys.length:=by omega
  refine ⟨⟨xs,ys,xs[i],ys[i],s1,s2,ZpH h1,ZpH h2⟩,?_⟩
  rintro x H3 ⟨T,x1,y1,e1,e2,e3,e4,e5⟩
  subst e1 e3
  exact step i x1 y1 T σ2 H2 (fun σ' H'=>∃ m',m'<n - i+1/\(i+1<=n/\m'=n - (i+1)+1/\Sv σ'/\Pv (i+1) H')) (e4 xs s1) (e5 ys s2) e2 hs hP fun σ' H' g1 g2=>⟨_,by omega,dw,rfl,g1,g2⟩
 ·left
  have e:i=n:=by omega
  subst e
  exact ⟨⟨xs,ys,s1,s2,by omega⟩,hQ H2 hP⟩
theorem Qi (ks:List Int) (j:Int):∀ (acc:List (Key × V)),(fi ((ks.map fun k=>((.inl k:Key),V.bl true)).foldl (fun acc kv=>gz acc kv.1 kv.2) acc) (.inl j)).isSome=((fi acc (.inl j)).isSome || decide (j∈ks)):=by
 induction ks with
 | nil=>intro acc;simp
 | cons k r ih =>
  intro acc
  rw [ZpD,ZqN,ih,Jh]
  by_cases e:j=k
  ·subst e
   simp
  ·rw [if_neg (fun z=>e (Sum.inl.inj z))]
   simp [e]
noncomputable def HD (t:TA):TE:=fun σ H Q=>t σ H fun vs H1=>∃ i j:Int,vs=[.int i,.int j]/\(-(2 ^ 62)<=i/\i<2 ^ 62 /\ -(2 ^ 62)<=j/\j<2 ^ 62)/\(j - i).toNat<=2 ^ 24/\(j - i).toNat<=sizeLine/\∀ p H',fb H1 p (.lst ((ZpJ (j - i).toNat).map fun k:Nat=>V.int (i+(k:Int)))) H'->Q (.ref p) H'
theorem Rc {X:Cx}{a b:Expr}{t:TA}{p1 p2 p3 p4:Pos} (hc:X.calm=true) (vB:Gl X "list") (Ur:Gl X "range") (UT:X.mg "list" = none) (N6:X.mg "range" = none) (ha:PA X [a,b] t)
  (hs:starEach [a,b] X.env=[(false,eval a X.env),(false,eval b X.env)]:=by rfl) (lV:starEach [b] X.env=[(false,eval b X.env)]:=by rfl)
  (Kv:starEach [Expr.Call (.Name "range" p2) [a,b] [] p3] X.env=(false,eval (Expr.Call (.Name "range" p2) [a,b] [] p3) X.env) :: starEach [] X.env:=by rfl) (EH:(backTo p4 (starEach [] X.env)).any (·.1)=false:=by rfl) :
  PE X (.Call (.Name "list" p1) [.Call (.Name "range" p2) [a,b] [] p3] [] p4) (HD t):=by
 intro pins s σ H Q I h
 refine wpAny_Call_Name_kw (ou I vB UT PyProof.Rows.boot_list ?_ (by decide) (by decide))
 refine PyProof.Rows.callWith_type1 ?_ Kv EH
 rw [Kv]
 show wpAny _ _ (spliced ((false,eval (Expr.Call (.Name "range" p2) [a,b] [] p3) X.env) :: backTo p4 (starEach [] X.env))) _ _ s
 refine Calls.spliced_cons ?_
 refine wpAny_Call_Name_kw (ou I Ur N6 boot_range ?_ (by decide) (by decide))
 refine PyProof.Rows.callWith_type1 (aE (ha p3 pins s σ H _ I h) fun us s1 ⟨vs,H1,I1,r1,q1⟩=>?_) (by rw [hs,lV]) (by rw [lV];rfl)
 obtain ⟨lo,hi,e,⟨b1,b2,b3,b4⟩,b5,b6,q⟩:=q1
 subst e
 obtain ⟨u1,u2,rfl,e1,e2⟩:=sL r1
 obtain ⟨tk,rfl⟩:=e1
 obtain ⟨tu,rfl⟩:=e2
 refine call_range_2 (Calls.spliced_nil ?_)
 have I2:Inv X pins σ H1 { s1 with heap:=s1.heap.push { cls:=.type "range",data:=.fields #[.int lo tk,.int hi tu,.int 1 s1.toks] },toks:=s1.toks+1 }:=I1.kept fun b o e=>Heap.get?_push_of_some _ e
 have hsz:Builtin.Range.rangeSize lo hi 1=((hi - lo).toNat:Int):=by rw [rangeSize_one];split <;> omega
 refine call_list_range (I.ok.hd hc) (IsRange.new ..) (small_one b1 b2 b3 b4) hsz b5 fun h' t' acc c up at' items=>?_
 obtain ⟨hl,hit⟩:=items
 generalize lV:s1.heap.push { cls:=.type "range",data:=.fields #[.int lo tk,.int hi tu,.int 1 s1.toks] }=k2 at I2 up at' ⊢
 have iH:H1 k2.objs.size=none:=I2.aB.fresh (ZqY _)
 refine ⟨.ref k2.objs.size,upd H1 k2.objs.size (.lst ((ZpJ (hi - lo).toNat).map fun k:Nat=>V.int (lo+(k:Int)))),?_,rfl,q _ _ ⟨iH,rfl⟩⟩
 refine I2.laid (a:=k2.objs.size) (t':=t') up (ZqY _) ⟨by rw [ZpC,Zp9];exact b6,acc.toList,c,?_,by simpa using at'⟩
 have:=Lh (hi - lo).toNat acc.toList (fun i=>V.int (lo+(i:Nat))) 0 (by simpa using hl) fun i u hu=>by
  have hu':acc[i]? = some u:=by simpa using hu
  obtain ⟨t2,ht2⟩:=hit i u hu'
  exact ⟨t2,by rw [ht2];congr 1 <;> omega⟩
 simpa using this
noncomputable def jP:List V->Hp->VK->Prop:=fun vs H Q=>match vs with
 | [.int i]=>i.natAbs.log2<1920/\Q (.str (toString i)) H
 | _=>False
theorem kP {X:Cx}:gI X (.type "str") jP:=by
 intro pins s σ H xs us Q I r h
 match xs,h with
 | [.int i],h=>exact ON pins s σ H _ us Q I r ⟨i,rfl,h.1,h.2⟩
theorem Qr {ta:TA}{k:Nat}{sel:List Nat}{g:TG}{tt:TT}{el:TE}{σ:L2.St}{H:Hp}{Q:VK}:eg (xl ta) k sel g tt el σ H Q=ta σ H (fun vs H1=>∃ i j:Int,vs=[.int i,.int j]/\(-(2 ^ 62)<=i/\i<2 ^ 62 /\ -(2 ^ 62)<=j/\j<2 ^ 62)/\lU (jL i (j - i).toNat) σ k sel g tt el Q H1):=rfl
end L2
set_option maxHeartbeats 400000
namespace SS
open PySem PySem.Spec PyProof.Rows
section
variable {prog:Program}{w:World}{A:Around}{E:Value->Shared->Prop}{s:Shared}
theorem Uk {h:Heap}{a:Addr}{vs:List Value}{out:Array Value}{n:Nat} (ho:h.get? a=some (seqObj "list" vs.toArray n)):(∃ e,(sortedHeap h a vs out).get? a=some (seqObj "list" out e))/\∀ b o,b≠a->h.get? b=some o->(sortedHeap h a vs out).get? b=some o:=by
 unfold sortedHeap
 have g1:=get?_update_seq ho (fun _=>#[])
 have g2:=Heap.get?_push_of_some (seqObj "list" #[] 0) (Heap.get?_push_of_some (seqObj "tuple" vs.toArray 0) g1)
 exact ⟨⟨_,get?_update_seq g2 (fun _=>out)⟩,fun b o hb e=>(Heap.get?_update_other _ _ (Ne.symm hb)).trans (Heap.get?_push_of_some _ (Heap.get?_push_of_some _ ((Heap.get?_update_other _ _ (Ne.symm hb)).trans e)))⟩
end
end SS
set_option maxHeartbeats 4000000
namespace L2
open PySem PySem.Spec PyProof.Rows
end L2
set_option maxHeartbeats 4000000
namespace DE
open PySem DZ
section
variable {prog:Program}{w:World}{A:Around}{E:Value->Shared->Prop}{h:Heap}{g:Array GenState}{d:Drawn}{t:Nat}{os:OsState}{z:Addr}{vs:Array Value}
end
structure ES (e it l:Addr) (xs:Array Value) (i:Nat) (h:Heap):Prop where
 eo:∃ f0 f1 old,h.get? e=some { cls:=.type "enumerate",dict:=none,data:=.fields #[f0,.bool f1,.ref it,rawInt i,.none,old],slots:=#[] }/\(f0=.none\/∃ (T:Addr) (o:Obj),f0=rawInt T/\h.get? T=some o/\T≠e/\T≠it)
 a1:h.IsListIter it l i
 l1:h.IsList l xs
section
variable {prog:Program}{w:World}{A:Around}{E:Value->Shared->Prop}{s:Shared}
variable {κ:Type} [DecidableEq κ] {knd:KeyKind prog w κ}
end
end DE
namespace L2
open PySem PySem.Spec PyProof.Rows
section
variable {X:Cx}{e el es:Expr}{te:TE}{pos p2:Pos}
end
end L2
set_option maxHeartbeats 4000000
namespace SD
open PySem PySem.Spec PyProof.Rows
section
variable {prog:Program}{w:World}{A:Around}{E:Value->Shared->Prop}{s:Shared}{T:String}{r d:Addr}{n:Nat}{P:Nat->Value->Prop}{OK:Heap->Prop}
theorem Ou {R:Result->Shared->Prop}{L:Addr}{c:Nat} (K:Zpp prog w T r d n P OK) (hh:A.handled=none) (aB:OK s.heap) (hr:L≠r) (hd:L≠d) (hL:s.heap.get? L=some { cls:=.type "list",data:=.seq #[] c }) (hn:n<=sizeLine)
  (hR:∀ h' tk acc' c',(∀ b o,b≠L->s.heap.get? b=some o->h'.get? b=some o)->h'.get? L=some { cls:=.type "list",dict:=none,data:=.seq acc' c',slots:=#[] }->ItemsOf P acc' n->R (.ok (.ret (.ref L))) { s with heap:=h',toks:=tk }) :
  codeAny (model prog w) A (.builtin "list.__iadd__" ⟨[.ref L,.ref r],[]⟩) R s:=by
 refine codeAny_builtin entry_list_iadd' ?_
 rw [Around.under_plainId (show plainId "list.__iadd__" = true by decide +kernel) _]
 exact PySem.W.kdl_extend K hh aB L hr hd (.ref L) c hL hR hn
theorem OC {Q:List Value->Shared->Prop} (K:Zpp prog w T r d n P OK) (hh:A.handled=none) (aB:OK s.heap) (hn:n<=sizeLine)
  (q:∀ acc h' tk,(∀ b o,s.heap.get? b=some o->h'.get? b=some o)->s.heap.objs.size<h'.objs.size->ItemsOf P acc n->Q acc.toList { s with heap:=h',toks:=tk }):wpAny (model prog w) A (collect (.ref r)) Q E s:=by
 obtain ⟨hr,hd⟩:=K.there s.heap aB
 unfold collect;refine wpAny_bind (wpAny_runValue (codeAny_builtin entry_proto_collect' ?_));show wpAny _ _ (do again (.builtin "list.__iadd__" ⟨[<- newList [],.ref r],[]⟩)) _ _ s
 have R4:(s.heap.push (seqObj "list" #[] 0)).get? s.heap.objs.size=some (seqObj "list" #[] 0):=Heap.get?_push_size _ rfl
 refine wpAny_bind (wpAny_newList (wpAny_pure ⟨Code.quiet_builtin _ (by decide +kernel),Ou (s:={ s with heap:=s.heap.push (seqObj "list" #[] 0) }) K hh (K.keep _ _ aB fun b _ o e=>Heap.get?_push_of_some _ e) (Zq2 hr) (Zq2 hd) R4 hn fun h' tk acc c kp hL' hi=>?_⟩))
 dsimp only;refine wpAny_bind (wpAny_load hL' (wpAny_pure ?_))
 exact q acc h' tk (fun b o e=>kp b o (ZqZ (Heap.lt_size e)) (Heap.get?_push_of_some _ e)) (Heap.lt_size hL') hi
theorem SQ {Q:Value->Shared->Prop}{ks:List Int} (K:Zpp prog w T r d n P OK) (hh:A.handled=none) (aB:OK s.heap) (KL:n<64) (hk:∀ acc,ItemsOf P acc n->IntsAre acc.toList ks)
  (q:∀ h' tk r out e dY,(∀ b o,s.heap.get? b=some o->h'.get? b=some o)->s.heap.objs.size<=r->h'.get? r=some (seqObj "list" out e)->IntsAre out.toList dY->dY.Perm ks->dY.Pairwise (· <= ·)->Q (.ref r) { s with heap:=h',toks:=tk }) :
  wpAny (model prog w) A (call (.builtin "sorted") [.ref r]) Q E s:=by
 refine Calls.call_function_entry kind_sorted plain_sorted entry_sorted (args_sorted1 _) ?_;unfold Builtin.«sorted»;refine wpAny_bind (m:=checkCount "sorted" 1 1 _) (wpAny_pure ?_)
 refine wpAny_bind (OC K (by first | exact hh | simpa using hh) aB (by rw [sizeLine_eq];omega) fun acc h' tk kp dw hi=>?_)
 have a1:=hk acc hi
 have Pg:acc.toList.length<64:=by rw [Zrp,hi.1];exact KL
 refine wpAny_bind (wpAny_newList ?_ (by rw [sizeLine_eq];omega))
 have xE:(h'.push (seqObj "list" acc.toList.toArray 0)).get? h'.objs.size=some (seqObj "list" acc.toList.toArray 0):=Heap.get?_push_size _ rfl
 show wpAny _ _ _ _ _ { s with heap:=h'.push (seqObj "list" acc.toList.toArray 0),toks:=tk }
 refine wpAny_bind (wpAny_holding (wpAny_call_entry slot_list_sort ⟨_,xE,rfl⟩ entry_list_sort (list_sort_tree xE a1 Pg fun out dY b1 b2 b3=>⟨_,rfl,wpAny_pure ⟨_,rfl,?_⟩⟩) (args_list_sort _)))
 obtain ⟨⟨e,at_⟩,old⟩:=SS.Uk (out:=out) xE
 exact q _ tk _ out e dY (fun b o x=>old b o (ZqZ (Nat.lt_trans (Heap.lt_size x) dw)) (Heap.get?_push_of_some _ (kp b o x))) (Zq7 dw) at_ b1 b2 b3
end
end SD
namespace L2
open PySem PySem.Spec PyProof.Rows
noncomputable def Eu (_:ZoW):List V->Hp->VK->Prop:=fun vs H Q=>match vs with
 | [.ref p]=>∃ (kvs:List (Key × V)) (ns:List Int),Rd H p (.dK kvs)/\kvs.map (·.1)=ns.map Sum.inl/\ns.length<64/\∀ (dY:List Int) (l:Addr) (H':Hp),dY.Perm ns->dY.Pairwise (· <= ·)->fb H l (.lst (dY.map V.int)) H'->Q (.ref l) H'
 | _=>False
theorem Oh {X:Cx} (hc:X.calm=true):gI X (.builtin "sorted") (Eu X.K):=by
 intro pins s σ H xs us Q I r h
 match xs,h with
 | [.ref p],h =>
  obtain ⟨kvs,ns,e,xI,KL,q⟩:=h
  obtain ⟨u1,rfl,e1⟩:=jA r
  cases e1
  obtain ⟨z,y,vs,rel,dd⟩:=Aw I.aB e
  obtain ⟨ep,AL⟩:=dd.dictAt
  have hlen:=rel.length
  have wK:kvs.length=ns.length:=by have:=congrArg Zp7 xI;rwa [ZpC,ZpC] at this
  refine SD.SQ (ks:=ns) (PySem.W.kdl_dict (knd:=iL X.prog X.w) (kvs:=vs) (ep:=ep) y) (I.ok.hd hc) AL (by omega) (fun acc ⟨ha,hb⟩=>?_) fun h' tk l out e' dY kp hge at_ b1 b2 b3=>?_
  ·have key:∀ n,n<=kvs.length->Vals ((kvs.take n).map fun kv=>kV kv.1) (acc.toList.take n):=by
    intro n
    induction n with
    | zero=>intro _;rw [Zqy,Zqy];exact .nil
    | succ n ih =>
     intro hn
     have Kj:n<acc.size:=by omega
     obtain ⟨k,x,hk,hv⟩:=hb n acc[n] (Array.getElem?_eq_getElem Kj)
     obtain ⟨p',g1,g2⟩:=MS rel hk
     rw [Zqj,Zqj,show acc.toList[n]? = some acc[n] by simp [Kj],g1,ZpK]
     exact Paired.snoc (ih (by omega)) (show aP (kV p'.1) acc[n] by rw [g2.1];exact xv hv)
   have b3:=key kvs.length (ZqY _)
   rw [Zp1,Zqk (by rw [Zrp];omega)] at b3
   have e2:(kvs.map fun kv=>kV kv.1)=ns.map V.int:=by
    have:(kvs.map (·.1)).map kV=(ns.map Sum.inl).map kV:=by rw [xI]
    rw [ZpO,ZpO] at this
    exact this
   rw [e2] at b3
   exact Nc b3
  ·have SW:(64:Nat)<=sizeLine:=by decide
   have zR:dY.length=ns.length:=b2.length_eq
   exact ⟨.ref l,_,I.laid (a:=l) (o:=.lst (dY.map V.int)) (h':=h') (t':=tk) kp hge ⟨by rw [ZpC];omega,out.toList,e',Ik b1,by rw [Array.toArray_toList];exact at_⟩,rfl,q dY l _ b2 b3 ⟨I.aB.fresh hge,rfl⟩⟩
end L2
set_option maxRecDepth 20000
namespace L2
open PySem PySem.Spec PyProof.Rows
noncomputable def Ck (z:Str):It :=
  ⟨fun i _=>i<z.cps.size,
   fun i H v H'=>∃ T c,v=.ref T/\H T=none/\H'=upd H T (.tup [.int (i:Int),.str ⟨#[c]⟩])/\z.cps[i]? = some c,
   fun i _=>i=z.cps.size⟩
theorem IB {prog:Program}{w:World}{A:Around} (hh:A.handled=none) (it:Addr) (z:Str) (t:Tok) :
  Draws prog w A it [it] z.cps.size (fun i v=>∃ c u,z.cps[i]? = some c/\v=.str ⟨#[c]⟩ u) (fun i h=>h.IsStrIter it (strIterType z) z t i):=by
 unfold strIterType
 split
 ·exact Draws.strAscii hh it z t
 ·exact Draws.strWide hh it z t
theorem RA {P:Program}{w:World}{K:ZoW}{elts:List Expr}{k:Nat}{pos:Pos} (z:Str) (t:Tok) (e it:Addr) (n1:e≠it) :
  Turn P w K (.Tuple elts k pos) (Ck z) [e,it] e (fun i h=>(∃ old,IsEnum h e it (i:Int) old)/\h.IsStrIter it (strIterType z) z t i) where
 mem:=by simp
 obj:=fun i h ⟨⟨old,a1⟩,a2⟩ b hb=>by
  simp only [ZpE,ZpY,or_false] at hb
  rcases hb with rfl | rfl
  ·exact ⟨_,a1,fun v z=>nomatch z⟩
  ·obtain ⟨o,e,c,d⟩:=a2
   exact ⟨o,e,fun v z=>by rw [d] at z;cases z⟩
 keep:=fun i h h' ⟨⟨old,a1⟩,⟨o,a2,r⟩⟩ k=>⟨⟨old,k _ (by simp) _ a1⟩,⟨o,k _ (by simp) _ a2,r⟩⟩
 item:=by
  intro X hP hw hK hc i pins s σ H E I hf st hg
  subst hP hw hK
  obtain ⟨⟨old,sa⟩,sb⟩:=st
  have W:=WalksT.enumerateD (prog:=X.prog) (w:=X.w) (A:=X.A) (IB (A:=X.A.in1) (I.ok.hd hc) it z t) e n1 (by simp [n1]) (by simp)
  have hw:∀ b∈[e,it],i5 X pins H b:=hf
  refine W.item i s _ _ hg ⟨⟨old,sa⟩,sb⟩ fun T vals h' tk hv hT itt mid kp=>?_
  obtain ⟨t0,x',⟨c,u,e1,rfl⟩,rfl⟩:=hv
  have aT:=W.apart i T h' mid
  refine ⟨.ref T,rfl,W.go elts k pos i T _ _ _ mid fun h'' st'' kp''=>?_⟩
  have I1:Inv X pins σ H { s with heap:=h'',toks:=tk }:=I.gF hw fun b o hb e=>kp'' b o hb (kp b o hb e)
  have fT:H T=none:=I.aB.fresh hT
  obtain ⟨oT,gT,cT,dT⟩:=itt
  have ok:dA X.prog X.w (upd H T (.tup [.int (i:Int),.str ⟨#[c]⟩])) h'' T (.tup [.int (i:Int),.str ⟨#[c]⟩]):=⟨by show 2<=sizeLine;decide,[.int (i:Int) t0,.str ⟨#[c]⟩ u],.cons ⟨_,rfl⟩ (.cons ⟨_,rfl⟩ .nil),show h''.IsTuple T #[.int (i:Int) t0,.str ⟨#[c]⟩ u] from ⟨oT,kp'' T oT aT gT,cT,dT⟩⟩
  obtain ⟨⟨old2,b1⟩,b2⟩:=st''
  refine ⟨.ref T,_,I1.adopt (s:={ s with heap:=h'',toks:=tk }) (I.js hT fT).fl ok,rfl,⟨T,c,rfl,fT,rfl,e1⟩,⟨⟨old2,b1⟩,b2⟩,fun b hb=>?_⟩
  have FU:b≠T:=fun ee=>by
   obtain ⟨o4,s4,_⟩:=sb
   have:∃ o,s.heap.get? b=some o:=by
    simp only [ZpE,ZpY,or_false] at hb
    rcases hb with rfl | rfl
    ·exact ⟨_,sa⟩
    ·exact ⟨_,s4⟩
   obtain ⟨o,ho⟩:=this
   have:=Heap.lt_size ho
   rw [ee] at this
   exact absurd this (Nat.not_lt.mpr hT)
  rw [bo FU]
  exact (hf b hb).1
 done:=by
  intro X hP hw hK hc i pins s σ H E I hf st hg
  subst hP hw hK
  obtain ⟨⟨old,sa⟩,sb⟩:=st
  have W:=WalksT.enumerateD (prog:=X.prog) (w:=X.w) (A:=X.A) (IB (A:=X.A.in1) (I.ok.hd hc) it z t) e n1 (by simp [n1]) (by simp)
  have hi:i=z.cps.size:=hg
  subst hi
  refine W.done s _ _ ⟨⟨old,sa⟩,sb⟩ fun h' tk kp=>⟨rfl,I.gF (t':=tk) hf fun b o hb e=>kp b o hb e⟩
 self:=fun _ _ _ _ _ st h=>wpAny_pyIter_enum st.1.choose_spec h
noncomputable def sG (ta:TA):TI:=fun σ H R=>ta σ H fun vs H1=>∃ z:Str,vs=[.str z]/\R (Ck z) H1
theorem qj {X:Cx}{elts:List Expr}{k:Nat}{tp:Pos}{a:Expr}{ta:TA}{p pos:Pos} (hg:Gl X "enumerate") (hm:X.mg "enumerate" = none) (ha:PA X [a] ta) (hs:starEach [a] X.env=[(false,eval a X.env)]:=by rfl) :
  PI X (.Tuple elts k tp) (.Call (.Name "enumerate" p) [a] [] pos) (sG ta):=by
 intro pins s σ H R I h
 refine Call_ (ou I hg hm PyProof.Rows.boot_enumerate (PyProof.Rows.callWith_type1 (aE (ha pos pins s σ H _ I h) fun us s1 ⟨vs,H1,I1,r1,q1⟩=>?_) (by rw [hs];rfl) (by rfl)))
 obtain ⟨z,e,q⟩:=q1
 subst e
 obtain ⟨u1,rfl,e1⟩:=jA r1
 obtain ⟨t,rfl⟩:=e1
 refine call_enumerate_str fun h' a1 a2 hsz kp=>?_
 refine wpAny_pyIter_enum a1 ?_
 generalize hn:s1.heap.objs.size=n at *
 refine ⟨n+1,[n+1,n],_,_,H1,rfl,I1.kept (t':=s1.toks) kp,RA z t (n+1) n (Zq2 (Zq9 n)),⟨⟨_,a1⟩,a2⟩,fun b hb=>?_,q⟩
 have hb':n<=b:=by
  simp only [ZpE,ZpY,or_false] at hb
  rcases hb with rfl | rfl
  ·exact Zra n 1
  ·exact ZqY _
 exact I1.js (by rw [hn];exact hb') (I1.aB.fresh (by rw [hn];exact hb'))
theorem R8 {ta:TA}{k:Nat}{sel:List Nat}{g:TG}{tt:TT}{el:TE}{σ:L2.St}{H:Hp}{Q:VK}:eg (sG ta) k sel g tt el σ H Q=ta σ H (fun vs H1=>∃ z:Str,vs=[.str z]/\lU (Ck z) σ k sel g tt el Q H1):=rfl
theorem SR {σ:L2.St}{k:Nat}{sel:List Nat}{g:TG}{tt:TT}{te:TE}{Q:VK}{H:Hp}{p:Addr}{z:Str} (Sv:L2.St->Prop) (Pv:Nat->Hp->Prop) (hS:Sv (cst σ k sel)) (h0:Pv 0 (upd H p (.lst [])))
  (step:∀ i c t σ2 H2 (R:L2.St->Hp->Prop),z.cps[i]? = some c->H2 t=none->Sv σ2->Pv i H2->(∀ σ' H',Sv σ'->Pv (i+1) H'->R σ' H')->g (.ref t) σ2 (upd H2 t (.tup [.int (i:Int),.str ⟨#[c]⟩])) fun σ4 H4=>tt σ4 H4 fun bb H5 =>
   if bb=true then te σ4 H5 fun v H6=>∃ zs,H6 p=some (.lst zs)/\zs.length<sizeLine/\R σ4 (upd H6 p (.lst (zs ++ [v]))) else R σ4 H5)
  (hQ:∀ H2,Pv z.cps.size H2->Q (.ref p) H2):pI (Ck z) σ k sel g tt te Q H p:=by
 refine ⟨fun i m σ2 H2=>i<=z.cps.size/\m=z.cps.size - i+1/\Sv σ2/\Pv i H2,⟨z.cps.size+1,Zq3 _,rfl,hS,h0⟩,?_⟩
 rintro i m σ2 H2 ⟨hi,rfl,hs,hP⟩
 by_cases dw:i<z.cps.size
 ·right
  refine ⟨dw,?_⟩
  rintro x H3 ⟨T,c,e1,e2,e3,e4⟩
  subst e1 e3
  exact step i c T σ2 H2 (fun σ' H'=>∃ m',m'<z.cps.size - i+1/\(i+1<=z.cps.size/\m'=z.cps.size - (i+1)+1/\Sv σ'/\Pv (i+1) H')) e4 e2 hs hP fun σ' H' g1 g2=>⟨_,by omega,dw,rfl,g1,g2⟩
 ·left
  have e:i=z.cps.size:=by omega
  subst e
  exact ⟨rfl,hQ H2 hP⟩
noncomputable def rq (K:ZoW):List V->Hp->VK->Prop:=fun vs H Q=>match vs with
 | [.ref a]=>∃ ns:List Int,aR K H a (ns.map V.int)/\Q (.int ns.sum) H
 | _=>False
theorem zA {X:Cx} (hc:X.calm=true):gI X (.builtin "sum") (rq X.K):=by
 intro pins s σ H xs us Q I r h
 match xs,h with
 | [.ref p],h =>
  obtain ⟨ns,hq,q⟩:=h
  obtain ⟨u1,rfl,e1⟩:=jA r
  cases e1
  obtain ⟨its,r',pl,hz⟩:=I.list hq
  have hA:=Nc r'
  obtain ⟨xs,hxs⟩:=hA.allInts.items
  have hn:numsOf (intItems xs).toList=ns:=by rw [<- hxs];exact hA.numsOf
  rw [nums_intItems] at hn
  have hl:=pl.isList
  rw [hxs] at hl
  refine sum_intListG (I.ok.hd hc) hl fun h' tk t' hk=>?_
  refine ⟨.int _,H,I.kept (t':=tk) hk,⟨t',rfl⟩,?_⟩
  rw [preSum_eq,Zqk (by simp),hn]
  exact q
noncomputable def A4:List V->Hp->VK->Prop:=fun vs H Q=>match vs with
 | [.str z]=>∃ n,intText? z=some n/\z.length<=640/\Q (.int n) H
 | _=>False
theorem Dt {X:Cx}:gI X (.type "int") A4:=by
 intro pins s σ H xs us Q I r h
 match xs,h with
 | [.str z],h =>
  obtain ⟨n,hn,hl,q⟩:=h
  obtain ⟨u,rfl,ru⟩:=jA r
  obtain ⟨t,rfl⟩:=ru
  exact PySem.W.KIN.call_text hn hl ⟨.int n,H,I.tok _,⟨_,rfl⟩,q⟩
noncomputable def EU:V->List V->Hp->VK->Prop:=fun x vs H Q=>match x,vs with
 | .str z,[.str y]=>Q (.bl (Txt.startswith z y)) H
 | _,_=>False
theorem N8 {X:Cx}:nq X "str.startswith" EU:=by
 intro pins s σ H x vs v us Q I rx rv h
 cases x with
 | str z =>
  match vs,h with
  | [.str y],h =>
   obtain ⟨t,rfl⟩:=rx
   obtain ⟨u,rfl,ru⟩:=jA rv
   obtain ⟨t',rfl⟩:=ru
   exact SC.startswith ⟨.bl _,H,I,rfl,h⟩
 | _=>exact False.elim h
noncomputable def vZ:V->List V->Hp->VK->Prop:=fun x vs H Q=>match x,vs with
 | .str z,[.str y]=>(y.length == 0)=false/\z.length+2<=sizeLine/\∀ p H',fb H p (.lst ((Txt.split z y).map V.str)) H'->Q (.ref p) H'
 | _,_=>False
theorem B8 {X:Cx}:nq X "str.split" vZ:=by
 intro pins s σ H x vs v us Q I rx rv h
 cases x with
 | str z =>
  match vs,h with
  | [.str y],h =>
   obtain ⟨hy,hz,q⟩:=h
   obtain ⟨t,rfl⟩:=rx
   obtain ⟨u',rfl,ru⟩:=jA rv
   obtain ⟨u,rfl⟩:=ru
   have hle:=split_le z y
   have key:∀ (l:List (Str × Tok)) (k:Nat),l.map (·.1)=Txt.split z y->EP X pins σ Q (.ref s.heap.objs.size) { s with heap:=s.heap.push { cls:=.type "list",data:=.seq (strValues l).toArray },toks:=k }:=by
    intro l k e
    refine ⟨.ref s.heap.objs.size,upd H s.heap.objs.size (.lst ((Txt.split z y).map V.str)),I.oG ?_ ?_,rfl,q _ _ ⟨I.fresh,rfl⟩⟩
    ·rw [<- e];exact J3 l
    ·rw [ZpC];omega
   cases h1:(decide (z.length<y.length) || decide (Builtin.Str.strKind z<Builtin.Str.strKind y))
   ·cases hf:(Builtin.Str.occurrences z y 0 z.length (z.length+1)).isEmpty
    ·have e:Txt.split z y=Builtin.Str.partsBetween z (Builtin.Str.occurrences z y 0 z.length (z.length+1)) y.length:=(if_neg (ne_true_of_eq_false h1)).trans (if_neg (ne_true_of_eq_false hf))
     refine call_meets F.slot_str_split (typeIs_str _ _ _) F.entry_str_split (F.args_str_split_2 _ _) (meets_str_split_sep z y t u h1 hy hf (by omega) (by rw [<- e];omega)) ?_
     show wants _ _ _ { s with toks:=_,heap:=s.heap.push { cls:=.type "list",data:=.seq (strsFrom s.toks (Builtin.Str.partsBetween z (Builtin.Str.occurrences z y 0 z.length (z.length+1)) y.length)).toArray } }
     rw [strsFrom_eq]
     exact key (numbered s.toks _) _ ((numbered_texts _ _).trans e.symm)
    ·exact call_meets F.slot_str_split (typeIs_str _ _ _) F.entry_str_split (F.args_str_split_2 _ _) (meets_str_split_not_found z y t u h1 hy hf)
      (key [(z,t)] _ ((if_neg (ne_true_of_eq_false h1)).trans (if_pos hf)).symm)
   ·exact call_meets F.slot_str_split (typeIs_str _ _ _) F.entry_str_split (F.args_str_split_2 _ _) (meets_str_split_cannot_occur z y t u h1)
     (key [(z,t)] _ (if_pos h1).symm)
 | _=>exact False.elim h
theorem KS {α:Type}{c:α}:∀ {a a' b b':List α},c ∉ a->c ∉ a'->a ++ c :: b=a' ++ c :: b'->a=a'/\b=b'
 | [],[],b,b',_,_,h=>⟨rfl,(List.cons.inj h).2⟩
 | [],y :: a',b,b',_,h2,h=>absurd (List.cons.inj h).1 fun e=>h2 (by rw [e];exact ZpZ)
 | x :: a,[],b,b',h1,_,h=>absurd (List.cons.inj h).1 fun e=>h1 (by rw [<- e];exact ZpZ)
 | x :: a,y :: a',b,b',h1,h2,h=>by
  obtain ⟨e1,e2⟩:=List.cons.inj h
  obtain ⟨e3,e4⟩:=KS (fun z=>h1 (ZpR _ z)) (fun z=>h2 (ZpR _ z)) e2
  exact ⟨by rw [e1,e3],e4⟩
theorem M0 {x y:Str} (h:x.cps.toList=y.cps.toList):x=y:=by
 obtain ⟨a⟩:=x
 obtain ⟨b⟩:=y
 have e:a=b:=Array.ext' h
 rw [e]
theorem CD (c:Nat) (x y:Str) (r:List Str):(Str.join ⟨#[c]⟩ (x :: y :: r)).cps.toList=x.cps.toList ++ c :: (Str.join ⟨#[c]⟩ (y :: r)).cps.toList:=by
 show (x ++ (⟨#[c]⟩:Str) ++ Str.join ⟨#[c]⟩ (y :: r)).cps.toList=_
 show (x.cps ++ #[c] ++ (Str.join ⟨#[c]⟩ (y :: r)).cps).toList=_
 simp
theorem Kb (c:Nat):∀ {ws vs:List Str},ws≠[]->vs≠[]->(∀ w∈ws,c ∉ w.cps.toList)->(∀ w∈vs,c ∉ w.cps.toList)->Str.join ⟨#[c]⟩ ws=Str.join ⟨#[c]⟩ vs->ws=vs
 | [],_,h,_,_,_,_=>absurd rfl h
 | _,[],_,h,_,_,_=>absurd rfl h
 | [x],[y],_,_,_,_,h=>by rw [show x=y from h]
 | [x],y :: y' :: r,_,_,h1,_,h=>by
  have e:=congrArg (fun s:Str=>s.cps.toList) h
  rw [CD] at e
  refine absurd (h1 x ZpZ) fun z=>z ?_
  rw [show x.cps.toList=_ from e]
  exact ZpT _ ZpZ
 | x :: x' :: r,[y],_,_,_,h2,h=>by
  have e:=congrArg (fun s:Str=>s.cps.toList) h
  rw [CD] at e
  refine absurd (h2 y ZpZ) fun z=>z ?_
  rw [show y.cps.toList=_ from e.symm]
  exact ZpT _ ZpZ
 | x :: x' :: r,y :: y' :: q,_,_,h1,h2,h=>by
  have e:=congrArg (fun s:Str=>s.cps.toList) h
  rw [CD,CD] at e
  obtain ⟨e1,e2⟩:=KS (h1 x ZpZ) (h2 y ZpZ) e
  rw [M0 e1,Kb c (ws:=x' :: r) (vs:=y' :: q) (fun z=>nomatch z) (fun z=>nomatch z) (fun w hw=>h1 w (ZpR _ hw)) (fun w hw=>h2 w (ZpR _ hw)) (M0 e2)]
theorem BK (c:Nat) {ws:List Str} (hn:ws≠[]) (hf:∀ w∈ws,c ∉ w.cps.toList):Txt.split (Str.join ⟨#[c]⟩ ws) ⟨#[c]⟩=ws:=by
 have h1:=split_pos (Str.join ⟨#[c]⟩ ws) ⟨#[c]⟩
 exact Kb c (fun z=>by rw [z] at h1;exact absurd h1 (by decide)) hn (StrLaws.split_free _ c) hf (StrLaws.join_split _ _)
theorem jF {α:Type}{xs:List α}{j:Nat}{v:α} (h:xs[j]? = some v):dC xs (j:Int)=some v:=by
 have hj:=(ZpL.mp h).1
 unfold dC jH
 rw [if_pos (Int.natCast_nonneg j),if_pos (by omega)]
 exact h
theorem pG {α:Type}{xs:List α}{j:Nat}{v:α} (h1:1<=j) (h2:j<=xs.length) (h:xs[xs.length - j]? = some v):dC xs (-(j:Int))=some v:=by
 unfold dC jH
 rw [if_neg (by omega),if_pos (by omega)]
 show xs[(-(j:Int)+(xs.length:Int)).toNat]? = some v
 rw [show (-(j:Int)+(xs.length:Int)).toNat=xs.length - j by omega]
 exact h
theorem Lr {xs ys zs:List V} (n k:Nat) (hn:xs.length=n) (hk:zs.length=k) (h0:1<=k):fO (xs ++ ys ++ zs) (some (n:Int)) (some (-(k:Int)))=ys:=by
 have hl:(xs ++ ys ++ zs).length=n+ys.length+k:=by rw [ZpI,ZpI];omega
 unfold fO
 rw [hl]
 have e1:HT.ij (n+ys.length+k) 0 (some (n:Int))=n:=by rw [HT.wU];omega
 have e2:HT.ij (n+ys.length+k) (n+ys.length+k) (some (-(k:Int)))=n+ys.length:=by
  show (if (-(k:Int))<0 then (-(k:Int)+((n+ys.length+k:Nat):Int)).toNat else _)=_
  rw [if_pos (by omega)]
  omega
 rw [e1,e2,Zqa,<- hn,ZqP,show xs.length+ys.length - xs.length=ys.length by omega,List.take_left]
theorem OV {xs ys:List V} (n:Nat) (hn:xs.length=n):fO (xs ++ ys) (some (n:Int)) none=ys:=by
 have hl:(xs ++ ys).length=n+ys.length:=by rw [ZpI];omega
 unfold fO
 rw [hl,HT.HM,HT.wU,show min n (n+ys.length)=n by omega,<- hn,ZqP,Zqk (by omega)]
theorem Cp {K:ZoW}{σ:L2.St}{sel:List Nat}{bD:L2.St}{H:Hp}{te:TE}{Q:VK}{a:Addr}{xs:List V} (D:Nat->V->Addr->Hp->Prop) (lY:∀ i u p H1 H2,D i u p H1->(∀ b o,b≠p->H1 b=some o->H2 b=some o)->D i u p H2)
  (hl:aR K H a xs) (hr:sel.map (fun j=>(σ[j]?).join)=bD) (hz:xs.length<=sizeLine)
  (he:∀ i v p H' (Q':VK),xs[i]? = some v->aH H H'->H p=none->(∃ us,H' p=some (.lst us))->(∀ u H'',aH H' H''->D i u p H''->Q' u H'')->te (some v :: bD) H' Q')
  (hQ:∀ p us H',H p=none->H' p=some (.lst us)->us.length=xs.length->aH H H'->(∀ i u,us[i]? = some u->D i u p H')->Q (.ref p) H'):lU (lx K a) σ 1 sel (aK 0) fR te Q H:=by
 intro p hp
 refine BY (n:=xs.length) (item:=fun i=>xs.getD i .non) (fun i H2=>aH H H2/\∃ us,H2 p=some (.lst us)/\us.length=i/\∀ j u,us[j]? = some u->D j u p H2) hr ⟨iU hp,[],cq,rfl,fun j u h=>by simp at h⟩ (Dz ?_) ?_ ?_ ?_
 ·rintro i H2 hi ⟨s2,_⟩
  exact s2.seq hl
 ·rintro H2 ⟨s2,_⟩
  exact ⟨_,s2.seq hl,ZqY _⟩
 ·rintro i H2 R hi ⟨s2,us,h2,ig,hd⟩ hR
  have ei:xs.getD i .non=xs[i]:=by simp [ZpX,hi]
  rw [ei]
  refine he i _ p _ _ (ZpH hi) s2 hp ⟨_,h2⟩ fun u H3 s3 hu=>⟨us,s3 _ _ h2,by omega,hR _ ⟨(s2.trans s3).put hp,us ++ [u],cq,by rw [ZpI,ig];rfl,fun j v hv=>?_⟩⟩
  have kp:∀ b o,b≠p->H3 b=some o->upd H3 p (.lst (us ++ [u])) b=some o:=fun b o n e=>by rw [bo n];exact e
  by_cases hj:j<us.length
  ·rw [Zp5 hj] at hv
   exact lY j v p _ _ (lY j v p _ _ (hd j v hv) fun b o n e=>s3 _ _ e) kp
  ·rw [ZpW (by omega)] at hv
   have e0:j - us.length=0:=by
    have:=(ZpL.mp hv).1
    simp at this
    omega
   rw [e0] at hv
   have e1:u=v:=Option.some.inj hv
   have e2:j=i:=by omega
   subst e1 e2
   exact lY j u p _ _ hu kp
 ·rintro H2 ⟨s2,us,h2,ig,hd⟩
  exact hQ p us H2 hp h2 ig s2 hd
theorem Ac {α:Type}{P:Nat->α->Prop}:∀ n:Nat,(∀ i,i<n->∃ x,P i x)->∃ l:List α,l.length=n/\∀ i x,l[i]? = some x->P i x
 | 0,_=>⟨[],rfl,fun i x h=>by simp at h⟩
 | n+1,h=>by
  obtain ⟨l,h1,h2⟩:=Ac n fun i hi=>h i (by omega)
  obtain ⟨x,hx⟩:=h n (by omega)
  refine ⟨l ++ [x],by rw [ZpI,h1];rfl,fun i y hy=>?_⟩
  by_cases hi:i<l.length
  ·rw [Zp5 hi] at hy
   exact h2 i y hy
  ·rw [ZpW (by omega)] at hy
   have e0:i - l.length=0:=by
    have:=(ZpL.mp hy).1
    simp at this
    omega
   rw [e0] at hy
   have e1:x=y:=Option.some.inj hy
   have e2:i=n:=by omega
   subst e1 e2
   exact hx
theorem IU {α:Type}{rs:List α}{n:Nat} (h:rs.length=n+2):∃ r0 mid rl,rs=r0 :: (mid ++ [rl])/\mid.length=n:=by
 obtain _ | ⟨r0,t⟩:=rs
 ·simp at h
 have ht:t.length=n+1:=by simpa using h
 have ur:t≠[]:=fun z=>by rw [z] at ht;simp at ht
 refine ⟨r0,t.dropLast,t.getLast ur,by rw [List.dropLast_concat_getLast],by rw [List.length_dropLast,ht];rfl⟩
end L2
set_option maxHeartbeats 4000000
namespace EX
open PySem
structure Nt (S:List Addr) (e:Addr) (old:List Addr) (cls:Value) (L:Addr) (h h':Heap) (T:Addr):Prop where
 ge:h.objs.size<=T
 exc:∃ oe vs,h'.get? e=some oe/\oe.cls=cls/\oe.data=.fields vs/\vs[1]? = some (.ref T)/\oe.dict=none
 tb:∃ oT ts,h'.get? T=some oT/\oT.data=.fields ts/\ts[3]? = some (rawInt L)
 keep:∀ b o,b ∉ S->b≠e->b ∉ old->h.get? b=some o->h'.get? b=some o
 slot:∀ b o,b∈S->h.get? b=some o->∃ sl,h'.get? b=some { o with slots:=sl }
section
variable {M:Model}{A:Around}{E:Value->Shared->Prop}{s:Shared}
theorem K0 {base:Heap}{env:Env}{outer:List Env}{L e:Addr}{oe:Obj}{vs:Array Value}{pV:Value}{nx:Bool}{Q:Unit->Shared->Prop} (jt:A.frames=some (env :: outer)) (hl:s.heap.FunFrames base (env :: outer)) (hf:env.frame=some L)
  (he:s.heap.get? e=some oe) (iq:oe.dict=none) (hd:oe.data=.fields vs) (hsz:1<vs.size)
  (q:∀ h' T,Nt ((env :: outer).filterMap (·.frame)) e [] oe.cls L s.heap h' T->Q () { s with heap:=h' }) :
  wpAny M A (do let a <- frameOf env;let pl <- entryPlaceOf L nx;let b <- EntryCells.newEntry pV a .none (rawInt L) .none pl;setField (.ref e) 1 b) Q E s:=by
 have eS:e ∉ (env :: outer).filterMap (·.frame):=fun hm=>by
  obtain ⟨_,o,ho,hnf⟩:=hl.mem hm
  rw [he] at ho
  cases ho
  exact hnf vs hd
 refine wpAny_bind (wpAny_frameOf_fun jt hl hf fun k1 x1=>wpAny_bind (wpAny_entryPlaceOf fun pl gx=>?_))
 unfold EntryCells.newEntry newFields
 refine wpAny_bind (wpAny_newObj_type ?_ (gx.sizeOk5 _ _ _ _ _))
 have e1:k1.get? e=some oe:=(x1.2.1 e eS).trans he
 generalize hob:({ cls:=.type "traceback",dict:=none,data:=.fields ([pV,.ref L,.none,rawInt L,.none] ++ (if pl.isEmpty then Zqi 6 Value.none else pl)).toArray }:Obj)=ob
 have tG:∃ ts,ob.data=.fields ts/\ts[3]? = some (rawInt L):=⟨_,by rw [<- hob],by simp⟩
 obtain ⟨ts,hts,hts3⟩:=tG
 have jV:ob.isFreed=false:=by rw [<- hob];rfl
 have e2:(k1.push ob).get? e=some oe:=Heap.get?_push_of_some _ e1
 refine wpAny_setField e2 hd hsz ?_
 have vz:k1.objs.size≠e:=Zq2 (Heap.lt_size e1)
 have d3:=Obj.data_mapFields hd (·.setIfInBounds 1 (Value.ref k1.objs.size))
 have e3:=Heap.get?_update_self (Obj.mapFields (·.setIfInBounds 1 (Value.ref k1.objs.size))) e2 (Obj.isFreed_of_fields d3)
 have t3:=(Heap.get?_update_other (k1.push ob) (Obj.mapFields (·.setIfInBounds 1 (Value.ref k1.objs.size))) (Ne.symm vz)).trans (Heap.get?_push_size k1 jV)
 have up:∀ b o,b≠e->k1.get? b=some o->((k1.push ob).update e (Obj.mapFields (·.setIfInBounds 1 (Value.ref k1.objs.size)))).get? b=some o:=fun b o nb hb=>by
  rw [Heap.get?_update_other _ _ (Ne.symm nb)]
  exact Heap.get?_push_of_some _ hb
 refine q _ k1.objs.size ⟨by rw [x1.1];exact ZqY _,⟨_,_,e3,Obj.cls_mapFields _ _,d3,by simp [hsz],(Kt _ _).trans iq⟩,⟨_,_,t3,hts,hts3⟩,fun b o hb nb _ hbo=>up b o nb ((x1.2.1 b hb).trans hbo),fun b o hb hbo=>?_⟩
 obtain ⟨sl,hs⟩:=x1.2.2 b o hbo
 exact ⟨sl,up b _ (fun z=>eS (z ▸ hb)) hs⟩
theorem zu {base:Heap}{env:Env}{outer:List Env}{L e:Addr}{oe:Obj}{vs:Array Value}{old:List Addr}{Q:Unit->Shared->Prop} (jt:A.frames=some (env :: outer)) (hl:s.heap.FunFrames base (env :: outer)) (hf:env.frame=some L)
  (he:s.heap.get? e=some oe) (iq:oe.dict=none) (hd:oe.data=.fields vs) (tr:CS s.heap e vs old)
  (q:∀ h' T,Nt ((env :: outer).filterMap (·.frame)) e old oe.cls L s.heap h' T->Q () { s with heap:=h' }):wpAny M A (noteFrame (.ref e) env) Q E s:=by
 unfold noteFrame
 simp only [hf]
 rcases tr with ⟨h1,rfl⟩ | ⟨T0,oT,ts,rfl,h1,nT,hT,jC,h3⟩
 ·refine wpAny_bind (wpAny_field he hd h1 ?_)
  rw [if_neg (by decide)]
  exact K0 jt hl hf he iq hd (Zro.mp h1).1 q
 ·refine wpAny_bind (wpAny_field he hd h1 ?_)
  rw [if_pos (show (Value.ref T0 != Value.none)=true by simp)]
  refine wpAny_bind (wpAny_field hT jC h3 ?_)
  rw [if_neg (show ¬ ((Value.none == rawInt L)=true) by simp [rawInt])]
  refine wpAny_bind (wpAny_setField hT jC (Zro.mp h3).1 ?_)
  have ot:∀ b,b≠T0->(s.heap.update T0 (Obj.mapFields (·.setIfInBounds 3 Value.none))).get? b=s.heap.get? b:=fun b hb=>Heap.get?_update_other _ _ (Ne.symm hb)
  have nf:∀ b o,s.heap.get? b=some o->(∀ vs,o.data≠.fields vs)->b≠T0:=fun b o hb hnf z=>by
   rw [z,hT] at hb
   cases hb
   exact hnf ts jC
  refine K0 jt (hl.of_keeps fun b o hb hnf=>⟨o,(ot b (nf b o hb hnf)).trans hb,rfl⟩) hf ((ot e (Ne.symm nT)).trans he) iq hd (Zro.mp h1).1 fun h' T x=>q h' T ⟨?_,x.exc,x.tb,fun b o hb nb no hbo=>?_,fun b o hb hbo=>?_⟩
  ·have:=x.ge
   rw [show (s.heap.update T0 (Obj.mapFields (·.setIfInBounds 3 Value.none))).objs.size=s.heap.objs.size from Heap.size_after_update ..] at this
   exact this
  ·exact x.keep b o hb nb (by simp) ((ot b (fun z=>no (by simp [z]))).trans hbo)
  ·obtain ⟨_,o',gP,hnf⟩:=hl.mem hb
   rw [hbo] at gP
   cases gP
   exact x.slot b o hb ((ot b (nf b o hbo hnf)).trans hbo)
structure PB (S:List Addr) (e T0:Addr) (cls:Value) (h h':Heap) (T:Addr):Prop where
 tn:T=T0\/h.objs.size<=T
 exc:∃ oe vs,h'.get? e=some oe/\oe.cls=cls/\oe.data=.fields vs/\vs[1]? = some (.ref T)/\oe.dict=none
 tb:∃ oT ts,h'.get? T=some oT/\oT.data=.fields ts/\ts[3]? = some .none
 keep:∀ b o,b ∉ S->b≠e->b≠T0->h.get? b=some o->h'.get? b=some o
 slot:∀ b o,b∈S->h.get? b=some o->∃ sl,h'.get? b=some { o with slots:=sl }
theorem Oa {base:Heap}{env:Env}{outer:List Env}{L e T0:Addr}{oe oT:Obj}{vs ts:Array Value}{v:Value}{Q:Unit->Shared->Prop} (jt:A.frames=some (env :: outer)) (hl:s.heap.FunFrames base (env :: outer)) (hf:env.frame=some L)
  (he:s.heap.get? e=some oe) (iq:oe.dict=none) (hd:oe.data=.fields vs) (h1:vs[1]? = some (.ref T0)) (nT:T0≠e) (hT:s.heap.get? T0=some oT) (jC:oT.data=.fields ts) (h3:ts[3]? = some v)
  (q:∀ h' T,PB ((env :: outer).filterMap (·.frame)) e T0 oe.cls s.heap h' T->Q () { s with heap:=h' }):wpAny M A (leaving env (.ref e)) Q E s:=by
 have vF:3<ts.size:=(Zro.mp h3).1
 have ot:∀ b,b≠T0->(s.heap.update T0 (Obj.mapFields (·.setIfInBounds 3 Value.none))).get? b=s.heap.get? b:=fun b hb=>Heap.get?_update_other _ _ (Ne.symm hb)
 have nf:∀ b o,s.heap.get? b=some o->(∀ vs,o.data≠.fields vs)->b≠T0:=fun b o hb hnf z=>by
  rw [z,hT] at hb
  cases hb
  exact hnf ts jC
 unfold leaving
 refine wpAny_bind ?_
 unfold noteFrame
 simp only [hf]
 refine wpAny_bind (wpAny_field he hd h1 ?_);skip
 rw [if_pos (show (Value.ref T0 != Value.none)=true by simp)]
 refine wpAny_bind (wpAny_field hT jC h3 ?_)
 by_cases hv:(v == rawInt L)=true
 ·rw [if_pos hv]
  refine wpAny_pure ?_
  refine wpAny_setFlight_none he hd h1 hT jC vF (q _ T0 ⟨.inl rfl,⟨oe,vs,(ot e (Ne.symm nT)).trans he,rfl,hd,h1,iq⟩,⟨_,_,Heap.get?_update_self _ hT (Obj.isFreed_of_fields (Obj.data_mapFields jC _)),Obj.data_mapFields jC _,by simp [vF]⟩,fun b o _ _ nb hbo=>(ot b nb).trans hbo,fun b o hb hbo=>?_⟩)
  obtain ⟨_,o',gP,hnf⟩:=hl.mem hb
  rw [hbo] at gP
  cases gP
  exact ⟨o.slots,(ot b (nf b o hbo hnf)).trans hbo⟩
 ·rw [if_neg hv]
  refine wpAny_bind (wpAny_setField hT jC vF ?_)
  refine EF jt (hl.of_keeps fun b o hb hnf=>⟨o,(ot b (nf b o hb hnf)).trans hb,rfl⟩) hf ((ot e (Ne.symm nT)).trans he) iq hd (Zro.mp h1).1 fun h' T x=>q h' T ⟨.inr ?_,x.exc,x.tb,fun b o hb nb no hbo=>?_,fun b o hb hbo=>?_⟩
  ·have:=x.ge
   rw [show (s.heap.update T0 (Obj.mapFields (·.setIfInBounds 3 Value.none))).objs.size=s.heap.objs.size from Heap.size_after_update ..] at this
   exact this
  ·exact x.keep b o hb nb (by simp) ((ot b no).trans hbo)
  ·obtain ⟨_,o',gP,hnf⟩:=hl.mem hb
   rw [hbo] at gP
   cases gP
   exact x.slot b o hb ((ot b (nf b o hbo hnf)).trans hbo)
end
end EX
namespace L2
open PySem PySem.Spec PyProof.Rows
structure Here (X:Cx) (pins:List (Addr × Obj)) (H:Hp) (e C T:Addr) (s:Shared):Prop where
 fe:iz X pins H e
 fT:iz X pins H T
 ne:T≠e
 exc:∃ oe vs,s.heap.get? e=some oe/\oe.cls=.ref C/\oe.data=.fields vs/\vs[1]? = some (.ref T)/\oe.dict=none
 tb:∃ oT ts v,s.heap.get? T=some oT/\oT.data=.fields ts/\ts[3]? = some v
noncomputable def nN (X:Cx) (E:XK):Prop:=∀ (pins:List (Addr × Obj)) (σ:St) (H:Hp) (s:Shared) (e C T:Addr),Inv X pins σ H s->Here X pins H e C T s->E (.ref e) (some C) H->X.xe (.ref e) s
section
variable {P:Program}{w:World}{K:ZoW}{mg:Str->Option Value}{base:Heap}
theorem Gp {N:List Str}{qual:Str}{scope:Scope}{f:Addr}{aG:Value}{A:Around}{outer:List Env}{s:Shared}{H:Hp}{E:XK}:nN (iJ (eB P w) P w K mg base N qual scope f aG A outer s H E) E:=by
 intro pins σ H' s' e C T0 I hr q
 obtain ⟨fe,fT,ne,⟨oe,vs,h1,h2,h3,h4,h5⟩,⟨oT,ts,v,t1,t2,t3⟩⟩:=hr
 show wpAny (model P w) (A.deeper (envOfC qual scope s.heap.objs.size f aG)) (leaving (envOfC qual scope s.heap.objs.size f aG) (.ref e)) (fun _ s''=>eB P w outer H s E (.ref e) s'') (fun e' s''=>eB P w outer H s E e' s'') s'
 have fr:(A.deeper (envOfC qual scope s.heap.objs.size f aG)).frames=some (envOfC qual scope s.heap.objs.size f aG :: outer):=I.ok.frames
 have ff:s'.heap.FunFrames base (envOfC qual scope s.heap.objs.size f aG :: outer):=I.stack
 have free:∀ b∈(envOfC qual scope s.heap.objs.size f aG :: outer).filterMap (·.frame),H' b=none:=I.fG
 have big:∀ {b},iz (iJ (eB P w) P w K mg base N qual scope f aG A outer s H E) pins H' b->s.heap.get? b=none:=fun {b} hb=>by
  rcases hb.2.2.2.1 with z | z
  ·exact absurd z (by show b ∉ ([]:List Addr);simp)
  ·exact z
 have hU:∀ {b o},s.heap.get? b=some o->b≠e/\b≠T0/\b≠s.heap.objs.size:=fun {b o} hb=>by
  have lt:=Heap.lt_size hb
  refine ⟨fun z=>?_,fun z=>?_,ZqZ lt⟩
  ·have:=big fe
   rw [<- z,hb] at this;cases this
  ·have:=big fT
   rw [<- z,hb] at this;cases this
 refine EX.Oa (base:=base) fr ff rfl h1 h5 h3 h4 ne t1 t2 t3 fun h' T lv=>?_
 have Ih:∀ {b},b∈(envOfC qual scope s.heap.objs.size f aG :: outer).filterMap (·.frame)->b=s.heap.objs.size\/b∈gg outer:=fun {b} hb=>by
  rw [Zqm] at hb
  exact ZpE.mp hb
 have toS:∀ {b},b∈gg outer->b∈(envOfC qual scope s.heap.objs.size f aG :: outer).filterMap (·.frame):=fun {b} hb=>by
  rw [Zqm]
  exact ZpR _ hb
 have B:=I.base
 have EB:s.heap.objs.size<=s'.heap.objs.size:=I.sz
 have kp:∀ b u,H' b≠none->s'.heap.get? b=some u->h'.get? b=some u:=fun b u nb hb=>by
  refine lv.keep b u (fun z=>nb (free b z)) (fun z=>nb (by rw [z];exact fe.1)) (fun z=>nb (by rw [z];exact fT.1)) hb
 have gT:s.heap.get? T=none:=by
  rcases lv.tn with z | z
  ·rw [z];exact big fT
  ·exact Heap.get?_none_of_le (Zq0 EB z)
 have vz:T≠e:=by
  rcases lv.tn with z | z
  ·rw [z];exact ne
  ·exact Zq2 (Zq1 (Heap.lt_size h1) z)
 have T4:H' T=none:=by
  rcases lv.tn with z | z
  ·rw [z];exact fT.1
  ·exact I.aB.fresh z
 refine ⟨e,T,C,H',rfl,I.os,I.bare,⟨fun b o e1 n hb hx=>?_,fun b o e1 n hb hx=>?_,fun b o e1 n hx=>B.free b o e1 n hx,fun b o e1 hx=>?_,B.eT,B.d9,B.eZ⟩,fun b u e1=>?_,big fe,gT,vz,fe.1,T4,?_,lv.tb,q⟩
 ·obtain ⟨z1,z2,z3⟩:=hU e1
  refine lv.keep b o (fun z=>?_) z1 z2 (B.keep b o e1 n hb hx)
  rcases Ih z with z | z
  ·exact z3 z
  ·exact hb z
 ·obtain ⟨sl,e2⟩:=B.slot b o e1 n hb hx
  obtain ⟨sl',e3⟩:=lv.slot b _ (toS hb) e2
  exact ⟨sl',e3⟩
 ·obtain ⟨o',e2⟩:=B.there b o e1 hx
  obtain ⟨z1,z2,z3⟩:=hU e1
  by_cases hS:b∈(envOfC qual scope s.heap.objs.size f aG :: outer).filterMap (·.frame)
  ·obtain ⟨sl,e3⟩:=lv.slot b _ hS e2
   exact ⟨_,e3⟩
  ·exact ⟨o',lv.keep b o' hS z1 z2 e2⟩
 ·refine (I.aB b u e1).fV (fun c v hc hv=>kp c v (fun z=>?_) hv) (fun _ z=>z) fun _ _ z=>z
  rcases hc with y | y
  ·rw [y,e1] at z;cases z
  ·rw [y] at z;cases z
 ·obtain ⟨oe',vs',y1,y2,y3,y4,y5⟩:=lv.exc
  exact ⟨oe',vs',y1,y2.trans h2,y3,y4,y5⟩
end
section
variable {X:Cx}{pins:List (Addr × Obj)}{σ:St}{H:Hp}{s:Shared}
theorem note {e C:Addr}{Q:Unit->Shared->Prop} (I:Inv X pins σ H s) (hs:X.stack=X.env :: X.outer/\X.env.frame=some X.env.locals) (fl:mF X pins H e C s)
  (q:∀ h' T,Inv X pins σ H { s with heap:=h' }->Here X pins H e C T { s with heap:=h' }->(∀ b o,b ∉ gg X.stack->iz X pins H b\/True->(∀ v,o.data≠.fields v)->s.heap.get? b=some o->h'.get? b=some o)->Q () { s with heap:=h' }) {E:Value->Shared->Prop} :
  wpAny (model X.prog X.w) X.A (noteFrame (.ref e) X.env) Q E s:=by
 obtain ⟨fe,oe,vs,old,h1,h2,h3,tr,iq,fo⟩:=fl
 have fr:X.A.frames=some (X.env :: X.outer):=by rw [I.ok.frames,hs.1]
 have ff:s.heap.FunFrames X.base (X.env :: X.outer):=by rw [<- hs.1];exact I.stack
 have GL:∀ b o,b∈old->s.heap.get? b=some o->∃ v,o.data=.fields v:=fun b o hb ho=>by
  rcases tr with ⟨_,rfl⟩ | ⟨T0,oT,ts,rfl,_,_,hT,jC,_⟩
  ·simp at hb
  ·rw [ZpQ.mp hb,hT] at ho
   cases ho
   exact ⟨ts,jC⟩
 refine EX.zu fr ff hs.2 h1 iq h3 tr fun h' T lv=>?_
 have es:gg X.stack=(X.env :: X.outer).filterMap (·.frame):=by rw [hs.1];rfl
 have I2:Inv X pins σ H { s with heap:=h' }:=by
  refine I.turn (l:=e :: old) (fun b hb=>?_) (fun b o hb hl ho=>?_) (fun b o hb ho=>?_)
  ·rcases ZpE.mp hb with z | z
   ·rw [z];exact fe
   ·exact fo b z
  ·rw [es] at hb
   exact lv.keep b o hb (fun z=>hl (by simp [z])) (fun z=>hl (by simp [z])) ho
  ·rw [es] at hb
   exact lv.slot b o hb ho
 have gT:s.heap.get? T=none:=Heap.get?_none_of_le lv.ge
 refine q h' T I2 ⟨fe,I.kQ gT (I.aB.i3 gT),?_,?_,?_⟩ fun b o hb _ hnf ho=>?_
 ·exact Zq2 (Zq1 (Heap.lt_size h1) lv.ge)
 ·obtain ⟨oe',vs',y1,y2,y3,y4,y5⟩:=lv.exc
  exact ⟨oe',vs',y1,y2.trans h2,y3,y4,y5⟩
 ·obtain ⟨oT,ts,y1,y2,y3⟩:=lv.tb
  exact ⟨oT,ts,_,y1,y2,y3⟩
 ·rw [es] at hb
  refine lv.keep b o hb (fun z=>?_) (fun z=>?_) ho
  ·rw [z,h1] at ho
   cases ho
   exact hnf vs h3
  ·obtain ⟨v,hv⟩:=GL b o z ho
   exact hnf v hv
end
noncomputable def jG (X:Cx) (scope:Scope) (N:List Str) (C:Addr) (s:Shared) (H:Hp) (fp:List Addr) (E:XK):Cx :=
 { iW X scope N C s H fp with xe:=fun er s'=>∃ e Cc σ' H',er=.ref e/\Inv (iW X scope N C s H fp) [] σ' H' s'/\mF (iW X scope N C s H fp) [] H' e Cc s'/\E (.ref e) (some Cc) H' }
theorem KQ {X:Cx}{scope:Scope}{N:List Str}{C:Addr}{s:Shared}{H:Hp}{fp:List Addr}{E:XK}{pins:List (Addr × Obj)}{σ:St}{H':Hp}{s':Shared} (I:Inv (jG X scope N C s H fp E) pins σ H' s'):Inv (iW X scope N C s H fp) pins σ H' s':=by
 have K:=I.ok
 exact ⟨⟨K.mod,K.kind,K.glob,K.blt,K.above,K.inj,K.has,K.kW,K.hd,K.frames,K.lS,K.nK,K.bs,K.iO,K.fz,K.fL,K.cu,K.jB⟩,I.os,I.bare,I.base,I.loc,I.cell,I.free,I.bj,I.pin,I.aB,I.len⟩
theorem NF {X:Cx}{scope:Scope}{N:List Str}{C:Addr}{s:Shared}{H:Hp}{fp:List Addr}{E:XK}{pins:List (Addr × Obj)}{σ:St}{H':Hp}{s':Shared} (I:Inv (iW X scope N C s H fp) pins σ H' s'):Inv (jG X scope N C s H fp E) pins σ H' s':=by
 have K:=I.ok
 exact ⟨⟨K.mod,K.kind,K.glob,K.blt,K.above,K.inj,K.has,K.kW,K.hd,K.frames,K.lS,K.nK,K.bs,K.iO,K.fz,K.fL,K.cu,K.jB⟩,I.os,I.bare,I.base,I.loc,I.cell,I.free,I.bj,I.pin,I.aB,I.len⟩
theorem Dg {X:Cx}{scope:Scope}{N:List Str}{C:Addr}{s:Shared}{H:Hp}{fp:List Addr}{E:XK}:vC (jG X scope N C s H fp E) E:=by
 intro pins σ H' s' e Cc I fl q
 have I2:=KQ I
 refine ⟨e,Cc,σ,H',rfl,⟨I2.ok,I2.os,I2.bare,I2.base,I2.loc,I2.cell,I2.free,I2.bj,fun p hp=>I2.pin p (Zqb _ (by rwa [Zp4] at hp)),I2.aB,I2.len⟩,?_,q⟩
 have down:∀ {b},iz (jG X scope N C s H fp E) pins H' b->iz (iW X scope N C s H fp) [] H' b:=fun {b} h=>⟨h.1,h.2.1,h.2.2.1,h.2.2.2.1,h.2.2.2.2.1,fun p hp=>h.2.2.2.2.2 p (Zqb _ (by rwa [Zp4] at hp))⟩
 obtain ⟨oe,vs,old,a1,a2,a3,a4,a5,a6⟩:=fl.obj
 exact ⟨down fl.fe,oe,vs,old,a1,a2,a3,a4,a5,fun b hb=>down (a6 b hb)⟩
theorem O0 {X:Cx}{elt tg iter:Expr}{ifs:List Expr}{scope:Scope}{pos:Pos}{it D:Addr}{fp:List Addr}{tn:Nat->Heap->Prop}{J:It}{g:TG}{tt:TT}{te:TE}{W:Nat->Nat->St->Hp->Prop}{R:Result->Shared->Prop}{QQ:Hp->Prop}
  (hx:∀ er s',X.xe er s'->notedBy (model X.prog X.w) X.A X.env (fun er s''=>R (.error er) s'') er s') (hc:X.calm=true) (T:Turn X.prog X.w X.K tg J fp it tn) (hg:PG X tg g) (ht:mX X ifs tt) (he:PE X elt te)
  (D5:∀ b∈fp,b≠X.env.locals/\b ∉ X.fs/\(b∈X.ex\/X.s₀.heap.objs.size<=b)/\(∀ x c,X.env.cells.lookup x=some c->c≠b)/\∀ p∈X.pn ++ [],p.1≠b)
  (turn:∀ i m σ2 H2,W i m σ2 H2 ->
   (J.stop i H2/\QQ H2)\/(J.go i H2/\∀ x H3,J.jm i H2 x H3->g x σ2 H3 fun σ4 H4=>tt σ4 H4 fun b H5 =>
    if b=true then te σ4 H5 fun v H6=>∃ ys,H6 D=some (.lst ys)/\ys.length<sizeLine/\∃ m',m'<m/\W (i+1) m' σ4 (upd H6 D (.lst (ys ++ [v]))) else ∃ m',m'<m/\W (i+1) m' σ4 H5))
  (hR:∀ s' σ' H',Inv X [] σ' H' s'->QQ H'->R (.ok .next) s') {s:Shared} (m0:Nat) (h:∃ i σ' H',Inv X [] σ' H' s/\tn i s.heap/\(∀ b∈fp,H' b=none)/\W i m0 σ' H') :
  codeAny (model X.prog X.w) X.A (.compLoop (.ListComp elt [⟨tg,iter,ifs,0⟩] scope pos) 0 (.ref it) (.ref D) X.env) R s:=by
 have stat:∀ {H':Hp},(∀ b∈fp,H' b=none)->∀ b∈fp,i5 X [] H' b:=fun hn b hb=>⟨hn b hb,D5 b hb⟩
 have jS:∀ {α:Type}{t:Sem α}{Q:α->Shared->Prop}{s:Shared},wpAny (model X.prog X.w) X.A t Q X.xe s->wpAny (model X.prog X.w) X.A t Q (notedBy (model X.prog X.w) X.A X.env (fun er s''=>R (.error er) s'')) s:=fun {α t Q s} h=>wpAny_mono h (fun _ _ x=>x) hx
 refine codeAny_loop rfl (fun n s'=>∃ i σ' H',Inv X [] σ' H' s'/\tn i s'.heap/\(∀ b∈fp,H' b=none)/\W i n σ' H') (fun n s3 hI=>?_) m0 h
 obtain ⟨i,σ3,H3,I3,st3,fr3,w3⟩:=hI
 show wpAny _ X.A ((compTurn (.ListComp elt [⟨tg,iter,ifs,0⟩] scope pos) 0 (.ref it) (.ref D) X.env).onRaise (fun x=>do noteFrame x X.env;theTreesLotGoes x)) _ _ s3
 refine wpAny_noted ?_
 rw [compTurn_list]
 rcases turn i n σ3 H3 w3 with ⟨stop,qn⟩ | ⟨go,step⟩
 ·refine wpAny_bind (wpAny_standAt (wpAny_bind (aE (jS (T.done X rfl rfl rfl hc i [] s3 σ3 H3 X.xe I3 (stat fr3) st3 stop)) fun r s4 ⟨hr,I4⟩=>?_)))
  subst hr
  exact wpAny_pure (hR s4 σ3 H3 I4 qn)
 ·refine wpAny_bind (wpAny_standAt (wpAny_bind (aE (jS (T.item X rfl rfl rfl hc i [] s3 σ3 H3 X.xe I3 (stat fr3) st3 go)) fun r s4 ⟨u,hr,h4⟩=>?_)))
  subst hr
  refine wpAny_bind (aE (jS h4) fun _ s5 ⟨x,H5,I5,r5,y5,st5,fr5⟩=>?_)
  have I5':=I5.pinned (stat fr5) (T.obj _ _ st5)
  refine wpAny_bind (aE (jS (hg _ s5 σ3 H5 x u _ I5' r5 (step x H5 y5))) fun _ s6 ⟨σ6,H6,I6,q6⟩=>?_)
  refine wpAny_bind (aE (jS (ht _ s6 σ6 H6 _ I6 q6)) fun ok s7 ⟨H7,I7,q7⟩=>?_)
  have again:∀ {s8:Shared}{H8:Hp},Inv X ([] ++ vY fp s5.heap) σ6 H8 s8->(∃ m',m'<n/\W (i+1) m' σ6 H8)->∃ m,m<n/\∃ i σ' H',Inv X [] σ' H' s8/\tn i s8.heap/\(∀ b∈fp,H' b=none)/\W i m σ' H':=fun {s8 H8} I8 n8=>by
   obtain ⟨m',hm,w8⟩:=n8
   refine ⟨m',hm,i+1,σ6,H8,I8.dM,T.keep _ _ _ st5 fun b hb o e=>(I8.pin (b,o) (ZpT _ (ZpT _ (vx hb e)))).1,fun b hb=>?_,w8⟩
   obtain ⟨o,e,d⟩:=T.obj _ _ st5 b hb
   exact (I8.pin (b,o) (ZpT _ (ZpT _ (vx hb e)))).2.1
  cases ok with
  | false=>exact wpAny_pure ⟨rfl,again I7 q7⟩
  | true =>
   refine wpAny_bind (wpAny_bind (aE (jS (he _ s7 σ6 H7 _ I7 q7)) fun y s8 ⟨v,H8,I8,r8,ys,hys,hl,q8⟩=>?_))
   refine wpAny_bind (aE (jS (qo _ s8 σ6 H8 (.ref D) [v] (.ref D) [y] (fun _ H9=>∃ m',m'<n/\W (i+1) m' σ6 H9) I8 rfl (.cons r8 .nil) ⟨D,ys,v,rfl,rfl,hys,hl,q8⟩)) fun _ s9 ⟨_,H9,I9,_,q9⟩=>?_)
   exact wpAny_pure (wpAny_pure ⟨rfl,again I9 q9⟩)
theorem Nj {X:Cx}{pins:List (Addr × Obj)}{σ:St}{elt tg iter:Expr}{ifs:List Expr}{scope:Scope}{pos:Pos}{N:List Str}{k:Nat}{sel:List Nat}{g:TG}{tt:TT}{te:TE}{lZ:Value}{s2:Shared}{QQ:VK}{use:Option (Value->Sem Unit)}{Qv:Value->Shared->Prop}{E:XK}
  (S:aD X scope) (M:aF X scope N k sel) (hc:X.calm=true)
  (hs:X.stack=X.env :: X.outer/\X.env.frame=some X.env.locals) (AU:nN X E)
  (hg:∀ C s H fp,PG (jG X scope N C s H fp E) tg g) (ht:∀ C s H fp,mX (jG X scope N C s H fp E) ifs tt) (he:∀ C s H fp,PE (jG X scope N C s H fp E) elt te)
  (fin:∀ D C s' H',Inv X pins σ H' s'->mG X pins H' C s'->QQ (.ref D) H'->compPost (model X.prog X.w) X.A X.xe use Qv (.ref D) C (.ok .next) s')
  (h2:yu X pins σ tg (fun J H1=>∀ p,H1 p=none->∃ W:Nat->Nat->St->Hp->Prop,(∃ m,W 0 m (cst σ k sel) (upd H1 p (.lst [])))/\∀ i m σ2 H2,W i m σ2 H2 ->
   (J.stop i H2/\QQ (.ref p) H2)\/(J.go i H2/\∀ x H3,J.jm i H2 x H3->g x σ2 H3 fun σ4 H4=>tt σ4 H4 fun b H5 =>
    if b=true then te σ4 H5 fun v H6=>∃ ys,H6 p=some (.lst ys)/\ys.length<sizeLine/\∃ m',m'<m/\W (i+1) m' σ4 (upd H6 p (.lst (ys ++ [v]))) else ∃ m',m'<m/\W (i+1) m' σ4 H5)) lZ s2) :
  wpAny (model X.prog X.w) X.A (newList []) (fun acc s₃=>wpAny (model X.prog X.w) X.A (newFunctionEnv scope X.env.globals (ib X.env scope.names []) [] X.env.qual none .none (some X.env)) (fun lg s₄ =>
   codeAny (model X.prog X.w) X.A (.compStart (.ListComp elt [⟨tg,iter,ifs,0⟩] scope pos) 0 lZ acc { lg with scope:=relabel scope X.env }) (compPost (model X.prog X.w) X.A X.xe use Qv acc lg.locals) s₄) X.xe s₃) X.xe s2:=by
 obtain ⟨it,fp,tn,J,H2,rfl,I2,T,st2,f2,R2⟩:=h2
 have hD:H2 s2.heap.objs.size=none:=I2.aB.fresh (ZqY _)
 obtain ⟨W,⟨m0,w0⟩,turn⟩:=R2 _ hD
 refine wpAny_newObj_type ?_
 have I3:=I2.oG (its:=[]) (ys:=[]) (t':=s2.toks) .nil (Zq3 _)
 generalize hs3:({ s2 with heap:=s2.heap.push { cls:=.type "list",data:=.seq ([]:List Value).toArray },toks:=s2.toks }:Shared)=s3 at I3
 have e3:({ s2 with heap:=s2.heap.push { cls:=.type "list",dict:=none,data:=.seq ([]:List Value).toArray } }:Shared)=s3:=by rw [<- hs3]
 have up:∀ b o,s2.heap.get? b=some o->s3.heap.get? b=some o:=fun b o e=>by rw [<- hs3];exact Heap.get?_push_of_some _ e
 have hsz:s2.heap.objs.size<=s3.heap.objs.size:=by rw [<- hs3];show _<=(s2.heap.push _).objs.size;rw [Heap.size_push];exact Zq8 _
 have ml:∀ b∈fp,b<s2.heap.objs.size:=fun b hb=>by
  obtain ⟨o,e,_⟩:=T.obj _ _ st2 b hb
  exact Heap.lt_size e
 have dw:∀ b∈fp,b<s3.heap.objs.size:=fun b hb=>Zq1 (ml b hb) hsz
 have f3:∀ b∈fp,i5 X pins (upd H2 s2.heap.objs.size (.lst [])) b:=fun b hb=>⟨by rw [bo (ZqZ (ml b hb))];exact (f2 b hb).1,(f2 b hb).2⟩
 refine wpAny_newFunctionEnv S.j8 (by intro y hy;simp at hy) (fun h₁ hns₁ hsb₁=>?_) S.kind
 have AM:∀ b o,s3.heap.get? b=some o->h₁.get? b=some o:=fun b o e=>hsb₁.extBut b o (ZqZ (Heap.lt_size e)) (Heap.get?_push_of_some _ e)
 have Ic:=IZ (N:=N) (k:=k) (sel:=sel) (t':=s3.toks+([]:List (Str × Value)).length) S M I3 f3 dw hns₁ AM
 have xj:tn 0 h₁:=T.keep _ _ _ st2 fun b hb o e=>AM b o (up b o e)
 have fr:∀ b∈fp,(upd H2 s2.heap.objs.size (.lst [])) b=none:=fun b hb=>(f3 b hb).1
 have Th:s3.heap.objs.size ∉ gg X.stack:=fun hb=>by
  obtain ⟨_,o,ho,_⟩:=I3.stack.mem hb
  exact absurd (Heap.lt_size ho) (Zq6 _)
 have z6:∀ er s',(jG X scope N s3.heap.objs.size s3 (upd H2 s2.heap.objs.size (.lst [])) fp E).xe er s'->notedBy (model X.prog X.w) X.A (jG X scope N s3.heap.objs.size s3 (upd H2 s2.heap.objs.size (.lst [])) fp E).env (fun er s''=>compPost (model X.prog X.w) X.A X.xe use Qv (.ref s2.heap.objs.size) s3.heap.objs.size (.error er) s'') er s':=by
  rintro er s' ⟨e,Cc,σ',H',rfl,I',fl,q⟩
  have Ie:Inv X pins σ H' s':=I3.m8 (ch:=fp) I'.os I'.base I'.aB I'.bare fun b hb=>⟨(f3 b hb).2.2.2.1,(f3 b hb).2.1,(f3 b hb).2.2.2.2.1,(f3 b hb).2.2.2.2.2⟩
  have F:mG X pins H' s3.heap.objs.size s':=by
   refine ⟨I'.free,?_,Zq0 I3.sz (ZqY _),fun x c e=>?_,fun p hp=>?_,?_⟩
   ·exact Ne.symm (ZqZ I3.lt)
   ·obtain ⟨v,o,ho,_⟩:=I3.cell x c e
    exact ZqZ (Heap.lt_size ho)
   ·exact ZqZ (Heap.lt_size (I3.pin p hp).1)
   ·obtain ⟨m,hn,_⟩:=I'.loc
    exact ⟨m,hn⟩
  have LK:∀ {b},iz (iW X scope N s3.heap.objs.size s3 (upd H2 s2.heap.objs.size (.lst [])) fp) [] H' b->iz X pins H' b:=fun {b} h=>by
   rcases h.2.2.2.1 with z | z
   ·have f:=f3 b z
    refine ⟨h.1,f.2.1,f.2.2.1,?_,f.2.2.2.2.1,f.2.2.2.2.2⟩
    rcases f.2.2.2.1 with y | y
    ·exact .inl y
    ·exact .inr (Heap.get?_none_of_le y)
   ·exact I3.kQ z h.1
  obtain ⟨oe,vs,old,a1,a2,a3,a4,a5,a6⟩:=fl.obj
  have Um:mF X pins H' e Cc s':=⟨LK fl.fe,oe,vs,old,a1,a2,a3,a4,a5,fun b hb=>LK (a6 b hb)⟩
  show wpAny (model X.prog X.w) X.A (noteFrame (.ref e) X.env) _ _ s'
  refine note Ie hs Um fun h' T I1 hr kp=>?_
  obtain ⟨m,oC,es,ep,hoC,hdC,hk⟩:=F.ns
  have hC':h'.get? s3.heap.objs.size=some oC:=kp _ oC Th (.inr trivial) (fun v z=>by rw [hdC] at z;cases z) hoC
  refine ⟨m,⟨oC,es,ep,hC',hdC,hk⟩,fun h'' hsb lg hce=>?_⟩
  have I2:Inv X pins σ H' { s' with heap:=h'' }:=I1.turned (t':=s'.toks) (fun b o hb e=>hsb.extBut b o hb e) F.none F.ne (.inr F.above) F.cells F.pins
  obtain ⟨fe,fT,ne,⟨oe2,vs2,g1,g2,g3,g4,g5⟩,⟨oT,ts,v,t1,t2,t3⟩⟩:=hr
  have vQ:e≠s3.heap.objs.size:=fun z=>by
   have g1':h'.get? e=some oe2:=g1
   rw [z,hC'] at g1'
   cases g1'
   rw [hdC] at g3
   cases g3
  have NB:T≠s3.heap.objs.size:=fun z=>by
   have t1':h'.get? T=some oT:=t1
   rw [z,hC'] at t1'
   cases t1'
   rw [hdC] at t2
   cases t2
  have e1:h''.get? e=some oe2:=(hsb.2 e vQ).trans g1
  have u1:h''.get? T=some oT:=(hsb.2 T NB).trans t1
  have vF:3<ts.size:=(Zro.mp t3).1
  have rL:∀ b,b∈gg X.stack->b≠T:=fun b hb z=>by
   obtain ⟨_,o,ho,nf⟩:=I2.stack.mem hb
   rw [z] at ho
   have:o=oT:=Option.some.inj (ho.symm.trans u1)
   subst this
   exact nf ts t2
  unfold PySem.passOn
  refine wpAny_bind (wpAny_field e1 g3 g4 ?_)
  rw [if_neg (show ¬ ((Value.ref T == Value.none)=true) by simp)]
  have step:∀ fo:Option Addr,wpAny (model X.prog X.w) X.A (do setFlight (.ref e) fo;throw (.ref e):Sem Value) (fun _ _=>False) X.xe { s' with heap:=h'' }:=fun fo=>by
   unfold setFlight
   refine wpAny_bind (wpAny_bind (wpAny_field e1 g3 g4 ?_))
   rw [if_pos (show (Value.ref T != Value.none)=true by simp)]
   refine wpAny_setField u1 t2 vF ?_
   have d4:=Obj.data_mapFields t2 (·.setIfInBounds 3 (fo.elim Value.none fun f=>rawInt f))
   have ot:∀ b,b≠T->(h''.update T (Obj.mapFields (·.setIfInBounds 3 (fo.elim Value.none fun f=>rawInt f)))).get? b=h''.get? b:=fun b hb=>Heap.get?_update_other _ _ (Ne.symm hb)
   refine wpAny_throw (AU pins σ H' _ e Cc T (I2.turn (l:=[T]) (fun b hb=>?_) (fun b o hb hl ho=>?_) fun b o hb ho=>?_) ⟨fe,fT,ne,⟨oe2,vs2,(ot e (Ne.symm ne)).trans e1,g2,g3,g4,g5⟩,⟨_,_,fo.elim Value.none fun f=>rawInt f,Heap.get?_update_self _ u1 (Obj.isFreed_of_fields d4),d4,by simp [vF]⟩⟩ q)
   ·rw [ZpQ.mp hb];exact fT
   ·exact (ot b (fun z=>hl (by simp [z]))).trans ho
   ·exact ⟨o.slots,(ot b (rL b hb)).trans ho⟩
  first
   | exact wpAny_bind (wpAny_pure (step _))
   | exact step _
 have loop:codeAny (model X.prog X.w) X.A (.compLoop (.ListComp elt [⟨tg,iter,ifs,0⟩] scope pos) 0 (.ref it) (.ref s2.heap.objs.size) (compEnvC scope (ib X.env scope.names []) s3.heap.objs.size X.env))
   (compPost (model X.prog X.w) X.A X.xe use Qv (.ref s2.heap.objs.size) s3.heap.objs.size) { s3 with heap:=h₁,toks:=s3.toks+([]:List (Str × Value)).length }:=by
  refine O0 (X:=jG X scope N s3.heap.objs.size s3 (upd H2 s2.heap.objs.size (.lst [])) fp E) (QQ:=fun H'=>QQ (.ref s2.heap.objs.size) H') (W:=W) z6 hc T (hg _ _ _ _) (ht _ _ _ _) (he _ _ _ _) (fun b hb=>?_) turn (fun s' σ' H' I' q'=>?_) m0 ⟨0,cst σ k sel,_,NF Ic,xj,fr,w0⟩
  ·refine ⟨ZqZ (dw b hb),?_,.inl hb,fun x c h=>(f3 b hb).2.2.2.2.1 x c (px S I3.ok h),fun p hp=>absurd (show p∈([]:List (Addr × Obj)) from hp) (by simp)⟩
   exact (Hh (N:=N) S I3 f3 dw).fL b hb
  ·have I':=KQ I'
   have Ie:Inv X pins σ H' s':=I3.m8 (ch:=fp) I'.os I'.base I'.aB I'.bare fun b hb=>⟨(f3 b hb).2.2.2.1,(f3 b hb).2.1,(f3 b hb).2.2.2.2.1,(f3 b hb).2.2.2.2.2⟩
   refine fin _ _ s' H' Ie ⟨I'.free,?_,Zq0 I3.sz (ZqY _),fun x c e=>?_,fun p hp=>?_,?_⟩ q'
   ·exact Ne.symm (ZqZ I3.lt)
   ·obtain ⟨v,o,ho,_⟩:=I3.cell x c e
    exact ZqZ (Heap.lt_size ho)
   ·exact ZqZ (Heap.lt_size (I3.pin p hp).1)
   ·obtain ⟨m,hn,_⟩:=I'.loc
    exact ⟨m,hn⟩
 exact codeAny_compStart_list loop (T.self X.A 0 _ _ _ xj loop)
section
variable {X:Cx}{elt tg iter:Expr}{ifs:List Expr}{scope:Scope}{pos:Pos}{N:List Str}{k:Nat}{sel:List Nat}{wi:TI}{g:TG}{tt:TT}{te:TE}{E:XK}
theorem Tu (S:aD X scope) (M:aF X scope N k sel) (hc:X.calm=true) (lY:X.stack=X.env :: X.outer/\X.env.frame=some X.env.locals) (AU:nN X E) (hi:PI X tg iter wi)
  (hg:∀ C s H fp,PG (jG X scope N C s H fp E) tg g) (ht:∀ C s H fp,mX (jG X scope N C s H fp E) ifs tt) (he:∀ C s H fp,PE (jG X scope N C s H fp E) elt te)
  (hs:∀ x,foldedSetIterable iter X.env x=pure x:=by intro _;rfl):PE X (.ListComp elt [⟨tg,iter,ifs,0⟩] scope pos) (eg wi k sel g tt te):=by
 intro pins s σ H Q I h
 rw [eval_ListComp]
 refine wpAny_comprehension_free (use:=none) rfl hs (CY (S.has I.ok)) S.kind S.names (aE (hi pins s σ H _ I h) fun v s1 h1=>aE h1 fun lZ s2 h2=>?_)
 refine Nj (QQ:=Q) S M hc lY AU hg ht he (fun D C s' H' I' F q=>?_) h2
 obtain ⟨m,hn⟩:=F.ns
 exact ⟨m,hn,fun h' hsb=>⟨.ref D,H',I'.turned (t':=s'.toks) (fun b o hb e=>hsb.extBut b o hb e) F.none F.ne (.inr F.above) F.cells F.pins,rfl,q⟩⟩
theorem J8 {i:Nat}{y:Str}{py m7:Pos} (S:aD X scope) (M:aF X scope N k sel) (hc:X.calm=true) (lY:X.stack=X.env :: X.outer/\X.env.frame=some X.env.locals) (AU:nN X E) (hi:PI X tg iter wi)
  (hg:∀ C s H fp,PG (jG X scope N C s H fp E) tg g) (ht:∀ C s H fp,mX (jG X scope N C s H fp E) ifs tt) (he:∀ C s H fp,PE (jG X scope N C s H fp E) elt te)
  (hN:X.N.Nodup) (Ia:X.N[i]? = some y) (hy:Loc X.env.scope y)
  (Gn:swapsWith (.ListComp elt [⟨tg,iter,ifs,0⟩] scope pos) (some (.Name y py)) m7.line X.env=pure true)
  (hs:∀ x,foldedSetIterable iter X.env x=pure x:=by intro _;rfl) (hf:X.fn y=true\/X.env.scope.names.lookup y=some .local:=by first | exact .inl rfl | exact .inr rfl | assumption) :
  PS X (.Assign [.Name y py] (.ListComp elt [⟨tg,iter,ifs,0⟩] scope pos) m7) (bG (eg wi k sel g tt te) (aK i)):=by
 intro pins s σ H D I h
 rw [exec_Assign_Name_used _ _ _ _ Gn]
 refine wpAny_bind (wpAny_standAt (wpAny_bind ?_))
 show wpAny _ X.A (do let _ <- comprehension (.ListComp elt [⟨tg,iter,ifs,0⟩] scope pos) scope X.env _ (newList []) false (eval iter X.env) (some (assign (.Name y py) X.env))) _ _ s
 refine wpAny_bind (wpAny_mono (wpAny_comprehension_free (use:=some (assign (.Name y py) X.env)) (Q:=fun _ s'=>SP X pins D .next s') rfl hs (CY (S.has I.ok)) S.kind S.names
  (aE (hi pins s σ H _ I h) fun v s1 h1=>aE h1 fun lZ s2 h2=>?_)) (fun _ s' hq=>wpAny_pure (wpAny_pure hq)) fun _ _ e=>e)
 refine Nj (QQ:=fun v H1=>D.nx (σ.set i (some v)) H1) S M hc lY AU hg ht he (fun Da C s' H' I' F q=>?_) h2
 show wpAny _ X.A (assign (.Name y py) X.env (.ref Da)) _ _ _
 refine wpAny_assign_Name (Hw I' hN Ia hy (v:=.ref Da) rfl (fun s'' I'' jk=>?_) hf)
 obtain ⟨m,hn⟩:=F.ns
 obtain ⟨a,hsb,ha⟩:=jk
 have F3:C≠a:=by
  rcases ha with ha | ha
  ·rw [ha];exact F.ne
  ·exact Ne.symm (F.cells _ _ ha)
 refine ⟨m,hn.sameBut hsb F3,fun h' hsb'=>⟨σ.set i (some (.ref Da)),H',I''.turned (t':=s''.toks) (fun b o hb e=>hsb'.extBut b o hb e) F.none F.ne (.inr F.above) F.cells F.pins,q⟩⟩
end
noncomputable def GO:V->List V->Hp->VK->Prop:=fun x vs H Q=>match x,vs with
 | .str z,[]=>z.length<=10000/\Q (.str (Txt.upper z)) H
 | _,_=>False
theorem NJ {X:Cx}:nq X "str.upper" GO:=by
 intro pins s σ H x vs v us Q I rx rv h
 cases x with
 | str z =>
  match vs,h with
  | [],h =>
   obtain ⟨hz,q⟩:=h
   obtain ⟨t,rfl⟩:=rx
   cases rv
   exact SCL.upper (by omega) fun _=>⟨.str _,H,I.tok _,⟨_,rfl⟩,q⟩
 | _=>exact False.elim h
noncomputable def HX:V->List V->Hp->VK->Prop:=fun x vs H Q=>match vs with
 | [.int i,y]=>∃ l xs,x=.ref l/\H l=some (.lst xs)/\0<=i/\i<=xs.length/\xs.length<sizeLine/\Q .non (upd H l (.lst (xs.take i.toNat ++ y :: xs.drop i.toNat)))
 | _=>False
noncomputable def CT (t:TE) (y z:Str):TE:=fun σ H Q=>t σ H fun x H1=>match x with | .str s=>s.length<=10000/\Q (.str (Txt.replace s y z)) H1 | _=>False
noncomputable def uR (x y z:Str):Str :=
 if ((Builtin.Str.occurrences x y 0 x.length 1).isEmpty || (y.length == 0 && z.length == 0))=true then x
 else Builtin.Str.glued z (Builtin.Str.partsBetween x (Builtin.Str.occurrences x y 0 x.length 1) y.length)
noncomputable def Fm (t:TE) (y z:Str):TE:=fun σ H Q=>t σ H fun x H1=>match x with | .str s=>s.length<=10000/\Q (.str (uR s y z)) H1 | _=>False
section
variable {X:Cx}{a b e o:Expr}{es:List Expr}{ta tb te to:TE}{t:TA}{tt:TT}{pos apos aU:Pos}
noncomputable def C9 (X:Cx) (e:Expr) (t:TE):Prop:=∀ (pins:List (Addr × Obj)) (s:Shared) (σ:St) (H:Hp) (Q:VK),Inv X pins σ H s->t σ H Q->wpAny (model X.prog X.w) X.A (eval e X.env) (fun v s'=>s'=s/\EP X pins σ Q v s') X.xe s
noncomputable def EK (X:Cx) (e:Expr) (t:TE):Prop:=∀ (pins:List (Addr × Obj)) (s:Shared) (σ:St) (H:Hp) (Q:VK),Inv X pins σ H s->t σ H Q->wpAny (model X.prog X.w) X.A (eval e X.env) (fun v s'=>0<s'.toks/\EP X pins σ Q v s') X.xe s
noncomputable def CI (X:Cx) (e:Expr) (t:TE):Prop:=∀ (pins:List (Addr × Obj)) (s:Shared) (σ:St) (H:Hp) (Q:VK),Inv X pins σ H s->0<s.toks->t σ H Q->wpAny (model X.prog X.w) X.A (eval e X.env) (fun v s'=>0<s'.toks/\EP X pins σ Q v s') X.xe s
noncomputable def B1 (X:Cx) (e:Expr) (t:TT):Prop:=∀ (pins:List (Addr × Obj)) (s:Shared) (σ:St) (H:Hp) (Q:Bool->Hp->Prop),Inv X pins σ H s->t σ H Q->wpAny (model X.prog X.w) X.A (isTrue e X.env (eval e X.env)) (fun c s'=>(c=true->0<s'.toks)/\TP X pins σ Q c s') X.xe s
noncomputable def wa (X:Cx) (e:Expr) (t:TT):Prop:=∀ (jK:Sem Value) (pins:List (Addr × Obj)) (s:Shared) (σ:St) (H:Hp) (Q:Bool->Hp->Prop),Inv X pins σ H s->t σ H Q->wpAny (model X.prog X.w) X.A (isTrue e X.env jK) (fun c s'=>(c=true->0<s'.toks)/\TP X pins σ Q c s') X.xe s
theorem wa.pt (h:wa X e tt):B1 X e tt:=h _
noncomputable def BH (X:Cx) (es:List Expr) (t:TA):Prop:=∀ (pos:Pos) (pins:List (Addr × Obj)) (s:Shared) (σ:St) (H:Hp) (Q:List V->Hp->Prop),Inv X pins σ H s->0<s.toks->t σ H Q->wpAny (model X.prog X.w) X.A (spliced (backTo pos (starEach es X.env))) (AP X pins σ Q) X.xe s
noncomputable def E8 (X:Cx) (st:Stmt) (t:TS):Prop:=∀ (pins:List (Addr × Obj)) (s:Shared) (σ:St) (H:Hp) (D:Ends),Inv X pins σ H s->0<s.toks->t D σ H->wpAny (model X.prog X.w) X.A (exec st X.env) (SP X pins D) X.xe s
noncomputable def zO (X:Cx) (st:List Stmt) (t:TS):Prop:=∀ (pins:List (Addr × Obj)) (s:Shared) (σ:St) (H:Hp) (D:Ends),Inv X pins σ H s->0<s.toks->t D σ H->wpAny (model X.prog X.w) X.A (execs st X.env) (SP X pins D) X.xe s
theorem EZ (i:Nat) {x:Str}{pos:Pos} (hN:X.N[i]? = some x:=by rfl) (hv:BN X.env.scope x:=by first | exact Or.inl rfl | exact Or.inr (Or.inl rfl) | exact Or.inr (Or.inr rfl)) (hd:(x == ("__debug__" : Str))=false:=by decide)
  (gm:(x == ("__classdict__" : Str))=false:=by decide):C9 X (.Name x pos) (aa i):=by
 intro pins s σ H Q I h
 obtain ⟨v,e,h⟩:=K8 h
 obtain ⟨m,hn,hl⟩:=I.loc
 obtain ⟨u,r,l⟩:=hl i x v hN e hv
 have fin:s=s/\EP X pins σ Q u s:=⟨rfl,v,H,I,r,h⟩
 rcases l with ⟨hk,hm⟩ | ⟨hk,c,hc,hcell⟩
 ·exact wpAny_Name (wpAny_loadName_local I.ok.kind hk hn hm fin) hd
 ·rcases hk with hk | hk
  ·exact wpAny_Name (wpAny_loadName_cell I.ok.kind hk hc hcell fin) hd
  ·exact wpAny_Name (wpAny_loadName_free I.ok.kind hk hc hcell fin gm) hd
theorem qH {x j pos}:EK X (.Constant (.str x) j pos) (tC (.str x)):=fun _ _ _ H _ I h=>Calls.Constant_str ⟨Zrb _,.str x,H,I.tok _,⟨_,rfl⟩,h⟩
theorem ux {i j pos}:EK X (.Constant (.int i) j pos) (tC (.int i)):=fun _ _ _ H _ I h=>wpAny_Constant_int ⟨Zrb _,.int i,H,I.tok _,⟨_,rfl⟩,h⟩
noncomputable def nR:R2:=fun x y H Q=>match x,y with | .int i,.int j=>Q (.bl (decide (i=j))) H | .str i,.str j=>Q (.bl (decide (i=j))) H | _,_=>False
theorem Nb (ha:PE X a ta) (hb:EK X b tb) (hm:behindInMarks .Eq b=false):B1 X (.Compare a [.Eq] [b] pos) (bK (af nR ta tb)):=by
 rw [FL]
 intro pins s σ H Q I h
 refine wpAny_isTrue_Compare1 (aE (ha pins s σ H _ I h) fun v s1 ⟨x,H1,I1,r1,q1⟩=>aE (hb pins s1 σ H1 _ I1 q1) fun u s2 ⟨hp,y,H2,I2,r2,q2⟩=>?_) hm
 match x,y,q2 with
 | .int i,.int j,q2 =>
  obtain ⟨t1,rfl⟩:=r1
  obtain ⟨t2,rfl⟩:=r2
  obtain ⟨k,ek,q3⟩:=q2
  refine eq_int ?_
  refine wpAny_truthy_bool ⟨fun _=>hp,H2,I2,?_⟩
  have:decide (i=j)=k:=V.bl.inj ek
  rw [show (i == j)=k from Eq.trans (by rw [Zru];simp) this]
  exact q3
 | .str i,.str j,q2 =>
  obtain ⟨t1,rfl⟩:=r1
  obtain ⟨t2,rfl⟩:=r2
  obtain ⟨k,ek,q3⟩:=q2
  refine eq_str ?_
  refine wpAny_truthy_bool ⟨fun _=>hp,H2,I2,?_⟩
  have:decide (i=j)=k:=V.bl.inj ek
  rw [show (i == j)=k from Eq.trans (by rw [Zru];simp) this]
  exact q3
theorem KO {c:Expr}{xs ys:List Stmt}{tc:TT}{t u:TS} (hc:B1 X c tc) (ha:zO X xs t) (hb:gy X ys u):PS X (.If c xs ys pos) (cM tc t u):=by
 intro pins s σ H D I h
 refine wpAny_If (aE (hc pins s σ H _ I h) fun d s1 ⟨hp,H1,I1,q1⟩=>?_)
 cases d with
 | true=>exact ha pins s1 σ H1 D I1 (hp rfl) q1
 | false=>exact hb pins s1 σ H1 D I1 q1
theorem Up {tA:TT} (ha:B1 X a tA):wa X (.BoolOp .And [a] pos) tA:=by
 intro wh pins s σ H Q I h
 refine isTrue_and (aE (ha pins s σ H Q I h) fun c s1 e=>?_)
 cases c with
 | true=>exact isTrue_and_nil e
 | false=>exact e
theorem Ed {bD:List Expr}{tA qF:TT} (ha:PT X a tA) (hb:wa X (.BoolOp .And (b :: bD) pos) qF):wa X (.BoolOp .And (a :: b :: bD) pos) (pv tA qF):=by
 intro wh pins s σ H Q I h
 refine isTrue_and (aE (ha pins s σ H _ I h) fun c s1 ⟨H1,I1,q1⟩=>?_)
 cases c with
 | true=>exact hb wh pins s1 σ H1 Q I1 q1
 | false=>exact ⟨(fun z=>nomatch z),H1,I1,q1⟩
theorem Qf (he:CI X e te):E8 X (.Return (some e) pos) (cA te):=by
 intro pins s σ H D I hp h
 exact wpAny_Return_some (aE (he pins s σ H _ I hp h) fun v s1 ⟨_,x,H1,I1,r1,q1⟩=>⟨x,σ,H1,I1,r1,q1⟩)
theorem Lz {st:Stmt}{t:TS} (h1:E8 X st t):zO X [st] t:=by
 intro pins s σ H D I hp h
 refine wpAny_execs_cons (aE (h1 pins s σ H D I hp h) fun f s1 q=>?_)
 cases f with
 | next=>exact wpAny_execs_nil q
 | ret v=>exact q
 | brk=>exact q
 | cont=>exact q
theorem QN:BH X [] ar:=fun _ _ _ _ H Q I _ h=>Calls.spliced_nil ⟨[],H,I,.nil,h⟩
theorem L9 (ha:CI X e te) (hr:BH X es t) (hs:starEach (e :: es) X.env=(false,eval e X.env) :: starEach es X.env:=by rfl):BH X (e :: es) (ah te t):=by
 intro pos pins s σ H Q I hp h
 rw [hs]
 show wpAny _ _ (spliced ((false,eval e X.env) :: backTo pos (starEach es X.env))) _ _ s
 refine Calls.spliced_cons (aE (ha pins s σ H _ I hp h) fun u s1 ⟨hp1,x,H1,I1,r1,q1⟩=>?_)
 exact aE (hr pos pins s1 σ H1 _ I1 hp1 q1) fun us s2 ⟨xs,H2,I2,r2,q2⟩=>⟨x :: xs,H2,I2,.cons r1 r2,q2⟩
theorem T5 {r:R2} (hr:j9 X r) (ha:BH X es t) (hb:PE X b tb) (hs:Kl b):E8 X (.Return (some (.Subscript (.List es apos) b pos)) aU) (cA (af r (fH t) tb)):=by
 intro pins s σ H D I hp h
 refine wpAny_Return_some (Subscript_ ?_)
 refine wpAny_List_spliced (aE (ha apos pins s σ H _ I hp h) fun us s1 ⟨xs,H1,I1,r1,z,q⟩=>⟨by rw [<- r1.length];exact z,?_⟩)
 have hf:H1 s1.heap.objs.size=none:=I1.aB.fresh (ZqY _)
 have I2:=I1.laid (o:=.lst xs) (t':=s1.toks) (fun b u e=>Heap.get?_push_of_some _ e) (ZqY _) (show dA X.prog X.w _ (s1.heap.push { cls:=.type "list",data:=.seq us.toArray }) _ (.lst xs) from ⟨z,us,0,r1,Heap.get?_push_size _ rfl⟩)
 refine aE (hb pins _ σ _ _ I2 (q _ hf)) fun u s3 ⟨y,H3,I3,r3,q3⟩=>?_
 exact aE (hr _ b pins s3 σ H3 (.ref s1.heap.objs.size) y (.ref s1.heap.objs.size) u _ I3 rfl r3 q3 (hs _ _)) fun v s4 ⟨x4,H4,I4,r4,q4⟩=>⟨x4,σ,H4,I4,r4,q4⟩
theorem Pz {prog:Program}{w:World}{A:Around}{E:Value->Shared->Prop}{s:Shared}{x y z:Str}{t u v:Tok}{Q:Value->Shared->Prop} (hu:u≠0) (hv:v≠0) (Au:u≠v) (nM:(y == z)=false) (hb:x.length+(x.length+1) * z.length<=16777216)
  (hq:∀ t' k,s.toks<=k->Q (.str (Txt.replace x y z) t') { s with toks:=k }):wpAny (model prog w) A (call (.builtin "str.replace") [.str x t,.str y u,.str z v]) Q E s:=by
 have e:(2:Nat) ^ 24=16777216:=by decide
 have hl:Builtin.Str.tooLong (x.length+(Builtin.Str.occurrences x y 0 x.length (x.length+1)).length * z.length)=false:=by
  have h1:=StrLaws.occ_length_le x y 0 x.length (x.length+1)
  have h2:(Builtin.Str.occurrences x y 0 x.length (x.length+1)).length * z.length<=(x.length+1) * z.length:=Nat.mul_le_mul_right _ h1
  unfold Builtin.Str.tooLong sizeLine;skip
  exact decide_eq_false (by omega)
 refine call_gives F.slot_str_replace (typeIs_str _ _ _) F.entry_str_replace (F.args_str_replace_3 _ _ _) (gives_str_replace x y z t u v fun _=>⟨by simp [hu,hv],by simp [Au],nM,hl⟩) ?_
 have hq':=hq
 unfold Txt.replace at hq'
 cases hc:((Builtin.Str.occurrences x y 0 x.length (x.length+1)).isEmpty || (y.length == 0 && z.length == 0))
 ·rw [hc] at hq'
  simp only [Zrw,if_false] at hq' ⊢
  exact ⟨fits_replaced y hb,hq' _ _ (Zq8 _)⟩
 ·rw [hc] at hq'
  simp only [if_true] at hq' ⊢
  exact hq' t s.toks (ZqY _)
theorem Lc {y z:Str}{j1 j2:Nat}{p1 p2:Pos} (ho:C9 X o to) (nM:(y == z)=false:=by decide) (hz:z.length<=14:=by decide)
  (fF:attributeBase o "replace" X.env (eval o X.env)=eval o X.env:=by rfl)
  (m3:((backTo aU (starEach [Expr.Constant (.str y) j1 p1,.Constant (.str z) j2 p2] X.env)).all (fun x=>!x.1) && (backToKw aU (keywordEach [] X.env)).all (fun x=>x.1.isSome)
   && decide ([Expr.Constant (.str y) j1 p1,.Constant (.str z) j2 p2].length+([]:List Keyword).length+(if ([]:List Keyword).isEmpty then 0 else 1)<30))=true:=by rfl)
  (g7:(apos.endLine == aU.line)=true:=by rfl) :
  CI X (.Call (.Attribute o "replace" apos) [.Constant (.str y) j1 p1,.Constant (.str z) j2 p2] [] aU) (CT to y z):=by
 intro pins s σ H Q I hp h
 refine wpAny_Call_method_late fF m3 g7 rfl (aE (ho pins s σ H _ I h) fun v s1 ⟨e1,x,H1,I1,r1,q1⟩=>?_)
 subst e1
 match x,q1,r1 with
 | .str st,q1,r1 =>
  obtain ⟨lY,q⟩:=q1
  obtain ⟨t,rfl⟩:=r1
  refine ⟨"str","str.replace",Zpr,ZpA,ZpB,typeIs_str _ _ _,(fun a z=>nomatch z),?_⟩
  refine Calls.callWith_builtin (by rfl) (Calls.evalArgs_plain ?_)
  show wpAny _ _ (spliced ((false,eval (.Constant (.str y) j1 p1) X.env) :: backTo aU (starEach [.Constant (.str z) j2 p2] X.env))) _ _ s1
  refine Calls.spliced_cons (Calls.Constant_str ?_)
  show wpAny _ _ (spliced ((false,eval (.Constant (.str z) j2 p2) X.env) :: backTo aU (starEach [] X.env))) _ _ _
  refine Calls.spliced_cons (Calls.Constant_str ?_)
  refine Calls.spliced_nil ?_
  refine Pz (Nat.pos_iff_ne_zero.mp hp) (Nat.succ_ne_zero _) (ZqZ (Zq9 _)) nM ?_ fun t' k hk=>⟨Zq1 (Zrb _) hk,.str _,H1,?_,⟨_,rfl⟩,q⟩
  ·have:(st.length+1) * z.length<=(st.length+1) * 14:=Nat.mul_le_mul_left _ hz
   omega
  ·exact (I1.tok (s1.toks+1)).tok k
theorem RF (x y z:Str) (t u v w:Tok) (hf:((Builtin.Str.occurrences x y 0 x.length 1).isEmpty || (y.length == 0 && z.length == 0))=false->(u == 0 || v == 0)=false/\(u == v)=false/\(y == z)=false/\Builtin.Str.tooLong (x.length+(Builtin.Str.occurrences x y 0 x.length 1).length * z.length)=false) :
  Gives (Builtin.«str.replace» ⟨[.str x t,.str y u,.str z v,.int 1 w],[]⟩) (if ((Builtin.Str.occurrences x y 0 x.length 1).isEmpty || (y.length == 0 && z.length == 0))=true then .val (.str x t) else .str (Builtin.Str.glued z (Builtin.Str.partsBetween x (Builtin.Str.occurrences x y 0 x.length 1) y.length))):=by
 have e1:Builtin.«str.replace» ⟨[.str x t,.str y u,.str z v,.int 1 w],[]⟩=(if ((Builtin.Str.occurrences x y 0 x.length 1).isEmpty || (y.length == 0 && z.length == 0))=true then (do rule "str.replace.nothing";ret (.str x t)) else (do let same <- isSame (.str y u) (.str z v);if same=true then (do rule "str.replace.old-is-new";ret (.str x t)) else if Builtin.Str.tooLong (x.length+(Builtin.Str.occurrences x y 0 x.length 1).length * z.length)=true then unsupported "str.replace:memory" else retStr (Builtin.Str.glued z (Builtin.Str.partsBetween x (Builtin.Str.occurrences x y 0 x.length 1) y.length)))):=by
  show (do let limit <- Builtin.Str.countLimit "str.replace" (some (.int 1 w)) (x.length+1);_)=_
  rw [countLimit_int "str.replace" 1 w (x.length+1) (by decide)]
  rfl
 rw [e1]
 cases hc:((Builtin.Str.occurrences x y 0 x.length 1).isEmpty || (y.length == 0 && z.length == 0))
 ·obtain ⟨h0,Au,nM,hl⟩:=hf hc
  rw [isSame_str_other y z u v h0 Au nM,hl]
  exact .of_eq rfl
 ·exact .rule (.of_eq rfl)
theorem Oi {prog:Program}{w:World}{A:Around}{E:Value->Shared->Prop}{s:Shared}{x y z:Str}{t u v wt:Tok}{Q:Value->Shared->Prop} (hu:u≠0) (hv:v≠0) (Au:u≠v) (nM:(y == z)=false) (hx:x.length<=10000) (hz:z.length<=14)
    (hq:∀ t' k,s.toks<=k->Q (.str (uR x y z) t') { s with toks:=k }):wpAny (model prog w) A (call (.builtin "str.replace") [.str x t,.str y u,.str z v,.int 1 wt]) Q E s:=by
  have h1:=StrLaws.occ_length_le x y 0 x.length 1
  have h2:(Builtin.Str.occurrences x y 0 x.length 1).length * z.length<=1 * 14:=Zre h1 hz
  have hl:Builtin.Str.tooLong (x.length+(Builtin.Str.occurrences x y 0 x.length 1).length * z.length)=false:=by
    unfold Builtin.Str.tooLong sizeLine;skip
    exact decide_eq_false (by have e : (2 : Nat) ^ 24 = 16777216 := by decide
                              omega)
  refine call_gives F.slot_str_replace (typeIs_str _ _ _) F.entry_str_replace (F.args_str_replace_4 _ _ _ _)
    (RF x y z t u v wt fun _=>⟨by simp [hu,hv],by simp [Au],nM,hl⟩) ?_
  have hq':=hq
  unfold uR at hq'
  cases hc:((Builtin.Str.occurrences x y 0 x.length 1).isEmpty || (y.length == 0 && z.length == 0))
  · rw [hc] at hq'
    simp only [Zrw,if_false] at hq' ⊢
    refine ⟨?_,hq' _ _ (Zq8 _)⟩
    have hy:(Builtin.Str.glued y (Builtin.Str.partsBetween x (Builtin.Str.occurrences x y 0 x.length 1) y.length)).length=x.length:=by rw [StrLaws.glued_between_self]
    rw [size_glued,length_partsBetween,Zrc] at hy
    rw [size_glued,length_partsBetween,Zrc,sizeLine_eq]
    omega
  · rw [hc] at hq'
    simp only [if_true] at hq' ⊢
    exact hq' t s.toks (ZqY _)
theorem Rf {y z:Str}{j1 j2 j3:Nat}{p1 p2 p3:Pos} (ho:C9 X o to) (nM:(y == z)=false:=by decide) (hz:z.length<=14:=by decide)
  (fF:attributeBase o "replace" X.env (eval o X.env)=eval o X.env:=by rfl)
  (m3:((backTo aU (starEach [Expr.Constant (.str y) j1 p1,.Constant (.str z) j2 p2,.Constant (.int 1) j3 p3] X.env)).all (fun x=>!x.1) && (backToKw aU (keywordEach [] X.env)).all (fun x=>x.1.isSome)
   && decide ([Expr.Constant (.str y) j1 p1,.Constant (.str z) j2 p2,.Constant (.int 1) j3 p3].length+([]:List Keyword).length+(if ([]:List Keyword).isEmpty then 0 else 1)<30))=true:=by rfl)
  (g7:(apos.endLine == aU.line)=true:=by rfl) :
  CI X (.Call (.Attribute o "replace" apos) [.Constant (.str y) j1 p1,.Constant (.str z) j2 p2,.Constant (.int 1) j3 p3] [] aU) (Fm to y z):=by
 intro pins s σ H Q I hp h
 refine wpAny_Call_method_late fF m3 g7 rfl (aE (ho pins s σ H _ I h) fun v s1 ⟨e1,x,H1,I1,r1,q1⟩=>?_)
 subst e1
 match x,q1,r1 with
 | .str st,q1,r1 =>
  obtain ⟨lY,q⟩:=q1
  obtain ⟨t,rfl⟩:=r1
  refine ⟨"str","str.replace",Zpr,ZpA,ZpB,typeIs_str _ _ _,(fun a z=>nomatch z),?_⟩
  refine Calls.callWith_builtin (by rfl) (Calls.evalArgs_plain ?_)
  show wpAny _ _ (spliced ((false,eval (.Constant (.str y) j1 p1) X.env) :: backTo aU (starEach [.Constant (.str z) j2 p2,.Constant (.int 1) j3 p3] X.env))) _ _ s1
  refine Calls.spliced_cons (Calls.Constant_str ?_)
  show wpAny _ _ (spliced ((false,eval (.Constant (.str z) j2 p2) X.env) :: backTo aU (starEach [.Constant (.int 1) j3 p3] X.env))) _ _ _
  refine Calls.spliced_cons (Calls.Constant_str ?_)
  show wpAny _ _ (spliced ((false,eval (.Constant (.int 1) j3 p3) X.env) :: backTo aU (starEach [] X.env))) _ _ _
  refine Calls.spliced_cons (wpAny_Constant_int ?_)
  refine Calls.spliced_nil ?_
  refine Oi (Nat.pos_iff_ne_zero.mp hp) (Nat.succ_ne_zero _) (ZqZ (Zq9 _)) nM lY hz fun t' k hk=>⟨Zq1 (Zrb _) hk,.str _,H1,?_,⟨_,rfl⟩,q⟩
  exact ((I1.tok (s1.toks+1)).tok (s1.toks+1+1)).tok k
theorem Ox:nq X "list.insert" HX:=by
 intro pins s σ H x vs v us Q I rx rv h
 match vs,rv,h with
 | [.int i,y],rv,h =>
  obtain ⟨l,xs,rfl,hH,h0,h1,hz,q⟩:=h
  cases rx
  cases rv with
  | cons ra rb =>
   obtain ⟨ti,rfl⟩:=ra
   obtain ⟨u,rfl,ru⟩:=Vals.one rb
   obtain ⟨z,its,n,r,hl,e⟩:=I.m5 hH
   have sl:sizeLine=16777216:=sizeLine_eq
   refine call_meets F.slot_list_insert ⟨_,e,rfl⟩ F.entry_list_insert (F.args_list_insert_3 _ _ _) (PySem.AutoSeq1.list_insert_list_int_val_1 l its.toArray n i ti u ?_ (by rw [ZpN];omega)) ⟨e,?_⟩
   ·unfold Builtin.List.listFitsIndex
    simp only [Zrx,Bool.and_eq_false_iff,decide_eq_false_iff_not]
    omega
   ·refine ⟨.non,_,I.Ab (its':=its.take i.toNat ++ u :: its.drop i.toNat) hH e ?_ ((r.take i.toNat).append (.cons ru (r.drop i.toNat))) ?_,rfl,q⟩
    ·show (its.toArray.extract 0 (if i<0 then (i+(its.toArray.size:Int)).toNat else min i.toNat its.toArray.size)).push u ++ its.toArray.extract (if i<0 then (i+(its.toArray.size:Int)).toNat else min i.toNat its.toArray.size)=_
     have hi:min i.toNat its.toArray.size=i.toNat:=by rw [ZpN];omega
     rw [if_neg (by omega),hi]
     apply Array.ext'
     simp [Zqk]
    ·rw [ZpI,ZpG,Zp2,Zp6]
     omega
end
end L2
set_option maxHeartbeats 4000000
namespace jx
open PySem PySem.Spec PyProof.Rows L2
noncomputable def top (i:Nat):Stmt:=PySem.Challenge.pw_gatefold_k40_board_unread.main.body.getD i (.Pass ⟨0,0,0,0⟩)
noncomputable abbrev zf:Stmt:=top 2
noncomputable abbrev IS:List Str:=["many"]
local macro_rules | `(tactic| walk_at "s")=>`(tactic| exact ⟨rfl,rfl,rfl,by decide +kernel,rfl,by decide +kernel,by decide +kernel⟩)
theorem Rm:aj IS ["many"] (ba zf):=by walk_at "s"
noncomputable abbrev zJ:Stmt:=top 16
noncomputable abbrev Lo:List Str:=["thing"]
theorem Uh:aj Lo ["thing"] (ba zJ):=by walk_at "s"
noncomputable abbrev zq:Stmt:=top 17
noncomputable abbrev Lm:List Str:=["thing","least","greatest"]
theorem SY:aj Lm ["thing","least","greatest"] (ba zq):=by walk_at "s"
noncomputable abbrev vy:Stmt:=top 18
noncomputable abbrev GX:List Str:=["numbers"]
theorem Rz:aj GX ["numbers"] (ba vy):=by walk_at "s"
noncomputable abbrev vD:Stmt:=top 23
noncomputable abbrev Fj:List Str:=["cut","lowers"]
theorem Uw:aj Fj ["cut","lowers"] (ba vD):=by walk_at "s"
noncomputable abbrev vO:Stmt:=top 24
noncomputable abbrev HR:List Str:=["many","pieces","lowers","top","knot","cut","table"]
theorem qP:aj HR ["many","pieces"] (ba vO):=by walk_at "s"
noncomputable abbrev AE:Stmt:=top 25
noncomputable abbrev KA:List Str:=["ties","lowers","tie"]
theorem Mb:aj KA ["ties","lowers"] (ba AE):=by walk_at "s"
noncomputable abbrev vf:Stmt:=lE (top 26) 0
noncomputable abbrev DN:List Str:=["self","many","pieces","ties"]
theorem UG:aj DN ["self","many","pieces","ties"] (ba vf):=by walk_at "s"
noncomputable abbrev wk:Stmt:=lE (top 26) 1
noncomputable abbrev GQ:List Str:=["self"]
theorem T8:aj GQ ["self"] (ba wk):=by walk_at "s"
noncomputable abbrev yX:Stmt:=lE (top 26) 2
noncomputable abbrev Iu:List Str:=["self"]
theorem O9:aj Iu ["self"] (ba yX):=by walk_at "s"
noncomputable abbrev vJ:Stmt:=top 30
noncomputable abbrev ET:List Str:=["table","count"]
theorem UQ:aj ET ["table","count"] (ba vJ):=by walk_at "s"
noncomputable abbrev Af:Stmt:=top 31
noncomputable abbrev MW:List Str:=["tie","sign"]
theorem JX:aj MW ["tie"] (ba Af):=by walk_at "s"
noncomputable abbrev tV:Stmt:=top 32
noncomputable abbrev BZ:List Str:=["board","lines","knot","cut","table","numbers"]
theorem vw:aj BZ ["board"] (ba tV):=by walk_at "s"
noncomputable abbrev vI:Stmt:=top 33
noncomputable abbrev Fx:List Str:=["word"]
theorem T9:aj Fx ["word"] (ba vI):=by walk_at "s"
noncomputable abbrev zZ:Stmt:=top 34
noncomputable abbrev Mj:List Str:=["row"]
theorem Q3:aj Mj ["row"] (ba zZ):=by walk_at "s"
noncomputable abbrev pZ:Stmt:=top 35
noncomputable abbrev yg:List Str:=["word","count","places"]
theorem K5:aj yg ["word","count"] (ba pZ):=by walk_at "s"
noncomputable abbrev wm:Stmt:=top 36
noncomputable abbrev GN:List Str:=["row","count","cut"]
theorem Ij:aj GN ["row"] (ba wm):=by walk_at "s"
noncomputable abbrev wX:Stmt:=top 37
noncomputable abbrev Ir:List Str:=["word"]
theorem NT:aj Ir ["word"] (ba wX):=by walk_at "s"
noncomputable abbrev vG:Stmt:=top 38
noncomputable abbrev Ha:List Str:=["row"]
theorem S8:aj Ha ["row"] (ba vG):=by walk_at "s"
noncomputable abbrev uy:Stmt:=top 39
noncomputable abbrev Cg:List Str:=["lines","rows","many","pieces"]
theorem CL:aj Cg ["lines"] (ba uy):=by walk_at "s"
noncomputable abbrev Bb:Stmt:=top 41
noncomputable abbrev J7:List Str:=["_law_script","_law_k"]
theorem Qn:aj J7 ["_law_script","_law_k"] (ba Bb):=by walk_at "s"
noncomputable abbrev uz:Stmt:=top 42
noncomputable abbrev BW:List Str:=["_law_script","_law_many","_law_lines_here","_law_known","_law_k","_law_cell","_law_knot","_law_cut","_law_j","_law_bits"]
theorem nA:aj BW ["_law_script","_law_many"] (ba uz):=by walk_at "s"
noncomputable abbrev yK:Stmt:=top 43
noncomputable abbrev MO:List Str:=["_law_word","_law_cell","_law_some"]
theorem Jv:aj MO ["_law_word","_law_cell"] (ba yK):=by walk_at "s"
noncomputable abbrev wq:Stmt:=top 44
noncomputable abbrev MG:List Str:=["_law_line","_law_cell","_law_parts","_law_at","_law_kind"]
theorem vE:aj MG ["_law_line","_law_cell"] (ba wq):=by walk_at "s"
noncomputable abbrev Br:Stmt:=top 45
noncomputable abbrev II:List Str:=["_law_lines_here","_law_many","_law_cell","_law_at","_law_parts","_law_kind","_law_later","_law_last"]
theorem uA:aj II ["_law_lines_here","_law_many","_law_cell"] (ba Br):=by walk_at "s"
noncomputable abbrev ua:Stmt:=top 46
noncomputable abbrev Kk:List Str:=["_law_e"]
theorem OF:aj Kk ["_law_e"] (ba ua):=by walk_at "s"
noncomputable abbrev zd:Stmt:=top 47
noncomputable abbrev ME:List Str:=["_law_lines_here","_law_handed","_law_told","_law_e"]
theorem pC:aj ME ["_law_lines_here"] (ba zd):=by walk_at "s"
noncomputable abbrev A3:Stmt:=top 48
noncomputable abbrev o8:List Str:=["_law_script","_law_many","_law_lines_here","_law_good","_law_due","_law_at"]
theorem pP:aj o8 ["_law_script"] (ba A3):=by walk_at "s"
set_option genInjectivity false in
set_option genSizeOf false in
structure dy where
 cG:Addr
 eD:FuncData
 eX:Addr
 g9:FuncData
 di:Addr
 fI:FuncData
 dI:Addr
 gi:FuncData
 dF:Addr
 gp:FuncData
 cH:Addr
 eI:FuncData
 dU:Addr
 gu:FuncData
 bq:Addr
 cV:FuncData
 cg:Addr
 dQ:FuncData
 cZ:Addr
 fw:FuncData
 dc:Addr
 fj:FuncData
 eY:Addr
 gZ:FuncData
 cJ:Addr
 eN:FuncData
 dS:Addr
 gq:FuncData
 fZ:Addr
 iM:FuncData
 eO:Addr
 gR:FuncData
 eQ:Addr
 hV:FuncData
 gX:Addr
 ju:FuncData
 fW:Addr
 iQ:FuncData
 eW:Addr
 gO:FuncData
 cK:Addr
 eF:FuncData
 dG:Addr
 gj:FuncData
 bt:Addr
 bU:FuncData
 cn:Addr
 dR:FuncData
 bY:Addr
 dJ:FuncData
 cD:Addr
 gr:FuncData
 cL:Addr
 eK:FuncData
 mQ:Addr
 pd:FuncData
 aq:Addr
 aI:Addr
 ae:Addr
 du:Addr
 cc:Addr
 cb:Addr
 cj:Addr
 bJ:Addr
 bZ:Addr
 cy:Addr
 ag:Addr
 dh:Addr
noncomputable def Eg (_:dy):V:=.str "0123456789"
noncomputable def Dk (_:dy):V:=.int 999
noncomputable def By (_:dy):V:=.int 6
noncomputable def HG (_:dy):V:=.int 3
noncomputable def HQ (_:dy):V:=.int 10
structure Txt (K:ZoW) (mg:Str->Option Value) (a:dy):Prop where
 eA:FT K mg "full_column" zf ["many"] a.cG a.eD
 dk:FT K mg "is_whole" zJ ["thing"] a.eX a.g9
 bV:FT K mg "is_between" zq ["thing","least","greatest"] a.di a.fI
 gn:FT K mg "is_rising" vy ["numbers"] a.dI a.gi
 gh:FT K mg "is_cut_of" vD ["cut","lowers"] a.dF a.gp
 bL:FT K mg "need_pieces" vO ["many","pieces"] a.cH a.eI
 cF:FT K mg "need_ties" AE ["ties","lowers"] a.dU a.gu
 cP:FM K a.aq "__init__" "Board.__init__" vf ["self","many","pieces","ties"] a.bq a.cV
 ck:FM K a.aq "pieces" "Board.pieces" wk ["self"] a.cg a.dQ
 dj:FM K a.aq "ties" "Board.ties" yX ["self"] a.cZ a.fw
 fE:FT K mg "table_text" vJ ["table","count"] a.dc a.fj
 gU:FT K mg "tie_text" Af ["tie"] a.eY a.gZ
 eJ:FT K mg "board_lines" tV ["board"] a.cJ a.eN
 ay:FT K mg "number_of" vI ["word"] a.dS a.gq
 d8:FT K mg "many_of" zZ ["row"] a.fZ a.iM
 dg:FT K mg "table_of" pZ ["word","count"] a.eO a.gR
 da:FT K mg "piece_of" wm ["row"] a.eQ a.hV
 fv:FT K mg "tie_of" wX ["word"] a.gX a.ju
 dZ:FT K mg "ties_of" vG ["row"] a.fW a.iQ
 cz:FT K mg "board_of" uy ["lines"] a.eW a.gO
 ax:FT K mg "_law_cell_at" Bb ["_law_script","_law_k"] a.cK a.eF
 gk:FT K mg "_law_lines" uz ["_law_script","_law_many"] a.dG a.gj
 aO:FT K mg "_law_broken_number" yK ["_law_word","_law_cell"] a.bt a.bU
 dN:FT K mg "_law_formless" wq ["_law_line","_law_cell"] a.cn a.dR
 dW:FT K mg "_law_no_board" Br ["_law_lines_here","_law_many","_law_cell"] a.bY a.dJ
 bg:FT K mg "_law_alone" ua ["_law_e"] a.cD a.gr
 eE:FT K mg "_law_refused" zd ["_law_lines_here"] a.cL a.eK
 p7:FT K mg "law" A3 ["_law_script"] a.mQ a.pd
 mU:mg "Board" = some (.ref a.aq)
 bO:mV K a.aq
 mk_Board:Mk K a.aq a.bq
 eG:ox K a.aq "many"
 bP:ox K a.aq "kept_pieces"
 cx:ox K a.aq "kept_ties"
 fJ:mg "FoldError" = some (.ref a.aI)
 bx:mg "NoBoard" = some (.ref a.ae)
 mM:mg "NoCut" = some (.ref a.du)
 kX:mg "NoGoal" = some (.ref a.cc)
 lH:mg "NoKnot" = some (.ref a.cb)
 kZ:mg "NoLine" = some (.ref a.cj)
 j7:mg "NoMatch" = some (.ref a.bJ)
 kY:mg "NoName" = some (.ref a.bZ)
 kK:mg "NoSize" = some (.ref a.cy)
 bB:mg "NoText" = some (.ref a.ag)
 mS:mg "NoTie" = some (.ref a.dh)
 xi_NoBoard:Zpa K a.ae [.type "ValueError",.type "Exception",.type "BaseException",.type "object"] "ValueError.__new__" = true
 xq_NoBoard:nJ K a.ae=true
 kv_NoBoard:ZoX K (.ref a.ae) (.type "ValueError")=some true
 xm_NoBoard_FoldError:(L2.mroIn K a.ae).contains (.ref a.aI)=true
 xm_NoBoard_NoBoard:(L2.mroIn K a.ae).contains (.ref a.ae)=true
 xm_NoBoard_NoText:(L2.mroIn K a.ae).contains (.ref a.ag)=false
 ko_NoBoard_FoldError:ZoX K (.ref a.ae) (.ref a.aI)=some true
 ko_NoBoard_NoBoard:ZoX K (.ref a.ae) (.ref a.ae)=some true
 ko_NoBoard_NoCut:ZoX K (.ref a.ae) (.ref a.du)=some false
 ko_NoBoard_NoGoal:ZoX K (.ref a.ae) (.ref a.cc)=some false
 ko_NoBoard_NoKnot:ZoX K (.ref a.ae) (.ref a.cb)=some false
 ko_NoBoard_NoLine:ZoX K (.ref a.ae) (.ref a.cj)=some false
 ko_NoBoard_NoMatch:ZoX K (.ref a.ae) (.ref a.bJ)=some false
 ko_NoBoard_NoName:ZoX K (.ref a.ae) (.ref a.bZ)=some false
 ko_NoBoard_NoSize:ZoX K (.ref a.ae) (.ref a.cy)=some false
 ko_NoBoard_NoTie:ZoX K (.ref a.ae) (.ref a.dh)=some false
 xi_NoText:Zpa K a.ag [.type "ValueError",.type "Exception",.type "BaseException",.type "object"] "ValueError.__new__" = true
 xq_NoText:nJ K a.ag=true
 kv_NoText:ZoX K (.ref a.ag) (.type "ValueError")=some true
 xm_NoText_FoldError:(L2.mroIn K a.ag).contains (.ref a.aI)=true
 xm_NoText_NoBoard:(L2.mroIn K a.ag).contains (.ref a.ae)=false
 xm_NoText_NoText:(L2.mroIn K a.ag).contains (.ref a.ag)=true
 ko_NoText_FoldError:ZoX K (.ref a.ag) (.ref a.aI)=some true
 ko_NoText_NoBoard:ZoX K (.ref a.ag) (.ref a.ae)=some false
 ko_NoText_NoCut:ZoX K (.ref a.ag) (.ref a.du)=some false
 ko_NoText_NoGoal:ZoX K (.ref a.ag) (.ref a.cc)=some false
 ko_NoText_NoKnot:ZoX K (.ref a.ag) (.ref a.cb)=some false
 ko_NoText_NoLine:ZoX K (.ref a.ag) (.ref a.cj)=some false
 ko_NoText_NoMatch:ZoX K (.ref a.ag) (.ref a.bJ)=some false
 ko_NoText_NoName:ZoX K (.ref a.ag) (.ref a.bZ)=some false
 ko_NoText_NoSize:ZoX K (.ref a.ag) (.ref a.cy)=some false
 ko_NoText_NoTie:ZoX K (.ref a.ag) (.ref a.dh)=some false
 xk_FoldError:Zo4 K a.aI "BaseException" = true
 xk_NoBoard:Zo4 K a.ae "BaseException" = true
 xk_NoText:Zo4 K a.ag "BaseException" = true
 jN:∃ u,mg "FIGURES" = some u/\aP (Eg a) u
 fS:∃ u,mg "GREATEST_KNOT" = some u/\aP (Dk a) u
 dP:∃ u,mg "LONGEST_CUT" = some u/\aP (By a) u
 gE:∃ u,mg "MOST_FIGURES" = some u/\aP (HG a) u
 hW:∃ u,mg "MOST_INPUTS" = some u/\aP (HQ a) u
 iu:mg "ValueError" = none
 je:mg "all" = none
 nY:mg "bool" = none
 ow:mg "dict" = none
 iV:mg "enumerate" = none
 fU:mg "int" = none
 aZ:mg "isinstance" = none
 aL:mg "len" = none
 dm:mg "list" = none
 uv:mg "max" = none
 cQ:mg "range" = none
 kH:mg "sorted" = none
 bI:mg "str" = none
 sD:mg "sum" = none
 g8:mg "tuple" = none
 tU:mg "zip" = none
seal PE PT PS gy PA PG zh PI PO PW mX TK PK PC qV RG bX wA gI j9 oh nq DD tE
local macro_rules | `(tactic| walk_at "go")=>`(tactic| try simp only [aV,bG,aK,oP,jj,pS,nC,af,tC,aa,fQ,aQ,bc,tJ,gA,mi,CC,pA,bK,kd,xP,cA,nI,cM,Hk,bS,ah,ar,eh,bw,gY,cInt,Cf,ub,lF,nj,lC,pv,oo,mJ,uE,j5,jQ,Ug,RL,RD,QZ,NC,Q5,NM,RZ,Sg,RJ,kU,Ae,CJ,bE,jY,ka,iR,kJ,mW,tQ,tO,TB,Sq,R0,tD,D7,Cn,gS,sg,Hy,B5,m4,mj,B7,HD,jP,Qr,Eu,R8,rq,A4,EU,vZ,nR,CT,Fm,GO,HX,kj,qf,vS,Co,uh,F8,kF,Fu,Tq,lW,Zp4,Zqv,List.nil_append,ZqW,ZpV,List.set_cons_zero,Zqz,decide_eq_true_eq,if_true,if_false,Zrw,eq_self,decide_true,decide_false,Bool.not_true,Bool.not_false,Zrx,decide_eq_false_iff_not,Bool.and_true,Bool.true_and])
local macro_rules | `(tactic| walk_at "sd")=>`(tactic| first | exact And.intro (by decide) (by decide) | decide | omega | exact Or.inl (And.intro (by omega) (by omega)) | exact Or.inr (And.intro (by omega) (by omega)) | exact And.intro (by omega) (And.intro (by omega) (by decide)) | exact And.intro (by omega) (by omega))
local macro_rules | `(tactic| walk_at "gs")=>`(tactic| (walk_at "go";repeat (first | (refine And.intro (by walk_at "sd") ?_;walk_at "go"))))
local macro_rules | `(tactic| walk_at "o")=>`(tactic| first | exact Or.inl rfl | exact Or.inr rfl)
variable {P:Program}{w:World}{K:ZoW}{mg:Str->Option Value}{base:Heap}{a:dy}
noncomputable abbrev Pc:=Int × List Int × Int
structure i4 (H:Hp) (l:Addr) (ts:List (Addr × Addr)) (ps:List Pc):Prop where
 lst:H l=some (.lst (ts.map fun t=>V.ref t.1))
 len:ts.length=ps.length
 at_:∀ (i:Nat) t p,ts[i]? = some t->ps[i]? = some p->H t.1=some (.tup [.int p.1,.ref t.2,.int p.2.2])/\H t.2=some (.lst (p.2.1.map V.int))
structure kD (H:Hp) (l:Addr) (ts:List (Addr × Addr)) (ps:List Pc):Prop where
 tup:H l=some (.tup (ts.map fun t=>V.ref t.1))
 len:ts.length=ps.length
 at_:∀ (i:Nat) t p,ts[i]? = some t->ps[i]? = some p->H t.1=some (.tup [.int p.1,.ref t.2,.int p.2.2])/\H t.2=some (.tup (p.2.1.map V.int))
theorem i4.same {H H':Hp}{l:Addr}{ts:List (Addr × Addr)}{ps:List Pc} (h:i4 H l ts ps) (s:aH H H'):i4 H' l ts ps :=
 ⟨s _ _ h.lst,h.len,fun i t p ht hp=>⟨s _ _ (h.at_ i t p ht hp).1,s _ _ (h.at_ i t p ht hp).2⟩⟩
noncomputable def NL (H H':Hp):Prop:=∀ b o,(∀ xs,o≠HO.lst xs)->H b=some o->H' b=some o
theorem NL.of {H H':Hp} (s:aH H H'):NL H H':=fun b o _ e=>s b o e
theorem kD.nl {H H':Hp}{l:Addr}{ts:List (Addr × Addr)}{ps:List Pc} (h:kD H l ts ps) (s:NL H H'):kD H' l ts ps :=
 ⟨s _ _ (fun _ z=>nomatch z) h.tup,h.len,fun i t p ht hp=>⟨s _ _ (fun _ z=>nomatch z) (h.at_ i t p ht hp).1,s _ _ (fun _ z=>nomatch z) (h.at_ i t p ht hp).2⟩⟩
theorem i4.get {H:Hp}{l:Addr}{ts:List (Addr × Addr)}{ps:List Pc} (h:i4 H l ts ps) {i:Nat} (hi:i<ts.length):∃ p,ps[i]? = some p/\H (ts[i]).1=some (.tup [.int p.1,.ref (ts[i]).2,.int p.2.2])/\H (ts[i]).2=some (.lst (p.2.1.map V.int)):=by
 have hp:ps[i]? = some (ps[i]'(by rw [<- h.len];exact hi)):=ZpH _
 exact ⟨_,hp,h.at_ i _ _ (ZpH hi) hp⟩
theorem kD.get {H:Hp}{l:Addr}{ts:List (Addr × Addr)}{ps:List Pc} (h:kD H l ts ps) {i:Nat} (hi:i<ts.length):∃ p,ps[i]? = some p/\H (ts[i]).1=some (.tup [.int p.1,.ref (ts[i]).2,.int p.2.2])/\H (ts[i]).2=some (.tup (p.2.1.map V.int)):=by
 have hp:ps[i]? = some (ps[i]'(by rw [<- h.len];exact hi)):=ZpH _
 exact ⟨_,hp,h.at_ i _ _ (ZpH hi) hp⟩
theorem K6 (ts:List (Addr × Addr)) {i:Nat} (hi:i<ts.length):(ts.map fun t=>V.ref t.1).getD i .non=.ref (ts[i]).1:=by
 rw [List.getD_eq_getElem?_getD,ZpF,ZpH hi]
 rfl
noncomputable def known (m:Nat) (ps:List Pc):List Int:=((ZpJ m).map fun i:Nat=>1+(i:Int)) ++ ps.map (·.1)
noncomputable def dH (m:Nat) (ps:List Pc):Int:=(ps.map (·.1)).getLastD m
structure sI (m:Nat) (ps:List Pc) (p:Pc):Prop where
 up:dH m ps<p.1
 hi:p.1<=999
 l1:1<=p.2.1.length
 l6:p.2.1.length<=6
 J4:p.2.1.Pairwise (· < ·)
 kn:∀ x∈p.2.1,x∈known m ps
 t0:0<=p.2.2
 t1:p.2.2<((2 ^ 2 ^ p.2.1.length:Nat):Int)
noncomputable def WP (m:Nat) (ps:List Pc):Prop:=∀ i p,ps[i]? = some p->sI m (ps.take i) p
structure WT (m:Nat) (ps:List Pc) (ties:List Int):Prop where
 l1:1<=ties.length
 lh:ties.length<=100
 jE:∀ t∈ties,0<=t/\(t / 2=0\/t / 2∈known m ps)
theorem wb (m:Nat) (ps:List Pc) (p:Pc):dH m (ps ++ [p])=p.1:=by
 unfold dH
 rw [ZpK]
 simp
theorem F2 (m:Nat) (ps:List Pc) (p:Pc):known m (ps ++ [p])=known m ps ++ [p.1]:=by
 unfold known
 rw [ZpK,Zqa]
 rfl
theorem BO {ps:List Pc}{i:Nat}{p:Pc} (h:ps[i]? = some p):ps.take (i+1)=ps.take i ++ [p]:=by rw [Zqj,h];rfl
noncomputable abbrev mw:=V × List V × V
noncomputable def up (p:Pc):mw:=(.int p.1,p.2.1.map V.int,.int p.2.2)
noncomputable def ki (H:Hp):V->Prop
 | .int _=>True
 | .bl _=>True
 | .str _=>True
 | .non=>True
 | .ref a=>(∃ xs,H a=some (.lst xs))\/∃ xs,H a=some (.tup xs)
 | _=>False
theorem ki.same {H H':Hp}{v:V} (h:ki H v) (s:∀ b o,H b=some o->H' b=some o):ki H' v:=by
 cases v with
 | ref a =>
  rcases h with ⟨xs,e⟩ | ⟨xs,e⟩
  ·exact .inl ⟨xs,s _ _ e⟩
  ·exact .inr ⟨xs,s _ _ e⟩
 | _=>exact h
noncomputable def jK:V->Bool
 | .int _=>true
 | _=>false
noncomputable def CZ (_:ZoW):Sp:=fun vs H Q _=>∃ v:V,vs=[v]/\ki H v/\Q (.bl (jK v)) H
noncomputable def F4 (K:ZoW):TS:=(cA (oo (bw (Cf K) (ah (aa 0) (ah (tC (.ty "int")) ar))) (uE (bw (Cf K) (ah (aa 0) (ah (tC (.ty "bool")) ar))))))
theorem OD (T:Txt K mg a):TM P w K mg base 0 "is_whole" zJ Lo a.eX (F4 K) :=
 fun hr=>(aS (cY (wF (dX LM (by rfl) T.aZ PyProof.Rows.boot_isinstance (ai (cv 0) (ai (EI (v:=.ty "int") rfl T.fU PyProof.Rows.boot_int rfl) au))) (vj (El (dX LM (by rfl) T.aZ PyProof.Rows.boot_isinstance (ai (cv 0) (ai (EI (v:=.ty "bool") rfl T.nY PyProof.Rows.boot_bool rfl) au))))))))
theorem G7 (T:Txt K mg a):aJ P w K mg base gd 1 a.eX a.g9 ["thing"] (CZ K):=by
 refine T.dk.n.iS Uh (OD T) (fun vs H Q E h=>?_) (fun H vs Q E h=>?_)
 ·obtain ⟨v,rfl,_⟩:=h;rfl
 ·obtain ⟨v,rfl,hv,q⟩:=h
  show F4 K _ [some v] H
  unfold F4
  walk_at "gs"
  cases v with
  | int i =>
   refine ⟨_,true,.int _,rfl,?_⟩
   walk_at "gs"
   refine ⟨_,false,.int _,rfl,?_⟩
   walk_at "gs"
   exact q
  | bl x =>
   refine ⟨_,true,.bl _,rfl,?_⟩
   walk_at "gs"
   refine ⟨_,true,.bl _,rfl,?_⟩
   walk_at "gs"
   exact q
  | str z =>
   refine ⟨_,false,.str _,rfl,?_⟩
   walk_at "gs"
   exact q
  | non =>
   refine ⟨_,false,.non,rfl,?_⟩
   walk_at "gs"
   exact q
  | ref r =>
   rcases hv with ⟨xs,e⟩ | ⟨xs,e⟩
   ·refine ⟨_,false,.lst e,rfl,?_⟩
    walk_at "gs"
    exact q
   ·refine ⟨_,false,.tup e,rfl,?_⟩
    walk_at "gs"
    exact q
  | _=>exact hv.elim
noncomputable def yr (v:V) (l g:Int):Bool:=match v with
 | .int i=>decide (l<=i/\i<=g)
 | _=>false
theorem PZ {v:V} (h:jK v=false) (l g:Int):yr v l g=false:=by
 cases v with
 | int i=>cases h
 | _=>rfl
theorem Fl {v:V} (h:jK v=true):∃ i,v=.int i:=by
 cases v with
 | int i=>exact ⟨i,rfl⟩
 | _=>cases h
noncomputable def CU (_:ZoW):Sp:=fun vs H Q _=>∃ (v:V) (l g:Int),vs=[v,.int l,.int g]/\ki H v/\Q (.bl (yr v l g)) H
noncomputable def G3 (K:ZoW):TS:=(cA (oo (bS (CZ K) [] E0 (ah (aa 0) ar)) (xP (fQ fun i j=>.bl (decide (i<=j))) (fQ fun i j=>.bl (decide (i<=j))) (aa 1) (aa 0) (aa 2))))
theorem OH (T:Txt K mg a):TM P w K mg base 1 "is_between" zq Lm a.di (G3 K) :=
 fun hr=>(aS (cY (wF (eC T.dk (G7 T) (hm hr) dO (ai (cv 0) au)) (vj (Uy yH yH (cv 1) (cv 0) (cv 2))))))
theorem G8 (T:Txt K mg a):aJ P w K mg base gd 2 a.di a.fI ["thing","least","greatest"] (CU K):=by
 refine T.bV.n.iS SY (OH T) (fun vs H Q E h=>?_) (fun H vs Q E h=>?_)
 ·obtain ⟨v,l,g,rfl,_⟩:=h;rfl
 ·obtain ⟨v,l,g,rfl,hv,q⟩:=h
  show G3 K _ [some v,some (.int l),some (.int g)] H
  unfold G3
  walk_at "gs"
  refine ⟨v,rfl,hv,?_⟩
  cases hw:jK v with
  | false =>
   rw [PZ hw] at q
   walk_at "gs"
   exact q
  | true =>
   obtain ⟨i,rfl⟩:=Fl hw
   have q:Q (.bl (decide (l<=i/\i<=g))) H:=q
   walk_at "gs"
   by_cases h:l<=i
   ·rw [if_pos h]
    rw [show decide (l<=i/\i<=g)=decide (i<=g) by rw [decide_eq_decide];omega] at q
    exact q
   ·rw [if_neg h]
    rw [decide_eq_false (fun z=>h z.1)] at q
    exact q
noncomputable def yc (m:Nat):Nat:=2 ^ 2 ^ m - 1
noncomputable def JU (_:ZoW):Sp:=fun vs H Q _=>∃ m:Nat,vs=[.int m]/\m<=10/\Q (.int (yc m:Nat)) H
noncomputable def HE (K:ZoW):TS:=(cA (af (fQ fun i j=>.int (i - j)) (af (aQ km fun i j=>.int (i * 2 ^ j.toNat)) (tC (.int 1)) (af (aQ km fun i j=>.int (i * 2 ^ j.toNat)) (tC (.int 1)) (aa 0))) (tC (.int 1))))
theorem Sb (T:Txt K mg a):TM P w K mg base 0 "full_column" zf IS a.cG (HE K) :=
 fun hr=>(aS (cY (aw CO (aw vR ak (aw vR ak (cv 0))) ak)))
theorem PV (T:Txt K mg a):aJ P w K mg base gd 1 a.cG a.eD ["many"] (JU K):=by
 refine T.eA.n.iS Rm (Sb T) (fun vs H Q E h=>?_) (fun H vs Q E h=>?_)
 ·obtain ⟨m,rfl,_⟩:=h;rfl
 ·obtain ⟨m,rfl,iN,q⟩:=h
  show HE K _ [some (.int m)] H
  unfold HE
  have Dd:(2:Nat) ^ m<=2 ^ 10:=Zq4 (by decide) iN
  have ec:(1 * 2 ^ ((m:Int)).toNat:Int)=((2 ^ m:Nat):Int):=by simp
  have ef:(1 * 2 ^ (((2 ^ m:Nat):Int)).toNat - 1:Int)=((yc m:Nat):Int):=by
   have:=RK 1 (2 ^ m)
   rw [show ((1:Nat):Int)=1 from rfl] at this
   rw [this,Nat.one_mul]
   have h1:1<=2 ^ 2 ^ m:=Zrf
   unfold yc
   omega
  walk_at "gs"
  rw [ec]
  have cp:km 1 ((2 ^ m:Nat):Int):=by
   generalize 2 ^ m=N at Dd
   exact ⟨by omega,by omega,by decide⟩
  refine ⟨cp,?_⟩
  rw [ef]
  exact q
noncomputable def LZ (K:ZoW):Sp:=fun vs H Q _=>∃ (p:Addr) (xs:List Int),vs=[.ref p]/\aR K H p (xs.map V.int)/\xs.length<=4000/\∀ H',aH H H'->Q (.bl (MF.B2 xs)) H'
noncomputable def Gf (K:ZoW):TS:=(cA (bw (lF K) (ah (eg (om K (ah (aa 0) (ah (jY (ka K) (aa 0) (iR (tC (.int 1))) kJ) ar))) 2 [] (oP K 2 (jj (aK 0) (jj (aK 1) pS))) fR (af (fQ fun i j=>.bl (decide (i<j))) (aa 0) (aa 1))) ar)))
theorem O5 (T:Txt K mg a):TM P w K mg base 0 "is_rising" vy GX a.dI (Gf K) :=
 fun hr=>(aS (cY (dX (Cr rfl) (by rfl) T.je PyProof.Rows.boot_all (ai (lI (N:=["one","other"]) (k:=2) (sel:=[]) (aD.of (ba vy).names (by decide +kernel)) (aF.of GX (by decide +kernel)) rfl (tK rfl T.tU (ai (cv 0) (ai (kR kG (cv 0) (j6 ak) mR) au))) (fun _ _ _ _=>(vN rfl (jJ (eu (i:=0) (show ZpU (["one","other"]:List Str) by decide +kernel) rfl (by walk_at "o")) (jJ (eu (i:=1) (show ZpU (["one","other"]:List Str) by decide +kernel) rfl (by walk_at "o")) vo)))) (fun _ _ _ _=>jz) (fun _ _ _ _=>(AJ oM (cv 0) (cv 1) (cB _)))) au))))
theorem S4 (T:Txt K mg a):aJ P w K mg base gd 1 a.dI a.gi ["numbers"] (LZ K):=by
 refine T.gn.n.iS Rz (O5 T) (fun vs H Q E h=>?_) (fun H vs Q E h=>?_)
 ·obtain ⟨p,xs,rfl,_⟩:=h;rfl
 ·obtain ⟨p,xs,rfl,hS,hz,q⟩:=h
  show Gf K _ [some (.ref p)] H
  unfold Gf
  have big:(20000:Nat)<=sizeLine:=by decide
  walk_at "gs"
  refine ⟨_,hS,fun q1 H1 n1=>?_⟩
  rw [xW] at n1
  refine ⟨p,q1,rfl,⟨_,n1.same.seq hS⟩,⟨_,n1.sq⟩,fun r hr=>N3 (xs:=xs.map V.int) (ys:=(xs.map V.int).drop 1) (n:=xs.length - 1) (by rw [Zp6,ZpC];omega) (fun σ=>∃ v0 v1,σ=[v0,v1]) (fun i H3=>H3 r=some (.lst (((ZpJ i).map fun j=>decide (xs.getD j 0<xs.getD (j+1) 0)).map V.bl))/\aH H1 H3) ⟨_,_,rfl⟩ ⟨cq,iU hr⟩ ?_ ?_ ?_⟩
  ·rintro i H2 _ ⟨_,s2⟩
   exact ⟨s2.seq (n1.same.seq hS),s2.seq n1.sq⟩
  ·rintro i x y t σ2 H2 R hx hy ht ⟨v0,v1,rfl⟩ ⟨h1,s2⟩ hR
   have hi:i+1<xs.length:=by
    have:=(ZpL.mp hy).1
    rw [Zp6,ZpC] at this
    omega
   have ex:x=.int (xs.getD i 0):=by
    rw [ZpF,ZpH (by omega)] at hx
    cases hx
    simp [ZpX,show i<xs.length by omega]
   have ey:y=.int (xs.getD (i+1) 0):=by
    rw [List.getElem?_drop,ZpF,show 1+i=i+1 by omega,ZpH hi] at hy
    cases hy
    simp [ZpX,hi]
   subst ex ey
   have P5:t≠r:=(gc h1 ht).symm
   walk_at "gs"
   refine ⟨t,_,rfl,.of cq,rfl,_,_,rfl,_,_,rfl,rfl,?_⟩
   walk_at "gs"
   refine ⟨_,by rw [bo P5.symm];exact h1,by rw [ZpC,ZpC,Zp9];omega,hR _ _ ⟨_,_,rfl⟩ ⟨?_,((s2.trans (iU ht))).put hr⟩⟩
   rw [cq,Zqw,ZpK,ZpK]
   rfl
  ·rintro H3 ⟨h1,s3⟩
   walk_at "gs"
   refine ⟨_,.of h1,?_⟩
   exact q H3 (n1.same.trans s3)
theorem M5 {κ:Type} [DecidableEq κ] (kvs:List (κ × V)) (k:κ) (v:V):(gz kvs k v).length<=kvs.length+1:=by
 unfold gz
 split
 ·rw [ZpC];omega
 ·rw [ZpI];exact ZqY _
noncomputable def pe (ks:List Int) (xs:List V):Prop:=∃ ys:List Int,xs=ys.map V.int/\1<=ys.length/\ys.length<=6/\ys.Pairwise (· < ·)/\∀ y∈ys,y∈ks
noncomputable def oB (ks:List Int):V->Bool
 | .int y=>decide (y∈ks)
 | _=>false
theorem J5 {ks:List Int}:∀ {xs:List V},xs.all (oB ks)=true->∃ ys:List Int,xs=ys.map V.int/\∀ y∈ys,y∈ks
 | [],_=>⟨[],rfl,fun y hy=>by simp at hy⟩
 | x :: r,h=>by
  rw [ZqL,Zrt] at h
  obtain ⟨ys,e,hy⟩:=J5 h.2
  cases x with
  | int i=>exact ⟨i :: ys,by rw [e];rfl,fun y hm=>by
    rcases ZpE.mp hm with rfl | z
    ·exact of_decide_eq_true h.1
    ·exact hy y z⟩
  | _=>cases h.1
theorem Ts {ks ys:List Int} (h:∀ y∈ys,y∈ks):(ys.map V.int).all (oB ks)=true:=by
 rw [Zqp,Zp8]
 exact fun y hy=>decide_eq_true (h y hy)
theorem zE:∀ {xs ys:List Int},xs.map V.int=ys.map V.int->xs=ys
 | [],[],_=>rfl
 | [],_ :: _,h=>by cases h
 | _ :: _,[],h=>by cases h
 | x :: r,y :: t,h=>by
  rw [ZpD,ZpD,List.cons.injEq] at h
  rw [V.int.inj h.1,zE h.2]
theorem MZ:∀ {xs:List Int},MF.oJ xs->xs.Pairwise (· < ·)
 | [],_=>.nil
 | [x],_=>List.pairwise_singleton _ _
 | x :: y :: r,h=>by
  have ih:=MZ (xs:=y :: r) fun j hj=>h (j+1) (by simp only [ZpG] at hj ⊢;omega)
  have h0:x<y:=h 0 (by simp)
  refine ZqQ.mpr ⟨fun z hz=>?_,ih⟩
  rcases ZpE.mp hz with rfl | hz;skip
  ·exact h0
  ·exact Int.lt_trans h0 ((ZqQ.mp ih).1 z hz)
noncomputable def Lq (K:ZoW):Sp:=fun vs H Q _=>∃ (c d:Addr) (xs:List V) (kvs:List (Key × V)) (ks:List Int),vs=[.ref c,.ref d]/\H c=some (.lst xs)/\(∀ x∈xs,ki H x)/\xs.length<=1000/\H d=some (.dK kvs)/\(∀ x:Int,(fi kvs (.inl x)).isSome=decide (x∈ks)) /\
 (pe ks xs->∀ H',aH H H'->Q (.bl true) H')/\(¬ pe ks xs->∀ H',aH H H'->Q (.bl false) H')
noncomputable def Fy (a:dy) (K:ZoW):TS:=(aV (cM (lC (bK (af (fQ fun i j=>.bl (decide (i<j))) (bw (gY K) (ah (aa 0) ar)) (tC (.int 1)))) (bK (af (fQ fun i j=>.bl (decide (j<i))) (bw (gY K) (ah (aa 0) ar)) (tC (By a))))) (cA (tC (.bl false))) eh)
  (aV (cM (nj (kd K (bw (lF K) (ah (eg (jg K (aa 0)) 1 [1] (aK 0) fR (oo (bS (CZ K) [] E0 (ah (aa 0) ar)) (tD (aa 0) (aa 1)))) ar)))) (cA (tC (.bl false))) eh)
  (cA (bS (LZ K) [] E0 (ah (aa 0) ar)))))
theorem NZ (T:Txt K mg a):TM P w K mg base 1 "is_cut_of" vD Fj a.dF (Fy a K) :=
 fun hr=>(aW (dD (PW.pt (mB (cI oM (dX iE (by rfl) T.aL PySem.boot_len (ai (cv 0) au)) ak (cB _)) (oX (cI kS (dX iE (by rfl) T.aL PySem.boot_len (ai (cv 0) au)) (vq rfl T.dP) (cB _))))) (aS (cY uL)) eU)
   (aW (dD (pD (nF (dX (Cr rfl) (by rfl) T.je PyProof.Rows.boot_all (ai (lI (N:=["lower","lowers"]) (k:=1) (sel:=[1]) (aD.of (ba vD).names (by decide +kernel)) (aF.of Fj (by decide +kernel)) rfl (lq (cv 0)) (fun _ _ _ _=>(eu (i:=0) (show ZpU (["lower","lowers"]:List Str) by decide +kernel) rfl (by walk_at "o"))) (fun _ _ _ _=>jz) (fun _ _ _ _=>(wF (eC T.dk (G7 T) (hm hr) dO (ai (cv 0) au)) (vj (qw (rk (BS hr) (cv 0) (cv 1))))))) au)))) (aS (cY uL)) eU)
   (aS (cY (eC T.gn (S4 T) (hm hr) dO (ai (cv 0) au))))))
theorem NK (T:Txt K mg a):aJ P w K mg base gd 2 a.dF a.gp ["cut","lowers"] (Lq K):=by
 refine T.gh.n.iS Uw (NZ T) (fun vs H Q E h=>?_) (fun H vs Q E h=>?_)
 ·obtain ⟨c,d,xs,kvs,ks,rfl,_⟩:=h;rfl
 ·obtain ⟨c,d,xs,kvs,ks,rfl,hc,hn,hz,hd,hk,q1,q0⟩:=h
  show Fy a K _ [some (.ref c),some (.ref d)] H
  unfold Fy By
  have big:(20000:Nat)<=sizeLine:=by decide
  walk_at "gs"
  refine .inl ⟨_,.inl (.of hc),?_⟩
  by_cases g1:(xs.length:Int)<1
  ·rw [if_pos g1]
   refine q0 (fun ⟨ys,e,l1,_⟩=>?_) H (fun _ _ e=>e)
   rw [e,ZpC] at g1
   omega
  rw [if_neg g1]
  refine .inl ⟨_,.inl (.of hc),?_⟩
  by_cases g6:(6:Int)<(xs.length:Int)
  ·rw [if_pos g6]
   refine q0 (fun ⟨ys,e,_,l6,_⟩=>?_) H (fun _ _ e=>e)
   rw [e,ZpC] at g6
   omega
  rw [if_neg g6]
  walk_at "gs"
  refine ⟨⟨_,.of hc⟩,Bz (fun v=>.bl (oB ks v)) (.of hc) rfl (by omega) ?_ ?_⟩
  ·intro v H' Q' hv s' q'
   walk_at "gs"
   refine ⟨v,rfl,(hn v hv).same s',?_⟩
   cases hw:jK v with
   | false =>
    have:oB ks v=false:=by
     cases v with
     | int i=>cases hw
     | _=>rfl
    rw [this] at q'
    walk_at "gs"
    exact q'
   | true =>
    obtain ⟨y,rfl⟩:=Fl hw
    walk_at "gs"
    refine ⟨d,_,rfl,nH.k (k:=.inl y) (s' _ _ hd),?_⟩
    rw [hk y]
    exact q'
  intro lp H1 n1
  have e1:xs.map (fun v=>V.bl (oB ks v))=(xs.map (oB ks)).map V.bl:=by rw [ZpO];rfl
  rw [e1] at n1
  walk_at "gs"
  refine ⟨_,n1.sq,?_⟩
  have e2:(xs.map (oB ks)).all id=xs.all (oB ks):=by rw [Zqp];rfl
  rw [e2]
  cases ha:xs.all (oB ks) with
  | false =>
   walk_at "gs"
   refine q0 (fun ⟨ys,e,_,_,_,hy⟩=>?_) H1 n1.same
   rw [e,Ts hy] at ha
   cases ha
  | true =>
   obtain ⟨ys,rfl,hy⟩:=J5 ha
   rw [ZpC] at g1 g6
   walk_at "gs"
   refine ⟨c,ys,rfl,.of (n1.same _ _ hc),by omega,fun H2 s2=>?_⟩
   cases hr:MF.B2 ys with
   | true=>exact q1 ⟨ys,rfl,by omega,by omega,MZ ((MF.LG ys).mp hr),hy⟩ H2 (n1.same.trans s2)
   | false =>
    refine q0 (fun ⟨zs,e,_,_,hp,_⟩=>?_) H2 (n1.same.trans s2)
    rw [zE e,(MF.LG zs).mpr (MF.ue hp)] at hr
    cases hr
theorem WP.snoc {m:Nat}{ps:List Pc} (w:WP m ps) {p:Pc} (h:sI m ps p):WP m (ps ++ [p]):=by
 intro i q hq
 rcases Nat.lt_or_ge i ps.length with l | l
 ·rw [Zp5 l] at hq
  rw [List.take_append_of_le_length (by omega)]
  exact w i q hq
 ·have hi:i<ps.length+1:=by have:=(ZpL.mp hq).1;rwa [ZpI] at this
  have:i=ps.length:=by omega
  subst this
  rw [ZpW (ZqY _),Zq5] at hq
  have e:p=q:=by simpa using hq
  subst e
  rw [List.take_left']
  ·exact h
  ·rfl
structure iA (H:Hp) (l:Addr) (ts:List (Addr × Addr)) (gs:List mw):Prop where
 lst:H l=some (.lst (ts.map fun t=>V.ref t.1))
 len:ts.length=gs.length
 at_:∀ (i:Nat) t p,ts[i]? = some t->gs[i]? = some p->H t.1=some (.tup [p.1,.ref t.2,p.2.2])/\H t.2=some (.lst p.2.1)
theorem iA.same {H H':Hp}{l:Addr}{ts:List (Addr × Addr)}{ps:List mw} (h:iA H l ts ps) (s:∀ b o,H b=some o->H' b=some o):iA H' l ts ps :=
 ⟨s _ _ h.lst,h.len,fun i t p ht hp=>⟨s _ _ (h.at_ i t p ht hp).1,s _ _ (h.at_ i t p ht hp).2⟩⟩
theorem iA.get {H:Hp}{l:Addr}{ts:List (Addr × Addr)}{ps:List mw} (h:iA H l ts ps) {i:Nat} (hi:i<ts.length):∃ p,ps[i]? = some p/\H (ts[i]).1=some (.tup [p.1,.ref (ts[i]).2,p.2.2])/\H (ts[i]).2=some (.lst p.2.1):=by
 have hp:ps[i]? = some (ps[i]'(by rw [<- h.len];exact hi)):=ZpH _
 exact ⟨_,hp,h.at_ i _ _ (ZpH hi) hp⟩
noncomputable def FF (H:Hp) (gs:List mw):Prop:=∀ g∈gs,ki H g.1/\ki H g.2.2/\g.2.1.length<=100/\∀ x∈g.2.1,ki H x
theorem JI {p q:Pc} (h:up p=up q):p=q:=by
 obtain ⟨a,b,c⟩:=p
 obtain ⟨d,e,f⟩:=q
 unfold up at h
 simp only [Prod.mk.injEq,V.int.injEq] at h
 obtain ⟨h1,h2,h3⟩:=h
 rw [h1,zE h2,h3]
theorem CN:∀ {ps qs:List Pc},ps.map up=qs.map up->ps=qs
 | [],[],_=>rfl
 | [],_ :: _,h=>by cases h
 | _ :: _,[],h=>by cases h
 | x :: r,y :: t,h=>by
  rw [ZpD,ZpD,List.cons.injEq] at h
  rw [JI h.1,CN h.2]
noncomputable def oS (m:Nat) (gs:List mw):Prop:=∃ ps,gs=ps.map up/\WP m ps
theorem qW {m:Nat}{gs:List mw}{ps:List Pc}{i:Nat}{g:mw} (cS:gs.take i=ps.map up) (hg:gs[i]? = some g) (pR:∀ p,up p=g->¬ sI m ps p):¬ oS m gs:=by
 rintro ⟨qs,rfl,w⟩
 rw [<- Zqq] at cS
 have e:=CN cS
 rw [ZpF] at hg
 cases hq:qs[i]? with
 | none=>rw [hq] at hg;cases hg
 | some p =>
  rw [hq] at hg
  have hw:=w i p hq
  rw [e] at hw
  exact pR p (Option.some.inj hg) hw
noncomputable def Kr (a:dy) (_:ZoW):Sp:=fun vs H Q E=>∃ (m:Nat) (l:Addr) (ts:List (Addr × Addr)) (gs:List mw),vs=[.int m,.ref l]/\iA H l ts gs/\FF H gs/\m<=10/\gs.length<=1000 /\
 (∀ ps d kvs H',gs=ps.map up->WP m ps->vp H d (.dK kvs) H'->(∀ x:Int,(fi kvs (.inl x)).isSome=decide (x∈known m ps))->Q (.ref d) H')/\(¬ oS m gs->∀ H' e,aH H H'->H' e=none->E (.ref e) (some a.ae) H')
noncomputable def DX (a:dy) (K:ZoW) (E:XK):TS:=(aV (bG (bw (Fu K) (ah (eg (xl (ah (tC (.int 1)) (ah (af bc (aa 0) (tC (.int 1))) ar))) 1 [] (aK 0) fR (pK (ah (aa 0) (ah (tC (.bl true)) ar)))) ar)) (aK 2))
  (aV (bG (aa 0) (aK 3))
  (aV (jD (jg K (aa 1)) (oP K 3 (jj (aK 4) (jj (aK 5) (jj (aK 6) pS)))) (aV (cM (lC (nj (kd K (bS (CU K) [] E0 (ah (aa 4) (ah (af bc (aa 3) (tC (.int 1))) (ah (tC (Dk a)) ar)))))) (nj (kd K (bS (Lq K) [] E0 (ah (aa 5) (ah (aa 2) ar)))))) (kj a.ae (ah (tC (.str "a piece's knot does not rise, or its cut is none")) ar) E) eh)
  (aV (cM (nj (kd K (bS (CU K) [] E0 (ah (aa 6) (ah (tC (.int 0)) (ah (bS (JU K) [] E0 (ah (bw (gY K) (ah (aa 5) ar)) ar)) ar)))))) (kj a.ae (ah (tC (.str "a piece's table is none of its cut")) ar) E) eh)
  (aV (Cn (aa 2) (aa 4) (tC (.bl true)))
  (bG (aa 4) (aK 3))))))
  (cA (aa 2)))))
theorem R6 (T:Txt K mg a):TX P w K mg base 2 "need_pieces" vO HR a.cH (DX a K) :=
 fun hr=>(aW (dv (i:=2) qP.nd rfl (by walk_at "o") (fP (PJ rfl) (by rfl) T.ow PyProof.Rows.boot_dict (ai (lI (N:=["knot"]) (k:=1) (sel:=[]) (aD.of (ba vO).names (by decide +kernel)) (aF.of HR (by decide +kernel)) rfl (OI rfl T.cQ (ai ak (ai (aw bf (cv 0) ak) au))) (fun _ _ _ _=>(eu (i:=0) (show ZpU (["knot"]:List Str) by decide +kernel) rfl (by walk_at "o"))) (fun _ _ _ _=>jz) (fun _ _ _ _=>(zW (ai (cv 0) (ai uL au))))) au)))
   (aW (dv (i:=3) qP.nd rfl (by walk_at "o") (cv 0))
   (aW (zH pQ rfl (lq (cv 1)) (vN rfl (jJ (eu (i:=4) qP.nd rfl (by walk_at "o")) (jJ (eu (i:=5) qP.nd rfl (by walk_at "o")) (jJ (eu (i:=6) qP.nd rfl (by walk_at "o")) vo)))) (aW (dD (PW.pt (mB (pD (nF (eC T.bV (G8 T) (hm hr) dO (ai (cv 4) (ai (aw bf (cv 3) ak) (ai (vq rfl T.fS) au)))))) (oX (pD (nF (eC T.gh (NK T) (hm hr) dO (ai (cv 5) (ai (cv 2) au)))))))) (aS (lN Zps T.xi_NoBoard (by decide) rfl T.bx rfl ie (ai aM au))) eU)
   (aW (dD (pD (nF (eC T.bV (G8 T) (hm hr) dO (ai (cv 6) (ai ak (ai (eC T.eA (PV T) (hm hr) dO (ai (dX iE (by rfl) T.aL PySem.boot_len (ai (cv 5) au)) au)) au)))))) (aS (lN Zps T.xi_NoBoard (by decide) rfl T.bx rfl ie (ai aM au))) eU)
   (aW (Ng (BS hr) (cv 2) (cv 4) uL rfl)
   (aS (dv (i:=3) qP.nd rfl (by walk_at "o") (cv 4)))))))
   (aS (cY (cv 2))))))
theorem Tv (T:Txt K mg a):aJ P w K mg base (eB P w) 3 a.cH a.eI ["many","pieces"] (Kr a K):=by
 refine T.bL.n.iF qP (R6 T) (fun vs H Q E h=>?_) (fun H vs Q E h=>?_)
 ·obtain ⟨m,l,ts,gs,rfl,_⟩:=h;rfl
 ·obtain ⟨m,l,ts,gs,rfl,hP,hN,iN,hz,q1,q0⟩:=h
  show DX a K E _ [some (.int m),some (.ref l),none,none,none,none,none] H
  unfold DX Dk
  have big:(20000:Nat)<=sizeLine:=by decide
  have BV:=hP.len
  walk_at "gs"
  refine ⟨_,_,rfl,⟨by decide,by decide,by omega,by omega⟩,?_⟩
  rw [show ((m:Int)+1 - 1).toNat=m by omega]
  refine fun lp hlp=>C7 (n:=m) (item:=fun i=>.int ((1:Int)+(i:Nat))) (fun σ=>∃ v,σ=[v]) (fun i H2=>∃ us,H2 lp=some (.lst us)/\us.length=i/\aH H H2/\∀ j:Nat,j<i->∃ t,us[j]? = some (.ref t)/\H2 t=some (.tup [.int (1+(j:Int)),.bl true])) ⟨_,rfl⟩ ⟨[],cq,rfl,iU hlp,fun j hj=>absurd hj (Nat.not_lt_zero _)⟩ ?_ ?_ ?_ ?_
  ·intro i H2 hi _
   exact ⟨hi,fun x H5 hy=>hy⟩
  ·intro H2 _
   exact ZqY _
  ·rintro i σ2 H2 R hi ⟨v,rfl⟩ ⟨us,h1,h2,s2,h4⟩ hR
   walk_at "gs"
   refine ⟨by show 2<=sizeLine;decide,fun t5 H5 n5=>?_⟩
   have GA:=n5.same _ _ h1
   have OQ:t5≠lp:=(gc h1 n5.fX).symm
   refine ⟨us,GA,by omega,hR _ _ ⟨_,rfl⟩ ⟨us ++ [.ref t5],cq,by rw [ZpI,h2];rfl,(s2.trans n5.same).put hlp,fun j hj=>?_⟩⟩
   by_cases zV:j<i
   ·obtain ⟨t',g1,g2⟩:=h4 j zV
    exact ⟨t',by rw [Zp5 (by omega)];exact g1,by rw [bo (nv g2 h1 (fun z=>nomatch z))];exact n5.same _ _ g2⟩
   ·have hj':j=i:=by omega
    subst hj'
    exact ⟨t5,by rw [<- h2];simp,by rw [bo OQ];exact n5.at_⟩
  rintro H2 ⟨us,h1,h2,s2,h4⟩
  walk_at "gs"
  refine ⟨us,((ZpJ m).map fun i:Nat=>1+(i:Int)).map fun x=>(.inl x,.bl true),h1,by rw [h2,ZpC,ZpC,Zp9],by rw [ZpC,ZpC,Zp9];omega,fun j pr hj=>?_,fun d H3 n3=>?_⟩
  ·rw [ZpO,ZpF] at hj
   cases hx:(ZpJ m)[j]? with
   | none=>rw [hx] at hj;cases hj
   | some x =>
    rw [hx] at hj
    cases hj
    have IL:j<m:=by have:=(ZpL.mp hx).1;rwa [Zp9] at this
    rw [ZqR IL] at hx
    cases hx
    exact h4 j IL
  have LC:∀ x:Int,(fi (mz [] (((ZpJ m).map fun i:Nat=>1+(i:Int)).map fun x=>((.inl x:Key),V.bl true))) (.inl x)).isSome=decide (x∈known m []):=fun x=>by
   have:=Qi ((ZpJ m).map fun i:Nat=>1+(i:Int)) x []
   unfold known
   rw [Zqc,Zp4]
   simpa [mz,fi] using this
  have hlen:(mz [] (((ZpJ m).map fun i:Nat=>1+(i:Int)).map fun x=>((.inl x:Key),V.bl true))).length<=m:=by
   have key:∀ (ks:List Int) (acc:List (Key × V)),((ks.map fun x=>((.inl x:Key),V.bl true)).foldl (fun acc kv=>gz acc kv.1 kv.2) acc).length<=acc.length+ks.length:=by
    intro ks
    induction ks with
    | nil=>intro acc;simp
    | cons k r ih =>
     intro acc
     rw [ZpD,ZqN,ZpG]
     dsimp only
     have:=ih (gz acc (.inl k) (.bl true))
     have:=M5 acc (.inl k) (.bl true)
     omega
   have:=key ((ZpJ m).map fun i:Nat=>1+(i:Int)) []
   rw [ZpC,Zp9] at this
   simpa [mz] using this
  generalize mz [] (((ZpJ m).map fun i:Nat=>1+(i:Int)).map fun x=>((.inl x:Key),V.bl true))=kv0 at n3 LC hlen
  have B6:=s2.trans n3.same
  have pV:H d=none:=s2.nil n3.fX
  walk_at "gs"
  refine ⟨⟨_,.of (B6 _ _ hP.lst)⟩,HH (xs:=ts.map fun t=>V.ref t.1) (fun i σ H4=>aH H H4/\∃ (ps:List Pc) (kvs:List (Key × V)) (v4 v5 v6:Option V),gs.take i=ps.map up/\WP m ps/\H4 d=some (.dK kvs)/\kvs.length<=m+i/\(∀ x:Int,(fi kvs (.inl x)).isSome=decide (x∈known m ps))/\σ=[some (.int m),some (.ref l),some (.ref d),some (.int (dH m ps)),v4,v5,v6]) ⟨B6,[],kv0,_,_,_,rfl,fun i p hp=>by simp at hp,n3.at_,by omega,LC,rfl⟩ ?_ ?_ ?_⟩
  ·rintro i σ H4 _ ⟨s4,_⟩
   exact .of (s4 _ _ hP.lst)
  ·rintro i v σ H4 hv ⟨s4,ps,kvs,v4,v5,v6,cS,wp,h4,hl4,hk4,rfl⟩
   have hi:i<ts.length:=by have:=(ZpL.mp hv).1;rwa [ZpC] at this
   rw [ZpF,ZpH hi] at hv
   have ev:V.ref (ts[i]).1=v:=Option.some.inj hv
   subst ev
   clear hv
   obtain ⟨g,hg,hpt,ip⟩:=(hP.same s4).get hi
   obtain ⟨nk,nt,nl,nc⟩:=hN g (ZpP hg)
   generalize (ts[i]).1=t1 at *
   generalize (ts[i]).2=t2 at *
   have bad:∀ H' e,aH H H'->H' e=none->(∀ p,up p=g->¬ sI m ps p)->E (.ref e) (some a.ae) H':=fun H' e s' he pR=>q0 (qW cS hg pR) H' e s' he
   walk_at "gs"
   refine ⟨t1,_,rfl,.of hpt,rfl,_,_,rfl,_,_,rfl,_,_,rfl,rfl,?_⟩
   walk_at "gs"
   refine ⟨g.1,_,_,rfl,nk.same s4,?_⟩
   cases hb:yr g.1 (dH m ps+1) 999 with
   | false =>
    walk_at "gs"
    refine fun e he=>bad _ e s4 he fun p hup w=>?_
    have e1:g.1=.int p.1:=by rw [<- hup];rfl
    rw [e1] at hb
    have:=w.up
    have:=w.hi
    exact of_decide_eq_false hb ⟨by omega,by omega⟩
   | true =>
    have ED:∃ k,g.1=.int k/\dH m ps+1<=k/\k<=999:=by
     cases h1:g.1 with
     | int k=>rw [h1] at hb;exact ⟨k,rfl,of_decide_eq_true hb⟩
     | _=>rw [h1] at hb;cases hb
    obtain ⟨k,hk,Kc,oN⟩:=ED
    walk_at "gs"
    refine ⟨t2,d,g.2.1,kvs,known m ps,rfl,ip,fun x hx=>(nc x hx).same s4,by omega,h4,hk4,fun aB H5 s5=>?_,fun mx H5 s5=>?_⟩
    case refine_2 =>
     walk_at "gs"
     refine fun e he=>bad _ e (s4.trans s5) he fun p hup w=>mx ⟨p.2.1,by rw [<- hup];rfl,w.l1,w.l6,w.J4,w.kn⟩
    obtain ⟨ys,hys,l1,l6,pw,kn⟩:=aB
    have wL:((yc ys.length:Nat):Int)=((2 ^ 2 ^ ys.length:Nat):Int) - 1:=by
     unfold yc
     have h1:1<=2 ^ 2 ^ ys.length:=Zrf
     omega
    walk_at "gs"
    refine .inl ⟨_,.inl (.of (s5 _ _ ip)),?_⟩
    rw [hys,ZpC]
    refine ⟨_,rfl,by omega,?_⟩
    refine ⟨g.2.2,_,_,rfl,nt.same (s4.trans s5),?_⟩
    rw [wL]
    cases hb2:yr g.2.2 0 (((2 ^ 2 ^ ys.length:Nat):Int) - 1) with
    | false =>
     walk_at "gs"
     refine fun e he=>bad _ e (s4.trans s5) he fun p hup w=>?_
     have e1:g.2.2=.int p.2.2:=by rw [<- hup];rfl
     have e2:p.2.1=ys:=zE (by rw [<- hys,<- hup];rfl)
     rw [e1] at hb2
     have w7:=w.t0
     have w8:=w.t1
     rw [e2] at w8
     refine of_decide_eq_false hb2 ⟨w7,?_⟩
     generalize ((2 ^ 2 ^ ys.length:Nat):Int)=Z at w8
     omega
    | true =>
     have DW:∃ t,g.2.2=.int t/\0<=t/\t<=((2 ^ 2 ^ ys.length:Nat):Int) - 1:=by
      cases h1:g.2.2 with
      | int t=>rw [h1] at hb2;exact ⟨t,rfl,of_decide_eq_true hb2⟩
      | _=>rw [h1] at hb2;cases hb2
     obtain ⟨t,ht,ht1,ht2⟩:=DW
     have Qo:sI m ps (k,ys,t):=⟨by show _<k;omega,oN,l1,l6,pw,kn,ht1,by show t<((2 ^ 2 ^ ys.length:Nat):Int);generalize ((2 ^ 2 ^ ys.length:Nat):Int)=Z at ht2;omega⟩
     have ND:up (k,ys,t)=g:=by
      show (V.int k,ys.map V.int,V.int t)=g
      rw [<- hk,<- hys,<- ht]
     rw [hk]
     walk_at "gs"
     refine ⟨d,_,rfl,sZ.k (k:=.inl k) (s5 _ _ h4) (by omega),(s4.trans s5).put pV,ps ++ [(k,ys,t)],_,some (.int k),some (.ref t2),some g.2.2,?_,wp.snoc Qo,cq,?_,fun x=>?_,by rw [wb]⟩
     ·rw [Zqj,hg,cS,ZpK,<- ND]
      rfl
     ·have:=M5 kvs (.inl k) (V.bl true)
      omega
     ·rw [F2,Jh]
      by_cases e:x=k
      ·subst e
       rw [if_pos rfl]
       simp
      ·rw [if_neg (fun z=>e (Sum.inl.inj z)),hk4 x,decide_eq_decide,ZpM,ZpQ]
       exact ⟨.inl,fun z=>z.resolve_right e⟩
  ·rintro σ H4 ⟨s4,ps,kvs,v4,v5,v6,cS,wp,h4,hl4,hk4,rfl⟩
   rw [ZpC,BV,Zp1] at cS
   walk_at "gs"
   exact q1 ps d kvs H4 cS wp ⟨pV,h4,s4⟩ hk4
noncomputable def o3 (ks:List Int) (ys:List V):Prop:=∃ ts:List Int,ys=ts.map V.int/\1<=ts.length/\∀ t∈ts,t / 2=0\/t / 2∈ks
noncomputable def Ip (a:dy) (_:ZoW):Sp:=fun vs H Q E=>∃ (tp d:Addr) (ys:List V) (kvs:List (Key × V)) (ks:List Int),vs=[.ref tp,.ref d]/\H tp=some (.lst ys)/\(∀ y∈ys,ki H y)/\H d=some (.dK kvs)/\(∀ x:Int,(fi kvs (.inl x)).isSome=decide (x∈ks)) /\
 (o3 ks ys->Q .non H)/\(¬ o3 ks ys->∀ e,H e=none->E (.ref e) (some a.ae) H)
noncomputable def Dq (a:dy) (K:ZoW) (E:XK):TS:=(aV (cM (bK (af (fQ fun i j=>.bl (decide (i<j))) (bw (gY K) (ah (aa 0) ar)) (tC (.int 1)))) (kj a.ae (ah (tC (.str "a board has one output or more")) ar) E) eh)
  (jD (jg K (aa 0)) (aK 2) (cM (lC (nj (kd K (bS (CZ K) [] E0 (ah (aa 2) ar)))) (pv (bK (af (mi K) (af (aQ cX fun i j=>.int (i / j)) (aa 2) (tC (.int 2))) (tC (.int 0)))) (bK (D7 (af (aQ cX fun i j=>.int (i / j)) (aa 2) (tC (.int 2))) (aa 1))))) (kj a.ae (ah (tC (.str "an output is no tie of this board")) ar) E) eh)))
theorem Su (T:Txt K mg a):TX P w K mg base 1 "need_ties" AE KA a.dU (Dq a K) :=
 fun hr=>(aW (dD (cI oM (dX iE (by rfl) T.aL PySem.boot_len (ai (cv 0) au)) ak (cB _)) (aS (lN Zps T.xi_NoBoard (by decide) rfl T.bx rfl ie (ai aM au))) eU)
   (aS (zH pQ rfl (lq (cv 0)) (eu (i:=2) Mb.nd rfl (by walk_at "o")) (aS (dD (PW.pt (mB (pD (nF (eC T.dk (G7 T) (hm hr) dO (ai (cv 2) au)))) (oX (PW.pt (K3 (cI (nE (eM hr)) (aw fg (cv 2) ak) ak (cB _)) (MP (Ei (Rb (BS hr) (aw fg (cv 2) ak) (cv 1))))))))) (aS (lN Zps T.xi_NoBoard (by decide) rfl T.bx rfl ie (ai aM au))) eU)))))
theorem OL (T:Txt K mg a):aJ P w K mg base (eB P w) 2 a.dU a.gu ["ties","lowers"] (Ip a K):=by
 refine T.cF.n.iF Mb (Su T) (fun vs H Q E h=>?_) (fun H vs Q E h=>?_)
 ·obtain ⟨tp,d,ys,kvs,ks,rfl,_⟩:=h;rfl
 ·obtain ⟨tp,d,ys,kvs,ks,rfl,hT,hN,hd,hk,q1,q0⟩:=h
  show Dq a K E _ [some (.ref tp),some (.ref d),none] H
  unfold Dq
  walk_at "gs"
  refine .inl ⟨_,.inl (.of hT),?_⟩
  by_cases g1:(ys.length:Int)<1
  ·rw [if_pos g1]
   walk_at "gs"
   refine fun e he=>q0 (fun ⟨ts,e1,l1,_⟩=>?_) e he
   rw [e1,ZpC] at g1
   omega
  rw [if_neg g1]
  walk_at "gs"
  refine ⟨⟨_,.of hT⟩,HH (xs:=ys) (fun i σ H2=>H2=H/\∃ (ts:List Int) (v2:Option V),ys.take i=ts.map V.int/\(∀ t∈ts,t / 2=0\/t / 2∈ks)/\σ=[some (.ref tp),some (.ref d),v2]) ⟨rfl,[],_,rfl,fun t ht=>by simp at ht,rfl⟩ ?_ ?_ ?_⟩
  ·rintro i σ H2 _ ⟨rfl,_⟩
   exact .of hT
  ·rintro i v σ H2 hv ⟨rfl,ts,v2,cS,hts,rfl⟩
   have bad:(∀ t,v=.int t->¬ (t / 2=0\/t / 2∈ks))->∀ e,H2 e=none->E (.ref e) (some a.ae) H2:=fun pR=>q0 fun ⟨us,e1,_,hus⟩=>by
    rw [e1,ZpF] at hv
    cases hu:us[i]? with
    | none=>rw [hu] at hv;cases hv
    | some t =>
     rw [hu] at hv
     exact pR t (Option.some.inj hv).symm (hus t (ZpP hu))
   walk_at "gs"
   refine ⟨v,rfl,hN v (ZpP hv),?_⟩
   cases hw:jK v with
   | false =>
    walk_at "gs"
    refine fun e he=>bad (fun t e1=>?_) e he
    rw [e1] at hw
    cases hw
   | true =>
    obtain ⟨t,rfl⟩:=Fl hw
    walk_at "gs"
    by_cases g:t / 2=0
    ·rw [if_neg (by simpa using g)]
     refine ⟨by trivial,ts ++ [t],_,by rw [Zqj,hv,cS,ZpK];rfl,fun u hu=>?_,rfl⟩
     rcases ZpM.mp hu with z | z
     ·exact hts u z
     ·rw [ZpQ] at z
      subst z
      exact .inl g
    ·rw [if_pos (by simpa using g)]
     walk_at "gs"
     refine ⟨d,_,rfl,nH.k (k:=.inl (t / 2)) hd,?_⟩
     rw [hk]
     by_cases hm:t / 2∈ks
     ·rw [decide_eq_true hm]
      walk_at "go"
      refine ⟨by trivial,ts ++ [t],_,by rw [Zqj,hv,cS,ZpK];rfl,fun u hu=>?_,rfl⟩
      rcases ZpM.mp hu with z | z
      ·exact hts u z
      ·rw [ZpQ] at z
       subst z
       exact .inr hm
     ·rw [decide_eq_false hm]
      walk_at "gs"
      refine fun e he=>bad (fun t' e1=>?_) e he
      cases e1
      exact fun z=>z.elim g hm
  ·rintro σ H2 ⟨rfl,ts,v2,cS,hts,rfl⟩
   rw [Zp1] at cS
   walk_at "gs"
   refine q1 ⟨ts,cS,?_,hts⟩
   rw [cS,ZpC] at g1
   omega
noncomputable def lP (C:Addr) (H:Hp) (x:Addr) (m:Nat) (ps:List Pc) (ties:List Int):Prop :=
 ∃ (dx k tt:Addr) (ts:List (Addr × Addr)),H x=some (.ins C dx [("many",.int m),("kept_pieces",.ref k),("kept_ties",.ref tt)])/\kD H k ts ps/\H tt=some (.tup (ties.map V.int))
theorem lP.nl {C:Addr}{H H':Hp}{x:Addr}{m:Nat}{ps:List Pc}{ties:List Int} (h:lP C H x m ps ties) (s:NL H H'):lP C H' x m ps ties:=by
 obtain ⟨dx,k,tt,ts,h1,h2,h3⟩:=h
 exact ⟨dx,k,tt,ts,s _ _ (fun _ z=>nomatch z) h1,h2.nl s,s _ _ (fun _ z=>nomatch z) h3⟩
theorem lP.same {C:Addr}{H H':Hp}{x:Addr}{m:Nat}{ps:List Pc}{ties:List Int} (h:lP C H x m ps ties) (s:aH H H'):lP C H' x m ps ties:=h.nl (NL.of s)
theorem iA.dn {H:Hp}{l:Addr}{ts:List (Addr × Addr)}{ps:List Pc} (h:iA H l ts (ps.map jx.up)):i4 H l ts ps :=
 ⟨h.lst,by have:=h.len;rwa [ZpC] at this,fun i t p ht hp=>h.at_ i t (jx.up p) ht (by rw [ZpF,hp];rfl)⟩
noncomputable def sV (mv:V) (gs:List mw) (ys:List V):Prop:=∃ (m:Nat) (ps:List Pc) (ties:List Int),mv=.int m/\gs=ps.map up/\ys=ties.map V.int/\1<=m/\m<=10/\WP m ps/\1<=ties.length/\∀ t∈ties,t / 2=0\/t / 2∈known m ps
noncomputable def JF (a:dy) (K:ZoW):Sp:=fun vs H Q E=>∃ (x dx l tp:Addr) (mv:V) (ts:List (Addr × Addr)) (gs:List mw) (ys:List V),vs=[.ref x,mv,.ref l,.ref tp]/\H x=some (.ins a.aq dx [])/\iA H l ts gs/\FF H gs/\H tp=some (.lst ys)/\(∀ y∈ys,ki H y)/\ki H mv/\gs.length<=1000 /\
 (∀ (m:Nat) ps ties H',sV mv gs ys->mv=.int m->gs=ps.map up->ys=ties.map V.int->(∀ b o,b≠x->H b=some o->H' b=some o)->lP a.aq H' x m ps ties->Q .non H')/\(¬ sV mv gs ys->∀ H' e,(∀ b o,H b=some o->H' b=some o)->H' e=none->E (.ref e) (some a.ae) H')
noncomputable def Ft (a:dy) (K:ZoW) (E:XK):TS:=(aV (cM (nj (kd K (bS (CU K) [] E0 (ah (aa 1) (ah (tC (.int 1)) (ah (tC (HQ a)) ar)))))) (kj a.ae (ah (tC (.str "not one to ten inputs")) ar) E) eh)
  (aV (nI (bS (Ip a K) [] E (ah (aa 3) (ah (bS (Kr a K) [] E (ah (aa 1) (ah (aa 2) ar))) ar))))
  (aV (mj K (aa 0) (aa 1) "many")
  (aV (mj K (aa 0) (bw (vP K) (ah (eg (jg K (aa 2)) 3 [] (oP K 3 (jj (aK 0) (jj (aK 1) (jj (aK 2) pS)))) fR (pK (ah (aa 0) (ah (bw (vP K) (ah (aa 1) ar)) (ah (aa 2) ar))))) ar)) "kept_pieces")
  (mj K (aa 0) (bw (vP K) (ah (aa 3) ar)) "kept_ties")))))
theorem OS (T:Txt K mg a):TX P w K mg base 3 "Board.__init__" vf DN a.bq (Ft a K) :=
 fun hr=>(aW (dD (pD (nF (eC T.bV (G8 T) (hm hr) dO (ai (cv 1) (ai ak (ai (vq rfl T.hW) au)))))) (aS (lN Zps T.xi_NoBoard (by decide) rfl T.bx rfl ie (ai aM au))) eU)
   (aW (oZ (kM (OL T) (hm hr) rfl T.cF.m T.cF.n.kp T.cF.b .nil (ly ie) (ai (cv 3) (ai (kM (Tv T) (hm hr) rfl T.bL.m T.bL.n.kp T.bL.b .nil (ly ie) (ai (cv 1) (ai (cv 2) au))) au))))
   (aW (DV (cv 0) (cv 1) rfl)
   (aW (DV (cv 0) (fP D6 (by rfl) T.g8 PyProof.Rows.boot_tuple (ai (lI (N:=["knot","cut","table"]) (k:=3) (sel:=[]) (aD.of (ba vf).names (by decide +kernel)) (aF.of DN (by decide +kernel)) rfl (lq (cv 2)) (fun _ _ _ _=>(vN rfl (jJ (eu (i:=0) (show ZpU (["knot","cut","table"]:List Str) by decide +kernel) rfl (by walk_at "o")) (jJ (eu (i:=1) (show ZpU (["knot","cut","table"]:List Str) by decide +kernel) rfl (by walk_at "o")) (jJ (eu (i:=2) (show ZpU (["knot","cut","table"]:List Str) by decide +kernel) rfl (by walk_at "o")) vo))))) (fun _ _ _ _=>jz) (fun _ _ _ _=>(zW (ai (cv 0) (ai (fP D6 (by rfl) T.g8 PyProof.Rows.boot_tuple (ai (cv 1) au)) (ai (cv 2) au)))))) au)) rfl)
   (aS (DV (cv 0) (fP D6 (by rfl) T.g8 PyProof.Rows.boot_tuple (ai (cv 3) au)) rfl))))))
theorem Q0 (T:Txt K mg a):aJ P w K mg base (eB P w) 4 a.bq a.cV ["self","many","pieces","ties"] (JF a K):=by
 refine T.cP.n.iF UG (OS T) (fun vs H Q E h=>?_) (fun H vs Q E h=>?_)
 ·obtain ⟨x,dx,l,tp,mv,ts,gs,ys,rfl,_⟩:=h;rfl
 ·obtain ⟨x,dx,l,tp,mv,ts,gs,ys,rfl,hx,hG,hN,hY,hYN,hMN,hz,q1,q0⟩:=h
  show Ft a K E _ [some (.ref x),some mv,some (.ref l),some (.ref tp)] H
  unfold Ft HQ
  have big:(20000:Nat)<=sizeLine:=by decide
  walk_at "gs"
  refine ⟨mv,_,_,rfl,hMN,?_⟩
  cases hb:yr mv 1 10 with
  | false =>
   walk_at "gs"
   refine fun e he=>q0 (fun ⟨m,ps,ties,e1,_,_,m1,iN,_⟩=>?_) H e (fun _ _ z=>z) he
   rw [e1] at hb
   exact of_decide_eq_false hb ⟨by omega,by omega⟩
  | true =>
  have Mp:∃ m:Nat,mv=.int m/\1<=m/\m<=10:=by
   cases mv with
   | int k =>
    have hk:1<=k/\k<=10:=of_decide_eq_true hb
    exact ⟨k.toNat,by rw [Int.toNat_of_nonneg (by omega)],by omega,by omega⟩
   | _=>cases hb
  obtain ⟨m,rfl,m1,iN⟩:=Mp
  walk_at "gs"
  refine ⟨m,l,ts,gs,rfl,hG,hN,iN,hz,fun ps d kvs H1 hgs wp md hk=>?_,fun mx H1 e s1 he=>?_⟩
  case refine_2 =>
   exact q0 (fun ⟨m',ps,ties,e1,e2,_,_,_,w,_⟩=>mx ⟨ps,e2,by have e3:(m:Int)=(m':Int):=V.int.inj e1;rw [show m=m' by omega];exact w⟩) H1 e s1 he
  obtain ⟨_,Dl,s1⟩:=md
  subst hgs
  have hP:=hG.dn
  have BV:=hP.len
  rw [ZpC] at hz
  refine ⟨tp,d,ys,kvs,known m ps,rfl,s1 _ _ hY,fun y hy=>(hYN y hy).same s1,Dl,hk,fun aB=>?_,fun mx e he=>?_⟩
  case refine_2 =>
   exact q0 (fun ⟨m',qs,ties,e1,e2,e3,_,_,w,l1,ht⟩=>mx ⟨ties,e3,l1,by have e4:(m:Int)=(m':Int):=V.int.inj e1;rw [CN e2,show m=m' by omega];exact ht⟩) H1 e s1 he
  obtain ⟨ties,rfl,l1,hti⟩:=aB
  have hT:=hY
  have q:∀ H',(∀ b o,b≠x->H b=some o->H' b=some o)->lP a.aq H' x m ps ties->Q .non H':=fun H' st hB=>q1 m ps ties H' ⟨m,ps,ties,rfl,rfl,rfl,m1,iN,wp,l1,hti⟩ rfl rfl rfl st hB
  walk_at "gs"
  refine ⟨x,a.aq,dx,[],rfl,s1 _ _ hx,T.bO,T.eG,by decide,?_⟩
  walk_at "gs"
  have Fb:upd H1 x (.ins a.aq dx (dB "many" (.int m) [])) x=some (.ins a.aq dx (dB "many" (.int m) [])):=cq
  have s2:∀ b o,b≠x->H b=some o->upd H1 x (.ins a.aq dx (dB "many" (.int m) [])) b=some o:=fun b o n e=>by rw [bo n];exact s1 _ _ e
  generalize upd H1 x (.ins a.aq dx (dB "many" (.int m) []))=H2 at Fb s2 ⊢
  have og:i4 H2 l ts ps:=⟨s2 _ _ (nv hP.lst hx (fun z=>nomatch z)) hP.lst,hP.len,fun i t p ht hp=>⟨s2 _ _ (nv (hP.at_ i t p ht hp).1 hx (fun z=>nomatch z)) (hP.at_ i t p ht hp).1,s2 _ _ (nv (hP.at_ i t p ht hp).2 hx (fun z=>nomatch z)) (hP.at_ i t p ht hp).2⟩⟩
  refine ⟨⟨_,.of og.lst⟩,fun cp hcp=>C7 (n:=(ts.map fun t=>V.ref t.1).length) (item:=fun i=>(ts.map fun t=>V.ref t.1).getD i .non) (fun σ=>∃ v0 v1 v2,σ=[v0,v1,v2]) (fun i H3=>aH H2 H3/\∃ us:List (Addr × Addr),H3 cp=some (.lst (us.map fun t=>V.ref t.1))/\us.length=i/\∀ (j:Nat) t p,us[j]? = some t->ps[j]? = some p->H3 t.1=some (.tup [.int p.1,.ref t.2,.int p.2.2])/\H3 t.2=some (.tup (p.2.1.map V.int))) ⟨_,_,_,rfl⟩ ⟨iU hcp,[],cq,rfl,fun j t p ht=>by simp at ht⟩ (Dz (xs:=ts.map fun t=>V.ref t.1) ?_) ?_ ?_ ?_⟩
  ·rintro i H3 _ ⟨s3,_⟩
   exact .of (s3 _ _ og.lst)
  ·rintro H3 ⟨s3,_⟩
   exact ⟨_,.of (s3 _ _ og.lst),ZqY _⟩
  ·rintro i σ3 H3 R hi ⟨v0,v1,v2,rfl⟩ ⟨s3,us,h3,ig,hus⟩ hR
   have hit:i<ts.length:=by rwa [ZpC] at hi
   obtain ⟨p,hp,hpt,ip⟩:=(og.same s3).get hit
   rw [K6 ts hit]
   generalize (ts[i]).1=t1 at *
   generalize (ts[i]).2=t2 at *
   walk_at "gs"
   refine ⟨t1,_,rfl,.of hpt,rfl,_,_,rfl,_,_,rfl,_,_,rfl,rfl,?_⟩
   walk_at "gs"
   refine ⟨_,.inl ⟨.of ip,fun c4 H4 n4=>?_⟩⟩
   refine ⟨by show 3<=sizeLine;decide,fun t5 H5 n5=>?_⟩
   have nV:=n4.same.trans n5.same
   have h5:=nV _ _ h3
   have Df:t5≠cp:=(gc (n4.same _ _ h3) n5.fX).symm
   have Cz:c4≠cp:=(gc h3 n4.fX).symm
   refine ⟨_,h5,by rw [ZpC];omega,hR _ _ ⟨_,_,_,rfl⟩ ⟨(s3.trans nV).put hcp,us ++ [(t5,c4)],by rw [cq,ZpK];rfl,by rw [ZpI,ig];rfl,fun j t p' ht hp'=>?_⟩⟩
   by_cases zV:j<i
   ·rw [Zp5 (by omega)] at ht
    obtain ⟨g1,g2⟩:=hus j t p' ht hp'
    exact ⟨by rw [bo (nv g1 h3 (fun z=>nomatch z))];exact nV _ _ g1,by rw [bo (nv g2 h3 (fun z=>nomatch z))];exact nV _ _ g2⟩
   ·have Fe:j<us.length+1:=by have:=(ZpL.mp ht).1;rwa [ZpI] at this
    have hj:j=i:=by omega
    subst hj
    rw [<- ig,ZpW (ZqY _),Zq5] at ht
    have et:(t5,c4)=t:=by simpa using ht
    subst et
    rw [hp] at hp'
    cases hp'
    exact ⟨by rw [bo Df];exact n5.at_,by rw [bo Cz];exact n5.same _ _ n4.at_⟩
  rintro H3 ⟨s3,us,h3,ig,hus⟩
  rw [ZpC] at ig
  walk_at "gs"
  refine ⟨_,.inl ⟨.of h3,fun kp H4 n4=>?_⟩⟩
  have mI:=s3.trans n4.same
  refine ⟨x,a.aq,dx,_,rfl,mI _ _ Fb,T.bO,T.bP,by have:=z9 "many" (.int (m:Int)) [];simp only [Zp3] at this;omega,?_⟩
  walk_at "gs"
  have ur:∀ {b:Addr}{o:HO},H4 b=some o->(∀ C d f,o≠.ins C d f)->b≠x:=fun {b o} e n z=>by
   subst z
   rw [mI _ _ Fb] at e
   cases e
   exact n _ _ _ rfl
  have CG:upd H4 x (.ins a.aq dx (dB "kept_pieces" (.ref kp) (dB "many" (.int m) []))) x=some (.ins a.aq dx (dB "kept_pieces" (.ref kp) (dB "many" (.int m) []))):=cq
  have u5:∀ b o,b≠x->H4 b=some o->upd H4 x (.ins a.aq dx (dB "kept_pieces" (.ref kp) (dB "many" (.int m) []))) b=some o:=fun b o n e=>by rw [bo n];exact e
  generalize upd H4 x (.ins a.aq dx (dB "kept_pieces" (.ref kp) (dB "many" (.int m) [])))=H5 at CG u5 ⊢
  have Ja:H4 tp=some (.lst (ties.map V.int)):=mI _ _ (s2 _ _ (nv hT hx (fun z=>nomatch z)) hT)
  have N0:=u5 _ _ (ur Ja (fun _ _ _ z=>nomatch z)) Ja
  refine ⟨_,.inl ⟨.of N0,fun tt H6 n6=>?_⟩⟩
  refine ⟨x,a.aq,dx,_,rfl,n6.same _ _ CG,T.bO,T.cx,by have h7:=z9 "many" (.int (m:Int)) [];have h8:=z9 "kept_pieces" (.ref kp) (dB "many" (.int (m:Int)) []);simp only [Zp3] at h7;omega,?_⟩
  have e1:dB "kept_ties" (.ref tt) (dB "kept_pieces" (.ref kp) (dB "many" (.int (m:Int)) []))=([("many",V.int m),("kept_pieces",V.ref kp),("kept_ties",V.ref tt)]:List (Str × V)):=by
   have z1:¬ ("many" : Str) = "kept_pieces":=by decide +kernel
   have z2:¬ ("many" : Str) = "kept_ties":=by decide +kernel
   have z3:¬ ("kept_pieces" : Str) = "kept_ties":=by decide +kernel
   simp [dB,z1,z2,z3]
  have U0:=n6.same _ _ CG
  have NX:tt≠x:=(gc CG n6.fX).symm
  have up:∀ b o,b≠x->H4 b=some o->upd H6 x (.ins a.aq dx (dB "kept_ties" (.ref tt) (dB "kept_pieces" (.ref kp) (dB "many" (.int (m:Int)) [])))) b=some o:=fun b o n e=>by rw [bo n];exact n6.same _ _ (u5 _ _ n e)
  refine q _ (fun b o n e=>up _ _ n (mI _ _ (s2 _ _ n e))) ⟨dx,kp,tt,us,by rw [cq,e1],⟨up _ _ (ur n4.at_ (fun _ _ _ z=>nomatch z)) n4.at_,by omega,fun j t p ht hp=>?_⟩,by rw [bo NX];exact n6.at_⟩
  obtain ⟨g1,g2⟩:=hus j t p ht hp
  have g1':=n4.same _ _ g1
  have g2':=n4.same _ _ g2
  exact ⟨up _ _ (ur g1' (fun _ _ _ z=>nomatch z)) g1',up _ _ (ur g2' (fun _ _ _ z=>nomatch z)) g2'⟩
noncomputable def Nm (a:dy) (_:ZoW):Sp:=fun vs H Q _=>∃ (x:Addr) (m:Nat) (ps:List Pc) (ties:List Int),vs=[.ref x]/\lP a.aq H x m ps ties/\ps.length<=1000 /\
 ∀ l us H',H l=none->aH H H'->i4 H' l us ps->(∀ t∈us,H t.1=none/\H t.2=none/\t.2≠l)->Q (.ref l) H'
noncomputable def E7 (K:ZoW):TS:=(cA (eg (kB K (m4 K (aa 0) "kept_pieces")) 3 [] (oP K 3 (jj (aK 0) (jj (aK 1) (jj (aK 2) pS)))) fR (pK (ah (aa 0) (ah (bw (oE K) (ah (aa 1) ar)) (ah (aa 2) ar))))))
theorem Tj (T:Txt K mg a):TM P w K mg base 0 "Board.pieces" wk GQ a.cg (E7 K) :=
 fun hr=>(aS (cY (lI (N:=["knot","cut","table"]) (k:=3) (sel:=[]) (aD.of (ba wk).names (by decide +kernel)) (aF.of GQ (by decide +kernel)) rfl (qG (GZ (cv 0) rfl)) (fun _ _ _ _=>(vN rfl (jJ (eu (i:=0) (show ZpU (["knot","cut","table"]:List Str) by decide +kernel) rfl (by walk_at "o")) (jJ (eu (i:=1) (show ZpU (["knot","cut","table"]:List Str) by decide +kernel) rfl (by walk_at "o")) (jJ (eu (i:=2) (show ZpU (["knot","cut","table"]:List Str) by decide +kernel) rfl (by walk_at "o")) vo))))) (fun _ _ _ _=>jz) (fun _ _ _ _=>(zW (ai (cv 0) (ai (fP wd (by rfl) T.dm PyProof.Rows.boot_list (ai (cv 1) au)) (ai (cv 2) au))))))))
theorem Ut (T:Txt K mg a):aJ P w K mg base gd 1 a.cg a.dQ ["self"] (Nm a K):=by
 refine T.ck.n.iS T8 (Tj T) (fun vs H Q E h=>?_) (fun H vs Q E h=>?_)
 ·obtain ⟨x,m,ps,ties,rfl,_⟩:=h;rfl
 ·obtain ⟨x,m,ps,ties,rfl,hB,hz,q⟩:=h
  show E7 K _ [some (.ref x)] H
  unfold E7
  have big:(20000:Nat)<=sizeLine:=by decide
  obtain ⟨dx,k,tt,ts,hx,hP,hT⟩:=hB
  have BV:=hP.len
  walk_at "gs"
  refine ⟨x,a.aq,dx,_,_,rfl,hx,T.bO,T.bP,rfl,?_⟩
  walk_at "gs"
  refine ⟨⟨_,.of hP.tup⟩,fun cp hcp=>C7 (n:=(ts.map fun t=>V.ref t.1).length) (item:=fun i=>(ts.map fun t=>V.ref t.1).getD i .non) (fun σ=>∃ v0 v1 v2,σ=[v0,v1,v2]) (fun i H3=>aH H H3/\∃ us:List (Addr × Addr),H3 cp=some (.lst (us.map fun t=>V.ref t.1))/\us.length=i/\(∀ t∈us,H t.1=none/\H t.2=none/\t.2≠cp)/\∀ (j:Nat) t p,us[j]? = some t->ps[j]? = some p->H3 t.1=some (.tup [.int p.1,.ref t.2,.int p.2.2])/\H3 t.2=some (.lst (p.2.1.map V.int))) ⟨_,_,_,rfl⟩ ⟨iU hcp,[],cq,rfl,fun t ht=>by simp at ht,fun j t p ht=>by simp at ht⟩ (Sm (xs:=ts.map fun t=>V.ref t.1) ?_) ?_ ?_ ?_⟩
  ·rintro i H3 _ ⟨s3,_⟩
   exact .of (s3 _ _ hP.tup)
  ·rintro H3 ⟨s3,_⟩
   exact ⟨_,.of (s3 _ _ hP.tup),ZqY _⟩
  ·rintro i σ3 H3 R hi ⟨v0,v1,v2,rfl⟩ ⟨s3,us,h3,ig,hun,hus⟩ hR
   have hit:i<ts.length:=by rwa [ZpC] at hi
   obtain ⟨p,hp,hpt,ip⟩:=(hP.nl (NL.of s3)).get hit
   rw [K6 ts hit]
   generalize (ts[i]).1=t1 at *
   generalize (ts[i]).2=t2 at *
   walk_at "gs"
   refine ⟨t1,_,rfl,.of hpt,rfl,_,_,rfl,_,_,rfl,_,_,rfl,rfl,?_⟩
   walk_at "gs"
   refine ⟨_,.inr (.of ip),fun c4 H4 n4=>?_⟩
   refine ⟨by show 3<=sizeLine;decide,fun t5 H5 n5=>?_⟩
   have nV:=n4.same.trans n5.same
   have h5:=nV _ _ h3
   have Df:t5≠cp:=(gc (n4.same _ _ h3) n5.fX).symm
   have Cz:c4≠cp:=(gc h3 n4.fX).symm
   refine ⟨_,h5,by rw [ZpC];omega,hR _ _ ⟨_,_,_,rfl⟩ ⟨(s3.trans nV).put hcp,us ++ [(t5,c4)],by rw [cq,ZpK];rfl,by rw [ZpI,ig];rfl,fun t ht=>?_,fun j t p' ht hp'=>?_⟩⟩
   ·rcases ZpM.mp ht with z | z
    ·exact hun t z
    ·rw [ZpQ] at z
     subst z
     exact ⟨(s3.trans n4.same).nil n5.fX,s3.nil n4.fX,Cz⟩
   by_cases zV:j<i
   ·rw [Zp5 (by omega)] at ht
    obtain ⟨g1,g2⟩:=hus j t p' ht hp'
    exact ⟨by rw [bo (nv g1 h3 (fun z=>nomatch z))];exact nV _ _ g1,by rw [bo (hun t (ZpP ht)).2.2];exact nV _ _ g2⟩
   ·have Fe:j<us.length+1:=by have:=(ZpL.mp ht).1;rwa [ZpI] at this
    have hj:j=i:=by omega
    subst hj
    rw [<- ig,ZpW (ZqY _),Zq5] at ht
    have et:(t5,c4)=t:=by simpa using ht
    subst et
    rw [hp] at hp'
    cases hp'
    exact ⟨by rw [bo Df];exact n5.at_,by rw [bo Cz];exact n5.same _ _ n4.at_⟩
  rintro H3 ⟨s3,us,h3,ig,hun,hus⟩
  rw [ZpC] at ig
  exact q cp us H3 hcp s3 ⟨h3,by omega,hus⟩ hun
noncomputable def Jb (a:dy) (_:ZoW):Sp:=fun vs H Q _=>∃ (x:Addr) (m:Nat) (ps:List Pc) (ties:List Int),vs=[.ref x]/\lP a.aq H x m ps ties/\∀ l H',fb H l (.lst (ties.map V.int)) H'->Q (.ref l) H'
noncomputable def Dj (K:ZoW):TS:=(cA (bw (oE K) (ah (m4 K (aa 0) "kept_ties") ar)))
theorem N7 (T:Txt K mg a):TM P w K mg base 0 "Board.ties" yX Iu a.cZ (Dj K) :=
 fun hr=>(aS (cY (fP wd (by rfl) T.dm PyProof.Rows.boot_list (ai (GZ (cv 0) rfl) au))))
theorem NP (T:Txt K mg a):aJ P w K mg base gd 1 a.cZ a.fw ["self"] (Jb a K):=by
 refine T.dj.n.iS O9 (N7 T) (fun vs H Q E h=>?_) (fun H vs Q E h=>?_)
 ·obtain ⟨x,m,ps,ties,rfl,_⟩:=h;rfl
 ·obtain ⟨x,m,ps,ties,rfl,hB,q⟩:=h
  show Dj K _ [some (.ref x)] H
  unfold Dj
  obtain ⟨dx,k,tt,ts,hx,hP,hT⟩:=hB
  walk_at "gs"
  refine ⟨x,a.aq,dx,_,_,rfl,hx,T.bO,T.cx,rfl,?_⟩
  walk_at "gs"
  exact ⟨_,.inr (.of hT),fun l H' n=>q l H' n⟩
theorem ki.int {H:Hp}{i:Int}:ki H (.int i):=trivial
theorem Cy {H:Hp}{m:Nat}{ps:List Pc} (w:WP m ps):FF H (ps.map up):=fun g hg=>by
 obtain ⟨p,hp,rfl⟩:=ZpS.mp hg
 obtain ⟨i,hi⟩:=Zqr.mp hp
 have:=(w i p hi).l6
 refine ⟨trivial,trivial,by show (p.2.1.map V.int).length<=100;rw [ZpC];omega,fun x hx=>?_⟩
 obtain ⟨y,_,rfl⟩:=ZpS.mp hx
 trivial
theorem Mq {H:Hp}{x dx C:Addr} (hx:H x=none) (hd:H dx=none):aH H (upd (upd H dx (.own x)) x (.ins C dx [])):=fun b o e=>by
 rw [bo (gc e hx),bo (gc e hd)]
 exact e
theorem oR (a b c:Str):a ++ b ++ c=a ++ (b ++ c):=gf (by rw [bz,bz,bz,bz,Zqa])
noncomputable def jn (xs:List Str):Str:=Str.join " " xs
noncomputable def jf (z x:Str) (xs:List Str):Str:=xs.foldl (fun a y=>a ++ z ++ y) x
theorem J9 (z a:Str):∀ (xs:List Str) (b:Str),jf z (a ++ b) xs=a ++ jf z b xs
 | [],_=>rfl
 | y :: r,b=>by
  show jf z (a ++ b ++ z ++ y) r=a ++ jf z (b ++ z ++ y) r
  rw [<- J9 z a r (b ++ z ++ y),oR,oR,<- oR b]
theorem Ku (z:Str):∀ (xs:List Str) (x:Str),Str.join z (x :: xs)=jf z x xs
 | [],_=>rfl
 | y :: r,x=>by
  show x ++ z ++ Str.join z (y :: r)=jf z (x ++ z ++ y) r
  rw [Ku z r y,J9]
theorem nO (x:Str):("" : Str) ++ x=x:=gf (by rw [bz];rfl)
theorem JH (x:Str):x ++ ("" : Str)=x:=gf (by rw [bz];exact Zp4 _)
theorem pj (L:List Str):Str.join "" L=L.foldl (fun (a y:Str)=>a ++ y) ("" : Str):=by
 have key:∀ (L:List Str) (x:Str),jf "" x L=L.foldl (fun a y=>a ++ y) x:=by
  intro L
  induction L with
  | nil=>intro x;rfl
  | cons y r ih =>
   intro x
   show jf "" (x ++ "" ++ y) r=r.foldl (fun a y=>a ++ y) (x ++ y)
   rw [JH,ih]
 cases L with
 | nil=>rfl
 | cons x r =>
  rw [Ku,key]
  show _=r.foldl (fun (a y:Str)=>a ++ y) (("" : Str) ++ x)
  rw [nO]
noncomputable def sN (i:Int):Str:=toString i
theorem Pn:∀ n:Fin 1001,(sN ((n:Nat):Int)).length<=4:=by decide +kernel
theorem wg {i:Int} (h0:0<=i) (h1:i<=1000):(sN i).length<=4:=by
 have:=Pn ⟨i.toNat,by omega⟩
 rwa [show ((i.toNat:Nat):Int)=i by omega] at this
theorem lB {i:Int} (h0:0<=i) (h1:i<=5000):i.natAbs.log2<1920:=by
 have h:i.natAbs<2 ^ 13:=by omega
 have:i.natAbs.log2<13\/i.natAbs=0:=by
  by_cases e:i.natAbs=0
  ·exact .inr e
  ·exact .inl ((Nat.log2_lt e).mpr h)
 rcases this with z | z
 ·omega
 ·rw [z];decide
theorem oi {xs:List Str}{k:Nat} (h:∀ y∈xs,y.length<=k) (hl:xs.length<=200) (hk:k<=1000):(xs.map (·.length)).sum+xs.length<=1048576:=by
 have key:∀ ys:List Str,(∀ y∈ys,y.length<=k)->(ys.map (·.length)).sum<=k * ys.length:=by
  intro ys
  induction ys with
  | nil=>intro _;simp
  | cons y r ih =>
   intro h
   have h1:=ih fun z hz=>h z (ZpR _ hz)
   have h2:=h y (ZpZ ..)
   simp only [ZpD,Zqe,ZpG]
   rw [Nat.mul_succ]
   omega
 have:=key xs h
 have h2:k * xs.length<=1000 * 200:=Zre hk hl
 omega
theorem IX {k:Nat}:∀ (xs:List Str) (x:Str),(∀ y∈xs,y.length<=k)->(xs.foldl (fun a y=>a ++ y) x).length<=x.length+k * xs.length
 | [],x,_=>by simp
 | y :: r,x,h=>by
  have ih:=IX r (x ++ y) fun z hz=>h z (ZpR _ hz)
  have hy:=h y (ZpZ ..)
  show (r.foldl (fun a y=>a ++ y) (x ++ y)).length<=_
  rw [PySem.Str.length_append] at ih
  simp only [ZpG]
  rw [Nat.mul_succ]
  omega
noncomputable def iG (t:Int) (k:Nat):Int:=((t.toNat / 2 ^ k % 2:Nat):Int)
noncomputable def jO (t:Int) (n:Nat):List Str:=(ZpJ n).map fun k=>sN (iG t k)
noncomputable def cO (t:Int) (n:Nat):Str:=Str.join "" (jO t (2 ^ n))
noncomputable def bA (t:Int):Str:=(if t % 2=1 then ("-" : Str) else "") ++ sN (t / 2)
noncomputable def pH (p:Pc):Str:=jn (sN p.1 :: "of" :: (p.2.1.map sN ++ [("is" : Str),cO p.2.2 p.2.1.length]))
noncomputable def CK (m:Nat) (ps:List Pc) (ties:List Int):List Str:=jn ["board",sN m] :: (ps.map pH ++ [jn ("out" :: ties.map bA)])
theorem yf (t:Int) (k:Nat):0<=iG t k/\iG t k<=1:=by unfold iG;omega
theorem DK (t:Int) (n:Nat):(jO t n).length=n:=by unfold jO;rw [ZpC,Zp9]
theorem Hi (t:Int) (n:Nat):∀ y∈jO t n,y.length<=4:=by
 intro y hy
 unfold jO at hy
 obtain ⟨k,_,rfl⟩:=ZpS.mp hy
 have:=yf t k
 exact wg (by omega) (by omega)
theorem UU (t:Int) {n:Nat} (h:n<=6):(cO t n).length<=256:=by
 unfold cO
 rw [pj]
 have:=IX (jO t (2 ^ n)) "" (Hi t (2 ^ n))
 rw [DK] at this
 have h2:(2:Nat) ^ n<=2 ^ 6:=Zq4 (by decide) h
 have h3:Str.length "" = 0:=by decide +kernel
 omega
theorem Rr {t:Int} (h0:0<=t) (h1:t / 2<=1000):(bA t).length<=5:=by
 unfold bA
 rw [PySem.Str.length_append]
 have:=wg (i:=t / 2) (by omega) h1
 have e1:Str.length "-" = 1:=by decide +kernel
 have e2:Str.length "" = 0:=by decide +kernel
 split <;> omega
theorem WP.top {m:Nat}{ps:List Pc} (w:WP m ps):∀ i,i<=ps.length->(m:Int)<=dH m (ps.take i)
 | 0,_=>by rw [Zqy];exact Zrm _
 | i+1,h=>by
  have hp:ps[i]? = some ps[i]:=ZpH h
  rw [BO hp,wb]
  have:=WP.top w i (by omega)
  have:=(w i _ hp).up
  omega
theorem WP.kb {m:Nat}{ps:List Pc} (w:WP m ps) {i:Nat}{p:Pc} (hp:ps[i]? = some p):(m:Int)<p.1/\p.1<=999:=by
 have hi:=(ZpL.mp hp).1
 have:=w.top i (by omega)
 have a:=(w i p hp).up
 have b:=(w i p hp).hi
 omega
theorem WP.known {m:Nat}{ps:List Pc} (w:WP m ps) (iN:m<=10) {i:Nat}{x:Int} (hx:x∈known m (ps.take i)):1<=x/\x<=999:=by
 unfold jx.known at hx
 rcases ZpM.mp hx with z | z
 ·obtain ⟨k,hk,rfl⟩:=ZpS.mp z
  have:=Zqh.mp hk
  omega
 ·obtain ⟨p,hp,rfl⟩:=ZpS.mp z
  obtain ⟨j,hj⟩:=Zqr.mp (ZqA hp)
  have:=w.kb hj
  omega
theorem WT.half {m:Nat}{ps:List Pc}{ties:List Int} (wt:WT m ps ties) (w:WP m ps) (iN:m<=10) {t:Int} (ht:t∈ties):0<=t/\t / 2<=999:=by
 obtain ⟨h0,h1⟩:=wt.jE t ht
 refine ⟨h0,?_⟩
 rcases h1 with z | z
 ·omega
 ·have:=w.known iN (i:=ps.length) (x:=t / 2) (by rw [Zp1];exact z)
  omega
theorem DY (c e:Nat):Builtin.bitAnd ((c:Int) / 2 ^ ((e:Int)).toNat) 1=((c / 2 ^ e % 2:Nat):Int):=by
 rw [Zri]
 have h:((c:Int) / 2 ^ e)=((c / 2 ^ e:Nat):Int):=by simp
 rw [h,show (1:Int)=((1:Nat):Int) from rfl,SH,Nat.and_one_is_mod]
noncomputable def Mf (_:ZoW):Sp:=fun vs H Q _=>∃ (t:Int) (n:Nat),vs=[.int t,.int n]/\0<=t/\n<=6/\∀ H',aH H H'->Q (.str (cO t n)) H'
noncomputable def HB (K:ZoW):TS:=(cA (gS K "str" (lW K) (tC (.str "")) (ah (eg (oy (ah (af (aQ km fun i j=>.int (i * 2 ^ j.toNat)) (tC (.int 1)) (aa 1)) ar)) 1 [0] (aK 0) fR (bw jP (ah (af (fQ fun i j=>.int (Builtin.bitAnd i j)) (af (aQ (fun _ j=>0<=j) fun i j=>.int (i / 2 ^ j.toNat)) (aa 1) (aa 0)) (tC (.int 1))) ar))) ar)))
theorem Rj (T:Txt K mg a):TM P w K mg base 0 "table_text" vJ ET a.dc (HB K) :=
 fun hr=>(aS (cY (iD Zpr Zpt Zpu nr aM (ai (lI (N:=["place","table"]) (k:=1) (sel:=[0]) (aD.of (ba vJ).names (by decide +kernel)) (aF.of ET (by decide +kernel)) rfl (CF rfl T.cQ (ai (aw vR ak (cv 1)) au)) (fun _ _ _ _=>(eu (i:=0) (show ZpU (["place","table"]:List Str) by decide +kernel) rfl (by walk_at "o"))) (fun _ _ _ _=>jz) (fun _ _ _ _=>(fP kP (by rfl) T.bI PyProof.Rows.boot_str (ai (aw zv (aw E5 (cv 1) (cv 0)) ak) au)))) au))))
theorem Ui (T:Txt K mg a):aJ P w K mg base gd 1 a.dc a.fj ["table","count"] (Mf K):=by
 refine T.fE.n.iS UQ (Rj T) (fun vs H Q E h=>?_) (fun H vs Q E h=>?_)
 ·obtain ⟨t,n,rfl,_⟩:=h;rfl
 ·obtain ⟨t,n,rfl,t0,n6,q⟩:=h
  show HB K _ [some (.int t),some (.int n)] H
  unfold HB
  have big:(20000:Nat)<=sizeLine:=by decide
  have h2:(2:Nat) ^ n<=2 ^ 6:=Zq4 (by decide) n6
  have ed:0<(2:Nat) ^ n:=Zrd (by decide)
  have ec:(1 * 2 ^ ((n:Int)).toNat:Int)=((2 ^ n:Nat):Int):=by simp
  obtain ⟨tn,rfl⟩:=Zrl t0
  walk_at "gs"
  rw [ec]
  have b1 : -(2 ^ 62)<=((2 ^ n:Nat):Int):=by omega
  have b2:((2 ^ n:Nat):Int)<2 ^ 62:=by omega
  rw [Zri]
  refine JP (n:=2 ^ n) (fun i=>V.str (sN (iG tn i.toNat))) rfl (by omega) ?_ ?_
  ·intro i H' Q' hi s' q'
   rw [show (0:Int)+(i:Int)=(i:Int) by omega] at q' ⊢
   have hb:=yf (tn:Int) i
   walk_at "gs"
   rw [DY]
   have e:((tn / 2 ^ i % 2:Nat):Int)=iG tn i:=by unfold iG;rw [Zri]
   rw [e]
   exact ⟨lB hb.1 (by omega),q'⟩
  intro lp H1 n1
  have e1:((ZpJ (2 ^ n)).map fun i=>V.str (sN (iG tn ((0:Int)+((i:Nat):Int)).toNat)))=(jO tn (2 ^ n)).map V.str:=by
   unfold jO
   rw [ZpO]
   refine Zqx fun i _=>?_
   rw [show ((0:Int)+(i:Int)).toNat=i by omega];rfl
  rw [e1] at n1
  walk_at "gs"
  refine ⟨_,n1.sq,oi (Hi _ _) (by rw [DK];omega) (by omega),by decide +kernel,?_⟩
  exact q H1 n1.same
noncomputable def Ms (_:ZoW):Sp:=fun vs H Q _=>∃ t:Int,vs=[.int t]/\0<=t/\t / 2<=999/\Q (.str (bA t)) H
noncomputable def Gx (K:ZoW):TS:=(aV (bG (Hk (bK (af (gA K) (af (aQ (fun _ j=>0<j) fun i j=>.int (i % j)) (aa 0) (tC (.int 2))) (tC (.int 1)))) (tC (.str "-")) (tC (.str ""))) (aK 1))
  (cA (af bc (aa 1) (bw jP (ah (af (aQ cX fun i j=>.int (i / j)) (aa 0) (tC (.int 2))) ar)))))
theorem Nv (T:Txt K mg a):TM P w K mg base 0 "tie_text" Af MW a.eY (Gx K) :=
 fun hr=>(aW (dv (i:=1) JX.nd rfl (by walk_at "o") (Sr (cI (ic (eM hr)) (aw dE (cv 0) ak) ak (cB _)) aM aM))
   (aS (cY (aw bf (cv 1) (fP kP (by rfl) T.bI PyProof.Rows.boot_str (ai (aw fg (cv 0) ak) au))))))
theorem Qc (T:Txt K mg a):aJ P w K mg base gd 1 a.eY a.gZ ["tie"] (Ms K):=by
 refine T.gU.n.iS JX (Nv T) (fun vs H Q E h=>?_) (fun H vs Q E h=>?_)
 ·obtain ⟨t,rfl,_⟩:=h;rfl
 ·obtain ⟨t,rfl,t0,th,q⟩:=h
  show Gx K _ [some (.int t),none] H
  unfold Gx
  have big:(20000:Nat)<=sizeLine:=by decide
  have hl:=wg (i:=t / 2) (by omega) (by omega)
  have hs:=lB (i:=t / 2) (by omega) (by omega)
  have e1:Str.length "-" = 1:=by decide +kernel
  have e2:Str.length "" = 0:=by decide +kernel
  unfold bA at q
  walk_at "gs"
  by_cases g:t % 2=1
  ·rw [if_pos g] at q ⊢
   walk_at "gs"
   refine ⟨?_,q⟩
   show Str.length "-" + (sN (t / 2)).length<=_
   omega
  ·rw [if_neg g] at q ⊢
   walk_at "gs"
   refine ⟨?_,q⟩
   show Str.length "" + (sN (t / 2)).length<=_
   omega
theorem K4 {m:Nat}{ps:List Pc} (w:WP m ps) (iN:m<=10) {i:Nat}{p:Pc} (hp:ps[i]? = some p):∀ x∈p.2.1,1<=x/\x<=999:=fun x hx=>w.known iN ((w i p hp).kn x hx)
theorem Sw {m:Nat}{ps:List Pc} (w:WP m ps) (iN:m<=10) {i:Nat}{p:Pc} (hp:ps[i]? = some p):(∀ y∈sN p.1 :: "of" :: (p.2.1.map sN ++ [("is" : Str),cO p.2.2 p.2.1.length]),y.length<=256)/\(sN p.1 :: "of" :: (p.2.1.map sN ++ [("is" : Str),cO p.2.2 p.2.1.length])).length<=10:=by
 have hk:=w.kb hp
 have hn:=K4 w iN hp
 have wl:=(w i p hp).l6
 have e1:Str.length "of" = 2:=by decide +kernel
 have e2:Str.length "is" = 2:=by decide +kernel
 constructor
 ·intro y hy
  rcases ZpE.mp hy with rfl | hy
  ·have:=wg (i:=p.1) (by omega) (by omega)
   omega
  rcases ZpE.mp hy with rfl | hy
  ·omega
  rcases ZpM.mp hy with hy | hy
  ·obtain ⟨x,hx,rfl⟩:=ZpS.mp hy
   have:=hn x hx
   have:=wg (i:=x) (by omega) (by omega)
   omega
  rcases ZpE.mp hy with rfl | hy
  ·omega
  ·rw [ZpQ] at hy
   subst hy
   exact UU _ wl
 ·simp only [ZpG,ZpI,ZpC,Zp3]
  omega
theorem Oc {m:Nat}{ps:List Pc}{ties:List Int} (wt:WT m ps ties) (w:WP m ps) (iN:m<=10):(∀ y∈ties.map bA,y.length<=5)/\(∀ y∈("out" : Str) :: ties.map bA,y.length<=5):=by
 have h1:∀ y∈ties.map bA,y.length<=5:=fun y hy=>by
  obtain ⟨t,ht,rfl⟩:=ZpS.mp hy
  have:=wt.half w iN ht
  exact Rr this.1 (by omega)
 refine ⟨h1,fun y hy=>?_⟩
 rcases ZpE.mp hy with rfl | hy
 ·have:Str.length "out" = 3:=by decide +kernel
  omega
 ·exact h1 y hy
noncomputable def Mm (a:dy) (_:ZoW):Sp:=fun vs H Q _=>∃ (x:Addr) (m:Nat) (ps:List Pc) (ties:List Int),vs=[.ref x]/\lP a.aq H x m ps ties/\WP m ps/\WT m ps ties/\m<=10/\ps.length<=1000/\∀ l H',vp H l (.lst ((CK m ps ties).map V.str)) H'->Q (.ref l) H'
noncomputable def EV (a:dy) (K:ZoW):TS:=(aV (bG (fH (ah (gS K "str" (lW K) (tC (.str " ")) (ah (fH (ah (tC (.str "board")) (ah (bw jP (ah (m4 K (aa 0) "many") ar)) ar))) ar)) ar)) (aK 1))
  (aV (jD (jg K (B5 a.aq "pieces" (Nm a K) [] E0 (aa 0) ar)) (oP K 3 (jj (aK 2) (jj (aK 3) (jj (aK 4) pS)))) (aV (bG (eg (jg K (aa 3)) 1 [] (aK 0) fR (bw jP (ah (aa 0) ar))) (aK 5))
  (nI (gS K "list" qg (aa 1) (ah (gS K "str" (lW K) (tC (.str " ")) (ah (af bc (af bc (fH (ah (bw jP (ah (aa 2) ar)) (ah (tC (.str "of")) ar))) (aa 5)) (fH (ah (tC (.str "is")) (ah (bS (Mf K) [] E0 (ah (aa 4) (ah (bw (gY K) (ah (aa 3) ar)) ar))) ar)))) ar)) ar)))))
  (aV (nI (gS K "list" qg (aa 1) (ah (gS K "str" (lW K) (tC (.str " ")) (ah (af bc (fH (ah (tC (.str "out")) ar)) (eg (jg K (B5 a.aq "ties" (Jb a K) [] E0 (aa 0) ar)) 1 [] (aK 0) fR (bS (Ms K) [] E0 (ah (aa 0) ar)))) ar)) ar)))
  (cA (aa 1)))))
theorem NV (T:Txt K mg a):TM P w K mg base 1 "board_lines" tV BZ a.cJ (EV a K) :=
 fun hr=>(aW (dv (i:=1) vw.nd rfl (by walk_at "o") (gN (ai (iD Zpr Zpt Zpu nr aM (ai (gN (ai aM (ai (fP kP (by rfl) T.bI PyProof.Rows.boot_str (ai (GZ (cv 0) rfl) au)) au))) au)) au)))
   (aW (zH PassesOwn.never rfl (lq (Jq (cv 0) T.bO T.ck.e (Ut T) (hm hr) T.ck.b .nil dO)) (vN rfl (jJ (eu (i:=2) vw.nd rfl (by walk_at "o")) (jJ (eu (i:=3) vw.nd rfl (by walk_at "o")) (jJ (eu (i:=4) vw.nd rfl (by walk_at "o")) vo)))) (aW (GU (i:=5) (N:=["lower"]) (k:=1) (sel:=[]) (aD.of (ba tV).names (by decide +kernel)) (aF.of BZ (by decide +kernel)) rfl (lq (cv 3)) (fun _ _ _ _=>(eu (i:=0) (show ZpU (["lower"]:List Str) by decide +kernel) rfl (by walk_at "o"))) (fun _ _ _ _=>jz) (fun _ _ _ _=>(fP kP (by rfl) T.bI PyProof.Rows.boot_str (ai (cv 0) au))) vw.nd rfl (by walk_at "o") rfl)
   (aS (oZ (iD Zpv Zpw Zpx (wz qo) (cv 1) (ai (iD Zpr Zpt Zpu nr aM (ai (aw bf (aw bf (gN (ai (fP kP (by rfl) T.bI PyProof.Rows.boot_str (ai (cv 2) au)) (ai aM au))) (cv 5)) (gN (ai aM (ai (eC T.fE (Ui T) (hm hr) dO (ai (cv 4) (ai (dX iE (by rfl) T.aL PySem.boot_len (ai (cv 3) au)) au))) au)))) au)) au))))))
   (aW (oZ (iD Zpv Zpw Zpx (wz qo) (cv 1) (ai (iD Zpr Zpt Zpu nr aM (ai (aw bf (gN (ai aM au)) (lI (N:=["tie"]) (k:=1) (sel:=[]) (aD.of (ba tV).names (by decide +kernel)) (aF.of BZ (by decide +kernel)) rfl (lq (Jq (cv 0) T.bO T.dj.e (NP T) (hm hr) T.dj.b .nil dO)) (fun _ _ _ _=>(eu (i:=0) (show ZpU (["tie"]:List Str) by decide +kernel) rfl (by walk_at "o"))) (fun _ _ _ _=>jz) (fun _ _ _ _=>(eC T.gU (Qc T) (hm hr) dO (ai (cv 0) au))))) au)) au)))
   (aS (cY (cv 1))))))
theorem PN (T:Txt K mg a):aJ P w K mg base gd 2 a.cJ a.eN ["board"] (Mm a K):=by
 refine T.eJ.n.iS vw (NV T) (fun vs H Q E h=>?_) (fun H vs Q E h=>?_)
 ·obtain ⟨x,m,ps,ties,rfl,_⟩:=h;rfl
 ·obtain ⟨x,m,ps,ties,rfl,hB,wp,wt,iN,hz,q⟩:=h
  show EV a K _ [some (.ref x),none,none,none,none,none] H
  unfold EV
  have big:(20000:Nat)<=sizeLine:=by decide
  have jd:Str.length " " <= 16:=by decide +kernel
  have Vc:=wt.lh
  have Va:Str.length "board" = 5:=by decide +kernel
  obtain ⟨dx,k,tt,ts,hx,hP,hT⟩:=id hB
  walk_at "gs"
  refine ⟨x,a.aq,dx,_,_,rfl,hx,T.bO,T.eG,rfl,?_⟩
  walk_at "gs"
  refine ⟨lB (by omega) (by omega),by show 2<=sizeLine;decide,fun l1 H1 n1=>?_⟩
  have Mp:=wg (i:=(m:Int)) (by omega) (by omega)
  refine ⟨["board",sN m],.of n1.at_,oi (k:=5) (fun y hy=>?_) (by simp) (by omega),jd,by show 1<=sizeLine;decide,fun pl H2 n2=>?_⟩
  ·rcases ZpE.mp hy with rfl | hy
   ·omega
   ·rw [ZpQ] at hy
    subst hy
    omega
  have Gz:=n1.same.trans n2.same
  have gx:H pl=none:=n1.same.nil n2.fX
  walk_at "gs"
  refine ⟨x,dx,_,rfl,Gz _ _ hx,rfl,x,m,ps,ties,rfl,hB.same Gz,by omega,fun l us H3 zR s3 hL hun=>?_⟩
  have B6:=Gz.trans s3
  have ig:=hL.len
  walk_at "gs"
  refine ⟨⟨_,.of hL.lst⟩,HH (xs:=us.map fun t=>V.ref t.1) (fun i σ H4=>aH H H4/\i4 H4 l us ps/\H4 pl=some (.lst ((jn ["board",sN m] :: (ps.take i).map pH).map V.str))/\∃ v2 v3 v4 v5,σ=[some (.ref x),some (.ref pl),v2,v3,v4,v5]) ⟨B6,hL,s3 _ _ n2.at_,_,_,_,_,rfl⟩ ?_ ?_ ?_⟩
  ·rintro i σ H4 _ ⟨_,hL4,_⟩
   exact .of hL4.lst
  ·rintro i v σ H4 hv ⟨s4,hL4,hp4,v2,v3,v4,v5,rfl⟩
   have hi:i<us.length:=by have:=(ZpL.mp hv).1;rwa [ZpC] at this
   rw [ZpF,ZpH hi] at hv
   have ev:V.ref (us[i]).1=v:=Option.some.inj hv
   subst ev
   clear hv
   obtain ⟨p,hp,hpt,ip⟩:=hL4.get hi
   have Rk:=Sw wp iN hp
   have U2:=wp.kb hp
   have FH:=K4 wp iN hp
   have w1:=wp i p hp
   have N5:=w1.l6
   generalize (us[i]).1=t1 at *
   generalize (us[i]).2=t2 at *
   walk_at "gs"
   refine ⟨t1,_,rfl,.of hpt,rfl,_,_,rfl,_,_,rfl,_,_,rfl,rfl,?_⟩
   walk_at "gs"
   refine ⟨⟨_,.of ip⟩,Bz (fun v=>match v with | .int x=>.str (sN x) | v=>v) (.of ip) rfl (by rw [ZpC];omega) ?_ ?_⟩
   ·intro v H' Q' hv s' q'
    obtain ⟨y,hy,rfl⟩:=ZpS.mp hv
    have Ca:=FH y hy
    walk_at "gs"
    exact ⟨lB (by omega) (by omega),q'⟩
   intro np H5 n5
   have e5:(p.2.1.map V.int).map (fun v=>match v with | .int x=>V.str (sN x) | v=>v)=(p.2.1.map sN).map V.str:=by rw [ZpO,ZpO];rfl
   rw [e5] at n5
   have GA:=n5.same _ _ hp4
   walk_at "gs"
   refine ⟨.inl ⟨by trivial,_,.of GA⟩,by trivial,lB (by omega) (by omega),by show 2<=sizeLine;decide,fun a6 H6 n6=>?_⟩
   refine ⟨_,_,n6.at_,n6.same _ _ n5.at_,by simp only [ZpC,ZpG,Zp3];omega,fun a7 ha7=>?_⟩
   have s7:aH H6 (upd H6 a7 (.lst ([V.str (sN p.1),V.str "of"] ++ (p.2.1.map sN).map V.str))):=iU ha7
   have a7':upd H6 a7 (.lst ([V.str (sN p.1),V.str "of"] ++ (p.2.1.map sN).map V.str)) a7=some (.lst ([V.str (sN p.1),V.str "of"] ++ (p.2.1.map sN).map V.str)):=cq
   show _
   generalize Mx:upd H6 a7 (.lst ([V.str (sN p.1),V.str "of"] ++ (p.2.1.map sN).map V.str))=H7 at s7 a7'
   have hH7':upd H6 a7 (.lst ([V.str (toString p.1),V.str "of"] ++ (p.2.1.map sN).map V.str))=H7:=Mx
   first | rw [hH7'] | rw [Mx] | skip
   have LQ:=(n5.same.trans n6.same).trans s7
   walk_at "gs"
   refine .inl ⟨_,.inl (.of (LQ _ _ ip)),?_⟩
   rw [ZpC]
   refine ⟨_,_,rfl,w1.t0,N5,fun H8 s8=>?_⟩
   walk_at "gs"
   refine ⟨by show 2<=sizeLine;decide,fun a9 H9 n9=>?_⟩
   refine ⟨_,_,n9.same _ _ (s8 _ _ a7'),n9.at_,by simp only [ZpI,ZpC,ZpG,Zp3];omega,fun tM hb10=>?_⟩
   have Ti:([V.str (sN p.1),V.str "of"] ++ (p.2.1.map sN).map V.str) ++ [V.str "is",V.str (cO p.2.2 p.2.1.length)]=(sN p.1 :: "of" :: (p.2.1.map sN ++ [("is" : Str),cO p.2.2 p.2.1.length])).map V.str:=by
    rw [ZpD,ZpD,ZpK]
    rfl
   rw [Ti]
   have oA:=((LQ.trans s8).trans n9.same).trans (iU hb10 (o:=.lst ((sN p.1 :: "of" :: (p.2.1.map sN ++ [("is" : Str),cO p.2.2 p.2.1.length])).map V.str)))
   have a10:upd H9 tM (.lst ((sN p.1 :: "of" :: (p.2.1.map sN ++ [("is" : Str),cO p.2.2 p.2.1.length])).map V.str)) tM=_:=cq
   generalize upd H9 tM (.lst ((sN p.1 :: "of" :: (p.2.1.map sN ++ [("is" : Str),cO p.2.2 p.2.1.length])).map V.str))=H10 at oA a10 ⊢
   walk_at "gs"
   refine ⟨_,.of a10,oi Rk.1 (by omega) (by omega),jd,pl,_,_,rfl,rfl,oA _ _ hp4,by simp only [ZpC,ZpG,Zp2];omega,(s4.trans oA).put gx,?_,?_,_,_,_,_,rfl⟩
   ·have rf:=hL4.same oA
    have Ru:l≠pl:=(gc (n2.at_) zR).symm
    refine ⟨by rw [bo Ru];exact rf.lst,rf.len,fun j t p' ht hp'=>?_⟩
    obtain ⟨g1,g2⟩:=rf.at_ j t p' ht hp'
    have nt:=hun t (ZpP ht)
    exact ⟨by rw [bo (gc n2.at_ nt.1).symm];exact g1,by rw [bo (gc n2.at_ nt.2.1).symm];exact g2⟩
   ·rw [cq,BO hp,ZpK,ZpD,ZpD,ZpK]
    rfl
  ·rintro σ H4 ⟨s4,hL4,hp4,v2,v3,v4,v5,rfl⟩
   rw [ZpC,ig,Zp1] at hp4
   walk_at "gs"
   refine ⟨.inl ⟨by trivial,_,.of hp4⟩,by trivial,by show 1<=sizeLine;decide,fun a5 H5 n5=>?_⟩
   have Jl:=s4.trans n5.same
   refine ⟨x,dx,_,rfl,Jl _ _ hx,rfl,x,m,ps,ties,rfl,hB.same Jl,fun l6 H6 n6=>?_⟩
   walk_at "gs"
   refine ⟨⟨_,n6.sq⟩,Bz (fun v=>match v with | .int x=>.str (bA x) | v=>v) n6.sq rfl (by rw [ZpC];omega) ?_ ?_⟩
   ·intro v H' Q' hv s' q'
    obtain ⟨y,hy,rfl⟩:=ZpS.mp hv
    have Ca:=wt.half wp iN hy
    walk_at "gs"
    exact ⟨y,rfl,Ca.1,Ca.2,q'⟩
   intro l7 H7 n7
   have e7:(ties.map V.int).map (fun v=>match v with | .int x=>V.str (bA x) | v=>v)=(ties.map bA).map V.str:=by rw [ZpO,ZpO];rfl
   rw [e7] at n7
   have Mg:=n6.same.trans n7.same
   walk_at "gs"
   refine ⟨_,_,Mg _ _ n5.at_,n7.at_,by simp only [ZpC,ZpG,Zp3];omega,fun b8 hb8=>?_⟩
   have e8:[V.str "out"] ++ (ties.map bA).map V.str=(("out" : Str) :: ties.map bA).map V.str:=rfl
   rw [e8]
   have FW:=(n5.same.trans Mg).trans (iU hb8 (o:=.lst ((("out" : Str) :: ties.map bA).map V.str)))
   have a8:upd H7 b8 (.lst ((("out" : Str) :: ties.map bA).map V.str)) b8=_:=cq
   generalize upd H7 b8 (.lst ((("out" : Str) :: ties.map bA).map V.str))=H8 at FW a8 ⊢
   walk_at "gs"
   refine ⟨_,.of a8,oi (Oc wt wp iN).2 (by simp only [ZpG,ZpC];omega) (by omega),jd,pl,_,_,rfl,rfl,FW _ _ hp4,by simp only [ZpC,ZpG];omega,?_⟩
   walk_at "gs"
   refine q pl _ ⟨gx,?_,(s4.trans FW).put gx⟩
   rw [cq]
   unfold CK
   rw [ZpD,ZpD,ZpK]
   rfl
noncomputable def oW (x:Str) (i:Int):Bool:=decide (1<=x.length/\x.length<=3) && x.cps.toList.all (fun c=>decide (48<=c/\c<=57)) && (decide (x.cps.toList[0]? ≠ some 48) || decide (x = "0")) && decide (intText? x=some i)
theorem P4:∀ n:Fin 1000,oW (sN ((n:Nat):Int)) ((n:Nat):Int)=true:=by decide +kernel
theorem nG {i:Int} (h0:0<=i) (h1:i<=999):(1<=(sN i).length/\(sN i).length<=3)/\(∀ c∈(sN i).cps.toList,48<=c/\c<=57)/\((sN i).cps.toList[0]? ≠ some 48\/sN i = "0")/\intText? (sN i)=some i:=by
 have:=P4 ⟨i.toNat,by omega⟩
 rw [show (((⟨i.toNat,by omega⟩:Fin 1000):Nat):Int)=i by show ((i.toNat:Nat):Int)=i;omega] at this
 unfold oW at this
 simp only [Zrt,Zrv,decide_eq_true_eq,Zp8] at this
 exact ⟨this.1.1.1,this.1.1.2,this.1.2,this.2⟩
theorem Sh {α:Type}{xs:List α} (h:0<xs.length):dC xs 0=xs[0]?:=by
 unfold dC jH
 rw [if_pos (Zrm 0),if_pos (by show (0:Int)<_;omega)]
 rfl
theorem tP {c:Nat} (h:(⟨#[c]⟩:Str) = "0"):c=48:=by
 have e:=congrArg (fun s:Str=>s.cps.toList) h
 have e2:(("0" : Str).cps.toList)=[48]:=by decide +kernel
 exact (List.cons.inj (show [c]=[48] from (show [c]=(("0" : Str).cps.toList) from e).trans e2)).1
theorem UO:∀ d:Fin 10,bu ⟨#[48+(d:Nat)]⟩ "0123456789" = true:=by decide +kernel
theorem IG {c:Nat} (h:48<=c/\c<=57):bu ⟨#[c]⟩ "0123456789" = true:=by
 have:=UO ⟨c - 48,by omega⟩
 rwa [show 48+(((⟨c - 48,by omega⟩:Fin 10):Nat))=c by show 48+(c - 48)=c;omega] at this
theorem KY:∀ (L:List Str) (x:Str),(L.foldl (fun (a y:Str)=>a ++ y) x).cps.toList=x.cps.toList ++ (L.map fun y=>y.cps.toList).flatten
 | [],x=>by simp
 | y :: r,x=>by
  show (r.foldl (fun (a y:Str)=>a ++ y) (x ++ y)).cps.toList=_
  rw [KY r (x ++ y),bz,ZpD,List.flatten_cons,Zqa]
theorem Pq {b:Int} (h0:0<=b) (h1:b<=1):(sN b).cps.toList=[48+b.toNat]:=by
 have h:b=0\/b=1:=by omega
 rcases h with rfl | rfl <;> decide +kernel
theorem Ji (t:Int):∀ n:Nat,((jO t n).map fun y=>y.cps.toList).flatten=(ZpJ n).map fun k=>48+(iG t k).toNat
 | 0=>rfl
 | n+1=>by
  have e:jO t (n+1)=jO t n ++ [sN (iG t n)]:=by
   unfold jO
   rw [Zqw,ZpK];rfl
  rw [e,ZpK,List.flatten_append,Ji t n,Zqw,ZpK]
  have hb:=yf t n
  show _ ++ ((sN (iG t n)).cps.toList ++ [])=_
  rw [Pq hb.1 hb.2]
  rfl
theorem vX (t:Int) (n:Nat):(cO t n).cps.toList=(ZpJ (2 ^ n)).map fun k=>48+(iG t k).toNat:=by
 unfold cO
 rw [pj,KY,Ji]
 rfl
theorem wG (t:Int) (n:Nat):(cO t n).length=2 ^ n:=by
 have:=congrArg Zp7 (vX t n)
 rw [ZpC,Zp9,Zrp] at this
 exact this
noncomputable def lr (t:Nat) (n:Nat):List Nat:=(ZpJ n).filter fun k=>decide (t / 2 ^ k % 2=1)
theorem Em (t n:Nat):lr t (n+1)=lr t n ++ (if t / 2 ^ n % 2=1 then [n] else []):=by
 unfold lr
 rw [Zqw,List.filter_append]
 by_cases h:t / 2 ^ n % 2=1
 ·rw [if_pos h];simp [h]
 ·rw [if_neg h];simp [h]
theorem Ux {t n k:Nat} (h:k∈lr t n):k<n:=Zqh.mp (ZqI.mp h).1
theorem KZ (t n:Nat):(lr t n).length<=n:=by
 have:=List.length_filter_le (fun k=>decide (t / 2 ^ k % 2=1)) (ZpJ n)
 rwa [Zp9] at this
theorem C0 (t:Nat):∀ n:Nat,(((lr t n).map fun k:Nat=>((2 ^ k:Nat):Int)).sum:Int)=((t % 2 ^ n:Nat):Int)
 | 0=>by simp [lr,Nat.mod_one]
 | n+1=>by
  rw [Em,ZpK,List.sum_append,C0 t n,Nat.mod_pow_succ]
  by_cases h:t / 2 ^ n % 2=1
  ·rw [if_pos h,h]
   simp
  ·have h0:t / 2 ^ n % 2=0:=by omega
   rw [if_neg h,h0]
   simp
theorem LV {c:Nat} (h:c=48\/c=49):bu ⟨#[c]⟩ "01" = true:=by
 rcases h with rfl | rfl <;> decide +kernel
theorem Lb (c:Nat):((⟨#[c]⟩:Str) = "1") ↔ c=49:=by
 have e2:(("1" : Str).cps.toList)=[49]:=by decide +kernel
 constructor
 ·intro h
  have e:=congrArg (fun s:Str=>s.cps.toList) h
  exact (List.cons.inj (show [c]=[49] from (show [c]=(("1" : Str).cps.toList) from e).trans e2)).1
 ·rintro rfl
  exact gf (by rw [e2])
theorem NN:∀ n:Fin 2000,(decide (Txt.startswith (bA ((n:Nat):Int)) "-" = decide (((n:Nat):Int) % 2=1)) && (decide (¬ ((n:Nat):Int) % 2=1) || decide (Txt.slice (bA ((n:Nat):Int)) (some 1) none=sN (((n:Nat):Int) / 2))))=true:=by decide +kernel
theorem vV {t:Int} (h0:0<=t) (h1:t / 2<=999):Txt.startswith (bA t) "-" = decide (t % 2=1)/\(t % 2=1->Txt.slice (bA t) (some 1) none=sN (t / 2)):=by
 have:=NN ⟨t.toNat,by omega⟩
 rw [show (((⟨t.toNat,by omega⟩:Fin 2000):Nat):Int)=t by show ((t.toNat:Nat):Int)=t;omega] at this
 simp only [Zrt,Zrv,decide_eq_true_eq] at this
 exact ⟨this.1,fun h=>this.2.resolve_left fun z=>z h⟩
theorem MK {j:Str}{c:Nat} (h:bu ⟨#[c]⟩ j=true):c∈j.cps.toList:=by
 unfold bu at h
 cases e:Builtin.Str.occurrences j ⟨#[c]⟩ 0 j.length 1 with
 | nil=>rw [e] at h;cases h
 | cons i r =>
  obtain ⟨h1,h2⟩:=StrLaws.occ_spec j ⟨#[c]⟩ 0 j.length 1 i (by rw [e];simp)
  unfold Builtin.Str.subAt at h2
  have h3:j.cps.extract i (i+1) = #[c]:=beq_iff_eq.mp h2
  have h5:c∈(j.cps.extract i (i+1)).toList:=by rw [h3];simp
  rw [Zrr] at h5
  exact ZqB (ZqA h5)
theorem N1 (c:Nat):bu ⟨#[c]⟩ "0123456789" = decide (48<=c/\c<=57):=by
 by_cases h:48<=c/\c<=57
 ·rw [decide_eq_true h];exact IG h
 ·rw [decide_eq_false h]
  cases e:bu ⟨#[c]⟩ "0123456789" with
  | false=>rfl
  | true =>
   have key:∀ d∈("0123456789" : Str).cps.toList,48<=d/\d<=57:=by decide +kernel
   exact absurd (key c (MK e)) h
theorem Tx (c:Nat):bu ⟨#[c]⟩ "01" = decide (c=48\/c=49):=by
 by_cases h:c=48\/c=49
 ·rw [decide_eq_true h];exact LV h
 ·rw [decide_eq_false h]
  cases e:bu ⟨#[c]⟩ "01" with
  | false=>rfl
  | true =>
   have key:∀ d∈("01" : Str).cps.toList,d=48\/d=49:=by decide +kernel
   exact absurd (key c (MK e)) h
noncomputable def lL (x:Str):Prop:=∃ i:Int,0<=i/\i<=999/\x=sN i
theorem Ey:∀ a:Fin 10,(⟨#[48+(a:Nat)]⟩:Str)=sN ((a:Nat):Int):=by decide +kernel
theorem Fq:∀ a b:Fin 10,(a:Nat)≠0->(⟨#[48+(a:Nat),48+(b:Nat)]⟩:Str)=sN (((10 * (a:Nat)+(b:Nat):Nat)):Int):=by decide +kernel
theorem HP:∀ a b c:Fin 10,(a:Nat)≠0->(⟨#[48+(a:Nat),48+(b:Nat),48+(c:Nat)]⟩:Str)=sN (((100 * (a:Nat)+10 * (b:Nat)+(c:Nat):Nat)):Int):=by decide +kernel
theorem OO {x:Str} (h1:1<=x.length) (h3:x.length<=3) (hd:∀ c∈x.cps.toList,48<=c/\c<=57) (h0:x.cps.toList[0]? ≠ some 48\/x = "0"):lL x:=by
 obtain ⟨⟨l⟩⟩:=x
 have hl:(⟨⟨l⟩⟩:Str).length=l.length:=rfl
 rw [hl] at h1 h3
 have fx:∀ c,48<=c/\c<=57->∃ a:Fin 10,c=48+(a:Nat):=fun c hc=>⟨⟨c - 48,by omega⟩,by show c=48+(c - 48);omega⟩
 have z0:("0" : Str)=⟨⟨[48]⟩⟩:=by decide +kernel
 match l,h1,h3,hd,h0 with
 | [a],_,_,hd,_ =>
  obtain ⟨i,rfl⟩:=fx a (hd a (by simp))
  exact ⟨_,by omega,by have:=i.isLt;omega,Ey i⟩
 | [a,b],_,_,hd,h0 =>
  obtain ⟨i,rfl⟩:=fx a (hd a (by simp))
  obtain ⟨j,rfl⟩:=fx b (hd b (by simp))
  have hi:(i:Nat)≠0:=fun z=>by
   rcases h0 with y | y
   ·exact y (by rw [z];rfl)
   ·rw [z0] at y
    have:=congrArg (fun s:Str=>s.cps.toList.length) y
    simp at this
  exact ⟨_,by omega,by have:=i.isLt;have:=j.isLt;omega,Fq i j hi⟩
 | [a,b,c],_,_,hd,h0 =>
  obtain ⟨i,rfl⟩:=fx a (hd a (by simp))
  obtain ⟨j,rfl⟩:=fx b (hd b (by simp))
  obtain ⟨k,rfl⟩:=fx c (hd c (by simp))
  have hi:(i:Nat)≠0:=fun z=>by
   rcases h0 with y | y
   ·exact y (by rw [z];rfl)
   ·rw [z0] at y
    have:=congrArg (fun s:Str=>s.cps.toList.length) y
    simp at this
  exact ⟨_,by omega,by have:=i.isLt;have:=j.isLt;have:=k.isLt;omega,HP i j k hi⟩
noncomputable def nL:List Bool->Nat
 | []=>0
 | b :: r=>b.toNat+2 * nL r
theorem K1:∀ bs,nL bs<2 ^ bs.length
 | []=>by decide
 | b :: r=>by
  have:=K1 r
  have hb:b.toNat<=1:=by cases b <;> decide
  show b.toNat+2 * nL r<2 ^ (r.length+1)
  rw [Nat.pow_succ]
  omega
theorem MC:∀ (bs:List Bool) (k:Nat),nL bs / 2 ^ k % 2=((bs[k]?).getD false).toNat
 | [],k=>by simp [nL]
 | b :: r,0=>by
  show (b.toNat+2 * nL r) / 1 % 2=b.toNat
  cases b <;> simp [Nat.add_mul_mod_self_left]
 | b :: r,k+1=>by
  show (b.toNat+2 * nL r) / 2 ^ (k+1) % 2=_
  rw [show 2 ^ (k+1)=2 * 2 ^ k by rw [Nat.pow_succ,Nat.mul_comm],<- Nat.div_div_eq_div_mul,show (b.toNat+2 * nL r) / 2=nL r by cases b <;> simp <;> omega]
  exact MC r k
noncomputable def vh (x:Str) (n:Nat):Prop:=∃ t:Int,0<=t/\t<2 ^ 2 ^ n/\x=cO t n
theorem Nx {x:Str}{n:Nat} (hl:x.length=2 ^ n) (hd:∀ c∈x.cps.toList,c=48\/c=49):vh x n:=by
 refine ⟨((nL (x.cps.toList.map fun c=>decide (c=49)):Nat):Int),by omega,?_,gf ?_⟩
 ·have:=K1 (x.cps.toList.map fun c=>decide (c=49))
  rw [ZpC,Zrp,show x.cps.size=2 ^ n from hl] at this
  exact_mod_cast this
 ·rw [vX]
  refine Zql fun k=>?_
  rw [ZpF]
  by_cases hk:k<2 ^ n
  ·have oN:k<x.cps.toList.length:=by rw [Zrp,show x.cps.size=2 ^ n from hl];exact hk
   rw [ZqR hk,ZpH oN]
   have hc:=hd _ (Zqg oN)
   show _=some (48+(iG _ k).toNat)
   unfold iG
   rw [Zri,Zri,MC,ZpF,ZpH oN]
   show some _=some (48+(decide (x.cps.toList[k]=49)).toNat)
   rcases hc with z | z <;> rw [z] <;> rfl
  ·rw [Zp0 (by rw [Zrp,show x.cps.size=2 ^ n from hl];omega),Zp0 (by rw [Zp9];omega)]
   rfl
noncomputable def vW (a:dy) (_:ZoW):Sp:=fun vs H Q E=>∃ x:Str,vs=[.str x]/\x.length<=10000/\(∀ (i:Int) H',0<=i->i<=999->x=sN i->aH H H'->Q (.int i) H')/\(¬ lL x->∀ H' e,aH H H'->H' e=none->E (.ref e) (some a.ag) H')
noncomputable def D1 (a:dy) (K:ZoW) (E:XK):TS:=(aV (cM (lC (bK (af (fQ fun i j=>.bl (decide (i<j))) (bw (gY K) (ah (aa 0) ar)) (tC (.int 1)))) (lC (bK (af (fQ fun i j=>.bl (decide (j<i))) (bw (gY K) (ah (aa 0) ar)) (tC (HG a)))) (nj (kd K (bw (lF K) (ah (eg (lG (aa 0)) 1 [] (aK 0) fR (af (CC K false) (aa 0) (tC (Eg a)))) ar)))))) (kj a.ag (ah (tC (.str "not a number of one to three figures")) ar) E) eh)
  (aV (cM (pv (bK (af (gA K) (af (bE K) (aa 0) (tC (.int 0))) (tC (.str "0")))) (bK (af (mi K) (aa 0) (tC (.str "0"))))) (kj a.ag (ah (tC (.str "a nought ahead of a number")) ar) E) eh)
  (cA (bw A4 (ah (aa 0) ar)))))
theorem OR (T:Txt K mg a):TX P w K mg base 0 "number_of" vI Fx a.dS (D1 a K) :=
 fun hr=>(aW (dD (PW.pt (mB (cI oM (dX iE (by rfl) T.aL PySem.boot_len (ai (cv 0) au)) ak (cB _)) (mB (cI kS (dX iE (by rfl) T.aL PySem.boot_len (ai (cv 0) au)) (vq rfl T.gE) (cB _)) (oX (pD (nF (dX (Cr rfl) (by rfl) T.je PyProof.Rows.boot_all (ai (lI (N:=["sign"]) (k:=1) (sel:=[]) (aD.of (ba vI).names (by decide +kernel)) (aF.of Fx (by decide +kernel)) rfl (JO (cv 0)) (fun _ _ _ _=>(eu (i:=0) (show ZpU (["sign"]:List Str) by decide +kernel) rfl (by walk_at "o"))) (fun _ _ _ _=>jz) (fun _ _ _ _=>(AJ Bw (cv 0) (vq rfl T.jN) (by with_unfolding_all rfl)))) au)))))))) (aS (lN Zps T.xi_NoText (by decide) rfl T.bB rfl ie (ai aM au))) eU)
   (aW (dD (PW.pt (K3 (cI (ic (eM hr)) (bN bM (cv 0) ak (fun _ _=>rfl)) aM (cB _)) (MP (cI (nE (eM hr)) (cv 0) aM (cB _))))) (aS (lN Zps T.xi_NoText (by decide) rfl T.bB rfl ie (ai aM au))) eU)
   (aS (cY (fP Dt (by rfl) T.fU PyProof.Rows.boot_int (ai (cv 0) au))))))
theorem zY (T:Txt K mg a):aJ P w K mg base (eB P w) 1 a.dS a.gq ["word"] (vW a K):=by
 refine T.ay.n.iF T9 (OR T) (fun vs H Q E h=>?_) (fun H vs Q E h=>?_)
 ·obtain ⟨x,rfl,_⟩:=h;rfl
 ·obtain ⟨x,rfl,hx,q,qe⟩:=h
  show D1 a K E _ [some (.str x)] H
  unfold D1 HG Eg
  have big:(20000:Nat)<=sizeLine:=by decide
  have G2:[V.str "not a number of one to three figures"].length<=sizeLine:=by show 1<=sizeLine;decide
  have hsz:x.cps.toList.length=x.length:=by rw [Zrp];rfl
  have ke:(¬ (1<=x.length/\x.length<=3) \/ ¬ (∀ c∈x.cps.toList,48<=c/\c<=57) \/ ¬ (x.cps.toList[0]? ≠ some 48\/x = "0"))->¬ lL x:=by
   rintro g ⟨i,i0,i1,rfl⟩
   obtain ⟨a1,a2,a3,_⟩:=nG i0 i1
   rcases g with g | g | g
   ·exact g a1
   ·exact g a2
   ·exact g a3
  walk_at "gs"
  by_cases g1:(x.length:Int)<1
  ·rw [if_pos g1]
   exact ⟨G2,fun e he=>qe (ke (.inl (by omega))) H e (aH.refl _) he⟩
  rw [if_neg g1]
  refine ⟨by omega,?_⟩
  by_cases g2:3<(x.length:Int)
  ·rw [if_pos g2]
   exact ⟨G2,fun e he=>qe (ke (.inl (by omega))) H e (aH.refl _) he⟩
  rw [if_neg g2]
  refine IA (fun c=>V.bl (bu ⟨#[c]⟩ "0123456789")) rfl (by have:x.cps.size=x.length:=rfl;omega) ?_ ?_
  ·intro c H' Q' hc' s' q'
   walk_at "gs"
   exact q'
  intro p H1 n1
  refine ⟨x.cps.toList.map fun c=>bu ⟨#[c]⟩ "0123456789",by have:=n1.sq (K:=K);rwa [ZpO],?_⟩
  by_cases g3:∀ c∈x.cps.toList,48<=c/\c<=57
  ·rw [if_neg (by
    rw [Bool.not_eq_false,Zqp,Zp8]
    intro c hc
    show bu ⟨#[c]⟩ "0123456789" = true
    exact IG (g3 c hc))]
   obtain ⟨c,hc0⟩:∃ c,x.cps.toList[0]? = some c:=⟨_,ZpH (by omega)⟩
   refine ⟨by omega,c,by rw [Sh (by omega)];exact hc0,?_⟩
   have fin:(x.cps.toList[0]? ≠ some 48\/x = "0")->∃ n,intText? x=some n/\x.length<=640/\Q (.int n) H1:=fun g=>by
    obtain ⟨i,i0,i1,rfl⟩:=OO (by omega) (by omega) g3 g
    exact ⟨i,(nG i0 i1).2.2.2,by omega,q i H1 i0 i1 rfl n1.same⟩
   by_cases g4:(⟨#[c]⟩:Str) = "0"
   ·rw [if_pos g4]
    have ec:c=48:=tP g4
    by_cases g5:x = "0"
    ·rw [if_neg (fun z=>z g5)]
     exact fin (.inr g5)
    ·rw [if_pos g5]
     refine ⟨by show 1<=sizeLine;decide,fun e he=>qe (ke (.inr (.inr fun z=>?_))) H1 e n1.same he⟩
     rcases z with z | z
     ·exact z (by rw [hc0,ec])
     ·exact g5 z
   ·rw [if_neg g4]
    refine fin (.inl fun z=>g4 ?_)
    rw [hc0] at z
    have ec:c=48:=Option.some.inj z
    rw [ec]
    decide +kernel
  ·rw [if_pos (by
    rw [Zqp,Zry]
    intro z
    rw [Zp8] at z
    refine g3 fun c hc=>?_
    have:=z c hc
    show 48<=c/\c<=57
    rw [show ((id ∘ fun c=>bu ⟨#[c]⟩ "0123456789") c)=bu ⟨#[c]⟩ "0123456789" from rfl,N1] at this
    exact of_decide_eq_true this)]
   exact ⟨G2,fun e he=>qe (ke (.inr (.inl g3))) H1 e n1.same he⟩
noncomputable def B0 (ws:List Str):Prop:=∃ i:Int,0<=i/\i<=999/\ws=[("board" : Str),sN i]
noncomputable def Cw (ws:List Str):Prop:=∀ w∈ws,w.length<=10000
noncomputable def Kn (a:dy) (_:ZoW):Sp:=fun vs H Q E=>∃ (r:Addr) (ws:List Str),vs=[.ref r]/\H r=some (.lst (ws.map V.str))/\Cw ws /\
 (∀ (i:Int) H',0<=i->i<=999->ws=[("board" : Str),sN i]->aH H H'->Q (.int i) H')/\(¬ B0 ws->∀ H' e,aH H H'->H' e=none->E (.ref e) (some a.ag) H')
noncomputable def FN (a:dy) (K:ZoW) (E:XK):TS:=(aV (cM (lC (bK (af (mi K) (bw (gY K) (ah (aa 0) ar)) (tC (.int 2)))) (bK (af (mi K) (af (bE K) (aa 0) (tC (.int 0))) (tC (.str "board"))))) (kj a.ag (ah (tC (.str "not board and one number")) ar) E) eh)
  (cA (bS (vW a K) [] E (ah (af (bE K) (aa 0) (tC (.int 1))) ar))))
theorem Tb (T:Txt K mg a):TX P w K mg base 1 "many_of" zZ Mj a.fZ (FN a K) :=
 fun hr=>(aW (dD (PW.pt (mB (cI (nE (eM hr)) (dX iE (by rfl) T.aL PySem.boot_len (ai (cv 0) au)) ak (cB _)) (oX (cI (nE (eM hr)) (bN bM (cv 0) ak (fun _ _=>rfl)) aM (cB _))))) (aS (lN Zps T.xi_NoText (by decide) rfl T.bB rfl ie (ai aM au))) eU)
   (aS (cY (kM (zY T) (hm hr) rfl T.ay.m T.ay.n.kp T.ay.b .nil (ly ie) (ai (bN bM (cv 0) ak (fun _ _=>rfl)) au)))))
theorem QR (T:Txt K mg a):aJ P w K mg base (eB P w) 2 a.fZ a.iM ["row"] (Kn a K):=by
 refine T.d8.n.iF Q3 (Tb T) (fun vs H Q E h=>?_) (fun H vs Q E h=>?_)
 ·obtain ⟨r,ws,rfl,_⟩:=h;rfl
 ·obtain ⟨r,ws,rfl,hr,oI,q,qe⟩:=h
  show FN a K E _ [some (.ref r)] H
  unfold FN
  have h1:[V.str "not board and one number"].length<=sizeLine:=by show 1<=sizeLine;decide
  walk_at "gs"
  refine .inl ⟨_,.inl (.of hr),?_⟩
  rw [ZpC]
  by_cases g1:(ws.length:Int)=2
  ·rw [if_neg (fun z=>z g1)]
   obtain ⟨w0,w1,rfl⟩:∃ w0 w1,ws=[w0,w1]:=by
    match ws,g1 with
    | [a,b],_=>exact ⟨a,b,rfl⟩
    | [],g=>simp at g
    | [_],g=>simp at g
    | _ :: _ :: _ :: _,g=>simp at g;omega
   refine ⟨_,_,.inl (.of hr),jF (j:=0) rfl,?_⟩
   show if ¬ w0 = "board" then _ else _
   by_cases g2:w0 = "board"
   ·subst g2
    rw [if_neg (fun z=>z rfl)]
    refine ⟨_,_,.inl (.of hr),jF (j:=1) rfl,w1,rfl,oI w1 (by simp),fun i H' i0 i1 e s'=>q i H' i0 i1 (by rw [e]) s',fun hn H' e s' he=>qe (fun z=>?_) H' e s' he⟩
    obtain ⟨i,i0,i1,z⟩:=z
    have:w1=sN i:=(List.cons.inj (List.cons.inj z).2).1
    exact hn ⟨i,i0,i1,this⟩
   ·rw [if_pos g2]
    refine ⟨h1,fun e he=>qe (fun z=>?_) H e (aH.refl _) he⟩
    obtain ⟨i,i0,i1,z⟩:=z
    exact g2 (List.cons.inj z).1
  ·rw [if_pos g1]
   refine ⟨h1,fun e he=>qe (fun z=>?_) H e (aH.refl _) he⟩
   obtain ⟨i,i0,i1,z⟩:=z
   rw [z] at g1
   exact g1 rfl
noncomputable def JK (a:dy) (_:ZoW):Sp:=fun vs H Q E=>∃ (x:Str) (n:Nat),vs=[.str x,.int n]/\n<=6/\x.length<=10000 /\
 (∀ (t:Int) H',0<=t->t<2 ^ 2 ^ n->x=cO t n->aH H H'->Q (.int t) H')/\(¬ vh x n->∀ H' e,aH H H'->H' e=none->E (.ref e) (some a.ag) H')
noncomputable def FX (a:dy) (K:ZoW) (E:XK):TS:=(aV (cM (lC (bK (af (mi K) (bw (gY K) (ah (aa 0) ar)) (af (aQ km fun i j=>.int (i * 2 ^ j.toNat)) (tC (.int 1)) (aa 1)))) (nj (kd K (bw (lF K) (ah (eg (lG (aa 0)) 1 [] (aK 0) fR (af (CC K false) (aa 0) (tC (.str "01")))) ar))))) (kj a.ag (ah (tC (.str "not a table of this cut")) ar) E) eh)
  (aV (bG (eg (sG (ah (aa 0) ar)) 2 [] (oP K 2 (jj (aK 0) (jj (aK 1) pS))) (bK (af (gA K) (aa 1) (tC (.str "1")))) (aa 0)) (aK 2))
  (cA (bw (rq K) (ah (eg (jg K (aa 2)) 1 [] (aK 0) fR (af (aQ km fun i j=>.int (i * 2 ^ j.toNat)) (tC (.int 1)) (aa 0))) ar)))))
theorem Pb (T:Txt K mg a):TX P w K mg base 0 "table_of" pZ yg a.eO (FX a K) :=
 fun hr=>(aW (dD (PW.pt (mB (cI (nE (eM hr)) (dX iE (by rfl) T.aL PySem.boot_len (ai (cv 0) au)) (aw vR ak (cv 1)) (cB _)) (oX (pD (nF (dX (Cr rfl) (by rfl) T.je PyProof.Rows.boot_all (ai (lI (N:=["sign"]) (k:=1) (sel:=[]) (aD.of (ba pZ).names (by decide +kernel)) (aF.of yg (by decide +kernel)) rfl (JO (cv 0)) (fun _ _ _ _=>(eu (i:=0) (show ZpU (["sign"]:List Str) by decide +kernel) rfl (by walk_at "o"))) (fun _ _ _ _=>jz) (fun _ _ _ _=>(AJ Bw (cv 0) aM (by with_unfolding_all rfl)))) au))))))) (aS (lN Zps T.xi_NoText (by decide) rfl T.bB rfl ie (ai aM au))) eU)
   (aW (GU (i:=2) (N:=["place","sign"]) (k:=2) (sel:=[]) (aD.of (ba pZ).names (by decide +kernel)) (aF.of yg (by decide +kernel)) rfl (qj rfl T.iV (ai (cv 0) au)) (fun _ _ _ _=>(vN rfl (jJ (eu (i:=0) (show ZpU (["place","sign"]:List Str) by decide +kernel) rfl (by walk_at "o")) (jJ (eu (i:=1) (show ZpU (["place","sign"]:List Str) by decide +kernel) rfl (by walk_at "o")) vo)))) (fun _ _ _ _=>(PR (cI (ic (eM hr)) (cv 1) aM (cB _)))) (fun _ _ _ _=>(cv 0)) K5.nd rfl (by walk_at "o") rfl)
   (aS (cY (dX (zA rfl) (by rfl) T.sD PyProof.Rows.boot_sum (ai (lI (N:=["place"]) (k:=1) (sel:=[]) (aD.of (ba pZ).names (by decide +kernel)) (aF.of yg (by decide +kernel)) rfl (lq (cv 2)) (fun _ _ _ _=>(eu (i:=0) (show ZpU (["place"]:List Str) by decide +kernel) rfl (by walk_at "o"))) (fun _ _ _ _=>jz) (fun _ _ _ _=>(aw vR ak (cv 0)))) au))))))
theorem Ob (T:Txt K mg a):aJ P w K mg base (eB P w) 1 a.eO a.gR ["word","count"] (JK a K):=by
 refine T.dg.n.iF K5 (Pb T) (fun vs H Q E h=>?_) (fun H vs Q E h=>?_)
 ·obtain ⟨x,n,rfl,_⟩:=h;rfl
 ·obtain ⟨x,n,rfl,h6,hx,q,qe⟩:=h
  show FX a K E _ [some (.str x),some (.int n),none] H
  unfold FX
  have big:(20000:Nat)<=sizeLine:=by decide
  have h2:(2:Nat) ^ n<=2 ^ 6:=Zq4 (by decide) h6
  have h1:[V.str "not a table of this cut"].length<=sizeLine:=by show 1<=sizeLine;decide
  have hsz:x.cps.size=x.length:=rfl
  have ec:(1 * 2 ^ ((n:Int)).toNat:Int)=((2 ^ n:Nat):Int):=by simp
  walk_at "gs"
  rw [ec]
  by_cases g1:(x.length:Int)=((2 ^ n:Nat):Int)
  ·rw [if_neg (fun z=>z g1)]
   have g1':x.length=2 ^ n:=by exact_mod_cast g1
   refine IA (fun c=>V.bl (bu ⟨#[c]⟩ "01")) rfl (by omega) ?_ ?_
   ·intro c H' Q' hc' s' q'
    walk_at "gs"
    exact q'
   intro p H1 n1
   refine ⟨x.cps.toList.map fun c=>bu ⟨#[c]⟩ "01",by have:=n1.sq (K:=K);rwa [ZpO],?_⟩
   by_cases g3:∀ c∈x.cps.toList,c=48\/c=49
   ·rw [if_neg (by
     rw [Bool.not_eq_false,Zqp,Zp8]
     intro c hc
     show bu ⟨#[c]⟩ "01" = true
     exact LV (g3 c hc))]
    obtain ⟨t,t0,t1,ext⟩:=Nx g1' g3
    subst ext
    obtain ⟨tn,rfl⟩:=Zrl t0
    have AL:=vX (tn:Int) n
    have Qg:∀ (k:Nat) c,(cO (tn:Int) n).cps[k]? = some c->c=48+tn / 2 ^ k % 2:=by
     intro k c hk
     have e:(cO (tn:Int) n).cps.toList[k]? = some c:=by simpa using hk
     rw [AL,ZpF] at e
     by_cases g:k<2 ^ n
     ·rw [ZqR g] at e
      have:48+(iG (tn:Int) k).toNat=c:=Option.some.inj e
      rw [<- this]
      unfold iG
      rw [Zri,Zri]
     ·rw [Zp0 (by rw [Zp9];omega)] at e
      cases e
    have q':=q tn
    have q'':∀ H',aH H H'->Q (.int (tn:Int)) H':=fun H' s'=>q' H' t0 t1 rfl s'
    have Gy:(cO (tn:Int) n).cps.size=2 ^ n:=g1'
    clear q q' qe
    generalize cO (tn:Int) n=z at *
    refine ⟨z,rfl,fun lp hlp=>SR (fun σ=>∃ v0 v1,σ=[v0,v1]) (fun i H3=>aH H1 H3/\H3 lp=some (.lst ((lr tn i).map fun k:Nat=>V.int (k:Int)))) ⟨_,_,rfl⟩ ⟨iU hlp,by rw [cq];rfl⟩ ?_ ?_⟩
    ·rintro i c tp σ3 H3 R hc3 htp ⟨v0,v1,rfl⟩ ⟨s3,h3⟩ hR
     have hi:i<2 ^ n:=by
      have:=(Zro.mp hc3).1
      omega
     have ec:=Qg i c hc3
     have s4:aH H3 (upd H3 tp (.tup [.int (i:Int),.str ⟨#[c]⟩])):=iU htp
     have a4:upd H3 tp (.tup [.int (i:Int),.str ⟨#[c]⟩]) tp=some (.tup [.int (i:Int),.str ⟨#[c]⟩]):=cq
     generalize upd H3 tp (.tup [.int (i:Int),.str ⟨#[c]⟩])=H4 at s4 a4 ⊢
     have hlen:=KZ tn i
     walk_at "gs"
     refine ⟨tp,_,rfl,.of a4,rfl,_,_,rfl,_,_,rfl,rfl,?_⟩
     walk_at "gs"
     by_cases g:c=49
     ·rw [if_pos ((Lb c).mpr g)]
      refine ⟨_,s4 _ _ h3,by rw [ZpC];omega,hR _ _ ⟨_,_,rfl⟩ ⟨(s3.trans s4).put hlp,?_⟩⟩
      rw [cq,Em,if_pos (by omega),ZpK]
      rfl
     ·rw [if_neg (fun z=>g ((Lb c).mp z))]
      refine hR _ _ ⟨_,_,rfl⟩ ⟨s3.trans s4,?_⟩
      rw [Em,if_neg (by omega),Zp4]
      exact s4 _ _ h3
    ·rintro H3 ⟨s3,h3⟩
     rw [Gy] at h3
     have hlen:=KZ tn (2 ^ n)
     refine ⟨⟨_,.of h3⟩,Bz (fun v=>match v with | .int k=>.int (2 ^ k.toNat) | v=>v) (.of h3) rfl (by rw [ZpC];omega) ?_ ?_⟩
     ·intro v H' Q' hv s' q'
      obtain ⟨k,hk,rfl⟩:=ZpS.mp hv
      have oN:=Ux hk
      have c1:km 1 (k:Int):=⟨by omega,by omega,by decide⟩
      walk_at "gs"
      rw [Int.one_mul]
      exact q'
     intro l5 H5 n5
     have e5:((lr tn (2 ^ n)).map fun k:Nat=>V.int (k:Int)).map (fun v=>match v with | .int k=>V.int (2 ^ k.toNat) | v=>v)=(((lr tn (2 ^ n)).map fun k:Nat=>((2 ^ k:Nat):Int)).map V.int):=by
      rw [ZpO,ZpO]
      refine Zqx fun k _=>?_
      show V.int (2 ^ ((k:Int)).toNat)=V.int ((2 ^ k:Nat):Int)
      rw [Zri]
      simp
     rw [e5] at n5
     refine ⟨_,n5.sq,?_⟩
     rw [C0,Zrg (by exact_mod_cast t1)]
     exact q'' _ ((n1.same.trans s3).trans n5.same)
   ·rw [if_pos (by
     rw [Zqp,Zry]
     intro z
     rw [Zp8] at z
     refine g3 fun c hc=>?_
     have:=z c hc
     rw [show ((id ∘ fun c=>bu ⟨#[c]⟩ "01") c)=bu ⟨#[c]⟩ "01" from rfl,Tx] at this
     exact of_decide_eq_true this)]
    refine ⟨h1,fun e he=>qe (fun z=>g3 ?_) H1 e n1.same he⟩
    obtain ⟨t,_,_,rfl⟩:=z
    intro c hc
    rw [vX] at hc
    obtain ⟨k,_,rfl⟩:=ZpS.mp hc
    have:=yf t k
    omega
  ·rw [if_pos g1]
   refine ⟨h1,fun e he=>qe (fun z=>g1 ?_) H e (aH.refl _) he⟩
   obtain ⟨t,_,_,rfl⟩:=z
   exact_mod_cast wG t n
theorem Rv {x:Str} (h:Txt.startswith x "-" = true):x=("-" : Str) ++ Txt.slice x (some 1) none:=by
 have hl:Str.length "-" = 1:=by decide +kernel
 have hc:("-" : Str).cps.toList=[45]:=by decide +kernel
 unfold Txt.startswith at h
 obtain ⟨h1,h2⟩:=Zrz.mp h
 have h1':1<=x.length:=by have:=of_decide_eq_true h1;omega
 unfold Builtin.Str.subAt at h2
 have h3:x.cps.extract 0 (0+Str.length "-")=("-" : Str).cps:=beq_iff_eq.mp h2
 have h4:=congrArg Zrq h3
 rw [hl,hc,Zrr] at h4
 refine gf ?_
 rw [bz,TL (by decide) (by omega),hc]
 have h5:x.cps.toList.take 1=[45]:=by simpa using h4
 rw [<- h5]
 exact (ZqS 1 _).symm
noncomputable def lK (x:Str):Prop:=∃ t:Int,0<=t/\t / 2<=999/\x=bA t
noncomputable def Ly (a:dy) (_:ZoW):Sp:=fun vs H Q E=>∃ x:Str,vs=[.str x]/\x.length<=10000 /\
 (∀ (t:Int) H',0<=t->t / 2<=999->x=bA t->aH H H'->Q (.int t) H')/\(¬ lK x->∀ H' e,aH H H'->H' e=none->E (.ref e) (some a.ag) H')
noncomputable def Ii (a:dy) (K:ZoW) (E:XK):TS:=(aV (cM (kd K (gS K "str" EU (aa 0) (ah (tC (.str "-")) ar))) (cA (af bc (af tJ (tC (.int 2)) (bS (vW a K) [] E (ah (jY (ka K) (aa 0) (iR (tC (.int 1))) kJ) ar))) (tC (.int 1)))) eh)
  (cA (af tJ (tC (.int 2)) (bS (vW a K) [] E (ah (aa 0) ar)))))
theorem Pf (T:Txt K mg a):TX P w K mg base 1 "tie_of" wX Ir a.gX (Ii a K) :=
 fun hr=>(aW (dD (nF (iD Zpr PySem.F.slot_str_startswith PySem.F.type_str_startswith N8 (cv 0) (ai aM au))) (aS (cY (aw bf (aw Bt ak (kM (zY T) (hm hr) rfl T.ay.m T.ay.n.kp T.ay.b .nil (ly ie) (ai (kR kG (cv 0) (j6 ak) mR) au))) ak))) eU)
   (aS (cY (aw Bt ak (kM (zY T) (hm hr) rfl T.ay.m T.ay.n.kp T.ay.b .nil (ly ie) (ai (cv 0) au))))))
theorem SV (T:Txt K mg a):aJ P w K mg base (eB P w) 2 a.gX a.ju ["word"] (Ly a K):=by
 refine T.fv.n.iF NT (Pf T) (fun vs H Q E h=>?_) (fun H vs Q E h=>?_)
 ·obtain ⟨x,rfl,_⟩:=h;rfl
 ·obtain ⟨x,rfl,hx,q,qe⟩:=h
  show Ii a K E _ [some (.str x)] H
  unfold Ii
  have big:(20000:Nat)<=sizeLine:=by decide
  walk_at "gs"
  by_cases g:Txt.startswith x "-" = true
  ·rw [if_pos g]
   have ex:=Rv g
   refine ⟨by omega,Txt.slice x (some 1) none,rfl,Zq0 (Txt.slice_le x _ _) hx,fun i H' i0 i1 e s'=>⟨.inl ⟨by decide,by decide⟩,?_⟩,fun hn H' e s' he=>qe (fun z=>?_) H' e s' he⟩
   ·refine q (2 * i+1) H' (by omega) (by omega) ?_ s'
    rw [ex,e]
    unfold bA
    rw [if_pos (by omega),show (2 * i+1) / 2=i by omega]
   ·obtain ⟨t,t0,t1,rfl⟩:=z
    obtain ⟨g1,g2⟩:=vV t0 t1
    rw [g] at g1
    have ho:=of_decide_eq_true g1.symm
    exact hn ⟨t / 2,by omega,t1,g2 ho⟩
  ·rw [if_neg g]
   refine ⟨x,rfl,hx,fun i H' i0 i1 e s'=>⟨.inl ⟨by decide,by decide⟩,?_⟩,fun hn H' e s' he=>qe (fun z=>?_) H' e s' he⟩
   ·refine q (2 * i) H' (by omega) (by omega) ?_ s'
    rw [e]
    unfold bA
    rw [if_neg (by omega),show 2 * i / 2=i by omega,nO]
   ·obtain ⟨t,t0,t1,rfl⟩:=z
    obtain ⟨g1,g2⟩:=vV t0 t1
    have ho:¬ t % 2=1:=fun y=>g (by rw [g1];exact decide_eq_true y)
    refine hn ⟨t / 2,by omega,t1,?_⟩
    unfold bA
    rw [if_neg ho,nO]
noncomputable def br (p:Pc):List Str:=sN p.1 :: "of" :: (p.2.1.map sN ++ [("is" : Str),cO p.2.2 p.2.1.length])
structure kT (p:Pc):Prop where
 k0:0<=p.1
 k1:p.1<=999
 l1:1<=p.2.1.length
 l6:p.2.1.length<=6
 cut:∀ x∈p.2.1,0<=x/\x<=999
 t0:0<=p.2.2
 t1:p.2.2<2 ^ 2 ^ p.2.1.length
theorem mh (p:Pc):(br p).length=p.2.1.length+4:=by unfold br;simp
theorem Lk (p:Pc):((br p).map V.str)[0]? = some (.str (sN p.1))/\((br p).map V.str)[1]? = some (.str "of")/\((br p).map V.str)[p.2.1.length+4 - 2]? = some (.str "is")/\((br p).map V.str)[p.2.1.length+4 - 1]? = some (.str (cO p.2.2 p.2.1.length)):=by
 refine ⟨rfl,rfl,?_,?_⟩
 ·rw [ZpF]
  unfold br
  rw [show p.2.1.length+4 - 2=p.2.1.length+1+1 by omega,ZpV,ZpV,ZpW (by rw [ZpC];exact ZqY _),ZpC,Zq5]
  rfl
 ·rw [ZpF]
  unfold br
  rw [show p.2.1.length+4 - 1=p.2.1.length+1+1+1 by omega,ZpV,ZpV,ZpW (by rw [ZpC];omega),ZpC,show p.2.1.length+1 - p.2.1.length=1 by omega]
  rfl
noncomputable def ku (ws:List Str):Prop:=∃ p:Pc,kT p/\ws=br p
theorem QT {ws:List Str}{n:Nat} (hl:ws.length=n+4) (h1:ws[1]? = some ("of" : Str)) (h2:ws[n+2]? = some ("is" : Str)):∃ w0 cw tw,ws=w0 :: ("of" : Str) :: (cw ++ [("is" : Str),tw])/\cw.length=n:=by
 obtain _ | ⟨w0,r⟩:=ws
 ·simp at hl
 obtain _ | ⟨w1,r⟩:=r
 ·simp at hl
 have e1:w1 = "of":=Option.some.inj h1
 subst e1
 have hr:r.length=n+2:=by simp only [ZpG] at hl;omega
 have h2':r[n]? = some ("is" : Str):=h2
 refine ⟨w0,r.take n,r[n+1]'(by omega),?_,by rw [Zp2];omega⟩
 have e2:r=r.take n ++ r.drop n:=(ZqS n r).symm
 have e3:r.drop n=[("is" : Str),r[n+1]'(by omega)]:=by
  rw [ZqO (by omega),ZqO (by omega),ZqV (by omega)]
  have:r[n]'(by omega) = "is":=by
   rw [ZpH (by omega)] at h2'
   exact Option.some.inj h2'
  rw [this]
 rw [<- e3,<- e2]
theorem E3 {w0 tw:Str}{cw:List Str} (h1:1<=cw.length) (h6:cw.length<=6) (h:ku (w0 :: ("of" : Str) :: (cw ++ [("is" : Str),tw]))):lL w0/\(∀ w∈cw,lL w)/\vh tw cw.length:=by
 obtain ⟨p,ok,e⟩:=h
 unfold br at e
 obtain ⟨e1,e2⟩:=List.cons.inj e
 obtain ⟨_,e3⟩:=List.cons.inj e2
 obtain ⟨e4,e5⟩:=ZqC e3 rfl
 obtain ⟨_,e6⟩:=List.cons.inj e5
 obtain ⟨e7,_⟩:=List.cons.inj e6
 have el:cw.length=p.2.1.length:=by rw [e4,ZpC]
 refine ⟨⟨p.1,ok.k0,ok.k1,e1⟩,fun w hw=>?_,⟨p.2.2,ok.t0,by rw [el];exact ok.t1,by rw [el];exact e7⟩⟩
 rw [e4] at hw
 obtain ⟨x,hx,rfl⟩:=ZpS.mp hw
 exact ⟨x,(ok.cut x hx).1,(ok.cut x hx).2,rfl⟩
noncomputable def Mv (a:dy) (_:ZoW):Sp:=fun vs H Q E=>∃ (r:Addr) (ws:List Str),vs=[.ref r]/\H r=some (.lst (ws.map V.str))/\Cw ws/\ws.length<=10000 /\
 (∀ (p:Pc) t c H',kT p->ws=br p->aH H H'->H t=none->H c=none->H' t=some (.tup [.int p.1,.ref c,.int p.2.2])->H' c=some (.lst (p.2.1.map V.int))->Q (.ref t) H') /\
 (¬ ku ws->∀ H' e,aH H H'->H' e=none->E (.ref e) (some a.ag) H')
noncomputable def FC (a:dy) (K:ZoW) (E:XK):TS:=(aV (bG (af (fQ fun i j=>.int (i - j)) (bw (gY K) (ah (aa 0) ar)) (tC (.int 4))) (aK 1))
  (aV (cM (lC (bK (af (fQ fun i j=>.bl (decide (i<j))) (aa 1) (tC (.int 1)))) (lC (bK (af (fQ fun i j=>.bl (decide (j<i))) (aa 1) (tC (By a)))) (lC (bK (af (mi K) (af (bE K) (aa 0) (tC (.int 1))) (tC (.str "of")))) (bK (af (mi K) (af (bE K) (aa 0) (j5 jQ (tC (.int 2)))) (tC (.str "is"))))))) (kj a.ag (ah (tC (.str "not a knot, of, one to six numbers, is and a table")) ar) E) eh)
  (aV (bG (eg (jg K (jY (ka K) (aa 0) (iR (tC (.int 2))) (iR (j5 jQ (tC (.int 2)))))) 1 [] (aK 0) fR (bS (vW a K) [] E (ah (aa 0) ar))) (aK 2))
  (cA (pK (ah (bS (vW a K) [] E (ah (af (bE K) (aa 0) (tC (.int 0))) ar)) (ah (aa 2) (ah (bS (JK a K) [] E (ah (af (bE K) (aa 0) (j5 jQ (tC (.int 1)))) (ah (aa 1) ar))) ar))))))))
theorem Sz (T:Txt K mg a):TX P w K mg base 1 "piece_of" wm GN a.eQ (FC a K) :=
 fun hr=>(aW (dv (i:=1) Ij.nd rfl (by walk_at "o") (aw CO (dX iE (by rfl) T.aL PySem.boot_len (ai (cv 0) au)) ak))
   (aW (dD (PW.pt (mB (cI oM (cv 1) ak (cB _)) (mB (cI kS (cv 1) (vq rfl T.dP) (cB _)) (mB (cI (nE (eM hr)) (bN bM (cv 0) ak (fun _ _=>rfl)) aM (cB _)) (oX (cI (nE (eM hr)) (bN bM (cv 0) (kN lA ak) (fun _ _=>rfl)) aM (cB _))))))) (aS (lN Zps T.xi_NoText (by decide) rfl T.bB rfl ie (ai aM au))) eU)
   (aW (J8 (i:=2) (N:=["word"]) (k:=1) (sel:=[]) (aD.of (ba wm).names (by decide +kernel)) (aF.of GN (by decide +kernel)) rfl ⟨rfl,rfl⟩ Gp (lq (kR kG (cv 0) (j6 ak) (j6 (kN lA ak)))) (fun _ _ _ _=>(eu (i:=0) (show ZpU (["word"]:List Str) by decide +kernel) rfl (by walk_at "o"))) (fun _ _ _ _=>jz) (fun _ _ _ _=>(kM (zY T) (hm hr) rfl T.ay.m T.ay.n.kp T.ay.b .nil (ly Dg) (ai (cv 0) au))) Ij.nd rfl (by walk_at "o") rfl)
   (aS (cY (zW (ai (kM (zY T) (hm hr) rfl T.ay.m T.ay.n.kp T.ay.b .nil (ly ie) (ai (bN bM (cv 0) ak (fun _ _=>rfl)) au)) (ai (cv 2) (ai (kM (Ob T) (hm hr) rfl T.dg.m T.dg.n.kp T.dg.b .nil (ly ie) (ai (bN bM (cv 0) (kN lA ak) (fun _ _=>rfl)) (ai (cv 1) au))) au)))))))))
theorem Uv (T:Txt K mg a):aJ P w K mg base (eB P w) 2 a.eQ a.hV ["row"] (Mv a K):=by
 refine T.da.n.iF Ij (Sz T) (fun vs H Q E h=>?_) (fun H vs Q E h=>?_)
 ·obtain ⟨r,ws,rfl,_⟩:=h;rfl
 ·obtain ⟨r,ws,rfl,hr,oI,mZ,q,qe⟩:=h
  have big:(20000:Nat)<=sizeLine:=by decide
  show FC a K E _ [some (.ref r),none,none] H
  unfold FC By
  have pR:[V.str "not a knot, of, one to six numbers, is and a table"].length<=sizeLine:=by show 1<=sizeLine;decide
  have raise:¬ ku ws->[V.str "not a knot, of, one to six numbers, is and a table"].length<=sizeLine/\∀ e,H e=none->E (.ref e) (some a.ag) H:=fun hn=>⟨pR,fun e he=>qe hn H e (aH.refl _) he⟩
  walk_at "gs"
  refine .inl ⟨_,.inl (.of hr),?_⟩
  rw [ZpC]
  by_cases g1:(ws.length:Int) - 4<1
  ·rw [if_pos g1]
   refine raise fun ⟨p,ok,e⟩=>?_
   have:=congrArg Zp7 e
   rw [mh] at this
   have:=ok.l1
   omega
  rw [if_neg g1]
  by_cases g2:6<(ws.length:Int) - 4
  ·rw [if_pos g2]
   refine raise fun ⟨p,ok,e⟩=>?_
   have:=congrArg Zp7 e
   rw [mh] at this
   have:=ok.l6
   omega
  rw [if_neg g2]
  obtain ⟨n,hn⟩:∃ n,ws.length=n+4:=⟨ws.length - 4,by omega⟩
  obtain ⟨w1,lO⟩:∃ w1,ws[1]? = some w1:=⟨_,ZpH (by omega)⟩
  obtain ⟨w2,hw2⟩:∃ w2,ws[n+2]? = some w2:=⟨_,ZpH (by omega)⟩
  have wl:(ws.map V.str).length=n+4:=by rw [ZpC,hn]
  refine ⟨_,_,.inl (.of hr),jF (j:=1) (v:=.str w1) (by rw [ZpF,lO];rfl),?_⟩
  show if ¬ w1 = "of" then _ else _
  by_cases g3:w1 = "of"
  ·rw [if_neg (fun z=>z g3)]
   refine ⟨_,_,.inl (.of hr),pG (j:=2) (v:=.str w2) (by decide) (by omega) (by rw [wl,show n+4 - 2=n+2 by omega,ZpF,hw2];rfl),?_⟩
   show if ¬ w2 = "is" then _ else _
   by_cases g4:w2 = "is"
   ·rw [if_neg (fun z=>z g4)]
    subst g3 g4
    obtain ⟨w0,cw,tw,rfl,yA⟩:=QT hn lO hw2
    have h1:1<=cw.length:=by omega
    have h6:cw.length<=6:=by omega
    have parts:=fun z=>E3 (w0:=w0) (tw:=tw) h1 h6 z
    refine ⟨_,.of hr,fun sp H1 n1=>?_⟩
    have mq:fO ((w0 :: ("of" : Str) :: (cw ++ [("is" : Str),tw])).map V.str) (some 2) (some (-2))=cw.map V.str:=by
     have e:(w0 :: ("of" : Str) :: (cw ++ [("is" : Str),tw])).map V.str=[V.str w0,V.str "of"] ++ cw.map V.str ++ [V.str "is",V.str tw]:=by
      rw [ZpD,ZpD,ZpK];rfl
     rw [e]
     exact Lr 2 2 rfl rfl (by decide)
    rw [mq] at n1
    refine ⟨⟨_,n1.sq⟩,Cp (fun i u p H'=>∃ x:Int,0<=x/\x<=999/\cw[i]? = some (sN x)/\u=.int x) (fun i u p H1 H2 h _=>h) n1.sq rfl (by rw [ZpC];omega) ?_ ?_⟩
    ·intro i v p H' Q' hv s' hp _ q'
     rw [ZpF] at hv
     obtain ⟨w,hw,rfl⟩:∃ w,cw[i]? = some w/\v=.str w:=by
      cases e:cw[i]? with
      | none=>rw [e] at hv;cases hv
      | some w=>rw [e] at hv;exact ⟨w,rfl,(Option.some.inj hv).symm⟩
     have zy:=ZpP hw
     walk_at "gs"
     refine ⟨w,rfl,oI w (by simp [zy]),fun x H'' x0 x1 e s''=>q' _ _ s'' ⟨x,x0,x1,by rw [hw,e],rfl⟩,fun hn' H'' e s'' he=>qe (fun z=>hn' ((parts z).2.1 w zy)) H'' e ((n1.same.trans s').trans s'') he⟩
    intro cp us H2 hcp h2 ig s2 hd
    rw [ZpC] at ig
    obtain ⟨xs,hxn,hxs⟩:=Ac (P:=fun i (x:Int)=>us[i]? = some (V.int x)/\0<=x/\x<=999/\cw[i]? = some (sN x)) cw.length fun i hi=>by
     have hu:us[i]? = some us[i]:=ZpH (by omega)
     obtain ⟨x,x0,x1,e1,e2⟩:=hd i _ hu
     exact ⟨x,by rw [hu,e2],x0,x1,e1⟩
    have ph:us=xs.map V.int:=by
     refine Zql fun i=>?_
     rw [ZpF]
     by_cases hi:i<cw.length
     ·have hx:xs[i]? = some xs[i]:=ZpH (by omega)
      rw [hx,(hxs i _ hx).1];rfl
     ·rw [Zp0 (by omega),Zp0 (by omega)];rfl
    have DR:cw=xs.map sN:=by
     refine Zql fun i=>?_
     rw [ZpF]
     by_cases hi:i<cw.length
     ·have hx:xs[i]? = some xs[i]:=ZpH (by omega)
      rw [hx,(hxs i _ hx).2.2.2];rfl
     ·rw [Zp0 (by omega),Zp0 (by omega)];rfl
    have HS:∀ x∈xs,0<=x/\x<=999:=fun x hx=>by
     obtain ⟨i,hi⟩:=Zqr.mp hx
     exact ⟨(hxs i x hi).2.1,(hxs i x hi).2.2.1⟩
    subst ph
    have vA:=n1.same.trans s2
    refine ⟨_,_,.inl (.of (vA _ _ hr)),jF (j:=0) rfl,w0,rfl,oI w0 (by simp),fun kn H3 k0 k1 ek s3=>?_,fun hn' H' e s' he=>qe (fun z=>hn' (parts z).1) H' e (vA.trans s') he⟩
    refine ⟨_,_,.inl (.of ((vA.trans s3) _ _ hr)),pG (j:=1) (v:=.str tw) (by decide) (by omega) (by
     rw [wl,ZpF,show n+4 - 1=n+1+1+1 by omega,ZpV,ZpV,ZpW (by omega),show n+1 - cw.length=1 by omega];rfl),tw,cw.length,?_,h6,oI tw (by simp),fun tt H4 t0 t1 et s4=>?_,fun hn' H' e s' he=>qe (fun z=>hn' (parts z).2.2) H' e ((vA.trans s3).trans s') he⟩
    ·rw [show ((w0 :: ("of" : Str) :: (cw ++ [("is" : Str),tw])).length:Int) - 4=(cw.length:Int) by omega]
    ·refine ⟨by show 3<=sizeLine;decide,fun t5 H5 n5=>?_⟩
     have TV:=(vA.trans s3).trans (s4.trans n5.same)
     refine q (kn,xs,tt) t5 cp H5 ⟨k0,k1,by show 1<=xs.length;omega,by show xs.length<=6;omega,HS,t0,by show tt<2 ^ 2 ^ xs.length;rw [hxn];exact t1⟩ ?_ TV (((vA.trans s3).trans s4).nil n5.fX) (n1.same.nil hcp) n5.at_ (((s3.trans s4).trans n5.same) _ _ h2)
     unfold br
     show _=sN kn :: ("of" : Str) :: (xs.map sN ++ [("is" : Str),cO tt xs.length])
     rw [<- ek,<- DR,hxn,<- et]
   ·rw [if_pos g4]
    refine raise fun ⟨p,ok,e⟩=>g4 ?_
    have:=congrArg Zp7 e
    rw [mh] at this
    have h:=(Lk p).2.2.1
    rw [<- e,ZpF,show p.2.1.length+4 - 2=n+2 by omega,hw2] at h
    exact V.str.inj (Option.some.inj h)
  ·rw [if_pos g3]
   refine raise fun ⟨p,ok,e⟩=>g3 ?_
   have h:=(Lk p).2.1
   rw [<- e,ZpF,lO] at h
   exact V.str.inj (Option.some.inj h)
noncomputable def vm (ws:List Str):Prop:=∃ ts:List Int,1<=ts.length/\(∀ t∈ts,0<=t/\t / 2<=999)/\ws=("out" : Str) :: ts.map bA
noncomputable def Jd (a:dy) (_:ZoW):Sp:=fun vs H Q E=>∃ (r:Addr) (ws:List Str),vs=[.ref r]/\H r=some (.lst (ws.map V.str))/\Cw ws/\ws.length<=10000 /\
 (∀ (ts:List Int) l H',1<=ts.length->(∀ t∈ts,0<=t/\t / 2<=999)->ws=("out" : Str) :: ts.map bA->vp H l (.lst (ts.map V.int)) H'->Q (.ref l) H') /\
 (¬ vm ws->∀ H' e,aH H H'->H' e=none->E (.ref e) (some a.ag) H')
noncomputable def Hc (a:dy) (K:ZoW) (E:XK):TS:=(aV (cM (lC (bK (af (fQ fun i j=>.bl (decide (i<j))) (bw (gY K) (ah (aa 0) ar)) (tC (.int 2)))) (bK (af (mi K) (af (bE K) (aa 0) (tC (.int 0))) (tC (.str "out"))))) (kj a.ag (ah (tC (.str "not out and one word or more")) ar) E) eh)
  (cA (eg (jg K (jY (ka K) (aa 0) (iR (tC (.int 1))) kJ)) 1 [] (aK 0) fR (bS (Ly a K) [] E (ah (aa 0) ar)))))
theorem O7 (T:Txt K mg a):TX P w K mg base 2 "ties_of" vG Ha a.fW (Hc a K) :=
 fun hr=>(aW (dD (PW.pt (mB (cI oM (dX iE (by rfl) T.aL PySem.boot_len (ai (cv 0) au)) ak (cB _)) (oX (cI (nE (eM hr)) (bN bM (cv 0) ak (fun _ _=>rfl)) aM (cB _))))) (aS (lN Zps T.xi_NoText (by decide) rfl T.bB rfl ie (ai aM au))) eU)
   (aS (cY (Tu (N:=["word"]) (k:=1) (sel:=[]) (aD.of (ba vG).names (by decide +kernel)) (aF.of Ha (by decide +kernel)) rfl ⟨rfl,rfl⟩ Gp (lq (kR kG (cv 0) (j6 ak) mR)) (fun _ _ _ _=>(eu (i:=0) (show ZpU (["word"]:List Str) by decide +kernel) rfl (by walk_at "o"))) (fun _ _ _ _=>jz) (fun _ _ _ _=>(kM (SV T) (hm hr) rfl T.fv.m T.fv.n.kp T.fv.b .nil (ly Dg) (ai (cv 0) au)))))))
theorem NS (T:Txt K mg a):aJ P w K mg base (eB P w) 3 a.fW a.iQ ["row"] (Jd a K):=by
 refine T.dZ.n.iF S8 (O7 T) (fun vs H Q E h=>?_) (fun H vs Q E h=>?_)
 ·obtain ⟨r,ws,rfl,_⟩:=h;rfl
 ·obtain ⟨r,ws,rfl,hr,oI,mZ,q,qe⟩:=h
  have big:(20000:Nat)<=sizeLine:=by decide
  show Hc a K E _ [some (.ref r)] H
  unfold Hc
  have raise:¬ vm ws->[V.str "not out and one word or more"].length<=sizeLine/\∀ e,H e=none->E (.ref e) (some a.ag) H:=fun hn=>⟨by show 1<=sizeLine;decide,fun e he=>qe hn H e (aH.refl _) he⟩
  walk_at "gs"
  refine .inl ⟨_,.inl (.of hr),?_⟩
  rw [ZpC]
  by_cases g1:(ws.length:Int)<2
  ·rw [if_pos g1]
   refine raise fun ⟨ts,h1,_,e⟩=>?_
   rw [e,ZpG,ZpC] at g1
   omega
  rw [if_neg g1]
  obtain _ | ⟨w0,cw⟩:=ws
  ·simp at g1
  refine ⟨_,_,.inl (.of hr),jF (j:=0) rfl,?_⟩
  show if ¬ w0 = "out" then _ else _
  by_cases g2:w0 = "out"
  ·rw [if_neg (fun z=>z g2)]
   subst g2
   refine ⟨_,.of hr,fun sp H1 n1=>?_⟩
   have mq:fO ((("out" : Str) :: cw).map V.str) (some 1) none=cw.map V.str:=OV (xs:=[V.str "out"]) 1 rfl
   rw [mq] at n1
   have yA:cw.length<=10000:=by rw [ZpG] at mZ;omega
   have UZ:1<=cw.length:=by rw [ZpG] at g1;omega
   have parts:vm (("out" : Str) :: cw)->∀ w∈cw,lK w:=fun ⟨ts,_,ht,e⟩ w hw=>by
    rw [(List.cons.inj e).2] at hw
    obtain ⟨t,hm,rfl⟩:=ZpS.mp hw
    exact ⟨t,(ht t hm).1,(ht t hm).2,rfl⟩
   refine ⟨⟨_,n1.sq⟩,Cp (fun i u p H'=>∃ x:Int,0<=x/\x / 2<=999/\cw[i]? = some (bA x)/\u=.int x) (fun i u p H1 H2 h _=>h) n1.sq rfl (by rw [ZpC];omega) ?_ ?_⟩
   ·intro i v p H' Q' hv s' hp _ q'
    rw [ZpF] at hv
    obtain ⟨w,hw,rfl⟩:∃ w,cw[i]? = some w/\v=.str w:=by
     cases e:cw[i]? with
     | none=>rw [e] at hv;cases hv
     | some w=>rw [e] at hv;exact ⟨w,rfl,(Option.some.inj hv).symm⟩
    have zy:=ZpP hw
    walk_at "gs"
    refine ⟨w,rfl,oI w (by simp [zy]),fun x H'' x0 x1 e s''=>q' _ _ s'' ⟨x,x0,x1,by rw [hw,e],rfl⟩,fun hn' H'' e s'' he=>qe (fun z=>hn' (parts z w zy)) H'' e ((n1.same.trans s').trans s'') he⟩
   intro cp us H2 hcp h2 ig s2 hd
   rw [ZpC] at ig
   obtain ⟨xs,hxn,hxs⟩:=Ac (P:=fun i (x:Int)=>us[i]? = some (V.int x)/\0<=x/\x / 2<=999/\cw[i]? = some (bA x)) cw.length fun i hi=>by
    have hu:us[i]? = some us[i]:=ZpH (by omega)
    obtain ⟨x,x0,x1,e1,e2⟩:=hd i _ hu
    exact ⟨x,by rw [hu,e2],x0,x1,e1⟩
   have ph:us=xs.map V.int:=by
    refine Zql fun i=>?_
    rw [ZpF]
    by_cases hi:i<cw.length
    ·have hx:xs[i]? = some xs[i]:=ZpH (by omega)
     rw [hx,(hxs i _ hx).1];rfl
    ·rw [Zp0 (by omega),Zp0 (by omega)];rfl
   have DR:cw=xs.map bA:=by
    refine Zql fun i=>?_
    rw [ZpF]
    by_cases hi:i<cw.length
    ·have hx:xs[i]? = some xs[i]:=ZpH (by omega)
     rw [hx,(hxs i _ hx).2.2.2];rfl
    ·rw [Zp0 (by omega),Zp0 (by omega)];rfl
   have HS:∀ x∈xs,0<=x/\x / 2<=999:=fun x hx=>by
    obtain ⟨i,hi⟩:=Zqr.mp hx
    exact ⟨(hxs i x hi).2.1,(hxs i x hi).2.2.1⟩
   subst ph
   exact q xs cp H2 (by omega) HS (by rw [DR]) ⟨n1.same.nil hcp,h2,n1.same.trans s2⟩
  ·rw [if_pos g2]
   exact raise fun ⟨ts,_,_,e⟩=>g2 (List.cons.inj e).1
theorem yU:(" " : Str)=⟨#[32]⟩:=by decide +kernel
noncomputable def bC (w:Str):Prop:=32 ∉ w.cps.toList
structure gv (ws:List Str):Prop where
 ne:ws≠[]
 free:∀ w∈ws,bC w
 len:(jn ws).length<=10000
 short:Cw ws
 many:ws.length<=10000
noncomputable def bQ (m:Int) (ps:List Pc) (ties:List Int):List (List Str):=[("board" : Str),sN m] :: (ps.map br ++ [("out" : Str) :: ties.map bA])
structure Form (rows:List (List Str)) (m:Int) (ps:List Pc) (ties:List Int):Prop where
 eq:rows=bQ m ps ties
 m0:0<=m
 m1:m<=999
 iK:∀ p∈ps,kT p
 t1:1<=ties.length
 jE:∀ t∈ties,0<=t/\t / 2<=999
noncomputable def Ib (a:dy) (_:ZoW):Sp:=fun vs H Q E=>∃ (l:Addr) (rows:List (List Str)),vs=[.ref l]/\H l=some (.lst ((rows.map jn).map V.str))/\(∀ ws∈rows,gv ws)/\rows.length<=900 /\
 (∀ m ps ties,Form rows m ps ties->sV (.int m) (ps.map up) (ties.map V.int)->∀ (mn:Nat) x H',m=mn->aH H H'->lP a.aq H' x mn ps ties->Q (.ref x) H') /\
 (∀ m ps ties,Form rows m ps ties->¬ sV (.int m) (ps.map up) (ties.map V.int)->∀ H' e,aH H H'->H' e=none->E (.ref e) (some a.ae) H') /\
 ((¬ ∃ m ps ties,Form rows m ps ties)->∀ H' e,aH H H'->H' e=none->E (.ref e) (some a.ag) H')
noncomputable def Ds (a:dy) (K:ZoW) (E:XK):TS:=(aV (cM (bK (af (fQ fun i j=>.bl (decide (i<j))) (bw (gY K) (ah (aa 0) ar)) (tC (.int 2)))) (kj a.ag (ah (tC (.str "a board has two lines or more")) ar) E) eh)
  (aV (bG (eg (jg K (aa 0)) 1 [] (aK 0) fR (gS K "str" vZ (aa 0) (ah (tC (.str " ")) ar))) (aK 1))
  (aV (bG (bS (Kn a K) [] E (ah (af (bE K) (aa 1) (tC (.int 0))) ar)) (aK 2))
  (aV (bG (eg (jg K (jY (ka K) (aa 1) (iR (tC (.int 1))) (iR (j5 jQ (tC (.int 1)))))) 1 [] (aK 0) fR (bS (Mv a K) [] E (ah (aa 0) ar))) (aK 3))
  (cA (Hy a.aq (JF a K) [] E (ah (aa 2) (ah (aa 3) (ah (bS (Jd a K) [] E (ah (af (bE K) (aa 1) (j5 jQ (tC (.int 1)))) ar)) ar)))))))))
theorem NU (T:Txt K mg a):TX P w K mg base 5 "board_of" uy Cg a.eW (Ds a K) :=
 fun hr=>(aW (dD (cI oM (dX iE (by rfl) T.aL PySem.boot_len (ai (cv 0) au)) ak (cB _)) (aS (lN Zps T.xi_NoText (by decide) rfl T.bB rfl ie (ai aM au))) eU)
   (aW (GU (i:=1) (N:=["line"]) (k:=1) (sel:=[]) (aD.of (ba uy).names (by decide +kernel)) (aF.of Cg (by decide +kernel)) rfl (lq (cv 0)) (fun _ _ _ _=>(eu (i:=0) (show ZpU (["line"]:List Str) by decide +kernel) rfl (by walk_at "o"))) (fun _ _ _ _=>jz) (fun _ _ _ _=>(iD Zpr Zpy Zpz B8 (cv 0) (ai aM au))) CL.nd rfl (by walk_at "o") rfl)
   (aW (dv (i:=2) CL.nd rfl (by walk_at "o") (kM (QR T) (hm hr) rfl T.d8.m T.d8.n.kp T.d8.b .nil (ly ie) (ai (bN bM (cv 1) ak (fun _ _=>rfl)) au)))
   (aW (J8 (i:=3) (N:=["row"]) (k:=1) (sel:=[]) (aD.of (ba uy).names (by decide +kernel)) (aF.of Cg (by decide +kernel)) rfl ⟨rfl,rfl⟩ Gp (lq (kR kG (cv 1) (j6 ak) (j6 (kN lA ak)))) (fun _ _ _ _=>(eu (i:=0) (show ZpU (["row"]:List Str) by decide +kernel) rfl (by walk_at "o"))) (fun _ _ _ _=>jz) (fun _ _ _ _=>(kM (Uv T) (hm hr) rfl T.da.m T.da.n.kp T.da.b .nil (ly Dg) (ai (cv 0) au))) CL.nd rfl (by walk_at "o") rfl)
   (aS (cY (SJ T.mk_Board (Q0 T) (hm hr) rfl T.mU T.cP.b .nil (ly ie) (ai (cv 2) (ai (cv 3) (ai (kM (NS T) (hm hr) rfl T.dZ.m T.dZ.n.kp T.dZ.b .nil (ly ie) (ai (bN bM (cv 1) (kN lA ak) (fun _ _=>rfl)) au)) au))))))))))
theorem IT (T:Txt K mg a):aJ P w K mg base (eB P w) 6 a.eW a.gO ["lines"] (Ib a K):=by
 refine T.cz.n.iF CL (NU T) (fun vs H Q E h=>?_) (fun H vs Q E h=>?_)
 ·obtain ⟨l,rows,rfl,_⟩:=h;rfl
 ·obtain ⟨l,rows,rfl,hl,hro,hz,q,qb,qt⟩:=h
  show Ds a K E _ [some (.ref l),none,none,none] H
  unfold Ds
  have big:(20000:Nat)<=sizeLine:=by decide
  have lX:((rows.map jn).map V.str).length=rows.length:=by rw [ZpC,ZpC]
  walk_at "gs"
  refine .inl ⟨_,.inl (.of hl),?_⟩
  rw [lX]
  by_cases g0:(rows.length:Int)<2
  ·rw [if_pos g0]
   refine ⟨by show 1<=sizeLine;decide,fun e he=>qt (fun ⟨m,ps,ties,f⟩=>?_) H e (aH.refl _) he⟩
   have:=congrArg Zp7 f.eq
   unfold bQ at this
   simp only [ZpG,ZpI,ZpC,Zp3] at this
   omega
  rw [if_neg g0]
  refine ⟨⟨_,.of hl⟩,Cp (fun i u p H'=>∃ r ws,u=.ref r/\r≠p/\rows[i]? = some ws/\H' r=some (.lst (ws.map V.str))) ?_ (.of hl) rfl (by omega) ?_ ?_⟩
  ·rintro i u p H1 H2 ⟨r,ws,rfl,hn,hw,hr⟩ kp
   exact ⟨r,ws,rfl,hn,hw,kp _ _ hn hr⟩
  ·intro i v p H' Q' hv s' hp ⟨us,hus⟩ q'
   rw [ZpO,ZpF] at hv
   obtain ⟨ws,hw,rfl⟩:∃ ws,rows[i]? = some ws/\v=.str (jn ws):=by
    cases e:rows[i]? with
    | none=>rw [e] at hv;cases hv
    | some ws=>rw [e] at hv;exact ⟨ws,rfl,(Option.some.inj hv).symm⟩
   have ok:=hro ws (ZpP hw)
   have DF:=ok.len
   walk_at "gs"
   intro r H2 n2
   have e:Txt.split (jn ws) " " = ws:=by unfold jn;rw [yU];exact BK 32 ok.ne ok.free
   rw [e] at n2
   exact q' _ _ n2.same ⟨r,ws,rfl,(fun z=>by rw [<- z,n2.fX] at hus;cases hus),hw,n2.at_⟩
  intro rp us H1 hrp h1 ig s1 hd
  rw [lX] at ig
  obtain ⟨nn,hnn⟩:∃ nn,rows.length=nn+2:=⟨rows.length - 2,by omega⟩
  obtain ⟨ws0,midW,wsl,rfl,hmw⟩:=IU hnn
  obtain ⟨rs,hrn,hrs⟩:=Ac (P:=fun i r=>us[i]? = some (V.ref r)/\∃ ws,(ws0 :: (midW ++ [wsl]))[i]? = some ws/\H1 r=some (.lst (ws.map V.str))) (nn+2) fun i hi=>by
   have hu:us[i]? = some us[i]:=ZpH (by omega)
   obtain ⟨r,ws,e,_,hw,hr⟩:=hd i _ hu
   exact ⟨r,by rw [hu,e],ws,hw,hr⟩
  have ph:us=rs.map V.ref:=by
   refine Zql fun i=>?_
   rw [ZpF]
   by_cases hi:i<nn+2
   ·have hr:rs[i]? = some rs[i]:=ZpH (by omega)
    rw [hr,(hrs i _ hr).1];rfl
   ·rw [Zp0 (by omega),Zp0 (by omega)];rfl
  subst ph
  obtain ⟨r0,mid,rl,rfl,mT⟩:=IU hrn
  have c0:H1 r0=some (.lst (ws0.map V.str)):=by
   obtain ⟨_,ws,hw,hr⟩:=hrs 0 r0 rfl
   have e:ws0=ws:=Option.some.inj hw
   rw [hr,<- e]
  have cl:H1 rl=some (.lst (wsl.map V.str)):=by
   obtain ⟨_,ws,hw,hr⟩:=hrs (nn+1) rl (by rw [ZpV,ZpW (by omega),mT,Zq5];rfl)
   rw [ZpV,ZpW (by omega),hmw,Zq5] at hw
   have e:wsl=ws:=Option.some.inj hw
   rw [hr,<- e]
  have cm:∀ (j:Nat) r ws',mid[j]? = some r->midW[j]? = some ws'->H1 r=some (.lst (ws'.map V.str)):=by
   intro j r ws' hj hp
   have Fe:=(ZpL.mp hj).1
   obtain ⟨_,ws,hw,hr⟩:=hrs (j+1) r (by rw [ZpV,Zp5 Fe];exact hj)
   rw [ZpV,Zp5 (by omega),hp] at hw
   have e:ws'=ws:=Option.some.inj hw
   rw [hr,<- e]
  clear hrs hd
  have uB:=hro ws0 (by simp)
  have DF:=hro wsl (by simp)
  have Nz:∀ ws∈midW,gv ws:=fun ws hw=>hro ws (by simp [hw])
  have split:∀ {m ps ties},Form (ws0 :: (midW ++ [wsl])) m ps ties->ws0=[("board" : Str),sN m]/\midW=ps.map br/\wsl=("out" : Str) :: ties.map bA:=fun {m ps ties} f=>by
   have e:=f.eq
   unfold bQ at e
   obtain ⟨e1,e2⟩:=List.cons.inj e
   obtain ⟨e3,e4⟩:=ZqC e2 rfl
   exact ⟨e1,e3,(List.cons.inj e4).1⟩
  have Kg:(r0 :: (mid ++ [rl])).map V.ref=[V.ref r0] ++ mid.map V.ref ++ [V.ref rl]:=by
   rw [ZpD,ZpK];rfl
  have Px:((r0 :: (mid ++ [rl])).map V.ref).length=nn+2:=by rw [ig,hnn]
  refine ⟨_,_,.inl (.of h1),jF (j:=0) rfl,r0,ws0,rfl,c0,uB.short,fun m H2 m0 m1 e0 s2=>?_,fun hn H' e s' he=>qt (fun ⟨m,ps,ties,f⟩=>hn ⟨m,f.m0,f.m1,(split f).1⟩) H' e (s1.trans s') he⟩
  refine ⟨_,.of (s2 _ _ h1),fun sp H3 n3=>?_⟩
  have mq:fO ((r0 :: (mid ++ [rl])).map V.ref) (some 1) (some (-1))=mid.map V.ref:=by
   rw [Kg]
   exact Lr 1 1 rfl rfl (by decide)
  rw [mq] at n3
  have Hj:=s2.trans n3.same
  refine ⟨⟨_,n3.sq⟩,Cp (fun i u p H'=>∃ t c q,u=.ref t/\t≠p/\c≠p/\kT q/\midW[i]? = some (br q)/\H' t=some (.tup [.int q.1,.ref c,.int q.2.2])/\H' c=some (.lst (q.2.1.map V.int))) ?_ n3.sq rfl (by rw [ZpC];omega) ?_ ?_⟩
  ·rintro i u p H1 H2 ⟨t,c,q,rfl,hn,uc,hp,hw,hr,hr2⟩ kp
   exact ⟨t,c,q,rfl,hn,uc,hp,hw,kp _ _ hn hr,kp _ _ uc hr2⟩
  ·intro i v p H' Q' hv s' hp ⟨us,hus⟩ q'
   rw [ZpF] at hv
   obtain ⟨r,hr,rfl⟩:∃ r,mid[i]? = some r/\v=.ref r:=by
    cases e:mid[i]? with
    | none=>rw [e] at hv;cases hv
    | some r=>rw [e] at hv;exact ⟨r,rfl,(Option.some.inj hv).symm⟩
   have U1:=(ZpL.mp hr).1
   obtain ⟨ws,hwi⟩:∃ ws,midW[i]? = some ws:=⟨_,ZpH (by omega)⟩
   have ok:=Nz ws (ZpP hwi)
   walk_at "gs"
   refine ⟨r,ws,rfl,(Hj.trans s') _ _ (cm i r _ hr hwi),ok.short,ok.many,fun pp t c H'' okp ep s'' ht hc a1 a2=>q' _ _ s'' ⟨t,c,pp,rfl,fun z=>?_,fun z=>?_,okp,by rw [hwi,ep],a1,a2⟩,fun hn H'' e s'' he=>qt (fun ⟨m,ps,ties,f⟩=>hn ?_) H'' e (((s1.trans Hj).trans s').trans s'') he⟩
   ·subst z;rw [ht] at hus;cases hus
   ·subst z;rw [hc] at hus;cases hus
   ·have e:=(split f).2.1
    rw [e,ZpF] at hwi
    cases e2:ps[i]? with
    | none=>rw [e2] at hwi;cases hwi
    | some pp=>rw [e2] at hwi;exact ⟨pp,f.iK pp (ZpP e2),(Option.some.inj hwi).symm⟩
  intro pp us H4 hpp h4 hul4 s4 hd4
  rw [ZpC] at hul4
  obtain ⟨tq,DW,hts⟩:=Ac (P:=fun i (z:(Addr × Addr) × Pc)=>us[i]? = some (V.ref z.1.1)/\kT z.2/\midW[i]? = some (br z.2)/\H4 z.1.1=some (.tup [.int z.2.1,.ref z.1.2,.int z.2.2.2])/\H4 z.1.2=some (.lst (z.2.2.1.map V.int))) nn fun i hi=>by
   have hu:us[i]? = some us[i]:=ZpH (by omega)
   obtain ⟨t,c,q,e,_,_,okq,hw,hr,hr2⟩:=hd4 i _ hu
   exact ⟨((t,c),q),by rw [hu,e],okq,hw,hr,hr2⟩
  have ph:us=(tq.map (·.1)).map fun t=>V.ref t.1:=by
   rw [ZpO]
   refine Zql fun i=>?_
   rw [ZpF]
   by_cases hi:i<nn
   ·have hr:tq[i]? = some tq[i]:=ZpH (by omega)
    rw [hr,(hts i _ hr).1];rfl
   ·rw [Zp0 (by omega),Zp0 (by omega)];rfl
  have Bj:midW=(tq.map (·.2)).map br:=by
   rw [ZpO]
   refine Zql fun i=>?_
   rw [ZpF]
   by_cases hi:i<nn
   ·have hr:tq[i]? = some tq[i]:=ZpH (by omega)
    rw [hr,(hts i _ hr).2.2.1];rfl
   ·rw [Zp0 (by omega),Zp0 (by omega)];rfl
  have aB:∀ p∈tq.map (·.2),kT p:=fun p hp=>by
   obtain ⟨z,hz,rfl⟩:=ZpS.mp hp
   obtain ⟨i,hi⟩:=Zqr.mp hz
   exact (hts i z hi).2.1
  have hG:iA H4 pp (tq.map (·.1)) ((tq.map (·.2)).map up):=by
   refine ⟨by rw [<- ph];exact h4,by rw [ZpC,ZpC,ZpC],fun i t g ht hg=>?_⟩
   rw [ZpF] at ht
   rw [ZpO,ZpF] at hg
   cases e:tq[i]? with
   | none=>rw [e] at ht;cases ht
   | some z =>
    rw [e] at ht hg
    have e1:z.1=t:=Option.some.inj ht
    have e2:up z.2=g:=Option.some.inj hg
    subst e1 e2
    exact ⟨(hts i z e).2.2.2.1,(hts i z e).2.2.2.2⟩
  generalize hps:tq.map (·.2)=ps at aB hG Bj
  generalize htss:tq.map (·.1)=ts at hG ph
  have gx:ps.length=nn:=by rw [<- hps,ZpC,DW]
  have jW:=Hj.trans s4
  have ha:dC ((r0 :: (mid ++ [rl])).map V.ref) (-1)=some (.ref rl):=pG (j:=1) (by decide) (by omega) (by rw [Px,Kg,ZpW (by simp;omega)];simp [mT])
  refine ⟨_,_,.inl (.of (jW _ _ h1)),ha,rl,wsl,rfl,jW _ _ cl,DF.short,DF.many,fun ties tl H5 t1 ht et n5=>?_,fun hn H' e s' he=>qt (fun ⟨m',me,ties',f⟩=>hn ⟨ties',f.t1,f.jE,(split f).2.2⟩) H' e ((s1.trans jW).trans s') he⟩
  have F:Form (ws0 :: (midW ++ [wsl])) m ps ties:=⟨by unfold bQ;rw [e0,Bj,et],m0,m1,aB,t1,ht⟩
  intro x dx hx hdx ur
  have s5:=(s1.trans jW).trans n5.same
  have s0:aH H5 (upd (upd H5 dx (.own x)) x (.ins a.aq dx [])):=fun b o e=>by
   rw [bo (gc e hx),bo (gc e hdx)]
   exact e
  refine ⟨x,dx,pp,tl,.int m,ts,ps.map up,ties.map V.int,rfl,cq,(hG.same n5.same).same s0,fun g hg=>?_,s0 _ _ n5.at_,fun y hy=>?_,trivial,by rw [ZpC];omega,fun mn me ties' H' gb em egs eys st hB=>⟨rfl,?_⟩,fun R3 H' e st he=>qb m ps ties F R3 H' e (fun b o z=>st b o (s0 _ _ (s5 _ _ z))) he⟩
  ·obtain ⟨p,hp,rfl⟩:=ZpS.mp hg
   refine ⟨trivial,trivial,by show (p.2.1.map V.int).length<=100;rw [ZpC];have:=(aB p hp).l6;omega,fun y hy=>?_⟩
   obtain ⟨z,_,rfl⟩:=ZpS.mp hy
   trivial
  ·obtain ⟨z,_,rfl⟩:=ZpS.mp hy
   trivial
  ·have e1:ps=me:=(List.map_inj_right (fun x y h=>JI h)).mp egs
   have e2:ties=ties':=(List.map_inj_right (fun x y h=>V.int.inj h)).mp eys
   subst e1 e2
   have em':m=(mn:Int):=V.int.inj em
   exact q m ps ties F gb mn x H' em' (fun b o e=>st b o (gc (s5 _ _ e) hx) (s0 _ _ (s5 _ _ e))) hB
theorem fh (w v:Str) (r:List Str):(jn (w :: v :: r)).cps.toList=w.cps.toList ++ 32 :: (jn (v :: r)).cps.toList:=by
 show (w ++ " " ++ jn (v :: r)).cps.toList=_
 rw [bz,bz,yU]
 simp
theorem gW:∀ (a:List Str) {b:List Str},a≠[]->b≠[]->(jn (a ++ b)).cps.toList=(jn a).cps.toList ++ 32 :: (jn b).cps.toList
 | [],_,h,_=>absurd rfl h
 | [w],[],_,h=>absurd rfl h
 | [w],v :: r,_,_=>fh w v r
 | w :: v :: r,b,_,h=>by
  show (jn (w :: v :: (r ++ b))).cps.toList=_
  have ih:=gW (v :: r) (Zqs _ _) h
  rw [fh,fh,Zqa]
  exact congrArg (fun z=>w.cps.toList ++ 32 :: z) ih
theorem C3:∀ {ws:List Str},ws≠[]->(∀ w∈ws,bC w)->∀ {A B:List Nat},(jn ws).cps.toList=A ++ 32 :: B->∃ a b,ws=a ++ b/\a≠[]/\b≠[]/\(jn a).cps.toList=A/\(jn b).cps.toList=B
 | [],h,_,_,_,_=>absurd rfl h
 | [w],_,hf,A,B,e=>by
  have:32∈w.cps.toList:=by rw [show w.cps.toList=A ++ 32 :: B from e];simp
  exact absurd this (hf w (by simp))
 | w :: v :: r,_,hf,A,B,e=>by
  rw [fh] at e
  have hw:=hf w (by simp)
  rcases List.append_eq_append_iff.mp e with ⟨as,e1,e2⟩ | ⟨bs,e1,e2⟩
  ·cases as with
   | nil =>
    rw [Zp4] at e1
    exact ⟨[w],v :: r,rfl,by simp,by simp,e1.symm,(List.cons.inj e2).2⟩
   | cons c as =>
    obtain ⟨e3,e4⟩:=List.cons.inj (show 32 :: (jn (v :: r)).cps.toList=c :: (as ++ 32 :: B) from e2)
    obtain ⟨a,b,e5,na,nb,ja,jb⟩:=C3 (Zqs v r) (fun y hy=>hf y (ZpR _ hy)) e4
    refine ⟨w :: a,b,by rw [e5];rfl,by simp,nb,?_,jb⟩
    rw [show w :: a=[w] ++ a from rfl,gW [w] (by simp) na,ja,e1,<- e3]
    rfl
  ·cases bs with
   | nil =>
    rw [Zp4] at e1
    exact ⟨[w],v :: r,rfl,by simp,by simp,e1,(List.cons.inj e2).2.symm⟩
   | cons c bs =>
    have e3:=(List.cons.inj (show 32 :: B=c :: (bs ++ 32 :: (jn (v :: r)).cps.toList) from e2)).1
    refine absurd ?_ hw
    rw [e1,<- e3]
    simp
theorem BP:∀ l:List Nat,∃ ws:List Str,ws≠[]/\(∀ w∈ws,bC w)/\(jn ws).cps.toList=l
 | []=>⟨[⟨⟨[]⟩⟩],by simp,(fun w hw=>by rw [ZpQ] at hw;subst hw;intro z;cases z),rfl⟩
 | c :: l=>by
  obtain ⟨ws,h1,h2,h3⟩:=BP l
  obtain ⟨w,r,rfl⟩:=ZqG h1
  by_cases h:c=32
  ·subst h
   refine ⟨⟨⟨[]⟩⟩ :: w :: r,by simp,fun y hy=>?_,by rw [fh,h3];rfl⟩
   rcases ZpE.mp hy with rfl | hy
   ·intro z;cases z
   ·exact h2 y hy
  ·refine ⟨⟨⟨c :: w.cps.toList⟩⟩ :: r,by simp,fun y hy=>?_,?_⟩
   ·rcases ZpE.mp hy with rfl | hy
    ·intro z
     rcases ZpE.mp z with z | z
     ·exact h z.symm
     ·exact h2 w (by simp) z
    ·exact h2 y (ZpR _ hy)
   ·cases r with
    | nil=>rw [<- h3];rfl
    | cons v r=>rw [fh,<- h3,fh];rfl
theorem e9 (x:Str):x.length=x.cps.toList.length:=by rw [Zrp];rfl
theorem Hs:∀ {ws:List Str},ws≠[]->(jn ws).length+1=(ws.map fun w:Str=>w.length+1).sum
 | [],h=>absurd rfl h
 | [w],_=>by simp [jn,Str.join]
 | w :: v :: r,_=>by
  have ih:=Hs (Zqs v r)
  rw [ZpD,Zqe,<- ih,e9,fh,ZpI,ZpG,<- e9,<- e9]
  omega
theorem QF {l:List Str}{w:Str} (h:w∈l):w.length+1<=(l.map fun w:Str=>w.length+1).sum:=by
 induction l with
 | nil=>cases h
 | cons x r ih =>
  rw [ZpD,Zqe]
  rcases ZpE.mp h with rfl | h;skip
  ·omega
  ·have:=ih h;omega
theorem QI (l:List Str):l.length<=(l.map fun w:Str=>w.length+1).sum:=by
 induction l with
 | nil=>simp
 | cons x r ih=>rw [ZpD,Zqe,ZpG];omega
theorem m6 {ws:List Str} (ne:ws≠[]) (free:∀ w∈ws,bC w) (len:(jn ws).length<=9000):gv ws:=by
 have h:=Hs ne
 refine ⟨ne,free,by omega,fun w hw=>?_,?_⟩
 ·have:=QF hw;omega
 ·have:=QI ws;omega
theorem wy {ws:List Str}{L:Nat} (ne:ws≠[]) (h:∀ w∈ws,w.length<=L) (hn:ws.length<=20):(jn ws).length<=20 * (L+1):=by
 have key:∀ l:List Str,(∀ w∈l,w.length<=L)->(l.map fun w:Str=>w.length+1).sum<=l.length * (L+1):=by
  intro l
  induction l with
  | nil=>intro _;simp
  | cons x r ih =>
   intro hl
   have h1:=ih fun w hw=>hl w (ZpR _ hw)
   have h2:=hl x (by simp)
   rw [ZpD,Zqe,ZpG,Nat.succ_mul]
   omega
 have h1:=key ws h
 have h2:=Hs ne
 have h3:ws.length * (L+1)<=20 * (L+1):=Nat.mul_le_mul_right _ hn
 omega
theorem uw {ws:List Str}{w:Str}{c:Nat} (hw:w∈ws) (hc:c∈w.cps.toList):c∈(jn ws).cps.toList:=by
 induction ws with
 | nil=>cases hw
 | cons v r ih =>
  cases r with
  | nil=>rw [ZpQ] at hw;subst hw;exact hc
  | cons u r =>
   rw [fh]
   rcases ZpE.mp hw with rfl | hw
   ·exact Zqb _ hc
   ·exact ZpT _ (ZpR _ (ih hw))
theorem xA {ws:List Str}{c:Nat} (hc:c∈(jn ws).cps.toList):c=32\/∃ w∈ws,c∈w.cps.toList:=by
 induction ws with
 | nil=>cases hc
 | cons v r ih =>
  cases r with
  | nil=>exact .inr ⟨v,by simp,hc⟩
  | cons u r =>
   rw [fh] at hc
   rcases ZpM.mp hc with h | h
   ·exact .inr ⟨v,by simp,h⟩
   ·rcases ZpE.mp h with h | h
    ·exact .inl h
    ·rcases ih h with h | ⟨w,hw,h⟩
     ·exact .inl h
     ·exact .inr ⟨w,ZpR _ hw,h⟩
noncomputable def Kd (k:Nat) (ws:List Str):Prop:=(k=0/\B0 ws)\/(k=1/\ku ws)\/(k=2/\vm ws)
noncomputable def gD (k:Nat) (x:Str):Prop:=∃ ws,x=jn ws/\gv ws/\¬ Kd k ws
noncomputable def my (w:Str):Prop:=(1<=w.length/\w.length<=64/\∀ c∈w.cps.toList,c=45\/(48<=c/\c<=57))\/w = "board" \/ w = "of" \/ w = "is" \/ w = "out"
theorem jR {i:Int} (h0:0<=i) (h1:i<=999):my (sN i):=by
 obtain ⟨l,d,_,_⟩:=nG h0 h1
 exact .inl ⟨l.1,by omega,fun c hc=>.inr (d c hc)⟩
theorem Lf {t:Int} (h0:0<=t) (h1:t / 2<=999):my (bA t):=by
 obtain ⟨l,d,_,_⟩:=nG (i:=t / 2) (by omega) h1
 have Jc:("-" : Str).cps.toList=[45]:=by decide +kernel
 unfold bA
 by_cases h:t % 2=1
 ·rw [if_pos h]
  refine .inl ⟨by rw [e9,bz,ZpI,<- e9 (sN _)];omega,by rw [e9,bz,ZpI,<- e9 (sN _),Jc];simp;omega,fun c hc=>?_⟩
  rw [bz,Jc] at hc
  rcases ZpM.mp hc with z | z
  ·rw [ZpQ] at z;exact .inl z
  ·exact .inr (d c z)
 ·rw [if_neg h,nO]
  exact .inl ⟨l.1,by omega,fun c hc=>.inr (d c hc)⟩
theorem Dy {t:Int}{n c:Nat} (h:c∈(cO t n).cps.toList):c=48\/c=49:=by
 rw [vX] at h
 obtain ⟨k,_,rfl⟩:=ZpS.mp h
 have:=yf t k
 omega
theorem Ep {t:Int}{n:Nat} (h:n<=6):my (cO t n):=by
 have h2:2 ^ n<=2 ^ 6:=Zq4 (by decide) h
 refine .inl ⟨by rw [wG];exact Zrf,by rw [wG];exact h2,fun c hc=>?_⟩
 have:=Dy hc
 omega
theorem fN {k:Nat}{ws:List Str} (h:Kd k ws):∀ w∈ws,my w:=by
 rcases h with ⟨_,i,h0,h1,rfl⟩ | ⟨_,p,ok,rfl⟩ | ⟨_,ts,_,ht,rfl⟩
 ·intro w hw
  simp only [ZpE,ZpY,or_false] at hw
  rcases hw with rfl | rfl
  ·exact .inr (.inl rfl)
  ·exact jR h0 h1
 ·intro w hw
  unfold br at hw
  simp only [ZpE,ZpM,ZpY,or_false,ZpS] at hw
  rcases hw with rfl | rfl | ⟨x,hx,rfl⟩ | rfl | rfl
  ·exact jR ok.k0 ok.k1
  ·exact .inr (.inr (.inl rfl))
  ·exact jR (ok.cut x hx).1 (ok.cut x hx).2
  ·exact .inr (.inr (.inr (.inl rfl)))
  ·exact Ep ok.l6
 ·intro w hw
  rcases ZpE.mp hw with rfl | hw
  ·exact .inr (.inr (.inr (.inr rfl)))
  ·obtain ⟨t,h,rfl⟩:=ZpS.mp hw
   exact Lf (ht t h).1 (ht t h).2
theorem xX {k:Nat}{ws:List Str} (h:Kd k ws):2<=ws.length:=by
 rcases h with ⟨_,i,h0,h1,rfl⟩ | ⟨_,p,ok,rfl⟩ | ⟨_,ts,h,ht,rfl⟩
 ·exact ZqY 2
 ·rw [mh];omega
 ·rw [ZpG,ZpC];omega
noncomputable def Ga (c:Nat):Bool:=decide (c=45\/(48<=c/\c<=57)) || [98,111,97,114,100,102,105,115,117,116].contains c
theorem pf {w:Str} (h:my w):∀ c∈w.cps.toList,Ga c=true:=by
 rcases h with ⟨_,_,h⟩ | rfl | rfl | rfl | rfl
 ·intro c hc
  unfold Ga
  rw [decide_eq_true (h c hc)]
  rfl
 all_goals decide +kernel
theorem jo {w:Str} (h:my w):bC w:=fun z=>by
 have:=pf h 32 z
 revert this
 decide +kernel
theorem eL {w:Str} (h:my w):1<=w.length/\w.length<=64:=by
 rcases h with ⟨h1,h2,_⟩ | rfl | rfl | rfl | rfl
 ·exact ⟨h1,h2⟩
 all_goals decide +kernel
theorem DU:¬ my "":=fun h=>by
 have:=(eL h).1
 revert this
 decide +kernel
theorem sQ:¬ my "off":=fun h=>by
 rcases h with ⟨_,_,h⟩ | h | h | h | h
 ·have:=h 111 (by decide +kernel)
  omega
 all_goals revert h;decide +kernel
theorem CV {k:Nat}{ws:List Str}{w:Str} (free:∀ w∈ws,bC w) (len:(jn ws).length<=9000) (hw:w∈ws) (hn:¬ my w):gD k (jn ws) :=
 ⟨ws,rfl,m6 (List.ne_nil_of_mem hw) free len,fun z=>hn (fN z w hw)⟩
theorem NI {k:Nat}{x:Str}{c:Nat} (hc:c∈x.cps.toList) (hb:Ga c=false) (Sx:c≠32) (len:x.length<=9000):gD k x:=by
 obtain ⟨ws,ne,free,e⟩:=BP x.cps.toList
 have ex:x=jn ws:=(gf e).symm
 refine ⟨ws,ex,m6 ne free (by rw [<- ex];exact len),fun z=>?_⟩
 rw [<- e] at hc
 rcases xA hc with h | ⟨w,hw,h⟩
 ·exact Sx h
 ·have:=pf (fN z w hw) c h
  rw [hb] at this
  cases this
theorem lD {k:Nat}{ws:List Str} (h:Kd k ws) (ed:ws.length<=20):(jn ws).length<=1300 :=
 wy (by intro z;subst z;have:=xX h;simp at this) (fun w hw=>(eL (fN h w hw)).2) ed
theorem Ko (s y:Str) (hi n:Nat):∀ (l:List Nat) (free:Nat),(∀ i∈l,free<=i)->(∃ i∈l,i+y.length<=hi/\Builtin.Str.subAt s y i=true)->(forIn l ((#[]:Array Nat),free) (StrLaws.occBody s y hi (n+1))).run.fst ≠ #[]
 | [],_,_,⟨i,h,_⟩=>nomatch h
 | b :: l,free,hf,⟨i,h,hc⟩=>by
  rw [List.forIn_cons]
  unfold StrLaws.occBody
  by_cases g:b+y.length<=hi/\Builtin.Str.subAt s y b=true
  ·rw [if_pos ⟨⟨⟨Zrb _,hf b (by simp)⟩,g.1⟩,g.2⟩]
   exact StrLaws.occ_grows s y hi (n+1) l _ (by simp)
  ·rw [if_neg fun z=>g ⟨z.1.2,z.2⟩]
   refine Ko s y hi n l free (fun j hj=>hf j (ZpR _ hj)) ⟨i,?_,hc⟩
   rcases ZpE.mp h with rfl | h;skip
   ·exact absurd hc g
   ·exact h
theorem TC {x y:Str}{A B:List Nat} (e:x.cps.toList=A ++ (y.cps.toList ++ B)) (n:Nat):Builtin.Str.occurrences x y 0 x.length (n+1)≠[]:=by
 have hl:x.length=A.length+(y.length+B.length):=by rw [e9,e,ZpI,ZpI,<- e9]
 have:=Ko x y x.length n (List.range' 0 (x.length+1 - 0)) 0 (fun _ _=>Zq3 _) ⟨A.length,by simp [List.mem_range'];omega,by omega,?_⟩
 ·rw [StrLaws.occ_eq]
  intro z
  exact this (Array.toList_eq_nil_iff.mp z)
 ·rw [StrLaws.subAt_eq,e,ZqP,beq_iff_eq,e9,List.take_left]
theorem GS {x y:Str}{A B:List Nat} (e:x.cps.toList=A ++ (y.cps.toList ++ B)) (n:Nat):∃ p q r,Builtin.Str.partsBetween x (Builtin.Str.occurrences x y 0 x.length (n+1)) y.length=p :: q :: r/\Str.join y (p :: q :: r)=x/\r.length<=n/\(Builtin.Str.occurrences x y 0 x.length (n+1)).isEmpty=false:=by
 have h1:=TC e n
 have h2:=StrLaws.occ_length_le x y 0 x.length (n+1)
 have h3:=StrLaws.glued_between_self x y (n+1)
 have h4:=length_partsBetween x (Builtin.Str.occurrences x y 0 x.length (n+1)) y.length
 have h5:0<(Builtin.Str.occurrences x y 0 x.length (n+1)).length:=List.length_pos_iff.mpr h1
 rw [StrLaws.glued_eq_join] at h3
 have h6:(Builtin.Str.occurrences x y 0 x.length (n+1)).isEmpty=false:=by rw [List.isEmpty_eq_false_iff];exact h1
 generalize Builtin.Str.partsBetween x (Builtin.Str.occurrences x y 0 x.length (n+1)) y.length=ps at h3 h4 ⊢
 match ps,h3,h4 with
 | p :: q :: r,h3,h4=>exact ⟨p,q,r,rfl,h3,by rw [ZpG,ZpG] at h4;omega,h6⟩
 | [p],_,h4=>rw [ZqM] at h4;omega
 | [],_,h4=>rw [Zp3] at h4;omega
theorem nB:(" " : Str).cps.toList=[32]:=by decide +kernel
theorem oz {k:Nat}{ws:List Str} (h:Kd k ws):ws≠[]:=fun z=>by have:=xX h;rw [z] at this;simp at this
theorem GG {k:Nat}{ws:List Str} (h:Kd k ws) (ed:ws.length<=20):gD k (uR (jn ws) " " "  "):=by
 have hl:=lD h ed
 have hf:∀ w∈ws,bC w:=fun w hw=>jo (fN h w hw)
 have h2:=xX h
 obtain ⟨w,v,r,ew⟩:∃ w v r,ws=w :: v :: r:=by
  match ws,h2 with
  | w :: v :: r,_=>exact ⟨w,v,r,rfl⟩
 have e:(jn ws).cps.toList=w.cps.toList ++ ((" " : Str).cps.toList ++ (jn (v :: r)).cps.toList):=by rw [ew,fh,nB];rfl
 obtain ⟨p,q,r',e1,e2,hr,e3⟩:=GS e 0
 have er:r'=[]:=List.length_eq_zero_iff.mp (by omega)
 subst er
 have e4:(jn ws).cps.toList=p.cps.toList ++ 32 :: q.cps.toList:=by
  rw [<- e2]
  show (p ++ " " ++ q).cps.toList=_
  rw [bz,bz,nB]
  simp
 obtain ⟨a,b,ea,na,nb,ja,jb⟩:=C3 (oz h) hf e4
 have LH:("  " : Str).cps.toList=[32,32]:=by decide +kernel
 have er:uR (jn ws) " " "  " = jn (a ++ ("" : Str) :: b):=by
  unfold uR
  rw [e3,if_neg (by decide),e1,StrLaws.glued_eq_join]
  refine gf ?_
  rw [gW a na (Zqs _ _),ja]
  show (p ++ "  " ++ q).cps.toList=_
  rw [bz,bz,LH]
  obtain ⟨v,r,rfl⟩:=ZqG nb
  rw [fh,jb]
  simp
  rfl
 have el:(jn (a ++ ("" : Str) :: b)).length=(jn ws).length+1:=by
  rw [e9,e9,e4,<- er]
  unfold uR
  rw [e3,if_neg (by decide),e1,StrLaws.glued_eq_join]
  show (p ++ "  " ++ q).cps.toList.length=_
  rw [bz,bz,LH]
  simp
  omega
 rw [er]
 refine CV (w:="") (fun y hy=>?_) (by omega) (by simp) DU
 rcases ZpM.mp hy with z | z
 ·exact hf y (by rw [ea];exact Zqb _ z)
 ·rcases ZpE.mp z with rfl | z
  ·intro z;revert z;decide +kernel
  ·exact hf y (by rw [ea];exact ZpT _ z)
theorem Kh:bC "":=by unfold bC;decide +kernel
theorem xV {k:Nat}{ws:List Str} (h:Kd k ws) (ed:ws.length<=20):gD k (" " ++ jn ws):=by
 have hl:=lD h ed
 obtain ⟨v,r,e⟩:=ZqG (oz h)
 have ej : " " ++ jn ws=jn (("" : Str) :: ws):=by
  refine gf ?_
  rw [e,fh,bz,nB]
  rfl
 rw [ej]
 refine CV (w:="") (fun y hy=>?_) (by rw [<- ej,e9,bz,ZpI,<- e9 (jn ws),nB];simp;omega) (by simp) DU
 rcases ZpE.mp hy with rfl | z
 ·exact Kh
 ·exact jo (fN h y z)
theorem zS {k:Nat}{ws:List Str} (h:Kd k ws) (ed:ws.length<=20):gD k (jn ws ++ " "):=by
 have hl:=lD h ed
 have ej:jn ws ++ " " = jn (ws ++ [("" : Str)]):=by
  refine gf ?_
  rw [gW ws (oz h) (by simp),bz,nB]
  rfl
 rw [ej]
 refine CV (w:="") (fun y hy=>?_) (by rw [<- ej,e9,bz,ZpI,<- e9 (jn ws),nB];simp;omega) (by simp) DU
 rcases ZpM.mp hy with z | z
 ·exact jo (fN h y z)
 ·rw [ZpQ] at z;subst z;exact Kh
theorem FO {k:Nat}{ws:List Str}{w:Str} (h:Kd k ws) (hw:w∈ws):gD k w:=by
 have ok:=fN h w hw
 refine ⟨[w],rfl,m6 (by simp) (fun y hy=>?_) (by have:=(eL ok).2;show w.length<=9000;omega),fun z=>?_⟩
 ·rw [ZpQ] at hy;subst hy;exact jo ok
 ·have:=xX z;simp at this
theorem MA {x y z:Str} (hy:0<y.length) {p q:Str}{r:List Str} (e1:Builtin.Str.partsBetween x (Builtin.Str.occurrences x y 0 x.length (x.length+1)) y.length=p :: q :: r) (he:(Builtin.Str.occurrences x y 0 x.length (x.length+1)).isEmpty=false):Txt.replace x y z=Str.join z (p :: q :: r):=by
 unfold Txt.replace
 rw [he,show (y.length == 0)=false from beq_false_of_ne (by omega),if_neg (by simp),e1,StrLaws.glued_eq_join]
theorem Jm {x y z:Str}{L:Nat} (hz:z.length<=L):(Txt.replace x y z).length<=x.length+(x.length+1) * L:=by
 unfold Txt.replace
 split
 ·omega
 ·have h1:=StrLaws.occ_length_le x y 0 x.length (x.length+1)
  have hy:=congrArg Str.length (StrLaws.glued_between_self x y (x.length+1))
  rw [size_glued,length_partsBetween,Zrc] at hy
  rw [size_glued,length_partsBetween,Zrc]
  have h2:=Zre h1 hz
  omega
theorem Jn {p:Pc} (ok:kT p):∃ A B C,(jn (br p)).cps.toList=A ++ ((" of " : Str).cps.toList ++ B)/\(jn (br p)).cps.toList=C ++ ((" is " : Str).cps.toList ++ (cO p.2.2 p.2.1.length).cps.toList):=by
 have co:(" of " : Str).cps.toList=32 :: (("of" : Str).cps.toList ++ [32]):=by decide +kernel
 have ci:(" is " : Str).cps.toList=32 :: (("is" : Str).cps.toList ++ [32]):=by decide +kernel
 have e1:br p=[sN p.1] ++ ([("of" : Str)] ++ (p.2.1.map sN ++ [("is" : Str),cO p.2.2 p.2.1.length])):=rfl
 have e2:br p=(sN p.1 :: ("of" : Str) :: p.2.1.map sN) ++ ([("is" : Str)] ++ [cO p.2.2 p.2.1.length]):=by unfold br;simp
 refine ⟨(jn [sN p.1]).cps.toList,(jn (p.2.1.map sN ++ [("is" : Str),cO p.2.2 p.2.1.length])).cps.toList,(jn (sN p.1 :: ("of" : Str) :: p.2.1.map sN)).cps.toList,?_,?_⟩
 ·rw [e1,gW _ (by simp) (by simp),gW _ (by simp) (by simp),co]
  simp
  rfl
 ·rw [e2,gW _ (by simp) (by simp),gW _ (by simp) (by simp),ci]
  simp
  rfl
theorem zN {ws:List Str} (h:ku ws) (ed:ws.length<=20):gD 1 (Txt.replace (jn ws) " of " " off "):=by
 have hk:Kd 1 ws:=.inr (.inl ⟨rfl,h⟩)
 have hl:=lD hk ed
 have hf:∀ w∈ws,bC w:=fun w hw=>jo (fN hk w hw)
 obtain ⟨A,B,e⟩:∃ A B,(jn ws).cps.toList=A ++ ((" of " : Str).cps.toList ++ B):=by
  obtain ⟨p,ok,rfl⟩:=h
  obtain ⟨A,B,C,e,_⟩:=Jn ok
  exact ⟨A,B,e⟩
 obtain ⟨p,q,r,e1,e2,hr,e3⟩:=GS e (jn ws).length
 have er:=MA (z:=" off ") (by decide) e1 e3
 have hlen:=Jm (x:=jn ws) (y:=" of ") (z:=" off ") (L:=5) (by decide)
 rw [er] at hlen ⊢
 have co:(" of " : Str).cps.toList=32 :: (("of" : Str).cps.toList ++ [32]):=by decide +kernel
 have cf:(" off " : Str).cps.toList=32 :: (("off" : Str).cps.toList ++ [32]):=by decide +kernel
 have e4:(jn ws).cps.toList=p.cps.toList ++ 32 :: (("of" : Str).cps.toList ++ 32 :: (Str.join " of " (q :: r)).cps.toList):=by
  rw [<- e2]
  show (p ++ " of " ++ Str.join " of " (q :: r)).cps.toList=_
  rw [bz,bz,co]
  simp
 obtain ⟨a,b,ea,na,nb,ja,jb⟩:=C3 (oz hk) hf e4
 obtain ⟨c,nc,fc,jc⟩:=BP (Str.join " off " (q :: r)).cps.toList
 have ej:Str.join " off " (p :: q :: r)=jn (a ++ ([("off" : Str)] ++ c)):=by
  refine gf ?_
  rw [gW a na (by simp),gW _ (by simp) nc,ja,jc]
  show (p ++ " off " ++ Str.join " off " (q :: r)).cps.toList=_
  rw [bz,bz,cf]
  simp
  rfl
 rw [ej] at hlen ⊢
 refine CV (w:="off") (fun y hy=>?_) (by omega) (by simp) sQ
 rcases ZpM.mp hy with z | z
 ·exact hf y (by rw [ea];exact Zqb _ z)
 ·rcases ZpM.mp z with z | z
  ·rw [ZpQ] at z;subst z;unfold bC;decide +kernel
  ·exact fc y z
noncomputable def cnt (x:Str):Nat:=x.cps.toList.count 115
theorem M6 (x y:Str):cnt (x ++ y)=cnt x+cnt y:=by unfold cnt;rw [bz,List.count_append]
theorem BJ (z:Str):∀ {ps:List Str},ps≠[]->cnt (Str.join z ps)+cnt z=(ps.map fun p=>cnt p+cnt z).sum
 | [],h=>absurd rfl h
 | [p],_=>by simp [Str.join]
 | p :: q :: r,_=>by
  have ih:=BJ z (Zqs q r)
  rw [ZpD,Zqe,<- ih,show Str.join z (p :: q :: r)=p ++ z ++ Str.join z (q :: r) from rfl,M6,M6]
  omega
theorem Ge (k:Nat):∀ ps:List Str,(ps.map fun p=>cnt p+k).sum=(ps.map cnt).sum+ps.length * k
 | []=>by simp
 | p :: r=>by rw [ZpD,Zqe,Ge k r,ZpD,Zqe,ZpG,Nat.succ_mul];omega
theorem yt {x:Str} (h:∀ c∈x.cps.toList,c≠115):cnt x=0:=List.count_eq_zero.mpr fun z=>h _ z rfl
theorem LN {i:Int} (h0:0<=i) (h1:i<=999):cnt (sN i)=0:=yt fun c hc=>by have:=(nG h0 h1).2.1 c hc;omega
theorem Ky {p:Pc} (ok:kT p):cnt (jn (br p))=1:=by
 have h:=BJ " " (show br p≠[] by unfold br;simp)
 rw [Ge] at h
 have c0:cnt " " = 0:=by decide +kernel
 have c1:cnt "of" = 0:=by decide +kernel
 have c2:cnt "is" = 1:=by decide +kernel
 have c3:((p.2.1.map sN).map cnt).sum=0:=by
  rw [List.sum_eq_zero_iff_forall_eq_nat]
  intro x hx
  obtain ⟨y,hy,rfl⟩:=ZpS.mp hx
  obtain ⟨z,hz,rfl⟩:=ZpS.mp hy
  exact LN (ok.cut z hz).1 (ok.cut z hz).2
 have c4:cnt (cO p.2.2 p.2.1.length)=0:=yt fun c hc=>by have:=Dy hc;omega
 have e:((br p).map cnt).sum=1:=by
  unfold br
  rw [ZpD,ZpD,ZpK,Zqe,Zqe,List.sum_append,c3,LN ok.k0 ok.k1,c1]
  show 0+(0+(0+(cnt "is" + (cnt _+0))))=1
  rw [c2,c4]
 rw [e,c0] at h
 exact h
theorem A9 {ws:List Str} (h:ku ws) (ed:ws.length<=20):gD 1 (Txt.replace (jn ws) " is " " of "):=by
 have hk:Kd 1 ws:=.inr (.inl ⟨rfl,h⟩)
 have hl:=lD hk ed
 obtain ⟨pc,ok,rfl⟩:=h
 obtain ⟨A,B,C,_,e⟩:=Jn ok
 obtain ⟨p,q,r,e1,e2,hr,e3⟩:=GS e (jn (br pc)).length
 have er:=MA (z:=" of ") (by decide) e1 e3
 have hlen:=Jm (x:=jn (br pc)) (y:=" is ") (z:=" of ") (L:=4) (by decide)
 rw [er] at hlen ⊢
 have k1:=BJ " is " (Zqs p (q :: r))
 have k2:=BJ " of " (Zqs p (q :: r))
 rw [Ge] at k1 k2
 rw [e2,Ky ok,show cnt " is " = 1 by decide +kernel,ZpG,ZpG] at k1
 rw [show cnt " of " = 0 by decide +kernel] at k2
 have k0:cnt (Str.join " of " (p :: q :: r))=0:=by omega
 obtain ⟨c,nc,fc,jc⟩:=BP (Str.join " of " (p :: q :: r)).cps.toList
 have ej:Str.join " of " (p :: q :: r)=jn c:=(gf jc).symm
 rw [ej] at hlen k0 ⊢
 refine ⟨c,rfl,m6 nc fc (by omega),fun z=>?_⟩
 rcases z with ⟨z,_⟩ | ⟨_,p2,iS,rfl⟩ | ⟨z,_⟩
 ·cases z
 ·have:=Ky iS
  omega
 ·cases z
theorem yS {k j:Nat}{ws bD:List Str}{w:Str} (h:Kd k ws) (ed:bD.length<=19) (hw:w∈ws) (hr:∀ y∈bD,y∈ws):gD j (jn ((Txt.upper w ++ "q") :: bD)):=by
 have ER:(113:Nat)∈("q" : Str).cps.toList:=by decide +kernel
 have hu:=len_upper w
 have mZ:=(eL (fN h w hw)).2
 have hq:("q" : Str).length=1:=by decide +kernel
 have hx:(Txt.upper w ++ "q").length<=200:=by
  rw [e9,bz,ZpI,<- e9,<- e9];omega
 refine NI (c:=113) (uw (ZpZ ..) (by rw [bz];exact ZpT _ ER)) (by decide +kernel) (by decide) ?_
 refine Zq0 (wy (L:=200) (by simp) (fun y hy=>?_) (by rw [ZpG];omega)) (by decide)
 rcases ZpE.mp hy with rfl | hy
 ·exact hx
 ·have:=(eL (fN h y (hr y hy))).2
  omega
noncomputable def mP (l:List Nat):Prop:=(1<=l.length/\l.length<=3)/\(∀ c∈l,48<=c/\c<=57)/\(l[0]? ≠ some 48\/l=[48])
theorem zI {i:Int} (h0:0<=i) (h1:i<=999):mP (sN i).cps.toList:=by
 obtain ⟨l,d,z,_⟩:=nG h0 h1
 refine ⟨by rw [<- e9];exact l,d,z.imp id fun e=>by rw [e];decide +kernel⟩
theorem BX {x:Str} (h:lK x):mP x.cps.toList\/∃ r,x.cps.toList=45 :: r/\mP r:=by
 obtain ⟨t,h0,h1,rfl⟩:=h
 have hn:=zI (i:=t / 2) (by omega) h1
 unfold bA
 by_cases g:t % 2=1
 ·rw [if_pos g]
  exact .inr ⟨_,by rw [bz,show ("-" : Str).cps.toList=[45] by decide +kernel];rfl,hn⟩
 ·rw [if_neg g,nO]
  exact .inl hn
noncomputable def o2 (b:Str):Prop:=¬ lK b/\bC b/\b.length<=70
theorem sy {x:Str}{c:Nat} (hc:c∈x.cps.toList) (h:c≠45/\¬ (48<=c/\c<=57)):¬ lK x:=fun z=>by
 rcases BX z with n | ⟨r,e,n⟩
 ·exact h.2 (n.2.1 c hc)
 ·rw [e] at hc
  rcases ZpE.mp hc with y | y
  ·exact h.1 y
  ·exact h.2 (n.2.1 c y)
theorem BQ {w:Str} (h:lK w):my w:=by
 obtain ⟨t,h0,h1,rfl⟩:=h
 exact Lf h0 h1
theorem bH (x y:Str):(x ++ y).length=x.length+y.length:=by rw [e9,bz,ZpI,<- e9,<- e9]
theorem sm {x y:Str} (h1:bC x) (h2:bC y):bC (x ++ y):=fun z=>by
 rw [bz] at z
 rcases ZpM.mp z with z | z
 ·exact h1 z
 ·exact h2 z
noncomputable def rT (w:Str):List Str:=["0" ++ w,"+" ++ w,w ++ "x","--" ++ w,"1234","",w ++ ".","x","-05","-1234","-"]
theorem qi {w:Str} (h:lK w):∀ b∈rT w,o2 b:=by
 have hw:=BQ h
 have hf:=jo hw
 have hl:=eL hw
 have Gs:∀ y:Str,bC y->y.length<=2->bC (y ++ w)/\(y ++ w).length<=70:=fun y h1 h2=>⟨sm h1 hf,by rw [bH];omega⟩
 have MH:∀ y:Str,bC y->y.length<=2->bC (w ++ y)/\(w ++ y).length<=70:=fun y h1 h2=>⟨sm hf h1,by rw [bH];omega⟩
 have con:∀ y:Str,¬ (mP y.cps.toList\/∃ r,y.cps.toList=45 :: r/\mP r)->bC y->y.length<=70->o2 y:=fun y h1 h2 h3=>⟨fun z=>h1 (BX z),h2,h3⟩
 intro b hb
 unfold rT at hb
 simp only [ZpE,ZpY,or_false] at hb
 rcases hb with rfl | rfl | rfl | rfl | rfl | rfl | rfl | rfl | rfl | rfl | rfl
 ·refine ⟨fun z=>?_,Gs "0" (by unfold bC;decide +kernel) (by decide +kernel)⟩
  have e:("0" ++ w:Str).cps.toList=48 :: w.cps.toList:=by rw [bz];rfl
  rcases BX z with n | ⟨r,e2,n⟩
  ·rw [e] at n
   rcases n.2.2 with y | y
   ·exact y rfl
   ·have:=congrArg Zp7 y
    rw [ZpG,<- e9] at this
    simp at this
    omega
  ·rw [e] at e2
   exact absurd (List.cons.inj e2).1 (by decide)
 ·exact ⟨sy (c:=43) (by rw [bz];exact Zqb _ (by decide +kernel)) (by decide),Gs "+" (by unfold bC;decide +kernel) (by decide +kernel)⟩
 ·exact ⟨sy (c:=120) (by rw [bz];exact ZpT _ (by decide +kernel)) (by decide),MH "x" (by unfold bC;decide +kernel) (by decide +kernel)⟩
 ·refine ⟨fun z=>?_,Gs "--" (by unfold bC;decide +kernel) (by decide +kernel)⟩
  have e:("--" ++ w:Str).cps.toList=45 :: 45 :: w.cps.toList:=by rw [bz];rfl
  rcases BX z with n | ⟨r,e2,n⟩
  ·rw [e] at n
   have:=n.2.1 45 (by simp)
   omega
  ·rw [e] at e2
   have:=n.2.1 45 (by rw [<- (List.cons.inj e2).2];simp)
   omega
 ·refine con _ ?_ (by unfold bC;decide +kernel) (by decide +kernel)
  rw [show ("1234" : Str).cps.toList=[49,50,51,52] by decide +kernel]
  rintro (n | ⟨r,e,n⟩)
  ·exact absurd n.1.2 (by decide)
  ·exact absurd (List.cons.inj e).1 (by decide)
 ·refine con _ ?_ (by unfold bC;decide +kernel) (by decide +kernel)
  rw [show ("" : Str).cps.toList=[] by decide +kernel]
  rintro (n | ⟨r,e,n⟩)
  ·exact absurd n.1.1 (by decide)
  ·cases e
 ·exact ⟨sy (c:=46) (by rw [bz];exact ZpT _ (by decide +kernel)) (by decide),MH "." (by unfold bC;decide +kernel) (by decide +kernel)⟩
 ·exact ⟨sy (c:=120) (by decide +kernel) (by decide),by unfold bC;decide +kernel,by decide +kernel⟩
 ·refine con _ ?_ (by unfold bC;decide +kernel) (by decide +kernel)
  rw [show ("-05" : Str).cps.toList=[45,48,53] by decide +kernel]
  rintro (n | ⟨r,e,n⟩)
  ·have:=n.2.1 45 (by simp);omega
  ·rw [<- (List.cons.inj e).2] at n
   rcases n.2.2 with y | y
   ·exact y rfl
   ·cases y
 ·refine con _ ?_ (by unfold bC;decide +kernel) (by decide +kernel)
  rw [show ("-1234" : Str).cps.toList=[45,49,50,51,52] by decide +kernel]
  rintro (n | ⟨r,e,n⟩)
  ·exact absurd n.1.2 (by decide)
  ·rw [<- (List.cons.inj e).2] at n
   exact absurd n.1.2 (by decide)
 ·refine con _ ?_ (by unfold bC;decide +kernel) (by decide +kernel)
  rw [show ("-" : Str).cps.toList=[45] by decide +kernel]
  rintro (n | ⟨r,e,n⟩)
  ·have:=n.2.1 45 (by simp);omega
  ·rw [<- (List.cons.inj e).2] at n
   exact absurd n.1.1 (by decide)
theorem uV {w:Str} (h:lL w):lK w:=by
 obtain ⟨i,h0,h1,rfl⟩:=h
 refine ⟨2 * i,by omega,by omega,?_⟩
 unfold bA
 rw [if_neg (by omega),nO,show 2 * i / 2=i by omega]
theorem xD {b:Str} (hb:o2 b):gD 0 ("board " ++ b):=by
 have e:("board " : Str) ++ b=jn [("board" : Str),b]:=by
  refine gf ?_
  rw [fh,bz,show ("board " : Str).cps.toList=("board" : Str).cps.toList ++ [32] by decide +kernel,Zqa]
  rfl
 refine ⟨_,e,m6 (by simp) (fun y hy=>?_) (by rw [<- e,bH,show Str.length "board " = 6 by decide +kernel];have:=hb.2.2;omega),fun z=>?_⟩
 ·simp only [ZpE,ZpY,or_false] at hy
  rcases hy with rfl | rfl
  ·unfold bC;decide +kernel
  ·exact hb.2.1
 ·rcases z with ⟨_,i,h0,h1,e⟩ | ⟨z,_⟩ | ⟨z,_⟩
  ·exact hb.1 (uV ⟨i,h0,h1,(List.cons.inj (List.cons.inj e).2).1⟩)
  ·cases z
  ·cases z
theorem BF {ws:List Str} (h:B0 ws):gD 0 (jn ws ++ " 3"):=by
 have hk:Kd 0 ws:=.inl ⟨rfl,h⟩
 have h2:ws.length=2:=by obtain ⟨i,_,_,rfl⟩:=h;rfl
 have hl:=lD hk (by omega)
 have e:jn ws ++ " 3" = jn (ws ++ [("3" : Str)]):=by
  refine gf ?_
  rw [gW ws (oz hk) (by simp),bz]
  rfl
 refine ⟨_,e,m6 (by simp) (fun y hy=>?_) (by rw [<- e,bH,show Str.length " 3" = 2 by decide +kernel];omega),fun z=>?_⟩
 ·rcases ZpM.mp hy with z | z
  ·exact jo (fN hk y z)
  ·rw [ZpQ] at z;subst z;unfold bC;decide +kernel
 ·rcases z with ⟨_,i,h0,h1,e⟩ | ⟨z,_⟩ | ⟨z,_⟩
  ·have:=congrArg Zp7 e
   rw [ZpI,h2] at this
   simp at this
  ·cases z
  ·cases z
theorem Na {ws:List Str}{b:Str}{j:Nat} (hj:j<ws.length):ws.take j ++ b :: ws.drop (j+1)=ws.set j b:=by
 rw [List.set_eq_take_append_cons_drop,if_pos hj]
theorem Ks {k j:Nat}{ws:List Str}{b:Str} (h:Kd k ws) (ed:ws.length<=20) (hj:j<ws.length) (hb:o2 b):gv (ws.set j b):=by
 refine m6 (fun z=>?_) (fun y hy=>?_) (Zq0 (wy (L:=70) (fun z=>?_) (fun y hy=>?_) (by rw [Zqf];exact ed)) (by decide))
 ·have:=congrArg Zp7 z;rw [Zqf,Zp3] at this;omega
 ·rcases ZqH hy with z | rfl
  ·exact jo (fN h y z)
  ·exact hb.2.1
 ·have:=congrArg Zp7 z;rw [Zqf,Zp3] at this;omega
 ·rcases ZqH hy with z | rfl
  ·have:=(eL (fN h y z)).2;omega
  ·exact hb.2.2
theorem FZ {ws:List Str}{b:Str}{j:Nat} (h:vm ws) (ed:ws.length<=20) (j1:1<=j) (hj:j<ws.length) (hb:o2 b):gD 2 (jn (ws.take j ++ b :: ws.drop (j+1))):=by
 have hk:Kd 2 ws:=.inr (.inr ⟨rfl,h⟩)
 rw [Na hj]
 refine ⟨_,rfl,Ks hk ed hj hb,fun z=>?_⟩
 rcases z with ⟨z,_⟩ | ⟨z,_⟩ | ⟨_,ts,_,ht,e⟩
 ·cases z
 ·cases z
 ·have e1:=congrArg (fun l:List Str=>l[j]?) e
  simp only [Zqn hj] at e1
  obtain ⟨i,rfl⟩:∃ i,j=i+1:=⟨j - 1,by omega⟩
  rw [ZpV,ZpF] at e1
  cases e2:ts[i]? with
  | none=>rw [e2] at e1;cases e1
  | some t =>
   rw [e2] at e1
   have e3:b=bA t:=Option.some.inj e1
   have:=ht t (ZpP e2)
   exact hb.1 ⟨t,this.1,this.2,e3⟩
theorem JD {x:Str}{n:Nat} (h:x.length≠2 ^ n\/∃ c∈x.cps.toList,c≠48/\c≠49):¬ vh x n:=fun ⟨t,_,_,e⟩=>by
 rcases h with h | ⟨c,hc,h⟩
 ·exact h (by rw [e,wG])
 ·rw [e] at hc
  have:=Dy hc
  omega
theorem xg {ws:List Str} (h:ku ws):∃ w0 cw tw,ws=w0 :: ("of" : Str) :: (cw ++ [("is" : Str),tw])/\1<=cw.length/\cw.length<=6/\lL w0/\(∀ w∈cw,lL w)/\vh tw cw.length:=by
 obtain ⟨p,ok,rfl⟩:=h
 refine ⟨sN p.1,p.2.1.map sN,cO p.2.2 p.2.1.length,rfl,by rw [ZpC];exact ok.l1,by rw [ZpC];exact ok.l6,⟨p.1,ok.k0,ok.k1,rfl⟩,fun w hw=>?_,?_⟩
 ·obtain ⟨x,hx,rfl⟩:=ZpS.mp hw
  exact ⟨x,(ok.cut x hx).1,(ok.cut x hx).2,rfl⟩
 ·rw [ZpC]
  exact ⟨p.2.2,ok.t0,ok.t1,rfl⟩
theorem Mt {w:Str} (h:lL w):bC w:=jo (BQ (uV h))
theorem JC {w:Str} (h:lL w):w.length<=64:=(eL (BQ (uV h))).2
theorem zt {w0 tw:Str}{cw:List Str} (h1:1<=cw.length) (h6:cw.length<=6) (n0:lL w0) (nc:∀ w∈cw,lL w) (ft:bC tw) (lt:tw.length<=70) (hn:tw.length≠2 ^ cw.length\/∃ c∈tw.cps.toList,c≠48/\c≠49):gD 1 (jn (w0 :: ("of" : Str) :: (cw ++ [("is" : Str),tw]))):=by
 have co:bC "of" /\ Str.length "of" <= 70:=by unfold bC;decide +kernel
 have ci:bC "is" /\ Str.length "is" <= 70:=by unfold bC;decide +kernel
 have key:∀ y∈w0 :: ("of" : Str) :: (cw ++ [("is" : Str),tw]),bC y/\y.length<=70:=by
  intro y hy
  simp only [ZpE,ZpM,ZpY,or_false] at hy
  rcases hy with rfl | rfl | hy | rfl | rfl
  ·exact ⟨Mt n0,by have:=JC n0;omega⟩
  ·exact co
  ·exact ⟨Mt (nc y hy),by have:=JC (nc y hy);omega⟩
  ·exact ci
  ·exact ⟨ft,lt⟩
 refine ⟨_,rfl,m6 (by simp) (fun y hy=>(key y hy).1) (Zq0 (wy (L:=70) (by simp) (fun y hy=>(key y hy).2) ?_) (by decide)),fun z=>?_⟩
 ·simp;omega
 ·rcases z with ⟨z,_⟩ | ⟨_,z⟩ | ⟨z,_⟩
  ·cases z
  ·exact JD hn (E3 h1 h6 z).2.2
  ·cases z
theorem NO {a:List Str} (na:a≠[]) (w z:Str):jn (a ++ [w]) ++ z=jn (a ++ [w ++ z]):=by
 refine gf ?_
 rw [bz,gW a na (by simp),gW a na (by simp)]
 show _=(jn a).cps.toList ++ 32 :: (w ++ z).cps.toList
 rw [bz]
 simp
 rfl
theorem Lg {x:Str}{n:Nat} (h:vh x n) (hn:n<=6):bC x/\x.length<=64/\x.length=2 ^ n:=by
 obtain ⟨t,_,_,rfl⟩:=h
 exact ⟨jo (Ep hn),(eL (Ep hn)).2,wG t n⟩
theorem CH (w0 tw:Str) (cw:List Str):w0 :: ("of" : Str) :: (cw ++ [("is" : Str),tw])=(w0 :: ("of" : Str) :: (cw ++ [("is" : Str)])) ++ [tw]:=by simp
theorem Hg {ws:List Str} (h:ku ws):∀ z∈[("0" : Str),"2"," 1","01"],gD 1 (jn ws ++ z):=by
 have hk:Kd 1 ws:=.inr (.inl ⟨rfl,h⟩)
 obtain ⟨w0,cw,tw,rfl,h1,h6,n0,nc,ht⟩:=xg h
 obtain ⟨tf,tl,t2⟩:=Lg ht h6
 have Qy:2<=2 ^ cw.length:=Zq0 (by decide:2<=2 ^ 1) (Zq4 (by decide) h1)
 have key:∀ z:Str,bC z->1<=z.length->z.length<=2->gD 1 (jn (w0 :: ("of" : Str) :: (cw ++ [("is" : Str),tw])) ++ z):=fun z hz l1 l2=>by
  rw [CH,NO (by simp),<- CH]
  exact zt h1 h6 n0 nc (sm tf hz) (by rw [bH];omega) (.inl (by rw [bH];omega))
 intro z hz
 simp only [ZpE,ZpY,or_false] at hz
 rcases hz with rfl | rfl | rfl | rfl
 ·exact key _ (by unfold bC;decide +kernel) (by decide +kernel) (by decide +kernel)
 ·exact key _ (by unfold bC;decide +kernel) (by decide +kernel) (by decide +kernel)
 ·have hl:=lD hk (by simp;omega)
  have e:jn (w0 :: ("of" : Str) :: (cw ++ [("is" : Str),tw])) ++ " 1" = jn ((w0 :: ("of" : Str) :: (cw ++ [("is" : Str),tw])) ++ [("1" : Str)]):=by
   refine gf ?_
   rw [gW _ (by simp) (by simp),bz]
   rfl
  refine ⟨_,e,m6 (by simp) (fun y hy=>?_) (by rw [<- e,bH,show Str.length " 1" = 2 by decide +kernel];omega),fun z=>?_⟩
  ·rcases ZpM.mp hy with z | z
   ·exact jo (fN hk y z)
   ·rw [ZpQ] at z;subst z;unfold bC;decide +kernel
  ·rcases z with ⟨z,_⟩ | ⟨_,p,ok,e⟩ | ⟨z,_⟩
   ·cases z
   ·unfold br at e
    rw [show (w0 :: ("of" : Str) :: (cw ++ [("is" : Str),tw])) ++ [("1" : Str)]=(w0 :: ("of" : Str) :: (cw ++ [("is" : Str)])) ++ [tw,"1"] by simp,show sN p.1 :: ("of" : Str) :: (p.2.1.map sN ++ [("is" : Str),cO p.2.2 p.2.1.length])=(sN p.1 :: ("of" : Str) :: p.2.1.map sN) ++ [("is" : Str),cO p.2.2 p.2.1.length] by simp] at e
    have e2:=(List.cons.inj (ZqC e rfl).2).1
    subst e2
    exact JD (.inr ⟨105,by decide +kernel,by decide⟩) ht
   ·cases z
 ·exact key _ (by unfold bC;decide +kernel) (by decide +kernel) (by decide +kernel)
theorem Tn {x:Str} (h:1<=x.length):(Txt.slice x none (some (-1))).cps.toList=x.cps.toList.dropLast:=by
 have e:Txt.slice x none (some (-1))=Txt.slice x none (some ((x.length:Int) - 1)):=by
  have k:Builtin.Str.strSliceIndices none (some (-1)) 1 x.length=Builtin.Str.strSliceIndices none (some ((x.length:Int) - 1)) 1 x.length:=by
   unfold Builtin.Str.strSliceIndices;skip
   simp only [show (1:Int) > 0 by decide,if_true]
   rw [if_pos (show (-1:Int)<0 by decide),if_neg (show ¬ (x.length:Int) - 1<0 by omega),show -1+(x.length:Int)=(x.length:Int) - 1 by omega]
  unfold Txt.slice
  rw [k]
 rw [e,QE (by omega) (by omega),List.dropLast_eq_take,<- e9]
 congr 1
 omega
theorem Gu {ws:List Str} (h:ku ws):∀ z∈[("" : Str),"2","x","-"],gD 1 (Txt.slice (jn ws) none (some (-1)) ++ z):=by
 obtain ⟨w0,cw,tw,rfl,h1,h6,n0,nc,ht⟩:=xg h
 obtain ⟨tf,tl,t2⟩:=Lg ht h6
 have Qy:2<=2 ^ cw.length:=Zq0 (by decide:2<=2 ^ 1) (Zq4 (by decide) h1)
 have Sf:tw.cps.toList≠[]:=fun z=>by have:=e9 tw;rw [z,Zp3] at this;omega
 have dl:(⟨⟨tw.cps.toList.dropLast⟩⟩:Str).length+1=tw.length:=by rw [e9,e9];show tw.cps.toList.dropLast.length+1=_;rw [List.length_dropLast];have:=e9 tw;omega
 have df:bC ⟨⟨tw.cps.toList.dropLast⟩⟩:=fun z=>tf (List.dropLast_subset _ z)
 have key:∀ z:Str,Txt.slice (jn (w0 :: ("of" : Str) :: (cw ++ [("is" : Str),tw]))) none (some (-1)) ++ z=jn (w0 :: ("of" : Str) :: (cw ++ [("is" : Str),⟨⟨tw.cps.toList.dropLast⟩⟩ ++ z])):=fun z=>by
  have e:=gW (w0 :: ("of" : Str) :: (cw ++ [("is" : Str)])) (b:=[tw]) (by simp) (by simp)
  rw [<- CH] at e
  refine gf ?_
  rw [bz,Tn (by rw [e9,e,ZpI,ZpG];omega),e,CH,gW _ (by simp) (by simp),List.dropLast_append_of_ne_nil (by simp)]
  show _ ++ (32 :: tw.cps.toList).dropLast ++ _=_ ++ 32 :: ((⟨⟨tw.cps.toList.dropLast⟩⟩:Str) ++ z).cps.toList
  rw [List.dropLast_cons_of_ne_nil Sf,bz]
  simp
 intro z hz
 rw [key z]
 simp only [ZpE,ZpY,or_false] at hz
 rcases hz with rfl | rfl | rfl | rfl
 ·exact zt h1 h6 n0 nc (sm df (by unfold bC;decide +kernel)) (by rw [bH,show Str.length "" = 0 by decide +kernel];omega) (.inl (by rw [bH,show Str.length "" = 0 by decide +kernel];omega))
 ·exact zt h1 h6 n0 nc (sm df (by unfold bC;decide +kernel)) (by rw [bH,show Str.length "2" = 1 by decide +kernel];omega) (.inr ⟨50,by rw [bz];exact ZpT _ (by decide +kernel),by decide⟩)
 ·exact zt h1 h6 n0 nc (sm df (by unfold bC;decide +kernel)) (by rw [bH,show Str.length "x" = 1 by decide +kernel];omega) (.inr ⟨120,by rw [bz];exact ZpT _ (by decide +kernel),by decide⟩)
 ·exact zt h1 h6 n0 nc (sm df (by unfold bC;decide +kernel)) (by rw [bH,show Str.length "-" = 1 by decide +kernel];omega) (.inr ⟨45,by rw [bz];exact ZpT _ (by decide +kernel),by decide⟩)
theorem Ma {ws:List Str} (hn:ws.length<5\/10<ws.length) (ne:ws≠[]) (ed:ws.length<=20) (hf:∀ w∈ws,bC w/\w.length<=200):gD 1 (jn ws):=by
 refine ⟨ws,rfl,m6 ne (fun y hy=>(hf y hy).1) (Zq0 (wy (L:=200) ne (fun y hy=>(hf y hy).2) ed) (by decide)),fun z=>?_⟩
 rcases z with ⟨z,_⟩ | ⟨_,p,ok,rfl⟩ | ⟨z,_⟩
 ·cases z
 ·rw [mh] at hn
  have:=ok.l1
  have:=ok.l6
  omega
 ·cases z
theorem zK {ws:List Str}{w0 tw:Str} (h:ku ws) (h0:w0∈ws) (ht:tw∈ws):gD 1 (w0 ++ " of " ++ ("is " ++ tw)):=by
 have hk:Kd 1 ws:=.inr (.inl ⟨rfl,h⟩)
 have uB:=fN hk w0 h0
 have L6:=fN hk tw ht
 have e:w0 ++ " of " ++ ("is " ++ tw)=jn [w0,("of" : Str),("is" : Str),tw]:=by
  refine gf ?_
  rw [fh,fh,fh,bz,bz,bz,show (" of " : Str).cps.toList=32 :: (("of" : Str).cps.toList ++ [32]) by decide +kernel,show ("is " : Str).cps.toList=("is" : Str).cps.toList ++ [32] by decide +kernel]
  simp
  rfl
 rw [e]
 refine Ma (.inl (by simp)) (by simp) (by simp) fun y hy=>?_
 simp only [ZpE,ZpY,or_false] at hy
 rcases hy with rfl | rfl | rfl | rfl
 ·exact ⟨jo uB,by have:=(eL uB).2;omega⟩
 ·unfold bC;decide +kernel
 ·unfold bC;decide +kernel
 ·exact ⟨jo L6,by have:=(eL L6).2;omega⟩
theorem zx {ws:List Str}{w0 R:Str} (h:ku ws) (h0:w0∈ws) (hf:bC R) (hl:R.length<=200):gD 1 (w0 ++ " of " ++ ("1 2 3 4 5 6 7 is " ++ R)):=by
 have hk:Kd 1 ws:=.inr (.inl ⟨rfl,h⟩)
 have uB:=fN hk w0 h0
 have e:w0 ++ " of " ++ ("1 2 3 4 5 6 7 is " ++ R)=jn ([w0] ++ ([("of" : Str),"1","2","3","4","5","6","7","is"] ++ [R])):=by
  refine gf ?_
  have k:(" of " : Str).cps.toList ++ ("1 2 3 4 5 6 7 is " : Str).cps.toList=32 :: ((jn [("of" : Str),"1","2","3","4","5","6","7","is"]).cps.toList ++ [32]):=by decide +kernel
  rw [gW _ (by simp) (by simp),gW _ (by simp) (by simp),bz,bz,bz,Zqa,<- Zqa (" of " : Str).cps.toList,k]
  simp
  rfl
 rw [e]
 refine Ma (.inr (by simp)) (by simp) (by simp) fun y hy=>?_
 rcases ZpM.mp hy with z | z
 ·rw [ZpQ] at z;subst z
  exact ⟨jo uB,by have:=(eL uB).2;omega⟩
 ·rcases ZpM.mp z with z | z
  ·have key:∀ w∈[("of" : Str),"1","2","3","4","5","6","7","is"],bC w/\w.length<=200:=by unfold bC;decide +kernel
   exact key y z
  ·rw [ZpQ] at z;subst z
   exact ⟨hf,hl⟩
theorem He {ws:List Str}{b:Str}{j:Nat} (h:ku ws) (j1:2<=j) (hj:j+2<ws.length) (hb:o2 b):gD 1 (jn (ws.take j ++ b :: ws.drop (j+1))):=by
 have hk:Kd 1 ws:=.inr (.inl ⟨rfl,h⟩)
 rw [Na (by omega)]
 refine ⟨_,rfl,Ks hk ?_ (by omega) hb,fun z=>?_⟩
 ·obtain ⟨w0,cw,tw,rfl,h1,h6,n0,nc,ht⟩:=xg h
  simp
  omega
 ·rcases z with ⟨z,_⟩ | ⟨_,z⟩ | ⟨z,_⟩
  ·cases z
  ·obtain ⟨w0,cw,tw,rfl,h1,h6,n0,nc,ht⟩:=xg h
   obtain ⟨i,rfl⟩:∃ i,j=i+2:=⟨j - 2,by omega⟩
   have hi:i<cw.length:=by simp at hj;omega
   rw [Zqz,Zqz,List.set_append_left _ _ hi] at z
   have:=(E3 (by rw [Zqf];exact h1) (by rw [Zqf];exact h6) z).2.1 b (List.mem_set hi b)
   exact hb.1 (uV this)
  ·cases z
noncomputable def eP (ns:List Int) (k:Nat):Int:=if k<ns.length then ns.getD k 0 % 10 ^ 40 else 0
theorem we (ns:List Int) (k:Nat):0<=eP ns k:=by
 unfold eP
 split
 ·exact Zrj _ (by decide)
 ·exact Zrm 0
noncomputable def kI (K:ZoW):Sp:=fun vs H Q _=>∃ (p:Addr) (ns:List Int) (k:Nat),vs=[.ref p,.int k]/\aR K H p (ns.map V.int)/\Q (.int (eP ns k)) H
noncomputable def Dw (K:ZoW):TS:=(aV (cM (bK (af (fQ fun i j=>.bl (decide (i<j))) (aa 1) (bw (gY K) (ah (aa 0) ar)))) (cA (af (aQ (fun _ j=>0<j) fun i j=>.int (i % j)) (af (bE K) (aa 0) (aa 1)) (af (aQ km fun i j=>.int (i ^ j.toNat)) (tC (.int 10)) (tC (.int 40))))) eh)
  (cA (tC (.int 0))))
theorem Uz (T:Txt K mg a):TM P w K mg base 0 "_law_cell_at" Bb J7 a.cK (Dw K) :=
 fun hr=>(aW (dD (cI oM (cv 1) (dX iE (by rfl) T.aL PySem.boot_len (ai (cv 0) au)) (cB _)) (aS (cY (aw dE (bN bM (cv 0) (cv 1) (fun _ _=>rfl)) (aw zT ak ak)))) eU)
   (aS (cY ak)))
theorem lJ (T:Txt K mg a):aJ P w K mg base gd 1 a.cK a.eF ["_law_script","_law_k"] (kI K):=by
 refine T.ax.n.iS Qn (Uz T) (fun vs H Q E h=>?_) (fun H vs Q E h=>?_)
 ·obtain ⟨p,ns,k,rfl,_⟩:=h;rfl
 ·obtain ⟨p,ns,k,rfl,hS,q⟩:=h
  show Dw K _ [some (.ref p),some (.int k)] H
  unfold Dw
  have UY:(0:Int)<10 ^ (40:Int).toNat:=by decide
  walk_at "gs"
  refine .inl ⟨_,.inl hS,?_⟩
  rw [ZpC]
  unfold eP at q
  by_cases h:(k:Int)<ns.length
  ·rw [if_pos h]
   rw [if_pos (by omega)] at q
   refine QS hS (by omega) h ?_
   walk_at "gs"
   exact q
  ·rw [if_neg h]
   rw [if_neg (by omega)] at q
   walk_at "gs"
   exact q
theorem r9 {L:List Str}{i:Int} (h0:0<=i) (h1:i<L.length):∃ s,s∈L/\dC (L.map V.str) i=some (.str s):=by
 have hl:i.toNat<L.length:=by omega
 refine ⟨L[i.toNat],Zqg _,?_⟩
 rw [D3 .non h0 (by rw [ZpC];exact h1)]
 simp [ZpX,hl]
noncomputable def Bf (_:ZoW):Sp:=fun vs H Q _=>∃ (w:Str) (c:Int),vs=[.str w,.int c]/\lK w/\0<=c/\∀ b H',o2 b->aH H H'->Q (.str b) H'
noncomputable def F1 (K:ZoW):TS:=(aV (bG (fH (ah (af bc (tC (.str "0")) (aa 0)) (ah (af bc (tC (.str "+")) (aa 0)) (ah (af bc (aa 0) (tC (.str "x"))) (ah (af bc (tC (.str "--")) (aa 0)) (ah (tC (.str "1234")) (ah (tC (.str "")) (ah (af bc (aa 0) (tC (.str "."))) (ah (tC (.str "x")) (ah (tC (.str "-05")) (ah (tC (.str "-1234")) (ah (tC (.str "-")) ar)))))))))))) (aK 2))
  (cA (af (bE K) (aa 2) (af (aQ (fun _ j=>0<j) fun i j=>.int (i % j)) (aa 1) (tC (.int 11))))))
theorem Oj (T:Txt K mg a):TM P w K mg base 0 "_law_broken_number" yK MO a.bt (F1 K) :=
 fun hr=>(aW (dv (i:=2) Jv.nd rfl (by walk_at "o") (gN (ai (aw bf aM (cv 0)) (ai (aw bf aM (cv 0)) (ai (aw bf (cv 0) aM) (ai (aw bf aM (cv 0)) (ai aM (ai aM (ai (aw bf (cv 0) aM) (ai aM (ai aM (ai aM (ai aM au)))))))))))))
   (aS (cY (bN bM (cv 2) (aw dE (cv 1) ak) (fun _ _=>rfl)))))
theorem Gv (T:Txt K mg a):aJ P w K mg base gd 1 a.bt a.bU ["_law_word","_law_cell"] (Bf K):=by
 refine T.aO.n.iS Jv (Oj T) (fun vs H Q E h=>?_) (fun H vs Q E h=>?_)
 ·obtain ⟨w,c,rfl,_⟩:=h;rfl
 ·obtain ⟨w,c,rfl,hw,c0,q⟩:=h
  show F1 K _ [some (.str w),some (.int c),none] H
  unfold F1
  have big:(20000:Nat)<=sizeLine:=by decide
  have hl:=(eL (BQ hw)).2
  have h0:Str.length "0" = 1:=by decide +kernel
  have h1:Str.length "+" = 1:=by decide +kernel
  have h2:Str.length "x" = 1:=by decide +kernel
  have h3:Str.length "--" = 2:=by decide +kernel
  have h4:Str.length "." = 1:=by decide +kernel
  walk_at "gs"
  refine ⟨by show 11<=sizeLine;omega,fun p H1 n1=>⟨by decide,?_⟩⟩
  have z1:=Zrj c (show (11:Int)≠0 by decide)
  have z2:=Zrk c (show (0:Int)<11 by decide)
  obtain ⟨b,hb,ha⟩:=r9 (L:=rT w) z1 (by show c % 11<((11:Nat):Int);omega)
  exact ⟨_,_,.inl n1.sq,ha,q b H1 (qi hw b hb) n1.same⟩
theorem HF {x y:Str}{i:Int}{F:V->Prop} (hx:F (.str x)) (hy:F (.str y)):∃ v,dC [V.str x,V.str y] (i % 2)=some v/\F v:=by
 have z:i % 2=0\/i % 2=1:=by omega
 rcases z with z | z <;> rw [z]
 ·exact ⟨_,rfl,hx⟩
 ·exact ⟨_,rfl,hy⟩
theorem QJ {k:Nat}{ws:List Str}{w0:Str} (h:Kd k ws) (h0:ws[0]? = some w0):(w0 = "board" /\ k=0/\B0 ws)\/(w0 ≠ "board" /\ w0 = "out" /\ k=2/\vm ws)\/(w0 ≠ "board" /\ w0 ≠ "out" /\ k=1/\ku ws):=by
 rcases h with ⟨rfl,h⟩ | ⟨rfl,h⟩ | ⟨rfl,h⟩
 ·refine .inl ⟨?_,rfl,h⟩
  obtain ⟨i,_,_,rfl⟩:=h
  exact (Option.some.inj h0).symm
 ·refine .inr (.inr ⟨?_,?_,rfl,h⟩)
  all_goals
   obtain ⟨p,ok,rfl⟩:=h
   have e:sN p.1=w0:=Option.some.inj h0
   have ht:lK w0:=uV ⟨p.1,ok.k0,ok.k1,e.symm⟩
   intro z
   rw [z] at ht
  ·exact sy (c:=98) (by decide +kernel) (by decide) ht
  ·exact sy (c:=111) (by decide +kernel) (by decide) ht
 ·refine .inr (.inl ?_)
  obtain ⟨ts,h1,h2,rfl⟩:=h
  have e:("out" : Str)=w0:=Option.some.inj h0
  subst e
  exact ⟨by decide +kernel,rfl,rfl,ts,h1,h2,rfl⟩
theorem Ml {xs:List V}{j:Nat}:fO xs none (some (j:Int))=xs.take j:=by
 unfold fO
 rw [HT.HM,List.drop_zero,Nat.sub_zero]
 have e:HT.ij xs.length xs.length (some (j:Int))=min j xs.length:=HT.wU _ _ j
 rw [e,List.take_eq_take_iff]
 omega
theorem Bi {xs:List V}{j:Nat} (hj:j<=xs.length):fO xs (some (j:Int)) none=xs.drop j:=by
 unfold fO
 rw [HT.HM,HT.wU,show min j xs.length=j by omega,Zqk (by rw [Zp6];exact ZqY _)]
theorem Lx {K:ZoW}{k j:Nat}{ws:List Str}{w:Str}{p:Addr}{H H1:Hp}{ji c:Int}{Q:VK} (s1:aH H H1) (hp:H1 p=some (.lst (ws.map V.str))) (zV:ji=(j:Int)) (ed:ws.length<=20) (xu:∀ w∈ws,w.length<=64) (hw:ws[j]? = some w) (ht:lK w) (c0:0<=c)
  (hb:∀ b,o2 b->gD k (jn (ws.take j ++ b :: ws.drop (j+1)))) (q:∀ x H',gD k x->aH H H'->Q (.str x) H') :
  ∃ xs,aR K H1 p xs/\∀ (q2:Addr) (H2:Hp),fb H1 q2 (.lst (fO xs none (some ji))) H2->∃ xs v,(aR K H2 p xs\/cW K H2 p xs)/\dC xs ji=some v/\cX c 8/\cX (c / 8) 64 /\
   Bf K [v,V.int (c / 8 / 64)] H2 (fun x H3=>[x].length<=sizeLine/\∀ (p3:Addr) (H4:Hp),fb H3 p3 (.lst [x]) H4->∃ xs zs,H4 q2=some (.lst xs)/\H4 p3=some (.lst zs)/\xs.length+zs.length<=sizeLine/\∀ p4:Addr,H4 p4=none ->
    ∃ xs1,aR K (upd H4 p4 (.lst (xs ++ zs))) p xs1/\∀ (q5:Addr) (H5:Hp),fb (upd H4 p4 (.lst (xs ++ zs))) q5 (.lst (fO xs1 (some (ji+1)) none)) H5->∃ xs zs,H5 p4=some (.lst xs)/\H5 q5=some (.lst zs)/\xs.length+zs.length<=sizeLine/\∀ p6:Addr,H5 p6=none ->
     ∃ ts:List Str,aR K (upd H5 p6 (.lst (xs ++ zs))) p6 (ts.map V.str)/\(ts.map fun x:Str=>x.length).sum+ts.length<=1048576/\Str.length " " <= 16/\Q (.str (Str.join " " ts)) (upd H5 p6 (.lst (xs ++ zs)))) E0:=by
 subst zV
 have hj:=(ZpL.mp hw).1
 have big:(20000:Nat)<=sizeLine:=by decide
 refine ⟨_,.of hp,fun q2 H2 n2=>⟨_,_,.inl (.of (n2.same _ _ hp)),jF (j:=j) (by rw [ZpF,hw];rfl),⟨by decide,by decide⟩,⟨by decide,by decide⟩,w,c / 8 / 64,rfl,ht,by omega,fun b H3 hbr s3=>⟨by show 1<=sizeLine;omega,fun p3 H4 n4=>?_⟩⟩⟩
 have e2:=n2.at_
 rw [Ml] at e2
 have mI:=s3.trans n4.same
 refine ⟨_,_,mI _ _ e2,n4.at_,by rw [Zp2,ZpC];show _+1<=_;omega,fun p4 h4=>?_⟩
 have jW:=n2.same.trans mI
 have s14':aH H1 (upd H4 p4 (.lst ((ws.map V.str).take j ++ [V.str b]))):=jW.put (jW.nil h4)
 refine ⟨_,.of (s14' _ _ hp),fun q5 H5 n5=>?_⟩
 have e5:=n5.at_
 rw [show (j:Int)+1=((j+1:Nat):Int) by omega,Bi (by rw [ZpC];omega)] at e5
 refine ⟨_,_,n5.same _ _ cq,e5,by rw [ZpI,Zp2,Zp6,ZpC];show _+1+_<=_;omega,fun p6 h6=>?_⟩
 have e:(ws.map V.str).take j ++ [V.str b] ++ (ws.map V.str).drop (j+1)=(ws.take j ++ b :: ws.drop (j+1)).map V.str:=by
  rw [ZpK,ZpD,Zqq,ZqD,Zqa];rfl
 rw [e]
 have sA:=(s1.trans s14').trans n5.same
 refine ⟨_,.of cq,oi (k:=70) (fun y hy=>?_) (by rw [ZpI,Zp2,ZpG,Zp6];omega) (by decide),by decide,q _ _ (hb b hbr) (sA.put (sA.nil h6))⟩
 rcases ZpM.mp hy with z | z
 ·have:=xu y (ZqA z);omega
 ·rcases ZpE.mp z with rfl | z
  ·exact hbr.2.2
  ·have:=xu y (ZqB z);omega
theorem pb {x y z u:Str}{i:Int}{P:Str->Prop} (h:∀ s∈[x,y,z,u],P s):∃ s,dC [V.str x,V.str y,V.str z,V.str u] (i % 4)=some (.str s)/\P s:=by
 have w:i % 4=0\/i % 4=1\/i % 4=2\/i % 4=3:=by omega
 rcases w with w | w | w | w <;> rw [w]
 ·exact ⟨_,rfl,h _ (by simp)⟩
 ·exact ⟨_,rfl,h _ (by simp)⟩
 ·exact ⟨_,rfl,h _ (by simp)⟩
 ·exact ⟨_,rfl,h _ (by simp)⟩
noncomputable def Mo (_:ZoW):Sp:=fun vs H Q _=>∃ (k:Nat) (ws:List Str) (c:Int),vs=[.str (jn ws),.int c]/\Kd k ws/\ws.length<=20/\0<=c/\∀ x H',gD k x->aH H H'->Q (.str x) H'
noncomputable def DI (K:ZoW):TS:=(aV (bG (gS K "str" vZ (aa 0) (ah (tC (.str " ")) ar)) (aK 2))
  (aV (bG (af (aQ (fun _ j=>0<j) fun i j=>.int (i % j)) (af (aQ cX fun i j=>.int (i / j)) (aa 1) (tC (.int 8))) (bw (gY K) (ah (aa 2) ar))) (aK 3))
  (aV (bG (af (aQ (fun _ j=>0<j) fun i j=>.int (i % j)) (aa 1) (tC (.int 8))) (aK 4))
  (aV (cM (bK (af nR (aa 4) (tC (.int 0)))) (cA (Fm (aa 0) " " "  ")) eh)
  (aV (cM (bK (af (gA K) (aa 4) (tC (.int 1)))) (cA (af (bE K) (fH (ah (af bc (tC (.str " ")) (aa 0)) (ah (af bc (aa 0) (tC (.str " "))) ar))) (af (aQ (fun _ j=>0<j) fun i j=>.int (i % j)) (af (aQ cX fun i j=>.int (i / j)) (aa 1) (tC (.int 8))) (tC (.int 2))))) eh)
  (aV (cM (bK (af (gA K) (aa 4) (tC (.int 2)))) (cA (af (bE K) (aa 2) (tC (.int 0)))) eh)
  (tE (cM (pv (bK (af (gA K) (aa 4) (tC (.int 3)))) (pv (bK (af (fQ fun i j=>.bl (decide (j<i))) (af (aQ (fun _ j=>0<j) fun i j=>.int (i % j)) (af (aQ cX fun i j=>.int (i / j)) (aa 1) (tC (.int 8))) (tC (.int 3))) (tC (.int 0)))) (pv (bK (af (fQ fun i j=>.bl (decide (j<i))) (bw (gY K) (ah (aa 2) ar)) (tC (.int 4)))) (bK (af nR (af (bE K) (aa 2) (tC (.int 1))) (tC (.str "of"))))))) (cA (af (bE K) (fH (ah (CT (aa 0) " of " " off ") (ah (CT (aa 0) " is " " of ") ar))) (af (aQ (fun _ j=>0<j) fun i j=>.int (i % j)) (af (aQ cX fun i j=>.int (i / j)) (aa 1) (tC (.int 8))) (tC (.int 2))))) eh)
  (aV (cM (bK (af (gA K) (aa 4) (tC (.int 3)))) (cA (gS K "str" (lW K) (tC (.str " ")) (ah (af bc (fH (ah (af bc (sg K "str" GO (af (bE K) (aa 2) (tC (.int 0)))) (tC (.str "q"))) ar)) (jY (ka K) (aa 2) (iR (tC (.int 1))) kJ)) ar))) eh)
  (aV (cM (bK (af (gA K) (af (bE K) (aa 2) (tC (.int 0))) (tC (.str "board")))) (cA (af (bE K) (fH (ah (af bc (tC (.str "board ")) (bS (Bf K) [] E0 (ah (af (bE K) (aa 2) (tC (.int 1))) (ah (af (aQ cX fun i j=>.int (i / j)) (aa 1) (tC (.int 8))) ar)))) (ah (af bc (aa 0) (tC (.str " 3"))) ar))) (af (aQ (fun _ j=>0<j) fun i j=>.int (i % j)) (aa 4) (tC (.int 2))))) eh)
  (aV (cM (bK (af (gA K) (af (bE K) (aa 2) (tC (.int 0))) (tC (.str "out")))) (aV (bG (bw ub (ah (tC (.int 1)) (ah (aa 3) ar))) (aK 3))
  (cA (gS K "str" (lW K) (tC (.str " ")) (ah (af bc (af bc (jY (ka K) (aa 2) kJ (iR (aa 3))) (fH (ah (bS (Bf K) [] E0 (ah (af (bE K) (aa 2) (aa 3)) (ah (af (aQ cX fun i j=>.int (i / j)) (af (aQ cX fun i j=>.int (i / j)) (aa 1) (tC (.int 8))) (tC (.int 64))) ar))) ar))) (jY (ka K) (aa 2) (iR (af bc (aa 3) (tC (.int 1)))) kJ)) ar)))) eh)
  (aV (cM (bK (af (gA K) (aa 4) (tC (.int 4)))) (cA (af bc (aa 0) (af (bE K) (fH (mW [(.str "0"),(.str "2"),(.str " 1"),(.str "01")])) (af (aQ (fun _ j=>0<j) fun i j=>.int (i % j)) (af (aQ cX fun i j=>.int (i / j)) (aa 1) (tC (.int 8))) (tC (.int 4)))))) eh)
  (aV (cM (bK (af (gA K) (aa 4) (tC (.int 5)))) (cA (af bc (jY (ka K) (aa 0) kJ (iR (j5 jQ (tC (.int 1))))) (af (bE K) (fH (mW [(.str ""),(.str "2"),(.str "x"),(.str "-")])) (af (aQ (fun _ j=>0<j) fun i j=>.int (i % j)) (af (aQ cX fun i j=>.int (i / j)) (aa 1) (tC (.int 8))) (tC (.int 4)))))) eh)
  (aV (cM (bK (af (gA K) (aa 4) (tC (.int 6)))) (cA (af bc (af bc (af (bE K) (aa 2) (tC (.int 0))) (tC (.str " of "))) (af (bE K) (fH (ah (af bc (tC (.str "is ")) (af (bE K) (aa 2) (j5 jQ (tC (.int 1))))) (ah (af bc (tC (.str "1 2 3 4 5 6 7 is ")) (af tJ (tC (.str "01")) (tC (.int 64)))) ar))) (af (aQ (fun _ j=>0<j) fun i j=>.int (i % j)) (af (aQ cX fun i j=>.int (i / j)) (aa 1) (tC (.int 8))) (tC (.int 2)))))) eh)
  (aV (bG (af bc (tC (.int 2)) (af (aQ (fun _ j=>0<j) fun i j=>.int (i % j)) (aa 3) (af (fQ fun i j=>.int (i - j)) (bw (gY K) (ah (aa 2) ar)) (tC (.int 4))))) (aK 3))
  (cA (gS K "str" (lW K) (tC (.str " ")) (ah (af bc (af bc (jY (ka K) (aa 2) kJ (iR (aa 3))) (fH (ah (bS (Bf K) [] E0 (ah (af (bE K) (aa 2) (aa 3)) (ah (af (aQ cX fun i j=>.int (i / j)) (af (aQ cX fun i j=>.int (i / j)) (aa 1) (tC (.int 8))) (tC (.int 64))) ar))) ar))) (jY (ka K) (aa 2) (iR (af bc (aa 3) (tC (.int 1)))) kJ)) ar)))))))))))))))))
theorem UP (T:Txt K mg a):TM P w K mg base 1 "_law_formless" wq MG a.cn (DI K) :=
 fun hr=>(aW (dv (i:=2) vE.nd rfl (by walk_at "o") (iD Zpr Zpy Zpz B8 (cv 0) (ai aM au)))
   (aW (dv (i:=3) vE.nd rfl (by walk_at "o") (aw dE (aw fg (cv 1) ak) (dX iE (by rfl) T.aL PySem.boot_len (ai (cv 2) au))))
   (aW (dv (i:=4) vE.nd rfl (by walk_at "o") (aw dE (cv 1) ak))
   (aW (KO (Nb (cv 4) ux rfl) (Lz (Qf (Rf (EZ 0)))) eU)
   (aW (dD (cI (ic (eM hr)) (cv 4) ak (cB _)) (aS (cY (bN bM (gN (ai (aw bf aM (cv 0)) (ai (aw bf (cv 0) aM) au))) (aw dE (aw fg (cv 1) ak) ak) (fun _ _=>rfl)))) eU)
   (aW (dD (cI (ic (eM hr)) (cv 4) ak (cB _)) (aS (cY (bN bM (cv 2) ak (fun _ _=>rfl)))) eU)
   (BL (KO (wa.pt (Ed (cI (ic (eM hr)) (cv 4) ak (cB _)) (Ed (cI kS (aw dE (aw fg (cv 1) ak) ak) ak (cB _)) (Ed (cI kS (dX iE (by rfl) T.aL PySem.boot_len (ai (cv 2) au)) ak (cB _)) (Up (Nb (bN bM (cv 2) ak (fun _ _=>rfl)) qH rfl)))))) (Lz (T5 bM (L9 (Lc (EZ 0)) (L9 (Lc (EZ 0)) QN)) (aw dE (aw fg (cv 1) ak) ak) (fun _ _=>rfl))) eU)
   (aW (dD (cI (ic (eM hr)) (cv 4) ak (cB _)) (aS (cY (iD Zpr Zpt Zpu nr aM (ai (aw bf (gN (ai (aw bf (tF Zpr PySem.F.slot_str_upper PySem.F.type_str_upper NJ (bN bM (cv 2) ak (fun _ _=>rfl))) aM) au)) (kR kG (cv 2) (j6 ak) mR)) au)))) eU)
   (aW (dD (cI (ic (eM hr)) (bN bM (cv 2) ak (fun _ _=>rfl)) aM (cB _)) (aS (cY (bN bM (gN (ai (aw bf aM (eC T.aO (Gv T) (hm hr) dO (ai (bN bM (cv 2) ak (fun _ _=>rfl)) (ai (aw fg (cv 1) ak) au)))) (ai (aw bf (cv 0) aM) au))) (aw dE (cv 4) ak) (fun _ _=>rfl)))) eU)
   (aW (dD (cI (ic (eM hr)) (bN bM (cv 2) ak (fun _ _=>rfl)) aM (cB _)) (aW (dv (i:=3) vE.nd rfl (by walk_at "o") (dX (yL rfl) (by rfl) T.uv PyProof.Rows.boot_max (ai ak (ai (cv 3) au))))
   (aS (cY (iD Zpr Zpt Zpu nr aM (ai (aw bf (aw bf (kR kG (cv 2) mR (j6 (cv 3))) (gN (ai (eC T.aO (Gv T) (hm hr) dO (ai (bN bM (cv 2) (cv 3) (fun _ _=>rfl)) (ai (aw fg (aw fg (cv 1) ak) ak) au))) au))) (kR kG (cv 2) (j6 (aw bf (cv 3) ak)) mR)) au))))) eU)
   (aW (dD (cI (ic (eM hr)) (cv 4) ak (cB _)) (aS (cY (aw bf (cv 0) (bN bM (gN (ni (vs:=[(.str "0"),(.str "2"),(.str " 1"),(.str "01")]) rfl)) (aw dE (aw fg (cv 1) ak) ak) (fun _ _=>rfl))))) eU)
   (aW (dD (cI (ic (eM hr)) (cv 4) ak (cB _)) (aS (cY (aw bf (kR kG (cv 0) mR (j6 (kN lA ak))) (bN bM (gN (ni (vs:=[(.str ""),(.str "2"),(.str "x"),(.str "-")]) rfl)) (aw dE (aw fg (cv 1) ak) ak) (fun _ _=>rfl))))) eU)
   (aW (dD (cI (ic (eM hr)) (cv 4) ak (cB _)) (aS (cY (aw bf (aw bf (bN bM (cv 2) ak (fun _ _=>rfl)) aM) (bN bM (gN (ai (aw bf aM (bN bM (cv 2) (kN lA ak) (fun _ _=>rfl))) (ai (aw bf aM (aw Bt aM ak)) au))) (aw dE (aw fg (cv 1) ak) ak) (fun _ _=>rfl))))) eU)
   (aW (dv (i:=3) vE.nd rfl (by walk_at "o") (aw bf ak (aw dE (cv 3) (aw CO (dX iE (by rfl) T.aL PySem.boot_len (ai (cv 2) au)) ak))))
   (aS (cY (iD Zpr Zpt Zpu nr aM (ai (aw bf (aw bf (kR kG (cv 2) mR (j6 (cv 3))) (gN (ai (eC T.aO (Gv T) (hm hr) dO (ai (bN bM (cv 2) (cv 3) (fun _ _=>rfl)) (ai (aw fg (aw fg (cv 1) ak) ak) au))) au))) (kR kG (cv 2) (j6 (aw bf (cv 3) ak)) mR)) au))))))))))))))))))
theorem Tr (T:Txt K mg a):aJ P w K mg base gd 2 a.cn a.dR ["_law_line","_law_cell"] (Mo K):=by
 refine T.dN.n.iS vE (UP T) (fun vs H Q E h=>?_) (fun H vs Q E h=>?_)
 ·obtain ⟨k,ws,c,rfl,_⟩:=h;rfl
 ·obtain ⟨k,ws,c,rfl,hk,ed,c0,q⟩:=h
  show DI K _ [some (.str (jn ws)),some (.int c),none,none,none] H
  unfold DI
  have big:(20000:Nat)<=sizeLine:=by decide
  have hl:=lD hk ed
  have h2:=xX hk
  have es:Txt.split (jn ws) " " = ws:=by unfold jn;rw [yU];exact BK 32 (oz hk) fun w hw=>jo (fN hk w hw)
  have l1:Str.length " " = 1:=by decide +kernel
  have cd:cX c 8:=⟨by decide,by decide⟩
  walk_at "gs"
  rw [es]
  intro p H1 n1
  have s1:=n1.same
  have hp:aR K H1 p (ws.map V.str):=n1.sq
  have mT:(ws.map V.str).length=ws.length:=ZpC ..
  refine ⟨cd,.inl ⟨_,.inl hp,by rw [mT];omega,by decide,?_⟩⟩
  rw [mT]
  by_cases k0:c % 8=0
  ·rw [if_pos k0]
   exact ⟨by omega,q _ H1 (GG hk ed) s1⟩
  rw [if_neg k0]
  by_cases k1:c % 8=1
  ·rw [if_pos k1]
   refine ⟨by omega,by omega,by show 2<=sizeLine;omega,fun p2 H2 n2=>?_⟩
   obtain ⟨v,e,hv⟩:=HF (i:=c / 8) (F:=fun v=>Q v H2) (q _ H2 (xV hk ed) (s1.trans n2.same)) (q _ H2 (zS hk ed) (s1.trans n2.same))
   exact ⟨cd,by decide,_,v,.inl n2.sq,e,hv⟩
  rw [if_neg k1]
  have a0:∃ w0,w0∈ws/\dC (ws.map V.str) 0=some (.str w0)/\ws[0]? = some w0:=by
   match ws,h2 with
   | w :: r,_=>exact ⟨w,by simp,jF (j:=0) rfl,rfl⟩
  obtain ⟨w0,sX,ha0,hg0⟩:=a0
  by_cases k2:c % 8=2
  ·rw [if_pos k2]
   exact ⟨_,_,.inl hp,ha0,q w0 H1 (FO hk sX) s1⟩
  rw [if_neg k2]
  refine mid (fun σ' H'=>H'=H1/\σ'=[some (.str (jn ws)),some (.int c),some (.ref p),some (.int (c / 8 % ws.length)),some (.int (c % 8))]) (fun M hM=>?_) ?_
  ·have hM':=hM _ _ ⟨rfl,rfl⟩
   walk_at "gs"
   by_cases k3:c % 8=3
   ·rw [if_pos k3]
    refine ⟨cd,by decide,?_⟩
    by_cases g1:0<c / 8 % 3
    ·rw [if_pos g1]
     refine .inl ⟨_,.inl hp,?_⟩
     rw [mT]
     by_cases g2:(4:Int)<ws.length
     ·rw [if_pos g2]
      obtain ⟨w1,lO⟩:∃ w1,ws[1]? = some w1:=⟨_,ZpH (by omega)⟩
      refine ⟨_,_,.inl hp,jF (j:=1) (by rw [ZpF,lO];rfl),?_⟩
      show if w1 = "of" then _ else _
      by_cases g3:w1 = "of"
      ·rw [if_pos g3]
       have ip:ku ws/\k=1:=by
        rcases hk with ⟨_,i,_,_,rfl⟩ | ⟨rfl,h⟩ | ⟨_,ts,_,ht,rfl⟩
        ·simp at g2
        ·exact ⟨h,rfl⟩
        ·exfalso
         rw [ZpV,ZpF] at lO
         cases e2:ts[0]? with
         | none=>rw [e2] at lO;cases lO
         | some t =>
          rw [e2] at lO
          have e3:bA t = "of":=(Option.some.inj lO).trans g3
          have ht':=ht t (ZpP e2)
          exact sy (x:="of") (c:=111) (by decide +kernel) (by decide) ⟨t,ht'.1,ht'.2,e3.symm⟩
       obtain ⟨ip,rfl⟩:=ip
       refine ⟨by omega,by omega,by show 2<=sizeLine;omega,fun p2 H2 n2=>?_⟩
       obtain ⟨v,e,hv⟩:=HF (i:=c / 8) (F:=fun v=>Q v H2) (q _ H2 (zN ip ed) (s1.trans n2.same)) (q _ H2 (A9 ip ed) (s1.trans n2.same))
       exact ⟨cd,by decide,_,v,.inl n2.sq,e,hv⟩
      ·rw [if_neg g3]
       exact hM'
     ·rw [if_neg g2]
      exact hM'
    ·rw [if_neg g1]
     exact hM'
   ·rw [if_neg k3]
    exact hM'
  ·rintro σ' H' ⟨rfl,rfl⟩
   walk_at "gs"
   by_cases k3:c % 8=3
   ·rw [if_pos k3]
    have hu:=len_upper w0
    have mZ:=(eL (fN hk w0 sX)).2
    have hq:Str.length "q" = 1:=by decide +kernel
    refine ⟨trivial,_,_,.inl hp,ha0,trivial,?_⟩
    show w0.length<=10000/\_
    refine ⟨by omega,by omega,by show 1<=sizeLine;omega,fun p2 H2 n2=>⟨_,.of (n2.same _ _ n1.at_),fun q3 H3 n3=>⟨_,_,n3.same _ _ n2.at_,n3.at_,?_,fun p4 h4=>?_⟩⟩⟩
    ·rw [show fO (ws.map V.str) (some 1) none=(ws.map V.str).drop 1 from Bi (j:=1) (by omega),Zp6,mT]
     show 1+_<=_
     omega
    ·have e:[V.str (Txt.upper w0 ++ "q")] ++ fO (ws.map V.str) (some 1) none=((Txt.upper w0 ++ "q") :: ws.drop 1).map V.str:=by
      rw [show fO (ws.map V.str) (some 1) none=(ws.map V.str).drop 1 from Bi (j:=1) (by omega),ZpD,ZqD];rfl
     rw [e]
     refine ⟨(Txt.upper w0 ++ "q") :: ws.drop 1,.of cq,oi (k:=200) (fun y hy=>?_) (by rw [ZpG,Zp6];omega) (by decide),by decide,q _ _ (yS hk (by rw [Zp6];omega) sX fun y hy=>ZqB hy) (((s1.trans n2.same).trans n3.same).put (((s1.trans n2.same).trans n3.same).nil h4))⟩
     rcases ZpE.mp hy with rfl | hy
     ·rw [bH];omega
     ·have:=(eL (fN hk y (ZqB hy))).2;omega
   rw [if_neg k3]
   refine ⟨_,_,.inl hp,ha0,?_⟩
   show if w0 = "board" then _ else _
   rcases QJ hk hg0 with ⟨e0,rfl,hb⟩ | ⟨e0,e1,rfl,ho⟩ | ⟨e0,e1,rfl,ip⟩
   ·rw [if_pos e0]
    have h1:∃ i,0<=i/\i<=999/\ws=[("board" : Str),sN i]:=hb
    obtain ⟨i,i0,i1,ew⟩:=h1
    refine ⟨_,_,.inl hp,jF (j:=1) (by rw [ew];rfl),cd,sN i,c / 8,rfl,uV ⟨i,i0,i1,rfl⟩,by omega,fun b H2 hbr s2=>?_⟩
    have l6:Str.length "board " = 6:=by decide +kernel
    have l3:Str.length " 3" = 2:=by decide +kernel
    show Str.length "board " + b.length<=sizeLine/\_
    have Vf:=hbr.2.2
    refine ⟨by omega,by omega,by show 2<=sizeLine;omega,fun p3 H3 n3=>?_⟩
    obtain ⟨v,e,hv⟩:=HF (i:=c % 8) (F:=fun v=>Q v H3) (q _ H3 (xD hbr) ((s1.trans s2).trans n3.same)) (q _ H3 (BF hb) ((s1.trans s2).trans n3.same))
    exact ⟨by decide,_,v,.inl n3.sq,e,hv⟩
   ·rw [if_neg e0]
    refine ⟨_,_,.inl hp,ha0,?_⟩
    show if w0 = "out" then _ else _
    rw [if_pos e1]
    have C4:=Zrj (c / 8) (show (ws.length:Int)≠0 by omega)
    have vv:=Zrk (c / 8) (show 0<(ws.length:Int) by omega)
    obtain ⟨j,ej,j1,jl⟩:∃ j:Nat,(if c / 8 % (ws.length:Int) > 1 then c / 8 % (ws.length:Int) else 1)=(j:Int)/\1<=j/\j<ws.length:=by
     by_cases g:c / 8 % (ws.length:Int) > 1
     ·rw [if_pos g];exact ⟨(c / 8 % (ws.length:Int)).toNat,by omega,by omega,by omega⟩
     ·rw [if_neg g];exact ⟨1,rfl,by omega,by omega⟩
    obtain ⟨w,hw⟩:∃ w,ws[j]? = some w:=⟨_,ZpH jl⟩
    have ht:lK w:=by
     obtain ⟨ts,_,hts,ew⟩:=ho
     obtain ⟨i,rfl⟩:∃ i,j=i+1:=⟨j - 1,by omega⟩
     rw [ew,ZpV,ZpF] at hw
     cases e2:ts[i]? with
     | none=>rw [e2] at hw;cases hw
     | some t=>rw [e2] at hw;exact ⟨t,(hts t (ZpP e2)).1,(hts t (ZpP e2)).2,(Option.some.inj hw).symm⟩
    exact ⟨trivial,Lx s1 n1.at_ ej ed (fun w hw=>(eL (fN hk w hw)).2) hw ht c0 (fun b hb=>FZ ho ed j1 jl hb) q⟩
   ·rw [if_neg e0]
    refine ⟨_,_,.inl hp,ha0,?_⟩
    show if w0 = "out" then _ else _
    rw [if_neg e1]
    by_cases k4:c % 8=4
    ·rw [if_pos k4]
     refine ⟨by show 4<=sizeLine;omega,fun p2 H2 n2=>?_⟩
     obtain ⟨z,e,l,hb⟩:=pb (i:=c / 8) (P:=fun s=>s.length<=2/\gD 1 (jn ws ++ s)) fun s hs=>⟨(show ∀ s∈[("0" : Str),"2"," 1","01"],s.length<=2 by decide +kernel) s hs,Hg ip s hs⟩
     refine ⟨cd,by decide,_,_,.inl n2.sq,e,?_⟩
     show (jn ws).length+z.length<=sizeLine/\_
     exact ⟨by omega,q _ H2 hb (s1.trans n2.same)⟩
    rw [if_neg k4]
    by_cases k5:c % 8=5
    ·rw [if_pos k5]
     refine ⟨by omega,by show 4<=sizeLine;omega,fun p2 H2 n2=>?_⟩
     obtain ⟨z,e,l,hb⟩:=pb (i:=c / 8) (P:=fun s=>s.length<=2/\gD 1 (Txt.slice (jn ws) none (some (-1)) ++ s)) fun s hs=>⟨(show ∀ s∈[("" : Str),"2","x","-"],s.length<=2 by decide +kernel) s hs,Gu ip s hs⟩
     refine ⟨cd,by decide,_,_,.inl n2.sq,e,?_⟩
     have SW:=Txt.slice_le (jn ws) none (some (-1))
     show (Txt.slice (jn ws) none (some (-1))).length+z.length<=sizeLine/\_
     exact ⟨by omega,q _ H2 hb (s1.trans n2.same)⟩
    rw [if_neg k5]
    have mZ:=(eL (fN hk w0 sX)).2
    have l4:Str.length " of " = 4:=by decide +kernel
    have l5:Str.length "is " = 3:=by decide +kernel
    have l6:Str.length "1 2 3 4 5 6 7 is " = 17:=by decide +kernel
    have mf:bC (Txt.mul "01" 64)/\(Txt.mul "01" 64).length=128:=by unfold bC;decide +kernel
    by_cases k6:c % 8=6
    ·rw [if_pos k6]
     obtain ⟨tw,htw,AL⟩:∃ tw,tw∈ws/\dC (ws.map V.str) (-1)=some (.str tw):=by
      have hx:ws[ws.length - 1]? = some ws[ws.length - 1]:=ZpH (by omega)
      exact ⟨_,ZpP hx,pG (j:=1) (by decide) (by omega) (by rw [mT,ZpF,hx];rfl)⟩
     have BV:=(eL (fN hk tw htw)).2
     refine ⟨_,_,.inl hp,ha0,?_⟩
     show w0.length+Str.length " of " <= sizeLine/\_
     refine ⟨by omega,_,_,.inl hp,AL,?_⟩
     show Str.length "is " + tw.length<=sizeLine/\_
     refine ⟨by omega,by unfold MulOk;decide +kernel,by omega,by show 2<=sizeLine;omega,fun p2 H2 n2=>⟨cd,by decide,?_⟩⟩
     have z:c / 8 % 2=0\/c / 8 % 2=1:=by omega
     rcases z with z | z <;> rw [z]
     ·refine ⟨_,_,.inl n2.sq,rfl,?_⟩
      show (w0 ++ " of ").length+("is " ++ tw).length<=sizeLine/\_
      exact ⟨by rw [bH,bH];omega,q _ H2 (zK ip sX htw) (s1.trans n2.same)⟩
     ·refine ⟨_,_,.inl n2.sq,rfl,?_⟩
      show (w0 ++ " of ").length+("1 2 3 4 5 6 7 is " ++ Txt.mul "01" 64).length<=sizeLine/\_
      exact ⟨by rw [bH,bH];omega,q _ H2 (zx ip sX mf.1 (by omega)) (s1.trans n2.same)⟩
    rw [if_neg k6]
    obtain ⟨v0,cw,tw,ew,h1,h6,n0,nc,htb⟩:=xg ip
    have hlen:ws.length=cw.length+4:=by rw [ew];simp
    refine .inl ⟨_,.inl hp,?_⟩
    rw [mT]
    have C4:=Zrj (c / 8 % (ws.length:Int)) (show (ws.length:Int) - 4≠0 by omega)
    have vv:=Zrk (c / 8 % (ws.length:Int)) (show 0<(ws.length:Int) - 4 by omega)
    generalize c / 8 % (ws.length:Int) % ((ws.length:Int) - 4)=ii at C4 vv
    obtain ⟨i,ei,il⟩:∃ i:Nat,ii=(i:Int)/\i<cw.length:=⟨ii.toNat,by omega,by omega⟩
    have hw:ws[i+2]? = some cw[i]:=by rw [ew,ZpV,ZpV,Zp5 il,ZpH il]
    exact ⟨by omega,trivial,Lx (j:=i+2) s1 n1.at_ (by omega) ed (fun w hw=>(eL (fN hk w hw)).2) hw (uV (nc _ (Zqg il))) c0 (fun b hb=>He ip (by omega) (by omega) hb) q⟩
structure GB (m:Nat) (ps:List Pc) (ties:List Int):Prop where
 m2:2<=m
 m9:m<=9
 wp:WP m ps
 wt:WT m ps ties
 n2:2<=ps.length
 nD:ps.length<=20
 hi:∀ p∈ps,p.1<=809
 t3:ties.length<=3
theorem WP.below {m:Nat}{ps:List Pc} (w:WP m ps):∀ i,i<=ps.length->∀ x∈jx.known m (ps.take i),x<=dH m (ps.take i)
 | 0,_,x,hx=>by
  rw [Zqy] at hx ⊢
  unfold jx.known at hx
  rw [Zqc,Zp4] at hx
  obtain ⟨k,hk,rfl⟩:=ZpS.mp hx
  have:=Zqh.mp hk
  show 1+(k:Int)<=(m:Int)
  omega
 | i+1,h,x,hx=>by
  have hp:ps[i]? = some ps[i]:=ZpH h
  rw [BO hp] at hx ⊢
  rw [wb]
  rw [F2] at hx
  rcases ZpM.mp hx with z | z
  ·have:=WP.below w i (by omega) x z
   have:=(w i _ hp).up
   omega
  ·rw [ZpQ] at z
   omega
theorem CW {m:Int}{ps:List Pc}{ties:List Int} (h:sV (.int m) (ps.map up) (ties.map V.int)):∃ mn:Nat,m=(mn:Int)/\1<=mn/\mn<=10/\WP mn ps/\∀ t∈ties,t / 2=0\/t / 2∈known mn ps:=by
 obtain ⟨mn,qs,ts,e1,e2,e3,h1,h2,w,_,ht⟩:=h
 have e4:=CN e2
 have e5:=zE e3
 subst e4 e5
 exact ⟨mn,V.int.inj e1,h1,h2,w,ht⟩
theorem GB.ok {m:Nat}{ps:List Pc}{ties:List Int} (g:GB m ps ties) {p:Pc} (hp:p∈ps):kT p:=by
 obtain ⟨i,hi⟩:=Zqr.mp hp
 have w:=g.wp i p hi
 have kb:=g.wp.kb hi
 have m9:=g.m9
 exact ⟨by omega,kb.2,w.l1,w.l6,fun x hx=>by have:=g.wp.known (by omega) (w.kn x hx);omega,w.t0,by have:=w.t1;exact_mod_cast this⟩
theorem GB.jE {m:Nat}{ps:List Pc}{ties:List Int} (g:GB m ps ties):∀ t∈ties,0<=t/\t / 2<=999:=fun t ht=>g.wt.half g.wp (by have:=g.m9;omega) ht
theorem GB.jy {m:Nat}{ps:List Pc}{ties:List Int} (g:GB m ps ties):Form (bQ m ps ties) m ps ties :=
 ⟨rfl,by omega,by have:=g.m9;omega,fun p hp=>g.ok hp,g.wt.l1,g.jE⟩
theorem GB.good {m:Nat}{ps:List Pc}{ties:List Int} (g:GB m ps ties):sV (.int m) (ps.map up) (ties.map V.int) :=
 ⟨m,ps,ties,rfl,rfl,rfl,by have:=g.m2;omega,by have:=g.m9;omega,g.wp,g.wt.l1,fun t ht=>(g.wt.jE t ht).2⟩
noncomputable def kh (rows:List (List Str)):Prop:=∃ m ps ties,Form rows m ps ties/\¬ sV (.int m) (ps.map up) (ties.map V.int)/\ties.length<=10/\ps.length<=30
theorem Us {m:Nat}{ps:List Pc}{ties:List Int} (g:GB m ps ties) {m':Int} (h0:0<=m') (h1:m'<=999) (hn:m'<1\/10<m'):kh (bQ m' ps ties):=by
 refine ⟨m',ps,ties,⟨rfl,h0,h1,fun p hp=>g.ok hp,g.wt.l1,g.jE⟩,fun z=>?_,by have:=g.t3;omega,by have:=g.nD;omega⟩
 obtain ⟨mn,e,a,b,_⟩:=CW z
 omega
theorem JS {m:Nat}{ps:List Pc}{ties:List Int} (g:GB m ps ties) {j:Nat}{p:Pc} (hj:j<ps.length) (ok:kT p) (hn:∀ w:WP m (ps.set j p),¬ sI m (ps.take j) p):kh (bQ m (ps.set j p) ties):=by
 refine ⟨m,ps.set j p,ties,⟨rfl,by omega,by have:=g.m9;omega,fun q hq=>?_,g.wt.l1,g.jE⟩,fun z=>?_,by have:=g.t3;omega,by rw [Zqf];have:=g.nD;omega⟩
 ·rcases ZqH hq with h | rfl
  ·exact g.ok h
  ·exact ok
 ·obtain ⟨mn,e,a,b,w,_⟩:=CW z
  have em:mn=m:=by omega
  subst em
  have:=w j p (Zqn hj)
  rw [List.take_set_of_le (ZqY j)] at this
  exact hn w this
theorem RS {m:Nat}{ps:List Pc}{ties:List Int} (g:GB m ps ties) {j:Nat}{p:Pc} (hp:ps[j]? = some p) {k:Int} (k0:0<=k) (k1:k<=m):kh (bQ m (ps.set j (k,p.2)) ties):=by
 have hj:=(ZpL.mp hp).1
 have ok:=g.ok (ZpP hp)
 have m9:=g.m9
 refine JS g hj ⟨k0,by show k<=999;omega,ok.l1,ok.l6,ok.cut,ok.t0,ok.t1⟩ fun _ z=>?_
 have h1:=g.wp.top j (by omega)
 have h2:dH m (ps.take j)<k:=z.up
 omega
theorem FK {m:Nat}{ps:List Pc}{ties:List Int} (g:GB m ps ties) {j:Nat}{p:Pc} (hp:ps[j]? = some p) {x y t:Int} (x0:0<=x) (x1:x<=999) (y0:0<=y) (y1:y<=999) (t0:0<=t) (t1:t<16) (hn:y<=x\/x=0\/p.1<=y):kh (bQ m (ps.set j (p.1,[x,y],t)) ties):=by
 have hj:=(ZpL.mp hp).1
 have ok:=g.ok (ZpP hp)
 refine JS g hj ⟨ok.k0,ok.k1,(by show 1<=2;decide),(by show 2<=6;decide),fun z hz=>?_,t0,t1⟩ fun _ z=>?_
 ·simp only [ZpE,ZpY,or_false] at hz
  rcases hz with rfl | rfl
  ·exact ⟨x0,x1⟩
  ·exact ⟨y0,y1⟩
 ·have hr:x<y:=by
   have:=z.J4
   simp only [ZqQ,ZpQ,forall_eq] at this
   exact this.1
  have kx:x∈known m (ps.take j):=z.kn x (by simp)
  have ky:y∈known m (ps.take j):=z.kn y (by simp)
  have:=g.wp.known (by have:=g.m9;omega) kx
  have h3:=g.wp.below j (by omega) y ky
  have h4:dH m (ps.take j)<p.1:=z.up
  omega
theorem QP {m:Nat}{ps:List Pc}{ties:List Int} (g:GB m ps ties) {j:Nat}{p:Pc} (hp:ps[j]? = some p):kh (bQ m (ps.take j ++ p :: ps.drop j) ties):=by
 have hj:=(ZpL.mp hp).1
 refine ⟨m,ps.take j ++ p :: ps.drop j,ties,⟨rfl,by omega,by have:=g.m9;omega,fun q hq=>?_,g.wt.l1,g.jE⟩,fun z=>?_,by have:=g.t3;omega,?_⟩
 ·rcases ZpM.mp hq with h | h
  ·exact g.ok (ZqA h)
  ·rcases ZpE.mp h with rfl | h
   ·exact g.ok (ZpP hp)
   ·exact g.ok (ZqB h)
 ·obtain ⟨mn,e,a,b,w,_⟩:=CW z
  have em:mn=m:=by omega
  subst em
  have lt:(ps.take j).length=j:=by rw [Zp2];omega
  have e1:(ps.take j ++ p :: ps.drop j)[j+1]? = some p:=by
   rw [ZpW (by omega),lt,show j+1 - j=1 by omega,ZpV,List.getElem?_drop]
   exact hp
  have:=(w (j+1) p e1).up
  rw [show (ps.take j ++ p :: ps.drop j).take (j+1)=ps.take j ++ [p] by rw [List.take_append,lt,Zqk (by omega),show j+1 - j=1 by omega];rfl,wb] at this
  omega
 ·rw [ZpI,Zp2,ZpG,Zp6]
  have:=g.nD
  omega
theorem Ke {m:Nat}{ps:List Pc}{ties ts:List Int} (g:GB m ps ties) {t:Int} (ht:t∈ts) (hb:∀ t∈ts,0<=t/\t / 2<=999) (Md:ts.length<=10) (hn:dH m ps<t / 2):kh (bQ m ps ts):=by
 have m9:=g.m9
 have nD:=g.nD
 refine ⟨m,ps,ts,⟨rfl,by omega,by omega,fun p hp=>g.ok hp,ZqX ht,hb⟩,fun z=>?_,Md,by omega⟩
 obtain ⟨mn,e,a,b,w,h⟩:=CW z
 have em:mn=m:=by omega
 subst em
 have h1:=g.wp.top ps.length (ZqY _)
 rw [Zp1] at h1
 rcases h t ht with h | h
 ·omega
 ·have:=g.wp.below ps.length (ZqY _) (t / 2) (by rw [Zp1];exact h)
  rw [Zp1] at this
  omega
theorem GB.top {m:Nat}{ps:List Pc}{ties:List Int} (g:GB m ps ties) {p:Pc} (hp:ps[ps.length - 1]? = some p):dH m ps=p.1:=by
 have n2:=g.n2
 have e:=BO hp
 rw [show ps.length - 1+1=ps.length by omega,Zp1] at e
 rw [e,wb]
noncomputable def BA (n i:Nat):Nat:=if i=0 then 0 else if i+1=n then 2 else 1
theorem vT {rows:List (List Str)}{m:Int}{ps:List Pc}{ties:List Int} (f:Form rows m ps ties):rows.length=ps.length+2:=by
 rw [f.eq];unfold bQ;simp
theorem Hf {rows:List (List Str)}{m:Int}{ps:List Pc}{ties:List Int} (f:Form rows m ps ties) {i:Nat}{ws:List Str} (h:rows[i]? = some ws):Kd (BA rows.length i) ws:=by
 have hl:=vT f
 have hi:=(ZpL.mp h).1
 rw [f.eq] at h
 unfold bQ at h
 unfold BA
 by_cases h0:i=0
 ·subst h0
  rw [if_pos rfl]
  exact .inl ⟨rfl,m,f.m0,f.m1,(Option.some.inj h).symm⟩
 ·obtain ⟨j,rfl⟩:∃ j,i=j+1:=⟨i - 1,by omega⟩
  rw [if_neg h0]
  rw [ZpV] at h
  by_cases h1:j+1+1=rows.length
  ·rw [if_pos h1]
   rw [ZpW (by rw [ZpC];omega),ZpC,show j - ps.length=0 by omega] at h
   exact .inr (.inr ⟨rfl,ties,f.t1,f.jE,(Option.some.inj h).symm⟩)
  ·rw [if_neg h1]
   rw [Zp5 (by rw [ZpC];omega),ZpF] at h
   cases e:ps[j]? with
   | none=>rw [e] at h;cases h
   | some p=>rw [e] at h;exact .inr (.inl ⟨rfl,p,f.iK p (ZpP e),(Option.some.inj h).symm⟩)
theorem DA {rows:List (List Str)}{m:Int}{ps:List Pc}{ties:List Int} (f:Form rows m ps ties) (Md:ties.length<=10):∀ ws∈rows,gv ws/\ws.length<=20:=by
 intro ws hw
 obtain ⟨i,hi⟩:=Zqr.mp hw
 have hk:=Hf f hi
 have ed:ws.length<=20:=by
  rcases hk with ⟨_,_,_,_,rfl⟩ | ⟨_,p,ok,rfl⟩ | ⟨e,ts,_,_,rfl⟩
  ·simp
  ·rw [mh];have:=ok.l6;omega
  ·have hl:=vT f
   have e2:ts.length=ties.length:=by
    unfold BA at e
    by_cases h0:i=0
    ·rw [if_pos h0] at e;cases e
    rw [if_neg h0] at e
    by_cases h1:i+1=rows.length
    ·rw [f.eq] at hi
     unfold bQ at hi
     obtain ⟨j,rfl⟩:∃ j,i=j+1:=⟨i - 1,by omega⟩
     rw [ZpV,ZpW (by rw [ZpC];omega),ZpC,show j - ps.length=0 by omega] at hi
     have:=congrArg Zp7 (List.cons.inj (Option.some.inj hi)).2
     rw [ZpC,ZpC] at this
     exact this.symm
    ·rw [if_neg h1] at e;cases e
   rw [ZpG,ZpC]
   omega
 exact ⟨m6 (oz hk) (fun w hw=>jo (fN hk w hw)) (by have:=lD hk ed;omega),ed⟩
theorem RT {rows:List (List Str)}{i:Nat}{ws:List Str} (h:rows[i]? = some ws) (hn:¬ Kd (BA rows.length i) ws):¬ ∃ m ps ties,Form rows m ps ties:=fun ⟨_,_,_,f⟩=>hn (Hf f h)
noncomputable def iI (H:Hp) (l:Addr) (rows:List (List Str)):Prop:=H l=some (.lst ((rows.map jn).map V.str))
theorem Kz {m:Int}{ps:List Pc}{ties:List Int}{j:Nat}{p:Pc} (h:ps[j]? = some p):(bQ m ps ties)[j+1]? = some (br p):=by
 have hj:=(ZpL.mp h).1
 unfold bQ
 rw [ZpV,Zp5 (by rw [ZpC];exact hj),ZpF,h]
 rfl
theorem OJ {m:Int}{ps:List Pc}{ties:List Int}:(bQ m ps ties)[ps.length+1]? = some (("out" : Str) :: ties.map bA):=by
 unfold bQ
 rw [ZpV,ZpW (by rw [ZpC];omega),ZpC,Zq5]
 rfl
theorem B4 {m:Int}{ps:List Pc}{ties:List Int}{j:Nat} (p:Pc) (h:j<ps.length):(bQ m ps ties).set (j+1) (br p)=bQ m (ps.set j p) ties:=by
 unfold bQ
 rw [Zqz,List.set_append_left _ _ (by rw [ZpC];exact h),ZqT]
theorem Jo {m:Int}{ps:List Pc}{ties:List Int} (ts:List Int):(bQ m ps ties).set (ps.length+1) (("out" : Str) :: ts.map bA)=bQ m ps ts:=by
 unfold bQ
 rw [Zqz,List.set_append_right _ _ (by rw [ZpC];omega),ZpC,Zq5]
 rfl
theorem TQ {m:Int}{ps:List Pc}{ties:List Int}{j:Nat} (p:Pc) (h:j<=ps.length):(bQ m ps ties).take (j+1) ++ br p :: (bQ m ps ties).drop (j+1)=bQ m (ps.take j ++ p :: ps.drop j) ties:=by
 unfold bQ
 rw [List.take_succ_cons,List.drop_succ_cons,List.take_append,List.drop_append,ZpC,show j - ps.length=0 by omega,Zqy,Zp4,List.drop_zero,ZpK,ZpD,Zqq,ZqD]
 simp
theorem iI.set {H:Hp}{l:Addr}{rows:List (List Str)}{i:Nat}{x:Str}{ws:List Str} (e:x=jn ws):iI (upd H l (.lst ((((rows.map jn).map V.str)).set i (.str x)))) l (rows.set i ws):=by
 unfold iI
 rw [cq,ZqT,ZqT,e]
theorem Dm (k x y t:Int):jn (br (k,[x,y],t))=sN k ++ " of " ++ (sN x ++ " " ++ sN y) ++ (" is " ++ cO t 2):=by
 refine gf ?_
 show (jn [sN k,("of" : Str),sN x,sN y,("is" : Str),cO t 2]).cps.toList=_
 rw [fh,fh,fh,fh,fh]
 simp only [bz]
 rw [show (" of " : Str).cps.toList=32 :: (("of" : Str).cps.toList ++ [32]) by decide +kernel,show (" is " : Str).cps.toList=32 :: (("is" : Str).cps.toList ++ [32]) by decide +kernel,nB]
 simp
 rfl
theorem uC {K:ZoW}{k:Nat}{i n:Int}{t u:TS}{D:Ends}{σ:L2.St}{H:Hp} (hv:∀ Q:VK,Q (.int i) H->aa k σ H Q) (h1:i=n->t D σ H) (h2:i≠n->u D σ H):cM (bK (af (gA K) (aa k) (tC (.int n)))) t u D σ H:=by
 unfold cM
 rw [FL]
 unfold CM af tC
 refine hv _ ?_
 refine ⟨decide (i=n),rfl,?_⟩
 by_cases h:i=n
 ·rw [decide_eq_true h];exact h1 h
 ·rw [decide_eq_false h];exact h2 h
theorem GP {n j:Nat} (h:j<n):jH n (j:Int)=some j:=by
 unfold jH
 rw [if_pos (by omega),if_pos (by omega),Zri]
theorem MN {n j:Nat} (h:n=j+1):jH n (-1)=some j:=by
 unfold jH
 rw [if_neg (by decide),if_pos (by omega),show (-1+(n:Int)).toNat=j by omega]
noncomputable def IC (_:ZoW):Sp:=fun vs H Q _=>∃ (l:Addr) (m:Nat) (ps:List Pc) (ties:List Int) (c:Int),vs=[.ref l,.int m,.int c]/\iI H l (bQ m ps ties)/\GB m ps ties/\0<=c /\
 ∀ l' H' rows,aH H H'->iI H' l' rows->H l'=none->kh rows->Q (.ref l') H'
noncomputable def HW (K:ZoW):TS:=(aV (bG (bw (oE K) (ah (aa 0) ar)) (aK 0))
  (aV (bG (af bc (tC (.int 1)) (af (aQ (fun _ j=>0<j) fun i j=>.int (i % j)) (af (aQ cX fun i j=>.int (i / j)) (aa 2) (tC (.int 8))) (af (fQ fun i j=>.int (i - j)) (bw (gY K) (ah (aa 0) ar)) (tC (.int 2))))) (aK 3))
  (aV (bG (gS K "str" vZ (af (bE K) (aa 0) (aa 3)) (ah (tC (.str " ")) ar)) (aK 4))
  (aV (bG (af (aQ (fun _ j=>0<j) fun i j=>.int (i % j)) (aa 2) (tC (.int 8))) (aK 5))
  (tE (cM (bK (af (gA K) (aa 5) (tC (.int 0)))) (bG (af bc (tC (.str "board ")) (af (bE K) (fH (mW [(.str "0"),(.str "11"),(.str "999")])) (af (aQ (fun _ j=>0<j) fun i j=>.int (i % j)) (af (aQ cX fun i j=>.int (i / j)) (aa 2) (tC (.int 8))) (tC (.int 3))))) (nC (aa 0) (tC (.int 0)) kg)) (cM (bK (af (gA K) (aa 5) (tC (.int 1)))) (bG (gS K "str" (lW K) (tC (.str " ")) (ah (af bc (fH (ah (bw jP (ah (af (aQ (fun _ j=>0<j) fun i j=>.int (i % j)) (af (aQ cX fun i j=>.int (i / j)) (aa 2) (tC (.int 64))) (af bc (aa 1) (tC (.int 1)))) ar)) ar)) (jY (ka K) (aa 4) (iR (tC (.int 1))) kJ)) ar)) (nC (aa 0) (aa 3) kg)) (cM (bK (af (gA K) (aa 5) (tC (.int 2)))) (nI (gS K "list" HX (aa 0) (ah (aa 3) (ah (af (bE K) (aa 0) (aa 3)) ar)))) (cM (bK (af (gA K) (aa 5) (tC (.int 3)))) (bG (af bc (af bc (af bc (af bc (af bc (af (bE K) (aa 4) (tC (.int 0))) (tC (.str " of "))) (af (bE K) (aa 4) (tC (.int 2)))) (tC (.str " "))) (af (bE K) (aa 4) (tC (.int 2)))) (tC (.str " is 0110"))) (nC (aa 0) (aa 3) kg)) (cM (bK (af (gA K) (aa 5) (tC (.int 4)))) (bG (af bc (af bc (af bc (af (bE K) (aa 4) (tC (.int 0))) (tC (.str " of "))) (af (bE K) (fH (ah (tC (.str "2 1")) (ah (tC (.str "0 1")) (ah (af bc (tC (.str "1 ")) (af (bE K) (aa 4) (tC (.int 0)))) ar)))) (af (aQ (fun _ j=>0<j) fun i j=>.int (i % j)) (af (aQ cX fun i j=>.int (i / j)) (aa 2) (tC (.int 64))) (tC (.int 3))))) (tC (.str " is 0111"))) (nC (aa 0) (aa 3) kg)) (cM (bK (af (gA K) (aa 5) (tC (.int 5)))) (aV (bG (af bc (af bc (bw A4 (ah (af (bE K) (aa 4) (tC (.int 0))) ar)) (tC (.int 1))) (af (aQ (fun _ j=>0<j) fun i j=>.int (i % j)) (af (aQ cX fun i j=>.int (i / j)) (aa 2) (tC (.int 64))) (tC (.int 9)))) (aK 6))
  (bG (af bc (af bc (af bc (af (bE K) (aa 4) (tC (.int 0))) (tC (.str " of 1 "))) (bw jP (ah (aa 6) ar))) (tC (.str " is 0001"))) (nC (aa 0) (aa 3) kg))) (cM (bK (af (gA K) (aa 5) (tC (.int 6)))) (bG (af bc (af bc (af bc (af (bE K) (aa 0) (j5 jQ (tC (.int 1)))) (tC (.str " "))) (af (bE K) (fH (mW [(.str ""),(.str "-")])) (af (aQ (fun _ j=>0<j) fun i j=>.int (i % j)) (af (aQ cX fun i j=>.int (i / j)) (aa 2) (tC (.int 64))) (tC (.int 2))))) (tC (.str "999"))) (nC (aa 0) (j5 jQ (tC (.int 1))) kg)) (aV (bG (bw A4 (ah (af (bE K) (gS K "str" vZ (af (bE K) (aa 0) (j5 jQ (tC (.int 2)))) (ah (tC (.str " ")) ar)) (tC (.int 0))) ar)) (aK 7))
  (bG (af bc (af bc (tC (.str "out ")) (af (bE K) (fH (mW [(.str ""),(.str "-")])) (af (aQ (fun _ j=>0<j) fun i j=>.int (i % j)) (af (aQ cX fun i j=>.int (i / j)) (aa 2) (tC (.int 64))) (tC (.int 2))))) (bw jP (ah (af bc (aa 7) (tC (.int 1))) ar))) (nC (aa 0) (j5 jQ (tC (.int 1))) kg))))))))))
  (cA (aa 0)))))))
theorem Om (T:Txt K mg a):TM P w K mg base 0 "_law_no_board" Br II a.bY (HW K) :=
 fun hr=>(aW (dv (i:=0) uA.nd rfl (by walk_at "o") (fP wd (by rfl) T.dm PyProof.Rows.boot_list (ai (cv 0) au)))
   (aW (dv (i:=3) uA.nd rfl (by walk_at "o") (aw bf ak (aw dE (aw fg (cv 2) ak) (aw CO (dX iE (by rfl) T.aL PySem.boot_len (ai (cv 0) au)) ak))))
   (aW (dv (i:=4) uA.nd rfl (by walk_at "o") (iD Zpr Zpy Zpz B8 (bN bM (cv 0) (cv 3) (fun _ _=>rfl)) (ai aM au)))
   (aW (dv (i:=5) uA.nd rfl (by walk_at "o") (aw dE (cv 2) ak))
   (BL (dD (cI (ic (eM hr)) (cv 5) ak (cB _)) (aS (o6 (aw bf aM (bN bM (gN (ni (vs:=[(.str "0"),(.str "11"),(.str "999")]) rfl)) (aw dE (aw fg (cv 2) ak) ak) (fun _ _=>rfl))) (pk (cv 0) ak oQ))) (aS (dD (cI (ic (eM hr)) (cv 5) ak (cB _)) (aS (o6 (iD Zpr Zpt Zpu nr aM (ai (aw bf (gN (ai (fP kP (by rfl) T.bI PyProof.Rows.boot_str (ai (aw dE (aw fg (cv 2) ak) (aw bf (cv 1) ak)) au)) au)) (kR kG (cv 4) (j6 ak) mR)) au)) (pk (cv 0) (cv 3) oQ))) (aS (dD (cI (ic (eM hr)) (cv 5) ak (cB _)) (aS (oZ (iD Zpv PySem.F.slot_list_insert PySem.F.type_list_insert Ox (cv 0) (ai (cv 3) (ai (bN bM (cv 0) (cv 3) (fun _ _=>rfl)) au))))) (aS (dD (cI (ic (eM hr)) (cv 5) ak (cB _)) (aS (o6 (aw bf (aw bf (aw bf (aw bf (aw bf (bN bM (cv 4) ak (fun _ _=>rfl)) aM) (bN bM (cv 4) ak (fun _ _=>rfl))) aM) (bN bM (cv 4) ak (fun _ _=>rfl))) aM) (pk (cv 0) (cv 3) oQ))) (aS (dD (cI (ic (eM hr)) (cv 5) ak (cB _)) (aS (o6 (aw bf (aw bf (aw bf (bN bM (cv 4) ak (fun _ _=>rfl)) aM) (bN bM (gN (ai aM (ai aM (ai (aw bf aM (bN bM (cv 4) ak (fun _ _=>rfl))) au)))) (aw dE (aw fg (cv 2) ak) ak) (fun _ _=>rfl))) aM) (pk (cv 0) (cv 3) oQ))) (aS (dD (cI (ic (eM hr)) (cv 5) ak (cB _)) (aW (dv (i:=6) uA.nd rfl (by walk_at "o") (aw bf (aw bf (fP Dt (by rfl) T.fU PyProof.Rows.boot_int (ai (bN bM (cv 4) ak (fun _ _=>rfl)) au)) ak) (aw dE (aw fg (cv 2) ak) ak)))
   (aS (o6 (aw bf (aw bf (aw bf (bN bM (cv 4) ak (fun _ _=>rfl)) aM) (fP kP (by rfl) T.bI PyProof.Rows.boot_str (ai (cv 6) au))) aM) (pk (cv 0) (cv 3) oQ)))) (aS (dD (cI (ic (eM hr)) (cv 5) ak (cB _)) (aS (o6 (aw bf (aw bf (aw bf (bN bM (cv 0) (kN lA ak) (fun _ _=>rfl)) aM) (bN bM (gN (ni (vs:=[(.str ""),(.str "-")]) rfl)) (aw dE (aw fg (cv 2) ak) ak) (fun _ _=>rfl))) aM) (pk (cv 0) (kN lA ak) oQ))) (aW (dv (i:=7) uA.nd rfl (by walk_at "o") (fP Dt (by rfl) T.fU PyProof.Rows.boot_int (ai (bN bM (iD Zpr Zpy Zpz B8 (bN bM (cv 0) (kN lA ak) (fun _ _=>rfl)) (ai aM au)) ak (fun _ _=>rfl)) au)))
   (aS (o6 (aw bf (aw bf aM (bN bM (gN (ni (vs:=[(.str ""),(.str "-")]) rfl)) (aw dE (aw fg (cv 2) ak) ak) (fun _ _=>rfl))) (fP kP (by rfl) T.bI PyProof.Rows.boot_str (ai (aw bf (cv 7) ak) au))) (pk (cv 0) (kN lA ak) oQ)))))))))))))))))
   (aS (cY (cv 0))))))))
theorem Ql (T:Txt K mg a):aJ P w K mg base gd 1 a.bY a.dJ ["_law_lines_here","_law_many","_law_cell"] (IC K):=by
 refine T.dW.n.iS uA (Om T) (fun vs H Q E h=>?_) (fun H vs Q E h=>?_)
 ·obtain ⟨l,m,ps,ties,c,rfl,_⟩:=h;rfl
 ·obtain ⟨l,m,ps,ties,c,rfl,hl,g,c0,q⟩:=h
  show HW K _ [some (.ref l),some (.int m),some (.int c),none,none,none,none,none] H
  unfold HW
  have big:(20000:Nat)<=sizeLine:=by decide
  have n2:=g.n2
  have nD:=g.nD
  have QH:(bQ m ps ties).length=ps.length+2:=vT g.jy
  walk_at "gs"
  have lX:(((bQ m ps ties).map jn).map V.str).length=ps.length+2:=by rw [ZpC,ZpC,QH]
  refine ⟨_,.inl (.of hl),fun l1 H1 n1=>?_⟩
  have C4:=Zrj (c / 8) (show (ps.length:Int)≠0 by omega)
  have vv:=Zrk (c / 8) (show 0<(ps.length:Int) by omega)
  obtain ⟨j,ej,jl⟩:∃ j:Nat,c / 8 % (ps.length:Int)=(j:Int)/\j<ps.length:=⟨(c / 8 % (ps.length:Int)).toNat,by omega,by omega⟩
  obtain ⟨p,hp⟩:∃ p,ps[j]? = some p:=⟨_,ZpH jl⟩
  have Ls:=Kz (m:=m) (ties:=ties) hp
  have DO:Kd 1 (br p):=.inr (.inl ⟨rfl,p,g.ok (ZpP hp),rfl⟩)
  have ok:=g.ok (ZpP hp)
  have M3:(br p).length<=20:=by rw [mh];have:=ok.l6;omega
  have pl:=lD DO M3
  have es:Txt.split (jn (br p)) " " = br p:=by unfold jn;rw [yU];exact BK 32 (oz DO) fun w hw=>jo (fN DO w hw)
  refine ⟨⟨by decide,by decide⟩,.inl ⟨_,.inl n1.sq,?_⟩⟩
  rw [lX,show ((ps.length+2:Nat):Int) - 2=(ps.length:Int) by omega,ej]
  refine ⟨by omega,_,_,.inl n1.sq,(show dC (((bQ m ps ties).map jn).map V.str) (1+(j:Int))=some (.str (jn (br p))) from by rw [show 1+(j:Int)=((j+1:Nat):Int) by omega];exact jF (by rw [ZpO,ZpF,Ls];rfl)),trivial,?_⟩
  show (Str.length " " == 0)=false/\_
  refine ⟨by decide +kernel,by omega,fun pp H2 n2=>⟨by decide,?_⟩⟩
  rw [es] at n2
  have s2:=n1.same.trans n2.same
  have h2:H2 l1=some (.lst (((bQ m ps ties).map jn).map V.str)):=n2.same _ _ n1.at_
  refine mid (fun σ' H'=>∃ r rows,σ'=some (.ref l1) :: r/\aH H H'/\iI H' l1 rows/\kh rows) (fun M hM=>?_) ?_
  ·have fin:∀ r rows H',aH H H'->iI H' l1 rows->kh rows->M (some (.ref l1) :: r) H':=fun r rows H' h1 h2 h3=>hM _ _ ⟨r,rows,rfl,h1,h2,h3⟩
   have Eb:∀ r i x ws,x=jn ws->kh ((bQ m ps ties).set i ws)->M (some (.ref l1) :: r) (upd H2 l1 (.lst ((((bQ m ps ties).map jn).map V.str).set i (.str x)))):=fun r i x ws e hn=>fin r _ _ (s2.put n1.fX) (iI.set e) hn
   have eR:∀ {H3:Hp}{k:Int}{i:Nat}{r:L2.St}{x:Str} (ws:List Str),aH H2 H3->jH (ps.length+2) k=some i->x=jn ws->kh ((bQ m ps ties).set i ws)->kg (.ref l1) (.int k) (.str x) H3 fun H4=>M (some (.ref l1) :: r) H4:=fun ws s3 ik e hn =>
    ⟨l1,_,_,_,rfl,rfl,s3 _ _ h2,by rw [lX];exact ik,fin _ _ _ ((s2.trans s3).put n1.fX) (iI.set e) hn⟩
   clear Eb
   have m9:=g.m9
   have nU:cX c 64:=⟨by decide,by decide⟩
   have kb:=g.wp.kb hp
   have OY:=g.hi p (ZpP hp)
   have Cu:jH (ps.length+2) (1+(j:Int))=some (j+1):=by rw [show 1+(j:Int)=((j+1:Nat):Int) by omega];exact GP (by omega)
   have sX:=(eL (jR ok.k0 ok.k1)).2
   have lo:Str.length " of " = 4:=by decide +kernel
   have Vd:Str.length " " = 1:=by decide +kernel
   obtain ⟨x,xr,hx⟩:∃ x xr,p.2.1=x :: xr:=ZqG (fun z=>by have:=ok.l1;rw [z] at this;simp at this)
   have xb:=ok.cut x (by rw [hx];simp)
   have U7:=(eL (jR xb.1 xb.2)).2
   have a0:dC ((br p).map V.str) 0=some (.str (sN p.1)):=jF (j:=0) rfl
   have a2:dC ((br p).map V.str) 2=some (.str (sN x)):=jF (j:=2) (by unfold br;rw [hx];rfl)
   refine uC (fun Q h=>h) (fun k0=>?_) fun _=>uC (fun Q h=>h) (fun k1=>?_) fun _=>uC (fun Q h=>h) (fun k2=>?_) fun _=>uC (fun Q h=>h) (fun k3=>?_) fun _=>uC (fun Q h=>h) (fun k4=>?_) fun _=>uC (fun Q h=>h) (fun k5=>?_) fun _=>uC (fun Q h=>h) (fun k6=>?_) fun _=>?_
   ·walk_at "gs"
    intro p3 H3 n3
    refine ⟨⟨by decide,by decide⟩,by decide,?_⟩
    have key:∀ (z:Str) (m':Int),z=sN m'->z.length<=3->0<=m'->m'<=999->m'<1\/10<m'->Str.length "board " + z.length<=sizeLine/\kg (.ref l1) (.int 0) (.str ("board " ++ z)) H3 fun H4=>M [some (.ref l1),some (.int m),some (.int c),some (.int (1+(j:Int))),some (.ref pp),some (.int (c % 8)),none,none] H4:=fun z m' e hz h0 h1 hn=>by
     refine ⟨by rw [show Str.length "board " = 6 by decide +kernel];omega,eR [("board" : Str),sN m'] n3.same (GP (j:=0) (by omega)) ?_ (Us g h0 h1 hn)⟩
     rw [e]
     refine gf ?_
     rw [fh,bz,show ("board " : Str).cps.toList=("board" : Str).cps.toList ++ [32] by decide +kernel,Zqa]
     rfl
    have z:c / 8 % 3=0\/c / 8 % 3=1\/c / 8 % 3=2:=by omega
    rcases z with z | z | z <;> rw [z]
    ·exact ⟨_,_,.inl n3.sq,rfl,key "0" 0 (by decide +kernel) (by decide +kernel) (by decide) (by decide) (by decide)⟩
    ·exact ⟨_,_,.inl n3.sq,rfl,key "11" 11 (by decide +kernel) (by decide +kernel) (by decide) (by decide) (by decide)⟩
    ·exact ⟨_,_,.inl n3.sq,rfl,key "999" 999 (by decide +kernel) (by decide +kernel) (by decide) (by decide) (by decide)⟩
   ·walk_at "gs"
    have z0:=Zrj (c / 64) (show (m:Int)+1≠0 by omega)
    have z1:=Zrk (c / 64) (show 0<(m:Int)+1 by omega)
    generalize c / 64 % ((m:Int)+1)=kk at z0 z1
    refine ⟨lB z0 (by omega),by show 1<=sizeLine;omega,fun p3 H3 n3=>⟨_,.of (n3.same _ _ n2.at_),fun q4 H4 n4=>⟨_,_,n4.same _ _ n3.at_,n4.at_,?_,fun p5 h5=>?_⟩⟩⟩
    ·rw [show fO ((br p).map V.str) (some 1) none=((br p).map V.str).drop 1 from Bi (j:=1) (by rw [ZpC,mh];omega),Zp6,ZpC]
     show 1+_<=_
     omega
    ·have e:[V.str (Str.ofString (toString kk))] ++ fO ((br p).map V.str) (some 1) none=(br (kk,p.2)).map V.str:=by
      rw [show fO ((br p).map V.str) (some 1) none=((br p).map V.str).drop 1 from Bi (j:=1) (by rw [ZpC,mh];omega)]
      rfl
     rw [e]
     have oN:Kd 1 (br (kk,p.2)):=.inr (.inl ⟨rfl,(kk,p.2),⟨z0,(show kk<=999 by omega),ok.l1,ok.l6,ok.cut,ok.t0,ok.t1⟩,rfl⟩)
     have s5:=n3.same.trans n4.same
     refine ⟨_,.of cq,oi (k:=64) (fun y hy=>(eL (fN oN y hy)).2) (by rw [mh];have:=ok.l6;show p.2.1.length+4<=200;omega) (by decide),by decide,eR _ (s5.put (s5.nil h5)) Cu rfl ?_⟩
     rw [B4 _ jl]
     exact RS g hp z0 (by omega)
   ·walk_at "gs"
    refine ⟨.inl ⟨trivial,_,.of h2⟩,_,_,.inl (.of h2),(show dC (((bQ m ps ties).map jn).map V.str) (1+(j:Int))=some (.str (jn (br p))) from by rw [show 1+(j:Int)=((j+1:Nat):Int) by omega];exact jF (by rw [ZpO,ZpF,Ls];rfl)),l1,_,rfl,h2,by omega,by rw [lX];omega,by rw [lX];omega,fin _ (bQ m (ps.take j ++ p :: ps.drop j) ties) _ (s2.put n1.fX) ?_ (QP g hp)⟩
    unfold iI
    rw [cq,show (1+(j:Int)).toNat=j+1 by omega,<- TQ p (by omega),ZpK,ZpK,ZpD,ZpD,Zqq,Zqq,ZqD,ZqD]
   ·walk_at "gs"
    refine ⟨_,_,.inl n2.sq,a0,?_⟩
    show (sN p.1).length+Str.length " of " <= sizeLine/\_
    refine ⟨by omega,_,_,.inl n2.sq,a2,?_⟩
    show (sN p.1 ++ " of ").length+(sN x).length<=sizeLine/\_
    refine ⟨by rw [bH];omega,by rw [bH,bH];omega,_,_,.inl n2.sq,a2,?_⟩
    show (sN p.1 ++ " of " ++ sN x ++ " ").length+(sN x).length<=sizeLine/\_
    refine ⟨by rw [bH,bH,bH];omega,by rw [bH,bH,bH,bH,show Str.length " is 0110" = 8 by decide +kernel];omega,eR (br (p.1,[x,x],6)) (fun _ _ h=>h) Cu ?_ ?_⟩
    ·rw [Dm,show (" is " : Str) ++ cO 6 2 = " is 0110" by decide +kernel,<- oR,<- oR]
    ·rw [B4 _ jl]
     exact FK g hp xb.1 xb.2 xb.1 xb.2 (by decide) (by decide) (.inl (Zrm _))
   ·walk_at "gs"
    refine ⟨_,_,.inl n2.sq,a0,?_⟩
    show (sN p.1).length+Str.length " of " <= sizeLine/\_
    refine ⟨by omega,_,_,.inl n2.sq,a0,?_⟩
    show Str.length "1 " + (sN p.1).length<=sizeLine/\_
    refine ⟨by rw [show Str.length "1 " = 2 by decide +kernel];omega,by show 3<=sizeLine;omega,fun p3 H3 n3=>⟨nU,by decide,?_⟩⟩
    have key:∀ (z:Str) (x y:Int),z=sN x ++ " " ++ sN y->0<=x->x<=999->0<=y->y<=999->y<=x\/x=0\/p.1<=y->(sN p.1 ++ " of ").length+z.length<=sizeLine/\(sN p.1 ++ " of " ++ z).length+Str.length " is 0111" <= sizeLine/\kg (.ref l1) (.int (1+(j:Int))) (.str (sN p.1 ++ " of " ++ z ++ " is 0111")) H3 fun H4=>M [some (.ref l1),some (.int m),some (.int c),some (.int (1+(j:Int))),some (.ref pp),some (.int (c % 8)),none,none] H4:=fun z x y e x0 x1 y0 y1 hn=>by
     have hx:=(eL (jR x0 x1)).2
     have hy:=(eL (jR y0 y1)).2
     have lz:z.length<=130:=by rw [e,bH,bH];omega
     refine ⟨by rw [bH];omega,by rw [bH,bH,show Str.length " is 0111" = 8 by decide +kernel];omega,eR (br (p.1,[x,y],14)) n3.same Cu ?_ ?_⟩
     ·rw [Dm,show (" is " : Str) ++ cO 14 2 = " is 0111" by decide +kernel,e]
     ·rw [B4 _ jl]
      exact FK g hp x0 x1 y0 y1 (by decide) (by decide) hn
    have z:c / 64 % 3=0\/c / 64 % 3=1\/c / 64 % 3=2:=by omega
    rcases z with z | z | z <;> rw [z]
    ·exact ⟨_,_,.inl n3.sq,rfl,key "2 1" 2 1 (by decide +kernel) (by decide) (by decide) (by decide) (by decide) (.inl (by decide))⟩
    ·exact ⟨_,_,.inl n3.sq,rfl,key "0 1" 0 1 (by decide +kernel) (by decide) (by decide) (by decide) (by decide) (.inr (.inl rfl))⟩
    ·exact ⟨_,_,.inl n3.sq,rfl,key ("1 " ++ sN p.1) 1 p.1 (by rw [show ("1 " : Str)=sN 1 ++ " " by decide +kernel]) (by decide) (by decide) ok.k0 ok.k1 (.inr (.inr (Zrm _)))⟩
   ·walk_at "gs"
    have z0:=Zrj (c / 64) (show (9:Int)≠0 by decide)
    have z1:=Zrk (c / 64) (show (0:Int)<9 by decide)
    generalize c / 64 % 9=d at z0 z1
    refine ⟨_,_,.inl n2.sq,a0,p.1,(nG ok.k0 ok.k1).2.2.2,by omega,nU,by decide,_,_,.inl n2.sq,a0,?_⟩
    have mZ:=(eL (jR (i:=p.1+1+d) (by omega) (by omega))).2
    have hwl':(Str.ofString (toString (p.1+1+d))).length<=64:=mZ
    have l6:Str.length " of 1 " = 6:=by decide +kernel
    show (sN p.1).length+Str.length " of 1 " <= sizeLine/\_
    refine ⟨by omega,lB (by omega) (by omega),by rw [bH];omega,by rw [bH,bH,show Str.length " is 0001" = 8 by decide +kernel];omega,eR (br (p.1,[1,p.1+1+d],8)) (fun _ _ h=>h) Cu ?_ ?_⟩
    ·rw [Dm,show (" is " : Str) ++ cO 8 2 = " is 0001" by decide +kernel,show (" of 1 " : Str) = " of " ++ (sN 1 ++ " ") by decide +kernel]
     simp only [oR]
     rfl
    ·rw [B4 _ jl]
     exact FK g hp (by decide) (by decide) (by omega) (by omega) (by decide) (by decide) (.inr (.inr (by omega)))
   ·walk_at "gs"
    have fo:Kd 2 (("out" : Str) :: ties.map bA):=.inr (.inr ⟨rfl,ties,g.wt.l1,g.jE,rfl⟩)
    have t3:=g.t3
    have Vb:=lD fo (by rw [ZpG,ZpC];omega)
    have ao:dC (((bQ m ps ties).map jn).map V.str) (-1)=some (.str (jn (("out" : Str) :: ties.map bA))):=pG (j:=1) (by decide) (by omega) (by rw [lX,show ps.length+2 - 1=ps.length+1 by omega,ZpO,ZpF,OJ];rfl)
    refine ⟨_,_,.inl (.of h2),ao,?_⟩
    show (jn (("out" : Str) :: ties.map bA)).length+Str.length " " <= sizeLine/\_
    refine ⟨by omega,by show 2<=sizeLine;omega,fun p3 H3 n3=>⟨nU,by decide,?_⟩⟩
    have tk:dH m ps<=809:=by
     have hx:ps[ps.length - 1]? = some ps[ps.length - 1]:=ZpH (by omega)
     rw [g.top hx]
     exact g.hi _ (ZpP hx)
    have key:∀ (z:Str) (t:Int),z ++ "999" = bA t->z.length<=1->0<=t->t / 2=999->(jn (("out" : Str) :: ties.map bA) ++ " ").length+z.length<=sizeLine/\(jn (("out" : Str) :: ties.map bA) ++ " " ++ z).length+Str.length "999" <= sizeLine/\kg (.ref l1) (.int (-1)) (.str (jn (("out" : Str) :: ties.map bA) ++ " " ++ z ++ "999")) H3 fun H4=>M [some (.ref l1),some (.int m),some (.int c),some (.int (1+(j:Int))),some (.ref pp),some (.int (c % 8)),none,none] H4:=fun z t e hz h0 h1=>by
     refine ⟨by rw [bH];omega,by rw [bH,bH,show Str.length "999" = 3 by decide +kernel];omega,eR (("out" : Str) :: (ties ++ [t]).map bA) n3.same (MN (j:=ps.length+1) rfl) ?_ ?_⟩
     ·rw [ZpK,<- Zqv,oR,e]
      refine gf ?_
      rw [gW _ (by simp) (by simp),bz,bz,nB]
      simp
      rfl
     ·rw [Jo]
      refine Ke g (t:=t) (by simp) (fun y hy=>?_) (by rw [ZpI,ZqM];omega) (by omega)
      rcases ZpM.mp hy with h | h
      ·exact g.jE y h
      ·rw [ZpQ] at h;subst h;exact ⟨h0,by omega⟩
    have z:c / 64 % 2=0\/c / 64 % 2=1:=by omega
    rcases z with z | z <;> rw [z]
    ·exact ⟨_,_,.inl n3.sq,rfl,key "" 1998 (by decide +kernel) (by decide +kernel) (by decide) (by decide)⟩
    ·exact ⟨_,_,.inl n3.sq,rfl,key "-" 1999 (by decide +kernel) (by decide +kernel) (by decide) (by decide)⟩
   ·walk_at "gs"
    obtain ⟨pz,hpz⟩:∃ pz,ps[ps.length - 1]? = some pz:=⟨_,ZpH (by omega)⟩
    have oj:=g.ok (ZpP hpz)
    have Ll:=g.hi pz (ZpP hpz)
    have Hn:Kd 1 (br pz):=.inr (.inl ⟨rfl,pz,oj,rfl⟩)
    have zl:=lD Hn (by rw [mh];have:=oj.l6;omega)
    have ez:Txt.split (jn (br pz)) " " = br pz:=by unfold jn;rw [yU];exact BK 32 (oz Hn) fun w hw=>jo (fN Hn w hw)
    have Q6:=Kz (m:=m) (ties:=ties) hpz
    have az:dC (((bQ m ps ties).map jn).map V.str) (-2)=some (.str (jn (br pz))):=pG (j:=2) (by decide) (by omega) (by rw [lX,show ps.length+2 - 2=ps.length - 1+1 by omega,ZpO,ZpF,Q6];rfl)
    refine ⟨_,_,.inl (.of h2),az,trivial,?_⟩
    show (Str.length " " == 0)=false/\_
    refine ⟨by decide +kernel,by omega,fun p3 H3 n3=>?_⟩
    rw [ez] at n3
    have U3:=(eL (jR oj.k0 oj.k1)).2
    have lO:=(eL (jR (i:=pz.1+1) (by have:=oj.k0;omega) (by omega))).2
    have hw1':(Str.ofString (toString (pz.1+1))).length<=64:=lO
    refine ⟨_,_,.inl n3.sq,jF (j:=0) rfl,pz.1,(nG oj.k0 oj.k1).2.2.2,by omega,by show 2<=sizeLine;omega,fun p4 H4 n4=>⟨nU,by decide,?_⟩⟩
    have key:∀ (z:Str) (t:Int),z ++ sN (pz.1+1)=bA t->z.length<=1->0<=t->t / 2=pz.1+1->Str.length "out " + z.length<=sizeLine/\(pz.1+1).natAbs.log2<1920/\("out " ++ z).length+(Str.ofString (toString (pz.1+1))).length<=sizeLine/\kg (.ref l1) (.int (-1)) (.str ("out " ++ z ++ Str.ofString (toString (pz.1+1)))) H4 fun H5=>M [some (.ref l1),some (.int m),some (.int c),some (.int (1+(j:Int))),some (.ref pp),some (.int (c % 8)),none,some (.int pz.1)] H5:=fun z t e hz h0 h1=>by
     have l4:Str.length "out " = 4:=by decide +kernel
     have k0:=oj.k0
     refine ⟨by omega,lB (by omega) (by omega),by rw [bH];omega,eR (("out" : Str) :: [t].map bA) (n3.same.trans n4.same) (MN (j:=ps.length+1) rfl) ?_ ?_⟩
     ·rw [oR,show z ++ Str.ofString (toString (pz.1+1))=bA t from e]
      refine gf ?_
      rw [ZpD,Zqc,fh,bz,show ("out " : Str).cps.toList=("out" : Str).cps.toList ++ [32] by decide +kernel,Zqa]
      rfl
     ·rw [Jo]
      refine Ke g (t:=t) (by simp) (fun y hy=>?_) (by simp) (by rw [g.top hpz];omega)
      rw [ZpQ] at hy;subst hy;exact ⟨h0,by omega⟩
    have z:c / 64 % 2=0\/c / 64 % 2=1:=by omega
    have k0:=oj.k0
    rcases z with z | z <;> rw [z]
    ·exact ⟨_,_,.inl n4.sq,rfl,key "" (2 * (pz.1+1)) (by unfold bA;rw [if_neg (by omega),show 2 * (pz.1+1) / 2=pz.1+1 by omega]) (by decide +kernel) (by omega) (by omega)⟩
    ·exact ⟨_,_,.inl n4.sq,rfl,key "-" (2 * (pz.1+1)+1) (by unfold bA;rw [if_pos (by omega),show (2 * (pz.1+1)+1) / 2=pz.1+1 by omega]) (by decide +kernel) (by omega) (by omega)⟩
  ·rintro σ' H' ⟨r,rows,rfl,s',hl',hn⟩
   walk_at "gs"
   exact q l1 H' rows s' hl' n1.fX hn
theorem Il {ks:List Int}{i:Int} (h0:0<=i) (h1:i<ks.length):∃ g,g∈ks/\dC (ks.map V.int) i=some (.int g):=by
 have hl:i.toNat<ks.length:=by omega
 refine ⟨ks[i.toNat],Zqg _,?_⟩
 rw [D3 .non h0 (by rw [ZpC];exact h1)]
 simp [ZpX,hl]
theorem US {ks:List Int} (h:1<=ks.length):∃ g,g∈ks/\dC (ks.map V.int) (-1)=some (.int g):=by
 refine ⟨ks[ks.length - 1]'(by omega),Zqg _,pG (j:=1) (by decide) (by rw [ZpC];exact h) ?_⟩
 rw [ZpC,ZpF,ZpH (by omega)]
 rfl
noncomputable def lR (ns:List Int):List (Key × V):=ns.map fun n=>((Sum.inl n:Key),V.bl true)
theorem Of (ns:List Int) (y:Int):gz (lR ns) (Sum.inl y) (.bl true)=lR (if y∈ns then ns else ns ++ [y]):=by
 unfold gz
 have e:((lR ns).any fun kv=>decide (kv.1=(Sum.inl y:Key)))=decide (y∈ns):=by
  unfold lR
  rw [List.any_map,Zru,List.any_eq_true,decide_eq_true_eq]
  constructor
  ·rintro ⟨x,hx,h⟩
   have:x=y:=Sum.inl.inj (of_decide_eq_true h)
   exact this ▸ hx
  ·intro h
   exact ⟨y,h,decide_eq_true rfl⟩
 rw [e]
 by_cases h:y∈ns
 ·rw [decide_eq_true h,if_pos rfl,if_pos h]
  unfold lR
  rw [ZpO]
  refine Zqx fun x _=>?_
  show (if (Sum.inl x:Key)=Sum.inl y then ((Sum.inl x:Key),V.bl true) else (Sum.inl x,V.bl true))=_
  split <;> rfl
 ·rw [decide_eq_false h,if_neg (fun z=>nomatch z),if_neg h]
  unfold lR
  rw [ZpK]
  rfl
structure kr (ks ns:List Int) (i:Nat):Prop where
 nd:ns.Nodup
 len:ns.length<=i
 one:0<i->1<=ns.length
 mem:∀ y∈ns,y∈ks
theorem kr.put {ks ns:List Int}{i:Nat} (h:kr ks ns i) {y:Int} (hy:y∈ks):kr ks (if y∈ns then ns else ns ++ [y]) (i+1):=by
 by_cases g:y∈ns
 ·rw [if_pos g]
  exact ⟨h.nd,by have:=h.len;omega,fun _=>ZqX g,h.mem⟩
 ·rw [if_neg g]
  refine ⟨?_,by rw [ZpI];have:=h.len;simp;omega,fun _=>by rw [ZpI];simp,fun z hz=>?_⟩
  ·rw [List.nodup_append]
   refine ⟨h.nd,by simp,fun a ha b hb e=>?_⟩
   rw [ZpQ] at hb
   subst hb
   subst e
   exact g ha
  ·rcases ZpM.mp hz with z1 | z1
   ·exact h.mem z z1
   ·rw [ZpQ] at z1
    exact z1 ▸ hy
theorem Hu (k t:Int) {ns:List Int} (h:ns≠[]):jn (br (k,ns,t))=sN k ++ " of " ++ jn (ns.map sN) ++ " is " ++ cO t ns.length:=by
 refine gf ?_
 have e1:br (k,ns,t)=[sN k] ++ ([("of" : Str)] ++ (ns.map sN ++ ([("is" : Str)] ++ [cO t ns.length]))):=rfl
 rw [e1,gW _ (by simp) (by simp),gW _ (by simp) (by simp),gW _ (by simpa using h) (by simp),gW _ (by simp) (by simp)]
 simp only [bz]
 rw [show (" of " : Str).cps.toList=32 :: (("of" : Str).cps.toList ++ [32]) by decide +kernel,show (" is " : Str).cps.toList=32 :: (("is" : Str).cps.toList ++ [32]) by decide +kernel]
 simp
 rfl
theorem UI {c:Int} (h:0<=c) {N k:Nat} (hk:k<N):iG (c % ((2 ^ N:Nat):Int)) k=((c.toNat / 2 ^ k % 2:Nat):Int):=by
 unfold iG
 congr 1
 obtain ⟨n,rfl⟩:=Zrl h
 rw [show ((n:Int) % ((2 ^ N:Nat):Int))=((n % 2 ^ N:Nat):Int) from rfl,Zri,Zri]
 have h1:=Nat.testBit_mod_two_pow n N k
 rw [decide_eq_true hk,Bool.true_and,Zrh,Zrh] at h1
 have h2:=decide_eq_decide.mp h1
 omega
structure Dr (m:Nat) (ps:List Pc) (i:Nat):Prop where
 wp:WP m ps
 len:ps.length=i
 hi:∀ p∈ps,p.1<=809
 top:dH m ps<=m+40 * i
theorem F6 (m:Nat) (ps:List Pc) (hm:1<=m):dC ((known m ps).map V.int) (-1)=some (.int (dH m ps)):=by
 have hl:(known m ps).length=m+ps.length:=by unfold jx.known;simp
 refine pG (j:=1) (by decide) (by rw [ZpC,hl];omega) ?_
 rw [ZpC,hl,ZpF]
 unfold jx.known dH
 rcases List.eq_nil_or_concat ps with rfl | ⟨qs,p,rfl⟩
 ·obtain ⟨k,rfl⟩:∃ k,m=k+1:=⟨m - 1,by omega⟩
  simp
  omega
 ·rw [List.concat_eq_append,ZpW (by simp)]
  simp
noncomputable def Nf (K:ZoW):Sp:=fun vs H Q _=>∃ (p:Addr) (ns:List Int) (m:Nat),vs=[.ref p,.int m]/\aR K H p (ns.map V.int)/\2<=m/\m<=9 /\
 ∀ l H' ps ties,aH H H'->H l=none->iI H' l (bQ m ps ties)->GB m ps ties->Q (.ref l) H'
noncomputable def Gg (K:ZoW):TS:=(aV (bG (fH (ah (af bc (tC (.str "board ")) (bw jP (ah (aa 1) ar))) ar)) (aK 2))
  (aV (bG (HD (ah (tC (.int 1)) (ah (af bc (aa 1) (tC (.int 1))) ar))) (aK 3))
  (aV (jD (oy (ah (af bc (tC (.int 2)) (af (aQ (fun _ j=>0<j) fun i j=>.int (i % j)) (bS (kI K) [] E0 (ah (aa 0) (ah (tC (.int 1)) ar))) (tC (.int 19)))) ar)) (aK 4) (aV (bG (af bc (bS (kI K) [] E0 (ah (aa 0) (ah (af bc (tC (.int 5)) (aa 4)) ar))) (af tJ (tC (.int 31)) (aa 4))) (aK 5))
  (aV (bG (af bc (af bc (af (bE K) (aa 3) (j5 jQ (tC (.int 1)))) (tC (.int 1))) (af (aQ (fun _ j=>0<j) fun i j=>.int (i % j)) (aa 5) (tC (.int 40)))) (aK 6))
  (aV (bG Cd (aK 7))
  (aV (jD (oy (ah (af bc (tC (.int 1)) (af (aQ (fun _ j=>0<j) fun i j=>.int (i % j)) (af (aQ cX fun i j=>.int (i / j)) (aa 5) (tC (.int 40))) (tC (.int 6)))) ar)) (aK 8) (Cn (aa 7) (af (bE K) (aa 3) (af (aQ (fun _ j=>0<j) fun i j=>.int (i % j)) (af (aQ (fun _ j=>0<=j) fun i j=>.int (i / 2 ^ j.toNat)) (af (aQ cX fun i j=>.int (i / j)) (aa 5) (tC (.int 240))) (af tJ (tC (.int 5)) (aa 8))) (bw (gY K) (ah (aa 3) ar)))) (tC (.bl true))))
  (aV (bG (gS K "str" (lW K) (tC (.str "")) (ah (eg (oy (ah (af (aQ km fun i j=>.int (i * 2 ^ j.toNat)) (tC (.int 1)) (bw (gY K) (ah (aa 7) ar))) ar)) 1 [5] (aK 0) fR (af (bE K) (tC (.str "01")) (af (aQ (fun _ j=>0<j) fun i j=>.int (i % j)) (af (aQ (fun _ j=>0<=j) fun i j=>.int (i / 2 ^ j.toNat)) (af (aQ cX fun i j=>.int (i / j)) (aa 1) (tC (.int 3))) (aa 0)) (tC (.int 2))))) ar)) (aK 9))
  (aV (nI (gS K "list" qg (aa 2) (ah (af bc (af bc (af bc (af bc (bw jP (ah (aa 6) ar)) (tC (.str " of "))) (gS K "str" (lW K) (tC (.str " ")) (ah (eg (jg K (bw (Eu K) (ah (aa 7) ar))) 1 [] (aK 0) fR (bw jP (ah (aa 0) ar))) ar))) (tC (.str " is "))) (aa 9)) ar)))
  (nI (gS K "list" qg (aa 3) (ah (aa 6) ar))))))))))
  (aV (bG (af (aQ cX fun i j=>.int (i / j)) (bS (kI K) [] E0 (ah (aa 0) (ah (tC (.int 1)) ar))) (tC (.int 19))) (aK 5))
  (aV (nI (gS K "list" qg (aa 2) (ah (af bc (af bc (af bc (af bc (tC (.str "out ")) (bw jP (ah (af (bE K) (aa 3) (j5 jQ (tC (.int 1)))) ar))) (tC (.str " -"))) (bw jP (ah (af (bE K) (aa 3) (af (aQ (fun _ j=>0<j) fun i j=>.int (i % j)) (aa 5) (bw (gY K) (ah (aa 3) ar)))) ar))) (af (bE K) (fH (mW [(.str ""),(.str " 0")])) (af (aQ (fun _ j=>0<j) fun i j=>.int (i % j)) (af (aQ cX fun i j=>.int (i / j)) (aa 5) (tC (.int 64))) (tC (.int 2))))) ar)))
  (cA (aa 2)))))))
theorem S7 (T:Txt K mg a):TM P w K mg base 1 "_law_lines" uz BW a.dG (Gg K) :=
 fun hr=>(aW (dv (i:=2) nA.nd rfl (by walk_at "o") (gN (ai (aw bf aM (fP kP (by rfl) T.bI PyProof.Rows.boot_str (ai (cv 1) au))) au)))
   (aW (dv (i:=3) nA.nd rfl (by walk_at "o") (Rc rfl rfl rfl T.dm T.cQ (ai ak (ai (aw bf (cv 1) ak) au))))
   (aW (zH PassesOwn.never rfl (CF rfl T.cQ (ai (aw bf ak (aw dE (eC T.ax (lJ T) (hm hr) dO (ai (cv 0) (ai ak au))) ak)) au)) (eu (i:=4) nA.nd rfl (by walk_at "o")) (aW (dv (i:=5) nA.nd rfl (by walk_at "o") (aw bf (eC T.ax (lJ T) (hm hr) dO (ai (cv 0) (ai (aw bf ak (cv 4)) au))) (aw Bt ak (cv 4))))
   (aW (dv (i:=6) nA.nd rfl (by walk_at "o") (aw bf (aw bf (bN bM (cv 3) (kN lA ak) (fun _ _=>rfl)) ak) (aw dE (cv 5) ak)))
   (aW (dv (i:=7) nA.nd rfl (by walk_at "o") RQ)
   (aW (zH PassesOwn.never rfl (CF rfl T.cQ (ai (aw bf ak (aw dE (aw fg (cv 5) ak) ak)) au)) (eu (i:=8) nA.nd rfl (by walk_at "o")) (aS (Ng (BS hr) (cv 7) (bN bM (cv 3) (aw dE (aw E5 (aw fg (cv 5) ak) (aw Bt ak (cv 8))) (dX iE (by rfl) T.aL PySem.boot_len (ai (cv 3) au))) (fun _ _=>rfl)) uL rfl)))
   (aW (dv (i:=9) nA.nd rfl (by walk_at "o") (iD Zpr Zpt Zpu nr aM (ai (lI (N:=["_law_place","_law_cell"]) (k:=1) (sel:=[5]) (aD.of (ba uz).names (by decide +kernel)) (aF.of BW (by decide +kernel)) rfl (CF rfl T.cQ (ai (aw vR ak (dX iE (by rfl) T.aL PySem.boot_len (ai (cv 7) au))) au)) (fun _ _ _ _=>(eu (i:=0) (show ZpU (["_law_place","_law_cell"]:List Str) by decide +kernel) rfl (by walk_at "o"))) (fun _ _ _ _=>jz) (fun _ _ _ _=>(bN bM aM (aw dE (aw E5 (aw fg (cv 1) ak) (cv 0)) ak) (fun _ _=>rfl)))) au)))
   (aW (oZ (iD Zpv Zpw Zpx (wz qo) (cv 2) (ai (aw bf (aw bf (aw bf (aw bf (fP kP (by rfl) T.bI PyProof.Rows.boot_str (ai (cv 6) au)) aM) (iD Zpr Zpt Zpu nr aM (ai (lI (N:=["_law_one"]) (k:=1) (sel:=[]) (aD.of (ba uz).names (by decide +kernel)) (aF.of BW (by decide +kernel)) rfl (lq (dX (Oh rfl) (by rfl) T.kH PyProof.Rows.boot_sorted (ai (cv 7) au))) (fun _ _ _ _=>(eu (i:=0) (show ZpU (["_law_one"]:List Str) by decide +kernel) rfl (by walk_at "o"))) (fun _ _ _ _=>jz) (fun _ _ _ _=>(fP kP (by rfl) T.bI PyProof.Rows.boot_str (ai (cv 0) au)))) au))) aM) (cv 9)) au)))
   (aS (oZ (iD Zpv Zpw Zpx (wz qo) (cv 3) (ai (cv 6) au)))))))))))
   (aW (dv (i:=5) nA.nd rfl (by walk_at "o") (aw fg (eC T.ax (lJ T) (hm hr) dO (ai (cv 0) (ai ak au))) ak))
   (aW (oZ (iD Zpv Zpw Zpx (wz qo) (cv 2) (ai (aw bf (aw bf (aw bf (aw bf aM (fP kP (by rfl) T.bI PyProof.Rows.boot_str (ai (bN bM (cv 3) (kN lA ak) (fun _ _=>rfl)) au))) aM) (fP kP (by rfl) T.bI PyProof.Rows.boot_str (ai (bN bM (cv 3) (aw dE (cv 5) (dX iE (by rfl) T.aL PySem.boot_len (ai (cv 3) au))) (fun _ _=>rfl)) au))) (bN bM (gN (ni (vs:=[(.str ""),(.str " 0")]) rfl)) (aw dE (aw fg (cv 5) ak) ak) (fun _ _=>rfl))) au)))
   (aS (cY (cv 2))))))))
theorem Oe (T:Txt K mg a):aJ P w K mg base gd 2 a.dG a.gj ["_law_script","_law_many"] (Nf K):=by
 refine T.gk.n.iS nA (S7 T) (fun vs H Q E h=>?_) (fun H vs Q E h=>?_)
 ·obtain ⟨p,ns,m,rfl,_⟩:=h;rfl
 ·obtain ⟨p,ns,m,rfl,hS,m2,m9,q⟩:=h
  show Gg K _ [some (.ref p),some (.int m),none,none,none,none,none,none,none,none] H
  unfold Gg
  have big:(20000:Nat)<=sizeLine:=by decide
  have lb:Str.length "board " = 6:=by decide +kernel
  have mT:=(eL (jR (i:=(m:Int)) (by omega) (by omega))).2
  have hml':(Str.ofString (toString (m:Int))).length<=64:=mT
  walk_at "gs"
  refine ⟨lB (by omega) (by omega),by omega,by show 1<=sizeLine;omega,fun lp H1 n1=>⟨1,(m:Int)+1,rfl,by omega,by omega,by omega,fun kp H2 n2=>?_⟩⟩
  have e2:(ZpJ ((m:Int)+1 - 1).toNat).map (fun k:Nat=>V.int (1+(k:Int)))=(known m []).map V.int:=by
   unfold jx.known
   rw [show ((m:Int)+1 - 1).toNat=m by omega,Zqc,Zp4,ZpO]
   rfl
  rw [e2] at n2
  have s2:=n1.same.trans n2.same
  have GJ:H lp=none:=n1.fX
  have UC:H kp=none:=n1.same.nil n2.fX
  have K9:lp≠kp:=fun z=>by have:=n1.at_;rw [z,n2.fX] at this;cases this
  refine ⟨p,ns,1,rfl,s2.seq hS,?_⟩
  have c10:=we ns 1
  show (0:Int)<19/\_
  have z0:=Zrj (eP ns 1) (show (19:Int)≠0 by decide)
  have z1:=Zrk (eP ns 1) (show (0:Int)<19 by decide)
  obtain ⟨N,hN,N2,N20⟩:∃ N:Nat,(2+eP ns 1 % 19).toNat=N/\2<=N/\N<=20:=⟨_,rfl,by omega,by omega⟩
  refine ⟨by decide,by omega,by omega,?_⟩
  rw [hN]
  refine IQ (fun i σ H3=>aH H H3/\∃ (ps:List Pc) (v4 v5 v6 v7 v8 v9:Option V),Dr m ps i/\H3 lp=some (.lst ((([("board" : Str),sN m] :: ps.map br).map jn).map V.str))/\H3 kp=some (.lst ((known m ps).map V.int))/\σ=[some (.ref p),some (.int m),some (.ref lp),some (.ref kp),v4,v5,v6,v7,v8,v9]) ⟨s2,[],_,_,_,_,_,_,⟨fun i p h=>by simp at h,rfl,fun p h=>by simp at h,by show (m:Int)<=_;omega⟩,?_,n2.at_,rfl⟩ ?_ ?_
  ·rw [n2.same _ _ n1.at_]
   have:Str.ofString "board " ++ Str.ofString (toString (m:Int))=jn [("board" : Str),sN m]:=by
    refine gf ?_
    rw [fh,bz,show (Str.ofString "board ").cps.toList=("board" : Str).cps.toList ++ [32] by decide +kernel,Zqa]
    rfl
   rw [this]
   rfl
  ·rintro i σ H3 hi ⟨s3,ps,v4,v5,v6,v7,v8,v9,dr,h3l,h3k,rfl⟩
   have wK:=dr.len
   have ht:=dr.top
   have Qm:(known m ps).length=m+i:=by unfold jx.known;simp [wK]
   have tm:=dr.wp.top ps.length (ZqY _)
   rw [Zp1] at tm
   walk_at "gs"
   refine ⟨p,ns,5+i,by rw [show 5+(0+(i:Int))=((5+i:Nat):Int) by omega],s3.seq hS,?_⟩
   have U9:=we ns (5+i)
   show kE 31 (0+(i:Int))/\_
   refine ⟨by unfold kE;omega,_,_,.inl (.of h3k),F6 m ps (by omega),?_⟩
   show (0:Int)<40/\_
   obtain ⟨c,hc,cc0⟩:∃ c,eP ns (5+i)+31 * (0+(i:Int))=c/\0<=c:=⟨_,rfl,by omega⟩
   rw [hc]
   have y0:=Zrj c (show (40:Int)≠0 by decide)
   have y1:=Zrk c (show (0:Int)<40 by decide)
   obtain ⟨kn,ED⟩:∃ kn,dH m ps+1+c % 40=kn:=⟨_,rfl⟩
   rw [ED]
   have w0:=Zrj (c / 40) (show (6:Int)≠0 by decide)
   have w1:=Zrk (c / 40) (show (0:Int)<6 by decide)
   refine ⟨by decide,fun dp H4 n4=>⟨⟨by decide,by decide⟩,by decide,by omega,by omega,?_⟩⟩
   obtain ⟨J,hJ,J6⟩:∃ J:Nat,(1+c / 40 % 6).toNat=J+1/\J<=5:=⟨(c / 40 % 6).toNat,by omega,by omega⟩
   rw [hJ]
   refine IQ (fun j σ H5=>aH H3 H5/\∃ (cs:List Int) (Gb:Option V),H5 dp=some (.dK (lR cs))/\kr (known m ps) cs j/\σ=[some (.ref p),some (.int m),some (.ref lp),some (.ref kp),some (.int (0+(i:Int))),some (.int c),some (.int kn),some (.ref dp),Gb,v9]) ⟨n4.same,[],_,n4.at_,⟨List.nodup_nil,by simp,fun z=>absurd z (by omega),fun y hy=>by simp at hy⟩,rfl⟩ ?_ ?_
   ·rintro j σ H5 hj ⟨s5,cs,Gb,h5,ci,rfl⟩
    have Bk:=s5 _ _ h3k
    have BD:=ci.len
    walk_at "gs"
    refine .inl ⟨_,.inl (.of Bk),by rw [ZpC];omega,?_⟩
    rw [ZpC]
    generalize c / 240 / 2 ^ (5 * (0+(j:Int))).toNat=one
    have e1:=Zrj one (show ((known m ps).length:Int)≠0 by omega)
    have e2:=Zrk one (show 0<((known m ps).length:Int) by omega)
    obtain ⟨g1,vB,ha1⟩:=Il (ks:=known m ps) e1 e2
    refine ⟨_,_,.inl (.of Bk),ha1,dp,_,rfl,.k (k:=.inl g1) h5 (by unfold lR;rw [ZpC];omega),s5.put n4.fX,_,_,?_,ci.put vB,rfl⟩
    rw [cq,Of]
   ·rintro σ H5 ⟨s5,cs,Gb,h5,ci,rfl⟩
    have Bk:=s5 _ _ h3k
    have Nq:=s5 _ _ h3l
    have BD:=ci.len
    have U8:=ci.one (by omega)
    have PF:(lR cs).length=cs.length:=by unfold lR;rw [ZpC]
    have p2:(2:Nat) ^ cs.length<=2 ^ 6:=Zq4 (by decide) (by omega)
    have M3:0<(2:Nat) ^ cs.length:=Zrd (by decide)
    have ec:(1 * 2 ^ ((cs.length:Int)).toNat:Int)=((2 ^ cs.length:Nat):Int):=by simp
    walk_at "gs"
    refine .inr ⟨_,h5,?_⟩
    rw [PF,ec]
    refine ⟨by unfold km;omega,by omega,by omega,?_⟩
    rw [Zri]
    have Ln:0<=c / 3:=by omega
    refine JP (n:=2 ^ cs.length) (fun z=>V.str (sN (iG (c / 3 % ((2 ^ 2 ^ cs.length:Nat):Int)) z.toNat))) rfl (by omega) ?_ ?_
    ·intro z H' Q' hz s' q'
     rw [show (0:Int)+(z:Int)=(z:Int) by omega] at q' ⊢
     have hb:=UI Ln (N:=2 ^ cs.length) hz
     walk_at "gs"
     obtain ⟨d,hd⟩:=Zrl Ln
     rw [hd] at hb ⊢
     rw [show ((z:Int)).toNat=z from rfl] at q'
     rw [hd,hb,Zri] at q'
     rw [show ((d:Int) / 2 ^ ((z:Int)).toNat % 2)=((d / 2 ^ z % 2:Nat):Int) by rw [Zri];norm_cast]
     have hd2:d / 2 ^ z % 2=0\/d / 2 ^ z % 2=1:=by omega
     have MD:("01" : Str).cps.toList=[48,49]:=by decide +kernel
     rcases hd2 with g | g <;> rw [g] at q' ⊢
     ·exact ⟨48,by rw [MD];rfl,by rw [show (⟨#[48]⟩:Str)=sN ((0:Nat):Int) by decide +kernel];exact q'⟩
     ·exact ⟨49,by rw [MD];rfl,by rw [show (⟨#[49]⟩:Str)=sN ((1:Nat):Int) by decide +kernel];exact q'⟩
    intro bp H6 n6
    have e6:((ZpJ (2 ^ cs.length)).map fun z:Nat=>V.str (sN (iG (c / 3 % ((2 ^ 2 ^ cs.length:Nat):Int)) ((0:Int)+(z:Int)).toNat)))=(jO (c / 3 % ((2 ^ 2 ^ cs.length:Nat):Int)) (2 ^ cs.length)).map V.str:=by
     unfold jO
     rw [ZpO]
     refine Zqx fun z _=>?_
     rw [show ((0:Int)+(z:Int)).toNat=z by omega];rfl
    rw [e6] at n6
    have Fp:0<=c / 3 % ((2 ^ 2 ^ cs.length:Nat):Int):=Zrj _ (by have:=Zrd (n:=2 ^ cs.length) (show 0<2 by decide);omega)
    have FD:c / 3 % ((2 ^ 2 ^ cs.length:Nat):Int)<((2 ^ 2 ^ cs.length:Nat):Int):=Zrk _ (by have:=Zrd (n:=2 ^ cs.length) (show 0<2 by decide);omega)
    generalize c / 3 % ((2 ^ 2 ^ cs.length:Nat):Int)=tt at n6 Fp FD
    have Jr:0<=kn:=by omega
    have kb1:kn<=809:=by omega
    have Aa:=(eL (jR Jr (by omega))).2
    have hkn64':(Str.ofString (toString kn)).length<=64:=Aa
    have lo:Str.length " of " = 4:=by decide +kernel
    have li:Str.length " is " = 4:=by decide +kernel
    have Qk:=n6.same _ _ Nq
    have UX:=n6.same _ _ Bk
    walk_at "gs"
    refine ⟨_,n6.sq,oi (Hi _ _) (by rw [DK];omega) (by omega),by decide +kernel,.inl ⟨trivial,_,.of Qk⟩,lB (by omega) (by omega),by omega,trivial,lR cs,cs,.of (n6.same _ _ h5),by unfold lR;rw [ZpO];rfl,by omega,fun dY l7 H7 hp7 ho7 n7=>⟨⟨_,.of n7.at_⟩,?_⟩⟩
    have Bp:=hp7.length_eq
    have RO:dY.Pairwise (· < ·):=by
     have S6:dY.Nodup:=hp7.nodup_iff.mpr ci.nd
     exact (List.pairwise_and_iff.mpr ⟨ho7,S6⟩).imp fun h=>by have:=h.1;have:=h.2;omega
    have A0:∀ y∈dY,y∈known m ps:=fun y hy=>ci.mem y (hp7.mem_iff.mp hy)
    have E4:∀ y∈dY,1<=y/\y<=999:=fun y hy=>dr.wp.known (by omega) (i:=ps.length) (by rw [Zp1];exact A0 y hy)
    refine Bz (fun v=>match v with | .int x=>.str (sN x) | v=>v) (.of n7.at_) rfl (by rw [ZpC];omega) ?_ ?_
    ·intro v H' Q' hv s' q'
     obtain ⟨y,hy,rfl⟩:=ZpS.mp hv
     have Ca:=E4 y hy
     walk_at "gs"
     exact ⟨lB (by omega) (by omega),q'⟩
    intro np H8 n8
    have e8:(dY.map V.int).map (fun v=>match v with | .int x=>V.str (sN x) | v=>v)=(dY.map sN).map V.str:=by rw [ZpO,ZpO];rfl
    rw [e8] at n8
    have Fz:=(n6.same.trans n7.same).trans n8.same
    have Tt:=Fz _ _ Nq
    have Rl:=Fz _ _ Bk
    have ok:kT (kn,dY,tt):=⟨Jr,(show kn<=999 by omega),(show 1<=dY.length by omega),(show dY.length<=6 by omega),fun y hy=>by have:=E4 y hy;omega,Fp,by show tt<2 ^ 2 ^ dY.length;rw [Bp];exact_mod_cast FD⟩
    have wc:sI m ps (kn,dY,tt):=⟨(show dH m ps<kn by omega),(show kn<=999 by omega),(show 1<=dY.length by omega),(show dY.length<=6 by omega),RO,A0,Fp,by show tt<((2 ^ 2 ^ dY.length:Nat):Int);rw [Bp];exact FD⟩
    have SI:Kd 1 (br (kn,dY,tt)):=.inr (.inl ⟨rfl,_,ok,rfl⟩)
    have ej:Str.ofString (toString kn) ++ Str.ofString " of " ++ Str.join " " (dY.map sN) ++ Str.ofString " is " ++ Str.join "" (jO tt (2 ^ cs.length))=jn (br (kn,dY,tt)):=by
     rw [Hu kn tt (fun z=>by rw [z] at Bp;simp at Bp;omega)]
     rw [Bp]
     rfl
    have lj:=lD SI (by rw [mh];show dY.length+4<=20;omega)
    rw [<- ej,bH,bH,bH,bH] at lj
    walk_at "gs"
    refine ⟨_,n8.sq,oi (k:=64) (fun y hy=>?_) (by rw [ZpC];omega) (by decide),by decide +kernel,by rw [bH];omega,by rw [bH,bH];omega,by rw [bH,bH,bH];omega,lp,_,_,rfl,rfl,Tt,by simp only [ZpC,ZpG];omega,?_⟩
    ·obtain ⟨z,hz,rfl⟩:=ZpS.mp hy
     have:=E4 z hz
     exact (eL (jR (by omega) (by omega))).2
    rw [ej]
    have MX:upd H8 lp (.lst ((([("board" : Str),sN m] :: ps.map br).map jn).map V.str ++ [V.str (jn (br (kn,dY,tt)))])) kp=some (.lst ((known m ps).map V.int)):=by rw [bo (Ne.symm K9)];exact Rl
    refine ⟨.inl ⟨trivial,_,.of MX⟩,kp,_,_,rfl,rfl,MX,by rw [ZpC];omega,(((s3.trans s5).trans Fz).put GJ).put UC,ps ++ [(kn,dY,tt)],_,_,_,_,_,_,⟨dr.wp.snoc wc,by rw [ZpI,wK];rfl,fun y hy=>?_,by rw [wb];show kn<=(m:Int)+40 * ((i+1:Nat):Int);omega⟩,?_,?_,rfl⟩
    ·rcases ZpM.mp hy with h | h
     ·exact dr.hi y h
     ·rw [ZpQ] at h;subst h;exact kb1
    ·rw [bo K9,cq,ZpK,<- Zqv,ZpK,ZpK]
     rfl
    ·rw [cq,F2,ZpK]
     rfl
  ·rintro σ H3 ⟨s3,ps,v4,v5,v6,v7,v8,v9,dr,h3l,h3k,rfl⟩
   have wK:=dr.len
   have ht:=dr.top
   have Qm:(known m ps).length=m+N:=by unfold jx.known;simp [wK]
   have tm:=dr.wp.top ps.length (ZqY _)
   rw [Zp1] at tm
   have QV:dH m ps<=809:=by omega
   walk_at "gs"
   refine ⟨p,ns,1,rfl,s3.seq hS,?_⟩
   show cX (eP ns 1) 19/\_
   obtain ⟨c,hc,cc0⟩:∃ c,eP ns 1 / 19=c/\0<=c:=⟨_,rfl,by omega⟩
   rw [hc]
   have kb:∀ y∈known m ps,1<=y/\y<=999:=fun y hy=>dr.wp.known (by omega) (i:=ps.length) (by rw [Zp1];exact hy)
   have Kc:=(eL (jR (i:=dH m ps) (by omega) (by omega))).2
   have hk1':(Str.ofString (toString (dH m ps))).length<=64:=Kc
   have lo:Str.length "out " = 4:=by decide +kernel
   have lm:Str.length " -" = 2:=by decide +kernel
   refine ⟨⟨by decide,by decide⟩,.inl ⟨trivial,_,.of h3l⟩,_,_,.inl (.of h3k),F6 m ps (by omega),lB (by omega) (by omega),by omega,by rw [bH];omega,.inl ⟨_,.inl (.of h3k),by rw [ZpC];omega,?_⟩⟩
   rw [ZpC]
   have e1:=Zrj c (show ((known m ps).length:Int)≠0 by omega)
   have e2:=Zrk c (show 0<((known m ps).length:Int) by omega)
   obtain ⟨g1,vB,ha1⟩:=Il (ks:=known m ps) e1 e2
   have gb:=kb g1 vB
   have DM:=(eL (jR (i:=g1) (by omega) (by omega))).2
   have hg64':(Str.ofString (toString g1)).length<=64:=DM
   refine ⟨_,_,.inl (.of h3k),ha1,lB (by omega) (by omega),by rw [bH,bH];omega,by show 2<=sizeLine;omega,fun p4 H4 n4=>⟨⟨by decide,by decide⟩,by decide,?_⟩⟩
   have tk:dH m ps∈known m ps:=by
    have:=F6 m ps (by omega)
    obtain ⟨g,hg,e⟩:=US (ks:=known m ps) (by omega)
    rw [this] at e
    rw [V.int.inj (Option.some.inj e)]
    exact hg
   have key:∀ (z:Str) (ts:List Int),Str.ofString "out " ++ Str.ofString (toString (dH m ps)) ++ Str.ofString " -" ++ Str.ofString (toString g1) ++ z=jn (("out" : Str) :: (2 * dH m ps :: (2 * g1+1) :: ts).map bA)->z.length<=2->ts.length<=1->(∀ t∈ts,t=0)->(Str.ofString "out " ++ Str.ofString (toString (dH m ps)) ++ Str.ofString " -" ++ Str.ofString (toString g1)).length+z.length<=sizeLine/\qg (.ref lp) [.str (Str.ofString "out " ++ Str.ofString (toString (dH m ps)) ++ Str.ofString " -" ++ Str.ofString (toString g1) ++ z)] H4 fun x H5=>Q (.ref lp) H5:=fun z ts e hz ht hts=>by
    refine ⟨by rw [bH,bH,bH];omega,lp,_,_,rfl,rfl,n4.same _ _ h3l,by simp only [ZpC,ZpG];omega,q lp _ ps (2 * dH m ps :: (2 * g1+1) :: ts) ((s3.trans n4.same).put GJ) GJ ?_ ⟨m2,m9,dr.wp,⟨by simp,by simp only [ZpG];omega,fun t htm=>?_⟩,by omega,by omega,dr.hi,by simp only [ZpG];omega⟩⟩
    ·unfold iI
     rw [cq,e]
     unfold bQ
     rw [<- Zqv,ZpK,ZpK]
     rfl
    ·simp only [ZpE] at htm
     rcases htm with rfl | rfl | h
     ·exact ⟨by omega,.inr (by rw [show 2 * dH m ps / 2=dH m ps by omega];exact tk)⟩
     ·exact ⟨by omega,.inr (by rw [show (2 * g1+1) / 2=g1 by omega];exact vB)⟩
     ·rw [hts t h];exact ⟨by decide,.inl (by decide)⟩
   have ta:bA (2 * dH m ps)=sN (dH m ps):=by unfold bA;rw [if_neg (by omega),nO,show 2 * dH m ps / 2=dH m ps by omega]
   have tb:bA (2 * g1+1) = "-" ++ sN g1:=by unfold bA;rw [if_pos (by omega),show (2 * g1+1) / 2=g1 by omega]
   have z:c / 64 % 2=0\/c / 64 % 2=1:=by omega
   have eo:Str.ofString "out " = ("out" : Str) ++ " ":=by decide +kernel
   have em:Str.ofString " -" = (" " : Str) ++ "-":=by decide +kernel
   rcases z with z | z <;> rw [z]
   ·refine ⟨_,_,.inl n4.sq,rfl,key "" [] ?_ (by decide +kernel) (by simp) (fun t h=>by simp at h)⟩
    rw [ZpD,ZpD,Zqc,ta,tb,JH,eo,em,show Str.ofString (toString (dH m ps))=sN (dH m ps) from rfl,show Str.ofString (toString g1)=sN g1 from rfl]
    refine gf ?_
    rw [fh,fh,show jn [("-" : Str) ++ sN g1] = "-" ++ sN g1 from rfl]
    simp only [bz,nB]
    simp
   ·refine ⟨_,_,.inl n4.sq,rfl,key " 0" [0] ?_ (by decide +kernel) (by simp) (fun t h=>by simpa using h)⟩
    rw [ZpD,ZpD,ZpD,Zqc,ta,tb,eo,em,show (" 0" : Str) = " " ++ bA 0 by decide +kernel]
    refine gf ?_
    rw [fh,fh,fh]
    simp only [bz,nB]
    simp
    rfl
theorem Cs {i j:Int} (i0:0<=i) (i1:i<=999) (j0:0<=j) (j1:j<=999) (e:sN i=sN j):i=j:=by
 have h:=(nG i0 i1).2.2.2
 rw [e,(nG j0 j1).2.2.2] at h
 exact (Option.some.inj h).symm
theorem Ry {t u:Int}{n:Nat} (t0:0<=t) (t1:t<2 ^ 2 ^ n) (u0:0<=u) (u1:u<2 ^ 2 ^ n) (e:cO t n=cO u n):t=u:=by
 obtain ⟨a,rfl⟩:=Zrl t0
 obtain ⟨b,rfl⟩:=Zrl u0
 have e1:=congrArg (fun s:Str=>s.cps.toList) e
 simp only [vX] at e1
 have e2:∀ k∈ZpJ (2 ^ n),a / 2 ^ k % 2=b / 2 ^ k % 2:=fun k hk=>by
  have:=List.map_inj_left.mp e1 k hk
  unfold iG at this
  rw [Zri,Zri,Zri,Zri] at this
  omega
 have e3:lr a (2 ^ n)=lr b (2 ^ n):=by
  unfold lr
  refine List.filter_congr fun k hk=>?_
  rw [e2 k hk]
 have h1:=C0 a (2 ^ n)
 rw [e3,C0 b (2 ^ n)] at h1
 have a1:a<2 ^ 2 ^ n:=by exact_mod_cast t1
 have b1:b<2 ^ 2 ^ n:=by exact_mod_cast u1
 rw [Zrg a1,Zrg b1] at h1
 exact h1.symm
theorem N9 {t u:Int} (t0:0<=t) (t1:t / 2<=999) (u0:0<=u) (u1:u / 2<=999) (e:bA t=bA u):t=u:=by
 have h1:=(vV t0 t1).1
 have h2:=(vV u0 u1).1
 rw [e,h2] at h1
 have h3:=decide_eq_decide.mp h1
 have h4:sN (t / 2)=sN (u / 2):=by
  by_cases g:t % 2=1
  ·rw [<- (vV t0 t1).2 g,<- (vV u0 u1).2 (h3.mpr g),e]
  ·unfold bA at e
   rw [if_neg g,if_neg (fun z=>g (h3.mp z)),nO,nO] at e
   exact e
 have:=Cs (by omega) t1 (by omega) u1 h4
 omega
theorem B3 {α β:Type}{f:α->β}:∀ {xs ys:List α},(∀ x∈xs,∀ y∈ys,f x=f y->x=y)->xs.map f=ys.map f->xs=ys
 | [],[],_,_=>rfl
 | x :: xs,y :: ys,h,e=>by
  obtain ⟨e1,e2⟩:=List.cons.inj e
  rw [h x (by simp) y (by simp) e1,B3 (fun a ha b hb=>h a (ZpR _ ha) b (ZpR _ hb)) e2]
theorem Pw {p q:Pc} (hp:kT p) (hq:kT q) (e:br p=br q):p=q:=by
 unfold br at e
 obtain ⟨e1,e2⟩:=List.cons.inj e
 obtain ⟨_,e3⟩:=List.cons.inj e2
 obtain ⟨e4,e5⟩:=ZqC e3 rfl
 obtain ⟨e6,_⟩:=List.cons.inj (List.cons.inj e5).2
 have h1:=Cs hp.k0 hp.k1 hq.k0 hq.k1 e1
 have h2:p.2.1=q.2.1:=B3 (fun x hx y hy z=>Cs (hp.cut x hx).1 (hp.cut x hx).2 (hq.cut y hy).1 (hq.cut y hy).2 z) e4
 have t1:=hp.t1
 have t0:=hp.t0
 rw [h2] at e6 t1
 have h3:=Ry t0 t1 hq.t0 hq.t1 e6
 obtain ⟨a,b,c⟩:=p
 obtain ⟨d,f,g⟩:=q
 simp only at h1 h2 h3
 rw [h1,h2,h3]
theorem DJ {rows:List (List Str)}{m m':Int}{ps me:List Pc}{ts KU:List Int} (f:Form rows m ps ts) (f':Form rows m' me KU):m=m'/\ps=me/\ts=KU:=by
 have e:=f.eq.symm.trans f'.eq
 unfold bQ at e
 obtain ⟨e1,e2⟩:=List.cons.inj e
 obtain ⟨e3,e4⟩:=ZqC e2 rfl
 have e5:=(List.cons.inj (List.cons.inj e4).1).2
 exact ⟨Cs f.m0 f.m1 f'.m0 f'.m1 (List.cons.inj (List.cons.inj e1).2).1,B3 (fun p hp q hq z=>Pw (f.iK p hp) (f'.iK q hq) z) e3,B3 (fun t ht u hu z=>N9 (f.jE t ht).1 (f.jE t ht).2 (f'.jE u hu).1 (f'.jE u hu).2 z) e5⟩
theorem GW {K:ZoW}{H:Hp}{p q:Addr}{n:Nat}{xs:List Str} (h1:H p=some (.lst (xs.map V.str))) (h2:H q=some (.lst (xs.map V.str))):bR K H (n+1) (.ref p) (.ref q):=by
 refine bR.lst (n:=n) (.of h1) (.of h2) rfl fun i y z hy hz=>?_
 rw [hy] at hz
 cases hz
 obtain ⟨t,_,rfl⟩:=Ss hy
 exact .flat rfl
noncomputable def G0 (a:dy) (_:ZoW):Sp:=fun vs H Q _=>∃ e,vs=[.ref e]/\(H e=some (xo e a.ag)\/H e=some (xo e a.ae))/\∀ H',aH H H'->Q (.bl true) H'
noncomputable def EM (a:dy) (K:ZoW):TS:=(aV (cM (kd K (bw (kF K) (ah (aa 0) (ah (pK (ah (tC (.ref a.du)) (ah (tC (.ref a.cc)) (ah (tC (.ref a.cb)) (ah (tC (.ref a.cj)) (ah (tC (.ref a.bJ)) (ah (tC (.ref a.bZ)) (ah (tC (.ref a.cy)) (ah (tC (.ref a.dh)) ar))))))))) ar)))) (cA (tC (.bl false))) eh)
  (cA (oo (bw (kF K) (ah (aa 0) (ah (tC (.ref a.aI)) ar))) (bw (kF K) (ah (aa 0) (ah (tC (.ty "ValueError")) ar))))))
theorem Tg (T:Txt K mg a) {aG:Value}{A:Around}{outer:List Env}{s:Shared}{H:Hp}{E:XK} (hr:cU 0 (A.deeper (envOfC "_law_alone" (ba ua) s.heap.objs.size a.cD aG))) :
  gy (CB gd P w K mg base Kk "_law_alone" (ba ua) a.cD aG A outer s H E) (jh ua) (EM a K) :=
 (aW (dD (nF (dX Cm (by rfl) T.aZ PyProof.Rows.boot_isinstance (ai (cv 0) (ai (zW (ai (mr (v:=.ref a.du) rfl T.mM rfl) (ai (mr (v:=.ref a.cc) rfl T.kX rfl) (ai (mr (v:=.ref a.cb) rfl T.lH rfl) (ai (mr (v:=.ref a.cj) rfl T.kZ rfl) (ai (mr (v:=.ref a.bJ) rfl T.j7 rfl) (ai (mr (v:=.ref a.bZ) rfl T.kY rfl) (ai (mr (v:=.ref a.cy) rfl T.kK rfl) (ai (mr (v:=.ref a.dh) rfl T.mS rfl) au))))))))) au)))) (aS (cY uL)) eU)
   (aS (cY (wF (dX Cm (by rfl) T.aZ PyProof.Rows.boot_isinstance (ai (cv 0) (ai (mr (v:=.ref a.aI) rfl T.fJ rfl) au))) (vj (dX Cm (by rfl) T.aZ PyProof.Rows.boot_isinstance (ai (cv 0) (ai (EI (v:=.ty "ValueError") rfl T.iu Q1 rfl) au))))))))
theorem J2 (T:Txt K mg a):jv P w K mg base gd 1 a.cD a.gr ["_law_e"] (G0 a K):=by
 refine T.bg.n.UJ OF (fun vs H Q E h=>?_) (fun aG A outer s H vs Q E hr h=>⟨_,Tg T hr,?_⟩)
 ·obtain ⟨e,rfl,_⟩:=h;rfl
 ·obtain ⟨e,rfl,he,q⟩:=h
  show EM a K _ [some (.ref e)] H
  unfold EM
  rcases he with he | he
  ·walk_at "go"
   refine ⟨by show 8<=sizeLine;decide,fun p H1 n1=>?_⟩
   have rG:=n1.same _ _ he
   refine ⟨a.ag,false,rG,T.xq_NoText,.inr ⟨[a.du,a.cc,a.cb,a.cj,a.bJ,a.bZ,a.cy,a.dh],n1.at_,?_⟩,?_⟩
   ·simp only [ZpD,Zqc,Zpo,T.ko_NoText_NoCut,T.ko_NoText_NoGoal,T.ko_NoText_NoKnot,T.ko_NoText_NoLine,T.ko_NoText_NoMatch,T.ko_NoText_NoName,T.ko_NoText_NoSize,T.ko_NoText_NoTie]
   walk_at "go"
   refine ⟨a.ag,true,rG,T.xq_NoText,.inl T.ko_NoText_FoldError,?_⟩
   walk_at "go"
   refine ⟨a.ag,true,rG,T.xq_NoText,T.kv_NoText,?_⟩
   exact q H1 n1.same
  ·walk_at "go"
   refine ⟨by show 8<=sizeLine;decide,fun p H1 n1=>?_⟩
   have rG:=n1.same _ _ he
   refine ⟨a.ae,false,rG,T.xq_NoBoard,.inr ⟨[a.du,a.cc,a.cb,a.cj,a.bJ,a.bZ,a.cy,a.dh],n1.at_,?_⟩,?_⟩
   ·simp only [ZpD,Zqc,Zpo,T.ko_NoBoard_NoCut,T.ko_NoBoard_NoGoal,T.ko_NoBoard_NoKnot,T.ko_NoBoard_NoLine,T.ko_NoBoard_NoMatch,T.ko_NoBoard_NoName,T.ko_NoBoard_NoSize,T.ko_NoBoard_NoTie]
   walk_at "go"
   refine ⟨a.ae,true,rG,T.xq_NoBoard,.inl T.ko_NoBoard_FoldError,?_⟩
   walk_at "go"
   refine ⟨a.ae,true,rG,T.xq_NoBoard,T.kv_NoBoard,?_⟩
   exact q H1 n1.same
noncomputable def Due (rows:List (List Str)) (nW:Str):Prop:=(nW = "text" /\ ¬ ∃ m ps ties,Form rows m ps ties)\/(nW = "board" /\ kh rows)
noncomputable def JJ (a:dy) (_:ZoW):Sp:=fun vs H Q _=>∃ (l:Addr) (rows:List (List Str)) (nW:Str),vs=[.ref l]/\iI H l rows/\(∀ ws∈rows,gv ws)/\rows.length<=900/\Due rows nW/\∀ H',aH H H'->Q (.str nW) H'
noncomputable def D8 (a:dy) (K:ZoW):TS:=(aV (bG (bw (oE K) (ah (aa 0) ar)) (aK 1))
  (aV (bG (tC (.str "none")) (aK 2))
  (aV (qf (fun Ex=>(nI (F8 (Ib a K) [] Ex (ah (aa 1) ar)))) (vS K a.ag (Co 3 (bG (af (bE K) (fH (mW [(.str "text"),(.str "both")])) (bw cInt (ah (mJ (bw (kF K) (ah (aa 3) (ah (tC (.ref a.ae)) ar))) (uE (bS (G0 a K) [] E0 (ah (aa 3) ar)))) ar))) (aK 2))) (vS K a.ae (Co 3 (bG (af (bE K) (fH (mW [(.str "board"),(.str "both")])) (bw cInt (ah (uE (bS (G0 a K) [] E0 (ah (aa 3) ar))) ar))) (aK 2))) (vS K a.aI (fun _ _=>(bG (tC (.str "other")) (aK 2))) uh))))
  (aV (cM (bK (af (mi K) (aa 1) (aa 0))) (cA (tC (.str "changed"))) eh)
  (cA (aa 2))))))
theorem Oz (T:Txt K mg a):TM P w K mg base 6 "_law_refused" zd ME a.cL (D8 a K) :=
 fun hr=>(aW (dv (i:=1) pC.nd rfl (by walk_at "o") (fP wd (by rfl) T.dm PyProof.Rows.boot_list (ai (cv 0) au)))
   (aW (dv (i:=2) pC.nd rfl (by walk_at "o") aM)
   (aW (sk ⟨rfl,rfl⟩ (fun _ Ex=>(aS (oZ (OA rN (IT T) (hm hr) rfl T.cz.m T.cz.n.kp T.cz.b .nil (ai (cv 1) au))))) (pJ (i:=3) T.xk_NoText rfl T.bB pC.nd rfl rfl (fun _=>(aS (dv (i:=2) pC.nd rfl (by walk_at "o") (bN bM (gN (ni (vs:=[(.str "text"),(.str "both")]) rfl)) (fP o7 (by rfl) T.fU PyProof.Rows.boot_int (ai (Hl (dX Cm (by rfl) T.aZ PyProof.Rows.boot_isinstance (ai (cv 3) (ai (mr (v:=.ref a.ae) rfl T.bx rfl) au))) (vj (El (KJ dO (J2 T) ((hm hr).m.mark _) rfl T.bg.m T.bg.n.kp T.bg.b .nil (ai (cv 3) au))))) au)) (fun _ _=>rfl))))) (pJ (i:=3) T.xk_NoBoard rfl T.bx pC.nd rfl rfl (fun _=>(aS (dv (i:=2) pC.nd rfl (by walk_at "o") (bN bM (gN (ni (vs:=[(.str "board"),(.str "both")]) rfl)) (fP o7 (by rfl) T.fU PyProof.Rows.boot_int (ai (El (KJ dO (J2 T) ((hm hr).m.mark _) rfl T.bg.m T.bg.n.kp T.bg.b .nil (ai (cv 3) au))) au)) (fun _ _=>rfl))))) (OX T.xk_FoldError rfl T.fJ (fun _=>(aS (dv (i:=2) pC.nd rfl (by walk_at "o") aM))) rP))))
   (aW (dD (cI (nE (eM hr)) (cv 1) (cv 0) (cB _)) (aS (cY aM)) eU)
   (aS (cY (cv 2)))))))
theorem SN (T:Txt K mg a):aJ P w K mg base gd 7 a.cL a.eK ["_law_lines_here"] (JJ a K):=by
 refine T.eE.n.iS pC (Oz T) (fun vs H Q E h=>?_) (fun H vs Q E h=>?_)
 ·obtain ⟨l,rows,nW,rfl,_⟩:=h;rfl
 ·obtain ⟨l,rows,nW,rfl,hl,hro,hz,hd,q⟩:=h
  show D8 a K _ [some (.ref l),none,none,none] H
  unfold D8
  have big:(20000:Nat)<=sizeLine:=by decide
  walk_at "go"
  refine ⟨_,.inl (.of hl),fun l1 H1 n1=>?_⟩
  refine ⟨l1,rows,rfl,n1.at_,hro,hz,fun m ps ties f gb=>?_,fun m ps ties f ng H2 e s2 he=>⟨e,_,rfl,rfl,T.xk_NoBoard,?_⟩,fun hn H2 e s2 he=>⟨e,_,rfl,rfl,T.xk_NoText,?_⟩⟩
  ·exfalso
   rcases hd with ⟨_,h⟩ | ⟨_,m',me,ties',f',ng,_⟩
   ·exact h ⟨m,ps,ties,f⟩
   ·obtain ⟨rfl,rfl,rfl⟩:=DJ f f'
    exact ng gb
  ·rw [T.xm_NoBoard_NoText,T.xm_NoBoard_NoBoard]
   obtain rfl:nW = "board":=by
    rcases hd with ⟨_,h⟩ | ⟨h,_⟩
    ·exact absurd ⟨m,ps,ties,f⟩ h
    ·exact h
   walk_at "go"
   refine ⟨T.xk_NoBoard,by show 2<=sizeLine;omega,fun p3 H3 n3=>⟨e,rfl,.inr (n3.same _ _ cq),fun H4 s4=>?_⟩⟩
   walk_at "go"
   have mI:=((iU he).trans n3.same).trans s4
   have jW:=s2.trans mI
   exact ⟨_,_,.inl (.of (s4 _ _ n3.at_)),rfl,true,.inl ⟨rfl,GW (jW _ _ n1.at_) ((n1.same.trans jW) _ _ hl)⟩,q H4 (n1.same.trans jW)⟩
  ·rw [T.xm_NoText_NoText]
   obtain rfl:nW = "text":=by
    rcases hd with ⟨h,_⟩ | ⟨_,m,ps,ties,f,_⟩
    ·exact h
    ·exact absurd ⟨m,ps,ties,f⟩ hn
   walk_at "go"
   refine ⟨by show 2<=sizeLine;omega,fun p3 H3 n3=>⟨a.ag,false,n3.same _ _ cq,T.xq_NoText,.inl T.ko_NoText_NoBoard,?_⟩⟩
   walk_at "go"
   refine ⟨e,rfl,.inl (n3.same _ _ cq),fun H4 s4=>?_⟩
   walk_at "go"
   have mI:=((iU he).trans n3.same).trans s4
   have jW:=s2.trans mI
   exact ⟨_,_,.inl (.of (s4 _ _ n3.at_)),rfl,true,.inl ⟨rfl,GW (jW _ _ n1.at_) ((n1.same.trans jW) _ _ hl)⟩,q H4 (n1.same.trans jW)⟩
theorem PX {rows:List (List Str)} (h:rows.length<=1):¬ ∃ m ps ties,Form rows m ps ties:=fun ⟨_,_,_,f⟩=>by
 have:=vT f
 omega
noncomputable def nu (r:Int):Str:=if r=1 then "board" else "text"
noncomputable def h9 (K:ZoW):Sp:=fun vs H Q _=>∃ (p:Addr) (ns:List Int),vs=[.ref p]/\aR K H p (ns.map V.int)/\ns.length<=63/\∀ H',Q (.bl true) H'
noncomputable def Gw (a:dy) (K:ZoW):TS:=(aV (bG (af bc (tC (.int 2)) (af (aQ (fun _ j=>0<j) fun i j=>.int (i % j)) (bS (kI K) [] E0 (ah (aa 0) (ah (tC (.int 0)) ar))) (tC (.int 8)))) (aK 1))
  (aV (bG (bS (Nf K) [] E0 (ah (aa 0) (ah (aa 1) ar))) (aK 2))
  (aV (bG (bw (oE K) (ah (aa 2) ar)) (aK 3))
  (aV (bG (af (bE K) (fH (mW [(.str "text"),(.str "board"),(.str "text")])) (af (aQ (fun _ j=>0<j) fun i j=>.int (i % j)) (bS (kI K) [] E0 (ah (aa 0) (ah (tC (.int 2)) ar))) (tC (.int 3)))) (aK 4))
  (tE (cM (bK (af (fQ fun i j=>.bl (decide (j<i))) (af (aQ (fun _ j=>0<j) fun i j=>.int (i % j)) (bS (kI K) [] E0 (ah (aa 0) (ah (tC (.int 2)) ar))) (tC (.int 3))) (tC (.int 0)))) (bG (bS (IC K) [] E0 (ah (aa 2) (ah (aa 1) (ah (bS (kI K) [] E0 (ah (aa 0) (ah (tC (.int 3)) ar))) ar)))) (aK 2)) eh)
  (tE (cM (bK (af (mi K) (af (aQ (fun _ j=>0<j) fun i j=>.int (i % j)) (bS (kI K) [] E0 (ah (aa 0) (ah (tC (.int 2)) ar))) (tC (.int 3))) (tC (.int 1)))) (aV (bG (af (aQ (fun _ j=>0<j) fun i j=>.int (i % j)) (bS (kI K) [] E0 (ah (aa 0) (ah (tC (.int 4)) ar))) (bw (gY K) (ah (aa 2) ar))) (aK 5))
  (aV (bG (bS (Mo K) [] E0 (ah (af (bE K) (aa 2) (aa 5)) (ah (af (aQ cX fun i j=>.int (i / j)) (bS (kI K) [] E0 (ah (aa 0) (ah (tC (.int 4)) ar))) (tC (.int 64))) ar))) (nC (aa 2) (aa 5) kg))
  (cM (bK (af (gA K) (af (aQ (fun _ j=>0<j) fun i j=>.int (i % j)) (af (aQ cX fun i j=>.int (i / j)) (bS (kI K) [] E0 (ah (aa 0) (ah (tC (.int 2)) ar))) (tC (.int 3))) (tC (.int 8))) (tC (.int 5)))) (bG (jY (ka K) (aa 3) kJ (iR (af (aQ (fun _ j=>0<j) fun i j=>.int (i % j)) (af (aQ cX fun i j=>.int (i / j)) (bS (kI K) [] E0 (ah (aa 0) (ah (tC (.int 2)) ar))) (tC (.int 24))) (tC (.int 2))))) (aK 2)) eh))) eh)
  (cA (oo (af (gA K) (bS (JJ a K) [] E0 (ah (aa 2) ar)) (aa 4)) (af (gA K) (bS (Mm a K) [] E0 (ah (bS (Ib a K) [] E0 (ah (bw (oE K) (ah (aa 3) ar)) ar)) ar)) (aa 3))))))))))
theorem uF (T:Txt K mg a):TM P w K mg base 7 "law" A3 o8 a.mQ (Gw a K) :=
 fun hr=>(aW (dv (i:=1) pP.nd rfl (by walk_at "o") (aw bf ak (aw dE (eC T.ax (lJ T) (hm hr) dO (ai (cv 0) (ai ak au))) ak)))
   (aW (dv (i:=2) pP.nd rfl (by walk_at "o") (eC T.gk (Oe T) (hm hr) dO (ai (cv 0) (ai (cv 1) au))))
   (aW (dv (i:=3) pP.nd rfl (by walk_at "o") (fP wd (by rfl) T.dm PyProof.Rows.boot_list (ai (cv 2) au)))
   (aW (dv (i:=4) pP.nd rfl (by walk_at "o") (bN bM (gN (ni (vs:=[(.str "text"),(.str "board"),(.str "text")]) rfl)) (aw dE (eC T.ax (lJ T) (hm hr) dO (ai (cv 0) (ai ak au))) ak) (fun _ _=>rfl)))
   (BL (dD (cI kS (aw dE (eC T.ax (lJ T) (hm hr) dO (ai (cv 0) (ai ak au))) ak) ak (cB _)) (aS (dv (i:=2) pP.nd rfl (by walk_at "o") (eC T.dW (Ql T) (hm hr) dO (ai (cv 2) (ai (cv 1) (ai (eC T.ax (lJ T) (hm hr) dO (ai (cv 0) (ai ak au))) au)))))) eU)
   (BL (dD (cI (nE (eM hr)) (aw dE (eC T.ax (lJ T) (hm hr) dO (ai (cv 0) (ai ak au))) ak) ak (cB _)) (aW (dv (i:=5) pP.nd rfl (by walk_at "o") (aw dE (eC T.ax (lJ T) (hm hr) dO (ai (cv 0) (ai ak au))) (dX iE (by rfl) T.aL PySem.boot_len (ai (cv 2) au))))
   (aW (o6 (eC T.dN (Tr T) (hm hr) dO (ai (bN bM (cv 2) (cv 5) (fun _ _=>rfl)) (ai (aw fg (eC T.ax (lJ T) (hm hr) dO (ai (cv 0) (ai ak au))) ak) au))) (pk (cv 2) (cv 5) oQ))
   (aS (dD (cI (ic (eM hr)) (aw dE (aw fg (eC T.ax (lJ T) (hm hr) dO (ai (cv 0) (ai ak au))) ak) ak) ak (cB _)) (aS (dv (i:=2) pP.nd rfl (by walk_at "o") (kR kG (cv 3) mR (j6 (aw dE (aw fg (eC T.ax (lJ T) (hm hr) dO (ai (cv 0) (ai ak au))) ak) ak))))) eU)))) eU)
   (aS (cY (wF (AJ (ic (eM hr)) (eC T.eE (SN T) (hm hr) dO (ai (cv 2) au)) (cv 4) (cB _)) (vj (AJ (ic (eM hr)) (eC T.eJ (PN T) (hm hr) dO (ai (eC T.cz (IT T) (hm hr) Ak (ai (fP wd (by rfl) T.dm PyProof.Rows.boot_list (ai (cv 3) au)) au)) au)) (cv 3) (cB _))))))))))))
theorem uf (T:Txt K mg a):aJ P w K mg base gd 8 a.mQ a.pd ["_law_script"] (h9 K):=by
 refine T.p7.n.iS pP (uF T) (fun vs H Q E h=>?_) (fun H vs Q E h=>?_)
 ·obtain ⟨p,ns,rfl,_⟩:=h;rfl
 ·obtain ⟨p,ns,rfl,hS,hl,k⟩:=h
  show Gw a K _ [some (.ref p),none,none,none,none,none] H
  unfold Gw
  have big:(20000:Nat)<=sizeLine:=by decide
  have z0:=we ns 0
  have z2:=we ns 2
  have z3:=we ns 3
  have z4:=we ns 4
  walk_at "gs"
  refine ⟨p,ns,0,rfl,hS,?_⟩
  walk_at "gs"
  obtain ⟨m,hm⟩:=Zrl (by omega:0<=2+eP ns 0 % 8)
  rw [hm]
  have m2:2<=m:=by omega
  have m9:m<=9:=by omega
  clear hm
  refine ⟨p,ns,m,rfl,hS,m2,m9,fun l H1 ps ties s1 wl BD g=>?_⟩
  walk_at "gs"
  refine ⟨_,.inl (.of BD),fun gl H2 n2=>⟨by show 3<=sizeLine;omega,fun dl H3 n3=>?_⟩⟩
  have s3:=(s1.trans n2.same).trans n3.same
  refine ⟨p,ns,2,rfl,s3.seq hS,?_⟩
  walk_at "gs"
  have Ph:=Zrj (eP ns 2) (show (3:Int)≠0 by decide)
  have Ny:=Zrk (eP ns 2) (show (0:Int)<3 by decide)
  have ha:dC [V.str "text",V.str "board",V.str "text"] (eP ns 2 % 3)=some (.str (nu (eP ns 2 % 3))):=by
   have z:eP ns 2 % 3=0\/eP ns 2 % 3=1\/eP ns 2 % 3=2:=by omega
   rcases z with z | z | z <;> rw [z] <;> rfl
  refine ⟨_,_,.inl n3.sq,ha,?_⟩
  generalize hr:eP ns 2 % 3=r at Ph Ny ha
  have HU:H3 gl=some (.lst (((bQ m ps ties).map jn).map V.str)):=n3.same _ _ n2.at_
  have zR:iI H3 l (bQ m ps ties):=(n2.same.trans n3.same) _ _ BD
  have Vh:H gl=none:=s1.nil n2.fX
  have Tz:l≠gl:=fun z=>by have:=BD;unfold iI at this;rw [z,n2.fX] at this;cases this
  refine mid (fun σ' H'=>∃ l' rows,σ'=[some (.ref p),some (.int m),some (.ref l'),some (.ref gl),some (.str (nu r)),none]/\aH H H'/\H l'=none/\l'≠gl/\H' gl=some (.lst (((bQ m ps ties).map jn).map V.str))/\iI H' l' rows/\(r=0\/kh rows)/\∃ m' me ties',Form rows m' me ties'/\ties'.length<=10/\me.length<=30) (fun M hM=>?_) ?_
  ·walk_at "gs"
   refine ⟨p,ns,2,rfl,s3.seq hS,?_⟩
   walk_at "gs"
   rw [hr]
   by_cases h:0<r
   ·rw [if_pos h]
    refine ⟨p,ns,3,rfl,s3.seq hS,l,m,ps,ties,eP ns 3,rfl,zR,g,z3,fun l' H4 rows s4 hl4 wl4 nb=>?_⟩
    have nb':=nb
    obtain ⟨m',me,ties',f,_,t10,p30⟩:=nb'
    exact hM _ _ ⟨l',rows,rfl,s3.trans s4,s3.nil wl4,(fun z=>by rw [z,HU] at wl4;cases wl4),s4 _ _ HU,hl4,.inr nb,m',me,ties',f,t10,p30⟩
   ·rw [if_neg h]
    exact hM _ _ ⟨l,_,rfl,s3,wl,Tz,HU,zR,.inl (by omega),m,ps,ties,g.jy,by have:=g.t3;omega,by have:=g.nD;omega⟩
  rintro σ' H4 ⟨l',rows,rfl,s4,wl4,ngl4,hg4,hl4,FH,m',me,ties',f,t10,p30⟩
  have rl:=vT f
  have fr:=DA f t10
  refine mid (fun σ' H'=>∃ l'' rows' v5,σ'=[some (.ref p),some (.int m),some (.ref l''),some (.ref gl),some (.str (nu r)),v5]/\aH H H'/\H' gl=some (.lst (((bQ m ps ties).map jn).map V.str))/\iI H' l'' rows'/\(∀ ws∈rows',gv ws)/\rows'.length<=900/\Due rows' (nu r)) (fun M hM=>?_) ?_
  ·walk_at "gs"
   refine ⟨p,ns,2,rfl,s4.seq hS,?_⟩
   walk_at "gs"
   rw [hr]
   by_cases h1:r=1
   ·rw [if_neg (fun z=>z h1)]
    have nb:kh rows:=FH.resolve_left (by omega)
    exact hM _ _ ⟨l',rows,_,rfl,s4,hg4,hl4,fun ws hw=>(fr ws hw).1,by omega,.inr ⟨by unfold nu;rw [if_pos h1],nb⟩⟩
   rw [if_pos h1]
   have yq:nu r = "text":=by unfold nu;rw [if_neg h1]
   have lX:((rows.map jn).map V.str).length=rows.length:=by rw [ZpC,ZpC]
   refine ⟨p,ns,4,rfl,s4.seq hS,.inl ⟨_,.inl (.of hl4),?_⟩⟩
   show (0:Int)<(((rows.map jn).map V.str).length:Int)/\_
   rw [lX]
   have y0:=Zrj (eP ns 4) (show (rows.length:Int)≠0 by omega)
   have y1:=Zrk (eP ns 4) (show 0<(rows.length:Int) by omega)
   obtain ⟨i,ei,il⟩:∃ i:Nat,eP ns 4 % (rows.length:Int)=(i:Int)/\i<rows.length:=⟨(eP ns 4 % (rows.length:Int)).toNat,by omega,by omega⟩
   obtain ⟨ws,hws⟩:∃ ws,rows[i]? = some ws:=⟨_,ZpH il⟩
   rw [ei]
   refine ⟨by omega,_,_,.inl (.of hl4),(show dC ((rows.map jn).map V.str) (i:Int)=some (.str (jn ws)) from jF (by rw [ZpO,ZpF,hws];rfl)),p,ns,4,rfl,s4.seq hS,?_⟩
   show cX (eP ns 4) 64/\_
   refine ⟨⟨by decide,by decide⟩,BA rows.length i,ws,eP ns 4 / 64,rfl,Hf f hws,(fr ws (ZpP hws)).2,by omega,fun x H5 hb s5=>?_⟩
   obtain ⟨ws',ex,ro',nk⟩:=hb
   have FA:H5 l'=some (.lst ((rows.map jn).map V.str)):=s5 _ _ hl4
   have s6:aH H (upd H5 l' (.lst (((rows.map jn).map V.str).set i (.str x)))):=(s4.trans s5).put wl4
   have Cv:upd H5 l' (.lst (((rows.map jn).map V.str).set i (.str x))) gl=some (.lst (((bQ m ps ties).map jn).map V.str)):=by rw [bo (Ne.symm ngl4)];exact s5 _ _ hg4
   have Mu:iI (upd H5 l' (.lst (((rows.map jn).map V.str).set i (.str x)))) l' (rows.set i ws'):=iI.set ex
   refine ⟨l',_,_,i,rfl,rfl,FA,by rw [lX];exact GP il,?_⟩
   generalize upd H5 l' (.lst (((rows.map jn).map V.str).set i (.str x)))=H6 at s6 Cv Mu
   refine ⟨p,ns,2,rfl,s6.seq hS,?_⟩
   show cX (eP ns 2) 3/\_
   refine ⟨⟨by decide,by decide⟩,by decide,?_⟩
   by_cases h5:eP ns 2 / 3 % 8=5
   ·rw [if_pos h5]
    refine ⟨p,ns,2,rfl,s6.seq hS,?_⟩
    show cX (eP ns 2) 24/\_
    refine ⟨⟨by decide,by decide⟩,by decide,_,.of Cv,fun q7 H7 n7=>?_⟩
    obtain ⟨b,eb,b1⟩:∃ b:Nat,eP ns 2 / 24 % 2=(b:Int)/\b<=1:=⟨(eP ns 2 / 24 % 2).toNat,by omega,by omega⟩
    rw [eb,Ml] at n7
    refine hM _ _ ⟨q7,(bQ m ps ties).take b,_,rfl,s6.trans n7.same,n7.same _ _ Cv,?_,fun ws hw=>(DA g.jy (by have:=g.t3;omega) ws (ZqA hw)).1,by rw [Zp2];omega,.inl ⟨yq,PX (by rw [Zp2];omega)⟩⟩
    unfold iI
    rw [n7.at_,Zqq,Zqq]
   ·rw [if_neg h5]
    refine hM _ _ ⟨l',rows.set i ws',_,rfl,s6,Cv,Mu,fun w hw=>?_,by rw [Zqf];omega,.inl ⟨yq,RT (i:=i) (ws:=ws') (Zqn il) (by rw [Zqf];exact nk)⟩⟩
    rcases ZqH hw with h | rfl
    ·exact (fr w h).1
    ·exact ro'
  rintro σ' H5 ⟨l'',rows',v5,rfl,s5,hg5,FA,ro5,r900,due5⟩
  walk_at "gs"
  have t3:=g.t3
  have nD:=g.nD
  refine ⟨l'',rows',nu r,rfl,FA,ro5,r900,due5,fun H6 s6=>?_⟩
  show if nu r=nu r then _ else _
  rw [if_pos rfl]
  refine ⟨_,.inl (.of (s6 _ _ hg5)),fun cl H7 n7=>⟨cl,bQ m ps ties,rfl,n7.at_,fun ws hw=>(DA g.jy (by omega) ws hw).1,by rw [vT g.jy];omega,fun m1 ps1 ties1 f1 gb mn x H8 em s8 hB=>?_,fun m1 ps1 ties1 f1 ng=>?_,fun hn=>absurd ⟨_,_,_,g.jy⟩ hn⟩⟩
  ·obtain ⟨e1,rfl,rfl⟩:=DJ f1 g.jy
   obtain rfl:mn=m:=by omega
   refine ⟨x,mn,ps1,ties1,rfl,hB,g.wp,g.wt,by omega,by omega,fun ll H9 md=>?_⟩
   obtain ⟨d1,d2,d3⟩:=md
   have el:CK mn ps1 ties1=(bQ mn ps1 ties1).map jn:=by
    unfold CK bQ
    rw [ZpD,ZpK,ZpO]
    rfl
   rw [el] at d2
   exact ⟨true,.inl ⟨rfl,GW (n:=3) d2 (d3 _ _ (s8 _ _ (n7.same _ _ (s6 _ _ hg5))))⟩,k _⟩
  ·obtain ⟨e1,rfl,rfl⟩:=DJ f1 g.jy
   subst e1
   exact absurd g.good ng
theorem oU {us:List Value} (h:us.length=1):∃ a,us=[a]:=List.length_eq_one_iff.mp h
theorem oY {us:List Value} (h:us.length=2):∃ a b,us=[a,b]:=by
 obtain _ | ⟨a,t⟩:=us
 ·cases h
 ·obtain ⟨b,rfl⟩:=oU (Nat.succ.inj h)
  exact ⟨a,b,rfl⟩
theorem pM {us:List Value} (h:us.length=3):∃ a b c,us=[a,b,c]:=by
 obtain _ | ⟨a,t⟩:=us
 ·cases h
 ·obtain ⟨b,c,rfl⟩:=oY (Nat.succ.inj h)
  exact ⟨a,b,c,rfl⟩
theorem qa {us:List Value} (h:us.length=4):∃ a b c d,us=[a,b,c,d]:=by
 obtain _ | ⟨a,t⟩:=us
 ·cases h
 ·obtain ⟨b,c,d,rfl⟩:=pM (Nat.succ.inj h)
  exact ⟨a,b,c,d,rfl⟩
theorem pF {us:List Value} (h:us.length=5):∃ a b c d e,us=[a,b,c,d,e]:=by
 obtain _ | ⟨a,t⟩:=us
 ·cases h
 ·obtain ⟨b,c,d,e,rfl⟩:=qa (Nat.succ.inj h)
  exact ⟨a,b,c,d,e,rfl⟩
theorem xa {us:List Value} (h:us.length=6):∃ a b c d e f,us=[a,b,c,d,e,f]:=by
 obtain _ | ⟨a,t⟩:=us
 ·cases h
 ·obtain ⟨b,c,d,e,f,rfl⟩:=pF (Nat.succ.inj h)
  exact ⟨a,b,c,d,e,f,rfl⟩
local macro_rules | `(tactic| walk_at "b1")=>`(tactic| exact fun _ _ _ _ _ _ us hl=>by obtain ⟨_,e⟩:=oU hl;subst e;rfl)
local macro_rules | `(tactic| walk_at "b2")=>`(tactic| exact fun _ _ _ _ _ _ us hl=>by obtain ⟨_,_,e⟩:=oY hl;subst e;rfl)
local macro_rules | `(tactic| walk_at "b3")=>`(tactic| exact fun _ _ _ _ _ _ us hl=>by obtain ⟨_,_,_,e⟩:=pM hl;subst e;rfl)
local macro_rules | `(tactic| walk_at "b4")=>`(tactic| exact fun _ _ _ _ _ _ us hl=>by obtain ⟨_,_,_,_,e⟩:=qa hl;subst e;rfl)
local macro_rules | `(tactic| walk_at "b5")=>`(tactic| exact fun _ _ _ _ _ _ us hl=>by obtain ⟨_,_,_,_,_,e⟩:=pF hl;subst e;rfl)
local macro_rules | `(tactic| walk_at "b6")=>`(tactic| exact fun _ _ _ _ _ _ us hl=>by obtain ⟨_,_,_,_,_,_,e⟩:=xa hl;subst e;rfl)
theorem all_mk {l:Zpn}{w:World}{K:ZoW}{h:Heap}{mg:Str->Option Value}{fa:Addr} (X:K.In h) (G:h.Ns mainGlobals mg) (SA:mg "law" = some (.ref fa))
  {f0:Addr}{f1:Addr}{f2:Addr}{f3:Addr}{f4:Addr}{f5:Addr}{f6:Addr}{f7:Addr}{f8:Addr}{f9:Addr}{IM:Addr}{JV:Addr}{IF:Addr}{Ka:Addr}{Lp:Addr}{J1:Addr}{Ki:Addr}{LD:Addr}{LB:Addr}{Jw:Addr}{Ni:Addr}{Nh:Addr}{Kw:Addr}{Iz:Addr}{M4:Addr}{MQ:Addr}{Io:Addr}{SU:Addr}{cC:Addr}{bh:Addr}{av:Addr}{gM:Addr}{fC:Addr}{fM:Addr}{fD:Addr}{d7:Addr}{fB:Addr}{fk:Addr}{aC:Addr}{gG:Addr}{jU:Tok}{fY:Tok}{ia:Tok}{gB:Tok}{hX:Tok}
  (iT:CP K "Board" cC)
  (aC_FoldError:ZoY K mainGlobals "FoldError" = some (some (.ref bh)))
  (aC_NoBoard:ZoY K mainGlobals "NoBoard" = some (some (.ref av)))
  (aC_NoCut:ZoY K mainGlobals "NoCut" = some (some (.ref gM)))
  (aC_NoGoal:ZoY K mainGlobals "NoGoal" = some (some (.ref fC)))
  (aC_NoKnot:ZoY K mainGlobals "NoKnot" = some (some (.ref fM)))
  (aC_NoLine:ZoY K mainGlobals "NoLine" = some (some (.ref fD)))
  (aC_NoMatch:ZoY K mainGlobals "NoMatch" = some (some (.ref d7)))
  (aC_NoName:ZoY K mainGlobals "NoName" = some (some (.ref fB)))
  (aC_NoSize:ZoY K mainGlobals "NoSize" = some (some (.ref fk)))
  (aC_NoText:ZoY K mainGlobals "NoText" = some (some (.ref aC)))
  (aC_NoTie:ZoY K mainGlobals "NoTie" = some (some (.ref gG)))
  (x0:FP K "full_column" zf f0)
  (x1:FP K "is_whole" zJ f1)
  (x2:FP K "is_between" zq f2)
  (x3:FP K "is_rising" vy f3)
  (x4:FP K "is_cut_of" vD f4)
  (x5:FP K "need_pieces" vO f5)
  (x6:FP K "need_ties" AE f6)
  (x7:FQ K cC "__init__" "Board.__init__" vf f7)
  (x8:FQ K cC "pieces" "Board.pieces" wk f8)
  (x9:FQ K cC "ties" "Board.ties" yX f9)
  (Uu:FP K "table_text" vJ IM)
  (SK:FP K "tie_text" Af JV)
  (Oy:FP K "board_lines" tV IF)
  (Ul:FP K "number_of" vI Ka)
  (Pd:FP K "many_of" zZ Lp)
  (TN:FP K "table_of" pZ J1)
  (Qd:FP K "piece_of" wm Ki)
  (TJ:FP K "tie_of" wX LD)
  (T3:FP K "ties_of" vG LB)
  (UD:FP K "board_of" uy Jw)
  (UH:FP K "_law_cell_at" Bb Ni)
  (UL:FP K "_law_lines" uz Nh)
  (Sa:FP K "_law_broken_number" yK Kw)
  (Qb:FP K "_law_formless" wq Iz)
  (UB:FP K "_law_no_board" Br M4)
  (QO:FP K "_law_alone" ua MQ)
  (O3:FP K "_law_refused" zd Io)
  (JB:FP K "law" A3 SU)
  (xi_NoBoard:Zpa K av [.type "ValueError",.type "Exception",.type "BaseException",.type "object"] "ValueError.__new__" = true)
  (xq_NoBoard:nJ K av=true)
  (kv_NoBoard:ZoX K (.ref av) (.type "ValueError")=some true)
  (xm_NoBoard_FoldError:(L2.mroIn K av).contains (.ref bh)=true)
  (xm_NoBoard_NoBoard:(L2.mroIn K av).contains (.ref av)=true)
  (xm_NoBoard_NoText:(L2.mroIn K av).contains (.ref aC)=false)
  (ko_NoBoard_FoldError:ZoX K (.ref av) (.ref bh)=some true)
  (ko_NoBoard_NoBoard:ZoX K (.ref av) (.ref av)=some true)
  (ko_NoBoard_NoCut:ZoX K (.ref av) (.ref gM)=some false)
  (ko_NoBoard_NoGoal:ZoX K (.ref av) (.ref fC)=some false)
  (ko_NoBoard_NoKnot:ZoX K (.ref av) (.ref fM)=some false)
  (ko_NoBoard_NoLine:ZoX K (.ref av) (.ref fD)=some false)
  (ko_NoBoard_NoMatch:ZoX K (.ref av) (.ref d7)=some false)
  (ko_NoBoard_NoName:ZoX K (.ref av) (.ref fB)=some false)
  (ko_NoBoard_NoSize:ZoX K (.ref av) (.ref fk)=some false)
  (ko_NoBoard_NoTie:ZoX K (.ref av) (.ref gG)=some false)
  (xi_NoText:Zpa K aC [.type "ValueError",.type "Exception",.type "BaseException",.type "object"] "ValueError.__new__" = true)
  (xq_NoText:nJ K aC=true)
  (kv_NoText:ZoX K (.ref aC) (.type "ValueError")=some true)
  (xm_NoText_FoldError:(L2.mroIn K aC).contains (.ref bh)=true)
  (xm_NoText_NoBoard:(L2.mroIn K aC).contains (.ref av)=false)
  (xm_NoText_NoText:(L2.mroIn K aC).contains (.ref aC)=true)
  (ko_NoText_FoldError:ZoX K (.ref aC) (.ref bh)=some true)
  (ko_NoText_NoBoard:ZoX K (.ref aC) (.ref av)=some false)
  (ko_NoText_NoCut:ZoX K (.ref aC) (.ref gM)=some false)
  (ko_NoText_NoGoal:ZoX K (.ref aC) (.ref fC)=some false)
  (ko_NoText_NoKnot:ZoX K (.ref aC) (.ref fM)=some false)
  (ko_NoText_NoLine:ZoX K (.ref aC) (.ref fD)=some false)
  (ko_NoText_NoMatch:ZoX K (.ref aC) (.ref d7)=some false)
  (ko_NoText_NoName:ZoX K (.ref aC) (.ref fB)=some false)
  (ko_NoText_NoSize:ZoX K (.ref aC) (.ref fk)=some false)
  (ko_NoText_NoTie:ZoX K (.ref aC) (.ref gG)=some false)
  (xk_FoldError:Zo4 K bh "BaseException" = true)
  (xk_NoBoard:Zo4 K av "BaseException" = true)
  (xk_NoText:Zo4 K aC "BaseException" = true)
  (n_Board_many:Zo0 K (.ref cC) "many" = some none)
  (n_Board_kept_pieces:Zo0 K (.ref cC) "kept_pieces" = some none)
  (n_Board_kept_ties:Zo0 K (.ref cC) "kept_ties" = some none)
  (g_FIGURES:ZoY K mainGlobals "FIGURES" = some (some (.str "0123456789" jU)))
  (g_GREATEST_KNOT:ZoY K mainGlobals "GREATEST_KNOT" = some (some (.int 999 fY)))
  (g_LONGEST_CUT:ZoY K mainGlobals "LONGEST_CUT" = some (some (.int 6 ia)))
  (g_MOST_FIGURES:ZoY K mainGlobals "MOST_FIGURES" = some (some (.int 3 gB)))
  (g_MOST_INPUTS:ZoY K mainGlobals "MOST_INPUTS" = some (some (.int 10 hX)))
  (z_ValueError:ZoY K mainGlobals "ValueError" = some none)
  (z_all:ZoY K mainGlobals "all" = some none)
  (z_bool:ZoY K mainGlobals "bool" = some none)
  (z_dict:ZoY K mainGlobals "dict" = some none)
  (z_enumerate:ZoY K mainGlobals "enumerate" = some none)
  (z_int:ZoY K mainGlobals "int" = some none)
  (z_isinstance:ZoY K mainGlobals "isinstance" = some none)
  (z_len:ZoY K mainGlobals "len" = some none)
  (z_list:ZoY K mainGlobals "list" = some none)
  (z_max:ZoY K mainGlobals "max" = some none)
  (z_range:ZoY K mainGlobals "range" = some none)
  (z_sorted:ZoY K mainGlobals "sorted" = some none)
  (z_str:ZoY K mainGlobals "str" = some none)
  (z_sum:ZoY K mainGlobals "sum" = some none)
  (z_tuple:ZoY K mainGlobals "tuple" = some none)
  (z_zip:ZoY K mainGlobals "zip" = some none) :
  ∃ fd:FuncData,(∀ (s:Shared) (v:Value),BindsTo s fd ⟨[v],[]⟩ [("_law_script",v)])/\∀ base:Heap,K.In base->base.Ns mainGlobals mg->aJ l.prog w K mg base gd 8 fa fd ["_law_script"] (h9 K):=by
 have e:=SA.symm.trans (ZoZ X G JB.choose_spec.1)
 cases e
 have T:Txt K mg ⟨f0,_,f1,_,f2,_,f3,_,f4,_,f5,_,f6,_,f7,_,f8,_,f9,_,IM,_,JV,_,IF,_,Ka,_,Lp,_,J1,_,Ki,_,LD,_,LB,_,Jw,_,Ni,_,Nh,_,Kw,_,Iz,_,M4,_,MQ,_,Io,_,_,_,cC,bh,av,gM,fC,fM,fD,d7,fB,fk,aC,gG⟩:=⟨x0.ft X G (by walk_at "b1"),x1.ft X G (by walk_at "b1"),x2.ft X G (by walk_at "b3"),x3.ft X G (by walk_at "b1"),x4.ft X G (by walk_at "b2"),x5.ft X G (by walk_at "b2"),x6.ft X G (by walk_at "b2"),x7.fm (by walk_at "b4"),x8.fm (by walk_at "b1"),x9.fm (by walk_at "b1"),Uu.ft X G (by walk_at "b2"),SK.ft X G (by walk_at "b1"),Oy.ft X G (by walk_at "b1"),Ul.ft X G (by walk_at "b1"),Pd.ft X G (by walk_at "b1"),TN.ft X G (by walk_at "b2"),Qd.ft X G (by walk_at "b1"),TJ.ft X G (by walk_at "b1"),T3.ft X G (by walk_at "b1"),UD.ft X G (by walk_at "b1"),UH.ft X G (by walk_at "b2"),UL.ft X G (by walk_at "b2"),Sa.ft X G (by walk_at "b2"),Qb.ft X G (by walk_at "b2"),UB.ft X G (by walk_at "b3"),QO.ft X G (by walk_at "b1"),O3.ft X G (by walk_at "b1"),JB.ft X G (by walk_at "b1"),ZoZ X G iT.a,iT.cl,iT.Sk x7,n_Board_many,n_Board_kept_pieces,n_Board_kept_ties,ZoZ X G aC_FoldError,ZoZ X G aC_NoBoard,ZoZ X G aC_NoCut,ZoZ X G aC_NoGoal,ZoZ X G aC_NoKnot,ZoZ X G aC_NoLine,ZoZ X G aC_NoMatch,ZoZ X G aC_NoName,ZoZ X G aC_NoSize,ZoZ X G aC_NoText,ZoZ X G aC_NoTie,xi_NoBoard,xq_NoBoard,kv_NoBoard,xm_NoBoard_FoldError,xm_NoBoard_NoBoard,xm_NoBoard_NoText,ko_NoBoard_FoldError,ko_NoBoard_NoBoard,ko_NoBoard_NoCut,ko_NoBoard_NoGoal,ko_NoBoard_NoKnot,ko_NoBoard_NoLine,ko_NoBoard_NoMatch,ko_NoBoard_NoName,ko_NoBoard_NoSize,ko_NoBoard_NoTie,xi_NoText,xq_NoText,kv_NoText,xm_NoText_FoldError,xm_NoText_NoBoard,xm_NoText_NoText,ko_NoText_FoldError,ko_NoText_NoBoard,ko_NoText_NoCut,ko_NoText_NoGoal,ko_NoText_NoKnot,ko_NoText_NoLine,ko_NoText_NoMatch,ko_NoText_NoName,ko_NoText_NoSize,ko_NoText_NoTie,xk_FoldError,xk_NoBoard,xk_NoText,⟨_,ZoZ X G g_FIGURES,⟨_,rfl⟩⟩,⟨_,ZoZ X G g_GREATEST_KNOT,⟨_,rfl⟩⟩,⟨_,ZoZ X G g_LONGEST_CUT,⟨_,rfl⟩⟩,⟨_,ZoZ X G g_MOST_FIGURES,⟨_,rfl⟩⟩,⟨_,ZoZ X G g_MOST_INPUTS,⟨_,rfl⟩⟩,Zo1 X G z_ValueError,Zo1 X G z_all,Zo1 X G z_bool,Zo1 X G z_dict,Zo1 X G z_enumerate,Zo1 X G z_int,Zo1 X G z_isinstance,Zo1 X G z_len,Zo1 X G z_list,Zo1 X G z_max,Zo1 X G z_range,Zo1 X G z_sorted,Zo1 X G z_str,Zo1 X G z_sum,Zo1 X G z_tuple,Zo1 X G z_zip⟩
 exact ⟨_,T.p7.n.tY fun _ _ _ _ _ _ _=>rfl,fun base _ _=>uf T⟩
theorem walk {l:Zpn}{q:Program}{loose:List Str}{XP:(Str->Option Value)->Heap->Prop}{YP:World->Heap->Prop}{d:DefRec}{K:Params->ZoW} (hn:l.most=some 63) (xq:d.params.defaults=[])
  (hY:∀ (w:World) (h:Heap),YP w h->(K w.params).In h)
  (F:∀ (w:World) (mg:Str->Option Value) (fa:Addr) (h:Heap),(K w.params).In h->h.Ns mainGlobals mg->mg d.name=some (.ref fa) ->
   ∃ fd:FuncData,(∀ (s:Shared) (u:Value),BindsTo s fd ⟨[u],[]⟩ [("_law_script",u)])/\∀ base:Heap,(K w.params).In base->base.Ns mainGlobals mg->aJ l.prog w (K w.params) mg base gd 8 fa fd ["_law_script"] (h9 (K w.params))) :
  PySem.W.WalkO q loose XP YP l.row.toRowW d [] (fun f vs=>PySem.call f vs) :=
 L2.K7 (n:=63) (k:=8) (x:="_law_script") (CX:=fun _=>gd) (sp:=fun w=>h9 (K w.params)) hn (by decide) xq ⟨rfl,by decide,by decide⟩ hY F (fun _ _ a ns hl _ hS=>⟨a,ns,rfl,hS,hl,fun _=>rfl⟩) fun _ _ _ _ _ z=>z
end jx
lay_quick PySem.Challenge.pw_gatefold_k40_board_unread
namespace OT
open PySem PySem.W PySem.Spec PyProof.Rows L2
noncomputable section
noncomputable abbrev PM:=Params
noncomputable abbrev OB:=Obj
noncomputable abbrev TP:Program:=PySem.W.Fast.tw11160669306926839402
noncomputable def tT (i:Nat):Stmt:=TP.main.body.getD i (.Pass ⟨0,0,0,0⟩)
noncomputable abbrev vs (s:Str) (t:Nat):Value:=.str s t
noncomputable abbrev vr (a:Nat):Value:=.ref a
noncomputable abbrev vi (a:Int) (t:Nat):Value:=.int a t
noncomputable abbrev nl:=BT.nil
noncomputable abbrev Zl (P:PM):BT:=BT.nil
noncomputable abbrev N (f:PM->OB) (a b:PM->BT) (P:PM):BT:=BT.node (f P) (a P) (b P)
noncomputable abbrev M (f:PM->OB) (a:PM->BT) (P:PM):BT:=BT.node (f P) (a P) BT.nil
noncomputable abbrev L (f:PM->OB) (P:PM):BT:=BT.node (f P) BT.nil BT.nil
noncomputable abbrev bF:Value:=.bool false
noncomputable abbrev bT:Value:=.bool true
noncomputable abbrev vb (y:String):Value:=.builtin y
noncomputable abbrev vt (y:String):Value:=.type y
noncomputable abbrev sr (a:Nat):Option Value:=some (.ref a)
noncomputable abbrev ss (s:Str) (t:Nat):Option Value:=some (.str s t)
noncomputable abbrev z0:Value:=.int 0 0
noncomputable abbrev of (y:String) (l:List Value):Obj:=⟨.type y,none,.fields ⟨l⟩,⟨[]⟩⟩
noncomputable abbrev oq (y:String) (l:List Value) (n:Nat):Obj:=⟨.type y,none,.seq ⟨l⟩ n,⟨[]⟩⟩
noncomputable abbrev od (y:String) (l:List DictEntry) (n:Nat):Obj:=⟨.type y,none,.dict ⟨l⟩ n,⟨[]⟩⟩
noncomputable abbrev vn:Value:=.none
noncomputable abbrev df (a:Array Value):Data:=.fields a
noncomputable abbrev dq (a:Array Value) (n:Nat):Data:=.seq a n
noncomputable abbrev dd (a:Array DictEntry) (n:Nat):Data:=.dict a n
noncomputable abbrev de (P:Params) (s:Str) (t:Nat) (v:Value):DictEntry:=.mk (PyData.keyHash P s) (.str s t) v
noncomputable abbrev ob (t:String) (d:Data) (sl:Array (Option Value)):Obj:=⟨.type t,none,d,sl⟩
noncomputable abbrev nd:=BT.node
noncomputable abbrev y0:String:=PySem.W.SL.s2766695959194262286x5
noncomputable abbrev y1:String:=PySem.W.SL.s5856160107412720595x4
noncomputable abbrev oC (a b c:Str) (n l k f v x:Nat):Obj:=of y1 [vs a n,vs b (n+1),vs c (n+2),vi l 0,vi k 0,z0,z0,vi f 0,vr v,bT,vi x 0,vr (v+1),vn,vn,vn,vr (v+2),vi (n+3) 0,vi l 0,vs c (n+4)]
noncomputable abbrev y2:String:=PySem.W.SL.s658472552662922059x5
noncomputable abbrev y3:String:=PySem.W.SL.s14018661285674007319x4
noncomputable abbrev y4:String:=PySem.W.SL.s7097527257260152453x26
noncomputable abbrev y5:String:=PySem.W.SL.s7174869446012820540x8
noncomputable abbrev y6:String:=PySem.W.SL.s6070975301684473832x10
noncomputable abbrev y7:String:=PySem.W.SL.s11030030927630378310x26
noncomputable abbrev y8:String:=PySem.W.SL.s10062305145149207511x16
noncomputable abbrev y9:String:=PySem.W.SL.s17162191345867700912x4
noncomputable abbrev iw:String:=PySem.W.SL.s5946037652744460706x9
noncomputable abbrev ix:String:=PySem.W.SL.s4278001404047624695x13
noncomputable abbrev hZ:String:=PySem.W.SL.s2742458400755230247x6
noncomputable abbrev iB:String:=PySem.W.SL.s4209523147560561109x18
noncomputable abbrev Gj:String:=PySem.W.SL.s14755015743595814543x17
noncomputable abbrev Jg:String:=PySem.W.SL.s10220274742760427390x26
noncomputable abbrev lM:String:=PySem.W.SL.s4290257624100764138x5
noncomputable abbrev lQ:String:=PySem.W.SL.s4860613602091757760x24
noncomputable abbrev Uo:String:=PySem.W.SL.s11443829558043349243x14
noncomputable abbrev Pu:String:=PySem.W.SL.s6511155373996960695x17
noncomputable abbrev Qa:String:=PySem.W.SL.s12411053484034534018x21
noncomputable abbrev b0 (P:PM):OB:=PySem.W.boot_o_0 P
noncomputable abbrev b1 (P:PM):OB:=PySem.W.boot_o_1 P
noncomputable abbrev b2 (P:PM):OB:=PySem.W.boot_o_2 P
noncomputable abbrev b3 (P:PM):OB:=PySem.W.boot_o_3 P
noncomputable abbrev b4 (P:PM):OB:=PySem.W.boot_o_4 P
noncomputable abbrev b5 (P:PM):OB:=PySem.W.boot_o_5 P
noncomputable abbrev b6 (P:PM):OB:=PySem.W.boot_o_6 P
noncomputable abbrev b7 (P:PM):OB:=PySem.W.boot_o_7 P
noncomputable abbrev b8 (P:PM):OB:=PySem.W.boot_o_8 P
noncomputable abbrev b9 (P:PM):OB:=PySem.W.boot_o_9 P
noncomputable abbrev tM (P:PM):OB:=PySem.W.boot_o_10 P
noncomputable abbrev j0 (a b:Str) (s:Stmt):OB:=⟨vn,none,.func (.mk a b (lT s) (.stmts (jh s)) (ba s) 0 [] vn vn vn vn none vn vn 0),⟨[]⟩⟩
noncomputable abbrev j1 (a b:Str) (s:Stmt) (q:Str) (t n:Nat):OB:=⟨(vt y5),none,.func (.mk a b (lT s) (.stmts (jh s)) (ba s) 3 [] vn vn vn (vs q t) none (vr n) vn 0),⟨[]⟩⟩
noncomputable abbrev q0:Str:=⟨⟨[103,97,116,101,102,111,108,100,46,98,111,97,114,100,115]⟩⟩
noncomputable abbrev q1:Str:=⟨⟨[78,111,77,97,116,99,104]⟩⟩
noncomputable abbrev q2:Str:=⟨⟨[110,101,101,100,95,116,105,101,115]⟩⟩
noncomputable abbrev q3:Str:=⟨⟨[116,105,101,115]⟩⟩
noncomputable abbrev q4:Str:=⟨⟨[108,111,119,101,114,115]⟩⟩
noncomputable abbrev q5:Str:=⟨⟨[108,101,110]⟩⟩
noncomputable abbrev q6:Str:=⟨⟨[78,111,66,111,97,114,100]⟩⟩
noncomputable abbrev q7:Str:=⟨⟨[97,32,98,111,97,114,100,32,104,97,115,32,111,110,101,32,111,117,116,112,117,116,32,111,114,32,109,111,114,101]⟩⟩
noncomputable abbrev q8:Str:=⟨⟨[116,105,101]⟩⟩
noncomputable abbrev q9:Str:=⟨⟨[105,115,95,119,104,111,108,101]⟩⟩
noncomputable abbrev gK:Str:=⟨⟨[95,95,109,111,100,117,108,101,95,95]⟩⟩
noncomputable abbrev cN:Str:=⟨⟨[103,97,116,101,102,111,108,100,46,101,114,114,111,114,115]⟩⟩
noncomputable abbrev ma:Str:=⟨⟨[95,95,113,117,97,108,110,97,109,101,95,95]⟩⟩
noncomputable abbrev pq:Str:=⟨⟨[78,111,83,105,122,101]⟩⟩
noncomputable abbrev gL:Str:=⟨⟨[95,95,102,105,114,115,116,108,105,110,101,110,111,95,95]⟩⟩
noncomputable abbrev gH:Str:=⟨⟨[95,95,115,116,97,116,105,99,95,97,116,116,114,105,98,117,116,101,115,95,95]⟩⟩
noncomputable abbrev ko:Str:=⟨⟨[95,95,110,97,109,101,95,95]⟩⟩
noncomputable abbrev kL:Str:=⟨⟨[95,95,100,111,99,95,95]⟩⟩
noncomputable abbrev RU:Str:=⟨⟨[95,95,112,97,99,107,97,103,101,95,95]⟩⟩
noncomputable abbrev O1:Str:=⟨⟨[95,95,108,111,97,100,101,114,95,95]⟩⟩
noncomputable abbrev Rh:Str:=⟨⟨[95,95,115,112,101,99,95,95]⟩⟩
noncomputable abbrev To:Str:=⟨⟨[95,95,97,110,110,111,116,97,116,105,111,110,115,95,95]⟩⟩
noncomputable abbrev Qs:Str:=⟨⟨[95,95,98,117,105,108,116,105,110,115,95,95]⟩⟩
noncomputable abbrev Qu:Str:=⟨⟨[95,95,102,105,108,101,95,95]⟩⟩
noncomputable abbrev aY:Str:=⟨⟨[47,99,108,97,105,109,47,99,117,116,46,112,121]⟩⟩
noncomputable abbrev Ot:Str:=⟨⟨[95,95,99,97,99,104,101,100,95,95]⟩⟩
noncomputable abbrev uX:Str:=⟨⟨[95,119,97,108,108]⟩⟩
noncomputable abbrev qd:Str:=⟨⟨[102,117,108,108,95,99,111,108,117,109,110]⟩⟩
noncomputable abbrev bW:Str:=⟨⟨[70,111,108,100,69,114,114,111,114]⟩⟩
noncomputable abbrev pY:Str:=⟨⟨[78,111,76,105,110,101]⟩⟩
noncomputable abbrev pN:Str:=⟨⟨[78,111,78,97,109,101]⟩⟩
noncomputable abbrev oO:Str:=⟨⟨[78,111,84,105,101]⟩⟩
noncomputable abbrev o1:Str:=⟨⟨[78,111,75,110,111,116]⟩⟩
noncomputable abbrev oV:Str:=⟨⟨[78,111,67,117,116]⟩⟩
noncomputable abbrev pT:Str:=⟨⟨[78,111,71,111,97,108]⟩⟩
noncomputable abbrev p9:Str:=⟨⟨[78,111,84,101,120,116]⟩⟩
noncomputable abbrev Bo:Str:=⟨⟨[99,111,108,117,109,110,115]⟩⟩
noncomputable abbrev Eo:Str:=⟨⟨[66,111,97,114,100,46,99,111,108,117,109,110,115]⟩⟩
noncomputable abbrev Ez:Str:=⟨⟨[115,101,108,102]⟩⟩
noncomputable abbrev uQ:Str:=⟨⟨[116,105,101,115,95,111,102]⟩⟩
noncomputable abbrev u3:Str:=⟨⟨[95,108,97,119,95,114,101,102,117,115,101,100]⟩⟩
noncomputable abbrev D4:Str:=⟨⟨[95,108,97,119,95,108,105,110,101,115,95,104,101,114,101]⟩⟩
noncomputable abbrev Rx:Str:=⟨⟨[95,108,97,119,95,104,97,110,100,101,100]⟩⟩
noncomputable abbrev N4:Str:=⟨⟨[95,108,97,119,95,116,111,108,100]⟩⟩
noncomputable abbrev qI:Str:=⟨⟨[98,111,97,114,100,95,111,102]⟩⟩
noncomputable abbrev Je:Str:=⟨⟨[95,108,97,119,95,101]⟩⟩
noncomputable abbrev qv:Str:=⟨⟨[95,108,97,119,95,97,108,111,110,101]⟩⟩
noncomputable abbrev pU:Str:=⟨⟨[66,111,97,114,100]⟩⟩
noncomputable abbrev uO:Str:=⟨⟨[95,108,97,119,95,98,114,111,107,101,110,95,110,117,109,98,101,114]⟩⟩
noncomputable abbrev S0:Str:=⟨⟨[114,111,119]⟩⟩
noncomputable abbrev uk:Str:=⟨⟨[116,105,101,95,111,102]⟩⟩
noncomputable abbrev SX:Str:=⟨⟨[119,111,114,100]⟩⟩
noncomputable abbrev Li:Str:=⟨⟨[116,104,105,110,103]⟩⟩
noncomputable abbrev TY:Str:=⟨⟨[108,101,97,115,116]⟩⟩
noncomputable abbrev Ro:Str:=⟨⟨[103,114,101,97,116,101,115,116]⟩⟩
noncomputable abbrev yw:Str:=⟨⟨[95,95,105,110,105,116,95,95]⟩⟩
noncomputable abbrev xy:Str:=⟨⟨[112,105,101,99,101,115]⟩⟩
noncomputable abbrev Bs:Str:=⟨⟨[100,101,112,116,104,115]⟩⟩
noncomputable abbrev MI:Str:=⟨⟨[95,95,100,105,99,116,95,95]⟩⟩
noncomputable abbrev BR:Str:=⟨⟨[95,95,119,101,97,107,114,101,102,95,95]⟩⟩
noncomputable abbrev Hb:Str:=⟨⟨[66,111,97,114,100,46,100,101,112,116,104,115]⟩⟩
noncomputable abbrev jr:Str:=⟨⟨[108,97,119,95,103,97,116,101,102,111,108,100,95,107,52,48,95,98,111,97,114,100,95,117,110,114,101,97,100]⟩⟩
noncomputable abbrev rR:Str:=⟨⟨[105,115,95,98,101,116,119,101,101,110]⟩⟩
noncomputable abbrev t4:Str:=⟨⟨[105,115,95,114,105,115,105,110,103]⟩⟩
noncomputable abbrev Qt:Str:=⟨⟨[77,79,83,84,95,73,78,80,85,84,83]⟩⟩
noncomputable abbrev UM:Str:=⟨⟨[71,82,69,65,84,69,83,84,95,75,78,79,84]⟩⟩
noncomputable abbrev Pj:Str:=⟨⟨[76,79,78,71,69,83,84,95,67,85,84]⟩⟩
noncomputable abbrev rQ:Str:=⟨⟨[105,115,95,99,117,116,95,111,102]⟩⟩
noncomputable abbrev sH:Str:=⟨⟨[110,101,101,100,95,112,105,101,99,101,115]⟩⟩
noncomputable abbrev Ri:Str:=⟨⟨[70,73,71,85,82,69,83]⟩⟩
noncomputable abbrev P1:Str:=⟨⟨[48,49,50,51,52,53,54,55,56,57]⟩⟩
noncomputable abbrev Ud:Str:=⟨⟨[77,79,83,84,95,70,73,71,85,82,69,83]⟩⟩
noncomputable abbrev sO:Str:=⟨⟨[116,97,98,108,101,95,116,101,120,116]⟩⟩
noncomputable abbrev qU:Str:=⟨⟨[116,105,101,95,116,101,120,116]⟩⟩
noncomputable abbrev rV:Str:=⟨⟨[98,111,97,114,100,95,108,105,110,101,115]⟩⟩
noncomputable abbrev t8:Str:=⟨⟨[110,117,109,98,101,114,95,111,102]⟩⟩
noncomputable abbrev sC:Str:=⟨⟨[109,97,110,121,95,111,102]⟩⟩
noncomputable abbrev t6:Str:=⟨⟨[116,97,98,108,101,95,111,102]⟩⟩
noncomputable abbrev t9:Str:=⟨⟨[112,105,101,99,101,95,111,102]⟩⟩
noncomputable abbrev sj:Str:=⟨⟨[95,108,97,119,95,99,101,108,108,95,97,116]⟩⟩
noncomputable abbrev qZ:Str:=⟨⟨[95,108,97,119,95,108,105,110,101,115]⟩⟩
noncomputable abbrev qm:Str:=⟨⟨[95,108,97,119,95,102,111,114,109,108,101,115,115]⟩⟩
noncomputable abbrev C6:Str:=⟨⟨[66,111,97,114,100,46,112,105,101,99,101,115]⟩⟩
noncomputable abbrev HJ:Str:=⟨⟨[107,101,112,116,95,112,105,101,99,101,115]⟩⟩
noncomputable abbrev qM:Str:=⟨⟨[66,111,97,114,100,46,95,95,105,110,105,116,95,95]⟩⟩
noncomputable abbrev AG:Str:=⟨⟨[109,97,110,121]⟩⟩
noncomputable abbrev E1:Str:=⟨⟨[107,101,112,116,95,116,105,101,115]⟩⟩
noncomputable abbrev kC:Str:=⟨⟨[103,97,116,101,102,111,108,100,46,119,104,111,108,101,115]⟩⟩
noncomputable abbrev z5:Str:=⟨⟨[95,108,97,119,95,115,99,114,105,112,116]⟩⟩
noncomputable abbrev FJ:Str:=⟨⟨[95,108,97,119,95,107]⟩⟩
noncomputable abbrev sP:Str:=⟨⟨[108,97,119]⟩⟩
noncomputable abbrev rZ:Str:=⟨⟨[95,108,97,119,95,110,111,95,98,111,97,114,100]⟩⟩
noncomputable abbrev iy:Str:=⟨⟨[103,97,116,101,102,111,108,100,46,98,111,97,114,100,108,105,110,101,115]⟩⟩
noncomputable abbrev uU:Str:=⟨⟨[66,111,97,114,100,46,116,105,101,115]⟩⟩
noncomputable abbrev yG:Str:=⟨⟨[95,95,109,97,105,110,95,95]⟩⟩
noncomputable abbrev xS:Str:=⟨⟨[95,108,97,119,95,109,97,110,121]⟩⟩
noncomputable abbrev rh:Str:=⟨⟨[95,108,97,119,95,99,101,108,108]⟩⟩
noncomputable abbrev Dx:Str:=⟨⟨[95,108,97,119,95,119,111,114,100]⟩⟩
noncomputable abbrev E2:Str:=⟨⟨[95,108,97,119,95,115,111,109,101]⟩⟩
noncomputable abbrev u9:Str:=⟨⟨[95,108,97,119,95,97,116]⟩⟩
noncomputable abbrev AK:Str:=⟨⟨[95,108,97,119,95,112,97,114,116,115]⟩⟩
noncomputable abbrev xt:Str:=⟨⟨[95,108,97,119,95,107,105,110,100]⟩⟩
noncomputable abbrev FG:Str:=⟨⟨[95,108,97,119,95,108,97,116,101,114]⟩⟩
noncomputable abbrev Hx:Str:=⟨⟨[95,108,97,119,95,108,97,115,116]⟩⟩
noncomputable abbrev wu:Str:=⟨⟨[60,109,111,100,117,108,101,62]⟩⟩
noncomputable abbrev Hv:Str:=⟨⟨[115,105,103,110]⟩⟩
noncomputable abbrev Fw:Str:=⟨⟨[95,108,97,119,95,103,111,111,100]⟩⟩
noncomputable abbrev EA:Str:=⟨⟨[95,108,97,119,95,100,117,101]⟩⟩
noncomputable abbrev G9:Str:=⟨⟨[107]⟩⟩
noncomputable abbrev Gd:Str:=⟨⟨[95,108,97,119,95,108,105,110,101]⟩⟩
noncomputable abbrev yk:Str:=⟨⟨[103,97,116,101,102,111,108,100,46,98,105,116,115]⟩⟩
noncomputable def aA (P:PM):=oq y0 [] 0
noncomputable abbrev e:=L aA
noncomputable def aN (P:PM):OB:=(Obj.mk vn none (df ⟨[]⟩) ⟨[]⟩)
noncomputable def EW (P:PM):=of y1 [vs wu 182,vs wu 183,vs aY 184,vi 1 0,z0,z0,z0,z0,vr 11,bF,vi 181 0,vr 12,vn,vn,vn,vn,vi 185 0,vi 1 0,vs aY 186]
noncomputable def Ht (P:PM):=(ob y2 Data.plain ⟨[(sr 13),(sr 3),(sr 3),none,(ss yG 164),none,(sr 0)]⟩)
noncomputable abbrev w0 (P:PM):List DictEntry:=[de P kL 166 vn,de P RU 167 vn,de P O1 168 (vb y4),de P Rh 169 vn,de P To 170 (vr 6),de P Qs 171 (vr 4),de P Qu 173 (vs aY 172),de P Ot 174 vn,de P uX 193 (vr 21),de P qd 202 (vr 28),de P bW 222 (vr 38)]
noncomputable def Q8 (P:PM):=od y3 ([de P ko 165 (vs cN 203)]++w0 P) 12
noncomputable abbrev Js (P:PM):List Value:=[vi 1 0,z0,vr 20,vi 5 0,z0,vr 27,vi 8 0,z0,vr 34]
noncomputable def Pl (P:PM):OB:=(Obj.mk vn none (df ⟨(Js P)⟩) ⟨[]⟩)
noncomputable def MR (P:PM):=oq y0 [vs G9 190] 0
noncomputable def IV (P:PM):=j0 uX uX (tT 0)
noncomputable def L8 (P:PM):=of y1 [vs uX 187,vs uX 188,vs aY 189,vi 1 0,vi 1 0,z0,z0,vi 3 0,vr 15,bT,vi 181 0,vr 16,vn,vr 17,vr 18,vr 19,vi 191 0,vi 1 0,vs aY 192]
noncomputable def Ju (P:PM):=j1 uX uX (tT 0) yG 164 20
noncomputable def MY (P:PM):=oq y0 [vs AG 199] 0
noncomputable def Iw (P:PM):=j0 qd qd (tT 2)
noncomputable def Ef (P:PM):=of y1 [vs qd 196,vs qd 197,vs aY 198,vi 5 0,vi 1 0,z0,z0,vi 3 0,vr 22,bT,vi 181 0,vr 23,vn,vr 24,vr 25,vr 26,vi 200 0,vi 5 0,vs aY 201]
noncomputable def LP (P:PM):=j1 qd qd (tT 2) yk 194 27
noncomputable def L7 (P:PM):=oq y0 [(vt y6)] 0
noncomputable def gJ (P:PM):=of y7 [(vb y8),(vt y9)]
noncomputable def LX (P:PM):=od y3 [de P gK 212 (vs cN 203),de P ma 214 (vs bW 213),de P gL 216 (vi 8 215),de P gH 217 (vr 36)] 4
noncomputable def Mw (P:PM):=of y1 [vs bW 207,vs bW 208,vs aY 209,vi 8 0,z0,z0,z0,z0,vr 32,bF,vi 181 0,vr 33,vn,vn,vn,vn,vi 210 0,vi 8 0,vs aY 211]
noncomputable def M8 (P:PM):=(ob y2 Data.plain ⟨[(sr 34),(sr 3),(sr 31),none,(ss cN 203),none,(sr 0)]⟩)
noncomputable def DG (P:PM):=od y3 [de P gK 212 (vs cN 203),de P gL 216 (vi 8 215),de P gH 217 (vr 36),de P BR 219 (vr 39),de P kL 220 vn] 3
noncomputable def T2 (P:PM):=(ob y9 (Data.cls (ClassData.mk bW [(vt y6)] [vr 38,(vt y6),(vt iw),(vt ix),(vt hZ)] 37 bW true [] [] false none false)) ⟨[(sr 29),none,(ss bW 205),(ss bW 213),(some (vb iB)),(some bT)]⟩)
noncomputable def KD (P:PM):=of Gj [vs BR 218,vr 38,(vb Jg),vn]
noncomputable def LI (P:PM):=of lM [vr 38,vr 38,vr 38]
noncomputable def JG (P:PM):=of y7 [(vb lQ),vr 38]
noncomputable abbrev w1 (P:PM):List DictEntry:=w0 P++[de P pY 238 (vr 51)]
noncomputable def Sj (P:PM):=od y3 ([de P ko 165 (vs cN 203)]++w1 P) 13
noncomputable abbrev JM (P:PM):List Value:=Js P++[vi 10 0,z0,vr 47]
noncomputable def QA (P:PM):OB:=(Obj.mk vn none (df ⟨(JM P)⟩) ⟨[]⟩)
noncomputable def SG (P:PM):=(ob y9 (Data.cls (ClassData.mk bW [(vt y6)] [vr 38,(vt y6),(vt iw),(vt ix),(vt hZ)] 37 bW true [] [vr 51] false none false)) ⟨[(sr 29),none,(ss bW 205),(ss bW 213),(some (vb iB)),(some bT)]⟩)
noncomputable def iP (P:PM):=oq y0 [vr 38] 0
noncomputable def LW (P:PM):=od y3 [de P gK 230 (vs cN 203),de P ma 232 (vs pY 231),de P gL 234 (vi 10 233),de P gH 235 (vr 49)] 4
noncomputable def LJ (P:PM):=of y1 [vs pY 225,vs pY 226,vs aY 227,vi 10 0,z0,z0,z0,z0,vr 45,bF,vi 181 0,vr 46,vn,vn,vn,vn,vi 228 0,vi 10 0,vs aY 229]
noncomputable def Np (P:PM):=(ob y2 Data.plain ⟨[(sr 47),(sr 3),(sr 44),none,(ss cN 203),none,(sr 0)]⟩)
noncomputable def HC (P:PM):=od y3 [de P gK 230 (vs cN 203),de P gL 234 (vi 10 233),de P gH 235 (vr 49),de P kL 236 vn] 2
noncomputable def Ej (P:PM):=(ob y9 (Data.cls (ClassData.mk pY [vr 38] [vr 51,vr 38,(vt y6),(vt iw),(vt ix),(vt hZ)] 50 pY true [] [] false none false)) ⟨[(sr 42),none,(ss pY 223),(ss pY 231),(some (vb iB)),(some bT)]⟩)
noncomputable def LO (P:PM):=of lM [vr 51,vr 51,vr 51]
noncomputable def Mz (P:PM):=of y7 [(vb lQ),vr 51]
noncomputable abbrev w2 (P:PM):List DictEntry:=w1 P++[de P pN 254 (vr 63)]
noncomputable def Qh (P:PM):=od y3 ([de P ko 165 (vs cN 203)]++w2 P) 14
noncomputable abbrev MT (P:PM):List Value:=JM P++[vi 12 0,z0,vr 59]
noncomputable def NW (P:PM):OB:=(Obj.mk vn none (df ⟨(MT P)⟩) ⟨[]⟩)
noncomputable def UE (P:PM):=(ob y9 (Data.cls (ClassData.mk bW [(vt y6)] [vr 38,(vt y6),(vt iw),(vt ix),(vt hZ)] 37 bW true [] [vr 51,vr 63] false none false)) ⟨[(sr 29),none,(ss bW 205),(ss bW 213),(some (vb iB)),(some bT)]⟩)
noncomputable def M9 (P:PM):=od y3 [de P gK 246 (vs cN 203),de P ma 248 (vs pN 247),de P gL 250 (vi 12 249),de P gH 251 (vr 61)] 4
noncomputable def xw (P:PM):=of y1 [vs pN 241,vs pN 242,vs aY 243,vi 12 0,z0,z0,z0,z0,vr 57,bF,vi 181 0,vr 58,vn,vn,vn,vn,vi 244 0,vi 12 0,vs aY 245]
noncomputable def An (P:PM):=(ob y2 Data.plain ⟨[(sr 59),(sr 3),(sr 56),none,(ss cN 203),none,(sr 0)]⟩)
noncomputable def rF (P:PM):=od y3 [de P gK 246 (vs cN 203),de P gL 250 (vi 12 249),de P gH 251 (vr 61),de P kL 252 vn] 2
noncomputable def qr (P:PM):=(ob y9 (Data.cls (ClassData.mk pN [vr 38] [vr 63,vr 38,(vt y6),(vt iw),(vt ix),(vt hZ)] 62 pN true [] [] false none false)) ⟨[(sr 54),none,(ss pN 239),(ss pN 247),(some (vb iB)),(some bT)]⟩)
noncomputable def yR (P:PM):=of lM [vr 63,vr 63,vr 63]
noncomputable def zU (P:PM):=of y7 [(vb lQ),vr 63]
noncomputable abbrev w3 (P:PM):List DictEntry:=w2 P++[de P oO 270 (vr 75)]
noncomputable def EL (P:PM):=od y3 ([de P ko 165 (vs cN 203)]++w3 P) 15
noncomputable abbrev Lu (P:PM):List Value:=MT P++[vi 14 0,z0,vr 71]
noncomputable def GK (P:PM):OB:=(Obj.mk vn none (df ⟨(Lu P)⟩) ⟨[]⟩)
noncomputable def Dv (P:PM):=(ob y9 (Data.cls (ClassData.mk bW [(vt y6)] [vr 38,(vt y6),(vt iw),(vt ix),(vt hZ)] 37 bW true [] [vr 51,vr 63,vr 75] false none false)) ⟨[(sr 29),none,(ss bW 205),(ss bW 213),(some (vb iB)),(some bT)]⟩)
noncomputable def Bv (P:PM):=od y3 [de P gK 262 (vs cN 203),de P ma 264 (vs oO 263),de P gL 266 (vi 14 265),de P gH 267 (vr 73)] 4
noncomputable def yh (P:PM):=of y1 [vs oO 257,vs oO 258,vs aY 259,vi 14 0,z0,z0,z0,z0,vr 69,bF,vi 181 0,vr 70,vn,vn,vn,vn,vi 260 0,vi 14 0,vs aY 261]
noncomputable def yD (P:PM):=(ob y2 Data.plain ⟨[(sr 71),(sr 3),(sr 68),none,(ss cN 203),none,(sr 0)]⟩)
noncomputable def uD (P:PM):=od y3 [de P gK 262 (vs cN 203),de P gL 266 (vi 14 265),de P gH 267 (vr 73),de P kL 268 vn] 2
noncomputable def qx (P:PM):=(ob y9 (Data.cls (ClassData.mk oO [vr 38] [vr 75,vr 38,(vt y6),(vt iw),(vt ix),(vt hZ)] 74 oO true [] [] false none false)) ⟨[(sr 66),none,(ss oO 255),(ss oO 263),(some (vb iB)),(some bT)]⟩)
noncomputable def yo (P:PM):=of lM [vr 75,vr 75,vr 75]
noncomputable def xG (P:PM):=of y7 [(vb lQ),vr 75]
noncomputable abbrev w4 (P:PM):List DictEntry:=w3 P++[de P o1 286 (vr 87)]
noncomputable def Ee (P:PM):=od y3 ([de P ko 165 (vs cN 203)]++w4 P) 16
noncomputable abbrev Kx (P:PM):List Value:=Lu P++[vi 16 0,z0,vr 83]
noncomputable def Dh (P:PM):OB:=(Obj.mk vn none (df ⟨(Kx P)⟩) ⟨[]⟩)
noncomputable def DQ (P:PM):=(ob y9 (Data.cls (ClassData.mk bW [(vt y6)] [vr 38,(vt y6),(vt iw),(vt ix),(vt hZ)] 37 bW true [] [vr 51,vr 63,vr 75,vr 87] false none false)) ⟨[(sr 29),none,(ss bW 205),(ss bW 213),(some (vb iB)),(some bT)]⟩)
noncomputable def yE (P:PM):=od y3 [de P gK 278 (vs cN 203),de P ma 280 (vs o1 279),de P gL 282 (vi 16 281),de P gH 283 (vr 85)] 4
noncomputable def yl (P:PM):=of y1 [vs o1 273,vs o1 274,vs aY 275,vi 16 0,z0,z0,z0,z0,vr 81,bF,vi 181 0,vr 82,vn,vn,vn,vn,vi 276 0,vi 16 0,vs aY 277]
noncomputable def xc (P:PM):=(ob y2 Data.plain ⟨[(sr 83),(sr 3),(sr 80),none,(ss cN 203),none,(sr 0)]⟩)
noncomputable def tj (P:PM):=od y3 [de P gK 278 (vs cN 203),de P gL 282 (vi 16 281),de P gH 283 (vr 85),de P kL 284 vn] 2
noncomputable def sJ (P:PM):=(ob y9 (Data.cls (ClassData.mk o1 [vr 38] [vr 87,vr 38,(vt y6),(vt iw),(vt ix),(vt hZ)] 86 o1 true [] [] false none false)) ⟨[(sr 78),none,(ss o1 271),(ss o1 279),(some (vb iB)),(some bT)]⟩)
noncomputable def AV (P:PM):=of lM [vr 87,vr 87,vr 87]
noncomputable def xR (P:PM):=of y7 [(vb lQ),vr 87]
noncomputable abbrev w5 (P:PM):List DictEntry:=w4 P++[de P oV 302 (vr 99)]
noncomputable def D0 (P:PM):=od y3 ([de P ko 165 (vs cN 203)]++w5 P) 17
noncomputable abbrev Ld (P:PM):List Value:=Kx P++[vi 18 0,z0,vr 95]
noncomputable def HL (P:PM):OB:=(Obj.mk vn none (df ⟨(Ld P)⟩) ⟨[]⟩)
noncomputable def Hd (P:PM):=(ob y9 (Data.cls (ClassData.mk bW [(vt y6)] [vr 38,(vt y6),(vt iw),(vt ix),(vt hZ)] 37 bW true [] [vr 51,vr 63,vr 75,vr 87,vr 99] false none false)) ⟨[(sr 29),none,(ss bW 205),(ss bW 213),(some (vb iB)),(some bT)]⟩)
noncomputable def xh (P:PM):=od y3 [de P gK 294 (vs cN 203),de P ma 296 (vs oV 295),de P gL 298 (vi 18 297),de P gH 299 (vr 97)] 4
noncomputable def xn (P:PM):=of y1 [vs oV 289,vs oV 290,vs aY 291,vi 18 0,z0,z0,z0,z0,vr 93,bF,vi 181 0,vr 94,vn,vn,vn,vn,vi 292 0,vi 18 0,vs aY 293]
noncomputable def xN (P:PM):=(ob y2 Data.plain ⟨[(sr 95),(sr 3),(sr 92),none,(ss cN 203),none,(sr 0)]⟩)
noncomputable def rO (P:PM):=od y3 [de P gK 294 (vs cN 203),de P gL 298 (vi 18 297),de P gH 299 (vr 97),de P kL 300 vn] 2
noncomputable def sW (P:PM):=(ob y9 (Data.cls (ClassData.mk oV [vr 38] [vr 99,vr 38,(vt y6),(vt iw),(vt ix),(vt hZ)] 98 oV true [] [] false none false)) ⟨[(sr 90),none,(ss oV 287),(ss oV 295),(some (vb iB)),(some bT)]⟩)
noncomputable def xF (P:PM):=of lM [vr 99,vr 99,vr 99]
noncomputable def Ay (P:PM):=of y7 [(vb lQ),vr 99]
noncomputable abbrev w6 (P:PM):List DictEntry:=w5 P++[de P pT 318 (vr 111)]
noncomputable def DB (P:PM):=od y3 ([de P ko 165 (vs cN 203)]++w6 P) 18
noncomputable abbrev Kf (P:PM):List Value:=Ld P++[vi 20 0,z0,vr 107]
noncomputable def Fs (P:PM):OB:=(Obj.mk vn none (df ⟨(Kf P)⟩) ⟨[]⟩)
noncomputable def F0 (P:PM):=(ob y9 (Data.cls (ClassData.mk bW [(vt y6)] [vr 38,(vt y6),(vt iw),(vt ix),(vt hZ)] 37 bW true [] [vr 51,vr 63,vr 75,vr 87,vr 99,vr 111] false none false)) ⟨[(sr 29),none,(ss bW 205),(ss bW 213),(some (vb iB)),(some bT)]⟩)
noncomputable def zM (P:PM):=od y3 [de P gK 310 (vs cN 203),de P ma 312 (vs pT 311),de P gL 314 (vi 20 313),de P gH 315 (vr 109)] 4
noncomputable def zk (P:PM):=of y1 [vs pT 305,vs pT 306,vs aY 307,vi 20 0,z0,z0,z0,z0,vr 105,bF,vi 181 0,vr 106,vn,vn,vn,vn,vi 308 0,vi 20 0,vs aY 309]
noncomputable def Bc (P:PM):=(ob y2 Data.plain ⟨[(sr 107),(sr 3),(sr 104),none,(ss cN 203),none,(sr 0)]⟩)
noncomputable def uI (P:PM):=od y3 [de P gK 310 (vs cN 203),de P gL 314 (vi 20 313),de P gH 315 (vr 109),de P kL 316 vn] 2
noncomputable def uq (P:PM):=(ob y9 (Data.cls (ClassData.mk pT [vr 38] [vr 111,vr 38,(vt y6),(vt iw),(vt ix),(vt hZ)] 110 pT true [] [] false none false)) ⟨[(sr 102),none,(ss pT 303),(ss pT 311),(some (vb iB)),(some bT)]⟩)
noncomputable def xO (P:PM):=of lM [vr 111,vr 111,vr 111]
noncomputable def yv (P:PM):=of y7 [(vb lQ),vr 111]
noncomputable abbrev w7 (P:PM):List DictEntry:=w6 P++[de P pq 334 (vr 123)]
noncomputable def HA (P:PM):=od y3 ([de P ko 165 (vs cN 203)]++w7 P) 19
noncomputable abbrev MU (P:PM):List Value:=Kf P++[vi 22 0,z0,vr 119]
noncomputable def Fo (P:PM):OB:=(Obj.mk vn none (df ⟨(MU P)⟩) ⟨[]⟩)
noncomputable def HZ (P:PM):=(ob y9 (Data.cls (ClassData.mk bW [(vt y6)] [vr 38,(vt y6),(vt iw),(vt ix),(vt hZ)] 37 bW true [] [vr 51,vr 63,vr 75,vr 87,vr 99,vr 111,vr 123] false none false)) ⟨[(sr 29),none,(ss bW 205),(ss bW 213),(some (vb iB)),(some bT)]⟩)
noncomputable def AW (P:PM):=od y3 [de P gK 326 (vs cN 203),de P ma 328 (vs pq 327),de P gL 330 (vi 22 329),de P gH 331 (vr 121)] 4
noncomputable def zF (P:PM):=of y1 [vs pq 321,vs pq 322,vs aY 323,vi 22 0,z0,z0,z0,z0,vr 117,bF,vi 181 0,vr 118,vn,vn,vn,vn,vi 324 0,vi 22 0,vs aY 325]
noncomputable def zw (P:PM):=(ob y2 Data.plain ⟨[(sr 119),(sr 3),(sr 116),none,(ss cN 203),none,(sr 0)]⟩)
noncomputable def qA (P:PM):=od y3 [de P gK 326 (vs cN 203),de P gL 330 (vi 22 329),de P gH 331 (vr 121),de P kL 332 vn] 2
noncomputable def qR (P:PM):=(ob y9 (Data.cls (ClassData.mk pq [vr 38] [vr 123,vr 38,(vt y6),(vt iw),(vt ix),(vt hZ)] 122 pq true [] [] false none false)) ⟨[(sr 114),none,(ss pq 319),(ss pq 327),(some (vb iB)),(some bT)]⟩)
noncomputable def yz (P:PM):=of lM [vr 123,vr 123,vr 123]
noncomputable def yB (P:PM):=of y7 [(vb lQ),vr 123]
noncomputable abbrev w8 (P:PM):List DictEntry:=w7 P++[de P q6 350 (vr 135)]
noncomputable def FR (P:PM):=od y3 ([de P ko 165 (vs cN 203)]++w8 P) 20
noncomputable abbrev K2 (P:PM):List Value:=MU P++[vi 24 0,z0,vr 131]
noncomputable def GR (P:PM):OB:=(Obj.mk vn none (df ⟨(K2 P)⟩) ⟨[]⟩)
noncomputable def Ig (P:PM):=(ob y9 (Data.cls (ClassData.mk bW [(vt y6)] [vr 38,(vt y6),(vt iw),(vt ix),(vt hZ)] 37 bW true [] [vr 51,vr 63,vr 75,vr 87,vr 99,vr 111,vr 123,vr 135] false none false)) ⟨[(sr 29),none,(ss bW 205),(ss bW 213),(some (vb iB)),(some bT)]⟩)
noncomputable def yx (P:PM):=od y3 [de P gK 342 (vs cN 203),de P ma 344 (vs q6 343),de P gL 346 (vi 24 345),de P gH 347 (vr 133)] 4
noncomputable def z8 (P:PM):=of y1 [vs q6 337,vs q6 338,vs aY 339,vi 24 0,z0,z0,z0,z0,vr 129,bF,vi 181 0,vr 130,vn,vn,vn,vn,vi 340 0,vi 24 0,vs aY 341]
noncomputable def ze (P:PM):=(ob y2 Data.plain ⟨[(sr 131),(sr 3),(sr 128),none,(ss cN 203),none,(sr 0)]⟩)
noncomputable def rC (P:PM):=od y3 [de P gK 342 (vs cN 203),de P gL 346 (vi 24 345),de P gH 347 (vr 133),de P kL 348 vn] 2
noncomputable def qk (P:PM):=(ob y9 (Data.cls (ClassData.mk q6 [vr 38] [vr 135,vr 38,(vt y6),(vt iw),(vt ix),(vt hZ)] 134 q6 true [] [] false none false)) ⟨[(sr 126),none,(ss q6 335),(ss q6 343),(some (vb iB)),(some bT)]⟩)
noncomputable def zX (P:PM):=of lM [vr 135,vr 135,vr 135]
noncomputable def zm (P:PM):=of y7 [(vb lQ),vr 135]
noncomputable abbrev w9 (P:PM):List DictEntry:=w8 P++[de P p9 366 (vr 147)]
noncomputable def C8 (P:PM):=od y3 ([de P ko 165 (vs cN 203)]++w9 P) 21
noncomputable abbrev JN (P:PM):List Value:=K2 P++[vi 26 0,z0,vr 143]
noncomputable def Er (P:PM):OB:=(Obj.mk vn none (df ⟨(JN P)⟩) ⟨[]⟩)
noncomputable def F7 (P:PM):=(ob y9 (Data.cls (ClassData.mk bW [(vt y6)] [vr 38,(vt y6),(vt iw),(vt ix),(vt hZ)] 37 bW true [] [vr 51,vr 63,vr 75,vr 87,vr 99,vr 111,vr 123,vr 135,vr 147] false none false)) ⟨[(sr 29),none,(ss bW 205),(ss bW 213),(some (vb iB)),(some bT)]⟩)
noncomputable def ye (P:PM):=od y3 [de P gK 358 (vs cN 203),de P ma 360 (vs p9 359),de P gL 362 (vi 26 361),de P gH 363 (vr 145)] 4
noncomputable def zD (P:PM):=of y1 [vs p9 353,vs p9 354,vs aY 355,vi 26 0,z0,z0,z0,z0,vr 141,bF,vi 181 0,vr 142,vn,vn,vn,vn,vi 356 0,vi 26 0,vs aY 357]
noncomputable def yC (P:PM):=(ob y2 Data.plain ⟨[(sr 143),(sr 3),(sr 140),none,(ss cN 203),none,(sr 0)]⟩)
noncomputable def rD (P:PM):=od y3 [de P gK 358 (vs cN 203),de P gL 362 (vi 26 361),de P gH 363 (vr 145),de P kL 364 vn] 2
noncomputable def qQ (P:PM):=(ob y9 (Data.cls (ClassData.mk p9 [vr 38] [vr 147,vr 38,(vt y6),(vt iw),(vt ix),(vt hZ)] 146 p9 true [] [] false none false)) ⟨[(sr 138),none,(ss p9 351),(ss p9 359),(some (vb iB)),(some bT)]⟩)
noncomputable def wH (P:PM):=of lM [vr 147,vr 147,vr 147]
noncomputable def yZ (P:PM):=of y7 [(vb lQ),vr 147]
noncomputable abbrev JY (P:PM):List DictEntry:=w9 P++[de P q1 382 (vr 159),de P q9 391 (vr 168),de P rR 400 (vr 175),de P t4 406 (vr 180),de P Qt 410 (vi 10 409),de P UM 412 (vi 999 411),de P Pj 414 (vi 6 413),de P rQ 420 (vr 185),de P sH 426 (vr 190)]
noncomputable def Ew (P:PM):=od y3 ([de P ko 165 (vs q0 407)]++JY P) 30
noncomputable abbrev JW (P:PM):List Value:=JN P++[vi 28 0,z0,vr 155,vi 31 0,z0,vr 167,vi 33 0,z0,vr 174,vi 35 0,z0,vr 179,vi 41 0,z0,vr 184,vi 47 0,z0,vr 189]
noncomputable def Es (P:PM):OB:=(Obj.mk vn none (df ⟨(JW P)⟩) ⟨[]⟩)
noncomputable def rz (P:PM):=(ob y9 (Data.cls (ClassData.mk bW [(vt y6)] [vr 38,(vt y6),(vt iw),(vt ix),(vt hZ)] 37 bW true [] [vr 51,vr 63,vr 75,vr 87,vr 99,vr 111,vr 123,vr 135,vr 147,vr 159] false none false)) ⟨[(sr 29),none,(ss bW 205),(ss bW 213),(some (vb iB)),(some bT)]⟩)
noncomputable def BG (P:PM):=od y3 [de P gK 374 (vs cN 203),de P ma 376 (vs q1 375),de P gL 378 (vi 28 377),de P gH 379 (vr 157)] 4
noncomputable def yF (P:PM):=of y1 [vs q1 369,vs q1 370,vs aY 371,vi 28 0,z0,z0,z0,z0,vr 153,bF,vi 181 0,vr 154,vn,vn,vn,vn,vi 372 0,vi 28 0,vs aY 373]
noncomputable def Ax (P:PM):=(ob y2 Data.plain ⟨[(sr 155),(sr 3),(sr 152),none,(ss cN 203),none,(sr 0)]⟩)
noncomputable def va (P:PM):=od y3 [de P gK 374 (vs cN 203),de P gL 378 (vi 28 377),de P gH 379 (vr 157),de P kL 380 vn] 2
noncomputable def sF (P:PM):=(ob y9 (Data.cls (ClassData.mk q1 [vr 38] [vr 159,vr 38,(vt y6),(vt iw),(vt ix),(vt hZ)] 158 q1 true [] [] false none false)) ⟨[(sr 150),none,(ss q1 367),(ss q1 375),(some (vb iB)),(some bT)]⟩)
noncomputable def yp (P:PM):=of lM [vr 159,vr 159,vr 159]
noncomputable def AQ (P:PM):=of y7 [(vb lQ),vr 159]
noncomputable def wQ (P:PM):=oq y0 [vs Li 388] 0
noncomputable def Ar (P:PM):=j0 q9 q9 (tT 16)
noncomputable def sU (P:PM):=of y1 [vs q9 385,vs q9 386,vs aY 387,vi 31 0,vi 1 0,z0,z0,vi 3 0,vr 162,bT,vi 181 0,vr 163,vn,vr 164,vr 165,vr 166,vi 389 0,vi 31 0,vs aY 390]
noncomputable def xT (P:PM):=j1 q9 q9 (tT 16) kC 383 167
noncomputable def wV (P:PM):=oq y0 [vs Li 395,vs TY 396,vs Ro 397] 0
noncomputable def zr (P:PM):=j0 rR rR (tT 17)
noncomputable def ud (P:PM):=of y1 [vs rR 392,vs rR 393,vs aY 394,vi 33 0,vi 3 0,z0,z0,vi 3 0,vr 169,bT,vi 181 0,vr 170,vn,vr 171,vr 172,vr 173,vi 398 0,vi 33 0,vs aY 399]
noncomputable def yW (P:PM):=j1 rR rR (tT 17) kC 383 174
noncomputable def zP (P:PM):=j0 t4 t4 (tT 18)
noncomputable def uH (P:PM):=oC t4 t4 aY 401 35 1 3 176 181
noncomputable def yJ (P:PM):=j1 t4 t4 (tT 18) kC 383 179
noncomputable def yM (P:PM):=j0 rQ rQ (tT 23)
noncomputable def si (P:PM):=oC rQ rQ aY 415 41 2 3 181 181
noncomputable def yb (P:PM):=j1 rQ rQ (tT 23) q0 407 184
noncomputable def xm (P:PM):=j0 sH sH (tT 24)
noncomputable def rm (P:PM):=oC sH sH aY 421 47 2 3 186 181
noncomputable def xH (P:PM):=j1 sH sH (tT 24) q0 407 189
noncomputable abbrev IY (P:PM):List DictEntry:=JY P++[de P q2 435 (vr 197),de P pU 491 (vr 238),de P Ri 495 (vs P1 494),de P Ud 497 (vi 3 496)]
noncomputable def EJ (P:PM):=od y3 ([de P ko 165 (vs iy 492)]++IY P) 34
noncomputable abbrev Mr (P:PM):List Value:=JW P++[vi 58 0,z0,vr 196,vi 64 0,z0,vr 203]
noncomputable def Gq (P:PM):OB:=(Obj.mk vn none (df ⟨(Mr P)⟩) ⟨[]⟩)
noncomputable def wo (P:PM):=oq y0 [vs q3 430,vs q4 431,vs q8 432] 0
noncomputable def zB (P:PM):=j0 q2 q2 (tT 25)
noncomputable def qL (P:PM):=of y1 [vs q2 427,vs q2 428,vs aY 429,vi 58 0,vi 2 0,z0,z0,vi 3 0,vr 191,bT,vi 181 0,vr 192,vn,vr 193,vr 194,vr 195,vi 433 0,vi 58 0,vs aY 434]
noncomputable def A6 (P:PM):=j1 q2 q2 (tT 25) q0 407 196
noncomputable abbrev RH (P:PM):List DictEntry:=[de P ma 445 (vs pU 444),de P gL 447 (vi 64 446),de P yw 453 (vr 209),de P xy 459 (vr 214),de P q3 466 (vr 221),de P Bo 473 (vr 228),de P Bs 480 (vr 235),de P gH 484 (vr 236)]
noncomputable def As (P:PM):=od y3 ([de P gK 443 (vs q0 407)]++RH P) 9
noncomputable abbrev OE (P:PM):List Value:=[vi 66 0,vi 4 0,vr 208,vi 74 0,vi 4 0,vr 213,vi 77 0,vi 4 0,vr 220,vi 80 0,vi 4 0,vr 227,vi 83 0,vi 4 0,vr 234]
noncomputable def AN (P:PM):OB:=(Obj.mk vn none (df ⟨(OE P)⟩) ⟨[]⟩)
noncomputable def Az (P:PM):=of y1 [vs pU 438,vs pU 439,vs aY 440,vi 64 0,z0,z0,z0,z0,vr 201,bF,vi 181 0,vr 202,vn,vn,vn,vn,vi 441 0,vi 64 0,vs aY 442]
noncomputable def wJ (P:PM):=(ob y2 Data.plain ⟨[(sr 203),(sr 3),(sr 200),none,(ss q0 407),none,(sr 0)]⟩)
noncomputable def Av (P:PM):=j0 yw qM (lE (tT 26) 0)
noncomputable def rS (P:PM):=oC yw qM aY 448 66 4 3 205 181
noncomputable def xK (P:PM):=j1 yw qM (lE (tT 26) 0) q0 407 208
noncomputable def Bh (P:PM):=j0 xy C6 (lE (tT 26) 1)
noncomputable def t7 (P:PM):=oC xy C6 aY 454 74 1 3 210 181
noncomputable def BB (P:PM):=j1 xy C6 (lE (tT 26) 1) q0 407 213
noncomputable def wI (P:PM):=oq y0 [vs Ez 463] 0
noncomputable def AZ (P:PM):=j0 q3 uU (lE (tT 26) 2)
noncomputable def qu (P:PM):=of y1 [vs q3 460,vs uU 461,vs aY 462,vi 77 0,vi 1 0,z0,z0,vi 3 0,vr 215,bT,vi 181 0,vr 216,vn,vr 217,vr 218,vr 219,vi 464 0,vi 77 0,vs aY 465]
noncomputable def Bg (P:PM):=j1 q3 uU (lE (tT 26) 2) q0 407 220
noncomputable def zg (P:PM):=oq y0 [vs Ez 470] 0
noncomputable def Aj (P:PM):=j0 Bo Eo (lE (tT 26) 3)
noncomputable def AI (P:PM):=of y1 [vs Bo 467,vs Eo 468,vs aY 469,vi 80 0,vi 1 0,z0,z0,vi 3 0,vr 222,bT,vi 181 0,vr 223,vn,vr 224,vr 225,vr 226,vi 471 0,vi 80 0,vs aY 472]
noncomputable def wW (P:PM):=j1 Bo Eo (lE (tT 26) 3) q0 407 227
noncomputable def BE (P:PM):=oq y0 [vs Ez 477] 0
noncomputable def z7 (P:PM):=j0 Bs Hb (lE (tT 26) 4)
noncomputable def Am (P:PM):=of y1 [vs Bs 474,vs Hb 475,vs aY 476,vi 83 0,vi 1 0,z0,z0,vi 3 0,vr 229,bT,vi 181 0,vr 230,vn,vr 231,vr 232,vr 233,vi 478 0,vi 83 0,vs aY 479]
noncomputable def Bx (P:PM):=j1 Bs Hb (lE (tT 26) 4) q0 407 234
noncomputable def xi (P:PM):=oq y0 [vs HJ 481,vs E1 482,vs AG 483] 0
noncomputable abbrev OG (P:PM):List DictEntry:=[de P gL 447 (vi 64 446),de P yw 453 (vr 209),de P xy 459 (vr 214),de P q3 466 (vr 221),de P Bo 473 (vr 228),de P Bs 480 (vr 235),de P gH 484 (vr 236),de P MI 486 (vr 239),de P BR 488 (vr 240),de P kL 489 vn]
noncomputable def sS (P:PM):=od y3 ([de P gK 443 (vs q0 407)]++OG P) 4
noncomputable def sY (P:PM):=(ob y9 (Data.cls (ClassData.mk pU [(vt hZ)] [vr 238,(vt hZ)] 237 pU true [] [] false none false)) ⟨[none,none,(ss pU 436),(ss pU 444),(some (vb Uo)),(some bT)]⟩)
noncomputable def zi (P:PM):=of Gj [vs MI 485,vr 238,(vb Pu),(vb Qa)]
noncomputable def Bq (P:PM):=of Gj [vs BR 487,vr 238,(vb Jg),vn]
noncomputable def xY (P:PM):=of lM [vr 238,vr 238,vr 238]
noncomputable def zz (P:PM):=of y7 [(vb lQ),vr 238]
noncomputable abbrev IH (P:PM):List DictEntry:=IY P++[de P sO 503 (vr 247),de P qU 511 (vr 254),de P rV 517 (vr 259),de P t8 523 (vr 264),de P sC 530 (vr 271),de P t6 536 (vr 276),de P t9 542 (vr 281),de P uk 549 (vr 288),de P uQ 555 (vr 293),de P qI 561 (vr 298),de P sj 571 (vr 305),de P qZ 577 (vr 310),de P uO 586 (vr 317),de P qm 597 (vr 324)]
noncomputable def Et (P:PM):=od y3 ([de P ko 165 (vs jr 562)]++IH P) 48
noncomputable abbrev Iy (P:PM):List Value:=Mr P++[vi 88 0,z0,vr 246,vi 90 0,z0,vr 253,vi 93 0,z0,vr 258,vi 100 0,z0,vr 263,vi 106 0,z0,vr 270,vi 110 0,z0,vr 275,vi 115 0,z0,vr 280,vi 121 0,z0,vr 287,vi 125 0,z0,vr 292,vi 129 0,z0,vr 297,vi 137 0,z0,vr 304,vi 141 0,z0,vr 309,vi 156 0,z0,vr 316,vi 159 0,z0,vr 323]
noncomputable def Fg (P:PM):OB:=(Obj.mk vn none (df ⟨(Iy P)⟩) ⟨[]⟩)
noncomputable def Bu (P:PM):=j0 sO sO (tT 30)
noncomputable def sT (P:PM):=oC sO sO aY 498 88 2 3 243 181
noncomputable def AY (P:PM):=j1 sO sO (tT 30) iy 492 246
noncomputable def zj (P:PM):=oq y0 [vs q8 507,vs Hv 508] 0
noncomputable def wR (P:PM):=j0 qU qU (tT 31)
noncomputable def rW (P:PM):=of y1 [vs qU 504,vs qU 505,vs aY 506,vi 90 0,vi 1 0,z0,z0,vi 3 0,vr 248,bT,vi 181 0,vr 249,vn,vr 250,vr 251,vr 252,vi 509 0,vi 90 0,vs aY 510]
noncomputable def zc (P:PM):=j1 qU qU (tT 31) iy 492 253
noncomputable def yj (P:PM):=j0 rV rV (tT 32)
noncomputable def qq (P:PM):=oC rV rV aY 512 93 1 3 255 181
noncomputable def xM (P:PM):=j1 rV rV (tT 32) iy 492 258
noncomputable def yn (P:PM):=j0 t8 t8 (tT 33)
noncomputable def sM (P:PM):=oC t8 t8 aY 518 100 1 3 260 181
noncomputable def Be (P:PM):=j1 t8 t8 (tT 33) iy 492 263
noncomputable def yT (P:PM):=oq y0 [vs S0 527] 0
noncomputable def AO (P:PM):=j0 sC sC (tT 34)
noncomputable def tI (P:PM):=of y1 [vs sC 524,vs sC 525,vs aY 526,vi 106 0,vi 1 0,z0,z0,vi 3 0,vr 265,bT,vi 181 0,vr 266,vn,vr 267,vr 268,vr 269,vi 528 0,vi 106 0,vs aY 529]
noncomputable def wO (P:PM):=j1 sC sC (tT 34) iy 492 270
noncomputable def xB (P:PM):=j0 t6 t6 (tT 35)
noncomputable def rB (P:PM):=oC t6 t6 aY 531 110 2 3 272 181
noncomputable def yI (P:PM):=j1 t6 t6 (tT 35) iy 492 275
noncomputable def xU (P:PM):=j0 t9 t9 (tT 36)
noncomputable def uS (P:PM):=oC t9 t9 aY 537 115 1 3 277 181
noncomputable def zQ (P:PM):=j1 t9 t9 (tT 36) iy 492 280
noncomputable def A5 (P:PM):=oq y0 [vs SX 546] 0
noncomputable def yd (P:PM):=j0 uk uk (tT 37)
noncomputable def uZ (P:PM):=of y1 [vs uk 543,vs uk 544,vs aY 545,vi 121 0,vi 1 0,z0,z0,vi 3 0,vr 282,bT,vi 181 0,vr 283,vn,vr 284,vr 285,vr 286,vi 547 0,vi 121 0,vs aY 548]
noncomputable def xQ (P:PM):=j1 uk uk (tT 37) iy 492 287
noncomputable def Bm (P:PM):=j0 uQ uQ (tT 38)
noncomputable def uM (P:PM):=oC uQ uQ aY 550 125 1 3 289 181
noncomputable def za (P:PM):=j1 uQ uQ (tT 38) iy 492 292
noncomputable def yP (P:PM):=j0 qI qI (tT 39)
noncomputable def rA (P:PM):=oC qI qI aY 556 129 1 3 294 181
noncomputable def yV (P:PM):=j1 qI qI (tT 39) iy 492 297
noncomputable def Ao (P:PM):=oq y0 [vs z5 567,vs FJ 568] 0
noncomputable def AH (P:PM):=j0 sj sj (tT 41)
noncomputable def uG (P:PM):=of y1 [vs sj 564,vs sj 565,vs aY 566,vi 137 0,vi 2 0,z0,z0,vi 3 0,vr 299,bT,vi 181 0,vr 300,vn,vr 301,vr 302,vr 303,vi 569 0,vi 137 0,vs aY 570]
noncomputable def wC (P:PM):=j1 sj sj (tT 41) jr 562 304
noncomputable def zL (P:PM):=j0 qZ qZ (tT 42)
noncomputable def u7 (P:PM):=oC qZ qZ aY 572 141 2 3 306 181
noncomputable def BC (P:PM):=j1 qZ qZ (tT 42) jr 562 309
noncomputable def yy (P:PM):=oq y0 [vs Dx 581,vs rh 582,vs E2 583] 0
noncomputable def Ag (P:PM):=j0 uO uO (tT 43)
noncomputable def r6 (P:PM):=of y1 [vs uO 578,vs uO 579,vs aY 580,vi 156 0,vi 2 0,z0,z0,vi 3 0,vr 311,bT,vi 181 0,vr 312,vn,vr 313,vr 314,vr 315,vi 584 0,vi 156 0,vs aY 585]
noncomputable def Al (P:PM):=j1 uO uO (tT 43) jr 562 316
noncomputable def xf (P:PM):=oq y0 [vs Gd 590,vs rh 591,vs AK 592,vs u9 593,vs xt 594] 0
noncomputable def Ai (P:PM):=j0 qm qm (tT 44)
noncomputable def sf (P:PM):=of y1 [vs qm 587,vs qm 588,vs aY 589,vi 159 0,vi 2 0,z0,z0,vi 3 0,vr 318,bT,vi 181 0,vr 319,vn,vr 320,vr 321,vr 322,vi 595 0,vi 159 0,vs aY 596]
noncomputable def A8 (P:PM):=j1 qm qm (tT 44) jr 562 323
noncomputable abbrev OM (P:PM):List DictEntry:=IH P++[de P rZ 611 (vr 331),de P qv 618 (vr 338),de P u3 628 (vr 345),de P sP 640 (vr 352)]
noncomputable def uW (P:PM):=od y3 ([de P ko 165 (vs jr 562)]++OM P) 52
noncomputable abbrev Si (P:PM):List Value:=Iy P++[vi 186 0,z0,vr 330,vi 210 0,z0,vr 337,vi 214 0,z0,vr 344,vi 228 0,z0,vr 351]
noncomputable def wY (P:PM):OB:=(Obj.mk vn none (df ⟨(Si P)⟩) ⟨[]⟩)
noncomputable def xZ (P:PM):=oq y0 [vs D4 601,vs xS 602,vs rh 603,vs u9 604,vs AK 605,vs xt 606,vs FG 607,vs Hx 608] 0
noncomputable def AR (P:PM):=j0 rZ rZ (tT 45)
noncomputable def uo (P:PM):=of y1 [vs rZ 598,vs rZ 599,vs aY 600,vi 186 0,vi 3 0,z0,z0,vi 3 0,vr 325,bT,vi 181 0,vr 326,vn,vr 327,vr 328,vr 329,vi 609 0,vi 186 0,vs aY 610]
noncomputable def xk (P:PM):=j1 rZ rZ (tT 45) jr 562 330
noncomputable def ym (P:PM):=oq y0 [vs Je 615] 0
noncomputable def yO (P:PM):=j0 qv qv (tT 46)
noncomputable def qK (P:PM):=of y1 [vs qv 612,vs qv 613,vs aY 614,vi 210 0,vi 1 0,z0,z0,vi 3 0,vr 332,bT,vi 181 0,vr 333,vn,vr 334,vr 335,vr 336,vi 616 0,vi 210 0,vs aY 617]
noncomputable def xC (P:PM):=j1 qv qv (tT 46) jr 562 337
noncomputable def wN (P:PM):=oq y0 [vs D4 622,vs Rx 623,vs N4 624,vs Je 625] 0
noncomputable def wB (P:PM):=j0 u3 u3 (tT 47)
noncomputable def u6 (P:PM):=of y1 [vs u3 619,vs u3 620,vs aY 621,vi 214 0,vi 1 0,z0,z0,vi 3 0,vr 339,bT,vi 181 0,vr 340,vn,vr 341,vr 342,vr 343,vi 626 0,vi 214 0,vs aY 627]
noncomputable def xx (P:PM):=j1 u3 u3 (tT 47) jr 562 344
noncomputable def yQ (P:PM):=oq y0 [vs z5 632,vs xS 633,vs D4 634,vs Fw 635,vs EA 636,vs u9 637] 0
noncomputable def Ah (P:PM):=j0 sP sP (tT 48)
noncomputable def uu (P:PM):=of y1 [vs sP 629,vs sP 630,vs aY 631,vi 228 0,vi 1 0,z0,z0,vi 3 0,vr 346,bT,vi 181 0,vr 347,vn,vr 348,vr 349,vr 350,vi 638 0,vi 228 0,vs aY 639]
noncomputable def A7 (P:PM):=j1 sP sP (tT 48) jr 562 351
noncomputable def JQ (P:Params):Heap:=(Heap.mk ⟨[b0 P,b1 P,b2 P,b3 P,b4 P,b5 P,b6 P,b7 P,b8 P,b9 P,tM P,aA P,aN P,EW P,Ht P]⟩ (PySem.Life.mk [] [] [] 0 [] [] false ⟨[]⟩ [] 0 false false false 0 [2000,10,10] false 0 true [] [] 0 false))
noncomputable def Kp (f:Nat):Nat->OB->BT->BT:=Nat.rec (fun _ _ t=>t) (fun _ r i x t=>BT.casesOn t (.node x .nil .nil) (fun y a b=>cond (Nat.beq i 0) (.node x a b) (cond (Nat.beq (i % 2) 1) (.node y (r (i / 2) x a) b) (.node y a (r (i / 2 - 1) x b))))) f
noncomputable def iK (P:PM) (l:List (PM->OB)):Nat->BT->BT:=List.rec (fun _ t=>t) (fun o _ r n t=>r (n+1) (Kp 12 n (o P) t)) l
noncomputable def up (P:PM) (l:List (Nat × (PM->OB))) (t:BT):BT:=List.rec (fun t=>t) (fun o _ r t=>r (Kp 12 o.1 (o.2 P) t)) l t
noncomputable def Dn (P:PM):BT:=iK P [b0,b1,b2,b3,b4,b5,b6,b7,b8,b9,tM,aA,aN,EW,Ht] 0 BT.nil
noncomputable def EO (P:PM):BT:=iK P [aA,aN,MR,aA,IV,L8,Ju,aA,aN,MY,aA,Iw,Ef,LP,L7,gJ,LX,aA,aN,Mw,M8,aA,DG,T2,KD,LI,JG] 15 (up P [(3,Q8),(12,Pl)] (Dn P))
noncomputable def Zip (P:PM):BT:=iK P [iP,gJ,LW,aA,aN,LJ,Np,aA,HC,Ej,LO,Mz] 42 (up P [(3,Sj),(12,QA),(38,SG)] (EO P))
noncomputable def HN (P:PM):BT:=iK P [iP,gJ,M9,aA,aN,xw,An,aA,rF,qr,yR,zU] 54 (up P [(3,Qh),(12,NW),(38,UE)] (Zip P))
noncomputable def EN (P:PM):BT:=iK P [iP,gJ,Bv,aA,aN,yh,yD,aA,uD,qx,yo,xG] 66 (up P [(3,EL),(12,GK),(38,Dv)] (HN P))
noncomputable def Fi (P:PM):BT:=iK P [iP,gJ,yE,aA,aN,yl,xc,aA,tj,sJ,AV,xR] 78 (up P [(3,Ee),(12,Dh),(38,DQ)] (EN P))
noncomputable def E6 (P:PM):BT:=iK P [iP,gJ,xh,aA,aN,xn,xN,aA,rO,sW,xF,Ay] 90 (up P [(3,D0),(12,HL),(38,Hd)] (Fi P))
noncomputable def Gi (P:PM):BT:=iK P [iP,gJ,zM,aA,aN,zk,Bc,aA,uI,uq,xO,yv] 102 (up P [(3,DB),(12,Fs),(38,F0)] (E6 P))
noncomputable def Fv (P:PM):BT:=iK P [iP,gJ,AW,aA,aN,zF,zw,aA,qA,qR,yz,yB] 114 (up P [(3,HA),(12,Fo),(38,HZ)] (Gi P))
noncomputable def Di (P:PM):BT:=iK P [iP,gJ,yx,aA,aN,z8,ze,aA,rC,qk,zX,zm] 126 (up P [(3,FR),(12,GR),(38,Ig)] (Fv P))
noncomputable def F9 (P:PM):BT:=iK P [iP,gJ,ye,aA,aN,zD,yC,aA,rD,qQ,wH,yZ] 138 (up P [(3,C8),(12,Er),(38,F7)] (Di P))
noncomputable def Hz (P:PM):BT:=iK P [iP,gJ,BG,aA,aN,yF,Ax,aA,va,sF,yp,AQ,aA,aN,wQ,aA,Ar,sU,xT,aA,aN,wV,aA,zr,ud,yW,aA,aN,zP,uH,yJ,aA,aN,yM,si,yb,aA,aN,xm,rm,xH] 150 (up P [(3,Ew),(12,Es),(38,rz)] (F9 P))
noncomputable def EY (P:PM):BT:=iK P [aA,aN,wo,aA,zB,qL,A6,aA,gJ,As,aA,AN,Az,wJ,aA,aN,Av,rS,xK,aA,aN,Bh,t7,BB,aA,aN,wI,aA,AZ,qu,Bg,aA,aN,zg,aA,Aj,AI,wW,aA,aN,BE,aA,z7,Am,Bx,xi,sS,sY,zi,Bq,xY,zz] 191 (up P [(3,EJ),(12,Gq)] (Hz P))
noncomputable def G6 (P:PM):BT:=iK P [aA,aN,Bu,sT,AY,aA,aN,zj,aA,wR,rW,zc,aA,aN,yj,qq,xM,aA,aN,yn,sM,Be,aA,aN,yT,aA,AO,tI,wO,aA,aN,xB,rB,yI,aA,aN,xU,uS,zQ,aA,aN,A5,aA,yd,uZ,xQ,aA,aN,Bm,uM,za,aA,aN,yP,rA,yV,aA,aN,Ao,aA,AH,uG,wC,aA,aN,zL,u7,BC,aA,aN,yy,aA,Ag,r6,Al,aA,aN,xf,aA,Ai,sf,A8] 243 (up P [(3,Et),(12,Fg)] (EY P))
noncomputable def M7 (P:PM):BT:=iK P [aA,aN,xZ,aA,AR,uo,xk,aA,aN,ym,aA,yO,qK,xC,aA,aN,wN,aA,wB,u6,xx,aA,aN,yQ,aA,Ah,uu,A7] 325 (up P [(3,uW),(12,wY)] (G6 P))
noncomputable def wj (P:Params):Heap:=(Heap.mk ⟨[b0 P,b1 P,b2 P,uW P,b4 P,b5 P,b6 P,b7 P,b8 P,b9 P,tM P,aA P,wY P,EW P,Ht P,aA P,aN P,MR P,aA P,IV P,L8 P,Ju P,aA P,aN P,MY P,aA P,Iw P,Ef P,LP P,L7 P,gJ P,LX P,aA P,aN P,Mw P,M8 P,aA P,DG P,rz P,KD P,LI P,JG P,iP P,gJ P,LW P,aA P,aN P,LJ P,Np P,aA P,HC P,Ej P,LO P,Mz P,iP P,gJ P,M9 P,aA P,aN P,xw P,An P,aA P,rF P,qr P,yR P,zU P,iP P,gJ P,Bv P,aA P,aN P,yh P,yD P,aA P,uD P,qx P,yo P,xG P,iP P,gJ P,yE P,aA P,aN P,yl P,xc P,aA P,tj P,sJ P,AV P,xR P,iP P,gJ P,xh P,aA P,aN P,xn P,xN P,aA P,rO P,sW P,xF P,Ay P,iP P,gJ P,zM P,aA P,aN P,zk P,Bc P,aA P,uI P,uq P,xO P,yv P,iP P,gJ P,AW P,aA P,aN P,zF P,zw P,aA P,qA P,qR P,yz P,yB P,iP P,gJ P,yx P,aA P,aN P,z8 P,ze P,aA P,rC P,qk P,zX P,zm P,iP P,gJ P,ye P,aA P,aN P,zD P,yC P,aA P,rD P,qQ P,wH P,yZ P,iP P,gJ P,BG P,aA P,aN P,yF P,Ax P,aA P,va P,sF P,yp P,AQ P,aA P,aN P,wQ P,aA P,Ar P,sU P,xT P,aA P,aN P,wV P,aA P,zr P,ud P,yW P,aA P,aN P,zP P,uH P,yJ P,aA P,aN P,yM P,si P,yb P,aA P,aN P,xm P,rm P,xH P,aA P,aN P,wo P,aA P,zB P,qL P,A6 P,aA P,gJ P,As P,aA P,AN P,Az P,wJ P,aA P,aN P,Av P,rS P,xK P,aA P,aN P,Bh P,t7 P,BB P,aA P,aN P,wI P,aA P,AZ P,qu P,Bg P,aA P,aN P,zg P,aA P,Aj P,AI P,wW P,aA P,aN P,BE P,aA P,z7 P,Am P,Bx P,xi P,sS P,sY P,zi P,Bq P,xY P,zz P,aA P,aN P,Bu P,sT P,AY P,aA P,aN P,zj P,aA P,wR P,rW P,zc P,aA P,aN P,yj P,qq P,xM P,aA P,aN P,yn P,sM P,Be P,aA P,aN P,yT P,aA P,AO P,tI P,wO P,aA P,aN P,xB P,rB P,yI P,aA P,aN P,xU P,uS P,zQ P,aA P,aN P,A5 P,aA P,yd P,uZ P,xQ P,aA P,aN P,Bm P,uM P,za P,aA P,aN P,yP P,rA P,yV P,aA P,aN P,Ao P,aA P,AH P,uG P,wC P,aA P,aN P,zL P,u7 P,BC P,aA P,aN P,yy P,aA P,Ag P,r6 P,Al P,aA P,aN P,xf P,aA P,Ai P,sf P,A8 P,aA P,aN P,xZ P,aA P,AR P,uo P,xk P,aA P,aN P,ym P,aA P,yO P,qK P,xC P,aA P,aN P,wN P,aA P,wB P,u6 P,xx P,aA P,aN P,yQ P,aA P,Ah P,uu P,A7 P]⟩ (PySem.Life.mk [] [] [] 0 [] [] false ⟨[]⟩ [] 0 false false false 0 [2000,10,10] false 0 true [] [] 0 false))
noncomputable def ev (p:Program):Env:=Env.mk p.main.scope mainNs mainNs [] Str.empty none (.ref 13) (some 14) 0
noncomputable def cE (p:Program):Code:=.body (behindTheImports p) (ev p)
noncomputable def st (p:Program) (i k:Nat):List Stmt:=((behindTheImports p).drop i).take k
noncomputable def LF:Life:=Life.mk [] [] [] 0 [] [] false #[] [] 0 false false false 0 [2000,10,10] false 0 true [] [] 0 false
noncomputable def SS (T:Params->BT) (n k:Nat) (w:World) (os:OsState):SharedT:=⟨T w.params,n,LF,⟨[]⟩,⟨0,0,0,0⟩,k,os⟩
noncomputable def Pc (f:(String->Option Builtin)->Program->World->Nat->Option Value->Nat->Nat->SharedT->Thread->Option (Flow × SharedT × Code × Pos)) (tb:String->Option Builtin) (p:Program) (N i k:Nat) (pos pos':Pos) (T T':Params->BT) (n t n' t':Nat):Prop :=
 ∀ (w:World) (os:OsState),f tb p w 11 (some (.ref 6)) 1 N (SS T n t w os) (piecesOf (st p i k) (ev p) (cE p) pos [topFrame ⟨0,0,0,0⟩])=some (.next,SS T' n' t' w os,cE p,pos')
theorem Pc.plain {N i k:Nat}{pos pos':Pos}{T T':Params->BT}{n t n' t':Nat} (h:Pc PySem.W.Fast.tw10110043849684766642 PySem.W.Fast.tw14364793385576792824 TP N i k pos pos' T T' n t n' t'):Pc segRunT treeTable PySem.Challenge.pw_gatefold_k40_board_unread N i k pos pos' T T' n t n' t':=by
 rw [PySem.W.Fast.te10110043849684766642,PySem.W.Fast.te14364793385576792824,PySem.W.Fast.te11160669306926839402]
 exact h
noncomputable abbrev PW:Program:=PySem.Challenge.pw_gatefold_k40_board_unread
noncomputable abbrev PC:=Pc segRunT treeTable PW
theorem c0:PC 263 0 5 ⟨0,0,0,0⟩ ⟨8,0,9,8⟩ Dn EO 15 187 42 223:=.plain fun w os=>by kernel_rfl
theorem c1:PC 214 5 1 ⟨8,0,9,8⟩ ⟨10,0,11,8⟩ EO Zip 42 223 54 239:=.plain fun w os=>by kernel_rfl
theorem c2:PC 214 6 1 ⟨10,0,11,8⟩ ⟨12,0,13,8⟩ Zip HN 54 239 66 255:=.plain fun w os=>by kernel_rfl
theorem c3:PC 214 7 1 ⟨12,0,13,8⟩ ⟨14,0,15,8⟩ HN EN 66 255 78 271:=.plain fun w os=>by kernel_rfl
theorem c4:PC 214 8 1 ⟨14,0,15,8⟩ ⟨16,0,17,8⟩ EN Fi 78 271 90 287:=.plain fun w os=>by kernel_rfl
theorem c5:PC 214 9 1 ⟨16,0,17,8⟩ ⟨18,0,19,8⟩ Fi E6 90 287 102 303:=.plain fun w os=>by kernel_rfl
theorem c6:PC 214 10 1 ⟨18,0,19,8⟩ ⟨20,0,21,8⟩ E6 Gi 102 303 114 319:=.plain fun w os=>by kernel_rfl
theorem c7:PC 214 11 1 ⟨20,0,21,8⟩ ⟨22,0,23,8⟩ Gi Fv 114 319 126 335:=.plain fun w os=>by kernel_rfl
theorem c8:PC 214 12 1 ⟨22,0,23,8⟩ ⟨24,0,25,8⟩ Fv Di 126 335 138 351:=.plain fun w os=>by kernel_rfl
theorem c9:PC 214 13 1 ⟨24,0,25,8⟩ ⟨26,0,27,8⟩ Di F9 138 351 150 367:=.plain fun w os=>by kernel_rfl
theorem c10:PC 397 14 11 ⟨26,0,27,8⟩ ⟨47,0,57,17⟩ F9 Hz 150 367 191 427:=.plain fun w os=>by kernel_rfl
theorem c11:PC 400 25 5 ⟨47,0,57,17⟩ ⟨87,0,87,12⟩ Hz EY 191 427 243 498:=.plain fun w os=>by kernel_rfl
theorem c12:PC 400 30 15 ⟨87,0,87,12⟩ ⟨159,0,185,134⟩ EY G6 243 498 325 598:=.plain fun w os=>by kernel_rfl
theorem c13:PC 132 45 4 ⟨159,0,185,134⟩ ⟨228,0,240,108⟩ G6 M7 325 598 353 641:=.plain fun w os=>by kernel_rfl
theorem step {p:Program}{N i k:Nat}{pos pos':Pos}{T T':Params->BT}{n t n' t':Nat} (c:Pc segRunT treeTable p N i k pos pos' T T' n t n' t') {M:Nat}{r:Shared}{w:World}{os:OsState}
  (h:topRun treeTable p w 11 (some (.ref 6)) M (SS T' n' t' w os).abs (restOf ((behindTheImports p).drop (i+k)) (ev p) (cE p) pos' [topFrame ⟨0,0,0,0⟩])=some r) :
  topRun treeTable p w 11 (some (.ref 6)) (N+M) (SS T n t w os).abs (restOf ((behindTheImports p).drop i) (ev p) (cE p) pos [topFrame ⟨0,0,0,0⟩])=some r:=by
 have e:(behindTheImports p).drop i=st p i k ++ (behindTheImports p).drop (i+k):=by
  unfold st
  rw [<- List.drop_drop]
  exact (ZqS _ _).symm
 rw [e]
 exact piece_app (segRun_of (c w os)) h
noncomputable def Fn (f:(String->Option Builtin)->Program->World->Nat->Option Value->Nat->Shared->Thread->Option Shared) (tb:String->Option Builtin) (p:Program):Prop :=
 ∀ (w:World) (os:OsState),f tb p w 11 (some (.ref 6)) 2 (SS M7 353 641 w os).abs ⟨doneF .next,cE p,⟨228,0,240,108⟩,[topFrame ⟨0,0,0,0⟩]⟩=some ⟨wj w.params,⟨[]⟩,⟨0,0,0,0⟩,641,os⟩
theorem fin:Fn topRun treeTable PW:=by
 rw [PySem.W.Fast.te14082659384304107361,PySem.W.Fast.te14364793385576792824,show PW=TP from PySem.W.Fast.te11160669306926839402]
 exact fun w os=>by kernel_rfl
noncomputable def Pr (f:(String->Option Builtin)->Program->World->Nat->Option Value->Nat->Shared->Thread->Option (Shared × Thread)) (d:(String->Option Builtin)->Code->Sem Fin) (tb:String->Option Builtin) (p:Program):Prop :=
 ∀ (w:World) (os:OsState),f tb p w 11 (some (.ref 6)) 12 ⟨boot_heap w.params,⟨[]⟩,boot_drawn,boot_toks,os⟩ (topStub p)=some (⟨JQ w.params,⟨[]⟩,⟨0,0,0,0⟩,187,os⟩,⟨d tb (cE p),cE p,⟨0,0,0,0⟩,[topFrame ⟨0,0,0,0⟩]⟩)
theorem DS:Pr topGo denote treeTable PW:=by
 rw [PySem.W.Fast.te15667345088766844465,PySem.W.Fast.te11892475500146522536,PySem.W.Fast.te14364793385576792824,show PW=TP from PySem.W.Fast.te11160669306926839402]
 exact fun w os=>by kernel_rfl
noncomputable def Bl (f:(String->Option Builtin)->Program->World->Nat->Option Value->Nat->Nat->Shared->Thread->Option (Flow × Shared × Code × Pos)) (tb:String->Option Builtin) (p:Program):Prop :=
 ∀ (w:World) (os:OsState),f tb p w 11 (some (.ref 6)) 1 1 ⟨JQ w.params,⟨[]⟩,⟨0,0,0,0⟩,187,os⟩ (blockOf (behindTheImports p) (ev p) (cE p) ⟨0,0,0,0⟩ [topFrame ⟨0,0,0,0⟩])=some (.next,(SS Dn 15 187 w os).abs,cE p,⟨0,0,0,0⟩)
theorem P9:Bl segRun treeTable PW:=by
 rw [PySem.W.Fast.te14374325043358763698,PySem.W.Fast.te14364793385576792824,show PW=TP from PySem.W.Fast.te11160669306926839402]
 exact fun w os=>by kernel_rfl
theorem T6:(behindTheImports PW).drop 49=[]:=by kernel_rfl
theorem run (w:World) (os:OsState):topRun treeTable PW w 11 (some (.ref 6)) (12+(1+(263+(214+(214+(214+(214+(214+(214+(214+(214+(214+(397+(400+(400+(132+2)))))))))))))))) ⟨boot_heap w.params,⟨[]⟩,boot_drawn,boot_toks,os⟩ (topStub PW)=some ⟨wj w.params,⟨[]⟩,⟨0,0,0,0⟩,641,os⟩:=by
 refine go_top (DS w os) ?_
 refine piece_block (P9 w os) ?_
 refine step c0 (step c1 (step c2 (step c3 (step c4 (step c5 (step c6 (step c7 (step c8 (step c9 (step c10 (step c11 (step c12 (step c13 ?_)))))))))))))
 rw [T6]
 exact fin w os
theorem size (w:World):((boot_heap w.params).isNs mainGlobals && (Array.mk ([]:List GenState)).size == 0,(boot_heap w.params).objs.size,(boot_heap w.params).nsMap mainGlobals "__annotations__")=(true,11,some (.ref 6)):=by kernel_rfl
theorem op:∀ w:World,(fencedOpening treeTable PW w 7146).map (fun s=>(s.heap,s.gens,s.drawn,s.toks))=some (boot_heap w.params,Array.mk [],boot_drawn,boot_toks) :=
 boot_open (by kernel_rfl) (by decide) (fun s=>by kernel_rfl)
noncomputable def KP:List Nat:=[0,2,4,5,6,7,8,9,10,11,12,13,14,16,17,18,20,21,22,23,24,25,26,28,29,30,31,32,33,34,35,36,37,38,39,41,42,43,44,45,46,47,48]
noncomputable def VW (p:Program):Program:={ p with main:={ p.main with body:=KP.filterMap fun i=>p.main.body[i]? } }
noncomputable abbrev S9 (w:World) (os:OsState):Shared:=⟨wj w.params,⟨[]⟩,⟨0,0,0,0⟩,641,os⟩
noncomputable def LA (im:List Stmt->List Str) (p:Program):Prop :=
 ∀ (w:World) (os:OsState),(staticsOk (im p.main.body) (boot_heap w.params) (wj w.params) && namesBound p (wj w.params) && gensDone (S9 w os) && laidKept (boot_heap w.params) (wj w.params))=true
theorem la:LA importedModules PW:=by
 rw [PySem.W.Fast.te5923862056798008813,show PW=TP from PySem.W.Fast.te11160669306926839402]
 exact fun w os=>by kernel_rfl
noncomputable abbrev XT (q:Program):Shared->Bool:=fun s=>xlAt q [] s && recOk [] s
theorem SO (w:World) (os:OsState):PySem.W.Fast.tw4187177175401517315 (VW TP) [] (PySem.W.Fast.tw5923862056798008813 TP.main.body) (XT (VW TP)) true (S9 w os)=openGood (VW TP) []:=by kernel_rfl
end
end OT
namespace jx
open PySem PySem.Spec PyProof.Rows L2
noncomputable abbrev Q (l:List Nat):Str:=⟨⟨l⟩⟩
noncomputable abbrev fq (b c:Str) (s:Stmt) (q:Str) (t n:Nat):Obj:=⟨(Value.type "function"),none,.func (Zo2 b c (lT s) (jh s) (ba s) Value.none Value.none Value.none (Value.str q t) none (Value.ref n) Value.none),⟨[]⟩⟩
set_option maxRecDepth 100000 in
noncomputable def KF:Params->ZoW:=fun P =>
 (nat_lit 28,fq "full_column" "full_column" zf OT.yk 194 27) ::
 (nat_lit 168,fq "is_whole" "is_whole" zJ OT.kC 383 167) ::
 (nat_lit 175,fq "is_between" "is_between" zq OT.kC 383 174) ::
 (nat_lit 180,fq "is_rising" "is_rising" vy OT.kC 383 179) ::
 (nat_lit 185,fq "is_cut_of" "is_cut_of" vD OT.q0 407 184) ::
 (nat_lit 190,fq "need_pieces" "need_pieces" vO OT.q0 407 189) ::
 (nat_lit 197,fq "need_ties" "need_ties" AE OT.q0 407 196) ::
 (nat_lit 209,fq "__init__" "Board.__init__" vf OT.q0 407 208) ::
 (nat_lit 214,fq "pieces" "Board.pieces" wk OT.q0 407 213) ::
 (nat_lit 221,fq "ties" "Board.ties" yX OT.q0 407 220) ::
 (nat_lit 247,fq "table_text" "table_text" vJ OT.iy 492 246) ::
 (nat_lit 254,fq "tie_text" "tie_text" Af OT.iy 492 253) ::
 (nat_lit 259,fq "board_lines" "board_lines" tV OT.iy 492 258) ::
 (nat_lit 264,fq "number_of" "number_of" vI OT.iy 492 263) ::
 (nat_lit 271,fq "many_of" "many_of" zZ OT.iy 492 270) ::
 (nat_lit 276,fq "table_of" "table_of" pZ OT.iy 492 275) ::
 (nat_lit 281,fq "piece_of" "piece_of" wm OT.iy 492 280) ::
 (nat_lit 288,fq "tie_of" "tie_of" wX OT.iy 492 287) ::
 (nat_lit 293,fq "ties_of" "ties_of" vG OT.iy 492 292) ::
 (nat_lit 298,fq "board_of" "board_of" uy OT.iy 492 297) ::
 (nat_lit 305,fq "_law_cell_at" "_law_cell_at" Bb OT.jr 562 304) ::
 (nat_lit 310,fq "_law_lines" "_law_lines" uz OT.jr 562 309) ::
 (nat_lit 317,fq "_law_broken_number" "_law_broken_number" yK OT.jr 562 316) ::
 (nat_lit 324,fq "_law_formless" "_law_formless" wq OT.jr 562 323) ::
 (nat_lit 331,fq "_law_no_board" "_law_no_board" Br OT.jr 562 330) ::
 (nat_lit 338,fq "_law_alone" "_law_alone" ua OT.jr 562 337) ::
 (nat_lit 345,fq "_law_refused" "_law_refused" zd OT.jr 562 344) ::
 (nat_lit 352,fq "law" "law" A3 OT.jr 562 351) ::
 (nat_lit 27,OT.Ef P) ::
 (nat_lit 167,OT.sU P) ::
 (nat_lit 174,OT.ud P) ::
 (nat_lit 179,OT.uH P) ::
 (nat_lit 184,OT.si P) ::
 (nat_lit 189,OT.rm P) ::
 (nat_lit 196,OT.qL P) ::
 (nat_lit 208,OT.rS P) ::
 (nat_lit 213,OT.t7 P) ::
 (nat_lit 220,OT.qu P) ::
 (nat_lit 246,OT.sT P) ::
 (nat_lit 253,OT.rW P) ::
 (nat_lit 258,OT.qq P) ::
 (nat_lit 263,OT.sM P) ::
 (nat_lit 270,OT.tI P) ::
 (nat_lit 275,OT.rB P) ::
 (nat_lit 280,OT.uS P) ::
 (nat_lit 287,OT.uZ P) ::
 (nat_lit 292,OT.uM P) ::
 (nat_lit 297,OT.rA P) ::
 (nat_lit 304,OT.uG P) ::
 (nat_lit 309,OT.u7 P) ::
 (nat_lit 316,OT.r6 P) ::
 (nat_lit 323,OT.sf P) ::
 (nat_lit 330,OT.uo P) ::
 (nat_lit 337,OT.qK P) ::
 (nat_lit 344,OT.u6 P) ::
 (nat_lit 351,OT.uu P) ::
 (nat_lit 2,OT.b2 P) ::
 (nat_lit 3,OT.uW P) ::
 (nat_lit 38,OT.rz P) ::
 (nat_lit 37,OT.DG P) ::
 (nat_lit 51,OT.Ej P) ::
 (nat_lit 50,OT.HC P) ::
 (nat_lit 63,OT.qr P) ::
 (nat_lit 62,OT.rF P) ::
 (nat_lit 75,OT.qx P) ::
 (nat_lit 74,OT.uD P) ::
 (nat_lit 87,OT.sJ P) ::
 (nat_lit 86,OT.tj P) ::
 (nat_lit 99,OT.sW P) ::
 (nat_lit 98,OT.rO P) ::
 (nat_lit 111,OT.uq P) ::
 (nat_lit 110,OT.uI P) ::
 (nat_lit 123,OT.qR P) ::
 (nat_lit 122,OT.qA P) ::
 (nat_lit 135,OT.qk P) ::
 (nat_lit 134,OT.rC P) ::
 (nat_lit 147,OT.qQ P) ::
 (nat_lit 146,OT.rD P) ::
 (nat_lit 159,OT.sF P) ::
 (nat_lit 158,OT.va P) ::
 (nat_lit 238,OT.sY P) ::
 (nat_lit 237,OT.sS P) :: []
end jx
namespace OT
open PySem PySem.W PySem.Spec
noncomputable abbrev AS:List Addr:=(nat_lit 28 :: nat_lit 168 :: nat_lit 175 :: nat_lit 180 :: nat_lit 185 :: nat_lit 190 :: nat_lit 197 :: nat_lit 209 :: nat_lit 214 :: nat_lit 221 :: nat_lit 247 :: nat_lit 254 :: nat_lit 259 :: nat_lit 264 :: nat_lit 271 :: nat_lit 276 :: nat_lit 281 :: nat_lit 288 :: nat_lit 293 :: nat_lit 298 :: nat_lit 305 :: nat_lit 310 :: nat_lit 317 :: nat_lit 324 :: nat_lit 331 :: nat_lit 338 :: nat_lit 345 :: nat_lit 352 :: nat_lit 27 :: nat_lit 167 :: nat_lit 174 :: nat_lit 179 :: nat_lit 184 :: nat_lit 189 :: nat_lit 196 :: nat_lit 208 :: nat_lit 213 :: nat_lit 220 :: nat_lit 246 :: nat_lit 253 :: nat_lit 258 :: nat_lit 263 :: nat_lit 270 :: nat_lit 275 :: nat_lit 280 :: nat_lit 287 :: nat_lit 292 :: nat_lit 297 :: nat_lit 304 :: nat_lit 309 :: nat_lit 316 :: nat_lit 323 :: nat_lit 330 :: nat_lit 337 :: nat_lit 344 :: nat_lit 351 :: nat_lit 2 :: nat_lit 3 :: nat_lit 38 :: nat_lit 37 :: nat_lit 51 :: nat_lit 50 :: nat_lit 63 :: nat_lit 62 :: nat_lit 75 :: nat_lit 74 :: nat_lit 87 :: nat_lit 86 :: nat_lit 99 :: nat_lit 98 :: nat_lit 111 :: nat_lit 110 :: nat_lit 123 :: nat_lit 122 :: nat_lit 135 :: nat_lit 134 :: nat_lit 147 :: nat_lit 146 :: nat_lit 159 :: nat_lit 158 :: nat_lit 238 :: nat_lit 237 :: [])
noncomputable abbrev HK:Hook:=kHook jx.KF AS (fun _=>by kernel_rfl)
theorem lb (w:World) (os:OsState):openSeen (VW PW) [] (importedModules PW.main.body) (XT (VW PW)) true (S9 w os)=openGood (VW PW) []:=by
 rw [PySem.W.Fast.te4187177175401517315,PySem.W.Fast.te5923862056798008813,show PW=TP from PySem.W.Fast.te11160669306926839402]
 exact SO w os
theorem lc (w:World) (os:OsState):HK.obs (S9 w os)=HK.val w:=by kernel_rfl
theorem left:LeftO PW (VW PW) [] (XT (VW PW)) HK.obs HK.val 7146 :=
 LeftO.of_pieces op size run (by decide) fun w=>funext fun os=>by
  rw [la w os,lb w os,lc w os]
end OT
open PySem PySem.W PyProof.Rows
set_option maxRecDepth 100000 in
set_option maxHeartbeats 0 in
theorem PySem.Challenge.cw_gatefold_k40_board_unread_holds : PySem.Challenge.rw_gatefold_k40_board_unread.Holds := by
 w_on;o_law
 refine holds_open (q:=OT.VW OT.PW) (loose:=[]) (Xt:=OT.XT (OT.VW OT.PW)) (XP:=XL (OT.VW OT.PW) []) (Yf:=OT.HK.obs) (Ya:=OT.HK.val) (YP:=OT.HK.says) (N:=7146) OT.left OT.HK.of OT.HK.keeps
  (fun s e=>xl_of s (Zrz.mp e).1) XL.keeps (by rfl) (by rfl) (by rfl)
  (fun s e=>recFacts_of (Zrz.mp e).2) (by rfl) (by first | assumption | decide +kernel)
  (by decide +kernel)
  ⟨rfl,rfl,rfl,rfl,rfl,by decide +kernel⟩ ?hw ?hc
 case hw=>w_witness2
 refine jx.walk (l:=PySem.Challenge.rw_gatefold_k40_board_unread) (K:=jx.KF) rfl rfl (fun w h Y=>PySem.W.kIn_of Y) ?F
 case F =>
  intro w mg fa h KX G hmg
  k_fill
  refine' jx.all_mk KX G hmg ⟨?aC_Board,?pg_Board,?hd_Board,?po_Board,?sa_Board,?mk_Board,?kc_Board⟩ ?aC_FoldError ?aC_NoBoard ?aC_NoCut ?aC_NoGoal ?aC_NoKnot ?aC_NoLine ?aC_NoMatch ?aC_NoName ?aC_NoSize ?aC_NoText ?aC_NoTie (.mk' ?a0 ?l0 ?c0 ?k0) (.mk' ?a1 ?l1 ?c1 ?k1) (.mk' ?a2 ?l2 ?c2 ?k2) (.mk' ?a3 ?l3 ?c3 ?k3) (.mk' ?a4 ?l4 ?c4 ?k4) (.mk' ?a5 ?l5 ?c5 ?k5) (.mk' ?a6 ?l6 ?c6 ?k6) (.mk' ?a7 ?i7 ?l7 ?c7 ?k7) (.mk' ?a8 ?i8 ?l8 ?c8 ?k8) (.mk' ?a9 ?i9 ?l9 ?c9 ?k9) (.mk' ?a10 ?l10 ?c10 ?k10) (.mk' ?a11 ?l11 ?c11 ?k11) (.mk' ?a12 ?l12 ?c12 ?k12) (.mk' ?a13 ?l13 ?c13 ?k13) (.mk' ?a14 ?l14 ?c14 ?k14) (.mk' ?a15 ?l15 ?c15 ?k15) (.mk' ?a16 ?l16 ?c16 ?k16) (.mk' ?a17 ?l17 ?c17 ?k17) (.mk' ?a18 ?l18 ?c18 ?k18) (.mk' ?a19 ?l19 ?c19 ?k19) (.mk' ?a20 ?l20 ?c20 ?k20) (.mk' ?a21 ?l21 ?c21 ?k21) (.mk' ?a22 ?l22 ?c22 ?k22) (.mk' ?a23 ?l23 ?c23 ?k23) (.mk' ?a24 ?l24 ?c24 ?k24) (.mk' ?a25 ?l25 ?c25 ?k25) (.mk' ?a26 ?l26 ?c26 ?k26) (.mk' ?a27 ?l27 ?c27 ?k27) ?xi_NoBoard ?xq_NoBoard ?kv_NoBoard ?xm_NoBoard_FoldError ?xm_NoBoard_NoBoard ?xm_NoBoard_NoText ?ko_NoBoard_FoldError ?ko_NoBoard_NoBoard ?ko_NoBoard_NoCut ?ko_NoBoard_NoGoal ?ko_NoBoard_NoKnot ?ko_NoBoard_NoLine ?ko_NoBoard_NoMatch ?ko_NoBoard_NoName ?ko_NoBoard_NoSize ?ko_NoBoard_NoTie ?xi_NoText ?xq_NoText ?kv_NoText ?xm_NoText_FoldError ?xm_NoText_NoBoard ?xm_NoText_NoText ?ko_NoText_FoldError ?ko_NoText_NoBoard ?ko_NoText_NoCut ?ko_NoText_NoGoal ?ko_NoText_NoKnot ?ko_NoText_NoLine ?ko_NoText_NoMatch ?ko_NoText_NoName ?ko_NoText_NoSize ?ko_NoText_NoTie ?xk_FoldError ?xk_NoBoard ?xk_NoText ?n_Board_many ?n_Board_kept_pieces ?n_Board_kept_ties ?g_FIGURES ?g_GREATEST_KNOT ?g_LONGEST_CUT ?g_MOST_FIGURES ?g_MOST_INPUTS ?z_ValueError ?z_all ?z_bool ?z_dict ?z_enumerate ?z_int ?z_isinstance ?z_len ?z_list ?z_max ?z_range ?z_sorted ?z_str ?z_sum ?z_tuple ?z_zip
  (case aC_Board | pg_Board | hd_Board | po_Board | sa_Board | mk_Board | kc_Board | aC_FoldError | aC_NoBoard | aC_NoCut | aC_NoGoal | aC_NoKnot | aC_NoLine | aC_NoMatch | aC_NoName | aC_NoSize | aC_NoText | aC_NoTie | a0 | l0 | c0 | k0 | a1 | l1 | c1 | k1 | a2 | l2 | c2 | k2 | a3 | l3 | c3 | k3 | a4 | l4 | c4 | k4 | a5 | l5 | c5 | k5 | a6 | l6 | c6 | k6 | a7 | i7 | l7 | c7 | k7 | a8 | i8 | l8 | c8 | k8 | a9 | i9 | l9 | c9 | k9 | a10 | l10 | c10 | k10 | a11 | l11 | c11 | k11 | a12 | l12 | c12 | k12 | a13 | l13 | c13 | k13 | a14 | l14 | c14 | k14 | a15 | l15 | c15 | k15 | a16 | l16 | c16 | k16 | a17 | l17 | c17 | k17 | a18 | l18 | c18 | k18 | a19 | l19 | c19 | k19 | a20 | l20 | c20 | k20 | a21 | l21 | c21 | k21 | a22 | l22 | c22 | k22 | a23 | l23 | c23 | k23 | a24 | l24 | c24 | k24 | a25 | l25 | c25 | k25 | a26 | l26 | c26 | k26 | a27 | l27 | c27 | k27=>k_is)
  (case xi_NoBoard=>kernel_rfl)
  (case xq_NoBoard=>first | rfl | decide +kernel | k_is)
  (case kv_NoBoard=>first | rfl | decide +kernel | k_is)
  (case xm_NoBoard_FoldError=>first | rfl | decide +kernel | k_is)
  (case xm_NoBoard_NoBoard=>first | rfl | decide +kernel | k_is)
  (case xm_NoBoard_NoText=>first | rfl | decide +kernel | k_is)
  (case ko_NoBoard_FoldError=>first | rfl | decide +kernel | k_is)
  (case ko_NoBoard_NoBoard=>first | rfl | decide +kernel | k_is)
  (case ko_NoBoard_NoCut=>first | rfl | decide +kernel | k_is)
  (case ko_NoBoard_NoGoal=>first | rfl | decide +kernel | k_is)
  (case ko_NoBoard_NoKnot=>first | rfl | decide +kernel | k_is)
  (case ko_NoBoard_NoLine=>first | rfl | decide +kernel | k_is)
  (case ko_NoBoard_NoMatch=>first | rfl | decide +kernel | k_is)
  (case ko_NoBoard_NoName=>first | rfl | decide +kernel | k_is)
  (case ko_NoBoard_NoSize=>first | rfl | decide +kernel | k_is)
  (case ko_NoBoard_NoTie=>first | rfl | decide +kernel | k_is)
  (case xi_NoText=>kernel_rfl)
  (case xq_NoText=>first | rfl | decide +kernel | k_is)
  (case kv_NoText=>first | rfl | decide +kernel | k_is)
  (case xm_NoText_FoldError=>first | rfl | decide +kernel | k_is)
  (case xm_NoText_NoBoard=>first | rfl | decide +kernel | k_is)
  (case xm_NoText_NoText=>first | rfl | decide +kernel | k_is)
  (case ko_NoText_FoldError=>first | rfl | decide +kernel | k_is)
  (case ko_NoText_NoBoard=>first | rfl | decide +kernel | k_is)
  (case ko_NoText_NoCut=>first | rfl | decide +kernel | k_is)
  (case ko_NoText_NoGoal=>first | rfl | decide +kernel | k_is)
  (case ko_NoText_NoKnot=>first | rfl | decide +kernel | k_is)
  (case ko_NoText_NoLine=>first | rfl | decide +kernel | k_is)
  (case ko_NoText_NoMatch=>first | rfl | decide +kernel | k_is)
  (case ko_NoText_NoName=>first | rfl | decide +kernel | k_is)
  (case ko_NoText_NoSize=>first | rfl | decide +kernel | k_is)
  (case ko_NoText_NoTie=>first | rfl | decide +kernel | k_is)
  (case xk_FoldError=>first | rfl | decide +kernel | k_is)
  (case xk_NoBoard=>first | rfl | decide +kernel | k_is)
  (case xk_NoText=>first | rfl | decide +kernel | k_is)
  (case n_Board_many | n_Board_kept_pieces | n_Board_kept_ties | g_FIGURES | g_GREATEST_KNOT | g_LONGEST_CUT | g_MOST_FIGURES | g_MOST_INPUTS | z_ValueError | z_all | z_bool | z_dict | z_enumerate | z_int | z_isinstance | z_len | z_list | z_max | z_range | z_sorted | z_str | z_sum | z_tuple | z_zip=>k_is)

