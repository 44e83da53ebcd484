import PyProof.Rows.All
import Wide.All
import OpenK.AllK
import Wide.FinOn
import Lean
import PyProof.EqAt
import PyProof.EqKinds
import PyProof.TupleCall
import PyProof.ZipIter
import PyProof.WalksMore
import PyProof.ListNew
import PyProof.IsiBase
import PyProof.DictList
import PyProof.AttrMiss
import PyProof.FactsAll.dict
import PyProof.ListRange
import PyProof.StrLawsWords
import PyProof.StationsW
import KE.KIsAll
import PyProof.PassesOwn
import PyProof.DictIter
import KE.KRevIter
import KE.KRangeStep
import KE.RegMulBits
import KE.KDictList
import PyProof.EnumStmt
import PyProof.Draws
import PyProof.EnumMake
import PyProof.Rows.SumAny
import KE.KIntText
import PyProof.StrCalls2
import PyProof.Rows.StrItems
import PyProof.StrLawsChain
import PyProof.StrLawsTight
import PySem.Challenge.RW_gatefold_k39_board_read
open PySem.W renaming Frag → ZoW, nsIn → ZoX, findIn → ZoY, mg_none_of → ZoZ, fnOf → Zo0, kia_one → Zo1, emptyDict → Zo2, mg_of → Zo3, instObj → Zo4, keepIn → Zo5, plainGet → Zo6, kitOne → Zo7, codeIn → Zo8, lookIn → Zo9, hasDictIn → Zpa, isFn → Zpb, specialIn → Zpc, methodObj → Zpd, plainGet_of → Zpe, plainOver → Zpf, takerIn → Zpg, makesIn → Zph, takesIn → Zpi, mroIn → Zpj, OpenLaw → Zpk, KdlSrc → Zpl, callWith_K → Zpm, cellsFrom_some → Zpn
open PySem.F renaming plainAttrs_list → Zpo, slot_list_append → Zpp, type_list_append → Zpq, plainAttrs_str → Zpr, slot_str_join → Zps, type_str_join → Zpt
open List renaming length_map → Zpu, range → Zpv, getElem?_eq_getElem → Zpw, map_cons → Zpx, map_append → Zpy, map_map → Zpz, getElem?_eq_some_iff → ZpA, getElem?_map → ZpB, mem_cons → ZpC, length_append → ZpD, getD → ZpE, Nodup → ZpF, length_cons → ZpG, mem_singleton → ZpH, mem_map → ZpI, size_toArray → ZpJ, mem_cons_self → ZpK, mem_cons_of_mem → ZpL, mem_append → ZpM, take_length → ZpN, length_range → ZpO, getElem?_append_right → ZpP, getElem?_append_left → ZpQ, mem_append_right → ZpR, getElem?_eq_none → ZpS, length_take → ZpT, mem_range → ZpU, replicate → ZpV, length_nil → ZpW, getElem_mem → ZpX, not_mem_nil → ZpY, lookup_cons → ZpZ, getElem?_cons_succ → Zp0, all_eq_true → Zp1, range_succ → Zp2, foldl_cons → Zp3, append_nil → Zp4, mem_of_getElem? → Zp5, map_congr_left → Zp6, getD_eq_getElem?_getD → Zp7, filterMap_cons → Zp8, map_nil → Zp9, take_add_one → Zqa, lookup → Zqb, length_replicate → Zqc, find?_cons → Zqd, all_map → Zqe, foldl_append → Zqf, any_cons → Zqg, append_assoc → Zqh, take_zero → Zqi, mem_filter → Zqj, mem_append_left → Zqk, nodup_cons → Zql, cons_append → Zqm, take_of_length_le → Zqn, of_mem_zip → Zqo, getElem?_replicate → Zqp, length_drop → Zqq, drop_eq_getElem_cons → Zqr, filterMap_map → Zqs, getElem?_range → Zqt, getElem?_set_self → Zqu, drop_eq_nil_of_le → Zqv, getElem?_cons_zero → Zqw, pairwise_singleton → Zqx, mem_iff_getElem? → Zqy, take_append_of_le_length → Zqz, eq_nil_or_concat → ZqA, concat_eq_append → ZqB
open Nat renaming le_refl → ZqC, ne_of_lt → ZqD, le_trans → ZqE, lt_of_lt_of_le → ZqF, pow_le_pow_right → ZqG, zero_le → ZqH, pow_succ → ZqI, ne_of_gt → ZqJ, lt_irrefl → ZqK, pow_pos → ZqL, sub_self → ZqM, le_of_lt → ZqN, lt_succ_self → ZqO, lt_or_ge → ZqP, le_succ → ZqQ, testBit_or → ZqR, testBit_two_pow_sub_one → ZqS, testBit_and → ZqT, le_add_right → ZqU, not_lt_zero → ZqV, testBit_xor → ZqW, testBit_lt_two_pow → ZqX, div_add_mod → ZqY, mod_two_eq_zero_or_one → ZqZ, lt_trichotomy → Zq0
open Int renaming toNat_natCast → Zq1, eq_ofNat_of_zero_le → Zq2, one_mul → Zq3, natCast_nonneg → Zq4, emod_nonneg → Zq5, natCast_mul → Zq6, emod_lt_of_pos → Zq7, fdiv_eq_ediv_of_nonneg → Zq8
open Array renaming length_toList → Zq9, getElem?_eq_some_iff → Zra, getElem?_eq_none → Zrb, getElem?_eq_getElem → Zrc, toArray_toList → Zrd
open Bool renaming false_ne_true → Zre, and_eq_true → Zrf, eq_iff_iff → Zrg, or_eq_true → Zrh, true_and → Zri
local macro_rules | `(tactic| omega) => `(tactic| first | ((fail_if_success (fail_if_success omega +splitDisjunctions)); lia) | omega +splitDisjunctions)
set_option Elab.async false
set_option linter.all false
set_option maxRecDepth 100000
namespace L2
open PySem PySem.Spec PyProof.Rows
noncomputable abbrev Key:=Sum Int Str
noncomputable def sG:Key->Value->Bool
 | .inl k,v=>Value.isInt k v
 | .inr x,v=>Value.isStrOf x v
noncomputable def D2 (w:World):Key->Int
 | .inl k=>hashInt k
 | .inr x=>hashStr w x
theorem kF:∀ {k:Key}{v:Value},sG k v=true->(∃ i t,k=Sum.inl i/\v=Value.int i t)\/(∃ x t,k=Sum.inr x/\v=Value.str x t)
 | .inl i,v,h=>by
  obtain ⟨t,e⟩:=Value.isInt_shape (k:=i) (v:=v) h
  exact .inl ⟨i,t,rfl,e⟩
 | .inr x,v,h=>by
  obtain ⟨t,e⟩:=Value.isStrOf_shape (x:=x) (v:=v) h
  exact .inr ⟨x,t,rfl,e⟩
theorem MO (i:Int) (t:Tok):sG (.inl i) (.int i t)=true:=by simp [sG,Value.isInt]
theorem Qb (x:Str) (t:Tok):sG (.inr x) (.str x t)=true:=by simp [sG,Value.isStrOf]
theorem oF (a b:Int):decide ((Sum.inl a:Key)=Sum.inl b)=(a == b):=by
 by_cases e:a=b
 ·subst e;simp
 ·have h:¬ (Sum.inl a:Key)=Sum.inl b:=fun q=>e (Sum.inl.inj q)
  rw [decide_eq_false h]
  exact (beq_eq_false_iff_ne.mpr e).symm
theorem nC (a b:Str):decide ((Sum.inr a:Key)=Sum.inr b)=decide (a=b):=by
 by_cases e:a=b
 ·subst e;simp
 ·have h:¬ (Sum.inr a:Key)=Sum.inr b:=fun q=>e (Sum.inr.inj q)
  rw [decide_eq_false h,decide_eq_false e]
theorem qc (a:Int) (b:Str):decide ((Sum.inl a:Key)=Sum.inr b)=false:=decide_eq_false (fun q=>nomatch q)
theorem nM (a:Str) (b:Int):decide ((Sum.inr a:Key)=Sum.inl b)=false:=decide_eq_false (fun q=>nomatch q)
noncomputable def fC (prog:Program) (w:World):PySem.KeyKind prog w Key where
 is:=sG
 hash:=D2 w
 inj:=fun v a b ha hb=>by
  rcases kF ha with ⟨i,t,rfl,rfl⟩ | ⟨x,t,rfl,rfl⟩
  ·rcases kF hb with ⟨j,u,rfl,e⟩ | ⟨y,u,rfl,e⟩
   ·injection e with e1 _;rw [e1]
   ·exact nomatch e
  ·rcases kF hb with ⟨j,u,rfl,e⟩ | ⟨y,u,rfl,e⟩
   ·exact nomatch e
   ·injection e with e1 _;rw [e1]
 byValue:=fun k v h=>by
  rcases kF h with ⟨i,t,rfl,rfl⟩ | ⟨x,t,rfl,rfl⟩ <;> rfl
 pyHash:=fun hv h=>by
  rcases kF hv with ⟨i,t,rfl,rfl⟩ | ⟨x,t,rfl,rfl⟩
  ·exact wpAny_pyHash_int h
  ·exact wpAny_pyHash_str h
 eqBool:=fun hu hv h=>by
  rcases kF hu with ⟨i,t,rfl,rfl⟩ | ⟨x,t,rfl,rfl⟩
  ·rcases kF hv with ⟨j,u,rfl,rfl⟩ | ⟨y,u,rfl,rfl⟩
   ·rw [oF] at h;exact wpAny_eqBool_int h
   ·rw [qc] at h;exact SeqAt.EqAt.int_str i t y u _ _ _ _ h
  ·rcases kF hv with ⟨j,u,rfl,rfl⟩ | ⟨y,u,rfl,rfl⟩
   ·rw [nM] at h;exact SeqAt.EqAt.str_int x t j u _ _ _ _ h
   ·rw [nC] at h;exact wpAny_eqBool_str h
 «strs»:=fun k x t v h=>by
  rcases kF h with ⟨i,u,rfl,e⟩ | ⟨y,u,rfl,e⟩
  ·exact nomatch e
  ·injection e with e1 _
   subst e1
   cases v <;> rfl
theorem O6 (prog:Program) (w:World) (i:Int) (t:Tok):(fC prog w).is (.inl i) (.int i t)=true:=MO i t
theorem KW (prog:Program) (w:World) (x:Str) (t:Tok):(fC prog w).is (.inr x) (.str x t)=true:=Qb x t
inductive V where
 | non | bl (b:Bool) | int (i:Int) | str (x:Str) | byt (b:Array UInt8) | flt (b:UInt64) | ref (a:Addr) | ty (n:String)
 deriving DecidableEq
noncomputable def aH:V->Value->Prop
 | .non,u=>u=Value.none
 | .bl b,u=>u=Value.bool b
 | .int i,u=>∃ t,u=Value.int i t
 | .str x,u=>∃ t,u=Value.str x t
 | .byt b,u=>∃ t,u=Value.bytes b t
 | .flt b,u=>∃ t,u=Value.float b t
 | .ref a,u=>u=Value.ref a
 | .ty n,u=>u=Value.type n
noncomputable abbrev Vals:List V->List Value->Prop:=Paired aH
theorem Vals.length {xs:List V}{us:List Value} (r:Vals xs us):xs.length=us.length:=Paired.length r
theorem Vals.get:∀ {xs:List V}{us:List Value}{i:Nat}{x:V},Vals xs us->xs[i]? = some x->∃ u,us[i]? = some u/\aH x u
 | _,_,_,_,.nil,e=>by simp at e
 | _,_,0,_,.cons r _,e=>by simp at e;subst e;exact ⟨_,rfl,r⟩
 | _,_,i+1,x,.cons _ t,e=>by
  obtain ⟨u,h1,h2⟩:=Vals.get (i:=i) (x:=x) t (by simpa using e)
  exact ⟨u,by simpa using h1,h2⟩
theorem Vals.set {x:V}{u:Value} (r:aH x u):∀ {xs:List V}{us:List Value} (i:Nat),Vals xs us->Vals (xs.set i x) (us.set i u)
 | _,_,_,.nil=>.nil
 | _,_,0,.cons _ t=>.cons r t
 | _,_,i+1,.cons q t=>.cons q (Vals.set r i t)
theorem Vals.append:∀ {xs ys:List V}{us ws:List Value},Vals xs us->Vals ys ws->Vals (xs ++ ys) (us ++ ws)
 | _,_,_,_,.nil,s=>s
 | _,_,_,_,.cons r t,s=>.cons r (Vals.append t s)
theorem Vals.take:∀ {xs:List V}{us:List Value} (n:Nat),Vals xs us->Vals (xs.take n) (us.take n)
 | _,_,0,_=>.nil
 | _,_,_+1,.nil=>.nil
 | _,_,n+1,.cons r t=>.cons r (Vals.take n t)
theorem Vals.drop:∀ {xs:List V}{us:List Value} (n:Nat),Vals xs us->Vals (xs.drop n) (us.drop n)
 | _,_,0,r=>r
 | _,_,_+1,.nil=>.nil
 | _,_,n+1,.cons _ t=>Vals.drop n t
noncomputable def gY:Option V->Option Value->Prop
 | some v,some u=>aH v u
 | none,none=>True
 | _,_=>False
noncomputable def KV {κ:Type}:List (κ × V)->List (κ × Value)->Prop:=Paired fun (p:κ × V) (q:κ × Value)=>p.1=q.1/\aH p.2 q.2
noncomputable def kV:Key->V
 | .inl i=>.int i
 | .inr x=>.str x
inductive HO where
  | lst (xs:List V)
  | tup (xs:List V)
  | dK (kvs:List (Key × V)) | dT (kvs:List (List Key × V))
  | set (S:Int->Bool) (n:Nat)
  | ins (C dx:Addr) (fs:List (Str × V))
  | own (x:Addr)
  | xd (fs:List (Str × V))
  | met (f x:Addr)
  | rng (lo hi:Int)
  | frz (o:Obj) (u:HO)
  | tbl (ps:Array Value)
  | ext (φ:Heap->Prop)
noncomputable abbrev Hp:=Addr->Option HO
noncomputable def upd (H:Hp) (a:Addr) (o:HO):Hp:=fun b=>if b=a then some o else H b
theorem bh {H:Hp}{a:Addr}{o:HO}:upd H a o a=some o:=by unfold upd;rw [if_pos rfl]
theorem aJ {H:Hp}{a b:Addr}{o:HO} (h:b≠a):upd H a o b=H b:=by unfold upd;rw [if_neg h]
theorem vp {H:Hp}{a:Addr}{o u:HO}:upd (upd H a o) a u=upd H a u:=by
 funext b;unfold upd;split <;> rfl
theorem jb {H:Hp}{a b:Addr}{o u:HO} (h:H a=some o) (h':H b=some u) (d:o≠u):a≠b:=by
 intro e;subst e;rw [h] at h';exact d (Option.some.inj h')
theorem cH {H:Hp}{a b:Addr}{o:HO} (h:H a=some o) (h':H b=none):a≠b:=by
 intro e;subst e;rw [h] at h';cases h'
section
variable (P:Program) (w:World)
noncomputable def dn (H:Hp) (h:Heap) (a:Addr):HO->Prop
 | .lst xs=>xs.length<=sizeLine/\∃ (its:List Value) (n:Nat),Vals xs its/\h.get? a=some { cls:=.type "list",data:=.seq its.toArray n }
 | .tup xs=>xs.length<=sizeLine/\∃ its:List Value,Vals xs its/\IsTup h a its.toArray
 | .dK kvs=>kvs.length<=sizeLine/\(a == sysModules)=false/\∃ vs,KV kvs vs/\h.DictOf (fC P w) a vs
 | .dT kvs=>kvs.length<=sizeLine/\(a == sysModules)=false/\∃ xs:List (List Key × Addr × Value),
   Paired (fun (p:List Key × V) (q:List Key × Addr × Value)=>p.1=q.1/\H q.2.1=some (.tup (p.1.map kV))/\aH p.2 q.2.2) kvs xs /\
   ∃ o es ep,h.get? a=some o/\o.ExactDict/\o.data=.dict es ep/\es.toList=xs.map (entryOfKey (tupleKind (fC P w)))/\(xs.map (·.1)).Nodup
 | .set S n=>h.SetOf (intKind P w) a S n
 | .ins C dx fs=>H dx=some (.own a)/\fs.length<=1000/\dx≠a/\h.get? a=some (Zo4 C dx) /\
   ∃ mA,h.Ns1 dx mA/\(∀ f,gY (fs.lookup f) (mA f))/\PySem.Within mA (fs.map (·.1))
 | .own _=>∃ o,h.get? a=some o
 | .xd fs=>∃ mA,h.Ns1 a mA/\∀ f,gY (fs.lookup f) (mA f)
 | .rng lo hi=>∃ t u v,h.get? a=some { cls:=.type "range",data:=.fields #[.int lo t,.int hi u,.int 1 v] }
 | .frz o u=>h.get? a=some o/\dn H h a u
 | .tbl ps=>h.get? a=some { cls:=.none,data:=.fields ps }
 | .met f x=>h.get? a=some (Zpd (.ref f) (.ref x))
 | .ext φ=>φ h/\(∃ o,h.get? a=some o)/\∀ h1 h2:Heap,φ h1->(∀ o,h1.get? a=some o->h2.get? a=some o)->φ h2
noncomputable def du (H:Hp) (h:Heap):Prop:=∀ a o,H a=some o->dn P w H h a o
end
section
variable {P:Program}{w:World}{H H':Hp}{h h':Heap}{a:Addr}{o:HO}
theorem dn.lt (x:dn P w H h a o):a<h.objs.size:=by
 cases o with
 | lst xs=>obtain ⟨_,_,_,_,e⟩:=x;exact Heap.lt_size e
 | tup xs=>obtain ⟨_,_,_,p⟩:=x;exact p.lt
 | dK kvs=>obtain ⟨_,_,_,_,o,_,_,e,_⟩:=x;exact Heap.lt_size e
 | dT kvs=>obtain ⟨_,_,_,_,o,_,_,e,_⟩:=x;exact Heap.lt_size e
 | set S n=>obtain ⟨o,_,_,_,e,_⟩:=x;exact Heap.lt_size e
 | ins C dx fs=>obtain ⟨_,_,_,e,_⟩:=x;exact Heap.lt_size e
 | own y=>obtain ⟨_,e⟩:=x;exact Heap.lt_size e
 | xd fs=>obtain ⟨_,⟨_,_,_,e,_⟩,_⟩:=x;exact Heap.lt_size e
 | rng lo hi=>obtain ⟨_,_,_,e⟩:=x;exact Heap.lt_size e
 | frz ob u=>obtain ⟨e,_⟩:=x;exact Heap.lt_size e
 | tbl ps=>exact Heap.lt_size (show h.get? a=some _ from x)
 | met f y=>exact Heap.lt_size (show h.get? a=some _ from x)
 | ext φ=>obtain ⟨_,⟨_,e⟩,_⟩:=x;exact Heap.lt_size e
theorem Paired.nW {α β:Type}{F G:α->β->Prop}:∀ {l₁:List α}{l₂:List β},Paired F l₁ l₂->(∀ a b,F a b->G a b)->Paired G l₁ l₂
 | _,_,.nil,_=>.nil
 | _,_,.cons r t,f=>.cons (f _ _ r) (Paired.nW t f)
theorem dn.gk (x:dn P w H h a o) (k:∀ b u,(b=a\/H b=some (.own a))->h.get? b=some u->h'.get? b=some u)
  (ho:∀ b,H b=some (.own a)->H' b=some (.own a)) (ht:∀ b xs,H b=some (.tup xs)->H' b=some (.tup xs)):dn P w H' h' a o:=by
 induction o with
 | lst xs=>obtain ⟨z,its,n,r,e⟩:=x;exact ⟨z,its,n,r,k _ _ (.inl rfl) e⟩
 | tup xs=>obtain ⟨z,its,r,ob,e,c⟩:=x;exact ⟨z,its,r,ob,k _ _ (.inl rfl) e,c⟩
 | dK kvs=>obtain ⟨z,y,vs,r,ob,es,ep,e,c⟩:=x;exact ⟨z,y,vs,r,ob,es,ep,k _ _ (.inl rfl) e,c⟩
 | dT kvs =>
  obtain ⟨z,y,xs,r,ob,es,ep,e,c⟩:=x
  exact ⟨z,y,xs,Paired.nW r fun p q z=>⟨z.1,ht _ _ z.2.1,z.2.2⟩,ob,es,ep,k _ _ (.inl rfl) e,c⟩
 | set S n=>obtain ⟨ob,es,ep,t,e,c⟩:=x;exact ⟨ob,es,ep,t,k _ _ (.inl rfl) e,c⟩
 | ins C dx fs =>
  obtain ⟨d,z,ne,e,mA,⟨od,es,ep,e2,c⟩,r⟩:=x
  exact ⟨ho _ d,z,ne,k _ _ (.inl rfl) e,mA,⟨od,es,ep,k _ _ (.inr d) e2,c⟩,r⟩
 | own y=>obtain ⟨ob,e⟩:=x;exact ⟨ob,k _ _ (.inl rfl) e⟩
 | xd fs=>obtain ⟨mA,⟨od,es,ep,e,c⟩,r⟩:=x;exact ⟨mA,⟨od,es,ep,k _ _ (.inl rfl) e,c⟩,r⟩
 | rng lo hi=>obtain ⟨t,u,v,e⟩:=x;exact ⟨t,u,v,k _ _ (.inl rfl) e⟩
 | frz ob u ih=>obtain ⟨e,q⟩:=x;exact ⟨k _ _ (.inl rfl) e,ih q⟩
 | tbl ps =>
  have e:h.get? a=some { cls:=.none,data:=.fields ps }:=x
  show h'.get? a=some { cls:=.none,data:=.fields ps }
  exact k a _ (.inl rfl) e
 | met f y =>
  have e:h.get? a=some (Zpd (.ref f) (.ref y)):=x
  show h'.get? a=some (Zpd (.ref f) (.ref y))
  exact k a _ (.inl rfl) e
 | ext φ=>obtain ⟨p,⟨o,e⟩,st⟩:=x;exact ⟨st _ _ p fun o q=>k _ _ (.inl rfl) q,⟨o,k _ _ (.inl rfl) e⟩,st⟩
theorem du.lt (x:du P w H h) (e:H a=some o):a<h.objs.size:=(x a o e).lt
theorem du.fresh (x:du P w H h) (e:h.objs.size<=a):H a=none:=by
 cases q:H a with
 | none=>rfl
 | some u=>exact absurd (ZqF (x.lt q) e) (ZqK _)
theorem du.kept (x:du P w H h) (k:∀ b u,h.get? b=some u->h'.get? b=some u):du P w H h':=fun a o e =>
 (x a o e).gk (fun b u _ q=>k b u q) (fun _ q=>q) fun _ _ q=>q
theorem du.laid (x:du P w H h) (k:∀ b u,h.get? b=some u->h'.get? b=some u) (hp:h.objs.size<=a) (new:dn P w (upd H a o) h' a o):du P w (upd H a o) h':=fun b u e=>by
 have hn:=x.fresh hp
 by_cases hb:b=a
 ·subst hb;rw [bh] at e;cases e;exact new
 ·rw [aJ hb] at e
  exact (x b u e).gk (fun c v _ q=>k c v q) (fun c q=>by rw [aJ (cH q hn)];exact q) fun c xs q=>by rw [aJ (cH q hn)];exact q
end
noncomputable def Rd (H:Hp) (a:Addr) (u:HO):Prop:=H a=some u\/∃ o,H a=some (.frz o u)
theorem Rd.of {H:Hp}{a:Addr}{u:HO} (h:H a=some u):Rd H a u:=.inl h
theorem Rd.ok {P:Program}{w:World}{H:Hp}{h:Heap}{a:Addr}{u:HO} (r:Rd H a u) (x:du P w H h):dn P w H h a u:=by
 rcases r with r | ⟨o,r⟩
 ·exact x a u r
 ·obtain ⟨_,q⟩:=x a _ r
  exact q
noncomputable def yz:Option HO->Prop
 | some (.lst _)=>True
 | some (.dK _)=>True
 | some (.dT _)=>True
 | some (.set _ _)=>True
 | some (.ins _ _ _)=>True
 | some (.ext _)=>True
 | _=>False
section
variable {P:Program}{w:World}{H:Hp}{h h':Heap}{x e:Addr}{o':HO}
theorem du.write (ok:du P w H h) (mu:yz (H x)) (he:e=x\/H e=some (.own x)) (k:∀ b u,b≠e->h.get? b=some u->h'.get? b=some u) (sD:∃ u,h'.get? e=some u)
  (new:dn P w (upd H x o') h' x o'):du P w (upd H x o') h':=fun b u q=>by
 have yj:∀ c y,H c=some (.own y)->c≠x:=fun c y r z=>by subst z;rw [r] at mu;exact mu
 have Bo:∀ c xs,H c=some (.tup xs)->c≠x:=fun c xs r z=>by subst z;rw [r] at mu;exact mu
 by_cases hb:b=x
 ·subst hb;rw [bh] at q;cases q;exact new
 ·rw [aJ hb] at q
  by_cases hbe:b=e
  ·have q':H b=some (.own x):=by
    rcases he with z | z
    ·exact absurd (hbe.trans z) hb
    ·rw [hbe];exact z
   rw [q] at q';cases q'
   obtain ⟨v,hv⟩:=sD
   exact ⟨v,by rw [hbe];exact hv⟩
  ·refine (ok b u q).gk (fun c v hc r=>k c v ?_ r) (fun c r=>by rw [aJ (yj c b r)];exact r) fun c xs r=>by rw [aJ (Bo c xs r)];exact r
   rcases hc with rfl | hc
   ·exact hbe
   ·rintro rfl
    rcases he with z | z
    ·exact yj c b hc z
    ·rw [hc] at z;cases z;exact hb rfl
end
structure Un (fs ex:List Addr) (H H':Hp) (h h':Heap):Prop where
 keep:∀ b o,h.get? b=some o->H b=none->b ∉ fs->b ∉ ex->h'.get? b=some o
 slot:∀ b o,h.get? b=some o->H b=none->b∈fs->b ∉ ex->∃ sl,h'.get? b=some { o with slots:=sl }
 free:∀ b o,h.get? b=some o->H b=none->b ∉ ex->H' b=none
 there:∀ b o,h.get? b=some o->b ∉ ex->∃ o',h'.get? b=some o'
 fh:∀ b xs,H b=some (.tup xs)->H' b=some (.tup xs)
 eG:∀ b o u,H b=some (.frz o u)->H' b=some (.frz o u)
 fg:∀ b ps,H b=some (.tbl ps)->∃ more,H' b=some (.tbl (ps ++ more))
section
variable {fs Ko ex RC:List Addr}{H H1 H2:Hp}{h h1 h2 h':Heap}{a x e:Addr}{o:HO}
theorem Un.any (u:Un fs ex H H1 h h1) {b:Addr}{ob:Obj} (q:h.get? b=some ob) (n:H b=none) (hx:b ∉ ex):∃ sl,h1.get? b=some { ob with slots:=sl }:=by
 by_cases hb:b∈fs
 ·exact u.slot b ob q n hb hx
 ·exact ⟨ob.slots,u.keep b ob q n hb hx⟩
theorem Un.kept (k:∀ b u,h.get? b=some u->h'.get? b=some u):Un fs ex H H h h' :=
 ⟨fun b ob q _ _ _=>k b ob q,fun b ob q _ _ _=>⟨ob.slots,k b ob q⟩,fun _ _ _ n _=>n,fun b ob q _=>⟨ob,k b ob q⟩,fun _ _ q=>q,fun _ _ _ q=>q,fun _ ps q=>⟨#[],by rw [q];simp⟩⟩
theorem Un.refl:Un fs ex H H h h:=Un.kept fun _ _ q=>q
theorem Un.laid (k:∀ b u,h.get? b=some u->h'.get? b=some u) (hp:h.objs.size<=a) (hn:H a=none):Un fs ex H (upd H a o) h h' where
 keep:=fun b u q _ _ _=>k b u q
 slot:=fun b u q _ _ _=>⟨u.slots,k b u q⟩
 free:=fun b u q n _=>by rw [aJ (ZqD (ZqF (Heap.lt_size q) hp))];exact n
 there:=fun b u q _=>⟨u,k b u q⟩
 fh:=fun b xs q=>by rw [aJ (cH q hn)];exact q
 eG:=fun b u xs q=>by rw [aJ (cH q hn)];exact q
 fg:=fun b ps q=>⟨#[],by rw [aJ (cH q hn),q];simp⟩
theorem Un.write (mu:yz (H x)) (he:e=x\/H e=some (.own x)) (k:∀ b u,b≠e->h.get? b=some u->h'.get? b=some u) (sD:∃ u,h'.get? e=some u):Un fs ex H (upd H x o) h h':=by
 have hx:∀ b,H b=none->b≠x:=fun b n z=>by subst z;rw [n] at mu;exact mu
 have hb:∀ b,H b=none->b≠e:=fun b n z=>by
  subst z
  rcases he with r | r
  ·exact hx b n r
  ·rw [n] at r;cases r
 have hm:∀ b u,H b=some u->¬ yz (some u)->b≠x:=fun b u q nm z=>by subst z;rw [q] at mu;exact nm mu
 refine ⟨fun b u q n _ _=>k b u (hb b n) q,fun b u q n _ _=>⟨u.slots,k b u (hb b n) q⟩,fun b u q n _=>by rw [aJ (hx b n)];exact n,fun b u q _=>?_,
  fun b xs q=>by rw [aJ (hm b _ q fun z=>z)];exact q,fun b u xs q=>by rw [aJ (hm b _ q fun z=>z)];exact q,fun b ps q=>⟨#[],by rw [aJ (hm b _ q fun z=>z),q];simp⟩⟩
 by_cases hbe:b=e
 ·subst hbe;exact sD
 ·exact ⟨u,k b u hbe q⟩
end
noncomputable def zP (h:Heap) (H:Hp):List Addr:=(Zpv h.objs.size).filter fun a=>(H a).isSome
noncomputable def lq (h:Heap) (H:Hp):Heap:=PySem.W.hideAll h (zP h H)
theorem MQ (h:Heap) (H:Hp):(lq h H).objs.size=h.objs.size:=PySem.W.hideAll_size _ _
theorem Mq {h:Heap}{H:Hp}{b:Addr}{o:Obj} (e:h.get? b=some o) (n:H b=none):(lq h H).get? b=some o :=
 PySem.W.hideAll_get _ e fun hm=>by
  have q:(H b).isSome=true:=(Zqj.mp hm).2
  rw [n] at q;simp at q
theorem Qd {h:Heap}{H:Hp}{b:Addr}{o:Obj} (e:(lq h H).get? b=some o):h.get? b=some o/\H b=none:=by
 have e':h.get? b=some o:=PySem.W.of_hideAll (zP h H) e
 refine ⟨e',?_⟩
 cases q:H b with
 | none=>rfl
 | some x =>
  have hm:b∈zP h H:=Zqj.mpr ⟨ZpU.mpr (Heap.lt_size e'),by simp [q]⟩
  have z:(lq h H).get? b=none:=PySem.W.hideAll_none (zP h H) hm
  rw [z] at e;cases e
noncomputable def Q1 (g h:Heap) (L:Addr):List (Addr × Obj):=(Zpv h.objs.size).filterMap fun a=>if a=L\/(g.get? a).isSome=true then none else (h.get? a).map fun o=>(a,o)
noncomputable def bC (g h:Heap) (L d:Addr):List (Addr × Obj):=(Q1 g h L).filter fun p=>decide (p.1≠d)
structure Mod (K:ZoW) (mg:Str->Option Value) (base:Heap):Prop where
 zA:K.In base
 glob:base.Ns mainGlobals mg
 blt:∃ mb,base.Ns builtinsNs mb/\∀ x:Str,x ≠ "__name__" -> mb x=bootBuiltins x
 nolimit:base.NoLimit
structure Cx where
 prog:Program
 w:World
 K:ZoW
 mg:Str->Option Value
 base:Heap
 A:Around
 N:List Str
 s₀:Shared
 H₀:Hp
 env:Env
 outer:List Env
 stack:List Env
 ex:List Addr
 fn:Str->Bool
 calm:Bool
 pn:List (Addr × Obj)
 xe:Value->Shared->Prop
noncomputable def hW (l:List Env):List Addr:=l.filterMap (·.frame)
noncomputable abbrev Cx.fs (X:Cx):List Addr:=hW X.outer
noncomputable def Dj (sc:Scope) (x:Str):Prop:=sc.names.lookup x=some .local\/sc.names.lookup x=some .cell\/sc.names.lookup x=some .free
noncomputable def Loc (sc:Scope) (x:Str):Prop:=sc.names.lookup x=some .local\/sc.names.lookup x=some .cell
noncomputable def Look (env:Env) (h:Heap) (m:Str->Option Value) (x:Str) (u:Value):Prop :=
 (env.kindOf x=some .local/\m x=some u)\/((env.kindOf x=some .cell\/env.kindOf x=some .free)/\∃ c,env.cells.lookup x=some c/\h.IsCell c (some u))
structure Cx.Ok (X:Cx):Prop where
 mod:Mod X.K X.mg X.base
 kind:X.env.scope.kind=.function
 glob:X.env.globals=mainGlobals
 blt:X.env.builtins=builtinsNs
 above:X.s₀.heap.objs.size<=X.env.locals
 inj:∀ x y c,X.env.cells.lookup x=some c->X.env.cells.lookup y=some c->x=y
 has:∀ x,(X.env.kindOf x=some .cell\/X.env.kindOf x=some .free)->∃ c,X.env.cells.lookup x=some c
 m6:∀ x c,X.fn x=true->X.env.cells.lookup x=some c->X.s₀.heap.objs.size<=c
 hd:X.calm=true->X.A.handled=none
 frames:X.A.frames=some X.stack
 pQ:X.stack=X.outer\/(X.stack=X.env :: X.outer/\X.env.frame=some X.env.locals)
 uK:∀ b∈X.ex,b≠X.env.locals/\∀ x c,X.env.cells.lookup x=some c->c≠b
 bs:∀ b o,X.base.get? b=some o->X.s₀.heap.get? b=some o/\X.H₀ b=none
 iO:X.base.objs.size<=X.s₀.heap.objs.size
 gJ:∀ b o,X.base.get? b=some o->b ∉ X.ex
 hJ:∀ b∈X.ex,b ∉ X.fs
 dw:X.s₀.heap.FunFrames X.base X.outer
 jZ:∀ b∈X.fs,X.H₀ b=none
structure Inv (X:Cx) (pins:List (Addr × Obj)) (σ:List (Option V)) (H:Hp) (s:Shared):Prop where
 ok:X.Ok
 os:s.os=X.s₀.os
 bare:AllBare s.gens
 base:Un X.fs X.ex X.H₀ H X.s₀.heap s.heap
 loc:∃ m,s.heap.Ns X.env.locals m/\∀ (i:Nat) (x:Str) (v:V),X.N[i]? = some x->σ[i]? = some (some v)->Dj X.env.scope x->∃ u,aH v u/\Look X.env s.heap m x u
 cell:∀ x c,X.env.cells.lookup x=some c->∃ v,s.heap.IsCell c v
 free:H X.env.locals=none
 bB:∀ x c,X.env.cells.lookup x=some c->H c=none
 pin:∀ p∈X.pn ++ pins,s.heap.get? p.1=some p.2/\H p.1=none/\p.1≠X.env.locals/\p.1 ∉ X.fs/\∀ v,p.2.data≠.cell v
 aw:du X.prog X.w H s.heap
 len:σ.length=X.N.length
section
variable {X:Cx}{pins:List (Addr × Obj)}{σ:List (Option V)}{H H':Hp}{s:Shared}{h':Heap}
theorem Cx.Ok.Es (ok:X.Ok) {b:Addr}{o:Obj} (e:X.base.get? b=some o):b ∉ X.fs:=fun hb=>by
 have:=(ok.dw.mem hb).1
 rw [e] at this;cases this
theorem Inv.bs (I:Inv X pins σ H s):∀ b o,X.base.get? b=some o->s.heap.get? b=some o/\H b=none:=fun b o e =>
 ⟨I.base.keep b o (I.ok.bs b o e).1 (I.ok.bs b o e).2 (I.ok.Es e) (I.ok.gJ b o e),I.base.free b o (I.ok.bs b o e).1 (I.ok.bs b o e).2 (I.ok.gJ b o e)⟩
theorem Inv.bk (I:Inv X pins σ H s):∀ b o,X.base.get? b=some o->s.heap.get? b=some o:=fun b o e=>(I.bs b o e).1
theorem Inv.mod (I:Inv X pins σ H s):Mod X.K X.mg X.base:=I.ok.mod
theorem Inv.fj (I:Inv X pins σ H s):X.K.In s.heap:=I.ok.mod.zA.keeps I.bk
theorem Inv.nolimit (I:Inv X pins σ H s):s.heap.NoLimit:=I.ok.mod.nolimit.keeps I.bk
theorem Inv.fr (I:Inv X pins σ H s):∃ m,Fr X.base X.env.locals s.heap m :=
 let ⟨m,hn,_⟩:=I.loc
 ⟨m,hn,I.bk,ZqE I.ok.iO I.ok.above⟩
theorem Inv.lt (I:Inv X pins σ H s):X.env.locals<s.heap.objs.size:=let ⟨_,hn,_⟩:=I.loc;hn.lt
theorem Inv.sz (I:Inv X pins σ H s):X.s₀.heap.objs.size<=s.heap.objs.size:=ZqE I.ok.above (ZqN I.lt)
theorem Inv.CI (I:Inv X pins σ H s) {a:Addr} (h:s.heap.objs.size<=a):a ∉ X.fs:=fun hb=>by
 obtain ⟨_,o,ho,_⟩:=I.ok.dw.mem hb
 exact absurd (ZqF (Heap.lt_size ho) (ZqE I.sz h)) (ZqK _)
theorem Inv.oK (I:Inv X pins σ H s):∀ x c,X.env.cells.lookup x=some c->c≠X.env.locals:=fun x c e z=>by
 obtain ⟨v,o,ho,hd⟩:=I.cell x c e
 obtain ⟨m,⟨o',es,ep,jk,hd',_⟩,_⟩:=I.loc
 rw [z,jk] at ho;cases ho;rw [hd'] at hd;cases hd
theorem Inv.dw (I:Inv X pins σ H s):s.heap.FunFrames X.base X.outer:=by
 have all:∀ (l:List Env),(∀ b∈hW l,b∈X.fs)->X.s₀.heap.FunFrames X.base l->s.heap.FunFrames X.base l:=by
  intro l
  induction l with
  | nil=>intro _ _;trivial
  | cons env r ih =>
   intro hs hl
   obtain ⟨hk,⟨L,o,hf,hn,ho,hd⟩,hr⟩:=hl
   have hL:L∈X.fs:=hs L (by unfold hW;rw [Zp8,hf];exact ZpK)
   obtain ⟨sl,e⟩:=I.base.slot L o ho (I.ok.jZ L hL) hL fun z=>I.ok.hJ L z hL
   exact ⟨hk,⟨L,_,hf,hn,e,hd⟩,ih (fun b hb=>hs b (by unfold hW;rw [Zp8,hf];exact ZpL _ hb)) hr⟩
 exact all X.outer (fun _ hb=>hb) I.ok.dw
theorem Inv.stack (I:Inv X pins σ H s):s.heap.FunFrames X.base X.stack:=by
 rcases I.ok.pQ with e | ⟨e,hf⟩
 ·rw [e];exact I.dw
 ·rw [e]
  obtain ⟨m,hn,_⟩:=I.loc
  refine .cons (by rw [I.ok.kind];decide) hf hn ?_ I.dw
  exact Heap.get?_none_of_le (ZqE I.ok.iO I.ok.above)
theorem Inv.iH (I:Inv X pins σ H s):∀ b∈hW X.stack,b∈X.env.locals :: X.fs:=fun b hb=>by
 rcases I.ok.pQ with e | ⟨e,hf⟩
 ·rw [e] at hb;exact ZpL _ hb
 ·rw [e] at hb
  unfold hW at hb
  rw [Zp8,hf] at hb
  exact hb
theorem Inv.gD (I:Inv X pins σ H s):∀ b∈hW X.stack,H b=none:=fun b hb=>by
 rcases ZpC.mp (I.iH b hb) with e | hb
 ·rw [e];exact I.free
 ·obtain ⟨_,o,ho,_⟩:=I.ok.dw.mem hb
  exact I.base.free b o ho (I.ok.jZ b hb) fun z=>I.ok.hJ b z hb
theorem Inv.step {g':Array GenState}{t':Nat}{d':Drawn}{ch:List Addr} (I:Inv X pins σ H s)
  (fY:∀ b∈ch,(b∈X.ex\/X.s₀.heap.objs.size<=b)/\b≠X.env.locals/\(∀ x c,X.env.cells.lookup x=some c->c≠b)/\∀ p∈X.pn ++ pins,p.1≠b)
  (keep:∀ b o,b≠X.env.locals->b ∉ X.fs->b ∉ ch->s.heap.get? b=some o->H b=none->h'.get? b=some o)
  (slot:∀ b o,b≠X.env.locals->b∈X.fs->b ∉ ch->s.heap.get? b=some o->H b=none->∃ sl,h'.get? b=some { o with slots:=sl }) (free:∀ b o,b ∉ ch->s.heap.get? b=some o->H b=none->H' b=none)
  (there:∀ b o,b ∉ ch->s.heap.get? b=some o->∃ o',h'.get? b=some o')
  (fh:∀ b xs,H b=some (.tup xs)->H' b=some (.tup xs)) (eG:∀ b o u,H b=some (.frz o u)->H' b=some (.frz o u)) (fg:∀ b ps,H b=some (.tbl ps)->∃ more,H' b=some (.tbl (ps ++ more)))
  (ns:∀ m,s.heap.Ns X.env.locals m->h'.Ns X.env.locals m) (aw:du X.prog X.w H' h') (hg:AllBare g') :
  Inv X pins σ H' { s with heap:=h',gens:=g',drawn:=d',toks:=t' }:=by
 have E7:∀ b o,X.s₀.heap.get? b=some o->b≠X.env.locals:=fun b o e=>ZqD (ZqF (Heap.lt_size e) I.ok.above)
 have zj:∀ b o,X.s₀.heap.get? b=some o->b ∉ X.ex->b ∉ ch:=fun b o e hx hb=>by
  rcases (fY b hb).1 with z | z
  ·exact hx z
  ·exact absurd (ZqF (Heap.lt_size e) z) (ZqK _)
 have cellK:∀ x c,X.env.cells.lookup x=some c->∀ v,s.heap.IsCell c v->h'.IsCell c v:=fun x c e v ⟨o,ho,hd⟩=>by
  have mj:c ∉ ch:=fun z=>(fY c z).2.2.1 x c e rfl
  by_cases hc:c∈X.fs
  ·obtain ⟨sl,q⟩:=slot c o (I.oK x c e) hc mj ho (I.bB x c e)
   exact ⟨_,q,hd⟩
  ·exact ⟨o,keep c o (I.oK x c e) hc mj ho (I.bB x c e),hd⟩
 refine ⟨I.ok,I.os,hg,⟨fun b o e n hb hx=>?_,fun b o e n hb hx=>?_,fun b o e n hx=>?_,fun b o e hx=>?_,fun b xs e=>fh b xs (I.base.fh b xs e),fun b o xs e=>eG b o xs (I.base.eG b o xs e),fun b ps e=>?_⟩,?_,fun x c e=>?_,?_,fun x c e=>?_,fun p hp=>?_,aw,I.len⟩
 ·exact keep b o (E7 b o e) hb (zj b o e hx) (I.base.keep b o e n hb hx) (I.base.free b o e n hx)
 ·obtain ⟨sl,e1⟩:=I.base.slot b o e n hb hx
  obtain ⟨sl',e2⟩:=slot b _ (E7 b o e) hb (zj b o e hx) e1 (I.base.free b o e n hx)
  exact ⟨sl',e2⟩
 ·obtain ⟨o',e1⟩:=I.base.there b o e hx
  exact free b o' (zj b o e hx) e1 (I.base.free b o e n hx)
 ·obtain ⟨o',e1⟩:=I.base.there b o e hx
  exact there b o' (zj b o e hx) e1
 ·obtain ⟨m1,e1⟩:=I.base.fg b ps e
  obtain ⟨m2,e2⟩:=fg b _ e1
  exact ⟨m1 ++ m2,by rw [e2,Array.append_assoc]⟩
 ·obtain ⟨m,hn,hl⟩:=I.loc
  refine ⟨m,ns m hn,fun i x v e1 e2 e3=>?_⟩
  obtain ⟨u,r,l⟩:=hl i x v e1 e2 e3
  refine ⟨u,r,?_⟩
  rcases l with l | ⟨k,c,e,z⟩
  ·exact .inl l
  ·exact .inr ⟨k,c,e,cellK x c e _ z⟩
 ·obtain ⟨v,z⟩:=I.cell x c e
  exact ⟨v,cellK x c e v z⟩
 ·obtain ⟨m,⟨o,_,_,ho,_⟩,_⟩:=I.loc
  exact free _ o (fun z=>(fY _ z).2.1 rfl) ho I.free
 ·obtain ⟨v,o,ho,hd⟩:=I.cell x c e
  exact free c o (fun z=>(fY c z).2.2.1 x c e rfl) ho (I.bB x c e)
 ·obtain ⟨e,n,ne,nf,d⟩:=I.pin p hp
  have mj:p.1 ∉ ch:=fun z=>(fY p.1 z).2.2.2 p hp rfl
  exact ⟨keep p.1 p.2 ne nf mj e n,free p.1 p.2 mj e n,ne,nf,d⟩
theorem Inv.un {t':Nat} (I:Inv X pins σ H s) (u:Un X.fs [] H H' s.heap h') (aw:du X.prog X.w H' h'):Inv X pins σ H' { s with heap:=h',toks:=t' }:=by
 obtain ⟨m,⟨o,es,ep,ho,r⟩,_⟩:=id I.loc
 obtain ⟨sl,hL⟩:=u.any ho I.free (by simp)
 exact I.step (g':=s.gens) (d':=s.drawn) (ch:=[]) (fun _ z=>nomatch z) (fun b o _ hb _ e n=>u.keep b o e n hb (by simp)) (fun b o _ hb _ e n=>u.slot b o e n hb (by simp)) (fun b o _ e n=>u.free b o e n (by simp)) (fun b o _ e=>u.there b o e (by simp)) u.fh u.eG u.fg (fun m' hm=>by
  obtain ⟨o',es',ep',jk,r'⟩:=hm
  rw [ho] at jk;cases jk
  exact ⟨_,es',ep',hL,r'⟩) aw I.bare
theorem Inv.call {g':Array GenState}{t':Nat}{d':Drawn}{ch:List Addr} (I:Inv X pins σ H s) (u:Un (hW X.stack) ch H H' s.heap h') (aw:du X.prog X.w H' h') (hg:AllBare g')
  (fY:∀ b∈ch,(b∈X.ex\/X.s₀.heap.objs.size<=b)/\b≠X.env.locals/\(∀ x c,X.env.cells.lookup x=some c->c≠b)/\∀ p∈X.pn ++ pins,p.1≠b) :
  Inv X pins σ H' { s with heap:=h',gens:=g',drawn:=d',toks:=t' }:=by
 obtain ⟨m,⟨o,es,ep,ho,r⟩,_⟩:=id I.loc
 obtain ⟨sl,hL⟩:=u.any ho I.free fun z=>(fY _ z).2.1 rfl
 exact I.step (ch:=ch) fY (fun b o hL hb hc e n=>u.keep b o e n (fun z=>(ZpC.mp (I.iH b z)).elim hL hb) hc) (fun b o _ _ hc e n=>u.any e n hc) (fun b o hc e n=>u.free b o e n hc) (fun b o hc e=>u.there b o e hc) u.fh u.eG u.fg (fun m' hm=>by
  obtain ⟨o',es',ep',jk,r'⟩:=hm
  rw [ho] at jk;cases jk
  exact ⟨_,es',ep',hL,r'⟩) aw hg
theorem Inv.turned {t':Nat}{it:Addr} (I:Inv X pins σ H s) (k:∀ b o,b≠it->s.heap.get? b=some o->h'.get? b=some o) (hn:H it=none) (hL:it≠X.env.locals)
  (h1:it∈X.ex\/X.s₀.heap.objs.size<=it) (h2:∀ x c,X.env.cells.lookup x=some c->c≠it) (h3:∀ p∈X.pn ++ pins,p.1≠it):Inv X pins σ H { s with heap:=h',toks:=t' }:=by
 have mG:∀ b u,H b=some u->b≠it:=fun b u e z=>by rw [z,hn] at e;cases e
 refine I.step (g':=s.gens) (d':=s.drawn) (ch:=[it]) (fun b hb=>?_) (fun b o _ _ hc e _=>k b o (fun z=>hc (by simp [z])) e) (fun b o _ _ hc e _=>⟨o.slots,k b o (fun z=>hc (by simp [z])) e⟩) (fun _ _ _ _ n=>n)
  (fun b o hc e=>⟨o,k b o (fun z=>hc (by simp [z])) e⟩) (fun _ _ e=>e) (fun _ _ _ e=>e) (fun b ps e=>⟨#[],by rw [e];simp⟩) (fun m hm=>?_) (fun b u e=>?_) I.bare
 ·have e:b=it:=by simpa using hb
  subst e
  exact ⟨h1,hL,h2,h3⟩
 ·obtain ⟨o,es,ep,ho,r⟩:=hm
  exact ⟨o,es,ep,k _ o (Ne.symm hL) ho,r⟩
 ·refine (I.aw b u e).gk (fun c v hc q=>k c v ?_ q) (fun _ q=>q) fun _ _ q=>q
  rcases hc with z | z
  ·rw [z];exact mG b u e
  ·exact mG c _ z
theorem Inv.tok (I:Inv X pins σ H s) (t:Nat):Inv X pins σ H { s with toks:=t }:=I.un (h':=s.heap) (t':=t) Un.refl I.aw
theorem Inv.kept {t':Nat} (I:Inv X pins σ H s) (k:∀ b u,s.heap.get? b=some u->h'.get? b=some u):Inv X pins σ H { s with heap:=h',toks:=t' }:=I.un (Un.kept k) (I.aw.kept k)
theorem Inv.laid {a:Addr}{o:HO}{t':Nat} (I:Inv X pins σ H s) (k:∀ b u,s.heap.get? b=some u->h'.get? b=some u) (hp:s.heap.objs.size<=a) (new:dn X.prog X.w (upd H a o) h' a o) :
  Inv X pins σ (upd H a o) { s with heap:=h',toks:=t' }:=I.un (Un.laid k hp (I.aw.fresh hp)) (I.aw.laid k hp new)
theorem Inv.write {x e:Addr}{o:HO}{t':Nat} (I:Inv X pins σ H s) (mu:yz (H x)) (he:e=x\/H e=some (.own x)) (k:∀ b u,b≠e->s.heap.get? b=some u->h'.get? b=some u) (sD:∃ u,h'.get? e=some u)
  (new:dn X.prog X.w (upd H x o) h' x o):Inv X pins σ (upd H x o) { s with heap:=h',toks:=t' }:=I.un (Un.write mu he k sD) (I.aw.write mu he k sD new)
theorem Inv.iM {mf:List (Addr × Obj)} (I:Inv X pins σ H s) (h:∀ p∈mf,s.heap.get? p.1=some p.2/\H p.1=none/\p.1≠X.env.locals/\p.1 ∉ X.fs/\∀ v,p.2.data≠.cell v):Inv X mf σ H s :=
 ⟨I.ok,I.os,I.bare,I.base,I.loc,I.cell,I.free,I.bB,fun p hp=>(ZpM.mp hp).elim (fun z=>I.pin p (Zqk _ z)) (h p),I.aw,I.len⟩
theorem Hu {N:List Str} (hN:N.Nodup) {i j:Nat}{x:Str} (a:N[i]? = some x) (b:N[j]? = some x):i=j:=by
 obtain ⟨h1,e1⟩:=ZpA.mp a
 obtain ⟨h2,e2⟩:=ZpA.mp b
 exact (List.getElem_inj hN).mp (e1.trans e2.symm)
theorem Jm {M:Model}{A:Around}{E:Value->Shared->Prop}{i:Nat}{x:Str}{v:V}{u:Value}{Q:Unit->Shared->Prop} (I:Inv X pins σ H s) (hN:X.N.Nodup) (hi:X.N[i]? = some x) (hx:Loc X.env.scope x) (r:aH v u)
  (h:∀ s',Inv X pins (σ.set i (some v)) H s'->(∃ a,Heap.SameBut a s.heap s'.heap/\(a=X.env.locals\/X.env.cells.lookup x=some a))->Q () s') (hf:X.fn x=true\/X.env.scope.names.lookup x=some .local:=by first | exact .inl rfl | exact .inr rfl | assumption):wpAny M A (storeName X.env x u) Q E s:=by
 obtain ⟨m,hn,hl⟩:=id I.loc
 have Al:(X.env.scope.kind == .class || (X.env.scope.kind == .module && X.env.locals != X.env.globals))=false:=by rw [I.ok.kind];rfl
 have IK:i<σ.length:=by rw [I.len];exact (ZpA.mp hi).1
 have oK:=I.oK
 have tracked:∀ {a:Addr}{h':Heap},(∃ o,s.heap.get? a=some o/\H a=none)->Heap.SameBut a s.heap h'->du X.prog X.w H h':=fun {a h'} ha hs b ob e=>by
  obtain ⟨_,_,eP⟩:=ha
  refine (I.aw b ob e).gk (fun c w' hc q=>(hs.2 c ?_).trans q) (fun _ q=>q) fun _ _ q=>q
  rintro rfl
  rcases hc with rfl | hc
  ·rw [eP] at e;cases e
  ·rw [eP] at hc;cases hc
 rcases hx with hk | hk
 ·refine wpAny_storeName_local hk hn (fun h' hn' hs=>?_) Al
  obtain ⟨oL,_,_,vX,_⟩:=id hn
  refine h _ ⟨I.ok,I.os,I.bare,⟨fun b o e n hb hx=>?_,fun b o e n hb hx=>?_,I.base.free,fun b o e hx=>?_,I.base.fh,I.base.eG,I.base.fg⟩,⟨_,hn',fun j y v' e1 e2 e3=>?_⟩,fun y c e=>?_,I.free,I.bB,fun p hp=>?_,tracked ⟨oL,vX,I.free⟩ hs,by simpa using I.len⟩ ⟨_,hs,.inl rfl⟩
  ·exact (hs.2 b (ZqD (ZqF (Heap.lt_size e) I.ok.above))).trans (I.base.keep b o e n hb hx)
  ·obtain ⟨sl,e1⟩:=I.base.slot b o e n hb hx
   exact ⟨sl,(hs.2 b (ZqD (ZqF (Heap.lt_size e) I.ok.above))).trans e1⟩
  ·obtain ⟨o',e1⟩:=I.base.there b o e hx
   exact ⟨o',(hs.2 b (ZqD (ZqF (Heap.lt_size e) I.ok.above))).trans e1⟩
  ·by_cases hj:j=i
   ·subst hj
    rw [hi] at e1;cases e1
    rw [Zqu IK] at e2
    cases e2
    exact ⟨u,r,.inl ⟨hk,by simp⟩⟩
   ·rw [List.getElem?_set_ne (Ne.symm hj)] at e2
    obtain ⟨u',r',q⟩:=hl j y v' e1 e2 e3
    refine ⟨u',r',?_⟩
    rcases q with ⟨k,e⟩ | ⟨k,c,e,z⟩
    ·refine .inl ⟨k,?_⟩
     have:y≠x:=fun e=>hj (Hu hN e1 (e ▸ hi))
     simp [this,e]
    ·exact .inr ⟨k,c,e,z.sameBut hs (oK y c e)⟩
  ·obtain ⟨w',z⟩:=I.cell y c e
   exact ⟨w',z.sameBut hs (oK y c e)⟩
  ·obtain ⟨e,n,ne,nf,d⟩:=I.pin p hp
   exact ⟨(hs.2 p.1 ne).trans e,n,ne,nf,d⟩
 ·have AF:X.fn x=true:=by
   rcases hf with z | z
   ·exact z
   ·rw [z] at hk;cases hk
  obtain ⟨c,hc⟩:=I.ok.has x (.inl hk)
  obtain ⟨w',z⟩:=I.cell x c hc
  refine wpAny_storeName_cell I.ok.kind hk hc z (fun h' hc' hs=>?_)
  obtain ⟨oc,hoc,hocd⟩:=id z
  refine h { s with heap:=h' } ⟨I.ok,I.os,I.bare,⟨fun b o e n hb hx=>?_,fun b o e n hb hx=>?_,I.base.free,fun b o e hx=>?_,I.base.fh,I.base.eG,I.base.fg⟩,⟨m,hn.sameBut hs (Ne.symm (oK x c hc)),fun j y v' e1 e2 e3=>?_⟩,fun y c' e=>?_,I.free,I.bB,fun p hp=>?_,tracked ⟨oc,hoc,I.bB x c hc⟩ hs,by simpa using I.len⟩ ⟨c,hs,.inr hc⟩
  ·exact (hs.2 b (ZqD (ZqF (Heap.lt_size e) (I.ok.m6 x c AF hc)))).trans (I.base.keep b o e n hb hx)
  ·obtain ⟨sl,e1⟩:=I.base.slot b o e n hb hx
   exact ⟨sl,(hs.2 b (ZqD (ZqF (Heap.lt_size e) (I.ok.m6 x c AF hc)))).trans e1⟩
  ·obtain ⟨o',e1⟩:=I.base.there b o e hx
   exact ⟨o',(hs.2 b (ZqD (ZqF (Heap.lt_size e) (I.ok.m6 x c AF hc)))).trans e1⟩
  ·by_cases hj:j=i
   ·subst hj
    rw [hi] at e1;cases e1
    rw [Zqu IK] at e2
    cases e2
    exact ⟨u,r,.inr ⟨.inl hk,c,hc,hc'⟩⟩
   ·rw [List.getElem?_set_ne (Ne.symm hj)] at e2
    obtain ⟨u',r',q⟩:=hl j y v' e1 e2 e3
    refine ⟨u',r',?_⟩
    rcases q with q | ⟨k,c',e,z'⟩
    ·exact .inl q
    ·refine .inr ⟨k,c',e,z'.sameBut hs ?_⟩
     rintro rfl
     exact hj (Hu hN e1 (I.ok.inj _ _ _ e hc ▸ hi))
  ·by_cases hcc:c'=c
   ·subst hcc;exact ⟨_,hc'⟩
   ·obtain ⟨w2,z2⟩:=I.cell y c' e
    exact ⟨w2,z2.sameBut hs hcc⟩
  ·obtain ⟨e,n,ne,nf,d⟩:=I.pin p hp
   refine ⟨(hs.2 p.1 ?_).trans e,n,ne,nf,d⟩
   intro q
   rw [q,hoc] at e
   have q':oc=p.2:=Option.some.inj e
   exact d w' (by rw [<- q'];exact hocd)
theorem Jx {M:Model}{A:Around}{E:Value->Shared->Prop}{i:Nat}{x:Str}{v:V}{u:Value}{Q:Unit->Shared->Prop} (I:Inv X pins σ H s) (hN:X.N.Nodup) (hi:X.N[i]? = some x) (hx:Loc X.env.scope x) (r:aH v u)
  (h:∀ s',Inv X pins (σ.set i (some v)) H s'->Q () s') (hf:X.fn x=true\/X.env.scope.names.lookup x=some .local:=by first | exact .inl rfl | exact .inr rfl | assumption):wpAny M A (storeName X.env x u) Q E s :=
 Jm I hN hi hx r (fun s' I' _=>h s' I') hf
theorem Inv.tM {s':Shared}{ch:List Addr} (I:Inv X pins σ H s) (ho:s'.os=s.os) (u:Un (hW X.stack) ch H H' s.heap s'.heap) (aw:du X.prog X.w H' s'.heap) (hg:AllBare s'.gens)
  (fY:∀ b∈ch,(b∈X.ex\/X.s₀.heap.objs.size<=b)/\b≠X.env.locals/\(∀ x c,X.env.cells.lookup x=some c->c≠b)/\∀ p∈X.pn ++ pins,p.1≠b):Inv X pins σ H' s':=by
 obtain ⟨h',g',d',t',o'⟩:=s'
 have e:o'=s.os:=ho
 subst e
 exact I.call (g':=g') (t':=t') (d':=d') u aw hg fY
end
noncomputable abbrev XK:=Value->Option Addr->Hp->Prop
noncomputable abbrev St:=List (Option V)
noncomputable abbrev VK:=V->Hp->Prop
noncomputable abbrev TE:=St->Hp->VK->Prop
noncomputable abbrev TT:=St->Hp->(Bool->Hp->Prop)->Prop
noncomputable abbrev TA:=St->Hp->(List V->Hp->Prop)->Prop
structure Ends where
 nx:St->Hp->Prop
 rt:VK
 bk:St->Hp->Prop:=fun _ _=>False
 ct:St->Hp->Prop:=fun _ _=>False
noncomputable abbrev TS:=Ends->St->Hp->Prop
noncomputable def EP (X:Cx) (pins:List (Addr × Obj)) (σ:St) (Q:VK) (u:Value) (s':Shared):Prop:=∃ v H',Inv X pins σ H' s'/\aH v u/\Q v H'
noncomputable def TP (X:Cx) (pins:List (Addr × Obj)) (σ:St) (Q:Bool->Hp->Prop) (b:Bool) (s':Shared):Prop:=∃ H',Inv X pins σ H' s'/\Q b H'
noncomputable def AP (X:Cx) (pins:List (Addr × Obj)) (σ:St) (Q:List V->Hp->Prop) (us:List Value) (s':Shared):Prop:=∃ vs H',Inv X pins σ H' s'/\Vals vs us/\Q vs H'
noncomputable def SP (X:Cx) (pins:List (Addr × Obj)) (D:Ends) (f:Flow) (s':Shared):Prop :=
 match f with
 | .next=>∃ σ' H',Inv X pins σ' H' s'/\D.nx σ' H'
 | .brk=>∃ σ' H',Inv X pins σ' H' s'/\D.bk σ' H'
 | .cont=>∃ σ' H',Inv X pins σ' H' s'/\D.ct σ' H'
 | .ret u=>∃ v σ' H',Inv X pins σ' H' s'/\aH v u/\D.rt v H'
noncomputable def PE (X:Cx) (e:Expr) (t:TE):Prop :=
 ∀ (pins:List (Addr × Obj)) (s:Shared) (σ:St) (H:Hp) (Q:VK),Inv X pins σ H s->t σ H Q->wpAny (model X.prog X.w) X.A (eval e X.env) (EP X pins σ Q) X.xe s
noncomputable def PT (X:Cx) (e:Expr) (t:TT):Prop :=
 ∀ (pins:List (Addr × Obj)) (s:Shared) (σ:St) (H:Hp) (Q:Bool->Hp->Prop),Inv X pins σ H s->t σ H Q->wpAny (model X.prog X.w) X.A (isTrue e X.env (eval e X.env)) (TP X pins σ Q) X.xe s
noncomputable def PW (X:Cx) (e:Expr) (t:TT):Prop :=
 ∀ (whole:Sem Value) (pins:List (Addr × Obj)) (s:Shared) (σ:St) (H:Hp) (Q:Bool->Hp->Prop),Inv X pins σ H s->t σ H Q->wpAny (model X.prog X.w) X.A (isTrue e X.env whole) (TP X pins σ Q) X.xe s
theorem PW.pt {X:Cx}{e:Expr}{t:TT} (h:PW X e t):PT X e t:=h _
noncomputable def PA (X:Cx) (es:List Expr) (t:TA):Prop :=
 ∀ (pos:Pos) (pins:List (Addr × Obj)) (s:Shared) (σ:St) (H:Hp) (Q:List V->Hp->Prop),Inv X pins σ H s->t σ H Q->wpAny (model X.prog X.w) X.A (spliced (backTo pos (starEach es X.env))) (AP X pins σ Q) X.xe s
noncomputable def PS (X:Cx) (st:Stmt) (t:TS):Prop :=
 ∀ (pins:List (Addr × Obj)) (s:Shared) (σ:St) (H:Hp) (D:Ends),Inv X pins σ H s->t D σ H->wpAny (model X.prog X.w) X.A (exec st X.env) (SP X pins D) X.xe s
noncomputable def iu (X:Cx) (st:List Stmt) (t:TS):Prop :=
 ∀ (pins:List (Addr × Obj)) (s:Shared) (σ:St) (H:Hp) (D:Ends),Inv X pins σ H s->t D σ H->wpAny (model X.prog X.w) X.A (execs st X.env) (SP X pins D) X.xe s
theorem aF {α:Type}{t:Sem α}{Q Q':α->Shared->Prop}{M:Model}{A:Around}{E:Value->Shared->Prop}{s:Shared} (h:wpAny M A t Q E s) (hQ:∀ a s,Q a s->Q' a s):wpAny M A t Q' E s:=wpAny_mono h hQ fun _ _ x=>x
section
variable {X:Cx}
noncomputable def vg (i:Nat):TE:=fun σ H Q=>∃ v,σ[i]? = some (some v)/\Q v H
noncomputable def tC (v:V):TE:=fun _ H Q=>Q v H
theorem qW {i:Nat}{x:Str}{pos:Pos} (hN:X.N[i]? = some x) (hv:Dj X.env.scope x) (hd:(x == ("__debug__" : Str))=false:=by decide) (jL:(x == ("__classdict__" : Str))=false:=by decide):PE X (.Name x pos) (vg i):=by
 intro pins s σ H Q I h
 obtain ⟨v,e,h⟩:=h
 obtain ⟨m,hn,hl⟩:=I.loc
 obtain ⟨u,r,l⟩:=hl i x v hN e hv
 have fin:EP X pins σ Q u s:=⟨v,H,I,r,h⟩
 rcases l with ⟨hk,hm⟩ | ⟨hk,c,hc,hcell⟩
 ·exact wpAny_Name (wpAny_loadName_local I.ok.kind hk hn hm fin) hd
 ·rcases hk with hk | hk
  ·exact wpAny_Name (wpAny_loadName_cell I.ok.kind hk hc hcell fin) hd
  ·exact wpAny_Name (wpAny_loadName_free I.ok.kind hk hc hcell fin jL) hd
theorem aq {i j pos}:PE X (.Constant (.int i) j pos) (tC (.int i)):=fun _ _ _ H _ I h=>wpAny_Constant_int ⟨.int i,H,I.tok _,⟨_,rfl⟩,h⟩
theorem ip {b j pos}:PE X (.Constant (.bool b) j pos) (tC (.bl b)):=fun _ _ _ H _ I h=>Constant_bool ⟨.bl b,H,I,rfl,h⟩
theorem pT {j pos}:PE X (.Constant .none j pos) (tC .non):=fun _ _ _ H _ I h=>Constant_none ⟨.non,H,I,rfl,h⟩
theorem dZ {x j pos}:PE X (.Constant (.str x) j pos) (tC (.str x)):=fun _ _ _ H _ I h=>Calls.Constant_str ⟨.str x,H,I.tok _,⟨_,rfl⟩,h⟩
noncomputable def Gl (X:Cx) (x:Str):Prop:=X.env.kindOf x=some .globalImplicit
theorem Aw {E:Value->Shared->Prop}{pins:List (Addr × Obj)}{s:Shared}{σ:St}{H:Hp}{x:Str}{u:Value}{pos:Pos}{Q:Value->Shared->Prop} (I:Inv X pins σ H s) (hg:Gl X x) (hm:X.mg x=some u) (h:Q u s)
  (hd:(x == ("__debug__" : Str))=false:=by decide):wpAny (model X.prog X.w) X.A (eval (.Name x pos) X.env) Q E s :=
 Calls.Name_function_global I.ok.kind hg (Calls.loadGlobal_global (by rw [I.ok.glob];exact I.mod.glob.keeps I.bk) hm h) hd
theorem j9 {E:Value->Shared->Prop}{pins:List (Addr × Obj)}{s:Shared}{σ:St}{H:Hp}{x:Str}{u:Value}{pos:Pos}{Q:Value->Shared->Prop} (I:Inv X pins σ H s) (hg:Gl X x) (hm:X.mg x=none) (hv:bootBuiltins x=some u) (h:Q u s)
  (hn:x ≠ "__name__":=by decide) (hd:(x == ("__debug__" : Str))=false:=by decide):wpAny (model X.prog X.w) X.A (eval (.Name x pos) X.env) Q E s:=by
 obtain ⟨mb,h1,h2⟩:=I.mod.blt
 exact Calls.Name_function_global I.ok.kind hg (Calls.loadGlobal_builtin (by rw [I.ok.glob];exact I.mod.glob.keeps I.bk) hm (by rw [I.ok.blt];exact h1.keeps I.bk) ((h2 x hn).trans hv) h) hd
theorem Fh {x:Str}{v:V}{u:Value}{pos:Pos} (hg:Gl X x) (hm:X.mg x=some u) (r:aH v u) (hd:(x == ("__debug__" : Str))=false:=by decide):PE X (.Name x pos) (tC v) :=
 fun _ _ _ H _ I h=>Aw I hg hm ⟨v,H,I,r,h⟩ hd
theorem rh {x:Str}{v:V}{u:Value}{pos:Pos} (hg:Gl X x) (hm:X.mg x=none) (hv:bootBuiltins x=some u) (r:aH v u) (hn:x ≠ "__name__":=by decide) (hd:(x == ("__debug__" : Str))=false:=by decide):PE X (.Name x pos) (tC v) :=
 fun _ _ _ H _ I h=>j9 I hg hm hv ⟨v,H,I,r,h⟩ hn hd
variable {a b:Expr}{ta tb:TE}{pos:Pos}
noncomputable def PC (X:Cx) (op:CmpOp) (a b:Expr) (t:TE):Prop :=
 ∀ (pins:List (Addr × Obj)) (s:Shared) (σ:St) (H:Hp) (Q:VK),Inv X pins σ H s->t σ H Q ->
  wpAny (model X.prog X.w) X.A (eval a X.env) (fun v s₁=>wpAny (model X.prog X.w) X.A (eval b X.env) (fun u s₂=>wpAny (model X.prog X.w) X.A (compareOp op v u) (EP X pins σ Q) X.xe s₂) X.xe s₁) X.xe s
theorem As (b:Expr) {op:CmpOp} (h:op≠.In) (h2:op≠.NotIn):behindInMarks op b=false:=by
 have e1:(op == CmpOp.In)=false:=by cases op <;> first | rfl | exact absurd rfl h
 have e2:(op == CmpOp.NotIn)=false:=by cases op <;> first | rfl | exact absurd rfl h2
 cases b <;> simp [behindInMarks,e1,e2]
noncomputable def tB (t:TE):TT:=fun σ H Q=>t σ H fun x H1=>∃ c,x=.bl c/\Q c H1
theorem m9 {op:CmpOp}{t:TE} (h:PC X op a b t) (h1:behindInMarks op b=false:=by first | exact As _ (by decide) (by decide) | rfl):PE X (.Compare a [op] [b] pos) t:=fun pins s σ H Q I hw=>wpAny_Compare1 (h pins s σ H Q I hw) h1
theorem nq {op:CmpOp}{t:TE} (h:PC X op a b t) (h1:behindInMarks op b=false:=by first | exact As _ (by decide) (by decide) | rfl):PT X (.Compare a [op] [b] pos) (tB t):=by
 intro pins s σ H Q I hw
 refine wpAny_isTrue_Compare1 (aF (h pins s σ H _ I hw) fun v s1 h1=>aF h1 fun u s2 h2=>aF h2 fun c s3 ⟨x,H1,I1,r1,q1⟩=>?_) h1
 obtain ⟨d,rfl,q⟩:=q1
 cases r1
 exact wpAny_truthy_bool ⟨H1,I1,q⟩
variable {tA z4:TT}{bC:List Expr}
noncomputable def kU (t u:TT):TT:=fun σ H Q=>t σ H fun c H1=>if c=true then u σ H1 Q else Q false H1
noncomputable def gE (t u:TT):TT:=fun σ H Q=>t σ H fun c H1=>if c=true then Q true H1 else u σ H1 Q
noncomputable def gO (t:TT):TT:=fun σ H Q=>t σ H fun c H1=>Q (!c) H1
theorem ET (ha:PT X a tA):PW X (.BoolOp .And [a] pos) tA:=by
 intro wh pins s σ H Q I h
 refine isTrue_and (aF (ha pins s σ H Q I h) fun c s1 e=>?_)
 cases c with
 | true=>exact isTrue_and_nil e
 | false=>exact e
theorem jF (ha:PT X a tA):PW X (.BoolOp .Or [a] pos) tA:=by
 intro wh pins s σ H Q I h
 refine isTrue_or (aF (ha pins s σ H Q I h) fun c s1 e=>?_)
 cases c with
 | false=>exact isTrue_or_nil e
 | true=>exact e
theorem Io (ha:PT X a tA) (hb:PW X (.BoolOp .And (b :: bC) pos) z4):PW X (.BoolOp .And (a :: b :: bC) pos) (kU tA z4):=by
 intro wh pins s σ H Q I h
 refine isTrue_and (aF (ha pins s σ H _ I h) fun c s1 ⟨H1,I1,q1⟩=>?_)
 cases c with
 | true=>exact hb wh pins s1 σ H1 Q I1 q1
 | false=>exact ⟨H1,I1,q1⟩
theorem hG (ha:PT X a tA) (hb:PW X (.BoolOp .Or (b :: bC) pos) z4):PW X (.BoolOp .Or (a :: b :: bC) pos) (gE tA z4):=by
 intro wh pins s σ H Q I h
 refine isTrue_or (aF (ha pins s σ H _ I h) fun c s1 ⟨H1,I1,q1⟩=>?_)
 cases c with
 | true=>exact ⟨H1,I1,q1⟩
 | false=>exact hb wh pins s1 σ H1 Q I1 q1
theorem iy (ha:PT X a tA):PT X (.UnaryOp .Not a pos) (gO tA):=by
 intro pins s σ H Q I h
 exact isTrue_not (ha pins s σ H (fun c H1=>Q (!c) H1) I h)
noncomputable def AV (ta tb:TE):TE:=fun σ H Q=>ta σ H fun x H1=>∃ c,x=.bl c/\if c=true then tb σ H1 Q else Q (.bl false) H1
noncomputable def AM (ta:TE):TE:=fun σ H Q=>ta σ H fun x H1=>∃ c,x=.bl c/\Q (.bl (!c)) H1
theorem vd {op}{t:TE} (h:PE X a t):PE X (.BoolOp op [a] pos) t:=fun pins s σ H Q I hw=>BoolOp_one (h pins s σ H Q I hw)
theorem pj (ha:PE X a ta) (hb:PE X (.BoolOp .And (b :: bC) pos) tb):PE X (.BoolOp .And (a :: b :: bC) pos) (AV ta tb):=by
 intro pins s σ H Q I h
 refine BoolOp_and (aF (ha pins s σ H _ I h) fun v s1 ⟨x,H1,I1,r1,q1⟩=>?_)
 obtain ⟨c,rfl,q1⟩:=q1
 cases r1
 refine wpAny_truthy_bool ?_
 cases c with
 | true=>exact hb pins s1 σ H1 Q I1 q1
 | false=>exact ⟨.bl false,H1,I1,rfl,q1⟩
theorem oo (ha:PE X a ta):PE X (.UnaryOp .Not a pos) (AM ta):=by
 intro pins s σ H Q I h
 refine UnaryOp_ (aF (ha pins s σ H _ I h) fun v s1 ⟨x,H1,I1,r1,q1⟩=>?_)
 obtain ⟨c,rfl,q1⟩:=q1
 cases r1
 exact not_of (wpAny_truthy_bool ⟨.bl (!c),H1,I1,rfl,q1⟩)
noncomputable def xF (t:TT) (ta tb:TE):TE:=fun σ H Q=>t σ H fun c H1=>if c=true then ta σ H1 Q else tb σ H1 Q
theorem Dw {c:Expr} (hc:PT X c tA) (ha:PE X a ta) (hb:PE X b tb):PE X (.IfExp c a b pos) (xF tA ta tb):=by
 intro pins s σ H Q I h
 refine wpAny_IfExp (aF (hc pins s σ H _ I h) fun d s1 ⟨H1,I1,q1⟩=>?_)
 cases d with
 | true=>exact ha pins s1 σ H1 Q I1 q1
 | false=>exact hb pins s1 σ H1 Q I1 q1
end
noncomputable def aI (K:ZoW) (H:Hp) (a:Addr) (xs:List V):Prop :=
 Rd H a (.lst xs) \/
  ∃ (o:Obj) (its:Array Value) (n:Nat),K.lookup a=some o/\o.cls=.type "list" /\ o.dict=none/\o.data=.seq its n/\its.size<=sizeLine/\Vals xs its.toList
noncomputable def bX (K:ZoW) (H:Hp) (a:Addr) (xs:List V):Prop :=
 Rd H a (.tup xs) \/
  ∃ (o:Obj) (its:Array Value) (n:Nat),K.lookup a=some o/\o.cls=.type "tuple" /\ o.data=.seq its n/\its.size<=sizeLine/\Vals xs its.toList
noncomputable def BL:Value->Option V
 | .none=>some .non
 | .bool b=>some (.bl b)
 | .int i _=>some (.int i)
 | .str x _=>some (.str x)
 | .bytes b _=>some (.byt b)
 | .float b _=>some (.flt b)
 | .ref a=>some (.ref a)
 | .type n=>some (.ty n)
 | _=>none
theorem aH.abs {x:V}{u:Value} (r:aH x u):BL u=some x:=by
 cases x with
 | non=>cases r;rfl
 | bl _=>cases r;rfl
 | int _=>obtain ⟨t,rfl⟩:=r;rfl
 | str _=>obtain ⟨t,rfl⟩:=r;rfl
 | byt _=>obtain ⟨t,rfl⟩:=r;rfl
 | flt _=>obtain ⟨t,rfl⟩:=r;rfl
 | ref _=>cases r;rfl
 | ty _=>cases r;rfl
theorem aH.inj {x y:V}{u:Value} (r:aH x u) (q:aH y u):x=y:=Option.some.inj (r.abs.symm.trans q.abs)
theorem Vals.inj:∀ {xs ys:List V}{us:List Value},Vals xs us->Vals ys us->xs=ys
 | _,_,_,.nil,.nil=>rfl
 | _,_,_,.cons r t,.cons r' t'=>by rw [r.inj r',Vals.inj t t']
section
variable {X:Cx}{pins:List (Addr × Obj)}{σ:St}{H:Hp}{s:Shared}{a:Addr}{xs ys:List V}
theorem aI.of {K:ZoW} (h:H a=some (.lst xs)):aI K H a xs:=.inl (.inl h)
theorem bX.of {K:ZoW} (h:H a=some (.tup xs)):bX K H a xs:=.inl (.inl h)
theorem Inv.list (I:Inv X pins σ H s) (h:aI X.K H a xs):∃ its:List Value,Vals xs its/\PlainL s.heap a its.toArray/\xs.length<=sizeLine:=by
 rcases h with h | ⟨o,its,n,hk,hc,hd,hs,hz,r⟩
 ·obtain ⟨z,its,n,r,e⟩:=h.ok I.aw
  exact ⟨its,r,⟨_,n,e,rfl,rfl,rfl⟩,z⟩
 ·refine ⟨its.toList,r,⟨o,n,I.fj a o hk,hc,hd,by simpa using hs⟩,?_⟩
  have e:=r.length
  simp only [Zq9] at e
  omega
theorem Inv.tuple (I:Inv X pins σ H s) (h:bX X.K H a xs):∃ its:List Value,Vals xs its/\IsTup s.heap a its.toArray/\xs.length<=sizeLine:=by
 rcases h with h | ⟨o,its,n,hk,hc,hs,hz,r⟩
 ·obtain ⟨z,its,r,p⟩:=h.ok I.aw
  exact ⟨its,r,p,z⟩
 ·refine ⟨its.toList,r,⟨o,I.fj a o hk,hc,n,by simpa using hs⟩,?_⟩
  have e:=r.length
  simp only [Zq9] at e
  omega
theorem Inv.fU (I:Inv X pins σ H s) (h:aI X.K H a xs) (h':aI X.K H a ys):xs=ys:=by
 obtain ⟨its,r,⟨o,n,e,_,_,d⟩,_⟩:=I.list h
 obtain ⟨its',r',⟨o',n',e',_,_,d'⟩,_⟩:=I.list h'
 rw [e] at e';cases e'
 rw [d] at d'
 injection d' with d1 _
 have:its=its':=by simpa using congrArg Array.toList d1
 subst this
 exact r.inj r'
theorem Inv.jd (I:Inv X pins σ H s) (h:bX X.K H a xs) (h':bX X.K H a ys):xs=ys:=by
 obtain ⟨its,r,⟨o,e,_,n,d⟩,_⟩:=I.tuple h
 obtain ⟨its',r',⟨o',e',_,n',d'⟩,_⟩:=I.tuple h'
 rw [e] at e';cases e'
 rw [d] at d'
 injection d' with d1 _
 have:its=its':=by simpa using congrArg Array.toList d1
 subst this
 exact r.inj r'
end
noncomputable abbrev Cx.gm (X:Cx) (E:Value->Shared->Prop):Cx:={ X with xe:=E }
noncomputable abbrev Cx.vF (X:Cx):Cx:=X.gm fun _ _=>False
theorem Cx.Ok.gm {X:Cx} (ok:X.Ok) (E:Value->Shared->Prop):(X.gm E).Ok :=
 ⟨ok.mod,ok.kind,ok.glob,ok.blt,ok.above,ok.inj,ok.has,ok.m6,ok.hd,ok.frames,ok.pQ,ok.uK,ok.bs,ok.iO,ok.gJ,ok.hJ,ok.dw,ok.jZ⟩
theorem Cx.Ok.unwish {X:Cx}{E:Value->Shared->Prop} (ok:(X.gm E).Ok):X.Ok :=
 ⟨ok.mod,ok.kind,ok.glob,ok.blt,ok.above,ok.inj,ok.has,ok.m6,ok.hd,ok.frames,ok.pQ,ok.uK,ok.bs,ok.iO,ok.gJ,ok.hJ,ok.dw,ok.jZ⟩
section
variable {X:Cx}{pins:List (Addr × Obj)}{σ:St}{H:Hp}{s:Shared}{E:Value->Shared->Prop}
theorem Inv.gm (I:Inv X pins σ H s) (E:Value->Shared->Prop):Inv (X.gm E) pins σ H s:=⟨I.ok.gm E,I.os,I.bare,I.base,I.loc,I.cell,I.free,I.bB,I.pin,I.aw,I.len⟩
theorem Inv.unwish (I:Inv (X.gm E) pins σ H s):Inv X pins σ H s:=⟨I.ok.unwish,I.os,I.bare,I.base,I.loc,I.cell,I.free,I.bB,I.pin,I.aw,I.len⟩
theorem SP.unwish {D:Ends}{f:Flow}{s':Shared} (h:SP (X.gm E) pins D f s'):SP X pins D f s':=by
 cases f with
 | next=>obtain ⟨σ',H',I,q⟩:=h;exact ⟨σ',H',I.unwish,q⟩
 | brk=>obtain ⟨σ',H',I,q⟩:=h;exact ⟨σ',H',I.unwish,q⟩
 | cont=>obtain ⟨σ',H',I,q⟩:=h;exact ⟨σ',H',I.unwish,q⟩
 | ret u=>obtain ⟨v,σ',H',I,r,q⟩:=h;exact ⟨v,σ',H',I.unwish,r,q⟩
theorem iu.vF {st:List Stmt}{t:TS} (h:iu X.vF st t):iu X st t:=fun pins s σ H D I hw =>
 wpAny_mono (h pins s σ H D (I.gm _) hw) (fun _ _ q=>q.unwish) fun _ _ z=>False.elim z
end
section
variable {X:Cx}{st:Stmt}{bC:List Stmt}{t u:TS}{e:Expr}{te:TE}{pos:Pos}
noncomputable def eh:TS:=fun D σ H=>D.nx σ H
noncomputable def aE (t u:TS):TS:=fun D σ H=>t { D with nx:=u D } σ H
theorem eU:iu X [] eh:=fun _ _ σ H _ I h=>wpAny_execs_nil ⟨σ,H,I,h⟩
theorem aG (h1:PS X st t) (h2:iu X bC u):iu X (st :: bC) (aE t u):=by
 intro pins s σ H D I h
 refine wpAny_execs_cons (aF (h1 pins s σ H { D with nx:=u D } I h) fun f s1 q=>?_)
 cases f with
 | next =>
  obtain ⟨σ',H',I',q⟩:=q
  exact h2 pins s1 σ' H' D I' q
 | ret v=>exact q
 | brk=>exact q
 | cont=>exact q
theorem aM (h1:PS X st t):iu X [st] t:=by
 intro pins s σ H D I h
 refine wpAny_execs_cons (aF (h1 pins s σ H D I h) fun f s1 q=>?_)
 cases f with
 | next=>exact wpAny_execs_nil q
 | ret v=>exact q
 | brk=>exact q
 | cont=>exact q
theorem Inv.quiet {pins:List (Addr × Obj)}{σ:St}{H:Hp}{s:Shared} (I:Inv X pins σ H s):interactive X.env=false:=by simp [interactive,I.ok.kind]
noncomputable def jr (te:TE):TS:=fun D σ H=>te σ H fun _ H1=>D.nx σ H1
theorem jP (he:PE X e te) (hs:swapsWith e none pos.line X.env=pure false:=by rfl):PS X (.Expr e pos) (jr te):=by
 intro pins s σ H D I h
 exact wpAny_Expr_any (aF (he pins s σ H _ I h) fun v s1 ⟨x,H1,I1,r1,q1⟩=>⟨σ,H1,I1,q1⟩) I.quiet hs
noncomputable def bI (te:TE):TS:=fun D σ H=>te σ H D.rt
theorem bO (he:PE X e te):PS X (.Return (some e) pos) (bI te):=by
 intro pins s σ H D I h
 exact wpAny_Return_some (aF (he pins s σ H _ I h) fun v s1 ⟨x,H1,I1,r1,q1⟩=>⟨x,σ,H1,I1,r1,q1⟩)
noncomputable def en (c:TT) (t u:TS):TS:=fun D σ H=>c σ H fun b H1=>if b=true then t D σ H1 else u D σ H1
theorem eY {c:Expr}{a b:List Stmt}{tc:TT} (hc:PT X c tc) (ha:iu X a t) (hb:iu X b u):PS X (.If c a b pos) (en tc t u):=by
 intro pins s σ H D I h
 refine wpAny_If (aF (hc pins s σ H _ I h) fun d s1 ⟨H1,I1,q1⟩=>?_)
 cases d with
 | true=>exact ha pins s1 σ H1 D I1 q1
 | false=>exact hb pins s1 σ H1 D I1 q1
end
noncomputable abbrev TG:=V->St->Hp->(St->Hp->Prop)->Prop
noncomputable abbrev qA:=List V->St->Hp->(St->Hp->Prop)->Prop
noncomputable def PG (X:Cx) (target:Expr) (t:TG):Prop :=
 ∀ (pins:List (Addr × Obj)) (s:Shared) (σ:St) (H:Hp) (v:V) (u:Value) (Q:St->Hp->Prop),Inv X pins σ H s->aH v u->t v σ H Q ->
  wpAny (model X.prog X.w) X.A (assign target X.env u) (fun _ s'=>∃ σ' H',Inv X pins σ' H' s'/\Q σ' H') X.xe s
noncomputable def xk (X:Cx) (ts:List Expr) (t:qA):Prop :=
 ∀ (pins:List (Addr × Obj)) (s:Shared) (σ:St) (H:Hp) (vs:List V) (us:List Value) (Q:St->Hp->Prop),Inv X pins σ H s->Vals vs us->t vs σ H Q ->
  wpAny (model X.prog X.w) X.A (assignInOrder ((assignEach ts X.env).map (·.2)) us) (fun _ s'=>∃ σ' H',Inv X pins σ' H' s'/\Q σ' H') X.xe s
noncomputable abbrev A5:=V->V->V->Hp->(Hp->Prop)->Prop
noncomputable def Ez (X:Cx) (t:A5):Prop :=
 ∀ (pins:List (Addr × Obj)) (s:Shared) (σ:St) (H:Hp) (o i v:V) (ov iv u:Value) (Q:Hp->Prop),Inv X pins σ H s->aH o ov->aH i iv->aH v u->t o i v H Q ->
  wpAny (model X.prog X.w) X.A (setItem ov iv u) (fun _ s'=>∃ H',Inv X pins σ H' s'/\Q H') X.xe s
noncomputable abbrev QY:=V->V->Hp->VK->Prop
noncomputable def QM (X:Cx) (op:Operator) (t:QY):Prop :=
 ∀ (pins:List (Addr × Obj)) (s:Shared) (σ:St) (H:Hp) (x y:V) (v u:Value) (Q:VK),Inv X pins σ H s->aH x v->aH y u->t x y H Q ->
  wpAny (model X.prog X.w) X.A (inplaceOp op v u) (EP X pins σ Q) X.xe s
section
variable {X:Cx}{pos:Pos}
noncomputable def au (i:Nat):TG:=fun v σ H Q=>Q (σ.set i (some v)) H
theorem aY {i:Nat}{x:Str} (hN:X.N.Nodup) (hi:X.N[i]? = some x) (hx:Loc X.env.scope x) (hf:X.fn x=true\/X.env.scope.names.lookup x=some .local:=by first | exact .inl rfl | exact .inr rfl | assumption):PG X (.Name x pos) (au i):=by
 intro pins s σ H v u Q I r h
 exact wpAny_assign_Name (Jx I hN hi hx r (fun s' I'=>⟨_,H,I',h⟩) hf)
noncomputable def ik:qA:=fun vs σ H Q=>vs=[]/\Q σ H
noncomputable def cG (t:TG) (u:qA):qA:=fun vs σ H Q=>∃ v r,vs=v :: r/\t v σ H fun σ' H'=>u r σ' H' Q
theorem jv:xk X [] ik:=by
 intro pins s σ H vs us Q I r h
 obtain ⟨e,h⟩:=h
 subst e
 cases r
 exact assignInOrder_nil ⟨σ,H,I,h⟩
theorem dm {e:Expr}{es:List Expr}{t:TG}{u:qA} (h1:PG X e t) (h2:xk X es u)
  (hs:(assignEach (e :: es) X.env).map (·.2)=assign e X.env :: (assignEach es X.env).map (·.2):=by rfl):xk X (e :: es) (cG t u):=by
 intro pins s σ H vs us Q I r h
 obtain ⟨v,vr,e1,h⟩:=h
 subst e1
 cases r with
 | cons r rr =>
  rw [hs]
  refine assignInOrder_cons (aF (h1 pins s σ H _ _ _ I r h) fun _ s1 ⟨σ1,H1,I1,q1⟩=>?_)
  exact h2 pins s1 σ1 H1 _ _ Q I1 rr q1
noncomputable def iw (K:ZoW) (n:Nat) (t:qA):TG:=fun v σ H Q=>∃ a xs,v=.ref a/\bX K H a xs/\xs.length=n/\t xs σ H Q
theorem jx {es:List Expr}{k:Nat}{t:qA}{n:Nat} (hc:X.calm=true) (h:xk X es t)
  (hn:(assignEach es X.env).length=n:=by rfl) (ju:(assignEach es X.env).findIdx? (·.1)=none:=by rfl):PG X (.Tuple es k pos) (iw X.K n t):=by
 intro pins s σ H v u Q I r hw
 obtain ⟨a,xs,e1,hq,hl,hw⟩:=hw
 subst e1
 cases r
 obtain ⟨its,rv,ht,hz⟩:=I.tuple hq
 refine assign_Tuple_tuple (I.ok.hd hc) ht (by simp [hn,<- hl,rv.length]) ju fun h' hx=>?_
 have I1:Inv X pins σ H { s with heap:=h' }:=I.kept (t':=s.toks) fun b o e=>hx b o (ZqD (Heap.lt_size e)) e
 exact h pins _ σ H xs _ Q I1 (by simpa using rv) hw
noncomputable def bo (te:TE) (g:TG):TS:=fun D σ H=>te σ H fun x H1=>g x σ H1 D.nx
theorem nG {tg e:Expr}{te:TE}{g:TG} (he:PE X e te) (hg:PG X tg g) (hs:swapsWithSole [tg] e pos.line X.env=pure false:=by rfl) (hw:swappedStores [tg] e X.env=pure none:=by rfl)
  (h1:(assignEach [tg] X.env).map (·.2)=[assign tg X.env]:=by rfl):PS X (.Assign [tg] e pos) (bo te g):=by
 intro pins s σ H D I h
 refine wpAny_Assign_stores (aF (he pins s σ H _ I h) fun v s1 ⟨x,H1,I1,r1,q1⟩=>?_) hs hw
 rw [h1]
 exact aF (hg pins s1 σ H1 x v _ I1 r1 q1) fun _ s2 q=>q
theorem cu {i:Nat}{x:Str}{e:Expr}{te:TE}{pos':Pos} (hN:X.N.Nodup) (hi:X.N[i]? = some x) (hx:Loc X.env.scope x) (he:PE X e te) (hs:swapsWith e (some (.Name x pos')) pos.line X.env=pure false:=by rfl) (hf:X.fn x=true\/X.env.scope.names.lookup x=some .local:=by first | exact .inl rfl | exact .inr rfl | assumption) :
  PS X (.Assign [.Name x pos'] e pos) (bo te (au i)):=by
 intro pins s σ H D I h
 refine wpAny_Assign_Name (aF (he pins s σ H _ I h) fun v s1 ⟨y,H1,I1,r1,q1⟩=>?_) hs
 exact Jx I1 hN hi hx r1 (fun s2 I2=>⟨_,H1,I2,q1⟩) hf
end
section
variable {X:Cx}{pos:Pos}
end
structure It where
 go:Nat->Hp->Prop
 g8:Nat->Hp->V->Hp->Prop
 stop:Nat->Hp->Prop
noncomputable def gS (X:Cx) (pins:List (Addr × Obj)) (H:Hp) (b:Addr):Prop :=
 H b=none/\b≠X.env.locals/\b ∉ X.fs/\(b∈X.ex\/X.s₀.heap.objs.size<=b)/\(∀ x c,X.env.cells.lookup x=some c->c≠b)/\∀ p∈X.pn ++ pins,p.1≠b
theorem Inv.gN {X:Cx}{pins:List (Addr × Obj)}{σ:St}{H H':Hp}{s:Shared}{b:Addr} (I:Inv X pins σ H s) (hb:s.heap.objs.size<=b) (hn:H' b=none):gS X pins H' b:=by
 refine ⟨hn,ZqJ (ZqF I.lt hb),I.CI hb,.inr (ZqE I.sz hb),fun x c e z=>?_,fun p hp z=>?_⟩
 ·obtain ⟨v,q⟩:=I.cell x c e
  exact absurd (ZqF q.lt (by rw [z];exact hb)) (ZqK _)
 ·exact absurd (ZqF (Heap.lt_size (I.pin p hp).1) (by rw [z];exact hb)) (ZqK _)
structure Turn (P:Program) (w:World) (K:ZoW) (tg:Expr) (J:It) (fp:List Addr) (it:Addr) (tn:Nat->Heap->Prop):Prop where
 mem:it∈fp
 obj:∀ i h,tn i h->∀ b∈fp,∃ o,h.get? b=some o/\∀ v,o.data≠.cell v
 keep:∀ i h h',tn i h->(∀ b∈fp,∀ o,h.get? b=some o->h'.get? b=some o)->tn i h'
 item:∀ (X:Cx),X.prog=P->X.w=w->X.K=K->X.calm=true->∀ (i:Nat) (pins:List (Addr × Obj)) (s:Shared) (σ:St) (H:Hp) (E:Value->Shared->Prop),Inv X pins σ H s->(∀ b∈fp,gS X pins H b)->tn i s.heap->J.go i H ->
  wpAny (model P w) X.A (pyNext (.ref it)) (fun r s1=>∃ u,r=some u /\
   wpAny (model P w) X.A (letOwnedTupleGo tg (.ref it) u) (fun _ s2=>∃ x H',Inv X pins σ H' s2/\aH x u/\J.g8 i H x H'/\tn (i+1) s2.heap/\∀ b∈fp,H' b=none) E s1) E s
 done:∀ (X:Cx),X.prog=P->X.w=w->X.K=K->X.calm=true->∀ (i:Nat) (pins:List (Addr × Obj)) (s:Shared) (σ:St) (H:Hp) (E:Value->Shared->Prop),Inv X pins σ H s->(∀ b∈fp,gS X pins H b)->tn i s.heap->J.stop i H ->
  wpAny (model P w) X.A (pyNext (.ref it)) (fun r s1=>r=none/\Inv X pins σ H s1) E s
 self:∀ (A:Around) (i:Nat) (s:Shared) (Q:Value->Shared->Prop) (E:Value->Shared->Prop),tn i s.heap->Q (.ref it) s->wpAny (model P w) A (pyIter (.ref it)) Q E s
noncomputable abbrev TI:=St->Hp->(It->Hp->Prop)->Prop
noncomputable def z5 (X:Cx) (pins:List (Addr × Obj)) (σ:St) (tg:Expr) (R:It->Hp->Prop) (qw:Value) (s2:Shared):Prop :=
 ∃ (it:Addr) (fp:List Addr) (tn:Nat->Heap->Prop) (J:It) (H':Hp),qw=.ref it/\Inv X pins σ H' s2/\Turn X.prog X.w X.K tg J fp it tn/\tn 0 s2.heap/\(∀ b∈fp,gS X pins H' b)/\R J H'
noncomputable def PI (X:Cx) (tg iter:Expr) (wi:TI):Prop :=
 ∀ (pins:List (Addr × Obj)) (s:Shared) (σ:St) (H:Hp) (R:It->Hp->Prop),Inv X pins σ H s->wi σ H R ->
  wpAny (model X.prog X.w) X.A (eval iter X.env) (fun v s1=>wpAny (model X.prog X.w) X.A (pyIter v) (z5 X pins σ tg R) X.xe s1) X.xe s
theorem yW {M:Model}{A:Around}{E:Value->Shared->Prop}{s:Shared}{tg:Expr}{it:Addr}{u:Value}{o:Obj}{n:String}{vs:Array Value}{Q:Unit->Shared->Prop} (ho:s.heap.get? it=some o) (hc:o.cls=.type n) (hd:o.data=.fields vs)
    (hn:["enumerate","zip","dict_itemiterator","dict_reverseitemiterator","odict_iterator","itertools.zip_longest","itertools.pairwise"].contains n=false) (hQ:Q () s):wpAny M A (letOwnedTupleGo tg (.ref it) u) Q E s:=by
  unfold letOwnedTupleGo
  cases tg <;> first
    | exact wpAny_pure hQ
    | (cases u <;> first
        | exact wpAny_pure hQ
        | (refine wpAny_bind (wpAny_load ho ?_)
           rw [hc,hd]
           show wpAny M A (if (["enumerate","zip","dict_itemiterator","dict_reverseitemiterator","odict_iterator","itertools.zip_longest","itertools.pairwise"].contains n && vs[0]? == some (rawInt _))=true then _ else _) Q E s
           rw [if_neg (by intro h;rw [hn,Bool.false_and] at h;cases h)]
           exact wpAny_pure hQ))
noncomputable def iJ (K:ZoW) (a:Addr):It :=
 ⟨fun i H=>∃ xs x,aI K H a xs/\xs[i]? = some x,fun i H x H'=>H'=H/\∀ xs,aI K H a xs->xs[i]? = some x,fun i H=>∃ xs,aI K H a xs/\xs.length<=i⟩
noncomputable def jX (K:ZoW) (a:Addr):It :=
 ⟨fun i H=>∃ xs x,bX K H a xs/\xs[i]? = some x,fun i H x H'=>H'=H/\∀ xs,bX K H a xs->xs[i]? = some x,fun i H=>∃ xs,bX K H a xs/\xs.length<=i⟩
noncomputable def ie (lo:Int) (n:Nat):It:=⟨fun i _=>i<n,fun i H x H'=>H'=H/\x=.int (lo+i),fun i _=>n<=i⟩
theorem Lu {P:Program}{w:World}{K:ZoW}{tg:Expr} (a it:Addr):Turn P w K tg (iJ K a) [it] it (fun i h=>h.IsListIter it a i) where
 mem:=by simp
 obj:=fun i h st b hb=>by
  have e:b=it:=by simpa using hb
  subst e
  obtain ⟨o,e,c,d⟩:=st
  exact ⟨o,e,fun v z=>by rw [d] at z;cases z⟩
 keep:=fun i h h' st k=>st.at fun o e=>k it (by simp) o e
 item:=by
  intro X hP hw hK hc i pins s σ H E I hf st hg
  subst hP hw hK
  obtain ⟨xs,x,hq,hx⟩:=hg
  obtain ⟨its,rv,p,hz⟩:=I.list hq
  obtain ⟨u,hu,ru⟩:=rv.get hx
  obtain ⟨f0,f1,f2,f3,f4,f5⟩:=hf it (by simp)
  refine wpAny_pyNext_list_item st p.isList (x:=u) (by simpa using hu) fun h' st' sb=>?_
  have I1:Inv X pins σ H { s with heap:=h' }:=I.turned (t':=s.toks) (fun b o hb e=>(sb.2 b hb).trans e) f0 f1 f3 f4 f5
  obtain ⟨o,e,c,d⟩:=id st'
  exact ⟨u,rfl,yW (s:={ s with heap:=h' }) e c d (by decide) ⟨x,H,I1,ru,⟨rfl,fun ys hy=>by rw [I.fU hy hq];exact hx⟩,st',fun b hb=>(hf b hb).1⟩⟩
 done:=by
  intro X hP hw hK hc i pins s σ H E I hf st hg
  subst hP hw hK
  obtain ⟨xs,hq,hx⟩:=hg
  obtain ⟨its,rv,p,hz⟩:=I.list hq
  obtain ⟨f0,f1,f2,f3,f4,f5⟩:=hf it (by simp)
  have hl:=rv.length
  exact wpAny_pyNext_list_end (I.ok.hd hc) st p.isList (by simp;omega) fun h' eb=>⟨rfl,I.turned (t':=s.toks) (fun b o hb e=>eb b o hb e) f0 f1 f3 f4 f5⟩
 self:=fun _ _ _ _ _ st h=>wpAny_pyIter_listiter st h
theorem JY {P:Program}{w:World}{K:ZoW}{tg:Expr} (a it:Addr):Turn P w K tg (jX K a) [it] it (fun i h=>h.IsTupleIter it a i) where
 mem:=by simp
 obj:=fun i h st b hb=>by
  have e:b=it:=by simpa using hb
  subst e
  obtain ⟨o,e,c,d⟩:=st
  exact ⟨o,e,fun v z=>by rw [d] at z;cases z⟩
 keep:=fun i h h' st k=>st.at fun o e=>k it (by simp) o e
 item:=by
  intro X hP hw hK hc i pins s σ H E I hf st hg
  subst hP hw hK
  obtain ⟨xs,x,hq,hx⟩:=hg
  obtain ⟨its,rv,p,hz⟩:=I.tuple hq
  obtain ⟨u,hu,ru⟩:=rv.get hx
  obtain ⟨f0,f1,f2,f3,f4,f5⟩:=hf it (by simp)
  refine wpAny_pyNext_tuple_item st (show s.heap.IsTuple a its.toArray from p) (x:=u) (by simpa using hu) fun h' st' sb=>?_
  have I1:Inv X pins σ H { s with heap:=h' }:=I.turned (t':=s.toks) (fun b o hb e=>(sb.2 b hb).trans e) f0 f1 f3 f4 f5
  obtain ⟨o,e,c,d⟩:=id st'
  exact ⟨u,rfl,yW (s:={ s with heap:=h' }) e c d (by decide) ⟨x,H,I1,ru,⟨rfl,fun ys hy=>by rw [I.jd hy hq];exact hx⟩,st',fun b hb=>(hf b hb).1⟩⟩
 done:=by
  intro X hP hw hK hc i pins s σ H E I hf st hg
  subst hP hw hK
  obtain ⟨xs,hq,hx⟩:=hg
  obtain ⟨its,rv,p,hz⟩:=I.tuple hq
  obtain ⟨f0,f1,f2,f3,f4,f5⟩:=hf it (by simp)
  have hl:=rv.length
  exact wpAny_pyNext_tuple_end (I.ok.hd hc) st (show s.heap.IsTuple a its.toArray from p) (by simp;omega) fun h' eb=>⟨rfl,I.turned (t':=s.toks) (fun b o hb e=>eb b o hb e) f0 f1 f3 f4 f5⟩
 self:=fun _ _ _ _ _ st h=>wpAny_pyIter_tupleiter st h
theorem Nk {P:Program}{w:World}{K:ZoW}{tg:Expr} (it:Addr) (lo:Int) (n:Nat):Turn P w K tg (ie lo n) [it] it (fun i h=>IsRangeIter h it (lo+(i:Nat) * 1) ((n:Int) - (i:Nat)) 1) where
 mem:=by simp
 obj:=fun i h st b hb=>by
  have e:b=it:=by simpa using hb
  subst e
  exact ⟨_,st,fun v z=>by
   have z':Data.fields _=Data.cell v:=z
   cases z'⟩
 keep:=fun i h h' st k=>k it (by simp) _ st
 item:=by
  intro X hP hw hK hc i pins s σ H E I hf st hg
  subst hP hw hK
  obtain ⟨f0,f1,f2,f3,f4,f5⟩:=hf it (by simp)
  have W:=Walks.range (prog:=X.prog) (w:=X.w) (I.ok.hd hc) it lo 1 n
  refine W.item i s _ _ hg st fun v h' tk hv st' kk=>?_
  obtain ⟨t,rfl⟩:=hv
  have I1:Inv X pins σ H { s with heap:=h',toks:=tk }:=I.turned (fun b o hb e=>kk b o (by simpa using hb) e) f0 f1 f3 f4 f5
  refine ⟨_,rfl,yW (s:={ s with heap:=h',toks:=tk }) (n:="range_iterator") st' rfl rfl (by decide) ⟨.int (lo+i),H,I1,⟨t,?_⟩,⟨rfl,rfl⟩,st',fun b hb=>(hf b hb).1⟩⟩
  rw [Int.mul_one]
 done:=by
  intro X hP hw hK hc i pins s σ H E I hf st hg
  subst hP hw hK
  obtain ⟨f0,f1,f2,f3,f4,f5⟩:=hf it (by simp)
  exact wpAny_pyNext_range_end (I.ok.hd hc) st (by have:n<=i:=hg;omega) fun h' eb=>⟨rfl,I.turned (t':=s.toks) (fun b o hb e=>eb b o hb e) f0 f1 f3 f4 f5⟩
 self:=fun _ _ _ _ _ st h=>wpAny_pyIter_rangeiter st h
section
variable {X:Cx}{tg:Expr}
noncomputable def fk (K:ZoW) (tl:TE):TI:=fun σ H R=>tl σ H fun x H1=>∃ a,x=.ref a/\(∃ xs,aI K H1 a xs)/\R (iJ K a) H1
noncomputable def lx (K:ZoW) (tl:TE):TI:=fun σ H R=>tl σ H fun x H1=>∃ a,x=.ref a/\(∃ xs,bX K H1 a xs)/\R (jX K a) H1
theorem gI {l:Expr}{tl:TE} (hl:PE X l tl):PI X tg l (fk X.K tl):=by
 intro pins s σ H R I h
 refine aF (hl pins s σ H _ I h) fun v s1 ⟨x,H1,I1,r1,q1⟩=>?_
 obtain ⟨a,e,⟨xs,hq⟩,q⟩:=q1
 subst e
 cases r1
 obtain ⟨its,rv,p,hz⟩:=I1.list hq
 refine wpAny_pyIter_list p.isList ?_
 refine ⟨s1.heap.objs.size,[s1.heap.objs.size],_,_,H1,rfl,I1.kept (t':=s1.toks) fun b o e=>Heap.get?_push_of_some _ e,Lu a _,⟨_,Heap.get?_push_size _ rfl,rfl,rfl⟩,fun b hb=>?_,q⟩
 have e:b=s1.heap.objs.size:=by simpa using hb
 subst e
 exact I1.gN (ZqC _) (I1.aw.fresh (ZqC _))
theorem yX {l:Expr}{tl:TE} (hl:PE X l tl):PI X tg l (lx X.K tl):=by
 intro pins s σ H R I h
 refine aF (hl pins s σ H _ I h) fun v s1 ⟨x,H1,I1,r1,q1⟩=>?_
 obtain ⟨a,e,⟨xs,hq⟩,q⟩:=q1
 subst e
 cases r1
 obtain ⟨its,rv,p,hz⟩:=I1.tuple hq
 refine wpAny_pyIter_tuple (show s1.heap.IsTuple a its.toArray from p) ?_
 refine ⟨s1.heap.objs.size,[s1.heap.objs.size],_,_,H1,rfl,I1.kept (t':=s1.toks) fun b o e=>Heap.get?_push_of_some _ e,JY a _,⟨_,Heap.get?_push_size _ rfl,rfl,rfl⟩,fun b hb=>?_,q⟩
 have e:b=s1.heap.objs.size:=by simpa using hb
 subst e
 exact I1.gN (ZqC _) (I1.aw.fresh (ZqC _))
theorem GA {pins:List (Addr × Obj)}{σ:St}{H:Hp}{s:Shared}{R:It->Hp->Prop}{E:Value->Shared->Prop}{lo hi:Int}{t u v:Tok}{tk:Nat} (I:Inv X pins σ H s) (h1 : -(2 ^ 62)<=lo) (h2:lo<2 ^ 62) (h3 : -(2 ^ 62)<=hi) (h4:hi<2 ^ 62)
  (q:R (ie lo (hi - lo).toNat) H):wpAny (model X.prog X.w) X.A (pyIter (.ref s.heap.objs.size)) (z5 X pins σ tg R) E { s with heap:=s.heap.push { cls:=.type "range",data:=.fields #[.int lo t,.int hi u,.int 1 v] },toks:=tk }:=by
 refine wpAny_pyIter_range (IsRange.new ..) (small_one h1 h2 h3 h4) ?_
 have I1:Inv X pins σ H { s with heap:=s.heap.push { cls:=.type "range",data:=.fields #[.int lo t,.int hi u,.int 1 v] },toks:=tk }:=I.kept fun b o e=>Heap.get?_push_of_some _ e
 refine ⟨(s.heap.push { cls:=.type "range",data:=.fields #[.int lo t,.int hi u,.int 1 v] }).objs.size,[(s.heap.push { cls:=.type "range",data:=.fields #[.int lo t,.int hi u,.int 1 v] }).objs.size],_,_,H,rfl,
  I1.kept (t':=tk) fun b o e=>Heap.get?_push_of_some _ e,Nk _ lo (hi - lo).toNat,?_,fun b hb=>?_,q⟩
 ·have e1:lo+((0:Nat):Int) * 1=lo:=by simp
  have e2:(((hi - lo).toNat:Nat):Int) - ((0:Nat):Int)=Builtin.Range.rangeSize lo hi 1:=by rw [rangeSize_one];split <;> omega
  show IsRangeIter _ _ (lo+((0:Nat):Int) * 1) ((((hi - lo).toNat:Nat):Int) - ((0:Nat):Int)) 1
  rw [e1,e2]
  exact Heap.get?_push_size _ rfl
 ·have e:b=(s.heap.push { cls:=.type "range",data:=.fields #[.int lo t,.int hi u,.int 1 v] }).objs.size:=by simpa using hb
  subst e
  exact I1.gN (ZqC _) (I1.aw.fresh (ZqC _))
noncomputable def hX (ta:TA):TI:=fun σ H R=>ta σ H fun vs H1=>∃ j:Int,vs=[.int j] /\ -(2 ^ 62)<=j/\j<2 ^ 62/\R (ie 0 j.toNat) H1
noncomputable def sC (ta:TA):TI:=fun σ H R=>ta σ H fun vs H1=>∃ i j:Int,vs=[.int i,.int j]/\(-(2 ^ 62)<=i/\i<2 ^ 62 /\ -(2 ^ 62)<=j/\j<2 ^ 62)/\R (ie i (j - i).toNat) H1
theorem jJ {a:Expr}{ta:TA}{p pos:Pos} (hg:Gl X "range") (hm:X.mg "range" = none) (ha:PA X [a] ta) (hs:starEach [a] X.env=[(false,eval a X.env)]:=by rfl):PI X tg (.Call (.Name "range" p) [a] [] pos) (hX ta):=by
 intro pins s σ H R I h
 refine Call_ (j9 I hg hm boot_range (PyProof.Rows.callWith_type1 (aF (ha pos pins s σ H _ I h) fun us s1 ⟨vs,H1,I1,r1,q1⟩=>?_) hs rfl))
 obtain ⟨j,e,q1,q2,q⟩:=q1
 subst e
 cases r1 with
 | cons r rr =>
  cases rr
  obtain ⟨t,rfl⟩:=r
  exact call_range_1 (GA I1 (by omega) (by omega) q1 q2 (by simpa using q))
theorem HZ {a b:Expr}{ta:TA}{p pos:Pos} (hg:Gl X "range") (hm:X.mg "range" = none) (ha:PA X [a,b] ta) (hs:starEach [a,b] X.env=[(false,eval a X.env),(false,eval b X.env)]:=by rfl) (jN:starEach [b] X.env=[(false,eval b X.env)]:=by rfl) :
  PI X tg (.Call (.Name "range" p) [a,b] [] pos) (sC ta):=by
 intro pins s σ H R I h
 refine Call_ (j9 I hg hm boot_range (PyProof.Rows.callWith_type1 (aF (ha pos pins s σ H _ I h) fun us s1 ⟨vs,H1,I1,r1,q1⟩=>?_) (by rw [hs,jN]) (by rw [jN];rfl)))
 obtain ⟨i,j,e,⟨q1,q2,q3,q4⟩,q⟩:=q1
 subst e
 cases r1 with
 | cons r rr =>
  cases rr with
  | cons r' rr =>
   cases rr
   obtain ⟨t,rfl⟩:=r
   obtain ⟨t',rfl⟩:=r'
   exact call_range_2 (GA I1 q1 q2 q3 q4 q)
noncomputable def ed (wi:TI) (g:TG) (tb:TS):TS:=fun D σ H=>wi σ H fun J H1=>∃ W:Nat->Nat->St->Hp->Prop,(∃ m,W 0 m σ H1)/\∀ i m σ H,W i m σ H ->
 (J.stop i H/\D.nx σ H)\/(J.go i H/\∃ N:St->Hp->Prop,(∀ σ' H',N σ' H'->∃ m',m'<m/\W (i+1) m' σ' H')/\∀ x H',J.g8 i H x H'->g x σ H' fun σ2 H2=>tb { D with nx:=N,ct:=N,bk:=D.nx } σ2 H2)
noncomputable def uB (fp:List Addr) (h:Heap):List (Addr × Obj):=fp.filterMap fun b=>(h.get? b).map fun o=>(b,o)
theorem zX {fp:List Addr}{h:Heap}{b:Addr}{o:Obj} (hb:b∈fp) (e:h.get? b=some o):(b,o)∈uB fp h:=List.mem_filterMap.mpr ⟨b,hb,by rw [e];rfl⟩
theorem NN {fp:List Addr}{h:Heap}{p:Addr × Obj} (hp:p∈uB fp h):p.1∈fp/\h.get? p.1=some p.2:=by
 obtain ⟨b,hb,e⟩:=List.mem_filterMap.mp hp
 cases q:h.get? b with
 | none=>rw [q] at e;cases e
 | some o =>
  rw [q] at e
  have e':(b,o)=p:=Option.some.inj e
  subst e'
  exact ⟨hb,q⟩
theorem Inv.pinned {pins:List (Addr × Obj)}{σ:St}{H:Hp}{s:Shared}{fp:List Addr} (I:Inv X pins σ H s) (hf:∀ b∈fp,gS X pins H b) (ho:∀ b∈fp,∃ o,s.heap.get? b=some o/\∀ v,o.data≠.cell v):Inv X (pins ++ uB fp s.heap) σ H s :=
 I.iM fun p hp=>(ZpM.mp hp).elim (fun z=>I.pin p (ZpR _ z)) fun z=>by
  obtain ⟨hb,e⟩:=NN z
  obtain ⟨f0,f1,f2,_⟩:=hf p.1 hb
  obtain ⟨o,e',d⟩:=ho p.1 hb
  rw [e] at e';cases e'
  exact ⟨e,f0,f1,f2,d⟩
theorem Inv.dQ {pins pl:List (Addr × Obj)}{σ:St}{H:Hp}{s:Shared} (I:Inv X (pins ++ pl) σ H s):Inv X pins σ H s:=I.iM fun p hp=>I.pin p (ZpR _ (Zqk _ hp))
theorem gQ {iter:Expr}{body:List Stmt}{wi:TI}{g:TG}{tb:TS}{pos:Pos} (hp:PassesOwn (model X.prog X.w) X.A X.env X.xe) (hc:X.calm=true) (hi:PI X tg iter wi) (hg:PG X tg g) (hb:iu X body tb)
  (hs:∀ x,foldedSetIterable iter X.env x=pure x:=by intro _;rfl):PS X (.For tg iter body [] pos) (ed wi g tb):=by
 intro pins s σ H D I h
 refine wpAny_For (aF (hi pins s σ H _ I h) fun v s1 h1=>aF h1 fun qw s2 h2=>?_) hs
 obtain ⟨it,fp,tn,J,H2,e,I2,T,st2,f2,W,⟨m0,w0⟩,turn⟩:=h2
 subst e
 -- what stays true of lJ iterator's objects through lJ loop
 have stat:∀ {H':Hp},(∀ b∈fp,H' b=none)->∀ b∈fp,gS X pins H' b:=fun hn b hb=>⟨hn b hb,(f2 b hb).2⟩
 refine codeAny_forLoop_any (fun n s'=>∃ i σ' H',Inv X pins σ' H' s'/\tn i s'.heap/\(∀ b∈fp,H' b=none)/\W i n σ' H') ?_ m0 ⟨0,σ,H2,I2,st2,fun b hb=>(f2 b hb).1,w0⟩
 rintro n s3 ⟨i,σ3,H3,I3,st3,fr3,w3⟩
 rcases turn i n σ3 H3 w3 with ⟨stop,qn⟩ | ⟨go,N,hN,step⟩
 ·refine wpAny_passesOwn hp (aF (T.done X rfl rfl rfl hc i pins s3 σ3 H3 X.xe I3 (stat fr3) st3 stop) fun r s4 ⟨hr,I4⟩=>?_)
  subst hr
  exact wpAny_execs_nil ⟨σ3,H3,I4,qn⟩
 ·refine wpAny_passesOwn hp (aF (T.item X rfl rfl rfl hc i pins s3 σ3 H3 X.xe I3 (stat fr3) st3 go) fun r s4 ⟨u,hr,h4⟩=>?_)
  subst hr
  refine wpAny_passesOwn hp (aF h4 fun _ s5 ⟨x,H5,I5,r5,y5,st5,fr5⟩=>?_)
  have I5':=I5.pinned (stat fr5) (T.obj _ _ st5)
  refine wpAny_passesOwn hp (aF (hg _ s5 σ3 H5 x u _ I5' r5 (step x H5 y5)) fun _ s6 ⟨σ6,H6,I6,q6⟩=>?_)
  refine wpAny_passesOwn hp (aF (hb _ s6 σ6 H6 _ I6 q6) fun f s7 q7=>?_)
  have again:∀ {σ7:St}{H7:Hp},Inv X (pins ++ uB fp s5.heap) σ7 H7 s7->N σ7 H7->∃ m,m<n/\∃ i σ' H',Inv X pins σ' H' s7/\tn i s7.heap/\(∀ b∈fp,H' b=none)/\W i m σ' H':=fun {σ7 H7} I7 n7=>by
   obtain ⟨m',hm,w7⟩:=hN σ7 H7 n7
   refine ⟨m',hm,i+1,σ7,H7,I7.dQ,T.keep _ _ _ st5 fun b hb o e=>(I7.pin (b,o) (ZpR _ (ZpR _ (zX hb e)))).1,fun b hb=>?_,w7⟩
   obtain ⟨o,e,d⟩:=T.obj _ _ st5 b hb
   exact (I7.pin (b,o) (ZpR _ (ZpR _ (zX hb e)))).2.1
  cases f with
  | next=>obtain ⟨σ7,H7,I7,n7⟩:=q7;exact again I7 n7
  | cont=>obtain ⟨σ7,H7,I7,n7⟩:=q7;exact again I7 n7
  | brk=>obtain ⟨σ7,H7,I7,q7⟩:=q7;exact ⟨σ7,H7,I7.dQ,q7⟩
  | ret v=>obtain ⟨x7,σ7,H7,I7,r7,q7⟩:=q7;exact ⟨x7,σ7,H7,I7.dQ,r7,q7⟩
end
theorem PV {K:ZoW}{a:Addr}{xs:List V}{g:TG}{tb:TS}{D:Ends}{σ:St}{H:Hp} (Pv:Nat->St->Hp->Prop) (h0:Pv 0 σ H) (hl:∀ i σ H,i<=xs.length->Pv i σ H->aI K H a xs)
  (hs:∀ i x σ H,xs[i]? = some x->Pv i σ H->g x σ H fun σ2 H2=>tb { D with nx:=Pv (i+1),ct:=Pv (i+1),bk:=D.nx } σ2 H2) (hd:∀ σ H,Pv xs.length σ H->D.nx σ H) :
  ∃ W:Nat->Nat->St->Hp->Prop,(∃ m,W 0 m σ H)/\∀ i m σ H,W i m σ H ->
   ((iJ K a).stop i H/\D.nx σ H)\/((iJ K a).go i H/\∃ N:St->Hp->Prop,(∀ σ' H',N σ' H'->∃ m',m'<m/\W (i+1) m' σ' H')/\∀ x H',(iJ K a).g8 i H x H'->g x σ H' fun σ2 H2=>tb { D with nx:=N,ct:=N,bk:=D.nx } σ2 H2):=by
 refine ⟨fun i m σ H=>m=xs.length - i/\i<=xs.length/\Pv i σ H,⟨xs.length,by simp,ZqH _,h0⟩,?_⟩
 rintro i m σ H ⟨rfl,hi,p⟩
 have q:=hl i σ H hi p
 by_cases bU:i<xs.length
 ·refine .inr ⟨⟨xs,xs[i],q,by simp [bU]⟩,Pv (i+1),fun σ' H' p'=>⟨xs.length - (i+1),by omega,rfl,bU,p'⟩,fun x H' y=>?_⟩
  obtain ⟨e,y⟩:=y
  subst e
  exact hs i x σ _ (y xs q) p
 ·have e:i=xs.length:=by omega
  subst e
  exact .inl ⟨⟨xs,q,ZqC _⟩,hd σ H p⟩
theorem O3 {K:ZoW}{a:Addr}{xs:List V}{g:TG}{tb:TS}{D:Ends}{σ:St}{H:Hp} (Pv:Nat->St->Hp->Prop) (h0:Pv 0 σ H) (hl:∀ i σ H,i<=xs.length->Pv i σ H->bX K H a xs)
  (hs:∀ i x σ H,xs[i]? = some x->Pv i σ H->g x σ H fun σ2 H2=>tb { D with nx:=Pv (i+1),ct:=Pv (i+1),bk:=D.nx } σ2 H2) (hd:∀ σ H,Pv xs.length σ H->D.nx σ H) :
  ∃ W:Nat->Nat->St->Hp->Prop,(∃ m,W 0 m σ H)/\∀ i m σ H,W i m σ H ->
   ((jX K a).stop i H/\D.nx σ H)\/((jX K a).go i H/\∃ N:St->Hp->Prop,(∀ σ' H',N σ' H'->∃ m',m'<m/\W (i+1) m' σ' H')/\∀ x H',(jX K a).g8 i H x H'->g x σ H' fun σ2 H2=>tb { D with nx:=N,ct:=N,bk:=D.nx } σ2 H2):=by
 refine ⟨fun i m σ H=>m=xs.length - i/\i<=xs.length/\Pv i σ H,⟨xs.length,by simp,ZqH _,h0⟩,?_⟩
 rintro i m σ H ⟨rfl,hi,p⟩
 have q:=hl i σ H hi p
 by_cases bU:i<xs.length
 ·refine .inr ⟨⟨xs,xs[i],q,by simp [bU]⟩,Pv (i+1),fun σ' H' p'=>⟨xs.length - (i+1),by omega,rfl,bU,p'⟩,fun x H' y=>?_⟩
  obtain ⟨e,y⟩:=y
  subst e
  exact hs i x σ _ (y xs q) p
 ·have e:i=xs.length:=by omega
  subst e
  exact .inl ⟨⟨xs,q,ZqC _⟩,hd σ H p⟩
theorem KS {lo:Int}{n:Nat}{g:TG}{tb:TS}{D:Ends}{σ:St}{H:Hp} (Pv:Nat->St->Hp->Prop) (h0:Pv 0 σ H)
  (hs:∀ i σ H,i<n->Pv i σ H->g (.int (lo+i)) σ H fun σ2 H2=>tb { D with nx:=Pv (i+1),ct:=Pv (i+1),bk:=D.nx } σ2 H2) (hd:∀ σ H,Pv n σ H->D.nx σ H) :
  ∃ W:Nat->Nat->St->Hp->Prop,(∃ m,W 0 m σ H)/\∀ i m σ H,W i m σ H ->
   ((ie lo n).stop i H/\D.nx σ H)\/((ie lo n).go i H/\∃ N:St->Hp->Prop,(∀ σ' H',N σ' H'->∃ m',m'<m/\W (i+1) m' σ' H')/\∀ x H',(ie lo n).g8 i H x H'->g x σ H' fun σ2 H2=>tb { D with nx:=N,ct:=N,bk:=D.nx } σ2 H2):=by
 refine ⟨fun i m σ H=>m=n - i/\i<=n/\Pv i σ H,⟨n,by simp,ZqH _,h0⟩,?_⟩
 rintro i m σ H ⟨rfl,hi,p⟩
 by_cases bU:i<n
 ·refine .inr ⟨bU,Pv (i+1),fun σ' H' p'=>⟨n - (i+1),by omega,rfl,bU,p'⟩,fun x H' y=>?_⟩
  obtain ⟨e,y⟩:=y
  subst e y
  exact hs i σ _ bU p
 ·have e:i=n:=by omega
  subst e
  exact .inl ⟨ZqC _,hd σ H p⟩
noncomputable abbrev R2:=V->V->Hp->VK->Prop
noncomputable def bj (X:Cx) (f:Value->Value->Sem Value) (r:R2):Prop :=
 ∀ (pins:List (Addr × Obj)) (s:Shared) (σ:St) (H:Hp) (x y:V) (v u:Value) (Q:VK),Inv X pins σ H s->aH x v->aH y u->r x y H Q ->
  wpAny (model X.prog X.w) X.A (f v u) (EP X pins σ Q) X.xe s
noncomputable def wC (X:Cx) (f:Value->Sem Value) (r:V->Hp->VK->Prop):Prop :=
 ∀ (pins:List (Addr × Obj)) (s:Shared) (σ:St) (H:Hp) (x:V) (v:Value) (Q:VK),Inv X pins σ H s->aH x v->r x H Q ->
  wpAny (model X.prog X.w) X.A (f v) (EP X pins σ Q) X.xe s
noncomputable def fD (X:Cx) (f:Value) (r:List V->Hp->VK->Prop):Prop :=
 ∀ (pins:List (Addr × Obj)) (s:Shared) (σ:St) (H:Hp) (xs:List V) (us:List Value) (Q:VK),Inv X pins σ H s->Vals xs us->r xs H Q ->
  wpAny (model X.prog X.w) X.A (call f us) (EP X pins σ Q) X.xe s
noncomputable def BH (X:Cx) (r:V->Hp->(Bool->Hp->Prop)->Prop):Prop :=
 ∀ (pins:List (Addr × Obj)) (s:Shared) (σ:St) (H:Hp) (x:V) (v:Value) (Q:Bool->Hp->Prop),Inv X pins σ H s->aH x v->r x H Q ->
  wpAny (model X.prog X.w) X.A (truthy v) (TP X pins σ Q) X.xe s
noncomputable def ah (r:R2) (ta tb:TE):TE:=fun σ H Q=>ta σ H fun x H1=>tb σ H1 fun y H2=>r x y H2 Q
noncomputable def jg (r:V->Hp->VK->Prop) (ta:TE):TE:=fun σ H Q=>ta σ H fun x H1=>r x H1 Q
noncomputable def rI (C:Int->Int->Prop) (g:Int->Int->V):R2:=fun x y H Q=>∃ i j,x=.int i/\y=.int j/\C i j/\Q (g i j) H
noncomputable def kf (g:Int->Int->V):R2:=fun x y H Q=>∃ i j,x=.int i/\y=.int j/\Q (g i j) H
noncomputable def rU (g:Int->V):V->Hp->VK->Prop:=fun x H Q=>∃ i,x=.int i/\Q (g i) H
section
variable {X:Cx}{a b c:Expr}{ta tb tc:TE}{pos:Pos}
theorem oR (ha:PE X a ta) (hb:PE X b tb) {pins:List (Addr × Obj)}{s:Shared}{σ:St}{H:Hp}{R:V->V->Hp->Prop} (I:Inv X pins σ H s)
  (h:ta σ H fun x H1=>tb σ H1 fun y H2=>R x y H2) {Q:Value->Shared->Prop}{f:Value->Value->Sem Value}
  (hf:∀ v u s2 x y H2,Inv X pins σ H2 s2->aH x v->aH y u->R x y H2->wpAny (model X.prog X.w) X.A (f v u) Q X.xe s2) :
  wpAny (model X.prog X.w) X.A (eval a X.env) (fun v s₁=>wpAny (model X.prog X.w) X.A (eval b X.env) (fun u s₂=>wpAny (model X.prog X.w) X.A (f v u) Q X.xe s₂) X.xe s₁) X.xe s:=by
 refine aF (ha pins s σ H _ I h) fun v s1 ⟨x,H1,I1,r1,q1⟩=>?_
 refine aF (hb pins s1 σ H1 _ I1 q1) fun u s2 ⟨y,H2,I2,r2,q2⟩=>?_
 exact hf v u s2 x y H2 I2 r1 r2 q2
theorem ax {op:Operator}{r:R2} (ho:bj X (binaryOp op) r) (ha:PE X a ta) (hb:PE X b tb):PE X (.BinOp a op b pos) (ah r ta tb):=by
 intro pins s σ H Q I h
 exact wpAny_BinOp (oR ha hb I h fun v u s2 x y H2 I2 rx ry q=>ho pins s2 σ H2 x y v u Q I2 rx ry q)
theorem jW {op:UnaryOp}{r:V->Hp->VK->Prop} (ho:wC X (unaryOp op) r) (ha:PE X a ta):PE X (.UnaryOp op a pos) (jg r ta):=by
 intro pins s σ H Q I h
 exact UnaryOp_ (aF (ha pins s σ H _ I h) fun v s1 ⟨x,H1,I1,r1,q1⟩=>ho pins s1 σ H1 x v Q I1 r1 q1)
theorem om {f:Value->Value->Sem Value}{C:Int->Int->Prop}{g:Int->Int->Int}
  (rule:∀ (i j:Int) (t u:Tok) (s:Shared) (Q:Value->Shared->Prop) (E:Value->Shared->Prop),C i j->Q (.int (g i j) s.toks) { s with toks:=s.toks+1 }->wpAny (model X.prog X.w) X.A (f (.int i t) (.int j u)) Q E s) :
  bj X f (rI C fun i j=>.int (g i j)):=by
 intro pins s σ H x y v u Q I rx ry h
 obtain ⟨i,j,rfl,rfl,hc,q⟩:=h
 obtain ⟨t,rfl⟩:=rx
 obtain ⟨t',rfl⟩:=ry
 exact rule i j t t' s _ _ hc ⟨.int (g i j),H,I.tok _,⟨_,rfl⟩,q⟩
theorem kh {f:Value->Value->Sem Value}{g:Int->Int->Int}
  (rule:∀ (i j:Int) (t u:Tok) (s:Shared) (Q:Value->Shared->Prop) (E:Value->Shared->Prop),Q (.int (g i j) s.toks) { s with toks:=s.toks+1 }->wpAny (model X.prog X.w) X.A (f (.int i t) (.int j u)) Q E s) :
  bj X f (kf fun i j=>.int (g i j)):=by
 intro pins s σ H x y v u Q I rx ry h
 obtain ⟨i,j,rfl,rfl,q⟩:=h
 obtain ⟨t,rfl⟩:=rx
 obtain ⟨t',rfl⟩:=ry
 exact rule i j t t' s _ _ ⟨.int (g i j),H,I.tok _,⟨_,rfl⟩,q⟩
theorem qE {f:Value->Value->Sem Value}{g:Int->Int->Bool}
  (rule:∀ (i j:Int) (t u:Tok) (s:Shared) (Q:Value->Shared->Prop) (E:Value->Shared->Prop),Q (.bool (g i j)) s->wpAny (model X.prog X.w) X.A (f (.int i t) (.int j u)) Q E s) :
  bj X f (kf fun i j=>.bl (g i j)):=by
 intro pins s σ H x y v u Q I rx ry h
 obtain ⟨i,j,rfl,rfl,q⟩:=h
 obtain ⟨t,rfl⟩:=rx
 obtain ⟨t',rfl⟩:=ry
 exact rule i j t t' s _ _ ⟨.bl (g i j),H,I,rfl,q⟩
noncomputable def ib (i j:Int):Prop:=0<j/\j<1073741824
noncomputable def gU (i j:Int):Prop:=0<=j/\j<=1000000/\i.natAbs<2 ^ 64
noncomputable def kQ (i j:Int):Prop:=(-(2 ^ 64)<i/\i<2 ^ 64)\/(-(2 ^ 64)<j/\j<2 ^ 64)
theorem kQ.ok {i j:Int} (h:kQ i j):IntMulOk i j:=by
 rcases h with ⟨h1,h2⟩ | ⟨h1,h2⟩
 ·exact .of_left (intBits_le_64 h1 h2)
 ·exact .of_right (intBits_le_64 h1 h2)
theorem Qz (k:Nat):(0:Int)<=2 ^ k:=by
 rw [two_pow_cast]
 exact Zq4 _
theorem pY:bj X (binaryOp .Add) (kf fun i j=>.int (i+j)):=kh fun _ _ _ _ _ _ _ q=>add_int q
theorem nI:bj X (binaryOp .Sub) (kf fun i j=>.int (i - j)):=kh fun _ _ _ _ _ _ _ q=>sub_int q
theorem nX:bj X (binaryOp .Mult) (rI kQ fun i j=>.int (i * j)):=om fun _ _ _ _ _ _ _ hc q=>mul_int q hc.ok
theorem Pu:bj X (binaryOp .FloorDiv) (rI ib fun i j=>.int (i / j)):=om fun i j _ _ _ _ _ hc q=>by
 have h1:(0:Int)<j:=hc.1
 have h2:j<1073741824:=hc.2
 exact floordiv_int (by omega) (by rw [Zq8 i (by omega)];exact q) (.inl (PyProof.noPylong_small (by omega)))
theorem pS:bj X (binaryOp .Mod) (rI (fun _ j=>0<j) fun i j=>.int (i % j)):=om fun i j _ _ _ _ _ hc q=>by
 have h1:(0:Int)<j:=hc
 exact mod_int' (by omega) (by rw [Int.fmod_eq_emod_of_nonneg i (by omega)];exact q)
theorem oX:bj X (binaryOp .Pow) (rI gU fun i j=>.int (i ^ j.toNat)):=om fun _ _ _ _ _ _ _ hc q=>pow_int_small hc.1 hc.2.1 hc.2.2 q
theorem oW:bj X (binaryOp .LShift) (rI gU fun i j=>.int (i * 2 ^ j.toNat)):=om fun _ _ _ _ _ _ _ hc q=>lshift_int_small hc.1 hc.2.1 hc.2.2 q
theorem nN:bj X (binaryOp .RShift) (rI (fun _ j=>0<=j) fun i j=>.int (i / 2 ^ j.toNat)):=om fun i j _ _ _ _ _ hc q =>
 rshift_int hc (by rw [Zq8 i (Qz _)];exact q)
theorem ng:bj X (binaryOp .BitAnd) (kf fun i j=>.int (Builtin.bitAnd i j)):=kh fun _ _ _ _ _ _ _ q=>and_int q
theorem xl:bj X (binaryOp .BitOr) (kf fun i j=>.int (Builtin.bitOr i j)):=kh fun _ _ _ _ _ _ _ q=>or_int q
theorem nS:bj X (binaryOp .BitXor) (kf fun i j=>.int (Builtin.bitXor i j)):=kh fun _ _ _ _ _ _ _ q=>xor_int q
theorem ML {f:Value->Sem Value}{g:Int->Int}
  (rule:∀ (i:Int) (t:Tok) (s:Shared) (Q:Value->Shared->Prop) (E:Value->Shared->Prop),Q (.int (g i) s.toks) { s with toks:=s.toks+1 }->wpAny (model X.prog X.w) X.A (f (.int i t)) Q E s) :
  wC X f (rU fun i=>.int (g i)):=by
 intro pins s σ H x v Q I rx h
 obtain ⟨i,rfl,q⟩:=h
 obtain ⟨t,rfl⟩:=rx
 exact rule i t s _ _ ⟨.int (g i),H,I.tok _,⟨_,rfl⟩,q⟩
theorem qC:wC X (unaryOp .USub) (rU fun i=>.int (-i)):=ML fun _ _ _ _ _ q=>neg_int q
end
noncomputable def xt:V->V->Bool
 | .non,.non=>true | .non,.int _=>true | .int _,.non=>true | .non,.bl _=>true | .bl _,.non=>true | .non,.str _=>true | .str _,.non=>true
 | .int _,.int _=>true | .bl _,.bl _=>true | .str _,.str _=>true | .byt _,.byt _=>true
 | .int _,.str _=>true | .str _,.int _=>true | .bl _,.str _=>true | .str _,.bl _=>true
 | _,_=>false
noncomputable def EI:R2:=fun x y H Q=>xt x y=true/\Q (.bl (decide (x=y))) H
noncomputable def F5:R2:=fun x y H Q=>xt x y=true/\Q (.bl (!decide (x=y))) H
theorem Je {i j:Int}:decide (V.int i=V.int j)=(i == j):=by
 rw [Zrg]
 simp
theorem FG {i j:Bool}:decide (V.bl i=V.bl j)=(i == j):=by
 rw [Zrg]
 simp
theorem F2 {i j:Str}:decide (V.str i=V.str j)=(i == j):=by
 rw [Zrg]
 simp
theorem HU {i j:Array UInt8}:decide (V.byt i=V.byt j)=(i.toList == j.toList):=by
 rw [Zrg]
 cases i
 cases j
 simp
section
variable {X:Cx}{a b c:Expr}{ta tb tc:TE}{pos:Pos}
theorem dF {pins:List (Addr × Obj)}{σ:St}{H:Hp}{s:Shared}{Q:VK}{k k':Bool} (I:Inv X pins σ H s) (q:Q (.bl k) H) (e:k=k'):EP X pins σ Q (.bool k') s:=by
 subst e
 exact ⟨.bl k,H,I,rfl,q⟩
theorem vY:bj X (compareOp .Eq) EI:=by
 intro pins s σ H x y v u Q I rx ry h
 obtain ⟨hs,q⟩:=h
 cases x with
 | non =>
  cases rx
  cases y with
  | non=>cases ry;exact PySem.EqNone.eq_none_none (dF I q (by simp))
  | bl j=>cases ry;exact PySem.EqNone.eq_none_bool (dF I q (by simp))
  | int j=>obtain ⟨t',rfl⟩:=ry;exact PySem.EqNone.eq_none_int (dF I q (by simp))
  | str j=>obtain ⟨t',rfl⟩:=ry;exact PySem.EqNone.eq_none_str (dF I q (by simp))
  | _=>exact absurd (show false=true from hs) Zre
 | bl i =>
  cases rx
  cases y with
  | non=>cases ry;exact PySem.EqNone.eq_bool_none (dF I q (by simp))
  | bl j=>cases ry;exact eq_bool (dF I q FG)
  | str j=>obtain ⟨t',rfl⟩:=ry;exact PySem.EqMixed.eq_bool_str (dF I q (by simp))
  | _=>exact absurd (show false=true from hs) Zre
 | int i =>
  obtain ⟨t,rfl⟩:=rx
  cases y with
  | non=>cases ry;exact PySem.EqNone.eq_int_none (dF I q (by simp))
  | int j=>obtain ⟨t',rfl⟩:=ry;exact eq_int (dF I q Je)
  | str j=>obtain ⟨t',rfl⟩:=ry;exact PySem.EqMixed.eq_int_str (dF I q (by simp))
  | _=>exact absurd (show false=true from hs) Zre
 | str i =>
  obtain ⟨t,rfl⟩:=rx
  cases y with
  | non=>cases ry;exact PySem.EqNone.eq_str_none (dF I q (by simp))
  | bl j=>cases ry;exact PySem.EqMixed.eq_str_bool (dF I q (by simp))
  | int j=>obtain ⟨t',rfl⟩:=ry;exact PySem.EqMixed.eq_str_int (dF I q (by simp))
  | str j=>obtain ⟨t',rfl⟩:=ry;exact eq_str (dF I q F2)
  | _=>exact absurd (show false=true from hs) Zre
 | byt i =>
  obtain ⟨t,rfl⟩:=rx
  cases y with
  | byt j=>obtain ⟨t',rfl⟩:=ry;exact PySem.W.eq_bytes (dF I q HU)
  | _=>exact absurd (show false=true from hs) Zre
 | _=>cases y <;> exact absurd (show false=true from hs) Zre
theorem xK:bj X (compareOp .NotEq) F5:=by
 intro pins s σ H x y v u Q I rx ry h
 obtain ⟨hs,q⟩:=h
 cases x with
 | non =>
  cases rx
  cases y with
  | non=>cases ry;exact PySem.EqNone.ne_none_none (dF I q (by simp))
  | bl j=>cases ry;exact PySem.EqNone.ne_none_bool (dF I q (by simp))
  | int j=>obtain ⟨t',rfl⟩:=ry;exact PySem.EqNone.ne_none_int (dF I q (by simp))
  | str j=>obtain ⟨t',rfl⟩:=ry;exact PySem.EqNone.ne_none_str (dF I q (by simp))
  | _=>exact absurd (show false=true from hs) Zre
 | bl i =>
  cases rx
  cases y with
  | non=>cases ry;exact PySem.EqNone.ne_bool_none (dF I q (by simp))
  | bl j=>cases ry;exact ne_bool (dF I q (congrArg not FG))
  | str j=>obtain ⟨t',rfl⟩:=ry;exact PySem.EqMixed.ne_bool_str (dF I q (by simp))
  | _=>exact absurd (show false=true from hs) Zre
 | int i =>
  obtain ⟨t,rfl⟩:=rx
  cases y with
  | non=>cases ry;exact PySem.EqNone.ne_int_none (dF I q (by simp))
  | int j=>obtain ⟨t',rfl⟩:=ry;exact ne_int (dF I q (congrArg not Je))
  | str j=>obtain ⟨t',rfl⟩:=ry;exact PySem.EqMixed.ne_int_str (dF I q (by simp))
  | _=>exact absurd (show false=true from hs) Zre
 | str i =>
  obtain ⟨t,rfl⟩:=rx
  cases y with
  | non=>cases ry;exact PySem.EqNone.ne_str_none (dF I q (by simp))
  | bl j=>cases ry;exact PySem.EqMixed.ne_str_bool (dF I q (by simp))
  | int j=>obtain ⟨t',rfl⟩:=ry;exact PySem.EqMixed.ne_str_int (dF I q (by simp))
  | str j=>obtain ⟨t',rfl⟩:=ry;exact ne_str (dF I q (congrArg not F2))
  | _=>exact absurd (show false=true from hs) Zre
 | byt i =>
  obtain ⟨t,rfl⟩:=rx
  cases y with
  | byt j=>obtain ⟨t',rfl⟩:=ry;exact PySem.W.ne_bytes (dF I q (congrArg not HU))
  | _=>exact absurd (show false=true from hs) Zre
 | _=>cases y <;> exact absurd (show false=true from hs) Zre
theorem uc:bj X (compareOp .Lt) (kf fun i j=>.bl (decide (i<j))):=qE fun _ _ _ _ _ _ _ q=>lt_int q
theorem yc:bj X (compareOp .LtE) (kf fun i j=>.bl (decide (i<=j))):=qE fun _ _ _ _ _ _ _ q=>le_int q
theorem yo:bj X (compareOp .Gt) (kf fun i j=>.bl (decide (j<i))):=qE fun _ _ _ _ _ _ _ q=>gt_int q
theorem OC:bj X (compareOp .In) (fun x y H Q=>∃ i j,x=.str i/\y=.str j/\Q (.bl (!(Builtin.Str.occurrences j i 0 j.length 1).isEmpty)) H):=by
 intro pins s σ H x y v u Q I rx ry h
 obtain ⟨i,j,rfl,rfl,q⟩:=h
 obtain ⟨t,rfl⟩:=rx
 obtain ⟨t',rfl⟩:=ry
 exact in_str (dF I q rfl)
theorem cR (b:Expr) {op:CmpOp} (h:op≠.In:=by decide) (h2:op≠.NotIn:=by decide):behindInMarks op b=false:=by
 have e1:(op == CmpOp.In)=false:=by cases op <;> first | rfl | exact absurd rfl h
 have e2:(op == CmpOp.NotIn)=false:=by cases op <;> first | rfl | exact absurd rfl h2
 cases b <;> simp [behindInMarks,e1,e2]
theorem qx {op:CmpOp}{r:R2} (ho:bj X (compareOp op) r) (ha:PE X a ta) (hb:PE X b tb) (hm:behindInMarks op b=false):PE X (.Compare a [op] [b] pos) (ah r ta tb):=by
 intro pins s σ H Q I h
 exact wpAny_Compare1 (oR ha hb I h fun v u s2 x y H2 I2 rx ry q=>ho pins s2 σ H2 x y v u Q I2 rx ry q) hm
noncomputable def CK (t:TE):TT:=fun σ H Q=>t σ H fun x H'=>∃ k,x=.bl k/\Q k H'
theorem LD {op:CmpOp}{r:R2} (ho:bj X (compareOp op) r) (ha:PE X a ta) (hb:PE X b tb) (hm:behindInMarks op b=false):PT X (.Compare a [op] [b] pos) (CK (ah r ta tb)):=by
 intro pins s σ H Q I h
 refine wpAny_isTrue_Compare1 (aF (ha pins s σ H _ I h) fun v s1 ⟨x,H1,I1,r1,q1⟩=>aF (hb pins s1 σ H1 _ I1 q1) fun u s2 ⟨y,H2,I2,r2,q2⟩ =>
  aF (ho pins s2 σ H2 x y v u _ I2 r1 r2 q2) fun c s3 ⟨z,H3,I3,r3,k,e,q3⟩=>?_) hm
 subst e
 cases r3
 exact wpAny_truthy_bool ⟨H3,I3,q3⟩
noncomputable def DM (r r':R2) (ta tb tc:TE):TE:=fun σ H Q=>ta σ H fun x H1=>tb σ H1 fun y H2=>r x y H2 fun z H3=>∃ k,z=.bl k /\
 (if k=true then tc σ H3 fun w' H4=>r' y w' H4 Q else Q (.bl false) H3)
theorem Oy {op qP:CmpOp}{r r':R2} (ho:bj X (compareOp op) r) (jk:bj X (compareOp qP) r') (ha:PE X a ta) (hb:PE X b tb) (hc:PE X c tc)
  (hm:lastMarks [op,qP] [b,c]=false:=by with_unfolding_all rfl):PE X (.Compare a [op,qP] [b,c] pos) (DM r r' ta tb tc):=by
 intro pins s σ H Q I h
 refine Compare_chain (aF (ha pins s σ H _ I h) fun v s1 ⟨x,H1,I1,r1,q1⟩=>chain_link (aF (hb pins s1 σ H1 _ I1 q1) fun u s2 ⟨y,H2,I2,r2,q2⟩ =>
  aF (ho pins s2 σ H2 x y v u _ I2 r1 r2 q2) fun d s3 ⟨z,H3,I3,r3,k,e,q3⟩=>?_)) hm
 subst e
 cases r3
 refine wpAny_truthy_bool ?_
 cases k with
 | false=>exact ite_ff ⟨.bl false,H3,I3,rfl,q3⟩
 | true=>exact ite_tt (chain_last (aF (hc pins s3 σ H3 _ I3 q3) fun w' s4 ⟨z',H4,I4,r4,q4⟩=>jk pins s4 σ H4 y z' u w' Q I4 r2 r4 q4))
noncomputable def kd (K:ZoW) (x:V) (H:Hp) (k:Bool):Prop :=
 match x with
 | .non=>k=false
 | .bl b=>k=b
 | .int i=>k=(i != 0)
 | .str y=>y.length<=sizeLine/\k=((y.length:Int) != 0)
 | .byt y=>y.size<=sizeLine/\k=((y.size:Int) != 0)
 | .ref p=>(∃ xs,aI K H p xs/\k = !xs.isEmpty)\/(∃ xs,bX K H p xs/\k = !xs.isEmpty)\/∃ kvs,H p=some (.dK kvs)/\k = !kvs.isEmpty
 | _=>False
theorem Qx {κ:Type}{kvs:List (κ × V)}{vs:List (κ × Value)} (r:KV kvs vs):(!vs.isEmpty) = !kvs.isEmpty:=by
 cases r <;> rfl
theorem Hm {xs:List V}{its:List Value} (r:Vals xs its):(!its.toArray.isEmpty) = !xs.isEmpty:=by
 cases r <;> simp
theorem rD:(sizeLine:Nat)<2 ^ 63:=by rw [sizeLine_eq];decide
theorem pd:BH X (fun x H Q=>∃ k,kd X.K x H k/\Q k H):=by
 intro pins s σ H x v Q I rx h
 obtain ⟨k,e,q⟩:=h
 have hl:=rD
 have hs:sizeLine=16777216:=sizeLine_eq
 cases x with
 | non =>
  cases rx
  have e':k=false:=e
  subst e'
  exact truthy_none ⟨H,I,q⟩
 | bl b =>
  cases rx
  have e':k=b:=e
  subst e'
  exact wpAny_truthy_bool ⟨H,I,q⟩
 | int i =>
  obtain ⟨t,rfl⟩:=rx
  have e':k=(i != 0):=e
  subst e'
  exact PySem.P.truthy_int ⟨H,I,q⟩
 | str y =>
  obtain ⟨t,rfl⟩:=rx
  obtain ⟨hy,e'⟩:y.length<=sizeLine/\k=((y.length:Int) != 0):=e
  subst e'
  exact PySem.P.truthy_str (by omega) ⟨H,I.tok _,q⟩
 | byt y =>
  obtain ⟨t,rfl⟩:=rx
  obtain ⟨hy,e'⟩:y.size<=sizeLine/\k=((y.size:Int) != 0):=e
  subst e'
  exact PySem.W.truthy_bytes (by omega) ⟨H,I.tok _,q⟩
 | ref p =>
  cases rx
  have e':(∃ xs,aI X.K H p xs/\k = !xs.isEmpty)\/(∃ xs,bX X.K H p xs/\k = !xs.isEmpty)\/∃ kvs,H p=some (.dK kvs)/\k = !kvs.isEmpty:=e
  rcases e' with ⟨xs,hx,e'⟩ | ⟨xs,hx,e'⟩ | ⟨kvs,hx,e'⟩
  ·subst e'
   obtain ⟨its,r,pl,hz⟩:=I.list hx
   have hlen:=r.length
   exact wpAny_truthy_list pl.isList (by simp only [ZpJ];omega) ⟨H,I.tok _,by rw [Hm r];exact q⟩
  ·subst e'
   obtain ⟨its,r,pl,hz⟩:=I.tuple hx
   have hlen:=r.length
   exact truthy_tuple pl (by simp only [ZpJ];omega) ⟨H,I.tok _,by rw [Hm r];exact q⟩
  ·subst e'
   obtain ⟨hz,hS,vs,r,m⟩:kvs.length<=sizeLine/\(p == sysModules)=false/\∃ vs,KV kvs vs/\s.heap.DictOf (fC X.prog X.w) p vs:=I.aw p _ hx
   have hlen:kvs.length=vs.length:=Paired.length r
   exact wpAny_truthy_dict hS m (by omega) ⟨H,I.tok _,by rw [Qx r];exact q⟩
 | _=>exact (show False from e).elim
theorem Q2 (ha:PE X a ta) (he:∀ whole,isTrue a X.env whole=(do let v <- whole;standAt a.pos;holding [v] (truthy v))) :
  PT X a (fun σ H Q=>ta σ H fun x H'=>∃ k,kd X.K x H' k/\Q k H'):=by
 intro pins s σ H Q I h
 exact isTrue_plain (aF (ha pins s σ H _ I h) fun v s1 ⟨x,H1,I1,r1,q1⟩=>pd pins s1 σ H1 x v Q I1 r1 q1) (he _)
theorem Qk:bj X (binaryOp .Add) (fun x y H Q=>∃ i j,x=.str i/\y=.str j/\i.length+j.length<=sizeLine/\Q (.str (i ++ j)) H):=by
 intro pins s σ H x y v u Q I rx ry h
 obtain ⟨i,j,rfl,rfl,hz,q⟩:=h
 obtain ⟨t,rfl⟩:=rx
 obtain ⟨t',rfl⟩:=ry
 exact add_str (fun t' tk=>⟨.str (i ++ j),H,I.tok _,⟨_,rfl⟩,q⟩) hz
theorem gW {x:V}{us:List Value} (r:Vals [x] us):∃ u,us=[u]/\aH x u:=by
 cases r with
 | cons r1 r2=>cases r2;exact ⟨_,rfl,r1⟩
theorem wM {x y:V}{us:List Value} (r:Vals [x,y] us):∃ u w',us=[u,w']/\aH x u/\aH y w':=by
 cases r with
 | cons r1 r2 =>
  cases r2 with
  | cons r3 r4=>cases r4;exact ⟨_,_,rfl,r1,r3⟩
theorem Nv (hc:X.calm=true):fD X (.builtin "min") (fun xs H Q=>∃ i j,xs=[.int i,.int j]/\Q (.int (if j<i then j else i)) H):=by
 intro pins s σ H xs us Q I r h
 obtain ⟨i,j,rfl,q⟩:=h
 obtain ⟨u,w',rfl,⟨t,rfl⟩,⟨t',rfl⟩⟩:=wM r
 refine min_two_ints (I.ok.hd hc) fun h' tk k=>⟨_,H,I.kept k,?_,q⟩
 by_cases hj:j<i
 ·rw [if_pos hj,if_pos hj];exact ⟨_,rfl⟩
 ·rw [if_neg hj,if_neg hj];exact ⟨_,rfl⟩
theorem Fp:fD X (.type "int") (fun xs H Q=>(∃ i,xs=[.int i]/\Q (.int i) H)\/∃ k,xs=[.bl k]/\Q (.int (if k then 1 else 0)) H):=by
 intro pins s σ H xs us Q I r h
 rcases h with ⟨i,rfl,q⟩ | ⟨k,rfl,q⟩
 ·obtain ⟨u,rfl,t,rfl⟩:=gW r
  exact call_int_int ⟨.int i,H,I,⟨_,rfl⟩,q⟩
 ·obtain ⟨u,rfl,r1⟩:=gW r
  cases r1
  exact call_int_bool ⟨.int (if k then 1 else 0),H,I.tok _,⟨_,rfl⟩,q⟩
theorem J8:fD X (.type "str") (fun xs H Q=>∃ i,xs=[.int i]/\i.natAbs.log2<1920/\Q (.str (toString i)) H):=by
 intro pins s σ H xs us Q I r h
 obtain ⟨i,rfl,hz,q⟩:=h
 obtain ⟨u,rfl,t,rfl⟩:=gW r
 exact PySem.P.str_of_int hz ⟨.str _,H,I.tok _,⟨_,rfl⟩,q⟩
end
structure iB (h:Heap) (x dx C:Addr) (mA:Str->Option Value):Prop where
 obj:h.get? x=some (Zo4 C dx)
 ns:h.Ns1 dx mA
 ne:dx≠x
theorem PX {h:Heap}{dx:Addr}{mA:Str->Option Value} (n:h.Ns1 dx mA):∃ od,h.get? dx=some od/\∀ name,Zo9 name od=some (mA name):=by
 obtain ⟨o,es,ep,ho,hd,hk,_,hm⟩:=n
 refine ⟨o,ho,fun name=>?_⟩
 have e:=hm name
 unfold nsFind findBy at e
 rw [<- Array.find?_toList] at e
 unfold Zo9
 rw [hd]
 dsimp only
 split
 ·rename_i y q
  rw [q] at e
  exact congrArg some e
 ·rename_i q
  rw [q] at e
  have a:es.toList.any (·.refKey)=false:=by
   rw [List.any_eq_false]
   intro y hy
   obtain ⟨z,t,hkey⟩:=hk y (Array.mem_toList_iff.mp hy)
   simp [DictEntry.refKey,hkey]
  have a':¬ es.toList.any (·.refKey)=true:=by rw [a];exact Zre
  rw [if_neg a']
  exact congrArg some e
theorem iB.look {h:Heap}{x dx C:Addr}{mA:Str->Option Value} (I:iB h x dx C mA):∃ od,PySem.W.InstAt h x (Zo4 C dx) C (some od)/\∀ name,Zo9 name od=some (mA name) :=
 let ⟨od,ho,hl⟩:=PX I.ns
 ⟨od,⟨I.obj,rfl,rfl,ho⟩,hl⟩
section
variable {prog:Program}{w:World}{A:Around}{E:Value->Shared->Prop}{s:Shared}{K:ZoW}{x dx C f:Addr}{mA:Str->Option Value}{name:Str}{v:Value}
theorem QK {expr:Bool}{Q:Value->Shared->Prop} (X:K.In s.heap) (I:iB s.heap x dx C mA) (hg:Zo6 K C name=true) (hh:Zpa K C=true)
  (ha:ZoY K (.ref C) name=some none) (hv:mA name=some v) (zK:PySem.W.handedIn v=true) (h:Q v { s with toks:=s.toks+1 }) :
  wpAny (model prog w) A (getAttr (.ref x) name expr) Q E s:=by
 obtain ⟨od,J,hl⟩:=I.look
 exact PySem.W.get_value X J (Zpe hg).1 (PySem.W.findObj_own hh ha rfl (by rw [hl,hv])) zK h
theorem Pe {pl:Sem Bool}{Q:Value × List Value->Shared->Prop} (X:K.In s.heap) (I:iB s.heap x dx C mA) (hg:Zo6 K C name=true)
  (hf:ZoY K (.ref C) name=some (some (.ref f))) (ht:Zpb K (.ref f)=true) (hv:mA name=none) (h:Q (.ref f,[.ref x]) s) :
  wpAny (model prog w) A (getMethod (.ref x) name pl) Q E s:=by
 obtain ⟨od,J,hl⟩:=I.look
 exact PySem.W.method_fn X J (Zpe hg).1 (Zpe hg).2 hf (beq_iff_eq.mp ht) (by show (Zo9 name od).map (·.isSome)=some false;rw [hl,hv];rfl) h
theorem OX {ns:List Str}{Q:Unit->Shared->Prop} (X:K.In s.heap) (I:iB s.heap x dx C mA)
  (hs:ZoY K (.ref C) "__setattr__" = some (some (.builtin "object.__setattr__"))) (hp:Zpf K C=true) (ht:Zpg K C name=some none) (hh:Zpa K C=true)
  (hw:PySem.Within mA ns) (hsz:ns.length<=sizeLine)
  (h:∀ h',iB h' x dx C (fun y=>if y=name then some v else mA y)->Heap.SameBut dx s.heap h'->Q () { s with heap:=h',toks:=s.toks+2 }) :
  wpAny (model prog w) A (setAttr (.ref x) name v) Q E s:=by
 obtain ⟨od,J,hl⟩:=I.look
 refine PySem.W.set_plain X J hs (PySem.W.osa_open (s:={ s with toks:=s.toks+1 }) (r:=none) X J hp ht fun b=>?_)
 obtain ⟨cd,hc,hd'⟩:=PySem.W.any_some hh
 have hx:s.heap.get? x=some ⟨.ref C,some dx,.plain,#[]⟩:=I.obj
 refine wpAny_bind (wpAny_pure (wpAny_bind (wpAny_bind (wpAny_loadPart hx (wpAny_bind (PySem.W.Looks.here (s:={ s with toks:=s.toks+1 }) (PySem.W.looks_clsIn X hc) ?_))))))
 rw [hd']
 refine wpAny_pure (a:=some dx) (wpAny_bind (wpAny_pure (wpAny_bind ?_)))
 refine wpAny_nsSet1 (s:={ s with toks:=s.toks+1 }) I.ns fun h' qX jN=>?_
 obtain ⟨oD,esD,epD,hoD,hdD,hcD⟩:=qX.count (PySem.Within.cons name v hw)
 refine wpAny_bind (wpAny_lookBehind hoD (by rw [hdD];exact pastItsLine_dict (ZqE hcD (by rw [ZpG];omega))) ?_)
 exact wpAny_pure (h _ ⟨(jN.2 _ (Ne.symm I.ne)).trans I.obj,qX,I.ne⟩ jN)
theorem MG {R:Result->Shared->Prop}{vs:List Value}{kw:List (Str × Value)} (X:K.In s.heap) (hm:Zph K C=true)
  (hi:ZoY K (.ref C) "__init__" = some (some (.ref f))) (hf:PySem.W.typeIn K (.ref f)=some (.type "function"))
  (h:codeAny (model prog w) (A.under (.builtin "type.__call__" ⟨.ref C :: vs,kw⟩)) (.call (.ref f) ⟨.ref (s.heap.objs.size+1) :: vs,kw⟩) (PySem.W.InitBack (s.heap.objs.size+1) R)
   { s with heap:=(s.heap.push Zo2).push (Zo4 C s.heap.objs.size) }) :
  codeAny (model prog w) A (.call (.ref C) ⟨vs,kw⟩) R s:=by
 obtain ⟨hh,g,d,t,os⟩:=s
 exact PySem.W.make_core (PySem.W.makes_of X hm) (PySem.W.looks_findIn X hi) (fun self=>PySem.W.bind_fn X self hf) (.inl rfl) h
end
noncomputable def cS (f:Str) (v:V):List (Str × V)->List (Str × V)
 | []=>[(f,v)]
 | (g,x) :: r=>if g=f then (g,v) :: r else (g,x) :: cS f v r
theorem IJ (f g:Str) (v:V):∀ fs:List (Str × V),(cS f v fs).lookup g=if g=f then some v else fs.lookup g
 | []=>by
  show Zqb g [(f,v)]=_
  by_cases h:g=f
  ·have hb:(g == f)=true:=beq_iff_eq.mpr h
   simp only [Zqb,hb,if_pos h]
  ·have hb:(g == f)=false:=beq_eq_false_iff_ne.mpr h
   simp only [Zqb,hb,if_neg h]
 | (k,x) :: r=>by
  have ih:=IJ f g v r
  rw [show cS f v ((k,x) :: r)=(if k=f then (k,v) :: r else (k,x) :: cS f v r) from rfl]
  by_cases hk:k=f
  ·rw [if_pos hk]
   by_cases h:g=k
   ·have hb:(g == k)=true:=beq_iff_eq.mpr h
    simp only [Zqb,hb,if_pos (h.trans hk)]
   ·have hb:(g == k)=false:=beq_eq_false_iff_ne.mpr h
    simp only [Zqb,hb,if_neg (fun e:g=f=>h (e.trans hk.symm))]
  ·rw [if_neg hk]
   by_cases h:g=k
   ·have hb:(g == k)=true:=beq_iff_eq.mpr h
    simp only [Zqb,hb,if_neg (fun e:g=f=>hk (h.symm.trans e))]
   ·have hb:(g == k)=false:=beq_eq_false_iff_ne.mpr h
    simp only [Zqb,hb]
    exact ih
theorem Du (f:Str) (v:V):∀ fs:List (Str × V),f∈(cS f v fs).map (·.1)/\∀ g,g∈fs.map (·.1)->g∈(cS f v fs).map (·.1)
 | []=>⟨by simp [cS],fun g h=>by simp at h⟩
 | (k,x) :: r=>by
  obtain ⟨i1,i2⟩:=Du f v r
  rw [show cS f v ((k,x) :: r)=(if k=f then (k,v) :: r else (k,x) :: cS f v r) from rfl]
  by_cases hk:k=f
  ·rw [if_pos hk]
   subst hk
   exact ⟨by simp,fun g h=>by simpa using h⟩
  ·rw [if_neg hk]
   refine ⟨?_,fun g h=>?_⟩
   ·rw [Zpx]
    exact ZpL _ i1
   ·rw [Zpx] at h ⊢
    rcases ZpC.mp h with e | e
    ·exact ZpC.mpr (.inl e)
    ·exact ZpL _ (i2 g e)
theorem vG (f:Str) (v:V):∀ fs:List (Str × V),(cS f v fs).length<=fs.length+1
 | []=>by simp [cS]
 | (k,x) :: r=>by
  have ih:=vG f v r
  rw [show cS f v ((k,x) :: r)=(if k=f then (k,v) :: r else (k,x) :: cS f v r) from rfl]
  by_cases hk:k=f
  ·rw [if_pos hk,ZpG,ZpG];omega
  ·rw [if_neg hk,ZpG,ZpG];omega
theorem gY.some_of {v:V}{o:Option Value} (r:gY (some v) o):∃ u,o=some u/\aH v u:=by
 cases o with
 | none=>exact (show False from r).elim
 | some u=>exact ⟨u,rfl,r⟩
theorem gY.none_of {o:Option Value} (r:gY none o):o=none:=by
 cases o with
 | none=>rfl
 | some u=>exact (show False from r).elim
theorem Ny {v:V}{u:Value} (r:aH v u):PySem.W.handedIn u=true:=by
 cases v with
 | non=>cases (show u=Value.none from r);rfl
 | bl b=>cases (show u=Value.bool b from r);rfl
 | int i=>obtain ⟨t,e⟩:=(show ∃ t,u=Value.int i t from r);cases e;rfl
 | str x=>obtain ⟨t,e⟩:=(show ∃ t,u=Value.str x t from r);cases e;rfl
 | byt b=>obtain ⟨t,e⟩:=(show ∃ t,u=Value.bytes b t from r);cases e;rfl
 | flt b=>obtain ⟨t,e⟩:=(show ∃ t,u=Value.float b t from r);cases e;rfl
 | ref a=>cases (show u=Value.ref a from r);rfl
 | ty n=>cases (show u=Value.type n from r);rfl
section
variable {P:Program}{w:World}{H H':Hp}{h h':Heap}{a C dx:Addr}{fs Ko:List (Str × V)}
theorem yR (aw:du P w H h) (e:H a=some (.ins C dx fs)):∃ mA,iB h a dx C mA/\(∀ f,gY (fs.lookup f) (mA f))/\PySem.Within mA (fs.map (·.1))/\fs.length<=1000/\H dx=some (.own a):=by
 obtain ⟨d,z,ne,ob,mA,n,r,q⟩:=(show dn P w H h a (.ins C dx fs) from aw a _ e)
 exact ⟨mA,⟨ob,n,ne⟩,r,q,z,d⟩
end
structure jS (K:ZoW) (C:Addr):Prop where
 pg:Zo6 K C Str.empty=true
 hd:Zpa K C=true
 po:Zpf K C=true
 sa:ZoY K (.ref C) "__setattr__" = some (some (.builtin "object.__setattr__"))
theorem jS.get {K:ZoW}{C:Addr} (c:jS K C) (f:Str):Zo6 K C f=true:=c.pg
noncomputable def lN (K:ZoW) (C:Addr) (f:Str):Prop:=ZoY K (.ref C) f=some none
theorem lN.tS {K:ZoW}{C:Addr}{f:Str} (n:lN K C f):Zpg K C f=some none:=by
 unfold Zpg
 rw [show ZoY K (.ref C) f=some none from n]
 rfl
structure Rx (K:ZoW) (C:Addr) (f:Str) (v:V) (u:Value):Prop where
 at_:ZoY K (.ref C) f=some (some u)
 rel:aH v u
 get:Zpc K u "__get__" = some none
 cp:PySem.W.copiedNames.contains f=false
structure Meth (K:ZoW) (C:Addr) (m:Str) (f:Addr):Prop where
 at_:ZoY K (.ref C) m=some (some (.ref f))
 fn:Zpb K (.ref f)=true
 kp:Zo5 K (.ref f)=true
section
variable {X:Cx}{pins:List (Addr × Obj)}{σ:St}{H:Hp}{s:Shared}{a C dx:Addr}{fs:List (Str × V)}{f:Str}{v:V}{A:Around}{E:Value->Shared->Prop}
theorem Qy {b:Bool}{Q:Value->Shared->Prop} (I:Inv X pins σ H s) (e:H a=some (.ins C dx fs)) (c:jS X.K C) (n:lN X.K C f) (l:fs.lookup f=some v)
  (h:∀ u s',Inv X pins σ H s'->aH v u->Q u s'):wpAny (model X.prog X.w) A (getAttr (.ref a) f b) Q E s:=by
 obtain ⟨mA,O,r,_,_,_⟩:=yR I.aw e
 obtain ⟨u,hu,ru⟩:=gY.some_of (v:=v) (o:=mA f) (by rw [<- l];exact r f)
 exact QK I.fj O (c.get f) c.hd n hu (Ny ru) (h u _ (I.tok _) ru)
theorem KD {m:Str}{g:Addr}{pl:Sem Bool}{Q:Value × List Value->Shared->Prop} (I:Inv X pins σ H s) (e:H a=some (.ins C dx fs)) (c:jS X.K C) (k:Meth X.K C m g) (l:fs.lookup m=none)
  (h:Q (.ref g,[.ref a]) s):wpAny (model X.prog X.w) A (getMethod (.ref a) m pl) Q E s:=by
 obtain ⟨mA,O,r,_,_,_⟩:=yR I.aw e
 have hn:mA m=none:=gY.none_of (by rw [<- l];exact r m)
 exact Pe I.fj O (c.get m) k.at_ k.fn hn h
theorem Nl {y:V}{u:Value}{Q:Unit->Shared->Prop} (I:Inv X pins σ H s) (e:H a=some (.ins C dx fs)) (c:jS X.K C) (n:lN X.K C f) (hl:fs.length<1000) (ry:aH y u)
  (h:∀ s',Inv X pins σ (upd H a (.ins C dx (cS f y fs))) s'->Q () s'):wpAny (model X.prog X.w) A (setAttr (.ref a) f u) Q E s:=by
 obtain ⟨mA,O,r,wi,_,ho⟩:=yR I.aw e
 have hz:(fs.map (·.1)).length<=sizeLine:=by rw [Zpu,sizeLine_eq];omega
 refine OX I.fj O c.sa c.po n.tS c.hd wi hz fun h' O' sb=>h _ ?_
 have hd:∃ o,h'.get? dx=some o:=let ⟨o,_,_,e',_⟩:=O'.ns;⟨o,e'⟩
 refine I.write (x:=a) (e:=dx) (by rw [e];exact True.intro) (.inr ho) (fun b q hb z=>(sb.2 b hb).trans z) hd ?_
 refine ⟨by rw [aJ O.ne];exact ho,?_,O.ne,O'.obj,_,O'.ns,fun g=>?_,fun g hg=>?_⟩
 ·have:=vG f y fs;omega
 ·show gY ((cS f y fs).lookup g) (if g=f then some u else mA g)
  rw [IJ]
  by_cases q:g=f
  ·rw [if_pos q,if_pos q];exact ry
  ·rw [if_neg q,if_neg q];exact r g
 ·by_cases q:g=f
  ·rw [q];exact (Du f y fs).1
  ·refine (Du f y fs).2 g (wi g fun z=>hg ?_)
   show (if g=f then some u else mA g)=none
   rw [if_neg q];exact z
theorem Inv.made (I:Inv X pins σ H s):Inv X pins σ (upd (upd H s.heap.objs.size (.own (s.heap.objs.size+1))) (s.heap.objs.size+1) (.ins C s.heap.objs.size []))
  { s with heap:=(s.heap.push Zo2).push (Zo4 C s.heap.objs.size) }:=by
 have e1:(s.heap.push Zo2).get? s.heap.objs.size=some Zo2:=Heap.get?_push_size s.heap rfl
 have e2:((s.heap.push Zo2).push (Zo4 C s.heap.objs.size)).get? (s.heap.objs.size+1)=some (Zo4 C s.heap.objs.size):=by
  have:=Heap.get?_push_size (s.heap.push Zo2) (o:=Zo4 C s.heap.objs.size) rfl
  rwa [Heap.size_push] at this
 have e3:(s.heap.push Zo2).Ns s.heap.objs.size (fun _=>none):=⟨Zo2,#[],_,e1,rfl,(fun e he=>absurd he (by simp)),fun _=>rfl⟩
 have I1:=I.laid (a:=s.heap.objs.size) (o:=.own (s.heap.objs.size+1)) (h':=s.heap.push Zo2) (t':=s.toks) (fun b u q=>Heap.get?_push_of_some _ q) (ZqC _) ⟨_,e1⟩
 refine I1.laid (a:=s.heap.objs.size+1) (o:=.ins C s.heap.objs.size []) (t':=s.toks) (fun b u q=>Heap.get?_push_of_some _ q) (Nat.le_of_eq (Heap.size_push _ _)) ?_
 have ne:s.heap.objs.size≠s.heap.objs.size+1:=ZqD (ZqO _)
 refine ⟨by rw [aJ ne,bh],ZqH _,ne,e2,fun _=>none,(Heap.Ns1.of_empty e3).at fun o q=>Heap.get?_push_of_some _ q,fun _=>True.intro,fun y hy=>absurd rfl hy⟩
theorem Qi {prog:Program}{w:World}{env:Env}{e:Expr}{f:Str}{pos:Pos}{s:Shared}{Q:Value->Shared->Prop} (hb:attributeBase e f env (eval e env)=eval e env)
  (h:wpAny (model prog w) A (eval e env) (fun o s₁=>wpAny (model prog w) A (getAttr o f true) Q E s₁) E s):wpAny (model prog w) A (eval (.Attribute e f pos) env) Q E s :=
 Attribute_any_ h (by rw [arm_eval_Attribute,hb])
end
noncomputable def kA (K:ZoW) (ta:TE) (f:Str):TE:=fun σ H Q=>ta σ H fun x H1=>∃ a C dx fs v,x=.ref a/\H1 a=some (.ins C dx fs)/\jS K C/\lN K C f/\fs.lookup f=some v/\Q v H1
noncomputable def jT (K:ZoW) (ta tv:TE) (f:Str):TS:=fun D σ H=>tv σ H fun y H1=>ta σ H1 fun x H2=>∃ a C dx fs,x=.ref a/\H2 a=some (.ins C dx fs)/\jS K C/\lN K C f/\fs.length<1000 /\
 D.nx σ (upd H2 a (.ins C dx (cS f y fs)))
section
variable {X:Cx}{o e value:Expr}{f:Str}{pos pos' BG:Pos}{ta tv:TE}
theorem mO (he:PE X e ta) (hb:attributeBase e f X.env (eval e X.env)=eval e X.env):PE X (.Attribute e f pos) (kA X.K ta f):=by
 intro pins s σ H Q I h
 refine Qi hb (aF (he pins s σ H _ I h) fun u s1 ⟨x,H1,I1,rx,a,C,dx,fs,v,ex,ea,c,n,l,q⟩=>?_)
 subst ex
 obtain rfl:u=Value.ref a:=rx
 exact Qy I1 ea c n l fun u' s2 I2 ru=>⟨v,H1,I2,ru,q⟩
theorem Aj (ha:PE X o ta) (hv:PE X value tv) (hs:swapsWith value (some (.Attribute o f pos')) pos.line X.env=pure false):PS X (.Assign [.Attribute o f pos'] value pos) (jT X.K ta tv f):=by
 intro pins s σ H D I h
 refine plainObj_wpAny_Assign_Attribute (aF (hv pins s σ H _ I h) fun u s1 ⟨y,H1,I1,ry,q⟩=>aF (ha pins s1 σ H1 _ I1 q) fun ov s2 ⟨x,H2,I2,rx,a,C,dx,fs,ex,ea,c,n,l,q2⟩=>?_) hs
 subst ex
 obtain rfl:ov=Value.ref a:=rx
 exact Nl I2 ea c n l ry fun s3 I3=>⟨σ,_,I3,q2⟩
end
section
variable {X:Cx}{pins:List (Addr × Obj)}{σ:St}{H:Hp}{s:Shared}{A:Around}{E:Value->Shared->Prop}{Q:Value->Shared->Prop}{c:Value}{b:Bool}
inductive dW (K:ZoW) (H:Hp):V->Value->Prop where
 | non:dW K H .non (.type "NoneType")
 | bl (x:Bool):dW K H (.bl x) (.type "bool")
 | int (i:Int):dW K H (.int i) (.type "int")
 | str (x:Str):dW K H (.str x) (.type "str")
 | flt (x:UInt64):dW K H (.flt x) (.type "float")
 | lst {a:Addr}{xs:List V} (e:H a=some (.lst xs)):dW K H (.ref a) (.type "list")
 | frz {a:Addr}{o:Obj}{xs:List V} (e:H a=some (.frz o (.lst xs))):dW K H (.ref a) (.type "list")
 | tup {a:Addr}{xs:List V} (e:H a=some (.tup xs)):dW K H (.ref a) (.type "tuple")
 | dK {a:Addr}{kvs:List (Key × V)} (e:H a=some (.dK kvs)):dW K H (.ref a) (.type "dict")
 | dT {a:Addr}{kvs:List (List Key × V)} (e:H a=some (.dT kvs)):dW K H (.ref a) (.type "dict")
 | ins {a C dx:Addr}{fs:List (Str × V)} (e:H a=some (.ins C dx fs)) (cl:jS K C) (ha:ZoY K (.ref C) "__class__" = some (some (.builtin "object.__class__")))
   (hn:Zpc K (.builtin "object.__class__") "__get__" = some (some (.builtin "getset_descriptor.__get__"))) (Gj:Zpi K (.builtin "object.__class__")=some true)
   (hm:Zpj K C (.type "object")=some true):dW K H (.ref a) (.ref C)
theorem E5 {x:V}{u t:Value} (I:Inv X pins σ H s) (rx:aH x u) (ty:dW X.K H x t) (e:Zo7 X.K t c=some b) (h:∀ tk,Q (.bool b) { s with toks:=tk }) :
  wpAny (model X.prog X.w) A (call (.builtin "isinstance") [u,c]) Q E s:=by
 cases ty with
 | non=>cases (show u=Value.none from rx);exact Zo1 PySem.W.kitx_none I.fj True.intro e (fun z=>nomatch z) h
 | bl y=>cases (show u=Value.bool y from rx);exact Zo1 PySem.W.kitx_bool I.fj True.intro e (fun z=>nomatch z) h
 | int i=>obtain ⟨t,q⟩:=(show ∃ t,u=Value.int i t from rx);cases q;exact Zo1 PySem.W.kitx_int I.fj True.intro e (fun z=>nomatch z) h
 | str y=>obtain ⟨t,q⟩:=(show ∃ t,u=Value.str y t from rx);cases q;exact Zo1 PySem.W.kitx_str I.fj True.intro e (fun z=>nomatch z) h
 | flt y=>obtain ⟨t,q⟩:=(show ∃ t,u=Value.float y t from rx);cases q;exact Zo1 PySem.W.kitx_float I.fj True.intro e (fun z=>nomatch z) h
 | @lst a xs ea =>
  cases (show u=Value.ref a from rx)
  obtain ⟨_,_,n,_,h1⟩:=(show dn X.prog X.w H s.heap a (.lst xs) from I.aw a _ ea)
  exact Zo1 PySem.W.kitx_list I.fj ⟨_,h1,rfl⟩ e (fun z=>nomatch z) h
 | @frz a ob xs ea =>
  cases (show u=Value.ref a from rx)
  obtain ⟨_,_,_,n,_,h1⟩:=(show dn X.prog X.w H s.heap a (.frz ob (.lst xs)) from I.aw a _ ea)
  exact Zo1 PySem.W.kitx_list I.fj ⟨_,h1,rfl⟩ e (fun z=>nomatch z) h
 | @tup a xs ea =>
  cases (show u=Value.ref a from rx)
  obtain ⟨_,_,_,p⟩:=(show dn X.prog X.w H s.heap a (.tup xs) from I.aw a _ ea)
  obtain ⟨o,h1,h2,_⟩:=p
  exact Zo1 PySem.W.kitx_tuple I.fj ⟨o,h1,h2⟩ e (fun z=>nomatch z) h
 | @dK a kvs ea =>
  cases (show u=Value.ref a from rx)
  obtain ⟨_,_,vs,_,p⟩:=(show dn X.prog X.w H s.heap a (.dK kvs) from I.aw a _ ea)
  obtain ⟨o,es,ep,h1,h2,_⟩:=p
  exact Zo1 PySem.W.kitx_dict I.fj ⟨o,h1,h2.1⟩ e (fun z=>nomatch z) h
 | @dT a kvs ea =>
  cases (show u=Value.ref a from rx)
  obtain ⟨_,_,xs,_,o,es,ep,h1,h2,_⟩:=(show dn X.prog X.w H s.heap a (.dT kvs) from I.aw a _ ea)
  exact Zo1 PySem.W.kitx_dict I.fj ⟨o,h1,h2.1⟩ e (fun z=>nomatch z) h
 | @ins a C dx fs ea cl ha hn Gj hm =>
  cases (show u=Value.ref a from rx)
  obtain ⟨mA,O,_⟩:=yR I.aw ea
  obtain ⟨od,J,_⟩:=O.look
  exact Zo1 (PySem.W.kitx_own (cl.get _) cl.hd ha hn Gj hm) I.fj J e (fun z=>nomatch z) h
end
structure aS (k:Nat) (A:Around):Prop where
 hd:A.handled=none
 dp:A.depth+3 * k+5<recursionLimit
 un:A.units+16 * k+200<cLine
theorem aS.mono {j k:Nat}{A:Around} (r:aS k A) (h:j<=k):aS j A:=⟨r.hd,by have:=r.dp;omega,by have:=r.un;omega⟩
theorem aS.deeper {k:Nat}{A:Around} (r:aS (k+1) A) (env:Env):aS k (A.deeper env) :=
 ⟨r.hd,by have:=r.dp;show A.depth+1+3 * k+5<_;omega,by have:=r.un;show A.units+3+16 * k+200<_;omega⟩
theorem aS.in1 {k:Nat}{A:Around} (r:aS (k+1) A):aS k A.in1 :=
 ⟨r.hd,by have:=r.dp;show A.depth+3 * k+5<_;omega,by have:=r.un;show A.units+1+16 * k+200<_;omega⟩
theorem QH {A:Around}{C:Addr}{us:List Value}{kw:List (Str × Value)}:(A.under (.builtin "type.__call__" ⟨.ref C :: us,kw⟩)).depth=A.depth+1:=by
 first | rfl | simp [Around.under,Code.weight,Code.isCreation,Code.isGuard,Code.isCaller,Code.frames,Code.isFrame,guardIds]
theorem J1 {A:Around}{C:Addr}{us:List Value}{kw:List (Str × Value)}:(A.under (.builtin "type.__call__" ⟨.ref C :: us,kw⟩)).units=A.units+1:=by
 first | rfl | simp [Around.under,Code.cUnits,Code.frames,Code.isFrame]
theorem aS.make {k:Nat}{A:Around} (r:aS (k+1) A) (C:Addr) (us:List Value) (kw:List (Str × Value)):aS k (A.under (.builtin "type.__call__" ⟨.ref C :: us,kw⟩)) :=
 ⟨r.hd,by have:=r.dp;rw [QH];omega,by have:=r.un;rw [J1];omega⟩
theorem aS.depth {k:Nat}{A:Around} (r:aS k A):A.depth<recursionLimit:=by have:=r.dp;omega
theorem aS.units {k:Nat}{A:Around} (r:aS k A):A.units+64<cLine:=by have:=r.un;omega
noncomputable def aj:TA:=fun _ H Q=>Q [] H
noncomputable def af (ta:TE) (tr:TA):TA:=fun σ H Q=>ta σ H fun x H1=>tr σ H1 fun xs H2=>Q (x :: xs) H2
section
variable {X:Cx}{e:Expr}{es:List Expr}{te:TE}{t:TA}{pos:Pos}
theorem ak:PA X [] aj:=fun _ _ _ _ H Q I h=>Calls.spliced_nil ⟨[],H,I,.nil,h⟩
theorem ag (ha:PE X e te) (hr:PA X es t) (hs:starEach (e :: es) X.env=(false,eval e X.env) :: starEach es X.env:=by rfl):PA X (e :: es) (af te t):=by
 intro pos pins s σ H Q I h
 rw [hs]
 show wpAny _ _ (spliced ((false,eval e X.env) :: backTo pos (starEach es X.env))) _ _ s
 refine Calls.spliced_cons (aF (ha pins s σ H _ I h) fun u s1 ⟨x,H1,I1,r1,q1⟩=>?_)
 exact aF (hr pos pins s1 σ H1 _ I1 q1) fun us s2 ⟨xs,H2,I2,r2,q2⟩=>⟨x :: xs,H2,I2,.cons r1 r2,q2⟩
noncomputable def jB (t:TA):TE:=fun σ H Q=>t σ H fun xs H1=>xs.length<=sizeLine/\∀ p,H1 p=none->Q (.ref p) (upd H1 p (.tup xs))
noncomputable def gG (t:TA):TE:=fun σ H Q=>t σ H fun xs H1=>xs.length<=sizeLine/\∀ p,H1 p=none->Q (.ref p) (upd H1 p (.lst xs))
theorem kP {x1} (h:PA X es t):PE X (.Tuple es x1 pos) (jB t):=by
 intro pins s σ H Q I hq
 refine wpAny_Tuple_spliced (aF (h pos pins s σ H _ I hq) fun us s1 ⟨xs,H1,I1,r,z,q⟩=>⟨by rw [<- r.length];exact z,?_⟩)
 have hf:H1 s1.heap.objs.size=none:=I1.aw.fresh (ZqC _)
 refine ⟨.ref s1.heap.objs.size,upd H1 s1.heap.objs.size (.tup xs),I1.laid (t':=s1.toks) (fun b u e=>Heap.get?_push_of_some _ e) (ZqC _) ?_,rfl,q _ hf⟩
 exact ⟨z,us,r,⟨_,Heap.get?_push_size _ rfl,rfl,_,rfl⟩⟩
theorem ix (h:PA X es t):PE X (.List es pos) (gG t):=by
 intro pins s σ H Q I hq
 refine wpAny_List_spliced (aF (h pos pins s σ H _ I hq) fun us s1 ⟨xs,H1,I1,r,z,q⟩=>⟨by rw [<- r.length];exact z,?_⟩)
 have hf:H1 s1.heap.objs.size=none:=I1.aw.fresh (ZqC _)
 refine ⟨.ref s1.heap.objs.size,upd H1 s1.heap.objs.size (.lst xs),I1.laid (t':=s1.toks) (fun b u e=>Heap.get?_push_of_some _ e) (ZqC _) ?_,rfl,q _ hf⟩
 exact ⟨z,us,0,r,Heap.get?_push_size _ rfl⟩
end
noncomputable abbrev Sp:=List V->Hp->VK->XK->Prop
noncomputable abbrev iL:=List Env->Hp->Shared->XK->Value->Shared->Prop
structure fB (P:Program) (w:World) (K:ZoW) (mg:Str->Option Value) (base:Heap) (A:Around) (outer:List Env) (s:Shared) (H:Hp):Prop where
 frames:A.frames=some outer
 mod:Mod K mg base
 bs:∀ b o,base.get? b=some o->s.heap.get? b=some o/\H b=none
 iO:base.objs.size<=s.heap.objs.size
 dw:s.heap.FunFrames base outer
 jZ:∀ b∈hW outer,H b=none
 aw:du P w H s.heap
 bare:AllBare s.gens
noncomputable def CE (outer:List Env) (P:Program) (w:World) (H:Hp) (s:Shared) (Q:VK) (u:Value) (s':Shared):Prop :=
 ∃ v H',s'.os=s.os/\AllBare s'.gens/\Un (hW outer) [] H H' s.heap s'.heap/\du P w H' s'.heap/\aH v u/\Q v H'
noncomputable def CR (CX:iL) (outer:List Env) (P:Program) (w:World) (H:Hp) (s:Shared) (Q:VK) (E:XK) (r:Result) (s':Shared):Prop :=
 match r with
 | .ok (.ret u)=>CE outer P w H s Q u s'
 | .ok _=>False
 | .error e=>CX outer H s E e s'
structure aB (P:Program) (w:World) (K:ZoW) (mg:Str->Option Value) (base:Heap) (CX:iL) (k:Nat) (f:Addr) (fd:FuncData) (ps:List Str) (sp:Sp):Prop where
 len:∀ vs H Q E,sp vs H Q E->vs.length=ps.length
 run:∀ (A:Around) (outer:List Env) (s:Shared) (H:Hp) (args:Args) (us:List Value) (vs:List V) (Q:VK) (E:XK),aS k A->fB P w K mg base A outer s H->BindsTo s fd args (ps.zip us)->Vals vs us->sp vs H Q E ->
  codeAny (model P w) A (.call (.ref f) args) (CR CX outer P w H s Q E) s
theorem fB.make {P:Program}{w:World}{K:ZoW}{mg:Str->Option Value}{base:Heap}{A:Around}{outer:List Env}{s:Shared}{H:Hp} (e:fB P w K mg base A outer s H) (C:Addr) (us:List Value) (kw:List (Str × Value)) :
  fB P w K mg base (A.under (.builtin "type.__call__" ⟨.ref C :: us,kw⟩)) outer s H:=⟨by first | exact e.frames | (simpa [Around.under,Code.envs,Code.isFrame,pushEnvs] using e.frames),e.mod,e.bs,e.iO,e.dw,e.jZ,e.aw,e.bare⟩
theorem fB.in1 {P:Program}{w:World}{K:ZoW}{mg:Str->Option Value}{base:Heap}{A:Around}{outer:List Env}{s:Shared}{H:Hp} (e:fB P w K mg base A outer s H) :
  fB P w K mg base A.in1 outer s H:=⟨e.frames,e.mod,e.bs,e.iO,e.dw,e.jZ,e.aw,e.bare⟩
section
variable {X:Cx}{pins:List (Addr × Obj)}{σ:St}{H:Hp}{s s':Shared}
theorem Inv.ud (I:Inv X pins σ H s):fB X.prog X.w X.K X.mg X.base X.A X.stack s H :=
 ⟨I.ok.frames,I.ok.mod,I.bs,ZqE I.ok.iO I.sz,I.stack,I.gD,I.aw,I.bare⟩
theorem Inv.after {Q:VK}{u:Value} (I:Inv X pins σ H s) (h:CE X.stack X.prog X.w H s Q u s'):EP X pins σ Q u s':=by
 obtain ⟨v,H',os,bare,un,aw,r,q⟩:=h
 obtain ⟨hh,g,d,t,os'⟩:=s'
 obtain rfl:os'=s.os:=os
 exact ⟨v,H',I.call (h':=hh) (g':=g) (d':=d) (t':=t) (ch:=[]) un aw bare (fun b z=>absurd z (by simp)),r,q⟩
end
noncomputable def bH (sp:Sp) (gd:List V) (E:XK) (t:TA):TE:=fun σ H Q=>t σ H fun vs H1=>sp (vs ++ gd) H1 Q E
noncomputable def ri (C:Addr) (m:Str) (sp:Sp) (gd:List V) (E:XK) (ta:TE) (t:TA):TE:=fun σ H Q=>ta σ H fun x H1=>∃ a dx fs,x=.ref a/\H1 a=some (.ins C dx fs)/\fs.lookup m=none /\
 t σ H1 fun vs H2=>sp (x :: (vs ++ gd)) H2 Q E
noncomputable def AY (C:Addr) (sp:Sp) (gd:List V) (E:XK) (t:TA):TE:=fun σ H Q=>t σ H fun vs H1=>∀ x dx,H1 x=none->H1 dx=none->dx≠x ->
 sp (.ref x :: (vs ++ gd)) (upd (upd H1 dx (.own x)) x (.ins C dx [])) (fun v H2=>v=.non/\Q (.ref x) H2) E
noncomputable def kH (K:ZoW) (fd:FuncData) (ps:List Str) (ds:List Value):Prop :=
 ∀ (s:Shared) (us:List Value),K.In s.heap->(us ++ ds).length=ps.length->BindsTo s fd ⟨us,[]⟩ (ps.zip (us ++ ds))
theorem kH.all {K:ZoW}{fd:FuncData}{ps:List Str} (h:∀ us:List Value,us.length=ps.length->bindArgs fd ⟨us,[]⟩=pure (ps.zip us)):kH K fd ps []:=fun s us _ hl=>by
 rw [Zp4] at hl ⊢
 exact .of_eq (h us hl)
noncomputable def oa (CX:iL) (X:Cx) (E:XK):Prop:=∀ (pins:List (Addr × Obj)) (σ:St) (H:Hp) (s:Shared) (e:Value) (s':Shared),Inv X pins σ H s->CX X.stack H s E e s'->X.xe e s'
section
variable {X:Cx}{CX:iL}{k:Nat}{f C:Addr}{fd:FuncData}{ps:List Str}{sp:Sp}{gd:List V}{ds:List Value}{E:XK}{x m:Str}{p pos apos:Pos}{e o:Expr}{es:List Expr}{ta:TE}{t:TA}
theorem JK {pins:List (Addr × Obj)}{σ:St}{H:Hp}{s:Shared}{Q:VK}{us:List Value}{vs:List V} (F:aB X.prog X.w X.K X.mg X.base CX k f fd ps sp) (hr:aS k X.A) (hb:kH X.K fd ps ds) (hd:Vals gd ds) (hx:oa CX X E)
  (I:Inv X pins σ H s) (r:Vals vs us) (h:sp (vs ++ gd) H Q E):wpAny (model X.prog X.w) X.A (call (.ref f) us) (EP X pins σ Q) X.xe s:=by
 have r2:Vals (vs ++ gd) (us ++ ds):=r.append hd
 have hl:(us ++ ds).length=ps.length:=by rw [<- r2.length];exact F.len _ _ _ _ h
 refine wpAny_call (codeAny_mono (F.run X.A X.stack s H ⟨us,[]⟩ (us ++ ds) (vs ++ gd) Q E hr I.ud (hb s us I.fj hl) r2 h) fun r s' hq=>?_)
 cases r with
 | error e=>exact hx pins σ H s e s' I hq
 | ok fl =>
  cases fl with
  | ret u=>exact I.after hq
  | next=>exact False.elim hq
  | brk=>exact False.elim hq
  | cont=>exact False.elim hq
theorem Ls (F:aB X.prog X.w X.K X.mg X.base CX k f fd ps sp) (hr:aS k X.A) (hg:Gl X x) (hm:X.mg x=some (.ref f)) (hk:Zo5 X.K (.ref f)=true) (hb:kH X.K fd ps ds) (hd:Vals gd ds) (hx:oa CX X E)
  (ha:PA X (e :: es) t) (kZ:(x == ("__debug__" : Str))=false:=by decide) (he:starEach (e :: es) X.env=(false,eval e X.env) :: starEach es X.env:=by rfl) (eB:(backTo pos (starEach es X.env)).any (·.1)=false:=by rfl) :
  PE X (.Call (.Name x p) (e :: es) [] pos) (bH sp gd E t):=by
 intro pins s σ H Q I h
 refine wpAny_Call_Name_kw (Aw I hg hm ?_ kZ)
 refine Zpm (h₀:=X.base) I.ok.mod.zA hk (aF (ha pos pins s σ H _ I h) fun us s1 ⟨vs,H1,I1,r,q⟩=>⟨I1.fj,?_⟩) he eB
 exact JK F hr hb hd hx I1 r q
theorem vR {pl:Sem Bool} (he:PE X o ta) (c:jS X.K C) (hm:Meth X.K C m f) (F:aB X.prog X.w X.K X.mg X.base CX k f fd ps sp) (hr:aS k X.A) (hb:kH X.K fd ps ds) (hd:Vals gd ds) (hx:oa CX X E)
  (ht:eval (.Call (.Attribute o m apos) [] [] pos) X.env=(do
   let ov <- eval o X.env
   standAt apos.atName
   let (f,first) <- holding [ov] (getMethod ov m pl)
   callWith pos f first (backTo pos (starEach [] X.env)) (backToKw pos (keywordEach [] X.env))):=by rfl) :
  PE X (.Call (.Attribute o m apos) [] [] pos) (ri C m sp gd E ta aj):=by
 intro pins s σ H Q I h
 refine PySem.W.methodCall_KW (pl:=pl) (aF (he pins s σ H _ I h) fun u s1 ⟨x,H1,I1,rx,a,dx,fs,ex,ea,l,q⟩=>?_) ht
 subst ex
 obtain rfl:u=Value.ref a:=rx
 refine KD I1 ea c hm l ?_
 exact PySem.W.callWith_K0 (first:=[.ref a]) I1.fj hm.kp (JK (us:=[.ref a]) (vs:=[.ref a]) F hr hb hd hx I1 (.cons rfl .nil) q)
structure Mk (K:ZoW) (C f:Addr):Prop where
 makes:Zph K C=true
 init:ZoY K (.ref C) "__init__" = some (some (.ref f))
 fn:Zpb K (.ref f)=true
 kp:Zo5 K (.ref C)=true
theorem N4 {pins:List (Addr × Obj)}{σ:St}{H:Hp}{s:Shared}{Q:VK}{us:List Value}{vs:List V} (M:Mk X.K C f) (F:aB X.prog X.w X.K X.mg X.base CX k f fd ps sp) (hr:aS (k+1) X.A) (hb:kH X.K fd ps ds) (hd:Vals gd ds)
  (hx:oa CX X E) (I:Inv X pins σ H s) (r:Vals vs us)
  (h:∀ x dx,H x=none->H dx=none->dx≠x->sp (.ref x :: (vs ++ gd)) (upd (upd H dx (.own x)) x (.ins C dx [])) (fun v H2=>v=.non/\Q (.ref x) H2) E) :
  wpAny (model X.prog X.w) X.A (call (.ref C) us) (EP X pins σ Q) X.xe s:=by
 have hq:=h (s.heap.objs.size+1) s.heap.objs.size (I.aw.fresh (ZqQ _)) (I.aw.fresh (ZqC _)) (ZqD (ZqO _))
 have I2:=Inv.made (C:=C) I
 have r2:Vals (V.ref (s.heap.objs.size+1) :: (vs ++ gd)) (Value.ref (s.heap.objs.size+1) :: (us ++ ds)):=.cons rfl (r.append hd)
 have hl:(Value.ref (s.heap.objs.size+1) :: us ++ ds).length=ps.length:=by
  have e:=r2.length
  rw [F.len _ _ _ _ hq] at e
  exact e.symm
 refine wpAny_call (MG (f:=f) I.fj M.makes M.init (beq_iff_eq.mp M.fn) (codeAny_mono (F.run _ X.stack _ _ ⟨Value.ref (s.heap.objs.size+1) :: us,[]⟩ (Value.ref (s.heap.objs.size+1) :: (us ++ ds)) _ _ E (hr.make C us [])
  (I2.ud.make C us []) (hb _ (Value.ref (s.heap.objs.size+1) :: us) I2.fj hl) r2 hq) fun r s' hq'=>?_))
 cases r with
 | error e=>exact hx pins σ _ _ e s' I2 hq'
 | ok fl =>
  cases fl with
  | ret u =>
   obtain ⟨v,H',I3,rv,ev,q3⟩:=I2.after hq'
   subst ev
   exact ⟨rv,⟨V.ref (s.heap.objs.size+1),H',I3,rfl,q3⟩⟩
  | next=>exact False.elim hq'
  | brk=>exact False.elim hq'
  | cont=>exact False.elim hq'
theorem PR (M:Mk X.K C f) (F:aB X.prog X.w X.K X.mg X.base CX k f fd ps sp) (hr:aS (k+1) X.A) (hg:Gl X x) (hm:X.mg x=some (.ref C)) (hb:kH X.K fd ps ds) (hd:Vals gd ds) (hx:oa CX X E)
  (ha:PA X (e :: es) t) (kZ:(x == ("__debug__" : Str))=false:=by decide) (he:starEach (e :: es) X.env=(false,eval e X.env) :: starEach es X.env:=by rfl) (eB:(backTo pos (starEach es X.env)).any (·.1)=false:=by rfl) :
  PE X (.Call (.Name x p) (e :: es) [] pos) (AY C sp gd E t):=by
 intro pins s σ H Q I h
 refine wpAny_Call_Name_kw (Aw I hg hm ?_ kZ)
 refine Zpm (h₀:=X.base) I.ok.mod.zA M.kp (aF (ha pos pins s σ H _ I h) fun us s1 ⟨vs,H1,I1,r,q⟩=>⟨I1.fj,?_⟩) he eB
 exact N4 M F hr hb hd hx I1 r q
end
noncomputable def PK (X:Cx) (Fl:List Keyword) (t:TA):Prop :=
 ∀ (pos:Pos) (pins:List (Addr × Obj)) (s:Shared) (σ:St) (H:Hp) (Q:List V->Hp->Prop),Inv X pins σ H s->t σ H Q->wpAny (model X.prog X.w) X.A (evalAll ((backToKw pos (keywordEach Fl X.env)).map (·.2))) (AP X pins σ Q) X.xe s
section
variable {X:Cx}{CX:iL}{k:Nat}{f C:Addr}{fd:FuncData}{ps ks:List Str}{sp:Sp}{E:XK}{x m:Str}{p pos apos NH:Pos}{e o:Expr}{es:List Expr}{Fl:List Keyword}{te ta:TE}{t tk:TA}{nm:Option Str}
structure AL (K:ZoW) (fd:FuncData) (ps ks:List Str) (g:List Value->List Value->List Value) (gV:List V->List V->List V):Prop where
 to:∀ (s:Shared) (us ws:List Value),K.In s.heap->(g us ws).length=ps.length->BindsTo s fd ⟨us,ks.zip ws⟩ (ps.zip (g us ws))
 rel:∀ {vs:List V}{us:List Value}{zs:List V}{ws:List Value},Vals vs us->Vals zs ws->Vals (gV vs zs) (g us ws)
variable {g:List Value->List Value->List Value}{gV:List V->List V->List V}
end
structure ai (N P:List Str) (sc:Scope):Prop where
 kind:sc.kind=.function
 co:sc.isCoroutine=false
 gen:sc.isGenerator=false
 nd:N.Nodup
 pre:N.take P.length=P
 par:∀ x∈P,sc.names.lookup x=some .local\/sc.names.lookup x=some .cell
 pA:∀ y∈sc.names,y.2≠.free
theorem EB {kindOf:Str->Option NameKind}{x:Str}:∀ {binds:List (Str × Value)}{m:Str->Option Value},(∀ v,(x,v) ∉ binds)->bindL kindOf binds m x=m x
 | [],_,_=>rfl
 | (n,v) :: r,m,h=>by
  unfold bindL
  rw [EB fun w hw=>h w (ZpL _ hw)]
  split
  ·have:x≠n:=by rintro rfl;exact h v ZpK
   simp [this]
  ·rfl
theorem GO {kindOf:Str->Option NameKind}{x:Str}:∀ {binds:List (Str × Value)}{m:Str->Option Value},(∀ v,(x,v) ∉ binds)->bindC kindOf binds m x=m x
 | [],_,_=>rfl
 | (n,v) :: r,m,h=>by
  unfold bindC
  rw [GO fun w hw=>h w (ZpL _ hw)]
  split
  ·rfl
  ·have:x≠n:=by rintro rfl;exact h v ZpK
   simp [this]
theorem F0 {kindOf:Str->Option NameKind}{x:Str}{v:Value}:∀ {P:List Str}{vs:List Value}{i:Nat}{m:Str->Option Value},P.Nodup->P[i]? = some x->vs[i]? = some v->kindOf x=some .local ->
  bindL kindOf (P.zip vs) m x=some v
 | [],_,_,_,_,h,_,_=>by simp at h
 | _ :: _,[],_,_,_,_,h,_=>by simp at h
 | p :: P,w :: vs,0,m,nd,h1,h2,hk=>by
  simp at h1 h2;subst h1;subst h2
  show bindL kindOf ((p,w) :: P.zip vs) m p=_
  unfold bindL
  rw [EB fun v hv=>(Zql.mp nd).1 (Zqo hv).1,if_pos hk]
  simp
 | p :: P,w :: vs,i+1,m,nd,h1,h2,hk=>by
  show bindL kindOf ((p,w) :: P.zip vs) m x=_
  unfold bindL
  exact F0 (i:=i) (Zql.mp nd).2 (by simpa using h1) (by simpa using h2) hk
theorem Gi {kindOf:Str->Option NameKind}{x:Str}{v:Value}:∀ {P:List Str}{vs:List Value}{i:Nat}{m:Str->Option Value},P.Nodup->P[i]? = some x->vs[i]? = some v->kindOf x≠some .local ->
  bindC kindOf (P.zip vs) m x=some v
 | [],_,_,_,_,h,_,_=>by simp at h
 | _ :: _,[],_,_,_,_,h,_=>by simp at h
 | p :: P,w :: vs,0,m,nd,h1,h2,hk=>by
  simp at h1 h2;subst h1;subst h2
  show bindC kindOf ((p,w) :: P.zip vs) m p=_
  unfold bindC
  rw [GO fun v hv=>(Zql.mp nd).1 (Zqo hv).1,if_neg hk]
  simp
 | p :: P,w :: vs,i+1,m,nd,h1,h2,hk=>by
  show bindC kindOf ((p,w) :: P.zip vs) m x=_
  unfold bindC
  exact Gi (i:=i) (Zql.mp nd).2 (by simpa using h1) (by simpa using h2) hk
noncomputable def lr (N:List Str) (vs:List V):St:=vs.map some ++ ZpV (N.length - vs.length) none
noncomputable def pL (CX:iL) (P:Program) (w:World) (K:ZoW) (mg:Str->Option Value) (base:Heap) (N:List Str) (qual:Str) (scope:Scope) (f:Addr) (cd:Value) (A:Around) (outer:List Env) (s:Shared) (H:Hp) (E:XK):Cx where
 prog:=P
 w:=w
 K:=K
 mg:=mg
 base:=base
 A:=A.deeper (envOfC qual scope s.heap.objs.size f cd)
 N:=N
 s₀:=s
 H₀:=H
 env:=envOfC qual scope s.heap.objs.size f cd
 outer:=outer
 stack:=envOfC qual scope s.heap.objs.size f cd :: outer
 ex:=[]
 calm:=true
 fn:=fun _=>true
 pn:=[]
 xe:=fun e s'=>wpAny (model P w) (A.deeper (envOfC qual scope s.heap.objs.size f cd)) (leaving (envOfC qual scope s.heap.objs.size f cd) e) (fun _ s''=>CX outer H s E e s'') (fun e' s''=>CX outer H s E e' s'') s'
theorem EK {sc:Scope}{n:Nat}{x:Str} (h:sc.names.lookup x=some .cell):∃ c,(cellsFrom n sc.names []).lookup x=some c:=by
 have q:=Zpn sc.names n [] (.inl h)
 exact Option.isSome_iff_exists.mp q
theorem JU {CX:iL}{P:Program}{w:World}{K:ZoW}{mg:Str->Option Value}{base:Heap}{N ps:List Str}{qual:Str}{scope:Scope}{f:Addr}{cd:Value}{A:Around}{outer:List Env}{s s1:Shared}{H:Hp}{E:XK}{us:List Value}{vs:List V}
  (S:ai N ps scope) (hd:A.handled=none) (e0:fB P w K mg base A outer s H) (hl:vs.length=ps.length) (r:Vals vs us)
  (x:InCallC s s.heap.objs.size (bindL (envOfC qual scope s.heap.objs.size f cd).kindOf (ps.zip us) fun _=>none) (cellsFrom (s.heap.objs.size+1) scope.names []) (bindC (envOfC qual scope s.heap.objs.size f cd).kindOf (ps.zip us) fun _=>none) s1) :
  Inv (pL CX P w K mg base N qual scope f cd A outer s H E) [] (lr N vs) H s1:=by
 have eB:ps.length<=N.length:=by have:=congrArg List.length S.pre;rw [ZpT] at this;omega
 obtain ⟨h1,tk,rfl,hk⟩:=x.done
 have vC:∀ b:Addr,b ∉ (pL CX P w K mg base N qual scope f cd A outer s H E).ex:=fun b z=>absurd (show b∈([]:List Addr) from z) (by simp)
 refine ⟨⟨e0.mod,S.kind,rfl,rfl,ZqC _,fun y z c h1 h2=>?_,fun y hy=>?_,fun y c _ h=>?_,fun _=>hd,Around.frames_deeper e0.frames,.inr ⟨rfl,rfl⟩,fun b z=>absurd z (vC b),e0.bs,e0.iO,fun b _ _=>vC b,fun b z=>absurd z (vC b),e0.dw,e0.jZ⟩,
  rfl,e0.bare,Un.kept hk,⟨_,x.toInCall.ns,fun i y v h1 h2 h3=>?_⟩,fun y c h=>⟨_,x.cell y c h⟩,e0.aw.fresh (ZqC _),fun y c h=>?_,fun p hp=>absurd (show p∈([]:List (Addr × Obj)) from hp) (by simp),e0.aw.kept hk,?_⟩
 ·exact name_of_addr x.apart (PySem.mem_of_lookup h1) (PySem.mem_of_lookup h2)
 ·have hy:scope.names.lookup y=some .cell\/scope.names.lookup y=some .free:=hy
  rcases hy with hy | hy
  ·exact EK hy
  ·exact absurd rfl (S.pA _ (PySem.mem_of_lookup hy))
 ·exact ZqN (x.above y c (PySem.mem_of_lookup h))
 ·have hi:i<vs.length:=by
   unfold lr at h2
   by_cases hi:i<vs.length
   ·exact hi
   ·rw [ZpP (by simpa using hi)] at h2
    rw [Zqp] at h2
    split at h2 <;> cases h2
  have ha:vs[i]? = some v:=by
   unfold lr at h2
   rw [ZpQ (by simpa using hi),ZpB] at h2
   cases e:vs[i]? with
   | none=>rw [e] at h2;cases h2
   | some a=>rw [e] at h2;cases h2;rfl
  obtain ⟨u,hu,rv⟩:=r.get ha
  have hp:ps[i]? = some y:=by
   rw [<- S.pre,List.getElem?_take_of_lt (by omega)];exact h1
  have Fx:ps.Nodup:=by rw [<- S.pre];exact S.nd.sublist (List.take_sublist _ _)
  refine ⟨u,rv,?_⟩
  rcases S.par y (Zp5 hp) with k | k
  ·exact .inl ⟨k,F0 Fx hp hu k⟩
  ·obtain ⟨c,e⟩:=EK (n:=s.heap.objs.size+1) k
   refine .inr ⟨.inl k,c,e,?_⟩
   have q:=x.cell y c e
   rw [Gi Fx hp hu (by show scope.names.lookup y≠_;rw [k];decide)] at q
   exact q
 ·exact e0.aw.fresh (ZqN (x.above y c (PySem.mem_of_lookup h)))
 ·unfold lr
  show _=N.length
  rw [ZpD,Zpu,Zqc]
  omega
theorem yw {CX:iL}{P:Program}{w:World}{K:ZoW}{mg:Str->Option Value}{base:Heap}{k:Nat}{f:Addr}{name qual:Str}{params:Arguments}{body:List Stmt}{scope:Scope}{dV kV doc pm bY ct oc:Value}{an od:Option Addr}
  {jj:Array (Option Value)}{N ps:List Str}{sp:Sp} (lk:K.lookup f=some ⟨oc,od,.func (Zo0 name qual params body scope dV kV doc pm an bY ct),jj⟩) (jL:Zo8 K bY qual=true) (S:ai N ps scope)
  (len:∀ vs H Q E,sp vs H Q E->vs.length=ps.length)
  (j3:∀ (A:Around) (outer:List Env) (s:Shared) (H:Hp) (vs:List V) (Q:VK) (E:XK),aS k (A.deeper (envOfC qual scope s.heap.objs.size f bY))->sp vs H Q E ->
   ∃ t,iu (pL CX P w K mg base N qual scope f bY A outer s H E) body t/\t { nx:=fun _ H'=>Q .non H',rt:=Q } (lr N vs) H) :
  aB P w K mg base CX (k+1) f (Zo0 name qual params body scope dV kV doc pm an bY ct) ps sp:=by
 refine ⟨len,fun A outer s H args us vs Q E hr e0 hb r i6=>?_⟩
 have hl:=len _ _ _ _ i6
 have KX:K.In s.heap:=e0.mod.zA.keeps fun b o e=>(e0.bs b o e).1
 have lim:s.heap.NoLimit:=e0.mod.nolimit.keeps fun b o e=>(e0.bs b o e).1
 have i5:∀ y∈ps.zip us,scope.names.lookup y.1=some .local\/(scope.names.lookup y.1=some .cell/\((cellsFrom (s.heap.objs.size+1) scope.names []).lookup y.1).isSome=true):=fun ⟨n,v⟩ hy=>by
  rcases S.par n (Zqo hy).1 with q | q
  ·exact .inl q
  ·exact .inr ⟨q,Zpn _ _ _ (.inl q)⟩
 refine codeAny_call_function hr.depth (KX _ _ lk) rfl S.co S.gen rfl (PySem.W.codeRec_of KX jL) (hb _ _ _ _ ?_)
 refine wpAny_newFunctionEnv_cells S.kind i5 fun env he s1 x=>?_
 subst he
 refine ⟨lim.keeps x.toInCall.keep,codeAny_func ?_⟩
 obtain ⟨t,ht,hq⟩:=j3 A outer s H vs Q E (hr.deeper _) i6
 have I:Inv (pL CX P w K mg base N qual scope f bY A outer s H E) [] (lr N vs) H s1:=JU S hr.hd e0 hl r x
 refine wpAny_mono (ht [] s1 (lr N vs) H _ I hq) (fun fl s' hs=>?_) fun e s' hs=>hs
 have fin:∀ {σ':St}{H':Hp}{v:V}{u:Value},Inv (pL CX P w K mg base N qual scope f bY A outer s H E) [] σ' H' s'->aH v u->Q v H'->CE outer P w H s Q u s' :=
  fun {σ' H' v u} J rv q=>⟨v,H',J.os,J.bare,J.base,J.aw,rv,q⟩
 cases fl with
 | ret u =>
  obtain ⟨v,σ',H',J,rv,q⟩:=hs
  exact fin J rv q
 | next =>
  obtain ⟨σ',H',J,q⟩:=hs
  exact fin (v:=V.non) (u:=Value.none) J rfl q
 | brk =>
  obtain ⟨_,_,_,q⟩:=hs
  exact False.elim q
 | cont =>
  obtain ⟨_,_,_,q⟩:=hs
  exact False.elim q
section
variable {X:Cx}{x:Str}{p pos:Pos}{e:Expr}{es:List Expr}{t:TA}{id T:String}{r:List V->Hp->VK->Prop}
noncomputable def aX (r:List V->Hp->VK->Prop) (t:TA):TE:=fun σ H Q=>t σ H fun vs H1=>r vs H1 Q
theorem cq (hc:fD X (.builtin id) r) (hg:Gl X x) (hm:X.mg x=none) (hv:bootBuiltins x=some (.builtin id)) (ha:PA X (e :: es) t) (hn:x ≠ "__name__":=by decide) (kZ:(x == ("__debug__" : Str))=false:=by decide)
  (he:starEach (e :: es) X.env=(false,eval e X.env) :: starEach es X.env:=by rfl) (eB:(backTo pos (starEach es X.env)).any (·.1)=false:=by rfl):PE X (.Call (.Name x p) (e :: es) [] pos) (aX r t):=by
 intro pins s σ H Q I h
 refine wpAny_Call_Name_kw (j9 I hg hm hv ?_ hn kZ)
 exact PyProof.Rows.callWith_builtin1 (aF (ha pos pins s σ H _ I h) fun us s1 ⟨vs,H1,I1,r1,q1⟩=>hc pins s1 σ H1 vs us Q I1 r1 q1) he eB
theorem gj (hc:fD X (.type T) r) (hg:Gl X x) (hm:X.mg x=none) (hv:bootBuiltins x=some (.type T)) (ha:PA X (e :: es) t) (hn:x ≠ "__name__":=by decide) (kZ:(x == ("__debug__" : Str))=false:=by decide)
  (he:starEach (e :: es) X.env=(false,eval e X.env) :: starEach es X.env:=by rfl) (eB:(backTo pos (starEach es X.env)).any (·.1)=false:=by rfl):PE X (.Call (.Name x p) (e :: es) [] pos) (aX r t):=by
 intro pins s σ H Q I h
 refine wpAny_Call_Name_kw (j9 I hg hm hv ?_ hn kZ)
 exact PyProof.Rows.callWith_type1 (aF (ha pos pins s σ H _ I h) fun us s1 ⟨vs,H1,I1,r1,q1⟩=>hc pins s1 σ H1 vs us Q I1 r1 q1) he eB
end
end L2
namespace HT
open PySem PyProof.Rows
section
open PySem.SeqAt
open PySem.AutoSeq1 (wpAny_loadPart')
open PySem.MeetsSeq PySem.MeetsSeq2 PySem.MeetsSeq3
end
section
variable {prog:Program}{w:World}{A:Around}{E:Value->Shared->Prop}{s:Shared}
noncomputable def fX (n d:Nat):Option Int->Nat
 | none=>d
 | some v=>if v<0 then (v+(n:Int)).toNat else min v.toNat n
theorem FW (n d:Nat):fX n d none=d:=rfl
theorem zd (n d k:Nat):fX n d (some (k:Int))=min k n:=by
 show (if (k:Int)<0 then ((k:Int)+(n:Int)).toNat else min (k:Int).toNat n)=min k n
 rw [if_neg (by omega),Zq1]
end
end HT
namespace L2
open PySem PySem.Spec PyProof.Rows
noncomputable abbrev TO:=St->Hp->(Option Int->Hp->Prop)->Prop
noncomputable def PO (X:Cx) (e:Option Expr) (t:TO):Prop :=
 ∀ (pins:List (Addr × Obj)) (s:Shared) (σ:St) (H:Hp) (Q:Option Int->Hp->Prop),Inv X pins σ H s->t σ H Q ->
  wpAny (model X.prog X.w) X.A (evalPart e X.env) (fun u s'=>∃ o H',Inv X pins σ H' s'/\IsPart u o/\Q o H') X.xe s
noncomputable def rJ:TO:=fun _ H Q=>Q none H
noncomputable def Ah (t:TE):TO:=fun σ H Q=>t σ H fun x H1=>∃ i,x=.int i/\Q (some i) H1
theorem HE {ns:List Int}:∀ {us:List Value},Vals (ns.map V.int) us->IntsAre us ns:=by
 induction ns with
 | nil=>intro us r;rw [Zp9] at r;cases r;exact .nil
 | cons n ns ih =>
  intro us r
  rw [Zpx] at r
  cases r with
  | cons r1 r2 =>
   obtain ⟨t,e⟩:=r1
   subst e
   exact .cons n t (ih r2)
section
variable {X:Cx}{e:Expr}{te:TE}{lo hi:Option Expr}{tl th:TO}{pos p2:Pos}
theorem yS:PO X none rJ:=by
 intro pins s σ H Q I h
 rw [evalPart_none]
 exact wpAny_pure ⟨none,H,I,.none,h⟩
theorem KZ (h:PE X e te):PO X (some e) (Ah te):=by
 intro pins s σ H Q I hw
 rw [evalPart_some]
 refine aF (h pins s σ H _ I hw) fun u s1 ⟨x,H1,I1,r1,q1⟩=>?_
 obtain ⟨i,rfl,q⟩:=q1
 obtain ⟨t,rfl⟩:=r1
 exact ⟨some i,H1,I1,.int i t,q⟩
noncomputable def lL (X:Cx) (r:V->Option Int->Option Int->Hp->VK->Prop):Prop :=
 ∀ (pins:List (Addr × Obj)) (s:Shared) (σ:St) (H:Hp) (x:V) (v vl vu:Value) (lo hi:Option Int) (sl:Addr) (Q:VK),Inv X pins σ H s->aH x v->s.heap.IsSliceOf sl vl vu .none->IsPart vl lo->IsPart vu hi->r x lo hi H Q ->
  ∃ T id,typeLookup (.type T) "__getitem__" = pure (some (.builtin id))/\s.TypeIs v T/\wpAny (model X.prog X.w) X.A (getItem v (.ref sl)) (EP X pins σ Q) X.xe s
noncomputable def mi (r:V->Option Int->Option Int->Hp->VK->Prop) (te:TE) (tl th:TO):TE:=fun σ H Q=>te σ H fun x H1=>tl σ H1 fun l H2=>th σ H2 fun u H3=>r x l u H3 Q
theorem sj {r:V->Option Int->Option Int->Hp->VK->Prop} (hr:lL X r) (he:PE X e te) (hl:PO X lo tl) (hu:PO X hi th):PE X (.Subscript e (.Slice lo hi none p2) pos) (mi r te tl th):=by
 intro pins s σ H Q I h
 refine Subscript_ (aF (he pins s σ H _ I h) fun v s1 ⟨x,H1,I1,r1,q1⟩=>?_)
 refine wpAny_Slice (aF (hl pins s1 σ H1 _ I1 q1) fun vl s2 ⟨l,H2,I2,pl,q2⟩=>aF (hu pins s2 σ H2 _ I2 q2) fun vu s3 ⟨u,H3,I3,pu,q3⟩=>?_)
 rw [evalPart_none]
 refine wpAny_pure ?_
 have I4:Inv X pins σ H3 { s3 with heap:=s3.heap.push { cls:=.type "slice",data:=.fields #[vl,vu,.none] } }:=I3.kept (t':=s3.toks) fun b ob q=>Heap.get?_push_of_some _ q
 obtain ⟨T,id,hT,ht,hg⟩:=hr pins { s3 with heap:=s3.heap.push { cls:=.type "slice",data:=.fields #[vl,vu,.none] } } σ H3 x v vl vu l u s3.heap.objs.size Q I4 r1 (Heap.IsSliceOf.new ..) pl pu q3
 show wpAny (model X.prog X.w) X.A (subscriptTail e (.Slice lo hi none p2) v (.ref s3.heap.objs.size)) (EP X pins σ Q) X.xe { s3 with heap:=s3.heap.push { cls:=.type "slice",data:=.fields #[vl,vu,.none] } }
 exact tail_any (ops:=[.ref s3.heap.objs.size,v]) ht hT hg (by with_unfolding_all rfl)
noncomputable def gZ (xs:List V) (lo hi:Option Int):List V:=(xs.drop (HT.fX xs.length 0 lo)).take (HT.fX xs.length xs.length hi - HT.fX xs.length 0 lo)
theorem P9 (xs:List V) (lo hi:Option Int):(gZ xs lo hi).length<=xs.length:=by
 unfold gZ
 rw [ZpT,Zqq]
 omega
end
noncomputable def kI (n:Nat) (i:Int):Option Nat:=if 0<=i then (if i<n then some i.toNat else none) else if -(n:Int)<=i then some (i+n).toNat else none
noncomputable def dk {α:Type} (xs:List α) (i:Int):Option α:=(kI xs.length i).bind fun j=>xs[j]?
theorem Kb {n:Nat}{i:Int}{j:Nat} (h:kI n i=some j):seqIndex? i n=some j/\j<n /\ -(n:Int)<=i/\i<n:=by
 unfold kI at h
 by_cases h0:0<=i
 ·rw [if_pos h0] at h
  by_cases h1:i<n
  ·rw [if_pos h1] at h
   have e:i.toNat=j:=Option.some.inj h
   exact ⟨by rw [seqIndex_of h0 h1,e],by omega,by omega,h1⟩
  ·rw [if_neg h1] at h;cases h
 ·rw [if_neg h0] at h
  by_cases h1 : -(n:Int)<=i
  ·rw [if_pos h1] at h
   have e:(i+n).toNat=j:=Option.some.inj h
   exact ⟨by rw [seqIndex_neg (by omega) h1,e],by omega,h1,by omega⟩
  ·rw [if_neg h1] at h;cases h
theorem Cq {α:Type}{xs:List α}{i:Int}{v:α} (h:dk xs i=some v):∃ j,seqIndex? i xs.length=some j/\xs[j]? = some v/\j<xs.length /\ -(xs.length:Int)<=i/\i<xs.length:=by
 unfold dk at h
 cases e:kI xs.length i with
 | none=>rw [e] at h;cases h
 | some j =>
  rw [e] at h
  obtain ⟨h1,h2,h3,h4⟩:=Kb e
  exact ⟨j,h1,h,h2,h3,h4⟩
theorem Mw {α:Type}{xs:List α}{j:Nat}{v:α} (h:xs[j]? = some v):dk xs (j:Int)=some v:=by
 have hj:j<xs.length:=(ZpA.mp h).1
 have e:kI xs.length (j:Int)=some j:=by
  unfold kI
  rw [if_pos (by omega),if_pos (by omega)];simp
 unfold dk;rw [e];exact h
noncomputable def KC (b:Expr):Prop:=∀ o i,subscripted b false o i=operate [o,i] (getItem o i)
noncomputable def i4 (X:Cx) (r:R2):Prop :=
 ∀ (value slice:Expr) (pins:List (Addr × Obj)) (s:Shared) (σ:St) (H:Hp) (x y:V) (v u:Value) (Q:VK),Inv X pins σ H s->aH x v->aH y u->r x y H Q ->
  subscripted slice false v u=operate [v,u] (getItem v u)->wpAny (model X.prog X.w) X.A (subscriptTail value slice v u) (EP X pins σ Q) X.xe s
noncomputable def nc (X:Cx) (id:String) (r:V->List V->Hp->VK->Prop):Prop :=
 ∀ (pins:List (Addr × Obj)) (s:Shared) (σ:St) (H:Hp) (x:V) (xs:List V) (v:Value) (us:List Value) (Q:VK),Inv X pins σ H s->aH x v->Vals xs us->r x xs H Q ->
  wpAny (model X.prog X.w) X.A (call (.builtin id) (v :: us)) (EP X pins σ Q) X.xe s
section
variable {X:Cx}{a b:Expr}{ta tb:TE}{pos:Pos}
theorem i4.or {r r':R2} (h:i4 X r) (h':i4 X r'):i4 X (fun x y H Q=>r x y H Q\/r' x y H Q):=by
 intro value slice pins s σ H x y v u Q I rx ry q hs
 rcases q with q | q
 ·exact h value slice pins s σ H x y v u Q I rx ry q hs
 ·exact h' value slice pins s σ H x y v u Q I rx ry q hs
theorem bJ {r:R2} (hr:i4 X r) (ha:PE X a ta) (hb:PE X b tb) (hs:KC b):PE X (.Subscript a b pos) (ah r ta tb):=by
 intro pins s σ H Q I h
 exact Subscript_ (oR ha hb I h fun v u s2 x y H2 I2 rx ry q=>hr a b pins s2 σ H2 x y v u Q I2 rx ry q (hs _ _))
noncomputable def tR (K:ZoW):R2:=fun x y H Q=>∃ p xs i v,x=.ref p/\y=.int i/\aI K H p xs/\dk xs i=some v/\Q v H
noncomputable def xC (K:ZoW):R2:=fun x y H Q=>∃ p xs i v,x=.ref p/\y=.int i/\bX K H p xs/\dk xs i=some v/\Q v H
noncomputable def xY:R2:=fun x y H Q=>∃ z i c,x=.str z/\y=.int i/\z.length<=sizeLine/\dk z.cps.toList i=some c/\Q (.str ⟨#[c]⟩) H
theorem OZ:i4 X (tR X.K):=by
 intro value slice pins s σ H x y v u Q I rx ry h hs
 obtain ⟨p,xs,i,z,rfl,rfl,hq,he,q⟩:=h
 cases rx
 obtain ⟨t,rfl⟩:=ry
 obtain ⟨its,r,pl,hz⟩:=I.list hq
 obtain ⟨j,h1,h2,h3,h4,h5⟩:=Cq he
 obtain ⟨w,ew,rw'⟩:=r.get h2
 have hl:=r.length
 have hn:=rD
 have fin:EP X pins σ Q w s:=⟨z,H,I,rw',q⟩
 by_cases h0:0<=i
 ·have hj:i.toNat=j:=by
   rw [seqIndex_of h0 h5] at h1
   exact Option.some.inj h1
  exact item_listR pl.isList h0 (by omega) (by rw [hj];simpa using ew) fin hs
 ·have hj:(i+(its.toArray.size:Int)).toNat=j:=by
   rw [seqIndex_neg (by omega) h4] at h1
   rw [ZpJ,<- hl]
   exact Option.some.inj h1
  exact subscriptTail_builtinR (x:=w) pl.isList.typeIs slot_list_getitem.lookup
   (wpAny_getItem_list_neg (Q:=fun r s'=>r=w/\EP X pins σ Q r s') pl.isList (by omega) (by rw [ZpJ] <;> omega) (by omega) (by rw [hj];simpa using ew) ⟨rfl,fin⟩) hs
theorem pR:i4 X (xC X.K):=by
 intro value slice pins s σ H x y v u Q I rx ry h hs
 obtain ⟨p,xs,i,z,rfl,rfl,hq,he,q⟩:=h
 cases rx
 obtain ⟨t,rfl⟩:=ry
 obtain ⟨its,r,pl,hz⟩:=I.tuple hq
 obtain ⟨j,h1,h2,h3,h4,h5⟩:=Cq he
 obtain ⟨w,ew,rw'⟩:=r.get h2
 have hl:=r.length
 have hn:=rD
 have fin:EP X pins σ Q w s:=⟨z,H,I,rw',q⟩
 exact subscriptTail_builtinR (x:=w) pl.typeIs slot_tuple_getitem.lookup
  (getItem_tuple (j:=j) (Q:=fun r s'=>r=w/\EP X pins σ Q r s') pl (by omega) (by omega) (by rw [ZpJ,<- hl];exact h1) (by simpa using ew) ⟨rfl,fin⟩) hs
theorem pz:i4 X xY:=by
 intro value slice pins s σ H x y v u Q I rx ry h hs
 obtain ⟨z,i,c,rfl,rfl,hz,he,q⟩:=h
 obtain ⟨t,rfl⟩:=rx
 obtain ⟨t',rfl⟩:=ry
 obtain ⟨j,h1,h2,h3,h4,h5⟩:=Cq he
 have hl:z.cps.toList.length=z.length:=by simp [Str.length]
 rw [hl] at h1 h4 h5
 have hn:=rD
 exact tail_any (typeIs_str s z t) slot_str_getitem.lookup (getItem_str (c:=c) (by
  have e1:decide (i < -(2 ^ 63:Int))=false:=decide_eq_false (by omega)
  have e2:decide (i ≥ 2 ^ 63)=false:=decide_eq_false (by omega)
  rw [e1,e2,Bool.or_false]) (by rw [h1];simpa using h2) ⟨.str ⟨#[c]⟩,H,I.tok _,⟨_,rfl⟩,q⟩) hs
noncomputable def LV (K:ZoW):R2:=fun x y H Q=>tR K x y H Q\/xC K x y H Q\/xY x y H Q
theorem m8:i4 X (LV X.K):=OZ.or (pR.or pz)
theorem Inv.lst {pins:List (Addr × Obj)}{σ:St}{H:Hp}{s:Shared}{p:Addr}{xs:List V} (I:Inv X pins σ H s) (h:H p=some (.lst xs)) :
  ∃ (its:List Value) (n:Nat),Vals xs its/\s.heap.get? p=some { cls:=.type "list",data:=.seq its.toArray n }/\xs.length<=sizeLine:=by
 obtain ⟨z,its,n,r,e⟩:=I.aw p _ h
 exact ⟨its,n,r,e,z⟩
theorem Q0 (lo hi:Option Int) (n:Nat):(sliceBounds lo hi none n).1=((HT.fX n 0 lo:Nat):Int)/\(sliceBounds lo hi none n).2.1=((HT.fX n n hi:Nat):Int)/\(sliceBounds lo hi none n).2.2=1:=by
 refine ⟨?_,?_,rfl⟩
 ·cases lo with
  | none=>simp [sliceBounds,HT.fX]
  | some i =>
   simp only [sliceBounds,HT.fX,Option.getD_none,show (1:Int) > 0 by decide,if_true]
   by_cases h:i<0
   ·simp only [h,if_true] <;> omega
   ·simp only [h,if_false] <;> omega
 ·cases hi with
  | none=>simp [sliceBounds,HT.fX]
  | some i =>
   simp only [sliceBounds,HT.fX,Option.getD_none,show (1:Int) > 0 by decide,if_true]
   by_cases h:i<0
   ·simp only [h,if_true] <;> omega
   ·simp only [h,if_false] <;> omega
theorem KQ (its:List Value) (lo hi:Option Int):slicePick its.toArray lo hi none=((its.drop (HT.fX its.length 0 lo)).take (HT.fX its.length its.length hi - HT.fX its.length 0 lo)).toArray:=by
 obtain ⟨h1,h2,h3⟩:=Q0 lo hi its.toArray.size
 unfold slicePick
 rw [h1,h2,h3]
 simp only [sliceRange_one,pick_run,ZpJ] <;> rfl
noncomputable def B7 (K:ZoW):V->Option Int->Option Int->Hp->VK->Prop:=fun x lo hi H Q=>∃ a xs,x=.ref a/\aI K H a xs/\∀ p,H p=none->Q (.ref p) (upd H p (.lst (gZ xs lo hi)))
theorem Ml:lL X (B7 X.K):=by
 intro pins s σ H x v vl vu lo hi sl Q I rx hs pl pu h
 obtain ⟨a,xs,rfl,hx,q⟩:=h
 cases rx
 obtain ⟨its,r,ht,hz⟩:=I.list hx
 have hlen:=r.length
 refine ⟨"list",_,slot_list_getitem.lookup,ht.isList.typeIs,?_⟩
 refine wpAny_getItem_list_slice ht.isList hs pl pu .none (by simp) ?_ (by rw [ZpJ] <;> omega)
 rw [KQ,<- hlen]
 refine ⟨.ref s.heap.objs.size,_,I.laid (t':=s.toks) (o:=.lst (gZ xs lo hi)) (fun b ob q=>Heap.get?_push_of_some _ q) (ZqC _) ?_,rfl,q _ (I.aw.fresh (ZqC _))⟩
 exact ⟨ZqE (P9 xs lo hi) hz,_,0,(r.drop (HT.fX xs.length 0 lo)).take (HT.fX xs.length xs.length hi - HT.fX xs.length 0 lo),Heap.get?_push_size _ rfl⟩
noncomputable def gK:V->Bool
 | .non=>true
 | .bl _=>true
 | .int _=>true
 | .str _=>true
 | _=>false
noncomputable def iC:V->V->Bool
 | .non,.non=>true
 | .bl a,.bl b=>a == b
 | .bl a,.int b=>(if a then 1 else 0) == b
 | .int a,.bl b=>a == (if b then 1 else 0)
 | .int a,.int b=>a == b
 | .str a,.str b=>a == b
 | _,_=>false
theorem C2 {A:Around}{s:Shared}{y x:V}{u v:Value} (ry:aH y u) (rx:aH x v) (fy:gK y=true) (fx:gK x=true):SeqAt.EqAt A s u v (iC y x):=by
 cases y with
 | non =>
  cases ry
  cases x with
  | non=>cases rx;exact SeqAt.EqAt.same _
  | bl b=>cases rx;exact SeqAt.EqAt.none_bool b
  | int b=>obtain ⟨t,rfl⟩:=rx;exact SeqAt.EqAt.none_int b t
  | str b=>obtain ⟨t,rfl⟩:=rx;exact SeqAt.EqAt.none_str b t
  | _=>exact absurd (show false=true from fx) Zre
 | bl a =>
  cases ry
  cases x with
  | non=>cases rx;exact SeqAt.EqAt.bool_none a
  | bl b=>cases rx;exact SeqAt.EqAt.bool_bool a b
  | int b=>obtain ⟨t,rfl⟩:=rx;exact SeqAt.EqAt.bool_int a b t
  | str b=>obtain ⟨t,rfl⟩:=rx;exact SeqAt.EqAt.bool_str a b t
  | _=>exact absurd (show false=true from fx) Zre
 | int a =>
  obtain ⟨t',rfl⟩:=ry
  cases x with
  | non=>cases rx;exact SeqAt.EqAt.int_none a t'
  | bl b=>cases rx;exact SeqAt.EqAt.int_bool a t' b
  | int b=>obtain ⟨t,rfl⟩:=rx;exact SeqAt.EqAt.int_int a t' b t
  | str b=>obtain ⟨t,rfl⟩:=rx;exact SeqAt.EqAt.int_str a t' b t
  | _=>exact absurd (show false=true from fx) Zre
 | str a =>
  obtain ⟨t',rfl⟩:=ry
  cases x with
  | non=>cases rx;exact SeqAt.EqAt.str_none a t'
  | bl b=>cases rx;exact SeqAt.EqAt.str_bool a t' b
  | int b=>obtain ⟨t,rfl⟩:=rx;exact SeqAt.EqAt.str_int a t' b t
  | str b=>obtain ⟨t,rfl⟩:=rx;exact SeqAt.EqAt.str_str a t' b t
  | _=>exact absurd (show false=true from fx) Zre
 | _=>exact absurd (show false=true from fy) Zre
noncomputable def kS (x:V) (u:Value):Bool:=match u with
 | .none=>iC .non x
 | .bool b=>iC (.bl b) x
 | .int i _=>iC (.int i) x
 | .str z _=>iC (.str z) x
 | _=>false
theorem E8 {x y:V}{u:Value} (r:aH y u) (f:gK y=true):kS x u=iC y x:=by
 cases y with
 | non=>cases r;rfl
 | bl b=>cases r;rfl
 | int i=>obtain ⟨t,rfl⟩:=r;rfl
 | str z=>obtain ⟨t,rfl⟩:=r;rfl
 | _=>exact absurd (show false=true from f) Zre
theorem CO {x:V}:∀ {xs:List V}{us:List Value},Vals xs us->xs.all gK=true->us.any (kS x)=xs.any fun y=>iC y x
 | _,_,.nil,_=>rfl
 | y :: xs,u :: us,.cons r t,f=>by
  rw [List.all_cons,Zrf] at f
  rw [Zqg,Zqg,E8 r f.1,CO t f.2]
theorem D4 {A:Around}{s:Shared}{x:V}{v:Value} (rx:aH x v) (fx:gK x=true):∀ {xs:List V}{us:List Value},Vals xs us->xs.all gK=true->∀ u∈us,SeqAt.EqAt A s u v (kS x u)
 | _,_,.nil,_=>fun u hu=>by cases hu
 | y :: xs,u :: us,.cons r t,f=>fun u' hu=>by
  rw [List.all_cons,Zrf] at f
  rcases ZpC.mp hu with rfl | hu
  ·rw [E8 r f.1];exact C2 r rx f.1 fx
  ·exact D4 rx fx t f.2 u' hu
noncomputable def zE (x:V) (xs:List V):Bool:=xs.any fun y=>iC y x
noncomputable def QV (K:ZoW) (neg:Bool):R2:=fun x y H Q=>∃ p xs,y=.ref p/\(aI K H p xs\/bX K H p xs)/\gK x=true/\xs.all gK=true/\Q (.bl (if neg then !zE x xs else zE x xs)) H
theorem Qw:bj X (compareOp .In) (QV X.K false):=by
 intro pins s σ H x y v u Q I rx ry h
 obtain ⟨p,xs,rfl,hq,fx,fs,q⟩:=h
 cases ry
 rcases hq with hq | hq
 ·obtain ⟨its,r,pl,hz⟩:=I.list hq
  refine SeqAt.in_listAt (kS x) pl.isList (fun w hw=>D4 rx fx r fs w (by simpa using hw)) ⟨.bl _,H,I,rfl,?_⟩
  rw [show its.toArray.any (kS x)=its.any (kS x) by simp,CO r fs]
  exact q
 ·obtain ⟨its,r,pl,hz⟩:=I.tuple hq
  refine SeqAt.in_tupleAt (kS x) pl (fun w hw=>D4 rx fx r fs w (by simpa using hw)) ⟨.bl _,H,I,rfl,?_⟩
  rw [show its.toArray.any (kS x)=its.any (kS x) by simp,CO r fs]
  exact q
theorem MJ:fD X (.builtin "len") (fun xs H Q=>∃ p ys,xs=[.ref p]/\(aI X.K H p ys\/bX X.K H p ys)/\Q (.int ys.length) H):=by
 intro pins s σ H xs us Q I r h
 obtain ⟨p,ys,rfl,hq,q⟩:=h
 obtain ⟨u,rfl,rx⟩:=gW r
 cases rx
 have hn:=rD
 rcases hq with hq | hq
 ·obtain ⟨its,r',pl,hz⟩:=I.list hq
  have hlen:=r'.length
  exact Calls.call_len_list pl.isList (by simp only [ZpJ] <;> omega) ⟨.int ys.length,H,I.tok _,⟨s.toks+1,by rw [ZpJ,hlen]⟩,q⟩
 ·obtain ⟨its,r',pl,hz⟩:=I.tuple hq
  have hlen:=r'.length
  exact len_tuple pl (by simp only [ZpJ] <;> omega) ⟨.int ys.length,H,I.tok _,⟨s.toks+1,by rw [ZpJ,hlen]⟩,q⟩
theorem Qp:fD X (.builtin "len") (fun xs H Q=>∃ z,xs=[.str z]/\z.length<=sizeLine/\Q (.int z.length) H):=by
 intro pins s σ H xs us Q I r h
 obtain ⟨z,rfl,hz,q⟩:=h
 obtain ⟨u,rfl,t,rfl⟩:=gW r
 have hn:=rD
 exact len_str (by omega) ⟨.int z.length,H,I.tok _,⟨_,rfl⟩,q⟩
theorem N7:fD X (.type "list") (fun xs H Q=>∃ p ys,xs=[.ref p]/\(aI X.K H p ys\/bX X.K H p ys)/\∀ l,H l=none->Q (.ref l) (upd H l (.lst ys))):=by
 intro pins s σ H xs us Q I r h
 obtain ⟨p,ys,rfl,hq,q⟩:=h
 obtain ⟨u,rfl,rx⟩:=gW r
 cases rx
 have fin:∀ (its:List Value),Vals ys its->ys.length<=sizeLine->∀ (h':Heap) (c':Nat),(∀ b o',s.heap.get? b=some o'->h'.get? b=some o') ->
   h'.get? s.heap.objs.size=some { cls:=.type "list",dict:=none,data:=.seq its.toArray c',slots:=#[] }->EP X pins σ Q (.ref s.heap.objs.size) { s with heap:=h' }:=fun its r' hz h' c' kp e =>
  ⟨.ref s.heap.objs.size,_,I.laid (t':=s.toks) kp (ZqC _) (show dn X.prog X.w _ h' _ (.lst ys) from ⟨hz,its,c',r',e⟩),rfl,q _ (I.aw.fresh (ZqC _))⟩
 rcases hq with hq | hq
 ·obtain ⟨its,r',pl,hz⟩:=I.list hq
  have hlen:=r'.length
  obtain ⟨o,ho,hc,n,hd⟩:=pl.isList
  exact call_list_seq p (.inl rfl) ho hc hd (fun h' c' kp e=>fin its r' hz h' c' kp e) (by simp only [ZpJ] <;> omega)
 ·obtain ⟨its,r',pl,hz⟩:=I.tuple hq
  have hlen:=r'.length
  obtain ⟨o,ho,hc,n,hd⟩:=pl
  exact call_list_seq p (.inr rfl) ho hc hd (fun h' c' kp e=>fin its r' hz h' c' kp e) (by simp only [ZpJ] <;> omega)
theorem Pw:fD X (.type "tuple") (fun xs H Q=>∃ p ys,xs=[.ref p]/\((aI X.K H p ys/\∀ l,H l=none->Q (.ref l) (upd H l (.tup ys)))\/(bX X.K H p ys/\Q (.ref p) H))):=by
 intro pins s σ H xs us Q I r h
 obtain ⟨p,ys,rfl,h⟩:=h
 obtain ⟨u,rfl,rx⟩:=gW r
 cases rx
 rcases h with ⟨hq,q⟩ | ⟨hq,q⟩
 ·obtain ⟨its,r',pl,hz⟩:=I.list hq
  have hlen:=r'.length
  refine call_tuple_list pl.isList (fun h' kp=>?_) (by simp only [ZpJ] <;> omega)
  have I1:Inv X pins σ H { s with heap:=h' }:=I.kept (t':=s.toks) kp
  have I2:Inv X pins σ (upd H h'.objs.size (.tup ys)) { s with heap:=h'.push { cls:=.type "tuple",data:=.seq its.toArray } } :=
   I1.laid (t':=s.toks) (fun b o e=>Heap.get?_push_of_some _ e) (ZqC _) (show dn X.prog X.w _ _ _ (.tup ys) from ⟨hz,its,r',IsTup.new _ _⟩)
  exact ⟨.ref h'.objs.size,_,I2,rfl,q _ (I1.aw.fresh (ZqC _))⟩
 ·obtain ⟨its,r',pl,hz⟩:=I.tuple hq
  exact call_tuple_same pl ⟨.ref p,H,I,rfl,q⟩
noncomputable def CY (K:ZoW) (T:String) (x:V) (H:Hp):Prop:=match x with
 | .str _=>T = "str"
 | .int _=>T = "int"
 | .ref p=>(T = "list" /\ ∃ xs,aI K H p xs)\/(T = "tuple" /\ ∃ o,K.lookup p=some o/\o.cls=.type "tuple" /\ o.dict=none) \/
   (T = "dict" /\ ((∃ kvs,H p=some (.dK kvs))\/∃ kvs,H p=some (.dT kvs)))\/(T = "set" /\ ∃ S n,H p=some (.set S n))
 | _=>False
theorem ni {pins:List (Addr × Obj)}{σ:St}{H:Hp}{s:Shared}{T:String}{x:V}{v:Value} (I:Inv X pins σ H s) (r:aH x v) (ty:CY X.K T x H) :
  s.TypeIs v T/\∀ a,v=.ref a->∃ ob,s.heap.get? a=some ob/\ob.dict=none:=by
 cases x with
 | str z =>
  obtain ⟨t,rfl⟩:=r
  cases (show T = "str" from ty)
  exact ⟨typeIs_str s z t,fun _ e=>nomatch e⟩
 | int i =>
  obtain ⟨t,rfl⟩:=r
  cases (show T = "int" from ty)
  exact ⟨typeIs_int s i t,fun _ e=>nomatch e⟩
 | ref p =>
  cases r
  rcases ty with ⟨rfl,xs,hq⟩ | ⟨rfl,o,hk,hc,hd⟩ | ⟨rfl,hk⟩ | ⟨rfl,S,n,hk⟩
  ·obtain ⟨its,_,pl,_⟩:=I.list hq
   refine ⟨pl.isList.typeIs,fun a e=>?_⟩
   cases e
   obtain ⟨o,n,e,c,hd,_⟩:=pl
   exact ⟨o,e,hd⟩
  ·refine ⟨⟨o,I.fj p o hk,hc⟩,fun a e=>?_⟩
   cases e
   exact ⟨o,I.fj _ o hk,hd⟩
  ·have z:∃ o,s.heap.get? p=some o/\o.ExactDict:=by
    rcases hk with ⟨kvs,hk⟩ | ⟨kvs,hk⟩
    ·obtain ⟨_,_,_,_,o,_,_,e,ex,_⟩:=I.aw p _ hk
     exact ⟨o,e,ex⟩
    ·obtain ⟨_,_,_,_,o,_,_,e,ex,_⟩:=I.aw p _ hk
     exact ⟨o,e,ex⟩
   obtain ⟨o,e,ex⟩:=z
   refine ⟨⟨o,e,ex.1⟩,fun a e2=>?_⟩
   cases e2
   exact ⟨o,e,ex.2.1⟩
  ·obtain ⟨o,_,_,_,e,ex,_⟩:=I.aw p _ hk
   refine ⟨⟨o,e,ex.1⟩,fun a e2=>?_⟩
   cases e2
   exact ⟨o,e,ex.2.1⟩
 | _=>exact False.elim ty
noncomputable def gr (K:ZoW) (T:String) (r:V->List V->Hp->VK->Prop) (to:TE) (t:TA):TE:=fun σ H Q=>to σ H fun x H1=>CY K T x H1/\t σ H1 fun xs H2=>r x xs H2 Q
variable {o e:Expr}{es:List Expr}{to:TE}{t:TA}{name:Str}{apos cQ:Pos}{T id:String}{r:V->List V->Hp->VK->Prop}
theorem gP (pa:PlainAttrs T) (slot:Slot T name id) (mD:typeOf (.builtin id)=pure (.type "method_descriptor")) (hm:nc X id r) (ho:PE X o to) (ha:PA X (e :: es) t)
  (um:attributeBase o name X.env (eval o X.env)=eval o X.env:=by rfl)
  (CQ:((backTo cQ (starEach (e :: es) X.env)).all (fun x=>!x.1) && (backToKw cQ (keywordEach [] X.env)).all (fun x=>x.1.isSome)
   && decide ((e :: es).length+([]:List Keyword).length+(if ([]:List Keyword).isEmpty then 0 else 1)<30))=true:=by rfl)
  (xr:(apos.endLine == cQ.line)=true:=by rfl) (hs:starEach (e :: es) X.env=(false,eval e X.env) :: starEach es X.env:=by rfl) (nj:(backTo cQ (starEach es X.env)).any (·.1)=false:=by rfl) :
  PE X (.Call (.Attribute o name apos) (e :: es) [] cQ) (gr X.K T r to t):=by
 intro pins s σ H Q I h
 refine wpAny_Call_method_late um CQ xr rfl (aF (ho pins s σ H _ I h) fun v s1 ⟨x,H1,I1,r1,ty,q1⟩=>?_)
 obtain ⟨h1,h2⟩:=ni I1 r1 ty
 refine ⟨T,id,pa,slot,mD,h1,h2,?_⟩
 have hA:=ha cQ pins s1 σ H1 _ I1 q1
 rw [hs] at hA ⊢
 refine Calls.callWith_builtin (by show (false || (backTo cQ (starEach es X.env)).any (·.1))=false;rw [nj] <;> rfl) (Calls.evalArgs_plain ?_)
 exact aF hA fun us s2 ⟨vs,H2,I2,r2,q2⟩=>hm pins s2 σ H2 x vs v us Q I2 r1 r2 q2
/- xs.append(e),list.index on a module's tuple .. are nc facts of 06m -/
end
noncomputable def AX (X:Cx) (id:String) (r:V->List V->Hp->VK->Prop):Prop :=
 ∀ (pins:List (Addr × Obj)) (s:Shared) (σ:St) (H:Hp) (x:V) (xs:List V) (v:Value) (us:List Value) (Q:VK),Inv X pins σ H s->aH x v->Vals xs us->r x xs H Q ->
  wpAny (model X.prog X.w) X.A (call (.builtin id) (v :: us)) (EP X pins σ Q) X.xe s
theorem Vals.one:∀ {x:V}{us:List Value},Vals [x] us->∃ u,us=[u]/\aH x u
 | _,_,.cons r .nil=>⟨_,rfl,r⟩
theorem Vals.two:∀ {x y:V}{us:List Value},Vals [x,y] us->∃ u v,us=[u,v]/\aH x u/\aH y v
 | _,_,_,.cons r (.cons q .nil)=>⟨_,_,rfl,r,q⟩
theorem Vals.zero:∀ {us:List Value},Vals [] us->us=[]
 | _,.nil=>rfl
theorem Vals.dropLast {xs:List V}{us:List Value} (h:Vals xs us):Vals xs.dropLast us.dropLast:=by
 induction h with
 | nil=>exact .nil
 | cons r t ih =>
  cases t with
  | nil=>exact .nil
  | cons q t'=>exact .cons r ih
section
variable {X:Cx}{pins:List (Addr × Obj)}{σ:St}{H:Hp}{s:Shared}{l b:Addr}{xs ys zs:List V}
theorem Inv.Dg {its its':List Value}{n:Nat}{f:Array Value->Array Value}{t':Nat} (I:Inv X pins σ H s) (hH:H l=some (.lst xs))
  (e:s.heap.get? l=some { cls:=.type "list",data:=.seq its.toArray n }) (hf:f its.toArray=its'.toArray) (hv:Vals ys its') (hz:ys.length<=sizeLine) :
  Inv X pins σ (upd H l (.lst ys)) { s with heap:=s.heap.update l (Obj.mapSeq f),toks:=t' }:=by
 have q:=PySem.IsL.update e f
 rw [hf] at q
 refine I.write (x:=l) (e:=l) (by rw [hH];exact trivial) (.inl rfl) (fun b' u hb hu=>(Heap.get?_update_other s.heap (Obj.mapSeq f) (Ne.symm hb)).trans hu) ⟨_,q⟩ ?_
 exact ⟨hz,its',_,hv,q⟩
theorem Inv.pU {its:List Value}{t':Nat} (I:Inv X pins σ H s) (hv:Vals ys its) (hz:ys.length<=sizeLine) :
  Inv X pins σ (upd H s.heap.objs.size (.lst ys)) { s with heap:=s.heap.push { cls:=.type "list",data:=.seq its.toArray },toks:=t' } :=
 I.laid (fun _ _ q=>Heap.get?_push_of_some _ q) (ZqC _) ⟨hz,its,0,hv,Heap.get?_push_size _ rfl⟩
theorem Inv.fresh (I:Inv X pins σ H s):H s.heap.objs.size=none:=I.aw.fresh (ZqC _)
theorem Inv.jR (I:Inv X pins σ H s) (hH:H l=some (.lst xs)):xs.length<=sizeLine/\∃ (its:List Value) (n:Nat),Vals xs its/\xs.length=its.length/\s.heap.get? l=some { cls:=.type "list",data:=.seq its.toArray n }:=by
 obtain ⟨z,its,n,r,e⟩:=I.aw l _ hH
 exact ⟨z,its,n,r,r.length,e⟩
end
section
variable {X:Cx}
noncomputable def ki:V->List V->Hp->VK->Prop:=fun x vs H Q=>∃ l xs y,x=.ref l/\vs=[y]/\H l=some (.lst xs)/\xs.length<sizeLine/\Q .non (upd H l (.lst (xs ++ [y])))
theorem jV:AX X "list.append" ki:=by
 intro pins s σ H x vs v us Q I rx rv h
 obtain ⟨l,xs,y,rfl,rfl,hH,hz,q⟩:=h
 cases rx
 obtain ⟨u,rfl,ru⟩:=rv.one
 obtain ⟨z,its,n,r,hl,e⟩:=I.jR hH
 refine call_meets F.slot_list_append ⟨_,e,rfl⟩ F.entry_list_append (F.args_list_append_2 _ _) (PySem.list_append l its.toArray n u (by rw [ZpJ];omega)) ⟨e,?_⟩
 refine ⟨.non,_,I.Dg (its':=its ++ [u]) hH e (by simp) (r.append (.cons ru .nil)) ?_,rfl,q⟩
 rw [ZpD,List.length_singleton]
 omega
noncomputable def BK:R2:=fun x y H Q=>∃ l b xs zs,x=.ref l/\y=.ref b/\H l=some (.lst xs)/\H b=some (.lst zs)/\xs.length+zs.length<=sizeLine/\∀ p,H p=none->Q (.ref p) (upd H p (.lst (xs ++ zs)))
theorem qq:bj X (binaryOp .Add) BK:=by
 intro pins s σ H x y v u Q I rx ry h
 obtain ⟨l,b,xs,zs,rfl,rfl,hH,hB,hz,q⟩:=h
 cases rx
 cases ry
 obtain ⟨z,its,n,r,hl,e⟩:=I.jR hH
 obtain ⟨z2,its2,n2,r2,ro,e2⟩:=I.jR hB
 refine PySem.P.add_list e e2 ?_ (by rw [ZpJ,ZpJ];omega)
 have ea:its.toArray ++ its2.toArray=(its ++ its2).toArray:=by simp
 rw [ea]
 exact ⟨.ref _,_,I.pU (t':=s.toks) (r.append r2) (by rw [ZpD];omega),rfl,q _ I.fresh⟩
end
section
variable {prog:Program}{w:World}{A:Around}{E:Value->Shared->Prop}{s:Shared}
end
section
variable {X:Cx}
end
section
variable {κ:Type} [DecidableEq κ]
noncomputable def cV (kvs:List (κ × V)) (k:κ):Option V:=(kvs.find? fun kv=>decide (kv.1=k)).map (·.2)
noncomputable def d6 (kvs:List (κ × V)) (k:κ) (v:V):List (κ × V) :=
 if (kvs.any fun kv=>decide (kv.1=k))=true then kvs.map (fun kv=>if kv.1=k then (kv.1,v) else kv) else kvs ++ [(k,v)]
theorem ko {p:κ × V}{r:List (κ × V)}{k:κ} (e:p.1=k):cV (p :: r) k=some p.2:=by simp [cV,Zqd,e]
theorem j5 {p:κ × V}{r:List (κ × V)}{k:κ} (e:¬ p.1=k):cV (p :: r) k=cV r k:=by simp [cV,Zqd,e]
theorem zw (k:κ):∀ kvs:List (κ × V),(kvs.any fun kv=>decide (kv.1=k))=(cV kvs k).isSome
 | []=>rfl
 | p :: r=>by
  rw [Zqg]
  by_cases e:p.1=k
  ·simp only [ko e,decide_eq_true e,Bool.true_or,Option.isSome_some]
  ·rw [j5 e,decide_eq_false e,Bool.false_or];exact zw k r
theorem I0 (k j:κ) (y:V):∀ kvs:List (κ × V),cV (kvs.map fun kv=>if kv.1=k then (kv.1,y) else kv) j=(cV kvs j).map fun x=>if j=k then y else x
 | []=>rfl
 | p :: r=>by
  have ih:=I0 k j y r
  rw [Zpx]
  by_cases h:p.1=k
  ·rw [if_pos h]
   by_cases e:p.1=j
   ·rw [ko (p:=(p.1,y)) e,ko e,Option.map_some,if_pos (e.symm.trans h)]
   ·rw [j5 (p:=(p.1,y)) e,j5 e,ih]
  ·rw [if_neg h]
   by_cases e:p.1=j
   ·rw [ko (p:=p) e,ko e,Option.map_some,if_neg (fun z=>h (e.trans z))]
   ·rw [j5 (p:=p) e,j5 e,ih]
theorem FJ (k j:κ) (y:V):∀ kvs:List (κ × V),cV kvs k=none->cV (kvs ++ [(k,y)]) j=if j=k then some y else cV kvs j
 | [],_=>by
  by_cases e:k=j
  ·rw [if_pos e.symm];exact ko (p:=(k,y)) e
  ·rw [if_neg (fun z=>e z.symm)];exact j5 (p:=(k,y)) e
 | p :: r,hn=>by
  rw [Zqm]
  have hk:¬ p.1=k:=fun z=>by rw [ko z] at hn;cases hn
  rw [j5 hk] at hn
  have ih:=FJ k j y r hn
  by_cases e:p.1=j
  ·rw [ko e,ko e,if_neg (fun z=>hk (e.trans z))]
  ·rw [j5 e,j5 e,ih]
theorem yu (kvs:List (κ × V)) (k j:κ) (y:V):cV (d6 kvs k y) j=if j=k then some y else cV kvs j:=by
 unfold d6
 by_cases a:(kvs.any fun kv=>decide (kv.1=k))=true
 ·rw [if_pos a,I0]
  rw [zw] at a
  by_cases e:j=k
  ·obtain ⟨x,hx⟩:=Option.isSome_iff_exists.mp a
   rw [if_pos e,e,hx,Option.map_some,if_pos rfl]
  ·rw [if_neg e]
   cases cV kvs j with
   | none=>rfl
   | some x=>rw [Option.map_some,if_neg e]
 ·rw [if_neg a]
  refine FJ k j y kvs ?_
  rw [zw] at a
  cases q:cV kvs k with
  | none=>rfl
  | some x=>rw [q] at a;exact (a rfl).elim
theorem Ei (kvs:List (κ × V)) (k:κ) (v:V):(d6 kvs k v).length<=kvs.length+1:=by
 unfold d6
 split
 ·rw [Zpu];omega
 ·rw [ZpD,ZpG,ZpW];omega
theorem gY.cc {o:Option V}{u:Option Value} (r:gY o u):o.isSome=u.isSome:=by
 cases o with
 | none=>cases u with
  | none=>rfl
  | some _=>exact (show False from r).elim
 | some _=>cases u with
  | none=>exact (show False from r).elim
  | some _=>rfl
theorem gY.getD {o:Option V}{u:Option Value}{d:V}{d':Value} (r:gY o u) (rd:aH d d'):aH (o.getD d) (u.getD d'):=by
 cases o with
 | none=>cases u with
  | none=>exact rd
  | some _=>exact (show False from r).elim
 | some _=>cases u with
  | none=>exact (show False from r).elim
  | some _=>exact r
theorem KV.val {kvs:List (κ × V)}{vs:List (κ × Value)} (r:KV kvs vs) (k:κ):gY (cV kvs k) (valueAt vs k):=by
 unfold KV at r
 induction r with
 | nil=>exact True.intro
 | @cons p q ps qs h t ih =>
  obtain ⟨h1,h2⟩:=h
  by_cases e:p.1=k
  ·have e':q.1=k:=h1.symm.trans e
   have b:valueAt (q :: qs) k=some q.2:=by simp [valueAt,Zqd,e']
   rw [ko e,b];exact h2
  ·have e':¬ q.1=k:=fun z=>e (h1.trans z)
   have b:valueAt (q :: qs) k=valueAt qs k:=by simp [valueAt,Zqd,e']
   rw [j5 e,b];exact ih
theorem KV.any {kvs:List (κ × V)}{vs:List (κ × Value)} (r:KV kvs vs) (k:κ):(kvs.any fun kv=>decide (kv.1=k))=vs.any fun kv=>decide (kv.1=k):=by
 unfold KV at r
 induction r with
 | nil=>rfl
 | cons h t ih=>rw [Zqg,Zqg,ih,h.1]
theorem KV.rj {kvs:List (κ × V)}{vs:List (κ × Value)} (r:KV kvs vs) (k:κ) {y:V}{u:Value} (ry:aH y u) :
  KV (kvs.map fun kv=>if kv.1=k then (kv.1,y) else kv) (vs.map fun kv=>if kv.1=k then (kv.1,u) else kv):=by
 unfold KV at r ⊢
 induction r with
 | nil=>exact .nil
 | @cons p q ps qs h t ih =>
  rw [Zpx,Zpx]
  refine .cons ?_ ih
  obtain ⟨h1,h2⟩:=h
  by_cases e:p.1=k
  ·rw [if_pos e,if_pos (h1.symm.trans e)];exact ⟨h1,ry⟩
  ·rw [if_neg e,if_neg (fun z=>e (h1.trans z))];exact ⟨h1,h2⟩
theorem KV.put {kvs:List (κ × V)}{vs:List (κ × Value)} (r:KV kvs vs) (k:κ) {y:V}{u:Value} (ry:aH y u):KV (d6 kvs k y) (stored vs k u):=by
 unfold d6 stored
 rw [r.any k]
 by_cases e:(vs.any fun kv=>decide (kv.1=k))=true
 ·rw [if_pos e,if_pos e];exact r.rj k ry
 ·rw [if_neg e,if_neg e];exact Paired.snoc r ⟨rfl,ry⟩
theorem KV.keys {kvs:List (κ × V)}{vs:List (κ × Value)} (r:KV kvs vs):kvs.map (·.1)=vs.map (·.1):=by
 unfold KV at r
 induction r with
 | nil=>rfl
 | cons h t ih=>rw [Zpx,Zpx,ih,h.1]
theorem KV.length {kvs:List (κ × V)}{vs:List (κ × Value)} (r:KV kvs vs):kvs.length=vs.length:=Paired.length r
end
theorem lX {P:Program}{w:World}{k:Key}{u:Value} (r:aH (kV k) u):(fC P w).is k u=true:=by
 cases k with
 | inl i=>obtain ⟨t,e⟩:=(show ∃ t,u=Value.int i t from r);subst e;exact O6 P w i t
 | inr x=>obtain ⟨t,e⟩:=(show ∃ t,u=Value.str x t from r);subst e;exact KW P w x t
theorem Iz {P:Program}{w:World}:∀ {ks:List Key}{us:List Value},Vals (ks.map kV) us->ItemsAre (fC P w) ks us
 | [],_,r=>by rw [Zp9] at r;cases r;exact .nil
 | k :: ks,_,r=>by
  rw [Zpx] at r
  cases r with
  | cons h t=>exact .cons (lX h) (Iz t)
noncomputable abbrev KT (H:Hp):List (List Key × V)->List (List Key × Addr × Value)->Prop:=Paired fun p q=>p.1=q.1/\H q.2.1=some (.tup (p.1.map kV))/\aH p.2 q.2.2
theorem KT.val {H:Hp}{kvs:List (List Key × V)}{xs:List (List Key × Addr × Value)} (r:KT H kvs xs) (k:List Key):gY (cV kvs k) ((atKey xs k).map (·.2)):=by
 induction r with
 | nil=>exact True.intro
 | @cons p q ps qs h t ih =>
  obtain ⟨h1,_,h2⟩:=h
  by_cases e:p.1=k
  ·have e':q.1=k:=h1.symm.trans e
   have b:atKey (q :: qs) k=some q.2:=by simp [atKey,Zqd,e']
   rw [ko e,b];exact h2
  ·have e':¬ q.1=k:=fun z=>e (h1.trans z)
   have b:atKey (q :: qs) k=atKey qs k:=by simp [atKey,Zqd,e']
   rw [j5 e,b];exact ih
theorem KT.rj {H:Hp}{kvs:List (List Key × V)}{xs:List (List Key × Addr × Value)} (r:KT H kvs xs) (k:List Key) {y:V}{u:Value} (ry:aH y u) :
  KT H (kvs.map fun kv=>if kv.1=k then (kv.1,y) else kv) (xs.map (putAt k u)):=by
 induction r with
 | nil=>exact .nil
 | @cons p q ps qs h t ih =>
  rw [Zpx,Zpx]
  refine .cons ?_ ih
  obtain ⟨h1,h2,h3⟩:=h
  unfold putAt
  by_cases e:p.1=k
  ·rw [if_pos e,if_pos (h1.symm.trans e)];exact ⟨h1,h2,ry⟩
  ·rw [if_neg e,if_neg (fun z=>e (h1.trans z))];exact ⟨h1,h2,h3⟩
theorem KT.put {H:Hp}{kvs:List (List Key × V)}{xs:List (List Key × Addr × Value)} (r:KT H kvs xs) (k:List Key) {b:Addr}{y:V}{u:Value} (hb:H b=some (.tup (k.map kV))) (ry:aH y u) :
  KT H (d6 kvs k y) (storedH xs k b u):=by
 have e:(kvs.any fun kv=>decide (kv.1=k))=(atKey xs k).isSome:=by
  rw [zw,(r.val k).cc,Option.isSome_map]
 unfold d6 storedH
 rw [e]
 by_cases q:(atKey xs k).isSome=true
 ·rw [if_pos q,if_pos q];exact r.rj k ry
 ·rw [if_neg q,if_neg q];exact Paired.snoc r ⟨rfl,hb,ry⟩
theorem KT.keeps {H H':Hp}{kvs:List (List Key × V)}{xs:List (List Key × Addr × Value)} (r:KT H kvs xs) (ht:∀ b ys,H b=some (.tup ys)->H' b=some (.tup ys)):KT H' kvs xs :=
 Paired.nW r fun _ _ z=>⟨z.1,ht _ _ z.2.1,z.2.2⟩
section
variable {P:Program}{w:World}{H:Hp}{h:Heap}{a:Addr}
theorem CG {u:HO} (ok:du P w H h) (e:Rd H a u):dn P w H h a u:=e.ok ok
theorem o7 {kvs:List (Key × V)} (ok:du P w H h) (e:Rd H a (.dK kvs)):kvs.length<=sizeLine/\(a == sysModules)=false/\∃ vs,KV kvs vs/\h.DictOf (fC P w) a vs :=
 show dn P w H h a (.dK kvs) from CG ok e
theorem lT {kvs:List (Key × V)} (ok:du P w H h) (e:H a=some (.dK kvs)):kvs.length<=sizeLine/\(a == sysModules)=false/\∃ vs,KV kvs vs/\h.DictOf (fC P w) a vs:=o7 ok (.inl e)
theorem uv {ks:List Key} (ok:du P w H h) (e:H a=some (.tup (ks.map kV))):(tupleKind (fC P w)).is h ks a:=by
 obtain ⟨_,its,r,o,h1,h2,n,h3⟩:=(show dn P w H h a (.tup (ks.map kV)) from ok a _ e)
 exact ⟨o,its.toArray,n,h1,h2,h3,by simpa using Iz r⟩
theorem xW {kvs:List (List Key × V)} (ok:du P w H h) (e:Rd H a (.dT kvs)):kvs.length<=sizeLine/\(a == sysModules)=false /\
  ∃ xs,KT H kvs xs/\h.DictOfH (tupleKind (fC P w)) a xs:=by
 obtain ⟨z,y,xs,r,o,es,ep,h1,h2,h3,h4,h5⟩:=(show dn P w H h a (.dT kvs) from CG ok e)
 refine ⟨z,y,xs,r,o,es,ep,h1,h2,h3,h4,fun x hx=>?_,h5⟩
 have all:∀ {l:List (List Key × V)}{m:List (List Key × Addr × Value)},KT H l m->∀ x∈m,(tupleKind (fC P w)).is h x.1 x.2.1:=by
  intro l m q
  induction q with
  | nil=>intro x hx;exact nomatch hx
  | @cons p q ps qs hq t ih =>
   intro x hx
   rcases ZpC.mp hx with e | hx
   ·subst e
    exact uv ok (by rw [<- hq.1];exact hq.2.1)
   ·exact ih x hx
 exact all r x hx
theorem vf {kvs:List (List Key × V)} (ok:du P w H h) (e:H a=some (.dT kvs)):kvs.length<=sizeLine/\(a == sysModules)=false /\
  ∃ xs,KT H kvs xs/\h.DictOfH (tupleKind (fC P w)) a xs:=xW ok (.inl e)
end
noncomputable def gX (H:Hp) (a:Addr) (y:V) (r:Option V):Prop :=
 (∃ kvs k,Rd H a (.dK kvs)/\y=kV k/\r=cV kvs k)\/∃ kvs k b,Rd H a (.dT kvs)/\y=.ref b/\H b=some (.tup (k.map kV))/\r=cV kvs k
noncomputable def p6 (H:Hp) (a:Addr) (y v:V) (H':Hp):Prop :=
 (∃ kvs k,H a=some (.dK kvs)/\y=kV k/\kvs.length<sizeLine/\H'=upd H a (.dK (d6 kvs k v))) \/
 ∃ kvs k b,H a=some (.dT kvs)/\y=.ref b/\H b=some (.tup (k.map kV))/\kvs.length<sizeLine/\H'=upd H a (.dT (d6 kvs k v))
theorem gX.k {H:Hp}{a:Addr}{kvs:List (Key × V)}{k:Key} (e:H a=some (.dK kvs)):gX H a (kV k) (cV kvs k):=.inl ⟨kvs,k,.inl e,rfl,rfl⟩
theorem gX.t {H:Hp}{a b:Addr}{kvs:List (List Key × V)}{k:List Key} (e:H a=some (.dT kvs)) (eb:H b=some (.tup (k.map kV))):gX H a (.ref b) (cV kvs k):=.inr ⟨kvs,k,b,.inl e,rfl,eb,rfl⟩
theorem p6.k {H:Hp}{a:Addr}{kvs:List (Key × V)}{k:Key}{v:V} (e:H a=some (.dK kvs)) (hl:kvs.length<sizeLine):p6 H a (kV k) v (upd H a (.dK (d6 kvs k v))):=.inl ⟨kvs,k,e,rfl,hl,rfl⟩
theorem p6.t {H:Hp}{a b:Addr}{kvs:List (List Key × V)}{k:List Key}{v:V} (e:H a=some (.dT kvs)) (eb:H b=some (.tup (k.map kV))) (hl:kvs.length<sizeLine) :
  p6 H a (.ref b) v (upd H a (.dT (d6 kvs k v))):=.inr ⟨kvs,k,b,e,rfl,eb,hl,rfl⟩
section
variable {X:Cx}{pins:List (Addr × Obj)}{σ:St}{H:Hp}{s:Shared}{a:Addr}{y v:V}{u r:Value}{o:Option V}{A:Around}{E:Value->Shared->Prop}
theorem Inv.big (I:Inv X pins σ H s):sysModules<s.heap.objs.size:=by
 have h:mainGlobals<s.heap.objs.size:=(I.mod.glob.keeps I.bk).lt
 exact Nat.lt_trans (by decide) h
theorem J6 {Q:Value->Shared->Prop} (hu:A.units+1<cLine) (I:Inv X pins σ H s) (g:gX H a y (some v)) (ry:aH y u) (h:∀ w' s',Inv X pins σ H s'->aH v w'->Q w' s') :
  wpAny (model X.prog X.w) A (getItem (.ref a) u) Q E s:=by
 rcases g with ⟨kvs,k,e,ey,l⟩ | ⟨kvs,k,b,e,ey,eb,l⟩
 ·subst ey
  obtain ⟨z,hd,vs,rel,dd⟩:=o7 I.aw e
  obtain ⟨w',hw,rw'⟩:=gY.some_of (v:=v) (o:=valueAt vs k) (by rw [l];exact rel.val k)
  exact wpAny_getItem_of (lX ry) dd.mapOf hw (h w' _ (I.tok _) rw')
 ·subst ey
  cases (show u=Value.ref b from ry)
  obtain ⟨z,hd,xs,rel,dd⟩:=xW I.aw e
  obtain ⟨w',hw,rw'⟩:=gY.some_of (v:=v) (o:=(atKey xs k).map (·.2)) (by rw [l];exact rel.val k)
  obtain ⟨p,hp,zF⟩:=Option.map_eq_some_iff.mp hw
  refine wpAny_getItem_heap (tupleKind_room_in1 hu) (uv I.aw eb) dd hp ?_
  rw [zF]
  exact h w' _ (I.tok _) rw'
theorem Ep {Q:Value->Shared->Prop} (hu:A.units+1<cLine) (I:Inv X pins σ H s) (g:gX H a y o) (ry:aH y u) (h:∀ s',Inv X pins σ H s'->Q (.bool o.isSome) s') :
  wpAny (model X.prog X.w) A (compareOp .In u (.ref a)) Q E s:=by
 rcases g with ⟨kvs,k,e,ey,l⟩ | ⟨kvs,k,b,e,ey,eb,l⟩
 ·subst ey
  obtain ⟨z,hd,vs,rel,dd⟩:=o7 I.aw e
  refine wpAny_in_of (lX ry) hd dd.mapOf ?_
  rw [<- (rel.val k).cc,<- l]
  exact h _ (I.tok _)
 ·subst ey
  cases (show u=Value.ref b from ry)
  obtain ⟨z,hd,xs,rel,dd⟩:=xW I.aw e
  refine wpAny_in_heap (tupleKind_room_in1 hu) (uv I.aw eb) hd dd ?_
  have q:=(rel.val k).cc
  rw [Option.isSome_map] at q
  rw [<- q,<- l]
  exact h _ (I.tok _)
theorem Lm {Q:Value->Shared->Prop} (hu:A.units+1<cLine) (I:Inv X pins σ H s) (g:gX H a y o) (ry:aH y u) (h:∀ s',Inv X pins σ H s'->Q (.bool (!o.isSome)) s') :
  wpAny (model X.prog X.w) A (compareOp .NotIn u (.ref a)) Q E s:=by
 rcases g with ⟨kvs,k,e,ey,l⟩ | ⟨kvs,k,b,e,ey,eb,l⟩
 ·subst ey
  obtain ⟨z,hd,vs,rel,dd⟩:=o7 I.aw e
  refine wpAny_notIn_of (lX ry) hd dd.mapOf ?_
  rw [<- (rel.val k).cc,<- l]
  exact h _ (I.tok _)
 ·subst ey
  cases (show u=Value.ref b from ry)
  obtain ⟨z,hd,xs,rel,dd⟩:=xW I.aw e
  refine wpAny_notIn_heap (tupleKind_room_in1 hu) (uv I.aw eb) hd dd ?_
  have q:=(rel.val k).cc
  rw [Option.isSome_map] at q
  rw [<- q,<- l]
  exact h _ (I.tok _)
theorem Di {h':Heap}{t':Nat}{ob:HO} (I:Inv X pins σ H s) (mu:yz (H a)) (hs:Heap.SameBut a s.heap h') (he:∃ q,h'.get? a=some q) (new:dn X.prog X.w (upd H a ob) h' a ob) :
  Inv X pins σ (upd H a ob) { s with heap:=h',toks:=t' } :=
 I.write (x:=a) (e:=a) mu (.inl rfl) (fun b q hb z=>(hs.2 b hb).trans z) he new
theorem z8 {P:Program}{w:World}{H':Hp}{h':Heap}{kvs:List (Key × V)}{vs:List (Key × Value)} (z:kvs.length<=sizeLine) (hd:(a == sysModules)=false) (rel:KV kvs vs) (dd:h'.DictOf (fC P w) a vs) :
  dn P w H' h' a (.dK kvs):=⟨z,hd,vs,rel,dd⟩
theorem Mh {H':Hp}{Q:Unit->Shared->Prop} (hu:A.units+1<cLine) (I:Inv X pins σ H s) (g:p6 H a y v H') (ry:aH y u) (rv:aH v r) (h:∀ s',Inv X pins σ H' s'->Q () s') :
  wpAny (model X.prog X.w) A (setItem (.ref a) u r) Q E s:=by
 rcases g with ⟨kvs,k,e,ey,l,eH⟩ | ⟨kvs,k,b,e,ey,eb,l,eH⟩
 ·subst ey eH
  obtain ⟨z,hd,vs,rel,dd⟩:=lT I.aw e
  have hz:vs.length<=sizeLine:=by rw [<- rel.length];exact z
  have hl:(d6 kvs k v).length<=sizeLine:=by have:=Ei kvs k v;omega
  refine wpAny_setItem_pairs (hsz:=hz) (lX ry) dd fun h' dd' hs=>h _ ?_
  have he:∃ q,h'.get? a=some q:=let ⟨q,_,_,hq,_⟩:=dd';⟨q,hq⟩
  exact Di I (by rw [e];exact True.intro) hs he (z8 hl hd (rel.put k rv) dd')
 ·subst ey eH
  cases (show u=Value.ref b from ry)
  obtain ⟨z,hd,xs,rel,dd⟩:=vf I.aw e
  have hz:xs.length<=sizeLine:=by rw [<- Paired.length rel];exact z
  have hl:(d6 kvs k v).length<=sizeLine:=by have:=Ei kvs k v;omega
  refine wpAny_setItem_heap (hsz:=hz) (tupleKind_room_in1 hu) (uv I.aw eb) dd fun h' dd' hs=>h _ ?_
  obtain ⟨q,es,ep,hq,h2,h3,h4,_,h5⟩:=dd'
  refine Di I (by rw [e];exact True.intro) hs ⟨q,hq⟩ ⟨hl,hd,_,(rel.put k eb rv).keeps fun c ys ec=>?_,q,es,ep,hq,h2,h3,h4,h5⟩
  rw [aJ (jb ec e (fun z=>nomatch z))]
  exact ec
end
section
variable {X:Cx}{pins:List (Addr × Obj)}{σ:St}{H:Hp}{s:Shared}{a:Addr}{kvs:List (Key × V)}{k:Key}{u:Value}{A:Around}{E:Value->Shared->Prop}
theorem vA {Q:Value->Shared->Prop} (I:Inv X pins σ H s) (e:Rd H a (.dK kvs)) (h:∀ t s',Inv X pins σ H s'->Q (.int kvs.length t) s'):wpAny (model X.prog X.w) A (call (.builtin "len") [.ref a]) Q E s:=by
 obtain ⟨z,hd,vs,rel,dd⟩:=o7 I.aw e
 refine call_len_dict hd dd (by rw [<- rel.length];rw [sizeLine_eq] at z;omega) ?_
 rw [<- rel.length]
 exact h _ _ (I.tok _)
end
noncomputable def vJ (i:Expr):Prop:=∀ ov iv,subscripted i false ov iv=operate [ov,iv] (getItem ov iv)
theorem Qn {prog:Program}{w:World}{A:Around}{E:Value->Shared->Prop}{s:Shared}{env:Env}{value slice:Expr}{pos:Pos}{T id:String}{Q:Value->Shared->Prop}
  (hl:typeLookup (.type T) "__getitem__" = pure (some (.builtin id))) (hs:vJ slice)
  (h:wpAny (model prog w) A (eval value env) (fun o s₁=>wpAny (model prog w) A (eval slice env) (fun i s₂=>s₂.TypeIs o T/\wpAny (model prog w) A (getItem o i) Q E s₂) E s₁) E s) :
  wpAny (model prog w) A (eval (.Subscript value slice pos) env) Q E s:=by
 refine Subscript_ (wpAny_mono h (fun o s₁ h₁=>wpAny_mono h₁ (fun i s₂ h₂=>?_) fun _ _ x=>x) fun _ _ x=>x)
 obtain ⟨hT,h₂⟩:=h₂
 unfold subscriptTail
 refine wpAny_bind ?_
 rw [getitemInPython_of_ne hT.not_modules]
 refine wpAny_bind (wpAny_specialOf hT hl ?_)
 have fin:wpAny (model prog w) A (subscripted slice false o i) (fun r s₃=>wpAny (model prog w) A (letTemporaryGo value o r >>= fun _=>pure r) Q E s₃) E s₂:=by
  rw [hs o i]
  exact wpAny_operating (wpAny_mono h₂ (fun r s₃ h₃=>wpAny_bind (wpAny_letTemporaryGo (wpAny_pure h₃))) fun _ _ x=>x)
 first
  | exact wpAny_pure (wpAny_bind fin)
  | exact wpAny_bind (wpAny_pure (wpAny_bind fin))
  | exact wpAny_bind fin
theorem MR {X:Cx}{pins:List (Addr × Obj)}{σ:St}{H:Hp}{s:Shared}{a:Addr}{y:V}{o:Option V} (I:Inv X pins σ H s) (g:gX H a y o):s.TypeIs (.ref a) "dict":=by
 rcases g with ⟨kvs,k,e,_,_⟩ | ⟨kvs,k,b,e,_,_,_⟩
 ·obtain ⟨_,_,vs,_,dd⟩:=o7 I.aw e
  exact dd.typeIs
 ·obtain ⟨_,_,xs,_,dd⟩:=xW I.aw e
  exact dd.typeIs
noncomputable def oG (td ty:TE):TE:=fun σ H Q=>td σ H fun x H1=>ty σ H1 fun y H2=>∃ a v,x=.ref a/\gX H2 a y (some v)/\Q v H2
noncomputable def nH (ty td:TE):TE:=fun σ H Q=>ty σ H fun y H1=>td σ H1 fun x H2=>∃ a o,x=.ref a/\gX H2 a y o/\Q (.bl o.isSome) H2
noncomputable def Be (ty td:TE):TE:=fun σ H Q=>ty σ H fun y H1=>td σ H1 fun x H2=>∃ a o,x=.ref a/\gX H2 a y o/\Q (.bl (!o.isSome)) H2
noncomputable def mI (td ty tv:TE):TS:=fun D σ H=>tv σ H fun v H1=>td σ H1 fun x H2=>ty σ H2 fun y H3=>∃ a H4,x=.ref a/\p6 H3 a y v H4/\D.nx σ H4
section
variable {X:Cx}{o i e value:Expr}{pos pos' BG:Pos}{td ty tv:TE}
theorem xf (hu:X.A.units+1<cLine) (ho:PE X o td) (hi:PE X i ty) (hs:vJ i):PE X (.Subscript o i pos) (oG td ty):=by
 intro pins s σ H Q I h
 refine Qn PySem.F.slot_dict_getitem.lookup hs (aF (ho pins s σ H _ I h) fun u s1 ⟨x,H1,I1,rx,q1⟩=>aF (hi pins s1 σ H1 _ I1 q1) fun iv s2 ⟨y,H2,I2,ry,a,v,ex,g,q2⟩=>?_)
 subst ex
 obtain rfl:u=Value.ref a:=rx
 exact ⟨MR I2 g,J6 hu I2 g ry fun w' s3 I3 rw'=>⟨v,H2,I3,rw',q2⟩⟩
theorem qL (hu:X.A.units+1<cLine) (hi:PE X i ty) (ho:PE X o td):PC X .In i o (nH ty td):=by
 intro pins s σ H Q I h
 refine aF (hi pins s σ H _ I h) fun iv s1 ⟨y,H1,I1,ry,q1⟩=>aF (ho pins s1 σ H1 _ I1 q1) fun u s2 ⟨x,H2,I2,rx,a,ov,ex,g,q2⟩=>?_
 subst ex
 obtain rfl:u=Value.ref a:=rx
 exact Ep hu I2 g ry fun s3 I3=>⟨.bl ov.isSome,H2,I3,rfl,q2⟩
theorem Qr (hu:X.A.units+1<cLine) (hi:PE X i ty) (ho:PE X o td):PC X .NotIn i o (Be ty td):=by
 intro pins s σ H Q I h
 refine aF (hi pins s σ H _ I h) fun iv s1 ⟨y,H1,I1,ry,q1⟩=>aF (ho pins s1 σ H1 _ I1 q1) fun u s2 ⟨x,H2,I2,rx,a,ov,ex,g,q2⟩=>?_
 subst ex
 obtain rfl:u=Value.ref a:=rx
 exact Lm hu I2 g ry fun s3 I3=>⟨.bl (!ov.isSome),H2,I3,rfl,q2⟩
theorem rO (hu:X.A.units+1<cLine) (ho:PE X o td) (hi:PE X i ty) (hv:PE X value tv) (hs:swapsWith value (some (.Subscript o i pos')) pos.line X.env=pure false) :
  PS X (.Assign [.Subscript o i pos'] value pos) (mI td ty tv):=by
 intro pins s σ H D I h
 refine wpAny_Assign_Subscript (aF (hv pins s σ H _ I h) fun r s1 ⟨v,H1,I1,rv,q1⟩=>aF (ho pins s1 σ H1 _ I1 q1) fun u s2 ⟨x,H2,I2,rx,q2⟩=>aF (hi pins s2 σ H2 _ I2 q2) fun iv s3 ⟨y,H3,I3,ry,a,H4,ex,g,q3⟩=>?_) hs
 subst ex
 obtain rfl:u=Value.ref a:=rx
 exact Mh hu I3 g ry rv fun s4 I4=>⟨σ,H4,I4,q3⟩
end
theorem Jl {P:Program}{w:World}{H:Hp} (h:Heap) (hb:sysModules<h.objs.size):dn P w H (h.push { cls:=.type "dict",data:=.dict #[] }) h.objs.size (.dK []) :=
 ⟨ZqH _,beq_eq_false_iff_ne.mpr (Ne.symm (ZqD hb)),[],.nil,Heap.DictOf.new h⟩
noncomputable def zL:TE:=fun _ H Q=>∀ p,H p=none->Q (.ref p) (upd H p (.dK []))
section
variable {X:Cx}{pos:Pos}
theorem KJ:PE X (.Dict [] [] pos) zL:=fun pins s σ H Q I h =>
 wpAny_Dict_empty ⟨.ref s.heap.objs.size,_,I.laid (a:=s.heap.objs.size) (o:=.dK []) (t':=s.toks) (fun _ _ q=>Heap.get?_push_of_some _ q) (ZqC _) (Jl s.heap I.big),rfl,h _ (I.aw.fresh (ZqC _))⟩
end
noncomputable def yV:List (TE × TE)->St->Hp->(List (V × V)->Hp->Prop)->Prop
 | [],_,H,Q=>Q [] H
 | (tk,tv) :: r,σ,H,Q=>tk σ H fun x H1=>tv σ H1 fun y H2=>yV r σ H2 fun ps H3=>Q ((x,y) :: ps) H3
noncomputable abbrev VV:List (V × V)->List (Value × Value)->Prop:=Paired fun p q=>aH p.1 q.1/\aH p.2 q.2
noncomputable def sE (X:Cx) (pos:Pos) (keys:List (Option Expr)) (values:List Expr) (kK:List (TE × TE)):Prop :=
 ∀ (pins:List (Addr × Obj)) (s:Shared) (σ:St) (H:Hp) (Q:List (V × V)->Hp->Prop),Inv X pins σ H s->yV kK σ H Q ->
  wpAny (model X.prog X.w) X.A (evalPairs (pairTrees keys values X.env pos)) (fun vs s'=>∃ ps H',Inv X pins σ H' s'/\VV ps vs/\Q ps H') X.xe s
theorem K2 {X:Cx}{pos:Pos}:sE X pos [] [] []:=fun pins s σ H Q I h=>pairTrees_nil_walk ⟨[],H,I,.nil,h⟩
theorem Gw {X:Cx}{pos:Pos}{k v:Expr}{ks:List (Option Expr)}{vs:List Expr}{tk tv:TE}{kK:List (TE × TE)} (hk:PE X k tk) (hv:PE X v tv) (hr:sE X pos ks vs kK) :
  sE X pos (some k :: ks) (v :: vs) ((tk,tv) :: kK):=fun pins s σ H Q I h =>
 pairTrees_cons_walk (aF (hk pins s σ H _ I h) fun u s1 ⟨x,H1,I1,rx,q1⟩=>aF (hv pins s1 σ H1 _ I1 q1) fun w2 s2 ⟨y,H2,I2,ry,q2⟩ =>
  aF (hr pins s2 σ H2 _ I2 q2) fun ws s3 ⟨ps,H3,I3,rel,q3⟩=>⟨(x,y) :: ps,H3,I3,.cons ⟨rx,ry⟩ rel,q3⟩)
noncomputable def eK (kvs more:List (Key × V)):List (Key × V):=more.foldl (fun acc kv=>d6 acc kv.1 kv.2) kvs
theorem KV.merge:∀ {more:List (Key × V)}{rs:List (Key × Value)}{kvs:List (Key × V)}{vs:List (Key × Value)},KV more rs->KV kvs vs->KV (eK kvs more) (merged vs rs):=by
 intro more rs kvs vs r
 unfold KV at r
 induction r generalizing kvs vs with
 | nil=>intro q;exact q
 | @cons p q ps qs h t ih =>
  intro r0
  have e:KV (d6 kvs p.1 p.2) (stored vs q.1 q.2):=by
   have:=r0.put p.1 h.2
   rw [<- h.1];exact this
  exact ih e
theorem zD:∀ (more kvs:List (Key × V)),(eK kvs more).length<=kvs.length+more.length
 | [],kvs=>by show kvs.length<=kvs.length+0;omega
 | p :: r,kvs=>by
  have h1:=zD r (d6 kvs p.1 p.2)
  have h2:=Ei kvs p.1 p.2
  show (eK (d6 kvs p.1 p.2) r).length<=_
  rw [ZpG];omega
theorem E4 {P:Program}{w:World}:∀ {kvs:List (Key × V)}{ws:List (Value × Value)},VV (kvs.map fun kv=>(kV kv.1,kv.2)) ws->∃ rs,Carries (fC P w) ws rs/\KV kvs rs
 | [],_,r=>by rw [Zp9] at r;cases r;exact ⟨[],True.intro,.nil⟩
 | p :: kvs,_,r=>by
  rw [Zpx] at r
  cases r with
  | @cons a b as bs h t =>
   obtain ⟨rs,c,q⟩:=E4 (P:=P) (w:=w) t
   obtain ⟨b1,b2⟩:=b
   exact ⟨(p.1,b2) :: rs,⟨lX h.1,rfl,c⟩,.cons ⟨rfl,h.2⟩ q⟩
noncomputable def uq (kK:List (TE × TE)):TE:=fun σ H Q=>∀ p,H p=none->yV kK σ (upd H p (.dK [])) fun ps H2=>H2 p=some (.dK [])/\∃ kvs:List (Key × V),ps=kvs.map (fun kv=>(kV kv.1,kv.2))/\kvs.length<=15/\Q (.ref p) (upd H2 p (.dK (eK [] kvs)))
theorem Ly {X:Cx}{pos:Pos}{keys:List (Option Expr)}{values:List Expr}{kK:List (TE × TE)} (h:sE X pos keys values kK) (qz:keys.all (·.isSome)=true) (hl:keys.length=values.length) (h0:keys≠[])
  (Ma:keys.length<=15):PE X (.Dict keys values pos) (uq kK):=by
 intro pins s σ H Q I q
 have hn:=I.aw.fresh (ZqC s.heap.objs.size)
 have I1:=I.laid (a:=s.heap.objs.size) (o:=.dK []) (h':=s.heap.push { cls:=.type "dict",data:=.dict #[] }) (t':=s.toks) (fun _ _ q=>Heap.get?_push_of_some _ q) (ZqC _) (Jl s.heap I.big)
 refine wpAny_Dict_walk (knd:=fC X.prog X.w) qz hl h0 Ma (aF (h pins _ σ _ _ I1 (q _ hn)) fun ws s2 ⟨ps,H2,I2,rel,e,kvs,ep,lk,q2⟩=>?_)
 subst ep
 obtain ⟨rs,c,rk⟩:=E4 (P:=X.prog) (w:=X.w) rel
 obtain ⟨z,hd,vs0,r0,dd⟩:=lT I2.aw e
 cases r0
 refine ⟨rs,c,dd,fun h' dd' hs=>⟨.ref s.heap.objs.size,_,?_,rfl,q2⟩⟩
 have hz:(eK [] kvs).length<=sizeLine:=by
  have h1:=zD kvs []
  rw [ZpW] at h1
  rw [sizeLine_eq];omega
 have he:∃ q,h'.get? s.heap.objs.size=some q:=let ⟨q,_,_,hq,_⟩:=dd';⟨q,hq⟩
 exact Di I2 (by rw [e];exact True.intro) hs he (z8 hz hd (rk.merge .nil) dd')
structure M1 (X:Cx) (o:Expr) (m:Str) (apos:Pos) (e:Expr) (cQ:Pos):Prop where
 base:attributeBase o m X.env (eval o X.env)=eval o X.env
 LQ:((backTo cQ (starEach [e] X.env)).all (fun x=>!x.1) && (backToKw cQ (keywordEach [] X.env)).all (fun x=>x.1.isSome)
  && decide (([e]:List Expr).length+([]:List Keyword).length+(if ([]:List Keyword).isEmpty then 0 else 1)<30))=true
 line:(apos.endLine == cQ.line)=true
 trees:backTo cQ (starEach [e] X.env)=[(false,eval e X.env)]
structure M2 (X:Cx) (o:Expr) (m:Str) (apos:Pos) (e f:Expr) (cQ:Pos):Prop where
 base:attributeBase o m X.env (eval o X.env)=eval o X.env
 LQ:((backTo cQ (starEach [e,f] X.env)).all (fun x=>!x.1) && (backToKw cQ (keywordEach [] X.env)).all (fun x=>x.1.isSome)
  && decide (([e,f]:List Expr).length+([]:List Keyword).length+(if ([]:List Keyword).isEmpty then 0 else 1)<30))=true
 line:(apos.endLine == cQ.line)=true
 trees:backTo cQ (starEach [e,f] X.env)=[(false,eval e X.env),(false,eval f X.env)]
section
variable {X:Cx}{pins:List (Addr × Obj)}{σ:St}{H:Hp}{s:Shared}{a:Addr}{y d:V}{u r:Value}{o:Option V}{A:Around}{E:Value->Shared->Prop}
end
section
variable {X:Cx}{o e f:Expr}{apos cQ:Pos}{td ty tx:TE}
end
section
variable {X:Cx}{pins:List (Addr × Obj)}{σ:St}{H:Hp}{s:Shared}{a:Addr}{kvs:List (Key × V)}{A:Around}{E:Value->Shared->Prop}
end
section
variable {X:Cx}{pins:List (Addr × Obj)}{σ:St}{H:Hp}{s:Shared}{a:Addr}{y:V}{u:Value}{A:Around}{E:Value->Shared->Prop}
end
end L2
namespace Js
open PySem PySem.W PySem.Calls PyProof.Rows
theorem OJ {P:Params}{h:Heap}:∀ (ns:List Int) (vs:List Value),WellAll P h vs (ns.map WData.int)->IntsAre vs ns:=by
 intro ns
 induction ns with
 | nil =>
  intro vs w
  rw [Zp9] at w
  cases w
  exact .nil
 | cons n ns ih =>
  intro vs w
  rw [Zpx] at w
  cases w with
  | cons a b =>
   cases a
   exact .cons _ _ (ih _ b)
theorem Pd {l:OpenLaw}{n:Nat} (hn:l.most=some n) {P:Params}{h:Heap}{args:List WData}{vals:List Value}
  (ll:l.row.toRowW.claim.pre args=true) (BS:WellAll P h vals args) :
  ∃ a vs ns,vals=[Value.ref a]/\args=[WData.list (ns.map WData.int)]/\h.get? a=some { cls:=.type "list",data:=.seq vs.toArray }/\IntsAre vs ns/\ns.length<=n:=by
 have zb:WShape.hasAll [] args [.list .int]=true:=(pre_splitW ll).1
 have hc:l.pre.holds [] { args:=args }=true:=(pre_splitW ll).2
 obtain ⟨d,r,rfl,h1,h2⟩:=hasAllW_cons zb
 obtain rfl:=hasAllW_nil h2
 obtain ⟨xs,rfl,h3⟩:=hasW_list h1
 obtain ⟨ns,rfl⟩:=items_int h3
 have hlen:ns.length<=n:=by
  unfold OpenLaw.pre at hc
  have h4:(WTm.not (.lt (.lit (.int (n:Int))) (.len (.arg 0)))).holds [] { args:=[.list (ns.map .int)] }=true:=by
   have h4:=(holds_andW hc).1
   rw [hn] at h4
   exact h4
  have h5:=condW_of h4 (w_not (w_lt w_lit (w_len_list (w_arg rfl))))
  rw [Zpu] at h5
  refine Nat.le_of_not_lt fun q=>?_
  have q':(n:Int)<((ns.length:Nat):Int):=by omega
  first
   | (rw [decide_eq_true q'] at h5;exact absurd h5 (by decide))
   | (simp at h5;omega)
 cases BS with
 | cons w1 w2 =>
  cases w2
  cases w1 with
  | list ho qz=>exact ⟨_,_,ns,rfl,rfl,ho,OJ ns _ qz,hlen⟩
theorem NW (l:OpenLaw) (args:List WData):l.row.toRowW.claim.post args (.bool true) args=true :=
 postW_of (r:=l.row.toRowW) (X:=(true == true))
  (show WShape.has [] (.bool true) .bool=true by first | rfl | decide | simp [WShape.has,WShape.arms,WShape.armsAll])
  (show (WTm.eq .res (.lit (.bool true))).value [] { args:=args,res:=some (.bool true),after:=args }=some (.bool (true == true)) from w_eq_bool (w_res rfl) w_lit) rfl
theorem Lg {l:OpenLaw}{n:Nat}{q:Program}{loose:List Str}{XP:(Str->Option Value)->Heap->Prop}{YP:World->Heap->Prop}{d:DefRec}
  (hn:l.most=some n) (yq:d.params.defaults=[])
  (call:∀ (w:World) (s₀ s₁:Shared) (mg mb:Str->Option Value) (fa:Addr) (o:Obj) (pm cd doc:Value) (a:Addr) (vs:List Value) (ns:List Int),
   Ground q loose [] XP w s₀ mg mb s₁.heap->YP w s₁.heap ->
   s₁.heap.get? fa=some o->o.data=.func (docDef d.name d.params d.body d.scope pm cd doc)->s₁.heap.CodeRec cd d.name->mg d.name=some (.ref fa) ->
   s₁.heap.get? a=some { cls:=.type "list",data:=.seq vs.toArray }->IntsAre vs ns->ns.length<=n->s₁.gens = #[] ->
   codeAny (model l.prog w) callerA (.call (.ref fa) ⟨[.ref a],[]⟩) (fun r s'=>r=.ok (.ret (.bool true))/\OldK s₁.heap s'.heap/\s'.os=s₁.os/\AllBare s'.gens) s₁) :
  WalkO q loose XP YP l.row.toRowW d [] (fun f vs=>PySem.call f vs):=by
 intro w s₀ s₁ mg mb G Y fa o pm cd doc dV kV ho hd jL hD hmg hg args vals as ll hlay hrd BS hlo
 obtain rfl:dV=.none:=Dflts.none hD yq
 obtain rfl:kV=.none:=Dflts.noKw hD
 obtain ⟨a,vs,ns,rfl,rfl,hobj,hints,hlen⟩:=Pd hn ll BS
 refine enter_call (codeAny_mono (call w s₀ s₁ mg mb fa o pm cd doc a vs ns G Y ho (fd_plain hd) jL hmg hobj hints hlen hg) fun r s' hq=>?_)
 obtain ⟨rfl,h2,h3,h4⟩:=hq
 exact ⟨.inl ⟨.bool true,.bool true,[],rfl,fun _=>rfl,.bool true,NW l _,fun _=>⟨List.Pairwise.nil,fun _ hm=>(nomatch hm)⟩⟩,h2,h3,h4⟩
section
variable {prog:Program}{w:World}{A:Around}{E:Value->Shared->Prop}{s:Shared}{K:Frag}
noncomputable def ledger (h:Heap) (L d:Addr):List (Addr × Obj):=(Zpv h.objs.size).filterMap fun a=>if a=L\/a=d then none else (h.get? a).map fun o=>(a,o)
end
end Js
namespace L2
open PySem PySem.Spec PyProof.Rows
theorem DQ:∀ {vs:List Value}{ns:List Int},IntsAre vs ns->Vals (ns.map V.int) vs
 | _,_,.nil=>.nil
 | _,_,.cons n t h=>.cons ⟨t,rfl⟩ (DQ h)
noncomputable def nO (H:Hp):Prop:=∀ b,H b=none\/∃ o xs,H b=some (.frz o (.lst xs))
theorem Mf {P:Program}{w:World}{K:ZoW}{mg mb:Str->Option Value}{CX:iL}{k:Nat}{fa a:Addr}{fd:FuncData}{x:Str}{sp:Sp}{s₁:Shared}{vs:List Value}{ns:List Int}
  (KX:K.In s₁.heap) (sI:s₁.heap.Ns mainGlobals mg) (hb:s₁.heap.Ns builtinsNs mb) (JV:∀ x:Str,x ≠ "__name__" -> mb x=bootBuiltins x) (Cz:s₁.heap.NoLimit) (hg:s₁.gens = #[])
  (ha:s₁.heap.get? a=some { cls:=.type "list",data:=.seq vs.toArray }) (hi:IntsAre vs ns) (hl:ns.length<=sizeLine) (hr:aS k callerA)
  (F:∀ base:Heap,K.In base->base.Ns mainGlobals mg->aB P w K mg base CX k fa fd [x] sp) (uZ:∀ (s:Shared) (u:Value),BindsTo s fd ⟨[u],[]⟩ [(x,u)])
  (i6:∀ H:Hp,nO H->aI K H a (ns.map V.int)->sp [.ref a] H (fun v _=>v=.bl true) fun _ _ _=>False)
  (Bh:∀ H e s',CX [] H s₁ (fun _ _ _=>False) e s'->False) :
  codeAny (model P w) callerA (.call (.ref fa) ⟨[.ref a],[]⟩) (fun r s'=>r=.ok (.ret (.bool true))/\OldK s₁.heap s'.heap/\s'.os=s₁.os/\AllBare s'.gens) s₁:=by
 have rv:=DQ hi
 have Em:=hi.length
 -- from an abstract heap in which nothing but lJ script may be tracked
 have core:∀ H:Hp,nO H->aI K H a (ns.map V.int)->du P w H s₁.heap->(∀ b,H b≠none->b=a)->(H a≠none->K.lookup a=none) ->
   codeAny (model P w) callerA (.call (.ref fa) ⟨[.ref a],[]⟩) (fun r s'=>r=.ok (.ret (.bool true))/\OldK s₁.heap s'.heap/\s'.os=s₁.os/\AllBare s'.gens) s₁:=by
  intro H hO hS aw hA hK
  have iU:∀ {b:Addr}{o:Obj},s₁.heap.get? b=some o->H b=none->(lq s₁.heap H).get? b=some o:=fun e n=>Mq e n
  have vC:∀ {b:Addr}{o:Obj}{es:Array DictEntry}{ep:Nat},s₁.heap.get? b=some o->o.data=.dict es ep->H b=none:=fun {b o es ep} e d=>by
   cases q:H b with
   | none=>rfl
   | some u =>
    have e':b=a:=hA b (by rw [q];simp)
    subst e'
    rw [ha] at e;cases e
    have d':Data.seq vs.toArray _=Data.dict es ep:=d
    cases d'
  have yU:∀ {b:Addr}{m:Str->Option Value},s₁.heap.Ns b m->(lq s₁.heap H).Ns b m:=fun {b m} ⟨o,es,ep,e,d,r⟩=>⟨o,es,ep,iU e (vC e d),d,r⟩
  have Gm:K.In (lq s₁.heap H):=fun b o e=>iU (KX b o e) (by
   cases q:H b with
   | none=>rfl
   | some u =>
    have e':b=a:=hA b (by rw [q];simp)
    subst e'
    rw [hK (by rw [q];simp)] at e;cases e)
  have hM:Mod K mg (lq s₁.heap H):=⟨Gm,yU sI,⟨mb,yU hb,JV⟩,let ⟨mc,h1,h2⟩:=Cz;⟨mc,yU h1,h2⟩⟩
  have e0:fB P w K mg (lq s₁.heap H) callerA [] s₁ H:=⟨rfl,hM,fun b o e=>Qd e,Nat.le_of_eq (MQ _ _),trivial,fun b hb=>absurd (show b∈([]:List Addr) from hb) (by simp),aw,.of_eq hg⟩
  refine codeAny_mono ((F _ Gm (yU sI)).run callerA [] s₁ H ⟨[.ref a],[]⟩ [.ref a] [.ref a] _ _ hr e0 (uZ s₁ (.ref a)) (.cons rfl .nil) (i6 H hO hS)) fun r s' h=>?_
  cases r with
  | error e=>exact (Bh H e s' h).elim
  | ok fl =>
   cases fl with
   | next=>exact False.elim h
   | brk=>exact False.elim h
   | cont=>exact False.elim h
   | ret u =>
    obtain ⟨v,H',os,bare,un,hok',r',q⟩:=h
    have q':v=.bl true:=q
    subst q'
    obtain rfl:u=Value.bool true:=r'
    refine ⟨rfl,OldK.of_keep fun b o e=>?_,os,bare⟩
    cases q:H b with
    | none=>exact un.keep b o e q (by intro z;exact absurd (show b∈([]:List Addr) from z) (by simp)) (by simp)
    | some u =>
     rcases hO b with z | ⟨ob,xs,z⟩
     ·rw [q] at z;cases z
     ·have z2:=un.eG b ob _ z
      obtain ⟨e1,_⟩:=aw b _ z
      obtain ⟨e2,_⟩:=hok' b _ z2
      rw [e] at e1;cases e1
      exact e2
 cases hk:K.lookup a with
 | some o =>
  -- lJ script is one of lJ module's own objects
  have e:=KX a o hk
  rw [ha] at e
  cases e
  refine core (fun _=>none) (fun _=>.inl rfl) (.inr ⟨_,vs.toArray,_,hk,rfl,rfl,rfl,by rw [ZpJ,Em];exact hl,by simpa using rv⟩) (fun b u z=>by have z':(none:Option HO)=some u:=z;cases z') (fun b z=>absurd rfl z) fun z=>absurd rfl z
 | none =>
  refine core (fun b=>if b=a then some (.frz { cls:=.type "list",data:=.seq vs.toArray } (.lst (ns.map V.int))) else none) (fun b=>?_) (.inl (.inr ⟨{ cls:=.type "list",data:=.seq vs.toArray },if_pos rfl⟩)) (fun b u z=>?_) (fun b z=>?_) fun _=>hk
  ·by_cases hb:b=a
   ·exact .inr ⟨_,_,if_pos hb⟩
   ·exact .inl (if_neg hb)
  ·by_cases hb:b=a
   ·have z':=(if_pos hb).symm.trans z
    cases z'
    subst hb
    exact ⟨ha,by rw [Zpu];exact hl,vs,_,rv,ha⟩
   ·have z':=(if_neg hb).symm.trans z
    cases z'
  ·by_cases hb:b=a
   ·exact hb
   ·exact absurd (if_neg hb) z
noncomputable abbrev EM {K:ZoW}{h:Heap} (_:K.In h):ZoW:=K
theorem JB {l:Zpk}{n k:Nat}{q:Program}{loose:List Str}{XP:(Str->Option Value)->Heap->Prop}{YP:World->Heap->Prop}{d:DefRec}{K:Params->ZoW}{CX:World->iL}{sp:World->Sp}{x:Str}
  (hn:l.most=some n) (qX:n<=sizeLine) (yq:d.params.defaults=[]) (hr:aS k callerA)
  (hY:∀ (w:World) (h:Heap),YP w h->(K w.params).In h)
  (F:∀ (w:World) (mg:Str->Option Value) (fa:Addr) (h:Heap),(K w.params).In h->h.Ns mainGlobals mg->mg d.name=some (.ref fa) ->
   ∃ fd:FuncData,(∀ (s:Shared) (u:Value),BindsTo s fd ⟨[u],[]⟩ [(x,u)]) /\
    ∀ base:Heap,(K w.params).In base->base.Ns mainGlobals mg->aB l.prog w (K w.params) mg base (CX w) k fa fd [x] (sp w))
  (i6:∀ (w:World) (H:Hp) (a:Addr) (ns:List Int),ns.length<=n->nO H->aI (K w.params) H a (ns.map V.int)->sp w [.ref a] H (fun v _=>v=.bl true) fun _ _ _=>False)
  (Bh:∀ (w:World) (H:Hp) (s:Shared) (e:Value) (s':Shared),CX w [] H s (fun _ _ _=>False) e s'->False) :
  PySem.W.WalkO q loose XP YP l.row.toRowW d [] (fun f vs=>PySem.call f vs):=by
 refine Js.Lg hn yq fun w s₀ s₁ mg mb fa o pm cd doc a vs ns G Y ho hd jL hmg hobj hints hlen hg=>?_
 have KX:=hY w _ Y
 obtain ⟨fd,hb,hF⟩:=F w mg fa _ KX G.T.g hmg
 exact Mf KX G.T.g G.T.b G.T.builtins G.T.nolimit hg hobj hints (ZqE hlen qX) hr hF hb (fun H hO hS=>i6 w H a ns hlen hO hS) fun H e s'=>Bh w H s₁ e s'
end L2
/- THE LAST THEOREM (shape;LID,My.* are yours):
   My.fv: a structure of lJ addresses that your layer names (classes,functions);My.Txt K t: a structure (Prop) of lJ equations over K;
   My.txt_mk:{K}{implicit addresses ..} (e1:nsIn K mainGlobals "law" = some (some (.ref f))) (e2:K.lookup f=some ⟨oc,od,.func (fnOf "law" "law" params body scope dV kV doc pm an bY ct),sl⟩) (e3:codeIn K bY "law" = true) .. : ∃ t,My.Txt K t
set_option maxRecDepth 100000 in
set_option maxHeartbeats 0 in
theorem PySem.Challenge.cw_LID_holds : PySem.Challenge.rw_LID.Holds := by
 w_on;o_law;k_head;(case hw=>w_witness2)
 k_fill
 refine L2.JB (l:=PySem.Challenge.rw_LID) (n:=63) (k:=40) (x:="script") (CX:=fun w=>..) (sp:=fun _=>My.fw) rfl (by decide) rfl ⟨rfl,by decide,by decide⟩ (fun w h Y=>PySem.W.kIn_of Y) ?F ?S ?C
 case F =>
  intro w mg fa h KX G hmg
  have T:∃ t,My.Txt (L2.EM KX) t:=by
   dsimp only [L2.EM]                          -- K must stand as «<heap const> w.params» for k_is
   refine' My.txt_mk ?e1 ?e2 ?e3 ..
   (case e1 => PySem.W.k_is)                    -- in lJ order: a name -> its address -> its object -> its parts
   (case e2=>PySem.W.k_is)
   ..
  obtain ⟨t,T⟩:=T
  have e0:=hmg.symm.trans (Zo3 KX G T.law)
  cases e0                                       -- fa is lJ law's own address
  exact ⟨_, fun s u => .of_eq rfl, fun base kb nb => My.law_fn T kb nb⟩     -- if «.of_eq rfl» comes too early: refine' ⟨_, ?b, fun base kb nb => My.law_fn T kb nb⟩; exact fun s u => .of_eq rfl
 case S=>exact fun w H a ns hl hO hS=>..
 case C=>exact ..
(lJ tactic k_is has no namespace: write k_is) -/
namespace L2
open PySem PySem.Spec PyProof.Rows
noncomputable def i3 (s:Stmt) (j:Nat):Stmt:=match s with
 | .ClassDef _ _ _ body _ _ _ _ _ _ _=>body.getD j (.Pass ⟨0,0,0,0⟩)
 | _=>.Pass ⟨0,0,0,0⟩
noncomputable def jM (s:Stmt):Arguments:=match s with
 | .FunctionDef _ a _ _ _ _ _ _ _ _=>a
 | _=>{ posonlyargs:=[],args:=[],vararg:=none,kwonlyargs:=[],kw_defaults:=[],kwarg:=none,defaults:=[] }
noncomputable def iQ (s:Stmt):List Stmt:=match s with
 | .FunctionDef _ _ b _ _ _ _ _ _ _=>b
 | _=>[]
noncomputable def aO (s:Stmt):Scope:=match s with
 | .FunctionDef _ _ _ _ _ _ sc _ _ _=>sc
 | _=>{ kind:=.function,names:=[],isGenerator:=false,isCoroutine:=false }
noncomputable abbrev cb:iL:=fun _ _ _ _ _ _=>False
noncomputable abbrev E0:XK:=fun _ _ _=>False
theorem bx {X:Cx}:oa cb X E0:=fun _ _ _ _ _ _ _ h=>h.elim
structure jy (K:ZoW) (x qual:Str) (st:Stmt) (f:Addr) (fd:FuncData):Prop where
 ex:∃ (oc:Value) (od:Option Addr) (kV doc pm:Value) (an:Option Addr) (bY ct:Value) (jj:Array (Option Value)),
  fd=Zo0 x qual (jM st) (iQ st) (aO st) .none kV doc pm an bY ct/\K.lookup f=some ⟨oc,od,.func fd,jj⟩/\Zo8 K bY qual=true
 kp:Zo5 K (.ref f)=true
section
variable {P:Program}{w:World}{K:ZoW}{mg:Str->Option Value}{base:Heap}
theorem jy.ok {x qual:Str}{st:Stmt}{f:Addr}{fd:FuncData}{N ps:List Str}{k:Nat}{sp:Sp} (F:jy K x qual st f fd) (S:ai N ps (aO st)) (len:∀ vs H Q E,sp vs H Q E->vs.length=ps.length)
  (j3:∀ (bY:Value) (A:Around) (outer:List Env) (s:Shared) (H:Hp) (vs:List V) (Q:VK) (E:XK),aS k (A.deeper (envOfC qual (aO st) s.heap.objs.size f bY))->sp vs H Q E ->
   ∃ t,iu (pL cb P w K mg base N qual (aO st) f bY A outer s H E).vF (iQ st) t/\t { nx:=fun _ H'=>Q .non H',rt:=Q } (lr N vs) H):aB P w K mg base cb (k+1) f fd ps sp:=by
 obtain ⟨oc,od,kV,doc,pm,an,bY,ct,jj,rfl,lk,jL⟩:=F.ex
 refine yw lk jL S len fun A outer s H vs Q E hr i6=>?_
 obtain ⟨t,h,q⟩:=j3 bY A outer s H vs Q E hr i6
 exact ⟨t,h.vF,q⟩
theorem jy.binds {x qual:Str}{st:Stmt}{f:Addr}{fd:FuncData}{ps:List Str} (F:jy K x qual st f fd)
  (h:∀ (kV doc pm:Value) (an:Option Addr) (bY ct:Value) (us:List Value),us.length=ps.length->bindArgs (Zo0 x qual (jM st) (iQ st) (aO st) .none kV doc pm an bY ct) ⟨us,[]⟩=pure (ps.zip us)):kH K fd ps []:=by
 obtain ⟨oc,od,kV,doc,pm,an,bY,ct,jj,rfl,lk,jL⟩:=F.ex
 exact .all (h kV doc pm an bY ct)
theorem Fz {x qual:Str}{st:Stmt}{f:Addr}{oc:Value}{od an:Option Addr}{jj:Array (Option Value)}{kV doc pm bY ct:Value} (l:K.lookup f=some ⟨oc,od,.func (Zo0 x qual (jM st) (iQ st) (aO st) .none kV doc pm an bY ct),jj⟩)
  (c:Zo8 K bY qual=true) (k:Zo5 K (.ref f)=true):jy K x qual st f (Zo0 x qual (jM st) (iQ st) (aO st) .none kV doc pm an bY ct):=⟨⟨oc,od,kV,doc,pm,an,bY,ct,jj,rfl,l,c⟩,k⟩
end
theorem js {A:Around}{k:Nat} (hr:aS k A):A.units+1<cLine:=Nat.lt_of_le_of_lt (Nat.add_le_add_left (by decide:1<=64) _) hr.units
section
variable {X:Cx}
theorem P7:fD X (.builtin "len") (fun xs H Q=>∃ a kvs,xs=[V.ref a]/\H a=some (.dK kvs)/\Q (.int kvs.length) H):=by
 intro pins s σ H xs us Q I r h
 obtain ⟨a,kvs,rfl,ha,q⟩:=h
 obtain ⟨u,rfl,ru⟩:=gW r
 cases ru
 exact vA I (.inl ha) fun t s' I'=>⟨.int kvs.length,H,I',⟨t,rfl⟩,q⟩
end
noncomputable def aD (H H':Hp):Prop:=∀ b o,H b=some o->H' b=some o
theorem aD.refl (H:Hp):aD H H:=fun _ _ h=>h
theorem aD.trans {H H1 H2:Hp} (a:aD H H1) (b:aD H1 H2):aD H H2:=fun c o h=>b c o (a c o h)
theorem aD.free {H H':Hp} (e:aD H H') {l:Addr} (h:H' l=Option.none):H l=Option.none:=by
 cases q:H l with
 | none=>rfl
 | some o =>
  rw [e l o q] at h
  cases h
theorem aD.seq {K:ZoW}{H H':Hp}{a:Addr}{xs:List V} (e:aD H H') (h:aI K H a xs):aI K H' a xs:=by
 rcases h with (h | ⟨o,h⟩) | h
 ·exact .inl (.inl (e _ _ h))
 ·exact .inl (.inr ⟨o,e _ _ h⟩)
 ·exact .inr h
section
variable {κ:Type} [DecidableEq κ]
end
noncomputable def gi (env:Env):List (Str × NameKind)->List (Str × Addr)->List (Str × Addr)
 | [],acc=>acc
 | (n,k) :: r,acc=>if (k == NameKind.free)=true then gi env r ((n,(env.cells.lookup n).getD 0) :: acc) else gi env r acc
theorem Kv {env:Env}{n:Str}{c:Addr} (h:env.cells.lookup n=some c):cellOf env n=pure c:=by
 unfold cellOf
 rw [h]
theorem G1 {env:Env}:∀ (names:List (Str × NameKind)) (acc:List (Str × Addr)),(∀ x∈names,x.2=.free->∃ c,env.cells.lookup x.1=some c) ->
  (forIn names acc fun (x:Str × NameKind) (cs:List (Str × Addr))=>(match x with | (name,kind)=>if (kind == NameKind.free)=true then (do let __do_lift <- cellOf env name;pure PUnit.unit;pure (ForInStep.yield ((name,__do_lift) :: cs)):Sem _) else (do pure PUnit.unit;pure (ForInStep.yield cs)):Sem (ForInStep (List (Str × Addr)))))=pure (gi env names acc)
 | [],acc,_=>rfl
 | (n,k) :: r,acc,h=>by
  have ih:=fun a=>G1 r a fun x hx=>h x (ZpL _ hx)
  rw [List.forIn_cons]
  by_cases hk:(k == NameKind.free)=true
  ·obtain ⟨c,hc⟩:=h (n,k) ZpK (by simpa using hk)
   simp only [hk,if_true,gi,Kv hc,hc,Option.getD_some,pure_bind]
   exact ih _
  ·simp only [hk,if_false,gi,pure_bind]
   exact ih _
theorem Hb {scope:Scope}{env:Env} (h:∀ x∈scope.names,x.2=.free->∃ c,env.cells.lookup x.1=some c):closureFor scope env=pure (gi env scope.names []):=by
 unfold closureFor
 have q:=G1 scope.names [] h
 exact (congrArg (fun m=>m >>= pure) q).trans (pure_bind _ _)
theorem DW {env:Env}:∀ (names:List (Str × NameKind)) (acc:List (Str × Addr)),(∀ x∈names,x.2=.free->∃ c,env.cells.lookup x.1=some c)->(∀ p∈acc,env.cells.lookup p.1=some p.2) ->
  ∀ p∈gi env names acc,env.cells.lookup p.1=some p.2
 | [],acc,_,ha=>ha
 | (n,k) :: r,acc,h,ha=>by
  by_cases hk:(k == NameKind.free)=true
  ·obtain ⟨c,hc⟩:=h (n,k) ZpK (by simpa using hk)
   simp only [gi,hk,if_true]
   refine DW r _ (fun x hx=>h x (ZpL _ hx)) fun p hp=>?_
   rcases ZpC.mp hp with rfl | hp
   ·show env.cells.lookup n=some _
    rw [hc];rfl
   ·exact ha p hp
  ·simp only [gi,hk,if_false]
   exact DW r _ (fun x hx=>h x (ZpL _ hx)) ha
theorem DA {env:Env}:∀ (names:List (Str × NameKind)) (acc:List (Str × Addr)) (p:Str × Addr),p∈acc->p∈gi env names acc
 | [],_,_,h=>h
 | (n,k) :: r,acc,p,h=>by
  by_cases hk:(k == NameKind.free)=true
  ·simp only [gi,hk,if_true]
   exact DA r _ p (ZpL _ h)
  ·simp only [gi,hk,if_false]
   exact DA r _ p h
theorem Cu {env:Env}:∀ (names:List (Str × NameKind)) (acc:List (Str × Addr)) (x:Str),(x,NameKind.free)∈names->∃ c,(x,c)∈gi env names acc
 | (n,k) :: r,acc,x,h=>by
  rcases ZpC.mp h with e | h
  ·injection e with e1 e2
   subst e1;subst e2
   simp only [gi,beq_self_eq_true,if_true]
   exact ⟨_,DA r _ _ ZpK⟩
  ·by_cases hk:(k == NameKind.free)=true
   ·simp only [gi,hk,if_true]
    exact Cu r _ x h
   ·simp only [gi,hk,if_false]
    exact Cu r _ x h
theorem IZ:∀ {l:List (Str × Addr)}{x:Str}{c:Addr},(x,c)∈l->∃ d,l.lookup x=some d
 | (n,d) :: r,x,c,h=>by
  by_cases e:x == n
  ·exact ⟨d,by simp [ZpZ,e]⟩
  ·rcases ZpC.mp h with q | q
   ·injection q with q1 _
    subst q1
    simp at e
   ·obtain ⟨d',hd⟩:=IZ q
    exact ⟨d',by simp [ZpZ,e,hd]⟩
theorem C9 {env:Env}:∀ {names:List (Str × NameKind)}{x:Str}{k:NameKind},
  (names.map fun (n,k)=>if (k == NameKind.free && env.scope.kind == .function && env.kindOf n == some .cell) then (n,NameKind.cell) else (n,k)).lookup x=some k ->
  ∃ k',names.lookup x=some k'/\(k=k'\/k'=.free)
 | [],_,_,h=>by simp at h
 | (n,j) :: r,x,k,h=>by
  have ih:=@C9 env r x k
  by_cases hc:(j == NameKind.free && env.scope.kind == .function && env.kindOf n == some .cell)=true
  ·simp only [Zpx,hc,if_true,ZpZ] at h ⊢
   cases e:x == n with
   | true =>
    rw [e] at h
    refine ⟨j,rfl,.inr ?_⟩
    simp only [Zrf,beq_iff_eq] at hc
    exact hc.1.1
   | false =>
    rw [e] at h
    exact ih h
  ·rw [Zpx] at h
   dsimp only at h
   rw [if_neg hc,ZpZ] at h
   rw [ZpZ]
   cases e:x == n with
   | true =>
    rw [e] at h
    exact ⟨j,rfl,.inl (by injection h with h;exact h.symm)⟩
   | false =>
    rw [e] at h
    exact ih h
theorem IX {env:Env}:∀ {names:List (Str × NameKind)}{x:Str},names.lookup x=some .free ->
  (names.map fun (n,k)=>if (k == NameKind.free && env.scope.kind == .function && env.kindOf n == some .cell) then (n,NameKind.cell) else (n,k)).lookup x=some .cell \/
  (names.map fun (n,k)=>if (k == NameKind.free && env.scope.kind == .function && env.kindOf n == some .cell) then (n,NameKind.cell) else (n,k)).lookup x=some .free
 | [],_,h=>by simp at h
 | (n,j) :: r,x,h=>by
  have ih:=@IX env r x
  cases e:x == n with
  | true =>
   rw [ZpZ,e] at h
   injection h with h
   subst h
   rw [Zpx]
   dsimp only
   split
   ·exact .inl (by simp [ZpZ,e])
   ·exact .inr (by simp [ZpZ,e])
  | false =>
   rw [ZpZ,e] at h
   rcases ih h with q | q
   ·left
    rw [Zpx]
    dsimp only
    split <;> simp only [ZpZ,e] <;> exact q
   ·right
    rw [Zpx]
    dsimp only
    split <;> simp only [ZpZ,e] <;> exact q
noncomputable def jD (X:Cx) (scope:Scope) (N:List Str) (C:Addr) (s:Shared) (H:Hp) (fp:List Addr):Cx :=
 { X with N:=N,s₀:=s,H₀:=H,env:=compEnvC scope (gi X.env scope.names []) C X.env,outer:=X.stack,stack:=X.stack,ex:=fp,fn:=fun _=>false,pn:=[],xe:=fun _ _=>False }
structure ao (X:Cx) (scope:Scope):Prop where
 kind:scope.kind=.function
 jY:∀ y∈scope.names,y.2≠.cell
 names:∀ y∈scope.names,y.2=.local->scope.names.lookup y.1=some .local
 free:∀ y∈scope.names,y.2=.free->X.env.kindOf y.1=some .cell\/X.env.kindOf y.1=some .free
section
variable {X:Cx}{pins:List (Addr × Obj)}{σ:St}{H:Hp}{s:Shared}
theorem ao.has {scope:Scope} (S:ao X scope) (ok:X.Ok):∀ x∈scope.names,x.2=.free->∃ c,X.env.cells.lookup x.1=some c:=fun x hx h=>ok.has _ (S.free x hx h)
theorem o6 {scope:Scope} (S:ao X scope) (ok:X.Ok) {x:Str}{c:Addr} (h:(gi X.env scope.names []).lookup x=some c):X.env.cells.lookup x=some c :=
 DW scope.names [] (S.has ok) (fun p hp=>absurd hp (by simp)) (x,c) (PySem.mem_of_lookup h)
theorem AI {scope:Scope} (S:ao X scope) (ok:X.Ok) {x:Str} (h:scope.names.lookup x=some .free):∃ c,(gi X.env scope.names []).lookup x=some c/\X.env.cells.lookup x=some c:=by
 obtain ⟨c,hc⟩:=Cu (env:=X.env) scope.names [] x (PySem.mem_of_lookup h)
 obtain ⟨d,hd⟩:=IZ hc
 exact ⟨d,hd,o6 S ok hd⟩
structure av (X:Cx) (scope:Scope) (N:List Str) (k:Nat) (sel:List Nat):Prop where
 len:N.length=k+sel.length
 fr:∀ (i j:Nat) (x:Str),sel[i]? = some j->N[k+i]? = some x->X.N[j]? = some x/\scope.names.lookup x=some .free
noncomputable def cst (σ:St) (k:Nat) (sel:List Nat):St:=ZpV k none ++ sel.map fun j=>(σ[j]?).join
theorem P4 {k:Nat}{sel:List Nat}:(cst σ k sel).length=k+sel.length:=by
 unfold cst;rw [ZpD,Zqc,Zpu]
theorem HQ {scope:Scope}{N:List Str}{fp:List Addr} (S:ao X scope) (I:Inv X pins σ H s) (hf:∀ b∈fp,gS X pins H b) (bU:∀ b∈fp,b<s.heap.objs.size):(jD X scope N s.heap.objs.size s H fp).Ok where
 mod:=I.ok.mod
 kind:=S.kind
 glob:=I.ok.glob
 blt:=I.ok.blt
 above:=ZqC _
 inj:=fun x y c h1 h2=>I.ok.inj x y c (o6 S I.ok h1) (o6 S I.ok h2)
 has:=fun x h=>by
  have h':(relabel scope X.env).names.lookup x=some .cell\/(relabel scope X.env).names.lookup x=some .free:=h
  rcases h' with h' | h'
  ·obtain ⟨k',e,q⟩:=C9 h'
   rcases q with q | q
   ·subst q
    exact absurd rfl (S.jY _ (PySem.mem_of_lookup e))
   ·subst q
    obtain ⟨c,hc,_⟩:=AI S I.ok e
    exact ⟨c,hc⟩
  ·obtain ⟨k',e,q⟩:=C9 h'
   have:k'=.free:=by rcases q with q | q;exact q.symm;exact q
   subst this
   obtain ⟨c,hc,_⟩:=AI S I.ok e
   exact ⟨c,hc⟩
 m6:=fun x c h=>absurd (show false=true from h) (by simp)
 hd:=I.ok.hd
 frames:=I.ok.frames
 pQ:=.inl rfl
 uK:=fun b hb=>⟨ZqD (bU b hb),fun x c h=>(hf b hb).2.2.2.2.1 x c (o6 S I.ok h)⟩
 bs:=I.bs
 iO:=ZqE I.ok.iO I.sz
 gJ:=fun b o e hb=>by
  rcases (hf b hb).2.2.2.1 with z | z
  ·exact I.ok.gJ b o e z
  ·exact absurd (ZqF (Heap.lt_size e) (ZqE I.ok.iO z)) (ZqK _)
 hJ:=fun b hb z=>by
  rcases ZpC.mp (I.iH b z) with q | q
  ·exact (hf b hb).2.1 q
  ·exact (hf b hb).2.2.1 q
 dw:=I.stack
 jZ:=I.gD
theorem Oz {scope:Scope}{N:List Str}{fp:List Addr}{k:Nat}{sel:List Nat}{h₁:Heap}{m:Str->Option Value}{t':Nat} (S:ao X scope) (M:av X scope N k sel) (I:Inv X pins σ H s) (hf:∀ b∈fp,gS X pins H b) (bU:∀ b∈fp,b<s.heap.objs.size)
  (hn:h₁.Ns s.heap.objs.size m) (hk:∀ b o,s.heap.get? b=some o->h₁.get? b=some o):Inv (jD X scope N s.heap.objs.size s H fp) [] (cst σ k sel) H { s with heap:=h₁,toks:=t' }:=by
 refine ⟨HQ S I hf bU,rfl,I.bare,Un.kept hk,⟨m,hn,fun i x v e1 e2 e3=>?_⟩,fun x c e=>?_,I.aw.fresh (ZqC _),fun x c e=>I.bB x c (o6 S I.ok e),fun p hp=>absurd (show p∈([]:List (Addr × Obj)) from hp) (by simp),I.aw.kept hk,?_⟩
 ·have hi:k<=i:=by
   by_cases hi:k<=i
   ·exact hi
   ·unfold cst at e2
    rw [ZpQ (by simp;omega),Zqp] at e2
    split at e2 <;> cases e2
  obtain ⟨d,rfl⟩:∃ d,i=k+d:=⟨i - k,by omega⟩
  unfold cst at e2
  rw [ZpP (by simp),Zqc,Nat.add_sub_cancel_left,ZpB] at e2
  cases ej:sel[d]? with
  | none=>rw [ej] at e2;cases e2
  | some j =>
   rw [ej] at e2
   have e2':(σ[j]?).join=some v:=Option.some.inj e2
   have e4:σ[j]? = some (some v):=by
    cases q:σ[j]? with
    | none=>rw [q] at e2';cases e2'
    | some o=>rw [q] at e2';cases o with
     | none=>cases e2'
     | some w=>cases e2';rfl
   obtain ⟨hN,hfr⟩:=M.fr d j x ej e1
   obtain ⟨mo,hno,hlo⟩:=I.loc
   have i5:=S.free _ (PySem.mem_of_lookup hfr) rfl
   obtain ⟨u,ru,lu⟩:=hlo j x v hN e4 (by rcases i5 with q | q;exact .inr (.inl q);exact .inr (.inr q))
   obtain ⟨c,hc,hc'⟩:=AI S I.ok hfr
   refine ⟨u,ru,.inr ⟨?_,c,hc,?_⟩⟩
   ·exact IX hfr
   ·rcases lu with ⟨kl,_⟩ | ⟨_,c',e5,z⟩
    ·rcases i5 with q | q
     ·rw [kl] at q;cases q
     ·rw [kl] at q;cases q
    ·rw [hc'] at e5;cases e5
     obtain ⟨o,ho,hd⟩:=z
     exact ⟨o,hk _ _ ho,hd⟩
 ·obtain ⟨v,o,ho,hd⟩:=I.cell x c (o6 S I.ok e)
  exact ⟨v,o,hk _ _ ho,hd⟩
 ·rw [P4];exact M.len.symm
end
noncomputable def oI (X:Cx) (ifs:List Expr) (t:TT):Prop :=
 ∀ (pins:List (Addr × Obj)) (s:Shared) (σ:St) (H:Hp) (Q:Bool->Hp->Prop),Inv X pins σ H s->t σ H Q ->
  wpAny (model X.prog X.w) X.A (forIn ifs true fun c r=>if r=true then do let ok <- isTrue c X.env (eval c X.env);pure (ForInStep.yield ok) else pure (ForInStep.yield r)) (TP X pins σ Q) X.xe s
noncomputable def cJ:TT:=fun _ H Q=>Q true H
theorem fz {X:Cx}:oI X [] cJ:=fun pins s σ H Q I h=>wpAny_tests_nil ⟨H,I,h⟩
theorem Qu {X:Cx}{c:Expr}{t:TT} (hc:PT X c t):oI X [c] t:=fun pins s σ H Q I h=>wpAny_tests_one (hc pins s σ H Q I h)
noncomputable def cO (wi:TI) (k:Nat) (sel:List Nat) (g:TG) (tt:TT) (te:TE):TE:=fun σ H Q=>wi σ H fun J H1=>∀ p,H1 p=none ->
 ∃ W:Nat->Nat->St->Hp->Prop,(∃ m,W 0 m (cst σ k sel) (upd H1 p (.lst [])))/\∀ i m σ2 H2,W i m σ2 H2 ->
  (J.stop i H2/\Q (.ref p) H2)\/(J.go i H2/\∀ x H3,J.g8 i H2 x H3->g x σ2 H3 fun σ4 H4=>tt σ4 H4 fun b H5 =>
   if b=true then te σ4 H5 fun v H6=>∃ ys,H6 p=some (.lst ys)/\ys.length<sizeLine/\∃ m',m'<m/\W (i+1) m' σ4 (upd H6 p (.lst (ys ++ [v]))) else ∃ m',m'<m/\W (i+1) m' σ4 H5)
theorem Ob {X:Cx}{elt tg iter:Expr}{ifs:List Expr}{scope:Scope}{pos:Pos}{it D:Addr}{fp:List Addr}{tn:Nat->Heap->Prop}{J:It}{g:TG}{tt:TT}{te:TE}{W:Nat->Nat->St->Hp->Prop}{R:Result->Shared->Prop}{QQ:Hp->Prop}
  (hx:X.xe=fun _ _=>False) (hc:X.calm=true) (T:Turn X.prog X.w X.K tg J fp it tn) (hg:PG X tg g) (ht:oI X ifs tt) (he:PE X elt te)
  (MK:∀ b∈fp,b≠X.env.locals/\b ∉ X.fs/\(b∈X.ex\/X.s₀.heap.objs.size<=b)/\(∀ x c,X.env.cells.lookup x=some c->c≠b)/\∀ p∈X.pn ++ [],p.1≠b)
  (turn:∀ i m σ2 H2,W i m σ2 H2 ->
   (J.stop i H2/\QQ H2)\/(J.go i H2/\∀ x H3,J.g8 i H2 x H3->g x σ2 H3 fun σ4 H4=>tt σ4 H4 fun b H5 =>
    if b=true then te σ4 H5 fun v H6=>∃ ys,H6 D=some (.lst ys)/\ys.length<sizeLine/\∃ m',m'<m/\W (i+1) m' σ4 (upd H6 D (.lst (ys ++ [v]))) else ∃ m',m'<m/\W (i+1) m' σ4 H5))
  (hR:∀ s' σ' H',Inv X [] σ' H' s'->QQ H'->R (.ok .next) s') {s:Shared} (m0:Nat) (h:∃ i σ' H',Inv X [] σ' H' s/\tn i s.heap/\(∀ b∈fp,H' b=none)/\W i m0 σ' H') :
  codeAny (model X.prog X.w) X.A (.compLoop (.ListComp elt [⟨tg,iter,ifs,0⟩] scope pos) 0 (.ref it) (.ref D) X.env) R s:=by
 have stat:∀ {H':Hp},(∀ b∈fp,H' b=none)->∀ b∈fp,gS X [] H' b:=fun hn b hb=>⟨hn b hb,MK b hb⟩
 have pJ:∀ {α:Type}{t:Sem α}{Q:α->Shared->Prop}{E:Value->Shared->Prop}{s:Shared},wpAny (model X.prog X.w) X.A t Q X.xe s->wpAny (model X.prog X.w) X.A t Q E s:=fun {α t Q E s} h=>by
  rw [hx] at h
  exact wpAny_noRaise h
 refine codeAny_loop rfl (fun n s'=>∃ i σ' H',Inv X [] σ' H' s'/\tn i s'.heap/\(∀ b∈fp,H' b=none)/\W i n σ' H') (fun n s3 hI=>?_) m0 h
 obtain ⟨i,σ3,H3,I3,st3,fr3,w3⟩:=hI
 show wpAny _ X.A ((compTurn (.ListComp elt [⟨tg,iter,ifs,0⟩] scope pos) 0 (.ref it) (.ref D) X.env).onRaise (fun x=>do noteFrame x X.env;theTreesLotGoes x)) _ _ s3
 refine wpAny_noted ?_
 rw [compTurn_list]
 rcases turn i n σ3 H3 w3 with ⟨stop,qn⟩ | ⟨go,step⟩
 ·refine wpAny_bind (wpAny_standAt (wpAny_bind (aF (pJ (T.done X rfl rfl rfl hc i [] s3 σ3 H3 X.xe I3 (stat fr3) st3 stop)) fun r s4 ⟨hr,I4⟩=>?_)))
  subst hr
  exact wpAny_pure (hR s4 σ3 H3 I4 qn)
 ·refine wpAny_bind (wpAny_standAt (wpAny_bind (aF (pJ (T.item X rfl rfl rfl hc i [] s3 σ3 H3 X.xe I3 (stat fr3) st3 go)) fun r s4 ⟨u,hr,h4⟩=>?_)))
  subst hr
  refine wpAny_bind (aF (pJ h4) fun _ s5 ⟨x,H5,I5,r5,y5,st5,fr5⟩=>?_)
  have I5':=I5.pinned (stat fr5) (T.obj _ _ st5)
  refine wpAny_bind (aF (pJ (hg _ s5 σ3 H5 x u _ I5' r5 (step x H5 y5))) fun _ s6 ⟨σ6,H6,I6,q6⟩=>?_)
  refine wpAny_bind (aF (pJ (ht _ s6 σ6 H6 _ I6 q6)) fun ok s7 ⟨H7,I7,q7⟩=>?_)
  have again:∀ {s8:Shared}{H8:Hp},Inv X ([] ++ uB fp s5.heap) σ6 H8 s8->(∃ m',m'<n/\W (i+1) m' σ6 H8)->∃ m,m<n/\∃ i σ' H',Inv X [] σ' H' s8/\tn i s8.heap/\(∀ b∈fp,H' b=none)/\W i m σ' H':=fun {s8 H8} I8 n8=>by
   obtain ⟨m',hm,w8⟩:=n8
   refine ⟨m',hm,i+1,σ6,H8,I8.dQ,T.keep _ _ _ st5 fun b hb o e=>(I8.pin (b,o) (ZpR _ (ZpR _ (zX hb e)))).1,fun b hb=>?_,w8⟩
   obtain ⟨o,e,d⟩:=T.obj _ _ st5 b hb
   exact (I8.pin (b,o) (ZpR _ (ZpR _ (zX hb e)))).2.1
  cases ok with
  | false=>exact wpAny_pure ⟨rfl,again I7 q7⟩
  | true =>
   refine wpAny_bind (wpAny_bind (aF (pJ (he _ s7 σ6 H7 _ I7 q7)) fun y s8 ⟨v,H8,I8,r8,ys,hys,hl,q8⟩=>?_))
   refine wpAny_bind (aF (pJ (jV _ s8 σ6 H8 (.ref D) [v] (.ref D) [y] (fun _ H9=>∃ m',m'<n/\W (i+1) m' σ6 H9) I8 rfl (.cons r8 .nil) ⟨D,ys,v,rfl,rfl,hys,hl,q8⟩)) fun _ s9 ⟨_,H9,I9,_,q9⟩=>?_)
   exact wpAny_pure (wpAny_pure ⟨rfl,again I9 q9⟩)
structure yA (X:Cx) (pins:List (Addr × Obj)) (H:Hp) (C:Addr) (s:Shared):Prop where
 none:H C=Option.none
 ne:C≠X.env.locals
 above:X.s₀.heap.objs.size<=C
 cells:∀ x c,X.env.cells.lookup x=some c->c≠C
 pins:∀ p∈X.pn ++ pins,p.1≠C
 ns:∃ m,s.heap.Ns C m
theorem Hn {X:Cx}{pins:List (Addr × Obj)}{σ:St}{elt tg iter:Expr}{ifs:List Expr}{scope:Scope}{pos:Pos}{N:List Str}{k:Nat}{sel:List Nat}{g:TG}{tt:TT}{te:TE}{qw:Value}{s2:Shared}{QQ:VK}{use:Option (Value->Sem Unit)}{Qv:Value->Shared->Prop}
  (S:ao X scope) (M:av X scope N k sel) (hc:X.calm=true)
  (hg:∀ C s H fp,PG (jD X scope N C s H fp) tg g) (ht:∀ C s H fp,oI (jD X scope N C s H fp) ifs tt) (he:∀ C s H fp,PE (jD X scope N C s H fp) elt te)
  (fin:∀ D C s' H',Inv X pins σ H' s'->yA X pins H' C s'->QQ (.ref D) H'->compPost (model X.prog X.w) X.A X.xe use Qv (.ref D) C (.ok .next) s')
  (h2:z5 X pins σ tg (fun J H1=>∀ p,H1 p=none->∃ W:Nat->Nat->St->Hp->Prop,(∃ m,W 0 m (cst σ k sel) (upd H1 p (.lst [])))/\∀ i m σ2 H2,W i m σ2 H2 ->
   (J.stop i H2/\QQ (.ref p) H2)\/(J.go i H2/\∀ x H3,J.g8 i H2 x H3->g x σ2 H3 fun σ4 H4=>tt σ4 H4 fun b H5 =>
    if b=true then te σ4 H5 fun v H6=>∃ ys,H6 p=some (.lst ys)/\ys.length<sizeLine/\∃ m',m'<m/\W (i+1) m' σ4 (upd H6 p (.lst (ys ++ [v]))) else ∃ m',m'<m/\W (i+1) m' σ4 H5)) qw s2) :
  wpAny (model X.prog X.w) X.A (newList []) (fun acc s₃=>wpAny (model X.prog X.w) X.A (newFunctionEnv scope X.env.globals (gi X.env scope.names []) [] X.env.qual none .none (some X.env)) (fun vK s₄ =>
   codeAny (model X.prog X.w) X.A (.compStart (.ListComp elt [⟨tg,iter,ifs,0⟩] scope pos) 0 qw acc { vK with scope:=relabel scope X.env }) (compPost (model X.prog X.w) X.A X.xe use Qv acc vK.locals) s₄) X.xe s₃) X.xe s2:=by
 obtain ⟨it,fp,tn,J,H2,rfl,I2,T,st2,f2,R2⟩:=h2
 have hD:H2 s2.heap.objs.size=none:=I2.aw.fresh (ZqC _)
 obtain ⟨W,⟨m0,w0⟩,turn⟩:=R2 _ hD
 refine wpAny_newObj_type ?_
 have I3:=I2.pU (its:=[]) (ys:=[]) (t':=s2.toks) .nil (ZqH _)
 generalize hs3:({ s2 with heap:=s2.heap.push { cls:=.type "list",data:=.seq ([]:List Value).toArray },toks:=s2.toks }:Shared)=s3 at I3
 have e3:({ s2 with heap:=s2.heap.push { cls:=.type "list",dict:=none,data:=.seq ([]:List Value).toArray } }:Shared)=s3:=by rw [<- hs3]
 have up:∀ b o,s2.heap.get? b=some o->s3.heap.get? b=some o:=fun b o e=>by rw [<- hs3];exact Heap.get?_push_of_some _ e
 have hsz:s2.heap.objs.size<=s3.heap.objs.size:=by rw [<- hs3];show _<=(s2.heap.push _).objs.size;rw [Heap.size_push];exact ZqQ _
 have u7:∀ b∈fp,b<s2.heap.objs.size:=fun b hb=>by
  obtain ⟨o,e,_⟩:=T.obj _ _ st2 b hb
  exact Heap.lt_size e
 have bU:∀ b∈fp,b<s3.heap.objs.size:=fun b hb=>ZqF (u7 b hb) hsz
 have f3:∀ b∈fp,gS X pins (upd H2 s2.heap.objs.size (.lst [])) b:=fun b hb=>⟨by rw [aJ (ZqD (u7 b hb))];exact (f2 b hb).1,(f2 b hb).2⟩
 refine wpAny_newFunctionEnv S.jY (by intro y hy;simp at hy) (fun h₁ hns₁ hsb₁=>?_) S.kind
 have Fw:∀ b o,s3.heap.get? b=some o->h₁.get? b=some o:=fun b o e=>hsb₁.extBut b o (ZqD (Heap.lt_size e)) (Heap.get?_push_of_some _ e)
 have Ic:=Oz (N:=N) (k:=k) (sel:=sel) (t':=s3.toks+([]:List (Str × Value)).length) S M I3 f3 bU hns₁ Fw
 have Ir:tn 0 h₁:=T.keep _ _ _ st2 fun b hb o e=>Fw b o (up b o e)
 have fr:∀ b∈fp,(upd H2 s2.heap.objs.size (.lst [])) b=none:=fun b hb=>(f3 b hb).1
 have loop:codeAny (model X.prog X.w) X.A (.compLoop (.ListComp elt [⟨tg,iter,ifs,0⟩] scope pos) 0 (.ref it) (.ref s2.heap.objs.size) (compEnvC scope (gi X.env scope.names []) s3.heap.objs.size X.env))
   (compPost (model X.prog X.w) X.A X.xe use Qv (.ref s2.heap.objs.size) s3.heap.objs.size) { s3 with heap:=h₁,toks:=s3.toks+([]:List (Str × Value)).length }:=by
  refine Ob (X:=jD X scope N s3.heap.objs.size s3 (upd H2 s2.heap.objs.size (.lst [])) fp) (QQ:=fun H'=>QQ (.ref s2.heap.objs.size) H') (W:=W) rfl hc T (hg _ _ _ _) (ht _ _ _ _) (he _ _ _ _) (fun b hb=>?_) turn (fun s' σ' H' I' q'=>?_) m0 ⟨0,cst σ k sel,_,Ic,Ir,fr,w0⟩
  ·refine ⟨ZqD (bU b hb),?_,.inl hb,fun x c h=>(f3 b hb).2.2.2.2.1 x c (o6 S I3.ok h),fun p hp=>absurd (show p∈([]:List (Addr × Obj)) from hp) (by simp)⟩
   exact (HQ (N:=N) S I3 f3 bU).hJ b hb
  ·have Ie:Inv X pins σ H' s':=I3.tM (ch:=fp) I'.os I'.base I'.aw I'.bare fun b hb=>⟨(f3 b hb).2.2.2.1,(f3 b hb).2.1,(f3 b hb).2.2.2.2.1,(f3 b hb).2.2.2.2.2⟩
   refine fin _ _ s' H' Ie ⟨I'.free,?_,ZqE I3.sz (ZqC _),fun x c e=>?_,fun p hp=>?_,?_⟩ q'
   ·exact Ne.symm (ZqD I3.lt)
   ·obtain ⟨v,o,ho,_⟩:=I3.cell x c e
    exact ZqD (Heap.lt_size ho)
   ·exact ZqD (Heap.lt_size (I3.pin p hp).1)
   ·obtain ⟨m,hn,_⟩:=I'.loc
    exact ⟨m,hn⟩
 exact codeAny_compStart_list loop (T.self X.A 0 _ _ _ Ir loop)
section
variable {X:Cx}{elt tg iter:Expr}{ifs:List Expr}{scope:Scope}{pos:Pos}{N:List Str}{k:Nat}{sel:List Nat}{wi:TI}{g:TG}{tt:TT}{te:TE}
theorem ia (S:ao X scope) (M:av X scope N k sel) (hc:X.calm=true) (hi:PI X tg iter wi)
  (hg:∀ C s H fp,PG (jD X scope N C s H fp) tg g) (ht:∀ C s H fp,oI (jD X scope N C s H fp) ifs tt) (he:∀ C s H fp,PE (jD X scope N C s H fp) elt te)
  (hs:∀ x,foldedSetIterable iter X.env x=pure x:=by intro _;rfl):PE X (.ListComp elt [⟨tg,iter,ifs,0⟩] scope pos) (cO wi k sel g tt te):=by
 intro pins s σ H Q I h
 rw [eval_ListComp]
 refine wpAny_comprehension_free (use:=none) rfl hs (Hb (S.has I.ok)) S.kind S.names (aF (hi pins s σ H _ I h) fun v s1 h1=>aF h1 fun qw s2 h2=>?_)
 refine Hn (QQ:=Q) S M hc hg ht he (fun D C s' H' I' F q=>?_) h2
 obtain ⟨m,hn⟩:=F.ns
 exact ⟨m,hn,fun h' hsb=>⟨.ref D,H',I'.turned (t':=s'.toks) (fun b o hb e=>hsb.extBut b o hb e) F.none F.ne (.inr F.above) F.cells F.pins,rfl,q⟩⟩
theorem mw {i:Nat}{y:Str}{py yr:Pos} (S:ao X scope) (M:av X scope N k sel) (hc:X.calm=true) (hi:PI X tg iter wi)
  (hg:∀ C s H fp,PG (jD X scope N C s H fp) tg g) (ht:∀ C s H fp,oI (jD X scope N C s H fp) ifs tt) (he:∀ C s H fp,PE (jD X scope N C s H fp) elt te)
  (hN:X.N.Nodup) (NQ:X.N[i]? = some y) (hy:Loc X.env.scope y)
  (Pa:swapsWith (.ListComp elt [⟨tg,iter,ifs,0⟩] scope pos) (some (.Name y py)) yr.line X.env=pure true)
  (hs:∀ x,foldedSetIterable iter X.env x=pure x:=by intro _;rfl) (hf:X.fn y=true\/X.env.scope.names.lookup y=some .local:=by first | exact .inl rfl | exact .inr rfl | assumption) :
  PS X (.Assign [.Name y py] (.ListComp elt [⟨tg,iter,ifs,0⟩] scope pos) yr) (bo (cO wi k sel g tt te) (au i)):=by
 intro pins s σ H D I h
 rw [exec_Assign_Name_used _ _ _ _ Pa]
 refine wpAny_bind (wpAny_standAt (wpAny_bind ?_))
 show wpAny _ X.A (do let _ <- comprehension (.ListComp elt [⟨tg,iter,ifs,0⟩] scope pos) scope X.env _ (newList []) false (eval iter X.env) (some (assign (.Name y py) X.env))) _ _ s
 refine wpAny_bind (wpAny_mono (wpAny_comprehension_free (use:=some (assign (.Name y py) X.env)) (Q:=fun _ s'=>SP X pins D .next s') rfl hs (Hb (S.has I.ok)) S.kind S.names
  (aF (hi pins s σ H _ I h) fun v s1 h1=>aF h1 fun qw s2 h2=>?_)) (fun _ s' hq=>wpAny_pure (wpAny_pure hq)) fun _ _ e=>e)
 refine Hn (QQ:=fun v H1=>D.nx (σ.set i (some v)) H1) S M hc hg ht he (fun Da C s' H' I' F q=>?_) h2
 show wpAny _ X.A (assign (.Name y py) X.env (.ref Da)) _ _ _
 refine wpAny_assign_Name (Jm I' hN NQ hy (v:=.ref Da) rfl (fun s'' I'' fY=>?_) hf)
 obtain ⟨m,hn⟩:=F.ns
 obtain ⟨a,hsb,ha⟩:=fY
 have Lc:C≠a:=by
  rcases ha with ha | ha
  ·rw [ha];exact F.ne
  ·exact Ne.symm (F.cells _ _ ha)
 refine ⟨m,hn.sameBut hsb Lc,fun h' hsb'=>⟨σ.set i (some (.ref Da)),H',I''.turned (t':=s''.toks) (fun b o hb e=>hsb'.extBut b o hb e) F.none F.ne (.inr F.above) F.cells F.pins,q⟩⟩
end
section
variable {X:Cx}
theorem PE.imp {e:Expr}{t t':TE} (h:PE X e t) (f:∀ σ H Q,t' σ H Q->t σ H Q):PE X e t':=fun pins s σ H Q I q=>h pins s σ H Q I (f σ H Q q)
theorem bj.imp {g:Value->Value->Sem Value}{r r':R2} (h:bj X g r) (f:∀ x y H Q,r' x y H Q->r x y H Q):bj X g r':=fun pins s σ H x y v u Q I rx ry q=>h pins s σ H x y v u Q I rx ry (f x y H Q q)
theorem i4.imp {r r':R2} (h:i4 X r) (f:∀ x y H Q,r' x y H Q->r x y H Q):i4 X r':=fun value slice pins s σ H x y v u Q I rx ry q=>h value slice pins s σ H x y v u Q I rx ry (f x y H Q q)
theorem lL.imp {r r':V->Option Int->Option Int->Hp->VK->Prop} (h:lL X r) (f:∀ x lo hi H Q,r' x lo hi H Q->r x lo hi H Q):lL X r':=fun pins s σ H x v vl vu lo hi sl Q I rx hs pl pu q=>h pins s σ H x v vl vu lo hi sl Q I rx hs pl pu (f x lo hi H Q q)
noncomputable def aa (i:Nat):TE:=fun σ H Q=>match σ[i]? with | some (some v)=>Q v H | _=>False
theorem MU {i:Nat}{σ:St}{H:Hp}{Q:VK} (h:aa i σ H Q):vg i σ H Q:=by
 unfold aa at h
 split at h
 ·exact ⟨_,by assumption,h⟩
 ·exact h.elim
theorem cv (i:Nat) {x:Str}{pos:Pos} (hN:X.N[i]? = some x:=by rfl) (hv:Dj X.env.scope x:=by first | exact Or.inl rfl | exact Or.inr (Or.inl rfl) | exact Or.inr (Or.inr rfl)) (hd:(x == ("__debug__" : Str))=false:=by decide)
  (jL:(x == ("__classdict__" : Str))=false:=by decide):PE X (.Name x pos) (aa i):=(qW hN hv hd jL).imp fun _ _ _ h=>MU h
noncomputable def cI (f:Int->Int->V):R2:=fun x y H Q=>match x,y with | .int i,.int j=>Q (f i j) H | _,_=>False
noncomputable def bc (C:Int->Int->Prop) (f:Int->Int->V):R2:=fun x y H Q=>match x,y with | .int i,.int j=>C i j/\Q (f i j) H | _,_=>False
theorem rn {f:Int->Int->V}{x y:V}{H:Hp}{Q:VK} (h:cI f x y H Q):kf f x y H Q:=by
 cases x <;> cases y <;> first | exact False.elim h | exact ⟨_,_,rfl,rfl,h⟩
theorem rQ {C:Int->Int->Prop}{f:Int->Int->V}{x y:V}{H:Hp}{Q:VK} (h:bc C f x y H Q):rI C f x y H Q:=by
 cases x <;> cases y <;> first | exact False.elim h | exact ⟨_,_,rfl,rfl,h.1,h.2⟩
theorem DK:bj X (binaryOp .Sub) (cI fun i j=>.int (i - j)):=nI.imp fun _ _ _ _ h=>rn h
theorem iS:bj X (binaryOp .FloorDiv) (bc ib fun i j=>.int (i / j)):=Pu.imp fun _ _ _ _ h=>rQ h
theorem ic:bj X (binaryOp .Mod) (bc (fun _ j=>0<j) fun i j=>.int (i % j)):=pS.imp fun _ _ _ _ h=>rQ h
theorem kr:bj X (binaryOp .LShift) (bc gU fun i j=>.int (i * 2 ^ j.toNat)):=oW.imp fun _ _ _ _ h=>rQ h
theorem ml:bj X (binaryOp .RShift) (bc (fun _ j=>0<=j) fun i j=>.int (i / 2 ^ j.toNat)):=nN.imp fun _ _ _ _ h=>rQ h
theorem sP:bj X (binaryOp .BitAnd) (cI fun i j=>.int (Builtin.bitAnd i j)):=ng.imp fun _ _ _ _ h=>rn h
theorem px:bj X (binaryOp .BitOr) (cI fun i j=>.int (Builtin.bitOr i j)):=xl.imp fun _ _ _ _ h=>rn h
theorem BC:bj X (binaryOp .BitXor) (cI fun i j=>.int (Builtin.bitXor i j)):=nS.imp fun _ _ _ _ h=>rn h
theorem kX:bj X (compareOp .Lt) (cI fun i j=>.bl (decide (i<j))):=uc.imp fun _ _ _ _ h=>rn h
theorem yt:bj X (compareOp .LtE) (cI fun i j=>.bl (decide (i<=j))):=yc.imp fun _ _ _ _ h=>rn h
theorem nE:bj X (compareOp .Gt) (cI fun i j=>.bl (decide (j<i))):=yo.imp fun _ _ _ _ h=>rn h
noncomputable def dg:R2:=fun x y H Q=>match x,y with
 | .int i,.int j=>Q (.int (i+j)) H
 | .str i,.str j=>i.length+j.length<=sizeLine/\Q (.str (i ++ j)) H
 | .ref l,.ref b=>∃ xs zs,H l=some (.lst xs)/\H b=some (.lst zs)/\xs.length+zs.length<=sizeLine/\∀ p,H p=none->Q (.ref p) (upd H p (.lst (xs ++ zs)))
 | _,_=>False
theorem dv:bj X (binaryOp .Add) dg:=by
 intro pins s σ H x y v u Q I rx ry h
 cases x <;> cases y <;> first
  | exact False.elim h
  | exact pY pins s σ H _ _ v u Q I rx ry ⟨_,_,rfl,rfl,h⟩
  | exact Qk pins s σ H _ _ v u Q I rx ry ⟨_,_,rfl,rfl,h.1,h.2⟩
  | (obtain ⟨xs,zs,h1,h2,h3,h4⟩:=h;exact qq pins s σ H _ _ v u Q I rx ry ⟨_,_,xs,zs,rfl,rfl,h1,h2,h3,h4⟩)
inductive aV (K:ZoW) (H:Hp):Nat->V->V->Prop where
 | flat {n:Nat}{x:V} (f:gK x=true):aV K H n x x
 | lst {n:Nat}{a b:Addr}{xs ys:List V} (h1:aI K H a xs) (h2:aI K H b ys) (hl:xs.length=ys.length) (h:∀ (i:Nat) x y,xs[i]? = some x->ys[i]? = some y->aV K H n x y):aV K H (n+1) (.ref a) (.ref b)
 | tup {n:Nat}{a b:Addr}{xs ys:List V} (h1:bX K H a xs) (h2:bX K H b ys) (hl:xs.length=ys.length) (h:∀ (i:Nat) x y,xs[i]? = some x->ys[i]? = some y->aV K H n x y):aV K H (n+1) (.ref a) (.ref b)
theorem mF {pins:List (Addr × Obj)}{σ:St}{H:Hp}{s:Shared}{a:Addr}{xs:List V} (I:Inv X pins σ H s) (h:aI X.K H a xs):∃ its:List Value,Vals xs its/\s.heap.IsList a its.toArray:=by
 obtain ⟨its,r,p,_⟩:=I.list h
 exact ⟨its,r,p.isList⟩
theorem EC {A:Around}{n:Nat} (h:A.units+(n+1)<cLine):A.in1.units+n<cLine:=by
 have e:A.in1.units=A.units+1:=rfl
 omega
theorem Dl {pins:List (Addr × Obj)}{σ:St}{H:Hp}{s:Shared} (I:Inv X pins σ H s):∀ {n:Nat}{x y:V},aV X.K H n x y->∀ (A:Around) {u v:Value},A.units+n<cLine->aH x u->aH y v->SeqAt.EqAt A s u v true
 | _,_,_,.flat f,A,u,v,hu,rx,ry=>by
  have e:=C2 (A:=A) (s:=s) rx ry f f
  rename_i n x
  have q:iC x x=true:=by cases x <;> first | rfl | (simp [iC];done) | exact absurd f (by simp [gK])
  rw [q] at e
  exact e
 | _,_,_,@aV.lst _ _ n a b xs ys h1 h2 hl h,A,u,v,hu,rx,ry=>by
  cases rx;cases ry
  by_cases hab:a=b
  ·subst hab;exact SeqAt.EqAt.same _
  ·obtain ⟨its,r1,p1⟩:=mF I h1
   obtain ⟨its2,r2,p2⟩:=mF I h2
   have e1:=r1.length
   have e2:=r2.length
   have q:=SeqAt.RcAt.lists (A:=A) (e:=fun _=>true) p1 p2 (by simp;omega) (by omega) (fun j j1 j2=>by
    have j1':j<its.length:=by simpa using j1
    have j2':j<its2.length:=by simpa using j2
    obtain ⟨w1,q1,s1⟩:=r1.get (i:=j) (x:=xs[j]'(by omega)) (by simp)
    obtain ⟨w2,q2,s2⟩:=r2.get (i:=j) (x:=ys[j]'(by omega)) (by simp)
    have z1:its.toArray[j]=w1:=by
     have:=ZpA.mp q1
     obtain ⟨_,z⟩:=this
     simpa using z
    have z2:its2.toArray[j]=w2:=by
     have:=ZpA.mp q2
     obtain ⟨_,z⟩:=this
     simpa using z
    rw [z1,z2]
    exact Dl I (h j _ _ (by simp) (by simp)) A.in1 (EC hu) s1 s2)
   have:((Zpv its.toArray.size).all fun _=>true)=true:=by simp
   rw [this] at q
   exact SeqAt.EqAt.of_refs hab q
 | _,_,_,@aV.tup _ _ n a b xs ys h1 h2 hl h,A,u,v,hu,rx,ry=>by
  cases rx;cases ry
  by_cases hab:a=b
  ·subst hab;exact SeqAt.EqAt.same _
  ·obtain ⟨its,r1,p1,_⟩:=I.tuple h1
   obtain ⟨its2,r2,p2,_⟩:=I.tuple h2
   have e1:=r1.length
   have e2:=r2.length
   have q:=SeqAt.RcAt.tuples (A:=A) (e:=fun _=>true) p1 p2 (by omega) (fun j j1 j2=>by
    have j1':j<its.length:=by simpa using j1
    have j2':j<its2.length:=by simpa using j2
    obtain ⟨w1,q1,s1⟩:=r1.get (i:=j) (x:=xs[j]'(by omega)) (by simp)
    obtain ⟨w2,q2,s2⟩:=r2.get (i:=j) (x:=ys[j]'(by omega)) (by simp)
    have z1:its.toArray[j]=w1:=by
     have:=ZpA.mp q1
     obtain ⟨_,z⟩:=this
     simpa using z
    have z2:its2.toArray[j]=w2:=by
     have:=ZpA.mp q2
     obtain ⟨_,z⟩:=this
     simpa using z
    rw [z1,z2]
    exact Dl I (h j _ _ (by simp) (by simp)) A.in1 (EC hu) s1 s2)
   have:(((Zpv (min its.toArray.size its2.toArray.size)).all fun _=>true) && its.toArray.size == its2.toArray.size)=true:=by simp;omega
   rw [this] at q
   exact SeqAt.EqAt.of_refs hab q
end
section
variable {X:Cx}{a b c:Expr}{ta tb tc:TE}{pos:Pos}
noncomputable def kg (xs ys:List V):Bool:=xs.length == ys.length && (Zpv xs.length).all fun i=>iC (xs.getD i .non) (ys.getD i .non)
theorem sM {xs ys:List V}{us ws:List Value} (r1:Vals xs us) (r2:Vals ys ws) (f1:xs.all gK=true) (f2:ys.all gK=true) (A:Around) (s:Shared) :
  ∀ j (h1:j<us.toArray.size) (h2:j<ws.toArray.size),SeqAt.EqAt A s us.toArray[j] ws.toArray[j] (iC (xs.getD j .non) (ys.getD j .non)):=fun j j1 j2=>by
 have e1:=r1.length
 have e2:=r2.length
 have j1':j<us.length:=by simpa using j1
 have j2':j<ws.length:=by simpa using j2
 have x1:j<xs.length:=by omega
 have y1:j<ys.length:=by omega
 obtain ⟨w1,q1,s1⟩:=r1.get (i:=j) (x:=xs[j]) (by simp)
 obtain ⟨w2,q2,s2⟩:=r2.get (i:=j) (x:=ys[j]) (by simp)
 have z1:us.toArray[j]=w1:=by
  obtain ⟨_,z⟩:=ZpA.mp q1
  simpa using z
 have z2:ws.toArray[j]=w2:=by
  obtain ⟨_,z⟩:=ZpA.mp q2
  simpa using z
 rw [z1,z2]
 have g1:xs.getD j .non=xs[j]:=by simp [ZpE,x1]
 have g2:ys.getD j .non=ys[j]:=by simp [ZpE,y1]
 rw [g1,g2]
 exact C2 s1 s2 (Zp1.mp f1 _ (ZpX _)) (Zp1.mp f2 _ (ZpX _))
noncomputable def AR (K:ZoW) (H:Hp) (p q:Addr) (k:Bool):Prop :=
 (k=true/\aV K H 4 (.ref p) (.ref q)) \/
 (∃ xs ys,aI K H p xs/\aI K H q ys/\xs.all gK=true/\ys.all gK=true/\k=kg xs ys) \/
 (k=false/\∃ xs ys,aI K H p xs/\aI K H q ys/\xs.length≠ys.length) \/
 (∃ xs ys,bX K H p xs/\bX K H q ys/\xs.all gK=true/\ys.all gK=true/\k=kg xs ys)
theorem Fs {pins:List (Addr × Obj)}{σ:St}{H:Hp}{s:Shared}{p q:Addr}{k:Bool} (I:Inv X pins σ H s) (hu:X.A.units+8<cLine) (h:AR X.K H p q k) :
  SeqAt.RcAt X.A s (.ref p) (.ref q) k/\SeqAt.RcNeAt X.A s (.ref p) (.ref q) (!k):=by
 have deep:∀ {xs ys:List V}{n:Nat},n<=4->(aI X.K H p xs/\aI X.K H q ys\/bX X.K H p xs/\bX X.K H q ys)->xs.length=ys.length->(∀ (i:Nat) x y,xs[i]? = some x->ys[i]? = some y->aV X.K H n x y) ->
   SeqAt.RcAt X.A s (.ref p) (.ref q) true/\SeqAt.RcNeAt X.A s (.ref p) (.ref q) (!true):=fun {xs ys n} hn hq hl hd=>by
  have items:∀ {us ws:List Value},Vals xs us->Vals ys ws->∀ j (h1:j<us.toArray.size) (h2:j<ws.toArray.size),SeqAt.EqAt X.A.in1 s us.toArray[j] ws.toArray[j] true:=fun {us ws} r1 r2 j j1 j2=>by
   have e1:=r1.length
   have e2:=r2.length
   have j1':j<us.length:=by simpa using j1
   have j2':j<ws.length:=by simpa using j2
   obtain ⟨w1,q1,s1⟩:=r1.get (i:=j) (x:=xs[j]'(by omega)) (by simp)
   obtain ⟨w2,q2,s2⟩:=r2.get (i:=j) (x:=ys[j]'(by omega)) (by simp)
   have z1:us.toArray[j]=w1:=by
    obtain ⟨_,z⟩:=ZpA.mp q1
    simpa using z
   have z2:ws.toArray[j]=w2:=by
    obtain ⟨_,z⟩:=ZpA.mp q2
    simpa using z
   rw [z1,z2]
   exact Dl I (hd j _ _ (by simp) (by simp)) X.A.in1 (by have e:X.A.in1.units=X.A.units+1:=rfl;omega) s1 s2
  rcases hq with ⟨h1,h2⟩ | ⟨h1,h2⟩
  ·obtain ⟨its,r1,p1⟩:=mF I h1
   obtain ⟨its2,r2,p2⟩:=mF I h2
   have e1:=r1.length
   have e2:=r2.length
   have z:((Zpv its.toArray.size).all fun _=>true)=true:=by simp
   have a1:=SeqAt.RcAt.lists (A:=X.A) (e:=fun _=>true) p1 p2 (by simp;omega) (by omega) (items r1 r2)
   have a2:=SeqAt.RcNeAt.lists (A:=X.A) (e:=fun _=>true) p1 p2 (by simp;omega) (by omega) (items r1 r2)
   rw [z] at a1 a2
   exact ⟨a1,a2⟩
  ·obtain ⟨its,r1,p1,_⟩:=I.tuple h1
   obtain ⟨its2,r2,p2,_⟩:=I.tuple h2
   have e1:=r1.length
   have e2:=r2.length
   have z:(((Zpv (min its.toArray.size its2.toArray.size)).all fun _=>true) && its.toArray.size == its2.toArray.size)=true:=by simp;omega
   have a1:=SeqAt.RcAt.tuples (A:=X.A) (e:=fun _=>true) p1 p2 (by omega) (items r1 r2)
   have a2:=SeqAt.RcNeAt.tuples (A:=X.A) (e:=fun _=>true) p1 p2 (by omega) (items r1 r2)
   rw [z] at a1 a2
   exact ⟨a1,a2⟩
 have mr:∀ {xs ys:List V},aI X.K H p xs->aI X.K H q ys->xs.length≠ys.length->SeqAt.RcAt X.A s (.ref p) (.ref q) false/\SeqAt.RcNeAt X.A s (.ref p) (.ref q) (!false):=fun {xs ys} h1 h2 hl=>by
  obtain ⟨its,r1,p1⟩:=mF I h1
  obtain ⟨its2,r2,p2⟩:=mF I h2
  have e1:=r1.length
  have e2:=r2.length
  have z:(its.toArray.size != its2.toArray.size)=true:=by simp;omega
  exact ⟨SeqAt.RcAt.lists_lengths p1 p2 z (by omega),SeqAt.RcNeAt.lists_lengths p1 p2 z (by omega)⟩
 rcases h with ⟨rfl,h⟩ | ⟨xs,ys,h1,h2,f1,f2,rfl⟩ | ⟨rfl,xs,ys,h1,h2,hl⟩ | ⟨xs,ys,h1,h2,f1,f2,rfl⟩
 ·cases h with
  | flat f=>simp [gK] at f
  | lst h1 h2 hl hd=>exact deep (by decide) (.inl ⟨h1,h2⟩) hl hd
  | tup h1 h2 hl hd=>exact deep (by decide) (.inr ⟨h1,h2⟩) hl hd
 ·by_cases hl:xs.length=ys.length
  ·obtain ⟨its,r1,p1⟩:=mF I h1
   obtain ⟨its2,r2,p2⟩:=mF I h2
   have e1:=r1.length
   have e2:=r2.length
   have z:kg xs ys=(Zpv its.toArray.size).all fun i=>iC (xs.getD i .non) (ys.getD i .non):=by
    unfold kg
    rw [ZpJ,<- e1,hl]
    simp
   rw [z]
   exact ⟨SeqAt.RcAt.lists p1 p2 (by simp;omega) (by omega) (sM r1 r2 f1 f2 _ _),SeqAt.RcNeAt.lists p1 p2 (by simp;omega) (by omega) (sM r1 r2 f1 f2 _ _)⟩
  ·have z:kg xs ys=false:=by unfold kg;simp [hl]
   rw [z]
   exact mr h1 h2 hl
 ·exact mr h1 h2 hl
 ·obtain ⟨its,r1,p1,_⟩:=I.tuple h1
  obtain ⟨its2,r2,p2,_⟩:=I.tuple h2
  have e1:=r1.length
  have e2:=r2.length
  by_cases hl:xs.length=ys.length
  ·have z:kg xs ys=((Zpv (min its.toArray.size its2.toArray.size)).all (fun i=>iC (xs.getD i .non) (ys.getD i .non)) && its.toArray.size == its2.toArray.size):=by
    unfold kg
    rw [ZpJ,ZpJ,<- e1,<- e2,hl]
    simp
   rw [z]
   exact ⟨SeqAt.RcAt.tuples p1 p2 (by omega) (sM r1 r2 f1 f2 _ _),SeqAt.RcNeAt.tuples p1 p2 (by omega) (sM r1 r2 f1 f2 _ _)⟩
  ·have z:kg xs ys=((Zpv (min its.toArray.size its2.toArray.size)).all (fun i=>iC (xs.getD i .non) (ys.getD i .non)) && its.toArray.size == its2.toArray.size):=by
    have z1:kg xs ys=false:=by unfold kg;simp [hl]
    have z2:(its.toArray.size == its2.toArray.size)=false:=by simp;omega
    rw [z1,z2,Bool.and_false]
   rw [z]
   exact ⟨SeqAt.RcAt.tuples p1 p2 (by omega) (sM r1 r2 f1 f2 _ _),SeqAt.RcNeAt.tuples p1 p2 (by omega) (sM r1 r2 f1 f2 _ _)⟩
noncomputable def jH (K:ZoW):R2:=fun x y H Q=>match x,y with
 | .int i,.int j=>Q (.bl (decide (i=j))) H
 | .bl i,.bl j=>Q (.bl (decide (i=j))) H
 | .str i,.str j=>Q (.bl (decide (i=j))) H
 | .non,.non=>Q (.bl true) H
 | .non,.int _=>Q (.bl false) H
 | .int _,.non=>Q (.bl false) H
 | .non,.str _=>Q (.bl false) H
 | .str _,.non=>Q (.bl false) H
 | .non,.bl _=>Q (.bl false) H
 | .bl _,.non=>Q (.bl false) H
 | .ref p,.ref q=>∃ k,AR K H p q k/\Q (.bl k) H
 | _,_=>False
noncomputable def iq (K:ZoW):R2:=fun x y H Q=>match x,y with
 | .int i,.int j=>Q (.bl (!decide (i=j))) H
 | .bl i,.bl j=>Q (.bl (!decide (i=j))) H
 | .str i,.str j=>Q (.bl (!decide (i=j))) H
 | .non,.non=>Q (.bl false) H
 | .non,.int _=>Q (.bl true) H
 | .int _,.non=>Q (.bl true) H
 | .non,.str _=>Q (.bl true) H
 | .str _,.non=>Q (.bl true) H
 | .non,.bl _=>Q (.bl true) H
 | .bl _,.non=>Q (.bl true) H
 | .ref p,.ref q=>∃ k,AR K H p q k/\Q (.bl (!k)) H
 | _,_=>False
theorem FA {i j:Int}:decide (V.int i=V.int j)=decide (i=j):=by rw [decide_eq_decide];exact ⟨V.int.inj,congrArg _⟩
theorem IL {i j:Bool}:decide (V.bl i=V.bl j)=decide (i=j):=by rw [decide_eq_decide];exact ⟨V.bl.inj,congrArg _⟩
theorem Ho {i j:Str}:decide (V.str i=V.str j)=decide (i=j):=by rw [decide_eq_decide];exact ⟨V.str.inj,congrArg _⟩
theorem ku (hu:X.A.units+8<cLine):bj X (compareOp .Eq) (jH X.K):=by
  intro pins s σ H x y v u Q I rx ry h
  have go:EI x y H Q->wpAny (model X.prog X.w) X.A (compareOp .Eq v u) (EP X pins σ Q) X.xe s:=fun q=>vY pins s σ H _ _ v u Q I rx ry q
  cases x <;> cases y <;> first
    | exact False.elim h
    | exact go ⟨rfl,h⟩
    | exact go ⟨rfl,by rw [FA];exact h⟩
    | exact go ⟨rfl,by rw [IL];exact h⟩
    | exact go ⟨rfl,by rw [Ho];exact h⟩
    | (obtain ⟨k,e,q⟩:=h
       cases rx;cases ry
       exact (Fs I hu e).1 _ _ _ _ ⟨.bl k,H,I,rfl,q⟩)
theorem iW (hu:X.A.units+8<cLine):bj X (compareOp .NotEq) (iq X.K):=by
  intro pins s σ H x y v u Q I rx ry h
  have go:F5 x y H Q->wpAny (model X.prog X.w) X.A (compareOp .NotEq v u) (EP X pins σ Q) X.xe s:=fun q=>xK pins s σ H _ _ v u Q I rx ry q
  cases x <;> cases y <;> first
    | exact False.elim h
    | exact go ⟨rfl,h⟩
    | exact go ⟨rfl,by rw [FA];exact h⟩
    | exact go ⟨rfl,by rw [IL];exact h⟩
    | exact go ⟨rfl,by rw [Ho];exact h⟩
    | (obtain ⟨k,e,q⟩:=h
       cases rx;cases ry
       exact (Fs I hu e).2 _ _ _ _ ⟨.bl (!k),H,I,rfl,q⟩)
noncomputable def Ee:R2:=fun x y H Q=>match x,y with
 | .bl i,.bl j=>Q (.bl (!decide (i=j))) H
 | x,.non=>Q (.bl (!decide (x=.non))) H
 | _,_=>False
noncomputable def g9 (i j:Str):Bool:=!(Builtin.Str.occurrences j i 0 j.length 1).isEmpty
noncomputable def zH (K:ZoW) (neg:Bool):R2:=fun x y H Q=>match y with
 | .ref p=>∃ xs,(aI K H p xs\/bX K H p xs)/\gK x=true/\xs.all gK=true/\Q (.bl (if neg then !zE x xs else zE x xs)) H
 | .str j=>match x with | .str i=>Q (.bl (if neg then !g9 i j else g9 i j)) H | _=>False
 | _=>False
theorem xp:bj X (compareOp .In) (zH X.K false):=by
 intro pins s σ H x y v u Q I rx ry h
 cases y with
 | ref p =>
  obtain ⟨xs,h1,h2,h3,q⟩:=h
  exact Qw pins s σ H _ _ v u Q I rx ry ⟨p,xs,rfl,h1,h2,h3,q⟩
 | str j =>
  cases x with
  | str i=>exact OC pins s σ H _ _ v u Q I rx ry ⟨i,j,rfl,rfl,h⟩
  | _=>exact False.elim h
 | _=>exact False.elim h
noncomputable def nu (x:V) (k:Bool->Prop):Prop:=match x with | .bl b=>k b | _=>False
theorem Li {x:V}{k:Bool->Prop} (h:nu x k):∃ b,x=.bl b/\k b:=by
 cases x <;> first | exact False.elim h | exact ⟨_,rfl,h⟩
noncomputable def cA (t:TE):TT:=fun σ H Q=>t σ H fun x H'=>nu x fun k=>Q k H'
noncomputable def gh (K:ZoW) (t:TE):TT:=fun σ H Q=>t σ H fun x H'=>match x with
 | .non=>Q false H'
 | .bl b=>Q b H'
 | .int i=>Q (decide (i≠0)) H'
 | .str y=>y.length<=sizeLine/\Q (decide (y.length≠0)) H'
 | .ref p=>∃ k,kd K (.ref p) H' k/\Q k H'
 | .byt p=>∃ k,kd K (.byt p) H' k/\Q k H'
 | _=>False
theorem g7 {t:TE} (ha:PE X a t) (he:∀ whole,isTrue a X.env whole=(do let v <- whole;standAt a.pos;holding [v] (truthy v)):=by intro _;rfl):PT X a (gh X.K t):=by
 have h:=Q2 ha he
 have e:gh X.K t=(fun σ H Q=>t σ H fun x H'=>∃ k,kd X.K x H' k/\Q k H'):=by
  funext σ H Q
  unfold gh
  congr 1
  funext x H'
  apply propext
  cases x with
  | non=>exact ⟨fun q=>⟨false,rfl,q⟩,fun ⟨k,h1,h2⟩=>by have h1:k=false:=h1;subst h1;exact h2⟩
  | bl b=>exact ⟨fun q=>⟨b,rfl,q⟩,fun ⟨k,h1,h2⟩=>by have h1:k=b:=h1;subst h1;exact h2⟩
  | int i =>
   have z:decide (i≠0)=(i != 0):=by by_cases e:i=0 <;> simp [e]
   exact ⟨fun q=>⟨decide (i≠0),z,q⟩,fun ⟨k,h1,h2⟩=>by have h1:k=(i != 0):=h1;rw [<- z] at h1;subst h1;exact h2⟩
  | str y =>
   have z:decide (y.length≠0)=((y.length:Int) != 0):=by
    by_cases e:y.length=0
    ·simp [e]
    ·have:(y.length:Int)≠0:=by omega
     simp [e,this]
   exact ⟨fun q=>⟨decide (y.length≠0),⟨q.1,z⟩,q.2⟩,fun ⟨k,h1,h2⟩=>by
    have h1:y.length<=sizeLine/\k=((y.length:Int) != 0):=h1
    obtain ⟨h0,h1⟩:=h1
    rw [<- z] at h1;subst h1;exact ⟨h0,h2⟩⟩
  | ref p=>exact Iff.rfl
  | byt y=>exact Iff.rfl
  | flt y=>exact ⟨fun q=>q.elim,fun ⟨k,h1,h2⟩=>h1.elim⟩
  | ty y=>exact ⟨fun q=>q.elim,fun ⟨k,h1,h2⟩=>h1.elim⟩
 rw [e]
 exact h
theorem yb {x:V}{k:Bool->Prop}:nu x k = ∃ b,x=.bl b/\k b:=propext ⟨Li,fun ⟨b,e,q⟩=>by subst e;exact q⟩
theorem K7 (t:TE):cA t=CK t:=by
 funext σ H Q
 unfold cA CK
 congr 1
 funext x H'
 exact yb
theorem dN {op:CmpOp}{r:R2} (ho:bj X (compareOp op) r) (ha:PE X a ta) (hb:PE X b tb) (hm:behindInMarks op b=false):PT X (.Compare a [op] [b] pos) (cA (ah r ta tb)):=by
 rw [K7]
 exact LD ho ha hb hm
noncomputable def t4 (r r':R2) (ta tb tc:TE):TE:=fun σ H Q=>ta σ H fun x H1=>tb σ H1 fun y H2=>r x y H2 fun z H3=>nu z fun k =>
 (if k=true then tc σ H3 fun w' H4=>r' y w' H4 Q else Q (.bl false) H3)
theorem N2 (r r':R2) (ta tb tc:TE):t4 r r' ta tb tc=DM r r' ta tb tc:=by
 funext σ H Q
 unfold t4 DM
 congr 1
 funext x H1
 congr 1
 funext y H2
 congr 1
 funext z H3
 exact yb
theorem LB {op qP:CmpOp}{r r':R2} (ho:bj X (compareOp op) r) (jk:bj X (compareOp qP) r') (ha:PE X a ta) (hb:PE X b tb) (hc:PE X c tc)
  (hm:lastMarks [op,qP] [b,c]=false:=by with_unfolding_all rfl):PE X (.Compare a [op,qP] [b,c] pos) (t4 r r' ta tb tc):=by
 rw [N2]
 exact Oy ho jk ha hb hc hm
noncomputable def lB (ta tb:TE):TE:=fun σ H Q=>ta σ H fun x H1=>nu x fun c=>if c=true then tb σ H1 Q else Q (.bl false) H1
noncomputable def r9 (ta:TE):TE:=fun σ H Q=>ta σ H fun x H1=>nu x fun c=>Q (.bl (!c)) H1
theorem QX (ta tb:TE):lB ta tb=AV ta tb:=by
 funext σ H Q
 unfold lB AV
 congr 1
 funext x H'
 exact yb
theorem M9 (ta:TE):r9 ta=AM ta:=by
 funext σ H Q
 unfold r9 AM
 congr 1
 funext x H'
 exact yb
variable {bC:List Expr}
theorem wc (ha:PE X a ta) (hb:PE X (.BoolOp .And (b :: bC) pos) tb):PE X (.BoolOp .And (a :: b :: bC) pos) (lB ta tb):=by
 rw [QX]
 exact pj ha hb
theorem mT (ha:PE X a ta):PE X (.UnaryOp .Not a pos) (r9 ta):=by
 rw [M9]
 exact oo ha
noncomputable def bE (K:ZoW):R2:=fun x y H Q=>match x,y with
 | .ref p,.int i=>∃ xs v,(aI K H p xs\/bX K H p xs)/\dk xs i=some v/\Q v H
 | .str z,.int i=>z.length<=sizeLine/\∃ c,dk z.cps.toList i=some c/\Q (.str ⟨#[c]⟩) H
 | _,_=>False
theorem bK:i4 X (bE X.K):=m8.imp fun x y H Q h=>by
  cases x <;> cases y <;> first
    | exact False.elim h
    | (obtain ⟨xs,v,h1 | h1,h2,h3⟩:=h
       · exact .inl ⟨_,xs,_,v,rfl,rfl,h1,h2,h3⟩
       · exact .inr (.inl ⟨_,xs,_,v,rfl,rfl,h1,h2,h3⟩))
    | (obtain ⟨h1,c,h2,h3⟩:=h
       exact .inr (.inr ⟨_,_,c,rfl,rfl,h1,h2,h3⟩))
noncomputable def ox (K:ZoW):V->Option Int->Option Int->Hp->VK->Prop:=fun x lo hi H Q=>match x with
 | .ref p=>∃ xs,aI K H p xs/\∀ q,H q=none->Q (.ref q) (upd H q (.lst (gZ xs lo hi)))
 | _=>False
theorem nU:lL X (ox X.K):=Ml.imp fun x lo hi H Q h=>by
 cases x <;> first | exact False.elim h | (obtain ⟨xs,h1,h2⟩:=h;exact ⟨_,xs,rfl,h1,h2⟩)
noncomputable def eu (K:ZoW):List V->Hp->VK->Prop:=fun vs H Q=>match vs with
 | [.str z]=>z.length<=sizeLine/\Q (.int z.length) H
 | [.ref p]=>(∃ ys,(aI K H p ys\/bX K H p ys)/\Q (.int ys.length) H)\/∃ kvs,H p=some (.dK kvs)/\Q (.int kvs.length) H
 | _=>False
theorem eZ:fD X (.builtin "len") (eu X.K):=by
 intro pins s σ H xs us Q I r h
 match xs,h with
 | [.str z],h=>exact Qp pins s σ H _ us Q I r ⟨z,rfl,h.1,h.2⟩
 | [.ref p],h =>
  rcases h with ⟨ys,h1,h2⟩ | ⟨kvs,h1,h2⟩
  ·exact MJ pins s σ H _ us Q I r ⟨p,ys,rfl,h1,h2⟩
  ·exact P7 pins s σ H _ us Q I r ⟨p,kvs,rfl,h1,h2⟩
noncomputable def cInt:List V->Hp->VK->Prop:=fun vs H Q=>match vs with
 | [.int i]=>Q (.int i) H
 | [.bl k]=>Q (.int (if k then 1 else 0)) H
 | _=>False
theorem lO:fD X (.type "int") cInt:=by
 intro pins s σ H xs us Q I r h
 match xs,h with
 | [.int i],h=>exact Fp pins s σ H _ us Q I r (.inl ⟨i,rfl,h⟩)
 | [.bl k],h=>exact Fp pins s σ H _ us Q I r (.inr ⟨k,rfl,h⟩)
noncomputable def rZ (K:ZoW):List V->Hp->VK->Prop:=fun vs H Q=>match vs with
 | [.ref p]=>∃ ys,(aI K H p ys\/bX K H p ys)/\∀ l,H l=none->Q (.ref l) (upd H l (.lst ys))
 | _=>False
theorem DY:fD X (.type "list") (rZ X.K):=by
 intro pins s σ H xs us Q I r h
 match xs,h with
 | [.ref p],h =>
  obtain ⟨ys,h1,h2⟩:=h
  exact N7 pins s σ H _ us Q I r ⟨p,ys,rfl,h1,h2⟩
noncomputable def si (K:ZoW):List V->Hp->VK->Prop:=fun vs H Q=>match vs with
 | [.ref p]=>∃ ys,((aI K H p ys/\∀ l,H l=none->Q (.ref l) (upd H l (.tup ys)))\/(bX K H p ys/\Q (.ref p) H))
 | _=>False
theorem Co:fD X (.type "tuple") (si X.K):=by
 intro pins s σ H xs us Q I r h
 match xs,h with
 | [.ref p],h =>
  obtain ⟨ys,h1⟩:=h
  exact Pw pins s σ H _ us Q I r ⟨p,ys,rfl,h1⟩
noncomputable def rg:List V->Hp->VK->Prop:=fun vs H Q=>match vs with
 | [.int i,.int j]=>Q (.int (if j<i then j else i)) H
 | _=>False
theorem tF (hc:X.calm=true):fD X (.builtin "min") rg:=by
 intro pins s σ H xs us Q I r h
 match xs,h with
 | [.int i,.int j],h=>exact Nv hc pins s σ H _ us Q I r ⟨i,j,rfl,h⟩
noncomputable def kz (K:ZoW):List V->Hp->VK->Prop:=fun vs H Q=>match vs with
 | [x,.ty T]=>∃ t b,dW K H x t/\Zo7 K t (.type T)=some b/\Q (.bl b) H
 | [x,.ref C]=>∃ t b,dW K H x t/\Zo7 K t (.ref C)=some b/\Q (.bl b) H
 | _=>False
theorem mq:fD X (.builtin "isinstance") (kz X.K):=by
 intro pins s σ H xs us Q I r h
 match xs,h with
 | [x,.ty T],h =>
  obtain ⟨t,k,h1,h2,h3⟩:=h
  obtain ⟨u,w',rfl,r1,r2⟩:=wM r
  cases r2
  exact E5 I r1 h1 h2 fun tk=>⟨.bl k,H,I.tok tk,rfl,h3⟩
 | [x,.ref C],h =>
  obtain ⟨t,k,h1,h2,h3⟩:=h
  obtain ⟨u,w',rfl,r1,r2⟩:=wM r
  cases r2
  exact E5 I r1 h1 h2 fun tk=>⟨.bl k,H,I.tok tk,rfl,h3⟩
noncomputable def tV (onames:List (Str × NameKind)) (scope:Scope):Bool:=scope.names.all fun y=>decide (y.2≠.cell) && (decide (y.2≠.local) || decide (scope.names.lookup y.1=some .local)) && (decide (y.2≠.free) || decide (onames.lookup y.1=some .cell) || decide (onames.lookup y.1=some .free))
theorem ao.of {scope:Scope} (onames:List (Str × NameKind)) (h:tV onames scope=true) (k:scope.kind=.function:=by rfl) (e:X.env.scope.names=onames:=by rfl):ao X scope:=by
 have q:=Zp1.mp h
 refine ⟨k,fun y hy=>?_,fun y hy hl=>?_,fun y hy hf=>?_⟩
 ·have z:=q y hy
  simp only [Zrf,decide_eq_true_eq] at z
  exact z.1.1
 ·have z:=q y hy
  simp only [Zrf,Zrh,decide_eq_true_eq] at z
  exact z.1.2.resolve_left fun w=>w hl
 ·have z:=q y hy
  simp only [Zrf,Zrh,decide_eq_true_eq] at z
  show X.env.scope.names.lookup y.1=_\/X.env.scope.names.lookup y.1=_
  rw [e]
  rcases z.2 with (w | w) | w
  ·exact absurd hf w
  ·exact .inl w
  ·exact .inr w
noncomputable def mE (XN:List Str) (scope:Scope) (N:List Str) (k:Nat) (sel:List Nat):Bool:=decide (N.length=k+sel.length) && (Zpv sel.length).all fun i=>match sel[i]?,N[k+i]? with
 | some j,some x=>decide (XN[j]? = some x) && decide (scope.names.lookup x=some .free)
 | _,_=>false
theorem av.of {scope:Scope}{N:List Str}{k:Nat}{sel:List Nat} (XN:List Str) (h:mE XN scope N k sel=true) (e:X.N=XN:=by rfl):av X scope N k sel:=by
 unfold mE at h
 simp only [Zrf,decide_eq_true_eq] at h
 refine ⟨h.1,fun i j x h1 h2=>?_⟩
 have hi:i<sel.length:=(ZpA.mp h1).1
 have q:=Zp1.mp h.2 i (ZpU.mpr hi)
 rw [h1,h2] at q
 simp only [Zrf,decide_eq_true_eq] at q
 rw [e]
 exact q
end
theorem fo {A:Around}{k:Nat} (hr:aS k A):A.units+8<cLine:=by have:=hr.units;omega
section
variable {X:Cx}{a b:Expr}{te:TE}
noncomputable def jE (t:TE):TO:=fun σ H Q=>t σ H fun x H1=>match x with | .int i=>Q (some i) H1 | _=>False
theorem Nr (t:TE):jE t=Ah t:=by
 funext σ H Q
 unfold jE Ah
 congr 1
 funext x H'
 apply propext
 cases x <;> first
  | exact ⟨fun q=>⟨_,rfl,q⟩,fun ⟨i,e,q⟩=>by cases e;exact q⟩
  | exact ⟨fun q=>False.elim q,fun ⟨i,e,q⟩=>by cases e⟩
theorem mH (h:PE X a te):PO X (some a) (jE te):=by
 rw [Nr]
 exact KZ h
noncomputable def i9:V->Hp->VK->Prop:=fun x H Q=>match x with | .int i=>Q (.int (-i)) H | _=>False
theorem kq:wC X (unaryOp .USub) i9:=fun pins s σ H x v Q I rx h=>by
 cases x <;> first | exact False.elim h | exact qC pins s σ H _ v Q I rx ⟨_,rfl,h⟩
theorem C3 {op:CmpOp}{t:TE}{pos:Pos} (h:PC X op a b t) (h1:behindInMarks op b=false:=by first | exact As _ (by decide) (by decide) | rfl | with_unfolding_all rfl):PT X (.Compare a [op] [b] pos) (cA t):=by
 have e:cA t=tB t:=by
  funext σ H Q
  unfold cA tB
  congr 1
  funext x H'
  exact yb
 rw [e]
 exact nq h h1
end
section
variable {K:ZoW}{σ:St}{sel:List Nat}{bC:St}{H:Hp}{p:Addr}{tt:TT}{te:TE}{Q:VK}
noncomputable abbrev lS (J:It) (σ:St) (k:Nat) (sel:List Nat) (g:TG) (tt:TT) (te:TE) (Q:VK) (H1:Hp) (p:Addr):Prop :=
 ∃ W:Nat->Nat->St->Hp->Prop,(∃ m,W 0 m (cst σ k sel) (upd H1 p (.lst [])))/\∀ i m σ2 H2,W i m σ2 H2 ->
  (J.stop i H2/\Q (.ref p) H2)\/(J.go i H2/\∀ x H3,J.g8 i H2 x H3->g x σ2 H3 fun σ4 H4=>tt σ4 H4 fun b H5 =>
   if b=true then te σ4 H5 fun v H6=>∃ ys,H6 p=some (.lst ys)/\ys.length<sizeLine/\∃ m',m'<m/\W (i+1) m' σ4 (upd H6 p (.lst (ys ++ [v]))) else ∃ m',m'<m/\W (i+1) m' σ4 H5)
theorem sH {J:It}{n:Nat}{item:Nat->V} (Pv:Nat->Hp->Prop) (hr:sel.map (fun j=>(σ[j]?).join)=bC) (h0:Pv 0 (upd H p (.lst [])))
  (src:∀ i H2,i<n->Pv i H2->J.go i H2/\∀ x H3,J.g8 i H2 x H3->H3=H2/\x=item i) (fin:∀ H2,Pv n H2->J.stop n H2)
  (step:∀ i H2 (R:Hp->Prop),i<n->Pv i H2->(∀ H',Pv (i+1) H'->R H')->tt (some (item i) :: bC) H2 fun b H5 =>
   if b=true then te (some (item i) :: bC) H5 fun v H6=>∃ ys,H6 p=some (.lst ys)/\ys.length<sizeLine/\R (upd H6 p (.lst (ys ++ [v]))) else R H5)
  (hQ:∀ H2,Pv n H2->Q (.ref p) H2):lS J σ 1 sel (au 0) tt te Q H p:=by
 refine ⟨fun i m σ2 H2=>i<=n/\m=n - i+1/\(∃ v,σ2=v :: bC)/\Pv i H2,⟨n+1,ZqH _,rfl,⟨none,?_⟩,h0⟩,?_⟩
 ·unfold cst;rw [hr];rfl
 ·rintro i m σ2 H2 ⟨hi,rfl,⟨v,rfl⟩,hP⟩
  by_cases bU:i<n
  ·right
   obtain ⟨hg,hy⟩:=src i H2 bU hP
   refine ⟨hg,fun x H3 hx=>?_⟩
   obtain ⟨rfl,rfl⟩:=hy x H3 hx
   exact step i H3 (fun H'=>∃ m',m'<n - i+1/\i+1<=n/\m'=n - (i+1)+1/\(∃ v,(some (item i) :: bC:St)=v :: bC)/\Pv (i+1) H') bU hP fun H' h'=>⟨n - (i+1)+1,by omega,bU,rfl,⟨_,rfl⟩,h'⟩
  ·left
   have e:i=n:=by omega
   subst e
   exact ⟨fin H2 hP,hQ H2 hP⟩
theorem vU {a:Addr}{xs:List V}{Pv:Nat->Hp->Prop} (hl:∀ i H2,i<=xs.length->Pv i H2->aI K H2 a xs):∀ i H2,i<xs.length->Pv i H2->(iJ K a).go i H2/\∀ x H3,(iJ K a).g8 i H2 x H3->H3=H2/\x=xs.getD i .non:=fun i H2 hi hP=>by
 have q:=hl i H2 (ZqN hi) hP
 have e:xs[i]? = some (xs.getD i .non):=by simp [ZpE,hi]
 refine ⟨⟨xs,_,q,e⟩,fun x H3 ⟨h1,h2⟩=>⟨h1,?_⟩⟩
 have:=h2 xs q
 rw [e] at this
 exact (Option.some.inj this).symm
theorem EG {a:Addr}{xs:List V}{Pv:Nat->Hp->Prop} (hl:∀ i H2,i<=xs.length->Pv i H2->bX K H2 a xs):∀ i H2,i<xs.length->Pv i H2->(jX K a).go i H2/\∀ x H3,(jX K a).g8 i H2 x H3->H3=H2/\x=xs.getD i .non:=fun i H2 hi hP=>by
 have q:=hl i H2 (ZqN hi) hP
 have e:xs[i]? = some (xs.getD i .non):=by simp [ZpE,hi]
 refine ⟨⟨xs,_,q,e⟩,fun x H3 ⟨h1,h2⟩=>⟨h1,?_⟩⟩
 have:=h2 xs q
 rw [e] at this
 exact (Option.some.inj this).symm
theorem M3 {lo:Int}{n:Nat}{Pv:Nat->Hp->Prop}:∀ i H2,i<n->Pv i H2->(ie lo n).go i H2/\∀ x H3,(ie lo n).g8 i H2 x H3->H3=H2/\x=.int (lo+i):=fun i H2 hi hP=>⟨hi,fun x H3 h=>h⟩
theorem eD {H:Hp}{p:Addr}{o:HO} (hp:H p=none):aD H (upd H p o):=fun b u e=>by rw [aJ (cH e hp)];exact e
theorem Gz {xs:List V}{f:V->V}{i:Nat} (hi:i<xs.length):(xs.take i).map f ++ [f (xs.getD i .non)]=(xs.take (i+1)).map f:=by
 rw [Zqa,Zpy]
 congr 1
 simp [ZpE,hi]
theorem PH {a:Addr}{xs:List V} (f:V->V) (hl:aI K H a xs) (hp:H p=none) (hr:sel.map (fun j=>(σ[j]?).join)=bC) (hz:xs.length<=sizeLine)
  (he:∀ x H' (Q':VK),x∈xs->aD H H'->Q' (f x) H'->te (some x :: bC) H' Q') (hQ:Q (.ref p) (upd H p (.lst (xs.map f)))):lS (iJ K a) σ 1 sel (au 0) cJ te Q H p:=by
 refine sH (n:=xs.length) (item:=fun i=>xs.getD i .non) (fun i H2=>H2=upd H p (.lst ((xs.take i).map f))) hr (by simp) (vU ?_) ?_ ?_ ?_
 ·rintro i H2 hi rfl
  exact (eD hp).seq hl
 ·rintro H2 rfl
  exact ⟨xs,(eD hp).seq hl,ZqC _⟩
 ·rintro i H2 R hi rfl hR
  unfold cJ
  dsimp only
  rw [if_pos rfl]
  refine he _ _ _ (by rw [show xs.getD i .non=xs[i] from by simp [ZpE,hi]];exact ZpX _) (eD hp) ⟨_,bh,?_,hR _ ?_⟩
  ·rw [Zpu,ZpT];omega
  ·rw [vp,Gz hi]
 ·rintro H2 rfl
  rw [ZpN]
  exact hQ
theorem NJ {lo:Int}{n:Nat} (f:Int->V) (hp:H p=none) (hr:sel.map (fun j=>(σ[j]?).join)=bC) (hz:n<=sizeLine)
  (he:∀ (i:Nat) H' (Q':VK),i<n->aD H H'->Q' (f (lo+i)) H'->te (some (.int (lo+i)) :: bC) H' Q') (hQ:Q (.ref p) (upd H p (.lst ((Zpv n).map fun i=>f (lo+(i:Nat)))))):lS (ie lo n) σ 1 sel (au 0) cJ te Q H p:=by
 refine sH (n:=n) (item:=fun i=>.int (lo+i)) (fun i H2=>H2=upd H p (.lst ((Zpv i).map fun i=>f (lo+(i:Nat))))) hr (by simp) M3 ?_ ?_ ?_
 ·rintro H2 rfl
  exact ZqC _
 ·rintro i H2 R hi rfl hR
  unfold cJ
  dsimp only
  rw [if_pos rfl]
  refine he i _ _ hi (eD hp) ⟨_,bh,?_,hR _ ?_⟩
  ·rw [Zpu,ZpO];omega
  ·rw [vp,Zp2,Zpy];rfl
 ·rintro H2 rfl
  exact hQ
end
noncomputable def jo (x:V) (k:Addr->Prop):Prop:=match x with | .ref p=>k p | _=>False
theorem yT {x:V}{k:Addr->Prop}:(∃ p,x=.ref p/\k p)=jo x k:=by
 apply propext
 cases x <;> first
  | exact ⟨fun ⟨p,e,q⟩=>by cases e;exact q,fun q=>⟨_,rfl,q⟩⟩
  | exact ⟨fun ⟨p,e,q⟩=>(by cases e),fun q=>False.elim q⟩
noncomputable def tG (vs:List V) (k:Int->Prop):Prop:=match vs with | [.int j]=>k j | _=>False
theorem IH {vs:List V}{k:Int->Prop}:(∃ j,vs=[.int j]/\k j)=tG vs k:=by
 apply propext
 constructor
 ·rintro ⟨j,rfl,q⟩;exact q
 ·intro h
  unfold tG at h
  split at h
  ·exact ⟨_,rfl,h⟩
  ·exact h.elim
noncomputable def zR (vs:List V) (k:Int->Int->Prop):Prop:=match vs with | [.int i,.int j]=>k i j | _=>False
theorem PF {vs:List V}{k:Int->Int->Prop}:(∃ i j,vs=[.int i,.int j]/\k i j)=zR vs k:=by
 apply propext
 constructor
 ·rintro ⟨i,j,rfl,q⟩;exact q
 ·intro h
  unfold zR at h
  split at h
  ·exact ⟨_,_,rfl,h⟩
  ·exact h.elim
noncomputable def lK (J:It) (g:TG) (tb:TS) (D:Ends) (σ:St) (H:Hp):Prop:=∃ W:Nat->Nat->St->Hp->Prop,(∃ m,W 0 m σ H)/\∀ i m σ H,W i m σ H ->
 (J.stop i H/\D.nx σ H)\/(J.go i H/\∃ N:St->Hp->Prop,(∀ σ' H',N σ' H'->∃ m',m'<m/\W (i+1) m' σ' H')/\∀ x H',J.g8 i H x H'->g x σ H' fun σ2 H2=>tb { D with nx:=N,ct:=N,bk:=D.nx } σ2 H2)
noncomputable def iF (J:It) (σ:St) (k:Nat) (sel:List Nat) (g:TG) (tt:TT) (te:TE) (Q:VK) (H1:Hp):Prop:=∀ p,H1 p=none->lS J σ k sel g tt te Q H1 p
section
variable {K:ZoW}{te:TE}{ta:TA}{g:TG}{tb:TS}{D:Ends}{σ:St}{H:Hp}{p:Addr}{xs:List V}{k:Nat}{sel:List Nat}{tt:TT}{el:TE}{Q:VK}
theorem QR:ed (fk K te) g tb D σ H=te σ H (fun x H1=>jo x fun p=>(∃ xs,aI K H1 p xs)/\lK (iJ K p) g tb D σ H1):=by
 unfold ed fk
 congr 1
 funext x H1
 exact yT
theorem Qj:ed (lx K te) g tb D σ H=te σ H (fun x H1=>jo x fun p=>(∃ xs,bX K H1 p xs)/\lK (jX K p) g tb D σ H1):=by
 unfold ed lx
 congr 1
 funext x H1
 exact yT
theorem L9:ed (hX ta) g tb D σ H=ta σ H (fun vs H1=>tG vs fun j=>-(2 ^ 62)<=j/\j<2 ^ 62/\lK (ie 0 j.toNat) g tb D σ H1):=by
 unfold ed hX
 congr 1
 funext x H1
 exact IH
theorem Nb:ed (sC ta) g tb D σ H=ta σ H (fun vs H1=>zR vs fun i j=>(-(2 ^ 62)<=i/\i<2 ^ 62 /\ -(2 ^ 62)<=j/\j<2 ^ 62)/\lK (ie i (j - i).toNat) g tb D σ H1):=by
 unfold ed sC
 congr 1
 funext x H1
 exact PF
theorem M0:cO (fk K te) k sel g tt el σ H Q=te σ H (fun x H1=>jo x fun p=>(∃ xs,aI K H1 p xs)/\iF (iJ K p) σ k sel g tt el Q H1):=by
 unfold cO fk
 congr 1
 funext x H1
 exact yT
theorem OU:cO (lx K te) k sel g tt el σ H Q=te σ H (fun x H1=>jo x fun p=>(∃ xs,bX K H1 p xs)/\iF (jX K p) σ k sel g tt el Q H1):=by
 unfold cO lx
 congr 1
 funext x H1
 exact yT
theorem Nu:cO (hX ta) k sel g tt el σ H Q=ta σ H (fun vs H1=>tG vs fun j=>-(2 ^ 62)<=j/\j<2 ^ 62/\iF (ie 0 j.toNat) σ k sel g tt el Q H1):=by
 unfold cO hX
 congr 1
 funext x H1
 exact IH
theorem rC (Pv:Nat->St->Hp->Prop) (h0:Pv 0 σ H) (hk:∀ i σ H,i<=xs.length->Pv i σ H->aI K H p xs)
  (hs:∀ i x σ H,xs[i]? = some x->Pv i σ H->g x σ H fun σ2 H2=>tb { D with nx:=Pv (i+1),ct:=Pv (i+1),bk:=D.nx } σ2 H2) (hd:∀ σ H,Pv xs.length σ H->D.nx σ H):lK (iJ K p) g tb D σ H:=PV Pv h0 hk hs hd
theorem QU (Pv:Nat->St->Hp->Prop) (h0:Pv 0 σ H) (hk:∀ i σ H,i<=xs.length->Pv i σ H->bX K H p xs)
  (hs:∀ i x σ H,xs[i]? = some x->Pv i σ H->g x σ H fun σ2 H2=>tb { D with nx:=Pv (i+1),ct:=Pv (i+1),bk:=D.nx } σ2 H2) (hd:∀ σ H,Pv xs.length σ H->D.nx σ H):lK (jX K p) g tb D σ H:=O3 Pv h0 hk hs hd
theorem km {lo:Int}{n:Nat} (Pv:Nat->St->Hp->Prop) (h0:Pv 0 σ H)
  (hs:∀ (i:Nat) σ H,i<n->Pv i σ H->g (.int (lo+i)) σ H fun σ2 H2=>tb { D with nx:=Pv (i+1),ct:=Pv (i+1),bk:=D.nx } σ2 H2) (hd:∀ σ H,Pv n σ H->D.nx σ H):lK (ie lo n) g tb D σ H:=KS Pv h0 hs hd
end
theorem z7 {α:Type}{xs:List α}{i:Int} (d:α) (h0:0<=i) (h1:i<xs.length):dk xs i=some (xs.getD i.toNat d):=by
 obtain ⟨n,rfl⟩:=Zq2 h0
 have hn:n<xs.length:=by omega
 have e:xs[n]? = some (xs.getD n d):=by simp [ZpE,hn]
 exact Mw e
theorem K0 {α β:Type} (f:α->β) (xs:List α) (n:Nat) (d:α):(xs.map f).getD n (f d)=f (xs.getD n d):=by
 simp [ZpE]
theorem OW {α β:Type}{f:α->β}{xs:List α}{i:Int} (d:α) (h0:0<=i) (h1:i<xs.length):dk (xs.map f) i=some (f (xs.getD i.toNat d)):=by
 rw [z7 (f d) h0 (by rw [Zpu];exact h1),K0]
theorem Jo {α β:Type}{f:α->β}{xs:List α}{i:Nat}{y:β} (h:(xs.map f)[i]? = some y):∃ x,xs[i]? = some x/\y=f x:=by
 rw [ZpB] at h
 cases e:xs[i]? with
 | none=>rw [e] at h;cases h
 | some x=>rw [e] at h;exact ⟨x,rfl,(Option.some.inj h).symm⟩
theorem sm {X:Cx}{x:Str}{v:V}{pos:Pos} (hg:Gl X x) (hm:∃ u,X.mg x=some u/\aH v u) (hd:(x == ("__debug__" : Str))=false:=by decide):PE X (.Name x pos) (tC v):=by
 obtain ⟨u,h1,h2⟩:=hm
 exact Fh hg h1 h2 hd
noncomputable def lP:Expr->Option V
 | .Constant (.int i) _ _=>some (.int i)
 | .Constant (.bool b) _ _=>some (.bl b)
 | .Constant .none _ _=>some .non
 | .Constant (.str x) _ _=>some (.str x)
 | _=>none
noncomputable def zp:List Expr->Option (List V)
 | []=>some []
 | e :: r=>match lP e,zp r with | some v,some vs=>some (v :: vs) | _,_=>none
noncomputable def xx (vs:List V):TA:=fun _ H Q=>Q vs H
theorem wD {X:Cx}{e:Expr}{v:V} (h:lP e=some v):PE X e (tC v):=by
 unfold lP at h
 split at h <;> first
  | (cases h;exact aq)
  | (cases h;exact ip)
  | (cases h;exact pT)
  | (cases h;exact dZ)
  | cases h
theorem Nw {e:Expr}{es:List Expr}{env:Env}{v:V} (h:lP e=some v):starEach (e :: es) env=(false,eval e env) :: starEach es env:=by
 unfold lP at h
 split at h <;> first | rfl | cases h
theorem zz {X:Cx}:∀ {es:List Expr}{vs:List V},zp es=some vs->PA X es (xx vs)
 | [],vs,h=>by
  have e:vs=[]:=(Option.some.inj h).symm
  subst e
  exact fun pos pins s σ H Q I q=>ak pos pins s σ H Q I q
 | e :: r,vs,h=>by
  unfold zp at h
  cases h1:lP e with
  | none=>rw [h1] at h;cases h
  | some v =>
   cases h2:zp r with
   | none=>rw [h1,h2] at h;cases h
   | some ws =>
    rw [h1,h2] at h
    have e':v :: ws=vs:=Option.some.inj h
    subst e'
    exact fun pos pins s σ H Q I q=>ag (wD h1) (zz h2) (Nw h1) pos pins s σ H Q I q
noncomputable def kD:List (Option Expr)->List Expr->Option (List (Key × V))
 | [],[]=>some []
 | some k :: ks,v :: vs=>match lP k,lP v,kD ks vs with
  | some (.int i),some y,some r=>some ((.inl i,y) :: r)
  | some (.str x),some y,some r=>some ((.inr x,y) :: r)
  | _,_,_=>none
 | _,_=>none
theorem Ge:∀ {ks:List (Option Expr)}{vs:List Expr}{kvs:List (Key × V)},kD ks vs=some kvs->ks.all (·.isSome)=true/\ks.length=vs.length/\kvs.length=ks.length
 | [],[],kvs,h=>by
  have e:kvs=[]:=(Option.some.inj h).symm
  subst e
  exact ⟨rfl,rfl,rfl⟩
 | [],_ :: _,_,h=>by cases h
 | none :: _,_,_,h=>by simp [kD] at h
 | some k :: ks,[],_,h=>by cases h
 | some k :: ks,v :: vs,kvs,h=>by
  unfold kD at h
  cases h3:kD ks vs with
  | none =>
   rw [h3] at h
   split at h <;> first | (rename_i e;cases e;done) | (cases h;done)
  | some r =>
   obtain ⟨q1,q2,q3⟩:=Ge h3
   rw [h3] at h
   split at h
   ·rename_i e;cases e;cases h;exact ⟨by simpa using q1,by simp [q2],by simp [q3]⟩
   ·rename_i e;cases e;cases h;exact ⟨by simpa using q1,by simp [q2],by simp [q3]⟩
   ·cases h
noncomputable def Gp:List (Key × V)->List (TE × TE):=fun kvs=>kvs.map fun kv=>(tC (kV kv.1),tC kv.2)
theorem HM {X:Cx}{pos:Pos}:∀ {ks:List (Option Expr)}{vs:List Expr}{kvs:List (Key × V)},kD ks vs=some kvs->sE X pos ks vs (Gp kvs)
 | [],[],kvs,h=>by
  have e:kvs=[]:=(Option.some.inj h).symm
  subst e
  exact K2
 | [],_ :: _,_,h=>by cases h
 | none :: _,_,_,h=>by simp [kD] at h
 | some k :: ks,[],_,h=>by cases h
 | some k :: ks,v :: vs,kvs,h=>by
  unfold kD at h
  cases h3:kD ks vs with
  | none =>
   rw [h3] at h
   split at h <;> first | (rename_i e;cases e;done) | (cases h;done)
  | some r =>
   have ih:=HM (X:=X) (pos:=pos) h3
   rw [h3] at h
   split at h
   ·rename_i e1 e2 e;cases e;cases h;exact Gw (wD e1) (wD e2) ih
   ·rename_i e1 e2 e;cases e;cases h;exact Gw (wD e1) (wD e2) ih
   ·cases h
theorem FC {σ:St}{H:Hp}:∀ (kvs:List (Key × V)) (Q:List (V × V)->Hp->Prop),Q (kvs.map fun kv=>(kV kv.1,kv.2)) H->yV (Gp kvs) σ H Q
 | [],Q,h=>h
 | kv :: r,Q,h=>FC r (fun ps H3=>Q ((kV kv.1,kv.2) :: ps) H3) h
noncomputable def zq (kvs:List (Key × V)):TE:=fun _ H Q=>∀ p,H p=none->Q (.ref p) (upd H p (.dK kvs))
theorem NI {X:Cx}{pos:Pos}{keys:List (Option Expr)}{values:List Expr} (kvs:List (Key × V)) (h:kD keys values=some kvs) (hm:eK [] kvs=kvs) (hk:keys≠[]) (hl:kvs.length<=15):PE X (.Dict keys values pos) (zq kvs):=by
 obtain ⟨q1,q2,q3⟩:=Ge h
 refine (Ly (HM h) q1 q2 hk (by omega)).imp fun σ H Q q p hp=>FC kvs _ ⟨bh,kvs,rfl,hl,?_⟩
 rw [hm,vp]
 exact q p hp
section
variable {X:Cx}{tg:Expr}
noncomputable def Eo:V->Option Int->Option Int->Hp->VK->Prop:=fun x lo hi H Q=>match x with
 | .str z=>z.length<=sizeLine/\Q (.str (Txt.slice z lo hi)) H
 | _=>False
theorem wY:lL X Eo:=by
 intro pins s σ H x v vl vu lo hi sl Q I rx hs pl pu h
 cases x with
 | str z =>
  obtain ⟨t,rfl⟩:=rx
  obtain ⟨hz,q⟩:=h
  refine ⟨"str",_,F.slot_str_getitem.lookup,typeIs_str _ _ _,?_⟩
  have fin:∀ t' k,EP X pins σ Q (.str (Txt.slice z lo hi) t') { s with toks:=k }:=fun t' k=>⟨.str (Txt.slice z lo hi),H,I.tok k,⟨t',rfl⟩,q⟩
  cases pl with
  | none=>cases pu with
   | none=>exact wpAny_getItem_str_slice (l:=none) (u:=none) (st:=none) hs rfl (post_val_or_str ⟨ZqE (Txt.slice_le z _ _) hz,fin⟩)
   | int j uj=>exact wpAny_getItem_str_slice (l:=none) (u:=some (j,uj)) (st:=none) hs rfl (post_val_or_str ⟨ZqE (Txt.slice_le z _ _) hz,fin⟩)
  | int i ui=>cases pu with
   | none=>exact wpAny_getItem_str_slice (l:=some (i,ui)) (u:=none) (st:=none) hs rfl (post_val_or_str ⟨ZqE (Txt.slice_le z _ _) hz,fin⟩)
   | int j uj=>exact wpAny_getItem_str_slice (l:=some (i,ui)) (u:=some (j,uj)) (st:=none) hs rfl (post_val_or_str ⟨ZqE (Txt.slice_le z _ _) hz,fin⟩)
 | _=>exact False.elim h
noncomputable def kN (z:Str):It:=⟨fun i _=>i<z.cps.size,fun i H x H'=>H'=H/\∃ c,z.cps[i]? = some c/\x=.str ⟨#[c]⟩,fun i _=>z.cps.size<=i⟩
theorem NK {P:Program}{w:World}{K:ZoW}{tg:Expr} (it:Addr) (z:Str) (t:Tok) (ty:String) (mD:ty = "str_ascii_iterator" \/ ty = "str_iterator") :
  Turn P w K tg (kN z) [it] it (fun i h=>h.IsStrIter it ty z t i) where
 mem:=by simp
 obj:=fun i h st b hb=>by
  have e:b=it:=by simpa using hb
  subst e
  obtain ⟨o,e,c,d⟩:=st
  exact ⟨o,e,fun v z=>by rw [d] at z;cases z⟩
 keep:=fun i h h' st k=>by
  obtain ⟨o,e,c,d⟩:=st
  exact ⟨o,k it (by simp) o e,c,d⟩
 item:=by
  intro X hP hw hK hc i pins s σ H E I hf st hg
  subst hP hw hK
  obtain ⟨f0,f1,f2,f3,f4,f5⟩:=hf it (by simp)
  have hi:i<z.cps.size:=hg
  have hx:z.cps[i]? = some z.cps[i]:=by simp [hi]
  have fin:∀ h',h'.IsStrIter it ty z t (i+1)->Heap.SameBut it s.heap h'->∃ u,(some (Value.str ⟨#[z.cps[i]]⟩ s.toks))=some u /\
    wpAny (model X.prog X.w) X.A (letOwnedTupleGo tg (.ref it) u) (fun _ s2=>∃ x H',Inv X pins σ H' s2/\aH x u/\(kN z).g8 i H x H'/\s2.heap.IsStrIter it ty z t (i+1)/\∀ b∈[it],H' b=none) E { s with heap:=h',toks:=s.toks+1 }:=fun h' st' sb=>by
   have I1:Inv X pins σ H { s with heap:=h',toks:=s.toks+1 }:=I.turned (fun b o hb e=>(sb.2 b hb).trans e) f0 f1 f3 f4 f5
   obtain ⟨o,e,cl,d⟩:=id st'
   exact ⟨_,rfl,yW (s:={ s with heap:=h',toks:=s.toks+1 }) e cl d (by rcases mD with q | q <;> subst q <;> decide) ⟨.str ⟨#[z.cps[i]]⟩,H,I1,⟨s.toks,rfl⟩,⟨rfl,_,hx,rfl⟩,st',fun b hb=>(hf b hb).1⟩⟩
  rcases mD with q | q
  ·subst q
   exact wpAny_pyNext_ascii_item st hx fin
  ·subst q
   exact wpAny_pyNext_wide_item st hx fin
 done:=by
  intro X hP hw hK hc i pins s σ H E I hf st hg
  subst hP hw hK
  obtain ⟨f0,f1,f2,f3,f4,f5⟩:=hf it (by simp)
  have hx:z.cps[i]? = none:=by
   have:z.cps.size<=i:=hg
   simp;exact this
  rcases mD with q | q
  ·subst q
   exact wpAny_pyNext_ascii_end (I.ok.hd hc) st hx fun h' eb=>⟨rfl,I.turned (t':=s.toks) (fun b o hb e=>eb b o hb e) f0 f1 f3 f4 f5⟩
  ·subst q
   exact wpAny_pyNext_wide_end (I.ok.hd hc) st hx fun h' eb=>⟨rfl,I.turned (t':=s.toks) (fun b o hb e=>eb b o hb e) f0 f1 f3 f4 f5⟩
 self:=fun A i s Q E st h=>by
  rcases mD with q | q
  ·subst q
   exact wpAny_pyIter_striter_ascii st h
  ·subst q
   exact wpAny_pyIter_striter_wide st h
noncomputable def jl (tl:TE):TI:=fun σ H R=>tl σ H fun x H1=>match x with | .str z=>R (kN z) H1 | _=>False
theorem GJ {l:Expr}{tl:TE} (hl:PE X l tl):PI X tg l (jl tl):=by
 intro pins s σ H R I h
 refine aF (hl pins s σ H _ I h) fun v s1 ⟨x,H1,I1,r1,q1⟩=>?_
 cases x with
 | str z =>
  obtain ⟨t,rfl⟩:=r1
  have fin:∀ (ty:String),(ty = "str_ascii_iterator" \/ ty = "str_iterator")->z5 X pins σ tg R (.ref s1.heap.objs.size) { s1 with heap:=s1.heap.push { cls:=.type ty,data:=.fields #[.str z t,.int 0 0] } }:=fun ty mD=>by
   refine ⟨s1.heap.objs.size,[s1.heap.objs.size],_,_,H1,rfl,I1.kept (t':=s1.toks) fun b o e=>Heap.get?_push_of_some _ e,NK _ z t ty mD,⟨_,Heap.get?_push_size _ rfl,rfl,rfl⟩,fun b hb=>?_,q1⟩
   have e:b=s1.heap.objs.size:=by simpa using hb
   subst e
   exact I1.gN (ZqC _) (I1.aw.fresh (ZqC _))
  cases ha:z.cps.all (· < 128)
  ·exact wpAny_pyIter_wide ha (fin _ (.inr rfl))
  ·exact wpAny_pyIter_ascii ha (fin _ (.inl rfl))
 | _=>exact False.elim q1
variable {te:TE}{g:TG}{tb:TS}{D:Ends}{σ:St}{H:Hp}{k:Nat}{sel:List Nat}{tt:TT}{el:TE}{Q:VK}
theorem Oi:ed (jl te) g tb D σ H=te σ H (fun x H1=>match x with | .str z=>lK (kN z) g tb D σ H1 | _=>False):=rfl
theorem Pg:cO (jl te) k sel g tt el σ H Q=te σ H (fun x H1=>match x with | .str z=>iF (kN z) σ k sel g tt el Q H1 | _=>False):=by
 unfold cO jl iF
 congr 1
theorem Nz {z:Str}{Pv:Nat->Hp->Prop}:∀ i H2,i<z.cps.size->Pv i H2->(kN z).go i H2/\∀ x H3,(kN z).g8 i H2 x H3->H3=H2/\x=.str ⟨#[z.cps.getD i 0]⟩:=fun i H2 hi hP=>by
 refine ⟨hi,fun x H3 ⟨h1,c,h2,h3⟩=>⟨h1,?_⟩⟩
 have e:z.cps.getD i 0=c:=by
  have:z.cps[i]? = some z.cps[i]:=by simp [hi]
  rw [this] at h2
  cases h2
  simp [Array.getD,hi]
 rw [e];exact h3
theorem Pm {bC:St}{p:Addr}{z:Str} (f:Nat->V) (hp:H p=none) (hr:sel.map (fun j=>(σ[j]?).join)=bC) (hz:z.cps.size<=sizeLine)
  (he:∀ c H' (Q':VK),c∈z.cps.toList->aD H H'->Q' (f c) H'->el (some (.str ⟨#[c]⟩) :: bC) H' Q') (hQ:Q (.ref p) (upd H p (.lst (z.cps.toList.map f)))):lS (kN z) σ 1 sel (au 0) cJ el Q H p:=by
 have hlen:z.cps.toList.length=z.cps.size:=by simp
 refine sH (n:=z.cps.size) (item:=fun i=>.str ⟨#[z.cps.getD i 0]⟩) (fun i H2=>H2=upd H p (.lst ((z.cps.toList.take i).map f))) hr (by simp) Nz ?_ ?_ ?_
 ·rintro H2 rfl
  exact ZqC _
 ·rintro i H2 R hi rfl hR
  unfold cJ
  dsimp only
  rw [if_pos rfl]
  have e:z.cps.toList[i]? = some (z.cps.getD i 0):=by simp [Array.getD,hi]
  refine he _ _ _ (Zp5 e) (eD hp) ⟨_,bh,?_,hR _ ?_⟩
  ·rw [Zpu,ZpT];omega
  ·rw [vp,Zqa,e,Zpy];rfl
 ·rintro H2 rfl
  rw [<- hlen,ZpN]
  exact hQ
noncomputable def jz (K:ZoW):List V->Hp->VK->Prop:=fun vs H Q=>match vs with
 | [.ref p]=>∃ bs:List Bool,aI K H p (bs.map V.bl)/\Q (.bl (bs.all id)) H
 | _=>False
theorem zM (hc:X.calm=true):fD X (.builtin "all") (jz X.K):=by
 intro pins s σ H xs us Q I r h
 match xs,h with
 | [.ref p],h =>
  obtain ⟨bs,h1,q⟩:=h
  obtain ⟨u,rfl,ru⟩:=gW r
  cases ru
  obtain ⟨its,rv,pl,hz⟩:=I.list h1
  have hlen:=rv.length
  rw [Zpu] at hlen
  have bU:p<s.heap.objs.size:=by obtain ⟨_,e,_⟩:=pl.isList;exact Heap.lt_size e
  have hh:X.A.in1.handled=none:=I.ok.hd hc
  refine call_all_walk (wpAny_pyIter_list pl.isList ⟨s.heap.objs.size,_,_,its.toArray.size,_,_,fun i=>bs.getD i false,rfl,Walks.list hh s.heap.objs.size p (ZqD bU) its.toArray,⟨⟨_,Heap.get?_push_size _ rfl,rfl,rfl⟩,pl.isList.push _⟩,?_,?_⟩)
  ·intro i v Q' E' s' hv hq
   have zK:its[i]? = some v:=by simpa using hv
   have hi:i<its.length:=(ZpA.mp zK).1
   obtain ⟨u,hu,ru⟩:=rv.get (i:=i) (x:=.bl (bs.getD i false)) (by rw [ZpB];simp [ZpE,show i<bs.length by omega])
   rw [zK] at hu
   cases hu
   cases ru
   exact wpAny_truthy_bool hq
  ·intro h' tk kk
   refine ⟨.bl (bs.all id),H,?_,?_,q⟩
   ·exact I.kept fun b o e=>kk b o (by simp;exact ZqD (Heap.lt_size e)) (Heap.get?_push_of_some _ e)
   ·have e:((Zpv its.toArray.size).all fun i=>bs.getD i false)=bs.all id:=by
     rw [ZpJ,<- hlen]
     rw [Zrg]
     simp only [Zp1,ZpU,id_eq]
     constructor
     ·intro z b hb
      obtain ⟨i,hi,rfl⟩:=List.mem_iff_getElem.mp hb
      have:=z i hi
      simpa [ZpE,hi] using this
     ·intro z i hi
      have:=z bs[i] (ZpX _)
      simpa [ZpE,hi] using this
    rw [e];rfl
noncomputable def jG:R2:=fun x y H Q=>match x,y with
 | .int i,.int j=>kQ i j/\Q (.int (i * j)) H
 | .str z,.int n=>MulOk z n/\Q (.str (Txt.mul z n)) H
 | _,_=>False
theorem kJ:bj X (binaryOp .Mult) jG:=by
  intro pins s σ H x y v u Q I rx ry h
  cases x <;> cases y <;> first
    | exact False.elim h
    | exact nX pins s σ H _ _ v u Q I rx ry ⟨_,_,rfl,rfl,h.1,h.2⟩
    | (obtain ⟨t,rfl⟩:=rx
       obtain ⟨t',rfl⟩:=ry
       exact SB.mul h.1 fun t'' k=>⟨.str _,H,I.tok k,⟨t'',rfl⟩,h.2⟩)
end
structure dP (H:Hp) (p:Addr) (o:HO) (H':Hp):Prop where
 cP:H p=none
 eq:H'=upd H p o
section
variable {H H':Hp}{p:Addr}{o:HO}
theorem dP.same (n:dP H p o H'):aD H H':=by rw [n.eq];exact eD n.cP
theorem dP.at_ (n:dP H p o H'):H' p=some o:=by rw [n.eq];exact bh
theorem dP.ne (n:dP H p o H') {b:Addr} (h:b≠p):H' b=H b:=by rw [n.eq];exact aJ h
theorem dP.sq {K:ZoW}{xs:List V} (n:dP H p (.lst xs) H'):aI K H' p xs:=.of n.at_
theorem o1 {F:Addr->Hp->Prop}{o:HO}:(∀ p,H p=none->F p (upd H p o)) = ∀ p H',dP H p o H'->F p H' :=
 propext ⟨fun h p H' n=>by rw [n.eq];exact h p n.cP,fun h p hp=>h p _ ⟨hp,rfl⟩⟩
end
section
variable {K:ZoW}{t:TA}{σ:St}{H:Hp}{Q:VK}{x:V}{lo hi:Option Int}{vs:List V}{kvs:List (Key × V)}
theorem nB:gG t σ H Q=t σ H fun xs H1=>xs.length<=sizeLine/\∀ p H',dP H1 p (.lst xs) H'->Q (.ref p) H':=by
 unfold gG;congr 1;funext xs H1;rw [o1 (F:=fun p H'=>Q (.ref p) H')]
theorem nK:jB t σ H Q=t σ H fun xs H1=>xs.length<=sizeLine/\∀ p H',dP H1 p (.tup xs) H'->Q (.ref p) H':=by
 unfold jB;congr 1;funext xs H1;rw [o1 (F:=fun p H'=>Q (.ref p) H')]
theorem Pq:zq kvs σ H Q = ∀ p H',dP H p (.dK kvs) H'->Q (.ref p) H':=by
 unfold zq;rw [o1 (F:=fun p H'=>Q (.ref p) H')]
theorem Lp:zL σ H Q = ∀ p H',dP H p (.dK []) H'->Q (.ref p) H':=by
 unfold zL;rw [o1 (F:=fun p H'=>Q (.ref p) H')]
theorem pe {p:Addr}:ox K (.ref p) lo hi H Q = ∃ xs,aI K H p xs/\∀ q H',dP H q (.lst (gZ xs lo hi)) H'->Q (.ref q) H':=by
 unfold ox
 dsimp only
 congr 1;funext xs;rw [o1 (F:=fun p H'=>Q (.ref p) H')]
theorem Rh {p:Addr}:rZ K [.ref p] H Q = ∃ ys,(aI K H p ys\/bX K H p ys)/\∀ l H',dP H l (.lst ys) H'->Q (.ref l) H':=by
 unfold rZ
 dsimp only
 congr 1;funext xs;rw [o1 (F:=fun p H'=>Q (.ref p) H')]
theorem PN {p:Addr}:si K [.ref p] H Q = ∃ ys,((aI K H p ys/\∀ l H',dP H l (.tup ys) H'->Q (.ref l) H')\/(bX K H p ys/\Q (.ref p) H)):=by
 unfold si
 dsimp only
 congr 1;funext xs;rw [o1 (F:=fun p H'=>Q (.ref p) H')]
end
section
variable {K:ZoW}{σ:St}{sel:List Nat}{bC:St}{H:Hp}{tt:TT}{te:TE}{Q:VK}
theorem rW {a:Addr}{xs:List V} (f:V->V) (hl:aI K H a xs) (hr:sel.map (fun j=>(σ[j]?).join)=bC) (hz:xs.length<=sizeLine)
  (he:∀ x H' (Q':VK),x∈xs->aD H H'->Q' (f x) H'->te (some x :: bC) H' Q') (hQ:∀ p H',dP H p (.lst (xs.map f)) H'->Q (.ref p) H'):iF (iJ K a) σ 1 sel (au 0) cJ te Q H :=
 fun p hp=>PH f hl hp hr hz he (hQ p _ ⟨hp,rfl⟩)
theorem Zip {lo:Int}{n:Nat} (f:Int->V) (hr:sel.map (fun j=>(σ[j]?).join)=bC) (hz:n<=sizeLine)
  (he:∀ (i:Nat) H' (Q':VK),i<n->aD H H'->Q' (f (lo+i)) H'->te (some (.int (lo+i)) :: bC) H' Q') (hQ:∀ p H',dP H p (.lst ((Zpv n).map fun i=>f (lo+(i:Nat)))) H'->Q (.ref p) H'):iF (ie lo n) σ 1 sel (au 0) cJ te Q H :=
 fun p hp=>NJ f hp hr hz he (hQ p _ ⟨hp,rfl⟩)
theorem HV {z:Str} (f:Nat->V) (hr:sel.map (fun j=>(σ[j]?).join)=bC) (hz:z.cps.size<=sizeLine)
  (he:∀ c H' (Q':VK),c∈z.cps.toList->aD H H'->Q' (f c) H'->te (some (.str ⟨#[c]⟩) :: bC) H' Q') (hQ:∀ p H',dP H p (.lst (z.cps.toList.map f)) H'->Q (.ref p) H'):iF (kN z) σ 1 sel (au 0) cJ te Q H :=
 fun p hp=>Pm f hp hr hz he (hQ p _ ⟨hp,rfl⟩)
end
noncomputable def mN (K:ZoW):V->Option Int->Option Int->Hp->VK->Prop:=fun x lo hi H Q=>match x with
 | .ref p=>∃ xs,aI K H p xs/\∀ q H',dP H q (.lst (gZ xs lo hi)) H'->Q (.ref q) H'
 | .str z=>z.length<=sizeLine/\Q (.str (Txt.slice z lo hi)) H
 | _=>False
theorem rP {X:Cx}:lL X (mN X.K):=by
 intro pins s σ H x v vl vu lo hi sl Q I rx hs pl pu h
 cases x with
 | ref p=>exact nU pins s σ H (.ref p) v vl vu lo hi sl Q I rx hs pl pu (by rw [pe];exact h)
 | str z=>exact wY pins s σ H (.str z) v vl vu lo hi sl Q I rx hs pl pu h
 | _=>exact False.elim h
end L2
set_option maxHeartbeats 4000000
namespace DZ
open PySem
section
variable {prog:Program}{w:World}{A:Around}{E:Value->Shared->Prop}{s:Shared}
end
section
variable {M:Model}{A:Around}{E:Value->Shared->Prop}{s:Shared}
theorem alive {a:Addr}{o:Obj}{Q:Option Obj->Shared->Prop} (h:s.heap.get? a=some o) (q:Q (some o) s):wpAny M A (loadIfAlive a) Q E s:=fun Γ p _=>by
 unfold loadIfAlive
 rw [Sem.wp_loadIfAlive,h]
 exact q
end
structure RB (z TI TO i1 i2 t l:Addr) (xs ys:Array Value) (i:Nat) (h:Heap):Prop where
 zo:∃ f0 f1,h.get? z=some { cls:=.type "zip",dict:=none,data:=.fields #[f0,.bool f1,.bool false,.ref TI,.ref TO],slots:=#[] } /\
  (f0=.none\/∃ (T:Addr) (o:Obj),f0=rawInt T/\h.get? T=some o/\T≠z/\T≠TO/\T≠i1/\T≠i2)
 ti:IsPair h TI (.ref i1) (.ref i2)
 to:∃ a b,IsPair h TO a b
 a1:h.IsTupleIter i1 t i
 a2:h.IsListIter i2 l i
 l1:h.IsTuple t xs
 l2:h.IsList l ys
section
variable {prog:Program}{w:World}{A:Around}{E:Value->Shared->Prop}{s:Shared}
end
end DZ
set_option maxHeartbeats 4000000
namespace DZ
open PySem
section
variable {prog:Program}{w:World}{A:Around}{E:Value->Shared->Prop}{h:Heap}{g:Array GenState}{d:Drawn}{t:Nat}{os:OsState}{z:Addr}{vs:Array Value}
end
theorem Dh:mroOf (.type "dict")=pure [.type "dict",.type "object"]:=by rw [mroOf_type];kernel_rfl
theorem MB:typeLookup (.type "dict") "__new__" = pure (some (.builtin "dict.__new__")):=by rw [typeLookup_type,builtinLookup_eq_fast];kernel_rfl
theorem JC:TypeCalled "dict" "dict.__new__" "dict.__init__" :=
 ⟨by decide +kernel,by decide +kernel,⟨_,_,Dh⟩,madeBy_type Dh MB (by decide +kernel),by decide +kernel,by rw [isSubtype_type];kernel_rfl,F.slot_dict_init⟩
theorem JN (a:Value):checkTypeCall "dict" ⟨[a],[]⟩=pure ():=by kernel_rfl
theorem N3 (a:Value):checkBuiltinCall "dict.__new__" ⟨[.type "dict",a],[]⟩=pure ():=by kernel_rfl
theorem Kc:entryFor table "dict.__new__" = some Builtin.«dict.__new__»:=entryFor_of_tree (by kernel_rfl)
theorem yQ:entryFor table "dict.update.loop" = some Builtin.«dict.update.loop»:=entryFor_of_tree (by kernel_rfl)
theorem Hr:plainId "dict.__new__" = true:=by decide +kernel
theorem mV:plainId "dict.update.loop" = true:=by decide +kernel
theorem Ek:isSubtype (.type "dict") (.type "dict")=pure true:=by rw [isSubtype_type];kernel_rfl
section
variable {prog:Program}{w:World}{A:Around}{E:Value->Shared->Prop}{s:Shared}
theorem Fu (a:Value) {Q:Value->Shared->Prop} (h:Q (.ref s.heap.objs.size) { s with heap:=s.heap.push { cls:=.type "dict",data:=.dict #[] } }) :
  codeAny (model prog w) A (.call (.builtin "dict.__new__") ⟨[.type "dict",a],[]⟩) (wants Q E) s:=by
 refine codeAny_of_tree ?_
 show wpAny _ A.in1 (do checkBuiltinCall "dict.__new__" ⟨[.type "dict",a],[]⟩;again (.builtin "dict.__new__" ⟨[.type "dict",a],[]⟩)) _ _ s
 refine wpAny_bind (wpAny_of_eq (N3 a) (wpAny_pure ⟨plainId_quiet Hr _,codeAny_builtin Kc ?_⟩))
 rw [Around.under_plainId Hr _]
 have vz:=Ek
 have hm:=Dh
 obtain ⟨hp,g,d,tk,os⟩:=s
 wp_walk
 exact h
end
end DZ
set_option maxHeartbeats 4000000
namespace DZ
open PySem
section
variable {prog:Program}{w:World}{A:Around}{E:Value->Shared->Prop}{s:Shared}
theorem EY {κ:Type} [DecidableEq κ] (kvs:List (κ × Value)) (k:κ) (v:Value):(stored kvs k v).length<=kvs.length+1:=by
 unfold stored
 split
 ·rw [Zpu];exact ZqQ _
 ·rw [ZpD];exact ZqC _
variable {κ:Type} [DecidableEq κ] {knd:KeyKind prog w κ}
end
end DZ
set_option maxHeartbeats 4000000
namespace L2
open PySem PySem.Spec PyProof.Rows
section
variable {X:Cx}{pins:List (Addr × Obj)}{σ:St}{H:Hp}{s:Shared}{h':Heap}
theorem Inv.dz {t':Nat}{ch:List Addr}{d:Addr}{ob:HO} (I:Inv X pins σ H s) (fY:∀ b∈ch,gS X pins H b) (hd:s.heap.objs.size<=d) (k:∀ b o,b ∉ ch->s.heap.get? b=some o->h'.get? b=some o)
  (new:dn X.prog X.w (upd H d ob) h' d ob):Inv X pins σ (upd H d ob) { s with heap:=h',toks:=t' }:=by
 have hn:H d=none:=I.aw.fresh hd
 have old:∀ {b o},s.heap.get? b=some o->b≠d:=fun e=>ZqD (ZqF (Heap.lt_size e) hd)
 have mj:∀ b u,H b=some u->b ∉ ch:=fun b u e z=>by rw [(fY b z).1] at e;cases e
 refine I.step (g':=s.gens) (d':=s.drawn) (ch:=ch) (fun b hb=>?_) (fun b o _ _ hc e _=>k b o hc e) (fun b o _ _ hc e _=>⟨o.slots,k b o hc e⟩) (fun b o _ e n=>by rw [aJ (old e)];exact n)
  (fun b o hc e=>⟨o,k b o hc e⟩) (fun b xs e=>by rw [aJ (cH e hn)];exact e) (fun b o u e=>by rw [aJ (cH e hn)];exact e) (fun b ps e=>⟨#[],by rw [aJ (cH e hn),e];simp⟩) (fun m hm=>?_) (fun b u e=>?_) I.bare
 ·obtain ⟨f0,f1,f2,f3,f4,f5⟩:=fY b hb
  exact ⟨f3,f1,f4,f5⟩
 ·obtain ⟨o,es,ep,ho,r⟩:=hm
  exact ⟨o,es,ep,k _ o (fun z=>(fY _ z).2.1 rfl) ho,r⟩
 ·by_cases hb:b=d
  ·subst hb
   rw [bh] at e
   cases e
   exact new
  ·rw [aJ hb] at e
   refine (I.aw b u e).gk (fun c v hc q=>k c v ?_ q) (fun c q=>by rw [aJ (cH q hn)];exact q) fun c xs q=>by rw [aJ (cH q hn)];exact q
   rcases hc with z | z
   ·rw [z];exact mj b u e
   ·exact mj c _ z
end
end L2
namespace NM
noncomputable def Pb (c:Nat):Prop:=97<=c/\c<=122
structure Nm (w:List Nat):Prop where
 pos:1<=w.length
 le:w.length<=8
 ok:∀ c∈w,Pb c
noncomputable def nx (p:List Nat) (c k:Nat):List Nat:=p ++ (c+1) :: ZpV k 97
inductive Nx:List Nat->List Nat->Prop where
 | at (p:List Nat) (c k:Nat):c≠122->Nx (p ++ c :: ZpV k 122) (nx p c k)
 | all (n:Nat):Nx (ZpV n 122) (ZpV (n % 8+1) 97)
inductive CS:Nat->List Nat->List Nat->Prop where
 | zero (w:List Nat):CS 0 w w
 | succ {k:Nat}{u v w:List Nat}:Nx u v->CS k v w->CS (k+1) u w
end NM
namespace ME
section
variable {κ:Type} [DecidableEq κ] {α β:Type}
noncomputable def m2 (f:α->β) (e:List (κ × α)):List (κ × β):=e.map fun p=>(p.1,f p.2)
noncomputable abbrev Gt (κ:Type):=κ × κ × List κ
noncomputable def WG (A:κ->Nat->Prop) (known:List κ):List (Gt κ)->Prop
 | []=>True
 | g :: r=>(∀ p∈g.2.2,p∈known)/\A g.2.1 g.2.2.length/\g.2.2.length<=6/\WG A (known ++ [g.1]) r
theorem WG.at {A:κ->Nat->Prop}:∀ {gs:List (Gt κ)}{known:List κ}{i:Nat}{g:Gt κ},WG A known gs->gs[i]? = some g ->
  (∀ p∈g.2.2,p∈known ++ (gs.take i).map (·.1))/\A g.2.1 g.2.2.length/\g.2.2.length<=6
 | [],_,_,_,_,h=>by simp at h
 | x :: gs,known,0,g,⟨a,b,c,d⟩,h=>by
  simp at h;subst h
  exact ⟨by simpa using a,b,c⟩
 | x :: gs,known,i+1,g,⟨a,b,c,d⟩,h=>by
  have:=WG.at (i:=i) (g:=g) d (by simpa using h)
  simpa using this
end
end ME
namespace MC
noncomputable def aL:Nat->List Nat × Nat × Nat
 | 0=>([],1,1)
 | n+1=>((aL n).1.map (fun c=>c ||| (c * 2 ^ (aL n).2.2)) ++ [(aL n).2.1 * 2 ^ (aL n).2.2],(aL n).2.1 ||| ((aL n).2.1 * 2 ^ (aL n).2.2),(aL n).2.2 * 2)
theorem D9 (c w j:Nat):(c * 2 ^ w).testBit j=(decide (w<=j) && c.testBit (j - w)):=by
 rw [<- Nat.shiftLeft_eq,Nat.testBit_shiftLeft]
theorem uG:∀ n,(aL n).2.2=2 ^ n
 | 0=>rfl
 | n+1=>by show (aL n).2.2 * 2=_;rw [uG n,ZqI]
theorem xU {c w j:Nat} (h:c<2 ^ w) (hj:w<=j):c.testBit j=false:=ZqX (ZqF h (ZqG (by decide) hj))
theorem ze:∀ n,(aL n).2.1=2 ^ (2 ^ n) - 1
 | 0=>rfl
 | n+1=>by
  show (aL n).2.1 ||| ((aL n).2.1 * 2 ^ (aL n).2.2)=_
  rw [ze n,uG n]
  apply Nat.eq_of_testBit_eq
  intro j
  rw [ZqR,D9,ZqS,ZqS,ZqS,ZqI]
  by_cases h1:j<2 ^ n
  ·simp [h1];omega
  ·by_cases h2:j<2 ^ n * 2
   ·simp [h1,h2];omega
   ·simp [h1,h2];omega
theorem zV:∀ n,(aL n).1.length=n
 | 0=>rfl
 | n+1=>by show (_ ++ [_]).length=_;simp [zV n]
theorem Bi:∀ n,∀ c∈(aL n).1,c<2 ^ (2 ^ n)
 | 0,c,h=>by simp [aL] at h
 | n+1,c,h=>by
  have h':c∈(aL n).1.map (fun c=>c ||| (c * 2 ^ (aL n).2.2)) ++ [(aL n).2.1 * 2 ^ (aL n).2.2]:=h
  rw [uG,ze] at h'
  have e2:2 ^ (2 ^ (n+1))=2 ^ (2 ^ n) * 2 ^ (2 ^ n):=by rw [<- Nat.pow_add,ZqI];congr 1;omega
  have hp:0<2 ^ (2 ^ n):=ZqL (by decide)
  have up:∀ d,d<2 ^ (2 ^ n)->d * 2 ^ (2 ^ n)<2 ^ (2 ^ (n+1)):=fun d hd=>by rw [e2];exact Nat.mul_lt_mul_of_pos_right hd hp
  rcases ZpM.mp h' with q | q
  ·obtain ⟨d,hd,rfl⟩:=ZpI.mp q
   have:=Bi n d hd
   refine Nat.or_lt_two_pow (ZqF this (ZqG (by decide) (ZqG (by decide) (ZqQ _)))) (up d this)
  ·rw [ZpH.mp q]
   exact up _ (by omega)
theorem L7 {n i j:Nat} (h1:2 ^ n<=j) (h2:j<2 ^ (n+1)) (hi:i<n):(j - 2 ^ n).testBit i=j.testBit i:=by
 have e:j=2 ^ n+(j - 2 ^ n):=by omega
 have h3:j - 2 ^ n<2 ^ n:=by rw [ZqI] at h2;omega
 have:=Nat.testBit_two_pow_add_gt (i:=n) (j:=i) hi (j - 2 ^ n)
 rw [<- e] at this
 exact this.symm
theorem LI {n j:Nat} (h2:j<2 ^ (n+1)):j.testBit n=decide (2 ^ n<=j):=by
 by_cases h:2 ^ n<=j
 ·rw [decide_eq_true h]
  have e:j=2 ^ n+(j - 2 ^ n):=by omega
  have h3:j - 2 ^ n<2 ^ n:=by rw [ZqI] at h2;omega
  have:=Nat.testBit_two_pow_add_eq (j - 2 ^ n) n
  rw [<- e] at this
  rw [this,ZqX h3];rfl
 ·rw [decide_eq_false h]
  exact ZqX (by omega)
theorem B6:∀ (n i j:Nat),i<n->j<2 ^ n->((aL n).1.getD i 0).testBit j=j.testBit i
 | 0,i,j,h,_=>absurd h (by omega)
 | n+1,i,j,hi,hj=>by
  have hg:(aL (n+1)).1=(aL n).1.map (fun c=>c ||| (c * 2 ^ (2 ^ n))) ++ [(2 ^ (2 ^ n) - 1) * 2 ^ (2 ^ n)]:=by
   show (aL n).1.map (fun c=>c ||| (c * 2 ^ (aL n).2.2)) ++ [(aL n).2.1 * 2 ^ (aL n).2.2]=_
   rw [uG,ze]
  have hl:=zV n
  rw [hg]
  by_cases h:i<n
  ·have e:((aL n).1.map (fun c=>c ||| (c * 2 ^ (2 ^ n))) ++ [(2 ^ (2 ^ n) - 1) * 2 ^ (2 ^ n)]).getD i 0=((aL n).1.getD i 0) ||| (((aL n).1.getD i 0) * 2 ^ (2 ^ n)):=by
    simp [ZpE,List.getElem?_append,hl,h]
   have hc:(aL n).1.getD i 0<2 ^ (2 ^ n):=by
    have hm:(aL n).1.getD i 0∈(aL n).1:=by
     have:i<(aL n).1.length:=by omega
     simp [ZpE,this]
    exact Bi n _ hm
   rw [e,ZqR,D9]
   by_cases hj2:j<2 ^ n
   ·rw [B6 n i j h hj2,decide_eq_false (by omega)];simp
   ·rw [xU hc (by omega),decide_eq_true (by omega),B6 n i (j - 2 ^ n) h (by rw [ZqI] at hj;omega),L7 (by omega) hj h];simp
  ·have Qo:i=n:=by omega
   subst Qo
   have e:((aL i).1.map (fun c=>c ||| (c * 2 ^ (2 ^ i))) ++ [(2 ^ (2 ^ i) - 1) * 2 ^ (2 ^ i)]).getD i 0=(2 ^ (2 ^ i) - 1) * 2 ^ (2 ^ i):=by
    simp [ZpE,List.getElem?_append,hl]
   rw [e,D9,ZqS,LI hj]
   have:j - 2 ^ i<2 ^ i:=by
    rw [ZqI] at hj
    have:0<2 ^ i:=ZqL (by decide)
    omega
   simp [this]
theorem Cc:∀ (n a b:Nat),a<n->(a ^^^ b)+(a &&& b)=a ||| b
 | 0,_,_,h=>absurd h (by omega)
 | n+1,a,b,h=>by
  by_cases ha:a=0
  ·subst ha;simp
  have ih:=Cc n (a / 2) (b / 2) (by omega)
  rw [<- Nat.xor_div_two,<- Nat.and_div_two,<- Nat.or_div_two] at ih
  have e1:=ZqY (a ^^^ b) 2
  have e2:=ZqY (a &&& b) 2
  have e3:=ZqY (a ||| b) 2
  have t:∀ x:Nat,x % 2=(x.testBit 0).toNat:=fun x=>by
   rw [Nat.testBit_zero]
   rcases ZqZ x with q | q <;> simp [q]
  have m1:=t (a ^^^ b)
  have m2:=t (a &&& b)
  have m3:=t (a ||| b)
  rw [ZqW] at m1
  rw [ZqT] at m2
  rw [ZqR] at m3
  have:(a ^^^ b) % 2+(a &&& b) % 2=(a ||| b) % 2:=by
   rw [m1,m2,m3]
   cases a.testBit 0 <;> cases b.testBit 0 <;> rfl
  omega
end MC
namespace GM
open PySem
end GM
set_option maxHeartbeats 4000000
namespace L2
open PySem PySem.Spec PyProof.Rows
noncomputable def jq (t u:TS):TS:=aE t u
theorem mid {t u:TS}{D:Ends}{σ:St}{H:Hp} (M:St->Hp->Prop) (h1:∀ N:St->Hp->Prop,(∀ σ' H',M σ' H'->N σ' H')->t { D with nx:=N } σ H) (h2:∀ σ' H',M σ' H'->u D σ' H'):jq t u D σ H:=h1 _ h2
theorem A1 {X:Cx}{st:Stmt}{bC:List Stmt}{t u:TS} (h:PS X st t) (hr:iu X bC u):iu X (st :: bC) (jq t u):=aG h hr
theorem kE {X:Cx}{id:String}{r:V->List V->Hp->VK->Prop} (h:AX X id r):nc X id r:=h
theorem yE {J:It}{σ:St}{k:Nat}{sel:List Nat}{g:TG}{tt:TT}{te:TE}{Q:VK}{H:Hp}{p:Addr}{n:Nat}{item:Nat->V} (Sv:St->Prop) (Pv:Nat->Hp->Prop)
  (hS:Sv (cst σ k sel)) (h0:Pv 0 (upd H p (.lst [])))
  (src:∀ i H2,i<n->Pv i H2->J.go i H2/\∀ x H3,J.g8 i H2 x H3->H3=H2/\x=item i) (fin:∀ H2,Pv n H2->J.stop n H2)
  (step:∀ i σ2 H2 (R:St->Hp->Prop),i<n->Sv σ2->Pv i H2->(∀ σ' H',Sv σ'->Pv (i+1) H'->R σ' H')->g (item i) σ2 H2 fun σ4 H4=>tt σ4 H4 fun b H5 =>
   if b=true then te σ4 H5 fun v H6=>∃ ys,H6 p=some (.lst ys)/\ys.length<sizeLine/\R σ4 (upd H6 p (.lst (ys ++ [v]))) else R σ4 H5)
  (hQ:∀ H2,Pv n H2->Q (.ref p) H2):lS J σ k sel g tt te Q H p:=by
 refine ⟨fun i m σ2 H2=>i<=n/\m=n - i+1/\Sv σ2/\Pv i H2,⟨n+1,ZqH _,rfl,hS,h0⟩,?_⟩
 rintro i m σ2 H2 ⟨hi,rfl,hs,hP⟩
 by_cases bU:i<n
 ·right
  obtain ⟨hg,hy⟩:=src i H2 bU hP
  refine ⟨hg,fun x H3 hx=>?_⟩
  obtain ⟨rfl,rfl⟩:=hy x H3 hx
  exact step i σ2 H3 (fun σ' H'=>∃ m',m'<n - i+1/\i+1<=n/\m'=n - (i+1)+1/\Sv σ'/\Pv (i+1) H') bU hs hP fun σ' H' s' h'=>⟨n - (i+1)+1,by omega,bU,rfl,s',h'⟩
 ·left
  have e:i=n:=by omega
  subst e
  exact ⟨fin H2 hP,hQ H2 hP⟩
theorem He {K:ZoW}{σ:St}{sel:List Nat}{bC:St}{H:Hp}{te:TE}{Q:VK}{a:Addr}{xs:List V} (f:V->V) (hl:bX K H a xs) (hr:sel.map (fun j=>(σ[j]?).join)=bC) (hz:xs.length<=sizeLine)
  (he:∀ x H' (Q':VK),x∈xs->aD H H'->Q' (f x) H'->te (some x :: bC) H' Q') (hQ:∀ p H',dP H p (.lst (xs.map f)) H'->Q (.ref p) H'):iF (jX K a) σ 1 sel (au 0) cJ te Q H:=by
 intro p hp
 have sT:∀ {o:HO},bX K (upd H p o) a xs:=fun {o}=>by
  rcases hl with (h | ⟨u,h⟩) | h
  ·exact .inl (.inl (eD hp _ _ h))
  ·exact .inl (.inr ⟨u,eD hp _ _ h⟩)
  ·exact .inr h
 refine sH (n:=xs.length) (item:=fun i=>xs.getD i .non) (fun i H2=>H2=upd H p (.lst ((xs.take i).map f))) hr (by simp) (EG ?_) ?_ ?_ ?_
 ·rintro i H2 hi rfl
  exact sT
 ·rintro H2 rfl
  exact ⟨xs,sT,ZqC _⟩
 ·rintro i H2 R hi rfl hR
  unfold cJ
  dsimp only
  rw [if_pos rfl]
  refine he _ _ _ (by rw [show xs.getD i .non=xs[i] from by simp [ZpE,hi]];exact ZpX _) (eD hp) ⟨_,bh,?_,hR _ ?_⟩
  ·rw [Zpu,ZpT];omega
  ·rw [vp,Gz hi]
 ·rintro H2 rfl
  rw [ZpN]
  exact hQ p _ ⟨hp,rfl⟩
noncomputable def Dv (H H':Hp):Prop:=∀ b o,H b=some o->(∀ xs,o≠.lst xs)->H' b=some o
section
variable {K:ZoW}{H H' H0 H1:Hp}{l a:Addr}{xs ys:List V}{o:HO}
theorem aD.n (s:aD H H'):Dv H H':=fun b o e _=>s b o e
theorem Dv.clear (h:H l=some (.lst xs)):Dv H (upd H l (.lst ys)):=fun b o e n=>by rw [aJ (jb e h (n xs))];exact e
theorem aD.put (s:aD H0 H) (h:H0 l=none):aD H0 (upd H l o):=fun b u e=>by rw [aJ (cH e h)];exact s b u e
theorem aD.tup (e:aD H H') (h:bX K H a xs):bX K H' a xs:=by
 rcases h with (h | ⟨o,h⟩) | h
 ·exact .inl (.inl (e _ _ h))
 ·exact .inl (.inr ⟨o,e _ _ h⟩)
 ·exact .inr h
noncomputable def pC (N:Addr->Prop) (H H':Hp):Prop:=∀ b o,N b->H b=some o->H' b=some o
theorem aD.keep {N:Addr->Prop} (s:aD H H'):pC N H H':=fun b o _ e=>s b o e
theorem pC.tup {N:Addr->Prop} (e:pC N H H') (n:N a) (h:bX K H a xs):bX K H' a xs:=by
 rcases h with (h | ⟨o,h⟩) | h
 ·exact .inl (.inl (e _ _ n h))
 ·exact .inl (.inr ⟨o,e _ _ n h⟩)
 ·exact .inr h
end
theorem lZ (a b:Str):(a ++ b).cps.toList=a.cps.toList ++ b.cps.toList:=by
 show (a.cps ++ b.cps).toList=_
 simp
theorem vw {y z:Str} (h:y.cps.toList=z.cps.toList):y=z:=by
 cases y;cases z
 congr 1
 exact Array.toList_inj.mp h
theorem FZ (c:Nat):∀ (k:Nat) (acc:Array Nat),((ZpV k (#[c]:Array Nat)).foldl (· ++ ·) acc).toList=acc.toList ++ ZpV k c
 | 0,acc=>by simp
 | k+1,acc=>by
  rw [List.replicate_succ,Zp3,FZ c k,List.replicate_succ]
  simp
section
variable {K:ZoW}{H:Hp}{p:Addr}{i:Int}{F:V->Prop}
theorem Lw {cs:List Int} (hS:aI K H p (cs.map V.int)) (h0:0<=i) (h1:i<cs.length) (h:F (.int (cs.getD i.toNat 0))):∃ xs v,(aI K H p xs\/bX K H p xs)/\dk xs i=some v/\F v:=⟨_,_,.inl hS,OW 0 h0 h1,h⟩
end
theorem HF:∀ (n:Nat) (us:List Value) (f:Nat->V) (m:Nat),us.length=n->(∀ (i:Nat) u,us[i]? = some u->aH (f (m+i)) u)->Vals ((Zpv n).map fun i=>f (m+i)) us
 | 0,[],f,m,_,_=>.nil
 | n+1,u :: us,f,m,hl,h=>by
  rw [List.range_succ_eq_map,Zpx,Zpz]
  have h0:=h 0 u rfl
  refine .cons h0 ?_
  have ih:=HF n us f (m+1) (by simpa using hl) fun i u' hu=>by
   have:=h (i+1) u' (by simpa using hu)
   rw [show m+(i+1)=m+1+i by omega] at this
   exact this
  have e:(Zpv n).map ((fun i=>f (m+i)) ∘ Nat.succ)=(Zpv n).map fun i=>f (m+1+i):=by
   refine Zp6 fun i _=>?_
   show f (m+(i+1))=f (m+1+i)
   rw [show m+(i+1)=m+1+i by omega]
  rw [e]
  exact ih
noncomputable def oQ (i j:Int):Prop:=0<=j/\(Builtin.Int.intBits i:Int)+j<=2 ^ 27
theorem Ad {X:Cx}:bj X (binaryOp .LShift) (bc oQ fun i j=>.int (i * 2 ^ j.toNat)):=(om (C:=oQ) (g:=fun i j=>i * 2 ^ j.toNat) fun _ _ _ _ _ _ _ hc q=>lshift_int hc.1 hc.2 q).imp fun _ _ _ _ h=>rQ h
theorem Ha {c k w:Nat} (h:c<2 ^ k) (hk:k+w<=2 ^ 27):oQ c w:=by
 have:=intBits_le (a:=(c:Int)) (k:=k) (by simpa using h)
 exact ⟨by omega,by omega⟩
theorem yH (c w:Nat):((c:Int) * 2 ^ ((w:Int)).toNat:Int)=((c * 2 ^ w:Nat):Int):=by simp
theorem sv (a b:Nat):Builtin.bitAnd (a:Int) (b:Int)=((a &&& b:Nat):Int):=by rw [bitAnd_pp (by omega) (by omega)];simp
theorem zy (a b:Nat):Builtin.bitOr (a:Int) (b:Int)=((a ||| b:Nat):Int):=by
 rw [bitOr_and,sv]
 have:=MC.Cc (a+1) a b (ZqO _)
 have h2:(a ||| b)+(a &&& b)=a+b:=by
  have e:∀ (n a b:Nat),a<n->(a ||| b)+(a &&& b)=a+b:=by
   intro n
   induction n with
   | zero=>intro a b h;omega
   | succ n ih =>
    intro a b h
    by_cases ha:a=0
    ·subst ha;simp
    have i1:=ih (a / 2) (b / 2) (by omega)
    rw [<- Nat.and_div_two,<- Nat.or_div_two] at i1
    have t:∀ x:Nat,x % 2=(x.testBit 0).toNat:=fun x=>by
     rw [Nat.testBit_zero]
     rcases ZqZ x with q | q <;> simp [q]
    have m2:=t (a &&& b)
    have m3:=t (a ||| b)
    rw [ZqT] at m2
    rw [ZqR] at m3
    have ma:=t a
    have mb:=t b
    have:(a ||| b) % 2+(a &&& b) % 2=a % 2+b % 2:=by
     rw [m2,m3,ma,mb]
     cases a.testBit 0 <;> cases b.testBit 0 <;> rfl
    omega
  exact e (a+1) a b (ZqO _)
 omega
theorem HP (a b:Nat):Builtin.bitXor (a:Int) (b:Int)=((a ^^^ b:Nat):Int):=by
 unfold Builtin.bitXor
 rw [zy,sv]
 have:=MC.Cc (a+1) a b (ZqO _)
 omega
end L2
set_option maxHeartbeats 4000000
namespace GM
open PySem L2
noncomputable def nz (n:Nat):Int:=(n:Int)
end GM
set_option maxHeartbeats 4000000
namespace L2
open PySem PySem.Spec PyProof.Rows
noncomputable def iK:TS:=fun _ _ _=>False
theorem jC {X:Cx}{st:Stmt}:PS X st iK:=fun _ _ _ _ _ _ h=>h.elim
theorem tw {X:Cx}:bj X (binaryOp .Pow) (bc gU fun i j=>.int (i ^ j.toNat)):=oX.imp fun _ _ _ _ h=>rQ h
section
open Builtin Builtin.Str
end
theorem EH:∀ (l:List (Str × Tok)),Vals ((l.map (·.1)).map V.str) (strValues l)
 | []=>.nil
 | p :: r=>.cons ⟨p.2,rfl⟩ (EH r)
theorem IT:∀ {ts:List Str}{us:List Value},Vals (ts.map V.str) us->∃ l:List (Str × Tok),us=strValues l/\l.map (·.1)=ts
 | [],_,.nil=>⟨[],rfl,rfl⟩
 | z :: ts,_,.cons r t=>by
  obtain ⟨l,rfl,rfl⟩:=IT t
  obtain ⟨tk,rfl⟩:=r
  exact ⟨(z,tk) :: l,rfl,rfl⟩
noncomputable def CD:V->List V->Hp->VK->Prop:=fun x vs H Q=>match x,vs with
 | .str z,[]=>z.length+2<=sizeLine/\∀ p H',dP H p (.lst ((Txt.words z).map V.str)) H'->Q (.ref p) H'
 | _,_=>False
noncomputable def mv (K:ZoW):V->List V->Hp->VK->Prop:=fun x vs H Q=>match x,vs with
 | .str z,[.ref a]=>∃ ts:List Str,aI K H a (ts.map V.str)/\(ts.map (·.length)).sum+ts.length<=1048576/\z.length<=16/\Q (.str (Str.join z ts)) H
 | _,_=>False
theorem rV {X:Cx}:nc X "str.join" (mv X.K):=by
 intro pins s σ H x vs v us Q I rx rv h
 cases x with
 | str z =>
  match vs,h with
  | [.ref a],h =>
   obtain ⟨ts,hl,hw,hz,q⟩:=h
   obtain ⟨t,rfl⟩:=rx
   obtain ⟨u,rfl,ru⟩:=gW rv
   cases ru
   obtain ⟨its,r,pl,_⟩:=I.list hl
   obtain ⟨l,rfl,bU⟩:=IT r
   refine SC.join pl.isList bU (joinOk_of_weight hw hz) fun t' k=>?_
   refine ⟨.str (Str.join z ts),H,I.tok _,⟨t',?_⟩,q⟩
   show Value.str (Builtin.Str.glued z ts) t'=_
   rw [StrLaws.glued_eq_join]
 | _=>exact False.elim h
theorem aD.nil {H H':Hp}{p:Addr} (s:aD H H') (h:H' p=none):H p=none:=by
 cases e:H p with
 | none=>rfl
 | some o=>rw [s _ _ e] at h;cases h
structure iR (H:Hp) (p:Addr) (o:HO) (H':Hp):Prop where
 cP:H p=none
 at_:H' p=some o
 same:aD H H'
theorem dP.KG {H H':Hp}{p:Addr}{o:HO} (n:dP H p o H'):iR H p o H':=⟨n.cP,n.at_,n.same⟩
theorem iR.pre {H H0 H':Hp}{p:Addr}{o:HO} (s:aD H0 H) (n:iR H p o H'):iR H0 p o H':=⟨s.nil n.cP,n.at_,s.trans n.same⟩
theorem iR.sq {K:ZoW}{H H':Hp}{p:Addr}{xs:List V} (n:iR H p (.lst xs) H'):aI K H' p xs:=.of n.at_
theorem mul_one (c:Nat) (n:Int):(Txt.mul ⟨#[c]⟩ n).cps.toList=ZpV n.toNat c:=by
 unfold Txt.mul
 by_cases h1:n<1
 ·rw [if_pos h1]
  have:n.toNat=0:=by omega
  rw [this]
  rfl
 ·rw [if_neg h1]
  by_cases h2:(n == 1 || Str.length ⟨#[c]⟩ == 0)=true
  ·rw [if_pos h2]
   have h3:n=1:=by
    rw [Zrh] at h2
    rcases h2 with q | q
    ·exact beq_iff_eq.mp q
    ·exact absurd (beq_iff_eq.mp q) (by show ¬ (1:Nat)=0;decide)
   subst h3
   rfl
  ·rw [if_neg h2]
   show ((ZpV n.toNat (#[c]:Array Nat)).foldl (· ++ ·) #[]).toList=_
   rw [FZ]
   simp
end L2
namespace MF
noncomputable abbrev Pr:=Int × Int
noncomputable def tn (t:Int):Int:=if t % 2=0 then t+1 else t - 1
noncomputable def lo (s t:Int):Int:=if t<s then t else s
noncomputable def hi (s t:Int):Int:=if t > s then t else s
noncomputable def D8:Int->List Pr->Pr->Option Int
 | _,[],_=>none
 | n,q :: r,p=>if q=p then some n else D8 (n+1) r p
noncomputable def sure (s t:Int):Option Int :=
 if lo s t=0 then some 0 else if lo s t=1\/lo s t=hi s t then some (hi s t) else if lo s t=tn (hi s t) then some 0 else none
noncomputable def kn (m:Int) (ps:List Pr) (p:Pr):Int:=(D8 (m+1) ps p).getD (m+1+ps.length)
noncomputable def kp (m:Int) (ps:List Pr) (p:Pr):List Pr:=if (D8 (m+1) ps p).isSome then ps else ps ++ [p]
noncomputable def bt (m:Int) (ps:List Pr) (s t:Int):Int:=match sure s t with | some v=>v | none=>2 * kn m ps (lo s t,hi s t)
noncomputable def Ok (m:Int) (ps:List Pr):Prop:=∀ (i:Nat) (p:Pr),ps[i]? = some p->2<=p.1/\p.1<p.2/\p.1 / 2≠p.2 / 2/\p.2<2 * (m+1+i)
end MF
namespace MF
noncomputable abbrev RS:=Int × List Pr
noncomputable def qF (m:Int) (ps:List Pr) (t:Int):Prop:=0<=t/\t<2 * (m+1+ps.length)
structure St (m:Int) (ps:List Pr) (n:Nat) (r:RS):Prop where
 ok:Ok m ps->Ok m r.2
 L0:qF m r.2 r.1
 lo:ps.length<=r.2.length
 hi:r.2.length<=ps.length+n
 pre:∃ e,r.2=ps ++ e
 nd:ps.Nodup->r.2.Nodup
theorem qF.tn {m t:Int}{ps:List Pr} (h:qF m ps t):qF m ps (tn t):=by
 have h1:=h.1
 have h2:=h.2
 unfold qF MF.tn
 split <;> omega
theorem St.tn {m:Int}{ps:List Pr}{n:Nat}{r:RS} (h:St m ps n r):St m ps n (tn r.1,r.2):=⟨h.ok,h.L0.tn,h.lo,h.hi,h.pre,h.nd⟩
end MF
namespace MF
noncomputable def Sub (F x:Nat):Prop:=∀ j,x.testBit j=true->F.testBit j=true
theorem sub_zero (F:Nat):Sub F 0:=fun j h=>by simp at h
theorem Sub.and {F x y:Nat} (h:Sub F x):Sub F (x &&& y):=fun j hj=>h j (by rw [ZqT,Zrf] at hj;exact hj.1)
theorem Sub.neg {F x:Nat} (h:Sub F x):Sub F (F ^^^ x):=fun j hj=>by
 rw [ZqW] at hj
 cases hf:F.testBit j with
 | true=>rfl
 | false =>
  rw [hf] at hj
  have:=h j (by simpa using hj)
  rw [hf] at this
  exact this
noncomputable def jK (F:Nat) (cs:List Nat) (t:Int):Nat:=if t % 2=1 then F ^^^ cs.getD (t / 2).toNat 0 else cs.getD (t / 2).toNat 0
noncomputable def jI (F:Nat):List Nat->List Pr->List Nat
 | cs,[]=>cs
 | cs,p :: r=>jI F (cs ++ [jK F cs p.1 &&& jK F cs p.2]) r
theorem Im (F:Nat):∀ (ps qs:List Pr) (cs:List Nat),jI F cs (ps ++ qs)=jI F (jI F cs ps) qs
 | [],qs,cs=>rfl
 | p :: r,qs,cs=>Im F r qs _
theorem IC (F:Nat):∀ (ps:List Pr) (cs:List Nat),(jI F cs ps).length=cs.length+ps.length
 | [],cs=>rfl
 | p :: r,cs=>by
  show (jI F (cs ++ [_]) r).length=_
  rw [IC F r]
  simp only [ZpD,ZpG,ZpW]
  omega
theorem Hi (F:Nat):∀ (ps:List Pr) (cs:List Nat),∃ e,jI F cs ps=cs ++ e
 | [],cs=>⟨[],by simp [jI]⟩
 | p :: r,cs=>by
  obtain ⟨e,h⟩:=Hi F r (cs ++ [jK F cs p.1 &&& jK F cs p.2])
  exact ⟨[jK F cs p.1 &&& jK F cs p.2] ++ e,by show jI F (cs ++ [_]) r=_;rw [h,Zqh]⟩
theorem K5 {F:Nat}{cs e:List Nat}{t:Int} (h0:0<=t) (h:t<2 * cs.length):jK F (cs ++ e) t=jK F cs t:=by
 have hl:(t / 2).toNat<cs.length:=by omega
 unfold jK
 have:(cs ++ e).getD (t / 2).toNat 0=cs.getD (t / 2).toNat 0:=by
  simp [ZpE,ZpQ hl]
 rw [this]
noncomputable def kR (F:Nat) (cs:List Nat):Prop:=∀ c∈cs,Sub F c
theorem kR.getD {F:Nat}{cs:List Nat} (h:kR F cs) (i:Nat):Sub F (cs.getD i 0):=by
 rcases ZqP i cs.length with hi | hi
 ·have:cs.getD i 0=cs[i]:=by simp [ZpE,hi]
  rw [this]
  exact h _ (ZpX hi)
 ·have:cs.getD i 0=0:=by simp [ZpE,hi]
  rw [this]
  exact sub_zero F
theorem kR.lit {F:Nat}{cs:List Nat} (h:kR F cs) (t:Int):Sub F (jK F cs t):=by
 unfold jK
 split
 ·exact (h.getD _).neg
 ·exact h.getD _
theorem kR.grow {F:Nat}:∀ (ps:List Pr) (cs:List Nat),kR F cs->kR F (jI F cs ps)
 | [],cs,h=>h
 | p :: r,cs,h=>by
  refine kR.grow r _ fun c hc=>?_
  rcases ZpM.mp hc with hc | hc
  ·exact h c hc
  ·rw [ZpH.mp hc]
   exact (h.lit p.1).and
structure Base (F:Nat) (m:Int) (b:List Nat):Prop where
 len:(b.length:Int)=m+1
 zero:b.getD 0 0=0
 sub:kR F b
section
variable {F:Nat}{m:Int}{b:List Nat}
noncomputable abbrev L (F:Nat) (b:List Nat) (ps:List Pr) (t:Int):Nat:=jK F (jI F b ps) t
theorem tY (B:Base F m b) {ps e:List Pr}{t:Int} (h:qF m ps t):L F b (ps ++ e) t=L F b ps t:=by
 unfold L
 rw [Im]
 obtain ⟨x,hx⟩:=Hi F e (jI F b ps)
 rw [hx]
 refine K5 h.1 ?_
 have h2:=h.2
 have h3:=IC F ps b
 have h4:=B.len
 omega
theorem St.lit (B:Base F m b) {ps:List Pr}{n:Nat}{r:RS} (h:St m ps n r) {x:Int} (hx:qF m ps x):L F b r.2 x=L F b ps x:=by
 obtain ⟨e,he⟩:=h.pre
 rw [he]
 exact tY B hx
end
end MF
set_option maxHeartbeats 4000000
namespace L2
open PySem PySem.Spec PyProof.Rows
noncomputable def Mc (p:MF.Pr):List Key:=[.inl p.1,.inl p.2]
noncomputable def Ga:Int->List MF.Pr->List (List Key × V)
 | _,[]=>[]
 | n,p :: r=>(Mc p,.int n) :: Ga (n+1) r
noncomputable abbrev En:=Addr × MF.Pr
noncomputable abbrev DJ (es:List En):List MF.Pr:=es.map (·.2)
structure lj (H:Hp) (pl kl:Addr) (m:Int) (es:List En):Prop where
 lst:H pl=some (.lst (es.map fun e=>V.ref e.1))
 Ry:H kl=some (.dT (Ga (m+1) (DJ es)))
 tup:∀ e∈es,H e.1=some (.tup [.int e.2.1,.int e.2.2])
section
variable {H H' H1:Hp}{pl kl p2 k2 f dx C:Addr}{m:Int}{es:List En}{o:HO}
structure BQ (C:Addr) (H:Hp) (f:Addr) (m:Int) (es:List En) (dx pl kl:Addr):Prop where
 ins:H f=some (.ins C dx [("many",.int m),("pairs",.ref pl),("knots",.ref kl)])
 Rw:lj H pl kl m es
end
theorem xw (xs:List V):gZ xs (some 1) none=xs.drop 1:=by
 unfold gZ
 have e1:HT.fX xs.length 0 (some 1)=min 1 xs.length:=by
  have:=HT.zd xs.length 0 1
  rw [show ((1:Nat):Int)=1 from rfl] at this
  rw [this]
 have e2:HT.fX xs.length xs.length none=xs.length:=rfl
 rw [e1,e2]
 cases xs with
 | nil=>rfl
 | cons a r =>
  have:min 1 (a :: r).length=1:=by simp only [ZpG];omega
  rw [this,Zqn (by simp)]
end L2
set_option maxHeartbeats 4000000
namespace DL
open PySem DZ
theorem MY:entryFor table "list.__getattribute__" = some Builtin.«object.__getattribute__» :=
 entryFor_alias (id':="object.__getattribute__") (by kernel_rfl) (by first | rfl | decide +kernel) (by decide +kernel) (by kernel_rfl)
theorem NA:typeLookup (.type "list") "keys" = pure none:=by rw [typeLookup_type,builtinLookup_eq_fast];kernel_rfl
section
variable {prog:Program}{w:World}{A:Around}{E:Value->Shared->Prop}{h:Heap}{g:Array GenState}{d:Drawn}{t:Nat}{os:OsState}{z:Addr}{vs:Array Value}{n:Nat}
theorem DF {tk:Tok}{Q:Fin->Shared->Prop} (hh:A.handled=none) (hz:h.get? z=some { cls:=.type "list",dict:=none,data:=.seq vs n,slots:=#[] })
  (hE:∀ h' e t',(∀ c o,h.get? c=some o->h'.get? c=some o)->(∃ o,h'.get? e=some o/\o.cls=.type "AttributeError")->E (.ref e) ⟨h',g,d,t',os⟩) :
  wpAny (model prog w) A (Builtin.«object.__getattribute__» ⟨[.ref z,.str "keys" tk],[]⟩) Q E ⟨h,g,d,t,os⟩:=by
 have hT:(⟨h,g,d,t,os⟩:Shared).TypeIs (.ref z) "list":=⟨_,hz,rfl⟩
 have f4:=NA
 repeat (any_goals (first | assumption | wp_step))
 refine wpAny_raiseAttrError hh (fun h' tk' e x=>?_) (attrMsg_fits (by decide +kernel) (by decide +kernel))
 obtain ⟨t',u',he⟩:=x.there
 exact hE h' e tk' (fun c o q=>x.keeps c o q) ⟨_,he,rfl⟩
theorem C6 {tk:Tok}{R:Result->Shared->Prop} (hh:A.handled=none) (hz:h.get? z=some { cls:=.type "list",dict:=none,data:=.seq vs n,slots:=#[] })
  (hE:∀ h' e t',(∀ c o,h.get? c=some o->h'.get? c=some o)->(∃ o,h'.get? e=some o/\o.cls=.type "AttributeError")->R (.error (.ref e)) ⟨h',g,d,t',os⟩) :
  codeAny (model prog w) A (.call (.builtin "list.__getattribute__") ⟨[.ref z,.str "keys" tk],[]⟩) R ⟨h,g,d,t,os⟩ :=
 codeAny_call_builtin F.slot_list_getattribute.plain MY (F.slot_list_getattribute.check _ _ _ _ _ _ _ _ (show (⟨h,g,d,t,os⟩:Shared).TypeIs (.ref z) "list" from ⟨_,hz,rfl⟩) (F.args_list_getattribute_2 _ _) (DF hh hz hE))
theorem Ce {tk:Tok}{Q:Value->Shared->Prop} (hh:A.handled=none) (hz:h.get? z=some { cls:=.type "list",dict:=none,data:=.seq vs n,slots:=#[] })
  (hE:∀ h' e t',(∀ c o,h.get? c=some o->h'.get? c=some o)->(∃ o,h'.get? e=some o/\o.cls=.type "AttributeError")->E (.ref e) ⟨h',g,d,t',os⟩) :
  wpAny (model prog w) A (getAttrBy (.ref z) (.str "keys" tk) false) Q E ⟨h,g,d,t,os⟩:=by
 have hT:(⟨h,g,d,t,os⟩:Shared).TypeIs (.ref z) "list":=⟨_,hz,rfl⟩
 have f2:=F.slot_list_getattribute.lookup
 have f3:=F.slot_list_getattribute.bind (.ref z)
 have f1:=sub_AttributeError
 repeat (any_goals (first | assumption | wp_step))
 refine C6 hh hz fun h' e t' k he=>?_
 obtain ⟨o,ho,hc⟩:=he
 have OE:(⟨h',g,d,t',os⟩:Shared).TypeIs (.ref e) "AttributeError":=⟨o,ho,hc⟩
 have fin:=hE h' e t' k ⟨o,ho,hc⟩
 have f5:typeLookup (.type "list") "__getattr__" = pure none:=by rw [typeLookup_type,builtinLookup_eq_fast];kernel_rfl
 show wpAny _ _ (getattributeRaised _ _ _ _ _ _ _) _ _ _
 unfold getattributeRaised
 repeat (any_goals (first | assumption | wp_step))
theorem Cn {Q:Option Value->Shared->Prop} (hh:A.handled=none) (hz:h.get? z=some { cls:=.type "list",dict:=none,data:=.seq vs n,slots:=#[] })
  (hq:∀ h' t',(∀ c o,h.get? c=some o->h'.get? c=some o)->Q none ⟨h',g,d,t',os⟩) :
  wpAny (model prog w) A (getAttr? (.ref z) "keys") Q E ⟨h,g,d,t,os⟩:=by
 unfold getAttr? getAttrBy?
 have f1:=sub_AttributeError
 refine wpAny_bind (wpAny_mkText ?_)
 refine wpAny_bind (wpAny_attempt (Ce hh hz fun h' e t' k he=>?_))
 obtain ⟨o,ho,hc⟩:=he
 refine wpAny_bind (wpAny_isInstance (T:="AttributeError") (b:=true) ⟨o,ho,hc⟩ f1 ?_)
 exact wpAny_pure (hq _ _ k)
end
section
variable {prog:Program}{w:World}{A:Around}{E:Value->Shared->Prop}{s:Shared}{κ:Type} [DecidableEq κ] {knd:KeyKind prog w κ}
noncomputable def GI (knd:KeyKind prog w κ) (d it:Addr) (xs:Array Value) (es:List (κ × Value)) (h:Heap):Prop :=
 ∀ (j:Nat) p,es[j]? = some p->∃ T kx o m,xs[j]? = some (.ref T)/\T≠d/\T≠it/\knd.is p.1 kx=true/\h.get? T=some o/\o.cls=.type "tuple" /\ o.data=.seq #[kx,p.2] m
theorem yf {it l d:Addr}{xs:Array Value}{es:List (κ × Value)}{R:Result->Shared->Prop} (hh:A.handled=none) (n1:it≠d) (n2:l≠d) (n3:l≠it) (hk:es.length=xs.size) (hz:xs.size<=2000) :
  ∀ (m i:Nat) (s:Shared) (kvs:List (κ × Value)),i+m=xs.size->kvs.length<=i->s.heap.IsListIter it l i->s.heap.IsList l xs->GI knd d it xs es s.heap->s.heap.DictOf knd d kvs ->
   (∀ h' t',h'.DictOf knd d ((es.drop i).foldl (fun e p=>stored e p.1 p.2) kvs)->(∀ c o,c≠d->c≠it->s.heap.get? c=some o->h'.get? c=some o)->R (.ok (.ret .none)) { s with heap:=h',toks:=t' }) ->
   codeAny (model prog w) A (.builtin "dict.update.loop" ⟨[.ref d,.ref it,rawInt i,.none],[]⟩) R s
 | 0,i,s,kvs,hm,hl,S,L,P,hd,hR=>by
  refine codeAny_builtin yQ ?_
  rw [Around.under_plainId mV _]
  unfold Builtin.«dict.update.loop»
  refine wpAny_bind (wpAny_pyNext_list_end hh S L (Zrb (by omega)) fun h' eb=>?_)
  have e1:es.drop i=[]:=Zqv (by omega)
  rw [e1] at hR
  have hd':h'.DictOf knd d kvs:=by
   obtain ⟨o,es,ep,ho,r⟩:=hd
   exact ⟨o,es,ep,eb _ _ n1.symm ho,r⟩
  exact wpAny_bind (wpAny_pure (wpAny_pure (hR h' s.toks hd' fun c o c0 c1 e=>eb c o c1 e)))
 | m+1,i,s,kvs,hm,hl,S,L,P,hd,hR=>by
  refine codeAny_builtin yQ ?_
  rw [Around.under_plainId mV _]
  unfold Builtin.«dict.update.loop»
  have hi:i<es.length:=by omega
  have Kz:es[i]? = some es[i]:=Zpw hi
  obtain ⟨T,kx,o,mm,hx,nd,mG,hkx,ho,rB,hda⟩:=P i _ Kz
  refine wpAny_bind (wpAny_pyNext_list_item S L (x:=.ref T) hx fun h1 S1 sb1=>?_)
  have k1:∀ c o,c≠it->s.heap.get? c=some o->h1.get? c=some o:=fun c o hc e=>(sb1.2 c hc).trans e
  refine wpAny_bind (wpAny_holding ?_)
  have u4:h1.DictOf knd d kvs:=by
   obtain ⟨o,es,ep,ho,r⟩:=hd
   exact ⟨o,es,ep,k1 _ _ n1.symm ho,r⟩
  refine wpAny_bind (wpAny_tryCatch ?_)
  unfold Builtin.Dict.pairItems
  refine wpAny_bind (wpAny_typeOf (T:="tuple") ⟨o,k1 _ _ mG ho,rB⟩ ?_)
  rw [if_pos (by decide)]
  refine wpAny_bind (wpAny_seqItems (k1 _ _ mG ho) hda (wpAny_pure ?_))
  refine wpAny_holding (wpAny_dictSet_pairs (knd:=knd) (s:={ s with heap:=h1 }) hkx u4 (fun h2 d2 sb=>?_) (ZqE hl (ZqE (by omega) (show 2000<=sizeLine by decide))))
  have k2:∀ c o,c≠d->h1.get? c=some o->h2.get? c=some o:=fun c o hc e=>(sb.2 c hc).trans e
  have S2:h2.IsListIter it l (i+1):=S1.at fun o e=>k2 it o n1 e
  have L2:h2.IsList l xs:=L.at fun o e=>k2 l o n2 (k1 l o n3 e)
  have P2:GI knd d it xs es h2:=fun j p hj=>by
   obtain ⟨T',kx',o',m',q1,q2,q3,q4,q5,q6,q7⟩:=P j p hj
   exact ⟨T',kx',o',m',q1,q2,q3,q4,k2 _ _ q2 (k1 _ _ q3 q5),q6,q7⟩
  refine wpAny_pure ⟨plainId_quiet mV _,?_⟩
  have e1:es.drop i=es[i] :: es.drop (i+1):=Zqr hi
  refine yf hh n1 n2 n3 hk hz m (i+1) _ _ (by omega) ?_ S2 L2 P2 d2 ?_
  ·have:=EY kvs es[i].1 es[i].2
   omega
  ·intro h' t' d' k'
   rw [e1] at hR
   exact hR h' t' d' fun c o c0 c1 e=>k' c o c0 c1 (k2 c o c0 (k1 c o c1 e))
theorem qZ {l:Addr}{xs:Array Value}{n:Nat}{Q:Value->Shared->Prop} (hz:s.heap.get? l=some { cls:=.type "list",dict:=none,data:=.seq xs n,slots:=#[] })
  (h:Q (.ref s.heap.objs.size) { s with heap:=s.heap.push { cls:=.type "list_iterator",data:=.fields #[.ref l,.int 0 0] } }):wpAny (model prog w) A (pyIter (.ref l)) Q E s:=wpAny_pyIter_list (items:=xs) ⟨_,hz,rfl,n,rfl⟩ h
theorem Cg {l:Addr}{xs:Array Value}{n:Nat}{es:List (κ × Value)}{Q:Value->Shared->Prop} (hh:A.handled=none) (hl:s.heap.get? l=some { cls:=.type "list",dict:=none,data:=.seq xs n,slots:=#[] })
  (hk:es.length=xs.size) (hz:xs.size<=2000) (P:∀ (j:Nat) p,es[j]? = some p->∃ T kx o m,xs[j]? = some (.ref T)/\knd.is p.1 kx=true/\s.heap.get? T=some o/\o.cls=.type "tuple" /\ o.data=.seq #[kx,p.2] m)
  (q:∀ h' t',h'.DictOf knd s.heap.objs.size (es.foldl (fun e p=>stored e p.1 p.2) [])->(∀ c o,s.heap.get? c=some o->h'.get? c=some o)->Q (.ref s.heap.objs.size) { s with heap:=h',toks:=t' }) :
  wpAny (model prog w) A (call (.type "dict") [.ref l]) Q E s:=by
 refine callType_codes (Q₁:=fun v s1=>v=.ref s.heap.objs.size/\s1={ s with heap:=s.heap.push { cls:=.type "dict",data:=.dict #[] } }) JC (JN _) F.entry_dict_init (Fu _ ⟨rfl,rfl⟩) ?_
 rintro obj s1 ⟨rfl,rfl⟩
 refine ⟨⟨_,Heap.get?_push_size _ rfl,rfl⟩,F.args_dict_init_2 _ _,?_⟩
 obtain ⟨hp,g,d0,tk,os⟩:=s
 dsimp only at *
 have hl':=Heap.get?_push_of_some { cls:=.type "dict",data:=.dict #[] } hl
 have Mj:(⟨hp.push { cls:=.type "dict",data:=.dict #[] },g,d0,tk,os⟩:Shared).TypeIs (.ref hp.objs.size) "dict":=⟨_,Heap.get?_push_size _ rfl,rfl⟩
 have Nq:(⟨hp.push { cls:=.type "dict",data:=.dict #[] },g,d0,tk,os⟩:Shared).TypeIs (.ref l) "list":=⟨_,hl',rfl⟩
 have vz:=Ek
 unfold Builtin.«dict.__init__»
 repeat (any_goals (first | assumption | (with_reducible refine Cn hh hl' fun h' t' k=>?_) | (with_reducible refine qZ (k _ _ hl') ?_) | wp_step))
 have lt:∀ {c:Addr}{o:Obj},hp.get? c=some o->c≠hp.objs.size:=fun e=>ZqD (Heap.lt_size e)
 have up:∀ c o,hp.get? c=some o->h'.get? c=some o:=fun c o e=>k c o (Heap.get?_push_of_some _ e)
 have B0:∀ c o,hp.get? c=some o->(h'.push { cls:=.type "list_iterator",data:=.fields #[.ref l,.int 0 0] }).get? c=some o:=fun c o e=>Heap.get?_push_of_some _ (up c o e)
 have Ba:∀ {c:Addr}{o:Obj},hp.get? c=some o->c≠h'.objs.size:=fun e=>ZqD (Heap.lt_size (up _ _ e))
 have nd:h'.objs.size≠hp.objs.size:=(ZqD (Heap.lt_size (k _ _ (Heap.get?_push_size _ rfl)))).symm
 refine ⟨plainId_quiet mV _,yf (A:=A.in1) (knd:=knd) (es:=es) (show A.in1.handled=none from hh) nd (lt hl) (Ba hl) hk hz xs.size 0 _ [] (by omega) (by simp) ⟨_,Heap.get?_push_size _ rfl,rfl,rfl⟩ ⟨_,B0 _ _ hl,rfl,n,rfl⟩ (fun j p hj=>?_) ?_ ?_⟩
 ·obtain ⟨T,kx,o,m,q1,q2,q3,q4,q5⟩:=P j p hj
  exact ⟨T,kx,o,m,q1,lt q3,Ba q3,q2,B0 _ _ q3,q4,q5⟩
 ·obtain ⟨o,es,ep,ho,r⟩:=Heap.DictOf.new (knd:=knd) hp
  exact ⟨o,es,ep,Heap.get?_push_of_some _ (k _ _ ho),r⟩
 ·intro h2 t2 d2 k2
  refine ⟨rfl,q h2 t2 ?_ fun c o e=>k2 c o (lt e) (Ba e) (B0 c o e)⟩
  simpa using d2
end
end DL
namespace L2
open PySem PySem.Spec PyProof.Rows
noncomputable def BI (_:ZoW):List V->Hp->VK->Prop:=fun vs H Q=>match vs with
 | [.ref a]=>∃ (ys:List V) (ps:List (Key × V)),H a=some (.lst ys)/\ys.length=ps.length/\ps.length<=2000/\(∀ (j:Nat) p,ps[j]? = some p->∃ T,ys[j]? = some (.ref T)/\H T=some (.tup [kV p.1,p.2]))/\∀ p H',dP H p (.dK (eK [] ps)) H'->Q (.ref p) H'
 | _=>False
theorem Fi {F:Nat->Key × V->Key × Value->Prop}:∀ (ps:List (Key × V)) (m:Nat),(∀ (j:Nat) p,ps[j]? = some p->∃ u,aH p.2 u/\F (m+j) p (p.1,u)) ->
  ∃ es:List (Key × Value),es.length=ps.length/\(∀ (j:Nat) e,es[j]? = some e->∃ p,ps[j]? = some p/\F (m+j) p e)/\∀ (kvs:List (Key × V)) (ws:List (Key × Value)),KV kvs ws->KV (ps.foldl (fun acc kv=>d6 acc kv.1 kv.2) kvs) (es.foldl (fun e p=>stored e p.1 p.2) ws)
 | [],m,_=>⟨[],rfl,fun j e h=>by simp at h,fun kvs ws r=>r⟩
 | p :: r,m,h=>by
  obtain ⟨u,ru,fu⟩:=h 0 p rfl
  obtain ⟨es,hl,he,hk⟩:=Fi r (m+1) fun j p' hj=>by
   obtain ⟨u',h1,h2⟩:=h (j+1) p' (by simpa using hj)
   exact ⟨u',h1,by rw [show m+1+j=m+(j+1) by omega];exact h2⟩
  refine ⟨(p.1,u) :: es,by simp [hl],fun j e hj=>?_,fun kvs ws rr=>hk _ _ (rr.put p.1 ru)⟩
  cases j with
  | zero =>
   have:(p.1,u)=e:=by simpa using hj
   subst this
   exact ⟨p,rfl,fu⟩
  | succ j =>
   obtain ⟨p',h1,h2⟩:=he j e (by simpa using hj)
   exact ⟨p',by simpa using h1,by rw [show m+(j+1)=m+1+j by omega];exact h2⟩
theorem NP {X:Cx} (hc:X.calm=true):fD X (.type "dict") (BI X.K):=by
 intro pins s σ H xs us Q I r h
 match xs,h with
 | [.ref a],h =>
  obtain ⟨ys,ps,hL,hl,hz,hp,q⟩:=h
  obtain ⟨u1,rfl,e1⟩:=gW r
  cases e1
  obtain ⟨z,its,n,rv,hlen,hget⟩:=I.jR hL
  have item:∀ (j:Nat) p,ps[j]? = some p->∃ u,aH p.2 u/\∃ T kx o m,its[j]? = some (.ref T)/\(fC X.prog X.w).is p.1 kx=true/\s.heap.get? T=some o/\o.cls=.type "tuple" /\ o.data=.seq #[kx,u] m:=fun j p hj=>by
   obtain ⟨T,hT,hH⟩:=hp j p hj
   obtain ⟨uT,h1,h2⟩:=rv.get hT
   cases h2
   obtain ⟨itt,rt,⟨o,ho,rB,m,hda⟩,_⟩:=I.tuple (bX.of hH)
   obtain ⟨w1,w2,rfl,r1,r2⟩:=Vals.two rt
   exact ⟨w2,r2,T,w1,o,m,h1,lX r1,ho,rB,hda⟩
  obtain ⟨es,yK,hes,hkv⟩:=Fi (F:=fun j p e=>∃ T kx o m,its[j]? = some (.ref T)/\(fC X.prog X.w).is e.1 kx=true/\s.heap.get? T=some o/\o.cls=.type "tuple" /\ o.data=.seq #[kx,e.2] m) ps 0 fun j p hj=>by
   obtain ⟨u,h1,T,kx,o,m,h2⟩:=item j p hj
   exact ⟨u,h1,T,kx,o,m,by rw [Nat.zero_add];exact h2⟩
  refine DL.Cg (knd:=fC X.prog X.w) (es:=es) (I.ok.hd hc) hget (by rw [ZpJ];omega) (by rw [ZpJ];omega) (fun j p hj=>?_) fun h2 t2 dd k2=>?_
  ·obtain ⟨p',_,T,kx,o,m,q1,q2,q3,q4,q5⟩:=hes j p hj
   exact ⟨T,kx,o,m,by rw [Nat.zero_add] at q1;simpa using q1,q2,q3,q4,q5⟩
  ·have eP:H s.heap.objs.size=none:=I.aw.fresh (ZqC _)
   have rel:KV (eK [] ps) (es.foldl (fun e p=>stored e p.1 p.2) []):=hkv [] [] .nil
   have yy:(eK [] ps).length<=sizeLine:=by
    have h1:=zD ps []
    rw [ZpW] at h1
    rw [sizeLine_eq];omega
   have zt:((s.heap.objs.size:Addr) == sysModules)=false:=beq_eq_false_iff_ne.mpr (Ne.symm (ZqD I.big))
   refine ⟨.ref s.heap.objs.size,upd H s.heap.objs.size (.dK (eK [] ps)),?_,rfl,q _ _ ⟨eP,rfl⟩⟩
   exact I.dz (ch:=[]) (h':=h2) (t':=t2) (fun b hb=>nomatch hb) (ZqC _) (fun b o _ e=>k2 b o e) (z8 yy zt rel dd)
end L2
set_option maxHeartbeats 4000000
namespace EX
open PySem
structure Lv (S:List Addr) (e:Addr) (old:List Addr) (cls:Value) (h h':Heap) (T:Addr):Prop where
 ge:h.objs.size<=T
 exc:∃ oe vs,h'.get? e=some oe/\oe.cls=cls/\oe.data=.fields vs/\vs[1]? = some (.ref T)/\oe.dict=none
 tb:∃ oT ts,h'.get? T=some oT/\oT.data=.fields ts/\ts[3]? = some .none
 keep:∀ b o,b ∉ S->b≠e->b ∉ old->h.get? b=some o->h'.get? b=some o
 slot:∀ b o,b∈S->h.get? b=some o->∃ sl,h'.get? b=some { o with slots:=sl }
section
variable {M:Model}{A:Around}{E:Value->Shared->Prop}{s:Shared}
noncomputable def LX (h:Heap) (e:Addr) (vs:Array Value) (old:List Addr):Prop :=
 (vs[1]? = some .none/\old=[])\/∃ T0 oT ts,old=[T0]/\vs[1]? = some (.ref T0)/\T0≠e/\h.get? T0=some oT/\oT.data=.fields ts/\ts[3]? = some .none
end
end EX
set_option maxHeartbeats 4000000
namespace L2
open PySem PySem.Spec PyProof.Rows
theorem dn.has {P:Program}{w:World}{H:Hp}{h:Heap}{a:Addr}{o:HO} (x:dn P w H h a o):∃ u,h.get? a=some u:=by
 cases o with
 | lst xs=>obtain ⟨_,_,_,_,e⟩:=x;exact ⟨_,e⟩
 | tup xs=>obtain ⟨_,_,_,_,e,_⟩:=x;exact ⟨_,e⟩
 | dK kvs=>obtain ⟨_,_,_,_,o,_,_,e,_⟩:=x;exact ⟨_,e⟩
 | dT kvs=>obtain ⟨_,_,_,_,o,_,_,e,_⟩:=x;exact ⟨_,e⟩
 | set S n=>obtain ⟨o,_,_,_,e,_⟩:=x;exact ⟨_,e⟩
 | ins C dx fs=>obtain ⟨_,_,_,e,_⟩:=x;exact ⟨_,e⟩
 | own y=>exact x
 | xd fs=>obtain ⟨_,⟨_,_,_,e,_⟩,_⟩:=x;exact ⟨_,e⟩
 | rng lo hi=>obtain ⟨_,_,_,e⟩:=x;exact ⟨_,e⟩
 | frz ob u=>obtain ⟨e,_⟩:=x;exact ⟨_,e⟩
 | tbl ps=>exact ⟨_,(show h.get? a=some _ from x)⟩
 | met f y=>exact ⟨_,(show h.get? a=some _ from x)⟩
 | ext φ=>obtain ⟨_,e,_⟩:=x;exact e
theorem du.Dp {P:Program}{w:World}{H:Hp}{h:Heap}{a:Addr} (x:du P w H h) (e:h.get? a=none):H a=none:=by
 cases q:H a with
 | none=>rfl
 | some u =>
  obtain ⟨o,z⟩:=(x a u q).has
  rw [e] at z;cases z
noncomputable def lA (X:Cx) (pins:List (Addr × Obj)) (H:Hp) (b:Addr):Prop :=
 H b=none/\b≠X.env.locals/\b ∉ X.fs/\(b∈X.ex\/X.s₀.heap.get? b=none)/\(∀ x c,X.env.cells.lookup x=some c->c≠b)/\∀ p∈X.pn ++ pins,p.1≠b
structure Qa (X:Cx) (pins:List (Addr × Obj)) (H:Hp) (e C:Addr) (s:Shared):Prop where
 fe:lA X pins H e
 obj:∃ oe vs old,s.heap.get? e=some oe/\oe.cls=.ref C/\oe.data=.fields vs/\EX.LX s.heap e vs old/\oe.dict=none/\∀ b∈old,lA X pins H b
section
variable {P:Program}{w:World}{K:ZoW}{mg:Str->Option Value}{base:Heap}
end
section
open PySem.W
end
noncomputable def Cx.plus (X:Cx) (l:List Addr):Cx:={ X with ex:=l ++ X.ex }
section
variable {X:Cx}{pins:List (Addr × Obj)}{σ:St}{H:Hp}{s:Shared}{l:List Addr}
theorem Mg (I:Inv X pins σ H s) {b:Addr} (hb:X.s₀.heap.get? b=none) (o:Obj):X.base.get? b≠some o:=fun z=>by
 have:=(I.ok.bs b o z).1
 rw [hb] at this;cases this
theorem Inv.plus (I:Inv X pins σ H s) (h:∀ b∈l,lA X pins H b):Inv (X.plus l) pins σ H s:=by
 have K:=I.ok
 refine ⟨⟨K.mod,K.kind,K.glob,K.blt,K.above,K.inj,K.has,K.m6,K.hd,K.frames,K.pQ,fun b hb=>?_,K.bs,K.iO,fun b o e hb=>?_,fun b hb=>?_,K.dw,K.jZ⟩,I.os,I.bare,?_,I.loc,I.cell,I.free,I.bB,I.pin,I.aw,I.len⟩
 ·rcases ZpM.mp hb with z | z
  ·exact ⟨(h b z).2.1,(h b z).2.2.2.2.1⟩
  ·exact K.uK b z
 ·rcases ZpM.mp hb with z | z
  ·rcases (h b z).2.2.2.1 with y | y
   ·exact K.gJ b o e y
   ·exact Mg I y o e
  ·exact K.gJ b o e z
 ·rcases ZpM.mp hb with z | z
  ·exact (h b z).2.2.1
  ·exact K.hJ b z
 ·have no:∀ {b:Addr},b ∉ l ++ X.ex->b ∉ X.ex:=fun hb z=>hb (ZpR _ z)
  exact ⟨fun b o e n hb hx=>I.base.keep b o e n hb (no hx),fun b o e n hb hx=>I.base.slot b o e n hb (no hx),fun b o e n hx=>I.base.free b o e n (no hx),fun b o e hx=>I.base.there b o e (no hx),I.base.fh,I.base.eG,I.base.fg⟩
theorem Inv.minus (I:Inv (X.plus l) pins σ H s) (K:X.Ok) (h:∀ b∈l,b∈X.ex\/X.s₀.heap.get? b=none):Inv X pins σ H s:=by
 have no:∀ {b:Addr}{o:Obj},X.s₀.heap.get? b=some o->b ∉ X.ex->b ∉ l ++ X.ex:=fun {b o} e hb z=>by
  rcases ZpM.mp z with y | y
  ·rcases h b y with u | u
   ·exact hb u
   ·rw [u] at e;cases e
  ·exact hb y
 exact ⟨K,I.os,I.bare,⟨fun b o e n hb hx=>I.base.keep b o e n hb (no e hx),fun b o e n hb hx=>I.base.slot b o e n hb (no e hx),fun b o e n hx=>I.base.free b o e n (no e hx),fun b o e hx=>I.base.there b o e (no e hx),I.base.fh,I.base.eG,I.base.fg⟩,
  I.loc,I.cell,I.free,I.bB,I.pin,I.aw,I.len⟩
theorem Inv.turn {h':Heap} (I:Inv X pins σ H s) (h:∀ b∈l,lA X pins H b)
  (keep:∀ b o,b ∉ hW X.stack->b ∉ l->s.heap.get? b=some o->h'.get? b=some o) (slot:∀ b o,b∈hW X.stack->s.heap.get? b=some o->∃ sl,h'.get? b=some { o with slots:=sl }):Inv X pins σ H { s with heap:=h' }:=by
 have I1:=I.plus h
 have st:∀ b,H b≠none->b ∉ hW X.stack/\b ∉ l:=fun b n=>⟨fun z=>n (I.gD b z),fun z=>n (h b z).1⟩
 have u:Un (hW X.stack) l H H s.heap h':=by
  refine ⟨fun b o e n hb hx=>keep b o hb hx e,fun b o e n hb hx=>slot b o hb e,fun b o e n hx=>n,fun b o e hx=>?_,fun _ _ e=>e,fun _ _ _ e=>e,fun b ps e=>⟨#[],by rw [e];simp⟩⟩
  by_cases hb:b∈hW X.stack
  ·obtain ⟨sl,q⟩:=slot b o hb e
   exact ⟨_,q⟩
  ·exact ⟨o,keep b o hb hx e⟩
 have aw:du X.prog X.w H h':=fun b u e1=>by
  refine (I.aw b u e1).gk (fun c v hc hv=>?_) (fun _ z=>z) fun _ _ z=>z
  have n:H c≠none:=fun z=>by
   rcases hc with y | y
   ·rw [y,e1] at z;cases z
   ·rw [y] at z;cases z
  exact keep c v (st c n).1 (st c n).2 hv
 exact Inv.minus (l:=l) (I1.call (g':=s.gens) (d':=s.drawn) (t':=s.toks) (ch:=l) u aw I.bare fun b hb=>⟨.inl (Zqk _ hb),(h b hb).2.1,(h b hb).2.2.2.2.1,(h b hb).2.2.2.2.2⟩) I.ok fun b hb=>(h b hb).2.2.2.1
structure uJ (X:Cx) (pins:List (Addr × Obj)) (H:Hp) (e C T:Addr) (s:Shared):Prop where
 fe:lA X pins H e
 fT:lA X pins H T
 ne:T≠e
 exc:∃ oe vs,s.heap.get? e=some oe/\oe.cls=.ref C/\oe.data=.fields vs/\vs[1]? = some (.ref T)/\oe.dict=none
 tb:∃ oT ts,s.heap.get? T=some oT/\oT.data=.fields ts/\ts[3]? = some .none
theorem again {e C T:Addr}{Q:Unit->Shared->Prop}{A:Around} (I:Inv X pins σ H s) (hd:uJ X pins H e C T s)
  (q:∀ h',Inv X pins σ H { s with heap:=h' }->uJ X pins H e C T { s with heap:=h' }->Q () { s with heap:=h' }) {E:Value->Shared->Prop} :
  wpAny (model X.prog X.w) A (setFlight (.ref e) none) Q E s:=by
 obtain ⟨fe,fT,ne,⟨oe,vs,h1,h2,h3,h4,h5⟩,⟨oT,ts,t1,t2,t3⟩⟩:=hd
 unfold setFlight
 refine wpAny_bind (wpAny_field h1 h3 h4 ?_)
 rw [if_pos (show (Value.ref T != Value.none)=true by simp)]
 refine wpAny_setField t1 t2 (Zra.mp t3).1 ?_
 have d4:=Obj.data_mapFields t2 (·.setIfInBounds 3 ((none:Option Addr).elim Value.none fun f=>rawInt f))
 have ot:∀ b,b≠T->(s.heap.update T (Obj.mapFields (·.setIfInBounds 3 ((none:Option Addr).elim Value.none fun f=>rawInt f)))).get? b=s.heap.get? b:=fun b hb=>Heap.get?_update_other _ _ (Ne.symm hb)
 have Bn:∀ b,b∈hW X.stack->b≠T:=fun b hb z=>by
  obtain ⟨_,o,ho,nf⟩:=I.stack.mem hb
  rw [z,t1] at ho;cases ho
  exact nf ts t2
 refine q _ (I.turn (l:=[T]) (fun b hb=>?_) (fun b o hb hl ho=>?_) fun b o hb ho=>?_) ⟨fe,fT,ne,⟨oe,vs,(ot e (Ne.symm ne)).trans h1,h2,h3,h4,h5⟩,⟨_,_,Heap.get?_update_self _ t1 (Obj.isFreed_of_fields d4),d4,?_⟩⟩
 ·rw [ZpH.mp hb];exact fT
 ·exact (ot b (fun z=>hl (by simp [z]))).trans ho
 ·exact ⟨o.slots,(ot b (Bn b hb)).trans ho⟩
 ·simp [(Zra.mp t3).1]
end
noncomputable def mroIn (K:ZoW) (C:Addr):List Value:=match K.lookup C with
 | some ⟨_,_,.cls cd,_⟩=>cd.mro
 | _=>[]
section
open PySem.W
end
noncomputable def Cx.tr (X:Cx) (pins:List (Addr × Obj)) (Ex:St->XK):Cx :=
 { X with pn:=X.pn ++ pins,xe:=fun er s=>∃ σ e C H,er=.ref e/\Inv X pins σ H s/\Qa X pins H e C s/\Ex σ (.ref e) (some C) H }
section
variable {X:Cx}{pins:List (Addr × Obj)}{σ:St}{H:Hp}{s:Shared}{e C T:Addr}{D:Ends}{f:Flow}{Ex:St->XK}
theorem Inv.tr (I:Inv X pins σ H s) (Ex:St->XK):Inv (X.tr pins Ex) [] σ H s :=
 ⟨⟨I.ok.mod,I.ok.kind,I.ok.glob,I.ok.blt,I.ok.above,I.ok.inj,I.ok.has,I.ok.m6,I.ok.hd,I.ok.frames,I.ok.pQ,I.ok.uK,I.ok.bs,I.ok.iO,I.ok.gJ,I.ok.hJ,I.ok.dw,I.ok.jZ⟩,I.os,I.bare,I.base,I.loc,I.cell,I.free,I.bB,fun p hp=>I.pin p (by rw [Zp4] at hp;exact hp),I.aw,I.len⟩
end
section
variable {X:Cx}{x:Str}{np pos:Pos}{Dc:Addr}{b₀:Stmt}{body:List Stmt}{bC:List ExceptHandler}{hd:Addr->Addr->TS}{ts:TS}
end
section
variable {X:Cx}{k:Nat}{f C:Addr}{fd:FuncData}{ps:List Str}{sp:Sp}{gd:List V}{ds:List Value}{Ex:St->XK}{x m:Str}{p pos apos:Pos}{e o:Expr}{es:List Expr}{ta:TE}{t:TA}
end
noncomputable def excAt (a C:Addr):Heap->Prop:=fun h=>∃ o vs,h.get? a=some o/\o.cls=.ref C/\o.data=.fields vs/\o.dict=none
noncomputable def xo (a C:Addr):HO:=.ext (excAt a C)
section
variable {X:Cx}{pins:List (Addr × Obj)}{σ:St}{H:Hp}{s:Shared}{e C T:Addr}
theorem Inv.seen {oe:Obj} (I:Inv X pins σ H s) (fe:lA X pins H e) (ho:s.heap.get? e=some oe) (hc:oe.cls=.ref C) {vs:Array Value} (hf:oe.data=.fields vs) (KU:oe.dict=none):Inv X pins σ (upd H e (xo e C)) s:=by
 have ne:∀ {b u},H b=some u->b≠e:=fun {b u} h z=>by rw [z,fe.1] at h;cases h
 have up:∀ {b u},H b=some u->upd H e (xo e C) b=some u:=fun {b u} h=>(aJ (ne h)).trans h
 refine ⟨I.ok,I.os,I.bare,⟨I.base.keep,I.base.slot,fun b o e1 n hx=>?_,I.base.there,fun b xs h=>up (I.base.fh b xs h),fun b o u h=>up (I.base.eG b o u h),fun b ps h=>?_⟩,I.loc,I.cell,(aJ (Ne.symm fe.2.1)).trans I.free,fun x c h=>(aJ (fe.2.2.2.2.1 x c h)).trans (I.bB x c h),fun p hp=>?_,fun b u h=>?_,I.len⟩
 ·refine (aJ fun z=>?_).trans (I.base.free b o e1 n hx)
  rcases fe.2.2.2.1 with y | y
  ·exact hx (z ▸ y)
  ·rw [z,y] at e1;cases e1
 ·obtain ⟨more,q⟩:=I.base.fg b ps h
  exact ⟨more,up q⟩
 ·obtain ⟨a1,a2,a3⟩:=I.pin p hp
  exact ⟨a1,(aJ (fe.2.2.2.2.2 p hp)).trans a2,a3⟩
 ·by_cases hb:b=e
  ·rw [hb,bh] at h
   cases h
   rw [hb]
   exact ⟨⟨oe,vs,ho,hc,hf,KU⟩,⟨oe,ho⟩,fun h1 h2 ⟨o,vs,p1,p2⟩ k=>⟨o,vs,k o p1,p2⟩⟩
  ·rw [aJ hb] at h
   exact (I.aw b u h).gk (fun c v _ q=>q) (fun c q=>up q) fun c xs q=>up q
end
section
open PySem.W PySem.Calls
variable {prog:Program}{w:World}{A:Around}{E:Value->Shared->Prop}{s:Shared}{K:Frag}{a C:Addr}
end
structure g5 (k:Nat) (A:Around):Prop where
 dp:A.depth+3 * k+5<recursionLimit
 un:A.units+16 * k+200<cLine
theorem aS.m {k:Nat}{A:Around} (r:aS k A):g5 k A:=⟨r.dp,r.un⟩
theorem g5.mark {k:Nat}{A:Around} (r:g5 k A) (v:Option Value):g5 k (A.mark v):=⟨r.dp,r.un⟩
structure Gq (P:Program) (w:World) (K:ZoW) (mg:Str->Option Value) (base:Heap) (CX:iL) (k:Nat) (f:Addr) (fd:FuncData) (ps:List Str) (sp:Sp):Prop where
 len:∀ vs H Q E,sp vs H Q E->vs.length=ps.length
 run:∀ (A:Around) (outer:List Env) (s:Shared) (H:Hp) (args:Args) (us:List Value) (vs:List V) (Q:VK) (E:XK),g5 k A->fB P w K mg base A outer s H->BindsTo s fd args (ps.zip us)->Vals vs us->sp vs H Q E ->
  codeAny (model P w) A (.call (.ref f) args) (CR CX outer P w H s Q E) s
section
variable {X:Cx}{CX:iL}{k:Nat}{f C:Addr}{fd:FuncData}{ps:List Str}{sp:Sp}{gd:List V}{ds:List Value}{E:XK}{x m:Str}{p pos apos:Pos}{e o:Expr}{es:List Expr}{ta:TE}{t:TA}
end
section
variable {X:Cx}{k:Nat}{f C:Addr}{fd:FuncData}{ps:List Str}{sp:Sp}{gd:List V}{ds:List Value}{Ex:St->XK}{x:Str}{p pos:Pos}{e:Expr}{es:List Expr}{t:TA}
end
structure FT (K:ZoW) (mg:Str->Option Value) (x:Str) (st:Stmt) (ps:List Str) (f:Addr) (d:FuncData):Prop where
 m:mg x=some (.ref f)
 n:jy K x x st f d
 b:kH K d ps []
structure FM (K:ZoW) (c:Addr) (x q:Str) (st:Stmt) (ps:List Str) (f:Addr) (d:FuncData):Prop where
 n:jy K x q st f d
 b:kH K d ps []
 e:Meth K c x f
noncomputable def FP (K:ZoW) (x:Str) (st:Stmt) (f:Addr):Prop:=∃ d,ZoX K mainGlobals x=some (some (.ref f))/\jy K x x st f d
noncomputable def FQ (K:ZoW) (c:Addr) (x q:Str) (st:Stmt) (f:Addr):Prop:=∃ d,jy K x q st f d/\Meth K c x f
structure CP (K:ZoW) (x:Str) (c:Addr):Prop where
 a:ZoX K mainGlobals x=some (some (.ref c))
 pg:Zo6 K c Str.empty=true
 hd:Zpa K c=true
 po:Zpf K c=true
 sa:ZoY K (.ref c) "__setattr__" = some (some (.builtin "object.__setattr__"))
 mk':Zph K c=true
 kc:Zo5 K (.ref c)=true
section
variable {P:Program}{w:World}{K:ZoW}{mg:Str->Option Value}{base h:Heap}{x q:Str}{st:Stmt}{ps N:List Str}{f c:Addr}{d:FuncData}{k:Nat}{sp:Sp}
theorem CP.cl (p:CP K x c):jS K c:=⟨p.pg,p.hd,p.po,p.sa⟩
theorem FP.mk' {oc:Value}{od an:Option Addr}{jj:Array (Option Value)}{kV doc pm bY ct:Value} (a:ZoX K mainGlobals x=some (some (.ref f)))
  (l:K.lookup f=some ⟨oc,od,.func (Zo0 x x (jM st) (iQ st) (aO st) .none kV doc pm an bY ct),jj⟩)
  (c:Zo8 K bY x=true) (k:Zo5 K (.ref f)=true):FP K x st f:=⟨_,a,Fz l c k⟩
theorem FQ.mk' {oc:Value}{od an:Option Addr}{jj:Array (Option Value)}{kV doc pm bY ct:Value} (a:ZoY K (.ref c) x=some (some (.ref f))) (i:Zpb K (.ref f)=true)
  (l:K.lookup f=some ⟨oc,od,.func (Zo0 x q (jM st) (iQ st) (aO st) .none kV doc pm an bY ct),jj⟩)
  (e:Zo8 K bY q=true) (k:Zo5 K (.ref f)=true):FQ K c x q st f:=⟨_,Fz l e k,⟨a,i,k⟩⟩
theorem FP.ft (p:FP K x st f) (X:K.In h) (G:h.Ns mainGlobals mg)
  (B:∀ (kV doc pm:Value) (an:Option Addr) (bY ct:Value) (us:List Value),us.length=ps.length->bindArgs (Zo0 x x (jM st) (iQ st) (aO st) .none kV doc pm an bY ct) ⟨us,[]⟩=pure (ps.zip us)):FT K mg x st ps f p.choose :=
 ⟨Zo3 X G p.choose_spec.1,p.choose_spec.2,p.choose_spec.2.binds B⟩
theorem FQ.fm (p:FQ K c x q st f)
  (B:∀ (kV doc pm:Value) (an:Option Addr) (bY ct:Value) (us:List Value),us.length=ps.length->bindArgs (Zo0 x q (jM st) (iQ st) (aO st) .none kV doc pm an bY ct) ⟨us,[]⟩=pure (ps.zip us)):FM K c x q st ps f p.choose :=
 ⟨p.choose_spec.1,p.choose_spec.1.binds B,p.choose_spec.2⟩
theorem CP.OV (p:CP K x c) {y:Str} (r:FQ K c "__init__" y st f):Mk K c f:=⟨p.mk',r.choose_spec.2.at_,r.choose_spec.2.fn,p.kc⟩
theorem jy.pV {p:Str} (F:jy K x q st f d) (B:∀ (kV doc pm:Value) (an:Option Addr) (bY ct u:Value),bindArgs (Zo0 x q (jM st) (iQ st) (aO st) .none kV doc pm an bY ct) ⟨[u],[]⟩=pure [(p,u)]) (s:Shared) (v:Value):BindsTo s d ⟨[v],[]⟩ [(p,v)]:=by
 obtain ⟨oc,od,kV,doc,pm,an,bY,ct,jj,rfl,lk,jL⟩:=F.ex
 exact .of_eq (B kV doc pm an bY ct v)
end
noncomputable abbrev TM (P:Program) (w:World) (K:ZoW) (mg:Str->Option Value) (base:Heap) (k:Nat) (q:Str) (st:Stmt) (N:List Str) (f:Addr) (R:TS):Prop :=
 ∀ {bY:Value}{A:Around}{outer:List Env}{s:Shared}{H:Hp}{E:XK},aS k (A.deeper (envOfC q (aO st) s.heap.objs.size f bY))->iu (pL cb P w K mg base N q (aO st) f bY A outer s H E).vF (iQ st) R
section
variable {P:Program}{w:World}{K:ZoW}{mg:Str->Option Value}{base h:Heap}{x q:Str}{st:Stmt}{ps N:List Str}{f c:Addr}{d:FuncData}{k:Nat}{sp:Sp}
theorem jy.dt {R:TS} (F:jy K x q st f d) (S:ai N ps (aO st)) (tm:TM P w K mg base k q st N f R) (len:∀ vs H Q E,sp vs H Q E->vs.length=ps.length)
  (hb:∀ H vs Q E,sp vs H Q E->R { nx:=fun _ H'=>Q .non H',rt:=Q } (lr N vs) H):aB P w K mg base cb (k+1) f d ps sp :=
 F.ok S len fun _ _ _ _ H vs Q E hr h=>⟨R,tm hr,hb H vs Q E h⟩
end
section
variable {X:Cx}{CX:iL}{k:Nat}{f C:Addr}{fd:FuncData}{ps:List Str}{sp:Sp}{x:Str}{st:Stmt}{E:XK}{e o:Expr}{es:List Expr}{t:TA}{p pos apos:Pos}{ta:TE}
theorem hm {j k:Nat}{A:Around} (hr:aS k A) (h:j<=k:=by decide):aS j A:=hr.mono h
theorem bM (T:FT X.K X.mg x st ps f fd) (F:aB X.prog X.w X.K X.mg X.base CX k f fd ps sp) (hr:aS k X.A) (hx:oa CX X E)
  (ha:PA X (e :: es) t) (hg:Gl X x:=by rfl) (kZ:(x == ("__debug__" : Str))=false:=by decide) (he:starEach (e :: es) X.env=(false,eval e X.env) :: starEach es X.env:=by rfl) (eB:(backTo pos (starEach es X.env)).any (·.1)=false:=by rfl) :
  PE X (.Call (.Name x p) (e :: es) [] pos) (bH sp [] E t):=Ls F hr hg T.m T.n.kp T.b .nil hx ha kZ he eB
end
end L2
set_option maxHeartbeats 4000000
namespace DT
open PySem
section
variable {prog:Program}{w:World}{A:Around}{E:Value->Shared->Prop}{s:Shared}{d it:Addr}{od:Obj}{es:Array DictEntry}{ep i:Nat}
end
end DT
namespace L2
open PySem PySem.Spec PyProof.Rows
section
variable {X:Cx}{pins:List (Addr × Obj)}{σ:St}{H:Hp}{s:Shared}{d:Addr}{kvs:List (List Key × V)}{o:Obj}
theorem Inv.dT (I:Inv X pins σ H s) (e:Rd H d (.dT kvs)):kvs.length<=sizeLine/\(d == sysModules)=false/\∃ (xs:List (List Key × Addr × Value)) (od:Obj) (es:Array DictEntry) (ep:Nat),KT H kvs xs/\s.heap.get? d=some od/\od.ExactDict/\od.data=.dict es ep/\es.size=kvs.length /\
  ∀ (i:Nat) p,kvs[i]? = some p->∃ (b:Addr) (h:Int) (v:Value),es[i]? = some ⟨h,.ref b,v⟩/\H b=some (.tup (p.1.map kV)):=by
 obtain ⟨z,y,xs,r,od,es,ep,h1,h2,h3,h4,h5⟩:=(show dn X.prog X.w H s.heap d (.dT kvs) from CG I.aw e)
 have hl:kvs.length=xs.length:=Paired.length r
 have hs:es.size=kvs.length:=by rw [hl,<- Zq9,h4,Zpu]
 refine ⟨z,y,xs,od,es,ep,r,h1,h2,h3,hs,fun i p hp=>?_⟩
 have at_:∀ {l:List (List Key × V)}{m:List (List Key × Addr × Value)}{j:Nat}{q:List Key × V},KT H l m->l[j]? = some q->∃ x,m[j]? = some x/\H x.2.1=some (.tup (q.1.map kV)):=by
  intro l m j q t
  induction t generalizing j with
  | nil=>intro z;simp at z
  | @cons a b as bs hq _ ih =>
   intro z
   cases j with
   | zero =>
    have:a=q:=by simpa using z
    subst this
    exact ⟨b,rfl,hq.2.1⟩
   | succ j=>exact ih (by simpa using z)
 obtain ⟨x,hx,hH⟩:=at_ r hp
 have:es[i]? = some (entryOfKey (tupleKind (fC X.prog X.w)) x):=by rw [<- Array.getElem?_toList,h4,ZpB,hx];rfl
 exact ⟨x.2.1,_,_,this,hH⟩
end
section
variable {X:Cx}{pins:List (Addr × Obj)}{σ:St}{H:Hp}{s:Shared}
theorem gS.fl {b:Addr} (h:gS X pins H b):lA X pins H b:=⟨h.1,h.2.1,h.2.2.1,h.2.2.2.1.imp id fun z=>by
 cases e:X.s₀.heap.get? b with
 | none=>rfl
 | some o=>exact absurd (Heap.lt_size e) (Nat.not_lt.mpr z),h.2.2.2.2.1,h.2.2.2.2.2⟩
theorem Inv.adopt {e:Addr}{o:HO} (I:Inv X pins σ H s) (fe:lA X pins H e) (ok:dn X.prog X.w (upd H e o) s.heap e o):Inv X pins σ (upd H e o) s:=by
 have ne:∀ {b u},H b=some u->b≠e:=fun {b u} h z=>by rw [z,fe.1] at h;cases h
 have up:∀ {b u},H b=some u->upd H e o b=some u:=fun {b u} h=>(aJ (ne h)).trans h
 refine ⟨I.ok,I.os,I.bare,⟨I.base.keep,I.base.slot,fun b o e1 n hx=>?_,I.base.there,fun b xs h=>up (I.base.fh b xs h),fun b o u h=>up (I.base.eG b o u h),fun b ps h=>?_⟩,I.loc,I.cell,(aJ (Ne.symm fe.2.1)).trans I.free,fun x c h=>(aJ (fe.2.2.2.2.1 x c h)).trans (I.bB x c h),fun p hp=>?_,fun b u h=>?_,I.len⟩
 ·refine (aJ fun z=>?_).trans (I.base.free b o e1 n hx)
  rcases fe.2.2.2.1 with y | y
  ·exact hx (z ▸ y)
  ·rw [z,y] at e1;cases e1
 ·obtain ⟨more,q⟩:=I.base.fg b ps h
  exact ⟨more,up q⟩
 ·obtain ⟨a1,a2,a3⟩:=I.pin p hp
  exact ⟨a1,(aJ (fe.2.2.2.2.2 p hp)).trans a2,a3⟩
 ·by_cases hb:b=e
  ·rw [hb,bh] at h
   cases h
   rw [hb]
   exact ok
  ·rw [aJ hb] at h
   exact (I.aw b u h).gk (fun c v _ q=>q) (fun c q=>up q) fun c xs q=>up q
theorem Inv.fi {h':Heap}{t':Nat}{l:List Addr} (I:Inv X pins σ H s) (hl:∀ b∈l,gS X pins H b) (k:∀ b o,b ∉ l->s.heap.get? b=some o->h'.get? b=some o):Inv X pins σ H { s with heap:=h',toks:=t' }:=by
 have mG:∀ b u,H b=some u->b ∉ l:=fun b u e z=>by rw [(hl b z).1] at e;cases e
 refine I.step (g':=s.gens) (d':=s.drawn) (ch:=l) (fun b hb=>?_) (fun b o _ _ hc e _=>k b o hc e) (fun b o _ _ hc e _=>⟨o.slots,k b o hc e⟩) (fun _ _ _ _ n=>n)
  (fun b o hc e=>⟨o,k b o hc e⟩) (fun _ _ e=>e) (fun _ _ _ e=>e) (fun b ps e=>⟨#[],by rw [e];simp⟩) (fun m hm=>?_) (fun b u e=>?_) I.bare
 ·obtain ⟨f0,f1,f2,f3,f4,f5⟩:=hl b hb
  exact ⟨f3,f1,f4,f5⟩
 ·obtain ⟨o,es,ep,ho,r⟩:=hm
  exact ⟨o,es,ep,k _ o (fun z=>(hl _ z).2.1 rfl) ho,r⟩
 ·refine (I.aw b u e).gk (fun c v hc q=>k c v ?_ q) (fun _ q=>q) fun _ _ q=>q
  rcases hc with z | z
  ·rw [z];exact mG b u e
  ·exact mG c _ z
end
noncomputable def xS (K:ZoW) (l1 l2:Addr):It :=
  ⟨fun i H=>∃ xs ys x y,aI K H l1 xs/\aI K H l2 ys/\xs[i]? = some x/\ys[i]? = some y,
   fun i H v H'=>∃ T x y,v=.ref T/\H T=none/\H'=upd H T (.tup [x,y])/\(∀ xs,aI K H l1 xs->xs[i]? = some x)/\(∀ ys,aI K H l2 ys->ys[i]? = some y),
   fun i H=>∃ xs ys,aI K H l1 xs/\aI K H l2 ys/\(xs.length<=i\/ys.length<=i)⟩
theorem ND {P:Program}{w:World}{K:ZoW}{elts:List Expr}{k:Nat}{pos:Pos} (l1 l2 z TI TO i1 i2:Addr) (ap:ZipApart z TI TO i1 i2 l1 l2) :
    Turn P w K (.Tuple elts k pos) (xS K l1 l2) [z,TI,TO,i1,i2] z (fun i h=>IsZip h z TI TO .none/\IsPair h TI (.ref i1) (.ref i2)/\(∃ a b,IsPair h TO a b)/\h.IsListIter i1 l1 i/\h.IsListIter i2 l2 i) where
  mem:=by simp
  obj:=fun i h ⟨a1,a2,⟨x,y,a3⟩,a4,a5⟩ b hb=>by
    simp only [ZpC,ZpY,or_false] at hb
    rcases hb with rfl | rfl | rfl | rfl | rfl
    · exact ⟨_,a1,fun v z=>nomatch z⟩
    · exact ⟨_,a2,fun v z=>nomatch z⟩
    · exact ⟨_,a3,fun v z=>nomatch z⟩
    · obtain ⟨o,e,c,d⟩:=a4
      exact ⟨o,e,fun v z=>by rw [d] at z;cases z⟩
    · obtain ⟨o,e,c,d⟩:=a5
      exact ⟨o,e,fun v z=>by rw [d] at z;cases z⟩
  keep:=fun i h h' ⟨a1,a2,⟨x,y,a3⟩,a4,a5⟩ k=>⟨k _ (by simp) _ a1,k _ (by simp) _ a2,⟨x,y,k _ (by simp) _ a3⟩,a4.at fun o e=>k _ (by simp) o e,a5.at fun o e=>k _ (by simp) o e⟩
  item:=by
    intro X hP hw hK hc i pins s σ H E I hf st hg
    subst hP hw hK
    obtain ⟨xs,ys,x,y,hq1,hq2,hx,hy⟩:=hg
    obtain ⟨its1,rv1,p1,hz1⟩:=I.list hq1
    obtain ⟨its2,rv2,p2,hz2⟩:=I.list hq2
    obtain ⟨u1,hu1,ru1⟩:=rv1.get hx
    obtain ⟨u2,hu2,ru2⟩:=rv2.get hy
    obtain ⟨sa,sb,sc,sd,se⟩:=st
    have W:=WalksT.zip2 (prog:=X.prog) (w:=X.w) (I.ok.hd hc) z TI TO i1 i2 l1 l2 ap its1.toArray its2.toArray
    have n1:i<its1.length:=(ZpA.mp hu1).1
    have n2:i<its2.length:=(ZpA.mp hu2).1
    have hw:∀ b∈[z,TO,i1,i2],gS X pins H b:=fun b hb=>hf b (W.sub b hb |> fun _=>by simp only [ZpC,ZpY,or_false] at hb ⊢;rcases hb with h | h | h | h <;> simp [h])
    refine W.item i s _ _ (by simp;omega) ⟨sa,sb,sc,sd,se,p1.isList,p2.isList⟩ fun T vals h' tk hv hT it mid kp=>?_
    obtain ⟨x',y',e1,e2,rfl⟩:=hv
    have q1 : x' = u1 := by have : its1[i]? = some x' := by simpa using e1
                            rw [hu1] at this;cases this;rfl
    have q2 : y' = u2 := by have : its2[i]? = some y' := by simpa using e2
                            rw [hu2] at this;cases this;rfl
    subst q1 q2
    have aT:=W.apart i T h' mid
    refine ⟨.ref T,rfl,W.go elts k pos i T _ _ _ mid fun h'' st'' kp''=>?_⟩
    have I1:Inv X pins σ H { s with heap:=h'',toks:=tk }:=I.fi hw fun b o hb e=>kp'' b o hb (kp b o hb e)
    have fT:H T=none:=I.aw.fresh hT
    obtain ⟨oT,gT,cT,dT⟩:=it
    have ok:dn X.prog X.w (upd H T (.tup [x,y])) h'' T (.tup [x,y]):=⟨by show 2<=sizeLine;decide,[x',y'],.cons ru1 (.cons ru2 .nil),show h''.IsTuple T #[x',y'] from ⟨oT,kp'' T oT aT gT,cT,dT⟩⟩
    obtain ⟨b1,b2,b3,b4,b5,_,_⟩:=st''
    refine ⟨.ref T,_,I1.adopt (s:={ s with heap:=h'',toks:=tk }) (I.gN hT fT).fl ok,rfl,⟨T,x,y,rfl,fT,rfl,fun zs hz=>by rw [I.fU hz hq1];exact hx,fun zs hz=>by rw [I.fU hz hq2];exact hy⟩,⟨b1,b2,b3,b4,b5⟩,fun b hb=>?_⟩
    have AU:b≠T:=fun e=>by
      obtain ⟨ra,rb,sc⟩:=sc
      obtain ⟨o4,s4,_⟩:=sd
      obtain ⟨o5,s5,_⟩:=se
      have:∃ o,s.heap.get? b=some o:=by
        simp only [ZpC,ZpY,or_false] at hb
        rcases hb with rfl | rfl | rfl | rfl | rfl
        · exact ⟨_,sa⟩
        · exact ⟨_,sb⟩
        · exact ⟨_,sc⟩
        · exact ⟨_,s4⟩
        · exact ⟨_,s5⟩
      obtain ⟨o,ho⟩:=this
      have:=Heap.lt_size ho
      rw [e] at this
      exact absurd this (Nat.not_lt.mpr hT)
    rw [aJ AU]
    exact (hf b hb).1
  done:=by
    intro X hP hw hK hc i pins s σ H E I hf st hg
    subst hP hw hK
    obtain ⟨xs,ys,hq1,hq2,hlen⟩:=hg
    obtain ⟨its1,rv1,p1,hz1⟩:=I.list hq1
    obtain ⟨its2,rv2,p2,hz2⟩:=I.list hq2
    obtain ⟨sa,sb,⟨a,b,sc⟩,sd,se⟩:=st
    have l1:=rv1.length
    have l2:=rv2.length
    have hw:∀ b∈[z,TO,i1,i2],gS X pins H b:=fun b hb=>hf b (by simp only [ZpC,ZpY,or_false] at hb ⊢;rcases hb with h | h | h | h <;> simp [h])
    refine wpAny_pyNext_zip_end (I.ok.hd hc) ap sa sb sc sd se p1.isList p2.isList (hlen.imp (fun h=>by simp;omega) fun h=>by simp;omega) fun h' kp=>⟨rfl,I.fi (t':=s.toks) hw fun b o hb e=>?_⟩
    simp only [ZpC,ZpY,or_false,not_or] at hb
    exact kp b o hb.1 hb.2.1 hb.2.2.1 hb.2.2.2 e
  self:=fun _ _ _ _ _ st h=>wpAny_pyIter_zip st.1 h
theorem QB (n l1 l2:Nat) (h1:l1<n) (h2:l2<n):ZipApart (n+4) (n+2) (n+3) n (n+1) l1 l2:=by
 constructor <;> first | exact ZqJ (by omega) | exact ZqD (by omega)
noncomputable def ka (K:ZoW) (ta:TA):TI:=fun σ H R=>ta σ H fun vs H1=>∃ a b:Addr,vs=[.ref a,.ref b]/\(∃ xs,aI K H1 a xs)/\(∃ ys,aI K H1 b ys)/\R (xS K a b) H1
theorem EZ {X:Cx}{elts:List Expr}{k:Nat}{tp:Pos}{a b:Expr}{ta:TA}{p pos:Pos} (hg:Gl X "zip") (hm:X.mg "zip" = none) (ha:PA X [a,b] ta) (hs:starEach [a,b] X.env=[(false,eval a X.env),(false,eval b X.env)]:=by rfl) (jN:starEach [b] X.env=[(false,eval b X.env)]:=by rfl) :
  PI X (.Tuple elts k tp) (.Call (.Name "zip" p) [a,b] [] pos) (ka X.K ta):=by
 intro pins s σ H R I h
 refine Call_ (j9 I hg hm PyProof.Rows.boot_zip (PyProof.Rows.callWith_type1 (aF (ha pos pins s σ H _ I h) fun us s1 ⟨vs,H1,I1,r1,q1⟩=>?_) (by rw [hs,jN]) (by rw [jN];rfl)))
 obtain ⟨l1,l2,e,⟨xs,h1⟩,⟨ys,h2⟩,q⟩:=q1
 subst e
 obtain ⟨u1,u2,rfl,e1,e2⟩:=wM r1
 cases e1;cases e2
 obtain ⟨its1,rv1,p1,hz1⟩:=I1.list h1
 obtain ⟨its2,rv2,p2,hz2⟩:=I1.list h2
 refine call_zip_2 p1.isList p2.isList fun h' a1 a2 a3 a4 a5 hsz kp=>?_
 have n1:l1<s1.heap.objs.size:=by obtain ⟨o,e,_⟩:=p1.isList;exact Heap.lt_size e
 have n2:l2<s1.heap.objs.size:=by obtain ⟨o,e,_⟩:=p2.isList;exact Heap.lt_size e
 refine wpAny_pyIter_zip a1 ?_
 generalize hn:s1.heap.objs.size=n at *
 refine ⟨n+4,[n+4,n+2,n+3,n,n+1],_,_,H1,rfl,I1.kept (t':=s1.toks) kp,ND l1 l2 (n+4) (n+2) (n+3) n (n+1) ?_,⟨a1,a2,⟨_,_,a3⟩,a4,a5⟩,fun b hb=>?_,q⟩
 ·exact QB n l1 l2 n1 n2
 ·have hb':n<=b:=by
   simp only [ZpC,ZpY,or_false] at hb
   rcases hb with rfl | rfl | rfl | rfl | rfl
   ·exact ZqU n 4
   ·exact ZqU n 2
   ·exact ZqU n 3
   ·exact ZqC _
   ·exact ZqU n 1
  exact I1.gN (by rw [hn];exact hb') (I1.aw.fresh (by rw [hn];exact hb'))
theorem J7 {K:ZoW}{ta:TA}{g:TG}{tb:TS}{D:Ends}{σ:St}{H:Hp}:ed (ka K ta) g tb D σ H=ta σ H (fun vs H1=>∃ a b:Addr,vs=[.ref a,.ref b]/\(∃ xs,aI K H1 a xs)/\(∃ ys,aI K H1 b ys)/\lK (xS K a b) g tb D σ H1):=rfl
section
variable {X:Cx}{tg:Expr}
end
end L2
set_option maxHeartbeats 4000000
namespace RR
open PySem
section
variable {prog:Program}{w:World}{A:Around}{E:Value->Shared->Prop}{s:Shared}
end
end RR
namespace L2
open PySem PySem.Spec PyProof.Rows
section
variable {X:Cx}{tg:Expr}
end
section
variable {K:ZoW}{ta:TA}{g:TG}{tb:TS}{D:Ends}{σ:St}{H:Hp}
end
end L2
set_option maxHeartbeats 4000000
namespace RV
open PySem
section
variable {prog:Program}{w:World}{A:Around}{E:Value->Shared->Prop}{s:Shared}
end
end RV
namespace L2
open PySem PySem.Spec PyProof.Rows
end L2
set_option maxHeartbeats 4000000
namespace L2
open PySem PySem.Spec PyProof.Rows PySem.W
end L2
set_option maxRecDepth 20000
namespace L2
open PySem PySem.Spec PyProof.Rows
variable {X:Cx}
structure PL (H:Hp) (p:Addr) (es:List En):Prop where
 lst:H p=some (.lst (es.map fun e=>V.ref e.1))
 tup:∀ e∈es,H e.1=some (.tup [.int e.2.1,.int e.2.2])
end L2
set_option maxHeartbeats 4000000
namespace DT
open PySem
end DT
namespace L2
open PySem PySem.Spec PyProof.Rows
theorem Ft {α β:Type}{F:α->β->Prop}:∀ {l:List α}{m:List β},Paired F l m->∀ {i:Nat}{q:β},m[i]? = some q->∃ p,l[i]? = some p/\F p q
 | _,_,.nil,i,q,h=>by simp at h
 | _,_,.cons h t,0,q,e=>by
  rw [Zqw] at e
  cases e
  exact ⟨_,rfl,h⟩
 | _,_,.cons h t,i+1,q,e=>by
  rw [Zp0] at e
  obtain ⟨p,a,b⟩:=Ft t e
  exact ⟨p,by rw [Zp0];exact a,b⟩
theorem uU {P:Program}{w:World}{k:Key}{u:Value} (r:(fC P w).is k u=true):aH (kV k) u:=by
 rcases kF r with ⟨i,t,rfl,rfl⟩ | ⟨x,t,rfl,rfl⟩
 ·exact ⟨t,rfl⟩
 ·exact ⟨t,rfl⟩
end L2
namespace MF
section sw
variable (m:Nat) (nd:Nat->Bool)
noncomputable def cnt:Nat->Nat
 | 0=>0
 | i+1=>cnt i+(if nd (m+1+i) then 1 else 0)
noncomputable def J9 (k:Nat):Nat:=if k<=m then k else 1+m+cnt m nd (k - m - 1)
noncomputable def mt (t:Int):Int:=2 * (J9 m nd (t / 2).toNat:Nat)+t % 2
noncomputable def mp (p:Pr):Pr:=(mt m nd p.1,mt m nd p.2)
variable {m nd}
end sw
noncomputable def mark (L:List Bool) (t:Int):List Bool:=L.set (t / 2).toNat true
noncomputable def rH (L:List Bool) (ts:List Int):List Bool:=ts.foldl mark L
noncomputable def look (m:Nat) (P:List Pr) (L:List Bool) (j:Nat):List Bool :=
 if L.getD (m+1+j) false then mark (mark L (P.getD j (0,0)).1) (P.getD j (0,0)).2 else L
noncomputable def down (m:Nat) (P:List Pr) (L:List Bool):Nat->List Bool
 | 0=>L
 | i+1=>look m P (down m P L i) (P.length - 1 - i)
theorem xN (L:List Bool) (t:Int):(mark L t).length=L.length:=List.length_set ..
theorem Et:∀ (ts:List Int) (L:List Bool),(rH L ts).length=L.length
 | [],L=>rfl
 | t :: r,L=>(Et r (mark L t)).trans (xN L t)
theorem El (L:List Bool) (t:Int) (k:Nat):(mark L t).getD k false=true ↔ L.getD k false=true\/(k=(t / 2).toNat/\k<L.length):=by
 unfold mark
 rw [Zp7,Zp7,List.getElem?_set]
 by_cases e:(t / 2).toNat=k
 ·rw [if_pos e]
  subst e
  by_cases l:(t / 2).toNat<L.length
  ·rw [if_pos l];simp [l]
  ·rw [if_neg l];simp [l]
 ·rw [if_neg e]
  constructor
  ·exact .inl
  ·rintro (h | ⟨h,_⟩)
   ·exact h
   ·exact absurd h.symm e
theorem AG:∀ (ts:List Int) (L:List Bool) (k:Nat),(rH L ts).getD k false=true ↔ L.getD k false=true\/((∃ t∈ts,k=(t / 2).toNat)/\k<L.length)
 | [],L,k=>by simp [rH]
 | t :: r,L,k=>by
  show (rH (mark L t) r).getD k false=true ↔ _
  rw [AG r (mark L t) k,El,xN]
  simp only [ZpC,exists_eq_or_imp]
  constructor
  ·rintro ((h | ⟨h,l⟩) | ⟨h,l⟩)
   ·exact .inl h
   ·exact .inr ⟨.inl h,l⟩
   ·exact .inr ⟨.inr h,l⟩
  ·rintro (h | ⟨h | h,l⟩)
   ·exact .inl (.inl h)
   ·exact .inl (.inr ⟨h,l⟩)
   ·exact .inr ⟨h,l⟩
end MF
namespace MF
section rs
variable (st:Nat->Bool)
noncomputable def xg (m:Nat) (P:List Pr) (L:List Bool) (j:Nat):List Bool :=
 if L.getD (m+1+j) false && !(st (m+1+j)) then mark (mark L (P.getD j (0,0)).1) (P.getD j (0,0)).2 else L
noncomputable def lE (m:Nat) (P:List Pr) (L:List Bool):Nat->List Bool
 | 0=>L
 | i+1=>xg st m P (lE m P L i) (P.length - 1 - i)
noncomputable def AN (m:Nat) (P:List Pr) (ts:List Int):List Bool:=lE st m P (rH (ZpV (1+m+P.length) false) ts) P.length
noncomputable def hZ (m:Nat) (P:List Pr) (ts:List Int) (k:Nat):Bool:=(AN st m P ts).getD k false
noncomputable def zv (m:Nat) (P:List Pr) (ts:List Int):List Nat:=(Zpv (1+m+P.length)).filter (hZ st m P ts)
variable {st}
theorem QS (m:Nat) (P:List Pr) (L:List Bool) (j:Nat):(xg st m P L j).length=L.length:=by
 unfold xg;split
 ·rw [xN,xN]
 ·rfl
theorem Aq (m:Nat) (P:List Pr) (L:List Bool):∀ i,(lE st m P L i).length=L.length
 | 0=>rfl
 | i+1=>by unfold lE;rw [QS,Aq m P L i]
theorem M4 (m:Nat) (P:List Pr) (ts:List Int):(AN st m P ts).length=1+m+P.length:=by
 unfold AN;rw [Aq,Et,Zqc]
theorem z9 (m:Nat) (P:List Pr) (L:List Bool) (j k:Nat):(xg st m P L j).getD k false=true ↔
  L.getD k false=true\/((L.getD (m+1+j) false=true/\st (m+1+j)=false)/\(k=((P.getD j (0,0)).1 / 2).toNat\/k=((P.getD j (0,0)).2 / 2).toNat)/\k<L.length):=by
 unfold xg
 split
 ·rename_i h
  have h':L.getD (m+1+j) false=true/\st (m+1+j)=false:=by simpa using h
  rw [El,El,xN]
  constructor
  ·rintro ((a | ⟨a,b⟩) | ⟨a,b⟩)
   ·exact .inl a
   ·exact .inr ⟨h',.inl a,b⟩
   ·exact .inr ⟨h',.inr a,b⟩
  ·rintro (a | ⟨_,a | a,b⟩)
   ·exact .inl (.inl a)
   ·exact .inl (.inr ⟨a,b⟩)
   ·exact .inr ⟨a,b⟩
 ·rename_i h
  constructor
  ·exact .inl
  ·rintro (a | ⟨a,_⟩)
   ·exact a
   ·exact absurd (by simpa using a) h
theorem A6 (m:Nat) (P:List Pr) (L:List Bool) (k:Nat) {i:Nat}:∀ {i'},i<=i'->(lE st m P L i).getD k false=true->(lE st m P L i').getD k false=true
  | 0, h, a => by have : i = 0 := by omega
                  subst this;exact a
  | j+1,h,a=>by
    rcases ZqP i (j+1) with l | l
    · exact (z9 ..).mpr (.inl (A6 m P L k (i':=j) (by omega) a))
    · have:i=j+1:=by omega
      subst this;exact a
theorem FI {m:Nat}{P:List Pr} (ho:Ok m P) (L:List Bool) {j:Nat} (hj:j<P.length):∀ {i},P.length - j<=i->i<=P.length->(lE st m P L i).getD (m+1+j) false=true->(lE st m P L (P.length - 1 - j)).getD (m+1+j) false=true
 | 0,h,_,a=>by omega
 | i+1,h,hi,a=>by
  have hp:P[P.length - 1 - i]? = some P[P.length - 1 - i]:=Zpw (by omega)
  have o:=ho _ _ hp
  have e:P.getD (P.length - 1 - i) (0,0)=P[P.length - 1 - i]:=by rw [Zp7,hp];rfl
  rcases (z9 ..).mp a with a | ⟨a,b,_⟩
  ·rcases ZqP i (P.length - j) with l | l
   ·have:i=P.length - 1 - j:=by omega
    subst this;exact a
   ·exact FI ho L hj l (by omega) a
  ·rw [e] at b
   omega
theorem F4 {m:Nat}{P:List Pr}{ts:List Int}{t:Int} (ht:t∈ts) (h:0<=t/\t<2 * ((m:Int)+1+P.length)):hZ st m P ts (t / 2).toNat=true :=
 A6 m P _ _ (i:=0) (ZqH _) ((AG ..).mpr (.inr ⟨⟨t,ht,rfl⟩,by rw [Zqc];omega⟩))
theorem Jh {α:Type}{P:List α}{j:Nat}{p:α} (hp:P[j]? = some p):j<P.length:=by
 rcases ZqP j P.length with z | z
 ·exact z
 ·rw [ZpS z] at hp;cases hp
theorem Hv {m:Nat}{P:List Pr} (ho:Ok m P) (ts:List Int) {j:Nat}{p:Pr} (hp:P[j]? = some p) (hn:hZ st m P ts (m+1+j)=true) (hs:st (m+1+j)=false):hZ st m P ts (p.1 / 2).toNat=true/\hZ st m P ts (p.2 / 2).toNat=true:=by
 have bU:=Jh hp
 have a:=FI ho _ bU (i:=P.length) (by omega) (ZqC _) hn
 have o:=ho _ _ hp
 have e:P.getD (P.length - 1 - (P.length - 1 - j)) (0,0)=p:=by rw [show P.length - 1 - (P.length - 1 - j)=j by omega,Zp7,hp];rfl
 have key:∀ k,(k=(p.1 / 2).toNat\/k=(p.2 / 2).toNat)->hZ st m P ts k=true:=by
  intro k hk
  refine A6 m P _ _ (i:=P.length - 1 - j+1) (by omega) ((z9 ..).mpr (.inr ⟨?_,?_,?_⟩))
  ·rw [show P.length - 1 - (P.length - 1 - j)=j by omega];exact ⟨a,hs⟩
  ·rw [e];exact hk
  ·rw [Aq,Et,Zqc];omega
 exact ⟨key _ (.inl rfl),key _ (.inr rfl)⟩
theorem GU {m:Nat}{P:List Pr}{ts:List Int} (S:Nat->Prop) (h1:∀ t∈ts,S (t / 2).toNat) (h2:∀ j p,P[j]? = some p->S (m+1+j)->st (m+1+j)=false->S (p.1 / 2).toNat/\S (p.2 / 2).toNat) {k:Nat} (h:hZ st m P ts k=true):S k:=by
 have key:∀ i,i<=P.length->∀ k,(lE st m P (rH (ZpV (1+m+P.length) false) ts) i).getD k false=true->S k:=by
  intro i
  induction i with
  | zero =>
   intro _ k a
   rcases (AG ..).mp a with a | ⟨⟨t,ht,rfl⟩,_⟩
   ·rw [Zp7,Zqp] at a
    split at a <;> cases a
   ·exact h1 t ht
  | succ i ih =>
   intro hi k a
   have hp:P[P.length - 1 - i]? = some P[P.length - 1 - i]:=Zpw (by omega)
   have e:P.getD (P.length - 1 - i) (0,0)=P[P.length - 1 - i]:=by rw [Zp7,hp];rfl
   rcases (z9 ..).mp a with a | ⟨⟨a,a'⟩,b,_⟩
   ·exact ih (by omega) k a
   ·rw [e] at b
    have:=h2 _ _ hp (ih (by omega) _ a) a'
    rcases b with rfl | rfl
    ·exact this.1
    ·exact this.2
 exact key P.length (ZqC _) k h
theorem Ra {m:Nat}{P:List Pr}{ts:List Int}{k:Nat} (h:1+m+P.length<=k):hZ st m P ts k=false:=by
 unfold hZ
 rw [Zp7,ZpS (by rw [M4];exact h)]
 rfl
end rs
theorem uw (k:Nat):(2 * (k:Int) / 2).toNat=k:=by omega
noncomputable def C8 (m:Nat) (P:List Pr) (n:Nat):List Nat:=zv (fun _=>false) m P [2 * (n:Int)]
theorem A2 {st:Nat->Bool}{m:Nat}{P:List Pr}{n:Nat} (h:n<1+m+P.length):hZ st m P [2 * (n:Int)] n=true:=by
 have:=F4 (st:=st) (m:=m) (P:=P) (ts:=[2 * (n:Int)]) (ZpH.mpr rfl) (by omega)
 rwa [uw] at this
structure fF (st:Nat->Bool) (m:Nat) (P:List Pr) (n i:Nat) (S:Nat->Prop):Prop where
 self:S n
 low:∀ k,S k->hZ st m P [2 * (n:Int)] k=true
 GD:∀ j p,P[j]? = some p->m+1+j<=n->n - (m+1+j)<i->S (m+1+j)->st (m+1+j)=false->S (p.1 / 2).toNat/\S (p.2 / 2).toNat
theorem fF.new {st:Nat->Bool}{m:Nat}{P:List Pr}{n:Nat}{S:Nat->Prop} (h:∀ k,S k ↔ k=n) (hn:n<1+m+P.length):fF st m P n 0 S :=
 ⟨(h n).mpr rfl,fun k hk=>by rw [(h k).mp hk];exact A2 hn,fun j p _ _ hi=>absurd hi (ZqV _)⟩
theorem fF.skip {st:Nat->Bool}{m:Nat}{P:List Pr}{n i:Nat}{S:Nat->Prop} (h:fF st m P n i S) (hn:¬ S (n - i)):fF st m P n (i+1) S:=by
 refine ⟨h.self,h.low,fun j p hp hl hi hs ht=>?_⟩
 rcases ZqP (n - (m+1+j)) i with l | l
 ·exact h.GD j p hp hl l hs ht
 ·have:m+1+j=n - i:=by omega
  rw [this] at hs
  exact absurd hs hn
end MF
namespace MF
noncomputable def zx (xs:List Int):Bool:=((Zpv (xs.length - 1)).map fun j=>decide (xs.getD j 0<xs.getD (j+1) 0)).all id
noncomputable def kG (xs:List Int) (k:Nat):Bool:=decide ((k:Int)∈xs)
noncomputable def DD (m:Nat) (P:List Pr) (k:Int) (xs:List Int):Bool :=
 decide ((m:Int)<k/\k<1+m+P.length/\k ∉ xs) && zx xs && (xs.map fun x=>decide (x∈(C8 m P k.toNat).map fun j:Nat=>(j:Int))).all id &&
  ((zv (kG xs) m P [2 * k]).map fun j=>decide (m<j) || decide ((j:Int)∈xs)).all id
theorem zY {st:Nat->Bool}{m:Nat}{P:List Pr}{ts:List Int}{j:Nat}:j∈zv st m P ts ↔ hZ st m P ts j=true:=by
 unfold zv
 rw [Zqj,ZpU]
 constructor
 ·exact fun h=>h.2
 ·intro h
  refine ⟨?_,h⟩
  rcases ZqP j (1+m+P.length) with l | l
  ·exact l
  ·rw [Ra l] at h;cases h
noncomputable def ly (xs:List Int):Prop:=∀ j,j+1<xs.length->xs.getD j 0<xs.getD (j+1) 0
theorem Jp (xs:List Int):zx xs=true ↔ ly xs:=by
 unfold zx ly
 rw [Zqe,Zp1]
 constructor
 ·intro h j hj
  have:=h j (ZpU.mpr (by omega))
  simpa using this
 ·intro h j hj
  rw [ZpU] at hj
  simpa using h j (by omega)
theorem FK {xs:List Int} (h:xs.Pairwise (· < ·)):ly xs:=by
 intro j hj
 have a:xs.getD j 0=xs[j]:=by simp [ZpE,show j<xs.length by omega]
 have b:xs.getD (j+1) 0=xs[j+1]:=by simp [ZpE,hj]
 rw [a,b]
 exact List.pairwise_iff_getElem.mp h j (j+1) (by omega) hj (by omega)
noncomputable def my (m:Nat) (P:List Pr) (k:Int) (xs:List Int):Prop:=∀ x∈xs,x∈(C8 m P k.toNat).map fun j:Nat=>(j:Int)
noncomputable def sR (m:Nat) (P:List Pr) (k:Int) (xs:List Int):Prop:=∀ j,hZ (kG xs) m P [2 * k] j=true->m<j\/(j:Int)∈xs
theorem O5 (m:Nat) (P:List Pr) (k:Int) (xs:List Int):DD m P k xs=true ↔ ((m:Int)<k/\k<1+m+P.length/\k ∉ xs)/\ly xs/\my m P k xs/\sR m P k xs:=by
 unfold DD
 rw [Zrf,Zrf,Zrf,decide_eq_true_eq,Jp,Zqe,Zp1,Zqe,Zp1]
 unfold my sR
 constructor
 ·rintro ⟨⟨⟨a,b⟩,c⟩,d⟩
  refine ⟨a,b,fun x hx=>by simpa using c x hx,fun j hj=>?_⟩
  have:=d j (zY.mpr hj)
  simpa using this
 ·rintro ⟨a,b,c,d⟩
  refine ⟨⟨⟨a,b⟩,fun x hx=>by simpa using c x hx⟩,fun j hj=>?_⟩
  have:=d j (zY.mp hj)
  simpa using this
theorem Lr {m:Nat}{P:List Pr}{n:Nat}{x:Int}:x∈(C8 m P n).map (fun j:Nat=>(j:Int)) ↔ 0<=x/\hZ (fun _=>false) m P [2 * (n:Int)] x.toNat=true:=by
 rw [ZpI]
 constructor
 ·rintro ⟨j,hj,rfl⟩
  exact ⟨by omega,by rw [Zq1];exact zY.mp hj⟩
 ·rintro ⟨h0,h⟩
  exact ⟨x.toNat,zY.mpr h,by omega⟩
structure lC (m:Nat) (P:List Pr) (n:Nat) (xs:List Int):Prop where
 G6:xs.Pairwise (· < ·)
 pos:∀ x∈xs,0<x/\x<n
 Av:∀ x∈xs,hZ (fun _=>false) m P [2 * (n:Int)] x.toNat=true
 stop:sR m P n xs
theorem lC.cut {m:Nat}{P:List Pr}{n:Nat}{xs:List Int} (h:lC m P n xs) (h1:m<n) (h2:n<1+m+P.length):DD m P n xs=true:=by
 rw [O5]
 refine ⟨⟨by omega,by omega,fun z=>?_⟩,FK h.G6,fun x hx=>?_,h.stop⟩
 ·have:=h.pos _ z;omega
 ·rw [Zq1,Lr]
  exact ⟨by have:=h.pos x hx;omega,h.Av x hx⟩
theorem PY {m:Nat}{P:List Pr} (ho:Ok m P) {n:Nat}{xs ys:List Int}{j:Nat}{p:Pr} (hn:n<1+m+P.length) (hp:P[j]? = some p) (hs:sR m P n xs)
  (hy:∀ x:Int,(x∈xs/\x≠((m+1+j:Nat):Int))\/x=p.1 / 2\/x=p.2 / 2->x∈ys):sR m P n ys:=by
 intro k hk
 have o:=ho j p hp
 have key:=GU (st:=kG ys) (S:=fun k=>hZ (kG xs) m P [2 * (n:Int)] k=true\/(k:Int)=p.1 / 2\/(k:Int)=p.2 / 2) ?_ ?_ hk
 ·rcases key with h | h
  ·rcases hs k h with h | h
   ·exact .inl h
   ·by_cases e:(k:Int)=((m+1+j:Nat):Int)
    ·left;omega
    ·exact .inr (hy _ (.inl ⟨h,e⟩))
  ·exact .inr (hy _ (.inr h))
 ·intro t ht
  rw [ZpH] at ht
  subst ht
  left
  exact F4 (ZpH.mpr rfl) (by omega)
 ·intro i q hq hS ju
  have oi:=ho i q hq
  have Jc:((m+1+i:Nat):Int) ∉ ys:=by unfold kG at ju;simpa using ju
  rcases hS with h | h
  ·by_cases hx:((m+1+i:Nat):Int)∈xs
   ·have e:i=j:=by
     by_cases e:((m+1+i:Nat):Int)=((m+1+j:Nat):Int)
     ·omega
     ·exact absurd (hy _ (.inl ⟨hx,e⟩)) Jc
    subst e
    rw [hp] at hq
    cases hq
    exact ⟨.inr (.inl (by omega)),.inr (.inr (by omega))⟩
   ·have hst':kG xs (m+1+i)=false:=by unfold kG;simpa using hx
    have:=Hv ho [2 * (n:Int)] hq h hst'
    exact ⟨.inl this.1,.inl this.2⟩
  ·exact absurd (hy _ (.inr h)) Jc
theorem lC.first {m:Nat}{P:List Pr} (ho:Ok m P) {j:Nat}{p:Pr} (hp:P[j]? = some p):lC m P (m+1+j) [p.1 / 2,p.2 / 2]:=by
 have o:=ho j p hp
 have bU:=Jh hp
 have rc:=Hv (st:=fun _=>false) ho [2 * ((m+1+j:Nat):Int)] hp (A2 (by omega)) rfl
 refine ⟨?_,?_,?_,?_⟩
 ·rw [List.pairwise_cons]
  refine ⟨fun y hy=>?_,Zqx ..⟩
  rw [ZpH] at hy
  subst hy
  omega
 ·intro x hx
  simp only [ZpC,ZpY,or_false] at hx
  rcases hx with rfl | rfl <;> omega
 ·intro x hx
  simp only [ZpC,ZpY,or_false] at hx
  rcases hx with rfl | rfl
  ·exact rc.1
  ·exact rc.2
 ·have h0:sR m P (m+1+j:Nat) [((m+1+j:Nat):Int)]:=by
   intro k hk
   have:=GU (st:=kG [((m+1+j:Nat):Int)]) (S:=fun k=>k=m+1+j) ?_ ?_ hk
   ·left;omega
   ·intro t ht
    rw [ZpH] at ht
    subst ht
    rw [uw]
   ·intro i q hq hS ju
    unfold kG at ju
    simp [hS] at ju
  refine PY ho (by omega) hp h0 ?_
  rintro x (⟨hx,lI⟩ | rfl | rfl)
  ·rw [ZpH] at hx
   exact absurd hx lI
  ·exact ZpK ..
  ·exact ZpL _ (ZpH.mpr rfl)
theorem C1:∀ (N:Nat) (ws:List Nat),ws.Nodup->(∀ x∈ws,x<N)->ws.length<=N
 | 0,ws,_,h=>by
  cases ws with
  | nil=>exact ZqC _
  | cons x r=>exact absurd (h x (ZpK ..)) (ZqV _)
 | N+1,ws,hd,h=>by
  by_cases hN:N∈ws
  ·have hl:=List.length_erase_of_mem hN
   have:=C1 N (ws.erase N) (hd.erase N) (fun x hx=>by
    have h1:=h x (List.mem_of_mem_erase hx)
    have h2:x≠N:=fun e=>by subst e;exact hd.not_mem_erase hx
    omega)
   omega
  ·have:=C1 N ws hd fun x hx=>by
    have h1:=h x hx
    have h2:x≠N:=fun e=>hN (e ▸ hx)
    omega
   omega
structure iY (m:Nat) (P:List Pr) (n:Nat) (xs:List Int) (ws:List Nat) (c:Nat):Prop where
 nd:ws.Nodup
 self:n∈ws
 Rp:∀ w∈ws,hZ (kG xs) m P [2 * (n:Int)] w=true
 out:∀ w∈ws,(w:Int) ∉ xs
 le:∀ w∈ws,w<=n
 high:∀ (i:Nat) w,i<c->ws[i]? = some w->m<w
 GD:∀ (i:Nat) j p,i<c->ws[i]? = some (m+1+j)->P[j]? = some p->(p.1 / 2∈xs\/(p.1 / 2).toNat∈ws)/\(p.2 / 2∈xs\/(p.2 / 2).toNat∈ws)
theorem iY.len {m:Nat}{P:List Pr}{n:Nat}{xs:List Int}{ws:List Nat}{c:Nat} (h:iY m P n xs ws c):ws.length<=n+1:=C1 _ _ h.nd fun x hx=>Nat.lt_succ_of_le (h.le x hx)
theorem iY.first {m:Nat}{P:List Pr}{n:Nat}{xs:List Int} (hn:n<1+m+P.length) (hx:(n:Int) ∉ xs):iY m P n xs [n] 0 :=
 ⟨by simp,ZpH.mpr rfl,fun w hw=>by rw [ZpH] at hw;subst hw;exact A2 hn,fun w hw=>by rw [ZpH] at hw;subst hw;exact hx,fun w hw=>by rw [ZpH] at hw;omega,
  fun i w hi=>absurd hi (ZqV _),fun i j p hi=>absurd hi (ZqV _)⟩
end MF
set_option maxHeartbeats 4000000
namespace L2
open PySem PySem.Spec PyProof.Rows
theorem Ky {K:ZoW}{ta:TA}{k:Nat}{sel:List Nat}{g:TG}{tt:TT}{el:TE}{σ:L2.St}{H:Hp}{Q:VK}:cO (ka K ta) k sel g tt el σ H Q=ta σ H (fun vs H1=>∃ a b:Addr,vs=[.ref a,.ref b]/\(∃ xs,aI K H1 a xs)/\(∃ ys,aI K H1 b ys)/\iF (xS K a b) σ k sel g tt el Q H1):=rfl
theorem Jw {K:ZoW}{σ:L2.St}{k:Nat}{sel:List Nat}{g:TG}{tt:TT}{te:TE}{Q:VK}{H:Hp}{p a b:Addr}{xs ys:List V}{n:Nat} (hn:n=min xs.length ys.length) (Sv:L2.St->Prop) (Pv:Nat->Hp->Prop) (hS:Sv (cst σ k sel)) (h0:Pv 0 (upd H p (.lst [])))
  (hk:∀ i H2,i<=n->Pv i H2->aI K H2 a xs/\aI K H2 b ys)
  (step:∀ i x y t σ2 H2 (R:L2.St->Hp->Prop),xs[i]? = some x->ys[i]? = some y->H2 t=none->Sv σ2->Pv i H2->(∀ σ' H',Sv σ'->Pv (i+1) H'->R σ' H')->g (.ref t) σ2 (upd H2 t (.tup [x,y])) fun σ4 H4=>tt σ4 H4 fun bb H5 =>
   if bb=true then te σ4 H5 fun v H6=>∃ zs,H6 p=some (.lst zs)/\zs.length<sizeLine/\R σ4 (upd H6 p (.lst (zs ++ [v]))) else R σ4 H5)
  (hQ:∀ H2,Pv n H2->Q (.ref p) H2):lS (xS K a b) σ k sel g tt te Q H p:=by
 refine ⟨fun i m σ2 H2=>i<=n/\m=n - i+1/\Sv σ2/\Pv i H2,⟨n+1,ZqH _,rfl,hS,h0⟩,?_⟩
 rintro i m σ2 H2 ⟨hi,rfl,hs,hP⟩
 obtain ⟨s1,s2⟩:=hk i H2 hi hP
 by_cases bU:i<n
 ·right
  have h1:i<xs.length:=by omega
  have h2:i<ys.length:=by omega
  refine ⟨⟨xs,ys,xs[i],ys[i],s1,s2,Zpw h1,Zpw h2⟩,?_⟩
  rintro x H3 ⟨T,x1,y1,e1,e2,e3,e4,e5⟩
  subst e1 e3
  exact step i x1 y1 T σ2 H2 (fun σ' H'=>∃ m',m'<n - i+1/\(i+1<=n/\m'=n - (i+1)+1/\Sv σ'/\Pv (i+1) H')) (e4 xs s1) (e5 ys s2) e2 hs hP fun σ' H' g1 g2=>⟨_,by omega,bU,rfl,g1,g2⟩
 ·left
  have e:i=n:=by omega
  subst e
  exact ⟨⟨xs,ys,s1,s2,by omega⟩,hQ H2 hP⟩
theorem NR (ks:List Int) (j:Int):∀ (acc:List (Key × V)),(cV ((ks.map fun k=>((.inl k:Key),V.bl true)).foldl (fun acc kv=>d6 acc kv.1 kv.2) acc) (.inl j)).isSome=((cV acc (.inl j)).isSome || decide (j∈ks)):=by
 induction ks with
 | nil=>intro acc;simp
 | cons k r ih =>
  intro acc
  rw [Zpx,Zp3,ih,yu]
  by_cases e:j=k
  ·subst e
   simp
  ·rw [if_neg (fun z=>e (Sum.inl.inj z))]
   simp [e]
noncomputable def AD (t:TA):TE:=fun σ H Q=>t σ H fun vs H1=>∃ i j:Int,vs=[.int i,.int j]/\(-(2 ^ 62)<=i/\i<2 ^ 62 /\ -(2 ^ 62)<=j/\j<2 ^ 62)/\(j - i).toNat<=2 ^ 24/\(j - i).toNat<=sizeLine/\∀ p H',dP H1 p (.lst ((Zpv (j - i).toNat).map fun k:Nat=>V.int (i+(k:Int)))) H'->Q (.ref p) H'
theorem QL {X:Cx}{a b:Expr}{t:TA}{p1 p2 p3 p4:Pos} (hc:X.calm=true) (xc:Gl X "list") (wQ:Gl X "range") (Dy:X.mg "list" = none) (CC:X.mg "range" = none) (ha:PA X [a,b] t)
  (hs:starEach [a,b] X.env=[(false,eval a X.env),(false,eval b X.env)]:=by rfl) (jN:starEach [b] X.env=[(false,eval b X.env)]:=by rfl)
  (kB:starEach [Expr.Call (.Name "range" p2) [a,b] [] p3] X.env=(false,eval (Expr.Call (.Name "range" p2) [a,b] [] p3) X.env) :: starEach [] X.env:=by rfl) (nT:(backTo p4 (starEach [] X.env)).any (·.1)=false:=by rfl) :
  PE X (.Call (.Name "list" p1) [.Call (.Name "range" p2) [a,b] [] p3] [] p4) (AD t):=by
 intro pins s σ H Q I h
 refine wpAny_Call_Name_kw (j9 I xc Dy PyProof.Rows.boot_list ?_ (by decide) (by decide))
 refine PyProof.Rows.callWith_type1 ?_ kB nT
 rw [kB]
 show wpAny _ _ (spliced ((false,eval (Expr.Call (.Name "range" p2) [a,b] [] p3) X.env) :: backTo p4 (starEach [] X.env))) _ _ s
 refine Calls.spliced_cons ?_
 refine wpAny_Call_Name_kw (j9 I wQ CC boot_range ?_ (by decide) (by decide))
 refine PyProof.Rows.callWith_type1 (aF (ha p3 pins s σ H _ I h) fun us s1 ⟨vs,H1,I1,r1,q1⟩=>?_) (by rw [hs,jN]) (by rw [jN];rfl)
 obtain ⟨lo,hi,e,⟨b1,b2,b3,b4⟩,b5,b6,q⟩:=q1
 subst e
 obtain ⟨u1,u2,rfl,e1,e2⟩:=wM r1
 obtain ⟨tk,rfl⟩:=e1
 obtain ⟨tu,rfl⟩:=e2
 refine call_range_2 (Calls.spliced_nil ?_)
 have I2:Inv X pins σ H1 { s1 with heap:=s1.heap.push { cls:=.type "range",data:=.fields #[.int lo tk,.int hi tu,.int 1 s1.toks] },toks:=s1.toks+1 }:=I1.kept fun b o e=>Heap.get?_push_of_some _ e
 have hsz:Builtin.Range.rangeSize lo hi 1=((hi - lo).toNat:Int):=by rw [rangeSize_one];split <;> omega
 refine call_list_range (I.ok.hd hc) (IsRange.new ..) (small_one b1 b2 b3 b4) hsz b5 fun h' t' acc c up at' items=>?_
 obtain ⟨hl,hit⟩:=items
 generalize jN:s1.heap.push { cls:=.type "range",data:=.fields #[.int lo tk,.int hi tu,.int 1 s1.toks] }=k2 at I2 up at' ⊢
 have eP:H1 k2.objs.size=none:=I2.aw.fresh (ZqC _)
 refine ⟨.ref k2.objs.size,upd H1 k2.objs.size (.lst ((Zpv (hi - lo).toNat).map fun k:Nat=>V.int (lo+(k:Int)))),?_,rfl,q _ _ ⟨eP,rfl⟩⟩
 refine I2.laid (a:=k2.objs.size) (t':=t') up (ZqC _) ⟨by rw [Zpu,ZpO];exact b6,acc.toList,c,?_,by simpa using at'⟩
 have:=HF (hi - lo).toNat acc.toList (fun i=>V.int (lo+(i:Nat))) 0 (by simpa using hl) fun i u hu=>by
  have hu':acc[i]? = some u:=by simpa using hu
  obtain ⟨t2,ht2⟩:=hit i u hu'
  exact ⟨t2,by rw [ht2];congr 1 <;> omega⟩
 simpa using this
noncomputable def j6:List V->Hp->VK->Prop:=fun vs H Q=>match vs with
 | [.int i]=>i.natAbs.log2<1920/\Q (.str (toString i)) H
 | _=>False
theorem kO {X:Cx}:fD X (.type "str") j6:=by
 intro pins s σ H xs us Q I r h
 match xs,h with
 | [.int i],h=>exact J8 pins s σ H _ us Q I r ⟨i,rfl,h.1,h.2⟩
theorem MT {ta:TA}{k:Nat}{sel:List Nat}{g:TG}{tt:TT}{el:TE}{σ:L2.St}{H:Hp}{Q:VK}:cO (sC ta) k sel g tt el σ H Q=ta σ H (fun vs H1=>∃ i j:Int,vs=[.int i,.int j]/\(-(2 ^ 62)<=i/\i<2 ^ 62 /\ -(2 ^ 62)<=j/\j<2 ^ 62)/\iF (ie i (j - i).toNat) σ k sel g tt el Q H1):=rfl
end L2
set_option maxHeartbeats 400000
namespace SS
open PySem PySem.Spec PyProof.Rows
section
variable {prog:Program}{w:World}{A:Around}{E:Value->Shared->Prop}{s:Shared}
theorem L1 {h:Heap}{a:Addr}{vs:List Value}{out:Array Value}{n:Nat} (ho:h.get? a=some (seqObj "list" vs.toArray n)):(∃ e,(sortedHeap h a vs out).get? a=some (seqObj "list" out e))/\∀ b o,b≠a->h.get? b=some o->(sortedHeap h a vs out).get? b=some o:=by
 unfold sortedHeap
 have g1:=get?_update_seq ho (fun _=>#[])
 have g2:=Heap.get?_push_of_some (seqObj "list" #[] 0) (Heap.get?_push_of_some (seqObj "tuple" vs.toArray 0) g1)
 exact ⟨⟨_,get?_update_seq g2 (fun _=>out)⟩,fun b o hb e=>(Heap.get?_update_other _ _ (Ne.symm hb)).trans (Heap.get?_push_of_some _ (Heap.get?_push_of_some _ ((Heap.get?_update_other _ _ (Ne.symm hb)).trans e)))⟩
end
end SS
set_option maxHeartbeats 4000000
namespace L2
open PySem PySem.Spec PyProof.Rows
end L2
set_option maxHeartbeats 4000000
namespace DE
open PySem DZ
theorem QZ:entryFor table "enumerate.__getattribute__" = some Builtin.«object.__getattribute__» :=
 entryFor_alias (id':="object.__getattribute__") (by kernel_rfl) (by first | rfl | decide +kernel) (by decide +kernel) (by kernel_rfl)
theorem LC:typeLookup (.type "enumerate") "keys" = pure none:=by rw [typeLookup_type,builtinLookup_eq_fast];kernel_rfl
section
variable {prog:Program}{w:World}{A:Around}{E:Value->Shared->Prop}{h:Heap}{g:Array GenState}{d:Drawn}{t:Nat}{os:OsState}{z:Addr}{vs:Array Value}
theorem DF {tk:Tok}{Q:Fin->Shared->Prop} (hh:A.handled=none) (hz:h.get? z=some { cls:=.type "enumerate",dict:=none,data:=.fields vs,slots:=#[] })
  (hE:∀ h' e t',(∀ c o,h.get? c=some o->h'.get? c=some o)->(∃ o,h'.get? e=some o/\o.cls=.type "AttributeError")->E (.ref e) ⟨h',g,d,t',os⟩) :
  wpAny (model prog w) A (Builtin.«object.__getattribute__» ⟨[.ref z,.str "keys" tk],[]⟩) Q E ⟨h,g,d,t,os⟩:=by
 have hT:(⟨h,g,d,t,os⟩:Shared).TypeIs (.ref z) "enumerate":=⟨_,hz,rfl⟩
 have f4:=LC
 repeat (any_goals (first | assumption | wp_step))
 refine wpAny_raiseAttrError hh (fun h' tk' e x=>?_) (attrMsg_fits (by decide +kernel) (by decide +kernel))
 obtain ⟨t',u',he⟩:=x.there
 exact hE h' e tk' (fun c o q=>x.keeps c o q) ⟨_,he,rfl⟩
theorem C6 {tk:Tok}{R:Result->Shared->Prop} (hh:A.handled=none) (hz:h.get? z=some { cls:=.type "enumerate",dict:=none,data:=.fields vs,slots:=#[] })
  (hE:∀ h' e t',(∀ c o,h.get? c=some o->h'.get? c=some o)->(∃ o,h'.get? e=some o/\o.cls=.type "AttributeError")->R (.error (.ref e)) ⟨h',g,d,t',os⟩) :
  codeAny (model prog w) A (.call (.builtin "enumerate.__getattribute__") ⟨[.ref z,.str "keys" tk],[]⟩) R ⟨h,g,d,t,os⟩ :=
 codeAny_call_builtin F.slot_enumerate_getattribute.plain QZ (F.slot_enumerate_getattribute.check _ _ _ _ _ _ _ _ (show (⟨h,g,d,t,os⟩:Shared).TypeIs (.ref z) "enumerate" from ⟨_,hz,rfl⟩) (F.args_enumerate_getattribute_2 _ _) (DF hh hz hE))
theorem Ce {tk:Tok}{Q:Value->Shared->Prop} (hh:A.handled=none) (hz:h.get? z=some { cls:=.type "enumerate",dict:=none,data:=.fields vs,slots:=#[] })
  (hE:∀ h' e t',(∀ c o,h.get? c=some o->h'.get? c=some o)->(∃ o,h'.get? e=some o/\o.cls=.type "AttributeError")->E (.ref e) ⟨h',g,d,t',os⟩) :
  wpAny (model prog w) A (getAttrBy (.ref z) (.str "keys" tk) false) Q E ⟨h,g,d,t,os⟩:=by
 have hT:(⟨h,g,d,t,os⟩:Shared).TypeIs (.ref z) "enumerate":=⟨_,hz,rfl⟩
 have f2:=F.slot_enumerate_getattribute.lookup
 have f3:=F.slot_enumerate_getattribute.bind (.ref z)
 have f1:=sub_AttributeError
 repeat (any_goals (first | assumption | wp_step))
 refine C6 hh hz fun h' e t' k he=>?_
 obtain ⟨o,ho,hc⟩:=he
 have OE:(⟨h',g,d,t',os⟩:Shared).TypeIs (.ref e) "AttributeError":=⟨o,ho,hc⟩
 have fin:=hE h' e t' k ⟨o,ho,hc⟩
 have f5:typeLookup (.type "enumerate") "__getattr__" = pure none:=by rw [typeLookup_type,builtinLookup_eq_fast];kernel_rfl
 show wpAny _ _ (getattributeRaised _ _ _ _ _ _ _) _ _ _
 unfold getattributeRaised
 repeat (any_goals (first | assumption | wp_step))
theorem Cn {Q:Option Value->Shared->Prop} (hh:A.handled=none) (hz:h.get? z=some { cls:=.type "enumerate",dict:=none,data:=.fields vs,slots:=#[] })
  (hq:∀ h' t',(∀ c o,h.get? c=some o->h'.get? c=some o)->Q none ⟨h',g,d,t',os⟩) :
  wpAny (model prog w) A (getAttr? (.ref z) "keys") Q E ⟨h,g,d,t,os⟩:=by
 unfold getAttr? getAttrBy?
 have f1:=sub_AttributeError
 refine wpAny_bind (wpAny_mkText ?_)
 refine wpAny_bind (wpAny_attempt (Ce hh hz fun h' e t' k he=>?_))
 obtain ⟨o,ho,hc⟩:=he
 refine wpAny_bind (wpAny_isInstance (T:="AttributeError") (b:=true) ⟨o,ho,hc⟩ f1 ?_)
 exact wpAny_pure (hq _ _ k)
end
structure ES (e it l:Addr) (xs:Array Value) (i:Nat) (h:Heap):Prop where
 eo:∃ f0 f1 old,h.get? e=some { cls:=.type "enumerate",dict:=none,data:=.fields #[f0,.bool f1,.ref it,rawInt i,.none,old],slots:=#[] }/\(f0=.none\/∃ (T:Addr) (o:Obj),f0=rawInt T/\h.get? T=some o/\T≠e/\T≠it)
 a1:h.IsListIter it l i
 l1:h.IsList l xs
section
variable {prog:Program}{w:World}{A:Around}{E:Value->Shared->Prop}{s:Shared}
theorem P0 {e it l:Addr}{xs:Array Value}{i:Nat}{x:Value}{Q:Option Value->Shared->Prop} (n1:e≠it) (n2:l≠e) (n3:l≠it) (S:ES e it l xs i s.heap) (hx:xs[i]? = some x)
  (q:∀ h' T tk t',ES e it l xs (i+1) h'->h'.get? T=some { cls:=.type "tuple",data:=.seq #[.int i tk,x] }->s.heap.objs.size<=T->(∀ c o,c≠e->c≠it->s.heap.get? c=some o->h'.get? c=some o)->Q (some (.ref T)) { s with heap:=h',toks:=t' }) :
  wpAny (model prog w) A (pyNext (.ref e)) Q E s:=by
 obtain ⟨⟨f0,f1,old,he,hf⟩,hit,hl⟩:=S
 have hT:s.TypeIs (.ref e) "enumerate":=⟨_,he,rfl⟩
 unfold pyNext
 refine wpAny_bind (wpAny_attempt (wpAny_callSpecial?_slot (name:=Str.ofString "__next__") hT F.slot_enumerate_next (wpAny_call_entry F.slot_enumerate_next hT F.entry_enumerate_next ?_ (F.args_enumerate_next_1 _))))
 obtain ⟨hp,g,d,tk,os⟩:=s
 dsimp only at he hit hl hf q
 show wpAny _ _ (field (.ref e) 2 >>= _) _ _ _;skip
 refine wpAny_bind (wpAny_field he rfl (x:=.ref it) rfl ?_)
 refine wpAny_bind (wpAny_nextOf_list_item hit hl hx fun h1 hit1 s1=>?_)
 replace s1:Heap.SameBut it hp h1:=s1
 have zC:=(s1.2 e n1).trans he
 show wpAny _ _ (field (.ref e) 3 >>= _) _ _ ⟨h1,g,d,tk,os⟩
 refine wpAny_bind (wpAny_field zC rfl (x:=rawInt i) rfl ?_)
 show wpAny _ _ (field (.ref e) 4 >>= _) _ _ ⟨h1,g,d,tk,os⟩
 refine wpAny_bind (wpAny_field zC rfl (x:=.none) rfl ?_)
 show wpAny _ _ (mkInt i >>= _) _ _ ⟨h1,g,d,tk,os⟩
 refine wpAny_bind (wpAny_mkInt ?_);skip
 show wpAny _ _ (setField (.ref e) 3 (rawInt ((i:Int)+1)) >>= _) _ _ ⟨h1,g,d,tk+1,os⟩
 refine wpAny_bind (wpAny_setField_rec zC (by simp) fun h2 kB s2=>?_)
 replace s2:Heap.SameBut e h1 h2:=s2
 replace kB:h2.get? e=some { cls:=.type "enumerate",dict:=none,data:=.fields #[f0,.bool f1,.ref it,rawInt ((i:Int)+1),.none,old],slots:=#[] }:=kB
 show wpAny _ _ (setField (.ref e) 4 .none >>= _) _ _ ⟨h2,g,d,tk+1,os⟩
 refine wpAny_bind (wpAny_setField_rec kB (by simp) fun h3 he3 s3=>?_)
 replace s3:Heap.SameBut e h2 h3:=s3
 replace he3:h3.get? e=some { cls:=.type "enumerate",dict:=none,data:=.fields #[f0,.bool f1,.ref it,rawInt ((i:Int)+1),.none,old],slots:=#[] }:=he3
 show wpAny _ _ (newTuple [.int i tk,x] >>= _) _ _ ⟨h3,g,d,tk+1,os⟩
 refine wpAny_bind (wpAny_newTuple ?_)
 have rE:=Heap.get?_push_of_some { cls:=.type "tuple",data:=.seq #[.int i tk,x] } he3
 have hsz:h3.objs.size=hp.objs.size:=by rw [s3.1,s2.1,s1.1]
 have Dz:(h3.push { cls:=.type "tuple",data:=.seq #[.int i tk,x] }).get? hp.objs.size=some { cls:=.type "tuple",data:=.seq #[.int i tk,x] }:=by rw [<- hsz];exact Heap.get?_push_size _ rfl
 have yK:e<hp.objs.size:=Heap.lt_size he
 have HB:it<hp.objs.size:=by obtain ⟨o,ho,_⟩:=hit;exact Heap.lt_size ho
 have QT:∀ b o,b≠e->b≠it->hp.get? b=some o->h3.get? b=some o:=fun b o be bi hb=>s3.extBut b o be (s2.extBut b o be (s1.extBut b o bi hb))
 have iA:∀ b o,b≠e->b≠it->hp.get? b=some o->(h3.push { cls:=.type "tuple",data:=.seq #[.int i tk,x] }).get? b=some o:=fun b o be bi hb=>Heap.get?_push_of_some _ (QT b o be bi hb)
 have oB:(h3.push { cls:=.type "tuple",data:=.seq #[.int i tk,x] }).IsListIter it l (i+1):=by
  obtain ⟨o,ho,r⟩:=(hit1.extBut s2.extBut n1.symm).extBut s3.extBut n1.symm
  exact ⟨o,Heap.get?_push_of_some _ ho,r⟩
 show wpAny _ _ (Builtin.SmallTypes.ownedTupleIsFree (.ref e) >>= _) _ _ ⟨h3.push { cls:=.type "tuple",data:=.seq #[.int i tk,x] },g,d,tk+1,os⟩
 rw [hsz]
 generalize h3.push { cls:=.type "tuple",data:=.seq #[.int i tk,x] }=h4 at *
 clear he3 s3 kB s2 zC s1 hit1
 refine wpAny_bind ?_
 unfold Builtin.SmallTypes.ownedTupleIsFree
 refine wpAny_bind (wpAny_field rE rfl (x:=f0) rfl ?_)
 rcases hf with rfl | ⟨T0,oT,rfl,hT0,m1,m2⟩
 ·refine wpAny_pure ?_
  simp only [if_true]
  refine wpAny_bind (wpAny_rule ?_)
  refine wpAny_bind (wpAny_field rE rfl (x:=old) rfl ?_)
  refine wpAny_bind (wpAny_setField_rec rE (by simp) fun h5 he5 s5=>?_)
  show wpAny _ _ (Builtin.SmallTypes.ownedTupleHandOut (.ref e) (.ref hp.objs.size) >>= _) _ _ _
  refine wpAny_bind ?_
  unfold Builtin.SmallTypes.ownedTupleHandOut
  refine wpAny_bind (wpAny_setField_rec he5 (by simp) fun h6 he6 s6=>?_)
  refine wpAny_setField_rec he6 (by simp) fun h7 he7 s7=>?_
  have up:∀ b o,b≠e->h4.get? b=some o->h7.get? b=some o:=fun b o be hb=>s7.extBut b o be (s6.extBut b o be (s5.extBut b o be hb))
  have uO:=up _ _ (ZqJ yK) Dz
  refine wpAny_bind (wpAny_letGo (wpAny_pure ⟨_,rfl,wpAny_pure (q h7 hp.objs.size tk (tk+1) ⟨⟨rawInt hp.objs.size,false,x,he7,.inr ⟨_,_,rfl,uO,ZqJ yK,ZqJ HB⟩⟩,oB.at fun o z=>up _ o n1.symm z,hl.at fun o z=>up _ o n2 (iA _ o n2 n3 z)⟩ uO (ZqC _) fun c o c1 c2 z=>up _ _ c1 (iA _ _ c1 c2 z))⟩))
 ·show wpAny _ _ (loadIfAlive (Int.toNat T0) >>= _) _ _ _
  refine wpAny_bind (DZ.alive (o:=oT) (by rw [Zq1];exact iA _ _ m1 m2 hT0) ?_)
  show wpAny _ _ (field (.ref e) 1 >>= _) _ _ _
  refine wpAny_bind (wpAny_field rE rfl (x:=.bool f1) rfl ?_)
  cases f1 with
  | true =>
   rw [if_neg (by decide)]
   refine wpAny_bind (wpAny_pure (wpAny_pure ?_));skip
   rw [if_neg (by decide)]
   exact wpAny_pure ⟨_,rfl,wpAny_pure (q h4 hp.objs.size tk (tk+1) ⟨⟨rawInt T0,true,old,rE,.inr ⟨_,_,rfl,iA _ _ m1 m2 hT0,m1,m2⟩⟩,oB,hl.at fun o z=>iA _ o n2 n3 z⟩ Dz (ZqC _) fun c o c1 c2 z=>iA _ _ c1 c2 z)⟩
  | false =>
   rw [if_pos (by decide)]
   refine wpAny_bind (wpAny_setField_rec rE (by simp) fun h5 he5 s5=>wpAny_pure ?_)
   rw [if_neg (by decide)]
   have up:∀ b o,b≠e->h4.get? b=some o->h5.get? b=some o:=fun b o be hb=>s5.extBut b o be hb
   exact wpAny_pure ⟨_,rfl,wpAny_pure (q h5 hp.objs.size tk (tk+1) ⟨⟨rawInt T0,true,old,he5,.inr ⟨_,_,rfl,up _ _ m1 (iA _ _ m1 m2 hT0),m1,m2⟩⟩,oB.at fun o z=>up _ o n1.symm z,hl.at fun o z=>up _ o n2 (iA _ o n2 n3 z)⟩ (up _ _ (ZqJ yK) Dz) (ZqC _) fun c o c1 c2 z=>up _ _ c1 (iA _ _ c1 c2 z))⟩
theorem P8 {e it l:Addr}{xs:Array Value}{i:Nat}{Q:Option Value->Shared->Prop} (hh:A.handled=none) (S:ES e it l xs i s.heap) (hx:xs[i]? = none)
  (q:∀ h',(∀ c o,c≠e->c≠it->s.heap.get? c=some o->h'.get? c=some o)->Q none { s with heap:=h' }):wpAny (model prog w) A (pyNext (.ref e)) Q E s:=by
 obtain ⟨⟨f0,f1,old,he,hf⟩,hit,hl⟩:=S
 have hT:s.TypeIs (.ref e) "enumerate":=⟨_,he,rfl⟩
 unfold pyNext
 refine wpAny_bind (wpAny_attempt (wpAny_callSpecial?_slot (name:=Str.ofString "__next__") hT F.slot_enumerate_next (wpAny_call_entry F.slot_enumerate_next hT F.entry_enumerate_next ?_ (F.args_enumerate_next_1 _))))
 show wpAny _ _ (field (.ref e) 2 >>= _) _ _ _;skip
 refine wpAny_bind (wpAny_field he rfl (x:=.ref it) rfl ?_)
 refine wpAny_bind (wpAny_nextOf_list_end hh hit hl hx fun h' x he' hx'=>?_)
 obtain ⟨o,ho,hc⟩:=hx'
 refine wpAny_bind (wpAny_isInstance (T:="StopIteration") (b:=true) ⟨o,ho,hc⟩ isSubtype_stop (wpAny_pure (q _ fun c o c1 c2 z=>he' c o c2 z)))
variable {κ:Type} [DecidableEq κ] {knd:KeyKind prog w κ}
theorem yf {e it l d:Addr}{xs:Array Value}{ks:List κ}{R:Result->Shared->Prop} (hh:A.handled=none) (n1:e≠it) (n2:l≠e) (n3:l≠it) (m1:e≠d) (m2:it≠d) (m3:l≠d)
  (hk:ks.length=xs.size) (zI:∀ (j:Nat) k t,ks[j]? = some k->knd.is k (.int (j:Nat) t)=true) (hz:xs.size<=1000) :
  ∀ (m i:Nat) (s:Shared) (kvs:List (κ × Value)),i+m=xs.size->kvs.length<=i->ES e it l xs i s.heap->s.heap.DictOf knd d kvs ->
   (∀ h' t',h'.DictOf knd d (((ks.drop i).zip (xs.toList.drop i)).foldl (fun e p=>stored e p.1 p.2) kvs)->(∀ c o,c≠d->c≠e->c≠it->s.heap.get? c=some o->h'.get? c=some o)->R (.ok (.ret .none)) { s with heap:=h',toks:=t' }) ->
   codeAny (model prog w) A (.builtin "dict.update.loop" ⟨[.ref d,.ref e,rawInt i,.none],[]⟩) R s
 | 0,i,s,kvs,hm,hl,S,hd,hR=>by
  refine codeAny_builtin yQ ?_
  rw [Around.under_plainId mV _]
  unfold Builtin.«dict.update.loop»
  refine wpAny_bind (P8 hh S (Zrb (by omega)) fun h' k=>?_)
  have e1:ks.drop i=[]:=Zqv (by omega)
  rw [e1] at hR
  have hd':h'.DictOf knd d kvs:=by
   obtain ⟨o,es,ep,ho,r⟩:=hd
   exact ⟨o,es,ep,k _ _ m1.symm m2.symm ho,r⟩
  exact wpAny_bind (wpAny_pure (wpAny_pure (hR h' s.toks hd' fun c o c0 c1 c2 e=>k c o c1 c2 e)))
 | m+1,i,s,kvs,hm,hl,S,hd,hR=>by
  refine codeAny_builtin yQ ?_
  rw [Around.under_plainId mV _]
  unfold Builtin.«dict.update.loop»
  have hi:i<xs.size:=by omega
  have hx:xs[i]? = some xs[i]:=Zrc hi
  have P6:ks[i]? = some (ks[i]'(by omega)):=Zpw (by omega)
  refine wpAny_bind (P0 n1 n2 n3 S hx fun h1 T tk t1 S1 hp hT k1=>?_)
  refine wpAny_bind (wpAny_holding ?_)
  have u4:h1.DictOf knd d kvs:=by
   obtain ⟨o,es,ep,ho,r⟩:=hd
   exact ⟨o,es,ep,k1 _ _ m1.symm m2.symm ho,r⟩
  refine wpAny_bind (wpAny_tryCatch ?_)
  unfold Builtin.Dict.pairItems
  refine wpAny_bind (wpAny_typeOf (T:="tuple") ⟨_,hp,rfl⟩ ?_)
  rw [if_pos (by decide)]
  refine wpAny_bind (wpAny_seqItems hp rfl (wpAny_pure ?_))
  refine wpAny_holding (wpAny_dictSet_pairs (knd:=knd) (s:={ s with heap:=h1,toks:=t1 }) (zI i _ tk P6) u4 (fun h2 d2 sb=>?_) (ZqE hl (ZqE (by omega) (show 1000<=sizeLine by decide))))
  have k2:∀ c o,c≠d->h1.get? c=some o->h2.get? c=some o:=fun c o hc e=>(sb.2 c hc).trans e
  have N0:∃ o,h2.get? d=some o:=let ⟨o,_,_,ho,_⟩:=d2;⟨o,ho⟩
  have S2:ES e it l xs (i+1) h2:=by
   obtain ⟨⟨f0,f1,old,he,hf⟩,a1,a2⟩:=S1
   refine ⟨⟨f0,f1,old,k2 _ _ m1 he,?_⟩,a1.at fun o z=>k2 _ o m2 z,a2.at fun o z=>k2 _ o m3 z⟩
   rcases hf with rfl | ⟨T,o,rfl,hT,m⟩
   ·exact .inl rfl
   ·by_cases e:T=d
    ·subst e
     obtain ⟨o',jk⟩:=N0
     exact .inr ⟨T,o',rfl,jk,m⟩
    ·exact .inr ⟨T,o,rfl,k2 _ _ e hT,m⟩
  refine wpAny_pure ⟨plainId_quiet mV _,?_⟩
  have e1:ks.drop i=ks[i]'(by omega) :: ks.drop (i+1):=Zqr (by omega)
  have e2:xs.toList.drop i=xs[i]'(by omega) :: xs.toList.drop (i+1):=by
   rw [Zqr (by simp;omega)]
   simp
  refine yf hh n1 n2 n3 m1 m2 m3 hk zI hz m (i+1) _ _ (by omega) ?_ S2 d2 ?_
  ·have:=EY kvs (ks[i]'(by omega)) (xs[i]'(by omega))
   omega
  ·intro h' t' d' k'
   rw [e1,e2] at hR
   exact hR h' t' d' fun c o c0 c1 c2 e=>k' c o c0 c1 c2 (k2 c o c0 (k1 c o c1 c2 e))
theorem oz {e:Addr}{vs:Array Value}{Q:Value->Shared->Prop} (he:s.heap.get? e=some { cls:=.type "enumerate",dict:=none,data:=.fields vs,slots:=#[] }) (h:Q (.ref e) s):wpAny (model prog w) A (pyIter (.ref e)) Q E s:=by
 have hT:s.TypeIs (.ref e) "enumerate":=⟨_,he,rfl⟩
 refine wpAny_pyIter_slot hT F.slot_enumerate_iter (wpAny_call_entry F.slot_enumerate_iter hT F.entry_enumerate_iter ?_ (F.args_enumerate_iter_1 _));skip
 show wpAny _ _ (ret (.ref e)) _ _ s;skip
 exact wpAny_pure ⟨_,rfl,"enumerate",_,hT,F.slot_enumerate_next.lookup,h⟩
theorem Cg {e it l:Addr}{xs:Array Value}{ks:List κ}{Q:Value->Shared->Prop} (hh:A.handled=none) (n1:e≠it) (n2:l≠e) (n3:l≠it) (S:ES e it l xs 0 s.heap)
  (hk:ks.length=xs.size) (zI:∀ (j:Nat) k t,ks[j]? = some k->knd.is k (.int (j:Nat) t)=true) (hz:xs.size<=1000)
  (q:∀ h' t',h'.DictOf knd s.heap.objs.size ((ks.zip xs.toList).foldl (fun e p=>stored e p.1 p.2) [])->(∀ c o,c≠e->c≠it->s.heap.get? c=some o->h'.get? c=some o)->Q (.ref s.heap.objs.size) { s with heap:=h',toks:=t' }) :
  wpAny (model prog w) A (call (.type "dict") [.ref e]) Q E s:=by
 refine callType_codes (Q₁:=fun v s1=>v=.ref s.heap.objs.size/\s1={ s with heap:=s.heap.push { cls:=.type "dict",data:=.dict #[] } }) JC (JN _) F.entry_dict_init (Fu _ ⟨rfl,rfl⟩) ?_
 rintro obj s1 ⟨rfl,rfl⟩
 refine ⟨⟨_,Heap.get?_push_size _ rfl,rfl⟩,F.args_dict_init_2 _ _,?_⟩
 obtain ⟨f0,f1,old,hz0,_⟩:=S.eo
 obtain ⟨hp,g,d0,tk,os⟩:=s
 dsimp only at *
 have hz':=Heap.get?_push_of_some { cls:=.type "dict",data:=.dict #[] } hz0
 have Mj:(⟨hp.push { cls:=.type "dict",data:=.dict #[] },g,d0,tk,os⟩:Shared).TypeIs (.ref hp.objs.size) "dict":=⟨_,Heap.get?_push_size _ rfl,rfl⟩
 have Nq:(⟨hp.push { cls:=.type "dict",data:=.dict #[] },g,d0,tk,os⟩:Shared).TypeIs (.ref e) "enumerate":=⟨_,hz',rfl⟩
 have vz:=Ek
 unfold Builtin.«dict.__init__»
 repeat (any_goals (first | assumption | (with_reducible refine Cn hh hz' fun h' t' k=>?_) | (with_reducible refine oz (k _ _ hz') ?_) | wp_step))
 have lt:∀ {c:Addr}{o:Obj},hp.get? c=some o->c≠hp.objs.size:=fun e=>ZqD (Heap.lt_size e)
 have up:∀ c o,hp.get? c=some o->h'.get? c=some o:=fun c o e=>k c o (Heap.get?_push_of_some _ e)
 obtain ⟨⟨g0,g1,go,ge,gf⟩,a1,a2⟩:=id S
 refine ⟨plainId_quiet mV _,yf (A:=A.in1) (knd:=knd) (ks:=ks) (show A.in1.handled=none from hh) n1 n2 n3 (lt hz0) (by obtain ⟨_,e,_⟩:=a1;exact lt e) (by obtain ⟨_,e,_⟩:=a2;exact lt e) hk zI hz xs.size 0 _ [] (by omega) (by simp) ?_ ?_ ?_⟩
 ·refine ⟨⟨g0,g1,go,up _ _ ge,?_⟩,a1.at fun o z=>up _ o z,a2.at fun o z=>up _ o z⟩
  rcases gf with rfl | ⟨T,o,rfl,hT,m⟩
  ·exact .inl rfl
  ·exact .inr ⟨T,o,rfl,up _ _ hT,m⟩
 ·obtain ⟨o,es,ep,ho,r⟩:=Heap.DictOf.new (knd:=knd) hp
  exact ⟨o,es,ep,k _ _ ho,r⟩
 ·intro h2 t2 d2 k2
  refine ⟨rfl,q h2 t2 ?_ fun c o c1 c2 e=>k2 c o (lt e) c1 c2 (up c o e)⟩
  simpa using d2
end
end DE
namespace L2
open PySem PySem.Spec PyProof.Rows
noncomputable def fV (n:Nat):List Key:=(Zpv n).map fun i:Nat=>Sum.inl (i:Int)
noncomputable def Bp (K:ZoW) (t:TA):TE:=fun σ H Q=>t σ H fun vs H1=>match vs with
 | [.ref a]=>∃ ys:List V,H1 a=some (.lst ys)/\ys.length<=1000/\∀ p H',dP H1 p (.dK (eK [] ((fV ys.length).zip ys))) H'->Q (.ref p) H'
 | _=>False
theorem Jt:∀ {ks:List Key}{ys:List V}{us:List Value}{kvs:List (Key × V)}{ws:List (Key × Value)},Vals ys us->KV kvs ws ->
  KV ((ks.zip ys).foldl (fun acc kv=>d6 acc kv.1 kv.2) kvs) ((ks.zip us).foldl (fun e p=>stored e p.1 p.2) ws)
 | [],_,_,_,_,_,q=>q
 | n :: ns,_,_,kvs,ws,.nil,q=>q
 | n :: ns,_,_,kvs,ws,.cons r t,q=>Jt (ks:=ns) t (q.put n r)
theorem P1 {X:Cx}{ea:Expr}{t:TA}{p1 p2 p3 p4:Pos} (hc:X.calm=true) (xc:Gl X "dict") (wQ:Gl X "enumerate") (Dy:X.mg "dict" = none) (CC:X.mg "enumerate" = none) (ha:PA X [ea] t)
  (he:starEach [ea] X.env=(false,eval ea X.env) :: starEach [] X.env:=by rfl) (eB:(backTo p3 (starEach [] X.env)).any (·.1)=false:=by rfl)
  (kB:starEach [Expr.Call (.Name "enumerate" p2) [ea] [] p3] X.env=(false,eval (Expr.Call (.Name "enumerate" p2) [ea] [] p3) X.env) :: starEach [] X.env:=by rfl) (nT:(backTo p4 (starEach [] X.env)).any (·.1)=false:=by rfl) :
  PE X (.Call (.Name "dict" p1) [.Call (.Name "enumerate" p2) [ea] [] p3] [] p4) (Bp X.K t):=by
 intro pins s σ H Q I h
 refine wpAny_Call_Name_kw (j9 I xc Dy PyProof.Rows.boot_dict ?_ (by decide) (by decide))
 refine PyProof.Rows.callWith_type1 ?_ kB nT
 rw [kB]
 show wpAny _ _ (spliced ((false,eval (Expr.Call (.Name "enumerate" p2) [ea] [] p3) X.env) :: backTo p4 (starEach [] X.env))) _ _ s
 refine Calls.spliced_cons ?_
 refine wpAny_Call_Name_kw (j9 I wQ CC PyProof.Rows.boot_enumerate ?_ (by decide) (by decide))
 refine PyProof.Rows.callWith_type1 (aF (ha p3 pins s σ H _ I h) fun us s1 ⟨vs,H1,I1,r1,q1⟩=>?_) he eB
 match vs,q1 with
 | [.ref a],q1 =>
  obtain ⟨ys,hq,hz,q⟩:=q1
  obtain ⟨u,rfl,rx⟩:=gW r1
  cases rx
  obtain ⟨_,its,nn,rv,hlen0,eB⟩:=I1.jR hq
  have sQ:=rv.length
  have bU:a<s1.heap.objs.size:=Heap.lt_size eB
  refine call_enumerate_1 eB fun h1 e1 i1 z1 up=>?_
  refine Calls.spliced_nil ?_
  have I2:Inv X pins σ H1 { s1 with heap:=h1 }:=I1.kept (t':=s1.toks) up
  have fp:∀ b∈[s1.heap.objs.size+1,s1.heap.objs.size],gS X pins H1 b:=fun b hb=>by
   have xJ:s1.heap.objs.size<=b:=by
    simp only [ZpC,ZpY,or_false] at hb
    rcases hb with rfl | rfl
    ·exact ZqQ _
    ·exact ZqC _
   exact I1.gN xJ (I1.aw.fresh xJ)
  have sl:Heap.IsList h1 a its.toArray:=⟨_,up _ _ eB,rfl,_,rfl⟩
  refine DE.Cg (s:={ s1 with heap:=h1 }) (knd:=fC X.prog X.w) (ks:=fV ys.length) (I.ok.hd hc) (Nat.succ_ne_self _) (ZqD (Nat.lt_succ_of_lt bU)) (ZqD bU) ⟨⟨_,_,_,e1,.inl rfl⟩,i1,sl⟩ (by unfold fV;rw [Zpu,ZpO,ZpJ];exact sQ) ?_ (by rw [ZpJ];omega) fun h2 t2 dd k2=>?_
  ·intro j k t hk
   unfold fV at hk
   rw [ZpB] at hk
   obtain ⟨n,hn,rfl⟩:=Option.map_eq_some_iff.mp hk
   have:n=j:=by
    obtain ⟨_,hn⟩:=ZpA.mp hn
    rw [List.getElem_range] at hn
    exact hn.symm
   subst this
   exact lX (k:=Sum.inl (n:Int)) ⟨t,rfl⟩
  ·have hd:s1.heap.objs.size<=h1.objs.size:=by omega
   have eP:H1 h1.objs.size=none:=I1.aw.fresh hd
   have rel:KV (eK [] ((fV ys.length).zip ys)) (((fV ys.length).zip its).foldl (fun e p=>stored e p.1 p.2) []):=Jt rv .nil
   have hlen:(eK [] ((fV ys.length).zip ys)).length<=sizeLine:=by
    have h1:=zD ((fV ys.length).zip ys) []
    unfold fV at h1 ⊢
    rw [ZpW,List.length_zip,Zpu,ZpO] at h1
    rw [sizeLine_eq];omega
   have zt:((h1.objs.size:Addr) == sysModules)=false:=beq_eq_false_iff_ne.mpr (Ne.symm (ZqD I2.big))
   refine ⟨.ref h1.objs.size,upd H1 h1.objs.size (.dK (eK [] ((fV ys.length).zip ys))),?_,rfl,q _ _ ⟨eP,rfl⟩⟩
   refine I2.dz (ch:=[s1.heap.objs.size+1,s1.heap.objs.size]) (h':=h2) (t':=t2) (fun b hb=>fp b hb) (ZqC _) (fun b o hb e=>k2 b o (fun x=>hb (by simp [x])) (fun x=>hb (by simp [x])) e) ?_
   exact z8 hlen zt rel (by simpa using dd)
noncomputable def jc {α:Type} (lo:Nat) (xs:List α):List α:=(Zpv ((xs.length+1 - lo) / 2)).filterMap fun k=>xs[lo+2 * k]?
theorem vS {α:Type} (lo:Nat) (xs:List α) (k:Nat):(jc lo xs)[k]? = xs[lo+2 * k]?:=by
 have key:∀ n,n<=(xs.length+1 - lo) / 2->∀ k,((Zpv n).filterMap fun k=>xs[lo+2 * k]?)[k]? = if k<n then xs[lo+2 * k]? else none:=by
  intro n
  induction n with
  | zero=>intro _ k;simp
  | succ n ih =>
   intro hn k
   have B4:=ih (by omega)
   have hl:((Zpv n).filterMap fun k=>xs[lo+2 * k]?).length=n:=by
    rcases Zq0 ((Zpv n).filterMap fun k=>xs[lo+2 * k]?).length n with h | h | h
    ·have e:=B4 ((Zpv n).filterMap fun k=>xs[lo+2 * k]?).length
     rw [if_pos h,ZpS (ZqC _),Zpw (by omega)] at e
     cases e
    ·exact h
    ·have e:=B4 n
     rw [if_neg (ZqK _),Zpw h] at e
     cases e
   have hx:xs[lo+2 * n]? = some (xs[lo+2 * n]'(by omega)):=Zpw (by omega)
   rw [Zp2,List.filterMap_append]
   simp only [Zp8,hx,List.filterMap_nil]
   rcases Zq0 k n with h | h | h
   ·rw [ZpQ (by omega),B4,if_pos h,if_pos (by omega)]
   ·subst h
    rw [ZpP (by omega),hl,ZqM,if_pos (by omega),hx]
    rfl
   ·rw [ZpS (by rw [ZpD,hl];show n+1<=k;omega),if_neg (by omega)]
 unfold jc
 rw [key _ (ZqC _)]
 split
 ·rfl
 ·exact (ZpS (by omega)).symm
theorem Dm {α:Type} (lo:Nat) (xs:List α):(jc lo xs).length=(xs.length+1 - lo) / 2:=by
 rcases Zq0 (jc lo xs).length ((xs.length+1 - lo) / 2) with h | h | h
 ·have e:=vS lo xs (jc lo xs).length
  rw [ZpS (ZqC _),Zpw (by omega)] at e
  cases e
 ·exact h
 ·have e:=vS lo xs ((xs.length+1 - lo) / 2)
  rw [Zpw h,ZpS (by omega)] at e
  cases e
theorem Cw {xs:List V}{us:List Value} (r:Vals xs us):∀ ks:List Nat,Vals (ks.filterMap fun k=>xs[k]?) (ks.filterMap fun k=>us[k]?)
 | []=>.nil
 | k :: ks=>by
  rw [Zp8,Zp8]
  have hl:=r.length
  by_cases h:k<xs.length
  ·obtain ⟨u,hu,ru⟩:=r.get (i:=k) (x:=xs[k]) (Zpw h)
   rw [Zpw h,hu]
   exact .cons ru (Cw r ks)
  ·rw [ZpS (by omega),ZpS (by omega)]
   exact Cw r ks
theorem uk (its:List Value) (lo:Nat):(slicePick its.toArray (some (lo:Int)) none (some 2)).toList=jc lo its:=by
 unfold slicePick jc
 have hb:sliceBounds (some (lo:Int)) none (some 2) its.toArray.size=(((min lo its.length:Nat):Int),((its.length:Nat):Int),2):=by
  unfold sliceBounds
  simp
  omega
 rw [hb]
 unfold sliceRange
 simp only [show (2:Int) > 0 by decide,if_true]
 have hc:(if (((min lo its.length:Nat):Int))<(its.length:Int) then ((its.length:Int) - ((min lo its.length:Nat):Int)+2 - 1) / 2 else 0).toNat=(its.length+1 - lo) / 2:=by
  split <;> omega
 rw [hc,Zqs]
 show List.filterMap _ _=_
 have cg:∀ ks:List Nat,(∀ k∈ks,lo+2 * k ≥ 0/\(k<(its.length+1 - lo) / 2))->ks.filterMap ((fun x=>its.toArray[x]?) ∘ fun k:Nat=>((min lo its.length:Nat)+2 * (k:Int):Int).toNat)=ks.filterMap fun k=>its[lo+2 * k]?:=by
  intro ks
  induction ks with
  | nil=>intro _;rfl
  | cons k r ih =>
   intro h
   have hk:=(h k (ZpK ..)).2
   have e:((min lo its.length:Nat)+2 * (k:Int):Int).toNat=lo+2 * k:=by omega
   rw [Zp8,Zp8,ih fun z hz=>h z (ZpL _ hz)]
   simp only [Function.comp,e,List.getElem?_toArray]
 exact cg _ fun k hk=>⟨ZqH _,ZpU.mp hk⟩
section
variable {X:Cx}{e el es:Expr}{te:TE}{pos p2:Pos}
noncomputable def kL (K:ZoW) (lo:Nat) (te:TE):TE:=fun σ H Q=>te σ H fun x H1=>match x with
 | .ref p=>∃ xs,aI K H1 p xs/\∀ q H',dP H1 q (.lst (jc lo xs)) H'->Q (.ref q) H'
 | _=>False
theorem Ik (lo:Nat) (he:PE X e te) (hl:PE X el (tC (.int lo))) (ju:PE X es (tC (.int 2))):PE X (.Subscript e (.Slice (some el) none (some es) p2) pos) (kL X.K lo te):=by
 intro pins s σ H Q I h
 refine Subscript_ (aF (he pins s σ H _ I h) fun v s1 ⟨x,H1,I1,r1,q1⟩=>?_)
 match x,q1 with
 | .ref p,q1 =>
 obtain ⟨xs,hx,q⟩:=q1
 cases r1
 refine wpAny_Slice ?_
 rw [evalPart_some]
 refine aF (hl pins s1 σ H1 (fun x H2=>x=.int lo/\H2=H1) I1 ⟨rfl,rfl⟩) fun vl s2 ⟨x2,H2,I2,r2,e2,e2'⟩=>?_
 subst e2 e2'
 obtain ⟨tl,rfl⟩:=r2
 rw [evalPart_none]
 refine wpAny_pure ?_
 rw [evalPart_some]
 refine aF (ju pins s2 σ H2 (fun x H3=>x=.int 2/\H3=H2) I2 ⟨rfl,rfl⟩) fun vs s3 ⟨x3,H3,I3,r3,e3,e3'⟩=>?_
 subst e3 e3'
 obtain ⟨ts,rfl⟩:=r3
 have I4:Inv X pins σ H3 { s3 with heap:=s3.heap.push { cls:=.type "slice",data:=.fields #[.int lo tl,.none,.int 2 ts] } }:=I3.kept (t':=s3.toks) fun b ob q=>Heap.get?_push_of_some _ q
 obtain ⟨its,r,ht,hz⟩:=I4.list hx
 have hlen:=r.length
 refine tail_any (ops:=[.ref p,.ref s3.heap.objs.size]) ht.isList.typeIs slot_list_getitem.lookup ?_ (by with_unfolding_all rfl)
 refine wpAny_getItem_list_slice ht.isList (Heap.IsSliceOf.new ..) (.int _ _) .none (.int _ _) (by simp) ?_ (by rw [ZpJ];omega)
 refine ⟨.ref _,_,I4.laid (t':=s3.toks) (o:=.lst (jc lo xs)) (fun b ob q=>Heap.get?_push_of_some _ q) (ZqC _) ?_,rfl,q _ _ ⟨I4.aw.fresh (ZqC _),rfl⟩⟩
 refine ⟨by rw [Dm];omega,jc lo its,0,?_,?_⟩
 ·have:=Cw r ((Zpv ((xs.length+1 - lo) / 2)).map fun k=>lo+2 * k)
  rw [Zqs,Zqs] at this
  unfold jc
  rw [<- hlen]
  exact this
 ·have:=uk its lo
  rw [<- this,Zrd]
  exact Heap.get?_push_size _ rfl
end
end L2
set_option maxHeartbeats 4000000
namespace SD
open PySem PySem.Spec PyProof.Rows
section
variable {prog:Program}{w:World}{A:Around}{E:Value->Shared->Prop}{s:Shared}{T:String}{r d:Addr}{n:Nat}{P:Nat->Value->Prop}{OK:Heap->Prop}
theorem Nf {R:Result->Shared->Prop}{L:Addr}{c:Nat} (K:Zpl prog w T r d n P OK) (hh:A.handled=none) (aw:OK s.heap) (hr:L≠r) (hd:L≠d) (hL:s.heap.get? L=some { cls:=.type "list",data:=.seq #[] c }) (hn:n<=sizeLine)
  (hR:∀ h' tk acc' c',(∀ b o,b≠L->s.heap.get? b=some o->h'.get? b=some o)->h'.get? L=some { cls:=.type "list",dict:=none,data:=.seq acc' c',slots:=#[] }->ItemsOf P acc' n->R (.ok (.ret (.ref L))) { s with heap:=h',toks:=tk }) :
  codeAny (model prog w) A (.builtin "list.__iadd__" ⟨[.ref L,.ref r],[]⟩) R s:=by
 refine codeAny_builtin entry_list_iadd' ?_
 rw [Around.under_plainId (show plainId "list.__iadd__" = true by decide +kernel) _]
 exact PySem.W.kdl_extend K hh aw L hr hd (.ref L) c hL hR hn
theorem QG {Q:List Value->Shared->Prop} (K:Zpl prog w T r d n P OK) (hh:A.handled=none) (aw:OK s.heap) (hn:n<=sizeLine)
  (q:∀ acc h' tk,(∀ b o,s.heap.get? b=some o->h'.get? b=some o)->s.heap.objs.size<h'.objs.size->ItemsOf P acc n->Q acc.toList { s with heap:=h',toks:=tk }):wpAny (model prog w) A (collect (.ref r)) Q E s:=by
 obtain ⟨hr,hd⟩:=K.there s.heap aw
 unfold collect;refine wpAny_bind (wpAny_runValue (codeAny_builtin entry_proto_collect' ?_));show wpAny _ _ (do again (.builtin "list.__iadd__" ⟨[<- newList [],.ref r],[]⟩)) _ _ s
 have Lf:(s.heap.push (seqObj "list" #[] 0)).get? s.heap.objs.size=some (seqObj "list" #[] 0):=Heap.get?_push_size _ rfl
 refine wpAny_bind (wpAny_newList (wpAny_pure ⟨Code.quiet_builtin _ (by decide +kernel),Nf (s:={ s with heap:=s.heap.push (seqObj "list" #[] 0) }) K hh (K.keep _ _ aw fun b _ o e=>Heap.get?_push_of_some _ e) (ZqJ hr) (ZqJ hd) Lf hn fun h' tk acc c kp hL' hi=>?_⟩))
 dsimp only;refine wpAny_bind (wpAny_load hL' (wpAny_pure ?_))
 exact q acc h' tk (fun b o e=>kp b o (ZqD (Heap.lt_size e)) (Heap.get?_push_of_some _ e)) (Heap.lt_size hL') hi
theorem LL {Q:Value->Shared->Prop}{ks:List Int} (K:Zpl prog w T r d n P OK) (hh:A.handled=none) (aw:OK s.heap) (Fv:n<64) (hk:∀ acc,ItemsOf P acc n->IntsAre acc.toList ks)
  (q:∀ h' tk r out e fZ,(∀ b o,s.heap.get? b=some o->h'.get? b=some o)->s.heap.objs.size<=r->h'.get? r=some (seqObj "list" out e)->IntsAre out.toList fZ->fZ.Perm ks->fZ.Pairwise (· <= ·)->Q (.ref r) { s with heap:=h',toks:=tk }) :
  wpAny (model prog w) A (call (.builtin "sorted") [.ref r]) Q E s:=by
 refine Calls.call_function_entry kind_sorted plain_sorted entry_sorted (args_sorted1 _) ?_;unfold Builtin.«sorted»;refine wpAny_bind (m:=checkCount "sorted" 1 1 _) (wpAny_pure ?_)
 refine wpAny_bind (QG K (by first | exact hh | simpa using hh) aw (by rw [sizeLine_eq];omega) fun acc h' tk kp bU hi=>?_)
 have a1:=hk acc hi
 have L6:acc.toList.length<64:=by rw [Zq9,hi.1];exact Fv
 refine wpAny_bind (wpAny_newList ?_ (by rw [sizeLine_eq];omega))
 have vX:(h'.push (seqObj "list" acc.toList.toArray 0)).get? h'.objs.size=some (seqObj "list" acc.toList.toArray 0):=Heap.get?_push_size _ rfl
 show wpAny _ _ _ _ _ { s with heap:=h'.push (seqObj "list" acc.toList.toArray 0),toks:=tk }
 refine wpAny_bind (wpAny_holding (wpAny_call_entry slot_list_sort ⟨_,vX,rfl⟩ entry_list_sort (list_sort_tree vX a1 L6 fun out fZ b1 b2 b3=>⟨_,rfl,wpAny_pure ⟨_,rfl,?_⟩⟩) (args_list_sort _)))
 obtain ⟨⟨e,at_⟩,old⟩:=SS.L1 (out:=out) vX
 exact q _ tk _ out e fZ (fun b o x=>old b o (ZqD (Nat.lt_trans (Heap.lt_size x) bU)) (Heap.get?_push_of_some _ (kp b o x))) (ZqN bU) at_ b1 b2 b3
end
end SD
namespace L2
open PySem PySem.Spec PyProof.Rows
noncomputable def D5 (_:ZoW):List V->Hp->VK->Prop:=fun vs H Q=>match vs with
 | [.ref p]=>∃ (kvs:List (Key × V)) (ns:List Int),Rd H p (.dK kvs)/\kvs.map (·.1)=ns.map Sum.inl/\ns.length<64/\∀ (fZ:List Int) (l:Addr) (H':Hp),fZ.Perm ns->fZ.Pairwise (· <= ·)->dP H l (.lst (fZ.map V.int)) H'->Q (.ref l) H'
 | _=>False
theorem K9 {X:Cx} (hc:X.calm=true):fD X (.builtin "sorted") (D5 X.K):=by
 intro pins s σ H xs us Q I r h
 match xs,h with
 | [.ref p],h =>
  obtain ⟨kvs,ns,e,sI,Fv,q⟩:=h
  obtain ⟨u1,rfl,e1⟩:=gW r
  cases e1
  obtain ⟨z,y,vs,rel,dd⟩:=o7 I.aw e
  obtain ⟨ep,j7⟩:=dd.dictAt
  have hlen:=rel.length
  have Rk:kvs.length=ns.length:=by have:=congrArg List.length sI;rwa [Zpu,Zpu] at this
  refine SD.LL (ks:=ns) (PySem.W.kdl_dict (knd:=fC X.prog X.w) (kvs:=vs) (ep:=ep) y) (I.ok.hd hc) j7 (by omega) (fun acc ⟨ha,hb⟩=>?_) fun h' tk l out e' fZ kp xJ at_ b1 b2 b3=>?_
  ·have key:∀ n,n<=kvs.length->Vals ((kvs.take n).map fun kv=>kV kv.1) (acc.toList.take n):=by
    intro n
    induction n with
    | zero=>intro _;rw [Zqi,Zqi];exact .nil
    | succ n ih =>
     intro hn
     have HL:n<acc.size:=by omega
     obtain ⟨k,x,hk,hv⟩:=hb n acc[n] (Zrc HL)
     obtain ⟨p',g1,g2⟩:=Ft rel hk
     rw [Zqa,Zqa,show acc.toList[n]? = some acc[n] by simp [HL],g1,Zpy]
     exact Paired.snoc (ih (by omega)) (show aH (kV p'.1) acc[n] by rw [g2.1];exact uU hv)
   have b3:=key kvs.length (ZqC _)
   rw [ZpN,Zqn (by rw [Zq9];omega)] at b3
   have e2:(kvs.map fun kv=>kV kv.1)=ns.map V.int:=by
    have:(kvs.map (·.1)).map kV=(ns.map Sum.inl).map kV:=by rw [sI]
    rw [Zpz,Zpz] at this
    exact this
   rw [e2] at b3
   exact HE b3
  ·have Rm:(64:Nat)<=sizeLine:=by decide
   have yI:fZ.length=ns.length:=b2.length_eq
   exact ⟨.ref l,_,I.laid (a:=l) (o:=.lst (fZ.map V.int)) (h':=h') (t':=tk) kp xJ ⟨by rw [Zpu];omega,out.toList,e',DQ b1,by rw [Zrd];exact at_⟩,rfl,q fZ l _ b2 b3 ⟨I.aw.fresh xJ,rfl⟩⟩
end L2
set_option maxRecDepth 20000
namespace L2
open PySem PySem.Spec PyProof.Rows
end L2
namespace MP
open MF (Sub)
noncomputable abbrev Pc:=Int × List Int × Int
noncomputable def gq:List Bool->Nat
 | []=>0
 | b :: r=>b.toNat+2 * gq r
theorem z6:∀ bs:List Bool,gq bs<2 ^ bs.length
 | []=>by decide
 | b :: r=>by
  have:=z6 r
  have:b.toNat<=1:=by cases b <;> decide
  simp only [gq,ZpG,ZqI]
  omega
theorem JH:∀ (bs:List Bool) (b:Bool),gq (bs ++ [b])=gq bs+b.toNat * 2 ^ bs.length
 | [],b=>by simp [gq]
 | c :: r,b=>by
  simp only [Zqm,gq,JH r b,ZpG,ZqI]
  cases b <;> simp <;> omega
noncomputable def base (m L:Nat) (x:Int):Bool:=decide (1<=x/\x<=m) && L.testBit (x - 1).toNat
noncomputable def rN (f:Int->Bool) (p:Pc):Int->Bool:=fun x=>if x=p.1 then p.2.2.toNat.testBit (gq (p.2.1.map f)) else f x
noncomputable def iE (m L:Nat) (ps:List Pc):Int->Bool:=ps.foldl rN (base m L)
noncomputable def iD (F:Nat) (lit:List Nat) (c:Nat):List Nat:=(Zpv (lit.length / 2)).map fun i=>(c &&& lit.getD (2 * i+1) 0) ||| ((F ^^^ c) &&& lit.getD (2 * i) 0)
noncomputable def ja (t F n:Nat):List Nat:=(Zpv n).map fun i=>if t.testBit i then F else 0
noncomputable def yF (t F:Nat) (cs:List Nat):Nat:=(cs.foldl (iD F) (ja t F (2 ^ cs.length))).getD 0 0
theorem Dq (F:Nat) (lit:List Nat) (c:Nat):(iD F lit c).length=lit.length / 2:=by unfold iD;rw [Zpu,ZpO]
theorem pf (F:Nat) (lit:List Nat) (c i:Nat) (h:i<lit.length / 2):(iD F lit c).getD i 0=(c &&& lit.getD (2 * i+1) 0) ||| ((F ^^^ c) &&& lit.getD (2 * i) 0):=by
 unfold iD
 simp [ZpE,h]
theorem GV (F L:Nat) (hF:F.testBit L=true):∀ (cs lit:List Nat),lit.length=2 ^ cs.length->((cs.foldl (iD F) lit).getD 0 0).testBit L=(lit.getD (gq (cs.map (·.testBit L))) 0).testBit L
 | [],lit,_=>rfl
 | c :: r,lit,h=>by
  rw [ZpG,ZqI] at h
  have ih:=GV F L hF r (iD F lit c) (by rw [Dq];omega)
  rw [Zp3,ih]
  have hl:=z6 (r.map (·.testBit L))
  rw [Zpu] at hl
  rw [pf F lit c _ (by omega),ZqR,ZqT,ZqT,ZqW,hF,Zpx]
  show _=(lit.getD ((c.testBit L).toNat+2 * gq (r.map (·.testBit L))) 0).testBit L
  cases c.testBit L
  ·simp
  ·simp [Nat.add_comm]
theorem qg (t F n i:Nat) (h:i<n):(ja t F n).getD i 0=if t.testBit i then F else 0:=by
 unfold ja
 simp [ZpE,h]
theorem Cb (t F n:Nat):(ja t F n).length=n:=by unfold ja;rw [Zpu,ZpO]
theorem MW {t F L:Nat} (hF:F.testBit L=true) (cs:List Nat):(yF t F cs).testBit L=t.testBit (gq (cs.map (·.testBit L))):=by
 unfold yF
 rw [GV F L hF cs _ (Cb ..)]
 have hl:=z6 (cs.map (·.testBit L))
 rw [Zpu] at hl
 rw [qg _ _ _ _ hl]
 by_cases h:t.testBit (gq (cs.map (·.testBit L)))=true
 ·rw [if_pos h,hF,h]
 ·rw [if_neg h,Nat.zero_testBit]
  simpa using h
noncomputable def kM (m:Nat) (x:Int):Nat:=if 1<=x/\x<=m then (MC.aL m).1.getD (x - 1).toNat 0 else 0
noncomputable def jw (F:Nat) (g:Int->Nat) (p:Pc):Int->Nat:=fun x=>if x=p.1 then yF p.2.2.toNat F (p.2.1.map g) else g x
noncomputable def iP (m:Nat) (ps:List Pc):Int->Nat:=ps.foldl (jw (2 ^ 2 ^ m - 1)) (kM m)
theorem GZ {m L:Nat} (h:L<2 ^ m):(2 ^ 2 ^ m - 1).testBit L=true:=by rw [ZqS];exact decide_eq_true h
theorem O7 {m L:Nat} (h:L<2 ^ m) (ps:List Pc) (x:Int):(iP m ps x).testBit L=iE m L ps x:=by
 unfold iP iE
 have key:∀ (ps:List Pc) (g:Int->Nat) (f:Int->Bool),(∀ x,(g x).testBit L=f x)->∀ x,(ps.foldl (jw (2 ^ 2 ^ m - 1)) g x).testBit L=ps.foldl rN f x:=by
  intro ps
  induction ps with
  | nil=>intro g f h x;exact h x
  | cons p r ih =>
   intro g f hg x
   rw [Zp3,Zp3]
   refine ih _ _ (fun y=>?_) x
   unfold jw rN
   split
   ·rw [MW (GZ h),Zpz]
    congr 3
    funext z
    exact hg z
   ·exact hg y
 refine key ps _ _ (fun y=>?_) x
 unfold kM base
 by_cases hy:1<=y/\y<=m
 ·rw [if_pos hy,decide_eq_true hy,Zri]
  exact MC.B6 m _ L (by omega) h
 ·rw [if_neg hy,decide_eq_false hy,Bool.false_and,Nat.zero_testBit]
theorem K6 (m:Nat) (ps:List Pc) (p:Pc):iP m (ps ++ [p])=jw (2 ^ 2 ^ m - 1) (iP m ps) p:=by unfold iP;rw [Zqf];rfl
theorem Ib (m L:Nat) (ps:List Pc) (p:Pc):iE m L (ps ++ [p])=rN (iE m L ps) p:=by unfold iE;rw [Zqf];rfl
end MP
set_option maxHeartbeats 4000000
namespace L2
open PySem PySem.Spec PyProof.Rows
noncomputable def Ac (z:Str):It :=
  ⟨fun i _=>i<z.cps.size,
   fun i H v H'=>∃ T c,v=.ref T/\H T=none/\H'=upd H T (.tup [.int (i:Int),.str ⟨#[c]⟩])/\z.cps[i]? = some c,
   fun i _=>i=z.cps.size⟩
theorem Fg {prog:Program}{w:World}{A:Around} (hh:A.handled=none) (it:Addr) (z:Str) (t:Tok) :
  Draws prog w A it [it] z.cps.size (fun i v=>∃ c u,z.cps[i]? = some c/\v=.str ⟨#[c]⟩ u) (fun i h=>h.IsStrIter it (strIterType z) z t i):=by
 unfold strIterType
 split
 ·exact Draws.strAscii hh it z t
 ·exact Draws.strWide hh it z t
theorem OI {P:Program}{w:World}{K:ZoW}{elts:List Expr}{k:Nat}{pos:Pos} (z:Str) (t:Tok) (e it:Addr) (n1:e≠it) :
  Turn P w K (.Tuple elts k pos) (Ac z) [e,it] e (fun i h=>(∃ old,IsEnum h e it (i:Int) old)/\h.IsStrIter it (strIterType z) z t i) where
 mem:=by simp
 obj:=fun i h ⟨⟨old,a1⟩,a2⟩ b hb=>by
  simp only [ZpC,ZpY,or_false] at hb
  rcases hb with rfl | rfl
  ·exact ⟨_,a1,fun v z=>nomatch z⟩
  ·obtain ⟨o,e,c,d⟩:=a2
   exact ⟨o,e,fun v z=>by rw [d] at z;cases z⟩
 keep:=fun i h h' ⟨⟨old,a1⟩,⟨o,a2,r⟩⟩ k=>⟨⟨old,k _ (by simp) _ a1⟩,⟨o,k _ (by simp) _ a2,r⟩⟩
 item:=by
  intro X hP hw hK hc i pins s σ H E I hf st hg
  subst hP hw hK
  obtain ⟨⟨old,sa⟩,sb⟩:=st
  have W:=WalksT.enumerateD (prog:=X.prog) (w:=X.w) (A:=X.A) (Fg (A:=X.A.in1) (I.ok.hd hc) it z t) e n1 (by simp [n1]) (by simp)
  have hw:∀ b∈[e,it],gS X pins H b:=hf
  refine W.item i s _ _ hg ⟨⟨old,sa⟩,sb⟩ fun T vals h' tk hv hT itt mid kp=>?_
  obtain ⟨t0,x',⟨c,u,e1,rfl⟩,rfl⟩:=hv
  have aT:=W.apart i T h' mid
  refine ⟨.ref T,rfl,W.go elts k pos i T _ _ _ mid fun h'' st'' kp''=>?_⟩
  have I1:Inv X pins σ H { s with heap:=h'',toks:=tk }:=I.fi hw fun b o hb e=>kp'' b o hb (kp b o hb e)
  have fT:H T=none:=I.aw.fresh hT
  obtain ⟨oT,gT,cT,dT⟩:=itt
  have ok:dn X.prog X.w (upd H T (.tup [.int (i:Int),.str ⟨#[c]⟩])) h'' T (.tup [.int (i:Int),.str ⟨#[c]⟩]):=⟨by show 2<=sizeLine;decide,[.int (i:Int) t0,.str ⟨#[c]⟩ u],.cons ⟨_,rfl⟩ (.cons ⟨_,rfl⟩ .nil),show h''.IsTuple T #[.int (i:Int) t0,.str ⟨#[c]⟩ u] from ⟨oT,kp'' T oT aT gT,cT,dT⟩⟩
  obtain ⟨⟨old2,b1⟩,b2⟩:=st''
  refine ⟨.ref T,_,I1.adopt (s:={ s with heap:=h'',toks:=tk }) (I.gN hT fT).fl ok,rfl,⟨T,c,rfl,fT,rfl,e1⟩,⟨⟨old2,b1⟩,b2⟩,fun b hb=>?_⟩
  have AU:b≠T:=fun ee=>by
   obtain ⟨o4,s4,_⟩:=sb
   have:∃ o,s.heap.get? b=some o:=by
    simp only [ZpC,ZpY,or_false] at hb
    rcases hb with rfl | rfl
    ·exact ⟨_,sa⟩
    ·exact ⟨_,s4⟩
   obtain ⟨o,ho⟩:=this
   have:=Heap.lt_size ho
   rw [ee] at this
   exact absurd this (Nat.not_lt.mpr hT)
  rw [aJ AU]
  exact (hf b hb).1
 done:=by
  intro X hP hw hK hc i pins s σ H E I hf st hg
  subst hP hw hK
  obtain ⟨⟨old,sa⟩,sb⟩:=st
  have W:=WalksT.enumerateD (prog:=X.prog) (w:=X.w) (A:=X.A) (Fg (A:=X.A.in1) (I.ok.hd hc) it z t) e n1 (by simp [n1]) (by simp)
  have hi:i=z.cps.size:=hg
  subst hi
  refine W.done s _ _ ⟨⟨old,sa⟩,sb⟩ fun h' tk kp=>⟨rfl,I.fi (t':=tk) hf fun b o hb e=>kp b o hb e⟩
 self:=fun _ _ _ _ _ st h=>wpAny_pyIter_enum st.1.choose_spec h
noncomputable def oM (ta:TA):TI:=fun σ H R=>ta σ H fun vs H1=>∃ z:Str,vs=[.str z]/\R (Ac z) H1
theorem qI {X:Cx}{elts:List Expr}{k:Nat}{tp:Pos}{a:Expr}{ta:TA}{p pos:Pos} (hg:Gl X "enumerate") (hm:X.mg "enumerate" = none) (ha:PA X [a] ta) (hs:starEach [a] X.env=[(false,eval a X.env)]:=by rfl) :
  PI X (.Tuple elts k tp) (.Call (.Name "enumerate" p) [a] [] pos) (oM ta):=by
 intro pins s σ H R I h
 refine Call_ (j9 I hg hm PyProof.Rows.boot_enumerate (PyProof.Rows.callWith_type1 (aF (ha pos pins s σ H _ I h) fun us s1 ⟨vs,H1,I1,r1,q1⟩=>?_) (by rw [hs];rfl) (by rfl)))
 obtain ⟨z,e,q⟩:=q1
 subst e
 obtain ⟨u1,rfl,e1⟩:=gW r1
 obtain ⟨t,rfl⟩:=e1
 refine call_enumerate_str fun h' a1 a2 hsz kp=>?_
 refine wpAny_pyIter_enum a1 ?_
 generalize hn:s1.heap.objs.size=n at *
 refine ⟨n+1,[n+1,n],_,_,H1,rfl,I1.kept (t':=s1.toks) kp,OI z t (n+1) n (ZqJ (ZqO n)),⟨⟨_,a1⟩,a2⟩,fun b hb=>?_,q⟩
 have hb':n<=b:=by
  simp only [ZpC,ZpY,or_false] at hb
  rcases hb with rfl | rfl
  ·exact ZqU n 1
  ·exact ZqC _
 exact I1.gN (by rw [hn];exact hb') (I1.aw.fresh (by rw [hn];exact hb'))
theorem J2 {ta:TA}{k:Nat}{sel:List Nat}{g:TG}{tt:TT}{el:TE}{σ:L2.St}{H:Hp}{Q:VK}:cO (oM ta) k sel g tt el σ H Q=ta σ H (fun vs H1=>∃ z:Str,vs=[.str z]/\iF (Ac z) σ k sel g tt el Q H1):=rfl
theorem Lh {σ:L2.St}{k:Nat}{sel:List Nat}{g:TG}{tt:TT}{te:TE}{Q:VK}{H:Hp}{p:Addr}{z:Str} (Sv:L2.St->Prop) (Pv:Nat->Hp->Prop) (hS:Sv (cst σ k sel)) (h0:Pv 0 (upd H p (.lst [])))
  (step:∀ i c t σ2 H2 (R:L2.St->Hp->Prop),z.cps[i]? = some c->H2 t=none->Sv σ2->Pv i H2->(∀ σ' H',Sv σ'->Pv (i+1) H'->R σ' H')->g (.ref t) σ2 (upd H2 t (.tup [.int (i:Int),.str ⟨#[c]⟩])) fun σ4 H4=>tt σ4 H4 fun bb H5 =>
   if bb=true then te σ4 H5 fun v H6=>∃ zs,H6 p=some (.lst zs)/\zs.length<sizeLine/\R σ4 (upd H6 p (.lst (zs ++ [v]))) else R σ4 H5)
  (hQ:∀ H2,Pv z.cps.size H2->Q (.ref p) H2):lS (Ac z) σ k sel g tt te Q H p:=by
 refine ⟨fun i m σ2 H2=>i<=z.cps.size/\m=z.cps.size - i+1/\Sv σ2/\Pv i H2,⟨z.cps.size+1,ZqH _,rfl,hS,h0⟩,?_⟩
 rintro i m σ2 H2 ⟨hi,rfl,hs,hP⟩
 by_cases bU:i<z.cps.size
 ·right
  refine ⟨bU,?_⟩
  rintro x H3 ⟨T,c,e1,e2,e3,e4⟩
  subst e1 e3
  exact step i c T σ2 H2 (fun σ' H'=>∃ m',m'<z.cps.size - i+1/\(i+1<=z.cps.size/\m'=z.cps.size - (i+1)+1/\Sv σ'/\Pv (i+1) H')) e4 e2 hs hP fun σ' H' g1 g2=>⟨_,by omega,bU,rfl,g1,g2⟩
 ·left
  have e:i=z.cps.size:=by omega
  subst e
  exact ⟨rfl,hQ H2 hP⟩
noncomputable def pv (K:ZoW):List V->Hp->VK->Prop:=fun vs H Q=>match vs with
 | [.ref a]=>∃ ns:List Int,aI K H a (ns.map V.int)/\Q (.int ns.sum) H
 | _=>False
theorem xy {X:Cx} (hc:X.calm=true):fD X (.builtin "sum") (pv X.K):=by
 intro pins s σ H xs us Q I r h
 match xs,h with
 | [.ref p],h =>
  obtain ⟨ns,hq,q⟩:=h
  obtain ⟨u1,rfl,e1⟩:=gW r
  cases e1
  obtain ⟨its,r',pl,hz⟩:=I.list hq
  have hA:=HE r'
  obtain ⟨xs,hxs⟩:=hA.allInts.items
  have hn:numsOf (intItems xs).toList=ns:=by rw [<- hxs];exact hA.numsOf
  rw [nums_intItems] at hn
  have hl:=pl.isList
  rw [hxs] at hl
  refine sum_intListG (I.ok.hd hc) hl fun h' tk t' hk=>?_
  refine ⟨.int _,H,I.kept (t':=tk) hk,⟨t',rfl⟩,?_⟩
  rw [preSum_eq,Zqn (by simp),hn]
  exact q
noncomputable def tU:List V->Hp->VK->Prop:=fun vs H Q=>match vs with
 | [.str z]=>∃ n,intText? z=some n/\z.length<=640/\Q (.int n) H
 | _=>False
theorem BV {X:Cx}:fD X (.type "int") tU:=by
 intro pins s σ H xs us Q I r h
 match xs,h with
 | [.str z],h =>
  obtain ⟨n,hn,hl,q⟩:=h
  obtain ⟨u,rfl,ru⟩:=gW r
  obtain ⟨t,rfl⟩:=ru
  exact PySem.W.KIN.call_text hn hl ⟨.int n,H,I.tok _,⟨_,rfl⟩,q⟩
noncomputable def CB:V->List V->Hp->VK->Prop:=fun x vs H Q=>match x,vs with
 | .str z,[.str y]=>Q (.bl (Txt.startswith z y)) H
 | _,_=>False
theorem MX {X:Cx}:nc X "str.startswith" CB:=by
 intro pins s σ H x vs v us Q I rx rv h
 cases x with
 | str z =>
  match vs,h with
  | [.str y],h =>
   obtain ⟨t,rfl⟩:=rx
   obtain ⟨u,rfl,ru⟩:=gW rv
   obtain ⟨t',rfl⟩:=ru
   exact SC.startswith ⟨.bl _,H,I,rfl,h⟩
 | _=>exact False.elim h
noncomputable def Bf:V->List V->Hp->VK->Prop:=fun x vs H Q=>match x,vs with
 | .str z,[.str y]=>(y.length == 0)=false/\z.length+2<=sizeLine/\∀ p H',dP H p (.lst ((Txt.split z y).map V.str)) H'->Q (.ref p) H'
 | _,_=>False
theorem LP {X:Cx}:nc X "str.split" Bf:=by
 intro pins s σ H x vs v us Q I rx rv h
 cases x with
 | str z =>
  match vs,h with
  | [.str y],h =>
   obtain ⟨hy,hz,q⟩:=h
   obtain ⟨t,rfl⟩:=rx
   obtain ⟨u',rfl,ru⟩:=gW rv
   obtain ⟨u,rfl⟩:=ru
   have hle:=split_le z y
   have key:∀ (l:List (Str × Tok)) (k:Nat),l.map (·.1)=Txt.split z y->EP X pins σ Q (.ref s.heap.objs.size) { s with heap:=s.heap.push { cls:=.type "list",data:=.seq (strValues l).toArray },toks:=k }:=by
    intro l k e
    refine ⟨.ref s.heap.objs.size,upd H s.heap.objs.size (.lst ((Txt.split z y).map V.str)),I.pU ?_ ?_,rfl,q _ _ ⟨I.fresh,rfl⟩⟩
    ·rw [<- e];exact EH l
    ·rw [Zpu];omega
   cases h1:(decide (z.length<y.length) || decide (Builtin.Str.strKind z<Builtin.Str.strKind y))
   ·cases hf:(Builtin.Str.occurrences z y 0 z.length (z.length+1)).isEmpty
    ·have e:Txt.split z y=Builtin.Str.partsBetween z (Builtin.Str.occurrences z y 0 z.length (z.length+1)) y.length:=(if_neg (ne_true_of_eq_false h1)).trans (if_neg (ne_true_of_eq_false hf))
     refine call_meets F.slot_str_split (typeIs_str _ _ _) F.entry_str_split (F.args_str_split_2 _ _) (meets_str_split_sep z y t u h1 hy hf (by omega) (by rw [<- e];omega)) ?_
     show wants _ _ _ { s with toks:=_,heap:=s.heap.push { cls:=.type "list",data:=.seq (strsFrom s.toks (Builtin.Str.partsBetween z (Builtin.Str.occurrences z y 0 z.length (z.length+1)) y.length)).toArray } }
     rw [strsFrom_eq]
     exact key (numbered s.toks _) _ ((numbered_texts _ _).trans e.symm)
    ·exact call_meets F.slot_str_split (typeIs_str _ _ _) F.entry_str_split (F.args_str_split_2 _ _) (meets_str_split_not_found z y t u h1 hy hf)
      (key [(z,t)] _ ((if_neg (ne_true_of_eq_false h1)).trans (if_pos hf)).symm)
   ·exact call_meets F.slot_str_split (typeIs_str _ _ _) F.entry_str_split (F.args_str_split_2 _ _) (meets_str_split_cannot_occur z y t u h1)
     (key [(z,t)] _ (if_pos h1).symm)
 | _=>exact False.elim h
theorem G0 {α:Type}{c:α}:∀ {a a' b b':List α},c ∉ a->c ∉ a'->a ++ c :: b=a' ++ c :: b'->a=a'/\b=b'
 | [],[],b,b',_,_,h=>⟨rfl,(List.cons.inj h).2⟩
 | [],y :: a',b,b',_,h2,h=>absurd (List.cons.inj h).1 fun e=>h2 (by rw [e];exact ZpK)
 | x :: a,[],b,b',h1,_,h=>absurd (List.cons.inj h).1 fun e=>h1 (by rw [<- e];exact ZpK)
 | x :: a,y :: a',b,b',h1,h2,h=>by
  obtain ⟨e1,e2⟩:=List.cons.inj h
  obtain ⟨e3,e4⟩:=G0 (fun z=>h1 (ZpL _ z)) (fun z=>h2 (ZpL _ z)) e2
  exact ⟨by rw [e1,e3],e4⟩
theorem FU {x y:Str} (h:x.cps.toList=y.cps.toList):x=y:=by
 obtain ⟨a⟩:=x
 obtain ⟨b⟩:=y
 have e:a=b:=Array.ext' h
 rw [e]
theorem zW (c:Nat) (x y:Str) (r:List Str):(Str.join ⟨#[c]⟩ (x :: y :: r)).cps.toList=x.cps.toList ++ c :: (Str.join ⟨#[c]⟩ (y :: r)).cps.toList:=by
 show (x ++ (⟨#[c]⟩:Str) ++ Str.join ⟨#[c]⟩ (y :: r)).cps.toList=_
 show (x.cps ++ #[c] ++ (Str.join ⟨#[c]⟩ (y :: r)).cps).toList=_
 simp
theorem Fy (c:Nat):∀ {ws vs:List Str},ws≠[]->vs≠[]->(∀ w∈ws,c ∉ w.cps.toList)->(∀ w∈vs,c ∉ w.cps.toList)->Str.join ⟨#[c]⟩ ws=Str.join ⟨#[c]⟩ vs->ws=vs
 | [],_,h,_,_,_,_=>absurd rfl h
 | _,[],_,h,_,_,_=>absurd rfl h
 | [x],[y],_,_,_,_,h=>by rw [show x=y from h]
 | [x],y :: y' :: r,_,_,h1,_,h=>by
  have e:=congrArg (fun s:Str=>s.cps.toList) h
  rw [zW] at e
  refine absurd (h1 x ZpK) fun z=>z ?_
  rw [show x.cps.toList=_ from e]
  exact ZpR _ ZpK
 | x :: x' :: r,[y],_,_,_,h2,h=>by
  have e:=congrArg (fun s:Str=>s.cps.toList) h
  rw [zW] at e
  refine absurd (h2 y ZpK) fun z=>z ?_
  rw [show y.cps.toList=_ from e.symm]
  exact ZpR _ ZpK
 | x :: x' :: r,y :: y' :: q,_,_,h1,h2,h=>by
  have e:=congrArg (fun s:Str=>s.cps.toList) h
  rw [zW,zW] at e
  obtain ⟨e1,e2⟩:=G0 (h1 x ZpK) (h2 y ZpK) e
  rw [FU e1,Fy c (ws:=x' :: r) (vs:=y' :: q) (fun z=>nomatch z) (fun z=>nomatch z) (fun w hw=>h1 w (ZpL _ hw)) (fun w hw=>h2 w (ZpL _ hw)) (FU e2)]
theorem Q4 (c:Nat) {ws:List Str} (hn:ws≠[]) (hf:∀ w∈ws,c ∉ w.cps.toList):Txt.split (Str.join ⟨#[c]⟩ ws) ⟨#[c]⟩=ws:=by
 have h1:=split_pos (Str.join ⟨#[c]⟩ ws) ⟨#[c]⟩
 exact Fy c (fun z=>by rw [z] at h1;exact absurd h1 (by decide)) hn (StrLaws.split_free _ c) hf (StrLaws.join_split _ _)
theorem FR {K:ZoW}{σ:L2.St}{sel:List Nat}{bC:L2.St}{H:Hp}{te:TE}{Q:VK}{a:Addr}{xs:List V} (f:V->V) (hl:aI K H a xs) (hr:sel.map (fun j=>(σ[j]?).join)=bC) (hz:xs.length<=sizeLine)
  (he:∀ v H' (Q':VK),v∈xs->aD H H'->(∀ H'',aD H' H''->Q' (f v) H'')->te (some v :: bC) H' Q') (hQ:∀ p H',iR H p (.lst (xs.map f)) H'->Q (.ref p) H'):iF (iJ K a) σ 1 sel (au 0) cJ te Q H:=by
 intro p hp
 refine sH (n:=xs.length) (item:=fun i=>xs.getD i .non) (fun i H2=>aD H H2/\H2 p=some (.lst ((xs.take i).map f))) hr ⟨eD hp,by rw [bh];rfl⟩ (vU ?_) ?_ ?_ ?_
 ·rintro i H2 hi ⟨s2,_⟩
  exact s2.seq hl
 ·rintro H2 ⟨s2,_⟩
  exact ⟨_,s2.seq hl,ZqC _⟩
 ·rintro i H2 R hi ⟨s2,h2⟩ hR
  have ei:xs.getD i .non=xs[i]:=by simp [ZpE,hi]
  rw [ei]
  refine he _ _ _ (ZpX hi) s2 fun H3 s3=>⟨_,s3 _ _ h2,by rw [Zpu,ZpT];omega,hR _ ⟨(s2.trans s3).put hp,?_⟩⟩
  rw [bh,List.take_succ,Zpw hi,Zpy]
  rfl
 ·rintro H2 ⟨s2,h2⟩
  rw [ZpN] at h2
  exact hQ p H2 ⟨hp,h2,s2⟩
theorem jh {α:Type}{xs:List α}{j:Nat}{v:α} (h:xs[j]? = some v):dk xs (j:Int)=some v:=by
 have hj:=(ZpA.mp h).1
 unfold dk kI
 rw [if_pos (Zq4 j),if_pos (by omega)]
 exact h
theorem yd {α:Type}{xs:List α}{j:Nat}{v:α} (h1:1<=j) (h2:j<=xs.length) (h:xs[xs.length - j]? = some v):dk xs (-(j:Int))=some v:=by
 unfold dk kI
 rw [if_neg (by omega),if_pos (by omega)]
 show xs[(-(j:Int)+(xs.length:Int)).toNat]? = some v
 rw [show (-(j:Int)+(xs.length:Int)).toNat=xs.length - j by omega]
 exact h
theorem F7 {xs ys zs:List V} (n k:Nat) (hn:xs.length=n) (hk:zs.length=k) (h0:1<=k):gZ (xs ++ ys ++ zs) (some (n:Int)) (some (-(k:Int)))=ys:=by
 have hl:(xs ++ ys ++ zs).length=n+ys.length+k:=by rw [ZpD,ZpD];omega
 unfold gZ
 rw [hl]
 have e1:HT.fX (n+ys.length+k) 0 (some (n:Int))=n:=by rw [HT.zd];omega
 have e2:HT.fX (n+ys.length+k) (n+ys.length+k) (some (-(k:Int)))=n+ys.length:=by
  show (if (-(k:Int))<0 then (-(k:Int)+((n+ys.length+k:Nat):Int)).toNat else _)=_
  rw [if_pos (by omega)]
  omega
 rw [e1,e2,Zqh,<- hn,List.drop_left,show xs.length+ys.length - xs.length=ys.length by omega,List.take_left]
theorem KA {xs ys:List V} (n:Nat) (hn:xs.length=n):gZ (xs ++ ys) (some (n:Int)) none=ys:=by
 have hl:(xs ++ ys).length=n+ys.length:=by rw [ZpD];omega
 unfold gZ
 rw [hl,HT.FW,HT.zd,show min n (n+ys.length)=n by omega,<- hn,List.drop_left,Zqn (by omega)]
theorem Gg {K:ZoW}{σ:L2.St}{sel:List Nat}{bC:L2.St}{H:Hp}{te:TE}{Q:VK}{a:Addr}{xs:List V} (D:Nat->V->Addr->Hp->Prop) (ju:∀ i u p H1 H2,D i u p H1->(∀ b o,b≠p->H1 b=some o->H2 b=some o)->D i u p H2)
  (hl:aI K H a xs) (hr:sel.map (fun j=>(σ[j]?).join)=bC) (hz:xs.length<=sizeLine)
  (he:∀ i v p H' (Q':VK),xs[i]? = some v->aD H H'->H p=none->(∃ us,H' p=some (.lst us))->(∀ u H'',aD H' H''->D i u p H''->Q' u H'')->te (some v :: bC) H' Q')
  (hQ:∀ p us H',H p=none->H' p=some (.lst us)->us.length=xs.length->aD H H'->(∀ i u,us[i]? = some u->D i u p H')->Q (.ref p) H'):iF (iJ K a) σ 1 sel (au 0) cJ te Q H:=by
 intro p hp
 refine sH (n:=xs.length) (item:=fun i=>xs.getD i .non) (fun i H2=>aD H H2/\∃ us,H2 p=some (.lst us)/\us.length=i/\∀ j u,us[j]? = some u->D j u p H2) hr ⟨eD hp,[],bh,rfl,fun j u h=>by simp at h⟩ (vU ?_) ?_ ?_ ?_
 ·rintro i H2 hi ⟨s2,_⟩
  exact s2.seq hl
 ·rintro H2 ⟨s2,_⟩
  exact ⟨_,s2.seq hl,ZqC _⟩
 ·rintro i H2 R hi ⟨s2,us,h2,fN,hd⟩ hR
  have ei:xs.getD i .non=xs[i]:=by simp [ZpE,hi]
  rw [ei]
  refine he i _ p _ _ (Zpw hi) s2 hp ⟨_,h2⟩ fun u H3 s3 hu=>⟨us,s3 _ _ h2,by omega,hR _ ⟨(s2.trans s3).put hp,us ++ [u],bh,by rw [ZpD,fN];rfl,fun j v hv=>?_⟩⟩
  have kp:∀ b o,b≠p->H3 b=some o->upd H3 p (.lst (us ++ [u])) b=some o:=fun b o n e=>by rw [aJ n];exact e
  by_cases hj:j<us.length
  ·rw [ZpQ hj] at hv
   exact ju j v p _ _ (ju j v p _ _ (hd j v hv) fun b o n e=>s3 _ _ e) kp
  ·rw [ZpP (by omega)] at hv
   have e0:j - us.length=0:=by
    have:=(ZpA.mp hv).1
    simp at this
    omega
   rw [e0] at hv
   have e1:u=v:=Option.some.inj hv
   have e2:j=i:=by omega
   subst e1 e2
   exact ju j u p _ _ hu kp
 ·rintro H2 ⟨s2,us,h2,fN,hd⟩
  exact hQ p us H2 hp h2 fN s2 hd
theorem Af {α:Type}{P:Nat->α->Prop}:∀ n:Nat,(∀ i,i<n->∃ x,P i x)->∃ l:List α,l.length=n/\∀ i x,l[i]? = some x->P i x
 | 0,_=>⟨[],rfl,fun i x h=>by simp at h⟩
 | n+1,h=>by
  obtain ⟨l,h1,h2⟩:=Af n fun i hi=>h i (by omega)
  obtain ⟨x,hx⟩:=h n (by omega)
  refine ⟨l ++ [x],by rw [ZpD,h1];rfl,fun i y hy=>?_⟩
  by_cases hi:i<l.length
  ·rw [ZpQ hi] at hy
   exact h2 i y hy
  ·rw [ZpP (by omega)] at hy
   have e0:i - l.length=0:=by
    have:=(ZpA.mp hy).1
    simp at this
    omega
   rw [e0] at hy
   have e1:x=y:=Option.some.inj hy
   have e2:i=n:=by omega
   subst e1 e2
   exact hx
theorem Rg {α:Type}{rs:List α}{n:Nat} (h:rs.length=n+2):∃ r0 mid rl,rs=r0 :: (mid ++ [rl])/\mid.length=n:=by
 obtain _ | ⟨r0,t⟩:=rs
 ·simp at h
 have ht:t.length=n+1:=by simpa using h
 have lI:t≠[]:=fun z=>by rw [z] at ht;simp at ht
 refine ⟨r0,t.dropLast,t.getLast lI,by rw [List.dropLast_concat_getLast],by rw [List.length_dropLast,ht];rfl⟩
end L2
set_option maxHeartbeats 4000000
namespace mW
open PySem PySem.Spec PyProof.Rows L2
noncomputable def top (i:Nat):Stmt:=PySem.Challenge.pw_gatefold_k39_board_read.main.body.getD i (.Pass ⟨0,0,0,0⟩)
noncomputable abbrev vo:Stmt:=top 2
noncomputable abbrev IM:List Str:=["many"]
local macro_rules | `(tactic| walk_at "s")=>`(tactic| exact ⟨rfl,rfl,rfl,by decide +kernel,rfl,by decide +kernel,by decide +kernel⟩)
theorem Pt:ai IM ["many"] (aO vo):=by walk_at "s"
noncomputable abbrev rG:Stmt:=top 3
noncomputable abbrev Cy:List Str:=["many","columns","every","width","place"]
theorem mX:ai Cy ["many"] (aO rG):=by walk_at "s"
noncomputable abbrev vk:Stmt:=top 9
noncomputable abbrev HJ:List Str:=["columns","every","first"]
theorem Gf:ai HJ ["columns","every"] (aO vk):=by walk_at "s"
noncomputable abbrev wg:Stmt:=top 11
noncomputable abbrev Ii:List Str:=["lit","tie","every"]
theorem O8:ai Ii ["lit","tie","every"] (aO wg):=by walk_at "s"
noncomputable abbrev wH:Stmt:=top 13
noncomputable abbrev GX:List Str:=["thing"]
theorem Lq:ai GX ["thing"] (aO wH):=by walk_at "s"
noncomputable abbrev yB:Stmt:=top 14
noncomputable abbrev JF:List Str:=["thing","least","greatest"]
theorem Ku:ai JF ["thing","least","greatest"] (aO yB):=by walk_at "s"
noncomputable abbrev sh:Stmt:=top 15
noncomputable abbrev DV:List Str:=["numbers"]
theorem Mi:ai DV ["numbers"] (aO sh):=by walk_at "s"
noncomputable abbrev sJ:Stmt:=top 20
noncomputable abbrev Bg:List Str:=["cut","lowers"]
theorem Kr:ai Bg ["cut","lowers"] (aO sJ):=by walk_at "s"
noncomputable abbrev rT:Stmt:=top 21
noncomputable abbrev Bj:List Str:=["many","pieces","lowers","top","knot","cut","table"]
theorem nJ:ai Bj ["many","pieces"] (aO rT):=by walk_at "s"
noncomputable abbrev uP:Stmt:=top 22
noncomputable abbrev FF:List Str:=["ties","lowers","tie"]
theorem HI:ai FF ["ties","lowers"] (aO uP):=by walk_at "s"
noncomputable abbrev qj:Stmt:=top 23
noncomputable abbrev zu:List Str:=["table","columns","every","lit","column"]
theorem zJ:ai zu ["table","columns","every"] (aO qj):=by walk_at "s"
noncomputable abbrev sy:Stmt:=i3 (top 24) 0
noncomputable abbrev CM:List Str:=["self","many","pieces","ties"]
theorem Mt:ai CM ["self","many","pieces","ties"] (aO sy):=by walk_at "s"
noncomputable abbrev sF:Stmt:=i3 (top 24) 1
noncomputable abbrev DI:List Str:=["self"]
theorem Q6:ai DI ["self"] (aO sF):=by walk_at "s"
noncomputable abbrev xn:Stmt:=i3 (top 24) 2
noncomputable abbrev Hq:List Str:=["self"]
theorem Py:ai Hq ["self"] (aO xn):=by walk_at "s"
noncomputable abbrev qb:Stmt:=i3 (top 24) 3
noncomputable abbrev zc:List Str:=["self","every","lit","knot","cut","table"]
theorem sA:ai zc ["self"] (aO qb):=by walk_at "s"
noncomputable abbrev su:Stmt:=top 28
noncomputable abbrev Ap:List Str:=["table","count"]
theorem J5:ai Ap ["table","count"] (aO su):=by walk_at "s"
noncomputable abbrev ur:Stmt:=top 29
noncomputable abbrev ID:List Str:=["tie","sign"]
theorem Ij:ai ID ["tie"] (aO ur):=by walk_at "s"
noncomputable abbrev p5:Stmt:=top 30
noncomputable abbrev zQ:List Str:=["board","lines","knot","cut","table","numbers"]
theorem rS:ai zQ ["board"] (aO p5):=by walk_at "s"
noncomputable abbrev rL:Stmt:=top 31
noncomputable abbrev A3:List Str:=["word"]
theorem Ow:ai A3 ["word"] (aO rL):=by walk_at "s"
noncomputable abbrev sZ:Stmt:=top 32
noncomputable abbrev FV:List Str:=["row"]
theorem Kk:ai FV ["row"] (aO sZ):=by walk_at "s"
noncomputable abbrev lQ:Stmt:=top 33
noncomputable abbrev xv:List Str:=["word","count","places"]
theorem EU:ai xv ["word","count"] (aO lQ):=by walk_at "s"
noncomputable abbrev rF:Stmt:=top 34
noncomputable abbrev Cs:List Str:=["row","count","cut"]
theorem Dx:ai Cs ["row"] (aO rF):=by walk_at "s"
noncomputable abbrev uz:Stmt:=top 35
noncomputable abbrev Iu:List Str:=["word"]
theorem Q8:ai Iu ["word"] (aO uz):=by walk_at "s"
noncomputable abbrev rR:Stmt:=top 36
noncomputable abbrev Cm:List Str:=["row"]
theorem Rf:ai Cm ["row"] (aO rR):=by walk_at "s"
noncomputable abbrev nV:Stmt:=top 37
noncomputable abbrev zU:List Str:=["lines","rows","many","pieces"]
theorem yN:ai zU ["lines"] (aO nV):=by walk_at "s"
noncomputable abbrev wR:Stmt:=top 39
noncomputable abbrev Ig:List Str:=["_law_script","_law_k"]
theorem KO:ai Ig ["_law_script","_law_k"] (aO wR):=by walk_at "s"
noncomputable abbrev xb:Stmt:=top 40
noncomputable abbrev GR:List Str:=["_law_cell","_law_known","_law_cut_here","_law_j","_law_one"]
theorem zk:ai GR ["_law_cell","_law_known"] (aO xb):=by walk_at "s"
noncomputable abbrev xE:Stmt:=top 41
noncomputable abbrev HG:List Str:=["_law_cell","_law_knot","_law_known","_law_cut_here","_law_text","_law_place"]
theorem uR:ai HG ["_law_cell","_law_knot","_law_known"] (aO xE):=by walk_at "s"
noncomputable abbrev xG:Stmt:=top 42
noncomputable abbrev Jd:List Str:=["_law_pieces","_law_many","_law_lighting","_law_lit_here","_law_i","_law_knot","_law_cut_here","_law_text","_law_place","_law_j"]
theorem lD:ai Jd ["_law_pieces","_law_many","_law_lighting"] (aO xG):=by walk_at "s"
noncomputable abbrev tE:Stmt:=top 43
noncomputable abbrev II:List Str:=["_law_text","_law_told","_law_place"]
theorem zT:ai II ["_law_text"] (aO tE):=by walk_at "s"
noncomputable abbrev uI:Stmt:=top 44
noncomputable abbrev Hx:List Str:=["_law_found"]
theorem PU:ai Hx ["_law_found"] (aO uI):=by walk_at "s"
noncomputable abbrev yn:Stmt:=top 45
noncomputable abbrev Hk:List Str:=["_law_found","_law_pieces","_law_k","_law_knot","_law_cut_here","_law_text"]
theorem vB:ai Hk ["_law_found","_law_pieces"] (aO yn):=by walk_at "s"
noncomputable abbrev ug:Stmt:=top 46
noncomputable abbrev F6:List Str:=["_law_script","_law_known","_law_pieces","_law_j","_law_bit","_law_k","_law_cell","_law_knot"]
theorem oJ:ai F6 ["_law_script","_law_known"] (aO ug):=by walk_at "s"
noncomputable abbrev mz:Stmt:=top 47
noncomputable abbrev yv:List Str:=["_law_script","_law_many","_law_known","_law_pieces","_law_lines","_law_knot","_law_cut_here","_law_text","_law_cell","_law_outs","_law_j","_law_handed","_law_board","_law_columns","_law_lighting","_law_lit_here"]
theorem g4:ai yv ["_law_script"] (aO mz):=by walk_at "s"
set_option genInjectivity false in
set_option genSizeOf false in
structure fv where
 bQ:Addr
 dA:FuncData
 bw:Addr
 cL:FuncData
 cw:Addr
 d9:FuncData
 eC:Addr
 gy:FuncData
 dI:Addr
 fW:FuncData
 cx:Addr
 d5:FuncData
 cX:Addr
 eS:FuncData
 da:Addr
 eV:FuncData
 bV:Addr
 dC:FuncData
 cY:Addr
 eX:FuncData
 bG:Addr
 dj:FuncData
 aU:Addr
 cj:FuncData
 bD:Addr
 dh:FuncData
 cz:Addr
 dU:FuncData
 bq:Addr
 cK:FuncData
 cD:Addr
 eg:FuncData
 dM:Addr
 fA:FuncData
 bS:Addr
 dy:FuncData
 cZ:Addr
 eR:FuncData
 eL:Addr
 gB:FuncData
 dG:Addr
 fH:FuncData
 dJ:Addr
 fR:FuncData
 fP:Addr
 g6:FuncData
 eM:Addr
 gx:FuncData
 dO:Addr
 fE:FuncData
 bW:Addr
 dB:FuncData
 eA:Addr
 gu:FuncData
 cU:Addr
 eN:FuncData
 eE:Addr
 gC:FuncData
 cB:Addr
 dX:FuncData
 cW:Addr
 fb:FuncData
 bg:Addr
 bP:FuncData
 bu:Addr
 cM:FuncData
 jU:Addr
 mK:FuncData
 ab:Addr
noncomputable def Am (_:fv):V:=.str "0123456789"
noncomputable def Ak (_:fv):V:=.int 999
noncomputable def uL (_:fv):V:=.int 6
noncomputable def DU (_:fv):V:=.int 3
noncomputable def Cj (_:fv):V:=.int 10
structure Txt (K:ZoW) (mg:Str->Option Value) (a:fv):Prop where
 bR:FT K mg "full_column" vo ["many"] a.bQ a.dA
 cF:FT K mg "input_columns" rG ["many"] a.bw a.cL
 dR:FT K mg "chosen_lit" vk ["columns","every"] a.cw a.d9
 gv:FT K mg "lit_tie" wg ["lit","tie","every"] a.eC a.gy
 cy:FT K mg "is_whole" wH ["thing"] a.dI a.fW
 bz:FT K mg "is_between" yB ["thing","least","greatest"] a.cx a.d5
 eQ:FT K mg "is_rising" sh ["numbers"] a.cX a.eS
 eW:FT K mg "is_cut_of" sJ ["cut","lowers"] a.da a.eV
 dE:FT K mg "need_pieces" rT ["many","pieces"] a.bV a.dC
 eT:FT K mg "need_ties" uP ["ties","lowers"] a.cY a.eX
 di:FT K mg "piece_column" qj ["table","columns","every"] a.bG a.dj
 cf:FM K a.ab "__init__" "Board.__init__" sy ["self","many","pieces","ties"] a.aU a.cj
 aP:FM K a.ab "pieces" "Board.pieces" sF ["self"] a.bD a.dh
 bf:FM K a.ab "ties" "Board.ties" xn ["self"] a.cz a.dU
 br:FM K a.ab "columns" "Board.columns" qb ["self"] a.bq a.cK
 d7:FT K mg "table_text" su ["table","count"] a.cD a.eg
 fM:FT K mg "tie_text" ur ["tie"] a.dM a.fA
 dD:FT K mg "board_lines" p5 ["board"] a.bS a.dy
 ba:FT K mg "number_of" rL ["word"] a.cZ a.eR
 gA:FT K mg "many_of" sZ ["row"] a.eL a.gB
 fI:FT K mg "table_of" lQ ["word","count"] a.dG a.fH
 fJ:FT K mg "piece_of" rF ["row"] a.dJ a.fR
 h9:FT K mg "tie_of" uz ["word"] a.fP a.g6
 gz:FT K mg "ties_of" rR ["row"] a.eM a.gx
 fO:FT K mg "board_of" nV ["lines"] a.dO a.fE
 aN:FT K mg "_law_cell_at" wR ["_law_script","_law_k"] a.bW a.dB
 gw:FT K mg "_law_cut" xb ["_law_cell","_law_known"] a.eA a.gu
 eO:FT K mg "_law_piece" xE ["_law_cell","_law_knot","_law_known"] a.cU a.eN
 gp:FT K mg "_law_lit" xG ["_law_pieces","_law_many","_law_lighting"] a.eE a.gC
 dS:FT K mg "_law_number" tE ["_law_text"] a.cB a.dX
 bN:FT K mg "_law_whole" uI ["_law_found"] a.cW a.fb
 bL:FT K mg "_law_pieces_told" yn ["_law_found","_law_pieces"] a.bg a.bP
 cN:FT K mg "_law_pieces_by" ug ["_law_script","_law_known"] a.bu a.cM
 mR:FT K mg "law" mz ["_law_script"] a.jU a.mK
 hV:mg "Board" = some (.ref a.ab)
 az:jS K a.ab
 mk_Board:Mk K a.ab a.aU
 aW:lN K a.ab "many"
 aQ:lN K a.ab "kept_pieces"
 aZ:lN K a.ab "kept_ties"
 ki_Board:Zo7 K (.ref a.ab) (.ref a.ab)=some true
 kj_Board:ZoY K (.ref a.ab) "__class__" = some (some (.builtin "object.__class__"))
 kq_Board:Zpc K (.builtin "object.__class__") "__get__" = some (some (.builtin "getset_descriptor.__get__"))
 kt_Board:Zpi K (.builtin "object.__class__")=some true
 km_Board:Zpj K a.ab (.type "object")=some true
 iI:∃ u,mg "FIGURES" = some u/\aH (Am a) u
 eF:∃ u,mg "GREATEST_KNOT" = some u/\aH (Ak a) u
 dc:∃ u,mg "LONGEST_CUT" = some u/\aH (uL a) u
 ff:∃ u,mg "MOST_FIGURES" = some u/\aH (DU a) u
 fQ:∃ u,mg "MOST_INPUTS" = some u/\aH (Cj a) u
 gH:mg "all" = none
 iT:mg "bool" = none
 iX:mg "dict" = none
 d8:mg "enumerate" = none
 dH:mg "int" = none
 aA:mg "isinstance" = none
 ay:mg "len" = none
 dr:mg "list" = none
 qG:mg "min" = none
 aC:mg "range" = none
 ji:mg "sorted" = none
 cC:mg "str" = none
 qS:mg "sum" = none
 dY:mg "tuple" = none
 ke:mg "zip" = none
seal PE PT PS iu PA PG xk PI PO PW oI sE PK PC Ez QM bj wC fD i4 lL nc AX jq
local macro_rules | `(tactic| walk_at "go")=>`(tactic| try simp only [aE,bo,au,iw,cG,ik,ah,tC,aa,cI,bc,dg,jG,jH,iq,zH,nu,cA,gh,t4,bI,jr,en,xF,bH,af,aj,eh,aX,eu,cInt,kz,rg,jz,gO,gE,kU,lB,r9,jg,i9,QR,Qj,L9,Nb,Oi,M0,OU,Nu,Ky,Pg,jo,tG,zR,bE,mi,mN,jE,rJ,xx,nB,nK,Pq,Lp,Rh,PN,oG,nH,Be,mI,gr,AY,ri,kA,jT,CY,AD,j6,MT,Bp,kL,D5,iK,J2,pv,tU,CB,Bf,BI,J7,mv,Zp4,Zqm,List.nil_append,Zqw,Zp0,List.set_cons_zero,List.set_cons_succ,decide_eq_true_eq,if_true,if_false,Bool.false_eq_true,eq_self,decide_true,decide_false,Bool.not_true,Bool.not_false,Bool.not_eq_true',decide_eq_false_iff_not,Bool.and_true,Zri])
local macro_rules | `(tactic| walk_at "sd")=>`(tactic| first | exact And.intro (by decide) (by decide) | decide | omega | exact Or.inl (And.intro (by omega) (by omega)) | exact Or.inr (And.intro (by omega) (by omega)) | exact And.intro (by omega) (And.intro (by omega) (by decide)) | exact And.intro (by omega) (by omega))
local macro_rules | `(tactic| walk_at "gs")=>`(tactic| (walk_at "go";repeat (first | (refine And.intro (by walk_at "sd") ?_;walk_at "go"))))
local macro_rules | `(tactic| walk_at "o")=>`(tactic| first | exact Or.inl rfl | exact Or.inr rfl)
variable {P:Program}{w:World}{K:ZoW}{mg:Str->Option Value}{base:Heap}{a:fv}
noncomputable abbrev Pc:=Int × List Int × Int
structure eJ (H:Hp) (l:Addr) (ts:List (Addr × Addr)) (ps:List Pc):Prop where
 lst:H l=some (.lst (ts.map fun t=>V.ref t.1))
 len:ts.length=ps.length
 at_:∀ (i:Nat) t p,ts[i]? = some t->ps[i]? = some p->H t.1=some (.tup [.int p.1,.ref t.2,.int p.2.2])/\H t.2=some (.lst (p.2.1.map V.int))
structure jm (H:Hp) (l:Addr) (ts:List (Addr × Addr)) (ps:List Pc):Prop where
 tup:H l=some (.tup (ts.map fun t=>V.ref t.1))
 len:ts.length=ps.length
 at_:∀ (i:Nat) t p,ts[i]? = some t->ps[i]? = some p->H t.1=some (.tup [.int p.1,.ref t.2,.int p.2.2])/\H t.2=some (.tup (p.2.1.map V.int))
theorem eJ.same {H H':Hp}{l:Addr}{ts:List (Addr × Addr)}{ps:List Pc} (h:eJ H l ts ps) (s:aD H H'):eJ H' l ts ps :=
 ⟨s _ _ h.lst,h.len,fun i t p ht hp=>⟨s _ _ (h.at_ i t p ht hp).1,s _ _ (h.at_ i t p ht hp).2⟩⟩
noncomputable def NL (H H':Hp):Prop:=∀ b o,(∀ xs,o≠HO.lst xs)->H b=some o->H' b=some o
theorem NL.of {H H':Hp} (s:aD H H'):NL H H':=fun b o _ e=>s b o e
theorem jm.nl {H H':Hp}{l:Addr}{ts:List (Addr × Addr)}{ps:List Pc} (h:jm H l ts ps) (s:NL H H'):jm H' l ts ps :=
 ⟨s _ _ (fun _ z=>nomatch z) h.tup,h.len,fun i t p ht hp=>⟨s _ _ (fun _ z=>nomatch z) (h.at_ i t p ht hp).1,s _ _ (fun _ z=>nomatch z) (h.at_ i t p ht hp).2⟩⟩
theorem eJ.get {H:Hp}{l:Addr}{ts:List (Addr × Addr)}{ps:List Pc} (h:eJ H l ts ps) {i:Nat} (hi:i<ts.length):∃ p,ps[i]? = some p/\H (ts[i]).1=some (.tup [.int p.1,.ref (ts[i]).2,.int p.2.2])/\H (ts[i]).2=some (.lst (p.2.1.map V.int)):=by
 have hp:ps[i]? = some (ps[i]'(by rw [<- h.len];exact hi)):=Zpw _
 exact ⟨_,hp,h.at_ i _ _ (Zpw hi) hp⟩
theorem jm.get {H:Hp}{l:Addr}{ts:List (Addr × Addr)}{ps:List Pc} (h:jm H l ts ps) {i:Nat} (hi:i<ts.length):∃ p,ps[i]? = some p/\H (ts[i]).1=some (.tup [.int p.1,.ref (ts[i]).2,.int p.2.2])/\H (ts[i]).2=some (.tup (p.2.1.map V.int)):=by
 have hp:ps[i]? = some (ps[i]'(by rw [<- h.len];exact hi)):=Zpw _
 exact ⟨_,hp,h.at_ i _ _ (Zpw hi) hp⟩
theorem Gy (ts:List (Addr × Addr)) {i:Nat} (hi:i<ts.length):(ts.map fun t=>V.ref t.1).getD i .non=.ref (ts[i]).1:=by
 rw [Zp7,ZpB,Zpw hi]
 rfl
noncomputable def known (m:Nat) (ps:List Pc):List Int:=((Zpv m).map fun i:Nat=>1+(i:Int)) ++ ps.map (·.1)
noncomputable def fK (m:Nat) (ps:List Pc):Int:=(ps.map (·.1)).getLastD m
structure uy (m:Nat) (ps:List Pc) (p:Pc):Prop where
 up:fK m ps<p.1
 hi:p.1<=999
 l1:1<=p.2.1.length
 l6:p.2.1.length<=6
 G6:p.2.1.Pairwise (· < ·)
 kn:∀ x∈p.2.1,x∈known m ps
 t0:0<=p.2.2
 t1:p.2.2<((2 ^ 2 ^ p.2.1.length:Nat):Int)
noncomputable def WP (m:Nat) (ps:List Pc):Prop:=∀ i p,ps[i]? = some p->uy m (ps.take i) p
structure WT (m:Nat) (ps:List Pc) (ae:List Int):Prop where
 l1:1<=ae.length
 lh:ae.length<=100
 B2:∀ t∈ae,0<=t/\(t / 2=0\/t / 2∈known m ps)
theorem yD (m:Nat) (ps:List Pc) (p:Pc):fK m (ps ++ [p])=p.1:=by
 unfold fK
 rw [Zpy]
 simp
theorem uF (m:Nat) (ps:List Pc) (p:Pc):known m (ps ++ [p])=known m ps ++ [p.1]:=by
 unfold known
 rw [Zpy,Zqh]
 rfl
theorem rM {ps:List Pc}{i:Nat}{p:Pc} (h:ps[i]? = some p):ps.take (i+1)=ps.take i ++ [p]:=by rw [Zqa,h];rfl
noncomputable def zg (_:ZoW):Sp:=fun vs H Q _=>∃ i:Int,vs=[.int i]/\Q (.bl true) H
noncomputable def Ay (K:ZoW):TS:=(bI (lB (aX (kz K) (af (aa 0) (af (tC (.ty "int")) aj))) (r9 (aX (kz K) (af (aa 0) (af (tC (.ty "bool")) aj))))))
theorem Oc (T:Txt K mg a):TM P w K mg base 0 "is_whole" wH GX a.dI (Ay K) :=
 fun hr=>(aM (bO (wc (cq mq (by rfl) T.aA PyProof.Rows.boot_isinstance (ag (cv 0) (ag (rh (v:=.ty "int") rfl T.dH PyProof.Rows.boot_int rfl) ak))) (vd (mT (cq mq (by rfl) T.aA PyProof.Rows.boot_isinstance (ag (cv 0) (ag (rh (v:=.ty "bool") rfl T.iT PyProof.Rows.boot_bool rfl) ak))))))))
theorem DG (T:Txt K mg a):aB P w K mg base cb 1 a.dI a.fW ["thing"] (zg K):=by
 refine T.cy.n.dt Lq (Oc T) (fun vs H Q E h=>?_) (fun H vs Q E h=>?_)
 ·obtain ⟨i,rfl,_⟩:=h;rfl
 ·obtain ⟨i,rfl,q⟩:=h
  show Ay K _ [some (.int i)] H
  unfold Ay
  walk_at "gs"
  refine ⟨_,true,.int _,rfl,?_⟩
  walk_at "gs"
  refine ⟨_,false,.int _,rfl,?_⟩
  walk_at "gs"
  exact q
noncomputable def zS (_:ZoW):Sp:=fun vs H Q _=>∃ i l g:Int,vs=[.int i,.int l,.int g]/\Q (.bl (decide (l<=i/\i<=g))) H
noncomputable def CJ (K:ZoW):TS:=(bI (lB (bH (zg K) [] E0 (af (aa 0) aj)) (t4 (cI fun i j=>.bl (decide (i<=j))) (cI fun i j=>.bl (decide (i<=j))) (aa 1) (aa 0) (aa 2))))
theorem NX (T:Txt K mg a):TM P w K mg base 1 "is_between" yB JF a.cx (CJ K) :=
 fun hr=>(aM (bO (wc (bM T.cy (DG T) (hm hr) bx (ag (cv 0) ak)) (vd (LB yt yt (cv 1) (cv 0) (cv 2))))))
theorem Df (T:Txt K mg a):aB P w K mg base cb 2 a.cx a.d5 ["thing","least","greatest"] (zS K):=by
 refine T.bz.n.dt Ku (NX T) (fun vs H Q E h=>?_) (fun H vs Q E h=>?_)
 ·obtain ⟨i,l,g,rfl,_⟩:=h;rfl
 ·obtain ⟨i,l,g,rfl,q⟩:=h
  show CJ K _ [some (.int i),some (.int l),some (.int g)] H
  unfold CJ
  walk_at "gs"
  refine ⟨_,rfl,?_⟩
  walk_at "gs"
  by_cases h:l<=i
  ·rw [if_pos h]
   rw [show decide (l<=i/\i<=g)=decide (i<=g) by rw [decide_eq_decide];omega] at q
   exact q
  ·rw [if_neg h]
   rw [decide_eq_false (fun z=>h z.1)] at q
   exact q
noncomputable def je (m:Nat):Nat:=2 ^ 2 ^ m - 1
noncomputable def D3 (_:ZoW):Sp:=fun vs H Q _=>∃ m:Nat,vs=[.int m]/\m<=10/\Q (.int (je m:Nat)) H
noncomputable def BP (K:ZoW):TS:=(bI (ah (cI fun i j=>.int (i - j)) (ah (bc gU fun i j=>.int (i * 2 ^ j.toNat)) (tC (.int 1)) (ah (bc gU fun i j=>.int (i * 2 ^ j.toNat)) (tC (.int 1)) (aa 0))) (tC (.int 1))))
theorem Q7 (T:Txt K mg a):TM P w K mg base 0 "full_column" vo IM a.bQ (BP K) :=
 fun hr=>(aM (bO (ax DK (ax kr aq (ax kr aq (cv 0))) aq)))
theorem JI (T:Txt K mg a):aB P w K mg base cb 1 a.bQ a.dA ["many"] (D3 K):=by
 refine T.bR.n.dt Pt (Q7 T) (fun vs H Q E h=>?_) (fun H vs Q E h=>?_)
 ·obtain ⟨m,rfl,_⟩:=h;rfl
 ·obtain ⟨m,rfl,bA,q⟩:=h
  show BP K _ [some (.int m)] H
  unfold BP
  have BM:(2:Nat) ^ m<=2 ^ 10:=ZqG (by decide) bA
  have ec:(1 * 2 ^ ((m:Int)).toNat:Int)=((2 ^ m:Nat):Int):=by simp
  have ef:(1 * 2 ^ (((2 ^ m:Nat):Int)).toNat - 1:Int)=((je m:Nat):Int):=by
   have:=yH 1 (2 ^ m)
   rw [show ((1:Nat):Int)=1 from rfl] at this
   rw [this,Nat.one_mul]
   have h1:1<=2 ^ 2 ^ m:=Nat.one_le_two_pow
   unfold je
   omega
  walk_at "gs"
  rw [ec]
  have cp:gU 1 ((2 ^ m:Nat):Int):=by
   generalize 2 ^ m=N at BM
   exact ⟨by omega,by omega,by decide⟩
  refine ⟨cp,?_⟩
  rw [ef]
  exact q
noncomputable def JQ (K:ZoW):Sp:=fun vs H Q _=>∃ (p:Addr) (xs:List Int),vs=[.ref p]/\aI K H p (xs.map V.int)/\xs.length<=4000/\∀ H',aD H H'->Q (.bl (MF.zx xs)) H'
noncomputable def B3 (K:ZoW):TS:=(bI (aX (jz K) (af (cO (ka K (af (aa 0) (af (mi (mN K) (aa 0) (jE (tC (.int 1))) rJ) aj))) 2 [] (iw K 2 (cG (au 0) (cG (au 1) ik))) cJ (ah (cI fun i j=>.bl (decide (i<j))) (aa 0) (aa 1))) aj)))
theorem Qf (T:Txt K mg a):TM P w K mg base 0 "is_rising" sh DV a.cX (B3 K) :=
 fun hr=>(aM (bO (cq (zM rfl) (by rfl) T.gH PyProof.Rows.boot_all (ag (ia (N:=["one","other"]) (k:=2) (sel:=[]) (ao.of (aO sh).names (by decide +kernel)) (av.of DV (by decide +kernel)) rfl (EZ rfl T.ke (ag (cv 0) (ag (sj rP (cv 0) (mH aq) yS) ak))) (fun _ _ _ _=>(jx rfl (dm (aY (i:=0) (show ZpF (["one","other"]:List Str) by decide +kernel) rfl (by walk_at "o")) (dm (aY (i:=1) (show ZpF (["one","other"]:List Str) by decide +kernel) rfl (by walk_at "o")) jv)))) (fun _ _ _ _=>fz) (fun _ _ _ _=>(qx kX (cv 0) (cv 1) (cR _)))) ak))))
theorem LH (T:Txt K mg a):aB P w K mg base cb 1 a.cX a.eS ["numbers"] (JQ K):=by
 refine T.eQ.n.dt Mi (Qf T) (fun vs H Q E h=>?_) (fun H vs Q E h=>?_)
 ·obtain ⟨p,xs,rfl,_⟩:=h;rfl
 ·obtain ⟨p,xs,rfl,hS,hz,q⟩:=h
  show B3 K _ [some (.ref p)] H
  unfold B3
  have big:(20000:Nat)<=sizeLine:=by decide
  walk_at "gs"
  refine ⟨_,hS,fun q1 H1 n1=>?_⟩
  rw [xw] at n1
  refine ⟨p,q1,rfl,⟨_,n1.same.seq hS⟩,⟨_,n1.sq⟩,fun r hr=>Jw (xs:=xs.map V.int) (ys:=(xs.map V.int).drop 1) (n:=xs.length - 1) (by rw [Zqq,Zpu];omega) (fun σ=>∃ v0 v1,σ=[v0,v1]) (fun i H3=>H3 r=some (.lst (((Zpv i).map fun j=>decide (xs.getD j 0<xs.getD (j+1) 0)).map V.bl))/\aD H1 H3) ⟨_,_,rfl⟩ ⟨bh,eD hr⟩ ?_ ?_ ?_⟩
  ·rintro i H2 _ ⟨_,s2⟩
   exact ⟨s2.seq (n1.same.seq hS),s2.seq n1.sq⟩
  ·rintro i x y t σ2 H2 R hx hy ht ⟨v0,v1,rfl⟩ ⟨h1,s2⟩ hR
   have hi:i+1<xs.length:=by
    have:=(ZpA.mp hy).1
    rw [Zqq,Zpu] at this
    omega
   have ex:x=.int (xs.getD i 0):=by
    rw [ZpB,Zpw (by omega)] at hx
    cases hx
    simp [ZpE,show i<xs.length by omega]
   have ey:y=.int (xs.getD (i+1) 0):=by
    rw [List.getElem?_drop,ZpB,show 1+i=i+1 by omega,Zpw hi] at hy
    cases hy
    simp [ZpE,hi]
   subst ex ey
   have Jn:t≠r:=(cH h1 ht).symm
   walk_at "gs"
   refine ⟨t,_,rfl,.of bh,rfl,_,_,rfl,_,_,rfl,rfl,?_⟩
   walk_at "gs"
   refine ⟨_,by rw [aJ Jn.symm];exact h1,by rw [Zpu,Zpu,ZpO];omega,hR _ _ ⟨_,_,rfl⟩ ⟨?_,((s2.trans (eD ht))).put hr⟩⟩
   rw [bh,Zp2,Zpy,Zpy]
   rfl
  ·rintro H3 ⟨h1,s3⟩
   walk_at "gs"
   refine ⟨_,.of h1,?_⟩
   exact q H3 (n1.same.trans s3)
theorem MH {α:Type} (xs:List α):(xs.map fun _=>true).all id=true:=by
 rw [Zqe,Zp1]
 intro _ _
 rfl
noncomputable def IU (K:ZoW):Sp:=fun vs H Q _=>∃ (c d:Addr) (xs:List Int) (kvs:List (Key × V)),vs=[.ref c,.ref d]/\aI K H c (xs.map V.int)/\H d=some (.dK kvs)/\1<=xs.length/\xs.length<=6/\xs.Pairwise (· < ·)/\(∀ x∈xs,(cV kvs (.inl x)).isSome=true)/\∀ H',aD H H'->Q (.bl true) H'
noncomputable def C5 (a:fv) (K:ZoW):TS:=(aE (en (gE (cA (ah (cI fun i j=>.bl (decide (i<j))) (aX (eu K) (af (aa 0) aj)) (tC (.int 1)))) (cA (ah (cI fun i j=>.bl (decide (j<i))) (aX (eu K) (af (aa 0) aj)) (tC (uL a))))) (bI (tC (.bl false))) eh)
  (aE (en (gO (gh K (aX (jz K) (af (cO (fk K (aa 0)) 1 [1] (au 0) cJ (lB (bH (zg K) [] E0 (af (aa 0) aj)) (nH (aa 0) (aa 1)))) aj)))) (bI (tC (.bl false))) eh)
  (bI (bH (JQ K) [] E0 (af (aa 0) aj)))))
theorem N8 (T:Txt K mg a):TM P w K mg base 1 "is_cut_of" sJ Bg a.da (C5 a K) :=
 fun hr=>(aG (eY (PW.pt (hG (dN kX (cq eZ (by rfl) T.ay PySem.boot_len (ag (cv 0) ak)) aq (cR _)) (jF (dN nE (cq eZ (by rfl) T.ay PySem.boot_len (ag (cv 0) ak)) (sm rfl T.dc) (cR _))))) (aM (bO ip)) eU)
   (aG (eY (iy (g7 (cq (zM rfl) (by rfl) T.gH PyProof.Rows.boot_all (ag (ia (N:=["lower","lowers"]) (k:=1) (sel:=[1]) (ao.of (aO sJ).names (by decide +kernel)) (av.of Bg (by decide +kernel)) rfl (gI (cv 0)) (fun _ _ _ _=>(aY (i:=0) (show ZpF (["lower","lowers"]:List Str) by decide +kernel) rfl (by walk_at "o"))) (fun _ _ _ _=>fz) (fun _ _ _ _=>(wc (bM T.cy (DG T) (hm hr) bx (ag (cv 0) ak)) (vd (m9 (qL (js hr) (cv 0) (cv 1))))))) ak)))) (aM (bO ip)) eU)
   (aM (bO (bM T.eQ (LH T) (hm hr) bx (ag (cv 0) ak))))))
theorem Ks (T:Txt K mg a):aB P w K mg base cb 2 a.da a.eV ["cut","lowers"] (IU K):=by
 refine T.eW.n.dt Kr (N8 T) (fun vs H Q E h=>?_) (fun H vs Q E h=>?_)
 ·obtain ⟨c,d,xs,kvs,rfl,_⟩:=h;rfl
 ·obtain ⟨c,d,xs,kvs,rfl,hc,hd,h1,h6,hr,hk,q⟩:=h
  show C5 a K _ [some (.ref c),some (.ref d)] H
  unfold C5 uL
  have big:(20000:Nat)<=sizeLine:=by decide
  walk_at "gs"
  refine .inl ⟨_,.inl hc,?_⟩
  rw [Zpu]
  rw [if_neg (show ¬ ((xs.length:Int)<1) by omega)]
  refine .inl ⟨_,.inl hc,?_⟩
  rw [Zpu]
  rw [if_neg (show ¬ ((6:Int)<(xs.length:Int)) by omega)]
  walk_at "gs"
  refine ⟨⟨_,hc⟩,rW (fun _=>.bl true) hc rfl (by rw [Zpu];omega) ?_ ?_⟩
  ·intro v H' Q' hv s' q'
   obtain ⟨y,hy,rfl⟩:=ZpI.mp hv
   walk_at "gs"
   refine ⟨_,rfl,?_⟩
   walk_at "gs"
   refine ⟨d,_,rfl,gX.k (k:=.inl y) (s' _ _ hd),?_⟩
   rw [hk y hy]
   exact q'
  intro lp H1 n1
  have e1:(xs.map V.int).map (fun _=>V.bl true)=(xs.map fun _=>true).map V.bl:=by rw [Zpz,Zpz];rfl
  rw [e1] at n1
  walk_at "gs"
  refine ⟨_,n1.sq,?_⟩
  rw [MH]
  walk_at "gs"
  refine ⟨c,xs,rfl,n1.same.seq hc,by omega,fun H2 s2=>?_⟩
  rw [(MF.Jp xs).mpr (MF.FK hr)]
  exact q H2 (n1.same.trans s2)
theorem sx {κ:Type} [DecidableEq κ] (kvs:List (κ × V)) (k:κ) (v:V):(d6 kvs k v).length<=kvs.length+1:=by
 unfold d6
 split
 ·rw [Zpu];omega
 ·rw [ZpD];exact ZqC _
noncomputable def JD (_:ZoW):Sp:=fun vs H Q _=>∃ (m:Nat) (l:Addr) (ts:List (Addr × Addr)) (ps:List Pc),vs=[.int m,.ref l]/\eJ H l ts ps/\WP m ps/\m<=10/\ps.length<=1000 /\
 ∀ d kvs H',iR H d (.dK kvs) H'->(∀ x:Int,(cV kvs (.inl x)).isSome=decide (x∈known m ps))->Q (.ref d) H'
noncomputable def Ds (a:fv) (K:ZoW):TS:=(aE (bo (aX (BI K) (af (cO (sC (af (tC (.int 1)) (af (ah dg (aa 0) (tC (.int 1))) aj))) 1 [] (au 0) cJ (jB (af (aa 0) (af (tC (.bl true)) aj)))) aj)) (au 2))
  (aE (bo (aa 0) (au 3))
  (aE (ed (fk K (aa 1)) (iw K 3 (cG (au 4) (cG (au 5) (cG (au 6) ik)))) (aE (en (gE (gO (gh K (bH (zS K) [] E0 (af (aa 4) (af (ah dg (aa 3) (tC (.int 1))) (af (tC (Ak a)) aj)))))) (gO (gh K (bH (IU K) [] E0 (af (aa 5) (af (aa 2) aj)))))) iK eh)
  (aE (en (gO (gh K (bH (zS K) [] E0 (af (aa 6) (af (tC (.int 0)) (af (bH (D3 K) [] E0 (af (aX (eu K) (af (aa 5) aj)) aj)) aj)))))) iK eh)
  (aE (mI (aa 2) (aa 4) (tC (.bl true)))
  (bo (aa 4) (au 3))))))
  (bI (aa 2)))))
theorem Kx (T:Txt K mg a):TM P w K mg base 2 "need_pieces" rT Bj a.bV (Ds a K) :=
 fun hr=>(aG (cu (i:=2) nJ.nd rfl (by walk_at "o") (gj (NP rfl) (by rfl) T.iX PyProof.Rows.boot_dict (ag (ia (N:=["knot"]) (k:=1) (sel:=[]) (ao.of (aO rT).names (by decide +kernel)) (av.of Bj (by decide +kernel)) rfl (HZ rfl T.aC (ag aq (ag (ax dv (cv 0) aq) ak))) (fun _ _ _ _=>(aY (i:=0) (show ZpF (["knot"]:List Str) by decide +kernel) rfl (by walk_at "o"))) (fun _ _ _ _=>fz) (fun _ _ _ _=>(kP (ag (cv 0) (ag ip ak))))) ak)))
   (aG (cu (i:=3) nJ.nd rfl (by walk_at "o") (cv 0))
   (aG (gQ PassesOwn.never rfl (gI (cv 1)) (jx rfl (dm (aY (i:=4) nJ.nd rfl (by walk_at "o")) (dm (aY (i:=5) nJ.nd rfl (by walk_at "o")) (dm (aY (i:=6) nJ.nd rfl (by walk_at "o")) jv)))) (aG (eY (PW.pt (hG (iy (g7 (bM T.bz (Df T) (hm hr) bx (ag (cv 4) (ag (ax dv (cv 3) aq) (ag (sm rfl T.eF) ak)))))) (jF (iy (g7 (bM T.eW (Ks T) (hm hr) bx (ag (cv 5) (ag (cv 2) ak)))))))) (aM jC) eU)
   (aG (eY (iy (g7 (bM T.bz (Df T) (hm hr) bx (ag (cv 6) (ag aq (ag (bM T.bR (JI T) (hm hr) bx (ag (cq eZ (by rfl) T.ay PySem.boot_len (ag (cv 5) ak)) ak)) ak)))))) (aM jC) eU)
   (aG (rO (js hr) (cv 2) (cv 4) ip rfl)
   (aM (cu (i:=3) nJ.nd rfl (by walk_at "o") (cv 4)))))))
   (aM (bO (cv 2))))))
theorem LS (T:Txt K mg a):aB P w K mg base cb 3 a.bV a.dC ["many","pieces"] (JD K):=by
 refine T.dE.n.dt nJ (Kx T) (fun vs H Q E h=>?_) (fun H vs Q E h=>?_)
 ·obtain ⟨m,l,ts,ps,rfl,_⟩:=h;rfl
 ·obtain ⟨m,l,ts,ps,rfl,hP,wp,bA,hz,q⟩:=h
  show Ds a K _ [some (.int m),some (.ref l),none,none,none,none,none] H
  unfold Ds Ak
  have big:(20000:Nat)<=sizeLine:=by decide
  have iz:=hP.len
  walk_at "gs"
  refine ⟨_,_,rfl,⟨by decide,by decide,by omega,by omega⟩,?_⟩
  rw [show ((m:Int)+1 - 1).toNat=m by omega]
  refine fun lp mx=>yE (n:=m) (item:=fun i=>.int ((1:Int)+(i:Nat))) (fun σ=>∃ v,σ=[v]) (fun i H2=>∃ us,H2 lp=some (.lst us)/\us.length=i/\aD H H2/\∀ j:Nat,j<i->∃ t,us[j]? = some (.ref t)/\H2 t=some (.tup [.int (1+(j:Int)),.bl true])) ⟨_,rfl⟩ ⟨[],bh,rfl,eD mx,fun j hj=>absurd hj (ZqV _)⟩ ?_ ?_ ?_ ?_
  ·intro i H2 hi _
   exact ⟨hi,fun x H5 hy=>hy⟩
  ·intro H2 _
   exact ZqC _
  ·rintro i σ2 H2 R hi ⟨v,rfl⟩ ⟨us,h1,h2,s2,h4⟩ hR
   walk_at "gs"
   refine ⟨by show 2<=sizeLine;decide,fun t5 H5 n5=>?_⟩
   have nD:=n5.same _ _ h1
   have O0:t5≠lp:=(cH h1 n5.cP).symm
   refine ⟨us,nD,by omega,hR _ _ ⟨_,rfl⟩ ⟨us ++ [.ref t5],bh,by rw [ZpD,h2];rfl,(s2.trans n5.same).put mx,fun j hj=>?_⟩⟩
   by_cases hji:j<i
   ·obtain ⟨t',g1,g2⟩:=h4 j hji
    exact ⟨t',by rw [ZpQ (by omega)];exact g1,by rw [aJ (jb g2 h1 (fun z=>nomatch z))];exact n5.same _ _ g2⟩
   ·have hj':j=i:=by omega
    subst hj'
    exact ⟨t5,by rw [<- h2];simp,by rw [aJ O0];exact n5.at_⟩
  rintro H2 ⟨us,h1,h2,s2,h4⟩
  walk_at "gs"
  refine ⟨us,((Zpv m).map fun i:Nat=>1+(i:Int)).map fun x=>(.inl x,.bl true),h1,by rw [h2,Zpu,Zpu,ZpO],by rw [Zpu,Zpu,ZpO];omega,fun j pr hj=>?_,fun d H3 n3=>?_⟩
  ·rw [Zpz,ZpB] at hj
   cases hx:(Zpv m)[j]? with
   | none=>rw [hx] at hj;cases hj
   | some x =>
    rw [hx] at hj
    cases hj
    have HS:j<m:=by have:=(ZpA.mp hx).1;rwa [ZpO] at this
    rw [Zqt HS] at hx
    cases hx
    exact h4 j HS
  have IG:∀ x:Int,(cV (eK [] (((Zpv m).map fun i:Nat=>1+(i:Int)).map fun x=>((.inl x:Key),V.bl true))) (.inl x)).isSome=decide (x∈known m []):=fun x=>by
   have:=NR ((Zpv m).map fun i:Nat=>1+(i:Int)) x []
   unfold known
   rw [Zp9,Zp4]
   simpa [eK,cV] using this
  have hlen:(eK [] (((Zpv m).map fun i:Nat=>1+(i:Int)).map fun x=>((.inl x:Key),V.bl true))).length<=m:=by
   have key:∀ (ks:List Int) (acc:List (Key × V)),((ks.map fun x=>((.inl x:Key),V.bl true)).foldl (fun acc kv=>d6 acc kv.1 kv.2) acc).length<=acc.length+ks.length:=by
    intro ks
    induction ks with
    | nil=>intro acc;simp
    | cons k r ih =>
     intro acc
     rw [Zpx,Zp3,ZpG]
     dsimp only
     have:=ih (d6 acc (.inl k) (.bl true))
     have:=sx acc (.inl k) (.bl true)
     omega
   have:=key ((Zpv m).map fun i:Nat=>1+(i:Int)) []
   rw [Zpu,ZpO] at this
   simpa [eK] using this
  generalize eK [] (((Zpv m).map fun i:Nat=>1+(i:Int)).map fun x=>((.inl x:Key),V.bl true))=kv0 at n3 IG hlen
  have qu:=s2.trans n3.same
  have mL:H d=none:=s2.nil n3.cP
  walk_at "gs"
  refine ⟨⟨_,.of (qu _ _ hP.lst)⟩,rC (xs:=ts.map fun t=>V.ref t.1) (fun i σ H4=>aD H H4/\∃ (kvs:List (Key × V)) (v4 v5 v6:Option V),H4 d=some (.dK kvs)/\kvs.length<=m+i/\(∀ x:Int,(cV kvs (.inl x)).isSome=decide (x∈known m (ps.take i)))/\σ=[some (.int m),some (.ref l),some (.ref d),some (.int (fK m (ps.take i))),v4,v5,v6]) ⟨qu,kv0,_,_,_,n3.at_,by omega,IG,rfl⟩ ?_ ?_ ?_⟩
  ·rintro i σ H4 _ ⟨s4,_⟩
   exact .of (s4 _ _ hP.lst)
  ·rintro i v σ H4 hv ⟨s4,kvs,v4,v5,v6,h4,hl4,iA,rfl⟩
   have hi:i<ts.length:=by have:=(ZpA.mp hv).1;rwa [Zpu] at this
   rw [ZpB,Zpw hi] at hv
   have ev:V.ref (ts[i]).1=v:=Option.some.inj hv
   subst ev
   clear hv
   obtain ⟨p,hp,hpt,hpc⟩:=(hP.same s4).get hi
   obtain ⟨w1,w2,w3,w4,w5,w6,w7,w8⟩:=wp i p hp
   have tD:=rM hp
   generalize (ts[i]).1=t1 at *
   generalize (ts[i]).2=t2 at *
   have xa:((je p.2.1.length:Nat):Int)=((2 ^ 2 ^ p.2.1.length:Nat):Int) - 1:=by
    unfold je
    have h1:1<=2 ^ 2 ^ p.2.1.length:=Nat.one_le_two_pow
    omega
   walk_at "gs"
   refine ⟨t1,_,rfl,.of hpt,rfl,_,_,rfl,_,_,rfl,_,_,rfl,rfl,?_⟩
   walk_at "gs"
   refine ⟨_,_,_,rfl,?_⟩
   rw [decide_eq_true (show fK m (ps.take i)+1<=p.1/\p.1<=999 by omega)]
   walk_at "gs"
   refine ⟨t2,d,p.2.1,kvs,rfl,.of hpc,h4,w3,w4,w5,fun x hx=>by rw [iA];exact decide_eq_true (w6 x hx),fun H5 s5=>?_⟩
   walk_at "gs"
   refine .inl ⟨_,.inl (.of (s5 _ _ hpc)),?_⟩
   rw [Zpu]
   refine ⟨_,rfl,by omega,?_⟩
   refine ⟨_,_,_,rfl,?_⟩
   rw [xa,decide_eq_true (show (0:Int)<=p.2.2/\p.2.2<=((2 ^ 2 ^ p.2.1.length:Nat):Int) - 1 from ⟨w7,by generalize ((2 ^ 2 ^ p.2.1.length:Nat):Int)=Z at w8 ⊢;omega⟩)]
   walk_at "gs"
   refine ⟨d,_,rfl,p6.k (k:=.inl p.1) (s5 _ _ h4) (by omega),(s4.trans s5).put mL,_,some (.int p.1),some (.ref t2),some (.int p.2.2),bh,?_,fun x=>?_,?_⟩
   ·have:=sx kvs (.inl p.1) (V.bl true)
    omega
   ·rw [tD,uF,yu]
    by_cases e:x=p.1
    ·subst e
     rw [if_pos rfl]
     simp
    ·rw [if_neg (fun z=>e (Sum.inl.inj z)),iA x,decide_eq_decide,ZpM,ZpH]
     exact ⟨.inl,fun z=>z.resolve_right e⟩
   ·rw [tD,yD]
  ·rintro σ H4 ⟨s4,kvs,v4,v5,v6,h4,hl4,iA,rfl⟩
   rw [Zpu,iz,ZpN] at iA
   walk_at "gs"
   exact q d kvs H4 ⟨mL,h4,s4⟩ iA
noncomputable def FO (K:ZoW):Sp:=fun vs H Q _=>∃ (tp d:Addr) (ae:List Int) (kvs:List (Key × V)) (m:Nat) (ps:List Pc),vs=[.ref tp,.ref d]/\aI K H tp (ae.map V.int)/\H d=some (.dK kvs)/\(∀ x:Int,(cV kvs (.inl x)).isSome=decide (x∈known m ps))/\WT m ps ae/\Q .non H
noncomputable def AE (K:ZoW):TS:=(aE (en (cA (ah (cI fun i j=>.bl (decide (i<j))) (aX (eu K) (af (aa 0) aj)) (tC (.int 1)))) iK eh)
  (ed (fk K (aa 0)) (au 2) (en (gE (gO (gh K (bH (zg K) [] E0 (af (aa 2) aj)))) (kU (cA (ah (iq K) (ah (bc ib fun i j=>.int (i / j)) (aa 2) (tC (.int 2))) (tC (.int 0)))) (cA (Be (ah (bc ib fun i j=>.int (i / j)) (aa 2) (tC (.int 2))) (aa 1))))) iK eh)))
theorem QC (T:Txt K mg a):TM P w K mg base 1 "need_ties" uP FF a.cY (AE K) :=
 fun hr=>(aG (eY (dN kX (cq eZ (by rfl) T.ay PySem.boot_len (ag (cv 0) ak)) aq (cR _)) (aM jC) eU)
   (aM (gQ PassesOwn.never rfl (gI (cv 0)) (aY (i:=2) HI.nd rfl (by walk_at "o")) (aM (eY (PW.pt (hG (iy (g7 (bM T.cy (DG T) (hm hr) bx (ag (cv 2) ak)))) (jF (PW.pt (Io (dN (iW (fo hr)) (ax iS (cv 2) aq) aq (cR _)) (ET (C3 (Qr (js hr) (ax iS (cv 2) aq) (cv 1))))))))) (aM jC) eU)))))
theorem Na (T:Txt K mg a):aB P w K mg base cb 2 a.cY a.eX ["ties","lowers"] (FO K):=by
 refine T.eT.n.dt HI (QC T) (fun vs H Q E h=>?_) (fun H vs Q E h=>?_)
 ·obtain ⟨tp,d,ae,kvs,m,ps,rfl,_⟩:=h;rfl
 ·obtain ⟨tp,d,ae,kvs,m,ps,rfl,hT,hd,hk,wt,q⟩:=h
  show AE K _ [some (.ref tp),some (.ref d),none] H
  unfold AE
  have w1:=wt.l1
  walk_at "gs"
  refine .inl ⟨_,.inl hT,?_⟩
  rw [Zpu,if_neg (show ¬ ((ae.length:Int)<1) by omega)]
  walk_at "gs"
  refine ⟨⟨_,hT⟩,rC (xs:=ae.map V.int) (fun i σ H2=>H2=H/\∃ v2,σ=[some (.ref tp),some (.ref d),v2]) ⟨rfl,_,rfl⟩ ?_ ?_ ?_⟩
  ·rintro i σ H2 _ ⟨rfl,_⟩
   exact hT
  ·rintro i v σ H2 hv ⟨rfl,v2,rfl⟩
   obtain ⟨t,ht,rfl⟩:=Jo hv
   have hw:=wt.B2 t (Zp5 ht)
   walk_at "gs"
   refine ⟨_,rfl,?_⟩
   walk_at "gs"
   by_cases g:t / 2=0
   ·rw [if_neg (by simpa using g)]
    exact ⟨by trivial,_,rfl⟩
   ·rw [if_pos (by simpa using g)]
    walk_at "gs"
    refine ⟨d,_,rfl,gX.k (k:=.inl (t / 2)) hd,?_⟩
    rw [hk,decide_eq_true (hw.2.resolve_left g)]
    walk_at "go"
    exact ⟨by trivial,_,rfl⟩
  ·rintro σ H2 ⟨rfl,v2,rfl⟩
   walk_at "gs"
   exact q
open GM
theorem OY:20000<=sizeLine:=by decide
noncomputable def i0 (C:Addr) (H:Hp) (x:Addr) (m:Nat) (ps:List Pc) (ae:List Int):Prop :=
 ∃ (dx k tt:Addr) (ts:List (Addr × Addr)),H x=some (.ins C dx [("many",.int m),("kept_pieces",.ref k),("kept_ties",.ref tt)])/\jm H k ts ps/\H tt=some (.tup (ae.map V.int))
theorem i0.nl {C:Addr}{H H':Hp}{x:Addr}{m:Nat}{ps:List Pc}{ae:List Int} (h:i0 C H x m ps ae) (s:NL H H'):i0 C H' x m ps ae:=by
 obtain ⟨dx,k,tt,ts,h1,h2,h3⟩:=h
 exact ⟨dx,k,tt,ts,s _ _ (fun _ z=>nomatch z) h1,h2.nl s,s _ _ (fun _ z=>nomatch z) h3⟩
theorem i0.same {C:Addr}{H H':Hp}{x:Addr}{m:Nat}{ps:List Pc}{ae:List Int} (h:i0 C H x m ps ae) (s:aD H H'):i0 C H' x m ps ae:=h.nl (NL.of s)
noncomputable def DC (a:fv) (K:ZoW):Sp:=fun vs H Q _=>∃ (x dx l tp:Addr) (m:Nat) (ts:List (Addr × Addr)) (ps:List Pc) (ae:List Int),vs=[.ref x,.int m,.ref l,.ref tp]/\H x=some (.ins a.ab dx [])/\eJ H l ts ps/\H tp=some (.lst (ae.map V.int))/\WP m ps/\WT m ps ae/\1<=m/\m<=10/\ps.length<=1000 /\
 ∀ H',(∀ b o,b≠x->H b=some o->H' b=some o)->i0 a.ab H' x m ps ae->Q .non H'
noncomputable def Cp (a:fv) (K:ZoW):TS:=(aE (en (gO (gh K (bH (zS K) [] E0 (af (aa 1) (af (tC (.int 1)) (af (tC (Cj a)) aj)))))) iK eh)
  (aE (jr (bH (FO K) [] E0 (af (aa 3) (af (bH (JD K) [] E0 (af (aa 1) (af (aa 2) aj))) aj))))
  (aE (jT K (aa 0) (aa 1) "many")
  (aE (jT K (aa 0) (aX (si K) (af (cO (fk K (aa 2)) 3 [] (iw K 3 (cG (au 0) (cG (au 1) (cG (au 2) ik)))) cJ (jB (af (aa 0) (af (aX (si K) (af (aa 1) aj)) (af (aa 2) aj))))) aj)) "kept_pieces")
  (jT K (aa 0) (aX (si K) (af (aa 3) aj)) "kept_ties")))))
theorem Me (T:Txt K mg a):TM P w K mg base 3 "Board.__init__" sy CM a.aU (Cp a K) :=
 fun hr=>(aG (eY (iy (g7 (bM T.bz (Df T) (hm hr) bx (ag (cv 1) (ag aq (ag (sm rfl T.fQ) ak)))))) (aM jC) eU)
   (aG (jP (bM T.eT (Na T) (hm hr) bx (ag (cv 3) (ag (bM T.dE (LS T) (hm hr) bx (ag (cv 1) (ag (cv 2) ak))) ak))))
   (aG (Aj (cv 0) (cv 1) rfl)
   (aG (Aj (cv 0) (gj Co (by rfl) T.dY PyProof.Rows.boot_tuple (ag (ia (N:=["knot","cut","table"]) (k:=3) (sel:=[]) (ao.of (aO sy).names (by decide +kernel)) (av.of CM (by decide +kernel)) rfl (gI (cv 2)) (fun _ _ _ _=>(jx rfl (dm (aY (i:=0) (show ZpF (["knot","cut","table"]:List Str) by decide +kernel) rfl (by walk_at "o")) (dm (aY (i:=1) (show ZpF (["knot","cut","table"]:List Str) by decide +kernel) rfl (by walk_at "o")) (dm (aY (i:=2) (show ZpF (["knot","cut","table"]:List Str) by decide +kernel) rfl (by walk_at "o")) jv))))) (fun _ _ _ _=>fz) (fun _ _ _ _=>(kP (ag (cv 0) (ag (gj Co (by rfl) T.dY PyProof.Rows.boot_tuple (ag (cv 1) ak)) (ag (cv 2) ak)))))) ak)) rfl)
   (aM (Aj (cv 0) (gj Co (by rfl) T.dY PyProof.Rows.boot_tuple (ag (cv 3) ak)) rfl))))))
theorem Pn (T:Txt K mg a):aB P w K mg base cb 4 a.aU a.cj ["self","many","pieces","ties"] (DC a K):=by
 refine T.cf.n.dt Mt (Me T) (fun vs H Q E h=>?_) (fun H vs Q E h=>?_)
 ·obtain ⟨x,dx,l,tp,m,ts,ps,ae,rfl,_⟩:=h;rfl
 ·obtain ⟨x,dx,l,tp,m,ts,ps,ae,rfl,hx,hP,hT,wp,wt,m1,bA,hz,q⟩:=h
  show Cp a K _ [some (.ref x),some (.int m),some (.ref l),some (.ref tp)] H
  unfold Cp Cj
  have big:(20000:Nat)<=sizeLine:=by decide
  have iz:=hP.len
  walk_at "gs"
  refine ⟨_,_,_,rfl,?_⟩
  rw [decide_eq_true (show (1:Int)<=(m:Int)/\(m:Int)<=10 by omega)]
  walk_at "gs"
  refine ⟨m,l,ts,ps,rfl,hP,wp,bA,hz,fun d kvs H1 md hk=>?_⟩
  obtain ⟨_,u4,s1⟩:=md
  refine ⟨tp,d,ae,kvs,m,ps,rfl,.of (s1 _ _ hT),u4,hk,wt,?_⟩
  walk_at "gs"
  refine ⟨x,a.ab,dx,[],rfl,s1 _ _ hx,T.az,T.aW,by decide,?_⟩
  walk_at "gs"
  have D7:upd H1 x (.ins a.ab dx (cS "many" (.int m) [])) x=some (.ins a.ab dx (cS "many" (.int m) [])):=bh
  have s2:∀ b o,b≠x->H b=some o->upd H1 x (.ins a.ab dx (cS "many" (.int m) [])) b=some o:=fun b o n e=>by rw [aJ n];exact s1 _ _ e
  generalize upd H1 x (.ins a.ab dx (cS "many" (.int m) []))=H2 at D7 s2 ⊢
  have ro:eJ H2 l ts ps:=⟨s2 _ _ (jb hP.lst hx (fun z=>nomatch z)) hP.lst,hP.len,fun i t p ht hp=>⟨s2 _ _ (jb (hP.at_ i t p ht hp).1 hx (fun z=>nomatch z)) (hP.at_ i t p ht hp).1,s2 _ _ (jb (hP.at_ i t p ht hp).2 hx (fun z=>nomatch z)) (hP.at_ i t p ht hp).2⟩⟩
  refine ⟨⟨_,.of ro.lst⟩,fun cp iV=>yE (n:=(ts.map fun t=>V.ref t.1).length) (item:=fun i=>(ts.map fun t=>V.ref t.1).getD i .non) (fun σ=>∃ v0 v1 v2,σ=[v0,v1,v2]) (fun i H3=>aD H2 H3/\∃ us:List (Addr × Addr),H3 cp=some (.lst (us.map fun t=>V.ref t.1))/\us.length=i/\∀ (j:Nat) t p,us[j]? = some t->ps[j]? = some p->H3 t.1=some (.tup [.int p.1,.ref t.2,.int p.2.2])/\H3 t.2=some (.tup (p.2.1.map V.int))) ⟨_,_,_,rfl⟩ ⟨eD iV,[],bh,rfl,fun j t p ht=>by simp at ht⟩ (vU (xs:=ts.map fun t=>V.ref t.1) ?_) ?_ ?_ ?_⟩
  ·rintro i H3 _ ⟨s3,_⟩
   exact .of (s3 _ _ ro.lst)
  ·rintro H3 ⟨s3,_⟩
   exact ⟨_,.of (s3 _ _ ro.lst),ZqC _⟩
  ·rintro i σ3 H3 R hi ⟨v0,v1,v2,rfl⟩ ⟨s3,us,h3,fN,hus⟩ hR
   have hit:i<ts.length:=by rwa [Zpu] at hi
   obtain ⟨p,hp,hpt,hpc⟩:=(ro.same s3).get hit
   rw [Gy ts hit]
   generalize (ts[i]).1=t1 at *
   generalize (ts[i]).2=t2 at *
   walk_at "gs"
   refine ⟨t1,_,rfl,.of hpt,rfl,_,_,rfl,_,_,rfl,_,_,rfl,rfl,?_⟩
   walk_at "gs"
   refine ⟨_,.inl ⟨.of hpc,fun c4 H4 n4=>?_⟩⟩
   refine ⟨by show 3<=sizeLine;decide,fun t5 H5 n5=>?_⟩
   have lH:=n4.same.trans n5.same
   have h5:=lH _ _ h3
   have DN:t5≠cp:=(cH (n4.same _ _ h3) n5.cP).symm
   have yP:c4≠cp:=(cH h3 n4.cP).symm
   refine ⟨_,h5,by rw [Zpu];omega,hR _ _ ⟨_,_,_,rfl⟩ ⟨(s3.trans lH).put iV,us ++ [(t5,c4)],by rw [bh,Zpy];rfl,by rw [ZpD,fN];rfl,fun j t p' ht hp'=>?_⟩⟩
   by_cases hji:j<i
   ·rw [ZpQ (by omega)] at ht
    obtain ⟨g1,g2⟩:=hus j t p' ht hp'
    exact ⟨by rw [aJ (jb g1 h3 (fun z=>nomatch z))];exact lH _ _ g1,by rw [aJ (jb g2 h3 (fun z=>nomatch z))];exact lH _ _ g2⟩
   ·have za:j<us.length+1:=by have:=(ZpA.mp ht).1;rwa [ZpD] at this
    have hj:j=i:=by omega
    subst hj
    rw [<- fN,ZpP (ZqC _),ZqM] at ht
    have et:(t5,c4)=t:=by simpa using ht
    subst et
    rw [hp] at hp'
    cases hp'
    exact ⟨by rw [aJ DN];exact n5.at_,by rw [aJ yP];exact n5.same _ _ n4.at_⟩
  rintro H3 ⟨s3,us,h3,fN,hus⟩
  rw [Zpu] at fN
  walk_at "gs"
  refine ⟨_,.inl ⟨.of h3,fun kp H4 n4=>?_⟩⟩
  have yY:=s3.trans n4.same
  refine ⟨x,a.ab,dx,_,rfl,yY _ _ D7,T.az,T.aQ,by have:=vG "many" (.int (m:Int)) [];simp only [ZpW] at this;omega,?_⟩
  walk_at "gs"
  have lI:∀ {b:Addr}{o:HO},H4 b=some o->(∀ C d f,o≠.ins C d f)->b≠x:=fun {b o} e n z=>by
   subst z
   rw [yY _ _ D7] at e
   cases e
   exact n _ _ _ rfl
  have yO:upd H4 x (.ins a.ab dx (cS "kept_pieces" (.ref kp) (cS "many" (.int m) []))) x=some (.ins a.ab dx (cS "kept_pieces" (.ref kp) (cS "many" (.int m) []))):=bh
  have u5:∀ b o,b≠x->H4 b=some o->upd H4 x (.ins a.ab dx (cS "kept_pieces" (.ref kp) (cS "many" (.int m) []))) b=some o:=fun b o n e=>by rw [aJ n];exact e
  generalize upd H4 x (.ins a.ab dx (cS "kept_pieces" (.ref kp) (cS "many" (.int m) [])))=H5 at yO u5 ⊢
  have Au:H4 tp=some (.lst (ae.map V.int)):=yY _ _ (s2 _ _ (jb hT hx (fun z=>nomatch z)) hT)
  have ON:=u5 _ _ (lI Au (fun _ _ _ z=>nomatch z)) Au
  refine ⟨_,.inl ⟨.of ON,fun tt H6 n6=>?_⟩⟩
  refine ⟨x,a.ab,dx,_,rfl,n6.same _ _ yO,T.az,T.aZ,by have h7:=vG "many" (.int (m:Int)) [];have h8:=vG "kept_pieces" (.ref kp) (cS "many" (.int (m:Int)) []);simp only [ZpW] at h7;omega,?_⟩
  have e1:cS "kept_ties" (.ref tt) (cS "kept_pieces" (.ref kp) (cS "many" (.int (m:Int)) []))=([("many",V.int m),("kept_pieces",V.ref kp),("kept_ties",V.ref tt)]:List (Str × V)):=by
   have z1:¬ ("many" : Str) = "kept_pieces":=by decide +kernel
   have z2:¬ ("many" : Str) = "kept_ties":=by decide +kernel
   have z3:¬ ("kept_pieces" : Str) = "kept_ties":=by decide +kernel
   simp [cS,z1,z2,z3]
  have Ro:=n6.same _ _ yO
  have Ll:tt≠x:=(cH yO n6.cP).symm
  have up:∀ b o,b≠x->H4 b=some o->upd H6 x (.ins a.ab dx (cS "kept_ties" (.ref tt) (cS "kept_pieces" (.ref kp) (cS "many" (.int (m:Int)) [])))) b=some o:=fun b o n e=>by rw [aJ n];exact n6.same _ _ (u5 _ _ n e)
  refine q _ (fun b o n e=>up _ _ n (yY _ _ (s2 _ _ n e))) ⟨dx,kp,tt,us,by rw [bh,e1],⟨up _ _ (lI n4.at_ (fun _ _ _ z=>nomatch z)) n4.at_,by omega,fun j t p ht hp=>?_⟩,by rw [aJ Ll];exact n6.at_⟩
  obtain ⟨g1,g2⟩:=hus j t p ht hp
  have g1':=n4.same _ _ g1
  have g2':=n4.same _ _ g2
  exact ⟨up _ _ (lI g1' (fun _ _ _ z=>nomatch z)) g1',up _ _ (lI g2' (fun _ _ _ z=>nomatch z)) g2'⟩
noncomputable def BZ (a:fv) (_:ZoW):Sp:=fun vs H Q _=>∃ (x:Addr) (m:Nat) (ps:List Pc) (ae:List Int),vs=[.ref x]/\i0 a.ab H x m ps ae/\ps.length<=1000 /\
 ∀ l us H',H l=none->aD H H'->eJ H' l us ps->(∀ t∈us,H t.1=none/\H t.2=none/\t.2≠l)->Q (.ref l) H'
noncomputable def A8 (K:ZoW):TS:=(bI (cO (lx K (kA K (aa 0) "kept_pieces")) 3 [] (iw K 3 (cG (au 0) (cG (au 1) (cG (au 2) ik)))) cJ (jB (af (aa 0) (af (aX (rZ K) (af (aa 1) aj)) (af (aa 2) aj))))))
theorem NO (T:Txt K mg a):TM P w K mg base 0 "Board.pieces" sF DI a.bD (A8 K) :=
 fun hr=>(aM (bO (ia (N:=["knot","cut","table"]) (k:=3) (sel:=[]) (ao.of (aO sF).names (by decide +kernel)) (av.of DI (by decide +kernel)) rfl (yX (mO (cv 0) rfl)) (fun _ _ _ _=>(jx rfl (dm (aY (i:=0) (show ZpF (["knot","cut","table"]:List Str) by decide +kernel) rfl (by walk_at "o")) (dm (aY (i:=1) (show ZpF (["knot","cut","table"]:List Str) by decide +kernel) rfl (by walk_at "o")) (dm (aY (i:=2) (show ZpF (["knot","cut","table"]:List Str) by decide +kernel) rfl (by walk_at "o")) jv))))) (fun _ _ _ _=>fz) (fun _ _ _ _=>(kP (ag (cv 0) (ag (gj DY (by rfl) T.dr PyProof.Rows.boot_list (ag (cv 1) ak)) (ag (cv 2) ak))))))))
theorem Ff (T:Txt K mg a):aB P w K mg base cb 1 a.bD a.dh ["self"] (BZ a K):=by
 refine T.aP.n.dt Q6 (NO T) (fun vs H Q E h=>?_) (fun H vs Q E h=>?_)
 ·obtain ⟨x,m,ps,ae,rfl,_⟩:=h;rfl
 ·obtain ⟨x,m,ps,ae,rfl,hB,hz,q⟩:=h
  show A8 K _ [some (.ref x)] H
  unfold A8
  have big:(20000:Nat)<=sizeLine:=by decide
  obtain ⟨dx,k,tt,ts,hx,hP,hT⟩:=hB
  have iz:=hP.len
  walk_at "gs"
  refine ⟨x,a.ab,dx,_,_,rfl,hx,T.az,T.aQ,rfl,?_⟩
  walk_at "gs"
  refine ⟨⟨_,.of hP.tup⟩,fun cp iV=>yE (n:=(ts.map fun t=>V.ref t.1).length) (item:=fun i=>(ts.map fun t=>V.ref t.1).getD i .non) (fun σ=>∃ v0 v1 v2,σ=[v0,v1,v2]) (fun i H3=>aD H H3/\∃ us:List (Addr × Addr),H3 cp=some (.lst (us.map fun t=>V.ref t.1))/\us.length=i/\(∀ t∈us,H t.1=none/\H t.2=none/\t.2≠cp)/\∀ (j:Nat) t p,us[j]? = some t->ps[j]? = some p->H3 t.1=some (.tup [.int p.1,.ref t.2,.int p.2.2])/\H3 t.2=some (.lst (p.2.1.map V.int))) ⟨_,_,_,rfl⟩ ⟨eD iV,[],bh,rfl,fun t ht=>by simp at ht,fun j t p ht=>by simp at ht⟩ (EG (xs:=ts.map fun t=>V.ref t.1) ?_) ?_ ?_ ?_⟩
  ·rintro i H3 _ ⟨s3,_⟩
   exact .of (s3 _ _ hP.tup)
  ·rintro H3 ⟨s3,_⟩
   exact ⟨_,.of (s3 _ _ hP.tup),ZqC _⟩
  ·rintro i σ3 H3 R hi ⟨v0,v1,v2,rfl⟩ ⟨s3,us,h3,fN,hun,hus⟩ hR
   have hit:i<ts.length:=by rwa [Zpu] at hi
   obtain ⟨p,hp,hpt,hpc⟩:=(hP.nl (NL.of s3)).get hit
   rw [Gy ts hit]
   generalize (ts[i]).1=t1 at *
   generalize (ts[i]).2=t2 at *
   walk_at "gs"
   refine ⟨t1,_,rfl,.of hpt,rfl,_,_,rfl,_,_,rfl,_,_,rfl,rfl,?_⟩
   walk_at "gs"
   refine ⟨_,.inr (.of hpc),fun c4 H4 n4=>?_⟩
   refine ⟨by show 3<=sizeLine;decide,fun t5 H5 n5=>?_⟩
   have lH:=n4.same.trans n5.same
   have h5:=lH _ _ h3
   have DN:t5≠cp:=(cH (n4.same _ _ h3) n5.cP).symm
   have yP:c4≠cp:=(cH h3 n4.cP).symm
   refine ⟨_,h5,by rw [Zpu];omega,hR _ _ ⟨_,_,_,rfl⟩ ⟨(s3.trans lH).put iV,us ++ [(t5,c4)],by rw [bh,Zpy];rfl,by rw [ZpD,fN];rfl,fun t ht=>?_,fun j t p' ht hp'=>?_⟩⟩
   ·rcases ZpM.mp ht with z | z
    ·exact hun t z
    ·rw [ZpH] at z
     subst z
     exact ⟨(s3.trans n4.same).nil n5.cP,s3.nil n4.cP,yP⟩
   by_cases hji:j<i
   ·rw [ZpQ (by omega)] at ht
    obtain ⟨g1,g2⟩:=hus j t p' ht hp'
    exact ⟨by rw [aJ (jb g1 h3 (fun z=>nomatch z))];exact lH _ _ g1,by rw [aJ (hun t (Zp5 ht)).2.2];exact lH _ _ g2⟩
   ·have za:j<us.length+1:=by have:=(ZpA.mp ht).1;rwa [ZpD] at this
    have hj:j=i:=by omega
    subst hj
    rw [<- fN,ZpP (ZqC _),ZqM] at ht
    have et:(t5,c4)=t:=by simpa using ht
    subst et
    rw [hp] at hp'
    cases hp'
    exact ⟨by rw [aJ DN];exact n5.at_,by rw [aJ yP];exact n5.same _ _ n4.at_⟩
  rintro H3 ⟨s3,us,h3,fN,hun,hus⟩
  rw [Zpu] at fN
  exact q cp us H3 iV s3 ⟨h3,by omega,hus⟩ hun
noncomputable def Dk (a:fv) (_:ZoW):Sp:=fun vs H Q _=>∃ (x:Addr) (m:Nat) (ps:List Pc) (ae:List Int),vs=[.ref x]/\i0 a.ab H x m ps ae/\∀ l H',dP H l (.lst (ae.map V.int)) H'->Q (.ref l) H'
noncomputable def C0 (K:ZoW):TS:=(bI (aX (rZ K) (af (kA K (aa 0) "kept_ties") aj)))
theorem N1 (T:Txt K mg a):TM P w K mg base 0 "Board.ties" xn Hq a.cz (C0 K) :=
 fun hr=>(aM (bO (gj DY (by rfl) T.dr PyProof.Rows.boot_list (ag (mO (cv 0) rfl) ak))))
theorem HD (T:Txt K mg a):aB P w K mg base cb 1 a.cz a.dU ["self"] (Dk a K):=by
 refine T.bf.n.dt Py (N1 T) (fun vs H Q E h=>?_) (fun H vs Q E h=>?_)
 ·obtain ⟨x,m,ps,ae,rfl,_⟩:=h;rfl
 ·obtain ⟨x,m,ps,ae,rfl,hB,q⟩:=h
  show C0 K _ [some (.ref x)] H
  unfold C0
  obtain ⟨dx,k,tt,ts,hx,hP,hT⟩:=hB
  walk_at "gs"
  refine ⟨x,a.ab,dx,_,_,rfl,hx,T.az,T.aZ,rfl,?_⟩
  walk_at "gs"
  exact ⟨_,.inr (.of hT),fun l H' n=>q l H' n⟩
theorem mk_Board {a:fv}{K:ZoW}{H:Hp}{m:Nat}{l tp:Addr}{ts:List (Addr × Addr)}{ps:List Pc}{ae:List Int}{F:Addr->Hp->Prop}{E:XK} (hP:eJ H l ts ps) (hT:H tp=some (.lst (ae.map V.int))) (wp:WP m ps) (wt:WT m ps ae) (m1:1<=m) (bA:m<=10) (hz:ps.length<=1000)
  (q:∀ x H',aD H H'->i0 a.ab H' x m ps ae->F x H') :
  ∀ x dx,H x=none->H dx=none->dx≠x->DC a K [.ref x,.int m,.ref l,.ref tp] (upd (upd H dx (.own x)) x (.ins a.ab dx [])) (fun v H2=>v=.non/\F x H2) E:=by
 intro x dx hx hd lI
 have s0:aD H (upd (upd H dx (.own x)) x (.ins a.ab dx [])):=fun b o e=>by
  rw [aJ (cH e hx),aJ (cH e hd)]
  exact e
 refine ⟨x,dx,l,tp,m,ts,ps,ae,rfl,bh,hP.same s0,s0 _ _ hT,wp,wt,m1,bA,hz,fun H' st hB=>⟨rfl,q x H' (fun b o e=>?_) hB⟩⟩
 exact st b o (cH e hx) (s0 _ _ e)
noncomputable def G2 (K:ZoW):Sp:=fun vs H Q _=>∃ m:Nat,vs=[.int m]/\m<=10/\∀ q H',aD H H'->H q=none->H' q=some (.lst (((MC.aL m).1.map GM.nz).map V.int))->Q (.ref q) H'
noncomputable def wO (w:Nat):V->V | .int c=>.int (Builtin.bitOr c (c * 2 ^ (GM.nz w).toNat)) | _=>.non
theorem two2 {i:Nat} (h:i<=10):2 ^ i<=1024:=by
 have:(2:Nat) ^ i<=2 ^ 10:=ZqG (by decide) h
 omega
noncomputable def BW (K:ZoW):TS:=(aE (bo (gG aj) (au 1))
  (aE (bo (tC (.int 1)) (au 2))
  (aE (bo (tC (.int 1)) (au 3))
  (aE (ed (hX (af (aa 0) aj)) (au 4) (aE (bo (cO (fk K (aa 1)) 1 [3] (au 0) cJ (ah (cI fun i j=>.int (Builtin.bitOr i j)) (aa 0) (ah (bc oQ fun i j=>.int (i * 2 ^ j.toNat)) (aa 0) (aa 1)))) (au 1))
  (aE (jr (gr K "list" ki (aa 1) (af (ah (bc oQ fun i j=>.int (i * 2 ^ j.toNat)) (aa 2) (aa 3)) aj)))
  (aE (bo (ah (cI fun i j=>.int (Builtin.bitOr i j)) (aa 2) (ah (bc oQ fun i j=>.int (i * 2 ^ j.toNat)) (aa 2) (aa 3))) (au 2))
  (bo (ah jG (aa 3) (tC (.int 2))) (au 3))))))
  (bI (aa 1))))))
theorem La (T:Txt K mg a):TM P w K mg base 0 "input_columns" rG Cy a.bw (BW K) :=
 fun hr=>(aG (cu (i:=1) mX.nd rfl (by walk_at "o") (ix ak))
   (aG (cu (i:=2) mX.nd rfl (by walk_at "o") aq)
   (aG (cu (i:=3) mX.nd rfl (by walk_at "o") aq)
   (aG (gQ PassesOwn.never rfl (jJ rfl T.aC (ag (cv 0) ak)) (aY (i:=4) mX.nd rfl (by walk_at "o")) (aG (mw (i:=1) (N:=["column","width"]) (k:=1) (sel:=[3]) (ao.of (aO rG).names (by decide +kernel)) (av.of Cy (by decide +kernel)) rfl (gI (cv 1)) (fun _ _ _ _=>(aY (i:=0) (show ZpF (["column","width"]:List Str) by decide +kernel) rfl (by walk_at "o"))) (fun _ _ _ _=>fz) (fun _ _ _ _=>(ax px (cv 0) (ax Ad (cv 0) (cv 1)))) mX.nd rfl (by walk_at "o") rfl)
   (aG (jP (gP Zpo Zpp Zpq (kE jV) (cv 1) (ag (ax Ad (cv 2) (cv 3)) ak)))
   (aG (cu (i:=2) mX.nd rfl (by walk_at "o") (ax px (cv 2) (ax Ad (cv 2) (cv 3))))
   (aM (cu (i:=3) mX.nd rfl (by walk_at "o") (ax kJ (cv 3) aq)))))))
   (aM (bO (cv 1)))))))
theorem KN (T:Txt K mg a):aB P w K mg base cb 1 a.bw a.cL ["many"] (G2 K):=by
 refine T.cF.n.dt mX (La T) (fun vs H Q E h=>?_) (fun H vs Q E h=>?_)
 ·obtain ⟨m,rfl,_⟩:=h;rfl
 ·obtain ⟨m,rfl,hm,q⟩:=h
  show BW K _ [some (.int m),none,none,none,none] H
  unfold BW
  have Oj:=OY
  walk_at "gs"
  intro r0 H0 n0
  walk_at "gs"
  rw [Zq1]
  refine km (fun i σ H2=>∃ r,aD H H2/\H r=none/\H2 r=some (.lst (((MC.aL i).1.map GM.nz).map V.int))/\∃ v,σ=[some (.int m),some (.ref r),some (.int (GM.nz (MC.aL i).2.1)),some (.int (GM.nz (MC.aL i).2.2)),v])
   ⟨r0,n0.same,n0.cP,n0.at_,_,rfl⟩ ?_ ?_
  ·rintro i σ H2 hi ⟨r,s2,fr,at2,v,rfl⟩
   have hw:=MC.uG i
   have he:=MC.ze i
   have GC:=MC.zV i
   have Ri:=two2 (show i<=10 by omega)
   have OP:0<2 ^ i:=ZqL (by decide)
   walk_at "gs"
   refine ⟨⟨_,.of at2⟩,rW (wO (MC.aL i).2.2) (.of at2) rfl (by rw [Zpu,Zpu];omega) ?_ ?_⟩
   ·intro x H' Q' hx _ q'
    obtain ⟨y,hy,rfl⟩:=ZpI.mp hx
    obtain ⟨c,hc,rfl⟩:=ZpI.mp hy
    walk_at "go"
    exact ⟨Ha (k:=2 ^ i) (MC.Bi i c hc) (by rw [hw];omega),q'⟩
   ·intro r2 H3 n3
    have Kh:(MC.aL i).2.1<2 ^ (2 ^ i):=by rw [he];have:0<2 ^ (2 ^ i):=ZqL (by decide);omega
    have zb:oQ (GM.nz (MC.aL i).2.1) (GM.nz (MC.aL i).2.2):=Ha (k:=2 ^ i) Kh (by rw [hw];omega)
    walk_at "go"
    refine ⟨.inl ⟨by trivial,_,n3.sq⟩,zb,r2,_,_,rfl,rfl,n3.at_,by rw [Zpu,Zpu,Zpu];omega,?_⟩
    walk_at "go"
    refine ⟨zb,.inr ⟨by decide,by decide⟩,r2,(s2.trans n3.same).put (s2.free n3.cP),s2.free n3.cP,?_,some (.int (0+(i:Int))),?_⟩
    ·rw [bh]
     congr 2
     show _=(((MC.aL i).1.map (fun c=>c ||| (c * 2 ^ (MC.aL i).2.2)) ++ [(MC.aL i).2.1 * 2 ^ (MC.aL i).2.2]).map GM.nz).map V.int
     rw [Zpy,Zpy,Zpz,Zpz,Zpz,Zpz]
     have z1:∀ c∈(MC.aL i).1,wO (MC.aL i).2.2 (V.int (GM.nz c))=V.int (GM.nz (c ||| (c * 2 ^ (MC.aL i).2.2))):=fun c _=>by
      show V.int (Builtin.bitOr (GM.nz c) (GM.nz c * 2 ^ (GM.nz (MC.aL i).2.2).toNat))=V.int (GM.nz (c ||| (c * 2 ^ (MC.aL i).2.2)))
      unfold GM.nz
      rw [yH,zy]
     have z2:GM.nz (MC.aL i).2.1 * 2 ^ (GM.nz (MC.aL i).2.2).toNat=GM.nz ((MC.aL i).2.1 * 2 ^ (MC.aL i).2.2):=by
      unfold GM.nz
      rw [yH]
     have z3:=Zp6 z1
     rw [z2]
     exact congrArg (· ++ [V.int (GM.nz ((MC.aL i).2.1 * 2 ^ (MC.aL i).2.2))]) z3
    ·have e1:Builtin.bitOr (GM.nz (MC.aL i).2.1) (GM.nz (MC.aL i).2.1 * 2 ^ (GM.nz (MC.aL i).2.2).toNat)=GM.nz (MC.aL (i+1)).2.1:=by
      show _=GM.nz ((MC.aL i).2.1 ||| ((MC.aL i).2.1 * 2 ^ (MC.aL i).2.2))
      unfold GM.nz
      rw [yH,zy]
     have e2:GM.nz (MC.aL i).2.2 * 2=GM.nz (MC.aL (i+1)).2.2:=by
      show _=GM.nz ((MC.aL i).2.2 * 2)
      unfold GM.nz
      omega
     rw [e1,e2]
  ·rintro σ H2 ⟨r,s2,fr,at2,v,rfl⟩
   walk_at "gs"
   exact q r H2 s2 fr at2
open GM
noncomputable def nv (c:Nat):V:=.int (c:Nat)
noncomputable def Fq (_:ZoW):Sp:=fun vs H Q _=>∃ (tp:Addr) (c u l F:Nat),vs=[.ref tp,.int F]/\H tp=some (.tup [.int c,.int u,.int l])/\Q (.int (((c &&& u) ||| ((F ^^^ c) &&& l):Nat):Int)) H
noncomputable def C4 (K:ZoW):TS:=(aE (bo (ah (bE K) (aa 0) (tC (.int 0))) (au 2))
  (bI (ah (cI fun i j=>.int (Builtin.bitOr i j)) (ah (cI fun i j=>.int (Builtin.bitAnd i j)) (aa 2) (ah (bE K) (aa 0) (tC (.int 1)))) (ah (cI fun i j=>.int (Builtin.bitAnd i j)) (ah (cI fun i j=>.int (Builtin.bitXor i j)) (aa 1) (aa 2)) (ah (bE K) (aa 0) (tC (.int 2)))))))
theorem LJ (T:Txt K mg a):TM P w K mg base 0 "chosen_lit" vk HJ a.cw (C4 K) :=
 fun hr=>(aG (cu (i:=2) Gf.nd rfl (by walk_at "o") (bJ bK (cv 0) aq (fun _ _=>rfl)))
   (aM (bO (ax px (ax sP (cv 2) (bJ bK (cv 0) aq (fun _ _=>rfl))) (ax sP (ax BC (cv 1) (cv 2)) (bJ bK (cv 0) aq (fun _ _=>rfl)))))))
theorem Mn (T:Txt K mg a):aB P w K mg base cb 1 a.cw a.d9 ["columns","every"] (Fq K):=by
 refine T.dR.n.dt Gf (LJ T) (fun vs H Q E h=>?_) (fun H vs Q E h=>?_)
 ·obtain ⟨tp,c,u,l,F,rfl,_⟩:=h;rfl
 ·obtain ⟨tp,c,u,l,F,rfl,ht,q⟩:=h
  show C4 K _ [some (.ref tp),some (.int F),none] H
  unfold C4
  walk_at "gs"
  refine ⟨_,_,.inr (.of ht),rfl,?_⟩
  walk_at "gs"
  refine ⟨_,_,.inr (.of ht),rfl,?_⟩
  walk_at "gs"
  refine ⟨_,_,.inr (.of ht),rfl,?_⟩
  walk_at "gs"
  rw [sv,HP,sv,zy]
  exact q
noncomputable def tv (F z:Nat) (t:Int):Nat:=if t % 2=1 then F ^^^ z else z
noncomputable def GF (_:ZoW):Sp:=fun vs H Q _=>∃ (d:Addr) (kvs:List (Key × V)) (t:Int) (F z:Nat),vs=[.ref d,.int t,.int F]/\H d=some (.dK kvs)/\cV kvs (.inl (t / 2))=some (.int z)/\Q (.int (tv F z t:Nat)) H
noncomputable def BF (K:ZoW):TS:=(bI (xF (cA (ah (jH K) (ah (bc (fun _ j=>0<j) fun i j=>.int (i % j)) (aa 1) (tC (.int 2))) (tC (.int 1)))) (ah (cI fun i j=>.int (Builtin.bitXor i j)) (oG (aa 0) (ah (bc ib fun i j=>.int (i / j)) (aa 1) (tC (.int 2)))) (aa 2)) (oG (aa 0) (ah (bc ib fun i j=>.int (i / j)) (aa 1) (tC (.int 2))))))
theorem Oh (T:Txt K mg a):TM P w K mg base 0 "lit_tie" wg Ii a.eC (BF K) :=
 fun hr=>(aM (bO (Dw (dN (ku (fo hr)) (ax ic (cv 1) aq) aq (cR _)) (ax BC (xf (js hr) (cv 0) (ax iS (cv 1) aq) (fun _ _=>rfl)) (cv 2)) (xf (js hr) (cv 0) (ax iS (cv 1) aq) (fun _ _=>rfl)))))
theorem OD (T:Txt K mg a):aB P w K mg base cb 1 a.eC a.gy ["lit","tie","every"] (GF K):=by
 refine T.gv.n.dt O8 (Oh T) (fun vs H Q E h=>?_) (fun H vs Q E h=>?_)
 ·obtain ⟨d,kvs,t,F,z,rfl,_⟩:=h;rfl
 ·obtain ⟨d,kvs,t,F,z,rfl,hd,hv,q⟩:=h
  show BF K _ [some (.ref d),some (.int t),some (.int F)] H
  unfold BF
  have g1:gX H d (kV (.inl (t / 2))) (some (.int z)):=by
   have:=gX.k (k:=.inl (t / 2)) hd
   rw [hv] at this
   exact this
  unfold tv at q
  walk_at "gs"
  by_cases h:t % 2=1
  ·rw [if_pos h] at q ⊢
   walk_at "gs"
   refine ⟨d,.int z,rfl,g1,?_⟩
   walk_at "gs"
   rw [HP,Nat.xor_comm]
   exact q
  ·rw [if_neg h] at q ⊢
   walk_at "gs"
   exact ⟨d,.int z,rfl,g1,q⟩
theorem vO (c e:Nat):Builtin.bitAnd ((c:Int) / 2 ^ ((e:Int)).toNat) 1=((c / 2 ^ e % 2:Nat):Int):=by
 rw [Zq1]
 have h:((c:Int) / 2 ^ e)=((c / 2 ^ e:Nat):Int):=by simp
 rw [h,show (1:Int)=((1:Nat):Int) from rfl,sv,Nat.and_one_is_mod]
theorem EE (c e:Nat):c.testBit e=decide (c / 2 ^ e % 2=1):=by rw [Nat.testBit_eq_decide_div_mod_eq]
theorem GG {F:Nat}:∀ (cs:List Nat) (lit:List Nat),(cs.foldl (MP.iD F) lit).length<=lit.length
 | [],_=>ZqC _
 | c :: r,lit=>by
  have:=GG (F:=F) r (MP.iD F lit c)
  rw [MP.Dq] at this
  rw [Zp3]
  omega
theorem EV {F:Nat}:∀ (cs:List Nat) (lit:List Nat),2 ^ cs.length<=lit.length->0<(cs.foldl (MP.iD F) lit).length
 | [],lit,h=>h
 | c :: r,lit,h=>by
  rw [ZpG,ZqI] at h
  rw [Zp3]
  exact EV r _ (by rw [MP.Dq];omega)
theorem lR {cs:List Nat}{i:Int} (h0:0<=i) (h1:i<cs.length):dk (cs.map nv) i=some (nv (cs.getD i.toNat 0)):=by
 rw [z7 .non h0 (by rw [Zpu];exact h1)]
 have:i.toNat<cs.length:=by omega
 simp [ZpE,this]
noncomputable def Gu (K:ZoW):Sp:=fun vs H Q _=>∃ (t F:Nat) (cp:Addr) (cs:List Nat),vs=[.int t,.ref cp,.int F]/\aI K H cp (cs.map nv)/\cs.length<=6/\∀ H',aD H H'->Q (.int (MP.yF t F cs:Nat)) H'
noncomputable def Dr (K:ZoW):TS:=(aE (bo (cO (hX (af (ah (bc gU fun i j=>.int (i * 2 ^ j.toNat)) (tC (.int 1)) (aX (eu K) (af (aa 1) aj))) aj)) 1 [0,2] (au 0) cJ (xF (cA (ah (jH K) (ah (cI fun i j=>.int (Builtin.bitAnd i j)) (ah (bc (fun _ j=>0<=j) fun i j=>.int (i / 2 ^ j.toNat)) (aa 1) (aa 0)) (tC (.int 1))) (tC (.int 1)))) (aa 2) (tC (.int 0)))) (au 3))
  (aE (ed (fk K (aa 1)) (au 4) (bo (cO (ka K (af (kL K 0 (aa 3)) (af (kL K 1 (aa 3)) aj))) 2 [4,2] (iw K 2 (cG (au 0) (cG (au 1) ik))) cJ (bH (Fq K) [] E0 (af (jB (af (aa 2) (af (aa 1) (af (aa 0) aj)))) (af (aa 3) aj)))) (au 3)))
  (bI (ah (bE K) (aa 3) (tC (.int 0))))))
theorem N5 (T:Txt K mg a):TM P w K mg base 1 "piece_column" qj zu a.bG (Dr K) :=
 fun hr=>(aG (mw (i:=3) (N:=["place","table","every"]) (k:=1) (sel:=[0,2]) (ao.of (aO qj).names (by decide +kernel)) (av.of zu (by decide +kernel)) rfl (jJ rfl T.aC (ag (ax kr aq (cq eZ (by rfl) T.ay PySem.boot_len (ag (cv 1) ak))) ak)) (fun _ _ _ _=>(aY (i:=0) (show ZpF (["place","table","every"]:List Str) by decide +kernel) rfl (by walk_at "o"))) (fun _ _ _ _=>fz) (fun _ _ _ _=>(Dw (dN (ku (fo hr)) (ax sP (ax ml (cv 1) (cv 0)) aq) aq (cR _)) (cv 2) aq)) zJ.nd rfl (by walk_at "o") rfl)
   (aG (gQ PassesOwn.never rfl (gI (cv 1)) (aY (i:=4) zJ.nd rfl (by walk_at "o")) (aM (mw (i:=3) (N:=["lower","upper","column","every"]) (k:=2) (sel:=[4,2]) (ao.of (aO qj).names (by decide +kernel)) (av.of zu (by decide +kernel)) rfl (EZ rfl T.ke (ag (Ik 0 (cv 3) aq aq) (ag (Ik 1 (cv 3) aq aq) ak))) (fun _ _ _ _=>(jx rfl (dm (aY (i:=0) (show ZpF (["lower","upper","column","every"]:List Str) by decide +kernel) rfl (by walk_at "o")) (dm (aY (i:=1) (show ZpF (["lower","upper","column","every"]:List Str) by decide +kernel) rfl (by walk_at "o")) jv)))) (fun _ _ _ _=>fz) (fun _ _ _ _=>(bM T.dR (Mn T) (hm hr) bx (ag (kP (ag (cv 2) (ag (cv 1) (ag (cv 0) ak)))) (ag (cv 3) ak)))) zJ.nd rfl (by walk_at "o") rfl)))
   (aM (bO (bJ bK (cv 3) aq (fun _ _=>rfl))))))
theorem Lb (T:Txt K mg a):aB P w K mg base cb 2 a.bG a.dj ["table","columns","every"] (Gu K):=by
 refine T.di.n.dt zJ (N5 T) (fun vs H Q E h=>?_) (fun H vs Q E h=>?_)
 ·obtain ⟨t,F,cp,cs,rfl,_⟩:=h;rfl
 ·obtain ⟨t,F,cp,cs,rfl,hC,h6,q⟩:=h
  show Dr K _ [some (.int t),some (.ref cp),some (.int F),none,none] H
  unfold Dr
  have big:(20000:Nat)<=sizeLine:=by decide
  have h2:(2:Nat) ^ cs.length<=2 ^ 6:=ZqG (by decide) h6
  have ec:(1 * 2 ^ ((cs.length:Int)).toNat:Int)=((2 ^ cs.length:Nat):Int):=by simp
  walk_at "gs"
  refine .inl ⟨_,.inl hC,?_⟩
  rw [Zpu]
  walk_at "gs"
  rw [ec]
  rw [Zq1]
  refine ⟨Int.le_trans (by decide) (Zq4 _),Int.lt_of_le_of_lt (Int.ofNat_le.mpr h2) (by decide),Zip (n:=2 ^ cs.length) (fun i=>nv (if t.testBit i.toNat then F else 0)) rfl (by omega) ?_ ?_⟩
  ·intro i H' Q' hi s' q'
   rw [show (0:Int)+(i:Int)=(i:Int) by omega] at q' ⊢
   walk_at "gs"
   rw [vO]
   rw [Zq1,EE] at q'
   by_cases g:t / 2 ^ i % 2=1
   ·rw [if_pos (by rw [g];rfl)]
    rw [decide_eq_true g] at q'
    exact q'
   ·rw [if_neg (by omega)]
    rw [decide_eq_false g] at q'
    exact q'
  intro l0 H1 n1
  have e1:((Zpv (2 ^ cs.length)).map fun i=>nv (if t.testBit ((0:Int)+((i:Nat):Int)).toNat then F else 0))=(MP.ja t F (2 ^ cs.length)).map nv:=by
   unfold MP.ja
   rw [Zpz]
   refine Zp6 fun i _=>?_
   rw [show ((0:Int)+(i:Int)).toNat=i by omega];rfl
  rw [e1] at n1
  walk_at "gs"
  refine ⟨⟨_,n1.same.seq hC⟩,rC (xs:=cs.map nv) (fun i σ H2=>aD H H2/\∃ (lp:Addr) (v4:Option V),H2 lp=some (.lst (((cs.take i).foldl (MP.iD F) (MP.ja t F (2 ^ cs.length))).map nv))/\σ=[some (.int t),some (.ref cp),some (.int F),some (.ref lp),v4]) ⟨n1.same,l0,_,n1.at_,rfl⟩ ?_ ?_ ?_⟩
  ·rintro i σ H2 _ ⟨s2,_⟩
   exact s2.seq hC
  ·rintro i v σ H2 hv ⟨s2,lp,v4,h4,rfl⟩
   obtain ⟨c,hc,rfl⟩:=Jo hv
   have vZ:=GG (F:=F) (cs.take i) (MP.ja t F (2 ^ cs.length))
   rw [MP.Cb] at vZ
   have Ng:(cs.take (i+1)).foldl (MP.iD F) (MP.ja t F (2 ^ cs.length))=MP.iD F ((cs.take i).foldl (MP.iD F) (MP.ja t F (2 ^ cs.length))) c:=by
    rw [Zqa,hc,Zqf]
    rfl
   rw [Ng]
   generalize (cs.take i).foldl (MP.iD F) (MP.ja t F (2 ^ cs.length))=lit at h4 vZ
   walk_at "gs"
   refine ⟨_,.of h4,fun q3 H3 n3=>⟨_,.of (n3.same _ _ h4),fun q4 H4 n4=>?_⟩⟩
   have M6:=n3.same.trans n4.same
   refine ⟨q3,q4,rfl,⟨_,.of (n4.same _ _ n3.at_)⟩,⟨_,n4.sq⟩,fun r hr=>Jw (xs:=jc 0 (lit.map nv)) (ys:=jc 1 (lit.map nv)) (n:=lit.length / 2) (by rw [Dm,Dm,Zpu];omega) (fun σ=>∃ v0 v1,σ=[v0,v1,some (nv c),some (.int F)]) (fun j H5=>H5 r=some (.lst (((Zpv j).map fun i=>(c &&& lit.getD (2 * i+1) 0) ||| ((F ^^^ c) &&& lit.getD (2 * i) 0)).map nv))/\aD H4 H5) ⟨_,_,rfl⟩ ⟨bh,eD hr⟩ ?_ ?_ ?_⟩
   ·rintro j H5 _ ⟨_,s5⟩
    exact ⟨.of (s5 _ _ (n4.same _ _ n3.at_)),s5.seq n4.sq⟩
   ·rintro j x y tt σ5 H5 R hx hy htt ⟨v0,v1,rfl⟩ ⟨h5,s5⟩ hR
    have hj:2 * j+1<lit.length:=by
     rw [vS] at hy
     have:=(ZpA.mp hy).1
     rw [Zpu] at this
     omega
    have ex:x=nv (lit.getD (2 * j) 0):=by
     rw [vS,ZpB,Nat.zero_add,Zpw (by omega)] at hx
     cases hx
     simp [ZpE,show 2 * j<lit.length by omega]
    have ey:y=nv (lit.getD (2 * j+1) 0):=by
     rw [vS,ZpB,Nat.add_comm 1,Zpw hj] at hy
     cases hy
     simp [ZpE,hj]
    subst ex ey
    have Jn:tt≠r:=(cH h5 htt).symm
    walk_at "gs"
    refine ⟨tt,_,rfl,.of bh,rfl,_,_,rfl,_,_,rfl,rfl,?_⟩
    walk_at "gs"
    refine ⟨by show 3<=sizeLine;decide,fun t6 H6 n6=>?_⟩
    walk_at "gs"
    refine ⟨t6,c,lit.getD (2 * j+1) 0,lit.getD (2 * j) 0,F,rfl,n6.at_,?_⟩
    have h6':=n6.same _ _ (eD (o:=.tup [nv (lit.getD (2 * j) 0),nv (lit.getD (2 * j+1) 0)]) htt _ _ h5)
    refine ⟨_,h6',by rw [Zpu,Zpu,ZpO];omega,hR _ _ ⟨_,_,rfl⟩ ⟨?_,((s5.trans (eD htt)).trans n6.same).put hr⟩⟩
    rw [bh,Zp2,Zpy,Zpy]
    rfl
   ·rintro H5 ⟨h5,s5⟩
    walk_at "gs"
    exact ⟨(s2.trans M6).trans s5,r,_,h5,rfl⟩
  ·rintro σ H2 ⟨s2,lp,v4,h4,rfl⟩
   rw [Zpu,ZpN] at h4
   have hp:=EV (F:=F) cs (MP.ja t F (2 ^ cs.length)) (by rw [MP.Cb];exact ZqC _)
   walk_at "gs"
   refine ⟨_,_,.inl (.of h4),lR (Int.le_refl _) (by omega),?_⟩
   exact q H2 s2
open GM
theorem IE (ys:List V) (x:Int):∀ n,n<=ys.length->cV (eK [] ((fV n).zip (ys.take n))) (.inl x)=(if 0<=x/\x<n then ys[x.toNat]? else none)/\(eK [] ((fV n).zip (ys.take n))).length<=n
 | 0,_=>by
  refine ⟨?_,ZqC _⟩
  rw [if_neg (by omega)]
  rfl
 | n+1,h=>by
  obtain ⟨ih,il⟩:=IE ys x n (by omega)
  have hn:ys[n]? = some ys[n]:=Zpw (by omega)
  have ek:fV (n+1)=fV n ++ [Sum.inl (n:Int)]:=by unfold fV;rw [Zp2,Zpy];rfl
  have ez:(fV (n+1)).zip (ys.take (n+1))=(fV n).zip (ys.take n) ++ [(Sum.inl (n:Int),ys[n])]:=by
   rw [ek,Zqa,hn]
   rw [List.zip_append (by unfold fV;rw [Zpu,ZpO,ZpT];omega)]
   rfl
  have em:eK [] ((fV (n+1)).zip (ys.take (n+1)))=d6 (eK [] ((fV n).zip (ys.take n))) (Sum.inl (n:Int)) ys[n]:=by
   rw [ez]
   unfold eK
   rw [Zqf]
   rfl
  rw [em]
  refine ⟨?_,ZqE (sx ..) (by omega)⟩
  rw [yu]
  by_cases e:x=n
  ·subst e
   rw [if_pos rfl,if_pos (by omega),Zq1,hn]
  ·rw [if_neg (fun z=>e (Sum.inl.inj z)),ih]
   by_cases g:0<=x/\x<n
   ·rw [if_pos g,if_pos (by omega)]
   ·rw [if_neg g,if_neg (by omega)]
theorem Jj (ys:List V) (x:Int):cV (eK [] ((fV ys.length).zip ys)) (.inl x)=(if 0<=x/\x<ys.length then ys[x.toNat]? else none)/\(eK [] ((fV ys.length).zip ys)).length<=ys.length:=by
 have:=IE ys x ys.length (ZqC _)
 rwa [ZpN] at this
noncomputable def Holds (m:Nat) (ps:List Pc) (g:Int->Nat) (kvs:List (Key × V)):Prop:=∀ x:Int,(x=0\/x∈known m ps)->cV kvs (.inl x)=some (nv (g x))
theorem Ia {m:Nat}{x:Int} (h:x=0\/x∈known m []):0<=x/\x<=m:=by
 rcases h with rfl | h
 ·omega
 ·unfold known at h
  rw [Zp9,Zp4] at h
  obtain ⟨k,hk,rfl⟩:=ZpI.mp h
  have:=ZpU.mp hk
  omega
theorem Holds.put {m:Nat}{ps:List Pc}{g g':Int->Nat}{kvs:List (Key × V)} (h:Holds m ps g kvs) {p:Pc}{v:Nat} (hv:g' p.1=v) (hg:∀ x,x≠p.1->g' x=g x):Holds m (ps ++ [p]) g' (d6 kvs (.inl p.1) (nv v)):=fun x hx=>by
 rw [yu]
 by_cases e:x=p.1
 ·subst e
  rw [if_pos rfl,hv]
 ·rw [if_neg (fun z=>e (Sum.inl.inj z)),hg x e]
  refine h x ?_
  rcases hx with hx | hx
  ·exact .inl hx
  ·rw [uF] at hx
   rcases ZpM.mp hx with z | z
   ·exact .inr z
   ·exact absurd (ZpH.mp z) e
noncomputable def ky (m:Nat) (ps:List Pc) (ae:List Int):List Nat:=ae.map fun t=>tv (je m) (MP.iP m ps (t / 2)) t
noncomputable def FY (a:fv) (_:ZoW):Sp:=fun vs H Q _=>∃ (x:Addr) (m:Nat) (ps:List Pc) (ae:List Int),vs=[.ref x]/\i0 a.ab H x m ps ae/\WP m ps/\WT m ps ae/\m<=10/\ps.length<=1000 /\
 ∀ l H',iR H l (.lst ((ky m ps ae).map nv)) H'->Q (.ref l) H'
noncomputable def Ed (K:ZoW):TS:=(aE (bo (bH (D3 K) [] E0 (af (kA K (aa 0) "many") aj)) (au 1))
  (aE (bo (Bp K (af (ah dg (gG (af (tC (.int 0)) aj)) (bH (G2 K) [] E0 (af (kA K (aa 0) "many") aj))) aj)) (au 2))
  (aE (ed (lx K (kA K (aa 0) "kept_pieces")) (iw K 3 (cG (au 3) (cG (au 4) (cG (au 5) ik)))) (mI (aa 2) (aa 3) (bH (Gu K) [] E0 (af (aa 5) (af (cO (lx K (aa 4)) 1 [2] (au 0) cJ (oG (aa 1) (aa 0))) (af (aa 1) aj))))))
  (bI (cO (lx K (kA K (aa 0) "kept_ties")) 1 [2,1] (au 0) cJ (bH (GF K) [] E0 (af (aa 1) (af (aa 0) (af (aa 2) aj)))))))))
theorem Nt (T:Txt K mg a):TM P w K mg base 2 "Board.columns" qb zc a.bq (Ed K) :=
 fun hr=>(aG (cu (i:=1) sA.nd rfl (by walk_at "o") (bM T.bR (JI T) (hm hr) bx (ag (mO (cv 0) rfl) ak)))
   (aG (cu (i:=2) sA.nd rfl (by walk_at "o") (P1 rfl rfl rfl T.iX T.d8 (ag (ax dv (ix (ag aq ak)) (bM T.cF (KN T) (hm hr) bx (ag (mO (cv 0) rfl) ak))) ak)))
   (aG (gQ PassesOwn.never rfl (yX (mO (cv 0) rfl)) (jx rfl (dm (aY (i:=3) sA.nd rfl (by walk_at "o")) (dm (aY (i:=4) sA.nd rfl (by walk_at "o")) (dm (aY (i:=5) sA.nd rfl (by walk_at "o")) jv)))) (aM (rO (js hr) (cv 2) (cv 3) (bM T.di (Lb T) (hm hr) bx (ag (cv 5) (ag (ia (N:=["lower","lit"]) (k:=1) (sel:=[2]) (ao.of (aO qb).names (by decide +kernel)) (av.of zc (by decide +kernel)) rfl (yX (cv 4)) (fun _ _ _ _=>(aY (i:=0) (show ZpF (["lower","lit"]:List Str) by decide +kernel) rfl (by walk_at "o"))) (fun _ _ _ _=>fz) (fun _ _ _ _=>(xf (js hr) (cv 1) (cv 0) (fun _ _=>rfl)))) (ag (cv 1) ak)))) rfl)))
   (aM (bO (ia (N:=["tie","lit","every"]) (k:=1) (sel:=[2,1]) (ao.of (aO qb).names (by decide +kernel)) (av.of zc (by decide +kernel)) rfl (yX (mO (cv 0) rfl)) (fun _ _ _ _=>(aY (i:=0) (show ZpF (["tie","lit","every"]:List Str) by decide +kernel) rfl (by walk_at "o"))) (fun _ _ _ _=>fz) (fun _ _ _ _=>(bM T.gv (OD T) (hm hr) bx (ag (cv 1) (ag (cv 0) (ag (cv 2) ak)))))))))))
theorem M8 (T:Txt K mg a):aB P w K mg base cb 3 a.bq a.cK ["self"] (FY a K):=by
 refine T.br.n.dt sA (Nt T) (fun vs H Q E h=>?_) (fun H vs Q E h=>?_)
 ·obtain ⟨x,m,ps,ae,rfl,_⟩:=h;rfl
 ·obtain ⟨x,m,ps,ae,rfl,hB,wp,wt,bA,hz,q⟩:=h
  show Ed K _ [some (.ref x),none,none,none,none,none] H
  unfold Ed
  have big:(20000:Nat)<=sizeLine:=by decide
  obtain ⟨dx,k,tt,ts,hx,hP,hT⟩:=hB
  have iz:=hP.len
  walk_at "gs"
  refine ⟨x,a.ab,dx,_,_,rfl,hx,T.az,T.aW,rfl,?_⟩
  refine ⟨m,rfl,bA,?_⟩
  walk_at "gs"
  intro l1 H1 n1
  refine ⟨x,a.ab,dx,_,_,rfl,n1.same _ _ hx,T.az,T.aW,rfl,?_⟩
  refine ⟨m,rfl,bA,fun l2 H2 s2 f2 h2=>?_⟩
  walk_at "gs"
  have e2:((MC.aL m).1.map GM.nz).map V.int=(MC.aL m).1.map nv:=by rw [Zpz];rfl
  rw [e2] at h2
  have hlen:=MC.zV m
  refine ⟨_,_,s2 _ _ n1.at_,h2,by rw [Zpu];show 1+_<=_;omega,fun l3 yI=>?_⟩
  have qu:aD H (upd H2 l3 (.lst ([V.int 0] ++ (MC.aL m).1.map nv))):=(n1.same.trans s2).trans (eD yI)
  refine ⟨_,bh,by rw [ZpD,Zpu];show 1+_<=_;omega,fun d H4 n4=>?_⟩
  have Cr:=qu.trans n4.same
  have mL:H d=none:=qu.nil n4.cP
  generalize hkv:eK [] ((fV ([V.int 0] ++ (MC.aL m).1.map nv).length).zip ([V.int 0] ++ (MC.aL m).1.map nv))=kvs0 at n4
  have B9:Holds m [] (MP.iP m []) kvs0:=fun y hy=>by
   have hy:=Ia hy
   rw [<- hkv,(Jj _ y).1]
   have hl:([V.int 0] ++ (MC.aL m).1.map nv).length=1+m:=by rw [ZpD,Zpu,hlen];rfl
   rw [if_pos (by rw [hl];omega)]
   show _=some (nv (MP.kM m y))
   unfold MP.kM
   by_cases z:y=0
   ·subst z
    rfl
   ·rw [if_pos (by omega),ZpP (by show 1<=_;omega),ZpB]
    show Option.map nv ((MC.aL m).1[y.toNat - 1]?)=_
    have hi:y.toNat - 1<(MC.aL m).1.length:=by omega
    rw [Zpw hi,show (y - 1).toNat=y.toNat - 1 by omega]
    simp [ZpE,hi]
  have KH:kvs0.length<=11:=by
   have:=(Jj ([V.int 0] ++ (MC.aL m).1.map nv) 0).2
   rw [hkv,ZpD,Zpu,hlen] at this
   have:kvs0.length<=1+m:=this
   omega
  walk_at "gs"
  refine ⟨x,a.ab,dx,_,_,rfl,Cr _ _ hx,T.az,T.aQ,rfl,?_⟩
  walk_at "gs"
  refine ⟨⟨_,.of (Cr _ _ hP.tup)⟩,QU (xs:=ts.map fun t=>V.ref t.1) (fun i σ H5=>aD H H5/\∃ (kvs:List (Key × V)) (v3 v4 v5:Option V),H5 d=some (.dK kvs)/\kvs.length<=11+i/\Holds m (ps.take i) (MP.iP m (ps.take i)) kvs/\σ=[some (.ref x),some (.int (je m:Nat)),some (.ref d),v3,v4,v5]) ⟨Cr,kvs0,_,_,_,n4.at_,KH,by rw [Zqi];exact B9,rfl⟩ ?_ ?_ ?_⟩
  ·rintro i σ H5 _ ⟨s5,_⟩
   exact .of (s5 _ _ hP.tup)
  ·rintro i v σ H5 hv ⟨s5,kvs,v3,v4,v5,h5,Ab,hk5,rfl⟩
   have hi:i<ts.length:=by
    have:=(ZpA.mp hv).1
    rwa [Zpu] at this
   obtain ⟨p,hp,hpt,hpc⟩:=(hP.nl (NL.of s5)).get hi
   have ou:=wp i p hp
   have ev:v=.ref (ts[i]).1:=by
    rw [ZpB,Zpw hi] at hv
    cases hv
    rfl
   subst ev
   generalize (ts[i]).1=t1 at *
   generalize (ts[i]).2=t2 at *
   walk_at "gs"
   refine ⟨t1,_,rfl,.of hpt,rfl,_,_,rfl,_,_,rfl,_,_,rfl,rfl,?_⟩
   walk_at "gs"
   have mM:=ou.l6
   refine ⟨⟨_,.of hpc⟩,He (fun y=>match y with | .int y=>nv (MP.iP m (ps.take i) y) | _=>.non) (.of hpc) rfl (by rw [Zpu];omega) ?_ ?_⟩
   ·intro y H' Q' hy s' q'
    obtain ⟨z,hz,rfl⟩:=ZpI.mp hy
    walk_at "gs"
    have g1:=gX.k (k:=.inl z) (s' _ _ h5)
    rw [hk5 z (.inr (ou.kn z hz))] at g1
    exact ⟨d,_,rfl,g1,q'⟩
   intro l6 H6 n6
   have e6:(p.2.1.map V.int).map (fun y=>match y with | .int y=>nv (MP.iP m (ps.take i) y) | _=>.non)=(p.2.1.map (MP.iP m (ps.take i))).map nv:=by rw [Zpz,Zpz];rfl
   rw [e6] at n6
   have E3:=n6.same
   have t0:=ou.t0
   walk_at "gs"
   obtain ⟨tn,lF⟩:=Zq2 t0
   refine ⟨tn,je m,l6,_,by rw [lF],n6.sq,by rw [Zpu];exact mM,fun H7 s7=>?_⟩
   have NG:=(s5.trans E3).trans s7
   have h7:=s7 _ _ (E3 _ _ h5)
   refine ⟨d,_,rfl,.k (k:=.inl p.1) h7 (by omega),?_⟩
   refine ⟨fun b o e=>?_,_,_,_,_,bh,ZqE (sx ..) (by omega),?_,rfl⟩
   ·rw [aJ (cH e mL)]
    exact NG _ _ e
   ·rw [rM hp,MP.K6]
    refine hk5.put ?_ fun y hy=>?_
    ·unfold MP.jw
     rw [if_pos rfl,lF]
     rfl
    ·unfold MP.jw
     rw [if_neg hy]
  ·rintro σ H5 ⟨s5,kvs,v3,v4,v5,h5,Ab,hk5,rfl⟩
   rw [Zpu,iz,ZpN] at hk5
   walk_at "gs"
   refine ⟨x,a.ab,dx,_,_,rfl,s5 _ _ hx,T.az,T.aZ,rfl,?_⟩
   have RA:=wt.lh
   refine ⟨⟨_,.of (s5 _ _ hT)⟩,He (fun y=>match y with | .int t=>nv (tv (je m) (MP.iP m ps (t / 2)) t) | _=>.non) (.of (s5 _ _ hT)) rfl (by rw [Zpu];omega) ?_ ?_⟩
   ·intro y H' Q' hy s' q'
    obtain ⟨t,ht,rfl⟩:=ZpI.mp hy
    walk_at "gs"
    exact ⟨d,kvs,t,je m,_,rfl,s' _ _ h5,hk5 _ (wt.B2 t ht).2,q'⟩
   intro l6 H6 n6
   have e6:(ae.map V.int).map (fun y=>match y with | .int t=>nv (tv (je m) (MP.iP m ps (t / 2)) t) | _=>.non)=(ky m ps ae).map nv:=by unfold ky;rw [Zpz,Zpz];rfl
   rw [e6] at n6
   exact q l6 H6 ⟨s5.nil n6.cP,n6.at_,s5.trans n6.same⟩
open GM
theorem yM (a b c:Str):a ++ b ++ c=a ++ (b ++ c):=vw (by rw [lZ,lZ,lZ,lZ,Zqh])
noncomputable def jn (xs:List Str):Str:=Str.join " " xs
noncomputable def jf (z x:Str) (xs:List Str):Str:=xs.foldl (fun a y=>a ++ z ++ y) x
theorem zO (z a:Str):∀ (xs:List Str) (b:Str),jf z (a ++ b) xs=a ++ jf z b xs
 | [],_=>rfl
 | y :: r,b=>by
  show jf z (a ++ b ++ z ++ y) r=a ++ jf z (b ++ z ++ y) r
  rw [<- zO z a r (b ++ z ++ y),yM,yM,<- yM b]
theorem j8 (z:Str):∀ (xs:List Str) (x:Str),Str.join z (x :: xs)=jf z x xs
 | [],_=>rfl
 | y :: r,x=>by
  show x ++ z ++ Str.join z (y :: r)=jf z (x ++ z ++ y) r
  rw [j8 z r y,zO]
theorem CW (x:Str):("" : Str) ++ x=x:=vw (by rw [lZ];rfl)
theorem Lo (x:Str):x ++ ("" : Str)=x:=vw (by rw [lZ];exact Zp4 _)
theorem Bz (L:List Str):Str.join "" L=L.foldl (fun (a y:Str)=>a ++ y) ("" : Str):=by
 have key:∀ (L:List Str) (x:Str),jf "" x L=L.foldl (fun a y=>a ++ y) x:=by
  intro L
  induction L with
  | nil=>intro x;rfl
  | cons y r ih =>
   intro x
   show jf "" (x ++ "" ++ y) r=r.foldl (fun a y=>a ++ y) (x ++ y)
   rw [Lo,ih]
 cases L with
 | nil=>rfl
 | cons x r =>
  rw [j8,key]
  show _=r.foldl (fun (a y:Str)=>a ++ y) (("" : Str) ++ x)
  rw [CW]
noncomputable def sN (i:Int):Str:=toString i
theorem Px:∀ n:Fin 1001,(sN ((n:Nat):Int)).length<=4:=by decide +kernel
theorem jO {i:Int} (h0:0<=i) (h1:i<=1000):(sN i).length<=4:=by
 have:=Px ⟨i.toNat,by omega⟩
 rwa [show ((i.toNat:Nat):Int)=i by omega] at this
theorem lz {i:Int} (h0:0<=i) (h1:i<=5000):i.natAbs.log2<1920:=by
 have h:i.natAbs<2 ^ 13:=by omega
 have:i.natAbs.log2<13\/i.natAbs=0:=by
  by_cases e:i.natAbs=0
  ·exact .inr e
  ·exact .inl ((Nat.log2_lt e).mpr h)
 rcases this with z | z
 ·omega
 ·rw [z];decide
theorem sO {xs:List Str}{k:Nat} (h:∀ y∈xs,y.length<=k) (hl:xs.length<=200) (hk:k<=1000):(xs.map (·.length)).sum+xs.length<=1048576:=by
 have key:∀ ys:List Str,(∀ y∈ys,y.length<=k)->(ys.map (·.length)).sum<=k * ys.length:=by
  intro ys
  induction ys with
  | nil=>intro _;simp
  | cons y r ih =>
   intro h
   have h1:=ih fun z hz=>h z (ZpL _ hz)
   have h2:=h y (ZpK ..)
   simp only [Zpx,List.sum_cons,ZpG]
   rw [Nat.mul_succ]
   omega
 have:=key xs h
 have h2:k * xs.length<=1000 * 200:=Nat.mul_le_mul hk hl
 omega
theorem Bb {k:Nat}:∀ (xs:List Str) (x:Str),(∀ y∈xs,y.length<=k)->(xs.foldl (fun a y=>a ++ y) x).length<=x.length+k * xs.length
 | [],x,_=>by simp
 | y :: r,x,h=>by
  have ih:=Bb r (x ++ y) fun z hz=>h z (ZpL _ hz)
  have hy:=h y (ZpK ..)
  show (r.foldl (fun a y=>a ++ y) (x ++ y)).length<=_
  rw [PySem.Str.length_append] at ih
  simp only [ZpG]
  rw [Nat.mul_succ]
  omega
theorem rX {k:Nat}:∀ (xs:List Str) (x:Str),(∀ y∈xs,y.length<=k)->(jf " " x xs).length<=x.length+(k+1) * xs.length
 | [],x,_=>by simp [jf]
 | y :: r,x,h=>by
  have ih:=rX r (x ++ " " ++ y) fun z hz=>h z (ZpL _ hz)
  have hy:=h y (ZpK ..)
  have hb:Str.length " " = 1:=by decide +kernel
  show (jf " " (x ++ " " ++ y) r).length<=_
  rw [PySem.Str.length_append,PySem.Str.length_append] at ih
  simp only [ZpG]
  rw [Nat.mul_succ]
  omega
noncomputable def fS (t:Int) (k:Nat):Int:=((t.toNat / 2 ^ k % 2:Nat):Int)
noncomputable def ij (t:Int) (n:Nat):List Str:=(Zpv n).map fun k=>sN (fS t k)
noncomputable def bZ (t:Int) (n:Nat):Str:=Str.join "" (ij t (2 ^ n))
noncomputable def bp (t:Int):Str:=(if t % 2=1 then ("-" : Str) else "") ++ sN (t / 2)
noncomputable def sS (p:Pc):Str:=jn (sN p.1 :: "of" :: (p.2.1.map sN ++ [("is" : Str),bZ p.2.2 p.2.1.length]))
noncomputable def m5 (m:Nat) (ps:List Pc) (ae:List Int):List Str:=jn ["board",sN m] :: (ps.map sS ++ [jn ("out" :: ae.map bp)])
theorem lW (t:Int) (k:Nat):0<=fS t k/\fS t k<=1:=by unfold fS;omega
theorem Cv (t:Int) (n:Nat):(ij t n).length=n:=by unfold ij;rw [Zpu,ZpO]
theorem Cd (t:Int) (n:Nat):∀ y∈ij t n,y.length<=4:=by
 intro y hy
 unfold ij at hy
 obtain ⟨k,_,rfl⟩:=ZpI.mp hy
 have:=lW t k
 exact jO (by omega) (by omega)
theorem KY (t:Int) {n:Nat} (h:n<=6):(bZ t n).length<=256:=by
 unfold bZ
 rw [Bz]
 have:=Bb (ij t (2 ^ n)) "" (Cd t (2 ^ n))
 rw [Cv] at this
 have h2:(2:Nat) ^ n<=2 ^ 6:=ZqG (by decide) h
 have h3:Str.length "" = 0:=by decide +kernel
 omega
theorem ED {t:Int} (h0:0<=t) (h1:t / 2<=1000):(bp t).length<=5:=by
 unfold bp
 rw [PySem.Str.length_append]
 have:=jO (i:=t / 2) (by omega) h1
 have e1:Str.length "-" = 1:=by decide +kernel
 have e2:Str.length "" = 0:=by decide +kernel
 split <;> omega
theorem WP.top {m:Nat}{ps:List Pc} (w:WP m ps):∀ i,i<=ps.length->(m:Int)<=fK m (ps.take i)
 | 0,_=>by rw [Zqi];exact Int.le_refl _
 | i+1,h=>by
  have hp:ps[i]? = some ps[i]:=Zpw h
  rw [rM hp,yD]
  have:=WP.top w i (by omega)
  have:=(w i _ hp).up
  omega
theorem WP.kb {m:Nat}{ps:List Pc} (w:WP m ps) {i:Nat}{p:Pc} (hp:ps[i]? = some p):(m:Int)<p.1/\p.1<=999:=by
 have hi:=(ZpA.mp hp).1
 have:=w.top i (by omega)
 have a:=(w i p hp).up
 have b:=(w i p hp).hi
 omega
theorem WP.known {m:Nat}{ps:List Pc} (w:WP m ps) (bA:m<=10) {i:Nat}{x:Int} (hx:x∈known m (ps.take i)):1<=x/\x<=999:=by
 unfold mW.known at hx
 rcases ZpM.mp hx with z | z
 ·obtain ⟨k,hk,rfl⟩:=ZpI.mp z
  have:=ZpU.mp hk
  omega
 ·obtain ⟨p,hp,rfl⟩:=ZpI.mp z
  obtain ⟨j,hj⟩:=Zqy.mp (List.mem_of_mem_take hp)
  have:=w.kb hj
  omega
theorem WT.half {m:Nat}{ps:List Pc}{ae:List Int} (wt:WT m ps ae) (w:WP m ps) (bA:m<=10) {t:Int} (ht:t∈ae):0<=t/\t / 2<=999:=by
 obtain ⟨h0,h1⟩:=wt.B2 t ht
 refine ⟨h0,?_⟩
 rcases h1 with z | z
 ·omega
 ·have:=w.known bA (i:=ps.length) (x:=t / 2) (by rw [ZpN];exact z)
  omega
theorem wx (c e:Nat):Builtin.bitAnd ((c:Int) / 2 ^ ((e:Int)).toNat) 1=((c / 2 ^ e % 2:Nat):Int):=by
 rw [Zq1]
 have h:((c:Int) / 2 ^ e)=((c / 2 ^ e:Nat):Int):=by simp
 rw [h,show (1:Int)=((1:Nat):Int) from rfl,sv,Nat.and_one_is_mod]
noncomputable def JT (_:ZoW):Sp:=fun vs H Q _=>∃ (t:Int) (n:Nat),vs=[.int t,.int n]/\0<=t/\n<=6/\∀ H',aD H H'->Q (.str (bZ t n)) H'
noncomputable def Bd (K:ZoW):TS:=(bI (gr K "str" (mv K) (tC (.str "")) (af (cO (hX (af (ah (bc gU fun i j=>.int (i * 2 ^ j.toNat)) (tC (.int 1)) (aa 1)) aj)) 1 [0] (au 0) cJ (aX j6 (af (ah (cI fun i j=>.int (Builtin.bitAnd i j)) (ah (bc (fun _ j=>0<=j) fun i j=>.int (i / 2 ^ j.toNat)) (aa 1) (aa 0)) (tC (.int 1))) aj))) aj)))
theorem Nn (T:Txt K mg a):TM P w K mg base 0 "table_text" su Ap a.cD (Bd K) :=
 fun hr=>(aM (bO (gP Zpr Zps Zpt rV dZ (ag (ia (N:=["place","table"]) (k:=1) (sel:=[0]) (ao.of (aO su).names (by decide +kernel)) (av.of Ap (by decide +kernel)) rfl (jJ rfl T.aC (ag (ax kr aq (cv 1)) ak)) (fun _ _ _ _=>(aY (i:=0) (show ZpF (["place","table"]:List Str) by decide +kernel) rfl (by walk_at "o"))) (fun _ _ _ _=>fz) (fun _ _ _ _=>(gj kO (by rfl) T.cC PyProof.Rows.boot_str (ag (ax sP (ax ml (cv 1) (cv 0)) aq) ak)))) ak))))
theorem OH (T:Txt K mg a):aB P w K mg base cb 1 a.cD a.eg ["table","count"] (JT K):=by
 refine T.d7.n.dt J5 (Nn T) (fun vs H Q E h=>?_) (fun H vs Q E h=>?_)
 ·obtain ⟨t,n,rfl,_⟩:=h;rfl
 ·obtain ⟨t,n,rfl,t0,n6,q⟩:=h
  show Bd K _ [some (.int t),some (.int n)] H
  unfold Bd
  have big:(20000:Nat)<=sizeLine:=by decide
  have h2:(2:Nat) ^ n<=2 ^ 6:=ZqG (by decide) n6
  have KL:0<(2:Nat) ^ n:=ZqL (by decide)
  have ec:(1 * 2 ^ ((n:Int)).toNat:Int)=((2 ^ n:Nat):Int):=by simp
  obtain ⟨tn,rfl⟩:=Zq2 t0
  walk_at "gs"
  rw [ec]
  have b1 : -(2 ^ 62)<=((2 ^ n:Nat):Int):=by omega
  have b2:((2 ^ n:Nat):Int)<2 ^ 62:=by omega
  rw [Zq1]
  refine Zip (n:=2 ^ n) (fun i=>V.str (sN (fS tn i.toNat))) rfl (by omega) ?_ ?_
  ·intro i H' Q' hi s' q'
   rw [show (0:Int)+(i:Int)=(i:Int) by omega] at q' ⊢
   have hb:=lW (tn:Int) i
   walk_at "gs"
   rw [wx]
   have e:((tn / 2 ^ i % 2:Nat):Int)=fS tn i:=by unfold fS;rw [Zq1]
   rw [e]
   exact ⟨lz hb.1 (by omega),q'⟩
  intro lp H1 n1
  have e1:((Zpv (2 ^ n)).map fun i=>V.str (sN (fS tn ((0:Int)+((i:Nat):Int)).toNat)))=(ij tn (2 ^ n)).map V.str:=by
   unfold ij
   rw [Zpz]
   refine Zp6 fun i _=>?_
   rw [show ((0:Int)+(i:Int)).toNat=i by omega];rfl
  rw [e1] at n1
  walk_at "gs"
  refine ⟨_,n1.sq,sO (Cd _ _) (by rw [Cv];omega) (by omega),by decide +kernel,?_⟩
  exact q H1 n1.same
noncomputable def FX (_:ZoW):Sp:=fun vs H Q _=>∃ t:Int,vs=[.int t]/\0<=t/\t / 2<=999/\Q (.str (bp t)) H
noncomputable def A7 (K:ZoW):TS:=(aE (bo (xF (cA (ah (jH K) (ah (bc (fun _ j=>0<j) fun i j=>.int (i % j)) (aa 0) (tC (.int 2))) (tC (.int 1)))) (tC (.str "-")) (tC (.str ""))) (au 1))
  (bI (ah dg (aa 1) (aX j6 (af (ah (bc ib fun i j=>.int (i / j)) (aa 0) (tC (.int 2))) aj)))))
theorem Ox (T:Txt K mg a):TM P w K mg base 0 "tie_text" ur ID a.dM (A7 K) :=
 fun hr=>(aG (cu (i:=1) Ij.nd rfl (by walk_at "o") (Dw (dN (ku (fo hr)) (ax ic (cv 0) aq) aq (cR _)) dZ dZ))
   (aM (bO (ax dv (cv 1) (gj kO (by rfl) T.cC PyProof.Rows.boot_str (ag (ax iS (cv 0) aq) ak))))))
theorem Kq (T:Txt K mg a):aB P w K mg base cb 1 a.dM a.fA ["tie"] (FX K):=by
 refine T.fM.n.dt Ij (Ox T) (fun vs H Q E h=>?_) (fun H vs Q E h=>?_)
 ·obtain ⟨t,rfl,_⟩:=h;rfl
 ·obtain ⟨t,rfl,t0,th,q⟩:=h
  show A7 K _ [some (.int t),none] H
  unfold A7
  have big:(20000:Nat)<=sizeLine:=by decide
  have hl:=jO (i:=t / 2) (by omega) (by omega)
  have hs:=lz (i:=t / 2) (by omega) (by omega)
  have e1:Str.length "-" = 1:=by decide +kernel
  have e2:Str.length "" = 0:=by decide +kernel
  unfold bp at q
  walk_at "gs"
  by_cases g:t % 2=1
  ·rw [if_pos g] at q ⊢
   walk_at "gs"
   refine ⟨?_,q⟩
   show Str.length "-" + (sN (t / 2)).length<=_
   omega
  ·rw [if_neg g] at q ⊢
   walk_at "gs"
   refine ⟨?_,q⟩
   show Str.length "" + (sN (t / 2)).length<=_
   omega
open GM
theorem zm {m:Nat}{ps:List Pc} (w:WP m ps) (bA:m<=10) {i:Nat}{p:Pc} (hp:ps[i]? = some p):∀ x∈p.2.1,1<=x/\x<=999:=fun x hx=>w.known bA ((w i p hp).kn x hx)
theorem Ec {m:Nat}{ps:List Pc} (w:WP m ps) (bA:m<=10) {i:Nat}{p:Pc} (hp:ps[i]? = some p):(∀ y∈sN p.1 :: "of" :: (p.2.1.map sN ++ [("is" : Str),bZ p.2.2 p.2.1.length]),y.length<=256)/\(sN p.1 :: "of" :: (p.2.1.map sN ++ [("is" : Str),bZ p.2.2 p.2.1.length])).length<=10:=by
 have hk:=w.kb hp
 have hn:=zm w bA hp
 have wl:=(w i p hp).l6
 have e1:Str.length "of" = 2:=by decide +kernel
 have e2:Str.length "is" = 2:=by decide +kernel
 constructor
 ·intro y hy
  rcases ZpC.mp hy with rfl | hy
  ·have:=jO (i:=p.1) (by omega) (by omega)
   omega
  rcases ZpC.mp hy with rfl | hy
  ·omega
  rcases ZpM.mp hy with hy | hy
  ·obtain ⟨x,hx,rfl⟩:=ZpI.mp hy
   have:=hn x hx
   have:=jO (i:=x) (by omega) (by omega)
   omega
  rcases ZpC.mp hy with rfl | hy
  ·omega
  ·rw [ZpH] at hy
   subst hy
   exact KY _ wl
 ·simp only [ZpG,ZpD,Zpu,ZpW]
  omega
theorem Ci {m:Nat}{ps:List Pc}{ae:List Int} (wt:WT m ps ae) (w:WP m ps) (bA:m<=10):(∀ y∈ae.map bp,y.length<=5)/\(∀ y∈("out" : Str) :: ae.map bp,y.length<=5):=by
 have h1:∀ y∈ae.map bp,y.length<=5:=fun y hy=>by
  obtain ⟨t,ht,rfl⟩:=ZpI.mp hy
  have:=wt.half w bA ht
  exact ED this.1 (by omega)
 refine ⟨h1,fun y hy=>?_⟩
 rcases ZpC.mp hy with rfl | hy
 ·have:Str.length "out" = 3:=by decide +kernel
  omega
 ·exact h1 y hy
noncomputable def EA (a:fv) (_:ZoW):Sp:=fun vs H Q _=>∃ (x:Addr) (m:Nat) (ps:List Pc) (ae:List Int),vs=[.ref x]/\i0 a.ab H x m ps ae/\WP m ps/\WT m ps ae/\m<=10/\ps.length<=1000/\∀ l H',iR H l (.lst ((m5 m ps ae).map V.str)) H'->Q (.ref l) H'
noncomputable def Ea (a:fv) (K:ZoW):TS:=(aE (bo (gG (af (gr K "str" (mv K) (tC (.str " ")) (af (gG (af (tC (.str "board")) (af (aX j6 (af (kA K (aa 0) "many") aj)) aj))) aj)) aj)) (au 1))
  (aE (ed (fk K (ri a.ab "pieces" (BZ a K) [] E0 (aa 0) aj)) (iw K 3 (cG (au 2) (cG (au 3) (cG (au 4) ik)))) (aE (bo (cO (fk K (aa 3)) 1 [] (au 0) cJ (aX j6 (af (aa 0) aj))) (au 5))
  (jr (gr K "list" ki (aa 1) (af (gr K "str" (mv K) (tC (.str " ")) (af (ah dg (ah dg (gG (af (aX j6 (af (aa 2) aj)) (af (tC (.str "of")) aj))) (aa 5)) (gG (af (tC (.str "is")) (af (bH (JT K) [] E0 (af (aa 4) (af (aX (eu K) (af (aa 3) aj)) aj))) aj)))) aj)) aj)))))
  (aE (jr (gr K "list" ki (aa 1) (af (gr K "str" (mv K) (tC (.str " ")) (af (ah dg (gG (af (tC (.str "out")) aj)) (cO (fk K (ri a.ab "ties" (Dk a K) [] E0 (aa 0) aj)) 1 [] (au 0) cJ (bH (FX K) [] E0 (af (aa 0) aj)))) aj)) aj)))
  (bI (aa 1)))))
theorem Ld (T:Txt K mg a):TM P w K mg base 1 "board_lines" p5 zQ a.bS (Ea a K) :=
 fun hr=>(aG (cu (i:=1) rS.nd rfl (by walk_at "o") (ix (ag (gP Zpr Zps Zpt rV dZ (ag (ix (ag dZ (ag (gj kO (by rfl) T.cC PyProof.Rows.boot_str (ag (mO (cv 0) rfl) ak)) ak))) ak)) ak)))
   (aG (gQ PassesOwn.never rfl (gI (vR (cv 0) T.az T.aP.e (Ff T) (hm hr) T.aP.b .nil bx)) (jx rfl (dm (aY (i:=2) rS.nd rfl (by walk_at "o")) (dm (aY (i:=3) rS.nd rfl (by walk_at "o")) (dm (aY (i:=4) rS.nd rfl (by walk_at "o")) jv)))) (aG (mw (i:=5) (N:=["lower"]) (k:=1) (sel:=[]) (ao.of (aO p5).names (by decide +kernel)) (av.of zQ (by decide +kernel)) rfl (gI (cv 3)) (fun _ _ _ _=>(aY (i:=0) (show ZpF (["lower"]:List Str) by decide +kernel) rfl (by walk_at "o"))) (fun _ _ _ _=>fz) (fun _ _ _ _=>(gj kO (by rfl) T.cC PyProof.Rows.boot_str (ag (cv 0) ak))) rS.nd rfl (by walk_at "o") rfl)
   (aM (jP (gP Zpo Zpp Zpq (kE jV) (cv 1) (ag (gP Zpr Zps Zpt rV dZ (ag (ax dv (ax dv (ix (ag (gj kO (by rfl) T.cC PyProof.Rows.boot_str (ag (cv 2) ak)) (ag dZ ak))) (cv 5)) (ix (ag dZ (ag (bM T.d7 (OH T) (hm hr) bx (ag (cv 4) (ag (cq eZ (by rfl) T.ay PySem.boot_len (ag (cv 3) ak)) ak))) ak)))) ak)) ak))))))
   (aG (jP (gP Zpo Zpp Zpq (kE jV) (cv 1) (ag (gP Zpr Zps Zpt rV dZ (ag (ax dv (ix (ag dZ ak)) (ia (N:=["tie"]) (k:=1) (sel:=[]) (ao.of (aO p5).names (by decide +kernel)) (av.of zQ (by decide +kernel)) rfl (gI (vR (cv 0) T.az T.bf.e (HD T) (hm hr) T.bf.b .nil bx)) (fun _ _ _ _=>(aY (i:=0) (show ZpF (["tie"]:List Str) by decide +kernel) rfl (by walk_at "o"))) (fun _ _ _ _=>fz) (fun _ _ _ _=>(bM T.fM (Kq T) (hm hr) bx (ag (cv 0) ak))))) ak)) ak)))
   (aM (bO (cv 1))))))
theorem LM (T:Txt K mg a):aB P w K mg base cb 2 a.bS a.dy ["board"] (EA a K):=by
 refine T.dD.n.dt rS (Ld T) (fun vs H Q E h=>?_) (fun H vs Q E h=>?_)
 ·obtain ⟨x,m,ps,ae,rfl,_⟩:=h;rfl
 ·obtain ⟨x,m,ps,ae,rfl,hB,wp,wt,bA,hz,q⟩:=h
  show Ea a K _ [some (.ref x),none,none,none,none,none] H
  unfold Ea
  have big:(20000:Nat)<=sizeLine:=by decide
  have i6:Str.length " " <= 16:=by decide +kernel
  have Fd:=wt.lh
  have Rr:Str.length "board" = 5:=by decide +kernel
  obtain ⟨dx,k,tt,ts,hx,hP,hT⟩:=id hB
  walk_at "gs"
  refine ⟨x,a.ab,dx,_,_,rfl,hx,T.az,T.aW,rfl,?_⟩
  walk_at "gs"
  refine ⟨lz (by omega) (by omega),by show 2<=sizeLine;decide,fun l1 H1 n1=>?_⟩
  have Rq:=jO (i:=(m:Int)) (by omega) (by omega)
  refine ⟨["board",sN m],.of n1.at_,sO (k:=5) (fun y hy=>?_) (by simp) (by omega),i6,by show 1<=sizeLine;decide,fun pl H2 n2=>?_⟩
  ·rcases ZpC.mp hy with rfl | hy
   ·omega
   ·rw [ZpH] at hy
    subst hy
    omega
  have Bu:=n1.same.trans n2.same
  have eB:H pl=none:=n1.same.nil n2.cP
  walk_at "gs"
  refine ⟨x,dx,_,rfl,Bu _ _ hx,rfl,x,m,ps,ae,rfl,hB.same Bu,by omega,fun l us H3 yI s3 hL hun=>?_⟩
  have qu:=Bu.trans s3
  have fN:=hL.len
  walk_at "gs"
  refine ⟨⟨_,.of hL.lst⟩,rC (xs:=us.map fun t=>V.ref t.1) (fun i σ H4=>aD H H4/\eJ H4 l us ps/\H4 pl=some (.lst ((jn ["board",sN m] :: (ps.take i).map sS).map V.str))/\∃ v2 v3 v4 v5,σ=[some (.ref x),some (.ref pl),v2,v3,v4,v5]) ⟨qu,hL,s3 _ _ n2.at_,_,_,_,_,rfl⟩ ?_ ?_ ?_⟩
  ·rintro i σ H4 _ ⟨_,hL4,_⟩
   exact .of hL4.lst
  ·rintro i v σ H4 hv ⟨s4,hL4,hp4,v2,v3,v4,v5,rfl⟩
   have hi:i<us.length:=by have:=(ZpA.mp hv).1;rwa [Zpu] at this
   rw [ZpB,Zpw hi] at hv
   have ev:V.ref (us[i]).1=v:=Option.some.inj hv
   subst ev
   clear hv
   obtain ⟨p,hp,hpt,hpc⟩:=hL4.get hi
   have Gn:=Ec wp bA hp
   have Ni:=wp.kb hp
   have zi:=zm wp bA hp
   have w1:=wp i p hp
   have mM:=w1.l6
   generalize (us[i]).1=t1 at *
   generalize (us[i]).2=t2 at *
   walk_at "gs"
   refine ⟨t1,_,rfl,.of hpt,rfl,_,_,rfl,_,_,rfl,_,_,rfl,rfl,?_⟩
   walk_at "gs"
   refine ⟨⟨_,.of hpc⟩,rW (fun v=>match v with | .int x=>.str (sN x) | v=>v) (.of hpc) rfl (by rw [Zpu];omega) ?_ ?_⟩
   ·intro v H' Q' hv s' q'
    obtain ⟨y,hy,rfl⟩:=ZpI.mp hv
    have Aa:=zi y hy
    walk_at "gs"
    exact ⟨lz (by omega) (by omega),q'⟩
   intro np H5 n5
   have e5:(p.2.1.map V.int).map (fun v=>match v with | .int x=>V.str (sN x) | v=>v)=(p.2.1.map sN).map V.str:=by rw [Zpz,Zpz];rfl
   rw [e5] at n5
   have nD:=n5.same _ _ hp4
   walk_at "gs"
   refine ⟨.inl ⟨by trivial,_,.of nD⟩,by trivial,lz (by omega) (by omega),by show 2<=sizeLine;decide,fun a6 H6 n6=>?_⟩
   refine ⟨_,_,n6.at_,n6.same _ _ n5.at_,by simp only [Zpu,ZpG,ZpW];omega,fun a7 ha7=>?_⟩
   have s7:aD H6 (upd H6 a7 (.lst ([V.str (sN p.1),V.str "of"] ++ (p.2.1.map sN).map V.str))):=eD ha7
   have a7':upd H6 a7 (.lst ([V.str (sN p.1),V.str "of"] ++ (p.2.1.map sN).map V.str)) a7=some (.lst ([V.str (sN p.1),V.str "of"] ++ (p.2.1.map sN).map V.str)):=bh
   show _
   generalize Jg:upd H6 a7 (.lst ([V.str (sN p.1),V.str "of"] ++ (p.2.1.map sN).map V.str))=H7 at s7 a7'
   have hH7':upd H6 a7 (.lst ([V.str (toString p.1),V.str "of"] ++ (p.2.1.map sN).map V.str))=H7:=Jg
   first | rw [hH7'] | rw [Jg] | skip
   have E2:=(n5.same.trans n6.same).trans s7
   walk_at "gs"
   refine .inl ⟨_,.inl (.of (E2 _ _ hpc)),?_⟩
   rw [Zpu]
   refine ⟨_,_,rfl,w1.t0,mM,fun H8 s8=>?_⟩
   walk_at "gs"
   refine ⟨by show 2<=sizeLine;decide,fun a9 H9 n9=>?_⟩
   refine ⟨_,_,n9.same _ _ (s8 _ _ a7'),n9.at_,by simp only [ZpD,Zpu,ZpG,ZpW];omega,fun pO hb10=>?_⟩
   have KR:([V.str (sN p.1),V.str "of"] ++ (p.2.1.map sN).map V.str) ++ [V.str "is",V.str (bZ p.2.2 p.2.1.length)]=(sN p.1 :: "of" :: (p.2.1.map sN ++ [("is" : Str),bZ p.2.2 p.2.1.length])).map V.str:=by
    rw [Zpx,Zpx,Zpy]
    rfl
   rw [KR]
   have kW:=((E2.trans s8).trans n9.same).trans (eD hb10 (o:=.lst ((sN p.1 :: "of" :: (p.2.1.map sN ++ [("is" : Str),bZ p.2.2 p.2.1.length])).map V.str)))
   have a10:upd H9 pO (.lst ((sN p.1 :: "of" :: (p.2.1.map sN ++ [("is" : Str),bZ p.2.2 p.2.1.length])).map V.str)) pO=_:=bh
   generalize upd H9 pO (.lst ((sN p.1 :: "of" :: (p.2.1.map sN ++ [("is" : Str),bZ p.2.2 p.2.1.length])).map V.str))=H10 at kW a10 ⊢
   walk_at "gs"
   refine ⟨_,.of a10,sO Gn.1 (by omega) (by omega),i6,pl,_,_,rfl,rfl,kW _ _ hp4,by simp only [Zpu,ZpG,ZpT];omega,(s4.trans kW).put eB,?_,?_,_,_,_,_,rfl⟩
   ·have qd:=hL4.same kW
    have QE:l≠pl:=(cH (n2.at_) yI).symm
    refine ⟨by rw [aJ QE];exact qd.lst,qd.len,fun j t p' ht hp'=>?_⟩
    obtain ⟨g1,g2⟩:=qd.at_ j t p' ht hp'
    have nt:=hun t (Zp5 ht)
    exact ⟨by rw [aJ (cH n2.at_ nt.1).symm];exact g1,by rw [aJ (cH n2.at_ nt.2.1).symm];exact g2⟩
   ·rw [bh,rM hp,Zpy,Zpx,Zpx,Zpy]
    rfl
  ·rintro σ H4 ⟨s4,hL4,hp4,v2,v3,v4,v5,rfl⟩
   rw [Zpu,fN,ZpN] at hp4
   walk_at "gs"
   refine ⟨.inl ⟨by trivial,_,.of hp4⟩,by trivial,by show 1<=sizeLine;decide,fun a5 H5 n5=>?_⟩
   have Gh:=s4.trans n5.same
   refine ⟨x,dx,_,rfl,Gh _ _ hx,rfl,x,m,ps,ae,rfl,hB.same Gh,fun l6 H6 n6=>?_⟩
   walk_at "gs"
   refine ⟨⟨_,n6.sq⟩,rW (fun v=>match v with | .int x=>.str (bp x) | v=>v) n6.sq rfl (by rw [Zpu];omega) ?_ ?_⟩
   ·intro v H' Q' hv s' q'
    obtain ⟨y,hy,rfl⟩:=ZpI.mp hv
    have Aa:=wt.half wp bA hy
    walk_at "gs"
    exact ⟨y,rfl,Aa.1,Aa.2,q'⟩
   intro l7 H7 n7
   have e7:(ae.map V.int).map (fun v=>match v with | .int x=>V.str (bp x) | v=>v)=(ae.map bp).map V.str:=by rw [Zpz,Zpz];rfl
   rw [e7] at n7
   have EW:=n6.same.trans n7.same
   walk_at "gs"
   refine ⟨_,_,EW _ _ n5.at_,n7.at_,by simp only [Zpu,ZpG,ZpW];omega,fun b8 hb8=>?_⟩
   have e8:[V.str "out"] ++ (ae.map bp).map V.str=(("out" : Str) :: ae.map bp).map V.str:=rfl
   rw [e8]
   have Ew:=(n5.same.trans EW).trans (eD hb8 (o:=.lst ((("out" : Str) :: ae.map bp).map V.str)))
   have a8:upd H7 b8 (.lst ((("out" : Str) :: ae.map bp).map V.str)) b8=_:=bh
   generalize upd H7 b8 (.lst ((("out" : Str) :: ae.map bp).map V.str))=H8 at Ew a8 ⊢
   walk_at "gs"
   refine ⟨_,.of a8,sO (Ci wt wp bA).2 (by simp only [ZpG,Zpu];omega) (by omega),i6,pl,_,_,rfl,rfl,Ew _ _ hp4,by simp only [Zpu,ZpG];omega,?_⟩
   walk_at "gs"
   refine q pl _ ⟨eB,?_,(s4.trans Ew).put eB⟩
   rw [bh]
   unfold m5
   rw [Zpx,Zpx,Zpy]
   rfl
open GM
noncomputable def mP (x:Str) (i:Int):Bool:=decide (1<=x.length/\x.length<=3) && x.cps.toList.all (fun c=>decide (48<=c/\c<=57)) && (decide (x.cps.toList[0]? ≠ some 48) || decide (x = "0")) && decide (intText? x=some i)
theorem Q5:∀ n:Fin 1000,mP (sN ((n:Nat):Int)) ((n:Nat):Int)=true:=by decide +kernel
theorem oO {i:Int} (h0:0<=i) (h1:i<=999):(1<=(sN i).length/\(sN i).length<=3)/\(∀ c∈(sN i).cps.toList,48<=c/\c<=57)/\((sN i).cps.toList[0]? ≠ some 48\/sN i = "0")/\intText? (sN i)=some i:=by
 have:=Q5 ⟨i.toNat,by omega⟩
 rw [show (((⟨i.toNat,by omega⟩:Fin 1000):Nat):Int)=i by show ((i.toNat:Nat):Int)=i;omega] at this
 unfold mP at this
 simp only [Zrf,Zrh,decide_eq_true_eq,Zp1] at this
 exact ⟨this.1.1.1,this.1.1.2,this.1.2,this.2⟩
theorem OS {α:Type}{xs:List α} (h:0<xs.length):dk xs 0=xs[0]?:=by
 unfold dk kI
 rw [if_pos (Int.le_refl 0),if_pos (by show (0:Int)<_;omega)]
 rfl
theorem qQ {c:Nat} (h:(⟨#[c]⟩:Str) = "0"):c=48:=by
 have e:=congrArg (fun s:Str=>s.cps.toList) h
 have e2:(("0" : Str).cps.toList)=[48]:=by decide +kernel
 exact (List.cons.inj (show [c]=[48] from (show [c]=(("0" : Str).cps.toList) from e).trans e2)).1
theorem Mz:∀ d:Fin 10,g9 ⟨#[48+(d:Nat)]⟩ "0123456789" = true:=by decide +kernel
theorem pD {c:Nat} (h:48<=c/\c<=57):g9 ⟨#[c]⟩ "0123456789" = true:=by
 have:=Mz ⟨c - 48,by omega⟩
 rwa [show 48+(((⟨c - 48,by omega⟩:Fin 10):Nat))=c by show 48+(c - 48)=c;omega] at this
noncomputable def sf (_:ZoW):Sp:=fun vs H Q _=>∃ i:Int,vs=[.str (sN i)]/\0<=i/\i<=999/\∀ H',aD H H'->Q (.int i) H'
noncomputable def DH (a:fv) (K:ZoW):TS:=(aE (en (gE (cA (ah (cI fun i j=>.bl (decide (i<j))) (aX (eu K) (af (aa 0) aj)) (tC (.int 1)))) (gE (cA (ah (cI fun i j=>.bl (decide (j<i))) (aX (eu K) (af (aa 0) aj)) (tC (DU a)))) (gO (gh K (aX (jz K) (af (cO (jl (aa 0)) 1 [] (au 0) cJ (ah (zH K false) (aa 0) (tC (Am a)))) aj)))))) iK eh)
  (aE (en (kU (cA (ah (jH K) (ah (bE K) (aa 0) (tC (.int 0))) (tC (.str "0")))) (cA (ah (iq K) (aa 0) (tC (.str "0"))))) iK eh)
  (bI (aX tU (af (aa 0) aj)))))
theorem Qg (T:Txt K mg a):TM P w K mg base 0 "number_of" rL A3 a.cZ (DH a K) :=
 fun hr=>(aG (eY (PW.pt (hG (dN kX (cq eZ (by rfl) T.ay PySem.boot_len (ag (cv 0) ak)) aq (cR _)) (hG (dN nE (cq eZ (by rfl) T.ay PySem.boot_len (ag (cv 0) ak)) (sm rfl T.ff) (cR _)) (jF (iy (g7 (cq (zM rfl) (by rfl) T.gH PyProof.Rows.boot_all (ag (ia (N:=["sign"]) (k:=1) (sel:=[]) (ao.of (aO rL).names (by decide +kernel)) (av.of A3 (by decide +kernel)) rfl (GJ (cv 0)) (fun _ _ _ _=>(aY (i:=0) (show ZpF (["sign"]:List Str) by decide +kernel) rfl (by walk_at "o"))) (fun _ _ _ _=>fz) (fun _ _ _ _=>(qx xp (cv 0) (sm rfl T.iI) (by with_unfolding_all rfl)))) ak)))))))) (aM jC) eU)
   (aG (eY (PW.pt (Io (dN (ku (fo hr)) (bJ bK (cv 0) aq (fun _ _=>rfl)) dZ (cR _)) (ET (dN (iW (fo hr)) (cv 0) dZ (cR _))))) (aM jC) eU)
   (aM (bO (gj BV (by rfl) T.dH PyProof.Rows.boot_int (ag (cv 0) ak))))))
theorem uH (T:Txt K mg a):aB P w K mg base cb 1 a.cZ a.eR ["word"] (sf K):=by
 refine T.ba.n.dt Ow (Qg T) (fun vs H Q E h=>?_) (fun H vs Q E h=>?_)
 ·obtain ⟨i,rfl,_⟩:=h;rfl
 ·obtain ⟨i,rfl,h0,h1,q⟩:=h
  obtain ⟨hl,hc,hz,hi⟩:=oO h0 h1
  show DH a K _ [some (.str (sN i))] H
  unfold DH DU Am
  have big:(20000:Nat)<=sizeLine:=by decide
  have hsz:(sN i).cps.toList.length=(sN i).length:=by rw [Zq9];rfl
  walk_at "gs"
  rw [if_neg (by omega)]
  refine ⟨by omega,?_⟩
  rw [if_neg (by omega)]
  refine HV (fun _=>V.bl true) rfl (by have:(sN i).cps.size=(sN i).length:=rfl;omega) ?_ ?_
  ·intro c H' Q' hc' s' q'
   walk_at "gs"
   rw [pD (hc c hc')]
   exact q'
  intro p H1 n1
  refine ⟨(sN i).cps.toList.map fun _=>true,by have:=n1.sq (K:=K);rwa [Zpz],?_⟩
  rw [if_neg (by rw [Zqe];simp [Function.comp_def])]
  obtain ⟨c,hc0⟩:∃ c,(sN i).cps.toList[0]? = some c:=⟨_,Zpw (by omega)⟩
  refine ⟨by omega,c,by rw [OS (by omega)];exact hc0,?_⟩
  by_cases g:(⟨#[c]⟩:Str) = "0"
  ·have ec:c=48:=qQ g
   rw [if_pos g]
   rcases hz with hz | hz
   ·rw [hc0,ec] at hz
    exact absurd rfl hz
   ·rw [if_neg (fun z=>z hz)]
    exact ⟨i,hi,by omega,q _ n1.same⟩
  ·rw [if_neg g]
   exact ⟨i,hi,by omega,q _ n1.same⟩
noncomputable def FN (_:ZoW):Sp:=fun vs H Q _=>∃ (r:Addr) (m:Int),vs=[.ref r]/\H r=some (.lst ((["board",sN m]:List Str).map V.str))/\0<=m/\m<=999/\∀ H',aD H H'->Q (.int m) H'
noncomputable def Ej (K:ZoW):TS:=(aE (en (gE (cA (ah (iq K) (aX (eu K) (af (aa 0) aj)) (tC (.int 2)))) (cA (ah (iq K) (ah (bE K) (aa 0) (tC (.int 0))) (tC (.str "board"))))) iK eh)
  (bI (bH (sf K) [] E0 (af (ah (bE K) (aa 0) (tC (.int 1))) aj))))
theorem Pp (T:Txt K mg a):TM P w K mg base 1 "many_of" sZ FV a.eL (Ej K) :=
 fun hr=>(aG (eY (PW.pt (hG (dN (iW (fo hr)) (cq eZ (by rfl) T.ay PySem.boot_len (ag (cv 0) ak)) aq (cR _)) (jF (dN (iW (fo hr)) (bJ bK (cv 0) aq (fun _ _=>rfl)) dZ (cR _))))) (aM jC) eU)
   (aM (bO (bM T.ba (uH T) (hm hr) bx (ag (bJ bK (cv 0) aq (fun _ _=>rfl)) ak)))))
theorem NB (T:Txt K mg a):aB P w K mg base cb 2 a.eL a.gB ["row"] (FN K):=by
 refine T.gA.n.dt Kk (Pp T) (fun vs H Q E h=>?_) (fun H vs Q E h=>?_)
 ·obtain ⟨r,m,rfl,_⟩:=h;rfl
 ·obtain ⟨r,m,rfl,hr,h0,h1,q⟩:=h
  show Ej K _ [some (.ref r)] H
  unfold Ej
  walk_at "gs"
  refine .inl ⟨_,.inl (.of hr),?_⟩
  rw [if_neg (fun z=>z rfl)]
  refine ⟨_,_,.inl (.of hr),rfl,?_⟩
  show if ¬ ("board" : Str) = "board" then False else _
  rw [if_neg (fun z=>z rfl)]
  exact ⟨_,_,.inl (.of hr),rfl,m,rfl,h0,h1,q⟩
theorem HR:∀ (L:List Str) (x:Str),(L.foldl (fun (a y:Str)=>a ++ y) x).cps.toList=x.cps.toList ++ (L.map fun y=>y.cps.toList).flatten
 | [],x=>by simp
 | y :: r,x=>by
  show (r.foldl (fun (a y:Str)=>a ++ y) (x ++ y)).cps.toList=_
  rw [HR r (x ++ y),lZ,Zpx,List.flatten_cons,Zqh]
theorem Iy {b:Int} (h0:0<=b) (h1:b<=1):(sN b).cps.toList=[48+b.toNat]:=by
 have h:b=0\/b=1:=by omega
 rcases h with rfl | rfl <;> decide +kernel
theorem Il (t:Int):∀ n:Nat,((ij t n).map fun y=>y.cps.toList).flatten=(Zpv n).map fun k=>48+(fS t k).toNat
 | 0=>rfl
 | n+1=>by
  have e:ij t (n+1)=ij t n ++ [sN (fS t n)]:=by
   unfold ij
   rw [Zp2,Zpy];rfl
  rw [e,Zpy,List.flatten_append,Il t n,Zp2,Zpy]
  have hb:=lW t n
  show _ ++ ((sN (fS t n)).cps.toList ++ [])=_
  rw [Iy hb.1 hb.2]
  rfl
theorem xm (t:Int) (n:Nat):(bZ t n).cps.toList=(Zpv (2 ^ n)).map fun k=>48+(fS t k).toNat:=by
 unfold bZ
 rw [Bz,HR,Il]
 rfl
theorem yZ (t:Int) (n:Nat):(bZ t n).length=2 ^ n:=by
 have:=congrArg List.length (xm t n)
 rw [Zpu,ZpO,Zq9] at this
 exact this
noncomputable def kC (t:Nat) (n:Nat):List Nat:=(Zpv n).filter fun k=>decide (t / 2 ^ k % 2=1)
theorem Az (t n:Nat):kC t (n+1)=kC t n ++ (if t / 2 ^ n % 2=1 then [n] else []):=by
 unfold kC
 rw [Zp2,List.filter_append]
 by_cases h:t / 2 ^ n % 2=1
 ·rw [if_pos h];simp [h]
 ·rw [if_neg h];simp [h]
theorem Kd {t n k:Nat} (h:k∈kC t n):k<n:=ZpU.mp (Zqj.mp h).1
theorem GH (t n:Nat):(kC t n).length<=n:=by
 have:=List.length_filter_le (fun k=>decide (t / 2 ^ k % 2=1)) (Zpv n)
 rwa [ZpO] at this
theorem Hf (t:Nat):∀ n:Nat,(((kC t n).map fun k:Nat=>((2 ^ k:Nat):Int)).sum:Int)=((t % 2 ^ n:Nat):Int)
 | 0=>by simp [kC,Nat.mod_one]
 | n+1=>by
  rw [Az,Zpy,List.sum_append,Hf t n,Nat.mod_pow_succ]
  by_cases h:t / 2 ^ n % 2=1
  ·rw [if_pos h,h]
   simp
  ·have h0:t / 2 ^ n % 2=0:=by omega
   rw [if_neg h,h0]
   simp
theorem p0 {c:Nat} (h:c=48\/c=49):g9 ⟨#[c]⟩ "01" = true:=by
 rcases h with rfl | rfl <;> decide +kernel
theorem Ji (c:Nat):((⟨#[c]⟩:Str) = "1") ↔ c=49:=by
 have e2:(("1" : Str).cps.toList)=[49]:=by decide +kernel
 constructor
 ·intro h
  have e:=congrArg (fun s:Str=>s.cps.toList) h
  exact (List.cons.inj (show [c]=[49] from (show [c]=(("1" : Str).cps.toList) from e).trans e2)).1
 ·rintro rfl
  exact vw (by rw [e2])
noncomputable def Jz (_:ZoW):Sp:=fun vs H Q _=>∃ (t:Int) (n:Nat),vs=[.str (bZ t n),.int n]/\0<=t/\t<2 ^ 2 ^ n/\n<=6/\∀ H',aD H H'->Q (.int t) H'
noncomputable def CA (K:ZoW):TS:=(aE (en (gE (cA (ah (iq K) (aX (eu K) (af (aa 0) aj)) (ah (bc gU fun i j=>.int (i * 2 ^ j.toNat)) (tC (.int 1)) (aa 1)))) (gO (gh K (aX (jz K) (af (cO (jl (aa 0)) 1 [] (au 0) cJ (ah (zH K false) (aa 0) (tC (.str "01")))) aj))))) iK eh)
  (aE (bo (cO (oM (af (aa 0) aj)) 2 [] (iw K 2 (cG (au 0) (cG (au 1) ik))) (cA (ah (jH K) (aa 1) (tC (.str "1")))) (aa 0)) (au 2))
  (bI (aX (pv K) (af (cO (fk K (aa 2)) 1 [] (au 0) cJ (ah (bc gU fun i j=>.int (i * 2 ^ j.toNat)) (tC (.int 1)) (aa 0))) aj)))))
theorem K3 (T:Txt K mg a):TM P w K mg base 0 "table_of" lQ xv a.dG (CA K) :=
 fun hr=>(aG (eY (PW.pt (hG (dN (iW (fo hr)) (cq eZ (by rfl) T.ay PySem.boot_len (ag (cv 0) ak)) (ax kr aq (cv 1)) (cR _)) (jF (iy (g7 (cq (zM rfl) (by rfl) T.gH PyProof.Rows.boot_all (ag (ia (N:=["sign"]) (k:=1) (sel:=[]) (ao.of (aO lQ).names (by decide +kernel)) (av.of xv (by decide +kernel)) rfl (GJ (cv 0)) (fun _ _ _ _=>(aY (i:=0) (show ZpF (["sign"]:List Str) by decide +kernel) rfl (by walk_at "o"))) (fun _ _ _ _=>fz) (fun _ _ _ _=>(qx xp (cv 0) dZ (by with_unfolding_all rfl)))) ak))))))) (aM jC) eU)
   (aG (mw (i:=2) (N:=["place","sign"]) (k:=2) (sel:=[]) (ao.of (aO lQ).names (by decide +kernel)) (av.of xv (by decide +kernel)) rfl (qI rfl T.d8 (ag (cv 0) ak)) (fun _ _ _ _=>(jx rfl (dm (aY (i:=0) (show ZpF (["place","sign"]:List Str) by decide +kernel) rfl (by walk_at "o")) (dm (aY (i:=1) (show ZpF (["place","sign"]:List Str) by decide +kernel) rfl (by walk_at "o")) jv)))) (fun _ _ _ _=>(Qu (dN (ku (fo hr)) (cv 1) dZ (cR _)))) (fun _ _ _ _=>(cv 0)) EU.nd rfl (by walk_at "o") rfl)
   (aM (bO (cq (xy rfl) (by rfl) T.qS PyProof.Rows.boot_sum (ag (ia (N:=["place"]) (k:=1) (sel:=[]) (ao.of (aO lQ).names (by decide +kernel)) (av.of xv (by decide +kernel)) rfl (gI (cv 2)) (fun _ _ _ _=>(aY (i:=0) (show ZpF (["place"]:List Str) by decide +kernel) rfl (by walk_at "o"))) (fun _ _ _ _=>fz) (fun _ _ _ _=>(ax kr aq (cv 0)))) ak))))))
theorem Mu (T:Txt K mg a):aB P w K mg base cb 1 a.dG a.fH ["word","count"] (Jz K):=by
 refine T.fI.n.dt EU (K3 T) (fun vs H Q E h=>?_) (fun H vs Q E h=>?_)
 ·obtain ⟨t,n,rfl,_⟩:=h;rfl
 ·obtain ⟨t,n,rfl,h0,h1,h6,q⟩:=h
  show CA K _ [some (.str (bZ t n)),some (.int n),none] H
  unfold CA
  obtain ⟨tn,rfl⟩:=Zq2 h0
  have big:(20000:Nat)<=sizeLine:=by decide
  have h2:(2:Nat) ^ n<=2 ^ 6:=ZqG (by decide) h6
  have hl:=yZ (tn:Int) n
  have j7:=xm (tn:Int) n
  have hsz:(bZ (tn:Int) n).cps.size=2 ^ n:=hl
  have hc:∀ c∈(bZ (tn:Int) n).cps.toList,c=48\/c=49:=by
   intro c hc
   rw [j7] at hc
   obtain ⟨k,_,rfl⟩:=ZpI.mp hc
   have:=lW (tn:Int) k
   omega
  have MI:∀ (k:Nat) c,(bZ (tn:Int) n).cps[k]? = some c->c=48+tn / 2 ^ k % 2:=by
   intro k c hk
   have e:(bZ (tn:Int) n).cps.toList[k]? = some c:=by simpa using hk
   rw [j7,ZpB] at e
   by_cases g:k<2 ^ n
   ·rw [Zqt g] at e
    have:48+(fS (tn:Int) k).toNat=c:=Option.some.inj e
    rw [<- this]
    unfold fS
    rw [Zq1,Zq1]
   ·rw [ZpS (by rw [ZpO];omega)] at e
    cases e
  generalize bZ (tn:Int) n=z at *
  walk_at "gs"
  rw [if_neg (by rw [hl,Zq1];simp)]
  refine HV (fun _=>V.bl true) rfl (by omega) ?_ ?_
  ·intro c H' Q' hc' s' q'
   walk_at "gs"
   rw [p0 (hc c hc')]
   exact q'
  intro p H1 n1
  refine ⟨z.cps.toList.map fun _=>true,by have:=n1.sq (K:=K);rwa [Zpz],?_⟩
  rw [if_neg (by rw [Zqe];simp [Function.comp_def])]
  refine ⟨z,rfl,fun lp mx=>Lh (fun σ=>∃ v0 v1,σ=[v0,v1]) (fun i H3=>aD H1 H3/\H3 lp=some (.lst ((kC tn i).map fun k:Nat=>V.int (k:Int)))) ⟨_,_,rfl⟩ ⟨eD mx,by rw [bh];rfl⟩ ?_ ?_⟩
  ·rintro i c tp σ3 H3 R hc3 htp ⟨v0,v1,rfl⟩ ⟨s3,h3⟩ hR
   have hi:i<2 ^ n:=by
    have:=(Zra.mp hc3).1
    omega
   have ec:=MI i c hc3
   have s4:aD H3 (upd H3 tp (.tup [.int (i:Int),.str ⟨#[c]⟩])):=eD htp
   have a4:upd H3 tp (.tup [.int (i:Int),.str ⟨#[c]⟩]) tp=some (.tup [.int (i:Int),.str ⟨#[c]⟩]):=bh
   generalize upd H3 tp (.tup [.int (i:Int),.str ⟨#[c]⟩])=H4 at s4 a4 ⊢
   have hlen:=GH tn i
   walk_at "gs"
   refine ⟨tp,_,rfl,.of a4,rfl,_,_,rfl,_,_,rfl,rfl,?_⟩
   walk_at "gs"
   by_cases g:c=49
   ·rw [if_pos ((Ji c).mpr g)]
    refine ⟨_,s4 _ _ h3,by rw [Zpu];omega,hR _ _ ⟨_,_,rfl⟩ ⟨(s3.trans s4).put mx,?_⟩⟩
    rw [bh,Az,if_pos (by omega),Zpy]
    rfl
   ·rw [if_neg (fun z=>g ((Ji c).mp z))]
    refine hR _ _ ⟨_,_,rfl⟩ ⟨s3.trans s4,?_⟩
    rw [Az,if_neg (by omega),Zp4]
    exact s4 _ _ h3
  ·rintro H3 ⟨s3,h3⟩
   rw [hsz] at h3
   have hlen:=GH tn (2 ^ n)
   refine ⟨⟨_,.of h3⟩,rW (fun v=>match v with | .int k=>.int (2 ^ k.toNat) | v=>v) (.of h3) rfl (by rw [Zpu];omega) ?_ ?_⟩
   ·intro v H' Q' hv s' q'
    obtain ⟨k,hk,rfl⟩:=ZpI.mp hv
    have zf:=Kd hk
    have c1:gU 1 (k:Int):=⟨by omega,by omega,by decide⟩
    walk_at "gs"
    rw [Zq3]
    exact q'
   intro l5 H5 n5
   have e5:((kC tn (2 ^ n)).map fun k:Nat=>V.int (k:Int)).map (fun v=>match v with | .int k=>V.int (2 ^ k.toNat) | v=>v)=(((kC tn (2 ^ n)).map fun k:Nat=>((2 ^ k:Nat):Int)).map V.int):=by
    rw [Zpz,Zpz]
    refine Zp6 fun k _=>?_
    show V.int (2 ^ ((k:Int)).toNat)=V.int ((2 ^ k:Nat):Int)
    rw [Zq1]
    simp
   rw [e5] at n5
   refine ⟨_,n5.sq,?_⟩
   rw [Hf,Nat.mod_eq_of_lt (by exact_mod_cast h1)]
   exact q _ ((n1.same.trans s3).trans n5.same)
theorem Pl:∀ n:Fin 2000,(decide (Txt.startswith (bp ((n:Nat):Int)) "-" = decide (((n:Nat):Int) % 2=1)) && (decide (¬ ((n:Nat):Int) % 2=1) || decide (Txt.slice (bp ((n:Nat):Int)) (some 1) none=sN (((n:Nat):Int) / 2))))=true:=by decide +kernel
theorem JO {t:Int} (h0:0<=t) (h1:t / 2<=999):Txt.startswith (bp t) "-" = decide (t % 2=1)/\(t % 2=1->Txt.slice (bp t) (some 1) none=sN (t / 2)):=by
 have:=Pl ⟨t.toNat,by omega⟩
 rw [show (((⟨t.toNat,by omega⟩:Fin 2000):Nat):Int)=t by show ((t.toNat:Nat):Int)=t;omega] at this
 simp only [Zrf,Zrh,decide_eq_true_eq] at this
 exact ⟨this.1,fun h=>this.2.resolve_left fun z=>z h⟩
noncomputable def GB (_:ZoW):Sp:=fun vs H Q _=>∃ t:Int,vs=[.str (bp t)]/\0<=t/\t / 2<=999/\∀ H',aD H H'->Q (.int t) H'
noncomputable def Bt (K:ZoW):TS:=(aE (en (gh K (gr K "str" CB (aa 0) (af (tC (.str "-")) aj))) (bI (ah dg (ah jG (tC (.int 2)) (bH (sf K) [] E0 (af (mi (mN K) (aa 0) (jE (tC (.int 1))) rJ) aj))) (tC (.int 1)))) eh)
  (bI (ah jG (tC (.int 2)) (bH (sf K) [] E0 (af (aa 0) aj)))))
theorem OM (T:Txt K mg a):TM P w K mg base 1 "tie_of" uz Iu a.fP (Bt K) :=
 fun hr=>(aG (eY (g7 (gP Zpr PySem.F.slot_str_startswith PySem.F.type_str_startswith MX (cv 0) (ag dZ ak))) (aM (bO (ax dv (ax kJ aq (bM T.ba (uH T) (hm hr) bx (ag (sj rP (cv 0) (mH aq) yS) ak))) aq))) eU)
   (aM (bO (ax kJ aq (bM T.ba (uH T) (hm hr) bx (ag (cv 0) ak))))))
theorem QW (T:Txt K mg a):aB P w K mg base cb 2 a.fP a.g6 ["word"] (GB K):=by
 refine T.h9.n.dt Q8 (OM T) (fun vs H Q E h=>?_) (fun H vs Q E h=>?_)
 ·obtain ⟨t,rfl,_⟩:=h;rfl
 ·obtain ⟨t,rfl,h0,h1,q⟩:=h
  show Bt K _ [some (.str (bp t))] H
  unfold Bt
  have big:(20000:Nat)<=sizeLine:=by decide
  have iz:=ED h0 (by omega)
  obtain ⟨g1,g2⟩:=JO h0 h1
  walk_at "gs"
  by_cases g:t % 2=1
  ·rw [g1,decide_eq_true g,if_pos rfl]
   refine ⟨by omega,?_⟩
   rw [g2 g]
   refine ⟨t / 2,rfl,by omega,h1,fun H2 s2=>?_⟩
   refine ⟨.inl ⟨by decide,by decide⟩,?_⟩
   ·rw [show 2 * (t / 2)+1=t by omega]
    exact q _ s2
  ·rw [g1,decide_eq_false g,if_neg (fun z=>nomatch z)]
   have e:bp t=sN (t / 2):=by
    unfold bp
    rw [if_neg g,CW]
   rw [e]
   refine ⟨t / 2,rfl,by omega,h1,fun H2 s2=>?_⟩
   refine ⟨.inl ⟨by decide,by decide⟩,?_⟩
   ·rw [show 2 * (t / 2)=t by omega]
    exact q _ s2
open GM
noncomputable def gR (p:Pc):List Str:=sN p.1 :: "of" :: (p.2.1.map sN ++ [("is" : Str),bZ p.2.2 p.2.1.length])
structure Hl (p:Pc):Prop where
 k0:0<=p.1
 k1:p.1<=999
 l1:1<=p.2.1.length
 l6:p.2.1.length<=6
 cut:∀ x∈p.2.1,0<=x/\x<=999
 t0:0<=p.2.2
 t1:p.2.2<2 ^ 2 ^ p.2.1.length
theorem Rc (p:Pc):(gR p).length=p.2.1.length+4:=by unfold gR;simp
theorem Le (p:Pc):((gR p).map V.str)[0]? = some (.str (sN p.1))/\((gR p).map V.str)[1]? = some (.str "of")/\((gR p).map V.str)[p.2.1.length+4 - 2]? = some (.str "is")/\((gR p).map V.str)[p.2.1.length+4 - 1]? = some (.str (bZ p.2.2 p.2.1.length)):=by
 refine ⟨rfl,rfl,?_,?_⟩
 ·rw [ZpB]
  unfold gR
  rw [show p.2.1.length+4 - 2=p.2.1.length+1+1 by omega,Zp0,Zp0,ZpP (by rw [Zpu];exact ZqC _),Zpu,ZqM]
  rfl
 ·rw [ZpB]
  unfold gR
  rw [show p.2.1.length+4 - 1=p.2.1.length+1+1+1 by omega,Zp0,Zp0,ZpP (by rw [Zpu];omega),Zpu,show p.2.1.length+1 - p.2.1.length=1 by omega]
  rfl
theorem LZ (p:Pc):gZ ((gR p).map V.str) (some 2) (some (-2))=(p.2.1.map sN).map V.str:=by
 have e:(gR p).map V.str=[V.str (sN p.1),V.str "of"] ++ (p.2.1.map sN).map V.str ++ [V.str "is",V.str (bZ p.2.2 p.2.1.length)]:=by
  unfold gR
  rw [Zpx,Zpx,Zpy]
  rfl
 rw [e]
 exact F7 2 2 rfl rfl (by decide)
noncomputable def JJ (_:ZoW):Sp:=fun vs H Q _=>∃ (r:Addr) (p:Pc),vs=[.ref r]/\H r=some (.lst ((gR p).map V.str))/\Hl p /\
 ∀ t c H',aD H H'->H t=none->H c=none->H' t=some (.tup [.int p.1,.ref c,.int p.2.2])->H' c=some (.lst (p.2.1.map V.int))->Q (.ref t) H'
noncomputable def Ai (a:fv) (K:ZoW):TS:=(aE (bo (ah (cI fun i j=>.int (i - j)) (aX (eu K) (af (aa 0) aj)) (tC (.int 4))) (au 1))
  (aE (en (gE (cA (ah (cI fun i j=>.bl (decide (i<j))) (aa 1) (tC (.int 1)))) (gE (cA (ah (cI fun i j=>.bl (decide (j<i))) (aa 1) (tC (uL a)))) (gE (cA (ah (iq K) (ah (bE K) (aa 0) (tC (.int 1))) (tC (.str "of")))) (cA (ah (iq K) (ah (bE K) (aa 0) (jg i9 (tC (.int 2)))) (tC (.str "is"))))))) iK eh)
  (aE (bo (cO (fk K (mi (mN K) (aa 0) (jE (tC (.int 2))) (jE (jg i9 (tC (.int 2)))))) 1 [] (au 0) cJ (bH (sf K) [] E0 (af (aa 0) aj))) (au 2))
  (bI (jB (af (bH (sf K) [] E0 (af (ah (bE K) (aa 0) (tC (.int 0))) aj)) (af (aa 2) (af (bH (Jz K) [] E0 (af (ah (bE K) (aa 0) (jg i9 (tC (.int 1)))) (af (aa 1) aj))) aj))))))))
theorem Rb (T:Txt K mg a):TM P w K mg base 1 "piece_of" rF Cs a.dJ (Ai a K) :=
 fun hr=>(aG (cu (i:=1) Dx.nd rfl (by walk_at "o") (ax DK (cq eZ (by rfl) T.ay PySem.boot_len (ag (cv 0) ak)) aq))
   (aG (eY (PW.pt (hG (dN kX (cv 1) aq (cR _)) (hG (dN nE (cv 1) (sm rfl T.dc) (cR _)) (hG (dN (iW (fo hr)) (bJ bK (cv 0) aq (fun _ _=>rfl)) dZ (cR _)) (jF (dN (iW (fo hr)) (bJ bK (cv 0) (jW kq aq) (fun _ _=>rfl)) dZ (cR _))))))) (aM jC) eU)
   (aG (mw (i:=2) (N:=["word"]) (k:=1) (sel:=[]) (ao.of (aO rF).names (by decide +kernel)) (av.of Cs (by decide +kernel)) rfl (gI (sj rP (cv 0) (mH aq) (mH (jW kq aq)))) (fun _ _ _ _=>(aY (i:=0) (show ZpF (["word"]:List Str) by decide +kernel) rfl (by walk_at "o"))) (fun _ _ _ _=>fz) (fun _ _ _ _=>(bM T.ba (uH T) (hm hr) bx (ag (cv 0) ak))) Dx.nd rfl (by walk_at "o") rfl)
   (aM (bO (kP (ag (bM T.ba (uH T) (hm hr) bx (ag (bJ bK (cv 0) aq (fun _ _=>rfl)) ak)) (ag (cv 2) (ag (bM T.fI (Mu T) (hm hr) bx (ag (bJ bK (cv 0) (jW kq aq) (fun _ _=>rfl)) (ag (cv 1) ak))) ak)))))))))
theorem NF (T:Txt K mg a):aB P w K mg base cb 2 a.dJ a.fR ["row"] (JJ K):=by
 refine T.fJ.n.dt Dx (Rb T) (fun vs H Q E h=>?_) (fun H vs Q E h=>?_)
 ·obtain ⟨r,p,rfl,_⟩:=h;rfl
 ·obtain ⟨r,p,rfl,hr,ok,q⟩:=h
  have hl:=Rc p
  have k0:=ok.k0
  have k1:=ok.k1
  have l1:=ok.l1
  have l6:=ok.l6
  have big:(20000:Nat)<=sizeLine:=by decide
  show Ai a K _ [some (.ref r),none,none] H
  unfold Ai uL
  walk_at "gs"
  refine .inl ⟨_,.inl (.of hr),?_⟩
  rw [Zpu,hl]
  rw [if_neg (by omega),if_neg (by omega)]
  obtain ⟨w0,w1,w2,w3⟩:=Le p
  have wl:((gR p).map V.str).length=p.2.1.length+4:=by rw [Zpu,hl]
  refine ⟨_,_,.inl (.of hr),jh (j:=1) w1,?_⟩
  show if ¬ ("of" : Str) = "of" then False else _
  rw [if_neg (fun z=>z rfl)]
  refine ⟨_,_,.inl (.of hr),yd (j:=2) (by decide) (by omega) (by rw [wl];exact w2),?_⟩
  show if ¬ ("is" : Str) = "is" then False else _
  rw [if_neg (fun z=>z rfl)]
  refine ⟨_,.of hr,fun sp H1 n1=>?_⟩
  rw [LZ] at n1
  refine ⟨⟨_,n1.sq⟩,FR (fun v=>match v with | .str z=>.int ((intText? z).getD 0) | v=>v) n1.sq rfl (by rw [Zpu,Zpu];omega) ?_ ?_⟩
  ·intro v H' Q' hv s' q'
   obtain ⟨y,hy,rfl⟩:=ZpI.mp hv
   obtain ⟨x,hx,rfl⟩:=ZpI.mp hy
   obtain ⟨x0,x1⟩:=ok.cut x hx
   have e:V.int ((intText? (sN x)).getD 0)=V.int x:=by rw [(oO x0 x1).2.2.2];rfl
   walk_at "gs"
   exact ⟨x,rfl,x0,x1,fun H'' s''=>e ▸ q' H'' s''⟩
  intro cp H2 n2
  have e2:((p.2.1.map sN).map V.str).map (fun v=>match v with | .str z=>V.int ((intText? z).getD 0) | v=>v)=p.2.1.map V.int:=by
   rw [Zpz,Zpz]
   refine Zp6 fun x hx=>?_
   obtain ⟨x0,x1⟩:=ok.cut x hx
   show V.int ((intText? (sN x)).getD 0)=V.int x
   rw [(oO x0 x1).2.2.2];rfl
  rw [e2] at n2
  have s2:=n1.same.trans n2.same
  refine ⟨_,_,.inl (.of (s2 _ _ hr)),jh (j:=0) w0,p.1,rfl,k0,k1,fun H3 s3=>?_⟩
  refine ⟨_,_,.inl (.of ((s2.trans s3) _ _ hr)),yd (j:=1) (by decide) (by omega) (by rw [wl];exact w3),p.2.2,p.2.1.length,by rw [show ((p.2.1.length+4:Nat):Int) - 4=(p.2.1.length:Int) by omega],ok.t0,ok.t1,l6,fun H4 s4=>?_⟩
  refine ⟨by show 3<=sizeLine;decide,fun t5 H5 n5=>?_⟩
  have s5:=(s2.trans s3).trans (s4.trans n5.same)
  exact q t5 cp H5 s5 (((s2.trans s3).trans s4).nil n5.cP) (n1.same.nil n2.cP) n5.at_ (((s3.trans s4).trans n5.same) _ _ n2.at_)
noncomputable def jt (z:Str):Int:=if Txt.startswith z "-" = true then 2 * (intText? (Txt.slice z (some 1) none)).getD 0+1 else 2 * (intText? z).getD 0
theorem IY {t:Int} (h0:0<=t) (h1:t / 2<=999):jt (bp t)=t:=by
 obtain ⟨g1,g2⟩:=JO h0 h1
 have hn:=(oO (i:=t / 2) (by omega) h1).2.2.2
 unfold jt
 by_cases g:t % 2=1
 ·rw [g1,decide_eq_true g,if_pos rfl,g2 g,hn]
  show 2 * (t / 2)+1=t
  omega
 ·rw [g1,decide_eq_false g,if_neg (fun z=>nomatch z)]
  have e:bp t=sN (t / 2):=by
   unfold bp
   rw [if_neg g,CW]
  rw [e,hn]
  show 2 * (t / 2)=t
  omega
noncomputable def Gx (_:ZoW):Sp:=fun vs H Q _=>∃ (r:Addr) (ts:List Int),vs=[.ref r]/\H r=some (.lst ((("out" : Str) :: ts.map bp).map V.str))/\1<=ts.length/\ts.length<=1000/\(∀ t∈ts,0<=t/\t / 2<=999) /\
 ∀ l H',iR H l (.lst (ts.map V.int)) H'->Q (.ref l) H'
noncomputable def DS (K:ZoW):TS:=(aE (en (gE (cA (ah (cI fun i j=>.bl (decide (i<j))) (aX (eu K) (af (aa 0) aj)) (tC (.int 2)))) (cA (ah (iq K) (ah (bE K) (aa 0) (tC (.int 0))) (tC (.str "out"))))) iK eh)
  (bI (cO (fk K (mi (mN K) (aa 0) (jE (tC (.int 1))) rJ)) 1 [] (au 0) cJ (bH (GB K) [] E0 (af (aa 0) aj)))))
theorem MA (T:Txt K mg a):TM P w K mg base 2 "ties_of" rR Cm a.eM (DS K) :=
 fun hr=>(aG (eY (PW.pt (hG (dN kX (cq eZ (by rfl) T.ay PySem.boot_len (ag (cv 0) ak)) aq (cR _)) (jF (dN (iW (fo hr)) (bJ bK (cv 0) aq (fun _ _=>rfl)) dZ (cR _))))) (aM jC) eU)
   (aM (bO (ia (N:=["word"]) (k:=1) (sel:=[]) (ao.of (aO rR).names (by decide +kernel)) (av.of Cm (by decide +kernel)) rfl (gI (sj rP (cv 0) (mH aq) yS)) (fun _ _ _ _=>(aY (i:=0) (show ZpF (["word"]:List Str) by decide +kernel) rfl (by walk_at "o"))) (fun _ _ _ _=>fz) (fun _ _ _ _=>(bM T.h9 (QW T) (hm hr) bx (ag (cv 0) ak)))))))
theorem Q3 (T:Txt K mg a):aB P w K mg base cb 3 a.eM a.gx ["row"] (Gx K):=by
 refine T.gz.n.dt Rf (MA T) (fun vs H Q E h=>?_) (fun H vs Q E h=>?_)
 ·obtain ⟨r,ts,rfl,_⟩:=h;rfl
 ·obtain ⟨r,ts,rfl,hr,l1,l2,ht,q⟩:=h
  have big:(20000:Nat)<=sizeLine:=by decide
  show DS K _ [some (.ref r)] H
  unfold DS
  walk_at "gs"
  refine .inl ⟨_,.inl (.of hr),?_⟩
  rw [Zpu,ZpG,Zpu,if_neg (by omega)]
  refine ⟨_,_,.inl (.of hr),jh (j:=0) rfl,?_⟩
  show if ¬ ("out" : Str) = "out" then False else _
  rw [if_neg (fun z=>z rfl)]
  refine ⟨_,.of hr,fun sp H1 n1=>?_⟩
  have e1:gZ ((("out" : Str) :: ts.map bp).map V.str) (some 1) none=(ts.map bp).map V.str:=KA (xs:=[V.str "out"]) 1 rfl
  rw [e1] at n1
  refine ⟨⟨_,n1.sq⟩,FR (fun v=>match v with | .str z=>.int (jt z) | v=>v) n1.sq rfl (by rw [Zpu,Zpu];omega) ?_ ?_⟩
  ·intro v H' Q' hv s' q'
   obtain ⟨y,hy,rfl⟩:=ZpI.mp hv
   obtain ⟨x,hx,rfl⟩:=ZpI.mp hy
   obtain ⟨x0,x1⟩:=ht x hx
   have e:V.int (jt (bp x))=V.int x:=by rw [IY x0 x1]
   walk_at "gs"
   exact ⟨x,rfl,x0,x1,fun H'' s''=>e ▸ q' H'' s''⟩
  intro cp H2 n2
  have e2:((ts.map bp).map V.str).map (fun v=>match v with | .str z=>V.int (jt z) | v=>v)=ts.map V.int:=by
   rw [Zpz,Zpz]
   refine Zp6 fun x hx=>?_
   obtain ⟨x0,x1⟩:=ht x hx
   show V.int (jt (bp x))=V.int x
   rw [IY x0 x1]
  rw [e2] at n2
  exact q cp H2 (n2.pre n1.same)
open GM
theorem wm:(" " : Str)=⟨#[32]⟩:=by decide +kernel
noncomputable def jA (m:Nat) (ps:List Pc) (ae:List Int):List (List Str):=["board",sN m] :: (ps.map gR ++ [("out" : Str) :: ae.map bp])
theorem HW (m:Nat) (ps:List Pc) (ae:List Int):m5 m ps ae=(jA m ps ae).map jn:=by
 unfold m5 jA
 rw [Zpx,Zpy,Zpz]
 rfl
noncomputable def kT (w:Str):Prop:=32 ∉ w.cps.toList
theorem zr {i:Int} (h0:0<=i) (h1:i<=999):kT (sN i):=fun h=>by
 have:=(oO h0 h1).2.1 32 h
 omega
theorem KI (t:Int) (n:Nat):kT (bZ t n):=fun h=>by
 rw [xm] at h
 obtain ⟨k,_,e⟩:=ZpI.mp h
 omega
theorem LU {t:Int} (h0:0<=t) (h1:t / 2<=999):kT (bp t):=fun h=>by
 unfold bp at h
 rw [lZ] at h
 rcases ZpM.mp h with z | z
 ·have e1:("-" : Str).cps.toList=[45]:=by decide +kernel
  have e2:("" : Str).cps.toList=[]:=by decide +kernel
  split at z
  ·rw [e1] at z;simp at z
  ·rw [e2] at z;simp at z
 ·exact zr (by omega) h1 z
theorem QF:kT "board" /\ kT "of" /\ kT "is" /\ kT "out":=by
 refine ⟨?_,?_,?_,?_⟩ <;> (unfold kT;decide +kernel)
theorem WP.ok {m:Nat}{ps:List Pc} (w:WP m ps) (bA:m<=10) {i:Nat}{p:Pc} (hp:ps[i]? = some p):Hl p:=by
 have h:=w i p hp
 have k:=w.kb hp
 have n:=zm w bA hp
 refine ⟨by omega,by omega,h.l1,h.l6,fun x hx=>?_,h.t0,by have:=h.t1;exact_mod_cast this⟩
 have:=n x hx
 omega
theorem QN {m:Nat}{ps:List Pc}{ae:List Int} (wp:WP m ps) (wt:WT m ps ae) (bA:m<=10):∀ ws∈jA m ps ae,ws≠[]/\(∀ w∈ws,kT w)/\(jn ws).length+2<=sizeLine:=by
 have big:(20000:Nat)<=sizeLine:=by decide
 obtain ⟨f1,f2,f3,f4⟩:=QF
 intro ws hw
 unfold jA at hw
 rcases ZpC.mp hw with rfl | hw
 ·refine ⟨(fun z=>nomatch z),fun w hw=>?_,?_⟩
  ·rcases ZpC.mp hw with rfl | hw
   ·exact f1
   ·rw [ZpH] at hw
    subst hw
    exact zr (by omega) (by omega)
  ·unfold jn
   rw [j8]
   have hb:Str.length "board" = 5:=by decide +kernel
   have hm:=jO (i:=(m:Int)) (by omega) (by omega)
   have:=rX (k:=4) [sN m] "board" (fun y hy=>by rw [ZpH] at hy;subst hy;exact hm)
   simp only [ZpG,ZpW] at this
   omega
 rcases ZpM.mp hw with hw | hw
 ·obtain ⟨p,hp,rfl⟩:=ZpI.mp hw
  obtain ⟨i,hi⟩:=Zqy.mp hp
  have ok:=wp.ok bA hi
  have lw:=Ec wp bA hi
  refine ⟨(fun z=>nomatch z),fun w hw=>?_,?_⟩
  ·unfold gR at hw
   rcases ZpC.mp hw with rfl | hw
   ·exact zr ok.k0 ok.k1
   rcases ZpC.mp hw with rfl | hw
   ·exact f2
   rcases ZpM.mp hw with hw | hw
   ·obtain ⟨x,hx,rfl⟩:=ZpI.mp hw
    exact zr (ok.cut x hx).1 (ok.cut x hx).2
   rcases ZpC.mp hw with rfl | hw
   ·exact f3
   ·rw [ZpH] at hw
    subst hw
    exact KI _ _
  ·unfold jn gR
   rw [j8]
   have h1:=lw.1 (sN p.1) (ZpK ..)
   have h2:=rX (k:=256) _ (sN p.1) (fun y hy=>lw.1 y (ZpL _ hy))
   have h3:=lw.2
   rw [ZpG] at h3
   omega
 ·rw [ZpH] at hw
  subst hw
  have ow:=Ci wt wp bA
  have Fd:=wt.lh
  refine ⟨(fun z=>nomatch z),fun w hw=>?_,?_⟩
  ·rcases ZpC.mp hw with rfl | hw
   ·exact f4
   ·obtain ⟨t,ht,rfl⟩:=ZpI.mp hw
    have:=wt.half wp bA ht
    exact LU this.1 this.2
  ·unfold jn
   rw [j8]
   have hb:Str.length "out" = 3:=by decide +kernel
   have h2:=rX (k:=5) (ae.map bp) "out" ow.1
   rw [Zpu] at h2
   omega
noncomputable def Fc (a:fv) (_:ZoW):Sp:=fun vs H Q _=>∃ (l:Addr) (m:Nat) (ps:List Pc) (ae:List Int),vs=[.ref l]/\H l=some (.lst ((m5 m ps ae).map V.str))/\WP m ps/\WT m ps ae/\1<=m/\m<=10/\ps.length<=1000 /\
 ∀ x H',aD H H'->i0 a.ab H' x m ps ae->Q (.ref x) H'
noncomputable def Dn (a:fv) (K:ZoW):TS:=(aE (en (cA (ah (cI fun i j=>.bl (decide (i<j))) (aX (eu K) (af (aa 0) aj)) (tC (.int 2)))) iK eh)
  (aE (bo (cO (fk K (aa 0)) 1 [] (au 0) cJ (gr K "str" Bf (aa 0) (af (tC (.str " ")) aj))) (au 1))
  (aE (bo (bH (FN K) [] E0 (af (ah (bE K) (aa 1) (tC (.int 0))) aj)) (au 2))
  (aE (bo (cO (fk K (mi (mN K) (aa 1) (jE (tC (.int 1))) (jE (jg i9 (tC (.int 1)))))) 1 [] (au 0) cJ (bH (JJ K) [] E0 (af (aa 0) aj))) (au 3))
  (bI (AY a.ab (DC a K) [] E0 (af (aa 2) (af (aa 3) (af (bH (Gx K) [] E0 (af (ah (bE K) (aa 1) (jg i9 (tC (.int 1)))) aj)) aj)))))))))
theorem Kt (T:Txt K mg a):TM P w K mg base 5 "board_of" nV zU a.dO (Dn a K) :=
 fun hr=>(aG (eY (dN kX (cq eZ (by rfl) T.ay PySem.boot_len (ag (cv 0) ak)) aq (cR _)) (aM jC) eU)
   (aG (mw (i:=1) (N:=["line"]) (k:=1) (sel:=[]) (ao.of (aO nV).names (by decide +kernel)) (av.of zU (by decide +kernel)) rfl (gI (cv 0)) (fun _ _ _ _=>(aY (i:=0) (show ZpF (["line"]:List Str) by decide +kernel) rfl (by walk_at "o"))) (fun _ _ _ _=>fz) (fun _ _ _ _=>(gP Zpr PySem.F.slot_str_split PySem.F.type_str_split LP (cv 0) (ag dZ ak))) yN.nd rfl (by walk_at "o") rfl)
   (aG (cu (i:=2) yN.nd rfl (by walk_at "o") (bM T.gA (NB T) (hm hr) bx (ag (bJ bK (cv 1) aq (fun _ _=>rfl)) ak)))
   (aG (mw (i:=3) (N:=["row"]) (k:=1) (sel:=[]) (ao.of (aO nV).names (by decide +kernel)) (av.of zU (by decide +kernel)) rfl (gI (sj rP (cv 1) (mH aq) (mH (jW kq aq)))) (fun _ _ _ _=>(aY (i:=0) (show ZpF (["row"]:List Str) by decide +kernel) rfl (by walk_at "o"))) (fun _ _ _ _=>fz) (fun _ _ _ _=>(bM T.fJ (NF T) (hm hr) bx (ag (cv 0) ak))) yN.nd rfl (by walk_at "o") rfl)
   (aM (bO (PR T.mk_Board (Pn T) (hm hr) rfl T.hV T.cf.b .nil bx (ag (cv 2) (ag (cv 3) (ag (bM T.gz (Q3 T) (hm hr) bx (ag (bJ bK (cv 1) (jW kq aq) (fun _ _=>rfl)) ak)) ak))))))))))
theorem Ou (T:Txt K mg a):aB P w K mg base cb 6 a.dO a.fE ["lines"] (Fc a K):=by
 refine T.fO.n.dt yN (Kt T) (fun vs H Q E h=>?_) (fun H vs Q E h=>?_)
 ·obtain ⟨l,m,ps,ae,rfl,_⟩:=h;rfl
 ·obtain ⟨l,m,ps,ae,rfl,hl,wp,wt,m1,bA,hz,q⟩:=h
  show Dn a K _ [some (.ref l),none,none,none] H
  unfold Dn
  have big:(20000:Nat)<=sizeLine:=by decide
  have OR:(jA m ps ae).length=ps.length+2:=by unfold jA;simp
  have vZ:((m5 m ps ae).map V.str).length=ps.length+2:=by rw [Zpu,HW,Zpu,OR]
  walk_at "gs"
  refine .inl ⟨_,.inl (.of hl),?_⟩
  rw [vZ,if_neg (by omega)]
  refine ⟨⟨_,.of hl⟩,Gg (fun i u p H'=>∃ r ws,u=.ref r/\r≠p/\(jA m ps ae)[i]? = some ws/\H' r=some (.lst (ws.map V.str))) ?_ (.of hl) rfl (by omega) ?_ ?_⟩
  ·rintro i u p H1 H2 ⟨r,ws,rfl,hn,hw,hr⟩ kp
   exact ⟨r,ws,rfl,hn,hw,kp _ _ hn hr⟩
  ·intro i v p H' Q' hv s' hp ⟨us,hus⟩ q'
   rw [HW,Zpz,ZpB] at hv
   obtain ⟨ws,hw,rfl⟩:∃ ws,(jA m ps ae)[i]? = some ws/\v=.str (jn ws):=by
    cases e:(jA m ps ae)[i]? with
    | none=>rw [e] at hv;cases hv
    | some ws=>rw [e] at hv;exact ⟨ws,rfl,(Option.some.inj hv).symm⟩
   obtain ⟨g1,g2,g3⟩:=QN wp wt bA ws (Zp5 hw)
   walk_at "gs"
   intro r H2 n2
   have e:Txt.split (jn ws) " " = ws:=by unfold jn;rw [wm];exact Q4 32 g1 g2
   rw [e] at n2
   exact q' _ _ n2.same ⟨r,ws,rfl,(fun z=>by rw [<- z,n2.cP] at hus;cases hus),hw,n2.at_⟩
  intro rp us H1 hrp h1 fN s1 hd
  rw [vZ] at fN
  obtain ⟨rs,hrn,hrs⟩:=Af (P:=fun i r=>us[i]? = some (V.ref r)/\∃ ws,(jA m ps ae)[i]? = some ws/\H1 r=some (.lst (ws.map V.str))) (ps.length+2) fun i hi=>by
   have hu:us[i]? = some us[i]:=Zpw (by omega)
   obtain ⟨r,ws,e,_,hw,hr⟩:=hd i _ hu
   exact ⟨r,by rw [hu,e],ws,hw,hr⟩
  have De:us=rs.map V.ref:=by
   refine List.ext_getElem? fun i=>?_
   rw [ZpB]
   by_cases hi:i<ps.length+2
   ·have hr:rs[i]? = some rs[i]:=Zpw (by omega)
    rw [hr,(hrs i _ hr).1];rfl
   ·rw [ZpS (by omega),ZpS (by omega)];rfl
  subst De
  obtain ⟨r0,mid,rl,rfl,hml⟩:=Rg hrn
  have c0:H1 r0=some (.lst ((["board",sN m]:List Str).map V.str)):=by
   obtain ⟨_,ws,hw,hr⟩:=hrs 0 r0 rfl
   have e:([("board" : Str),sN m]:List Str)=ws:=Option.some.inj hw
   rw [hr,<- e]
  have cl:H1 rl=some (.lst ((("out" : Str) :: ae.map bp).map V.str)):=by
   obtain ⟨_,ws,hw,hr⟩:=hrs (ps.length+1) rl (by rw [Zp0,ZpP (by omega),hml,ZqM];rfl)
   unfold jA at hw
   rw [Zp0,ZpP (by rw [Zpu];exact ZqC _),Zpu,ZqM] at hw
   have e:("out" : Str) :: ae.map bp=ws:=Option.some.inj hw
   rw [hr,<- e]
  have cm:∀ (j:Nat) r p,mid[j]? = some r->ps[j]? = some p->H1 r=some (.lst ((gR p).map V.str)):=by
   intro j r p hj hp
   have za:=(ZpA.mp hj).1
   obtain ⟨_,ws,hw,hr⟩:=hrs (j+1) r (by rw [Zp0,ZpQ za];exact hj)
   unfold jA at hw
   rw [Zp0,ZpQ (by rw [Zpu];omega),ZpB,hp] at hw
   have e:gR p=ws:=Option.some.inj hw
   rw [hr,<- e]
  clear hrs hd
  have HY:(r0 :: (mid ++ [rl])).map V.ref=[V.ref r0] ++ mid.map V.ref ++ [V.ref rl]:=by
   rw [Zpx,Zpy];rfl
  have MS:((r0 :: (mid ++ [rl])).map V.ref).length=ps.length+2:=fN
  refine ⟨_,_,.inl (.of h1),jh (j:=0) rfl,r0,m,rfl,c0,by omega,by omega,fun H2 s2=>?_⟩
  refine ⟨_,.of (s2 _ _ h1),fun sp H3 n3=>?_⟩
  have CU:gZ ((r0 :: (mid ++ [rl])).map V.ref) (some 1) (some (-1))=mid.map V.ref:=by
   rw [HY]
   exact F7 1 1 rfl rfl (by decide)
  rw [CU] at n3
  have lG:=s2.trans n3.same
  refine ⟨⟨_,n3.sq⟩,Gg (fun i u p H'=>∃ t c q,u=.ref t/\t≠p/\c≠p/\ps[i]? = some q/\H' t=some (.tup [.int q.1,.ref c,.int q.2.2])/\H' c=some (.lst (q.2.1.map V.int))) ?_ n3.sq rfl (by rw [Zpu];omega) ?_ ?_⟩
  ·rintro i u p H1 H2 ⟨t,c,q,rfl,hn,qX,hw,hr,hr2⟩ kp
   exact ⟨t,c,q,rfl,hn,qX,hw,kp _ _ hn hr,kp _ _ qX hr2⟩
  ·intro i v p H' Q' hv s' hp ⟨us,hus⟩ q'
   rw [ZpB] at hv
   obtain ⟨r,hr,rfl⟩:∃ r,mid[i]? = some r/\v=.ref r:=by
    cases e:mid[i]? with
    | none=>rw [e] at hv;cases hv
    | some r=>rw [e] at hv;exact ⟨r,rfl,(Option.some.inj hv).symm⟩
   have HB:=(ZpA.mp hr).1
   have BJ:ps[i]? = some ps[i]:=Zpw (by omega)
   walk_at "gs"
   refine ⟨r,ps[i],rfl,(lG.trans s') _ _ (cm i r _ hr BJ),wp.ok bA BJ,fun t c H'' s'' ht hc a1 a2=>q' _ _ s'' ⟨t,c,ps[i],rfl,fun z=>?_,fun z=>?_,BJ,a1,a2⟩⟩
   ·subst z;rw [ht] at hus;cases hus
   ·subst z;rw [hc] at hus;cases hus
  intro pp us H4 hpp h4 hul4 s4 hd4
  rw [Zpu] at hul4
  obtain ⟨ts,lF,tD⟩:=Af (P:=fun i (t:Addr × Addr)=>us[i]? = some (V.ref t.1)/\∃ q,ps[i]? = some q/\H4 t.1=some (.tup [.int q.1,.ref t.2,.int q.2.2])/\H4 t.2=some (.lst (q.2.1.map V.int))) ps.length fun i hi=>by
   have hu:us[i]? = some us[i]:=Zpw (by omega)
   obtain ⟨t,c,q,e,_,_,hw,hr,hr2⟩:=hd4 i _ hu
   exact ⟨(t,c),by rw [hu,e],q,hw,hr,hr2⟩
  have De:us=ts.map fun t=>V.ref t.1:=by
   refine List.ext_getElem? fun i=>?_
   rw [ZpB]
   by_cases hi:i<ps.length
   ·have hr:ts[i]? = some ts[i]:=Zpw (by omega)
    rw [hr,(tD i _ hr).1];rfl
   ·rw [ZpS (by omega),ZpS (by omega)];rfl
  subst De
  have hP:eJ H4 pp ts ps:=⟨h4,lF,fun i t p ht hp=>by
   obtain ⟨_,q,hq,a1,a2⟩:=tD i t ht
   rw [hp] at hq
   cases hq
   exact ⟨a1,a2⟩⟩
  have oA:=lG.trans s4
  refine ⟨_,_,.inl (.of (oA _ _ h1)),yd (j:=1) (by decide) (by omega) (by rw [MS,HY,ZpP (by simp;omega)];simp [hml]),rl,ae,rfl,oA _ _ cl,wt.l1,by have:=wt.lh;omega,fun t ht=>wt.half wp bA ht,fun tl H5 n5=>?_⟩
  exact mk_Board (hP.same n5.same) n5.at_ wp wt m1 bA hz fun x H6 s6 hB=>q x H6 (((s1.trans oA).trans n5.same).trans s6) hB
open GM
noncomputable def so (K:ZoW):Sp:=fun vs H Q _=>∃ (p:Addr) (ns:List Int) (k:Nat),vs=[.ref p,.int k]/\aI K H p (ns.map V.int)/\∀ c,0<=c->Q (.int c) H
noncomputable def BD (K:ZoW):TS:=(aE (en (cA (ah (cI fun i j=>.bl (decide (i<j))) (aa 1) (aX (eu K) (af (aa 0) aj)))) (bI (ah (bc (fun _ j=>0<j) fun i j=>.int (i % j)) (ah (bE K) (aa 0) (aa 1)) (ah (bc gU fun i j=>.int (i ^ j.toNat)) (tC (.int 10)) (tC (.int 60))))) eh)
  (bI (tC (.int 0))))
theorem K8 (T:Txt K mg a):TM P w K mg base 0 "_law_cell_at" wR Ig a.bW (BD K) :=
 fun hr=>(aG (eY (dN kX (cv 1) (cq eZ (by rfl) T.ay PySem.boot_len (ag (cv 0) ak)) (cR _)) (aM (bO (ax ic (bJ bK (cv 0) (cv 1) (fun _ _=>rfl)) (ax tw aq aq)))) eU)
   (aM (bO aq)))
theorem tf (T:Txt K mg a):aB P w K mg base cb 1 a.bW a.dB ["_law_script","_law_k"] (so K):=by
 refine T.aN.n.dt KO (K8 T) (fun vs H Q E h=>?_) (fun H vs Q E h=>?_)
 ·obtain ⟨p,ns,k,rfl,_⟩:=h;rfl
 ·obtain ⟨p,ns,k,rfl,hS,q⟩:=h
  show BD K _ [some (.ref p),some (.int k)] H
  unfold BD
  have Rv:(0:Int)<10 ^ (60:Int).toNat:=Int.pow_pos (by decide)
  walk_at "gs"
  refine .inl ⟨_,.inl hS,?_⟩
  rw [Zpu]
  by_cases h:(k:Int)<ns.length
  ·rw [if_pos h]
   refine Lw hS (by omega) h ?_
   walk_at "gs"
   exact q _ (Zq5 _ (by omega))
  ·rw [if_neg h]
   walk_at "gs"
   exact q 0 (by omega)
theorem NY {ks:List Int}{i:Int} (h0:0<=i) (h1:i<ks.length):∃ g,g∈ks/\dk (ks.map V.int) i=some (.int g):=by
 have hl:i.toNat<ks.length:=by omega
 refine ⟨ks[i.toNat],ZpX _,?_⟩
 rw [z7 .non h0 (by rw [Zpu];exact h1)]
 simp [ZpE,hl]
theorem QI {ks:List Int} (h:1<=ks.length):∃ g,g∈ks/\dk (ks.map V.int) (-1)=some (.int g):=by
 refine ⟨ks[ks.length - 1]'(by omega),ZpX _,yd (j:=1) (by decide) (by rw [Zpu];exact h) ?_⟩
 rw [Zpu,ZpB,Zpw (by omega)]
 rfl
noncomputable def i7 (ns:List Int):List (Key × V):=ns.map fun n=>((Sum.inl n:Key),V.bl true)
theorem Fb (ns:List Int) (y:Int):d6 (i7 ns) (Sum.inl y) (.bl true)=i7 (if y∈ns then ns else ns ++ [y]):=by
 unfold d6
 have e:((i7 ns).any fun kv=>decide (kv.1=(Sum.inl y:Key)))=decide (y∈ns):=by
  unfold i7
  rw [List.any_map,Zrg,List.any_eq_true,decide_eq_true_eq]
  constructor
  ·rintro ⟨x,hx,h⟩
   have:x=y:=Sum.inl.inj (of_decide_eq_true h)
   exact this ▸ hx
  ·intro h
   exact ⟨y,h,decide_eq_true rfl⟩
 rw [e]
 by_cases h:y∈ns
 ·rw [decide_eq_true h,if_pos rfl,if_pos h]
  unfold i7
  rw [Zpz]
  refine Zp6 fun x _=>?_
  show (if (Sum.inl x:Key)=Sum.inl y then ((Sum.inl x:Key),V.bl true) else (Sum.inl x,V.bl true))=_
  split <;> rfl
 ·rw [decide_eq_false h,if_neg (fun z=>nomatch z),if_neg h]
  unfold i7
  rw [Zpy]
  rfl
structure iN (ks ns:List Int) (i:Nat):Prop where
 nd:ns.Nodup
 len:ns.length<=i
 one:0<i->1<=ns.length
 mem:∀ y∈ns,y∈ks
theorem iN.put {ks ns:List Int}{i:Nat} (h:iN ks ns i) {y:Int} (hy:y∈ks):iN ks (if y∈ns then ns else ns ++ [y]) (i+1):=by
 by_cases g:y∈ns
 ·rw [if_pos g]
  exact ⟨h.nd,by have:=h.len;omega,fun _=>List.length_pos_of_mem g,h.mem⟩
 ·rw [if_neg g]
  refine ⟨?_,by rw [ZpD];have:=h.len;simp;omega,fun _=>by rw [ZpD];simp,fun z hz=>?_⟩
  ·rw [List.nodup_append]
   refine ⟨h.nd,by simp,fun a ha b hb e=>?_⟩
   rw [ZpH] at hb
   subst hb
   subst e
   exact g ha
  ·rcases ZpM.mp hz with z1 | z1
   ·exact h.mem z z1
   ·rw [ZpH] at z1
    exact z1 ▸ hy
noncomputable def Gk (_:ZoW):Sp:=fun vs H Q _=>∃ (c:Int) (kp:Addr) (ks:List Int),vs=[.int c,.ref kp]/\H kp=some (.lst (ks.map V.int))/\1<=ks.length/\ks.length<=1000 /\
 ∀ q H' (ys:List Int),iR H q (.lst (ys.map V.int)) H'->ys.Pairwise (· < ·)->1<=ys.length->ys.length<=6->(∀ y∈ys,y∈ks)->Q (.ref q) H'
noncomputable def Eb (K:ZoW):TS:=(aE (bo zL (au 2))
  (aE (ed (hX (af (ah dg (tC (.int 1)) (ah (bc (fun _ j=>0<j) fun i j=>.int (i % j)) (aa 0) (tC (.int 6)))) aj)) (au 3) (aE (bo (ah dg (ah (bc ib fun i j=>.int (i / j)) (ah (bc ib fun i j=>.int (i / j)) (aa 0) (tC (.int 6))) (ah dg (ah jG (aa 3) (aa 3)) (tC (.int 1)))) (aa 3)) (au 4))
  (aE (mI (aa 2) (ah (bE K) (aa 1) (ah (bc (fun _ j=>0<j) fun i j=>.int (i % j)) (aa 4) (aX (eu K) (af (aa 1) aj)))) (tC (.bl true)))
  (en (cA (ah (jH K) (ah (bc (fun _ j=>0<j) fun i j=>.int (i % j)) (aa 4) (tC (.int 5))) (tC (.int 2)))) (mI (aa 2) (ah (bE K) (aa 1) (jg i9 (tC (.int 1)))) (tC (.bl true))) eh))))
  (bI (mi (mN K) (aX (D5 K) (af (aa 2) aj)) rJ (jE (tC (.int 6)))))))
theorem QD (T:Txt K mg a):TM P w K mg base 0 "_law_cut" xb GR a.eA (Eb K) :=
 fun hr=>(aG (cu (i:=2) zk.nd rfl (by walk_at "o") KJ)
   (aG (gQ PassesOwn.never rfl (jJ rfl T.aC (ag (ax dv aq (ax ic (cv 0) aq)) ak)) (aY (i:=3) zk.nd rfl (by walk_at "o")) (aG (cu (i:=4) zk.nd rfl (by walk_at "o") (ax dv (ax iS (ax iS (cv 0) aq) (ax dv (ax kJ (cv 3) (cv 3)) aq)) (cv 3)))
   (aG (rO (js hr) (cv 2) (bJ bK (cv 1) (ax ic (cv 4) (cq eZ (by rfl) T.ay PySem.boot_len (ag (cv 1) ak))) (fun _ _=>rfl)) ip rfl)
   (aM (eY (dN (ku (fo hr)) (ax ic (cv 4) aq) aq (cR _)) (aM (rO (js hr) (cv 2) (bJ bK (cv 1) (jW kq aq) (fun _ _=>rfl)) ip rfl)) eU)))))
   (aM (bO (sj rP (cq (K9 rfl) (by rfl) T.ji PyProof.Rows.boot_sorted (ag (cv 2) ak)) yS (mH aq))))))
theorem Mx (T:Txt K mg a):aB P w K mg base cb 1 a.eA a.gu ["_law_cell","_law_known"] (Gk K):=by
 refine T.gw.n.dt zk (QD T) (fun vs H Q E h=>?_) (fun H vs Q E h=>?_)
 ·obtain ⟨c,kp,ks,rfl,_⟩:=h;rfl
 ·obtain ⟨c,kp,ks,rfl,hK,k1,k2,q⟩:=h
  show Eb K _ [some (.int c),some (.ref kp),none,none,none] H
  unfold Eb
  have big:(20000:Nat)<=sizeLine:=by decide
  walk_at "gs"
  intro cp H1 n1
  walk_at "gs"
  obtain ⟨N,hN,hN6⟩:∃ N:Nat,(1+c % 6).toNat=N+1/\N<=5:=⟨(c % 6).toNat,by omega,by omega⟩
  rw [hN]
  refine km (fun i σ H2=>aD H H2/\∃ (ns:List Int) (v3 v4:Option V),H2 cp=some (.dK (i7 ns))/\iN ks ns (2 * i)/\σ=[some (.int c),some (.ref kp),some (.ref cp),v3,v4]) ⟨n1.same,[],_,_,n1.at_,⟨List.nodup_nil,by simp,fun z=>absurd z (by omega),fun y hy=>by simp at hy⟩,rfl⟩ ?_ ?_
  ·rintro i σ H2 hi ⟨s2,ns,v3,v4,h2,ci,rfl⟩
   have E6:=s2 _ _ hK
   have GC:=ci.len
   have hj:(0:Int)+(i:Int)=(i:Int):=by omega
   have ii:(0:Int)<=(i:Int) * (i:Int):=by rw [<- Zq6];omega
   have Ru:(i:Int) * (i:Int)<=25:=by
    have:i * i<=5 * 5:=Nat.mul_le_mul (by omega) (by omega)
    rw [<- Zq6];omega
   rw [hj]
   have iV:H cp=none:=n1.cP
   have Rj:kp≠cp:=cH hK iV
   walk_at "gs"
   refine .inl ⟨_,.inl (.of E6),by rw [Zpu];omega,?_⟩
   rw [Zpu]
   generalize c / 6 / ((i:Int) * (i:Int)+1)+(i:Int)=one
   have z1:=Zq5 one (show (ks.length:Int)≠0 by omega)
   have z2:=Zq7 one (show 0<(ks.length:Int) by omega)
   obtain ⟨g1,xc,ha1⟩:=NY (ks:=ks) z1 z2
   have c1:=ci.put xc
   refine ⟨_,_,.inl (.of E6),ha1,cp,_,rfl,.k (k:=.inl g1) h2 (by unfold i7;rw [Zpu];omega),by decide,?_⟩
   rw [Fb]
   generalize (if g1∈ns then ns else ns ++ [g1])=ns1 at c1
   have h4:upd H2 cp (.dK (i7 ns1)) cp=some (.dK (i7 ns1)):=bh
   have s4:aD H (upd H2 cp (.dK (i7 ns1))):=s2.put iV
   generalize upd H2 cp (.dK (i7 ns1))=H4 at h4 s4 ⊢
   by_cases g:one % 5=2
   ·rw [if_pos g]
    obtain ⟨g2,wQ,ha2⟩:=QI (ks:=ks) (by omega)
    have c2:=c1.put wQ
    refine ⟨_,_,.inl (.of (s4 _ _ hK)),ha2,cp,_,rfl,.k (k:=.inl g2) h4 (by unfold i7;rw [Zpu];have:=c1.len;omega),?_⟩
    rw [Fb]
    exact ⟨s4.put iV,_,_,_,bh,c2,rfl⟩
   ·rw [if_neg g]
    exact ⟨s4,ns1,_,_,h4,⟨c1.nd,by have:=c1.len;omega,fun _=>c1.one (by omega),c1.mem⟩,rfl⟩
  ·rintro σ H2 ⟨s2,ns,v3,v4,h2,ci,rfl⟩
   have GC:=ci.len
   have sQ:=ci.one (by omega)
   walk_at "gs"
   refine ⟨_,ns,.of h2,by unfold i7;rw [Zpz];rfl,by omega,fun fZ l5 H5 nD ho5 n5=>?_⟩
   refine ⟨_,n5.sq,fun l6 H6 n6=>?_⟩
   have AZ:gZ (fZ.map V.int) none (some 6)=(fZ.take 6).map V.int:=by
    unfold gZ
    rw [HT.FW,List.drop_zero,Nat.sub_zero,List.map_take]
    have e:HT.fX (fZ.map V.int).length (fZ.map V.int).length (some 6)=min 6 (fZ.map V.int).length:=HT.zd _ _ 6
    rw [e,List.take_eq_take_iff]
    omega
   rw [AZ] at n6
   have Ab:=nD.length_eq
   have Ol:fZ.Pairwise (· < ·):=by
    have Ms:fZ.Nodup:=nD.nodup_iff.mpr ci.nd
    exact (List.pairwise_and_iff.mpr ⟨ho5,Ms⟩).imp fun h=>by have:=h.1;have:=h.2;omega
   refine q l6 H6 (fZ.take 6) (n6.KG.pre (s2.trans n5.same)) (Ol.sublist (List.take_sublist _ _)) ?_ ?_ fun y hy=>ci.mem y (nD.mem_iff.mp (List.mem_of_mem_take hy))
   ·rw [ZpT];omega
   ·rw [ZpT];omega
open GM
theorem wK (c e:Nat):((c / 2 ^ e % 2:Nat))=(c.testBit e).toNat:=by
 rw [EE]
 rcases ZqZ (c / 2 ^ e) with h | h <;> rw [h] <;> rfl
structure gF (H:Hp) (l:Addr) (ts:List (Addr × Addr)) (ps:List Pc):Prop where
 lst:H l=some (.lst (ts.map fun t=>V.ref t.1))
 len:ts.length=ps.length
 at_:∀ (i:Nat) t p,ts[i]? = some t->ps[i]? = some p->H t.1=some (.tup [.int p.1,.ref t.2,.str (bZ p.2.2 p.2.1.length)])/\H t.2=some (.lst (p.2.1.map V.int))
theorem gF.same {H H':Hp}{l:Addr}{ts:List (Addr × Addr)}{ps:List Pc} (h:gF H l ts ps) (s:aD H H'):gF H' l ts ps :=
 ⟨s _ _ h.lst,h.len,fun i t p ht hp=>⟨s _ _ (h.at_ i t p ht hp).1,s _ _ (h.at_ i t p ht hp).2⟩⟩
theorem gF.get {H:Hp}{l:Addr}{ts:List (Addr × Addr)}{ps:List Pc} (h:gF H l ts ps) {i:Nat} (hi:i<ts.length):∃ p,ps[i]? = some p/\H (ts[i]).1=some (.tup [.int p.1,.ref (ts[i]).2,.str (bZ p.2.2 p.2.1.length)])/\H (ts[i]).2=some (.lst (p.2.1.map V.int)):=by
 have hp:ps[i]? = some (ps[i]'(by rw [<- h.len];exact hi)):=Zpw _
 exact ⟨_,hp,h.at_ i _ _ (Zpw hi) hp⟩
theorem QJ {b:Int} (h0:0<=b) (h1:b<=1):∃ c,dk (("01" : Str).cps.toList) b=some c/\(⟨#[c]⟩:Str)=sN b:=by
 have h:b=0\/b=1:=by omega
 rcases h with rfl | rfl
 ·exact ⟨48,by decide +kernel,by decide +kernel⟩
 ·exact ⟨49,by decide +kernel,by decide +kernel⟩
noncomputable def m4 (t:Int) (i:Nat):Str:=(ij t i).foldl (fun (a y:Str)=>a ++ y) ("" : Str)
theorem PZ (t:Int) (i:Nat):m4 t (i+1)=m4 t i ++ sN (fS t i):=by
 unfold m4 ij
 rw [Zp2,Zpy,Zqf]
 rfl
theorem MN (t:Int) (i:Nat):(m4 t i).length<=4 * i:=by
 have:=Bb (ij t i) "" (Cd t i)
 rw [Cv] at this
 have h3:Str.length "" = 0:=by decide +kernel
 unfold m4
 omega
theorem Pk (c:Nat) (n:Nat):m4 (c:Int) (2 ^ n)=bZ ((c % 2 ^ 2 ^ n:Nat):Int) n:=by
 unfold m4 bZ
 rw [Bz]
 congr 1
 unfold ij
 refine Zp6 fun k hk=>?_
 have hk':=ZpU.mp hk
 unfold fS
 rw [Zq1,Zq1]
 have e:c % 2 ^ 2 ^ n / 2 ^ k % 2=c / 2 ^ k % 2:=by
  rw [wK,wK,Nat.testBit_mod_two_pow,decide_eq_true hk',Zri]
 rw [e]
noncomputable def GL (_:ZoW):Sp:=fun vs H Q _=>∃ (c k:Int) (kp:Addr) (ks:List Int),vs=[.int c,.int k,.ref kp]/\0<=c/\H kp=some (.lst (ks.map V.int))/\1<=ks.length/\ks.length<=1000 /\
 ∀ t cl H' (p:Pc),aD H H'->H t=none->H cl=none->p.1=k->p.2.1.Pairwise (· < ·)->1<=p.2.1.length->p.2.1.length<=6->(∀ y∈p.2.1,y∈ks)->0<=p.2.2->p.2.2<((2 ^ 2 ^ p.2.1.length:Nat):Int) ->
  H' t=some (.tup [.int p.1,.ref cl,.str (bZ p.2.2 p.2.1.length)])->H' cl=some (.lst (p.2.1.map V.int))->Q (.ref t) H'
noncomputable def Ae (K:ZoW):TS:=(aE (bo (bH (Gk K) [] E0 (af (aa 0) (af (aa 2) aj))) (au 3))
  (aE (bo (tC (.str "")) (au 4))
  (aE (ed (hX (af (ah (bc gU fun i j=>.int (i * 2 ^ j.toNat)) (tC (.int 1)) (aX (eu K) (af (aa 3) aj))) aj)) (au 5) (bo (ah dg (aa 4) (ah (bE K) (tC (.str "01")) (ah (bc (fun _ j=>0<j) fun i j=>.int (i % j)) (ah (bc (fun _ j=>0<=j) fun i j=>.int (i / 2 ^ j.toNat)) (ah (bc ib fun i j=>.int (i / j)) (aa 0) (tC (.int 36))) (aa 5)) (tC (.int 2))))) (au 4)))
  (bI (jB (af (aa 1) (af (aa 3) (af (aa 4) aj))))))))
theorem QO (T:Txt K mg a):TM P w K mg base 1 "_law_piece" xE HG a.cU (Ae K) :=
 fun hr=>(aG (cu (i:=3) uR.nd rfl (by walk_at "o") (bM T.gw (Mx T) (hm hr) bx (ag (cv 0) (ag (cv 2) ak))))
   (aG (cu (i:=4) uR.nd rfl (by walk_at "o") dZ)
   (aG (gQ PassesOwn.never rfl (jJ rfl T.aC (ag (ax kr aq (cq eZ (by rfl) T.ay PySem.boot_len (ag (cv 3) ak))) ak)) (aY (i:=5) uR.nd rfl (by walk_at "o")) (aM (cu (i:=4) uR.nd rfl (by walk_at "o") (ax dv (cv 4) (bJ bK dZ (ax ic (ax ml (ax iS (cv 0) aq) (cv 5)) aq) (fun _ _=>rfl))))))
   (aM (bO (kP (ag (cv 1) (ag (cv 3) (ag (cv 4) ak)))))))))
theorem LO (T:Txt K mg a):aB P w K mg base cb 2 a.cU a.eN ["_law_cell","_law_knot","_law_known"] (GL K):=by
 refine T.eO.n.dt uR (QO T) (fun vs H Q E h=>?_) (fun H vs Q E h=>?_)
 ·obtain ⟨c,k,kp,ks,rfl,_⟩:=h;rfl
 ·obtain ⟨c,k,kp,ks,rfl,h0,hK,k1,k2,q⟩:=h
  show Ae K _ [some (.int c),some (.int k),some (.ref kp),none,none,none] H
  unfold Ae
  have big:(20000:Nat)<=sizeLine:=by decide
  walk_at "gs"
  refine ⟨c,kp,ks,rfl,hK,k1,k2,fun cl H1 ys n1 lt l1 l6 hm=>?_⟩
  have h2:(2:Nat) ^ ys.length<=2 ^ 6:=ZqG (by decide) l6
  have KL:0<(2:Nat) ^ ys.length:=ZqL (by decide)
  have ec:(1 * 2 ^ ((ys.length:Int)).toNat:Int)=((2 ^ ys.length:Nat):Int):=by simp
  obtain ⟨cn,hcn⟩:=Zq2 (show 0<=c / 36 by omega)
  walk_at "gs"
  refine .inl ⟨_,.inl (.of n1.at_),?_⟩
  rw [Zpu]
  walk_at "gs"
  rw [ec]
  have b1 : -(2 ^ 62)<=((2 ^ ys.length:Nat):Int):=by omega
  have b2:((2 ^ ys.length:Nat):Int)<2 ^ 62:=by omega
  walk_at "gs"
  rw [Zq1]
  refine km (fun i σ H2=>H2=H1/\∃ v5:Option V,σ=[some (.int c),some (.int k),some (.ref kp),some (.ref cl),some (.str (m4 (cn:Int) i)),v5]) ⟨rfl,_,rfl⟩ ?_ ?_
  ·rintro i σ H2 hi ⟨rfl,v5,rfl⟩
   rw [show (0:Int)+(i:Int)=(i:Int) by omega]
   have hb:=lW (cn:Int) i
   have mx:=MN (cn:Int) i
   obtain ⟨ch,fY,ech⟩:=QJ hb.1 hb.2
   have eb:c / 36 / 2 ^ ((i:Int)).toNat % 2=fS (cn:Int) i:=by
    unfold fS
    rw [hcn,Zq1,Zq1]
    simp
   walk_at "gs"
   rw [eb]
   refine ⟨ch,fY,by show _+1<=_;omega,trivial,some (.int (i:Int)),?_⟩
   rw [PZ,ech]
  ·rintro σ H2 ⟨rfl,v5,rfl⟩
   walk_at "gs"
   refine ⟨by show 3<=sizeLine;decide,fun tp H3 n3=>?_⟩
   rw [Pk] at n3
   exact q tp cl H3 (k,ys,((cn % 2 ^ 2 ^ ys.length:Nat):Int)) (n1.same.trans n3.same) (n1.same.nil n3.cP) n1.cP rfl lt l1 l6 hm (Zq4 _) (Int.ofNat_lt.mpr (Nat.mod_lt cn (ZqL (show 0<2 by decide)))) n3.at_ (n3.same _ _ n1.at_)
theorem JA (t:Int) {n i:Nat} (hi:i<2 ^ n):∃ c,dk (bZ t n).cps.toList (i:Int)=some c/\(⟨#[c]⟩:Str)=sN (fS t i):=by
 have hb:=lW t i
 have e:(bZ t n).cps.toList[i]? = some (48+(fS t i).toNat):=by
  rw [xm,ZpB,Zqt hi];rfl
 refine ⟨_,jh e,vw ?_⟩
 rw [Iy hb.1 hb.2]
noncomputable def GN (_:ZoW):Sp:=fun vs H Q _=>∃ (t:Int) (n:Nat),vs=[.str (bZ t n)]/\0<=t/\t<((2 ^ 2 ^ n:Nat):Int)/\n<=6/\Q (.int t) H
noncomputable def BA (K:ZoW):TS:=(aE (bo (tC (.int 0)) (au 1))
  (aE (ed (hX (af (aX (eu K) (af (aa 0) aj)) aj)) (au 2) (bo (ah dg (aa 1) (ah jG (aX tU (af (ah (bE K) (aa 0) (aa 2)) aj)) (ah (bc gU fun i j=>.int (i * 2 ^ j.toNat)) (tC (.int 1)) (aa 2)))) (au 1)))
  (bI (aa 1))))
theorem Nh (T:Txt K mg a):TM P w K mg base 0 "_law_number" tE II a.cB (BA K) :=
 fun hr=>(aG (cu (i:=1) zT.nd rfl (by walk_at "o") aq)
   (aG (gQ PassesOwn.never rfl (jJ rfl T.aC (ag (cq eZ (by rfl) T.ay PySem.boot_len (ag (cv 0) ak)) ak)) (aY (i:=2) zT.nd rfl (by walk_at "o")) (aM (cu (i:=1) zT.nd rfl (by walk_at "o") (ax dv (cv 1) (ax kJ (gj BV (by rfl) T.dH PyProof.Rows.boot_int (ag (bJ bK (cv 0) (cv 2) (fun _ _=>rfl)) ak)) (ax kr aq (cv 2)))))))
   (aM (bO (cv 1)))))
theorem N6 (T:Txt K mg a):aB P w K mg base cb 1 a.cB a.dX ["_law_text"] (GN K):=by
 refine T.dS.n.dt zT (Nh T) (fun vs H Q E h=>?_) (fun H vs Q E h=>?_)
 ·obtain ⟨t,n,rfl,_⟩:=h;rfl
 ·obtain ⟨t,n,rfl,h0,h1,h6,q⟩:=h
  show BA K _ [some (.str (bZ t n)),none,none] H
  unfold BA
  have big:(20000:Nat)<=sizeLine:=by decide
  have h2:(2:Nat) ^ n<=2 ^ 6:=ZqG (by decide) h6
  obtain ⟨tn,rfl⟩:=Zq2 h0
  have hl:=yZ (tn:Int) n
  have j7:=xm (tn:Int) n
  walk_at "gs"
  rw [hl,Zq1]
  refine km (fun i σ H2=>H2=H/\∃ v2:Option V,σ=[some (.str (bZ (tn:Int) n)),some (.int ((tn % 2 ^ i:Nat):Int)),v2]) ⟨rfl,_,by rw [Nat.pow_zero,Nat.mod_one];rfl⟩ ?_ ?_
  ·rintro i σ H2 hi ⟨rfl,v2,rfl⟩
   rw [show (0:Int)+(i:Int)=(i:Int) by omega]
   obtain ⟨ch,fY,ech⟩:=JA (tn:Int) hi
   have c1:gU 1 (i:Int):=⟨by omega,by omega,by decide⟩
   have hb:=lW (tn:Int) i
   walk_at "gs"
   refine ⟨ch,fY,fS (tn:Int) i,?_,by show 1<=640;decide,c1,.inl ⟨by omega,by omega⟩,trivial,some (.int (i:Int)),?_⟩
   ·rw [ech]
    exact (oO hb.1 (by omega)).2.2.2
   ·have e:((tn % 2 ^ i:Nat):Int)+fS (tn:Int) i * (1 * 2 ^ ((i:Int)).toNat)=((tn % 2 ^ (i+1):Nat):Int):=by
     unfold fS
     rw [Zq1,Zq1,Nat.mod_pow_succ,Int.natCast_add,Zq6,Zq3,Int.mul_comm]
     simp
    rw [e]
  ·rintro σ H2 ⟨rfl,v2,rfl⟩
   walk_at "gs"
   rw [Nat.mod_eq_of_lt (by exact_mod_cast h1)]
   exact q
open GM
noncomputable def zZ (_:ZoW):Sp:=fun vs H Q _=>∃ i:Int,vs=[.int i]/\Q (.bl true) H
noncomputable def B5 (K:ZoW):TS:=(bI (lB (aX (kz K) (af (aa 0) (af (tC (.ty "int")) aj))) (r9 (aX (kz K) (af (aa 0) (af (tC (.ty "bool")) aj))))))
theorem Qs (T:Txt K mg a):TM P w K mg base 0 "_law_whole" uI Hx a.cW (B5 K) :=
 fun hr=>(aM (bO (wc (cq mq (by rfl) T.aA PyProof.Rows.boot_isinstance (ag (cv 0) (ag (rh (v:=.ty "int") rfl T.dH PyProof.Rows.boot_int rfl) ak))) (vd (mT (cq mq (by rfl) T.aA PyProof.Rows.boot_isinstance (ag (cv 0) (ag (rh (v:=.ty "bool") rfl T.iT PyProof.Rows.boot_bool rfl) ak))))))))
theorem Ct (T:Txt K mg a):aB P w K mg base cb 1 a.cW a.fb ["_law_found"] (zZ K):=by
 refine T.bN.n.dt PU (Qs T) (fun vs H Q E h=>?_) (fun H vs Q E h=>?_)
 ·obtain ⟨i,rfl,_⟩:=h;rfl
 ·obtain ⟨i,rfl,q⟩:=h
  show B5 K _ [some (.int i)] H
  unfold B5
  walk_at "go"
  refine ⟨_,true,.int i,rfl,?_⟩
  walk_at "go"
  refine ⟨_,false,.int i,rfl,?_⟩
  walk_at "go"
  exact q
noncomputable def kj (m L:Nat) (ps:List Pc) (x:Int):Nat:=(MP.iE m L ps x).toNat
theorem Holds.of0 {m:Nat}{g:Int->Nat}{kvs:List (Key × V)} (h:∀ x:Int,0<=x->x<=m->cV kvs (.inl x)=some (nv (g x))):Holds m [] g kvs:=fun x hx=>by
 have:=Ia hx
 exact h x this.1 this.2
noncomputable def Fj (_:ZoW):Sp:=fun vs H Q _=>∃ (m L:Nat) (l:Addr) (ts:List (Addr × Addr)) (ps:List Pc),vs=[.ref l,.int m,.int L]/\gF H l ts ps/\WP m ps/\m<=10/\ps.length<=1000 /\
 ∀ d kvs H',iR H d (.dK kvs) H'->Holds m ps (kj m L ps) kvs->Q (.ref d) H'
noncomputable def DO (K:ZoW):TS:=(aE (bo (zq [(.inl (0),(.int 0))]) (au 3))
  (aE (ed (hX (af (aa 1) aj)) (au 4) (mI (aa 3) (ah dg (aa 4) (tC (.int 1))) (ah (cI fun i j=>.int (Builtin.bitAnd i j)) (ah (bc (fun _ j=>0<=j) fun i j=>.int (i / 2 ^ j.toNat)) (aa 2) (aa 4)) (tC (.int 1)))))
  (aE (ed (fk K (aa 0)) (iw K 3 (cG (au 5) (cG (au 6) (cG (au 7) ik)))) (aE (bo (tC (.int 0)) (au 8))
  (aE (ed (hX (af (aX (eu K) (af (aa 6) aj)) aj)) (au 9) (bo (ah dg (aa 8) (ah jG (oG (aa 3) (ah (bE K) (aa 6) (aa 9))) (ah (bc gU fun i j=>.int (i * 2 ^ j.toNat)) (tC (.int 1)) (aa 9)))) (au 8)))
  (mI (aa 3) (aa 5) (aX tU (af (ah (bE K) (aa 7) (aa 8)) aj))))))
  (bI (aa 3)))))
theorem Ki (T:Txt K mg a):TM P w K mg base 0 "_law_lit" xG Jd a.eE (DO K) :=
 fun hr=>(aG (cu (i:=3) lD.nd rfl (by walk_at "o") (NI [(.inl (0),(.int 0))] rfl (by decide +kernel) (by simp) (by decide)))
   (aG (gQ PassesOwn.never rfl (jJ rfl T.aC (ag (cv 1) ak)) (aY (i:=4) lD.nd rfl (by walk_at "o")) (aM (rO (js hr) (cv 3) (ax dv (cv 4) aq) (ax sP (ax ml (cv 2) (cv 4)) aq) rfl)))
   (aG (gQ PassesOwn.never rfl (gI (cv 0)) (jx rfl (dm (aY (i:=5) lD.nd rfl (by walk_at "o")) (dm (aY (i:=6) lD.nd rfl (by walk_at "o")) (dm (aY (i:=7) lD.nd rfl (by walk_at "o")) jv)))) (aG (cu (i:=8) lD.nd rfl (by walk_at "o") aq)
   (aG (gQ PassesOwn.never rfl (jJ rfl T.aC (ag (cq eZ (by rfl) T.ay PySem.boot_len (ag (cv 6) ak)) ak)) (aY (i:=9) lD.nd rfl (by walk_at "o")) (aM (cu (i:=8) lD.nd rfl (by walk_at "o") (ax dv (cv 8) (ax kJ (xf (js hr) (cv 3) (bJ bK (cv 6) (cv 9) (fun _ _=>rfl)) (fun _ _=>rfl)) (ax kr aq (cv 9)))))))
   (aM (rO (js hr) (cv 3) (cv 5) (gj BV (by rfl) T.dH PyProof.Rows.boot_int (ag (bJ bK (cv 7) (cv 8) (fun _ _=>rfl)) ak)) rfl)))))
   (aM (bO (cv 3))))))
theorem Kf (T:Txt K mg a):aB P w K mg base cb 1 a.eE a.gC ["_law_pieces","_law_many","_law_lighting"] (Fj K):=by
 refine T.gp.n.dt lD (Ki T) (fun vs H Q E h=>?_) (fun H vs Q E h=>?_)
 ·obtain ⟨m,L,l,ts,ps,rfl,_⟩:=h;rfl
 ·obtain ⟨m,L,l,ts,ps,rfl,hP,wp,bA,hz,q⟩:=h
  show DO K _ [some (.ref l),some (.int m),some (.int L),none,none,none,none,none,none,none] H
  unfold DO
  have big:(20000:Nat)<=sizeLine:=by decide
  have iz:=hP.len
  walk_at "gs"
  intro d H1 n1
  have mL:H d=none:=n1.cP
  walk_at "gs"
  rw [Zq1]
  refine km (fun i σ H2=>aD H H2/\∃ (kvs:List (Key × V)) (v4:Option V),H2 d=some (.dK kvs)/\kvs.length<=1+i/\(∀ x:Int,0<=x->x<=i->cV kvs (.inl x)=some (nv ((MP.base m L x).toNat)))/\σ=[some (.ref l),some (.int m),some (.int L),some (.ref d),v4,none,none,none,none,none]) ⟨n1.same,_,_,n1.at_,by simp,fun x h0 h1=>?_,rfl⟩ ?_ ?_
  ·have:x=0:=by omega
   subst this
   rfl
  ·rintro i σ H2 hi ⟨s2,kvs,v4,h2,ro,zf,rfl⟩
   rw [show (0:Int)+(i:Int)=(i:Int) by omega]
   walk_at "gs"
   rw [vO]
   refine ⟨d,_,rfl,.k (k:=.inl ((i:Int)+1)) h2 (by omega),s2.put mL,_,_,bh,ZqE (sx ..) (by omega),fun x h0 h1=>?_,rfl⟩
   rw [yu]
   by_cases e:x=(i:Int)+1
   ·subst e
    rw [if_pos rfl,wK]
    show some (nv _)=_
    unfold MP.base
    rw [decide_eq_true (by omega),Zri,show ((i:Int)+1 - 1).toNat=i by omega]
   ·rw [if_neg (fun z=>e (Sum.inl.inj z))]
    exact zf x h0 (by omega)
  ·rintro σ H2 ⟨s2,kvs0,v4,h2,ro,zf,rfl⟩
   have B9:Holds m [] (kj m L []) kvs0:=Holds.of0 fun x h0 h1=>zf x h0 h1
   walk_at "gs"
   refine ⟨⟨_,.of (s2 _ _ hP.lst)⟩,rC (xs:=ts.map fun t=>V.ref t.1) (fun i σ H5=>aD H H5/\∃ (kvs:List (Key × V)) (v4 v5 v6 v7 v8 v9:Option V),H5 d=some (.dK kvs)/\kvs.length<=11+i/\Holds m (ps.take i) (kj m L (ps.take i)) kvs/\σ=[some (.ref l),some (.int m),some (.int L),some (.ref d),v4,v5,v6,v7,v8,v9]) ⟨s2,kvs0,_,_,_,_,_,_,h2,by omega,by rw [Zqi];exact B9,rfl⟩ ?_ ?_ ?_⟩
   ·rintro i σ H5 _ ⟨s5,_⟩
    exact .of (s5 _ _ hP.lst)
   ·rintro i v σ H5 hv ⟨s5,kvs,v4,v5,v6,v7,v8,v9,h5,Ab,hk5,rfl⟩
    have hi:i<ts.length:=by
     have:=(ZpA.mp hv).1
     rwa [Zpu] at this
    obtain ⟨p,hp,hpt,hpc⟩:=(hP.same s5).get hi
    have ou:=wp i p hp
    have ev:v=.ref (ts[i]).1:=by
     rw [ZpB,Zpw hi] at hv
     cases hv
     rfl
    subst ev
    generalize (ts[i]).1=t1 at *
    generalize (ts[i]).2=t2 at *
    have mM:=ou.l6
    walk_at "gs"
    refine ⟨t1,_,rfl,.of hpt,rfl,_,_,rfl,_,_,rfl,_,_,rfl,rfl,?_⟩
    walk_at "gs"
    refine .inl ⟨_,.inl (.of hpc),?_⟩
    rw [Zpu]
    walk_at "gs"
    rw [Zq1]
    refine km (fun j σ H6=>H6=H5/\∃ v9:Option V,σ=[some (.ref l),some (.int m),some (.int L),some (.ref d),v4,some (.int p.1),some (.ref t2),some (.str (bZ p.2.2 p.2.1.length)),some (nv (MP.gq ((p.2.1.take j).map (MP.iE m L (ps.take i))))),v9]) ⟨rfl,_,rfl⟩ ?_ ?_
    ·rintro j σ H6 hj ⟨rfl,v9,rfl⟩
     rw [show (0:Int)+(j:Int)=(j:Int) by omega]
     have Qe:p.2.1[j]? = some p.2.1[j]:=Zpw hj
     have g1:=gX.k (k:=.inl p.2.1[j]) h5
     rw [hk5 _ (.inr (ou.kn _ (ZpX hj)))] at g1
     have ha:dk (p.2.1.map V.int) (j:Int)=some (.int p.2.1[j]):=by
      rw [z7 .non (by omega) (by rw [Zpu];omega)]
      simp [ZpE,hj]
     walk_at "gs"
     refine ⟨_,_,.inl (.of hpc),ha,d,_,rfl,g1,?_⟩
     have Rz:kj m L (ps.take i) p.2.1[j]<=1:=by unfold kj;cases MP.iE m L (ps.take i) p.2.1[j] <;> decide
     have Bs:MP.gq ((p.2.1.take (j+1)).map (MP.iE m L (ps.take i)))=MP.gq ((p.2.1.take j).map (MP.iE m L (ps.take i)))+kj m L (ps.take i) p.2.1[j] * 2 ^ j:=by
      rw [Zqa,Qe,Zpy]
      show MP.gq (_ ++ [_])=_
      rw [MP.JH,Zpu,ZpT,Nat.min_eq_left (by omega)]
      rfl
     have Lj:(MP.gq ((p.2.1.take j).map (MP.iE m L (ps.take i))):Int)+(kj m L (ps.take i) p.2.1[j]:Int) * 2 ^ ((j:Int)).toNat=((MP.gq ((p.2.1.take (j+1)).map (MP.iE m L (ps.take i))):Nat):Int):=by
      rw [Bs,Zq1]
      simp
     unfold nv
     walk_at "gs"
     rw [Zq3,Lj]
     exact ⟨_,rfl⟩
    ·rintro σ H6 ⟨rfl,v9,rfl⟩
     rw [ZpN]
     obtain ⟨tn,lF⟩:=Zq2 ou.t0
     rw [lF]
     unfold nv
     have CZ:MP.gq (p.2.1.map (MP.iE m L (ps.take i)))<2 ^ p.2.1.length:=by
      have:=MP.z6 (p.2.1.map (MP.iE m L (ps.take i)))
      rwa [Zpu] at this
     have O1:=yZ (tn:Int) p.2.1.length
     have Rt:(2:Nat) ^ p.2.1.length<=2 ^ 6:=ZqG (by decide) mM
     obtain ⟨ch,fY,ech⟩:=JA (tn:Int) CZ
     have hb:=lW (tn:Int) (MP.gq (p.2.1.map (MP.iE m L (ps.take i))))
     walk_at "gs"
     refine ⟨ch,fY,_,by rw [ech];exact (oO hb.1 (by omega)).2.2.2,by show 1<=640;decide,d,_,rfl,.k (k:=.inl p.1) h5 (by omega),s5.put mL,_,_,_,_,_,_,_,bh,ZqE (sx ..) (by omega),?_,rfl⟩
     rw [rM hp]
     refine hk5.put ?_ fun y hy=>?_
     ·unfold kj
      rw [MP.Ib]
      unfold MP.rN
      rw [if_pos rfl,lF,Zq1,wK]
     ·unfold kj
      rw [MP.Ib]
      unfold MP.rN
      rw [if_neg hy]
   ·rintro σ H5 ⟨s5,kvs,v4,v5,v6,v7,v8,v9,h5,Ab,hk5,rfl⟩
    rw [Zpu,iz,ZpN] at hk5
    walk_at "gs"
    exact q d kvs H5 ⟨mL,h5,s5⟩ hk5
open GM
theorem EN {K:ZoW}{H:Hp}{p q:Addr}{n:Nat}{xs:List Int} (h1:H p=some (.lst (xs.map V.int))) (h2:H q=some (.lst (xs.map V.int))):aV K H (n+1) (.ref p) (.ref q):=by
 refine aV.lst (n:=n) (.of h1) (.of h2) rfl fun i y z hy hz=>?_
 rw [hy] at hz
 cases hz
 rw [ZpB] at hy
 cases e:xs[i]? with
 | none=>rw [e] at hy;cases hy
 | some x=>rw [e] at hy;cases hy;exact .flat rfl
theorem Fm {K:ZoW}{H:Hp}{p q:Addr}{n:Nat}{xs:List Str} (h1:H p=some (.lst (xs.map V.str))) (h2:H q=some (.lst (xs.map V.str))):aV K H (n+1) (.ref p) (.ref q):=by
 refine aV.lst (n:=n) (.of h1) (.of h2) rfl fun i y z hy hz=>?_
 rw [hy] at hz
 cases hz
 rw [ZpB] at hy
 cases e:xs[i]? with
 | none=>rw [e] at hy;cases hy
 | some x=>rw [e] at hy;cases hy;exact .flat rfl
theorem J3 {K:ZoW}{H:Hp}{t u c d:Addr}{k b:Int}{xs:List Int}{n:Nat} (h1:H t=some (.tup [.int k,.ref c,.int b])) (h2:H u=some (.tup [.int k,.ref d,.int b])) (h3:H c=some (.lst (xs.map V.int))) (h4:H d=some (.lst (xs.map V.int))):aV K H (n+2) (.ref t) (.ref u):=by
 refine aV.tup (n:=n+1) (.of h1) (.of h2) rfl fun j y z hy hz=>?_
 match j,hy,hz with
 | 0,hy,hz=>cases hy;cases hz;exact .flat rfl
 | 1,hy,hz=>cases hy;cases hz;exact EN h3 h4
 | 2,hy,hz=>cases hy;cases hz;exact .flat rfl
noncomputable def Gd (_:fv) (K:ZoW):Sp:=fun vs H Q _=>∃ (l l2:Addr) (us ts:List (Addr × Addr)) (m:Nat) (ps:List Pc),vs=[.ref l,.ref l2]/\eJ H l us ps/\gF H l2 ts ps/\WP m ps/\ps.length<=1000/\∀ H',aD H H'->Q (.bl true) H'
noncomputable def Br (K:ZoW):TS:=(aE (en (gE (gO (gh K (aX (kz K) (af (aa 0) (af (tC (.ty "list")) aj))))) (cA (ah (iq K) (aX (eu K) (af (aa 0) aj)) (aX (eu K) (af (aa 1) aj))))) (bI (tC (.bl false))) eh)
  (aE (ed (hX (af (aX (eu K) (af (aa 1) aj)) aj)) (au 2) (aE (bo (ah (bE K) (aa 1) (aa 2)) (iw K 3 (cG (au 3) (cG (au 4) (cG (au 5) ik)))))
  (aE (en (gE (gO (gh K (aX (kz K) (af (ah (bE K) (aa 0) (aa 2)) (af (tC (.ty "tuple")) aj))))) (cA (ah (iq K) (ah (bE K) (aa 0) (aa 2)) (jB (af (aa 3) (af (aa 4) (af (bH (GN K) [] E0 (af (aa 5) aj)) aj))))))) (bI (tC (.bl false))) eh)
  (en (gE (gO (gh K (bH (zZ K) [] E0 (af (ah (bE K) (ah (bE K) (aa 0) (aa 2)) (tC (.int 0))) aj)))) (gE (gO (gh K (bH (zZ K) [] E0 (af (ah (bE K) (ah (bE K) (aa 0) (aa 2)) (tC (.int 2))) aj)))) (gO (gh K (aX (kz K) (af (ah (bE K) (ah (bE K) (aa 0) (aa 2)) (tC (.int 1))) (af (tC (.ty "list")) aj))))))) (bI (tC (.bl false))) eh))))
  (bI (tC (.bl true)))))
theorem Ke (T:Txt K mg a):TM P w K mg base 1 "_law_pieces_told" yn Hk a.bg (Br K) :=
 fun hr=>(aG (eY (PW.pt (hG (iy (g7 (cq mq (by rfl) T.aA PyProof.Rows.boot_isinstance (ag (cv 0) (ag (rh (v:=.ty "list") rfl T.dr PyProof.Rows.boot_list rfl) ak))))) (jF (dN (iW (fo hr)) (cq eZ (by rfl) T.ay PySem.boot_len (ag (cv 0) ak)) (cq eZ (by rfl) T.ay PySem.boot_len (ag (cv 1) ak)) (cR _))))) (aM (bO ip)) eU)
   (aG (gQ PassesOwn.never rfl (jJ rfl T.aC (ag (cq eZ (by rfl) T.ay PySem.boot_len (ag (cv 1) ak)) ak)) (aY (i:=2) vB.nd rfl (by walk_at "o")) (aG (nG (bJ bK (cv 1) (cv 2) (fun _ _=>rfl)) (jx rfl (dm (aY (i:=3) vB.nd rfl (by walk_at "o")) (dm (aY (i:=4) vB.nd rfl (by walk_at "o")) (dm (aY (i:=5) vB.nd rfl (by walk_at "o")) jv)))))
   (aG (eY (PW.pt (hG (iy (g7 (cq mq (by rfl) T.aA PyProof.Rows.boot_isinstance (ag (bJ bK (cv 0) (cv 2) (fun _ _=>rfl)) (ag (rh (v:=.ty "tuple") rfl T.dY PyProof.Rows.boot_tuple rfl) ak))))) (jF (dN (iW (fo hr)) (bJ bK (cv 0) (cv 2) (fun _ _=>rfl)) (kP (ag (cv 3) (ag (cv 4) (ag (bM T.dS (N6 T) (hm hr) bx (ag (cv 5) ak)) ak)))) (cR _))))) (aM (bO ip)) eU)
   (aM (eY (PW.pt (hG (iy (g7 (bM T.bN (Ct T) (hm hr) bx (ag (bJ bK (bJ bK (cv 0) (cv 2) (fun _ _=>rfl)) aq (fun _ _=>rfl)) ak)))) (hG (iy (g7 (bM T.bN (Ct T) (hm hr) bx (ag (bJ bK (bJ bK (cv 0) (cv 2) (fun _ _=>rfl)) aq (fun _ _=>rfl)) ak)))) (jF (iy (g7 (cq mq (by rfl) T.aA PyProof.Rows.boot_isinstance (ag (bJ bK (bJ bK (cv 0) (cv 2) (fun _ _=>rfl)) aq (fun _ _=>rfl)) (ag (rh (v:=.ty "list") rfl T.dr PyProof.Rows.boot_list rfl) ak))))))))) (aM (bO ip)) eU)))))
   (aM (bO ip))))
theorem Md (T:Txt K mg a):aB P w K mg base cb 2 a.bg a.bP ["_law_found","_law_pieces"] (Gd a K):=by
 refine T.bL.n.dt vB (Ke T) (fun vs H Q E h=>?_) (fun H vs Q E h=>?_)
 ·obtain ⟨l,l2,us,ts,m,ps,rfl,_⟩:=h;rfl
 ·obtain ⟨l,l2,us,ts,m,ps,rfl,hP,hT,wp,hz,q⟩:=h
  show Br K _ [some (.ref l),some (.ref l2),none,none,none,none] H
  unfold Br
  have big:(20000:Nat)<=sizeLine:=by decide
  have fN:=hP.len
  have iz:=hT.len
  walk_at "gs"
  refine ⟨_,true,.lst hP.lst,rfl,?_⟩
  walk_at "gs"
  refine .inl ⟨_,.inl (.of hP.lst),.inl ⟨_,.inl (.of hT.lst),?_⟩⟩
  rw [Zpu,Zpu,if_neg (by omega)]
  refine .inl ⟨_,.inl (.of hT.lst),?_⟩
  rw [Zpu]
  refine ⟨by omega,by omega,?_⟩
  rw [Zq1]
  refine km (fun i σ H2=>aD H H2/\∃ v2 v3 v4 v5:Option V,σ=[some (.ref l),some (.ref l2),v2,v3,v4,v5]) ⟨aD.refl _,_,_,_,_,rfl⟩ ?_ ?_
  ·rintro i σ H2 hi ⟨s2,v2,v3,v4,v5,rfl⟩
   rw [show (0:Int)+(i:Int)=(i:Int) by omega]
   have JM:i<us.length:=by omega
   obtain ⟨p,hp,t1,t2⟩:=(hT.same s2).get hi
   obtain ⟨p',hp',u1,u2⟩:=(hP.same s2).get JM
   rw [hp] at hp'
   cases hp'
   have w1:=wp i p hp
   have NZ:dk (ts.map fun t=>V.ref t.1) (i:Int)=some (.ref (ts[i]).1):=jh (by rw [ZpB,Zpw hi];rfl)
   have at2:dk (us.map fun t=>V.ref t.1) (i:Int)=some (.ref (us[i]).1):=jh (by rw [ZpB,Zpw JM];rfl)
   have NU:=s2 _ _ hT.lst
   have Bq:=s2 _ _ hP.lst
   generalize (ts[i]).1=ta at *
   generalize (ts[i]).2=tb at *
   generalize (us[i]).1=ua at *
   generalize (us[i]).2=ub at *
   walk_at "gs"
   refine ⟨_,_,.inl (.of NU),NZ,ta,_,rfl,.of t1,rfl,_,_,rfl,_,_,rfl,_,_,rfl,rfl,?_⟩
   refine ⟨_,_,.inl (.of Bq),at2,_,true,.tup u1,rfl,?_⟩
   walk_at "gs"
   refine ⟨_,_,.inl (.of Bq),at2,p.2.2,p.2.1.length,rfl,w1.t0,w1.t1,w1.l6,?_⟩
   refine ⟨by show 3<=sizeLine;decide,fun tp H3 n3=>?_⟩
   have s3:=s2.trans n3.same
   refine ⟨true,.inl ⟨rfl,J3 (n:=2) (n3.same _ _ u1) n3.at_ (n3.same _ _ u2) (n3.same _ _ t2)⟩,?_⟩
   walk_at "gs"
   have pI:=n3.same _ _ Bq
   have Er:=n3.same _ _ u1
   have Mv:=n3.same _ _ u2
   rw [if_neg (fun z=>nomatch z)]
   refine ⟨_,_,.inl (.of pI),at2,_,_,.inr (.of Er),jh (j:=0) rfl,p.1,rfl,?_⟩
   show if true=false then _ else _
   rw [if_neg (fun z=>nomatch z)]
   refine ⟨_,_,.inl (.of pI),at2,_,_,.inr (.of Er),jh (j:=2) rfl,p.2.2,rfl,?_⟩
   show if true=false then _ else _
   rw [if_neg (fun z=>nomatch z)]
   refine ⟨_,_,.inl (.of pI),at2,_,_,.inr (.of Er),jh (j:=1) rfl,_,true,.lst Mv,rfl,?_⟩
   show if true=false then _ else _
   rw [if_neg (fun z=>nomatch z)]
   exact ⟨s3,_,_,_,_,rfl⟩
  ·rintro σ H2 ⟨s2,v2,v3,v4,v5,rfl⟩
   walk_at "gs"
   exact q _ s2
theorem WP.snoc {m:Nat}{ps:List Pc}{p:Pc} (h:WP m ps) (w:uy m ps p):WP m (ps ++ [p]):=fun i q hq=>by
 by_cases hi:i<ps.length
 ·rw [ZpQ hi] at hq
  rw [Zqz (by omega)]
  exact h i q hq
 ·have hl:=(ZpA.mp hq).1
  rw [ZpD] at hl
  have e:i=ps.length:=by simp at hl;omega
  subst e
  rw [ZpP (ZqC _),ZqM] at hq
  have e2:p=q:=Option.some.inj hq
  subst e2
  rw [Zqz (ZqC _),ZpN]
  exact w
open GM
theorem Jv {m:Nat} (h:1<=m) (ps:List Pc):dk ((known m ps).map V.int) (-1)=some (.int (fK m ps)):=by
 have key:∃ L,known m ps=L ++ [fK m ps]:=by
  rcases ZqA ps with rfl | ⟨qs,p,rfl⟩
  ·obtain ⟨n,rfl⟩:∃ n,m=n+1:=⟨m - 1,by omega⟩
   refine ⟨(Zpv n).map fun i:Nat=>1+(i:Int),?_⟩
   unfold known fK
   rw [Zp9,Zp4,Zp2,Zpy]
   simp
   omega
  ·rw [ZqB,uF,yD]
   exact ⟨_,rfl⟩
 obtain ⟨L,e⟩:=key
 rw [e,Zpy]
 unfold dk kI
 simp
 rw [if_pos (by omega),show (-1+((L.length:Int)+1)).toNat=L.length by omega]
 simp
theorem qN {m:Nat} (h:1<=m) (ps:List Pc):fK m ps∈known m ps:=by
 rcases ZqA ps with e | ⟨us,u,e⟩
 ·subst e
  unfold fK known
  exact Zqk _ (ZpI.mpr ⟨m - 1,ZpU.mpr (by omega),by show (1:Int)+((m - 1:Nat):Int)=_;simp;omega⟩)
 ·rw [e,ZqB,yD,uF]
  exact ZpR _ (ZpH.mpr rfl)
theorem Ey (m:Nat) (ps:List Pc):(known m ps).length=m+ps.length:=by
 unfold known
 rw [ZpD,Zpu,Zpu,ZpO]
noncomputable def rq (kp:Addr) (H H':Hp):Prop:=∀ b o,b≠kp->H b=some o->H' b=some o
theorem rq.seq {K:ZoW}{H0 H H':Hp}{kp a:Addr}{xs:List V} (h:aI K H0 a xs) (h0:H0 kp=none) (s:aD H0 H) (e:rq kp H H'):aI K H' a xs:=by
 rcases h with (h | ⟨o,h⟩) | h
 ·exact .inl (.inl (e _ _ (cH h h0) (s _ _ h)))
 ·exact .inl (.inr ⟨o,e _ _ (cH h h0) (s _ _ h)⟩)
 ·exact .inr h
structure PB (H H2:Hp) (kp pl:Addr) (m:Nat) (ts:List (Addr × Addr)) (ps:List Pc):Prop where
 kb:rq kp H H2
 tl:gF H2 pl ts ps
 kl:H2 kp=some (.lst ((known m ps).map V.int))
 wp:WP m ps
 nk:∀ t∈ts,t.2≠kp/\t.2≠pl
theorem PB.same {H H2 H3:Hp}{kp pl:Addr}{m:Nat}{ts:List (Addr × Addr)}{ps:List Pc} (h:PB H H2 kp pl m ts ps) (s:aD H2 H3):PB H H3 kp pl m ts ps :=
 ⟨fun b o n e=>s _ _ (h.kb b o n e),h.tl.same s,s _ _ h.kl,h.wp,h.nk⟩
theorem PB.push {H H2 H3:Hp}{kp pl t c:Addr}{m:Nat}{ts:List (Addr × Addr)}{ps:List Pc}{p:Pc} (h:PB H H2 kp pl m ts ps) (eB:H pl=none) (PD:pl≠kp) (s:aD H2 H3) (ht:H2 t=none) (hc:H2 c=none)
  (h1:H3 t=some (.tup [.int p.1,.ref c,.str (bZ p.2.2 p.2.1.length)])) (h2:H3 c=some (.lst (p.2.1.map V.int))) (w:uy m ps p) :
  PB H (upd (upd H3 pl (.lst ((ts.map fun t=>V.ref t.1) ++ [.ref t]))) kp (.lst ((known m ps).map V.int ++ [.int p.1]))) kp pl m (ts ++ [(t,c)]) (ps ++ [p]):=by
 have cp:c≠pl:=(cH h.tl.lst hc).symm
 have ck:c≠kp:=(cH h.kl hc).symm
 have tp:t≠pl:=(cH h.tl.lst ht).symm
 have tk:t≠kp:=(cH h.kl ht).symm
 have hl:=h.tl.len
 refine ⟨fun b o n e=>?_,⟨?_,by rw [ZpD,ZpD,hl];rfl,fun i u q hu hq=>?_⟩,?_,h.wp.snoc w,fun u hu=>?_⟩
 ·rw [aJ n,aJ (cH e eB)]
  exact s _ _ (h.kb b o n e)
 ·rw [aJ PD,bh,Zpy]
  rfl
 ·by_cases hi:i<ts.length
  ·rw [ZpQ hi] at hu
   rw [ZpQ (by omega)] at hq
   obtain ⟨a1,a2⟩:=h.tl.at_ i u q hu hq
   obtain ⟨n1,n2⟩:=h.nk u (Zp5 hu)
   have m1:u.1≠pl:=jb a1 h.tl.lst (fun z=>nomatch z)
   have m2:u.1≠kp:=jb a1 h.kl (fun z=>nomatch z)
   exact ⟨by rw [aJ m2,aJ m1];exact s _ _ a1,by rw [aJ n1,aJ n2];exact s _ _ a2⟩
  ·rw [ZpP (by omega)] at hu hq
   have e0:i - ts.length=0:=by
    have:=(ZpA.mp hu).1
    simp at this
    omega
   rw [<- hl,e0] at hq
   rw [e0] at hu
   have e1:(t,c)=u:=Option.some.inj hu
   have e2:p=q:=Option.some.inj hq
   subst e1 e2
   exact ⟨by rw [aJ tk,aJ tp];exact h1,by rw [aJ ck,aJ cp];exact h2⟩
 ·rw [bh,uF,Zpy]
  rfl
 ·rcases ZpM.mp hu with z | z
  ·exact h.nk u z
  ·rw [ZpH] at z
   subst z
   exact ⟨ck,cp⟩
theorem HA:bZ 2 1 = "01" /\ bZ 1 1 = "10":=by decide +kernel
noncomputable def G5 (K:ZoW):Sp:=fun vs H Q _=>∃ (sc kp:Addr) (ns:List Int) (m:Nat),vs=[.ref sc,.ref kp]/\(∀ H',rq kp H H'->aI K H' sc (ns.map V.int))/\H kp=some (.lst ((known m []).map V.int))/\1<=m/\m<=10/\ns.length<=63 /\
 ∀ l ts ps H',rq kp H H'->H l=none->gF H' l ts ps->H' kp=some (.lst ((known m ps).map V.int))->WP m ps->ps.length<=800->Q (.ref l) H'
noncomputable def BN (K:ZoW):TS:=(aE (bo (gG aj) (au 2))
  (aE (ed (hX (af (ah (bE K) (gG (xx [(.int 0),(.int 700)])) (aX cInt (af (ah (jH K) (ah (bc (fun _ j=>0<j) fun i j=>.int (i % j)) (ah (bc ib fun i j=>.int (i / j)) (bH (so K) [] E0 (af (aa 0) (af (tC (.int 0)) aj))) (tC (.int 10))) (tC (.int 16))) (tC (.int 3))) aj))) aj)) (au 3) (aE (bo (ah (bc (fun _ j=>0<j) fun i j=>.int (i % j)) (ah (bc (fun _ j=>0<=j) fun i j=>.int (i / 2 ^ j.toNat)) (bH (so K) [] E0 (af (aa 0) (af (tC (.int 1)) aj))) (aa 3)) (tC (.int 2))) (au 4))
  (aE (jr (gr K "list" ki (aa 2) (af (jB (af (ah dg (ah (bE K) (aa 1) (jg i9 (tC (.int 1)))) (tC (.int 1))) (af (gG (af (ah (bE K) (aa 1) (jg i9 (tC (.int 1)))) aj)) (af (ah (bE K) (gG (xx [(.str "01"),(.str "10")])) (aa 4)) aj)))) aj)))
  (jr (gr K "list" ki (aa 1) (af (ah dg (ah (bE K) (aa 1) (jg i9 (tC (.int 1)))) (tC (.int 1))) aj))))))
  (aE (ed (sC (af (tC (.int 2)) (af (aX rg (af (aX (eu K) (af (aa 0) aj)) (af (tC (.int 50)) aj))) aj))) (au 5) (aE (bo (ah dg (bH (so K) [] E0 (af (aa 0) (af (aa 5) aj))) (ah jG (tC (.int 7)) (aa 5))) (au 6))
  (aE (bo (ah dg (ah dg (ah (bE K) (aa 1) (jg i9 (tC (.int 1)))) (tC (.int 1))) (ah (bE K) (gG (af (tC (.int 0)) (af (ah (bc (fun _ j=>0<j) fun i j=>.int (i % j)) (ah (bc ib fun i j=>.int (i / j)) (aa 6) (tC (.int 3))) (tC (.int 60))) aj))) (aX cInt (af (ah (jH K) (ah (bc (fun _ j=>0<j) fun i j=>.int (i % j)) (aa 6) (tC (.int 3))) (tC (.int 2))) aj)))) (au 7))
  (en (cA (ah (cI fun i j=>.bl (decide (i<j))) (aa 7) (tC (.int 1000)))) (aE (jr (gr K "list" ki (aa 2) (af (bH (GL K) [] E0 (af (ah (bc ib fun i j=>.int (i / j)) (aa 6) (tC (.int 180))) (af (aa 7) (af (aa 1) aj)))) aj)))
  (jr (gr K "list" ki (aa 1) (af (aa 7) aj)))) eh))))
  (bI (aa 2)))))
theorem Kl (T:Txt K mg a):TM P w K mg base 2 "_law_pieces_by" ug F6 a.bu (BN K) :=
 fun hr=>(aG (cu (i:=2) oJ.nd rfl (by walk_at "o") (ix ak))
   (aG (gQ PassesOwn.never rfl (jJ rfl T.aC (ag (bJ bK (ix (zz (vs:=[(.int 0),(.int 700)]) rfl)) (gj lO (by rfl) T.dH PyProof.Rows.boot_int (ag (qx (ku (fo hr)) (ax ic (ax iS (bM T.aN (tf T) (hm hr) bx (ag (cv 0) (ag aq ak))) aq) aq) aq (cR _)) ak)) (fun _ _=>rfl)) ak)) (aY (i:=3) oJ.nd rfl (by walk_at "o")) (aG (cu (i:=4) oJ.nd rfl (by walk_at "o") (ax ic (ax ml (bM T.aN (tf T) (hm hr) bx (ag (cv 0) (ag aq ak))) (cv 3)) aq))
   (aG (jP (gP Zpo Zpp Zpq (kE jV) (cv 2) (ag (kP (ag (ax dv (bJ bK (cv 1) (jW kq aq) (fun _ _=>rfl)) aq) (ag (ix (ag (bJ bK (cv 1) (jW kq aq) (fun _ _=>rfl)) ak)) (ag (bJ bK (ix (zz (vs:=[(.str "01"),(.str "10")]) rfl)) (cv 4) (fun _ _=>rfl)) ak)))) ak)))
   (aM (jP (gP Zpo Zpp Zpq (kE jV) (cv 1) (ag (ax dv (bJ bK (cv 1) (jW kq aq) (fun _ _=>rfl)) aq) ak)))))))
   (aG (gQ PassesOwn.never rfl (HZ rfl T.aC (ag aq (ag (cq (tF rfl) (by rfl) T.qG PyProof.Rows.boot_min (ag (cq eZ (by rfl) T.ay PySem.boot_len (ag (cv 0) ak)) (ag aq ak))) ak))) (aY (i:=5) oJ.nd rfl (by walk_at "o")) (aG (cu (i:=6) oJ.nd rfl (by walk_at "o") (ax dv (bM T.aN (tf T) (hm hr) bx (ag (cv 0) (ag (cv 5) ak))) (ax kJ aq (cv 5))))
   (aG (cu (i:=7) oJ.nd rfl (by walk_at "o") (ax dv (ax dv (bJ bK (cv 1) (jW kq aq) (fun _ _=>rfl)) aq) (bJ bK (ix (ag aq (ag (ax ic (ax iS (cv 6) aq) aq) ak))) (gj lO (by rfl) T.dH PyProof.Rows.boot_int (ag (qx (ku (fo hr)) (ax ic (cv 6) aq) aq (cR _)) ak)) (fun _ _=>rfl))))
   (aM (eY (dN kX (cv 7) aq (cR _)) (aG (jP (gP Zpo Zpp Zpq (kE jV) (cv 2) (ag (bM T.eO (LO T) (hm hr) bx (ag (ax iS (cv 6) aq) (ag (cv 7) (ag (cv 1) ak)))) ak)))
   (aM (jP (gP Zpo Zpp Zpq (kE jV) (cv 1) (ag (cv 7) ak))))) eU)))))
   (aM (bO (cv 2))))))
theorem Kg (T:Txt K mg a):aB P w K mg base cb 3 a.bu a.cM ["_law_script","_law_known"] (G5 K):=by
 refine T.cN.n.dt oJ (Kl T) (fun vs H Q E h=>?_) (fun H vs Q E h=>?_)
 ·obtain ⟨sc,kp,ns,m,rfl,_⟩:=h;rfl
 ·obtain ⟨sc,kp,ns,m,rfl,hS,hK,m1,bA,sI,q⟩:=h
  show BN K _ [some (.ref sc),some (.ref kp),none,none,none,none,none,none] H
  unfold BN
  have big:(20000:Nat)<=sizeLine:=by decide
  walk_at "gs"
  intro pl H1 n1
  have eB:H pl=none:=n1.cP
  have yJ:pl≠kp:=(cH hK eB).symm
  refine ⟨by show 2<=sizeLine;decide,fun a2 H2 n2=>?_⟩
  have s2:=n1.same.trans n2.same
  refine ⟨sc,ns,0,rfl,hS _ (fun b o _ e=>s2 _ _ e),fun c c0=>?_⟩
  refine ⟨⟨by decide,by decide⟩,by decide,?_⟩
  obtain ⟨N,hN,j7⟩:∃ N:Nat,N<=700/\dk [V.int 0,V.int 700] (if c / 10 % 16=3 then 1 else 0)=some (.int (N:Int)):=by
   by_cases g:c / 10 % 16=3
   ·rw [if_pos g];exact ⟨700,ZqC _,rfl⟩
   ·rw [if_neg g];exact ⟨0,by omega,rfl⟩
  refine ⟨_,_,.inl (.of n2.at_),j7,?_⟩
  refine ⟨by omega,by omega,?_⟩
  rw [Zq1]
  have Q9:PB H H2 kp pl m [] []:=⟨fun b o _ e=>s2 _ _ e,⟨n2.same _ _ n1.at_,rfl,fun i t p ht=>by simp at ht⟩,s2 _ _ hK,fun i p hp=>by simp at hp,fun t ht=>by simp at ht⟩
  refine km (fun i σ H3=>∃ (ts:List (Addr × Addr)) (ps:List Pc) (v3 v4:Option V),PB H H3 kp pl m ts ps/\ps.length<=i/\fK m ps<=10+i/\σ=[some (.ref sc),some (.ref kp),some (.ref pl),v3,v4,none,none,none]) ⟨[],[],_,_,Q9,by simp,by show (m:Int)<=_;omega,rfl⟩ ?_ ?_
  ·rintro i σ H3 hi ⟨ts,ps,v3,v4,pb,hl,htop,rfl⟩
   rw [show (0:Int)+(i:Int)=(i:Int) by omega]
   have iz:=pb.tl.len
   have AA:=Ey m ps
   have uD:=Jv m1 ps
   have Ck:=pb.wp.top ps.length (ZqC _)
   rw [ZpN] at Ck
   walk_at "gs"
   refine ⟨sc,ns,1,rfl,hS _ pb.kb,fun c1 c10=>?_⟩
   refine ⟨by omega,by decide,.inl ⟨by trivial,_,.of pb.tl.lst⟩,_,_,.inl (.of pb.kl),uD,?_⟩
   refine ⟨_,_,.inl (.of pb.kl),uD,by show 1<=sizeLine;decide,fun cl H4 n4=>?_⟩
   refine ⟨by show 2<=sizeLine;decide,fun a5 H5 n5=>?_⟩
   obtain ⟨t,ht,j7⟩:∃ t:Int,(t=2\/t=1)/\dk [V.str "01",V.str "10"] (c1 / 2 ^ ((i:Int)).toNat % 2)=some (.str (bZ t 1)):=by
    rcases (by omega:c1 / 2 ^ ((i:Int)).toNat % 2=0\/c1 / 2 ^ ((i:Int)).toNat % 2=1) with g | g <;> rw [g]
    ·exact ⟨2,.inl rfl,by rw [HA.1];rfl⟩
    ·exact ⟨1,.inr rfl,by rw [HA.2];rfl⟩
   refine ⟨_,_,.inl (.of n5.at_),j7,by show 3<=sizeLine;decide,fun tp H6 n6=>?_⟩
   have EJ:aD H3 H6:=n4.same.trans (n5.same.trans n6.same)
   have yk:=pb.same EJ
   refine ⟨pl,_,_,rfl,rfl,yk.tl.lst,by rw [Zpu];omega,?_⟩
   have k7:upd H6 pl (.lst ((ts.map fun t=>V.ref t.1) ++ [.ref tp])) kp=some (.lst ((known m ps).map V.int)):=by rw [aJ yJ.symm];exact yk.kl
   refine ⟨.inl ⟨by trivial,_,.of k7⟩,_,_,.inl (.of k7),uD,?_⟩
   refine ⟨kp,_,_,rfl,rfl,k7,by rw [Zpu];omega,?_⟩
   have BU:uy m ps (fK m ps+1,[fK m ps],t):=⟨by show fK m ps<fK m ps+1;omega,by show fK m ps+1<=999;omega,ZqC 1,by show 1<=6;decide,Zqx _ _,fun x hx=>by rw [ZpH] at hx;subst hx;exact qN m1 ps,by show 0<=t;omega,by show t<((2 ^ 2 ^ 1:Nat):Int);have:((2 ^ 2 ^ 1:Nat):Int)=4:=rfl;omega⟩
   exact ⟨_,_,_,_,pb.push (p:=(fK m ps+1,[fK m ps],t)) eB yJ EJ ((n4.same.trans n5.same).nil n6.cP) n4.cP n6.at_ ((n5.same.trans n6.same) _ _ n4.at_) BU,by rw [ZpD];simp;omega,by rw [yD];show fK m ps+1<=_;omega,rfl⟩
  ·rintro σ H3 ⟨ts,ps,v3,v4,pb,hl,htop,rfl⟩
   walk_at "gs"
   refine .inl ⟨_,.inl (hS _ pb.kb),?_⟩
   rw [Zpu]
   have gM:(if (50:Int)<(ns.length:Int) then (50:Int) else (ns.length:Int))<=50/\0<=(if (50:Int)<(ns.length:Int) then (50:Int) else (ns.length:Int)):=by split <;> omega
   generalize (if (50:Int)<(ns.length:Int) then (50:Int) else (ns.length:Int))=M at gM
   refine ⟨⟨by decide,by decide,by omega,by omega⟩,?_⟩
   refine km (fun i σ H4=>∃ (ts:List (Addr × Addr)) (ps:List Pc) (v3 v4 v5 v6 v7:Option V),PB H H4 kp pl m ts ps/\ps.length<=700+i/\σ=[some (.ref sc),some (.ref kp),some (.ref pl),v3,v4,v5,v6,v7]) ⟨ts,ps,_,_,_,_,_,pb,by omega,rfl⟩ ?_ ?_
   ·rintro i σ H4 hi ⟨ts,ps,v3,v4,v5,v6,v7,pb,hl,rfl⟩
    have iz:=pb.tl.len
    have AA:=Ey m ps
    have uD:=Jv m1 ps
    have Ck:=pb.wp.top ps.length (ZqC _)
    rw [ZpN] at Ck
    rw [show (2:Int)+(i:Int)=((2+i:Nat):Int) by omega]
    walk_at "gs"
    refine ⟨sc,ns,2+i,rfl,hS _ pb.kb,fun c1 c10=>?_⟩
    refine ⟨.inl ⟨by decide,by decide⟩,_,_,.inl (.of pb.kl),uD,?_⟩
    have OL:0<=c1+7 * ((2+i:Nat):Int):=by omega
    show _/\_
    generalize c1+7 * ((2+i:Nat):Int)=ce at OL ⊢
    refine ⟨⟨by decide,by decide⟩,by decide,by show 2<=sizeLine;decide,fun a5 H5 n5=>?_⟩
    obtain ⟨w5,hw0,hw1,j7⟩:∃ w5:Int,0<=w5/\w5<60/\dk [V.int 0,V.int (ce / 3 % 60)] (if ce % 3=2 then 1 else 0)=some (.int w5):=by
     by_cases g:ce % 3=2
     ·rw [if_pos g];exact ⟨ce / 3 % 60,by omega,by omega,rfl⟩
     ·rw [if_neg g];exact ⟨0,by omega,by omega,rfl⟩
    refine ⟨by decide,_,_,.inl (.of n5.at_),j7,?_⟩
    have tK:=pb.same n5.same
    show if fK m ps+1+w5<1000 then _ else _
    by_cases g:fK m ps+1+w5<1000
    ·rw [if_pos g]
     refine ⟨.inl ⟨by trivial,_,.of tK.tl.lst⟩,⟨by decide,by decide⟩,ce / 180,fK m ps+1+w5,kp,known m ps,rfl,by omega,tK.kl,by omega,by omega,fun t cl H6 p s6 ht hc e1 lt l1 l6 hm t0 t1 a1 a2=>?_⟩
     have yk:=tK.same s6
     refine ⟨pl,_,_,rfl,rfl,yk.tl.lst,by rw [Zpu];omega,?_⟩
     have k7:upd H6 pl (.lst ((ts.map fun t=>V.ref t.1) ++ [.ref t])) kp=some (.lst ((known m ps).map V.int)):=by rw [aJ yJ.symm];exact yk.kl
     refine ⟨.inl ⟨by trivial,_,.of k7⟩,kp,_,_,rfl,rfl,k7,by rw [Zpu];omega,?_⟩
     have BU:uy m ps p:=⟨by rw [e1];omega,by rw [e1];omega,l1,l6,lt,hm,t0,t1⟩
     have:=tK.push (p:=p) eB yJ s6 ht hc a1 a2 BU
     rw [e1] at this
     exact ⟨_,_,_,_,_,_,_,this,by rw [ZpD];simp;omega,rfl⟩
    ·rw [if_neg g]
     exact ⟨ts,ps,_,_,_,_,_,tK,by omega,rfl⟩
   ·rintro σ H4 ⟨ts,ps,v3,v4,v5,v6,v7,pb,hl,rfl⟩
    walk_at "gs"
    exact q pl ts ps H4 pb.kb eB pb.tl pb.kl pb.wp (by omega)
open GM
theorem P5:(" of " : Str) = " " ++ ("of" : Str) ++ " ":=by decide +kernel
theorem NT:(" is " : Str) = " " ++ ("is" : Str) ++ " ":=by decide +kernel
theorem Lx:("out " : Str)=("out" : Str) ++ " ":=by decide +kernel
theorem LG:("board " : Str)=("board" : Str) ++ " ":=by decide +kernel
theorem O4 (s:Str):("board " : Str) ++ s=jn ["board",s]:=by
 rw [LG]
 rfl
theorem pq {L:List Str} (h:L≠[]):("out " : Str) ++ jn L=jn (("out" : Str) :: L):=by
 cases L with
 | nil=>exact absurd rfl h
 | cons x r =>
  unfold jn
  rw [j8,j8,Lx]
  show _=jf " " (("out" : Str) ++ " " ++ x) r
  rw [zO]
theorem Qc {L:List Str} (h:L≠[]) (sk tt:Str):sk ++ " of " ++ jn L ++ " is " ++ tt=jn (sk :: "of" :: (L ++ [("is" : Str),tt])):=by
 cases L with
 | nil=>exact absurd rfl h
 | cons x r =>
  unfold jn
  rw [j8,j8]
  have e:jf " " sk ("of" :: (x :: r ++ [("is" : Str),tt]))=jf " " (sk ++ " " ++ ("of" : Str) ++ " " ++ x) r ++ " " ++ ("is" : Str) ++ " " ++ tt:=by
   unfold jf
   rw [Zqm,Zp3,Zp3,Zqf]
   rfl
  rw [e,zO,P5,NT]
  simp only [yM]
theorem nL {xs:List Int} (h6:xs.length<=6) (hb:∀ y∈xs.map sN,y.length<=4):(jn (xs.map sN)).length<=40:=by
 unfold jn
 obtain _ | ⟨x,r⟩:=xs
 ·decide +kernel
 rw [Zpx,j8]
 rw [Zpx] at hb
 have h1:=hb _ (ZpK ..)
 have h2:=rX (k:=4) (r.map sN) (sN x) (fun y hy=>hb y (ZpL _ hy))
 rw [Zpu] at h2
 rw [ZpG] at h6
 omega
theorem Kp {xs:List Int} (h:0<xs.length) (e:Int):∃ g,g∈xs/\dk (xs.map V.int) (-1 - e % (xs.length:Int))=some (.int g):=by
 have z1:=Zq5 e (show (xs.length:Int)≠0 by omega)
 have z2:=Zq7 e (show 0<(xs.length:Int) by omega)
 generalize e % (xs.length:Int)=r at z1 z2
 obtain ⟨n,rfl⟩:=Zq2 z1
 refine ⟨xs[xs.length - (n+1)]'(by omega),ZpX _,?_⟩
 rw [show (-1:Int) - (n:Int) = -((n+1:Nat):Int) by omega]
 refine yd (by omega) (by rw [Zpu];omega) ?_
 rw [Zpu,ZpB,Zpw (by omega)]
 rfl
theorem qO {F z L:Nat}{t:Int} (hF:F.testBit L=true):((tv F z t / 2 ^ L % 2:Nat):Int)=(((z.testBit L).toNat:Int)+t) % 2:=by
 rw [wK]
 unfold tv
 by_cases h:t % 2=1
 ·rw [if_pos h,ZqW,hF]
  cases z.testBit L
  ·show (1:Int)=(0+t) % 2
   omega
  ·show (0:Int)=(1+t) % 2
   omega
 ·rw [if_neg h]
  cases z.testBit L
  ·show (0:Int)=(0+t) % 2
   omega
  ·show (1:Int)=(1+t) % 2
   omega
theorem Km {m:Nat}{ps:List Pc}{ae:List Int}{k:Nat}{t:Int} (h:ae[k]? = some t):(ky m ps ae).getD k 0=tv (je m) (MP.iP m ps (t / 2)) t:=by
 unfold ky
 rw [Zp7,ZpB,h]
 rfl
theorem ve {a:Bool}{b:Int} (h:b=0\/b=1):Builtin.bitXor ((a.toNat:Nat):Int) b=(((a.toNat:Nat):Int)+b) % 2:=by
 rcases h with rfl | rfl <;> cases a <;> decide +kernel
structure i8 (H:Hp) (l:Addr) (ts:List Addr) (os:List (Int × Int)):Prop where
 lst:H l=some (.lst (ts.map V.ref))
 len:ts.length=os.length
 at_:∀ (i:Nat) t o,ts[i]? = some t->os[i]? = some o->H t=some (.tup [.int o.1,.int o.2])
theorem i8.same {H H':Hp}{l:Addr}{ts:List Addr}{os:List (Int × Int)} (h:i8 H l ts os) (s:aD H H'):i8 H' l ts os :=
 ⟨s _ _ h.lst,h.len,fun i t o ht ho=>s _ _ (h.at_ i t o ht ho)⟩
theorem mZ {K:ZoW}{σ:L2.St}{H:Hp}{te:TE}{Q:VK}{l:Addr}{ts:List Addr}{os:List (Int × Int)} (f:Int × Int->V) (hO:i8 H l ts os) (hz:os.length<=100)
  (he:∀ o H' (Q':VK),o∈os->aD H H'->(∀ H'',aD H' H''->Q' (f o) H'')->te [some (.int o.1),some (.int o.2)] H' Q') (hQ:∀ p H',iR H p (.lst (os.map f)) H'->Q (.ref p) H') :
  iF (iJ K l) σ 2 [] (iw K 2 (cG (au 0) (cG (au 1) ik))) cJ te Q H:=by
 intro cp iV
 have big:(20000:Nat)<=sizeLine:=by decide
 have iz:=hO.len
 refine yE (n:=(ts.map V.ref).length) (item:=fun i=>(ts.map V.ref).getD i .non) (fun σ=>∃ v0 v1,σ=[v0,v1]) (fun i H3=>aD H H3/\H3 cp=some (.lst ((os.take i).map f))) ⟨_,_,rfl⟩ ⟨eD iV,by rw [bh];rfl⟩ (vU (xs:=ts.map V.ref) ?_) ?_ ?_ ?_
 ·rintro i H3 _ ⟨s3,_⟩
  exact .of (s3 _ _ hO.lst)
 ·rintro H3 ⟨s3,_⟩
  exact ⟨_,.of (s3 _ _ hO.lst),ZqC _⟩
 ·rintro i σ3 H3 R hi ⟨v0,v1,rfl⟩ ⟨s3,h3⟩ hR
  have hit:i<ts.length:=by rwa [Zpu] at hi
  have Gr:i<os.length:=by omega
  have Gb:os[i]? = some os[i]:=Zpw Gr
  have ht:=s3 _ _ (hO.at_ i _ _ (Zpw hit) Gb)
  have ei:(ts.map V.ref).getD i .non=.ref ts[i]:=by simp [ZpE,hit]
  rw [ei]
  generalize ts[i]=t1 at *
  walk_at "gs"
  refine ⟨t1,_,rfl,.of ht,rfl,_,_,rfl,_,_,rfl,rfl,?_⟩
  refine he _ _ _ (ZpX Gr) s3 fun H4 s4=>⟨_,s4 _ _ h3,by rw [Zpu,ZpT];omega,hR _ _ ⟨_,_,rfl⟩ ⟨(s3.trans s4).put iV,?_⟩⟩
  rw [bh,List.take_succ,Gb,Zpy]
  rfl
 ·rintro H3 ⟨s3,h3⟩
  rw [Zpu,iz,ZpN] at h3
  exact hQ cp H3 ⟨iV,h3,s3⟩
noncomputable def iZ (o:Int × Int):Int:=2 * o.2+o.1
theorem JZ {o:Int × Int} (h:o.1=0\/o.1=1):∃ sg:Str,dk [V.str "",V.str "-"] o.1=some (.str sg)/\sg ++ sN o.2=bp (iZ o)/\sg.length<=1:=by
 unfold bp iZ
 rcases h with z | z <;> rw [z]
 ·refine ⟨"",rfl,?_,by decide +kernel⟩
  rw [if_neg (by omega),show (2 * o.2+0) / 2=o.2 by omega]
 ·refine ⟨"-",rfl,?_,by decide +kernel⟩
  rw [if_pos (by omega),show (2 * o.2+1) / 2=o.2 by omega]
noncomputable def Kw (m:Nat) (ps:List Pc) (o:Int × Int):Prop:=(o.1=0\/o.1=1)/\(o.2=0\/o.2∈known m ps)
noncomputable def fw (K:ZoW):Sp:=fun vs H Q _=>∃ (p:Addr) (ns:List Int),vs=[.ref p]/\aI K H p (ns.map V.int)/\ns.length<=63/\∀ H',Q (.bl true) H'
noncomputable def BR (a:fv) (K:ZoW):TS:=(aE (bo (ah dg (tC (.int 1)) (ah (bc (fun _ j=>0<j) fun i j=>.int (i % j)) (bH (so K) [] E0 (af (aa 0) (af (tC (.int 0)) aj))) (tC (.int 10)))) (au 1))
  (aE (bo (AD (af (tC (.int 1)) (af (ah dg (aa 1) (tC (.int 1))) aj))) (au 2))
  (aE (bo (bH (G5 K) [] E0 (af (aa 0) (af (aa 2) aj))) (au 3))
  (aE (bo (gG (af (ah dg (tC (.str "board ")) (aX j6 (af (aa 1) aj))) aj)) (au 4))
  (jq (ed (fk K (aa 3)) (iw K 3 (cG (au 5) (cG (au 6) (cG (au 7) ik)))) (jr (gr K "list" ki (aa 4) (af (ah dg (ah dg (ah dg (ah dg (aX j6 (af (aa 5) aj)) (tC (.str " of "))) (gr K "str" (mv K) (tC (.str " ")) (af (cO (fk K (aa 6)) 1 [] (au 0) cJ (aX j6 (af (aa 0) aj))) aj))) (tC (.str " is "))) (aa 7)) aj))))
  (aE (bo (bH (so K) [] E0 (af (aa 0) (af (tC (.int 1)) aj))) (au 8))
  (aE (bo (gG aj) (au 9))
  (aE (ed (hX (af (ah dg (tC (.int 1)) (ah (bc (fun _ j=>0<j) fun i j=>.int (i % j)) (aa 8) (tC (.int 9)))) aj)) (au 10) (jr (gr K "list" ki (aa 9) (af (jB (af (ah (bc (fun _ j=>0<j) fun i j=>.int (i % j)) (ah (bc (fun _ j=>0<=j) fun i j=>.int (i / 2 ^ j.toNat)) (ah (bc ib fun i j=>.int (i / j)) (aa 8) (tC (.int 9))) (ah jG (tC (.int 7)) (aa 10))) (tC (.int 2))) (af (ah (bE K) (ah dg (gG (af (tC (.int 0)) aj)) (aa 2)) (ah (cI fun i j=>.int (i - j)) (jg i9 (tC (.int 1))) (ah (bc (fun _ j=>0<j) fun i j=>.int (i % j)) (ah (bc (fun _ j=>0<=j) fun i j=>.int (i / 2 ^ j.toNat)) (ah (bc ib fun i j=>.int (i / j)) (aa 8) (tC (.int 18))) (ah jG (tC (.int 7)) (aa 10))) (ah dg (aX (eu K) (af (aa 2) aj)) (tC (.int 1)))))) aj))) aj))))
  (jq (jr (gr K "list" ki (aa 4) (af (ah dg (tC (.str "out ")) (gr K "str" (mv K) (tC (.str " ")) (af (cO (fk K (aa 9)) 2 [] (iw K 2 (cG (au 0) (cG (au 1) ik))) cJ (ah dg (ah (bE K) (gG (xx [(.str ""),(.str "-")])) (aa 0)) (aX j6 (af (aa 1) aj)))) aj))) aj)))
  (aE (bo (aX (rZ K) (af (aa 4) aj)) (au 11))
  (aE (bo (bH (Fc a K) [] E0 (af (aa 11) aj)) (au 12))
  (aE (en (gE (gO (gh K (aX (kz K) (af (aa 12) (af (tC (.ref a.ab)) aj))))) (gE (cA (ah (iq K) (aa 11) (aa 4))) (cA (ah (iq K) (kA K (aa 12) "many") (aa 1))))) (bI (tC (.bl false))) eh)
  (aE (en (cA (ah (iq K) (ri a.ab "ties" (Dk a K) [] E0 (aa 12) aj) (cO (fk K (aa 9)) 2 [] (iw K 2 (cG (au 0) (cG (au 1) ik))) cJ (ah dg (ah jG (tC (.int 2)) (aa 1)) (aa 0))))) (bI (tC (.bl false))) eh)
  (jq (en (gO (gh K (bH (Gd a K) [] E0 (af (ri a.ab "pieces" (BZ a K) [] E0 (aa 12) aj) (af (aa 3) aj))))) (bI (tC (.bl false))) eh)
  (aE (bo (ri a.ab "columns" (FY a K) [] E0 (aa 12) aj) (au 13))
  (aE (bo (ah (bc (fun _ j=>0<j) fun i j=>.int (i % j)) (ah (bc ib fun i j=>.int (i / j)) (aa 8) (tC (.int 7))) (ah (bc gU fun i j=>.int (i * 2 ^ j.toNat)) (tC (.int 1)) (aa 1))) (au 14))
  (aE (bo (bH (Fj K) [] E0 (af (aa 3) (af (aa 1) (af (aa 14) aj)))) (au 15))
  (aE (ed (hX (af (aX (eu K) (af (aa 9) aj)) aj)) (au 10) (aE (en (gO (gh K (bH (zZ K) [] E0 (af (ah (bE K) (aa 13) (aa 10)) aj)))) (bI (tC (.bl false))) eh)
  (en (cA (ah (iq K) (ah (cI fun i j=>.int (Builtin.bitAnd i j)) (ah (bc (fun _ j=>0<=j) fun i j=>.int (i / 2 ^ j.toNat)) (ah (bE K) (aa 13) (aa 10)) (aa 14)) (tC (.int 1))) (ah (cI fun i j=>.int (Builtin.bitXor i j)) (oG (aa 15) (ah (bE K) (ah (bE K) (aa 9) (aa 10)) (tC (.int 1)))) (ah (bE K) (ah (bE K) (aa 9) (aa 10)) (tC (.int 0)))))) (bI (tC (.bl false))) eh)))
  (bI (lB (ah (jH K) (aX (eu K) (af (aa 13) aj)) (aX (eu K) (af (aa 9) aj))) (ah (jH K) (bH (EA a K) [] E0 (af (aa 12) aj)) (aa 4))))))))))))))))))))))
theorem o2 (T:Txt K mg a):TM P w K mg base 6 "law" mz yv a.jU (BR a K) :=
 fun hr=>(aG (cu (i:=1) g4.nd rfl (by walk_at "o") (ax dv aq (ax ic (bM T.aN (tf T) (hm hr) bx (ag (cv 0) (ag aq ak))) aq)))
   (aG (cu (i:=2) g4.nd rfl (by walk_at "o") (QL rfl rfl rfl T.dr T.aC (ag aq (ag (ax dv (cv 1) aq) ak))))
   (aG (cu (i:=3) g4.nd rfl (by walk_at "o") (bM T.cN (Kg T) (hm hr) bx (ag (cv 0) (ag (cv 2) ak))))
   (aG (cu (i:=4) g4.nd rfl (by walk_at "o") (ix (ag (ax dv dZ (gj kO (by rfl) T.cC PyProof.Rows.boot_str (ag (cv 1) ak))) ak)))
   (A1 (gQ PassesOwn.never rfl (gI (cv 3)) (jx rfl (dm (aY (i:=5) g4.nd rfl (by walk_at "o")) (dm (aY (i:=6) g4.nd rfl (by walk_at "o")) (dm (aY (i:=7) g4.nd rfl (by walk_at "o")) jv)))) (aM (jP (gP Zpo Zpp Zpq (kE jV) (cv 4) (ag (ax dv (ax dv (ax dv (ax dv (gj kO (by rfl) T.cC PyProof.Rows.boot_str (ag (cv 5) ak)) dZ) (gP Zpr Zps Zpt rV dZ (ag (ia (N:=["_law_one"]) (k:=1) (sel:=[]) (ao.of (aO mz).names (by decide +kernel)) (av.of yv (by decide +kernel)) rfl (gI (cv 6)) (fun _ _ _ _=>(aY (i:=0) (show ZpF (["_law_one"]:List Str) by decide +kernel) rfl (by walk_at "o"))) (fun _ _ _ _=>fz) (fun _ _ _ _=>(gj kO (by rfl) T.cC PyProof.Rows.boot_str (ag (cv 0) ak)))) ak))) dZ) (cv 7)) ak)))))
   (aG (cu (i:=8) g4.nd rfl (by walk_at "o") (bM T.aN (tf T) (hm hr) bx (ag (cv 0) (ag aq ak))))
   (aG (cu (i:=9) g4.nd rfl (by walk_at "o") (ix ak))
   (aG (gQ PassesOwn.never rfl (jJ rfl T.aC (ag (ax dv aq (ax ic (cv 8) aq)) ak)) (aY (i:=10) g4.nd rfl (by walk_at "o")) (aM (jP (gP Zpo Zpp Zpq (kE jV) (cv 9) (ag (kP (ag (ax ic (ax ml (ax iS (cv 8) aq) (ax kJ aq (cv 10))) aq) (ag (bJ bK (ax dv (ix (ag aq ak)) (cv 2)) (ax DK (jW kq aq) (ax ic (ax ml (ax iS (cv 8) aq) (ax kJ aq (cv 10))) (ax dv (cq eZ (by rfl) T.ay PySem.boot_len (ag (cv 2) ak)) aq))) (fun _ _=>rfl)) ak))) ak)))))
   (A1 (jP (gP Zpo Zpp Zpq (kE jV) (cv 4) (ag (ax dv dZ (gP Zpr Zps Zpt rV dZ (ag (ia (N:=["_law_turned","_law_knot"]) (k:=2) (sel:=[]) (ao.of (aO mz).names (by decide +kernel)) (av.of yv (by decide +kernel)) rfl (gI (cv 9)) (fun _ _ _ _=>(jx rfl (dm (aY (i:=0) (show ZpF (["_law_turned","_law_knot"]:List Str) by decide +kernel) rfl (by walk_at "o")) (dm (aY (i:=1) (show ZpF (["_law_turned","_law_knot"]:List Str) by decide +kernel) rfl (by walk_at "o")) jv)))) (fun _ _ _ _=>fz) (fun _ _ _ _=>(ax dv (bJ bK (ix (zz (vs:=[(.str ""),(.str "-")]) rfl)) (cv 0) (fun _ _=>rfl)) (gj kO (by rfl) T.cC PyProof.Rows.boot_str (ag (cv 1) ak))))) ak))) ak)))
   (aG (cu (i:=11) g4.nd rfl (by walk_at "o") (gj DY (by rfl) T.dr PyProof.Rows.boot_list (ag (cv 4) ak)))
   (aG (cu (i:=12) g4.nd rfl (by walk_at "o") (bM T.fO (Ou T) (hm hr) bx (ag (cv 11) ak)))
   (aG (eY (PW.pt (hG (iy (g7 (cq mq (by rfl) T.aA PyProof.Rows.boot_isinstance (ag (cv 12) (ag (Fh (v:=.ref a.ab) rfl T.hV rfl) ak))))) (hG (dN (iW (fo hr)) (cv 11) (cv 4) (cR _)) (jF (dN (iW (fo hr)) (mO (cv 12) rfl) (cv 1) (cR _)))))) (aM (bO ip)) eU)
   (aG (eY (dN (iW (fo hr)) (vR (cv 12) T.az T.bf.e (HD T) (hm hr) T.bf.b .nil bx) (ia (N:=["_law_turned","_law_knot"]) (k:=2) (sel:=[]) (ao.of (aO mz).names (by decide +kernel)) (av.of yv (by decide +kernel)) rfl (gI (cv 9)) (fun _ _ _ _=>(jx rfl (dm (aY (i:=0) (show ZpF (["_law_turned","_law_knot"]:List Str) by decide +kernel) rfl (by walk_at "o")) (dm (aY (i:=1) (show ZpF (["_law_turned","_law_knot"]:List Str) by decide +kernel) rfl (by walk_at "o")) jv)))) (fun _ _ _ _=>fz) (fun _ _ _ _=>(ax dv (ax kJ aq (cv 1)) (cv 0)))) (cR _)) (aM (bO ip)) eU)
   (A1 (eY (iy (g7 (bM T.bL (Md T) (hm hr) bx (ag (vR (cv 12) T.az T.aP.e (Ff T) (hm hr) T.aP.b .nil bx) (ag (cv 3) ak))))) (aM (bO ip)) eU)
   (aG (cu (i:=13) g4.nd rfl (by walk_at "o") (vR (cv 12) T.az T.br.e (M8 T) (hm hr) T.br.b .nil bx))
   (aG (cu (i:=14) g4.nd rfl (by walk_at "o") (ax ic (ax iS (cv 8) aq) (ax kr aq (cv 1))))
   (aG (cu (i:=15) g4.nd rfl (by walk_at "o") (bM T.gp (Kf T) (hm hr) bx (ag (cv 3) (ag (cv 1) (ag (cv 14) ak)))))
   (aG (gQ PassesOwn.never rfl (jJ rfl T.aC (ag (cq eZ (by rfl) T.ay PySem.boot_len (ag (cv 9) ak)) ak)) (aY (i:=10) g4.nd rfl (by walk_at "o")) (aG (eY (iy (g7 (bM T.bN (Ct T) (hm hr) bx (ag (bJ bK (cv 13) (cv 10) (fun _ _=>rfl)) ak)))) (aM (bO ip)) eU)
   (aM (eY (dN (iW (fo hr)) (ax sP (ax ml (bJ bK (cv 13) (cv 10) (fun _ _=>rfl)) (cv 14)) aq) (ax BC (xf (js hr) (cv 15) (bJ bK (bJ bK (cv 9) (cv 10) (fun _ _=>rfl)) aq (fun _ _=>rfl)) (fun _ _=>rfl)) (bJ bK (bJ bK (cv 9) (cv 10) (fun _ _=>rfl)) aq (fun _ _=>rfl))) (cR _)) (aM (bO ip)) eU))))
   (aM (bO (wc (qx (ku (fo hr)) (cq eZ (by rfl) T.ay PySem.boot_len (ag (cv 13) ak)) (cq eZ (by rfl) T.ay PySem.boot_len (ag (cv 9) ak)) (cR _)) (vd (qx (ku (fo hr)) (bM T.dD (LM T) (hm hr) bx (ag (cv 12) ak)) (cv 4) (cR _))))))))))))))))))))))))
theorem pG (T:Txt K mg a):aB P w K mg base cb 7 a.jU a.mK ["_law_script"] (fw K):=by
 refine T.mR.n.dt g4 (o2 T) (fun vs H Q E h=>?_) (fun H vs Q E h=>?_)
 ·obtain ⟨p,ns,rfl,_⟩:=h;rfl
 ·obtain ⟨p,ns,rfl,hS,hl,k⟩:=h
  show BR a K _ [some (.ref p),none,none,none,none,none,none,none,none,none,none,none,none,none,none,none] H
  unfold BR
  have big:(20000:Nat)<=sizeLine:=by decide
  walk_at "gs"
  refine ⟨p,ns,0,rfl,hS,fun c0 hc0=>?_⟩
  walk_at "gs"
  obtain ⟨m,hm⟩:=Zq2 (by omega:0<=1+c0 % 10)
  rw [hm]
  have m1:1<=m:=by omega
  have bA:m<=10:=by omega
  clear hm
  walk_at "gs"
  refine ⟨1,(m:Int)+1,rfl,⟨by decide,by decide,by omega,by omega⟩,by omega,by omega,fun kp H1 n1=>?_⟩
  have ek:(Zpv ((m:Int)+1 - 1).toNat).map (fun k:Nat=>V.int (1+(k:Int)))=(known m []).map V.int:=by
   unfold known
   rw [Zp9,Zp4,Zpz,show ((m:Int)+1 - 1).toNat=m by omega]
   rfl
  rw [ek] at n1
  refine ⟨p,kp,ns,m,rfl,fun H' kb=>rq.seq hS n1.cP n1.same kb,n1.at_,m1,bA,hl,fun l ts ps H2 kb sQ hT hK wp hz=>?_⟩
  have PJ:aI K H2 p (ns.map V.int):=rq.seq hS n1.cP n1.same kb
  have zt:=jO (i:=(m:Int)) (by omega) (by omega)
  have Rl:Str.length "board " = 6:=by decide +kernel
  refine ⟨lz (by omega) (by omega),by show Str.length "board " + (sN m).length<=_;omega,by show 1<=sizeLine;decide,fun lp H3 n3=>?_⟩
  have e3:[V.str ("board " ++ (toString (m:Int):Str))]=([jn ["board",sN m]]:List Str).map V.str:=by rw [show ("board " : Str) ++ (toString (m:Int):Str)=jn ["board",sN m] from O4 _];rfl
  rw [e3] at n3
  have iz:=hT.len
  have OO:=hT.same n3.same
  refine mid (fun σ' H'=>∃ v5 v6 v7,aD H2 H'/\H2 lp=none/\H' lp=some (.lst ((jn ["board",sN m] :: ps.map sS).map V.str))/\σ'=[some (.ref p),some (.int m),some (.ref kp),some (.ref l),some (.ref lp),v5,v6,v7,none,none,none,none,none,none,none,none]) ?_ ?_
  ·intro N hN
   walk_at "gs"
   refine ⟨⟨_,.of OO.lst⟩,rC (xs:=ts.map fun t=>V.ref t.1) (fun i σ H4=>aD H2 H4/\H4 lp=some (.lst ((jn ["board",sN m] :: (ps.take i).map sS).map V.str))/\∃ v5 v6 v7,σ=[some (.ref p),some (.int m),some (.ref kp),some (.ref l),some (.ref lp),v5,v6,v7,none,none,none,none,none,none,none,none]) ⟨n3.same,n3.at_,_,_,_,rfl⟩ ?_ ?_ ?_⟩
   ·rintro i σ H4 _ ⟨s4,_⟩
    exact .of (s4 _ _ hT.lst)
   ·rintro i v σ H4 hv ⟨s4,h4,v5,v6,v7,rfl⟩
    have hi:i<ts.length:=by have:=(ZpA.mp hv).1;rwa [Zpu] at this
    obtain ⟨pc,hp,hpt,hpc⟩:=(hT.same s4).get hi
    have ev:v=.ref (ts[i]).1:=by
     rw [ZpB,Zpw hi] at hv
     cases hv
     rfl
    subst ev
    clear hv
    have Gn:=Ec wp bA hp
    have Ni:=wp.kb hp
    have zi:=zm wp bA hp
    have w1:=wp i pc hp
    have mM:=w1.l6
    have FE:=w1.l1
    generalize (ts[i]).1=t1 at *
    generalize (ts[i]).2=t2 at *
    walk_at "gs"
    refine ⟨t1,_,rfl,.of hpt,rfl,_,_,rfl,_,_,rfl,_,_,rfl,rfl,?_⟩
    have N9:=jO (i:=pc.1) (by omega) (by omega)
    have Np:Str.length " of " = 4:=by decide +kernel
    have J4:Str.length " is " = 4:=by decide +kernel
    have i6:Str.length " " <= 16:=by decide +kernel
    have Rn:=yZ pc.2.2 pc.2.1.length
    have Kn:(2:Nat) ^ pc.2.1.length<=2 ^ 6:=ZqG (by decide) mM
    have rB:∀ y∈pc.2.1.map sN,y.length<=4:=fun y hy=>by
     obtain ⟨x,hx,rfl⟩:=ZpI.mp hy
     have:=zi x hx
     exact jO (by omega) (by omega)
    have za:(jn (pc.2.1.map sN)).length<=40:=nL mM rB
    walk_at "gs"
    refine ⟨.inl ⟨by trivial,_,.of h4⟩,lz (by omega) (by omega),by show (sN pc.1).length+Str.length " of " <= _;omega,trivial,⟨_,.of hpc⟩,rW (fun v=>match v with | .int x=>.str (sN x) | v=>v) (.of hpc) rfl (by rw [Zpu];omega) ?_ ?_⟩
    ·intro v H' Q' hv s' q'
     obtain ⟨y,hy,rfl⟩:=ZpI.mp hv
     have Aa:=zi y hy
     walk_at "gs"
     exact ⟨lz (by omega) (by omega),q'⟩
    intro np H5 n5
    have e5:(pc.2.1.map V.int).map (fun v=>match v with | .int x=>V.str (sN x) | v=>v)=(pc.2.1.map sN).map V.str:=by rw [Zpz,Zpz];rfl
    rw [e5] at n5
    have l1:((sN pc.1) ++ (" of " : Str)).length=(sN pc.1).length+4:=by rw [PySem.Str.length_append,Np]
    have l2:((sN pc.1) ++ (" of " : Str) ++ jn (pc.2.1.map sN)).length=(sN pc.1).length+4+(jn (pc.2.1.map sN)).length:=by rw [PySem.Str.length_append,l1]
    have l3:((sN pc.1) ++ (" of " : Str) ++ jn (pc.2.1.map sN) ++ (" is " : Str)).length=(sN pc.1).length+4+(jn (pc.2.1.map sN)).length+4:=by rw [PySem.Str.length_append,l2,J4]
    refine ⟨_,n5.sq,sO rB (by rw [Zpu];omega) (by omega),i6,?_,?_,?_,lp,_,_,rfl,rfl,n5.same _ _ h4,by simp only [Zpu,ZpG,ZpT];omega,(s4.trans n5.same).put n3.cP,?_,_,_,_,rfl⟩
    ·show ((sN pc.1) ++ (" of " : Str)).length+(jn (pc.2.1.map sN)).length<=_
     omega
    ·show ((sN pc.1) ++ (" of " : Str) ++ jn (pc.2.1.map sN)).length+Str.length " is " <= _
     omega
    ·show ((sN pc.1) ++ (" of " : Str) ++ jn (pc.2.1.map sN) ++ (" is " : Str)).length+_<=_
     omega
    ·have el:(sN pc.1) ++ (" of " : Str) ++ jn (pc.2.1.map sN) ++ (" is " : Str) ++ bZ pc.2.2 pc.2.1.length=sS pc:=Qc (fun z=>by rw [List.map_eq_nil_iff] at z;rw [z] at FE;exact absurd FE (by decide)) _ _
     rw [bh,rM hp,Zpy,Zpx,Zpx,Zpy]
     show some (HO.lst (_ ++ [V.str ((sN pc.1) ++ (" of " : Str) ++ jn (pc.2.1.map sN) ++ (" is " : Str) ++ bZ pc.2.2 pc.2.1.length)]))=_
     rw [el]
     rfl
   ·rintro σ H4 ⟨s4,h4,v5,v6,v7,rfl⟩
    rw [Zpu,iz,ZpN] at h4
    exact hN _ _ ⟨_,_,_,s4,n3.cP,h4,rfl⟩
  rintro σ4 H4 ⟨v5,v6,v7,s4,mx,h4,rfl⟩
  have Au:=hT.same s4
  have Kj:=s4 _ _ hK
  have JX:=s4.seq PJ
  have AA:=Ey m ps
  walk_at "gs"
  refine ⟨p,ns,1,rfl,JX,fun c1 hc1=>?_⟩
  refine ⟨by show 0<=sizeLine;decide,fun op H5 n5=>?_⟩
  refine ⟨by decide,by omega,by omega,?_⟩
  obtain ⟨N,hN,hN9⟩:∃ N:Nat,(1+c1 % 9).toNat=N+1/\N<=8:=⟨(c1 % 9).toNat,by omega,by omega⟩
  rw [hN]
  refine km (fun i σ H6=>aD H4 H6/\∃ (us:List Addr) (os:List (Int × Int)) (v10:Option V),i8 H6 op us os/\(∀ u∈us,u≠op)/\os.length=i/\(∀ o∈os,Kw m ps o)/\σ=[some (.ref p),some (.int m),some (.ref kp),some (.ref l),some (.ref lp),v5,v6,v7,some (.int c1),some (.ref op),v10,none,none,none,none,none]) ⟨n5.same,[],[],_,⟨n5.at_,rfl,fun i t o ht=>by simp at ht⟩,fun u hu=>by simp at hu,rfl,fun o ho=>by simp at ho,rfl⟩ ?_ ?_
  ·rintro i σ H6 hi ⟨s6,us,os,v10,hO,hun,hol,aw,rfl⟩
   rw [show (0:Int)+(i:Int)=(i:Int) by omega]
   have HX:=s6 _ _ Kj
   have fN:=hO.len
   walk_at "gs"
   refine ⟨.inl ⟨by trivial,_,.of hO.lst⟩,⟨by decide,by decide⟩,.inl ⟨by decide,by decide⟩,by omega,by decide,by show 1<=sizeLine;decide,fun a7 H7 n7=>?_⟩
   refine ⟨_,_,n7.at_,n7.same _ _ HX,by rw [Zpu,AA];show 1+_<=_;omega,fun b8 hb8=>?_⟩
   have s8:aD H7 (upd H7 b8 (.lst ([V.int 0] ++ (known m ps).map V.int))):=eD hb8
   have a8:upd H7 b8 (.lst ([V.int 0] ++ (known m ps).map V.int)) b8=some (.lst ([V.int 0] ++ (known m ps).map V.int)):=bh
   generalize upd H7 b8 (.lst ([V.int 0] ++ (known m ps).map V.int))=H8 at s8 a8 ⊢
   refine ⟨⟨by decide,by decide⟩,.inl ⟨by decide,by decide⟩,by omega,.inl ⟨_,.inl (.of (s8 _ _ (n7.same _ _ HX))),by omega,?_⟩⟩
   obtain ⟨g,hg,hag⟩:=Kp (xs:=0 :: known m ps) (by simp) (c1 / 18 / 2 ^ (7 * (i:Int)).toNat)
   have hlen:((0 :: known m ps).length:Int)=(((known m ps).map V.int).length:Int)+1:=by rw [ZpG,Zpu];omega
   rw [hlen] at hag
   generalize hgb:c1 / 9 / 2 ^ (7 * (i:Int)).toNat % 2=gb
   refine ⟨_,_,.inl (.of a8),hag,by show 2<=sizeLine;decide,fun t9 H9 n9=>?_⟩
   have AJ:aD H6 H9:=(n7.same.trans s8).trans n9.same
   have GQ:t9≠op:=(cH ((n7.same.trans s8) _ _ hO.lst) n9.cP).symm
   refine ⟨op,_,_,rfl,rfl,AJ _ _ hO.lst,by rw [Zpu];omega,(s6.trans AJ).put n5.cP,us ++ [t9],os ++ [(gb,g)],_,⟨by rw [bh,Zpy];rfl,by rw [ZpD,ZpD,fN];rfl,fun j t o ht ho=>?_⟩,fun u hu=>?_,by rw [ZpD,hol];rfl,fun o ho=>?_,rfl⟩
   ·by_cases hj:j<us.length
    ·rw [ZpQ hj] at ht
     rw [ZpQ (by omega)] at ho
     rw [aJ (hun t (Zp5 ht))]
     exact AJ _ _ (hO.at_ j t o ht ho)
    ·rw [ZpP (by omega)] at ht ho
     have e0:j - us.length=0:=by
      have:=(ZpA.mp ht).1
      simp at this
      omega
     rw [<- fN,e0] at ho
     rw [e0] at ht
     have e1:t9=t:=Option.some.inj ht
     have e2:(gb,g)=o:=Option.some.inj ho
     subst e1 e2
     rw [aJ GQ]
     exact n9.at_
   ·rcases ZpM.mp hu with z | z
    ·exact hun u z
    ·rw [ZpH] at z
     exact z ▸ GQ
   ·rcases ZpM.mp ho with z | z
    ·exact aw o z
    ·rw [ZpH] at z
     subst z
     refine ⟨by show gb=0\/gb=1;omega,?_⟩
     rcases ZpC.mp hg with z | z
     ·exact .inl z
     ·exact .inr z
  ·rintro σ H6 ⟨s6,us,os,v10,hO,hun,hol,aw,rfl⟩
   have fN:=hO.len
   obtain ⟨ae,hties⟩:∃ ae:List Int,ae=os.map iZ:=⟨_,rfl⟩
   have wt:WT m ps ae:=by
    rw [hties]
    refine ⟨by rw [Zpu];omega,by rw [Zpu];omega,fun t ht=>?_⟩
    obtain ⟨o,ho,rfl⟩:=ZpI.mp ht
    obtain ⟨h1,h2⟩:=aw o ho
    have e:iZ o / 2=o.2:=by unfold iZ;omega
    rw [e]
    refine ⟨?_,h2⟩
    unfold iZ
    rcases h2 with z | z
    ·omega
    ·have:=wp.known bA (i:=ps.length) (x:=o.2) (by rw [ZpN];exact z)
     omega
   have pE:jn ["board",sN m] :: (ps.map sS ++ [jn (("out" : Str) :: ae.map bp)])=m5 m ps ae:=rfl
   refine mid (fun σ' H'=>aD H2 H'/\H' lp=some (.lst ((m5 m ps ae).map V.str))/\i8 H' op us os/\σ'=[some (.ref p),some (.int m),some (.ref kp),some (.ref l),some (.ref lp),v5,v6,v7,some (.int c1),some (.ref op),v10,none,none,none,none,none]) ?_ ?_
   ·intro N hN
    walk_at "gs"
    refine ⟨.inl ⟨by trivial,_,.of (s6 _ _ h4)⟩,trivial,⟨_,.of hO.lst⟩,mZ (fun o=>.str (bp (iZ o))) hO (by omega) ?_ ?_⟩
    ·intro o H' Q' ho s' q'
     obtain ⟨h1,h2⟩:=aw o ho
     have hb:0<=o.2/\o.2<=999:=by
      rcases h2 with z | z
      ·omega
      ·have:=wp.known bA (i:=ps.length) (x:=o.2) (by rw [ZpN];exact z)
       omega
     walk_at "gs"
     intro a9 H9 n9
     obtain ⟨sg,hsg,esg,lsg⟩:=JZ h1
     have N9:=jO hb.1 (by omega)
     refine ⟨_,_,.inl (.of n9.at_),hsg,lz hb.1 (by omega),by show sg.length+(sN o.2).length<=_;omega,?_⟩
     show Q' (V.str (sg ++ sN o.2)) H9
     rw [esg]
     exact q' _ n9.same
    intro jp H9 n9
    have e9:os.map (fun o=>V.str (bp (iZ o)))=(ae.map bp).map V.str:=by rw [hties,Zpz,Zpz];rfl
    rw [e9] at n9
    have ow:=Ci wt wp bA
    have Fd:=wt.lh
    have sQ:=wt.l1
    have lF:ae.map bp≠[]:=fun z=>by rw [List.map_eq_nil_iff] at z;rw [z] at sQ;exact absurd sQ (by decide)
    have Ql:Str.length "out " = 4:=by decide +kernel
    have MZ:Str.length "out" = 3:=by decide +kernel
    have JP:("out " : Str) ++ jn (ae.map bp)=jn (("out" : Str) :: ae.map bp):=pq lF
    have C7:(("out " : Str) ++ jn (ae.map bp)).length<=1000:=by
     rw [JP]
     unfold jn
     rw [j8]
     have h2:=rX (k:=5) (ae.map bp) "out" ow.1
     rw [Zpu] at h2
     omega
    rw [PySem.Str.length_append] at C7
    refine ⟨_,n9.sq,sO ow.1 (by rw [Zpu];omega) (by omega),by decide +kernel,by show Str.length "out " + (jn (ae.map bp)).length<=_;omega,lp,_,_,rfl,rfl,(s6.trans n9.same) _ _ h4,by simp only [Zpu,ZpG];omega,hN _ _ ⟨((s4.trans s6).trans n9.same).put mx,?_,?_,rfl⟩⟩
    ·rw [bh,<- pE,Zpx,Zpx,Zpy]
     show some (HO.lst (_ ++ [V.str (("out " : Str) ++ jn (ae.map bp))]))=_
     rw [JP]
     rfl
    ·have Bm:=hO.same n9.same
     have LW:op≠lp:=(cH h4 n5.cP).symm
     refine ⟨by rw [aJ LW];exact Bm.lst,Bm.len,fun i t o ht ho=>?_⟩
     have g:=Bm.at_ i t o ht ho
     rw [aJ (jb g ((s6.trans n9.same) _ _ h4) (fun z=>nomatch z))]
     exact g
   rintro σ7 H7 ⟨s7,h7,hO7,rfl⟩
   have uO:=hT.same s7
   walk_at "gs"
   refine ⟨_,.inl (.of h7),fun hd H8 n8=>?_⟩
   refine ⟨hd,m,ps,ae,rfl,n8.at_,wp,wt,m1,bA,by omega,fun x H9 s9 hB=>?_⟩
   obtain ⟨dx,bk,bt,bts,hx,hBP,hBT⟩:=id hB
   refine ⟨_,true,.ins hx T.az T.kj_Board T.kq_Board T.kt_Board T.km_Board,T.ki_Board,?_⟩
   rw [if_neg (fun z=>nomatch z)]
   have FH:=n8.same.trans s9
   refine ⟨true,.inl ⟨rfl,Fm (n:=3) (s9 _ _ n8.at_) (FH _ _ h7)⟩,?_⟩
   rw [if_neg (fun z=>nomatch z)]
   refine ⟨x,a.ab,dx,_,_,rfl,hx,T.az,T.aW,rfl,?_⟩
   show if ¬ (m:Int)=(m:Int) then _ else _
   rw [if_neg (fun z=>z rfl)]
   refine ⟨x,dx,_,rfl,hx,rfl,x,m,ps,ae,rfl,hB,fun tl H10 n10=>?_⟩
   have va:=FH.trans n10.same
   have vP:=hO7.same va
   refine ⟨⟨_,.of vP.lst⟩,mZ (fun o=>.int (iZ o)) vP (by omega) ?_ ?_⟩
   ·intro o H' Q' ho s' q'
    walk_at "gs"
    exact q' _ (aD.refl _)
   intro jp H11 n11
   have Mb:os.map (fun o=>V.int (iZ o))=ae.map V.int:=by rw [hties,Zpz];rfl
   rw [Mb] at n11
   refine ⟨true,.inl ⟨rfl,EN (n:=3) (n11.same _ _ n10.at_) n11.at_⟩,?_⟩
   have uX:=va.trans n11.same
   have kY:=hB.same (n10.same.trans n11.same)
   rw [if_neg (fun z=>nomatch z)]
   refine mid (fun σ' H'=>aD H7 H'/\i0 a.ab H' x m ps ae/\σ'=[some (.ref p),some (.int m),some (.ref kp),some (.ref l),some (.ref lp),v5,v6,v7,some (.int c1),some (.ref op),v10,some (.ref hd),some (.ref x),none,none,none]) ?_ ?_
   ·intro N hN
    walk_at "gs"
    obtain ⟨dx',bk',bt',bts',hx',_,_⟩:=id kY
    refine ⟨x,dx',_,rfl,hx',rfl,x,m,ps,ae,rfl,kY,by omega,fun ql uu H12 hq12 s12 hU hun=>?_⟩
    refine ⟨ql,l,uu,ts,m,ps,rfl,hU,(uO.same uX).same s12,wp,by omega,fun Po lG=>?_⟩
    show if true=false then _ else _
    rw [if_neg (fun z=>nomatch z)]
    exact hN _ _ ⟨(uX.trans s12).trans lG,kY.same (s12.trans lG),rfl⟩
   rintro σ12 H12 ⟨s12,hB12,rfl⟩
   obtain ⟨dx2,bk2,bt2,bts2,hx12,_,_⟩:=id hB12
   clear hB hBP hBT kY
   walk_at "gs"
   refine ⟨x,dx2,_,rfl,hx12,rfl,x,m,ps,ae,rfl,hB12,wp,wt,bA,by omega,fun cl Po md13=>?_⟩
   obtain ⟨D1,h13,lG⟩:=md13
   have zF:(0:Int)<1 * 2 ^ ((m:Int)).toNat:=by rw [Zq3];exact Int.pow_pos (by decide)
   obtain ⟨L,hL⟩:=Zq2 (Zq5 (c1 / 7) (show (1 * 2 ^ ((m:Int)).toNat:Int)≠0 by omega))
   have Jq:L<2 ^ m:=by
    have:=Zq7 (c1 / 7) zF
    rw [hL,Zq3,Zq1] at this
    exact_mod_cast this
   refine ⟨⟨by decide,by decide⟩,⟨by omega,by omega,by decide⟩,zF,?_⟩
   rw [hL]
   refine ⟨m,L,l,ts,ps,rfl,uO.same (s12.trans lG),wp,bA,by omega,fun d kvs H14 md14 hk14=>?_⟩
   obtain ⟨CT,h14,oA⟩:=md14
   have xq:=(s12.trans lG).trans oA
   have jQ:=hO7.same xq
   have nP:=oA _ _ h13
   have lc:(ky m ps ae).length=ae.length:=by unfold ky;rw [Zpu]
   have lt':ae.length=os.length:=by rw [hties,Zpu]
   refine .inl ⟨_,.inl (.of jQ.lst),?_⟩
   rw [Zpu]
   refine ⟨by omega,by omega,?_⟩
   rw [Zq1]
   refine km (fun j σ H15=>H15=H14/\∃ v10,σ=[some (.ref p),some (.int m),some (.ref kp),some (.ref l),some (.ref lp),v5,v6,v7,some (.int c1),some (.ref op),v10,some (.ref hd),some (.ref x),some (.ref cl),some (.int L),some (.ref d)]) ⟨rfl,_,rfl⟩ ?_ ?_
   ·rintro j σ H15 hj ⟨rfl,v10,rfl⟩
    rw [show (0:Int)+(j:Int)=(j:Int) by omega]
    obtain ⟨o,hjo⟩:∃ o,os[j]? = some o:=⟨_,Zpw (by omega)⟩
    have Fo:us[j]? = some us[j]:=Zpw hj
    have Of:ae[j]? = some (iZ o):=by rw [hties,ZpB,hjo];rfl
    have CL:=aw _ (Zp5 hjo)
    have G9:=jQ.at_ j _ _ Fo hjo
    have ha:dk ((ky m ps ae).map nv) (j:Int)=some (nv ((ky m ps ae).getD j 0)):=lR (by omega) (by rw [lc];omega)
    have Hj:dk (us.map V.ref) (j:Int)=some (.ref us[j]):=jh (by rw [ZpB,Fo];rfl)
    generalize us[j]=uj at *
    have g1:=gX.k (k:=.inl o.2) h14
    rw [hk14 _ CL.2] at g1
    have heq:Builtin.bitAnd (((ky m ps ae).getD j 0:Int) / 2 ^ ((L:Int)).toNat) 1=Builtin.bitXor ((kj m L ps o.2:Nat):Int) o.1:=by
     unfold kj
     rw [wx,Km Of,qO (by unfold je;exact MP.GZ Jq),MP.O7 Jq,ve CL.1,show iZ o / 2=o.2 by have:=CL.1;unfold iZ;omega]
     unfold iZ
     omega
    unfold nv at ha g1
    walk_at "gs"
    refine ⟨_,_,.inl (.of nP),ha,_,rfl,?_⟩
    show if true=false then _ else _
    rw [if_neg (fun z=>nomatch z)]
    refine ⟨_,_,.inl (.of nP),ha,?_⟩
    refine ⟨by omega,_,_,.inl (.of jQ.lst),Hj,_,_,.inr (.of G9),jh (j:=1) rfl,d,_,rfl,g1,_,_,.inl (.of jQ.lst),Hj,_,_,.inr (.of G9),jh (j:=0) rfl,?_⟩
    show if ¬ _=_ then _ else _
    rw [if_neg (fun z=>z heq)]
    exact ⟨rfl,_,rfl⟩
   ·rintro σ H15 ⟨rfl,v10,rfl⟩
    walk_at "gs"
    refine .inl ⟨_,.inl (.of nP),.inl ⟨_,.inl (.of jQ.lst),?_⟩⟩
    rw [Zpu,Zpu,if_pos (by rw [lc];omega)]
    refine ⟨x,m,ps,ae,rfl,(hB12.same lG).same oA,wp,wt,bA,by omega,fun gl H16 md=>?_⟩
    obtain ⟨d1,d2,d3⟩:=md
    exact ⟨true,.inl ⟨rfl,Fm (n:=3) d2 (d3 _ _ (xq _ _ h7))⟩,k _⟩
open GM
theorem mY {us:List Value} (h:us.length=1):∃ a,us=[a]:=List.length_eq_one_iff.mp h
theorem me {us:List Value} (h:us.length=2):∃ a b,us=[a,b]:=by
 obtain _ | ⟨a,t⟩:=us
 ·cases h
 ·obtain ⟨b,rfl⟩:=mY (Nat.succ.inj h)
  exact ⟨a,b,rfl⟩
theorem mh {us:List Value} (h:us.length=3):∃ a b c,us=[a,b,c]:=by
 obtain _ | ⟨a,t⟩:=us
 ·cases h
 ·obtain ⟨b,c,rfl⟩:=me (Nat.succ.inj h)
  exact ⟨a,b,c,rfl⟩
theorem mC {us:List Value} (h:us.length=4):∃ a b c d,us=[a,b,c,d]:=by
 obtain _ | ⟨a,t⟩:=us
 ·cases h
 ·obtain ⟨b,c,d,rfl⟩:=mh (Nat.succ.inj h)
  exact ⟨a,b,c,d,rfl⟩
theorem mn {us:List Value} (h:us.length=5):∃ a b c d e,us=[a,b,c,d,e]:=by
 obtain _ | ⟨a,t⟩:=us
 ·cases h
 ·obtain ⟨b,c,d,e,rfl⟩:=mC (Nat.succ.inj h)
  exact ⟨a,b,c,d,e,rfl⟩
theorem wy {us:List Value} (h:us.length=6):∃ a b c d e f,us=[a,b,c,d,e,f]:=by
 obtain _ | ⟨a,t⟩:=us
 ·cases h
 ·obtain ⟨b,c,d,e,f,rfl⟩:=mn (Nat.succ.inj h)
  exact ⟨a,b,c,d,e,f,rfl⟩
local macro_rules | `(tactic| walk_at "b1")=>`(tactic| exact fun _ _ _ _ _ _ us hl=>by obtain ⟨_,e⟩:=mY hl;subst e;rfl)
local macro_rules | `(tactic| walk_at "b2")=>`(tactic| exact fun _ _ _ _ _ _ us hl=>by obtain ⟨_,_,e⟩:=me hl;subst e;rfl)
local macro_rules | `(tactic| walk_at "b3")=>`(tactic| exact fun _ _ _ _ _ _ us hl=>by obtain ⟨_,_,_,e⟩:=mh hl;subst e;rfl)
local macro_rules | `(tactic| walk_at "b4")=>`(tactic| exact fun _ _ _ _ _ _ us hl=>by obtain ⟨_,_,_,_,e⟩:=mC hl;subst e;rfl)
local macro_rules | `(tactic| walk_at "b5")=>`(tactic| exact fun _ _ _ _ _ _ us hl=>by obtain ⟨_,_,_,_,_,e⟩:=mn hl;subst e;rfl)
local macro_rules | `(tactic| walk_at "b6")=>`(tactic| exact fun _ _ _ _ _ _ us hl=>by obtain ⟨_,_,_,_,_,_,e⟩:=wy hl;subst e;rfl)
theorem all_mk {l:Zpk}{w:World}{K:ZoW}{h:Heap}{mg:Str->Option Value}{fa:Addr} (X:K.In h) (G:h.Ns mainGlobals mg) (Ot:mg "law" = some (.ref fa))
  {f0:Addr}{f1:Addr}{f2:Addr}{f3:Addr}{f4:Addr}{f5:Addr}{f6:Addr}{f7:Addr}{f8:Addr}{f9:Addr}{IF:Addr}{Gv:Addr}{E1:Addr}{D1:Addr}{CT:Addr}{Hc:Addr}{GS:Addr}{Gs:Addr}{EO:Addr}{JS:Addr}{IS:Addr}{Iw:Addr}{Iq:Addr}{Hy:Addr}{Jr:Addr}{Ju:Addr}{Hh:Addr}{Ja:Addr}{JG:Addr}{F9:Addr}{G4:Addr}{Jk:Addr}{Fe:Addr}{Ka:Addr}{aR:Addr}{iG:Tok}{eI:Tok}{fL:Tok}{fc:Tok}{fG:Tok}
  (gL:CP K "Board" aR)
  (x0:FP K "full_column" vo f0)
  (x1:FP K "input_columns" rG f1)
  (x2:FP K "chosen_lit" vk f2)
  (x3:FP K "lit_tie" wg f3)
  (x4:FP K "is_whole" wH f4)
  (x5:FP K "is_between" yB f5)
  (x6:FP K "is_rising" sh f6)
  (x7:FP K "is_cut_of" sJ f7)
  (x8:FP K "need_pieces" rT f8)
  (x9:FP K "need_ties" uP f9)
  (Qh:FP K "piece_column" qj IF)
  (IA:FQ K aR "__init__" "Board.__init__" sy Gv)
  (L3:FQ K aR "pieces" "Board.pieces" sF E1)
  (MD:FQ K aR "ties" "Board.ties" xn D1)
  (Ln:FQ K aR "columns" "Board.columns" qb CT)
  (PQ:FP K "table_text" su Hc)
  (L8:FP K "tie_text" ur GS)
  (O2:FP K "board_lines" p5 Gs)
  (Qt:FP K "number_of" rL EO)
  (Nd:FP K "many_of" sZ JS)
  (LY:FP K "table_of" lQ IS)
  (Mm:FP K "piece_of" rF Iw)
  (Oo:FP K "tie_of" uz Iq)
  (NV:FP K "ties_of" rR Hy)
  (Mp:FP K "board_of" nV Jr)
  (OG:FP K "_law_cell_at" wR Ju)
  (L4:FP K "_law_cut" xb Hh)
  (Qq:FP K "_law_piece" xE Ja)
  (LN:FP K "_law_lit" xG JG)
  (Oq:FP K "_law_number" tE F9)
  (Lk:FP K "_law_whole" uI G4)
  (Lz:FP K "_law_pieces_told" yn Jk)
  (Og:FP K "_law_pieces_by" ug Fe)
  (Ip:FP K "law" mz Ka)
  (ki_Board:Zo7 K (.ref aR) (.ref aR)=some true)
  (kj_Board:ZoY K (.ref aR) "__class__" = some (some (.builtin "object.__class__")))
  (kq_Board:Zpc K (.builtin "object.__class__") "__get__" = some (some (.builtin "getset_descriptor.__get__")))
  (kt_Board:Zpi K (.builtin "object.__class__")=some true)
  (km_Board:Zpj K aR (.type "object")=some true)
  (n_Board_many:ZoY K (.ref aR) "many" = some none)
  (n_Board_kept_pieces:ZoY K (.ref aR) "kept_pieces" = some none)
  (n_Board_kept_ties:ZoY K (.ref aR) "kept_ties" = some none)
  (g_FIGURES:ZoX K mainGlobals "FIGURES" = some (some (.str "0123456789" iG)))
  (g_GREATEST_KNOT:ZoX K mainGlobals "GREATEST_KNOT" = some (some (.int 999 eI)))
  (g_LONGEST_CUT:ZoX K mainGlobals "LONGEST_CUT" = some (some (.int 6 fL)))
  (g_MOST_FIGURES:ZoX K mainGlobals "MOST_FIGURES" = some (some (.int 3 fc)))
  (g_MOST_INPUTS:ZoX K mainGlobals "MOST_INPUTS" = some (some (.int 10 fG)))
  (z_all:ZoX K mainGlobals "all" = some none)
  (z_bool:ZoX K mainGlobals "bool" = some none)
  (z_dict:ZoX K mainGlobals "dict" = some none)
  (z_enumerate:ZoX K mainGlobals "enumerate" = some none)
  (z_int:ZoX K mainGlobals "int" = some none)
  (z_isinstance:ZoX K mainGlobals "isinstance" = some none)
  (z_len:ZoX K mainGlobals "len" = some none)
  (z_list:ZoX K mainGlobals "list" = some none)
  (z_min:ZoX K mainGlobals "min" = some none)
  (z_range:ZoX K mainGlobals "range" = some none)
  (z_sorted:ZoX K mainGlobals "sorted" = some none)
  (z_str:ZoX K mainGlobals "str" = some none)
  (z_sum:ZoX K mainGlobals "sum" = some none)
  (z_tuple:ZoX K mainGlobals "tuple" = some none)
  (z_zip:ZoX K mainGlobals "zip" = some none) :
  ∃ fd:FuncData,(∀ (s:Shared) (v:Value),BindsTo s fd ⟨[v],[]⟩ [("_law_script",v)])/\∀ base:Heap,K.In base->base.Ns mainGlobals mg->aB l.prog w K mg base cb 7 fa fd ["_law_script"] (fw K):=by
 have e:=Ot.symm.trans (Zo3 X G Ip.choose_spec.1)
 cases e
 have T:Txt K mg ⟨f0,_,f1,_,f2,_,f3,_,f4,_,f5,_,f6,_,f7,_,f8,_,f9,_,IF,_,Gv,_,E1,_,D1,_,CT,_,Hc,_,GS,_,Gs,_,EO,_,JS,_,IS,_,Iw,_,Iq,_,Hy,_,Jr,_,Ju,_,Hh,_,Ja,_,JG,_,F9,_,G4,_,Jk,_,Fe,_,_,_,aR⟩:=⟨x0.ft X G (by walk_at "b1"),x1.ft X G (by walk_at "b1"),x2.ft X G (by walk_at "b2"),x3.ft X G (by walk_at "b3"),x4.ft X G (by walk_at "b1"),x5.ft X G (by walk_at "b3"),x6.ft X G (by walk_at "b1"),x7.ft X G (by walk_at "b2"),x8.ft X G (by walk_at "b2"),x9.ft X G (by walk_at "b2"),Qh.ft X G (by walk_at "b3"),IA.fm (by walk_at "b4"),L3.fm (by walk_at "b1"),MD.fm (by walk_at "b1"),Ln.fm (by walk_at "b1"),PQ.ft X G (by walk_at "b2"),L8.ft X G (by walk_at "b1"),O2.ft X G (by walk_at "b1"),Qt.ft X G (by walk_at "b1"),Nd.ft X G (by walk_at "b1"),LY.ft X G (by walk_at "b2"),Mm.ft X G (by walk_at "b1"),Oo.ft X G (by walk_at "b1"),NV.ft X G (by walk_at "b1"),Mp.ft X G (by walk_at "b1"),OG.ft X G (by walk_at "b2"),L4.ft X G (by walk_at "b2"),Qq.ft X G (by walk_at "b3"),LN.ft X G (by walk_at "b3"),Oq.ft X G (by walk_at "b1"),Lk.ft X G (by walk_at "b1"),Lz.ft X G (by walk_at "b2"),Og.ft X G (by walk_at "b2"),Ip.ft X G (by walk_at "b1"),Zo3 X G gL.a,gL.cl,gL.OV IA,n_Board_many,n_Board_kept_pieces,n_Board_kept_ties,ki_Board,kj_Board,kq_Board,kt_Board,km_Board,⟨_,Zo3 X G g_FIGURES,⟨_,rfl⟩⟩,⟨_,Zo3 X G g_GREATEST_KNOT,⟨_,rfl⟩⟩,⟨_,Zo3 X G g_LONGEST_CUT,⟨_,rfl⟩⟩,⟨_,Zo3 X G g_MOST_FIGURES,⟨_,rfl⟩⟩,⟨_,Zo3 X G g_MOST_INPUTS,⟨_,rfl⟩⟩,ZoZ X G z_all,ZoZ X G z_bool,ZoZ X G z_dict,ZoZ X G z_enumerate,ZoZ X G z_int,ZoZ X G z_isinstance,ZoZ X G z_len,ZoZ X G z_list,ZoZ X G z_min,ZoZ X G z_range,ZoZ X G z_sorted,ZoZ X G z_str,ZoZ X G z_sum,ZoZ X G z_tuple,ZoZ X G z_zip⟩
 exact ⟨_,T.mR.n.pV fun _ _ _ _ _ _ _=>rfl,fun base _ _=>pG T⟩
theorem walk {l:Zpk}{q:Program}{loose:List Str}{XP:(Str->Option Value)->Heap->Prop}{YP:World->Heap->Prop}{d:DefRec}{K:Params->ZoW} (hn:l.most=some 63) (yq:d.params.defaults=[])
  (hY:∀ (w:World) (h:Heap),YP w h->(K w.params).In h)
  (F:∀ (w:World) (mg:Str->Option Value) (fa:Addr) (h:Heap),(K w.params).In h->h.Ns mainGlobals mg->mg d.name=some (.ref fa) ->
   ∃ fd:FuncData,(∀ (s:Shared) (u:Value),BindsTo s fd ⟨[u],[]⟩ [("_law_script",u)])/\∀ base:Heap,(K w.params).In base->base.Ns mainGlobals mg->aB l.prog w (K w.params) mg base cb 7 fa fd ["_law_script"] (fw (K w.params))) :
  PySem.W.WalkO q loose XP YP l.row.toRowW d [] (fun f vs=>PySem.call f vs) :=
 L2.JB (n:=63) (k:=7) (x:="_law_script") (CX:=fun _=>cb) (sp:=fun w=>fw (K w.params)) hn (by decide) yq ⟨rfl,by decide,by decide⟩ hY F (fun _ _ a ns hl _ hS=>⟨a,ns,rfl,hS,hl,fun _=>rfl⟩) fun _ _ _ _ _ z=>z
end mW
lay_quick PySem.Challenge.pw_gatefold_k39_board_read
namespace OT
open PySem PySem.W PySem.Spec PyProof.Rows L2
noncomputable section
noncomputable abbrev PM:=Params
noncomputable abbrev OB:=Obj
noncomputable abbrev TP:Program:=PySem.W.Fast.tw6399270814091051884
noncomputable def tT (i:Nat):Stmt:=TP.main.body.getD i (.Pass ⟨0,0,0,0⟩)
noncomputable abbrev vs (s:Str) (t:Nat):Value:=.str s t
noncomputable abbrev vr (a:Nat):Value:=.ref a
noncomputable abbrev vi (a:Int) (t:Nat):Value:=.int a t
noncomputable abbrev nl:=BT.nil
noncomputable abbrev Zl (P:PM):BT:=BT.nil
noncomputable abbrev N (f:PM->OB) (a b:PM->BT) (P:PM):BT:=BT.node (f P) (a P) (b P)
noncomputable abbrev M (f:PM->OB) (a:PM->BT) (P:PM):BT:=BT.node (f P) (a P) BT.nil
noncomputable abbrev L (f:PM->OB) (P:PM):BT:=BT.node (f P) BT.nil BT.nil
noncomputable abbrev bF:Value:=.bool false
noncomputable abbrev bT:Value:=.bool true
noncomputable abbrev vb (y:String):Value:=.builtin y
noncomputable abbrev vt (y:String):Value:=.type y
noncomputable abbrev sr (a:Nat):Option Value:=some (.ref a)
noncomputable abbrev ss (s:Str) (t:Nat):Option Value:=some (.str s t)
noncomputable abbrev z0:Value:=.int 0 0
noncomputable abbrev of (y:String) (l:List Value):Obj:=⟨.type y,none,.fields ⟨l⟩,⟨[]⟩⟩
noncomputable abbrev oq (y:String) (l:List Value) (n:Nat):Obj:=⟨.type y,none,.seq ⟨l⟩ n,⟨[]⟩⟩
noncomputable abbrev od (y:String) (l:List DictEntry) (n:Nat):Obj:=⟨.type y,none,.dict ⟨l⟩ n,⟨[]⟩⟩
noncomputable abbrev vn:Value:=.none
noncomputable abbrev df (a:Array Value):Data:=.fields a
noncomputable abbrev dq (a:Array Value) (n:Nat):Data:=.seq a n
noncomputable abbrev dd (a:Array DictEntry) (n:Nat):Data:=.dict a n
noncomputable abbrev de (P:Params) (s:Str) (t:Nat) (v:Value):DictEntry:=.mk (PyData.keyHash P s) (.str s t) v
noncomputable abbrev ob (t:String) (d:Data) (sl:Array (Option Value)):Obj:=⟨.type t,none,d,sl⟩
noncomputable abbrev nd:=BT.node
noncomputable abbrev y0:String:=PySem.W.SL.s2766695959194262286x5
noncomputable abbrev y1:String:=PySem.W.SL.s5856160107412720595x4
noncomputable abbrev oC (a b c:Str) (n l k f v x:Nat):Obj:=of y1 [vs a n,vs b (n+1),vs c (n+2),vi l 0,vi k 0,z0,z0,vi f 0,vr v,bT,vi x 0,vr (v+1),vn,vn,vn,vr (v+2),vi (n+3) 0,vi l 0,vs c (n+4)]
noncomputable abbrev y2:String:=PySem.W.SL.s658472552662922059x5
noncomputable abbrev y3:String:=PySem.W.SL.s14018661285674007319x4
noncomputable abbrev y4:String:=PySem.W.SL.s7097527257260152453x26
noncomputable abbrev y5:String:=PySem.W.SL.s7174869446012820540x8
noncomputable abbrev y6:String:=PySem.W.SL.s6070975301684473832x10
noncomputable abbrev y7:String:=PySem.W.SL.s11030030927630378310x26
noncomputable abbrev y8:String:=PySem.W.SL.s10062305145149207511x16
noncomputable abbrev y9:String:=PySem.W.SL.s17162191345867700912x4
noncomputable abbrev uY:String:=PySem.W.SL.s5946037652744460706x9
noncomputable abbrev wL:String:=PySem.W.SL.s4278001404047624695x13
noncomputable abbrev pF:String:=PySem.W.SL.s2742458400755230247x6
noncomputable abbrev xB:String:=PySem.W.SL.s4209523147560561109x18
noncomputable abbrev B8:String:=PySem.W.SL.s14755015743595814543x17
noncomputable abbrev HN:String:=PySem.W.SL.s10220274742760427390x26
noncomputable abbrev yL:String:=PySem.W.SL.s4290257624100764138x5
noncomputable abbrev zB:String:=PySem.W.SL.s4860613602091757760x24
noncomputable abbrev MV:String:=PySem.W.SL.s11443829558043349243x14
noncomputable abbrev L5:String:=PySem.W.SL.s6511155373996960695x17
noncomputable abbrev J0:String:=PySem.W.SL.s12411053484034534018x21
noncomputable abbrev b0 (P:PM):OB:=PySem.W.boot_o_0 P
noncomputable abbrev b1 (P:PM):OB:=PySem.W.boot_o_1 P
noncomputable abbrev b2 (P:PM):OB:=PySem.W.boot_o_2 P
noncomputable abbrev b3 (P:PM):OB:=PySem.W.boot_o_3 P
noncomputable abbrev b4 (P:PM):OB:=PySem.W.boot_o_4 P
noncomputable abbrev b5 (P:PM):OB:=PySem.W.boot_o_5 P
noncomputable abbrev b6 (P:PM):OB:=PySem.W.boot_o_6 P
noncomputable abbrev b7 (P:PM):OB:=PySem.W.boot_o_7 P
noncomputable abbrev b8 (P:PM):OB:=PySem.W.boot_o_8 P
noncomputable abbrev b9 (P:PM):OB:=PySem.W.boot_o_9 P
noncomputable abbrev pO (P:PM):OB:=PySem.W.boot_o_10 P
noncomputable abbrev j0 (a b:Str) (s:Stmt):OB:=⟨vn,none,.func (.mk a b (jM s) (.stmts (iQ s)) (aO s) 0 [] vn vn vn vn none vn vn 0),⟨[]⟩⟩
noncomputable abbrev j1 (a b:Str) (s:Stmt) (q:Str) (t n:Nat):OB:=⟨(vt y5),none,.func (.mk a b (jM s) (.stmts (iQ s)) (aO s) 3 [] vn vn vn (vs q t) none (vr n) vn 0),⟨[]⟩⟩
noncomputable abbrev q0:Str:=⟨⟨[98,111,97,114,100,95,108,105,110,101,115]⟩⟩
noncomputable abbrev q1:Str:=⟨⟨[47,99,108,97,105,109,47,99,117,116,46,112,121]⟩⟩
noncomputable abbrev q2:Str:=⟨⟨[95,108,97,119,95,112,105,101,99,101,115,95,116,111,108,100]⟩⟩
noncomputable abbrev q3:Str:=⟨⟨[95,108,97,119,95,102,111,117,110,100]⟩⟩
noncomputable abbrev q4:Str:=⟨⟨[95,108,97,119,95,112,105,101,99,101,115]⟩⟩
noncomputable abbrev q5:Str:=⟨⟨[105,115,105,110,115,116,97,110,99,101]⟩⟩
noncomputable abbrev q6:Str:=⟨⟨[108,105,115,116]⟩⟩
noncomputable abbrev q7:Str:=⟨⟨[108,101,110]⟩⟩
noncomputable abbrev q8:Str:=⟨⟨[95,108,97,119,95,107]⟩⟩
noncomputable abbrev q9:Str:=⟨⟨[114,97,110,103,101]⟩⟩
noncomputable abbrev zN:Str:=⟨⟨[95,108,97,119,95,107,110,111,116]⟩⟩
noncomputable abbrev zl:Str:=⟨⟨[95,108,97,119,95,99,117,116,95,104,101,114,101]⟩⟩
noncomputable abbrev zG:Str:=⟨⟨[95,108,97,119,95,116,101,120,116]⟩⟩
noncomputable abbrev pZ:Str:=⟨⟨[95,108,97,119,95,110,117,109,98,101,114]⟩⟩
noncomputable abbrev qy:Str:=⟨⟨[95,108,97,119,95,119,104,111,108,101]⟩⟩
noncomputable abbrev gn:Str:=⟨⟨[108,97,119,95,103,97,116,101,102,111,108,100,95,107,51,57,95,98,111,97,114,100,95,114,101,97,100]⟩⟩
noncomputable abbrev mU:Str:=⟨⟨[95,95,109,111,100,117,108,101,95,95]⟩⟩
noncomputable abbrev gc:Str:=⟨⟨[103,97,116,101,102,111,108,100,46,98,111,97,114,100,115]⟩⟩
noncomputable abbrev mQ:Str:=⟨⟨[95,95,102,105,114,115,116,108,105,110,101,110,111,95,95]⟩⟩
noncomputable abbrev ux:Str:=⟨⟨[95,95,105,110,105,116,95,95]⟩⟩
noncomputable abbrev yp:Str:=⟨⟨[112,105,101,99,101,115]⟩⟩
noncomputable abbrev rK:Str:=⟨⟨[116,105,101,115]⟩⟩
noncomputable abbrev rY:Str:=⟨⟨[99,111,108,117,109,110,115]⟩⟩
noncomputable abbrev xD:Str:=⟨⟨[100,101,112,116,104,115]⟩⟩
noncomputable abbrev lY:Str:=⟨⟨[95,95,115,116,97,116,105,99,95,97,116,116,114,105,98,117,116,101,115,95,95]⟩⟩
noncomputable abbrev FD:Str:=⟨⟨[95,95,100,105,99,116,95,95]⟩⟩
noncomputable abbrev yG:Str:=⟨⟨[95,95,119,101,97,107,114,101,102,95,95]⟩⟩
noncomputable abbrev xQ:Str:=⟨⟨[95,95,100,111,99,95,95]⟩⟩
noncomputable abbrev Jf:Str:=⟨⟨[95,108,97,119,95,115,99,114,105,112,116]⟩⟩
noncomputable abbrev Ag:Str:=⟨⟨[95,108,97,119,95,107,110,111,119,110]⟩⟩
noncomputable abbrev CV:Str:=⟨⟨[95,108,97,119,95,106]⟩⟩
noncomputable abbrev OQ:Str:=⟨⟨[95,108,97,119,95,98,105,116]⟩⟩
noncomputable abbrev DR:Str:=⟨⟨[95,108,97,119,95,99,101,108,108]⟩⟩
noncomputable abbrev qM:Str:=⟨⟨[95,108,97,119,95,99,117,116]⟩⟩
noncomputable abbrev K1:Str:=⟨⟨[95,108,97,119,95,111,110,101]⟩⟩
noncomputable abbrev oh:Str:=⟨⟨[95,95,110,97,109,101,95,95]⟩⟩
noncomputable abbrev j4:Str:=⟨⟨[103,97,116,101,102,111,108,100,46,101,114,114,111,114,115]⟩⟩
noncomputable abbrev QA:Str:=⟨⟨[95,95,112,97,99,107,97,103,101,95,95]⟩⟩
noncomputable abbrev QP:Str:=⟨⟨[95,95,108,111,97,100,101,114,95,95]⟩⟩
noncomputable abbrev Om:Str:=⟨⟨[95,95,115,112,101,99,95,95]⟩⟩
noncomputable abbrev Oa:Str:=⟨⟨[95,95,97,110,110,111,116,97,116,105,111,110,115,95,95]⟩⟩
noncomputable abbrev LR:Str:=⟨⟨[95,95,98,117,105,108,116,105,110,115,95,95]⟩⟩
noncomputable abbrev NS:Str:=⟨⟨[95,95,102,105,108,101,95,95]⟩⟩
noncomputable abbrev Ph:Str:=⟨⟨[95,95,99,97,99,104,101,100,95,95]⟩⟩
noncomputable abbrev oP:Str:=⟨⟨[95,119,97,108,108]⟩⟩
noncomputable abbrev p7:Str:=⟨⟨[102,117,108,108,95,99,111,108,117,109,110]⟩⟩
noncomputable abbrev oU:Str:=⟨⟨[105,110,112,117,116,95,99,111,108,117,109,110,115]⟩⟩
noncomputable abbrev ig:Str:=⟨⟨[70,111,108,100,69,114,114,111,114]⟩⟩
noncomputable abbrev m7:Str:=⟨⟨[95,108,97,119,95,108,105,116]⟩⟩
noncomputable abbrev pk:Str:=⟨⟨[99,104,111,115,101,110,95,108,105,116]⟩⟩
noncomputable abbrev G3:Str:=⟨⟨[101,118,101,114,121]⟩⟩
noncomputable abbrev Nc:Str:=⟨⟨[102,105,114,115,116]⟩⟩
noncomputable abbrev HH:Str:=⟨⟨[103,97,116,101,102,111,108,100,46,103,97,116,101,115]⟩⟩
noncomputable abbrev nF:Str:=⟨⟨[105,115,95,98,101,116,119,101,101,110]⟩⟩
noncomputable abbrev Hd:Str:=⟨⟨[116,104,105,110,103]⟩⟩
noncomputable abbrev Od:Str:=⟨⟨[108,101,97,115,116]⟩⟩
noncomputable abbrev Pf:Str:=⟨⟨[103,114,101,97,116,101,115,116]⟩⟩
noncomputable abbrev rm:Str:=⟨⟨[105,115,95,119,104,111,108,101]⟩⟩
noncomputable abbrev r6:Str:=⟨⟨[103,97,116,101,102,111,108,100,46,119,104,111,108,101,115]⟩⟩
noncomputable abbrev lV:Str:=⟨⟨[66,111,97,114,100]⟩⟩
noncomputable abbrev AO:Str:=⟨⟨[66,111,97,114,100,46,100,101,112,116,104,115]⟩⟩
noncomputable abbrev Bx:Str:=⟨⟨[66,111,97,114,100,46,95,95,105,110,105,116,95,95]⟩⟩
noncomputable abbrev Ih:Str:=⟨⟨[115,101,108,102]⟩⟩
noncomputable abbrev Hg:Str:=⟨⟨[109,97,110,121]⟩⟩
noncomputable abbrev NC:Str:=⟨⟨[77,79,83,84,95,73,78,80,85,84,83]⟩⟩
noncomputable abbrev mS:Str:=⟨⟨[78,111,66,111,97,114,100]⟩⟩
noncomputable abbrev oj:Str:=⟨⟨[110,101,101,100,95,116,105,101,115]⟩⟩
noncomputable abbrev nQ:Str:=⟨⟨[110,101,101,100,95,112,105,101,99,101,115]⟩⟩
noncomputable abbrev Pz:Str:=⟨⟨[107,101,112,116,95,112,105,101,99,101,115]⟩⟩
noncomputable abbrev OF:Str:=⟨⟨[107,101,112,116,95,116,105,101,115]⟩⟩
noncomputable abbrev pW:Str:=⟨⟨[116,105,101,115,95,111,102]⟩⟩
noncomputable abbrev oE:Str:=⟨⟨[95,108,97,119,95,99,101,108,108,95,97,116]⟩⟩
noncomputable abbrev Eg:Str:=⟨⟨[66,111,97,114,100,46,116,105,101,115]⟩⟩
noncomputable abbrev pP:Str:=⟨⟨[98,111,97,114,100,95,111,102]⟩⟩
noncomputable abbrev DB:Str:=⟨⟨[95,108,97,119,95,112,108,97,99,101]⟩⟩
noncomputable abbrev F3:Str:=⟨⟨[95,95,109,97,105,110,95,95]⟩⟩
noncomputable abbrev Ca:Str:=⟨⟨[66,111,97,114,100,46,99,111,108,117,109,110,115]⟩⟩
noncomputable abbrev Qm:Str:=⟨⟨[108,105,116]⟩⟩
noncomputable abbrev qi:Str:=⟨⟨[112,105,101,99,101,95,99,111,108,117,109,110]⟩⟩
noncomputable abbrev oV:Str:=⟨⟨[108,105,116,95,116,105,101]⟩⟩
noncomputable abbrev By:Str:=⟨⟨[116,105,101]⟩⟩
noncomputable abbrev qh:Str:=⟨⟨[108,97,119]⟩⟩
noncomputable abbrev M5:Str:=⟨⟨[95,108,97,119,95,109,97,110,121]⟩⟩
noncomputable abbrev o3:Str:=⟨⟨[95,108,97,119,95,112,105,101,99,101,115,95,98,121]⟩⟩
noncomputable abbrev AQ:Str:=⟨⟨[95,108,97,119,95,108,105,103,104,116,105,110,103]⟩⟩
noncomputable abbrev DX:Str:=⟨⟨[95,108,97,119,95,108,105,116,95,104,101,114,101]⟩⟩
noncomputable abbrev qV:Str:=⟨⟨[66,111,97,114,100,46,112,105,101,99,101,115]⟩⟩
noncomputable abbrev qo:Str:=⟨⟨[116,105,101,95,116,101,120,116]⟩⟩
noncomputable abbrev BO:Str:=⟨⟨[115,105,103,110]⟩⟩
noncomputable abbrev gg:Str:=⟨⟨[103,97,116,101,102,111,108,100,46,98,111,97,114,100,108,105,110,101,115]⟩⟩
noncomputable abbrev lU:Str:=⟨⟨[78,111,84,101,120,116]⟩⟩
noncomputable abbrev qU:Str:=⟨⟨[105,115,95,114,105,115,105,110,103]⟩⟩
noncomputable abbrev Ao:Str:=⟨⟨[71,82,69,65,84,69,83,84,95,75,78,79,84]⟩⟩
noncomputable abbrev BX:Str:=⟨⟨[76,79,78,71,69,83,84,95,67,85,84]⟩⟩
noncomputable abbrev nh:Str:=⟨⟨[105,115,95,99,117,116,95,111,102]⟩⟩
noncomputable abbrev Ar:Str:=⟨⟨[70,73,71,85,82,69,83]⟩⟩
noncomputable abbrev AK:Str:=⟨⟨[48,49,50,51,52,53,54,55,56,57]⟩⟩
noncomputable abbrev BY:Str:=⟨⟨[77,79,83,84,95,70,73,71,85,82,69,83]⟩⟩
noncomputable abbrev pH:Str:=⟨⟨[116,97,98,108,101,95,116,101,120,116]⟩⟩
noncomputable abbrev rA:Str:=⟨⟨[95,108,97,119,95,112,105,101,99,101]⟩⟩
noncomputable abbrev AH:Str:=⟨⟨[95,108,97,119,95,105]⟩⟩
noncomputable abbrev lM:Str:=⟨⟨[95,95,113,117,97,108,110,97,109,101,95,95]⟩⟩
noncomputable abbrev qe:Str:=⟨⟨[109,97,110,121,95,111,102]⟩⟩
noncomputable abbrev DP:Str:=⟨⟨[114,111,119]⟩⟩
noncomputable abbrev p8:Str:=⟨⟨[110,117,109,98,101,114,95,111,102]⟩⟩
noncomputable abbrev BE:Str:=⟨⟨[95,108,97,119,95,116,111,108,100]⟩⟩
noncomputable abbrev qH:Str:=⟨⟨[112,105,101,99,101,95,111,102]⟩⟩
noncomputable abbrev Bc:Str:=⟨⟨[107]⟩⟩
noncomputable abbrev Eu:Str:=⟨⟨[108,111,119,101,114,115]⟩⟩
noncomputable abbrev pK:Str:=⟨⟨[116,105,101,95,111,102]⟩⟩
noncomputable abbrev D0:Str:=⟨⟨[119,111,114,100]⟩⟩
noncomputable abbrev lg:Str:=⟨⟨[103,97,116,101,102,111,108,100,46,98,105,116,115]⟩⟩
noncomputable abbrev pM:Str:=⟨⟨[116,97,98,108,101,95,111,102]⟩⟩
noncomputable abbrev vQ:Str:=⟨⟨[60,109,111,100,117,108,101,62]⟩⟩
noncomputable abbrev wV:Str:=⟨⟨[103,97,116,101,102,111,108,100,46,108,105,103,104,116,105,110,103]⟩⟩
noncomputable def ar (P:PM):=oq y0 [] 0
noncomputable abbrev e:=L ar
noncomputable def aK (P:PM):OB:=(Obj.mk vn none (df ⟨[]⟩) ⟨[]⟩)
noncomputable def A0 (P:PM):=of y1 [vs vQ 182,vs vQ 183,vs q1 184,vi 1 0,z0,z0,z0,z0,vr 11,bF,vi 181 0,vr 12,vn,vn,vn,vn,vi 185 0,vi 1 0,vs q1 186]
noncomputable def Bk (P:PM):=(ob y2 Data.plain ⟨[(sr 13),(sr 3),(sr 3),none,(ss F3 164),none,(sr 0)]⟩)
noncomputable abbrev w0 (P:PM):List DictEntry:=[de P xQ 166 vn,de P QA 167 vn,de P QP 168 (vb y4),de P Om 169 vn,de P Oa 170 (vr 6),de P LR 171 (vr 4),de P NS 173 (vs q1 172),de P Ph 174 vn,de P oP 193 (vr 21),de P p7 202 (vr 28),de P oU 208 (vr 33),de P ig 228 (vr 43)]
noncomputable def MM (P:PM):=od y3 ([de P oh 165 (vs j4 209)]++w0 P) 13
noncomputable abbrev w9 (P:PM):List Value:=[vi 1 0,z0,vr 20,vi 5 0,z0,vr 27,vi 7 0,z0,vr 32,vi 18 0,z0,vr 39]
noncomputable def Ov (P:PM):OB:=(Obj.mk vn none (df ⟨(w9 P)⟩) ⟨[]⟩)
noncomputable def G7 (P:PM):=oq y0 [vs Bc 190] 0
noncomputable def Iv (P:PM):=j0 oP oP (tT 0)
noncomputable def IQ (P:PM):=of y1 [vs oP 187,vs oP 188,vs q1 189,vi 1 0,vi 1 0,z0,z0,vi 3 0,vr 15,bT,vi 181 0,vr 16,vn,vr 17,vr 18,vr 19,vi 191 0,vi 1 0,vs q1 192]
noncomputable def JE (P:PM):=j1 oP oP (tT 0) F3 164 20
noncomputable def Jy (P:PM):=oq y0 [vs Hg 199] 0
noncomputable def IW (P:PM):=j0 p7 p7 (tT 2)
noncomputable def Cf (P:PM):=of y1 [vs p7 196,vs p7 197,vs q1 198,vi 5 0,vi 1 0,z0,z0,vi 3 0,vr 22,bT,vi 181 0,vr 23,vn,vr 24,vr 25,vr 26,vi 200 0,vi 5 0,vs q1 201]
noncomputable def IP (P:PM):=j1 p7 p7 (tT 2) lg 194 27
noncomputable def Jb (P:PM):=j0 oU oU (tT 3)
noncomputable def BB (P:PM):=oC oU oU q1 203 7 1 3 29 181
noncomputable def HC (P:PM):=j1 oU oU (tT 3) lg 194 32
noncomputable def Ht (P:PM):=oq y0 [(vt y6)] 0
noncomputable def mJ (P:PM):=of y7 [(vb y8),(vt y9)]
noncomputable def JR (P:PM):=od y3 [de P mU 218 (vs j4 209),de P lM 220 (vs ig 219),de P mQ 222 (vi 18 221),de P lY 223 (vr 41)] 4
noncomputable def F1 (P:PM):=of y1 [vs ig 213,vs ig 214,vs q1 215,vi 18 0,z0,z0,z0,z0,vr 37,bF,vi 181 0,vr 38,vn,vn,vn,vn,vi 216 0,vi 18 0,vs q1 217]
noncomputable def IB (P:PM):=(ob y2 Data.plain ⟨[(sr 39),(sr 3),(sr 36),none,(ss j4 209),none,(sr 0)]⟩)
noncomputable def D6 (P:PM):=od y3 [de P mU 218 (vs j4 209),de P mQ 222 (vi 18 221),de P lY 223 (vr 41),de P yG 225 (vr 44),de P xQ 226 vn] 3
noncomputable def Nj (P:PM):=(ob y9 (Data.cls (ClassData.mk ig [(vt y6)] [vr 43,(vt y6),(vt uY),(vt wL),(vt pF)] 42 ig true [] [] false none false)) ⟨[(sr 34),none,(ss ig 211),(ss ig 219),(some (vb xB)),(some bT)]⟩)
noncomputable def GW (P:PM):=of B8 [vs yG 224,vr 43,(vb HN),vn]
noncomputable def IV (P:PM):=of yL [vr 43,vr 43,vr 43]
noncomputable def FL (P:PM):=of y7 [(vb zB),vr 43]
noncomputable abbrev w1 (P:PM):List DictEntry:=w0 P++[de P mS 244 (vr 56)]
noncomputable def OA (P:PM):=od y3 ([de P oh 165 (vs j4 209)]++w1 P) 14
noncomputable abbrev EL (P:PM):List Value:=w9 P++[vi 20 0,z0,vr 52]
noncomputable def O9 (P:PM):OB:=(Obj.mk vn none (df ⟨(EL P)⟩) ⟨[]⟩)
noncomputable def Oe (P:PM):=(ob y9 (Data.cls (ClassData.mk ig [(vt y6)] [vr 43,(vt y6),(vt uY),(vt wL),(vt pF)] 42 ig true [] [vr 56] false none false)) ⟨[(sr 34),none,(ss ig 211),(ss ig 219),(some (vb xB)),(some bT)]⟩)
noncomputable def zh (P:PM):=oq y0 [vr 43] 0
noncomputable def E9 (P:PM):=od y3 [de P mU 236 (vs j4 209),de P lM 238 (vs mS 237),de P mQ 240 (vi 20 239),de P lY 241 (vr 54)] 4
noncomputable def Hw (P:PM):=of y1 [vs mS 231,vs mS 232,vs q1 233,vi 20 0,z0,z0,z0,z0,vr 50,bF,vi 181 0,vr 51,vn,vn,vn,vn,vi 234 0,vi 20 0,vs q1 235]
noncomputable def GK (P:PM):=(ob y2 Data.plain ⟨[(sr 52),(sr 3),(sr 49),none,(ss j4 209),none,(sr 0)]⟩)
noncomputable def CH (P:PM):=od y3 [de P mU 236 (vs j4 209),de P mQ 240 (vi 20 239),de P lY 241 (vr 54),de P xQ 242 vn] 2
noncomputable def AW (P:PM):=(ob y9 (Data.cls (ClassData.mk mS [vr 43] [vr 56,vr 43,(vt y6),(vt uY),(vt wL),(vt pF)] 55 mS true [] [] false none false)) ⟨[(sr 47),none,(ss mS 229),(ss mS 237),(some (vb xB)),(some bT)]⟩)
noncomputable def Hs (P:PM):=of yL [vr 56,vr 56,vr 56]
noncomputable def GY (P:PM):=of y7 [(vb zB),vr 56]
noncomputable abbrev w2 (P:PM):List DictEntry:=w1 P++[de P lU 260 (vr 68),de P pk 271 (vr 77),de P oV 282 (vr 84),de P rm 291 (vr 91),de P nF 300 (vr 98),de P qU 306 (vr 103)]
noncomputable def LK (P:PM):=od y3 ([de P oh 165 (vs gc 307)]++w2 P) 20
noncomputable abbrev G8 (P:PM):List Value:=EL P++[vi 22 0,z0,vr 64,vi 25 0,z0,vr 76,vi 29 0,z0,vr 83,vi 32 0,z0,vr 90,vi 34 0,z0,vr 97,vi 36 0,z0,vr 102]
noncomputable def JW (P:PM):OB:=(Obj.mk vn none (df ⟨(G8 P)⟩) ⟨[]⟩)
noncomputable def rf (P:PM):=(ob y9 (Data.cls (ClassData.mk ig [(vt y6)] [vr 43,(vt y6),(vt uY),(vt wL),(vt pF)] 42 ig true [] [vr 56,vr 68] false none false)) ⟨[(sr 34),none,(ss ig 211),(ss ig 219),(some (vb xB)),(some bT)]⟩)
noncomputable def xM (P:PM):=od y3 [de P mU 252 (vs j4 209),de P lM 254 (vs lU 253),de P mQ 256 (vi 22 255),de P lY 257 (vr 66)] 4
noncomputable def vm (P:PM):=of y1 [vs lU 247,vs lU 248,vs q1 249,vi 22 0,z0,z0,z0,z0,vr 62,bF,vi 181 0,vr 63,vn,vn,vn,vn,vi 250 0,vi 22 0,vs q1 251]
noncomputable def vD (P:PM):=(ob y2 Data.plain ⟨[(sr 64),(sr 3),(sr 61),none,(ss j4 209),none,(sr 0)]⟩)
noncomputable def qJ (P:PM):=od y3 [de P mU 252 (vs j4 209),de P mQ 256 (vi 22 255),de P lY 257 (vr 66),de P xQ 258 vn] 2
noncomputable def rz (P:PM):=(ob y9 (Data.cls (ClassData.mk lU [vr 43] [vr 68,vr 43,(vt y6),(vt uY),(vt wL),(vt pF)] 67 lU true [] [] false none false)) ⟨[(sr 59),none,(ss lU 245),(ss lU 253),(some (vb xB)),(some bT)]⟩)
noncomputable def tq (P:PM):=of yL [vr 68,vr 68,vr 68]
noncomputable def wa (P:PM):=of y7 [(vb zB),vr 68]
noncomputable def xV (P:PM):=oq y0 [vs rY 266,vs G3 267,vs Nc 268] 0
noncomputable def vM (P:PM):=j0 pk pk (tT 9)
noncomputable def qk (P:PM):=of y1 [vs pk 263,vs pk 264,vs q1 265,vi 25 0,vi 2 0,z0,z0,vi 3 0,vr 71,bT,vi 181 0,vr 72,vn,vr 73,vr 74,vr 75,vi 269 0,vi 25 0,vs q1 270]
noncomputable def xu (P:PM):=j1 pk pk (tT 9) HH 261 76
noncomputable def uE (P:PM):=oq y0 [vs Qm 277,vs By 278,vs G3 279] 0
noncomputable def sY (P:PM):=j0 oV oV (tT 11)
noncomputable def qm (P:PM):=of y1 [vs oV 274,vs oV 275,vs q1 276,vi 29 0,vi 3 0,z0,z0,vi 3 0,vr 78,bT,vi 181 0,vr 79,vn,vr 80,vr 81,vr 82,vi 280 0,vi 29 0,vs q1 281]
noncomputable def tX (P:PM):=j1 oV oV (tT 11) wV 272 83
noncomputable def yC (P:PM):=oq y0 [vs Hd 288] 0
noncomputable def wI (P:PM):=j0 rm rm (tT 13)
noncomputable def qv (P:PM):=of y1 [vs rm 285,vs rm 286,vs q1 287,vi 32 0,vi 1 0,z0,z0,vi 3 0,vr 85,bT,vi 181 0,vr 86,vn,vr 87,vr 88,vr 89,vi 289 0,vi 32 0,vs q1 290]
noncomputable def wW (P:PM):=j1 rm rm (tT 13) r6 283 90
noncomputable def vx (P:PM):=oq y0 [vs Hd 295,vs Od 296,vs Pf 297] 0
noncomputable def tN (P:PM):=j0 nF nF (tT 14)
noncomputable def o9 (P:PM):=of y1 [vs nF 292,vs nF 293,vs q1 294,vi 34 0,vi 3 0,z0,z0,vi 3 0,vr 92,bT,vi 181 0,vr 93,vn,vr 94,vr 95,vr 96,vi 298 0,vi 34 0,vs q1 299]
noncomputable def wb (P:PM):=j1 nF nF (tT 14) r6 283 97
noncomputable def sW (P:PM):=j0 qU qU (tT 15)
noncomputable def qD (P:PM):=oC qU qU q1 301 36 1 3 99 181
noncomputable def vW (P:PM):=j1 qU qU (tT 15) r6 283 102
noncomputable abbrev w3 (P:PM):List DictEntry:=w2 P++[de P NC 310 (vi 10 309),de P Ao 312 (vi 999 311),de P BX 314 (vi 6 313),de P nh 320 (vr 108),de P nQ 326 (vr 113),de P oj 335 (vr 120),de P qi 341 (vr 125)]
noncomputable def A9 (P:PM):=od y3 ([de P oh 165 (vs gc 307)]++w3 P) 27
noncomputable abbrev F8 (P:PM):List Value:=G8 P++[vi 42 0,z0,vr 107,vi 48 0,z0,vr 112,vi 59 0,z0,vr 119,vi 65 0,z0,vr 124]
noncomputable def Dt (P:PM):OB:=(Obj.mk vn none (df ⟨(F8 P)⟩) ⟨[]⟩)
noncomputable def vV (P:PM):=j0 nh nh (tT 20)
noncomputable def qa (P:PM):=oC nh nh q1 315 42 2 3 104 181
noncomputable def xH (P:PM):=j1 nh nh (tT 20) gc 307 107
noncomputable def uo (P:PM):=j0 nQ nQ (tT 21)
noncomputable def p9 (P:PM):=oC nQ nQ q1 321 48 2 3 109 181
noncomputable def xP (P:PM):=j1 nQ nQ (tT 21) gc 307 112
noncomputable def uQ (P:PM):=oq y0 [vs rK 330,vs Eu 331,vs By 332] 0
noncomputable def vN (P:PM):=j0 oj oj (tT 22)
noncomputable def nr (P:PM):=of y1 [vs oj 327,vs oj 328,vs q1 329,vi 59 0,vi 2 0,z0,z0,vi 3 0,vr 114,bT,vi 181 0,vr 115,vn,vr 116,vr 117,vr 118,vi 333 0,vi 59 0,vs q1 334]
noncomputable def vq (P:PM):=j1 oj oj (tT 22) gc 307 119
noncomputable def sU (P:PM):=j0 qi qi (tT 23)
noncomputable def pN (P:PM):=oC qi qi q1 336 65 3 3 121 181
noncomputable def t8 (P:PM):=j1 qi qi (tT 23) gc 307 124
noncomputable abbrev w4 (P:PM):List DictEntry:=w3 P++[de P lV 396 (vr 164),de P Ar 400 (vs AK 399),de P BY 402 (vi 3 401),de P pH 408 (vr 173)]
noncomputable def Bw (P:PM):=od y3 ([de P oh 165 (vs gg 397)]++w4 P) 31
noncomputable abbrev ER (P:PM):List Value:=F8 P++[vi 70 0,z0,vr 131,vi 98 0,z0,vr 172]
noncomputable def Ax (P:PM):OB:=(Obj.mk vn none (df ⟨(ER P)⟩) ⟨[]⟩)
noncomputable abbrev w5 (P:PM):List DictEntry:=[de P lM 351 (vs lV 350),de P mQ 353 (vi 70 352),de P ux 359 (vr 137),de P yp 365 (vr 142),de P rK 372 (vr 149),de P rY 378 (vr 154),de P xD 385 (vr 161),de P lY 389 (vr 162)]
noncomputable def xh (P:PM):=od y3 ([de P mU 349 (vs gc 307)]++w5 P) 9
noncomputable abbrev Mr (P:PM):List Value:=[vi 72 0,vi 4 0,vr 136,vi 80 0,vi 4 0,vr 141,vi 83 0,vi 4 0,vr 148,vi 86 0,vi 4 0,vr 153,vi 93 0,vi 4 0,vr 160]
noncomputable def xj (P:PM):OB:=(Obj.mk vn none (df ⟨(Mr P)⟩) ⟨[]⟩)
noncomputable def tH (P:PM):=of y1 [vs lV 344,vs lV 345,vs q1 346,vi 70 0,z0,z0,z0,z0,vr 129,bF,vi 181 0,vr 130,vn,vn,vn,vn,vi 347 0,vi 70 0,vs q1 348]
noncomputable def wU (P:PM):=(ob y2 Data.plain ⟨[(sr 131),(sr 3),(sr 128),none,(ss gc 307),none,(sr 0)]⟩)
noncomputable def wA (P:PM):=j0 ux Bx (i3 (tT 24) 0)
noncomputable def oN (P:PM):=oC ux Bx q1 354 72 4 3 133 181
noncomputable def uW (P:PM):=j1 ux Bx (i3 (tT 24) 0) gc 307 136
noncomputable def yh (P:PM):=j0 yp qV (i3 (tT 24) 1)
noncomputable def qT (P:PM):=oC yp qV q1 360 80 1 3 138 181
noncomputable def xA (P:PM):=j1 yp qV (i3 (tT 24) 1) gc 307 141
noncomputable def wG (P:PM):=oq y0 [vs Ih 369] 0
noncomputable def wN (P:PM):=j0 rK Eg (i3 (tT 24) 2)
noncomputable def qt (P:PM):=of y1 [vs rK 366,vs Eg 367,vs q1 368,vi 83 0,vi 1 0,z0,z0,vi 3 0,vr 143,bT,vi 181 0,vr 144,vn,vr 145,vr 146,vr 147,vi 370 0,vi 83 0,vs q1 371]
noncomputable def tj (P:PM):=j1 rK Eg (i3 (tT 24) 2) gc 307 148
noncomputable def u9 (P:PM):=j0 rY Ca (i3 (tT 24) 3)
noncomputable def ny (P:PM):=oC rY Ca q1 373 86 1 3 150 181
noncomputable def xR (P:PM):=j1 rY Ca (i3 (tT 24) 3) gc 307 153
noncomputable def vH (P:PM):=oq y0 [vs Ih 382] 0
noncomputable def vy (P:PM):=j0 xD AO (i3 (tT 24) 4)
noncomputable def wZ (P:PM):=of y1 [vs xD 379,vs AO 380,vs q1 381,vi 93 0,vi 1 0,z0,z0,vi 3 0,vr 155,bT,vi 181 0,vr 156,vn,vr 157,vr 158,vr 159,vi 383 0,vi 93 0,vs q1 384]
noncomputable def tJ (P:PM):=j1 xD AO (i3 (tT 24) 4) gc 307 160
noncomputable def u3 (P:PM):=oq y0 [vs Pz 386,vs OF 387,vs Hg 388] 0
noncomputable abbrev w6 (P:PM):List DictEntry:=[de P mQ 353 (vi 70 352),de P ux 359 (vr 137),de P yp 365 (vr 142),de P rK 372 (vr 149),de P rY 378 (vr 154),de P xD 385 (vr 161),de P lY 389 (vr 162),de P FD 391 (vr 165),de P yG 393 (vr 166),de P xQ 394 vn]
noncomputable def pB (P:PM):=od y3 ([de P mU 349 (vs gc 307)]++w6 P) 4
noncomputable def pX (P:PM):=(ob y9 (Data.cls (ClassData.mk lV [(vt pF)] [vr 164,(vt pF)] 163 lV true [] [] false none false)) ⟨[none,none,(ss lV 342),(ss lV 350),(some (vb MV)),(some bT)]⟩)
noncomputable def uf (P:PM):=of B8 [vs FD 390,vr 164,(vb L5),(vb J0)]
noncomputable def vh (P:PM):=of B8 [vs yG 392,vr 164,(vb HN),vn]
noncomputable def tQ (P:PM):=of yL [vr 164,vr 164,vr 164]
noncomputable def uV (P:PM):=of y7 [(vb zB),vr 164]
noncomputable def tW (P:PM):=j0 pH pH (tT 28)
noncomputable def nR (P:PM):=oC pH pH q1 403 98 2 3 169 181
noncomputable def wX (P:PM):=j1 pH pH (tT 28) gg 397 172
noncomputable abbrev w7 (P:PM):List DictEntry:=w4 P++[de P qo 416 (vr 180),de P q0 422 (vr 185),de P p8 428 (vr 190),de P qe 435 (vr 197),de P pM 441 (vr 202),de P qH 447 (vr 207),de P pK 454 (vr 214),de P pW 460 (vr 219),de P pP 466 (vr 224),de P oE 476 (vr 231),de P qM 487 (vr 238),de P rA 499 (vr 245),de P m7 515 (vr 252)]
noncomputable def CN (P:PM):=od y3 ([de P oh 165 (vs gn 467)]++w7 P) 44
noncomputable abbrev JL (P:PM):List Value:=ER P++[vi 100 0,z0,vr 179,vi 103 0,z0,vr 184,vi 110 0,z0,vr 189,vi 116 0,z0,vr 196,vi 120 0,z0,vr 201,vi 125 0,z0,vr 206,vi 131 0,z0,vr 213,vi 135 0,z0,vr 218,vi 139 0,z0,vr 223,vi 147 0,z0,vr 230,vi 151 0,z0,vr 237,vi 159 0,z0,vr 244,vi 165 0,z0,vr 251]
noncomputable def Eh (P:PM):OB:=(Obj.mk vn none (df ⟨(JL P)⟩) ⟨[]⟩)
noncomputable def wj (P:PM):=oq y0 [vs By 412,vs BO 413] 0
noncomputable def xi (P:PM):=j0 qo qo (tT 29)
noncomputable def qf (P:PM):=of y1 [vs qo 409,vs qo 410,vs q1 411,vi 100 0,vi 1 0,z0,z0,vi 3 0,vr 174,bT,vi 181 0,vr 175,vn,vr 176,vr 177,vr 178,vi 414 0,vi 100 0,vs q1 415]
noncomputable def xI (P:PM):=j1 qo qo (tT 29) gg 397 179
noncomputable def wJ (P:PM):=j0 q0 q0 (tT 30)
noncomputable def oH (P:PM):=oC q0 q0 q1 417 103 1 3 181 181
noncomputable def xZ (P:PM):=j1 q0 q0 (tT 30) gg 397 184
noncomputable def wk (P:PM):=j0 p8 p8 (tT 31)
noncomputable def nY (P:PM):=oC p8 p8 q1 423 110 1 3 186 181
noncomputable def sX (P:PM):=j1 p8 p8 (tT 31) gg 397 189
noncomputable def ye (P:PM):=oq y0 [vs DP 432] 0
noncomputable def wB (P:PM):=j0 qe qe (tT 32)
noncomputable def ph (P:PM):=of y1 [vs qe 429,vs qe 430,vs q1 431,vi 116 0,vi 1 0,z0,z0,vi 3 0,vr 191,bT,vi 181 0,vr 192,vn,vr 193,vr 194,vr 195,vi 433 0,vi 116 0,vs q1 434]
noncomputable def ue (P:PM):=j1 qe qe (tT 32) gg 397 196
noncomputable def wd (P:PM):=j0 pM pM (tT 33)
noncomputable def qK (P:PM):=oC pM pM q1 436 120 2 3 198 181
noncomputable def ya (P:PM):=j1 pM pM (tT 33) gg 397 201
noncomputable def ym (P:PM):=j0 qH qH (tT 34)
noncomputable def qr (P:PM):=oC qH qH q1 442 125 1 3 203 181
noncomputable def uN (P:PM):=j1 qH qH (tT 34) gg 397 206
noncomputable def wu (P:PM):=oq y0 [vs D0 451] 0
noncomputable def wz (P:PM):=j0 pK pK (tT 35)
noncomputable def oY (P:PM):=of y1 [vs pK 448,vs pK 449,vs q1 450,vi 131 0,vi 1 0,z0,z0,vi 3 0,vr 208,bT,vi 181 0,vr 209,vn,vr 210,vr 211,vr 212,vi 452 0,vi 131 0,vs q1 453]
noncomputable def xX (P:PM):=j1 pK pK (tT 35) gg 397 213
noncomputable def vE (P:PM):=j0 pW pW (tT 36)
noncomputable def o8 (P:PM):=oC pW pW q1 455 135 1 3 215 181
noncomputable def yg (P:PM):=j1 pW pW (tT 36) gg 397 218
noncomputable def tO (P:PM):=j0 pP pP (tT 37)
noncomputable def oy (P:PM):=oC pP pP q1 461 139 1 3 220 181
noncomputable def xT (P:PM):=j1 pP pP (tT 37) gg 397 223
noncomputable def uM (P:PM):=oq y0 [vs Jf 472,vs q8 473] 0
noncomputable def uS (P:PM):=j0 oE oE (tT 39)
noncomputable def nA (P:PM):=of y1 [vs oE 469,vs oE 470,vs q1 471,vi 147 0,vi 2 0,z0,z0,vi 3 0,vr 225,bT,vi 181 0,vr 226,vn,vr 227,vr 228,vr 229,vi 474 0,vi 147 0,vs q1 475]
noncomputable def yx (P:PM):=j1 oE oE (tT 39) gn 467 230
noncomputable def tI (P:PM):=oq y0 [vs DR 480,vs Ag 481,vs zl 482,vs CV 483,vs K1 484] 0
noncomputable def xO (P:PM):=j0 qM qM (tT 40)
noncomputable def qY (P:PM):=of y1 [vs qM 477,vs qM 478,vs q1 479,vi 151 0,vi 2 0,z0,z0,vi 3 0,vr 232,bT,vi 181 0,vr 233,vn,vr 234,vr 235,vr 236,vi 485 0,vi 151 0,vs q1 486]
noncomputable def we (P:PM):=j1 qM qM (tT 40) gn 467 237
noncomputable def u6 (P:PM):=oq y0 [vs DR 491,vs zN 492,vs Ag 493,vs zl 494,vs zG 495,vs DB 496] 0
noncomputable def vc (P:PM):=j0 rA rA (tT 41)
noncomputable def pw (P:PM):=of y1 [vs rA 488,vs rA 489,vs q1 490,vi 159 0,vi 3 0,z0,z0,vi 3 0,vr 239,bT,vi 181 0,vr 240,vn,vr 241,vr 242,vr 243,vi 497 0,vi 159 0,vs q1 498]
noncomputable def vj (P:PM):=j1 rA rA (tT 41) gn 467 244
noncomputable def vT (P:PM):=oq y0 [vs q4 503,vs M5 504,vs AQ 505,vs DX 506,vs AH 507,vs zN 508,vs zl 509,vs zG 510,vs DB 511,vs CV 512] 0
noncomputable def vL (P:PM):=j0 m7 m7 (tT 42)
noncomputable def qp (P:PM):=of y1 [vs m7 500,vs m7 501,vs q1 502,vi 165 0,vi 3 0,z0,z0,vi 3 0,vr 246,bT,vi 181 0,vr 247,vn,vr 248,vr 249,vr 250,vi 513 0,vi 165 0,vs q1 514]
noncomputable def wq (P:PM):=j1 m7 m7 (tT 42) gn 467 251
noncomputable abbrev w8 (P:PM):List DictEntry:=w7 P++[de P pZ 524 (vr 259),de P qy 531 (vr 266),de P q2 543 (vr 273),de P o3 557 (vr 280),de P qh 563 (vr 285)]
noncomputable def oZ (P:PM):=od y3 ([de P oh 165 (vs gn 467)]++w8 P) 49
noncomputable abbrev Pj (P:PM):List Value:=JL P++[vi 175 0,z0,vr 258,vi 180 0,z0,vr 265,vi 182 0,z0,vr 272,vi 192 0,z0,vr 279,vi 205 0,z0,vr 284]
noncomputable def yi (P:PM):OB:=(Obj.mk vn none (df ⟨(Pj P)⟩) ⟨[]⟩)
noncomputable def yl (P:PM):=oq y0 [vs zG 519,vs BE 520,vs DB 521] 0
noncomputable def wo (P:PM):=j0 pZ pZ (tT 43)
noncomputable def nZ (P:PM):=of y1 [vs pZ 516,vs pZ 517,vs q1 518,vi 175 0,vi 1 0,z0,z0,vi 3 0,vr 253,bT,vi 181 0,vr 254,vn,vr 255,vr 256,vr 257,vi 522 0,vi 175 0,vs q1 523]
noncomputable def vv (P:PM):=j1 pZ pZ (tT 43) gn 467 258
noncomputable def uC (P:PM):=oq y0 [vs q3 528] 0
noncomputable def vI (P:PM):=j0 qy qy (tT 44)
noncomputable def qR (P:PM):=of y1 [vs qy 525,vs qy 526,vs q1 527,vi 180 0,vi 1 0,z0,z0,vi 3 0,vr 260,bT,vi 181 0,vr 261,vn,vr 262,vr 263,vr 264,vi 529 0,vi 180 0,vs q1 530]
noncomputable def uh (P:PM):=j1 qy qy (tT 44) gn 467 265
noncomputable def sV (P:PM):=oq y0 [vs q3 535,vs q4 536,vs q8 537,vs zN 538,vs zl 539,vs zG 540] 0
noncomputable def u0 (P:PM):=j0 q2 q2 (tT 45)
noncomputable def og (P:PM):=of y1 [vs q2 532,vs q2 533,vs q1 534,vi 182 0,vi 2 0,z0,z0,vi 3 0,vr 267,bT,vi 181 0,vr 268,vn,vr 269,vr 270,vr 271,vi 541 0,vi 182 0,vs q1 542]
noncomputable def t7 (P:PM):=j1 q2 q2 (tT 45) gn 467 272
noncomputable def tL (P:PM):=oq y0 [vs Jf 547,vs Ag 548,vs q4 549,vs CV 550,vs OQ 551,vs q8 552,vs DR 553,vs zN 554] 0
noncomputable def wF (P:PM):=j0 o3 o3 (tT 46)
noncomputable def oS (P:PM):=of y1 [vs o3 544,vs o3 545,vs q1 546,vi 192 0,vi 2 0,z0,z0,vi 3 0,vr 274,bT,vi 181 0,vr 275,vn,vr 276,vr 277,vr 278,vi 555 0,vi 192 0,vs q1 556]
noncomputable def tZ (P:PM):=j1 o3 o3 (tT 46) gn 467 279
noncomputable def uA (P:PM):=j0 qh qh (tT 47)
noncomputable def qB (P:PM):=oC qh qh q1 558 205 1 3 281 181
noncomputable def tP (P:PM):=j1 qh qh (tT 47) gn 467 284
noncomputable def GP (P:Params):Heap:=(Heap.mk ⟨[b0 P,b1 P,b2 P,b3 P,b4 P,b5 P,b6 P,b7 P,b8 P,b9 P,pO P,ar P,aK P,A0 P,Bk P]⟩ (PySem.Life.mk [] [] [] 0 [] [] false ⟨[]⟩ [] 0 false false false 0 [2000,10,10] false 0 true [] [] 0 false))
noncomputable def Hz (f:Nat):Nat->OB->BT->BT:=Nat.rec (fun _ _ t=>t) (fun _ r i x t=>BT.casesOn t (.node x .nil .nil) (fun y a b=>cond (Nat.beq i 0) (.node x a b) (cond (Nat.beq (i % 2) 1) (.node y (r (i / 2) x a) b) (.node y a (r (i / 2 - 1) x b))))) f
noncomputable def mB (P:PM) (l:List (PM->OB)):Nat->BT->BT:=List.rec (fun _ t=>t) (fun o _ r n t=>r (n+1) (Hz 12 n (o P) t)) l
noncomputable def up (P:PM) (l:List (Nat × (PM->OB))) (t:BT):BT:=List.rec (fun t=>t) (fun o _ r t=>r (Hz 12 o.1 (o.2 P) t)) l t
noncomputable def Dd (P:PM):BT:=mB P [b0,b1,b2,b3,b4,b5,b6,b7,b8,b9,pO,ar,aK,A0,Bk] 0 BT.nil
noncomputable def Bv (P:PM):BT:=mB P [ar,aK,G7,ar,Iv,IQ,JE,ar,aK,Jy,ar,IW,Cf,IP,ar,aK,Jb,BB,HC,Ht,mJ,JR,ar,aK,F1,IB,ar,D6,Nj,GW,IV,FL] 15 (up P [(3,MM),(12,Ov)] (Dd P))
noncomputable def A4 (P:PM):BT:=mB P [zh,mJ,E9,ar,aK,Hw,GK,ar,CH,AW,Hs,GY] 47 (up P [(3,OA),(12,O9),(43,Oe)] (Bv P))
noncomputable def AB (P:PM):BT:=mB P [zh,mJ,xM,ar,aK,vm,vD,ar,qJ,rz,tq,wa,ar,aK,xV,ar,vM,qk,xu,ar,aK,uE,ar,sY,qm,tX,ar,aK,yC,ar,wI,qv,wW,ar,aK,vx,ar,tN,o9,wb,ar,aK,sW,qD,vW] 59 (up P [(3,LK),(12,JW),(43,rf)] (A4 P))
noncomputable def B1 (P:PM):BT:=mB P [ar,aK,vV,qa,xH,ar,aK,uo,p9,xP,ar,aK,uQ,ar,vN,nr,vq,ar,aK,sU,pN,t8] 104 (up P [(3,A9),(12,Dt)] (AB P))
noncomputable def An (P:PM):BT:=mB P [ar,mJ,xh,ar,xj,tH,wU,ar,aK,wA,oN,uW,ar,aK,yh,qT,xA,ar,aK,wG,ar,wN,qt,tj,ar,aK,u9,ny,xR,ar,aK,vH,ar,vy,wZ,tJ,u3,pB,pX,uf,vh,tQ,uV,ar,aK,tW,nR,wX] 126 (up P [(3,Bw),(12,Ax)] (B1 P))
noncomputable def CF (P:PM):BT:=mB P [ar,aK,wj,ar,xi,qf,xI,ar,aK,wJ,oH,xZ,ar,aK,wk,nY,sX,ar,aK,ye,ar,wB,ph,ue,ar,aK,wd,qK,ya,ar,aK,ym,qr,uN,ar,aK,wu,ar,wz,oY,xX,ar,aK,vE,o8,yg,ar,aK,tO,oy,xT,ar,aK,uM,ar,uS,nA,yx,ar,aK,tI,ar,xO,qY,we,ar,aK,u6,ar,vc,pw,vj,ar,aK,vT,ar,vL,qp,wq] 174 (up P [(3,CN),(12,Eh)] (An P))
noncomputable def EF (P:PM):BT:=mB P [ar,aK,yl,ar,wo,nZ,vv,ar,aK,uC,ar,vI,qR,uh,ar,aK,sV,ar,u0,og,t7,ar,aK,tL,ar,wF,oS,tZ,ar,aK,uA,qB,tP] 253 (up P [(3,oZ),(12,yi)] (CF P))
noncomputable def sL (P:Params):Heap:=(Heap.mk ⟨[b0 P,b1 P,b2 P,oZ P,b4 P,b5 P,b6 P,b7 P,b8 P,b9 P,pO P,ar P,yi P,A0 P,Bk P,ar P,aK P,G7 P,ar P,Iv P,IQ P,JE P,ar P,aK P,Jy P,ar P,IW P,Cf P,IP P,ar P,aK P,Jb P,BB P,HC P,Ht P,mJ P,JR P,ar P,aK P,F1 P,IB P,ar P,D6 P,rf P,GW P,IV P,FL P,zh P,mJ P,E9 P,ar P,aK P,Hw P,GK P,ar P,CH P,AW P,Hs P,GY P,zh P,mJ P,xM P,ar P,aK P,vm P,vD P,ar P,qJ P,rz P,tq P,wa P,ar P,aK P,xV P,ar P,vM P,qk P,xu P,ar P,aK P,uE P,ar P,sY P,qm P,tX P,ar P,aK P,yC P,ar P,wI P,qv P,wW P,ar P,aK P,vx P,ar P,tN P,o9 P,wb P,ar P,aK P,sW P,qD P,vW P,ar P,aK P,vV P,qa P,xH P,ar P,aK P,uo P,p9 P,xP P,ar P,aK P,uQ P,ar P,vN P,nr P,vq P,ar P,aK P,sU P,pN P,t8 P,ar P,mJ P,xh P,ar P,xj P,tH P,wU P,ar P,aK P,wA P,oN P,uW P,ar P,aK P,yh P,qT P,xA P,ar P,aK P,wG P,ar P,wN P,qt P,tj P,ar P,aK P,u9 P,ny P,xR P,ar P,aK P,vH P,ar P,vy P,wZ P,tJ P,u3 P,pB P,pX P,uf P,vh P,tQ P,uV P,ar P,aK P,tW P,nR P,wX P,ar P,aK P,wj P,ar P,xi P,qf P,xI P,ar P,aK P,wJ P,oH P,xZ P,ar P,aK P,wk P,nY P,sX P,ar P,aK P,ye P,ar P,wB P,ph P,ue P,ar P,aK P,wd P,qK P,ya P,ar P,aK P,ym P,qr P,uN P,ar P,aK P,wu P,ar P,wz P,oY P,xX P,ar P,aK P,vE P,o8 P,yg P,ar P,aK P,tO P,oy P,xT P,ar P,aK P,uM P,ar P,uS P,nA P,yx P,ar P,aK P,tI P,ar P,xO P,qY P,we P,ar P,aK P,u6 P,ar P,vc P,pw P,vj P,ar P,aK P,vT P,ar P,vL P,qp P,wq P,ar P,aK P,yl P,ar P,wo P,nZ P,vv P,ar P,aK P,uC P,ar P,vI P,qR P,uh P,ar P,aK P,sV P,ar P,u0 P,og P,t7 P,ar P,aK P,tL P,ar P,wF P,oS P,tZ P,ar P,aK P,uA P,qB P,tP P]⟩ (PySem.Life.mk [] [] [] 0 [] [] false ⟨[]⟩ [] 0 false false false 0 [2000,10,10] false 0 true [] [] 0 false))
noncomputable def ev (p:Program):Env:=Env.mk p.main.scope mainNs mainNs [] Str.empty none (.ref 13) (some 14) 0
noncomputable def cE (p:Program):Code:=.body (behindTheImports p) (ev p)
noncomputable def st (p:Program) (i k:Nat):List Stmt:=((behindTheImports p).drop i).take k
noncomputable def LF:Life:=Life.mk [] [] [] 0 [] [] false #[] [] 0 false false false 0 [2000,10,10] false 0 true [] [] 0 false
noncomputable def SS (T:Params->BT) (n k:Nat) (w:World) (os:OsState):SharedT:=⟨T w.params,n,LF,⟨[]⟩,⟨0,0,0,0⟩,k,os⟩
noncomputable def Pc (f:(String->Option Builtin)->Program->World->Nat->Option Value->Nat->Nat->SharedT->Thread->Option (Flow × SharedT × Code × Pos)) (tb:String->Option Builtin) (p:Program) (N i k:Nat) (pos pos':Pos) (T T':Params->BT) (n t n' t':Nat):Prop :=
 ∀ (w:World) (os:OsState),f tb p w 11 (some (.ref 6)) 1 N (SS T n t w os) (piecesOf (st p i k) (ev p) (cE p) pos [topFrame ⟨0,0,0,0⟩])=some (.next,SS T' n' t' w os,cE p,pos')
theorem Pc.plain {N i k:Nat}{pos pos':Pos}{T T':Params->BT}{n t n' t':Nat} (h:Pc PySem.W.Fast.tw10110043849684766642 PySem.W.Fast.tw14364793385576792824 TP N i k pos pos' T T' n t n' t'):Pc segRunT treeTable PySem.Challenge.pw_gatefold_k39_board_read N i k pos pos' T T' n t n' t':=by
 rw [PySem.W.Fast.te10110043849684766642,PySem.W.Fast.te14364793385576792824,PySem.W.Fast.te6399270814091051884]
 exact h
noncomputable abbrev PW:Program:=PySem.Challenge.pw_gatefold_k39_board_read
noncomputable abbrev PC:=Pc segRunT treeTable PW
theorem c0:PC 289 0 6 ⟨0,0,0,0⟩ ⟨18,0,19,8⟩ Dd Bv 15 187 47 229:=.plain fun w os=>by kernel_rfl
theorem c1:PC 214 6 1 ⟨18,0,19,8⟩ ⟨20,0,21,8⟩ Bv A4 47 229 59 245:=.plain fun w os=>by kernel_rfl
theorem c2:PC 398 7 10 ⟨20,0,21,8⟩ ⟨38,0,38,8⟩ A4 AB 59 245 104 309:=.plain fun w os=>by kernel_rfl
theorem c3:PC 137 17 7 ⟨38,0,38,8⟩ ⟨65,0,69,17⟩ AB B1 104 309 126 342:=.plain fun w os=>by kernel_rfl
theorem c4:PC 392 24 5 ⟨65,0,69,17⟩ ⟨98,0,99,76⟩ B1 An 126 342 174 409:=.plain fun w os=>by kernel_rfl
theorem c5:PC 389 29 14 ⟨98,0,99,76⟩ ⟨165,0,174,24⟩ An CF 174 409 253 516:=.plain fun w os=>by kernel_rfl
theorem c6:PC 157 43 5 ⟨165,0,174,24⟩ ⟨205,0,233,88⟩ CF EF 253 516 286 564:=.plain fun w os=>by kernel_rfl
theorem step {p:Program}{N i k:Nat}{pos pos':Pos}{T T':Params->BT}{n t n' t':Nat} (c:Pc segRunT treeTable p N i k pos pos' T T' n t n' t') {M:Nat}{r:Shared}{w:World}{os:OsState}
  (h:topRun treeTable p w 11 (some (.ref 6)) M (SS T' n' t' w os).abs (restOf ((behindTheImports p).drop (i+k)) (ev p) (cE p) pos' [topFrame ⟨0,0,0,0⟩])=some r) :
  topRun treeTable p w 11 (some (.ref 6)) (N+M) (SS T n t w os).abs (restOf ((behindTheImports p).drop i) (ev p) (cE p) pos [topFrame ⟨0,0,0,0⟩])=some r:=by
 have e:(behindTheImports p).drop i=st p i k ++ (behindTheImports p).drop (i+k):=by
  unfold st
  rw [<- List.drop_drop]
  exact (List.take_append_drop _ _).symm
 rw [e]
 exact piece_app (segRun_of (c w os)) h
noncomputable def Fn (f:(String->Option Builtin)->Program->World->Nat->Option Value->Nat->Shared->Thread->Option Shared) (tb:String->Option Builtin) (p:Program):Prop :=
 ∀ (w:World) (os:OsState),f tb p w 11 (some (.ref 6)) 2 (SS EF 286 564 w os).abs ⟨doneF .next,cE p,⟨205,0,233,88⟩,[topFrame ⟨0,0,0,0⟩]⟩=some ⟨sL w.params,⟨[]⟩,⟨0,0,0,0⟩,564,os⟩
theorem fin:Fn topRun treeTable PW:=by
 rw [PySem.W.Fast.te14082659384304107361,PySem.W.Fast.te14364793385576792824,show PW=TP from PySem.W.Fast.te6399270814091051884]
 exact fun w os=>by kernel_rfl
noncomputable def Pr (f:(String->Option Builtin)->Program->World->Nat->Option Value->Nat->Shared->Thread->Option (Shared × Thread)) (d:(String->Option Builtin)->Code->Sem Fin) (tb:String->Option Builtin) (p:Program):Prop :=
 ∀ (w:World) (os:OsState),f tb p w 11 (some (.ref 6)) 12 ⟨boot_heap w.params,⟨[]⟩,boot_drawn,boot_toks,os⟩ (topStub p)=some (⟨GP w.params,⟨[]⟩,⟨0,0,0,0⟩,187,os⟩,⟨d tb (cE p),cE p,⟨0,0,0,0⟩,[topFrame ⟨0,0,0,0⟩]⟩)
theorem Ef:Pr topGo denote treeTable PW:=by
 rw [PySem.W.Fast.te15667345088766844465,PySem.W.Fast.te11892475500146522536,PySem.W.Fast.te14364793385576792824,show PW=TP from PySem.W.Fast.te6399270814091051884]
 exact fun w os=>by kernel_rfl
noncomputable def Bl (f:(String->Option Builtin)->Program->World->Nat->Option Value->Nat->Nat->Shared->Thread->Option (Flow × Shared × Code × Pos)) (tb:String->Option Builtin) (p:Program):Prop :=
 ∀ (w:World) (os:OsState),f tb p w 11 (some (.ref 6)) 1 1 ⟨GP w.params,⟨[]⟩,⟨0,0,0,0⟩,187,os⟩ (blockOf (behindTheImports p) (ev p) (cE p) ⟨0,0,0,0⟩ [topFrame ⟨0,0,0,0⟩])=some (.next,(SS Dd 15 187 w os).abs,cE p,⟨0,0,0,0⟩)
theorem Mo:Bl segRun treeTable PW:=by
 rw [PySem.W.Fast.te14374325043358763698,PySem.W.Fast.te14364793385576792824,show PW=TP from PySem.W.Fast.te6399270814091051884]
 exact fun w os=>by kernel_rfl
theorem K4:(behindTheImports PW).drop 48=[]:=by kernel_rfl
theorem run (w:World) (os:OsState):topRun treeTable PW w 11 (some (.ref 6)) (12+(1+(289+(214+(398+(137+(392+(389+(157+2))))))))) ⟨boot_heap w.params,⟨[]⟩,boot_drawn,boot_toks,os⟩ (topStub PW)=some ⟨sL w.params,⟨[]⟩,⟨0,0,0,0⟩,564,os⟩:=by
 refine go_top (Ef w os) ?_
 refine piece_block (Mo w os) ?_
 refine step c0 (step c1 (step c2 (step c3 (step c4 (step c5 (step c6 ?_))))))
 rw [K4]
 exact fin w os
theorem size (w:World):((boot_heap w.params).isNs mainGlobals && (Array.mk ([]:List GenState)).size == 0,(boot_heap w.params).objs.size,(boot_heap w.params).nsMap mainGlobals "__annotations__")=(true,11,some (.ref 6)):=by kernel_rfl
theorem op:∀ w:World,(fencedOpening treeTable PW w 4062).map (fun s=>(s.heap,s.gens,s.drawn,s.toks))=some (boot_heap w.params,Array.mk [],boot_drawn,boot_toks) :=
 boot_open (by kernel_rfl) (by decide) (fun s=>by kernel_rfl)
noncomputable def KP:List Nat:=[0,2,3,5,6,7,9,11,13,14,15,17,18,19,20,21,22,23,24,26,27,28,29,30,31,32,33,34,35,36,37,39,40,41,42,43,44,45,46,47]
noncomputable def VW (p:Program):Program:={ p with main:={ p.main with body:=KP.filterMap fun i=>p.main.body[i]? } }
noncomputable abbrev S9 (w:World) (os:OsState):Shared:=⟨sL w.params,⟨[]⟩,⟨0,0,0,0⟩,564,os⟩
noncomputable def LA (im:List Stmt->List Str) (p:Program):Prop :=
 ∀ (w:World) (os:OsState),(staticsOk (im p.main.body) (boot_heap w.params) (sL w.params) && namesBound p (sL w.params) && gensDone (S9 w os) && laidKept (boot_heap w.params) (sL w.params))=true
theorem la:LA importedModules PW:=by
 rw [PySem.W.Fast.te5923862056798008813,show PW=TP from PySem.W.Fast.te6399270814091051884]
 exact fun w os=>by kernel_rfl
noncomputable abbrev XT (q:Program):Shared->Bool:=fun s=>xlAt q [] s && recOk [] s
theorem M7 (w:World) (os:OsState):PySem.W.Fast.tw4187177175401517315 (VW TP) [] (PySem.W.Fast.tw5923862056798008813 TP.main.body) (XT (VW TP)) true (S9 w os)=openGood (VW TP) []:=by kernel_rfl
end
end OT
namespace mW
open PySem PySem.Spec PyProof.Rows L2
noncomputable abbrev Q (l:List Nat):Str:=⟨⟨l⟩⟩
noncomputable abbrev fq (b c:Str) (s:Stmt) (q:Str) (t n:Nat):Obj:=⟨(Value.type "function"),none,.func (Zo0 b c (jM s) (iQ s) (aO s) Value.none Value.none Value.none (Value.str q t) none (Value.ref n) Value.none),⟨[]⟩⟩
set_option maxRecDepth 100000 in
noncomputable def KF:Params->ZoW:=fun P =>
 (nat_lit 28,fq "full_column" "full_column" vo OT.lg 194 27) ::
 (nat_lit 33,fq "input_columns" "input_columns" rG OT.lg 194 32) ::
 (nat_lit 77,fq "chosen_lit" "chosen_lit" vk OT.HH 261 76) ::
 (nat_lit 84,fq "lit_tie" "lit_tie" wg OT.wV 272 83) ::
 (nat_lit 91,fq "is_whole" "is_whole" wH OT.r6 283 90) ::
 (nat_lit 98,fq "is_between" "is_between" yB OT.r6 283 97) ::
 (nat_lit 103,fq "is_rising" "is_rising" sh OT.r6 283 102) ::
 (nat_lit 108,fq "is_cut_of" "is_cut_of" sJ OT.gc 307 107) ::
 (nat_lit 113,fq "need_pieces" "need_pieces" rT OT.gc 307 112) ::
 (nat_lit 120,fq "need_ties" "need_ties" uP OT.gc 307 119) ::
 (nat_lit 125,fq "piece_column" "piece_column" qj OT.gc 307 124) ::
 (nat_lit 137,fq "__init__" "Board.__init__" sy OT.gc 307 136) ::
 (nat_lit 142,fq "pieces" "Board.pieces" sF OT.gc 307 141) ::
 (nat_lit 149,fq "ties" "Board.ties" xn OT.gc 307 148) ::
 (nat_lit 154,fq "columns" "Board.columns" qb OT.gc 307 153) ::
 (nat_lit 173,fq "table_text" "table_text" su OT.gg 397 172) ::
 (nat_lit 180,fq "tie_text" "tie_text" ur OT.gg 397 179) ::
 (nat_lit 185,fq "board_lines" "board_lines" p5 OT.gg 397 184) ::
 (nat_lit 190,fq "number_of" "number_of" rL OT.gg 397 189) ::
 (nat_lit 197,fq "many_of" "many_of" sZ OT.gg 397 196) ::
 (nat_lit 202,fq "table_of" "table_of" lQ OT.gg 397 201) ::
 (nat_lit 207,fq "piece_of" "piece_of" rF OT.gg 397 206) ::
 (nat_lit 214,fq "tie_of" "tie_of" uz OT.gg 397 213) ::
 (nat_lit 219,fq "ties_of" "ties_of" rR OT.gg 397 218) ::
 (nat_lit 224,fq "board_of" "board_of" nV OT.gg 397 223) ::
 (nat_lit 231,fq "_law_cell_at" "_law_cell_at" wR OT.gn 467 230) ::
 (nat_lit 238,fq "_law_cut" "_law_cut" xb OT.gn 467 237) ::
 (nat_lit 245,fq "_law_piece" "_law_piece" xE OT.gn 467 244) ::
 (nat_lit 252,fq "_law_lit" "_law_lit" xG OT.gn 467 251) ::
 (nat_lit 259,fq "_law_number" "_law_number" tE OT.gn 467 258) ::
 (nat_lit 266,fq "_law_whole" "_law_whole" uI OT.gn 467 265) ::
 (nat_lit 273,fq "_law_pieces_told" "_law_pieces_told" yn OT.gn 467 272) ::
 (nat_lit 280,fq "_law_pieces_by" "_law_pieces_by" ug OT.gn 467 279) ::
 (nat_lit 285,fq "law" "law" mz OT.gn 467 284) ::
 (nat_lit 27,OT.Cf P) ::
 (nat_lit 32,OT.BB P) ::
 (nat_lit 76,OT.qk P) ::
 (nat_lit 83,OT.qm P) ::
 (nat_lit 90,OT.qv P) ::
 (nat_lit 97,OT.o9 P) ::
 (nat_lit 102,OT.qD P) ::
 (nat_lit 107,OT.qa P) ::
 (nat_lit 112,OT.p9 P) ::
 (nat_lit 119,OT.nr P) ::
 (nat_lit 124,OT.pN P) ::
 (nat_lit 136,OT.oN P) ::
 (nat_lit 141,OT.qT P) ::
 (nat_lit 148,OT.qt P) ::
 (nat_lit 153,OT.ny P) ::
 (nat_lit 172,OT.nR P) ::
 (nat_lit 179,OT.qf P) ::
 (nat_lit 184,OT.oH P) ::
 (nat_lit 189,OT.nY P) ::
 (nat_lit 196,OT.ph P) ::
 (nat_lit 201,OT.qK P) ::
 (nat_lit 206,OT.qr P) ::
 (nat_lit 213,OT.oY P) ::
 (nat_lit 218,OT.o8 P) ::
 (nat_lit 223,OT.oy P) ::
 (nat_lit 230,OT.nA P) ::
 (nat_lit 237,OT.qY P) ::
 (nat_lit 244,OT.pw P) ::
 (nat_lit 251,OT.qp P) ::
 (nat_lit 258,OT.nZ P) ::
 (nat_lit 265,OT.qR P) ::
 (nat_lit 272,OT.og P) ::
 (nat_lit 279,OT.oS P) ::
 (nat_lit 284,OT.qB P) ::
 (nat_lit 2,OT.b2 P) ::
 (nat_lit 3,OT.oZ P) ::
 (nat_lit 43,OT.rf P) ::
 (nat_lit 42,OT.D6 P) ::
 (nat_lit 56,OT.AW P) ::
 (nat_lit 55,OT.CH P) ::
 (nat_lit 68,OT.rz P) ::
 (nat_lit 67,OT.qJ P) ::
 (nat_lit 164,OT.pX P) ::
 (nat_lit 163,OT.pB P) :: []
end mW
namespace OT
open PySem PySem.W PySem.Spec
noncomputable abbrev AS:List Addr:=(nat_lit 28 :: nat_lit 33 :: nat_lit 77 :: nat_lit 84 :: nat_lit 91 :: nat_lit 98 :: nat_lit 103 :: nat_lit 108 :: nat_lit 113 :: nat_lit 120 :: nat_lit 125 :: nat_lit 137 :: nat_lit 142 :: nat_lit 149 :: nat_lit 154 :: nat_lit 173 :: nat_lit 180 :: nat_lit 185 :: nat_lit 190 :: nat_lit 197 :: nat_lit 202 :: nat_lit 207 :: nat_lit 214 :: nat_lit 219 :: nat_lit 224 :: nat_lit 231 :: nat_lit 238 :: nat_lit 245 :: nat_lit 252 :: nat_lit 259 :: nat_lit 266 :: nat_lit 273 :: nat_lit 280 :: nat_lit 285 :: nat_lit 27 :: nat_lit 32 :: nat_lit 76 :: nat_lit 83 :: nat_lit 90 :: nat_lit 97 :: nat_lit 102 :: nat_lit 107 :: nat_lit 112 :: nat_lit 119 :: nat_lit 124 :: nat_lit 136 :: nat_lit 141 :: nat_lit 148 :: nat_lit 153 :: nat_lit 172 :: nat_lit 179 :: nat_lit 184 :: nat_lit 189 :: nat_lit 196 :: nat_lit 201 :: nat_lit 206 :: nat_lit 213 :: nat_lit 218 :: nat_lit 223 :: nat_lit 230 :: nat_lit 237 :: nat_lit 244 :: nat_lit 251 :: nat_lit 258 :: nat_lit 265 :: nat_lit 272 :: nat_lit 279 :: nat_lit 284 :: nat_lit 2 :: nat_lit 3 :: nat_lit 43 :: nat_lit 42 :: nat_lit 56 :: nat_lit 55 :: nat_lit 68 :: nat_lit 67 :: nat_lit 164 :: nat_lit 163 :: [])
noncomputable abbrev HK:Hook:=kHook mW.KF AS (fun _=>by kernel_rfl)
theorem lb (w:World) (os:OsState):openSeen (VW PW) [] (importedModules PW.main.body) (XT (VW PW)) true (S9 w os)=openGood (VW PW) []:=by
 rw [PySem.W.Fast.te4187177175401517315,PySem.W.Fast.te5923862056798008813,show PW=TP from PySem.W.Fast.te6399270814091051884]
 exact M7 w os
theorem lc (w:World) (os:OsState):HK.obs (S9 w os)=HK.val w:=by kernel_rfl
theorem left:LeftO PW (VW PW) [] (XT (VW PW)) HK.obs HK.val 4062 :=
 LeftO.of_pieces op size run (by decide) fun w=>funext fun os=>by
  rw [la w os,lb w os,lc w os]
end OT
open PySem PySem.W PyProof.Rows
set_option maxRecDepth 100000 in
set_option maxHeartbeats 0 in
theorem PySem.Challenge.cw_gatefold_k39_board_read_holds : PySem.Challenge.rw_gatefold_k39_board_read.Holds := by
 w_on;o_law
 refine holds_open (q:=OT.VW OT.PW) (loose:=[]) (Xt:=OT.XT (OT.VW OT.PW)) (XP:=XL (OT.VW OT.PW) []) (Yf:=OT.HK.obs) (Ya:=OT.HK.val) (YP:=OT.HK.says) (N:=4062) OT.left OT.HK.of OT.HK.keeps
  (fun s e=>xl_of s (Bool.and_eq_true_iff.mp e).1) XL.keeps (by rfl) (by rfl) (by rfl)
  (fun s e=>recFacts_of (Bool.and_eq_true_iff.mp e).2) (by rfl) (by first | assumption | decide +kernel)
  (by decide +kernel)
  ⟨rfl,rfl,rfl,rfl,rfl,by decide +kernel⟩ ?hw ?hc
 case hw=>w_witness2
 refine mW.walk (l:=PySem.Challenge.rw_gatefold_k39_board_read) (K:=mW.KF) rfl rfl (fun w h Y=>PySem.W.kIn_of Y) ?F
 case F =>
  intro w mg fa h KX G hmg
  k_fill
  refine' mW.all_mk KX G hmg ⟨?aC_Board,?pg_Board,?hd_Board,?po_Board,?sa_Board,?mk_Board,?kc_Board⟩ (.mk' ?a0 ?l0 ?c0 ?k0) (.mk' ?a1 ?l1 ?c1 ?k1) (.mk' ?a2 ?l2 ?c2 ?k2) (.mk' ?a3 ?l3 ?c3 ?k3) (.mk' ?a4 ?l4 ?c4 ?k4) (.mk' ?a5 ?l5 ?c5 ?k5) (.mk' ?a6 ?l6 ?c6 ?k6) (.mk' ?a7 ?l7 ?c7 ?k7) (.mk' ?a8 ?l8 ?c8 ?k8) (.mk' ?a9 ?l9 ?c9 ?k9) (.mk' ?a10 ?l10 ?c10 ?k10) (.mk' ?a11 ?i11 ?l11 ?c11 ?k11) (.mk' ?a12 ?i12 ?l12 ?c12 ?k12) (.mk' ?a13 ?i13 ?l13 ?c13 ?k13) (.mk' ?a14 ?i14 ?l14 ?c14 ?k14) (.mk' ?a15 ?l15 ?c15 ?k15) (.mk' ?a16 ?l16 ?c16 ?k16) (.mk' ?a17 ?l17 ?c17 ?k17) (.mk' ?a18 ?l18 ?c18 ?k18) (.mk' ?a19 ?l19 ?c19 ?k19) (.mk' ?a20 ?l20 ?c20 ?k20) (.mk' ?a21 ?l21 ?c21 ?k21) (.mk' ?a22 ?l22 ?c22 ?k22) (.mk' ?a23 ?l23 ?c23 ?k23) (.mk' ?a24 ?l24 ?c24 ?k24) (.mk' ?a25 ?l25 ?c25 ?k25) (.mk' ?a26 ?l26 ?c26 ?k26) (.mk' ?a27 ?l27 ?c27 ?k27) (.mk' ?a28 ?l28 ?c28 ?k28) (.mk' ?a29 ?l29 ?c29 ?k29) (.mk' ?a30 ?l30 ?c30 ?k30) (.mk' ?a31 ?l31 ?c31 ?k31) (.mk' ?a32 ?l32 ?c32 ?k32) (.mk' ?a33 ?l33 ?c33 ?k33) ?ki_Board ?kj_Board ?kq_Board ?kt_Board ?km_Board ?n_Board_many ?n_Board_kept_pieces ?n_Board_kept_ties ?g_FIGURES ?g_GREATEST_KNOT ?g_LONGEST_CUT ?g_MOST_FIGURES ?g_MOST_INPUTS ?z_all ?z_bool ?z_dict ?z_enumerate ?z_int ?z_isinstance ?z_len ?z_list ?z_min ?z_range ?z_sorted ?z_str ?z_sum ?z_tuple ?z_zip
  (case aC_Board | pg_Board | hd_Board | po_Board | sa_Board | mk_Board | kc_Board | a0 | l0 | c0 | k0 | a1 | l1 | c1 | k1 | a2 | l2 | c2 | k2 | a3 | l3 | c3 | k3 | a4 | l4 | c4 | k4 | a5 | l5 | c5 | k5 | a6 | l6 | c6 | k6 | a7 | l7 | c7 | k7 | a8 | l8 | c8 | k8 | a9 | l9 | c9 | k9 | a10 | l10 | c10 | k10 | a11 | i11 | l11 | c11 | k11 | a12 | i12 | l12 | c12 | k12 | a13 | i13 | l13 | c13 | k13 | a14 | i14 | l14 | c14 | k14 | a15 | l15 | c15 | k15 | a16 | l16 | c16 | k16 | a17 | l17 | c17 | k17 | a18 | l18 | c18 | k18 | a19 | l19 | c19 | k19 | a20 | l20 | c20 | k20 | a21 | l21 | c21 | k21 | a22 | l22 | c22 | k22 | a23 | l23 | c23 | k23 | a24 | l24 | c24 | k24 | a25 | l25 | c25 | k25 | a26 | l26 | c26 | k26 | a27 | l27 | c27 | k27 | a28 | l28 | c28 | k28 | a29 | l29 | c29 | k29 | a30 | l30 | c30 | k30 | a31 | l31 | c31 | k31 | a32 | l32 | c32 | k32 | a33 | l33 | c33 | k33=>k_is)
  (case ki_Board=>first | rfl | decide +kernel | k_is)
  (case kj_Board=>first | rfl | decide +kernel | k_is)
  (case kq_Board=>first | rfl | decide +kernel | k_is)
  (case kt_Board=>first | rfl | decide +kernel | k_is)
  (case km_Board=>first | rfl | decide +kernel | k_is)
  (case n_Board_many | n_Board_kept_pieces | n_Board_kept_ties | g_FIGURES | g_GREATEST_KNOT | g_LONGEST_CUT | g_MOST_FIGURES | g_MOST_INPUTS | z_all | z_bool | z_dict | z_enumerate | z_int | z_isinstance | z_len | z_list | z_min | z_range | z_sorted | z_str | z_sum | z_tuple | z_zip=>k_is)

