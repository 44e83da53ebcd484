import PyProof.Rows.All
import Wide.All
import OpenK.AllK
import Wide.FinOn
import Lean
import PyProof.EqAt
import PyProof.EqKinds
import PyProof.TupleCall
import PyProof.ZipIter
import PyProof.WalksMore
import PyProof.ListNew
import PyProof.IsiBase
import PyProof.DictList
import PyProof.AttrMiss
import PyProof.FactsAll.dict
import PyProof.ListRange
import PyProof.StrLawsWords
import PyProof.StationsW
import KE.KIsAll
import PyProof.PassesOwn
import PyProof.DictIter
import KE.KRevIter
import KE.KRangeStep
import KE.RegMulBits
import KE.KDictList
import PyProof.EnumIter
import PyProof.Rows.SortShell
import PyProof.EnumStmt
import PyProof.DictUpdate
import PyProof.Draws
import PyProof.EnumMake
import PyProof.Rows.SumAny
import KE.KIntText
import PySem.Challenge.RW_gatefold_k36_laid
local macro_rules | `(command|def $i:declId $s:optDeclSig $v:declVal)=>`(command|noncomputable def $i:declId $s:optDeclSig $v:declVal)
local macro_rules | `(command|abbrev $i:declId $s:optDeclSig $v:declVal)=>`(command|noncomputable abbrev $i:declId $s:optDeclSig $v:declVal)
local macro_rules | `(#v[$a,*]) => `(⟨$a,*⟩)
local macro_rules | `(⋯) => `(by omega)
open Option renaming some → Aa, none → Ae
open PySem renaming Value → Ac, Addr → Ad, wpAny_bind → Af, Shared → Ag, wpAny_pure → Aj, Program → Al, wpAny → An, FuncData → Ao, mainGlobals → Ap, starEach → As, Around → At, World → Au, compareOp → Av, Heap → Ax, wpAny_holding → Ay, Stmt → Az, DictEntry → AA, binaryOp → AD, wpAny_truthy_bool → AE, wpAny_mono → AF, wpAny_field → AG, wpAny_Call_Name_kw → AH, sysModules → AI, wpAny_setField_rec → AJ, behindInMarks → AK, builtinLookup_eq_fast → AM, backTo → AN, wpAny_passesOwn → AO, codeAny_builtin → AQ, wpAny_pyIter_list → AR, NameKind → AT, assignEach → AU, wpAny_attempt → AV, codeAny → AX, wpAny_getItem_str_slice → AZ, wpAny_seqItems → A0, wpAny_nextOf_list_item → A1, sizeLine_eq → A2, bootBuiltins → Bb, wpAny_call_entry → Bc, treeTable → Bd, rawInt → Be, wpAny_standAt → Bf, attributeBase → Bg, typeLookup_type → Bh, tupleKind_room_in1 → Bi, sub_AttributeError → Bj, getattributeRaised → Bk, wpAny_rule → Bm, sliceBounds → Bn, wpAny_pyNext_list_item → Bo, wpAny_pyNext_list_end → Br, cLine → Bs, typeLookup → Bt, plainId_quiet → Bu, ExceptHandler → Bv, keywordEach → Bw, codeAny_call_builtin → Bx, ZipApart → Bz, wpAny_execs_nil → BA, Params → BB, post_val_or_str → BC, IsPair → BD, codeAny_mono → BF, setFlight → BH, wpAny_setField → BI, foldedSetIterable → BJ, BindsTo → BK, wpAny_comprehension_free → BM, wpAny_onRaise → BN, tupleKind → BO, GenState → BP, wpAny_isInstance → BQ, checkBuiltinCall → BR, wpAny_pyNext_range_end → BU, wpAny_pyIter_rangeiter → BV, wpAny_call → BW, Keyword → BX, call_meets → BZ, valueAt → B0, CmpOp → B2, letOwnedTupleGo → B3, wpAny_isTrue_Compare1 → B4, codeAny_handlers_test → B5, wpAny_nextOf_list_end → B6, IsRangeIter → B7, Result → B8, recursionLimit → B9, backToKw → Ca, loadIfAlive → Cb, wpAny_raiseAttrError → Cc, unbindBehindTheSuite → Cd, wpAny_pyIter_revIter → Ce, wpAny_updateSeq_pair → Cf, wpAny_newTuple → Cg, swapsWith → Ci, callerA → Cj, noteFrame → Ck, wpAny_newList → Cp, bindArgs → Ct, getItem → Cv, seqIndex_neg → Cw, wpAny_mkText → Cy, lastMarks → Cz, getMethod → CA, seqIndex_of → CB
open Bool renaming false → Ah, true → Ai
open PyProof.Rows renaming wpS_bind → Ak, wpS_pure → Am, arrOf → Aq, Keyed → Ar, pendingOf → Aw, SortSt → AB, wpS_forRange → AC, wpS_mono → AL, reverseSlice' → AW, envOfC → AY, seqObj → Ba, oneType' → Bp, failedOf → Bq, AllBare → BE, IntsAre → BG, wpS_get → BL, wpS_lift → BS, subscriptTail_builtinR → BY, wpS_modify → B1, mirror_perm → Ch, subscriptTail → Co, sortedHeap → Cq, setPending → Cr
open PySem.W renaming Frag → aE, kitOne → eC, nsIn → jW, findIn → lO, mg_of → oN, ktsIn → qo, mg_none_of → ro, kia_one → ug, fnOf → uK, excIn → vq, emptyDict → xK, keepIn → xl, instObj → yi, plainGet → Kc, specialIn → Mi, mroIn → Lp, codeIn → Jt, lookIn → QC, hasDictIn → Rc, isFn → Sk, takesIn → Sz, callWith_K → Rm, methodObj → SH, plainGet_of → XM, plainOver → Xi, takerIn → Y4, makesIn → Wj, OpenLaw → Ye, KdlSrc → T2, methodCall_KW → Zv7, cellsFrom_some → Zv8, rangeSize_downNat → Zv9
open PySem.F renaming plainAttrs_list → sZ, slot_list_append → vS, type_list_append → vz, excBase_ValueError → Fp, slot_dict_pop → Zwe, plainAttrs_dict → Zwf, slot_dict_update → Zwg, slot_list_pop → Zwh, type_list_pop → Zwi
open List renaming length_map → aQ, getElem?_eq_some_iff → dS, mem_singleton → dQ, range → dX, getElem?_eq_getElem → eF, length_append → eG, mem_map → fE, mem_append → fG, map_append → fN, replicate → gR, getElem?_map → gX, mem_cons → iN, size_toArray → iO, map_map → iR, map_cons → jF, mem_of_getElem? → jP, getD → jY, Nodup → kK, length_cons → lG, getD_eq_getElem?_getD → mS, getElem?_append_left → mY, append_assoc → oJ, length_replicate → oQ, take_add_one → pJ, mem_append_left → qe, mem_append_right → qK, getElem?_append_right → qP, length_singleton → rg, length_nil → rA, take_length → rC, mem_cons_of_mem → sC, Perm → rS, mem_cons_self → uh, length_take → uw, getElem_mem → tR, length_range → ub, getElem?_eq_none → tI, mem_filter → uA, nodup_cons → uL, filter_append → uJ, filter_cons → uX, lookup_cons → vG, all_eq_true → vI, pairwise_iff_getElem → uZ, not_mem_nil → wJ, take_append_drop → wK, mem_iff_getElem? → wE, mem_range → wZ, append_nil → xt, replicate_succ → xm, length_filter_le → xf, range_succ → wN, drop_eq_getElem_cons → xg, perm_append_comm → xc, map_nil → yB, foldl_cons → zu, length_reverse → zN, take_of_length_le → yD, map_congr_left → ym, lookup → Eg, getElem?_replicate → Fv, getElem?_cons_succ → Hz, mem_of_mem_take → CH, map_id → F9, any_cons → IF, find?_cons → HP, nodup_nil → IA, getElem?_cons_zero → Ja, nodup_append → HM, all_map → HZ, drop_of_length_le → IH, getElem?_drop → Jf, extract_eq_take_drop → Ii, mem_reverse → IJ, filter_map → II, filterMap_cons → Ju, flatten_cons → Nb, Pairwise → Oy, forIn_cons → Ke, getElem?_take → Nf, pairwise_map → OH, getElem?_set_self → Rw, getElem?_take_of_lt → Q1, length_drop → QZ, filter_nil → Ri, take_zero → R3, forIn_nil → RE, mem_of_mem_drop → R6, concat_eq_append → Sa, zip_cons_cons → QE, mem_flatMap → Rb, getElem?_set_ne → Zo, of_mem_zip → V2, pairwise_singleton → SO, pairwise_append → XZ, take_add → VG, drop_drop → Wn, take_take → Wp, eq_nil_or_concat → VT, getElem?_reverse → Vl, drop_eq_nil_of_le → ZxV, find?_cons_of_pos → ZxW, find?_cons_of_neg → ZxX, length_erase_of_mem → ZxY, length_pos_of_mem → ZxZ, length_eq_zero_iff → Zx0, take_append_of_le_length → Zx1
open Nat renaming le_refl → bV, ne_of_lt → gW, le_trans → lC, lt_or_ge → lD, lt_of_lt_of_le → nr, zero_le → rE, ne_of_gt → se, sub_self → vD, not_lt_zero → yg, le_of_lt → yj, pow_succ → zO, pow_le_pow_right → zg, testBit_lt_two_pow → C7, lt_of_not_le → FY, lt_irrefl → IX, le_of_eq → HC, zero_add → HQ, lt_succ_self → JO, testBit_two_pow_sub_one → Jq, pow_pos → Ji, testBit_and → NV, min_eq_left → Jn, lt_trichotomy → OS, le_succ → RL, testBit_or → QK, le_add_right → QY, add_zero → QA, lt_or_eq_of_le → Sh, div_add_mod → ZI, mod_two_eq_zero_or_one → Wu, testBit_xor → Zp, one_le_two_pow → V1, le_of_lt_succ → W6, testBit_two_pow_add_gt → Zyz, testBit_two_pow_add_eq → ZyA
open Int renaming toNat_natCast → oK, le_refl → sN, toNat → uN, eq_ofNat_of_zero_le → vP, le_trans → Ph, le_of_lt → OP, emod_nonneg → JI, emod_lt_of_pos → VM, ediv_nonneg → Yo, fdiv_eq_ediv_of_nonneg → ZyK
open Array renaming getElem?_toList → mi, length_toList → ph, toList_append → uM, toList_push → Dh, toList_extract → IG, getElem?_eq_some_iff → MW, getElem?_eq_getElem → Nt, size_setIfInBounds → Rg, toList_reverse → Xc, getElem?_eq_none → ZyU, toArray_toList → ZyV, perm_iff_toList_perm → ZyW, eraseIdxIfInBounds → ZyX
open Bool renaming false_ne_true → mQ, and_eq_true → sE, false_eq_true → vE, eq_iff_iff → HJ, true_and → RJ, and_eq_true_iff → Sf, false_or → Vk, or_eq_true → W3
local macro_rules | `(tactic| omega) => `(tactic| first | ((fail_if_success (fail_if_success omega +splitDisjunctions)); lia) | omega +splitDisjunctions)
set_option Elab.async false
set_option linter.all false
open PySem PySem.Spec PyProof.Rows
set_option maxHeartbeats 4000000
set_option maxRecDepth 100000
structure A3 (a b c:Prop):Prop where mk::(p1:a) (p2:b) (p3:c)
structure A4 (a b c d:Prop):Prop where mk::(p1:a) (p2:b) (p3:c) (p4:d)
structure A5 (a b c d e:Prop):Prop where mk::(p1:a) (p2:b) (p3:c) (p4:d) (p5:e)
structure A6 (a b c d e f:Prop):Prop where mk::(p1:a) (p2:b) (p3:c) (p4:d) (p5:e) (p6:f)
inductive A7 (a b c d e f g:Prop):Prop|mk:a->b->c->d->e->f->g->A7 a b c d e f g
inductive A8 (a b c d e f g h:Prop):Prop|mk:a->b->c->d->e->f->g->h->A8 a b c d e f g h
inductive A9 (a b c d e f g h i:Prop):Prop|mk:a->b->c->d->e->f->g->h->i->A9 a b c d e f g h i
inductive A10 (a b c d e f g h i j:Prop):Prop|mk:a->b->c->d->e->f->g->h->i->j->A10 a b c d e f g h i j
inductive A11 (a b c d e f g h i j k:Prop):Prop|mk:a->b->c->d->e->f->g->h->i->j->k->A11 a b c d e f g h i j k
inductive A13 (a b c d e f g h i j k l m:Prop):Prop|mk:a->b->c->d->e->f->g->h->i->j->k->l->m->A13 a b c d e f g h i j k l m
inductive A14 (a b c d e f g h i j k l m n:Prop):Prop|mk:a->b->c->d->e->f->g->h->i->j->k->l->m->n->A14 a b c d e f g h i j k l m n
section
variable {a b c d e f g h i j k l m n o p q:Type}
inductive E2 (Z:a->b->Prop):Prop|mk A B:Z A B->E2 Z
inductive E3 (Z:a->b->c->Prop):Prop|mk A B C:Z A B C->E3 Z
inductive E4 (Z:a->b->c->d->Prop):Prop|mk A B C D:Z A B C D->E4 Z
inductive E5 (Z:a->b->c->d->e->Prop):Prop|mk A B C D E:Z A B C D E->E5 Z
inductive E6 (Z:a->b->c->d->e->f->Prop):Prop|mk A B C D E F:Z A B C D E F->E6 Z
inductive E7 (Z:a->b->c->d->e->f->g->Prop):Prop|mk A B C D E F G:Z A B C D E F G->E7 Z
inductive E8 (Z:a->b->c->d->e->f->g->h->Prop):Prop|mk A B C D E F G H:Z A B C D E F G H->E8 Z
inductive E9 (Z:a->b->c->d->e->f->g->h->i->Prop):Prop|mk A B C D E F G H I:Z A B C D E F G H I->E9 Z
inductive E10 (Z:a->b->c->d->e->f->g->h->i->j->Prop):Prop|mk A B C D E F G H I J:Z A B C D E F G H I J->E10 Z
inductive E11 (Z:a->b->c->d->e->f->g->h->i->j->k->Prop):Prop|mk A B C D E F G H I J K:Z A B C D E F G H I J K->E11 Z
inductive E13 (Z:a->b->c->d->e->f->g->h->i->j->k->l->m->Prop):Prop|mk A B C D E F G H I J K L M:Z A B C D E F G H I J K L M->E13 Z
inductive E15 (Z:a->b->c->d->e->f->g->h->i->j->k->l->m->n->o->Prop):Prop|mk A B C D E F G H I J K L M N O:Z A B C D E F G H I J K L M N O->E15 Z
inductive E17 (Z:a->b->c->d->e->f->g->h->i->j->k->l->m->n->o->p->q->Prop):Prop|mk A B C D E F G H I J K L M N O P Q:Z A B C D E F G H I J K L M N O P Q->E17 Z
end
local macro_rules | `(∅)=>`(by decide +kernel)
namespace L2
@[irreducible]def andL:Nat->Lean.Term->Array Lean.Term->Array Lean.Term
 | 0,r,l=>l.push r
 |n+1,r,l=>match r with
  | `($x /\ $y)=>andL n y (l.push x)
  |_=>l.push r
@[irreducible]def andM(a b:Lean.Term):Lean.MacroM Lean.Term:=
 let l:=andL 40 b #[a]
 if l.size<3 || l.size > 30 then Lean.Macro.throwUnsupported else `($(Lean.mkIdent (.mkSimple s!"A{l.size}")) $l*)
@[irreducible]def exM(xs:Lean.Syntax)(b:Lean.Term):Lean.MacroM Lean.Term:=do
 let e:=xs[0]
 let g:=if e.getKind == ``Lean.unbracketedExplicitBinders then #[(e[0].getArgs,if e[1].isNone then Ae else Aa e[1][1])] else e.getArgs.map λy=>(y[1].getArgs,Aa y[3])
 let v:=g.flatMap λ(is,t)=>is.map λi=>(i[0],t)
 if v.size<2 ||v.size>25 then Lean.Macro.throwUnsupported
 let mut r:Lean.Term:=b
 for (i,t) in v.reverse do
  r <-match i.isIdent,t with
   | true,Aa t=>`(λ($(⟨i⟩) : $(⟨t⟩))=>$r)
   | true,Ae=>`(fun $(⟨i⟩)=>$r)
   | _,Aa t=>`(λ(_ : $(⟨t⟩))=>$r)
   | _,Ae=>`(λ_=>$r)
 `($(Lean.mkIdent (.mkSimple s!"E{v.size}")) $r)
end L2
local macro_rules | `($a /\ $b)=>L2.andM a b
local macro_rules | `(∃ $xs:explicitBinders,$b)=>L2.exM xs b
local macro_rules | `($a<&&>$b)=>`(And $a $b)
namespace L2
abbrev Key:=Sum Int Str
def IC:Key->Ac->Bool
 |.inl k,v=>Value.isInt k v
 |.inr x,v=>Value.isStrOf x v
def Yx(w:Au):Key->Int
 |.inl k=>hashInt k
 |.inr x=>hashStr w x
theorem wu:∀{k:Key}{v:Ac},IC k v=Ai->(∃i t,k=Sum.inl i/\v=Value.int i t)\/(∃x t,k=Sum.inr x/\v=Value.str x t)
 |.inl i,v,h=>by obtain⟨t,e⟩:=Value.isInt_shape (k:=i) (v:=v) h;exact .inl #v[i,t,rfl,e]
 |.inr x,v,h=>by obtain⟨t,e⟩:=Value.isStrOf_shape (x:=x) (v:=v) h;exact .inr #v[x,t,rfl,e]
theorem Zq0(i:Int)(t:Tok):IC (.inl i) (.int i t)=Ai:=by simp[IC,Value.isInt]
theorem ZqZ(x:Str)(t:Tok):IC (.inr x) (.str x t)=Ai:=by simp[IC,Value.isStrOf]
theorem Fe(a b:Int):decide ((Sum.inl a:Key)=Sum.inl b)=(a==b):=by
 by_cases e:a=b
 ·subst e;simp
 ·have h:¬(Sum.inl a:Key)=Sum.inl b:=λq=>e (Sum.inl.inj q);rw[decide_eq_false h];exact(beq_eq_false_iff_ne.mpr e).symm
theorem FH(a b:Str):decide ((Sum.inr a:Key)=Sum.inr b)=decide (a=b):=by
 by_cases e:a=b
 ·subst e;simp
 ·have h:¬(Sum.inr a:Key)=Sum.inr b:=λq=>e (Sum.inr.inj q);rw[decide_eq_false h,decide_eq_false e]
theorem FA(a:Int)(b:Str):decide ((Sum.inl a:Key)=Sum.inr b)=Ah:=decide_eq_false (λq=>nomatch q)
theorem FC(a:Str)(b:Int):decide ((Sum.inr a:Key)=Sum.inl b)=Ah:=decide_eq_false (λq=>nomatch q)
def lP(prog:Al)(w:Au):PySem.KeyKind prog w Key where
 is:=IC
 hash:=Yx w
 inj:=λv a b ha hb=>by
  rcases wu ha with⟨i,t,rfl,rfl⟩|⟨x,t,rfl,rfl⟩
  ·rcases wu hb with⟨j,u,rfl,e⟩|⟨y,u,rfl,e⟩
   ·injection e with e1 _;rw[e1]
   ·exact nomatch e
  ·rcases wu hb with⟨j,u,rfl,e⟩|⟨y,u,rfl,e⟩
   ·exact nomatch e
   ·injection e with e1 _;rw[e1]
 byValue:=λk v h=>by rcases wu h with⟨i,t,rfl,rfl⟩|⟨x,t,rfl,rfl⟩ <;> rfl
 pyHash:=λhv h=>by
  rcases wu hv with⟨i,t,rfl,rfl⟩|⟨x,t,rfl,rfl⟩
  ·exact wpAny_pyHash_int h
  ·exact wpAny_pyHash_str h
 eqBool:=λhu hv h=>by
  rcases wu hu with⟨i,t,rfl,rfl⟩|⟨x,t,rfl,rfl⟩
  ·rcases wu hv with⟨j,u,rfl,rfl⟩|⟨y,u,rfl,rfl⟩
   ·rw[Fe]at h;exact wpAny_eqBool_int h
   ·rw[FA]at h;exact SeqAt.EqAt.int_str i t y u _ _ _ _ h
  ·rcases wu hv with⟨j,u,rfl,rfl⟩|⟨y,u,rfl,rfl⟩
   ·rw[FC]at h;exact SeqAt.EqAt.str_int x t j u _ _ _ _ h
   ·rw[FH]at h;exact wpAny_eqBool_str h
 «strs»:=λk x t v h=>by
  rcases wu h with⟨i,u,rfl,e⟩|⟨y,u,rfl,e⟩
  ·exact nomatch e
  ·injection e with e1 _;subst e1;cases v <;> rfl
theorem Znj(prog:Al)(w:Au)(i:Int)(t:Tok):(lP prog w).is (.inl i) (.int i t)=Ai:=Zq0 i t
theorem Zni(prog:Al)(w:Au)(x:Str)(t:Tok):(lP prog w).is (.inr x) (.str x t)=Ai:=ZqZ x t
inductive V where
 |non|bl (b:Bool)|int (i:Int)|str (x:Str)|byt (b:Array UInt8)|flt (b:UInt64)|ref (a:Ad)|ty (n:String)
 deriving DecidableEq
def cH:V->Ac->Prop
 |.non,u=>u=Value.none
 |.bl b,u=>u=Value.bool b
 |.int i,u=>∃t,u=Value.int i t
 |.str x,u=>∃t,u=Value.str x t
 |.byt b,u=>∃t,u=Value.bytes b t
 |.flt b,u=>∃t,u=Value.float b t
 |.ref a,u=>u=Value.ref a
 |.ty n,u=>u=Value.type n
abbrev Vals:List V->List Ac->Prop:=Paired cH
theorem Vals.length(r:Vals xs us):xs.length=us.length:=Paired.length r
theorem Vals.get:∀{xs:List V}{us:List Ac}{i:Nat}{x:V},Vals xs us->xs[i]? = Aa x->∃u,us[i]? = Aa u/\cH x u
 |_,_,_,_,.nil,e=>by simp at e
 |_,_,0,_,.cons r _,e=>by simp at e;subst e;exact#v[_,rfl,r]
 |_,_,i+1,x,.cons _ t,e=>by obtain⟨u,h1,h2⟩:=Vals.get (i:=i) (x:=x) t (by simpa using e);exact#v[u,by simpa using h1,h2]
theorem Vals.set(r:cH x u):∀{xs:List V}{us:List Ac} (i:Nat),Vals xs us->Vals (xs.set i x) (us.set i u)
 |_,_,_,.nil=>.nil
 |_,_,0,.cons _ t=>.cons r t
 |_,_,i+1,.cons q t=>.cons q (Vals.set r i t)
theorem Vals.append:∀{xs ys:List V}{us c:List Ac},Vals xs us->Vals ys c->Vals (xs++ys) (us++c)
 |_,_,_,_,.nil,s=>s
 |_,_,_,_,.cons r t,s=>.cons r (Vals.append t s)
theorem Vals.take:∀{xs:List V}{us:List Ac} (n:Nat),Vals xs us->Vals (xs.take n) (us.take n)
 |_,_,0,_=>.nil
 |_,_,_+1,.nil=>.nil
 |_,_,n+1,.cons r t=>.cons r (Vals.take n t)
theorem Vals.drop:∀{xs:List V}{us:List Ac} (n:Nat),Vals xs us->Vals (xs.drop n) (us.drop n)
 |_,_,0,r=>r
 |_,_,_+1,.nil=>.nil
 |_,_,n+1,.cons _ t=>Vals.drop n t
def pR:Option V->Option Ac->Prop
 |some v,Aa u=>cH v u
 |none,Ae=>True
 |_,_=>False
def KV:List (κ×V)->List (κ×Ac)->Prop:=Paired λ(p:κ×V) (q:κ×Ac)=>p.1=q.1/\cH p.2 q.2
def kV:Key->V
 |.inl i=>.int i
 |.inr x=>.str x
inductive HO where
  |lst (xs:List V)
  |tup (xs:List V)
  |dK (kvs:List (Key×V))|dT (kvs:List (List Key×V))
  |set (S:Int->Bool) (n:Nat)
  |ins (C dx:Ad) (fs:List (Str×V))
  |own (x:Ad)
  |xd (fs:List (Str×V))
  |met (f x:Ad)
  |rng (lo hi:Int)
  |frz (o:Obj) (u:HO)
  |tbl (ps:Array Ac)
  |ext (φ:Ax->Prop)
abbrev Hp:=Ad->Option HO
def upd(H:Hp)(a:Ad)(o:HO):Hp:=λb=>if b=a then Aa o else H b
theorem cN:upd H a o a=Aa o:=by unfold upd;rw[if_pos rfl]
theorem bE(h:b≠a):upd H a o b=H b:=by unfold upd;rw[if_neg h]
theorem IN:upd (upd H a o) a u=upd H a u:=by funext b;unfold upd;split <;> rfl
theorem fS{H:Hp}{a b:Ad}{o u:HO}(h:H a=Aa o)(h':H b=Aa u)(d:o≠u):a≠b:=by intro e;subst e;rw[h]at h';exact d (Option.some.inj h')
theorem dW{H:Hp}{a b:Ad}{o:HO}(h:H a=Aa o)(h':H b=Ae):a≠b:=by intro e;subst e;rw[h]at h';cases h'
section
variable (P:Al)(w:Au)
def gI(H:Hp)(h:Ax)(a:Ad):HO->Prop
 |.lst xs=>xs.length<=sizeLine/\∃(its:List Ac) (n:Nat),Vals xs its/\h.get? a=Aa { cls:=.type "list",data:=.seq its.toArray n }
 |.tup xs=>xs.length<=sizeLine/\∃its:List Ac,Vals xs its/\IsTup h a its.toArray
 |.dK kvs=>kvs.length<=sizeLine/\(a==AI)=Ah/\∃vs,KV kvs vs/\h.DictOf (lP P w) a vs
 |.dT kvs=>kvs.length<=sizeLine/\(a==AI)=Ah/\∃xs:List (List Key×Ad×Ac),
   Paired (λ(p:List Key×V) (q:List Key×Ad×Ac)=>p.1=q.1/\H q.2.1=Aa (.tup (p.1.map kV))/\cH p.2 q.2.2) kvs xs /\
   ∃o es ep,h.get? a=Aa o/\o.ExactDict/\o.data=.dict es ep/\es.toList=xs.map (entryOfKey (BO (lP P w)))/\(xs.map (·.1)).Nodup
 |.set S n=>h.SetOf (intKind P w) a S n
 |.ins C dx fs=>H dx=Aa (.own a)/\fs.length<=1000/\dx≠a/\h.get? a=Aa (yi C dx) /\
   ∃c,h.Ns1 dx c/\(∀f,pR (fs.lookup f) (c f))/\PySem.Within c (fs.map (·.1))
 |.own _=>∃o,h.get? a=Aa o
 |.xd fs=>∃c,h.Ns1 a c/\∀f,pR (fs.lookup f) (c f)
 |.rng lo hi=>∃t u v,h.get? a=Aa { cls:=.type "range",data:=.fields #[.int lo t,.int hi u,.int 1 v] }
 |.frz o u=>h.get? a=Aa o/\gI H h a u
 |.tbl d=>h.get? a=Aa { cls:=.none,data:=.fields d }
 |.met f x=>h.get? a=Aa (SH (.ref f) (.ref x))
 |.ext φ=>φ h/\(∃o,h.get? a=Aa o)/\∀h1 h2:Ax,φ h1->(∀o,h1.get? a=Aa o->h2.get? a=Aa o)->φ h2
def jU(H:Hp)(h:Ax):Prop:=∀a o,H a=Aa o->gI P w H h a o
end
theorem gI.lt(x:gI P w H h a o):a<h.objs.size:=by
 cases o with
 |lst xs=>obtain⟨_,_,_,_,e⟩:=x;exact Heap.lt_size e
 |tup xs=>obtain⟨_,_,_,p⟩:=x;exact p.lt
 |dK kvs=>obtain⟨_,_,_,_,o,_,_,e,_⟩:=x;exact Heap.lt_size e
 |dT kvs=>obtain⟨_,_,_,_,o,_,_,e,_⟩:=x;exact Heap.lt_size e
 |set S n=>obtain⟨o,_,_,_,e,_⟩:=x;exact Heap.lt_size e
 |ins C dx fs=>obtain⟨_,_,_,e,_⟩:=x;exact Heap.lt_size e
 |own y=>obtain⟨_,e⟩:=x;exact Heap.lt_size e
 |xd fs=>obtain⟨_,⟨_,_,_,e,_⟩,_⟩:=x;exact Heap.lt_size e
 |rng lo hi=>obtain⟨_,_,_,e⟩:=x;exact Heap.lt_size e
 |frz ob u=>obtain⟨e,_⟩:=x;exact Heap.lt_size e
 |tbl c=>exact Heap.lt_size (show h.get? a=Aa _ from x)
 |met f y=>exact Heap.lt_size (show h.get? a=Aa _ from x)
 |ext φ=>obtain⟨_,⟨_,e⟩,_⟩:=x;exact Heap.lt_size e
theorem Paired.CW:∀{l₁:List α}{l₂:List β},Paired F l₁ l₂->(∀a b,F a b->G a b)->Paired G l₁ l₂
 |_,_,.nil,_=>.nil
 |_,_,.cons r t,f=>.cons (f _ _ r) (Paired.CW t f)
theorem gI.mT(x:gI P w H h a o)(k:∀b u,(b=a\/H b=Aa (.own a))->h.get? b=Aa u->h'.get? b=Aa u)
  (ho:∀b,H b=Aa (.own a)->H' b=Aa (.own a)) (ht:∀b xs,H b=Aa (.tup xs)->H' b=Aa (.tup xs)):gI P w H' h' a o:=by
 induction o with
 |lst xs=>obtain⟨z,its,n,r,e⟩:=x;exact#v[z,its,n,r,k _ _ (.inl rfl) e]
 |tup xs=>obtain⟨z,its,r,g,e,c⟩:=x;exact#v[z,its,r,g,k _ _ (.inl rfl) e,c]
 |dK kvs=>obtain⟨z,y,vs,r,g,es,ep,e,c⟩:=x;exact#v[z,y,vs,r,g,es,ep,k _ _ (.inl rfl) e,c]
 |dT kvs=>obtain⟨z,y,xs,r,g,es,ep,e,c,l,m,A⟩:=x;exact#v[z,y,xs,Paired.CW r λp q z=>#v[z.1,ht _ _ z.2,z.3],g,es,ep,k _ _ (.inl rfl) e,c,l,m,A]
 |set S n=>obtain⟨g,es,ep,t,e,c⟩:=x;exact#v[g,es,ep,t,k _ _ (.inl rfl) e,c]
 |ins C dx fs=>obtain⟨d,z,B,e,i,⟨od,es,ep,e2,c⟩,r,D⟩:=x;exact#v[ho _ d,z,B,k _ _ (.inl rfl) e,i,#v[od,es,ep,k _ _ (.inr d) e2,c],r,D]
 |own y=>obtain⟨g,e⟩:=x;exact#v[g,k _ _ (.inl rfl) e]
 |xd fs=>obtain⟨i,⟨od,es,ep,e,c⟩,r⟩:=x;exact#v[i,#v[od,es,ep,k _ _ (.inl rfl) e,c],r]
 |rng lo hi=>obtain⟨t,u,v,e⟩:=x;exact#v[t,u,v,k _ _ (.inl rfl) e]
 |frz g u ih=>obtain⟨e,q⟩:=x;exact#v[k _ _ (.inl rfl) e,ih q]
 |tbl j=>have e:h.get? a=Aa { cls:=.none,data:=.fields j }:=x;show h'.get? a=Aa { cls:=.none,data:=.fields j };exact k a _ (.inl rfl) e
 |met f y=>have e:h.get? a=Aa (SH (.ref f) (.ref y)):=x;show h'.get? a=Aa (SH (.ref f) (.ref y));exact k a _ (.inl rfl) e
 |ext φ=>obtain⟨p,⟨o,e⟩,st⟩:=x;exact#v[st _ _ p λo q=>k _ _ (.inl rfl) q,#v[o,k _ _ (.inl rfl) e],st]
theorem jU.lt(x:jU P w H h)(e:H a=Aa o):a<h.objs.size:=(x a o e).lt
theorem jU.fresh(x:jU P w H h)(e:h.objs.size<=a):H a=Ae:=by
 cases q:H a with
 |none=>rfl
 |some u=>exact absurd (nr (x.lt q) e) (IX _)
theorem jU.kept(x:jU P w H h)(k:∀b u,h.get? b=Aa u->h'.get? b=Aa u):jU P w H h':=λa o e=>(x a o e).mT (λb u _ q=>k b u q) (λ_ q=>q) λ_ _ q=>q
theorem jU.laid(x:jU P w H h)(k:∀b u,h.get? b=Aa u->h'.get? b=Aa u)(hp:h.objs.size<=a)(d:gI P w (upd H a o) h' a o):jU P w (upd H a o) h':=λb u e=>by
 have hn:=x.fresh hp;by_cases hb:b=a
 ·subst hb;rw[cN]at e;cases e;exact d
 ·rw[bE hb]at e;exact(x b u e).mT (λc v _ q=>k c v q) (λc q=>by rw[bE (dW q hn)];exact q) λc xs q=>by rw[bE (dW q hn)];exact q
def Rd(H:Hp)(a:Ad)(u:HO):Prop:=H a=Aa u\/∃o,H a=Aa (.frz o u)
theorem Rd.of(h:H a=Aa u):Rd H a u:=.inl h
theorem Rd.ok(r:Rd H a u)(x:jU P w H h):gI P w H h a u:=by
 rcases r with r|⟨o,r⟩
 ·exact x a u r
 ·obtain⟨_,q⟩:=x a _ r;exact q
def Ny:Option HO->Prop
 |some (.lst _)=>True
 |some (.dK _)=>True
 |some (.dT _)=>True
 |some (.set _ _)=>True
 |some (.ins _ _ _)=>True
 |some (.ext _)=>True
 |_=>False
theorem jU.write(ok:jU P w H h)(i:Ny (H x))(he:e=x\/H e=Aa (.own x))(k:∀b u,b≠e->h.get? b=Aa u->h'.get? b=Aa u)(j:∃u,h'.get? e=Aa u)
  (l:gI P w (upd H x o') h' x o'):jU P w (upd H x o') h':=λb u q=>by
 have f:∀c y,H c=Aa (.own y)->c≠x:=λc y r z=>by subst z;rw[r]at i;exact i
 have g:∀c xs,H c=Aa (.tup xs)->c≠x:=λc xs r z=>by subst z;rw[r]at i;exact i
 by_cases hb:b=x
 ·subst hb;rw[cN]at q;cases q;exact l
 ·rw[bE hb]at q;by_cases d:b=e
  ·have m:H b=Aa (.own x):=by
    rcases he with z|z
    ·exact absurd (d.trans z) hb
    ·rw[d];exact z
   rw[q]at m;cases m;obtain⟨v,hv⟩:=j;exact#v[v,by rw[d];exact hv]
  ·refine(ok b u q).mT (λc v hc r=>k c v ?_ r) (λc r=>by rw[bE (f c b r)];exact r) λc xs r=>by rw[bE (g c xs r)];exact r
   rcases hc with rfl|hc
   ·exact d
   ·rintro rfl;rcases he with z|z
    ·exact f c b hc z
    ·rw[hc]at z;cases z;exact hb rfl
structure Un (fs ex:List Ad) (H H':Hp) (h h':Ax):Prop where
 keep:∀b o,h.get? b=Aa o->H b=Ae->b∉fs->b∉ex->h'.get? b=Aa o
 slot:∀b o,h.get? b=Aa o->H b=Ae->b∈fs->b∉ex->∃sl,h'.get? b=Aa { o with slots:=sl }
 free:∀b o,h.get? b=Aa o->H b=Ae->b∉ex->H' b=Ae
 there:∀b o,h.get? b=Aa o->b∉ex->∃o',h'.get? b=Aa o'
 lu:∀b xs,H b=Aa (.tup xs)->H' b=Aa (.tup xs)
 kM:∀b o u,H b=Aa (.frz o u)->H' b=Aa (.frz o u)
 lx:∀b ps,H b=Aa (.tbl ps)->∃more,H' b=Aa (.tbl (ps++more))
theorem Un.any(u:Un fs ex H H1 h h1)(q:h.get? b=Aa c)(n:H b=Ae)(hx:b∉ex):∃d,h1.get? b=Aa { c with slots:=d }:=by
 by_cases hb:b∈fs
 ·exact u.slot b c q n hb hx
 ·exact#v[c.slots,u.keep b c q n hb hx]
theorem Un.kept(k:∀b u,h.get? b=Aa u->h'.get? b=Aa u):Un fs ex H H h h':=#v[λb c q _ _ _=>k b c q,λb c q _ _ _=>#v[c.slots,k b c q],λ_ _ _ n _=>n,λb c q _=>#v[c,k b c q],λ_ _ q=>q,λ_ _ _ q=>q,λ_ d q=>#v[#[],by rw[q];simp]]
theorem Un.refl:Un fs ex H H h h:=Un.kept λ_ _ q=>q
theorem Un.laid(k:∀b u,h.get? b=Aa u->h'.get? b=Aa u)(hp:h.objs.size<=a)(hn:H a=Ae):Un fs ex H (upd H a o) h h' where
 keep:=λb u q _ _ _=>k b u q
 slot:=λb u q _ _ _=>#v[u.slots,k b u q]
 free:=λb u q n _=>by rw[bE (gW (nr (Heap.lt_size q) hp))];exact n
 there:=λb u q _=>#v[u,k b u q]
 lu:=λb xs q=>by rw[bE (dW q hn)];exact q
 kM:=λb u xs q=>by rw[bE (dW q hn)];exact q
 lx:=λb c q=>#v[#[],by rw[bE (dW q hn),q];simp]
theorem Un.write(d:Ny (H x))(he:e=x\/H e=Aa (.own x))(k:∀b u,b≠e->h.get? b=Aa u->h'.get? b=Aa u)(f:∃u,h'.get? e=Aa u):Un fs ex H (upd H x o) h h':=by
 have hx:∀b,H b=Ae->b≠x:=λb n z=>by subst z;rw[n]at d;exact d
 have hb:∀b,H b=Ae->b≠e:=λb n z=>by
  subst z;rcases he with r|r
  ·exact hx b n r
  ·rw[n]at r;cases r
 have hm:∀b u,H b=Aa u->¬Ny (Aa u)->b≠x:=λb u q nm z=>by subst z;rw[q]at d;exact nm d
 refine⟨λb u q n _ _=>k b u (hb b n) q,λb u q n _ _=>#v[u.slots,k b u (hb b n) q],λb u q n _=>by rw[bE (hx b n)];exact n,λb u q _=>?_,
  λb xs q=>by rw[bE (hm b _ q λz=>z)];exact q,λb u xs q=>by rw[bE (hm b _ q λz=>z)];exact q,λb g q=>#v[#[],by rw[bE (hm b _ q λz=>z),q];simp]⟩
 by_cases c:b=e
 ·subst c;exact f
 ·exact#v[u,k b u c q]
def Sj(h:Ax)(H:Hp):List Ad:=(dX h.objs.size).filter λa=>(H a).isSome
def xC(h:Ax)(H:Hp):Ax:=PySem.W.hideAll h (Sj h H)
theorem Zq4(h:Ax)(H:Hp):(xC h H).objs.size=h.objs.size:=PySem.W.hideAll_size _ _
theorem ZsR(e:h.get? b=Aa o)(n:H b=Ae):(xC h H).get? b=Aa o:=PySem.W.hideAll_get _ e λhm=>by have q:(H b).isSome=Ai:=(uA.mp hm).2;rw[n]at q;simp at q
theorem ZuY(e:(xC h H).get? b=Aa o):h.get? b=Aa o/\H b=Ae:=by
 have c:h.get? b=Aa o:=PySem.W.of_hideAll (Sj h H) e;refine#v[c,?_];cases q:H b with
 |none=>rfl
 |some x=>have hm:b∈Sj h H:=uA.mpr #v[wZ.mpr (Heap.lt_size c),by simp[q]];have z:(xC h H).get? b=Ae:=PySem.W.hideAll_none (Sj h H) hm;rw[z]at e;cases e
def Zvy(g h:Ax)(L:Ad):List (Ad×Obj):=(dX h.objs.size).filterMap λa=>if a=L\/(g.get? a).isSome=Ai then Ae else(h.get? a).map λo=>(a,o)
def rest(g h:Ax)(L d:Ad):List (Ad×Obj):=(Zvy g h L).filter λp=>decide (p.1≠d)
structure Mod (K:aE) (mg:Str->Option Ac) (base:Ax):Prop where
 Ht:K.In base
 glob:base.Ns Ap mg
 blt:∃mb,base.Ns builtinsNs mb/\∀x:Str,x ≠ "__name__" -> mb x=Bb x
 nolimit:base.NoLimit
structure Cx where
 prog:Al
 w:Au
 K:aE
 mg:Str->Option Ac
 base:Ax
 A:At
 N:List Str
 s₀:Ag
 H₀:Hp
 env:Env
 outer:List Env
 stack:List Env
 ex:List Ad
 fn:Str->Bool
 calm:Bool
 pn:List (Ad×Obj)
 xe:Ac->Ag->Prop
def oy(l:List Env):List Ad:=l.filterMap (·.frame)
abbrev Cx.fs(X:Cx):List Ad:=oy X.outer
def Tq(c:Scope)(x:Str):Prop:=c.names.lookup x=Aa .local\/c.names.lookup x=Aa .cell\/c.names.lookup x=Aa .free
def Loc(c:Scope)(x:Str):Prop:=c.names.lookup x=Aa .local\/c.names.lookup x=Aa .cell
def Look(env:Env)(h:Ax)(m:Str->Option Ac)(x:Str)(u:Ac):Prop:=(env.kindOf x=Aa .local/\m x=Aa u)\/((env.kindOf x=Aa .cell\/env.kindOf x=Aa .free)/\∃c,env.cells.lookup x=Aa c/\h.IsCell c (Aa u))
structure Cx.Ok (X:Cx):Prop where
 mod:Mod X.K X.mg X.base
 kind:X.env.scope.kind=.function
 glob:X.env.globals=Ap
 blt:X.env.builtins=builtinsNs
 above:X.s₀.heap.objs.size<=X.env.locals
 inj:∀x y c,X.env.cells.lookup x=Aa c->X.env.cells.lookup y=Aa c->x=y
 has:∀x,(X.env.kindOf x=Aa .cell\/X.env.kindOf x=Aa .free)->∃c,X.env.cells.lookup x=Aa c
 wD:∀x c,X.fn x=Ai->X.env.cells.lookup x=Aa c->X.s₀.heap.objs.size<=c
 hd:X.calm=Ai->X.A.handled=Ae
 frames:X.A.frames=Aa X.stack
 xA:X.stack=X.outer\/(X.stack=X.env::X.outer/\X.env.frame=Aa X.env.locals)
 FN:∀b∈X.ex,b≠X.env.locals/\∀x c,X.env.cells.lookup x=Aa c->c≠b
 bs:∀b o,X.base.get? b=Aa o->X.s₀.heap.get? b=Aa o/\X.H₀ b=Ae
 rm:X.base.objs.size<=X.s₀.heap.objs.size
 nT:∀b o,X.base.get? b=Aa o->b∉X.ex
 ot:∀b∈X.ex,b∉X.fs
 gZ:X.s₀.heap.FunFrames X.base X.outer
 tL:∀b∈X.fs,X.H₀ b=Ae
structure Inv (X:Cx) (pins:List (Ad×Obj)) (σ:List (Option V)) (H:Hp) (s:Ag):Prop where
 ok:X.Ok
 os:s.os=X.s₀.os
 bare:BE s.gens
 base:Un X.fs X.ex X.H₀ H X.s₀.heap s.heap
 loc:∃m,s.heap.Ns X.env.locals m/\∀(i:Nat) (x:Str) (v:V),X.N[i]? = Aa x->σ[i]? = Aa (Aa v)->Tq X.env.scope x->∃u,cH v u/\Look X.env s.heap m x u
 cell:∀x c,X.env.cells.lookup x=Aa c->∃v,s.heap.IsCell c v
 free:H X.env.locals=Ae
 dU:∀x c,X.env.cells.lookup x=Aa c->H c=Ae
 pin:∀p∈X.pn++pins,s.heap.get? p.1=Aa p.2/\H p.1=Ae/\p.1≠X.env.locals/\p.1∉X.fs/\∀v,p.2.data≠.cell v
 bP:jU X.prog X.w H s.heap
 len:σ.length=X.N.length
section
variable {X:Cx}{pins:List (Ad×Obj)}{σ:List (Option V)}{H H':Hp}{s:Ag}{h':Ax}
theorem Cx.Ok.XC(ok:X.Ok)(e:X.base.get? b=Aa o):b∉X.fs:=λhb=>by have:=(ok.gZ.mem hb).1;rw[e]at this;cases this
theorem Inv.bs(I:Inv X pins σ H s):∀b o,X.base.get? b=Aa o->s.heap.get? b=Aa o/\H b=Ae:=λb o e=>#v[I.base.keep b o (I.ok.bs b o e).1 (I.ok.bs b o e).2 (I.ok.XC e) (I.ok.nT b o e),I.base.free b o (I.ok.bs b o e).1 (I.ok.bs b o e).2 (I.ok.nT b o e)]
theorem Inv.bk(I:Inv X pins σ H s):∀b o,X.base.get? b=Aa o->s.heap.get? b=Aa o:=λb o e=>(I.bs b o e).1
theorem Inv.mod(I:Inv X pins σ H s):Mod X.K X.mg X.base:=I.ok.mod
theorem Inv.kE(I:Inv X pins σ H s):X.K.In s.heap:=I.ok.mod.Ht.keeps I.bk
theorem Inv.nolimit(I:Inv X pins σ H s):s.heap.NoLimit:=I.ok.mod.nolimit.keeps I.bk
theorem Inv.fr(I:Inv X pins σ H s):∃m,Fr X.base X.env.locals s.heap m:=
 let ⟨m,hn,_⟩:=I.loc
 #v[m,hn,I.bk,lC I.ok.rm I.ok.above]
theorem Inv.lt(I:Inv X pins σ H s):X.env.locals<s.heap.objs.size:=let ⟨_,hn,_⟩:=I.loc;hn.lt
theorem Inv.sz(I:Inv X pins σ H s):X.s₀.heap.objs.size<=s.heap.objs.size:=lC I.ok.above (yj I.lt)
theorem Inv.Uf(I:Inv X pins σ H s)(h:s.heap.objs.size<=a):a∉X.fs:=λhb=>by obtain⟨_,o,ho,_⟩:=I.ok.gZ.mem hb;exact absurd (nr (Heap.lt_size ho) (lC I.sz h)) (IX _)
theorem Inv.Pq(I:Inv X pins σ H s):∀x c,X.env.cells.lookup x=Aa c->c≠X.env.locals:=λx c e z=>by obtain⟨v,o,ho,hd⟩:=I.cell x c e;obtain⟨m,⟨g,es,ep,f,d,_⟩,_⟩:=I.loc;rw[z,f]at ho;cases ho;rw[d]at hd;cases hd
theorem Inv.gZ(I:Inv X pins σ H s):s.heap.FunFrames X.base X.outer:=by
 have c:∀(l:List Env),(∀b∈oy l,b∈X.fs)->X.s₀.heap.FunFrames X.base l->s.heap.FunFrames X.base l:=by
  intro l
  induction l with
  |nil=>intro _ _;trivial
  |cons env r ih=>intro hs hl;obtain⟨hk,⟨L,o,hf,hn,ho,hd⟩,hr⟩:=hl;have d:L∈X.fs:=hs L (by unfold oy;rw[Ju,hf];exact uh);obtain⟨f,e⟩:=I.base.slot L o ho (I.ok.tL L d) d λz=>I.ok.ot L z d;exact#v[hk,#v[L,_,hf,hn,e,hd],ih (λb hb=>hs b (by unfold oy;rw[Ju,hf];exact sC _ hb)) hr]
 exact c X.outer (λ_ hb=>hb) I.ok.gZ
theorem Inv.stack(I:Inv X pins σ H s):s.heap.FunFrames X.base X.stack:=by
 rcases I.ok.xA with e|⟨e,hf⟩
 ·rw[e];exact I.gZ
 ·rw[e];obtain⟨m,hn,_⟩:=I.loc;refine .cons (by rw[I.ok.kind];decide) hf hn ?_ I.gZ;exact Heap.get?_none_of_le (lC I.ok.rm I.ok.above)
theorem Inv.rQ(I:Inv X pins σ H s):∀b∈oy X.stack,b∈X.env.locals::X.fs:=λb hb=>by
 rcases I.ok.xA with e|⟨e,hf⟩
 ·rw[e]at hb;exact sC _ hb
 ·rw[e]at hb;unfold oy at hb;rw[Ju,hf]at hb;exact hb
theorem Inv.mZ(I:Inv X pins σ H s):∀b∈oy X.stack,H b=Ae:=λb hb=>by
 rcases iN.mp (I.rQ b hb) with e|hb
 ·rw[e];exact I.free
 ·obtain⟨_,o,ho,_⟩:=I.ok.gZ.mem hb;exact I.base.free b o ho (I.ok.tL b hb) λz=>I.ok.ot b z hb
theorem Inv.step{ch:List Ad}(I:Inv X pins σ H s)
  (g:∀b∈ch,(b∈X.ex\/X.s₀.heap.objs.size<=b)/\b≠X.env.locals/\(∀x c,X.env.cells.lookup x=Aa c->c≠b)/\∀p∈X.pn++pins,p.1≠b)
  (keep:∀b o,b≠X.env.locals->b∉X.fs->b∉ch->s.heap.get? b=Aa o->H b=Ae->h'.get? b=Aa o)
  (slot:∀b o,b≠X.env.locals->b∈X.fs->b∉ch->s.heap.get? b=Aa o->H b=Ae->∃D,h'.get? b=Aa { o with slots:=D }) (free:∀b o,b∉ch->s.heap.get? b=Aa o->H b=Ae->H' b=Ae)
  (there:∀b o,b∉ch->s.heap.get? b=Aa o->∃A,h'.get? b=Aa A)
  (lu:∀b xs,H b=Aa (.tup xs)->H' b=Aa (.tup xs)) (kM:∀b o u,H b=Aa (.frz o u)->H' b=Aa (.frz o u)) (lx:∀b B,H b=Aa (.tbl B)->∃t,H' b=Aa (.tbl (B++t)))
  (ns:∀m,s.heap.Ns X.env.locals m->h'.Ns X.env.locals m) (C:jU X.prog X.w H' h') (hg:BE g'):
  Inv X pins σ H' { s with heap:=h',gens:=g',drawn:=d',toks:=t' }:=by
 have y:∀b o,X.s₀.heap.get? b=Aa o->b≠X.env.locals:=λb o e=>gW (nr (Heap.lt_size e) I.ok.above)
 have j:∀b o,X.s₀.heap.get? b=Aa o->b∉X.ex->b∉ch:=λb o e hx hb=>by
  rcases(g b hb).1 with z|z
  ·exact hx z
  ·exact absurd (nr (Heap.lt_size e) z) (IX _)
 have f:∀x c,X.env.cells.lookup x=Aa c->∀v,s.heap.IsCell c v->h'.IsCell c v:=λx c e v ⟨o,ho,hd⟩=>by
  have h:c∉ch:=λz=>(g c z).3 x c e rfl;by_cases hc:c∈X.fs
  ·obtain⟨D,q⟩:=slot c o (I.Pq x c e) hc h ho (I.dU x c e);exact#v[_,q,hd]
  ·exact#v[o,keep c o (I.Pq x c e) hc h ho (I.dU x c e),hd]
 refine#v[I.ok,I.os,hg,#v[λb o e n hb hx=>?_,λb o e n hb hx=>?_,λb o e n hx=>?_,λb o e hx=>?_,λb xs e=>lu b xs (I.base.lu b xs e),λb o xs e=>kM b o xs (I.base.kM b o xs e),λb B e=>?_],?_,λx c e=>?_,?_,λx c e=>?_,λp hp=>?_,C,I.len]
 ·exact keep b o (y b o e) hb (j b o e hx) (I.base.keep b o e n hb hx) (I.base.free b o e n hx)
 ·obtain⟨D,e1⟩:=I.base.slot b o e n hb hx;obtain⟨E,e2⟩:=slot b _ (y b o e) hb (j b o e hx) e1 (I.base.free b o e n hx);exact#v[E,e2]
 ·obtain⟨A,e1⟩:=I.base.there b o e hx;exact free b A (j b o e hx) e1 (I.base.free b o e n hx)
 ·obtain⟨A,e1⟩:=I.base.there b o e hx;exact there b A (j b o e hx) e1
 ·obtain⟨m1,e1⟩:=I.base.lx b B e;obtain⟨m2,e2⟩:=lx b _ e1;exact#v[m1++m2,by rw[e2,Array.append_assoc]]
 ·obtain⟨m,hn,hl⟩:=I.loc;refine#v[m,ns m hn,λi x v e1 e2 e3=>?_];obtain⟨u,r,l⟩:=hl i x v e1 e2 e3;refine#v[u,r,?_];rcases l with l|⟨k,c,e,z⟩
  ·exact .inl l
  ·exact .inr #v[k,c,e,f x c e _ z]
 ·obtain⟨v,z⟩:=I.cell x c e;exact#v[v,f x c e v z]
 ·obtain⟨m,⟨o,_,_,ho,_⟩,_⟩:=I.loc;exact free _ o (λz=>(g _ z).2 rfl) ho I.free
 ·obtain⟨v,o,ho,hd⟩:=I.cell x c e;exact free c o (λz=>(g c z).3 x c e rfl) ho (I.dU x c e)
 ·obtain⟨e,n,G,J,d⟩:=I.pin p hp;have h:p.1∉ch:=λz=>(g p.1 z).4 p hp rfl;exact#v[keep p.1 p.2 G J h e n,free p.1 p.2 h e n,G,J,d]
theorem Inv.un(I:Inv X pins σ H s)(u:Un X.fs [] H H' s.heap h')(g:jU X.prog X.w H' h'):Inv X pins σ H' { s with heap:=h',toks:=t' }:=by
 obtain⟨m,⟨o,es,ep,ho,r⟩,_⟩:=id I.loc;obtain⟨l,h⟩:=u.any ho I.free (by simp)
 exact I.step (g':=s.gens) (d':=s.drawn) (ch:=[]) (λ_ z=>nomatch z) (λb o _ hb _ e n=>u.keep b o e n hb (by simp)) (λb o _ hb _ e n=>u.slot b o e n hb (by simp)) (λb o _ e n=>u.free b o e n (by simp)) (λb o _ e=>u.there b o e (by simp)) u.lu u.kM u.lx (λj hm=>by obtain⟨k,f,d,c,i⟩:=hm;rw[ho]at c;cases c;exact#v[_,f,d,h,i]) g I.bare
theorem Inv.call(I:Inv X pins σ H s)(u:Un (oy X.stack) ch H H' s.heap h')(j:jU X.prog X.w H' h')(hg:BE g')
  (d:∀b∈ch,(b∈X.ex\/X.s₀.heap.objs.size<=b)/\b≠X.env.locals/\(∀x c,X.env.cells.lookup x=Aa c->c≠b)/\∀p∈X.pn++pins,p.1≠b):
  Inv X pins σ H' { s with heap:=h',gens:=g',drawn:=d',toks:=t' }:=by
 obtain⟨m,⟨o,es,ep,ho,r⟩,_⟩:=id I.loc;obtain⟨t,i⟩:=u.any ho I.free λz=>(d _ z).2 rfl
 exact I.step (ch:=ch) d (λb o i hb hc e n=>u.keep b o e n (λz=>(iN.mp (I.rQ b z)).elim i hb) hc) (λb o _ _ hc e n=>u.any e n hc) (λb o hc e n=>u.free b o e n hc) (λb o hc e=>u.there b o e hc) u.lu u.kM u.lx (λl hm=>by obtain⟨q,h,g,f,k⟩:=hm;rw[ho]at f;cases f;exact#v[_,h,g,i,k]) j hg
theorem Inv.turned{it:Ad}(I:Inv X pins σ H s)(k:∀b o,b≠it->s.heap.get? b=Aa o->h'.get? b=Aa o)(hn:H it=Ae)(f:it≠X.env.locals)
  (h1:it∈X.ex\/X.s₀.heap.objs.size<=it) (h2:∀x c,X.env.cells.lookup x=Aa c->c≠it) (h3:∀p∈X.pn++pins,p.1≠it):Inv X pins σ H { s with heap:=h',toks:=t' }:=by
 have d:∀b u,H b=Aa u->b≠it:=λb u e z=>by rw[z,hn]at e;cases e
 refine I.step (g':=s.gens) (d':=s.drawn) (ch:=[it]) (λb hb=>?_) (λb o _ _ hc e _=>k b o (λz=>hc (by simp[z])) e) (λb o _ _ hc e _=>#v[o.slots,k b o (λz=>hc (by simp[z])) e]) (λ_ _ _ _ n=>n)
  (λb o hc e=>#v[o,k b o (λz=>hc (by simp[z])) e]) (λ_ _ e=>e) (λ_ _ _ e=>e) (λb g e=>#v[#[],by rw[e];simp]) (λm hm=>?_) (λb u e=>?_) I.bare
 ·have e:b=it:=by simpa using hb
  subst e;exact#v[h1,f,h2,h3]
 ·obtain⟨o,es,ep,ho,r⟩:=hm;exact#v[o,es,ep,k _ o (Ne.symm f) ho,r]
 ·refine(I.bP b u e).mT (λc v hc q=>k c v ?_ q) (λ_ q=>q) λ_ _ q=>q;rcases hc with z|z
  ·rw[z];exact d b u e
  ·exact d c _ z
theorem Inv.tok(I:Inv X pins σ H s)(t:Nat):Inv X pins σ H { s with toks:=t }:=I.un (h':=s.heap) (t':=t) Un.refl I.bP
theorem Inv.kept(I:Inv X pins σ H s)(k:∀b u,s.heap.get? b=Aa u->h'.get? b=Aa u):Inv X pins σ H { s with heap:=h',toks:=t' }:=I.un (Un.kept k) (I.bP.kept k)
theorem Inv.laid(I:Inv X pins σ H s)(k:∀b u,s.heap.get? b=Aa u->h'.get? b=Aa u)(hp:s.heap.objs.size<=a)(c:gI X.prog X.w (upd H a o) h' a o):
  Inv X pins σ (upd H a o) { s with heap:=h',toks:=t' }:=I.un (Un.laid k hp (I.bP.fresh hp)) (I.bP.laid k hp c)
theorem Inv.write{x e:Ad}(I:Inv X pins σ H s)(f:Ny (H x))(he:e=x\/H e=Aa (.own x))(k:∀b u,b≠e->s.heap.get? b=Aa u->h'.get? b=Aa u)(c:∃u,h'.get? e=Aa u)
  (d:gI X.prog X.w (upd H x o) h' x o):Inv X pins σ (upd H x o) { s with heap:=h',toks:=t' }:=I.un (Un.write f he k c) (I.bP.write f he k c d)
theorem Inv.sF(I:Inv X pins σ H s)(h:∀p∈c,s.heap.get? p.1=Aa p.2/\H p.1=Ae/\p.1≠X.env.locals/\p.1∉X.fs/\∀v,p.2.data≠.cell v):Inv X c σ H s:=#v[I.ok,I.os,I.bare,I.base,I.loc,I.cell,I.free,I.dU,λp hp=>(fG.mp hp).elim (λz=>I.pin p (qe _ z)) (h p),I.bP,I.len]
theorem YW{N:List Str}(c:N.Nodup){i j:Nat}{x:Str}(a:N[i]? = Aa x)(b:N[j]? = Aa x):i=j:=by obtain⟨h1,e1⟩:=dS.mp a;obtain⟨h2,e2⟩:=dS.mp b;exact(List.getElem_inj c).mp (e1.trans e2.symm)
theorem Zlv{M:Model}{Q:Unit->Ag->Prop}(I:Inv X pins σ H s)(hN:X.N.Nodup)(hi:X.N[i]? = Aa x)(hx:Loc X.env.scope x)(r:cH v u)
  (h:∀Z,Inv X pins (σ.set i (Aa v)) H Z->(∃a,Heap.SameBut a s.heap Z.heap/\(a=X.env.locals\/X.env.cells.lookup x=Aa a))->Q () Z) (hf:X.fn x=Ai\/X.env.scope.names.lookup x=Aa .local:=by first|exact .inl rfl|exact .inr rfl|assumption):An M A (storeName X.env x u) Q E s:=by
 obtain⟨m,hn,hl⟩:=id I.loc;have D:(X.env.scope.kind == .class ||(X.env.scope.kind == .module&&X.env.locals != X.env.globals))=Ah:=by rw[I.ok.kind];rfl
 have G:i<σ.length:=by rw[I.len];exact(dS.mp hi).1
 have l:=I.Pq
 have f:∀{a:Ad}{h':Ax},(∃o,s.heap.get? a=Aa o/\H a=Ae)->Heap.SameBut a s.heap h'->jU X.prog X.w H h':=λ{a h'} ha hs b ob e=>by
  obtain⟨_,_,g⟩:=ha;refine(I.bP b ob e).mT (λc P hc q=>(hs.2 c ?_).trans q) (λ_ q=>q) λ_ _ q=>q;rintro rfl;rcases hc with rfl|hc
  ·rw[g]at e;cases e
  ·rw[g]at hc;cases hc
 rcases hx with hk|hk
 ·refine wpAny_storeName_local hk hn (λh' R hs=>?_) D;obtain⟨oL,_,_,S,_⟩:=id hn;refine h _ #v[I.ok,I.os,I.bare,#v[λb o e n hb hx=>?_,λb o e n hb hx=>?_,I.base.free,λb o e hx=>?_,I.base.lu,I.base.kM,I.base.lx],#v[_,R,λj y v' e1 e2 e3=>?_],λy c e=>?_,I.free,I.dU,λp hp=>?_,f #v[oL,S,I.free] hs,by simpa using I.len] #v[_,hs,.inl rfl]
  ·exact(hs.2 b (gW (nr (Heap.lt_size e) I.ok.above))).trans (I.base.keep b o e n hb hx)
  ·obtain⟨sl,e1⟩:=I.base.slot b o e n hb hx;exact#v[sl,(hs.2 b (gW (nr (Heap.lt_size e) I.ok.above))).trans e1]
  ·obtain⟨U,e1⟩:=I.base.there b o e hx;exact#v[U,(hs.2 b (gW (nr (Heap.lt_size e) I.ok.above))).trans e1]
  ·by_cases hj:j=i
   ·subst hj;rw[hi]at e1;cases e1;rw[Rw G]at e2;cases e2;exact#v[u,r,.inl #v[hk,by simp]]
   ·rw[Zo (Ne.symm hj)]at e2;obtain⟨u',Y,q⟩:=hl j y v' e1 e2 e3;refine#v[u',Y,?_];rcases q with⟨k,e⟩|⟨k,c,e,z⟩
    ·refine .inl #v[k,?_];have:y≠x:=λe=>hj (YW hN e1 (e ▸ hi));simp[this,e]
    ·exact .inr #v[k,c,e,z.sameBut hs (l y c e)]
  ·obtain⟨P,z⟩:=I.cell y c e;exact#v[P,z.sameBut hs (l y c e)]
  ·obtain⟨e,n,O,T,d⟩:=I.pin p hp;exact#v[(hs.2 p.1 O).trans e,n,O,T,d]
 ·have t:X.fn x=Ai:=by
   rcases hf with z|z
   ·exact z
   ·rw[z]at hk;cases hk
  obtain⟨c,hc⟩:=I.ok.has x (.inl hk);obtain⟨P,z⟩:=I.cell x c hc;refine wpAny_storeName_cell I.ok.kind hk hc z (λh' B hs=>?_);obtain⟨oc,J,K⟩:=id z;refine h { s with heap:=h' } #v[I.ok,I.os,I.bare,#v[λb o e n hb hx=>?_,λb o e n hb hx=>?_,I.base.free,λb o e hx=>?_,I.base.lu,I.base.kM,I.base.lx],#v[m,hn.sameBut hs (Ne.symm (l x c hc)),λj y v' e1 e2 e3=>?_],λy L e=>?_,I.free,I.dU,λp hp=>?_,f #v[oc,J,I.dU x c hc] hs,by simpa using I.len] #v[c,hs,.inr hc]
  ·exact(hs.2 b (gW (nr (Heap.lt_size e) (I.ok.wD x c t hc)))).trans (I.base.keep b o e n hb hx)
  ·obtain⟨sl,e1⟩:=I.base.slot b o e n hb hx;exact#v[sl,(hs.2 b (gW (nr (Heap.lt_size e) (I.ok.wD x c t hc)))).trans e1]
  ·obtain⟨U,e1⟩:=I.base.there b o e hx;exact#v[U,(hs.2 b (gW (nr (Heap.lt_size e) (I.ok.wD x c t hc)))).trans e1]
  ·by_cases hj:j=i
   ·subst hj;rw[hi]at e1;cases e1;rw[Rw G]at e2;cases e2;exact#v[u,r,.inr #v[.inl hk,c,hc,B]]
   ·rw[Zo (Ne.symm hj)]at e2;obtain⟨u',Y,q⟩:=hl j y v' e1 e2 e3;refine#v[u',Y,?_];rcases q with q|⟨k,L,e,z'⟩
    ·exact .inl q
    ·refine .inr #v[k,L,e,z'.sameBut hs ?_];rintro rfl;exact hj (YW hN e1 (I.ok.inj _ _ _ e hc ▸ hi))
  ·by_cases C:L=c
   ·subst C;exact#v[_,B]
   ·obtain⟨w2,z2⟩:=I.cell y L e;exact#v[w2,z2.sameBut hs C]
  ·obtain⟨e,n,O,T,d⟩:=I.pin p hp;refine#v[(hs.2 p.1 ?_).trans e,n,O,T,d];intro q;rw[q,J]at e;have q':oc=p.2:=Option.some.inj e;exact d P (by rw[<-q'];exact K)
theorem RP{M:Model}{Q:Unit->Ag->Prop}(I:Inv X pins σ H s)(f:X.N.Nodup)(hi:X.N[i]? = Aa x)(hx:Loc X.env.scope x)(r:cH v u)
  (h:∀c,Inv X pins (σ.set i (Aa v)) H c->Q () c) (hf:X.fn x=Ai\/X.env.scope.names.lookup x=Aa .local:=by first|exact .inl rfl|exact .inr rfl|assumption):An M A (storeName X.env x u) Q E s:=
 Zlv I f hi hx r (λc d _=>h c d) hf
theorem Inv.LL(I:Inv X pins σ H s)(ho:d.os=s.os)(u:Un (oy X.stack) ch H H' s.heap d.heap)(g:jU X.prog X.w H' d.heap)(hg:BE d.gens)
  (f:∀b∈ch,(b∈X.ex\/X.s₀.heap.objs.size<=b)/\b≠X.env.locals/\(∀x c,X.env.cells.lookup x=Aa c->c≠b)/\∀p∈X.pn++pins,p.1≠b):Inv X pins σ H' d:=by
 obtain⟨h',g',d',t',h⟩:=d;have e:h=s.os:=ho;subst e;exact I.call (g':=g') (t':=t') (d':=d') u g hg f
end
abbrev XK:=Ac->Option Ad->Hp->Prop
abbrev St:=List (Option V)
abbrev VK:=V->Hp->Prop
abbrev TE:=St->Hp->VK->Prop
abbrev TT:=St->Hp->(Bool->Hp->Prop)->Prop
abbrev TA:=St->Hp->(List V->Hp->Prop)->Prop
structure Ends where
 nx:St->Hp->Prop
 rt:VK
 bk:St->Hp->Prop:=λ_ _=>False
 ct:St->Hp->Prop:=λ_ _=>False
abbrev TS:=Ends->St->Hp->Prop
def EP(X:Cx)(c:List (Ad×Obj))(σ:St)(Q:VK)(u:Ac)(f:Ag):Prop:=∃v d,Inv X c σ d f/\cH v u/\Q v d
def TP(X:Cx)(c:List (Ad×Obj))(σ:St)(Q:Bool->Hp->Prop)(b:Bool)(f:Ag):Prop:=∃d,Inv X c σ d f/\Q b d
def AP(X:Cx)(c:List (Ad×Obj))(σ:St)(Q:List V->Hp->Prop)(us:List Ac)(f:Ag):Prop:=∃vs d,Inv X c σ d f/\Vals vs us/\Q vs d
def SP(X:Cx)(c:List (Ad×Obj))(D:Ends)(f:Flow)(h:Ag):Prop:=
 match f with
 |.next=>∃g d,Inv X c g d h/\D.nx g d
 |.brk=>∃g d,Inv X c g d h/\D.bk g d
 |.cont=>∃g d,Inv X c g d h/\D.ct g d
 |.ret u=>∃v g d,Inv X c g d h/\cH v u/\D.rt v d
def PE(X:Cx)(e:Expr)(t:TE):Prop:=∀(c:List (Ad×Obj)) (s:Ag) (σ:St) (H:Hp) (Q:VK),Inv X c σ H s->t σ H Q->An (model X.prog X.w) X.A (eval e X.env) (EP X c σ Q) X.xe s
def PT(X:Cx)(e:Expr)(t:TT):Prop:=∀(c:List (Ad×Obj)) (s:Ag) (σ:St) (H:Hp) (Q:Bool->Hp->Prop),Inv X c σ H s->t σ H Q->An (model X.prog X.w) X.A (isTrue e X.env (eval e X.env)) (TP X c σ Q) X.xe s
def PW(X:Cx)(e:Expr)(t:TT):Prop:=∀(d:Sem Ac) (c:List (Ad×Obj)) (s:Ag) (σ:St) (H:Hp) (Q:Bool->Hp->Prop),Inv X c σ H s->t σ H Q->An (model X.prog X.w) X.A (isTrue e X.env d) (TP X c σ Q) X.xe s
theorem PW.pt{e:Expr}(h:PW X e t):PT X e t:=h _
def PA(X:Cx)(es:List Expr)(t:TA):Prop:=∀(pos:Pos) (c:List (Ad×Obj)) (s:Ag) (σ:St) (H:Hp) (Q:List V->Hp->Prop),Inv X c σ H s->t σ H Q->An (model X.prog X.w) X.A (spliced (AN pos (As es X.env))) (AP X c σ Q) X.xe s
def PS(X:Cx)(st:Az)(t:TS):Prop:=∀(c:List (Ad×Obj)) (s:Ag) (σ:St) (H:Hp) (D:Ends),Inv X c σ H s->t D σ H->An (model X.prog X.w) X.A (exec st X.env) (SP X c D) X.xe s
def nc(X:Cx)(st:List Az)(t:TS):Prop:=∀(c:List (Ad×Obj)) (s:Ag) (σ:St) (H:Hp) (D:Ends),Inv X c σ H s->t D σ H->An (model X.prog X.w) X.A (execs st X.env) (SP X c D) X.xe s
theorem bY{Q c:α->Ag->Prop}{M:Model}(h:An M A t Q E s)(d:∀a s,Q a s->c a s):An M A t c E s:=AF h d λ_ _ x=>x
section
variable {X:Cx}
def MA(i:Nat):TE:=λσ H Q=>∃v,σ[i]? = Aa (Aa v)/\Q v H
def tC(v:V):TE:=λ_ H Q=>Q v H
theorem FJ(k:X.N[i]? = Aa x)(hv:Tq X.env.scope x)(hd:(x==("__debug__" : Str))=Ah:=by decide)(j:(x==("__classdict__" : Str))=Ah:=by decide):PE X (.Name x pos) (MA i):=by
 intro g s σ H Q I h;obtain⟨v,e,h⟩:=h;obtain⟨m,hn,hl⟩:=I.loc;obtain⟨u,r,l⟩:=hl i x v k e hv;have f:EP X g σ Q u s:=#v[v,H,I,r,h];rcases l with⟨hk,hm⟩|⟨hk,c,hc,d⟩
 ·exact wpAny_Name (wpAny_loadName_local I.ok.kind hk hn hm f) hd
 ·rcases hk with hk|hk
  ·exact wpAny_Name (wpAny_loadName_cell I.ok.kind hk hc d f) hd
  ·exact wpAny_Name (wpAny_loadName_free I.ok.kind hk hc d f j) hd
theorem aR{i j pos}:PE X (.Constant (.int i) j pos) (tC (.int i)):=λ_ _ _ H _ I h=>wpAny_Constant_int #v[.int i,H,I.tok _,#v[_,rfl],h]
theorem kH{b j pos}:PE X (.Constant (.bool b) j pos) (tC (.bl b)):=λ_ _ _ H _ I h=>Constant_bool #v[.bl b,H,I,rfl,h]
theorem rl{j pos}:PE X (.Constant .none j pos) (tC .non):=λ_ _ _ H _ I h=>Constant_none #v[.non,H,I,rfl,h]
theorem wO{x j pos}:PE X (.Constant (.str x) j pos) (tC (.str x)):=λ_ _ _ H _ I h=>Calls.Constant_str #v[.str x,H,I.tok _,#v[_,rfl],h]
def Gl(X:Cx)(x:Str):Prop:=X.env.kindOf x=Aa .globalImplicit
theorem FF{Q:Ac->Ag->Prop}(I:Inv X c σ H s)(hg:Gl X x)(hm:X.mg x=Aa u)(h:Q u s)
  (hd:(x==("__debug__" : Str))=Ah:=by decide):An (model X.prog X.w) X.A (eval (.Name x pos) X.env) Q E s:=
 Calls.Name_function_global I.ok.kind hg (Calls.loadGlobal_global (by rw[I.ok.glob];exact I.mod.glob.keeps I.bk) hm h) hd
theorem wk{Q:Ac->Ag->Prop}(I:Inv X c σ H s)(hg:Gl X x)(hm:X.mg x=Ae)(hv:Bb x=Aa u)(h:Q u s)
  (hn:x ≠ "__name__":=by decide) (hd:(x==("__debug__" : Str))=Ah:=by decide):An (model X.prog X.w) X.A (eval (.Name x pos) X.env) Q E s:=by
 obtain⟨d,h1,h2⟩:=I.mod.blt;exact Calls.Name_function_global I.ok.kind hg (Calls.loadGlobal_builtin (by rw[I.ok.glob];exact I.mod.glob.keeps I.bk) hm (by rw[I.ok.blt];exact h1.keeps I.bk) ((h2 x hn).trans hv) h) hd
theorem Ik(hg:Gl X x)(hm:X.mg x=Aa u)(r:cH v u)(hd:(x==("__debug__" : Str))=Ah:=by decide):PE X (.Name x pos) (tC v):=λ_ _ _ H _ I h=>FF I hg hm #v[v,H,I,r,h] hd
theorem zJ(hg:Gl X x)(hm:X.mg x=Ae)(hv:Bb x=Aa u)(r:cH v u)(hn:x ≠ "__name__":=by decide)(hd:(x==("__debug__" : Str))=Ah:=by decide):PE X (.Name x pos) (tC v):=λ_ _ _ H _ I h=>wk I hg hm hv #v[v,H,I,r,h] hn hd
variable {a b:Expr}{ta tb:TE}{pos:Pos}
def PC(X:Cx)(d:B2)(a b:Expr)(t:TE):Prop:=
 ∀(c:List (Ad×Obj)) (s:Ag) (σ:St) (H:Hp) (Q:VK),Inv X c σ H s->t σ H Q ->
  An (model X.prog X.w) X.A (eval a X.env) (λv f=>An (model X.prog X.w) X.A (eval b X.env) (λu g=>An (model X.prog X.w) X.A (Av d v u) (EP X c σ Q) X.xe g) X.xe f) X.xe s
theorem UG(b:Expr)(h:c≠.In)(h2:c≠.NotIn):AK c b=Ah:=by
 have e1:(c==CmpOp.In)=Ah:=by cases c <;> first|rfl|exact absurd rfl h
 have e2:(c==CmpOp.NotIn)=Ah:=by cases c <;> first|rfl|exact absurd rfl h2
 cases b <;> simp[AK,e1,e2]
def tB(t:TE):TT:=λσ H Q=>t σ H λx d=>∃c,x=.bl c/\Q c d
theorem Wg(h:PC X d a b t)(h1:AK d b=Ah:=by first|exact UG _ (by decide) (by decide)|rfl):PE X (.Compare a [d] [b] pos) t:=λc s σ H Q I hw=>wpAny_Compare1 (h c s σ H Q I hw) h1
theorem Gh(h:PC X g a b t)(h1:AK g b=Ah:=by first|exact UG _ (by decide) (by decide)|rfl):PT X (.Compare a [g] [b] pos) (tB t):=by intro f s σ H Q I hw;refine B4 (bY (h f s σ H _ I hw) λv m h1=>bY h1 λu n h2=>bY h2 λc p ⟨x,i,j,l,k⟩=>?_) h1;obtain⟨d,rfl,q⟩:=k;cases l;exact AE #v[i,j,q]
variable {tA Rl:TT}{rest:List Expr}
def xp(t u:TT):TT:=λσ H Q=>t σ H λc d=>if c=Ai then u σ d Q else Q Ah d
def lE(t u:TT):TT:=λσ H Q=>t σ H λc d=>if c=Ai then Q Ai d else u σ d Q
def lR(t:TT):TT:=λσ H Q=>t σ H λc d=>Q (!c) d
theorem ER(ha:PT X a tA):PW X (.BoolOp .And [a] pos) tA:=by
 intro g d s σ H Q I h;refine isTrue_and (bY (ha d s σ H Q I h) λc f e=>?_);cases c with
 |true=>exact isTrue_and_nil e
 |false=>exact e
theorem rH(ha:PT X a tA):PW X (.BoolOp .Or [a] pos) tA:=by
 intro g d s σ H Q I h;refine isTrue_or (bY (ha d s σ H Q I h) λc f e=>?_);cases c with
 |false=>exact isTrue_or_nil e
 |true=>exact e
theorem Hh(ha:PT X a tA)(hb:PW X (.BoolOp .And (b::rest) pos) Rl):PW X (.BoolOp .And (a::b::rest) pos) (xp tA Rl):=by
 intro k d s σ H Q I h;refine isTrue_and (bY (ha d s σ H _ I h) λc j ⟨f,g,i⟩=>?_);cases c with
 |true=>exact hb k d j σ f Q g i
 |false=>exact#v[f,g,i]
theorem mw(ha:PT X a tA)(hb:PW X (.BoolOp .Or (b::rest) pos) Rl):PW X (.BoolOp .Or (a::b::rest) pos) (lE tA Rl):=by
 intro k d s σ H Q I h;refine isTrue_or (bY (ha d s σ H _ I h) λc j ⟨f,g,i⟩=>?_);cases c with
 |true=>exact#v[f,g,i]
 |false=>exact hb k d j σ f Q g i
theorem mU(ha:PT X a tA):PT X (.UnaryOp .Not a pos) (lR tA):=by intro d s σ H Q I h;exact isTrue_not (ha d s σ H (λc f=>Q (!c) f) I h)
def Tp(ta tb:TE):TE:=λσ H Q=>ta σ H λx d=>∃c,x=.bl c/\if c=Ai then tb σ d Q else Q (.bl Ah) d
def Ey(ta tb:TE):TE:=λσ H Q=>ta σ H λx d=>∃c,x=.bl c/\if c=Ai then Q (.bl Ai) d else tb σ d Q
def Wo(ta:TE):TE:=λσ H Q=>ta σ H λx d=>∃c,x=.bl c/\Q (.bl (!c)) d
theorem yu{op}(h:PE X a t):PE X (.BoolOp op [a] pos) t:=λc s σ H Q I hw=>BoolOp_one (h c s σ H Q I hw)
theorem FR(ha:PE X a ta)(hb:PE X (.BoolOp .And (b::rest) pos) tb):PE X (.BoolOp .And (a::b::rest) pos) (Tp ta tb):=by
 intro d s σ H Q I h;refine BoolOp_and (bY (ha d s σ H _ I h) λv k ⟨x,g,i,j,f⟩=>?_);obtain⟨c,rfl,f⟩:=f;cases j;refine AE ?_;cases c with
 |true=>exact hb d k σ g Q i f
 |false=>exact#v[.bl Ah,g,i,rfl,f]
theorem KY(ha:PE X a ta)(hb:PE X (.BoolOp .Or (b::rest) pos) tb):PE X (.BoolOp .Or (a::b::rest) pos) (Ey ta tb):=by
 intro d s σ H Q I h;refine BoolOp_or (bY (ha d s σ H _ I h) λv k ⟨x,g,i,j,f⟩=>?_);obtain⟨c,rfl,f⟩:=f;cases j;refine AE ?_;cases c with
 |false=>exact hb d k σ g Q i f
 |true=>exact#v[.bl Ai,g,i,rfl,f]
theorem Er(ha:PE X a ta):PE X (.UnaryOp .Not a pos) (Wo ta):=by intro d s σ H Q I h;refine UnaryOp_ (bY (ha d s σ H _ I h) λv k ⟨x,g,i,j,f⟩=>?_);obtain⟨c,rfl,f⟩:=f;cases j;exact not_of (AE #v[.bl (!c),g,i,rfl,f])
def Oa(t:TT)(ta tb:TE):TE:=λσ H Q=>t σ H λc d=>if c=Ai then ta σ d Q else tb σ d Q
theorem Tk(hc:PT X c tA)(ha:PE X a ta)(hb:PE X b tb):PE X (.IfExp c a b pos) (Oa tA ta tb):=by
 intro f s σ H Q I h;refine wpAny_IfExp (bY (hc f s σ H _ I h) λd k ⟨g,i,j⟩=>?_);cases d with
 |true=>exact ha f k σ g Q i j
 |false=>exact hb f k σ g Q i j
end
def cB(K:aE)(H:Hp)(a:Ad)(xs:List V):Prop:=
 Rd H a (.lst xs) \/
  ∃(o:Obj) (its:Array Ac) (n:Nat),K.lookup a=Aa o/\o.cls=.type "list" /\ o.dict=Ae/\o.data=.seq its n/\its.size<=sizeLine/\Vals xs its.toList
def gA(K:aE)(H:Hp)(a:Ad)(xs:List V):Prop:=
 Rd H a (.tup xs) \/
  ∃(o:Obj) (its:Array Ac) (n:Nat),K.lookup a=Aa o/\o.cls=.type "tuple" /\ o.data=.seq its n/\its.size<=sizeLine/\Vals xs its.toList
def X3:Ac->Option V
 |.none=>Aa .non
 |.bool b=>Aa (.bl b)
 |.int i _=>Aa (.int i)
 |.str x _=>Aa (.str x)
 |.bytes b _=>Aa (.byt b)
 |.float b _=>Aa (.flt b)
 |.ref a=>Aa (.ref a)
 |.type n=>Aa (.ty n)
 |_=>Ae
theorem cH.abs(r:cH x u):X3 u=Aa x:=by
 cases x with
 |non=>cases r;rfl
 |bl _=>cases r;rfl
 |int _=>obtain⟨t,rfl⟩:=r;rfl
 |str _=>obtain⟨t,rfl⟩:=r;rfl
 |byt _=>obtain⟨t,rfl⟩:=r;rfl
 |flt _=>obtain⟨t,rfl⟩:=r;rfl
 |ref _=>cases r;rfl
 |ty _=>cases r;rfl
theorem cH.inj(r:cH x u)(q:cH y u):x=y:=Option.some.inj (r.abs.symm.trans q.abs)
theorem Vals.inj:∀{xs ys:List V}{us:List Ac},Vals xs us->Vals ys us->xs=ys
 |_,_,_,.nil,.nil=>rfl
 |_,_,_,.cons r t,.cons c t'=>by rw[r.inj c,Vals.inj t t']
theorem cB.of{K:aE}(h:H a=Aa (.lst xs)):cB K H a xs:=.inl (.inl h)
theorem gA.of{K:aE}(h:H a=Aa (.tup xs)):gA K H a xs:=.inl (.inl h)
theorem Inv.list(I:Inv X pins σ H s)(h:cB X.K H a xs):∃its:List Ac,Vals xs its/\PlainL s.heap a its.toArray/\xs.length<=sizeLine:=by
 rcases h with h|⟨o,its,n,hk,hc,hd,hs,hz,r⟩
 ·obtain⟨z,its,n,r,e⟩:=h.ok I.bP;exact#v[its,r,#v[_,n,e,rfl,rfl,rfl],z]
 ·refine#v[its.toList,r,#v[o,n,I.kE a o hk,hc,hd,by simpa using hs],?_];have e:=r.length;simp only[ph]at e;omega
theorem Inv.tuple(I:Inv X pins σ H s)(h:gA X.K H a xs):∃its:List Ac,Vals xs its/\IsTup s.heap a its.toArray/\xs.length<=sizeLine:=by
 rcases h with h|⟨o,its,n,hk,hc,hs,hz,r⟩
 ·obtain⟨z,its,r,p⟩:=h.ok I.bP;exact#v[its,r,p,z]
 ·refine#v[its.toList,r,#v[o,I.kE a o hk,hc,n,by simpa using hs],?_];have e:=r.length;simp only[ph]at e;omega
theorem Inv.ln(I:Inv X pins σ H s)(h:cB X.K H a xs)(h':cB X.K H a ys):xs=ys:=by
 obtain⟨its,r,⟨o,n,e,_,_,d⟩,_⟩:=I.list h;obtain⟨its',f,⟨i,g,c,_,_,d'⟩,_⟩:=I.list h';rw[e]at c;cases c;rw[d]at d';injection d' with d1 _;have:its=its':=by simpa using congrArg Array.toList d1
 subst this;exact r.inj f
theorem Inv.t4(I:Inv X pins σ H s)(h:gA X.K H a xs)(h':gA X.K H a ys):xs=ys:=by
 obtain⟨its,r,⟨o,e,_,n,d⟩,_⟩:=I.tuple h;obtain⟨its',f,⟨i,c,_,g,d'⟩,_⟩:=I.tuple h';rw[e]at c;cases c;rw[d]at d';injection d' with d1 _;have:its=its':=by simpa using congrArg Array.toList d1
 subst this;exact r.inj f
abbrev Cx.ny(X:Cx)(E:Ac->Ag->Prop):Cx:={ X with xe:=E }
abbrev Cx.vl(X:Cx):Cx:=X.ny λ_ _=>False
theorem Cx.Ok.ny{X:Cx}(ok:X.Ok)(E:Ac->Ag->Prop):(X.ny E).Ok:=#v[ok.mod,ok.kind,ok.glob,ok.blt,ok.above,ok.inj,ok.has,ok.wD,ok.hd,ok.frames,ok.xA,ok.FN,ok.bs,ok.rm,ok.nT,ok.ot,ok.gZ,ok.tL]
theorem Cx.Ok.unwish{X:Cx}{E:Ac->Ag->Prop}(ok:(X.ny E).Ok):X.Ok:=#v[ok.mod,ok.kind,ok.glob,ok.blt,ok.above,ok.inj,ok.has,ok.wD,ok.hd,ok.frames,ok.xA,ok.FN,ok.bs,ok.rm,ok.nT,ok.ot,ok.gZ,ok.tL]
theorem Inv.ny(I:Inv X pins σ H s)(E:Ac->Ag->Prop):Inv (X.ny E) pins σ H s:=#v[I.ok.ny E,I.os,I.bare,I.base,I.loc,I.cell,I.free,I.dU,I.pin,I.bP,I.len]
theorem Inv.unwish(I:Inv (X.ny E) pins σ H s):Inv X pins σ H s:=#v[I.ok.unwish,I.os,I.bare,I.base,I.loc,I.cell,I.free,I.dU,I.pin,I.bP,I.len]
theorem SP.unwish(h:SP (X.ny E) pins D f g):SP X pins D f g:=by
 cases f with
 |next=>obtain⟨d,c,I,q⟩:=h;exact#v[d,c,I.unwish,q]
 |brk=>obtain⟨d,c,I,q⟩:=h;exact#v[d,c,I.unwish,q]
 |cont=>obtain⟨d,c,I,q⟩:=h;exact#v[d,c,I.unwish,q]
 |ret u=>obtain⟨v,d,c,I,r,q⟩:=h;exact#v[v,d,c,I.unwish,r,q]
theorem nc.vl{st:List Az}(h:nc X.vl st t):nc X st t:=λpins s σ H D I hw=>AF (h pins s σ H D (I.ny _) hw) (λ_ _ q=>q.unwish) λ_ _ z=>False.elim z
section
variable {X:Cx}{st:Az}{rest:List Az}{t u:TS}{e:Expr}{te:TE}{pos:Pos}
def fI:TS:=λD σ H=>D.nx σ H
def aV(t u:TS):TS:=λD σ H=>t { D with nx:=u D } σ H
theorem fO:nc X [] fI:=λ_ _ σ H _ I h=>BA #v[σ,H,I,h]
theorem aX(h1:PS X st t)(h2:nc X rest u):nc X (st::rest) (aV t u):=by
 intro c s σ H D I h;refine wpAny_execs_cons (bY (h1 c s σ H { D with nx:=u D } I h) λf i q=>?_);cases f with
 |next=>obtain⟨j,d,g,q⟩:=q;exact h2 c i j d D g q
 |ret v=>exact q
 |brk=>exact q
 |cont=>exact q
theorem bD(h1:PS X st t):nc X [st] t:=by
 intro c s σ H D I h;refine wpAny_execs_cons (bY (h1 c s σ H D I h) λf d q=>?_);cases f with
 |next=>exact BA q
 |ret v=>exact q
 |brk=>exact q
 |cont=>exact q
def Ztt:TS:=λD σ H=>D.bk σ H
def zz:TS:=λD σ H=>D.ct σ H
theorem Zsw:PS X (.Break pos) Ztt:=λ_ _ σ H _ I h=>wpAny_Break #v[σ,H,I,h]
theorem Znb:PS X (.Continue pos) zz:=λ_ _ σ H _ I h=>wpAny_Continue #v[σ,H,I,h]
theorem Inv.quiet(I:Inv X c σ H s):interactive X.env=Ah:=by simp[interactive,I.ok.kind]
def li(te:TE):TS:=λD σ H=>te σ H λ_ c=>D.nx σ c
theorem l0(he:PE X e te)(hs:Ci e Ae pos.line X.env=pure Ah:=by rfl):PS X (.Expr e pos) (li te):=by intro c s σ H D I h;exact wpAny_Expr_any (bY (he c s σ H _ I h) λv j ⟨x,d,f,i,g⟩=>#v[σ,d,f,g]) I.quiet hs
def cY(te:TE):TS:=λD σ H=>te σ H D.rt
theorem dM(he:PE X e te):PS X (.Return (Aa e) pos) (cY te):=by intro c s σ H D I h;exact wpAny_Return_some (bY (he c s σ H _ I h) λv j ⟨x,d,f,i,g⟩=>#v[x,σ,d,f,i,g])
def Xa:TS:=λD _ H=>D.rt .non H
theorem ZuP:PS X (.Return Ae pos) Xa:=λ_ _ σ H _ I h=>wpAny_Return_none #v[.non,σ,H,I,rfl,h]
def eK(c:TT)(t u:TS):TS:=λD σ H=>c σ H λb d=>if b=Ai then t D σ d else u D σ d
theorem fC(hc:PT X c l)(ha:nc X a t)(hb:nc X b u):PS X (.If c a b pos) (eK l t u):=by
 intro f s σ H D I h;refine wpAny_If (bY (hc f s σ H _ I h) λd k ⟨g,i,j⟩=>?_);cases d with
 |true=>exact ha f k σ g D i j
 |false=>exact hb f k σ g D i j
end
abbrev TG:=V->St->Hp->(St->Hp->Prop)->Prop
abbrev xa:=List V->St->Hp->(St->Hp->Prop)->Prop
def PG(X:Cx)(c:Expr)(t:TG):Prop:=
 ∀(d:List (Ad×Obj)) (s:Ag) (σ:St) (H:Hp) (v:V) (u:Ac) (Q:St->Hp->Prop),Inv X d σ H s->cH v u->t v σ H Q ->
  An (model X.prog X.w) X.A (assign c X.env u) (λ_ h=>∃g f,Inv X d g f h/\Q g f) X.xe s
def Ig(X:Cx)(ts:List Expr)(t:xa):Prop:=
 ∀(c:List (Ad×Obj)) (s:Ag) (σ:St) (H:Hp) (vs:List V) (us:List Ac) (Q:St->Hp->Prop),Inv X c σ H s->Vals vs us->t vs σ H Q ->
  An (model X.prog X.w) X.A (assignInOrder ((AU ts X.env).map (·.2)) us) (λ_ g=>∃f d,Inv X c f d g/\Q f d) X.xe s
abbrev Em:=V->V->V->Hp->(Hp->Prop)->Prop
def C5(X:Cx)(t:Em):Prop:=
 ∀(c:List (Ad×Obj)) (s:Ag) (σ:St) (H:Hp) (o i v:V) (f iv u:Ac) (Q:Hp->Prop),Inv X c σ H s->cH o f->cH i iv->cH v u->t o i v H Q ->
  An (model X.prog X.w) X.A (setItem f iv u) (λ_ g=>∃d,Inv X c σ d g/\Q d) X.xe s
abbrev TIp:=V->V->Hp->VK->Prop
def PIp(X:Cx)(d:Operator)(t:TIp):Prop:=
 ∀(c:List (Ad×Obj)) (s:Ag) (σ:St) (H:Hp) (x y:V) (v u:Ac) (Q:VK),Inv X c σ H s->cH x v->cH y u->t x y H Q ->
  An (model X.prog X.w) X.A (inplaceOp d v u) (EP X c σ Q) X.xe s
def aU(i:Nat):TG:=λv σ H Q=>Q (σ.set i (Aa v)) H
theorem dN(i:Nat)(f:X.N.Nodup)(hi:X.N[i]? = Aa x:=by rfl)(hx:Loc X.env.scope x:=by first|exact Or.inl rfl|exact Or.inr rfl)(hf:X.fn x=Ai\/X.env.scope.names.lookup x=Aa .local:=by first|exact .inl rfl|exact .inr rfl|assumption):PG X (.Name x pos) (aU i):=by intro c s σ H v u Q I r h;exact wpAny_assign_Name (RP I f hi hx r (λg d=>#v[_,H,d,h]) hf)
def xS:xa:=λvs σ H Q=>vs=[]/\Q σ H
def o8(t:TG)(u:xa):xa:=λvs σ H Q=>∃v r,vs=v::r/\t v σ H λd c=>u r d c Q
theorem Fz:Ig X [] xS:=by intro c s σ H vs us Q I r h;obtain⟨e,h⟩:=h;subst e;cases r;exact assignInOrder_nil #v[σ,H,I,h]
theorem qc{e:Expr}(h1:PG X e t)(h2:Ig X es u)
  (hs:(AU (e::es) X.env).map (·.2)=assign e X.env::(AU es X.env).map (·.2):=by rfl):Ig X (e::es) (o8 t u):=by
 intro c s σ H vs us Q I r h;obtain⟨v,l,e1,h⟩:=h;subst e1;cases r with
 |cons r i=>rw[hs];refine assignInOrder_cons (bY (h1 c s σ H _ _ _ I r h) λ_ j ⟨k,d,f,g⟩=>?_);exact h2 c j k d _ _ Q f i g
def zG(K:aE)(n:Nat)(t:xa):TG:=λv σ H Q=>∃a xs,v=.ref a/\gA K H a xs/\xs.length=n/\t xs σ H Q
theorem IM(hc:X.calm=Ai)(h:Ig X es t)
  (hn:(AU es X.env).length=n:=by rfl) (hst:(AU es X.env).findIdx? (·.1)=Ae:=by rfl):PG X (.Tuple es k pos) (zG X.K n t):=by
 intro c s σ H v u Q I r hw;obtain⟨a,xs,e1,hq,hl,hw⟩:=hw;subst e1;cases r;obtain⟨its,d,ht,hz⟩:=I.tuple hq;refine assign_Tuple_tuple (I.ok.hd hc) ht (by simp[hn,<-hl,d.length]) hst λh' hx=>?_;have f:Inv X c σ H { s with heap:=h' }:=I.kept (t':=s.toks) λb o e=>hx b o (gW (Heap.lt_size e)) e;exact h c _ σ H xs _ Q f (by simpa using d) hw
def xP(h g:TE)(t:Em):TG:=λv σ H Q=>h σ H λo c=>g σ c λi d=>t o i v d λf=>Q σ f
theorem Ztz(ho:PE X o g)(hi:PE X i f)(hs:C5 X t)
  (ha:∀v,assign (.Subscript o i pos) X.env v=(do
   let d <-holding [v] (eval o X.env)
   let iv <-holding [v,d] (eval i X.env)
   standAt pos
   holding [v,d,iv] (setItem d iv v)
   release [v,d,iv] []):=by intro _;rfl):PG X (.Subscript o i pos) (xP g f t):=by
 intro c s σ H v u Q I r h;rw[ha];refine Af (Ay (bY (ho c s σ H _ I h) λd C ⟨x,j,m,A,q⟩=>?_));refine Af (Ay (bY (hi c C σ j _ m q) λiv D ⟨y,k,n,B,w⟩=>?_));refine Af (Bf (Af (Ay (bY (hs c D σ k x y v d iv u _ n A B r w) λ_ E ⟨l,p,z⟩=>?_))));exact wpAny_release #v[σ,l,p,z]
def cK(d:TE)(g:TG):TS:=λD σ H=>d σ H λx c=>g x σ c D.nx
theorem Mm{d e:Expr}(he:PE X e f)(hg:PG X d g)(hs:swapsWithSole [d] e pos.line X.env=pure Ah:=by rfl)(hw:swappedStores [d] e X.env=pure Ae:=by rfl)
  (h1:(AU [d] X.env).map (·.2)=[assign d X.env]:=by rfl):PS X (.Assign [d] e pos) (cK f g):=by
 intro c s σ H D I h;refine wpAny_Assign_stores (bY (he c s σ H _ I h) λv m ⟨x,i,j,l,k⟩=>?_) hs hw;rw[h1];exact bY (hg c m σ i x v _ j l k) λ_ n q=>q
theorem dL{e:Expr}(i:Nat)(l:X.N.Nodup)(he:PE X e f)(hi:X.N[i]? = Aa x:=by rfl)(hx:Loc X.env.scope x:=by first|exact Or.inl rfl|exact Or.inr rfl)(hs:Ci e (Aa (.Name x c)) pos.line X.env=pure Ah:=by rfl)(hf:X.fn x=Ai\/X.env.scope.names.lookup x=Aa .local:=by first|exact .inl rfl|exact .inr rfl|assumption):
  PS X (.Assign [.Name x c] e pos) (cK f (aU i)):=by
 intro d s σ H D I h;refine wpAny_Assign_Name (bY (he d s σ H _ I h) λv p ⟨y,g,j,n,m⟩=>?_) hs;exact RP j l hi hx n (λq k=>#v[_,g,k,m]) hf
def yN(c:TT)(i:TS):TS:=λD σ H=>∃W:Nat->St->Hp->Prop,(∃m,W m σ H)/\∀m σ H,W m σ H ->
 c σ H λb f=>if b=Ai then∃N:St->Hp->Prop,(∀h d,N h d->∃g,g<m/\W g h d)/\i { D with nx:=N,ct:=N,bk:=D.nx } σ f else D.nx σ f
theorem SA(hp:PassesOwn (model X.prog X.w) X.A X.env X.xe)(hc:PT X c E)(hb:nc X body C):PS X (.While c body [] pos) (yN E C):=by
 intro d s σ H D I h;obtain⟨W,⟨K,P⟩,i⟩:=h;refine wpAny_While (codeAny_whileLoop (λn L=>∃G u,Inv X d G u L/\W n G u) ?_ K #v[σ,H,I,P]);rintro n M ⟨m,x,J,Q⟩;refine AO hp (bY (hc d M m x _ J (i n m x Q)) λb O ⟨y,z,k⟩=>?_);cases b with
 |true=>
  obtain⟨N,B,k⟩:=k;rw[if_pos rfl];refine AO hp (bY (hb d O m y _ z k) λf R l=>?_);cases f with
  |next=>obtain⟨j,g,p,r⟩:=l;obtain⟨q,hm,t⟩:=B j g r;exact#v[q,hm,j,g,p,t]
  |cont=>obtain⟨j,g,p,r⟩:=l;obtain⟨q,hm,t⟩:=B j g r;exact#v[q,hm,j,g,p,t]
  |brk=>exact l
  |ret v=>exact l
 |false=>rw[if_neg mQ];exact BA #v[m,y,z,k]
structure It where
 go:Nat->Hp->Prop
 r9:Nat->Hp->V->Hp->Prop
 stop:Nat->Hp->Prop
def qL(X:Cx)(d:List (Ad×Obj))(H:Hp)(b:Ad):Prop:=H b=Ae/\b≠X.env.locals/\b∉X.fs/\(b∈X.ex\/X.s₀.heap.objs.size<=b)/\(∀x c,X.env.cells.lookup x=Aa c->c≠b)/\∀p∈X.pn++d,p.1≠b
theorem Inv.pS(I:Inv X d σ H s)(hb:s.heap.objs.size<=b)(hn:f b=Ae):qL X d f b:=by
 refine#v[hn,se (nr I.lt hb),I.Uf hb,.inr (lC I.sz hb),λx c e z=>?_,λp hp z=>?_]
 ·obtain⟨v,q⟩:=I.cell x c e;exact absurd (nr q.lt (by rw[z];exact hb)) (IX _)
 ·exact absurd (nr (Heap.lt_size (I.pin p hp).1) (by rw[z];exact hb)) (IX _)
structure Turn (P:Al) (w:Au) (K:aE) (tg:Expr) (J:It) (fp:List Ad) (it:Ad) (tn:Nat->Ax->Prop):Prop where
 mem:it∈fp
 obj:∀i h,tn i h->∀b∈fp,∃o,h.get? b=Aa o/\∀v,o.data≠.cell v
 keep:∀i h h',tn i h->(∀b∈fp,∀o,h.get? b=Aa o->h'.get? b=Aa o)->tn i h'
 item:∀(X:Cx),X.prog=P->X.w=w->X.K=K->X.calm=Ai->∀(i:Nat) (pins:List (Ad×Obj)) (s:Ag) (σ:St) (H:Hp) (E:Ac->Ag->Prop),Inv X pins σ H s->(∀b∈fp,qL X pins H b)->tn i s.heap->J.go i H ->
  An (model P w) X.A (pyNext (.ref it)) (λr s1=>∃u,r=Aa u /\
   An (model P w) X.A (B3 tg (.ref it) u) (λ_ s2=>∃x H',Inv X pins σ H' s2/\cH x u/\J.r9 i H x H'/\tn (i+1) s2.heap/\∀b∈fp,H' b=Ae) E s1) E s
 done:∀(X:Cx),X.prog=P->X.w=w->X.K=K->X.calm=Ai->∀(i:Nat) (pins:List (Ad×Obj)) (s:Ag) (σ:St) (H:Hp) (E:Ac->Ag->Prop),Inv X pins σ H s->(∀b∈fp,qL X pins H b)->tn i s.heap->J.stop i H ->
  An (model P w) X.A (pyNext (.ref it)) (λr s1=>r=Ae/\Inv X pins σ H s1) E s
 self:∀(A:At) (i:Nat) (s:Ag) (Q:Ac->Ag->Prop) (E:Ac->Ag->Prop),tn i s.heap->Q (.ref it) s->An (model P w) A (pyIter (.ref it)) Q E s
abbrev TI:=St->Hp->(It->Hp->Prop)->Prop
def TU(X:Cx)(c:List (Ad×Obj))(σ:St)(i:Expr)(R:It->Hp->Prop)(f:Ac)(g:Ag):Prop:=∃(it:Ad) (fp:List Ad) (h:Nat->Ax->Prop) (J:It) (d:Hp),f=.ref it/\Inv X c σ d g/\Turn X.prog X.w X.K i J fp it h/\h 0 g.heap/\(∀b∈fp,qL X c d b)/\R J d
def PI(X:Cx)(g d:Expr)(h:TI):Prop:=
 ∀(c:List (Ad×Obj)) (s:Ag) (σ:St) (H:Hp) (R:It->Hp->Prop),Inv X c σ H s->h σ H R ->
  An (model X.prog X.w) X.A (eval d X.env) (λv f=>An (model X.prog X.w) X.A (pyIter v) (TU X c σ g R) X.xe f) X.xe s
theorem Iq{M:Model}{it:Ad}{vs:Array Ac}{Q:Unit->Ag->Prop}(ho:s.heap.get? it=Aa o)(hc:o.cls=.type n)(hd:o.data=.fields vs)
    (hn:["enumerate","zip","dict_itemiterator","dict_reverseitemiterator","odict_iterator","itertools.zip_longest","itertools.pairwise"].contains n=Ah) (c:Q () s):An M A (B3 d (.ref it) u) Q E s:=by
  unfold B3
  cases d <;> first
    |exact Aj c
    |(cases u <;> first
        |exact Aj c
        |(
         refine Af (wpAny_load ho ?_);rw[hc,hd];show An M A (if(["enumerate","zip","dict_itemiterator","dict_reverseitemiterator","odict_iterator","itertools.zip_longest","itertools.pairwise"].contains n&&vs[0]?==Aa (Be _))=Ai then _ else _) Q E s;rw[if_neg (by intro h;rw[hn,Bool.false_and]at h;cases h)];exact Aj c))
def qd(K:aE)(a:Ad):It:=#v[λi H=>∃xs x,cB K H a xs/\xs[i]? = Aa x,λi H x c=>c=H/\∀xs,cB K H a xs->xs[i]? = Aa x,λi H=>∃xs,cB K H a xs/\xs.length<=i]
def va(K:aE)(a:Ad):It:=#v[λi H=>∃xs x,gA K H a xs/\xs[i]? = Aa x,λi H x c=>c=H/\∀xs,gA K H a xs->xs[i]? = Aa x,λi H=>∃xs,gA K H a xs/\xs.length<=i]
def qi(lo:Int)(n:Nat):It:=#v[λi _=>i<n,λi H x c=>c=H/\x=.int (lo+i),λi _=>n<=i]
theorem Zpx{P:Al}{w:Au}{K:aE}{t:Expr}(a it:Ad):Turn P w K t (qd K a) [it] it (λi h=>h.IsListIter it a i) where
 mem:=by simp
 obj:=λi h st b hb=>by
  have e:b=it:=by simpa using hb
  subst e;obtain⟨o,e,c,d⟩:=st;exact#v[o,e,λv z=>by rw[d]at z;cases z]
 keep:=λi h h' st k=>st.at λo e=>k it (by simp) o e
 item:=by intro X l hw j hc i f s σ H E I hf st hg;subst l hw j;obtain⟨xs,x,hq,hx⟩:=hg;obtain⟨its,m,p,hz⟩:=I.list hq;obtain⟨u,hu,q⟩:=m.get hx;obtain⟨f0,f1,f2,f3,f4,f5⟩:=hf it (by simp);refine Bo st p.isList (x:=u) (by simpa using hu) λh' g r=>?_;have n:Inv X f σ H { s with heap:=h' }:=I.turned (t':=s.toks) (λb o hb e=>(r.2 b hb).trans e) f0 f1 f3 f4 f5;obtain⟨o,e,c,d⟩:=id g;exact#v[u,rfl,Iq (s:={ s with heap:=h' }) e c d (by decide) #v[x,H,n,q,#v[rfl,λys hy=>by rw[I.ln hy hq];exact hx],g,λb hb=>(hf b hb).1]]
 done:=by intro X l hw j hc i f s σ H E I hf st hg;subst l hw j;obtain⟨xs,hq,hx⟩:=hg;obtain⟨its,m,p,hz⟩:=I.list hq;obtain⟨f0,f1,f2,f3,f4,f5⟩:=hf it (by simp);have hl:=m.length;exact Br (I.ok.hd hc) st p.isList (by simp;omega) λh' eb=>#v[rfl,I.turned (t':=s.toks) (λb o hb e=>eb b o hb e) f0 f1 f3 f4 f5]
 self:=λ_ _ _ _ _ st h=>wpAny_pyIter_listiter st h
theorem Zoz{P:Al}{w:Au}{K:aE}{t:Expr}(a it:Ad):Turn P w K t (va K a) [it] it (λi h=>h.IsTupleIter it a i) where
 mem:=by simp
 obj:=λi h st b hb=>by
  have e:b=it:=by simpa using hb
  subst e;obtain⟨o,e,c,d⟩:=st;exact#v[o,e,λv z=>by rw[d]at z;cases z]
 keep:=λi h h' st k=>st.at λo e=>k it (by simp) o e
 item:=by intro X l hw j hc i f s σ H E I hf st hg;subst l hw j;obtain⟨xs,x,hq,hx⟩:=hg;obtain⟨its,m,p,hz⟩:=I.tuple hq;obtain⟨u,hu,q⟩:=m.get hx;obtain⟨f0,f1,f2,f3,f4,f5⟩:=hf it (by simp);refine wpAny_pyNext_tuple_item st (show s.heap.IsTuple a its.toArray from p) (x:=u) (by simpa using hu) λh' g r=>?_;have n:Inv X f σ H { s with heap:=h' }:=I.turned (t':=s.toks) (λb o hb e=>(r.2 b hb).trans e) f0 f1 f3 f4 f5;obtain⟨o,e,c,d⟩:=id g;exact#v[u,rfl,Iq (s:={ s with heap:=h' }) e c d (by decide) #v[x,H,n,q,#v[rfl,λys hy=>by rw[I.t4 hy hq];exact hx],g,λb hb=>(hf b hb).1]]
 done:=by intro X l hw j hc i f s σ H E I hf st hg;subst l hw j;obtain⟨xs,hq,hx⟩:=hg;obtain⟨its,m,p,hz⟩:=I.tuple hq;obtain⟨f0,f1,f2,f3,f4,f5⟩:=hf it (by simp);have hl:=m.length;exact wpAny_pyNext_tuple_end (I.ok.hd hc) st (show s.heap.IsTuple a its.toArray from p) (by simp;omega) λh' eb=>#v[rfl,I.turned (t':=s.toks) (λb o hb e=>eb b o hb e) f0 f1 f3 f4 f5]
 self:=λ_ _ _ _ _ st h=>wpAny_pyIter_tupleiter st h
theorem ZoA{P:Al}{w:Au}{K:aE}{p:Expr}(it:Ad)(lo:Int)(n:Nat):Turn P w K p (qi lo n) [it] it (λi h=>B7 h it (lo+(i:Nat)*1) ((n:Int)-(i:Nat)) 1) where
 mem:=by simp
 obj:=λi h st b hb=>by
  have e:b=it:=by simpa using hb
  subst e
  exact⟨_,st,λv z=>by have q:Data.fields _=Data.cell v:=z;cases q⟩
 keep:=λi h h' st k=>k it (by simp) _ st
 item:=by intro X g hw f hc i c s σ H E I hf st hg;subst g hw f;obtain⟨f0,f1,f2,f3,f4,f5⟩:=hf it (by simp);have W:=Walks.range (prog:=X.prog) (w:=X.w) (I.ok.hd hc) it lo 1 n;refine W.item i s _ _ hg st λv h' j hv d m=>?_;obtain⟨t,rfl⟩:=hv;have l:Inv X c σ H { s with heap:=h',toks:=j }:=I.turned (λb o hb e=>m b o (by simpa using hb) e) f0 f1 f3 f4 f5;refine#v[_,rfl,Iq (s:={ s with heap:=h',toks:=j }) (n:="range_iterator") d rfl rfl (by decide) #v[.int (lo+i),H,l,#v[t,?_],#v[rfl,rfl],d,λb hb=>(hf b hb).1]];rw[Int.mul_one]
 done:=by intro X g hw f hc i c s σ H E I hf st hg;subst g hw f;obtain⟨f0,f1,f2,f3,f4,f5⟩:=hf it (by simp);exact BU (I.ok.hd hc) st (by have:n<=i:=hg;omega) λh' eb=>#v[rfl,I.turned (t':=s.toks) (λb o hb e=>eb b o hb e) f0 f1 f3 f4 f5]
 self:=λ_ _ _ _ _ st h=>BV st h
def jV(K:aE)(d:TE):TI:=λσ H R=>d σ H λx c=>∃a,x=.ref a<&&>(∃xs,cB K c a xs)<&&>R (qd K a) c
def yZ(K:aE)(d:TE):TI:=λσ H R=>d σ H λx c=>∃a,x=.ref a<&&>(∃xs,gA K c a xs)<&&>R (va K a) c
theorem lH(hl:PE X l g):PI X tg l (jV X.K g):=by
 intro c s σ H R I h;refine bY (hl c s σ H _ I h) λv f ⟨x,i,d,k,j⟩=>?_;obtain⟨a,e,⟨xs,hq⟩,q⟩:=j;subst e;cases k;obtain⟨its,m,p,hz⟩:=d.list hq;refine AR p.isList ?_;refine#v[f.heap.objs.size,[f.heap.objs.size],_,_,i,rfl,d.kept (t':=f.toks) λb o e=>Heap.get?_push_of_some _ e,Zpx a _,#v[_,Heap.get?_push_size _ rfl,rfl,rfl],λb hb=>?_,q];have e:b=f.heap.objs.size:=by simpa using hb
 subst e;exact d.pS (bV _) (d.bP.fresh (bV _))
theorem YT(hl:PE X l g):PI X tg l (yZ X.K g):=by
 intro c s σ H R I h;refine bY (hl c s σ H _ I h) λv d ⟨x,i,f,k,j⟩=>?_;obtain⟨a,e,⟨xs,hq⟩,q⟩:=j;subst e;cases k;obtain⟨its,m,p,hz⟩:=f.tuple hq;refine wpAny_pyIter_tuple (show d.heap.IsTuple a its.toArray from p) ?_;refine#v[d.heap.objs.size,[d.heap.objs.size],_,_,i,rfl,f.kept (t':=d.toks) λb o e=>Heap.get?_push_of_some _ e,Zoz a _,#v[_,Heap.get?_push_size _ rfl,rfl,rfl],λb hb=>?_,q];have e:b=d.heap.objs.size:=by simpa using hb
 subst e;exact f.pS (bV _) (f.bP.fresh (bV _))
theorem Zn1{lo hi:Int}(I:Inv X c σ H s)(h1 : -(2^62)<=lo)(h2:lo<2^62)(h3 : -(2^62)<=hi)(h4:hi<2^62)
  (q:R (qi lo (hi-lo).toNat) H):An (model X.prog X.w) X.A (pyIter (.ref s.heap.objs.size)) (TU X c σ tg R) E { s with heap:=s.heap.push { cls:=.type "range",data:=.fields #[.int lo t,.int hi u,.int 1 v] },toks:=f }:=by
 refine wpAny_pyIter_range (IsRange.new ..) (small_one h1 h2 h3 h4) ?_;have d:Inv X c σ H { s with heap:=s.heap.push { cls:=.type "range",data:=.fields #[.int lo t,.int hi u,.int 1 v] },toks:=f }:=I.kept λb o e=>Heap.get?_push_of_some _ e
 refine⟨(s.heap.push { cls:=.type "range",data:=.fields #[.int lo t,.int hi u,.int 1 v] }).objs.size,[(s.heap.push { cls:=.type "range",data:=.fields #[.int lo t,.int hi u,.int 1 v] }).objs.size],_,_,H,rfl,
  d.kept (t':=f) λb o e=>Heap.get?_push_of_some _ e,ZoA _ lo (hi-lo).toNat,?_,λb hb=>?_,q⟩
 ·have e1:lo+((0:Nat):Int)*1=lo:=by simp
  have e2:(((hi-lo).toNat:Nat):Int)-((0:Nat):Int)=Builtin.Range.rangeSize lo hi 1:=by rw[rangeSize_one];split <;> omega
  show B7 _ _ (lo+((0:Nat):Int)*1) ((((hi-lo).toNat:Nat):Int)-((0:Nat):Int)) 1;rw[e1,e2];exact Heap.get?_push_size _ rfl
 ·have e:b=(s.heap.push { cls:=.type "range",data:=.fields #[.int lo t,.int hi u,.int 1 v] }).objs.size:=by simpa using hb
  subst e;exact d.pS (bV _) (d.bP.fresh (bV _))
def qm(d:TA):TI:=λσ H R=>d σ H λvs c=>∃j:Int,vs=[.int j] <&&> -(2^62)<=j<&&>j<2^62<&&>R (qi 0 j.toNat) c
def Es(d:TA):TI:=λσ H R=>d σ H λvs c=>∃i:Int,∃j:Int,vs=[.int i,.int j]<&&>(-(2^62)<=i<&&>i<2^62 <&&> -(2^62)<=j<&&>j<2^62)<&&>R (qi i (j-i).toNat) c
theorem uj(hg:Gl X "range")(hm:X.mg "range" = Ae)(ha:PA X [a] f)(hs:As [a] X.env=[(Ah,eval a X.env)]:=by rfl):PI X tg (.Call (.Name "range" p) [a] [] pos) (qm f):=by
 intro c s σ H R I h;refine Call_ (wk I hg hm boot_range (PyProof.Rows.callWith_type1 (bY (ha pos c s σ H _ I h) λus n ⟨vs,m,g,k,d⟩=>?_) hs rfl));obtain⟨j,e,d,i,q⟩:=d;subst e;cases k with
 |cons r l=>cases l;obtain⟨t,rfl⟩:=r;exact call_range_1 (Zn1 g ⋯ ⋯ d i (by simpa using q))
theorem Uu(hg:Gl X "range")(hm:X.mg "range" = Ae)(ha:PA X [a,b] k)(hs:As [a,b] X.env=[(Ah,eval a X.env),(Ah,eval b X.env)]:=by rfl)(c:As [b] X.env=[(Ah,eval b X.env)]:=by rfl):
  PI X tg (.Call (.Name "range" p) [a,b] [] pos) (Es k):=by
 intro d s σ H R I h;refine Call_ (wk I hg hm boot_range (PyProof.Rows.callWith_type1 (bY (ha pos d s σ H _ I h) λus y ⟨vs,x,l,w,f⟩=>?_) (by rw[hs,c]) (by rw[c];rfl)));obtain⟨i,j,e,⟨f,m,n,u⟩,q⟩:=f;subst e;cases w with
 |cons r g=>
  cases g with
  |cons v g=>cases g;obtain⟨t,rfl⟩:=r;obtain⟨t',rfl⟩:=v;exact call_range_2 (Zn1 l f m n u q)
def gU(l:TI)(g:TG)(k:TS):TS:=λD σ H=>l σ H λJ h=>∃W:Nat->Nat->St->Hp->Prop,(∃m,W 0 m σ h)/\∀i m σ H,W i m σ H ->
 (J.stop i H/\D.nx σ H)\/(J.go i H/\∃N:St->Hp->Prop,(∀f c,N f c->∃d,d<m/\W (i+1) d f c)/\∀x c,J.r9 i H x c->g x σ c λn j=>k { D with nx:=N,ct:=N,bk:=D.nx } n j)
def O8(fp:List Ad)(h:Ax):List (Ad×Obj):=fp.filterMap λb=>(h.get? b).map λo=>(b,o)
theorem RG(hb:b∈fp)(e:h.get? b=Aa o):(b,o)∈O8 fp h:=List.mem_filterMap.mpr #v[b,hb,by rw[e];rfl]
theorem ZqF(hp:p∈O8 fp h):p.1∈fp/\h.get? p.1=Aa p.2:=by
 obtain⟨b,hb,e⟩:=List.mem_filterMap.mp hp;cases q:h.get? b with
 |none=>rw[q]at e;cases e
 |some o=>rw[q]at e;have c:(b,o)=p:=Option.some.inj e;subst c;exact#v[hb,q]
theorem Inv.pinned(I:Inv X c σ H s)(hf:∀b∈fp,qL X c H b)(ho:∀b∈fp,∃o,s.heap.get? b=Aa o/\∀v,o.data≠.cell v):Inv X (c++O8 fp s.heap) σ H s:=I.sF λp hp=>(fG.mp hp).elim (λz=>I.pin p (qK _ z)) λz=>by obtain⟨hb,e⟩:=ZqF z;obtain⟨f0,f1,f2,_⟩:=hf p.1 hb;obtain⟨o,f,d⟩:=ho p.1 hb;rw[e]at f;cases f;exact#v[e,f0,f1,f2,d]
theorem Inv.k8(I:Inv X (c++pl) σ H s):Inv X c σ H s:=I.sF λp hp=>I.pin p (qK _ (qe _ hp))
theorem my(hp:PassesOwn (model X.prog X.w) X.A X.env X.xe)(hc:X.calm=Ai)(hi:PI X tg p wi)(hg:PG X tg g)(hb:nc X body tb)
  (hs:∀x,BJ p X.env x=pure x:=by intro _;rfl):PS X (.For tg p body [] pos) (gU wi g tb):=by
 intro c s σ H D I h;refine wpAny_For (bY (hi c s σ H _ I h) λv s1 h1=>bY h1 λitv s2 h2=>?_) hs;obtain⟨it,fp,tn,J,H2,e,I2,T,V,f2,W,⟨m0,w0⟩,M⟩:=h2;subst e
 -- what stays Ai of vo iterator's objects through vo loop
 have q:∀{y:Hp},(∀b∈fp,y b=Ae)->∀b∈fp,qL X c y b:=λhn b hb=>have z:=f2 b hb;#v[hn b hb,z.2,z.3,z.4,z.5,z.6];refine codeAny_forLoop_any (λn s'=>∃i O y,Inv X c O y s'/\tn i s'.heap/\(∀b∈fp,y b=Ae)/\W i n O y) ?_ m0 #v[0,σ,H2,I2,V,λb hb=>(f2 b hb).1,w0];rintro n s3 ⟨i,P,Q,Z,K,E,w3⟩;rcases M i n P Q w3 with⟨L,qn⟩|⟨go,N,hN,step⟩
 ·refine AO hp (bY (T.done X rfl rfl rfl hc i c s3 P Q X.xe Z (q E) K L) λr s4 ⟨hr,I4⟩=>?_);subst hr;exact BA #v[P,Q,I4,qn]
 ·refine AO hp (bY (T.item X rfl rfl rfl hc i c s3 P Q X.xe Z (q E) K go) λr s4 ⟨u,hr,h4⟩=>?_);subst hr;refine AO hp (bY h4 λ_ s5 ⟨x,Y,I5,r5,y5,C,S⟩=>?_);have R:=I5.pinned (q S) (T.obj _ _ C);refine AO hp (bY (hg _ s5 P Y x u _ R r5 (step x Y y5)) λ_ s6 ⟨σ6,H6,I6,q6⟩=>?_);refine AO hp (bY (hb _ s6 σ6 H6 _ I6 q6) λf U B=>?_)
  have l:∀{t:St}{j:Hp},Inv X (c++O8 fp s5.heap) t j U->N t j->∃m,m<n/\∃i O y,Inv X c O y U/\tn i U.heap/\(∀b∈fp,y b=Ae)/\W i m O y:=λ{t j} k G=>by obtain⟨m',hm,w7⟩:=hN t j G;refine#v[m',hm,i+1,t,j,k.k8,T.keep _ _ _ C λb hb o e=>(k.pin (b,o) (qK _ (qK _ (RG hb e)))).1,λb hb=>?_,w7];obtain⟨o,e,d⟩:=T.obj _ _ C b hb;exact(k.pin (b,o) (qK _ (qK _ (RG hb e)))).2
  cases f with
  |next=>obtain⟨t,j,k,G⟩:=B;exact l k G
  |cont=>obtain⟨t,j,k,G⟩:=B;exact l k G
  |brk=>obtain⟨t,j,k,B⟩:=B;exact#v[t,j,k.k8,B]
  |ret v=>obtain⟨x7,t,j,k,r7,B⟩:=B;exact#v[x7,t,j,k.k8,r7,B]
theorem ZsZ{K:aE}{a:Ad}{xs:List V}{g:TG}{n:TS}{D:Ends}{σ:St}{H:Hp}(c:Nat->St->Hp->Prop)(h0:c 0 σ H)(hl:∀i σ H,i<=xs.length->c i σ H->cB K H a xs)
  (hs:∀i x σ H,xs[i]? = Aa x->c i σ H->g x σ H λk h=>n { D with nx:=c (i+1),ct:=c (i+1),bk:=D.nx } k h) (hd:∀σ H,c xs.length σ H->D.nx σ H):
  ∃W:Nat->Nat->St->Hp->Prop,(∃m,W 0 m σ H)/\∀i m σ H,W i m σ H ->
   ((qd K a).stop i H/\D.nx σ H)\/((qd K a).go i H/\∃N:St->Hp->Prop,(∀j d,N j d->∃l,l<m/\W (i+1) l j d)/\∀x d,(qd K a).r9 i H x d->g x σ d λk h=>n { D with nx:=N,ct:=N,bk:=D.nx } k h):=by
 refine#v[λi m σ H=>m=xs.length-i/\i<=xs.length/\c i σ H,#v[xs.length,by simp,rE _,h0],?_];rintro i m σ H ⟨rfl,hi,p⟩;have q:=hl i σ H hi p;by_cases f:i<xs.length
 ·refine .inr #v[#v[xs,xs[i],q,by simp[f]],c (i+1),λj d r=>#v[xs.length-(i+1),⋯,rfl,f,r],λx d y=>?_];obtain⟨e,y⟩:=y;subst e;exact hs i x σ _ (y xs q) p
 ·have e:i=xs.length:=⋯;subst e;exact .inl #v[#v[xs,q,bV _],hd σ H p]
theorem Zvd{K:aE}{a:Ad}{xs:List V}{g:TG}{n:TS}{D:Ends}{σ:St}{H:Hp}(c:Nat->St->Hp->Prop)(h0:c 0 σ H)(hl:∀i σ H,i<=xs.length->c i σ H->gA K H a xs)
  (hs:∀i x σ H,xs[i]? = Aa x->c i σ H->g x σ H λk h=>n { D with nx:=c (i+1),ct:=c (i+1),bk:=D.nx } k h) (hd:∀σ H,c xs.length σ H->D.nx σ H):
  ∃W:Nat->Nat->St->Hp->Prop,(∃m,W 0 m σ H)/\∀i m σ H,W i m σ H ->
   ((va K a).stop i H/\D.nx σ H)\/((va K a).go i H/\∃N:St->Hp->Prop,(∀j d,N j d->∃l,l<m/\W (i+1) l j d)/\∀x d,(va K a).r9 i H x d->g x σ d λk h=>n { D with nx:=N,ct:=N,bk:=D.nx } k h):=by
 refine#v[λi m σ H=>m=xs.length-i/\i<=xs.length/\c i σ H,#v[xs.length,by simp,rE _,h0],?_];rintro i m σ H ⟨rfl,hi,p⟩;have q:=hl i σ H hi p;by_cases f:i<xs.length
 ·refine .inr #v[#v[xs,xs[i],q,by simp[f]],c (i+1),λj d r=>#v[xs.length-(i+1),⋯,rfl,f,r],λx d y=>?_];obtain⟨e,y⟩:=y;subst e;exact hs i x σ _ (y xs q) p
 ·have e:i=xs.length:=⋯;subst e;exact .inl #v[#v[xs,q,bV _],hd σ H p]
theorem Zq9{lo:Int}{n:Nat}{g:TG}{q:TS}{D:Ends}{σ:St}{H:Hp}(d:Nat->St->Hp->Prop)(h0:d 0 σ H)
  (hs:∀i σ H,i<n->d i σ H->g (.int (lo+i)) σ H λk h=>q { D with nx:=d (i+1),ct:=d (i+1),bk:=D.nx } k h) (hd:∀σ H,d n σ H->D.nx σ H):
  ∃W:Nat->Nat->St->Hp->Prop,(∃m,W 0 m σ H)/\∀i m σ H,W i m σ H ->
   ((qi lo n).stop i H/\D.nx σ H)\/((qi lo n).go i H/\∃N:St->Hp->Prop,(∀j c,N j c->∃l,l<m/\W (i+1) l j c)/\∀x c,(qi lo n).r9 i H x c->g x σ c λk h=>q { D with nx:=N,ct:=N,bk:=D.nx } k h):=by
 refine#v[λi m σ H=>m=n-i/\i<=n/\d i σ H,#v[n,by simp,rE _,h0],?_];rintro i m σ H ⟨rfl,hi,p⟩;by_cases f:i<n
 ·refine .inr #v[f,d (i+1),λj c r=>#v[n-(i+1),⋯,rfl,f,r],λx c y=>?_];obtain⟨e,y⟩:=y;subst e y;exact hs i σ _ f p
 ·have e:i=n:=⋯;subst e;exact .inl #v[bV _,hd σ H p]
abbrev R2:=V->V->Hp->VK->Prop
def dO(X:Cx)(f:Ac->Ac->Sem Ac)(r:R2):Prop:=
 ∀(c:List (Ad×Obj)) (s:Ag) (σ:St) (H:Hp) (x y:V) (v u:Ac) (Q:VK),Inv X c σ H s->cH x v->cH y u->r x y H Q ->
  An (model X.prog X.w) X.A (f v u) (EP X c σ Q) X.xe s
def PV(X:Cx)(f:Ac->Sem Ac)(r:V->Hp->VK->Prop):Prop:=
 ∀(c:List (Ad×Obj)) (s:Ag) (σ:St) (H:Hp) (x:V) (v:Ac) (Q:VK),Inv X c σ H s->cH x v->r x H Q ->
  An (model X.prog X.w) X.A (f v) (EP X c σ Q) X.xe s
def mR(X:Cx)(f:Ac)(r:List V->Hp->VK->Prop):Prop:=
 ∀(c:List (Ad×Obj)) (s:Ag) (σ:St) (H:Hp) (xs:List V) (us:List Ac) (Q:VK),Inv X c σ H s->Vals xs us->r xs H Q ->
  An (model X.prog X.w) X.A (call f us) (EP X c σ Q) X.xe s
def U3(X:Cx)(r:V->Hp->(Bool->Hp->Prop)->Prop):Prop:=
 ∀(c:List (Ad×Obj)) (s:Ag) (σ:St) (H:Hp) (x:V) (v:Ac) (Q:Bool->Hp->Prop),Inv X c σ H s->cH x v->r x H Q ->
  An (model X.prog X.w) X.A (truthy v) (TP X c σ Q) X.xe s
def aK(r:R2)(f g:TE):TE:=λσ H Q=>f σ H λx c=>g σ c λy d=>r x y d Q
def zf(r:V->Hp->VK->Prop)(d:TE):TE:=λσ H Q=>d σ H λx c=>r x c Q
def rI(C:Int->Int->Prop)(g:Int->Int->V):R2:=λx y H Q=>∃i j,x=.int i/\y=.int j/\C i j/\Q (g i j) H
def uS(g:Int->Int->V):R2:=λx y H Q=>∃i j,x=.int i/\y=.int j/\Q (g i j) H
def rU(g:Int->V):V->Hp->VK->Prop:=λx H Q=>∃i,x=.int i/\Q (g i) H
theorem D2(ha:PE X a ta)(hb:PE X b tb){d:List (Ad×Obj)}{s:Ag}{σ:St}{H:Hp}{R:V->V->Hp->Prop}(I:Inv X d σ H s)
  (h:ta σ H λx j=>tb σ j λy g=>R x y g) {Q:Ac->Ag->Prop}{f:Ac->Ac->Sem Ac}
  (hf:∀v u i x y g,Inv X d σ g i->cH x v->cH y u->R x y g->An (model X.prog X.w) X.A (f v u) Q X.xe i):
  An (model X.prog X.w) X.A (eval a X.env) (λv t=>An (model X.prog X.w) X.A (eval b X.env) (λu z=>An (model X.prog X.w) X.A (f v u) Q X.xe z) X.xe t) X.xe s:=by
 refine bY (ha d s σ H _ I h) λv r ⟨x,j,k,p,m⟩=>?_;refine bY (hb d r σ j _ k m) λu i ⟨y,g,l,q,n⟩=>?_;exact hf v u i x y g l p q n
theorem bK(ho:dO X (AD f) r)(ha:PE X a ta)(hb:PE X b tb):PE X (.BinOp a f b pos) (aK r ta tb):=by intro d s σ H Q I h;exact wpAny_BinOp (D2 ha hb I h λv u l x y g i j k q=>ho d l σ g x y v u Q i j k q)
theorem Io(ho:PV X (unaryOp f) r)(ha:PE X a ta):PE X (.UnaryOp f a pos) (zf r ta):=by intro d s σ H Q I h;exact UnaryOp_ (bY (ha d s σ H _ I h) λv l ⟨x,g,i,k,j⟩=>ho d l σ g x v Q i k j)
theorem Gn{f:Ac->Ac->Sem Ac}{C:Int->Int->Prop}{g:Int->Int->Int}
  (d:∀(i j:Int) (t u:Tok) (s:Ag) (Q:Ac->Ag->Prop) (E:Ac->Ag->Prop),C i j->Q (.int (g i j) s.toks) { s with toks:=s.toks+1 }->An (model X.prog X.w) X.A (f (.int i t) (.int j u)) Q E s):
  dO X f (rI C λi j=>.int (g i j)):=by
 intro k s σ H x y v u Q I l m h;obtain⟨i,j,rfl,rfl,hc,q⟩:=h;obtain⟨t,rfl⟩:=l;obtain⟨t',rfl⟩:=m;exact d i j t t' s _ _ hc #v[.int (g i j),H,I.tok _,#v[_,rfl],q]
theorem vx{f:Ac->Ac->Sem Ac}{g:Int->Int->Int}
  (d:∀(i j:Int) (t u:Tok) (s:Ag) (Q:Ac->Ag->Prop) (E:Ac->Ag->Prop),Q (.int (g i j) s.toks) { s with toks:=s.toks+1 }->An (model X.prog X.w) X.A (f (.int i t) (.int j u)) Q E s):
  dO X f (uS λi j=>.int (g i j)):=by
 intro k s σ H x y v u Q I l m h;obtain⟨i,j,rfl,rfl,q⟩:=h;obtain⟨t,rfl⟩:=l;obtain⟨t',rfl⟩:=m;exact d i j t t' s _ _ #v[.int (g i j),H,I.tok _,#v[_,rfl],q]
theorem ya{f:Ac->Ac->Sem Ac}{g:Int->Int->Bool}
  (d:∀(i j:Int) (t u:Tok) (s:Ag) (Q:Ac->Ag->Prop) (E:Ac->Ag->Prop),Q (.bool (g i j)) s->An (model X.prog X.w) X.A (f (.int i t) (.int j u)) Q E s):
  dO X f (uS λi j=>.bl (g i j)):=by
 intro k s σ H x y v u Q I l m h;obtain⟨i,j,rfl,rfl,q⟩:=h;obtain⟨t,rfl⟩:=l;obtain⟨t',rfl⟩:=m;exact d i j t t' s _ _ #v[.bl (g i j),H,I,rfl,q]
def kF(i j:Int):Prop:=0<j/\j<1073741824
def tY(i j:Int):Prop:=0<=j<&&>j<=1000000<&&>i.natAbs<2^64
def xn(i j:Int):Prop:=(-(2^64)<i/\i<2^64)\/(-(2^64)<j/\j<2^64)
theorem xn.ok(h:xn i j):IntMulOk i j:=by
 rcases h with⟨h1,h2⟩|⟨h1,h2⟩
 ·exact .of_left (intBits_le_64 h1 h2)
 ·exact .of_right (intBits_le_64 h1 h2)
theorem Zoy(k:Nat):(0:Int)<=2^k:=by rw[two_pow_cast];exact Int.natCast_nonneg _
theorem Ge:dO X (AD .Add) (uS λi j=>.int (i+j)):=vx λ_ _ _ _ _ _ _ q=>add_int q
theorem Df:dO X (AD .Sub) (uS λi j=>.int (i-j)):=vx λ_ _ _ _ _ _ _ q=>sub_int q
theorem Gm:dO X (AD .Mult) (rI xn λi j=>.int (i*j)):=Gn λ_ _ _ _ _ _ _ hc q=>mul_int q hc.ok
theorem ZuW:dO X (AD .FloorDiv) (rI kF λi j=>.int (i/j)):=Gn λi j _ _ _ _ _ hc q=>by have h1:(0:Int)<j:=hc.1;have h2:j<1073741824:=hc.2;exact floordiv_int ⋯ (by rw[ZyK i ⋯];exact q) (.inl (PyProof.noPylong_small ⋯))
theorem Dy:dO X (AD .Mod) (rI (λ_ j=>0<j) λi j=>.int (i%j)):=Gn λi j _ _ _ _ _ hc q=>by have h1:(0:Int)<j:=hc;exact mod_int' ⋯ (by rw[Int.fmod_eq_emod_of_nonneg i ⋯];exact q)
theorem ED:dO X (AD .Pow) (rI tY λi j=>.int (i^j.toNat)):=Gn λ_ _ _ _ _ _ _ hc q=>pow_int_small hc.1 hc.2.1 hc.2.2 q
theorem Dk:dO X (AD .LShift) (rI tY λi j=>.int (i*2^j.toNat)):=Gn λ_ _ _ _ _ _ _ hc q=>lshift_int_small hc.1 hc.2.1 hc.2.2 q
theorem CS:dO X (AD .RShift) (rI (λ_ j=>0<=j) λi j=>.int (i/2^j.toNat)):=Gn λi j _ _ _ _ _ hc q=>rshift_int hc (by rw[ZyK i (Zoy _)];exact q)
theorem Eu:dO X (AD .BitAnd) (uS λi j=>.int (Builtin.bitAnd i j)):=vx λ_ _ _ _ _ _ _ q=>and_int q
theorem JQ:dO X (AD .BitOr) (uS λi j=>.int (Builtin.bitOr i j)):=vx λ_ _ _ _ _ _ _ q=>or_int q
theorem Hf:dO X (AD .BitXor) (uS λi j=>.int (Builtin.bitXor i j)):=vx λ_ _ _ _ _ _ _ q=>xor_int q
theorem unI{f:Ac->Sem Ac}{g:Int->Int}
  (d:∀(i:Int) (t:Tok) (s:Ag) (Q:Ac->Ag->Prop) (E:Ac->Ag->Prop),Q (.int (g i) s.toks) { s with toks:=s.toks+1 }->An (model X.prog X.w) X.A (f (.int i t)) Q E s):
  PV X f (rU λi=>.int (g i)):=by
 intro j s σ H x v Q I k h;obtain⟨i,rfl,q⟩:=h;obtain⟨t,rfl⟩:=k;exact d i t s _ _ #v[.int (g i),H,I.tok _,#v[_,rfl],q]
theorem DI:PV X (unaryOp .USub) (rU λi=>.int (-i)):=unI λ_ _ _ _ _ q=>neg_int q
def Om:V->V->Bool
 |.non,.non=>Ai|.non,.int _=>Ai|.int _,.non=>Ai|.non,.bl _=>Ai|.bl _,.non=>Ai|.non,.str _=>Ai|.str _,.non=>Ai
 |.int _,.int _=>Ai|.bl _,.bl _=>Ai|.str _,.str _=>Ai|.byt _,.byt _=>Ai
 |.int _,.str _=>Ai|.str _,.int _=>Ai|.bl _,.str _=>Ai|.str _,.bl _=>Ai
 |_,_=>Ah
def rEq:R2:=λx y H Q=>Om x y=Ai/\Q (.bl (decide (x=y))) H
def rNe:R2:=λx y H Q=>Om x y=Ai/\Q (.bl (!decide (x=y))) H
theorem Zrl:decide (V.int i=V.int j)=(i==j):=by rw[HJ];simp
theorem ZQ:decide (V.bl i=V.bl j)=(i==j):=by rw[HJ];simp
theorem Zrk:decide (V.str i=V.str j)=(i==j):=by rw[HJ];simp
theorem Zrm:decide (V.byt i=V.byt j)=(i.toList==j.toList):=by rw[HJ];cases i;cases j;simp
theorem jZ{Q:VK}(I:Inv X d σ H s)(q:Q (.bl k) H)(e:k=f):EP X d σ Q (.bool f) s:=by subst e;exact#v[.bl k,H,I,rfl,q]
theorem N2:dO X (Av .Eq) rEq:=by
 intro g s σ H x y v u Q I f d h;obtain⟨hs,q⟩:=h;cases x with
 |non=>
  cases f;cases y with
  |non=>cases d;exact PySem.EqNone.eq_none_none (jZ I q (by simp))
  |bl j=>cases d;exact PySem.EqNone.eq_none_bool (jZ I q (by simp))
  |int j=>obtain⟨t',rfl⟩:=d;exact PySem.EqNone.eq_none_int (jZ I q (by simp))
  |str j=>obtain⟨t',rfl⟩:=d;exact PySem.EqNone.eq_none_str (jZ I q (by simp))
  |_=>exact absurd (show Ah=Ai from hs) mQ
 |bl i=>
  cases f;cases y with
  |non=>cases d;exact PySem.EqNone.eq_bool_none (jZ I q (by simp))
  |bl j=>cases d;exact eq_bool (jZ I q ZQ)
  |str j=>obtain⟨t',rfl⟩:=d;exact PySem.EqMixed.eq_bool_str (jZ I q (by simp))
  |_=>exact absurd (show Ah=Ai from hs) mQ
 |int i=>
  obtain⟨t,rfl⟩:=f;cases y with
  |non=>cases d;exact PySem.EqNone.eq_int_none (jZ I q (by simp))
  |int j=>obtain⟨t',rfl⟩:=d;exact eq_int (jZ I q Zrl)
  |str j=>obtain⟨t',rfl⟩:=d;exact PySem.EqMixed.eq_int_str (jZ I q (by simp))
  |_=>exact absurd (show Ah=Ai from hs) mQ
 |str i=>
  obtain⟨t,rfl⟩:=f;cases y with
  |non=>cases d;exact PySem.EqNone.eq_str_none (jZ I q (by simp))
  |bl j=>cases d;exact PySem.EqMixed.eq_str_bool (jZ I q (by simp))
  |int j=>obtain⟨t',rfl⟩:=d;exact PySem.EqMixed.eq_str_int (jZ I q (by simp))
  |str j=>obtain⟨t',rfl⟩:=d;exact eq_str (jZ I q Zrk)
  |_=>exact absurd (show Ah=Ai from hs) mQ
 |byt i=>
  obtain⟨t,rfl⟩:=f;cases y with
  |byt j=>obtain⟨t',rfl⟩:=d;exact PySem.W.eq_bytes (jZ I q Zrm)
  |_=>exact absurd (show Ah=Ai from hs) mQ
 |_=>cases y <;> exact absurd (show Ah=Ai from hs) mQ
theorem LY:dO X (Av .NotEq) rNe:=by
 intro g s σ H x y v u Q I f d h;obtain⟨hs,q⟩:=h;cases x with
 |non=>
  cases f;cases y with
  |non=>cases d;exact PySem.EqNone.ne_none_none (jZ I q (by simp))
  |bl j=>cases d;exact PySem.EqNone.ne_none_bool (jZ I q (by simp))
  |int j=>obtain⟨t',rfl⟩:=d;exact PySem.EqNone.ne_none_int (jZ I q (by simp))
  |str j=>obtain⟨t',rfl⟩:=d;exact PySem.EqNone.ne_none_str (jZ I q (by simp))
  |_=>exact absurd (show Ah=Ai from hs) mQ
 |bl i=>
  cases f;cases y with
  |non=>cases d;exact PySem.EqNone.ne_bool_none (jZ I q (by simp))
  |bl j=>cases d;exact ne_bool (jZ I q (congrArg not ZQ))
  |str j=>obtain⟨t',rfl⟩:=d;exact PySem.EqMixed.ne_bool_str (jZ I q (by simp))
  |_=>exact absurd (show Ah=Ai from hs) mQ
 |int i=>
  obtain⟨t,rfl⟩:=f;cases y with
  |non=>cases d;exact PySem.EqNone.ne_int_none (jZ I q (by simp))
  |int j=>obtain⟨t',rfl⟩:=d;exact ne_int (jZ I q (congrArg not Zrl))
  |str j=>obtain⟨t',rfl⟩:=d;exact PySem.EqMixed.ne_int_str (jZ I q (by simp))
  |_=>exact absurd (show Ah=Ai from hs) mQ
 |str i=>
  obtain⟨t,rfl⟩:=f;cases y with
  |non=>cases d;exact PySem.EqNone.ne_str_none (jZ I q (by simp))
  |bl j=>cases d;exact PySem.EqMixed.ne_str_bool (jZ I q (by simp))
  |int j=>obtain⟨t',rfl⟩:=d;exact PySem.EqMixed.ne_str_int (jZ I q (by simp))
  |str j=>obtain⟨t',rfl⟩:=d;exact ne_str (jZ I q (congrArg not Zrk))
  |_=>exact absurd (show Ah=Ai from hs) mQ
 |byt i=>
  obtain⟨t,rfl⟩:=f;cases y with
  |byt j=>obtain⟨t',rfl⟩:=d;exact PySem.W.ne_bytes (jZ I q (congrArg not Zrm))
  |_=>exact absurd (show Ah=Ai from hs) mQ
 |_=>cases y <;> exact absurd (show Ah=Ai from hs) mQ
theorem MR:dO X (Av .Lt) (uS λi j=>.bl (decide (i<j))):=ya λ_ _ _ _ _ _ _ q=>lt_int q
theorem MD:dO X (Av .LtE) (uS λi j=>.bl (decide (i<=j))):=ya λ_ _ _ _ _ _ _ q=>le_int q
theorem P0:dO X (Av .Gt) (uS λi j=>.bl (decide (j<i))):=ya λ_ _ _ _ _ _ _ q=>gt_int q
theorem O7:dO X (Av .GtE) (uS λi j=>.bl (decide (j<=i))):=ya λ_ _ _ _ _ _ _ q=>ge_int q
theorem Zqy:dO X (Av .In) (λx y H Q=>∃i j,x=.str i/\y=.str j/\Q (.bl (!(Builtin.Str.occurrences j i 0 j.length 1).isEmpty)) H):=by intro d s σ H x y v u Q I f g h;obtain⟨i,j,rfl,rfl,q⟩:=h;obtain⟨t,rfl⟩:=f;obtain⟨t',rfl⟩:=g;exact in_str (jZ I q rfl)
theorem EG:dO X (Av .Is) (λx y H Q=>y=.non/\Q (.bl (decide (x=.non))) H):=by
 intro d s σ H x y v u Q I f g h;obtain⟨rfl,q⟩:=h;cases g;refine is_none_gen (jZ I q ?_)
 cases x <;> first
  |(cases f;rfl)
  |(obtain⟨t,rfl⟩:=f;rfl)
theorem ZuV:dO X (Av .IsNot) (λx y H Q=>y=.non/\Q (.bl (!decide (x=.non))) H):=by
 intro d s σ H x y v u Q I f g h;obtain⟨rfl,q⟩:=h;cases g;refine isnot_none_gen (jZ I q ?_)
 cases x <;> first
  |(cases f;rfl)
  |(obtain⟨t,rfl⟩:=f;rfl)
theorem xI(b:Expr)(h:d≠.In:=by decide)(h2:d≠.NotIn:=by decide):AK d b=Ah:=by
 have e1:(d==CmpOp.In)=Ah:=by cases d <;> first|rfl|exact absurd rfl h
 have e2:(d==CmpOp.NotIn)=Ah:=by cases d <;> first|rfl|exact absurd rfl h2
 cases b <;> simp[AK,e1,e2]
theorem zm(ho:dO X (Av f) r)(ha:PE X a ta)(hb:PE X b tb)(hm:AK f b=Ah):PE X (.Compare a [f] [b] pos) (aK r ta tb):=by intro d s σ H Q I h;exact wpAny_Compare1 (D2 ha hb I h λv u l x y g i j k q=>ho d l σ g x y v u Q i j k q) hm
def RK(t:TE):TT:=λσ H Q=>t σ H λx d=>∃k,x=.bl k/\Q k d
theorem ZuO(ho:dO X (Av f) r)(ha:PE X a ta)(hb:PE X b tb)(hm:AK f b=Ah):PT X (.Compare a [f] [b] pos) (RK (aK r ta tb)):=by
 intro d s σ H Q I h
 refine B4 (bY (ha d s σ H _ I h) λv C ⟨x,g,l,w,p⟩=>bY (hb d C σ g _ l p) λu D ⟨y,i,m,A,q⟩=>bY (ho d D σ i x y v u _ m w A q) λc E ⟨z,j,n,B,k,e,t⟩=>?_) hm
 subst e;cases B;exact AE #v[j,n,t]
def Sd(r i:R2)(ta tb tc:TE):TE:=λσ H Q=>ta σ H λx f=>tb σ f λy g=>r x y g λz d=>∃k,z=.bl k /\
 (if k=Ai then tc σ d λj h=>i y j h Q else Q (.bl Ah) d)
theorem ZsA(ho:dO X (Av j) r)(i:dO X (Av g) p)(ha:PE X a ta)(hb:PE X b tb)(hc:PE X c tc)
  (hm:Cz [j,g] [b,c]=Ah:=by with_unfolding_all rfl):PE X (.Compare a [j,g] [b,c] pos) (Sd r p ta tb tc):=by
 intro f s σ H Q I h
 refine Compare_chain (bY (ha f s σ H _ I h) λv N ⟨x,t,B,K,E⟩=>chain_link (bY (hb f N σ t _ B E) λu O ⟨y,w,C,q,G⟩=>bY (ho f O σ w x y v u _ C K q G) λd P ⟨z,l,m,L,k,e,n⟩=>?_)) hm
 subst e;cases L;refine AE ?_;cases k with
 |false=>exact ite_ff #v[.bl Ah,l,m,rfl,n]
 |true=>exact ite_tt (chain_last (bY (hc f P σ l _ m n) λS R ⟨T,A,D,M,J⟩=>i f R σ A y T u S Q D q M J))
theorem Zsv(ho:dO X (Av j) r)(i:dO X (Av g) p)(ha:PE X a ta)(hb:PE X b tb)(hc:PE X c tc)
  (hm:Cz [j,g] [b,c]=Ah:=by with_unfolding_all rfl):PT X (.Compare a [j,g] [b,c] pos) (RK (Sd r p ta tb tc)):=by
 intro f s σ H Q I h
 refine isTrue_chain (bY (ha f s σ H _ I h) λv U ⟨x,t,C,P,L⟩=>test_link (bY (hb f U σ t _ C L) λu V ⟨y,w,D,q,M⟩=>bY (ho f V σ w x y v u _ D P q M) λd Y ⟨z,l,m,R,k,e,n⟩=>?_)) hm
 subst e;cases R;refine AE ?_;cases k with
 |false=>obtain⟨k',J,K⟩:=n;cases J;exact ite_ff #v[l,m,K]
 |true=>refine ite_tt (test_last (bY (hc f Y σ l _ m n) λw' Z ⟨z',A,E,S,N⟩=>bY (i f Z σ A y z' u w' _ E q S N) λd' s5 ⟨z2,B,G,T,k2,e2,O⟩=>?_));subst e2;cases T;exact AE #v[B,G,O]
def vV(K:aE)(x:V)(H:Hp)(k:Bool):Prop:=
 match x with
 |.non=>k=Ah
 |.bl b=>k=b
 |.int i=>k=(i != 0)
 |.str y=>y.length<=sizeLine/\k=((y.length:Int) != 0)
 |.byt y=>y.size<=sizeLine/\k=((y.size:Int) != 0)
 |.ref p=>(∃xs,cB K H p xs/\k = !xs.isEmpty)\/(∃xs,gA K H p xs/\k = !xs.isEmpty)\/∃kvs,H p=Aa (.dK kvs)/\k = !kvs.isEmpty
 |_=>False
theorem Zpc{vs:List (κ×Ac)}(r:KV kvs vs):(!vs.isEmpty) = !kvs.isEmpty:=by cases r <;> rfl
theorem ZjQ(r:Vals xs its):(!its.toArray.isEmpty) = !xs.isEmpty:=by cases r <;> simp
theorem Ea:(sizeLine:Nat)<2^63:=by rw[A2];decide
theorem G9:U3 X (λx H Q=>∃k,vV X.K x H k/\Q k H):=by
 intro j s σ H x v Q I g h;obtain⟨k,e,q⟩:=h;have hl:=Ea;have hs:sizeLine=16777216:=A2;cases x with
 |non=>cases g;have d:k=Ah:=e;subst d;exact truthy_none #v[H,I,q]
 |bl b=>cases g;have d:k=b:=e;subst d;exact AE #v[H,I,q]
 |int i=>obtain⟨t,rfl⟩:=g;have d:k=(i != 0):=e;subst d;exact PySem.P.truthy_int #v[H,I,q]
 |str y=>obtain⟨t,rfl⟩:=g;obtain⟨hy,d⟩:y.length<=sizeLine/\k=((y.length:Int) != 0):=e;subst d;exact PySem.P.truthy_str ⋯ #v[H,I.tok _,q]
 |byt y=>obtain⟨t,rfl⟩:=g;obtain⟨hy,d⟩:y.size<=sizeLine/\k=((y.size:Int) != 0):=e;subst d;exact PySem.W.truthy_bytes ⋯ #v[H,I.tok _,q]
 |ref p=>
  cases g;have d:(∃xs,cB X.K H p xs/\k = !xs.isEmpty)\/(∃xs,gA X.K H p xs/\k = !xs.isEmpty)\/∃kvs,H p=Aa (.dK kvs)/\k = !kvs.isEmpty:=e;rcases d with⟨xs,hx,d⟩|⟨xs,hx,d⟩|⟨kvs,hx,d⟩
  ·subst d;obtain⟨its,r,pl,hz⟩:=I.list hx;have f:=r.length;exact wpAny_truthy_list pl.isList (by simp only[iO];omega) #v[H,I.tok _,by rw[ZjQ r];exact q]
  ·subst d;obtain⟨its,r,pl,hz⟩:=I.tuple hx;have f:=r.length;exact truthy_tuple pl (by simp only[iO];omega) #v[H,I.tok _,by rw[ZjQ r];exact q]
  ·subst d;obtain⟨hz,l,vs,r,m⟩:kvs.length<=sizeLine/\(p==AI)=Ah/\∃vs,KV kvs vs/\s.heap.DictOf (lP X.prog X.w) p vs:=I.bP p _ hx;have f:kvs.length=vs.length:=Paired.length r;exact wpAny_truthy_dict l m ⋯ #v[H,I.tok _,by rw[Zpc r];exact q]
 |_=>exact(show False from e).elim
theorem Zsu(ha:PE X a ta)(he:∀d,isTrue a X.env d=(do let v <-d;standAt a.pos;holding [v] (truthy v))):
  PT X a (λσ H Q=>ta σ H λx g=>∃k,vV X.K x g k/\Q k g):=by
 intro f s σ H Q I h;exact isTrue_plain (bY (ha f s σ H _ I h) λv n ⟨x,i,j,m,l⟩=>G9 f n σ i x v Q j m l) (he _)
theorem Zo1:dO X (AD .Add) (λx y H Q=>∃i j,x=.str i/\y=.str j/\i.length+j.length<=sizeLine/\Q (.str (i++j)) H):=by intro d s σ H x y v u Q I f g h;obtain⟨i,j,rfl,rfl,hz,q⟩:=h;obtain⟨t,rfl⟩:=f;obtain⟨t',rfl⟩:=g;exact add_str (λt' k=>#v[.str (i++j),H,I.tok _,#v[_,rfl],q]) hz
theorem sG(r:Vals [x] us):∃u,us=[u]/\cH x u:=by
 cases r with
 |cons d f=>cases f;exact#v[_,rfl,d]
theorem yA(r:Vals [x,y] us):∃u d,us=[u,d]/\cH x u/\cH y d:=by
 cases r with
 |cons f g=>
  cases g with
  |cons h i=>cases i;exact#v[_,_,rfl,f,h]
theorem Zry(hc:X.calm=Ai):mR X (.builtin "max") (λxs H Q=>∃i j,xs=[.int i,.int j]/\Q (.int (if j>i then j else i)) H):=by
 intro d s σ H xs us Q I r h;obtain⟨i,j,rfl,q⟩:=h;obtain⟨u,g,rfl,⟨t,rfl⟩,⟨t',rfl⟩⟩:=yA r;refine max_two_ints (I.ok.hd hc) λh' f k=>#v[_,H,I.kept k,?_,q];by_cases hj:j>i
 ·rw[if_pos hj,if_pos hj];exact#v[_,rfl]
 ·rw[if_neg hj,if_neg hj];exact#v[_,rfl]
theorem Zrx(hc:X.calm=Ai):mR X (.builtin "min") (λxs H Q=>∃i j,xs=[.int i,.int j]/\Q (.int (if j<i then j else i)) H):=by
 intro d s σ H xs us Q I r h;obtain⟨i,j,rfl,q⟩:=h;obtain⟨u,g,rfl,⟨t,rfl⟩,⟨t',rfl⟩⟩:=yA r;refine min_two_ints (I.ok.hd hc) λh' f k=>#v[_,H,I.kept k,?_,q];by_cases hj:j<i
 ·rw[if_pos hj,if_pos hj];exact#v[_,rfl]
 ·rw[if_neg hj,if_neg hj];exact#v[_,rfl]
theorem Zmn:mR X (.type "int") (λxs H Q=>(∃i,xs=[.int i]/\Q (.int i) H)\/∃k,xs=[.bl k]/\Q (.int (if k then 1 else 0)) H):=by
 intro d s σ H xs us Q I r h;rcases h with⟨i,rfl,q⟩|⟨k,rfl,q⟩
 ·obtain⟨u,rfl,t,rfl⟩:=sG r;exact call_int_int #v[.int i,H,I,#v[_,rfl],q]
 ·obtain⟨u,rfl,f⟩:=sG r;cases f;exact call_int_bool #v[.int (if k then 1 else 0),H,I.tok _,#v[_,rfl],q]
structure sf (h:Ax) (x dx C:Ad) (mA:Str->Option Ac):Prop where
 obj:h.get? x=Aa (yi C dx)
 ns:h.Ns1 dx mA
 ne:dx≠x
theorem ZqR{h:Ax}{dx:Ad}{d:Str->Option Ac}(n:h.Ns1 dx d):∃od,h.get? dx=Aa od/\∀name,QC name od=Aa (d name):=by
 obtain⟨o,es,ep,ho,hd,hk,_,hm⟩:=n;refine#v[o,ho,λname=>?_];have e:=hm name;unfold nsFind findBy at e;rw[<-Array.find?_toList]at e;unfold QC;rw[hd];dsimp only;split
 ·rename_i y q;rw[q]at e;exact congrArg Aa e
 ·rename_i q;rw[q]at e
  have a:es.toList.any (·.refKey)=Ah:=by rw[List.any_eq_false];intro y hy;obtain⟨z,t,c⟩:=hk y (Array.mem_toList_iff.mp hy);simp[DictEntry.refKey,c]
  have f:¬es.toList.any (·.refKey)=Ai:=by rw[a];exact mQ
  rw[if_neg f];exact congrArg Aa e
theorem sf.look(I:sf h x dx C c):∃od,PySem.W.InstAt h x (yi C dx) C (Aa od)/\∀name,QC name od=Aa (c name):=
 let ⟨od,ho,hl⟩:=ZqR I.ns
 #v[od,#v[I.obj,rfl,rfl,ho],hl]
section
variable {prog:Al}{w:Au}{A:At}{E:Ac->Ag->Prop}{s:Ag}{K:aE}{x dx C f:Ad}{mA:Str->Option Ac}{name:Str}{v:Ac}
theorem Zvb{Q:Ac->Ag->Prop}(X:K.In s.heap)(I:sf s.heap x dx C mA)(hg:Kc K C name=Ai)(hh:Rc K C=Ai)
  (ha:lO K (.ref C) name=Aa Ae) (hv:mA name=Aa v) (d:PySem.W.handedIn v=Ai) (h:Q v { s with toks:=s.toks+1 }):
  An (model prog w) A (getAttr (.ref x) name c) Q E s:=by
 obtain⟨od,J,hl⟩:=I.look;exact PySem.W.get_value X J (XM hg).1 (PySem.W.findObj_own hh ha rfl (by rw[hl,hv])) d h
theorem ZsT{Q:Ac×List Ac->Ag->Prop}(X:K.In s.heap)(I:sf s.heap x dx C mA)(hg:Kc K C name=Ai)
  (hf:lO K (.ref C) name=Aa (Aa (.ref f))) (ht:Sk K (.ref f)=Ai) (hv:mA name=Ae) (h:Q (.ref f,[.ref x]) s):
  An (model prog w) A (CA (.ref x) name pl) Q E s:=by
 obtain⟨od,J,hl⟩:=I.look;exact PySem.W.method_fn X J (XM hg).1 (XM hg).2 hf (beq_iff_eq.mp ht) (by show(QC name od).map (·.isSome)=Aa Ah;rw[hl,hv];rfl) h
theorem ZuA{Q:Unit->Ag->Prop}(X:K.In s.heap)(I:sf s.heap x dx C mA)
  (hs:lO K (.ref C) "__setattr__" = Aa (Aa (.builtin "object.__setattr__"))) (hp:Xi K C=Ai) (ht:Y4 K C name=Aa Ae) (hh:Rc K C=Ai)
  (hw:PySem.Within mA ns) (hsz:ns.length<=sizeLine)
  (h:∀h',sf h' x dx C (λy=>if y=name then Aa v else mA y)->Heap.SameBut dx s.heap h'->Q () { s with heap:=h',toks:=s.toks+2 }):
  An (model prog w) A (setAttr (.ref x) name v) Q E s:=by
 obtain⟨od,J,hl⟩:=I.look;refine PySem.W.set_plain X J hs (PySem.W.osa_open (s:={ s with toks:=s.toks+1 }) (r:=Ae) X J hp ht λb=>?_);obtain⟨cd,hc,i⟩:=PySem.W.any_some hh;have hx:s.heap.get? x=Aa #v[.ref C,Aa dx,.plain,#[]]:=I.obj;refine Af (Aj (Af (Af (wpAny_loadPart hx (Af (PySem.W.Looks.here (s:={ s with toks:=s.toks+1 }) (PySem.W.looks_clsIn X hc) ?_))))));rw[i];refine Aj (a:=Aa dx) (Af (Aj (Af ?_)));refine wpAny_nsSet1 (s:={ s with toks:=s.toks+1 }) I.ns λh' c d=>?_;obtain⟨n,m,l,k,j,g⟩:=c.count (PySem.Within.cons name v hw);refine Af (wpAny_lookBehind k (by rw[j];exact pastItsLine_dict (lC g (by rw[lG];omega))) ?_);exact Aj (h _ #v[(d.2 _ (Ne.symm I.ne)).trans I.obj,c,I.ne] d)
theorem ZsK{vs:List Ac}(X:K.In s.heap)(hm:Wj K C=Ai)
  (hi:lO K (.ref C) "__init__" = Aa (Aa (.ref f))) (hf:PySem.W.typeIn K (.ref f)=Aa (.type "function"))
  (h:AX (model prog w) (A.under (.builtin "type.__call__" #v[.ref C::vs,c])) (.call (.ref f) #v[.ref (s.heap.objs.size+1):: vs,c]) (PySem.W.InitBack (s.heap.objs.size+1) R)
   { s with heap:=(s.heap.push xK).push (yi C s.heap.objs.size) }):
  AX (model prog w) A (.call (.ref C) #v[vs,c]) R s:=by
 obtain⟨hh,g,d,t,i⟩:=s;exact PySem.W.make_core (PySem.W.makes_of X hm) (PySem.W.looks_findIn X hi) (λself=>PySem.W.bind_fn X self hf) (.inl rfl) h
end
def eO(f:Str)(v:V):List (Str×V)->List (Str×V)
 |[]=>[(f,v)]
 |(g,x):: r=>if g=f then(g,v):: r else(g,x):: eO f v r
theorem ZiD(f g:Str)(v:V):∀fs:List (Str×V),(eO f v fs).lookup g=if g=f then Aa v else fs.lookup g
 |[]=>by
  show Eg g [(f,v)]=_;by_cases h:g=f
  ·have hb:(g==f)=Ai:=beq_iff_eq.mpr h;simp only[Eg,hb,if_pos h]
  ·have hb:(g==f)=Ah:=beq_eq_false_iff_ne.mpr h;simp only[Eg,hb,if_neg h]
 |(k,x):: r=>by
  have ih:=ZiD f g v r;rw[show eO f v ((k,x):: r)=(if k=f then(k,v):: r else(k,x):: eO f v r) from rfl];by_cases hk:k=f
  ·rw[if_pos hk];by_cases h:g=k
   ·have hb:(g==k)=Ai:=beq_iff_eq.mpr h;simp only[Eg,hb,if_pos (h.trans hk)]
   ·have hb:(g==k)=Ah:=beq_eq_false_iff_ne.mpr h;simp only[Eg,hb,if_neg (λe:g=f=>h (e.trans hk.symm))]
  ·rw[if_neg hk];by_cases h:g=k
   ·have hb:(g==k)=Ai:=beq_iff_eq.mpr h;simp only[Eg,hb,if_neg (λe:g=f=>hk (h.symm.trans e))]
   ·have hb:(g==k)=Ah:=beq_eq_false_iff_ne.mpr h;simp only[Eg,hb];exact ih
theorem UV(f:Str)(v:V):∀fs:List (Str×V),f∈(eO f v fs).map (·.1)/\∀g,g∈fs.map (·.1)->g∈(eO f v fs).map (·.1)
 |[]=>#v[by simp[eO],λg h=>by simp at h]
 |(k,x):: r=>by
  obtain⟨i1,i2⟩:=UV f v r;rw[show eO f v ((k,x):: r)=(if k=f then(k,v):: r else(k,x):: eO f v r) from rfl];by_cases hk:k=f
  ·rw[if_pos hk];subst hk;exact#v[by simp,λg h=>by simpa using h]
  ·rw[if_neg hk];refine#v[?_,λg h=>?_]
   ·rw[jF];exact sC _ i1
   ·rw[jF]at h ⊢;rcases iN.mp h with e|e
    ·exact iN.mpr (.inl e)
    ·exact sC _ (i2 g e)
theorem vp(f:Str)(v:V):∀fs:List (Str×V),(eO f v fs).length<=fs.length+1
 |[]=>by simp[eO]
 |(k,x):: r=>by
  have ih:=vp f v r;rw[show eO f v ((k,x):: r)=(if k=f then(k,v):: r else(k,x):: eO f v r) from rfl];by_cases hk:k=f
  ·rw[if_pos hk,lG,lG];omega
  ·rw[if_neg hk,lG,lG];omega
theorem pR.some_of(r:pR (Aa v) o):∃u,o=Aa u/\cH v u:=by
 cases o with
 |none=>exact(show False from r).elim
 |some u=>exact#v[u,rfl,r]
theorem pR.none_of(r:pR Ae o):o=Ae:=by
 cases o with
 |none=>rfl
 |some u=>exact(show False from r).elim
theorem Zq6(r:cH v u):PySem.W.handedIn u=Ai:=by
 cases v with
 |non=>cases(show u=Value.none from r);rfl
 |bl b=>cases(show u=Value.bool b from r);rfl
 |int i=>obtain⟨t,e⟩:=(show∃t,u=Value.int i t from r);cases e;rfl
 |str x=>obtain⟨t,e⟩:=(show∃t,u=Value.str x t from r);cases e;rfl
 |byt b=>obtain⟨t,e⟩:=(show∃t,u=Value.bytes b t from r);cases e;rfl
 |flt b=>obtain⟨t,e⟩:=(show∃t,u=Value.float b t from r);cases e;rfl
 |ref a=>cases(show u=Value.ref a from r);rfl
 |ty n=>cases(show u=Value.type n from r);rfl
theorem QR(g:jU P w H h)(e:H a=Aa (.ins C dx fs)):∃c,sf h a dx C c/\(∀f,pR (fs.lookup f) (c f))/\PySem.Within c (fs.map (·.1))/\fs.length<=1000/\H dx=Aa (.own a):=by obtain⟨d,z,i,j,c,n,r,q⟩:=(show gI P w H h a (.ins C dx fs) from g a _ e);exact#v[c,#v[j,n,i],r,q,z,d]
structure sM (K:aE) (C:Ad):Prop where
 pg:Kc K C Str.empty=Ai
 hd:Rc K C=Ai
 po:Xi K C=Ai
 sa:lO K (.ref C) "__setattr__" = Aa (Aa (.builtin "object.__setattr__"))
theorem sM.get{K:aE}{C:Ad}(c:sM K C)(f:Str):Kc K C f=Ai:=c.pg
def rV(K:aE)(C:Ad)(f:Str):Prop:=lO K (.ref C) f=Aa Ae
theorem rV.LV{K:aE}{C:Ad}{f:Str}(n:rV K C f):Y4 K C f=Aa Ae:=by unfold Y4;rw[show lO K (.ref C) f=Aa Ae from n];rfl
structure Con (K:aE) (C:Ad) (f:Str) (v:V) (u:Ac):Prop where
 at_:lO K (.ref C) f=Aa (Aa u)
 rel:cH v u
 get:Mi K u "__get__" = Aa Ae
 cp:PySem.W.copiedNames.contains f=Ah
structure Meth (K:aE) (C:Ad) (m:Str) (f:Ad):Prop where
 at_:lO K (.ref C) m=Aa (Aa (.ref f))
 fn:Sk K (.ref f)=Ai
 kp:xl K (.ref f)=Ai
theorem Zpe{Q:Ac->Ag->Prop}(I:Inv X pins σ H s)(e:H a=Aa (.ins C dx fs))(c:sM X.K C)(n:rV X.K C f)(l:fs.lookup f=Aa v)
  (h:∀u g,Inv X pins σ H g->cH v u->Q u g):An (model X.prog X.w) A (getAttr (.ref a) f b) Q E s:=by
 obtain⟨i,O,r,_,_,_⟩:=QR I.bP e;obtain⟨u,hu,d⟩:=pR.some_of (v:=v) (o:=i f) (by rw[<-l];exact r f);exact Zvb I.kE O (c.get f) c.hd n hu (Zq6 d) (h u _ (I.tok _) d)
theorem ZjR{Q:Ac×List Ac->Ag->Prop}(I:Inv X pins σ H s)(e:H a=Aa (.ins C dx fs))(c:sM X.K C)(k:Meth X.K C m g)(l:fs.lookup m=Ae)
  (h:Q (.ref g,[.ref a]) s):An (model X.prog X.w) A (CA (.ref a) m pl) Q E s:=by
 obtain⟨d,O,r,_,_,_⟩:=QR I.bP e;have hn:d m=Ae:=pR.none_of (by rw[<-l];exact r m);exact ZsT I.kE O (c.get m) k.at_ k.fn hn h
theorem ZoP{Q:Unit->Ag->Prop}(I:Inv X pins σ H s)(e:H a=Aa (.ins C dx fs))(c:sM X.K C)(n:rV X.K C f)(hl:fs.length<1000)(m:cH y u)
  (h:∀j,Inv X pins σ (upd H a (.ins C dx (eO f y fs))) j->Q () j):An (model X.prog X.w) A (setAttr (.ref a) f u) Q E s:=by
 obtain⟨i,O,r,k,_,ho⟩:=QR I.bP e;have hz:(fs.map (·.1)).length<=sizeLine:=by rw[aQ,A2];omega
 refine ZuA I.kE O c.sa c.po n.LV c.hd k hz λh' d p=>h _ ?_;have hd:∃o,h'.get? dx=Aa o:=let ⟨o,_,_,l,_⟩:=d.ns;#v[o,l];refine I.write (x:=a) (e:=dx) (by rw[e];exact True.intro) (.inr ho) (λb q hb z=>(p.2 b hb).trans z) hd ?_;refine#v[by rw[bE O.ne];exact ho,?_,O.ne,d.obj,_,d.ns,λg=>?_,λg hg=>?_]
 ·have:=vp f y fs;omega
 ·show pR ((eO f y fs).lookup g) (if g=f then Aa u else i g);rw[ZiD];by_cases q:g=f
  ·rw[if_pos q,if_pos q];exact m
  ·rw[if_neg q,if_neg q];exact r g
 ·by_cases q:g=f
  ·rw[q];exact(UV f y fs).1
  ·refine(UV f y fs).2 g (k g λz=>hg ?_);show(if g=f then Aa u else i g)=Ae;rw[if_neg q];exact z
theorem Inv.made(I:Inv X pins σ H s):Inv X pins σ (upd (upd H s.heap.objs.size (.own (s.heap.objs.size+1))) (s.heap.objs.size+1) (.ins C s.heap.objs.size []))
  { s with heap:=(s.heap.push xK).push (yi C s.heap.objs.size) }:=by
 have e1:(s.heap.push xK).get? s.heap.objs.size=Aa xK:=Heap.get?_push_size s.heap rfl
 have e2:((s.heap.push xK).push (yi C s.heap.objs.size)).get? (s.heap.objs.size+1)=Aa (yi C s.heap.objs.size):=by have:=Heap.get?_push_size (s.heap.push xK) (o:=yi C s.heap.objs.size) rfl;rwa[Heap.size_push]at this
 have e3:(s.heap.push xK).Ns s.heap.objs.size (λ_=>Ae):=#v[xK,#[],_,e1,rfl,(λe he=>absurd he (by simp)),λ_=>rfl];have d:=I.laid (a:=s.heap.objs.size) (o:=.own (s.heap.objs.size+1)) (h':=s.heap.push xK) (t':=s.toks) (λb u q=>Heap.get?_push_of_some _ q) (bV _) #v[_,e1];refine d.laid (a:=s.heap.objs.size+1) (o:=.ins C s.heap.objs.size []) (t':=s.toks) (λb u q=>Heap.get?_push_of_some _ q) (HC (Heap.size_push _ _)) ?_;have c:s.heap.objs.size≠s.heap.objs.size+1:=gW (JO _);refine#v[by rw[bE c,cN],rE _,c,e2,λ_=>Ae,(Heap.Ns1.of_empty e3).at λo q=>Heap.get?_push_of_some _ q,λ_=>True.intro,λy hy=>absurd rfl hy]
theorem Zvu{e:Expr}{Q:Ac->Ag->Prop}(hb:Bg e f env (eval e env)=eval e env)
  (h:An (model prog w) A (eval e env) (λo c=>An (model prog w) A (getAttr o f Ai) Q E c) E s):An (model prog w) A (eval (.Attribute e f pos) env) Q E s:=
 Attribute_any_ h (by rw[arm_eval_Attribute,hb])
def kR(K:aE)(d:TE)(f:Str):TE:=λσ H Q=>d σ H λx c=>∃a C dx fs v,x=.ref a/\c a=Aa (.ins C dx fs)/\sM K C/\rV K C f/\fs.lookup f=Aa v/\Q v c
def vB(K:aE)(g h:TE)(f:Str):TS:=λD σ H=>h σ H λy d=>g σ d λx c=>∃a C dx fs,x=.ref a/\c a=Aa (.ins C dx fs)/\sM K C/\rV K C f/\fs.length<1000 /\
 D.nx σ (upd c a (.ins C dx (eO f y fs)))
theorem lB(he:PE X e ta)(hb:Bg e f X.env (eval e X.env)=eval e X.env:=by rfl):PE X (.Attribute e f pos) (kR X.K ta f):=by intro d s σ H Q I h;refine Zvu hb (bY (he d s σ H _ I h) λu p ⟨x,g,i,m,a,C,dx,fs,v,ex,ea,c,n,l,q⟩=>?_);subst ex;obtain rfl:u=Value.ref a:=m;exact Zpe i ea c n l λt r j k=>#v[v,g,j,k,q]
theorem xJ(ha:PE X o ta)(hv:PE X value tv)(hs:Ci value (Aa (.Attribute o f pos')) pos.line X.env=pure Ah):PS X (.Assign [.Attribute o f pos'] value pos) (vB X.K ta tv f):=by intro d s σ H D I h;refine plainObj_wpAny_Assign_Attribute (bY (hv d s σ H _ I h) λu v ⟨y,g,i,t,q⟩=>bY (ha d v σ g _ i q) λm z ⟨x,w,j,r,a,C,dx,fs,ex,ea,c,n,l,p⟩=>?_) hs;subst ex;obtain rfl:m=Value.ref a:=r;exact ZoP j ea c n l t λA k=>#v[σ,_,k,p]
inductive k6 (K:aE) (H:Hp):V->Ac->Prop where
 |non:k6 K H .non (.type "NoneType")
 |bl (x:Bool):k6 K H (.bl x) (.type "bool")
 |int (i:Int):k6 K H (.int i) (.type "int")
 |str (x:Str):k6 K H (.str x) (.type "str")
 |flt (x:UInt64):k6 K H (.flt x) (.type "float")
 |lst {a:Ad}{xs:List V} (e:H a=Aa (.lst xs)):k6 K H (.ref a) (.type "list")
 |frz {a:Ad}{o:Obj}{xs:List V} (e:H a=Aa (.frz o (.lst xs))):k6 K H (.ref a) (.type "list")
 |tup {a:Ad}{xs:List V} (e:H a=Aa (.tup xs)):k6 K H (.ref a) (.type "tuple")
 |dK {a:Ad}{kvs:List (Key×V)} (e:H a=Aa (.dK kvs)):k6 K H (.ref a) (.type "dict")
 |dT {a:Ad}{kvs:List (List Key×V)} (e:H a=Aa (.dT kvs)):k6 K H (.ref a) (.type "dict")
 |ins {a C dx:Ad}{fs:List (Str×V)} (e:H a=Aa (.ins C dx fs)) (cl:sM K C) (ha:lO K (.ref C) "__class__" = Aa (Aa (.builtin "object.__class__")))
   (hn:Mi K (.builtin "object.__class__") "__get__" = Aa (Aa (.builtin "getset_descriptor.__get__"))) (htk:Sz K (.builtin "object.__class__")=Aa Ai)
   (hm:Lp K C (.type "object")=Aa Ai):k6 K H (.ref a) (.ref C)
theorem Zl9(I:Inv X pins σ H s)(d:cH x u)(j:k6 X.K H x t)(e:eC X.K t c=Aa b)(h:∀g,Q (.bool b) { s with toks:=g }):
  An (model X.prog X.w) A (call (.builtin "isinstance") [u,c]) Q E s:=by
 cases j with
 |non=>cases(show u=Value.none from d);exact ug PySem.W.kitx_none I.kE True.intro e (λz=>nomatch z) h
 |bl y=>cases(show u=Value.bool y from d);exact ug PySem.W.kitx_bool I.kE True.intro e (λz=>nomatch z) h
 |int i=>obtain⟨t,q⟩:=(show∃t,u=Value.int i t from d);cases q;exact ug PySem.W.kitx_int I.kE True.intro e (λz=>nomatch z) h
 |str y=>obtain⟨t,q⟩:=(show∃t,u=Value.str y t from d);cases q;exact ug PySem.W.kitx_str I.kE True.intro e (λz=>nomatch z) h
 |flt y=>obtain⟨t,q⟩:=(show∃t,u=Value.float y t from d);cases q;exact ug PySem.W.kitx_float I.kE True.intro e (λz=>nomatch z) h
 | @lst a xs ea=>cases(show u=Value.ref a from d);obtain⟨_,_,n,_,h1⟩:=(show gI X.prog X.w H s.heap a (.lst xs) from I.bP a _ ea);exact ug PySem.W.kitx_list I.kE #v[_,h1,rfl] e (λz=>nomatch z) h
 | @frz a ob xs ea=>cases(show u=Value.ref a from d);obtain⟨_,_,_,n,_,h1⟩:=(show gI X.prog X.w H s.heap a (.frz ob (.lst xs)) from I.bP a _ ea);exact ug PySem.W.kitx_list I.kE #v[_,h1,rfl] e (λz=>nomatch z) h
 | @tup a xs ea=>cases(show u=Value.ref a from d);obtain⟨_,_,_,p⟩:=(show gI X.prog X.w H s.heap a (.tup xs) from I.bP a _ ea);obtain⟨o,h1,h2,_⟩:=p;exact ug PySem.W.kitx_tuple I.kE #v[o,h1,h2] e (λz=>nomatch z) h
 | @dK a kvs ea=>cases(show u=Value.ref a from d);obtain⟨_,_,vs,_,p⟩:=(show gI X.prog X.w H s.heap a (.dK kvs) from I.bP a _ ea);obtain⟨o,es,ep,h1,h2,_⟩:=p;exact ug PySem.W.kitx_dict I.kE #v[o,h1,h2.1] e (λz=>nomatch z) h
 | @dT a kvs ea=>cases(show u=Value.ref a from d);obtain⟨_,_,xs,_,o,es,ep,h1,h2,_⟩:=(show gI X.prog X.w H s.heap a (.dT kvs) from I.bP a _ ea);exact ug PySem.W.kitx_dict I.kE #v[o,h1,h2.1] e (λz=>nomatch z) h
 | @ins a C dx fs ea cl ha hn f hm=>cases(show u=Value.ref a from d);obtain⟨k,O,_⟩:=QR I.bP ea;obtain⟨od,J,_⟩:=O.look;exact ug (PySem.W.kitx_own (cl.get _) cl.hd ha hn f hm) I.kE J e (λz=>nomatch z) h
structure cQ (k:Nat) (A:At):Prop where
 hd:A.handled=Ae
 dp:A.depth+3*k+5<B9
 un:A.units+16*k+200<Bs
theorem cQ.mono(r:cQ k A)(h:j<=k):cQ j A:=#v[r.hd,by have:=r.dp;omega,by have:=r.un;omega]
theorem cQ.deeper(r:cQ (k+1) A)(env:Env):cQ k (A.deeper env):=#v[r.hd,by have:=r.dp;show A.depth+1+3*k+5<_;omega,by have:=r.un;show A.units+3+16*k+200<_;omega]
theorem cQ.in1(r:cQ (k+1) A):cQ k A.in1:=#v[r.hd,by have:=r.dp;show A.depth+3*k+5<_;omega,by have:=r.un;show A.units+1+16*k+200<_;omega]
theorem Zo8{A:At}{C:Ad}{us:List Ac}{c:List (Str×Ac)}:(A.under (.builtin "type.__call__" #v[.ref C::us,c])).depth=A.depth+1:=by first|rfl|simp[Around.under,Code.weight,Code.isCreation,Code.isGuard,Code.isCaller,Code.frames,Code.isFrame,guardIds]
theorem Zo7{A:At}{C:Ad}{us:List Ac}{c:List (Str×Ac)}:(A.under (.builtin "type.__call__" #v[.ref C::us,c])).units=A.units+1:=by first|rfl|simp[Around.under,Code.cUnits,Code.frames,Code.isFrame]
theorem cQ.make(r:cQ (k+1) A)(C:Ad)(us:List Ac)(c:List (Str×Ac)):cQ k (A.under (.builtin "type.__call__" #v[.ref C::us,c])):=#v[r.hd,by have:=r.dp;rw[Zo8];omega,by have:=r.un;rw[Zo7];omega]
theorem cQ.depth(r:cQ k A):A.depth<B9:=by have:=r.dp;omega
theorem cQ.units(r:cQ k A):A.units+64<Bs:=by have:=r.un;omega
def aI:TA:=λ_ H Q=>Q [] H
def aC(f:TE)(g:TA):TA:=λσ H Q=>f σ H λx c=>g σ c λxs d=>Q (x::xs) d
theorem aM:PA X [] aI:=λ_ _ _ _ H Q I h=>Calls.spliced_nil #v[[],H,I,.nil,h]
theorem aD(ha:PE X e te)(hr:PA X es t)(hs:As (e::es) X.env=(Ah,eval e X.env):: As es X.env:=by rfl):PA X (e::es) (aC te t):=by intro pos c s σ H Q I h;rw[hs];show An _ _ (spliced ((Ah,eval e X.env):: AN pos (As es X.env))) _ _ s;refine Calls.spliced_cons (bY (ha c s σ H _ I h) λu n ⟨x,d,g,l,j⟩=>?_);exact bY (hr pos c n σ d _ g j) λus p ⟨xs,f,i,m,k⟩=>#v[x::xs,f,i,.cons l m,k]
def pM(t:TA):TE:=λσ H Q=>t σ H λxs c=>xs.length<=sizeLine/\∀p,c p=Ae->Q (.ref p) (upd c p (.tup xs))
def kT(t:TA):TE:=λσ H Q=>t σ H λxs c=>xs.length<=sizeLine/\∀p,c p=Ae->Q (.ref p) (upd c p (.lst xs))
theorem sI{x1}(h:PA X es t):PE X (.Tuple es x1 pos) (pM t):=by intro c s σ H Q I hq;refine wpAny_Tuple_spliced (bY (h pos c s σ H _ I hq) λus d ⟨xs,f,g,r,z,q⟩=>#v[by rw[<-r.length];exact z,?_]);have hf:f d.heap.objs.size=Ae:=g.bP.fresh (bV _);refine#v[.ref d.heap.objs.size,upd f d.heap.objs.size (.tup xs),g.laid (t':=d.toks) (λb u e=>Heap.get?_push_of_some _ e) (bV _) ?_,rfl,q _ hf];exact#v[z,us,r,#v[_,Heap.get?_push_size _ rfl,rfl,_,rfl]]
theorem lJ(h:PA X es t):PE X (.List es pos) (kT t):=by intro c s σ H Q I hq;refine wpAny_List_spliced (bY (h pos c s σ H _ I hq) λus d ⟨xs,f,g,r,z,q⟩=>#v[by rw[<-r.length];exact z,?_]);have hf:f d.heap.objs.size=Ae:=g.bP.fresh (bV _);refine#v[.ref d.heap.objs.size,upd f d.heap.objs.size (.lst xs),g.laid (t':=d.toks) (λb u e=>Heap.get?_push_of_some _ e) (bV _) ?_,rfl,q _ hf];exact#v[z,us,0,r,Heap.get?_push_size _ rfl]
abbrev Sp:=List V->Hp->VK->XK->Prop
abbrev rM:=List Env->Hp->Ag->XK->Ac->Ag->Prop
structure nt (P:Al) (w:Au) (K:aE) (mg:Str->Option Ac) (base:Ax) (A:At) (outer:List Env) (s:Ag) (H:Hp):Prop where
 frames:A.frames=Aa outer
 mod:Mod K mg base
 bs:∀b o,base.get? b=Aa o->s.heap.get? b=Aa o/\H b=Ae
 rm:base.objs.size<=s.heap.objs.size
 gZ:s.heap.FunFrames base outer
 tL:∀b∈oy outer,H b=Ae
 bP:jU P w H s.heap
 bare:BE s.gens
def CE(outer:List Env)(P:Al)(w:Au)(H:Hp)(s:Ag)(Q:VK)(u:Ac)(c:Ag):Prop:=∃v d,c.os=s.os/\BE c.gens/\Un (oy outer) [] H d s.heap c.heap/\jU P w d c.heap/\cH v u/\Q v d
def CR(CX:rM)(outer:List Env)(P:Al)(w:Au)(H:Hp)(s:Ag)(Q:VK)(E:XK)(r:B8)(c:Ag):Prop:=
 match r with
 |.ok (.ret u)=>CE outer P w H s Q u c
 |.ok _=>False
 |.error e=>CX outer H s E e c
structure a0 (P:Al) (w:Au) (K:aE) (mg:Str->Option Ac) (base:Ax) (CX:rM) (k:Nat) (f:Ad) (fd:Ao) (ps:List Str) (sp:Sp):Prop where
 len:∀vs H Q E,sp vs H Q E->vs.length=ps.length
 run:∀(A:At) (outer:List Env) (s:Ag) (H:Hp) (args:Args) (us:List Ac) (vs:List V) (Q:VK) (E:XK),cQ k A->nt P w K mg base A outer s H->BK s fd args (ps.zip us)->Vals vs us->sp vs H Q E ->
  AX (model P w) A (.call (.ref f) args) (CR CX outer P w H s Q E) s
theorem nt.make{P:Al}{w:Au}{K:aE}{mg:Str->Option Ac}{base:Ax}{A:At}{outer:List Env}{s:Ag}{H:Hp}(e:nt P w K mg base A outer s H)(C:Ad)(us:List Ac)(c:List (Str×Ac)):
  nt P w K mg base (A.under (.builtin "type.__call__" #v[.ref C::us,c])) outer s H:=#v[by first|exact e.frames|(simpa[Around.under,Code.envs,Code.isFrame,pushEnvs] using e.frames),e.mod,e.bs,e.rm,e.gZ,e.tL,e.bP,e.bare]
theorem nt.in1{P:Al}{w:Au}{K:aE}{mg:Str->Option Ac}{base:Ax}{A:At}{outer:List Env}{s:Ag}{H:Hp}(e:nt P w K mg base A outer s H):
  nt P w K mg base A.in1 outer s H:=#v[e.frames,e.mod,e.bs,e.rm,e.gZ,e.tL,e.bP,e.bare]
theorem Inv.Hm(I:Inv X pins σ H s):nt X.prog X.w X.K X.mg X.base X.A X.stack s H:=#v[I.ok.frames,I.ok.mod,I.bs,lC I.ok.rm I.sz,I.stack,I.mZ,I.bP,I.bare]
theorem Inv.after{Q:VK}(I:Inv X pins σ H s)(h:CE X.stack X.prog X.w H s Q u s'):EP X pins σ Q u s':=by obtain⟨v,j,k,c,l,f,r,q⟩:=h;obtain⟨hh,g,d,t,i⟩:=s';obtain rfl:i=s.os:=k;exact#v[v,j,I.call (h':=hh) (g':=g) (d':=d) (t':=t) (ch:=[]) l f c (λb z=>absurd z (by simp)),r,q]
def dH(sp:Sp)(c:List V)(E:XK)(t:TA):TE:=λσ H Q=>t σ H λvs d=>sp (vs++c) d Q E
def fQ(C:Ad)(m:Str)(sp:Sp)(c:List V)(E:XK)(g:TE)(t:TA):TE:=λσ H Q=>g σ H λx d=>∃a dx fs,x=.ref a/\d a=Aa (.ins C dx fs)/\fs.lookup m=Ae /\
 t σ d λvs f=>sp (x::(vs++c)) f Q E
def Ll(C:Ad)(sp:Sp)(d:List V)(E:XK)(t:TA):TE:=λσ H Q=>t σ H λvs c=>∀x dx,c x=Ae->c dx=Ae->dx≠x ->
 sp (.ref x::(vs++d)) (upd (upd c dx (.own x)) x (.ins C dx [])) (λv f=>v=.non/\Q (.ref x) f) E
def ua(K:aE)(fd:Ao)(c:List Str)(ds:List Ac):Prop:=∀(s:Ag) (us:List Ac),K.In s.heap->(us++ds).length=c.length->BK s fd #v[us,[]] (c.zip (us++ds))
theorem ua.all{K:aE}{fd:Ao}{c:List Str}(h:∀us:List Ac,us.length=c.length->Ct fd #v[us,[]]=pure (c.zip us)):ua K fd c []:=λs us _ hl=>by rw[xt]at hl ⊢;exact .of_eq (h us hl)
def wy(CX:rM)(X:Cx)(E:XK):Prop:=∀(c:List (Ad×Obj)) (σ:St) (H:Hp) (s:Ag) (e:Ac) (d:Ag),Inv X c σ H s->CX X.stack H s E e d->X.xe e d
theorem ZE{Q:VK}{vs:List V}(F:a0 X.prog X.w X.K X.mg X.base CX k f fd ps sp)(hr:cQ k X.A)(hb:ua X.K fd ps ds)(hd:Vals nZ ds)(hx:wy CX X E)
  (I:Inv X c σ H s) (r:Vals vs us) (h:sp (vs++nZ) H Q E):An (model X.prog X.w) X.A (call (.ref f) us) (EP X c σ Q) X.xe s:=by
 have d:Vals (vs++nZ) (us++ds):=r.append hd;have hl:(us++ds).length=ps.length:=by rw[<-d.length];exact F.len _ _ _ _ h
 refine BW (BF (F.run X.A X.stack s H #v[us,[]] (us++ds) (vs++nZ) Q E hr I.Hm (hb s us I.kE hl) d h) λr g hq=>?_);cases r with
 |error e=>exact hx c σ H s e g I hq
 |ok fl=>
  cases fl with
  |ret u=>exact I.after hq
  |next=>exact False.elim hq
  |brk=>exact False.elim hq
  |cont=>exact False.elim hq
theorem Zz(F:a0 X.prog X.w X.K X.mg X.base CX k f fd ps sp)(hr:cQ k X.A)(hg:Gl X x)(hm:X.mg x=Aa (.ref f))(hk:xl X.K (.ref f)=Ai)(hb:ua X.K fd ps ds)(hd:Vals nZ ds)(hx:wy CX X E)
  (ha:PA X (e::es) t) (d:(x==("__debug__" : Str))=Ah:=by decide) (he:As (e::es) X.env=(Ah,eval e X.env):: As es X.env:=by rfl) (g:(AN pos (As es X.env)).any (·.1)=Ah:=by rfl):
  PE X (.Call (.Name x p) (e::es) [] pos) (dH sp nZ E t):=by
 intro c s σ H Q I h;refine AH (FF I hg hm ?_ d);refine Rm (h₀:=X.base) I.ok.mod.Ht hk (bY (ha pos c s σ H _ I h) λus l ⟨vs,j,i,r,q⟩=>#v[i.kE,?_]) he g;exact ZE F hr hb hd hx i r q
theorem oI(he:PE X o ta)(c:sM X.K C)(hm:Meth X.K C m f)(F:a0 X.prog X.w X.K X.mg X.base CX k f fd ps sp)(hr:cQ k X.A)(hb:ua X.K fd ps ds)(hd:Vals nZ ds)(hx:wy CX X E)(ha:PA X (e::es) t)
  (hst:As (e::es) X.env=(Ah,eval e X.env):: As es X.env:=by rfl) (g:(AN pos (As es X.env)).any (·.1)=Ah:=by rfl)
  (ht:eval (.Call (.Attribute o m apos) (e::es) [] pos) X.env=(do
   let n <-eval o X.env
   standAt apos.atName
   let (f,first) <-holding [n] (CA n m pl)
   callWith pos f first (AN pos (As (e::es) X.env)) (Ca pos (Bw [] X.env))):=by rfl):
  PE X (.Call (.Attribute o m apos) (e::es) [] pos) (fQ C m sp nZ E ta t):=by
 intro d s σ H Q I h;refine Zv7 (pl:=pl) (bY (he d s σ H _ I h) λu B ⟨x,v,i,z,a,dx,fs,ex,ea,l,q⟩=>?_) ht;subst ex;obtain rfl:u=Value.ref a:=z;refine ZjR i ea c hm l ?_;refine Rm (first:=[.ref a]) (h₀:=X.base) I.ok.mod.Ht hm.kp (bY (ha pos d B σ v _ i q) λus G ⟨vs,D,j,r,y⟩=>#v[j.kE,?_]) hst g;exact ZE (us:=.ref a::us) (vs:=.ref a::vs) F hr hb hd hx j (.cons rfl r) y
theorem oR(he:PE X o ta)(c:sM X.K C)(hm:Meth X.K C m f)(F:a0 X.prog X.w X.K X.mg X.base CX k f fd ps sp)(hr:cQ k X.A)(hb:ua X.K fd ps ds)(hd:Vals nZ ds)(hx:wy CX X E)
  (ht:eval (.Call (.Attribute o m apos) [] [] pos) X.env=(do
   let i <-eval o X.env
   standAt apos.atName
   let (f,first) <-holding [i] (CA i m pl)
   callWith pos f first (AN pos (As [] X.env)) (Ca pos (Bw [] X.env))):=by rfl):
  PE X (.Call (.Attribute o m apos) [] [] pos) (fQ C m sp nZ E ta aI):=by
 intro d s σ H Q I h;refine Zv7 (pl:=pl) (bY (he d s σ H _ I h) λu r ⟨x,n,g,j,a,dx,fs,ex,ea,l,q⟩=>?_) ht;subst ex;obtain rfl:u=Value.ref a:=j;refine ZjR g ea c hm l ?_;exact PySem.W.callWith_K0 (first:=[.ref a]) g.kE hm.kp (ZE (us:=[.ref a]) (vs:=[.ref a]) F hr hb hd hx g (.cons rfl .nil) q)
structure Mk (K:aE) (C f:Ad):Prop where
 makes:Wj K C=Ai
 init:lO K (.ref C) "__init__" = Aa (Aa (.ref f))
 fn:Sk K (.ref f)=Ai
 kp:xl K (.ref C)=Ai
theorem Zsk{Q:VK}{vs:List V}(M:Mk X.K C f)(F:a0 X.prog X.w X.K X.mg X.base CX k f fd ps sp)(hr:cQ (k+1) X.A)(hb:ua X.K fd ps ds)(hd:Vals nZ ds)
  (hx:wy CX X E) (I:Inv X d σ H s) (r:Vals vs us)
  (h:∀x dx,H x=Ae->H dx=Ae->dx≠x->sp (.ref x::(vs++nZ)) (upd (upd H dx (.own x)) x (.ins C dx [])) (λv l=>v=.non/\Q (.ref x) l) E):
  An (model X.prog X.w) X.A (call (.ref C) us) (EP X d σ Q) X.xe s:=by
 have hq:=h (s.heap.objs.size+1) s.heap.objs.size (I.bP.fresh (RL _)) (I.bP.fresh (bV _)) (gW (JO _));have g:=Inv.made (C:=C) I;have i:Vals (V.ref (s.heap.objs.size+1):: (vs++nZ)) (Value.ref (s.heap.objs.size+1):: (us++ds)):=.cons rfl (r.append hd)
 have hl:(Value.ref (s.heap.objs.size+1):: us++ds).length=ps.length:=by have e:=i.length;rw[F.len _ _ _ _ hq]at e;exact e.symm
 refine BW (ZsK (f:=f) I.kE M.makes M.init (beq_iff_eq.mp M.fn) (BF (F.run _ X.stack _ _ #v[Value.ref (s.heap.objs.size+1):: us,[]] (Value.ref (s.heap.objs.size+1):: (us++ds)) _ _ E (hr.make C us [])
  (g.Hm.make C us []) (hb _ (Value.ref (s.heap.objs.size+1):: us) g.kE hl) i hq) λr z c=>?_))
 cases r with
 |error e=>exact hx d σ _ _ e z g c
 |ok fl=>
  cases fl with
  |ret u=>obtain⟨v,j,n,y,ev,q⟩:=g.after c;subst ev;exact#v[y,#v[V.ref (s.heap.objs.size+1),j,n,rfl,q]]
  |next=>exact False.elim c
  |brk=>exact False.elim c
  |cont=>exact False.elim c
theorem Xm(M:Mk X.K C f)(F:a0 X.prog X.w X.K X.mg X.base CX k f fd ps sp)(hr:cQ (k+1) X.A)(hg:Gl X x)(hm:X.mg x=Aa (.ref C))(hb:ua X.K fd ps ds)(hd:Vals nZ ds)(hx:wy CX X E)
  (ha:PA X (e::es) t) (d:(x==("__debug__" : Str))=Ah:=by decide) (he:As (e::es) X.env=(Ah,eval e X.env):: As es X.env:=by rfl) (g:(AN pos (As es X.env)).any (·.1)=Ah:=by rfl):
  PE X (.Call (.Name x p) (e::es) [] pos) (Ll C sp nZ E t):=by
 intro c s σ H Q I h;refine AH (FF I hg hm ?_ d);refine Rm (h₀:=X.base) I.ok.mod.Ht M.kp (bY (ha pos c s σ H _ I h) λus l ⟨vs,j,i,r,q⟩=>#v[i.kE,?_]) he g;exact Zsk M F hr hb hd hx i r q
def PK(X:Cx)(d:List BX)(t:TA):Prop:=∀(pos:Pos) (c:List (Ad×Obj)) (s:Ag) (σ:St) (H:Hp) (Q:List V->Hp->Prop),Inv X c σ H s->t σ H Q->An (model X.prog X.w) X.A (evalAll ((Ca pos (Bw d X.env)).map (·.2))) (AP X c σ Q) X.xe s
structure WL (K:aE) (fd:Ao) (ps ks:List Str) (g:List Ac->List Ac->List Ac) (gV:List V->List V->List V):Prop where
 to:∀(s:Ag) (us ws:List Ac),K.In s.heap->(g us ws).length=ps.length->BK s fd #v[us,ks.zip ws] (ps.zip (g us ws))
 rel:∀{vs:List V}{us:List Ac}{zs:List V}{ws:List Ac},Vals vs us->Vals zs ws->Vals (gV vs zs) (g us ws)
structure aH (N P:List Str) (sc:Scope):Prop where
 kind:sc.kind=.function
 co:sc.isCoroutine=Ah
 gen:sc.isGenerator=Ah
 nd:N.Nodup
 pre:N.take P.length=P
 par:∀x∈P,sc.names.lookup x=Aa .local\/sc.names.lookup x=Aa .cell
 GL:∀y∈sc.names,y.2≠.free
theorem Zmt:∀{c:List (Str×Ac)}{m:Str->Option Ac},(∀v,(x,v)∉c)->bindL d c m x=m x
 |[],_,_=>rfl
 |(n,v):: r,m,h=>by
  unfold bindL;rw[Zmt λw hw=>h w (sC _ hw)];split
  ·have:x≠n:=by rintro rfl;exact h v uh
   simp[this]
  ·rfl
theorem Zmv:∀{c:List (Str×Ac)}{m:Str->Option Ac},(∀v,(x,v)∉c)->bindC d c m x=m x
 |[],_,_=>rfl
 |(n,v):: r,m,h=>by
  unfold bindC;rw[Zmv λw hw=>h w (sC _ hw)];split
  ·rfl
  ·have:x≠n:=by rintro rfl;exact h v uh
   simp[this]
theorem Z6:∀{P:List Str}{vs:List Ac}{i:Nat}{m:Str->Option Ac},P.Nodup->P[i]? = Aa x->vs[i]? = Aa v->c x=Aa .local ->
  bindL c (P.zip vs) m x=Aa v
 |[],_,_,_,_,h,_,_=>by simp at h
 |_::_,[],_,_,_,_,h,_=>by simp at h
 |p::P,w::vs,0,m,nd,h1,h2,hk=>by simp at h1 h2;subst h1;subst h2;show bindL c ((p,w):: P.zip vs) m p=_;unfold bindL;rw[Zmt λv hv=>(uL.mp nd).1 (V2 hv).1,if_pos hk];simp
 |p::P,w::vs,i+1,m,nd,h1,h2,hk=>by show bindL c ((p,w):: P.zip vs) m x=_;unfold bindL;exact Z6 (i:=i) (uL.mp nd).2 (by simpa using h1) (by simpa using h2) hk
theorem Zmw:∀{P:List Str}{vs:List Ac}{i:Nat}{m:Str->Option Ac},P.Nodup->P[i]? = Aa x->vs[i]? = Aa v->c x≠Aa .local ->
  bindC c (P.zip vs) m x=Aa v
 |[],_,_,_,_,h,_,_=>by simp at h
 |_::_,[],_,_,_,_,h,_=>by simp at h
 |p::P,w::vs,0,m,nd,h1,h2,hk=>by simp at h1 h2;subst h1;subst h2;show bindC c ((p,w):: P.zip vs) m p=_;unfold bindC;rw[Zmv λv hv=>(uL.mp nd).1 (V2 hv).1,if_neg hk];simp
 |p::P,w::vs,i+1,m,nd,h1,h2,hk=>by show bindC c ((p,w):: P.zip vs) m x=_;unfold bindC;exact Zmw (i:=i) (uL.mp nd).2 (by simpa using h1) (by simpa using h2) hk
def start(N:List Str)(vs:List V):St:=vs.map Aa++gR (N.length-vs.length) Ae
def qX(CX:rM)(P:Al)(w:Au)(K:aE)(mg:Str->Option Ac)(base:Ax)(N:List Str)(c:Str)(scope:Scope)(f:Ad)(cd:Ac)(A:At)(outer:List Env)(s:Ag)(H:Hp)(E:XK):Cx where
 prog:=P
 w:=w
 K:=K
 mg:=mg
 base:=base
 A:=A.deeper (AY c scope s.heap.objs.size f cd)
 N:=N
 s₀:=s
 H₀:=H
 env:=AY c scope s.heap.objs.size f cd
 outer:=outer
 stack:=AY c scope s.heap.objs.size f cd::outer
 ex:=[]
 calm:=Ai
 fn:=λ_=>Ai
 pn:=[]
 xe:=λe h=>An (model P w) (A.deeper (AY c scope s.heap.objs.size f cd)) (leaving (AY c scope s.heap.objs.size f cd) e) (λ_ d=>CX outer H s E e d) (λg d=>CX outer H s E g d) h
theorem Zoo{d:Scope}{n:Nat}{x:Str}(h:d.names.lookup x=Aa .cell):∃c,(cellsFrom n d.names []).lookup x=Aa c:=by have q:=Zv8 d.names n [] (.inl h);exact Option.isSome_iff_exists.mp q
theorem Zq2{CX:rM}{P:Al}{w:Au}{K:aE}{mg:Str->Option Ac}{base:Ax}{N j:List Str}{d:Str}{scope:Scope}{f:Ad}{cd:Ac}{A:At}{outer:List Env}{s m:Ag}{H:Hp}{E:XK}{us:List Ac}{vs:List V}
  (S:aH N j scope) (hd:A.handled=Ae) (e0:nt P w K mg base A outer s H) (hl:vs.length=j.length) (r:Vals vs us)
  (x:InCallC s s.heap.objs.size (bindL (AY d scope s.heap.objs.size f cd).kindOf (j.zip us) λ_=>Ae) (cellsFrom (s.heap.objs.size+1) scope.names []) (bindC (AY d scope s.heap.objs.size f cd).kindOf (j.zip us) λ_=>Ae) m):
  Inv (qX CX P w K mg base N d scope f cd A outer s H E) [] (start N vs) H m:=by
 have t:j.length<=N.length:=by have:=congrArg List.length S.pre;rw[uw]at this;omega
 obtain⟨h1,C,rfl,hk⟩:=x.done;have g:∀b:Ad,b∉(qX CX P w K mg base N d scope f cd A outer s H E).ex:=λb z=>absurd (show b∈([]:List Ad) from z) (by simp)
 refine⟨#v[e0.mod,S.kind,rfl,rfl,bV _,λy z c h1 h2=>?_,λy hy=>?_,λy c _ h=>?_,λ_=>hd,Around.frames_deeper e0.frames,.inr #v[rfl,rfl],λb z=>absurd z (g b),e0.bs,e0.rm,λb _ _=>g b,λb z=>absurd z (g b),e0.gZ,e0.tL],
  rfl,e0.bare,Un.kept hk,#v[_,x.toInCall.ns,λi y v h1 h2 h3=>?_],λy c h=>#v[_,x.cell y c h],e0.bP.fresh (bV _),λy c h=>?_,λp hp=>absurd (show p∈([]:List (Ad×Obj)) from hp) (by simp),e0.bP.kept hk,?_⟩
 ·exact name_of_addr x.apart (PySem.mem_of_lookup h1) (PySem.mem_of_lookup h2)
 ·have hy:scope.names.lookup y=Aa .cell\/scope.names.lookup y=Aa .free:=hy;rcases hy with hy|hy
  ·exact Zoo hy
  ·exact absurd rfl (S.GL _ (PySem.mem_of_lookup hy))
 ·exact yj (x.above y c (PySem.mem_of_lookup h))
 ·have hi:i<vs.length:=by
   unfold start at h2;by_cases hi:i<vs.length
   ·exact hi
   ·rw[qP (by simpa using hi)]at h2;rw[Fv]at h2;split at h2 <;> cases h2
  have ha:vs[i]? = Aa v:=by
   unfold start at h2;rw[mY (by simpa using hi),gX]at h2;cases e:vs[i]? with
   |none=>rw[e]at h2;cases h2
   |some a=>rw[e]at h2;cases h2;rfl
  obtain⟨u,hu,B⟩:=r.get ha
  have hp:j[i]? = Aa y:=by rw[<-S.pre,Q1 ⋯];exact h1
  have l:j.Nodup:=by rw[<-S.pre];exact S.nd.sublist (List.take_sublist _ _)
  refine#v[u,B,?_];rcases S.par y (jP hp) with k|k
  ·exact .inl #v[k,Z6 l hp hu k]
  ·obtain⟨c,e⟩:=Zoo (n:=s.heap.objs.size+1) k;refine .inr #v[.inl k,c,e,?_];have q:=x.cell y c e;rw[Zmw l hp hu (by show scope.names.lookup y≠_;rw[k];decide)]at q;exact q
 ·exact e0.bP.fresh (yj (x.above y c (PySem.mem_of_lookup h)))
 ·unfold start;show _=N.length;rw[eG,aQ,oQ];omega
theorem zy{CX:rM}{P:Al}{w:Au}{K:aE}{mg:Str->Option Ac}{base:Ax}{k:Nat}{f:Ad}{name c:Str}{g:Arguments}{body:List Az}{scope:Scope}{R T l U d ct Z:Ac}{an od:Option Ad}
  {G:Array (Option Ac)}{N z:List Str}{sp:Sp} (Y:K.lookup f=Aa #v[Z,od,.func (uK name c g body scope R T l U an d ct),G]) (C:Jt K d c=Ai) (S:aH N z scope)
  (len:∀vs H Q E,sp vs H Q E->vs.length=z.length)
  (i:∀(A:At) (outer:List Env) (s:Ag) (H:Hp) (vs:List V) (Q:VK) (E:XK),cQ k (A.deeper (AY c scope s.heap.objs.size f d))->sp vs H Q E ->
   ∃t,nc (qX CX P w K mg base N c scope f d A outer s H E) body t/\t { nx:=λ_ h=>Q .non h,rt:=Q } (start N vs) H):
  a0 P w K mg base CX (k+1) f (uK name c g body scope R T l U an d ct) z sp:=by
 refine#v[len,λA outer s H args us vs Q E hr e0 hb r p=>?_];have hl:=len _ _ _ _ p;have O:K.In s.heap:=e0.mod.Ht.keeps λb o e=>(e0.bs b o e).1;have D:s.heap.NoLimit:=e0.mod.nolimit.keeps λb o e=>(e0.bs b o e).1
 have j:∀y∈z.zip us,scope.names.lookup y.1=Aa .local\/(scope.names.lookup y.1=Aa .cell/\((cellsFrom (s.heap.objs.size+1) scope.names []).lookup y.1).isSome=Ai):=λ⟨n,v⟩ hy=>by
  rcases S.par n (V2 hy).1 with q|q
  ·exact .inl q
  ·exact .inr #v[q,Zv8 _ _ _ (.inl q)]
 refine codeAny_call_function hr.depth (O _ _ Y) rfl S.co S.gen rfl (PySem.W.codeRec_of O C) (hb _ _ _ _ ?_);refine wpAny_newFunctionEnv_cells S.kind j λenv he X x=>?_;subst he;refine#v[D.keeps x.toInCall.keep,codeAny_func ?_];obtain⟨t,ht,hq⟩:=i A outer s H vs Q E (hr.deeper _) p;have I:Inv (qX CX P w K mg base N c scope f d A outer s H E) [] (start N vs) H X:=Zq2 S hr.hd e0 hl r x;refine AF (ht [] X (start N vs) H _ I hq) (λfl M hs=>?_) λe M hs=>hs
 have m:∀{B:St}{h:Hp}{v:V}{u:Ac},Inv (qX CX P w K mg base N c scope f d A outer s H E) [] B h M->cH v u->Q v h->CE outer P w H s Q u M:=λ{B h v u} J L q=>#v[v,h,J.os,J.bare,J.base,J.bP,L,q]
 cases fl with
 |ret u=>obtain⟨v,B,h,J,L,q⟩:=hs;exact m J L q
 |next=>obtain⟨B,h,J,q⟩:=hs;exact m (v:=V.non) (u:=Value.none) J rfl q
 |brk=>obtain⟨_,_,_,q⟩:=hs;exact False.elim q
 |cont=>obtain⟨_,_,_,q⟩:=hs;exact False.elim q
section
variable {X:Cx}{x:Str}{p pos:Pos}{e:Expr}{es:List Expr}{t:TA}{id T:String}{r:List V->Hp->VK->Prop}
def dF(r:List V->Hp->VK->Prop)(t:TA):TE:=λσ H Q=>t σ H λvs c=>r vs c Q
theorem eV(hc:mR X (.builtin id) r)(hg:Gl X x)(hm:X.mg x=Ae)(hv:Bb x=Aa (.builtin id))(ha:PA X (e::es) t)(hn:x ≠ "__name__":=by decide)(d:(x==("__debug__" : Str))=Ah:=by decide)
  (he:As (e::es) X.env=(Ah,eval e X.env):: As es X.env:=by rfl) (f:(AN pos (As es X.env)).any (·.1)=Ah:=by rfl):PE X (.Call (.Name x p) (e::es) [] pos) (dF r t):=by
 intro c s σ H Q I h;refine AH (wk I hg hm hv ?_ hn d);exact PyProof.Rows.callWith_builtin1 (bY (ha pos c s σ H _ I h) λus l ⟨vs,g,i,k,j⟩=>hc c l σ g vs us Q i k j) he f
theorem re(hc:mR X (.type T) r)(hg:Gl X x)(hm:X.mg x=Ae)(hv:Bb x=Aa (.type T))(ha:PA X (e::es) t)(hn:x ≠ "__name__":=by decide)(d:(x==("__debug__" : Str))=Ah:=by decide)
  (he:As (e::es) X.env=(Ah,eval e X.env):: As es X.env:=by rfl) (f:(AN pos (As es X.env)).any (·.1)=Ah:=by rfl):PE X (.Call (.Name x p) (e::es) [] pos) (dF r t):=by
 intro c s σ H Q I h;refine AH (wk I hg hm hv ?_ hn d);exact PyProof.Rows.callWith_type1 (bY (ha pos c s σ H _ I h) λus l ⟨vs,g,i,k,j⟩=>hc c l σ g vs us Q i k j) he f
end
end L2
namespace HT
section
open PySem.SeqAt
open PySem.AutoSeq1 (wpAny_loadPart')
open PySem.MeetsSeq PySem.MeetsSeq2 PySem.MeetsSeq3
end
def p8(n d:Nat):Option Int->Nat
 |none=>d
 |some v=>if v<0 then(v+(n:Int)).toNat else min v.toNat n
theorem ZuF(n d k:Nat):p8 n d (Aa (k:Int))=min k n:=by show(if(k:Int)<0 then((k:Int)+(n:Int)).toNat else min (k:Int).toNat n)=min k n;rw[if_neg ⋯,oK]
end HT
namespace L2
abbrev TO:=St->Hp->(Option Int->Hp->Prop)->Prop
def PO(X:Cx)(e:Option Expr)(t:TO):Prop:=
 ∀(c:List (Ad×Obj)) (s:Ag) (σ:St) (H:Hp) (Q:Option Int->Hp->Prop),Inv X c σ H s->t σ H Q ->
  An (model X.prog X.w) X.A (evalPart e X.env) (λu f=>∃o d,Inv X c σ d f/\IsPart u o/\Q o d) X.xe s
def YF:TO:=λ_ H Q=>Q Ae H
def W5(t:TE):TO:=λσ H Q=>t σ H λx c=>∃i,x=.int i/\Q (Aa i) c
theorem S4:∀{us:List Ac},Vals (ns.map V.int) us->BG us ns:=by
 induction ns with
 |nil=>intro us r;rw[yB]at r;cases r;exact .nil
 |cons n ns ih=>
  intro us r;rw[jF]at r;cases r with
  |cons c d=>obtain⟨t,e⟩:=c;subst e;exact .cons n t (ih d)
section
variable {X:Cx}{e:Expr}{te:TE}{lo hi:Option Expr}{tl th:TO}{pos p2:Pos}
theorem ZuR:PO X Ae YF:=by intro c s σ H Q I h;rw[evalPart_none];exact Aj #v[Ae,H,I,.none,h]
theorem ZuQ(h:PE X e te):PO X (Aa e) (W5 te):=by intro c s σ H Q I hw;rw[evalPart_some];refine bY (h c s σ H _ I hw) λu k ⟨x,d,f,j,g⟩=>?_;obtain⟨i,rfl,q⟩:=g;obtain⟨t,rfl⟩:=j;exact#v[Aa i,d,f,.int i t,q]
def xM(X:Cx)(r:V->Option Int->Option Int->Hp->VK->Prop):Prop:=
 ∀(c:List (Ad×Obj)) (s:Ag) (σ:St) (H:Hp) (x:V) (v f g:Ac) (lo hi:Option Int) (d:Ad) (Q:VK),Inv X c σ H s->cH x v->s.heap.IsSliceOf d f g .none->IsPart f lo->IsPart g hi->r x lo hi H Q ->
  ∃T id,Bt (.type T) "__getitem__" = pure (Aa (.builtin id))/\s.TypeIs v T/\An (model X.prog X.w) X.A (Cv v (.ref d)) (EP X c σ Q) X.xe s
def WJ(r:V->Option Int->Option Int->Hp->VK->Prop)(te:TE)(tl th:TO):TE:=λσ H Q=>te σ H λx c=>tl σ c λl d=>th σ d λu f=>r x l u f Q
theorem Zsx(hr:xM X r)(he:PE X e te)(hl:PO X lo tl)(hu:PO X hi th):PE X (.Subscript e (.Slice lo hi Ae p2) pos) (WJ r te tl th):=by intro c s σ H Q I h;refine Subscript_ (bY (he c s σ H _ I h) λv G ⟨x,j,m,E,B⟩=>?_);refine wpAny_Slice (bY (hl c G σ j _ m B) λf J ⟨l,k,n,pl,C⟩=>bY (hu c J σ k _ n C) λg d ⟨u,i,p,z,D⟩=>?_);rw[evalPart_none];refine Aj ?_;have t:Inv X c σ i { d with heap:=d.heap.push { cls:=.type "slice",data:=.fields #[f,g,.none] } }:=p.kept (t':=d.toks) λb K q=>Heap.get?_push_of_some _ q;obtain⟨T,id,y,ht,hg⟩:=hr c { d with heap:=d.heap.push { cls:=.type "slice",data:=.fields #[f,g,.none] } } σ i x v f g l u d.heap.objs.size Q t E (Heap.IsSliceOf.new ..) pl z D;show An (model X.prog X.w) X.A (Co e (.Slice lo hi Ae p2) v (.ref d.heap.objs.size)) (EP X c σ Q) X.xe { d with heap:=d.heap.push { cls:=.type "slice",data:=.fields #[f,g,.none] } };exact tail_any (ops:=[.ref d.heap.objs.size,v]) ht y hg (by with_unfolding_all rfl)
def xT(xs:List V)(lo hi:Option Int):List V:=(xs.drop (HT.p8 xs.length 0 lo)).take (HT.p8 xs.length xs.length hi-HT.p8 xs.length 0 lo)
theorem Zny(xs:List V)(lo hi:Option Int):(xT xs lo hi).length<=xs.length:=by unfold xT;rw[uw,QZ];omega
end
def wG(n:Nat)(i:Int):Option Nat:=if 0<=i then(if i<n then Aa i.toNat else Ae) else if -(n:Int)<=i then Aa (i+n).toNat else Ae
def mN{α:Type}(xs:List α)(i:Int):Option α:=(wG xs.length i).bind λj=>xs[j]?
theorem Zq1(h:wG n i=Aa j):seqIndex? i n=Aa j/\j<n /\ -(n:Int)<=i/\i<n:=by
 unfold wG at h;by_cases h0:0<=i
 ·rw[if_pos h0]at h;by_cases h1:i<n
  ·rw[if_pos h1]at h;have e:i.toNat=j:=Option.some.inj h;exact#v[by rw[CB h0 h1,e],⋯,⋯,h1]
  ·rw[if_neg h1]at h;cases h
 ·rw[if_neg h0]at h;by_cases h1 : -(n:Int)<=i
  ·rw[if_pos h1]at h;have e:(i+n).toNat=j:=Option.some.inj h;exact#v[by rw[Cw ⋯ h1,e],⋯,h1,⋯]
  ·rw[if_neg h1]at h;cases h
theorem Wh{α:Type}{xs:List α}{i:Int}{v:α}(h:mN xs i=Aa v):∃j,seqIndex? i xs.length=Aa j/\xs[j]? = Aa v/\j<xs.length /\ -(xs.length:Int)<=i/\i<xs.length:=by
 unfold mN at h;cases e:wG xs.length i with
 |none=>rw[e]at h;cases h
 |some j=>rw[e]at h;obtain⟨h1,h2,h3,h4⟩:=Zq1 e;exact#v[j,h1,h,h2,h3,h4]
theorem wx{α:Type}{xs:List α}{j:Nat}{v:α}(h:xs[j]? = Aa v):mN xs (j:Int)=Aa v:=by
 have hj:j<xs.length:=(dS.mp h).1
 have e:wG xs.length (j:Int)=Aa j:=by unfold wG;rw[if_pos ⋯,if_pos ⋯];simp
 unfold mN;rw[e];exact h
def ZvA(b:Expr):Prop:=∀o i,subscripted b Ah o i=operate [o,i] (Cv o i)
def sK(X:Cx)(r:R2):Prop:=
 ∀(f c:Expr) (d:List (Ad×Obj)) (s:Ag) (σ:St) (H:Hp) (x y:V) (v u:Ac) (Q:VK),Inv X d σ H s->cH x v->cH y u->r x y H Q ->
  subscripted c Ah v u=operate [v,u] (Cv v u)->An (model X.prog X.w) X.A (Co f c v u) (EP X d σ Q) X.xe s
def Ng(X:Cx)(id:String)(r:V->List V->Hp->VK->Prop):Prop:=
 ∀(c:List (Ad×Obj)) (s:Ag) (σ:St) (H:Hp) (x:V) (xs:List V) (v:Ac) (us:List Ac) (Q:VK),Inv X c σ H s->cH x v->Vals xs us->r x xs H Q ->
  An (model X.prog X.w) X.A (call (.builtin id) (v::us)) (EP X c σ Q) X.xe s
section
variable {X:Cx}{a b:Expr}{ta tb:TE}{pos:Pos}
theorem sK.or(h:sK X r)(h':sK X g):sK X (λx y H Q=>r x y H Q\/g x y H Q):=by
 intro d c f s σ H x y v u Q I i j q hs;rcases q with q|q
 ·exact h d c f s σ H x y v u Q I i j q hs
 ·exact h' d c f s σ H x y v u Q I i j q hs
theorem eQ(hr:sK X r)(ha:PE X a ta)(hb:PE X b tb)(hs:ZvA b:=by exact λ_ _=>rfl):PE X (.Subscript a b pos) (aK r ta tb):=by intro c s σ H Q I h;exact Subscript_ (D2 ha hb I h λv u j x y d f g i q=>hr a b c j σ d x y v u Q f g i q (hs _ _))
def Md(K:aE):R2:=λx y H Q=>∃p xs i v,x=.ref p/\y=.int i/\cB K H p xs/\mN xs i=Aa v/\Q v H
def Kl(K:aE):R2:=λx y H Q=>∃p xs i v,x=.ref p/\y=.int i/\gA K H p xs/\mN xs i=Aa v/\Q v H
def Ku:R2:=λx y H Q=>∃z i c,x=.str z/\y=.int i/\z.length<=sizeLine/\mN z.cps.toList i=Aa c/\Q (.str #v[#[c]]) H
theorem Zu5:sK X (Md X.K):=by
 intro k g c s σ H x y v u Q I l m h hs;obtain⟨p,xs,i,z,rfl,rfl,hq,he,q⟩:=h;cases l;obtain⟨t,rfl⟩:=m;obtain⟨its,r,pl,hz⟩:=I.list hq;obtain⟨j,h1,h2,h3,h4,h5⟩:=Wh he;obtain⟨w,ew,f⟩:=r.get h2;have hl:=r.length;have hn:=Ea;have d:EP X c σ Q w s:=#v[z,H,I,f,q];by_cases h0:0<=i
 ·have hj:i.toNat=j:=by rw[CB h0 h5]at h1;exact Option.some.inj h1
  exact item_listR pl.isList h0 ⋯ (by rw[hj];simpa using ew) d hs
 ·have hj:(i+(its.toArray.size:Int)).toNat=j:=by rw[Cw ⋯ h4]at h1;rw[iO,<-hl];exact Option.some.inj h1
  exact BY (x:=w) pl.isList.typeIs slot_list_getitem.lookup
   (wpAny_getItem_list_neg (Q:=λr n=>r=w/\EP X c σ Q r n) pl.isList ⋯ (by rw[iO] <;> omega) ⋯ (by rw[hj];simpa using ew) #v[rfl,d]) hs
theorem Gx:sK X (Kl X.K):=by
 intro k g c s σ H x y v u Q I l m h hs;obtain⟨p,xs,i,z,rfl,rfl,hq,he,q⟩:=h;cases l;obtain⟨t,rfl⟩:=m;obtain⟨its,r,pl,hz⟩:=I.tuple hq;obtain⟨j,h1,h2,h3,h4,h5⟩:=Wh he;obtain⟨w,ew,f⟩:=r.get h2;have hl:=r.length;have hn:=Ea;have d:EP X c σ Q w s:=#v[z,H,I,f,q]
 exact BY (x:=w) pl.typeIs slot_tuple_getitem.lookup
  (getItem_tuple (j:=j) (Q:=λr n=>r=w/\EP X c σ Q r n) pl ⋯ ⋯ (by rw[iO,<-hl];exact h1) (by simpa using ew) #v[rfl,d]) hs
theorem Fc:sK X Ku:=by
 intro f d g s σ H x y v u Q I k l h hs;obtain⟨z,i,c,rfl,rfl,hz,he,q⟩:=h;obtain⟨t,rfl⟩:=k;obtain⟨t',rfl⟩:=l;obtain⟨j,h1,h2,h3,h4,h5⟩:=Wh he;have hl:z.cps.toList.length=z.length:=by simp[Str.length]
 rw[hl]at h1 h4 h5;have hn:=Ea
 exact tail_any (typeIs_str s z t) slot_str_getitem.lookup (getItem_str (c:=c) (by have e1:decide (i < -(2^63:Int))=Ah:=decide_eq_false ⋯;have e2:decide (i≥2^63)=Ah:=decide_eq_false ⋯;rw[e1,e2,Bool.or_false]) (by rw[h1];simpa using h2) #v[.str #v[#[c]],H,I.tok _,#v[_,rfl],q]) hs
def rIx(K:aE):R2:=λx y H Q=>Md K x y H Q\/Kl K x y H Q\/Ku x y H Q
theorem GG:sK X (rIx X.K):=Zu5.or (Gx.or Fc)
theorem Zo6(its:List Ac)(n j:Nat)(u:Ac):Obj.mapSeq (·.setIfInBounds j u) { cls:=.type "list",data:=.seq its.toArray n }={ cls:=.type "list",data:=.seq (its.set j u).toArray n }:=by simp[Obj.mapSeq]
theorem Inv.lst(I:Inv X c σ H s)(h:H p=Aa (.lst xs)):
  ∃(its:List Ac) (n:Nat),Vals xs its/\s.heap.get? p=Aa { cls:=.type "list",data:=.seq its.toArray n }/\xs.length<=sizeLine:=by
 obtain⟨z,its,n,r,e⟩:=I.bP p _ h;exact#v[its,n,r,e,z]
theorem Inv.DH{xs ys:List V}{its its':List Ac}(I:Inv X c σ H s)(h:H p=Aa (.lst xs))
  (ho:s.heap.get? p=Aa { cls:=.type "list",data:=.seq its.toArray n }) (hf:f { cls:=.type "list",data:=.seq its.toArray n }={ cls:=.type "list",data:=.seq its'.toArray d }) (r:Vals ys its') (hz:ys.length<=sizeLine) (t:Nat):
  Inv X c σ (upd H p (.lst ys)) { s with heap:=s.heap.update p f,toks:=t }:=by
 have e:(s.heap.update p f).get? p=Aa { cls:=.type "list",data:=.seq its'.toArray d }:=by rw[Heap.get?_update_self f ho (by rw[hf] <;> rfl),hf]
 refine I.write (x:=p) (e:=p) (by rw[h];trivial) (.inl rfl) (λb u hb q=>(Heap.get?_update_other _ _ (Ne.symm hb)).trans q) #v[_,e] ?_;exact#v[hz,its',d,r,e]
def XX:V->V->V->Hp->(Hp->Prop)->Prop:=λo i v H Q=>∃p xs k j,o=.ref p/\i=.int k/\H p=Aa (.lst xs)/\wG xs.length k=Aa j/\Q (upd H p (.lst (xs.set j v)))
theorem ZnY:C5 X XX:=by
 intro c s σ H o i v m iv u Q I g f l h;obtain⟨p,xs,k,j,rfl,rfl,hp,hj,q⟩:=h;cases g;obtain⟨t,rfl⟩:=f;obtain⟨its,n,r,ho,hz⟩:=I.lst hp;obtain⟨h1,h2,h3,h4⟩:=Zq1 hj;have hl:=r.length;have hn:=Ea
 have d:Inv X c σ (upd H p (.lst (xs.set j v))) { s with heap:=s.heap.update p (Obj.mapSeq (·.setIfInBounds j u)) }:=I.DH hp ho (Zo6 its n j u) (r.set l j) (by rw[List.length_set];exact hz) s.toks
 by_cases h0:0<=k
 ·have hk:k.toNat=j:=by rw[CB h0 h4]at h1;exact Option.some.inj h1
  exact PySem.W.ki_setAt ho h0 ⋯ (by rw[iO,<-hl];exact h4) (by rw[hk];exact#v[_,d,q])
 ·have hk:(k+(its.toArray.size:Int)).toNat=j:=by rw[Cw ⋯ h3]at h1;rw[iO,<-hl];exact Option.some.inj h1
  exact PySem.W.ki_setBack ho ⋯ (by rw[iO,<-hl];exact h3) ⋯ (by rw[hk];exact#v[_,d,q])
theorem Zlz(lo hi:Option Int)(n:Nat):(Bn lo hi Ae n).1=((HT.p8 n 0 lo:Nat):Int)/\(Bn lo hi Ae n).2.1=((HT.p8 n n hi:Nat):Int)/\(Bn lo hi Ae n).2.2=1:=by
 refine#v[?_,?_,rfl]
 ·cases lo with
  |none=>simp[Bn,HT.p8]
  |some i=>
   simp only[Bn,HT.p8,Option.getD_none,show(1:Int)>0 by decide,if_true];by_cases h:i<0
   ·simp only[h,if_true] <;> omega
   ·simp only[h,if_false] <;> omega
 ·cases hi with
  |none=>simp[Bn,HT.p8]
  |some i=>
   simp only[Bn,HT.p8,Option.getD_none,show(1:Int)>0 by decide,if_true];by_cases h:i<0
   ·simp only[h,if_true] <;> omega
   ·simp only[h,if_false] <;> omega
theorem Zkq(its:List Ac)(lo hi:Option Int):slicePick its.toArray lo hi Ae=((its.drop (HT.p8 its.length 0 lo)).take (HT.p8 its.length its.length hi-HT.p8 its.length 0 lo)).toArray:=by obtain⟨h1,h2,h3⟩:=Zlz lo hi its.toArray.size;unfold slicePick;rw[h1,h2,h3];simp only[sliceRange_one,pick_run,iO] <;> rfl
def WU(K:aE):V->Option Int->Option Int->Hp->VK->Prop:=λx lo hi H Q=>∃a xs,x=.ref a/\cB K H a xs/\∀p,H p=Ae->Q (.ref p) (upd H p (.lst (xT xs lo hi)))
theorem Zuz:xM X (WU X.K):=by intro d s σ H x v k l lo hi j Q I g hs pl f h;obtain⟨a,xs,rfl,hx,q⟩:=h;cases g;obtain⟨its,r,ht,hz⟩:=I.list hx;have c:=r.length;refine#v["list",_,slot_list_getitem.lookup,ht.isList.typeIs,?_];refine wpAny_getItem_list_slice ht.isList hs pl f .none (by simp) ?_ (by rw[iO] <;> omega);rw[Zkq,<-c];refine#v[.ref s.heap.objs.size,_,I.laid (t':=s.toks) (o:=.lst (xT xs lo hi)) (λb i q=>Heap.get?_push_of_some _ q) (bV _) ?_,rfl,q _ (I.bP.fresh (bV _))];exact#v[lC (Zny xs lo hi) hz,_,0,(r.drop (HT.p8 xs.length 0 lo)).take (HT.p8 xs.length xs.length hi-HT.p8 xs.length 0 lo),Heap.get?_push_size _ rfl]
def om:V->Bool
 |.non=>Ai
 |.bl _=>Ai
 |.int _=>Ai
 |.str _=>Ai
 |_=>Ah
def pK:V->V->Bool
 |.non,.non=>Ai
 |.bl a,.bl b=>a==b
 |.bl a,.int b=>(if a then 1 else 0)==b
 |.int a,.bl b=>a==(if b then 1 else 0)
 |.int a,.int b=>a==b
 |.str a,.str b=>a==b
 |_,_=>Ah
theorem T1(d:cH y u)(c:cH x v)(fy:om y=Ai)(fx:om x=Ai):SeqAt.EqAt A s u v (pK y x):=by
 cases y with
 |non=>
  cases d;cases x with
  |non=>cases c;exact SeqAt.EqAt.same _
  |bl b=>cases c;exact SeqAt.EqAt.none_bool b
  |int b=>obtain⟨t,rfl⟩:=c;exact SeqAt.EqAt.none_int b t
  |str b=>obtain⟨t,rfl⟩:=c;exact SeqAt.EqAt.none_str b t
  |_=>exact absurd (show Ah=Ai from fx) mQ
 |bl a=>
  cases d;cases x with
  |non=>cases c;exact SeqAt.EqAt.bool_none a
  |bl b=>cases c;exact SeqAt.EqAt.bool_bool a b
  |int b=>obtain⟨t,rfl⟩:=c;exact SeqAt.EqAt.bool_int a b t
  |str b=>obtain⟨t,rfl⟩:=c;exact SeqAt.EqAt.bool_str a b t
  |_=>exact absurd (show Ah=Ai from fx) mQ
 |int a=>
  obtain⟨t',rfl⟩:=d;cases x with
  |non=>cases c;exact SeqAt.EqAt.int_none a t'
  |bl b=>cases c;exact SeqAt.EqAt.int_bool a t' b
  |int b=>obtain⟨t,rfl⟩:=c;exact SeqAt.EqAt.int_int a t' b t
  |str b=>obtain⟨t,rfl⟩:=c;exact SeqAt.EqAt.int_str a t' b t
  |_=>exact absurd (show Ah=Ai from fx) mQ
 |str a=>
  obtain⟨t',rfl⟩:=d;cases x with
  |non=>cases c;exact SeqAt.EqAt.str_none a t'
  |bl b=>cases c;exact SeqAt.EqAt.str_bool a t' b
  |int b=>obtain⟨t,rfl⟩:=c;exact SeqAt.EqAt.str_int a t' b t
  |str b=>obtain⟨t,rfl⟩:=c;exact SeqAt.EqAt.str_str a t' b t
  |_=>exact absurd (show Ah=Ai from fx) mQ
 |_=>exact absurd (show Ah=Ai from fy) mQ
def xx(x:V)(u:Ac):Bool:=match u with
 |.none=>pK .non x
 |.bool b=>pK (.bl b) x
 |.int i _=>pK (.int i) x
 |.str z _=>pK (.str z) x
 |_=>Ah
theorem ZtM(r:cH y u)(f:om y=Ai):xx x u=pK y x:=by
 cases y with
 |non=>cases r;rfl
 |bl b=>cases r;rfl
 |int i=>obtain⟨t,rfl⟩:=r;rfl
 |str z=>obtain⟨t,rfl⟩:=r;rfl
 |_=>exact absurd (show Ah=Ai from f) mQ
theorem Xd:∀{xs:List V}{us:List Ac},Vals xs us->xs.all om=Ai->us.any (xx x)=xs.any λy=>pK y x
 |_,_,.nil,_=>rfl
 |y::xs,u::us,.cons r t,f=>by rw[List.all_cons,sE]at f;rw[IF,IF,ZtM r f.1,Xd t f.2]
theorem YS(c:cH x v)(fx:om x=Ai):∀{xs:List V}{us:List Ac},Vals xs us->xs.all om=Ai->∀u∈us,SeqAt.EqAt A s u v (xx x u)
 |_,_,.nil,_=>λu hu=>by cases hu
 |y::xs,u::us,.cons r t,f=>λd hu=>by
  rw[List.all_cons,sE]at f;rcases iN.mp hu with rfl|hu
  ·rw[ZtM r f.1];exact T1 r c f.1 fx
  ·exact YS c fx t f.2 d hu
def Hs(x:V)(xs:List V):Bool:=xs.any λy=>pK y x
def rIn(K:aE)(neg:Bool):R2:=λx y H Q=>∃p xs,y=.ref p/\(cB K H p xs\/gA K H p xs)/\om x=Ai/\xs.all om=Ai/\Q (.bl (if neg then !Hs x xs else Hs x xs)) H
theorem Zqz:dO X (Av .In) (rIn X.K Ah):=by
 intro c s σ H x y v u Q I d f h;obtain⟨p,xs,rfl,hq,fx,fs,q⟩:=h;cases f;rcases hq with hq|hq
 ·obtain⟨its,r,pl,hz⟩:=I.list hq;refine SeqAt.in_listAt (xx x) pl.isList (λw hw=>YS d fx r fs w (by simpa using hw)) #v[.bl _,H,I,rfl,?_];rw[show its.toArray.any (xx x)=its.any (xx x) by simp,Xd r fs];exact q
 ·obtain⟨its,r,pl,hz⟩:=I.tuple hq;refine SeqAt.in_tupleAt (xx x) pl (λw hw=>YS d fx r fs w (by simpa using hw)) #v[.bl _,H,I,rfl,?_];rw[show its.toArray.any (xx x)=its.any (xx x) by simp,Xd r fs];exact q
theorem Zmm:mR X (.builtin "len") (λxs H Q=>∃p ys,xs=[.ref p]/\(cB X.K H p ys\/gA X.K H p ys)/\Q (.int ys.length) H):=by
 intro f s σ H xs us Q I r h;obtain⟨p,ys,rfl,hq,q⟩:=h;obtain⟨u,rfl,g⟩:=sG r;cases g;have hn:=Ea;rcases hq with hq|hq
 ·obtain⟨its,d,pl,hz⟩:=I.list hq;have c:=d.length;exact Calls.call_len_list pl.isList (by simp only[iO] <;> omega) #v[.int ys.length,H,I.tok _,#v[s.toks+1,by rw[iO,c]],q]
 ·obtain⟨its,d,pl,hz⟩:=I.tuple hq;have c:=d.length;exact len_tuple pl (by simp only[iO] <;> omega) #v[.int ys.length,H,I.tok _,#v[s.toks+1,by rw[iO,c]],q]
theorem Zml:mR X (.builtin "len") (λxs H Q=>∃z,xs=[.str z]/\z.length<=sizeLine/\Q (.int z.length) H):=by intro c s σ H xs us Q I r h;obtain⟨z,rfl,hz,q⟩:=h;obtain⟨u,rfl,t,rfl⟩:=sG r;have hn:=Ea;exact len_str ⋯ #v[.int z.length,H,I.tok _,#v[_,rfl],q]
theorem Zmk:mR X (.type "list") (λxs H Q=>∃p ys,xs=[.ref p]/\(cB X.K H p ys\/gA X.K H p ys)/\∀l,H l=Ae->Q (.ref l) (upd H l (.lst ys))):=by
 intro j s σ H xs us Q I r h;obtain⟨p,ys,rfl,hq,q⟩:=h;obtain⟨u,rfl,m⟩:=sG r;cases m
 have f:∀(its:List Ac),Vals ys its->ys.length<=sizeLine->∀(h':Ax) (c:Nat),(∀b k,s.heap.get? b=Aa k->h'.get? b=Aa k) ->
   h'.get? s.heap.objs.size=Aa { cls:=.type "list",dict:=Ae,data:=.seq its.toArray c,slots:=#[] }->EP X j σ Q (.ref s.heap.objs.size) { s with heap:=h' }:=λits d hz h' c i e=>
  #v[.ref s.heap.objs.size,_,I.laid (t':=s.toks) i (bV _) (show gI X.prog X.w _ h' _ (.lst ys) from#v[hz,its,c,d,e]),rfl,q _ (I.bP.fresh (bV _))]
 rcases hq with hq|hq
 ·obtain⟨its,d,pl,hz⟩:=I.list hq;have g:=d.length;obtain⟨o,ho,hc,n,hd⟩:=pl.isList;exact call_list_seq p (.inl rfl) ho hc hd (λh' c i e=>f its d hz h' c i e) (by simp only[iO] <;> omega)
 ·obtain⟨its,d,pl,hz⟩:=I.tuple hq;have g:=d.length;obtain⟨o,ho,hc,n,hd⟩:=pl;exact call_list_seq p (.inr rfl) ho hc hd (λh' c i e=>f its d hz h' c i e) (by simp only[iO] <;> omega)
theorem Zk5:mR X (.type "tuple") (λxs H Q=>∃p ys,xs=[.ref p]/\((cB X.K H p ys/\∀l,H l=Ae->Q (.ref l) (upd H l (.tup ys)))\/(gA X.K H p ys/\Q (.ref p) H))):=by
 intro c s σ H xs us Q I r h;obtain⟨p,ys,rfl,h⟩:=h;obtain⟨u,rfl,k⟩:=sG r;cases k;rcases h with⟨hq,q⟩|⟨hq,q⟩
 ·obtain⟨its,d,pl,hz⟩:=I.list hq;have g:=d.length;refine call_tuple_list pl.isList (λh' j=>?_) (by simp only[iO] <;> omega);have f:Inv X c σ H { s with heap:=h' }:=I.kept (t':=s.toks) j
  have i:Inv X c σ (upd H h'.objs.size (.tup ys)) { s with heap:=h'.push { cls:=.type "tuple",data:=.seq its.toArray } }:=f.laid (t':=s.toks) (λb o e=>Heap.get?_push_of_some _ e) (bV _) (show gI X.prog X.w _ _ _ (.tup ys) from#v[hz,its,d,IsTup.new _ _])
  exact#v[.ref h'.objs.size,_,i,rfl,q _ (f.bP.fresh (bV _))]
 ·obtain⟨its,d,pl,hz⟩:=I.tuple hq;exact call_tuple_same pl #v[.ref p,H,I,rfl,q]
def WV(K:aE)(T:String)(x:V)(H:Hp):Prop:=match x with
 |.str _=>T = "str"
 |.int _=>T = "int"
 |.ref p=>(T = "list" /\ ∃xs,cB K H p xs)\/(T = "tuple" /\ ∃o,K.lookup p=Aa o/\o.cls=.type "tuple" /\ o.dict=Ae) \/
   (T = "dict" /\ ((∃kvs,H p=Aa (.dK kvs))\/∃kvs,H p=Aa (.dT kvs)))\/(T = "set" /\ ∃S n,H p=Aa (.set S n))
 |_=>False
theorem Ztp(I:Inv X d σ H s)(r:cH x v)(f:WV X.K T x H):
  s.TypeIs v T/\∀a,v=.ref a->∃g,s.heap.get? a=Aa g/\g.dict=Ae:=by
 cases x with
 |str z=>obtain⟨t,rfl⟩:=r;cases(show T = "str" from f);exact#v[typeIs_str s z t,λ_ e=>nomatch e]
 |int i=>obtain⟨t,rfl⟩:=r;cases(show T = "int" from f);exact#v[typeIs_int s i t,λ_ e=>nomatch e]
 |ref p=>
  cases r;rcases f with⟨rfl,xs,hq⟩|⟨rfl,o,hk,hc,hd⟩|⟨rfl,hk⟩|⟨rfl,S,n,hk⟩
  ·obtain⟨its,_,pl,_⟩:=I.list hq;refine#v[pl.isList.typeIs,λa e=>?_];cases e;obtain⟨o,n,e,c,hd,_⟩:=pl;exact#v[o,e,hd]
  ·refine#v[#v[o,I.kE p o hk,hc],λa e=>?_];cases e;exact#v[o,I.kE _ o hk,hd]
  ·have z:∃o,s.heap.get? p=Aa o/\o.ExactDict:=by
    rcases hk with⟨kvs,hk⟩|⟨kvs,hk⟩
    ·obtain⟨_,_,_,_,o,_,_,e,ex,_⟩:=I.bP p _ hk;exact#v[o,e,ex]
    ·obtain⟨_,_,_,_,o,_,_,e,ex,_⟩:=I.bP p _ hk;exact#v[o,e,ex]
   obtain⟨o,e,ex⟩:=z;refine#v[#v[o,e,ex.1],λa e2=>?_];cases e2;exact#v[o,e,ex.2.1]
  ·obtain⟨o,_,_,_,e,ex,_⟩:=I.bP p _ hk;refine#v[#v[o,e,ex.1],λa e2=>?_];cases e2;exact#v[o,e,ex.2.1]
 |_=>exact False.elim f
def wa(K:aE)(T:String)(r:V->List V->Hp->VK->Prop)(d:TE):TE:=λσ H Q=>d σ H λx c=>WV K T x c/\r x [] c Q
def uf(K:aE)(T:String)(r:V->List V->Hp->VK->Prop)(f:TE)(t:TA):TE:=λσ H Q=>f σ H λx c=>WV K T x c/\t σ c λxs d=>r x xs d Q
variable {o e:Expr}{es:List Expr}{to:TE}{t:TA}{name:Str}{apos eY:Pos}{T id:String}{r:V->List V->Hp->VK->Prop}
theorem UO(l:PlainAttrs T)(slot:Slot T name id)(g:typeOf (.builtin id)=pure (.type "method_descriptor"))(hm:Ng X id r)(ho:PE X o to)
  (d:Bg o name X.env (eval o X.env)=eval o X.env:=by rfl) (f:(apos.endLine==eY.line)=Ai:=by rfl):PE X (.Call (.Attribute o name apos) [] [] eY) (wa X.K T r to):=by
 intro c s σ H Q I h;refine wpAny_Call_method0_late d f (bY (ho c s σ H _ I h) λv n ⟨x,k,i,j,p,m⟩=>?_);obtain⟨h1,h2⟩:=Ztp i j p;exact#v[T,id,l,slot,g,h1,h2,Calls.callWith_builtin rfl (PySem.evalArgs_none (hm c n σ k x [] v [] Q i j .nil m))]
theorem u0(w:PlainAttrs T)(slot:Slot T name id)(j:typeOf (.builtin id)=pure (.type "method_descriptor"))(hm:Ng X id r)(ho:PE X o to)(ha:PA X (e::es) t)
  (f:Bg o name X.env (eval o X.env)=eval o X.env:=by rfl)
  (i:((AN eY (As (e::es) X.env)).all (λx=>!x.1)&&(Ca eY (Bw [] X.env)).all (λx=>x.1.isSome)
   && decide ((e::es).length+([]:List BX).length+(if([]:List BX).isEmpty then 0 else 1)<30))=Ai:=by rfl)
  (g:(apos.endLine==eY.line)=Ai:=by rfl) (hs:As (e::es) X.env=(Ah,eval e X.env):: As es X.env:=by rfl) (d:(AN eY (As es X.env)).any (·.1)=Ah:=by rfl):
  PE X (.Call (.Attribute o name apos) (e::es) [] eY) (uf X.K T r to t):=by
 intro c s σ H Q I h;refine wpAny_Call_method_late f i g rfl (bY (ho c s σ H _ I h) λv B ⟨x,p,k,n,D,y⟩=>?_);obtain⟨h1,h2⟩:=Ztp k n D;refine#v[T,id,w,slot,j,h1,h2,?_];have l:=ha eY c B σ p _ k y;rw[hs]at l ⊢;refine Calls.callWith_builtin (by show(Ah ||(AN eY (As es X.env)).any (·.1))=Ah;rw[d] <;> rfl) (Calls.evalArgs_plain ?_);exact bY l λus C ⟨vs,q,u,A,z⟩=>hm c C σ q x vs v us Q u n A z
/- xs.append(e),list.index on a module's tuple .. are Ng facts of 06m -/
end
def Ki(X:Cx)(id:String)(r:V->List V->Hp->VK->Prop):Prop:=
 ∀(c:List (Ad×Obj)) (s:Ag) (σ:St) (H:Hp) (x:V) (xs:List V) (v:Ac) (us:List Ac) (Q:VK),Inv X c σ H s->cH x v->Vals xs us->r x xs H Q ->
  An (model X.prog X.w) X.A (call (.builtin id) (v::us)) (EP X c σ Q) X.xe s
theorem Vals.one:∀{x:V}{us:List Ac},Vals [x] us->∃u,us=[u]/\cH x u:=by rintro _ _ (_|⟨r,_|_⟩);exact#v[_,rfl,r]
theorem Vals.two:∀{x y:V}{us:List Ac},Vals [x,y] us->∃u v,us=[u,v]/\cH x u/\cH y v:=by rintro _ _ _ (_|⟨r,_|⟨q,_|_⟩⟩);exact#v[_,_,rfl,r,q]
theorem Vals.zero:∀{us:List Ac},Vals [] us->us=[]
 |_,.nil=>rfl
theorem Vals.dropLast(h:Vals xs us):Vals xs.dropLast us.dropLast:=by
 induction h with
 |nil=>exact .nil
 |cons r t ih=>
  cases t with
  |nil=>exact .nil
  |cons q t'=>exact .cons r ih
theorem Vals.eraseIdx:∀{xs:List V}{us:List Ac} (i:Nat),Vals xs us->Vals (xs.eraseIdx i) (us.eraseIdx i)
 |_,_,_,.nil=>.nil
 |_,_,0,.cons _ t=>t
 |_,_,i+1,.cons r t=>.cons r (Vals.eraseIdx i t)
theorem Vals.reverse(h:Vals xs us):Vals xs.reverse us.reverse:=by
 induction h with
 |nil=>exact .nil
 |cons r t ih=>rw[List.reverse_cons,List.reverse_cons];exact Vals.append ih (.cons r .nil)
theorem Vals.rep(h:Vals xs us):∀k:Nat,Vals (gR k xs).flatten (gR k us).flatten
 | 0=>.nil
 |k+1=>by rw[xm,xm,Nb,Nb];exact Vals.append h (Vals.rep h k)
theorem Zpf{α:Type}(l:List α):l.eraseIdx (l.length-1)=l.dropLast:=by
 induction l with
 |nil=>rfl
 |cons a r ih=>
  cases r with
  |nil=>rfl
  |cons b r=>
   have e:(a::b::r).length-1=((b::r).length-1)+1:=by have h1:(a::b::r).length=r.length+2:=rfl;have h2:(b::r).length=r.length+1:=rfl;omega
   rw[e,List.eraseIdx_cons_succ,ih]
   all_goals rfl
theorem Zme(its:List Ac):∀(k:Nat) (c:List Ac),
  List.foldl (λd f=>d++f) c.toArray (gR k its.toArray)=(c++(gR k its).flatten).toArray
 | 0,c=>by simp
 |k+1,c=>by
  have e:c.toArray++its.toArray=(c++its).toArray:=by simp
  have e2:(c++its)++(gR k its).flatten=c++(gR (k+1) its).flatten:=by rw[xm,Nb,oJ]
  rw[<-e2,<-Zme its k (c++its),<-e,xm,zu]
theorem Inv.DG{its its':List Ac}(I:Inv X pins σ H s)(c:H l=Aa (.lst xs))
  (e:s.heap.get? l=Aa { cls:=.type "list",data:=.seq its.toArray n }) (hf:f its.toArray=its'.toArray) (hv:Vals ys its') (hz:ys.length<=sizeLine):
  Inv X pins σ (upd H l (.lst ys)) { s with heap:=s.heap.update l (Obj.mapSeq f),toks:=t' }:=by
 have q:=PySem.IsL.update e f;rw[hf]at q;refine I.write (x:=l) (e:=l) (by rw[c];exact trivial) (.inl rfl) (λd u hb hu=>(Heap.get?_update_other s.heap (Obj.mapSeq f) (Ne.symm hb)).trans hu) #v[_,q] ?_;exact#v[hz,its',_,hv,q]
theorem Inv.FU(I:Inv X pins σ H s)(hv:Vals ys its)(hz:ys.length<=sizeLine):
  Inv X pins σ (upd H s.heap.objs.size (.lst ys)) { s with heap:=s.heap.push { cls:=.type "list",data:=.seq its.toArray },toks:=t' }:=
 I.laid (λ_ _ q=>Heap.get?_push_of_some _ q) (bV _) #v[hz,its,0,hv,Heap.get?_push_size _ rfl]
theorem Inv.fresh(I:Inv X pins σ H s):H s.heap.objs.size=Ae:=I.bP.fresh (bV _)
theorem Inv.sh(I:Inv X pins σ H s)(c:H l=Aa (.lst xs)):xs.length<=sizeLine/\∃(its:List Ac) (n:Nat),Vals xs its/\xs.length=its.length/\s.heap.get? l=Aa { cls:=.type "list",data:=.seq its.toArray n }:=by obtain⟨z,its,n,r,e⟩:=I.bP l _ c;exact#v[z,its,n,r,r.length,e]
theorem ZsG(h:n<=sizeLine):Builtin.List.listTooLong n=Ah:=by unfold Builtin.List.listTooLong;exact decide_eq_false ⋯
def uR:V->List V->Hp->VK->Prop:=λx vs H Q=>∃l xs y,x=.ref l/\vs=[y]/\H l=Aa (.lst xs)/\xs.length<sizeLine/\Q .non (upd H l (.lst (xs++[y])))
theorem uG:Ki X "list.append" uR:=by intro d s σ H x vs v us Q I i g h;obtain⟨l,xs,y,rfl,rfl,c,hz,q⟩:=h;cases i;obtain⟨u,rfl,f⟩:=g.one;obtain⟨z,its,n,r,hl,e⟩:=I.sh c;refine BZ F.slot_list_append #v[_,e,rfl] F.entry_list_append (F.args_list_append_2 _ _) (PySem.list_append l its.toArray n u (by rw[iO];omega)) #v[e,?_];refine#v[.non,_,I.DG (its':=its++[u]) c e (by simp) (r.append (.cons f .nil)) ?_,rfl,q];rw[eG,rg];omega
def yf:V->List V->Hp->VK->Prop:=λx vs H Q=>∃l xs y,x=.ref l/\vs=[]/\H l=Aa (.lst xs)/\xs[xs.length-1]? = Aa y/\Q y (upd H l (.lst xs.dropLast))
theorem ZtC:Ki X "list.pop" yf:=by
 intro g s σ H x vs v us Q I k j h;obtain⟨l,xs,y,rfl,rfl,f,hy,q⟩:=h;cases k;have c:=j.zero;subst c;obtain⟨z,its,n,r,hl,e⟩:=I.sh f;obtain⟨u,hu,i⟩:=r.get hy
 have d:its.toArray[its.toArray.size-1]? = Aa u:=by show its.toArray[its.length-1]? = Aa u;rw[<-mi,<-hl];exact hu
 refine BZ F.slot_list_pop #v[_,e,rfl] F.entry_list_pop (F.args_list_pop_1 _) (MeetsSeq.list_pop_last l its.toArray n u d (by rw[iO];omega)) #v[e,?_];refine#v[y,_,I.DG (its':=its.dropLast) f e ?_ r.dropLast ?_,i,q]
 ·show its.toArray.eraseIdxIfInBounds (its.toArray.size-1)=its.dropLast.toArray;rw[iO,List.eraseIdxIfInBounds_toArray,Zpf]
 ·rw[List.length_dropLast];omega
def Xp:V->List V->Hp->VK->Prop:=λx vs H Q=>∃l xs,x=.ref l/\vs=[]/\H l=Aa (.lst xs)/\Q .non (upd H l (.lst xs.reverse))
theorem Zo5:Ki X "list.reverse" Xp:=by intro f s σ H x vs v us Q I i g h;obtain⟨l,xs,rfl,rfl,d,q⟩:=h;cases i;have c:=g.zero;subst c;obtain⟨z,its,n,r,hl,e⟩:=I.sh d;refine BZ F.slot_list_reverse #v[_,e,rfl] F.entry_list_reverse (F.args_list_reverse_1 _) (AutoSeq1.list_reverse_list_0 l its.toArray n (by rw[iO];omega)) #v[e,?_];refine#v[.non,_,I.DG (its':=its.reverse) d e (by simp) r.reverse ?_,rfl,q];rw[zN];omega
def Ut:R2:=λx y H Q=>∃l b xs c,x=.ref l/\y=.ref b/\H l=Aa (.lst xs)/\H b=Aa (.lst c)/\xs.length+c.length<=sizeLine/\∀p,H p=Ae->Q (.ref p) (upd H p (.lst (xs++c)))
theorem C6:dO X (AD .Add) Ut:=by
 intro d s σ H x y v u Q I k m h;obtain⟨l,b,xs,w,rfl,rfl,g,f,hz,q⟩:=h;cases k;cases m;obtain⟨z,its,n,r,hl,e⟩:=I.sh g;obtain⟨t,c,p,j,i,e2⟩:=I.sh f;refine PySem.P.add_list e e2 ?_ (by rw[iO,iO];omega);have ea:its.toArray++c.toArray=(its++c).toArray:=by simp
 rw[ea];exact#v[.ref _,_,I.FU (t':=s.toks) (r.append j) (by rw[eG];omega),rfl,q _ I.fresh]
def U8:R2:=λx y H Q=>∃l k xs,x=.ref l/\y=.int k/\H l=Aa (.lst xs) /\ -(2^63)<=k/\k<2^63/\xs.length*k.toNat<=sizeLine /\
 ∀p,H p=Ae->Q (.ref p) (upd H p (.lst (gR k.toNat xs).flatten))
theorem Zu3{α:Type}(xs:List α)(k:Nat):(gR k xs).flatten.length=k*xs.length:=by
 induction k with
 |zero=>simp
 |succ k ih=>rw[xm,Nb,eG,ih,Nat.succ_mul,Nat.add_comm]
theorem D5:dO X (AD .Mult) U8:=by
 intro w s σ H x y v u Q I B C h;obtain⟨l,k,xs,rfl,rfl,A,h1,h2,hz,q⟩:=h;cases B;obtain⟨t,rfl⟩:=C;obtain⟨z,its,n,r,hl,e⟩:=I.sh A;have g:its.toArray.size*k.toNat<=sizeLine:=by rw[iO,<-hl];exact hz
 have d:¬its.toArray.size*k.toNat>(2^63-1)/8:=by
  have:(sizeLine:Nat)<=(2^63-1)/8:=by decide
  omega
 have f:¬(!Builtin.List.listFitsIndex k)=Ai:=by rw[fitsIndex_both h1 h2];exact mQ
 have c:¬Builtin.List.listTooLong (its.toArray.size*k.toNat)=Ai:=by rw[ZsG g];exact mQ
 have i:List.foldl (λj p=>j++p) #[] (gR (if its.toArray.isEmpty=Ai then 0 else k.toNat) its.toArray)=(gR k.toNat its).flatten.toArray:=by
  have f0:∀m:Nat,List.foldl (λj p=>j++p) #[] (gR m its.toArray)=(gR m its).flatten.toArray:=λm=>by have:=Zme its m [];rw[List.nil_append]at this;exact this
  rw[f0];cases its with
  |nil=>simp
  |cons a E=>rw[if_neg (by simp)]
 refine wpAny_binaryOp_repeat_ref (T:="list") (U:="int") (by decide) #v[_,e,rfl] (λD=>typeIs_int D k t) noFill_list_mul F.fills_int_mul F.slot_int_rmul repeat_list F.slot_int_index.lookup
  (BZ F.slot_int_rmul (typeIs_int s k t) F.entry_int_rmul (F.args_int_rmul_2 _ _) (int___rmul___int_list k t l its.toArray n)
   #v[e,rfl,#v[_,e,rfl],BZ F.slot_list_mul #v[_,e,rfl] F.entry_list_mul (F.args_list_mul_2 _ _) (AutoListH.list___mul___list_int_3 l its.toArray n k t f d c) #v[e,?_]])
 rw[i];exact#v[.ref _,_,I.FU (t':=s.toks) (r.rep k.toNat) (by rw[Zu3,Nat.mul_comm];exact hz),rfl,q _ I.fresh]
section
variable [DecidableEq κ]
def bQ(kvs:List (κ×V))(k:κ):Option V:=(kvs.find? λc=>decide (c.1=k)).map (·.2)
def eD(kvs:List (κ×V))(k:κ)(v:V):List (κ×V):=if(kvs.any λc=>decide (c.1=k))=Ai then kvs.map (λc=>if c.1=k then(c.1,v) else c) else kvs++[(k,v)]
def Fb(kvs:List (κ×V))(k:κ):List (κ×V):=kvs.filter λc=>decide (c.1≠k)
theorem rn{p:κ×V}{r:List (κ×V)}{k:κ}(e:p.1=k):bQ (p::r) k=Aa p.2:=by simp[bQ,HP,e]
theorem rx{p:κ×V}{r:List (κ×V)}{k:κ}(e:¬p.1=k):bQ (p::r) k=bQ r k:=by simp[bQ,HP,e]
theorem Jr(k:κ):∀kvs:List (κ×V),(kvs.any λc=>decide (c.1=k))=(bQ kvs k).isSome
 |[]=>rfl
 |p::r=>by
  rw[IF];by_cases e:p.1=k
  ·simp only[rn e,decide_eq_true e,Bool.true_or,Option.isSome_some]
  ·rw[rx e,decide_eq_false e,Vk];exact Jr k r
theorem ZnM(k j:κ)(y:V):∀kvs:List (κ×V),bQ (kvs.map λc=>if c.1=k then(c.1,y) else c) j=(bQ kvs j).map λx=>if j=k then y else x
 |[]=>rfl
 |p::r=>by
  have ih:=ZnM k j y r;rw[jF];by_cases h:p.1=k
  ·rw[if_pos h];by_cases e:p.1=j
   ·rw[rn (p:=(p.1,y)) e,rn e,Option.map_some,if_pos (e.symm.trans h)]
   ·rw[rx (p:=(p.1,y)) e,rx e,ih]
  ·rw[if_neg h];by_cases e:p.1=j
   ·rw[rn (p:=p) e,rn e,Option.map_some,if_neg (λz=>h (e.trans z))]
   ·rw[rx (p:=p) e,rx e,ih]
theorem Zli(k j:κ)(y:V):∀kvs:List (κ×V),bQ kvs k=Ae->bQ (kvs++[(k,y)]) j=if j=k then Aa y else bQ kvs j
 |[],_=>by
  by_cases e:k=j
  ·rw[if_pos e.symm];exact rn (p:=(k,y)) e
  ·rw[if_neg (λz=>e z.symm)];exact rx (p:=(k,y)) e
 |p::r,hn=>by
  rw[List.cons_append];have hk:¬p.1=k:=λz=>by rw[rn z]at hn;cases hn
  rw[rx hk]at hn;have ih:=Zli k j y r hn;by_cases e:p.1=j
  ·rw[rn e,rn e,if_neg (λz=>hk (e.trans z))]
  ·rw[rx e,rx e,ih]
theorem rf(kvs:List (κ×V))(k j:κ)(y:V):bQ (eD kvs k y) j=if j=k then Aa y else bQ kvs j:=by
 unfold eD;by_cases a:(kvs.any λc=>decide (c.1=k))=Ai
 ·rw[if_pos a,ZnM];rw[Jr]at a;by_cases e:j=k
  ·obtain⟨x,hx⟩:=Option.isSome_iff_exists.mp a;rw[if_pos e,e,hx,Option.map_some,if_pos rfl]
  ·rw[if_neg e];cases bQ kvs j with
   |none=>rfl
   |some x=>rw[Option.map_some,if_neg e]
 ·rw[if_neg a];refine Zli k j y kvs ?_;rw[Jr]at a;cases q:bQ kvs k with
  |none=>rfl
  |some x=>rw[q]at a;exact(a rfl).elim
theorem Vb(kvs:List (κ×V))(k:κ)(v:V):(eD kvs k v).length<=kvs.length+1:=by
 unfold eD;split
 ·rw[aQ];omega
 ·rw[eG,lG,rA];omega
theorem pR.gP(r:pR o u):o.isSome=u.isSome:=by
 cases o with
 |none=>cases u with
  |none=>rfl
  |some _=>exact(show False from r).elim
 |some _=>cases u with
  |none=>exact(show False from r).elim
  |some _=>rfl
theorem pR.getD(r:pR o u)(c:cH d d'):cH (o.getD d) (u.getD d'):=by
 cases o with
 |none=>cases u with
  |none=>exact c
  |some _=>exact(show False from r).elim
 |some _=>cases u with
  |none=>exact(show False from r).elim
  |some _=>exact r
theorem KV.val{vs:List (κ×Ac)}(r:KV kvs vs)(k:κ):pR (bQ kvs k) (B0 vs k):=by
 unfold KV at r
 induction r with
 |nil=>exact True.intro
 | @cons p q f d h t ih=>
  obtain⟨h1,h2⟩:=h;by_cases e:p.1=k
  ·have c:q.1=k:=h1.symm.trans e;have b:B0 (q::d) k=Aa q.2:=by simp[B0,HP,c]
   rw[rn e,b];exact h2
  ·have c:¬q.1=k:=λz=>e (h1.trans z);have b:B0 (q::d) k=B0 d k:=by simp[B0,HP,c]
   rw[rx e,b];exact ih
theorem KV.any{vs:List (κ×Ac)}(r:KV kvs vs)(k:κ):(kvs.any λc=>decide (c.1=k))=vs.any λc=>decide (c.1=k):=by
 unfold KV at r
 induction r with
 |nil=>rfl
 |cons h t ih=>rw[IF,IF,ih,h.1]
theorem KV.CU{vs:List (κ×Ac)}(r:KV kvs vs)(k:κ)(d:cH y u):
  KV (kvs.map λc=>if c.1=k then(c.1,y) else c) (vs.map λc=>if c.1=k then(c.1,u) else c):=by
 unfold KV at r ⊢
 induction r with
 |nil=>exact .nil
 | @cons p q f g h t ih=>
  rw[jF,jF];refine .cons ?_ ih;obtain⟨h1,h2⟩:=h;by_cases e:p.1=k
  ·rw[if_pos e,if_pos (h1.symm.trans e)];exact#v[h1,d]
  ·rw[if_neg e,if_neg (λz=>e (h1.trans z))];exact#v[h1,h2]
theorem KV.put{vs:List (κ×Ac)}(r:KV kvs vs)(k:κ)(c:cH y u):KV (eD kvs k y) (stored vs k u):=by
 unfold eD stored;rw[r.any k];by_cases e:(vs.any λd=>decide (d.1=k))=Ai
 ·rw[if_pos e,if_pos e];exact r.CU k c
 ·rw[if_neg e,if_neg e];exact Paired.snoc r #v[rfl,c]
theorem KV.drop{vs:List (κ×Ac)}(r:KV kvs vs)(k:κ):KV (Fb kvs k) (without vs k):=by
 unfold KV at r ⊢;unfold Fb without
 induction r with
 |nil=>exact .nil
 | @cons p q d f h t ih=>
  obtain⟨h1,h2⟩:=h;rw[uX,uX];by_cases e:p.1=k
  ·have a:¬decide (p.1≠k)=Ai:=by simp[e]
   have b:¬decide (q.1≠k)=Ai:=by simp[h1.symm.trans e]
   rw[if_neg a,if_neg b];exact ih
  ·have c:¬q.1=k:=λz=>e (h1.trans z);have a:decide (p.1≠k)=Ai:=by simp[e]
   have b:decide (q.1≠k)=Ai:=by simp[c]
   rw[if_pos a,if_pos b];exact .cons #v[h1,h2] ih
theorem KV.length{vs:List (κ×Ac)}(r:KV kvs vs):kvs.length=vs.length:=Paired.length r
theorem Zs3(kvs:List (κ×V))(k:κ):(Fb kvs k).length<=kvs.length:=xf _ _
end
theorem yq(r:cH (kV k) u):(lP P w).is k u=Ai:=by
 cases k with
 |inl i=>obtain⟨t,e⟩:=(show∃t,u=Value.int i t from r);subst e;exact Znj P w i t
 |inr x=>obtain⟨t,e⟩:=(show∃t,u=Value.str x t from r);subst e;exact Zni P w x t
theorem Zl8:∀{ks:List Key}{us:List Ac},Vals (ks.map kV) us->ItemsAre (lP P w) ks us
 |[],_,r=>by rw[yB]at r;cases r;exact .nil
 |k::ks,_,r=>by
  rw[jF]at r;cases r with
  |cons h t=>exact .cons (yq h) (Zl8 t)
abbrev KT(H:Hp):List (List Key×V)->List (List Key×Ad×Ac)->Prop:=Paired λp q=>p.1=q.1/\H q.2.1=Aa (.tup (p.1.map kV))/\cH p.2 q.2.2
theorem KT.val(r:KT H kvs xs)(k:List Key):pR (bQ kvs k) ((atKey xs k).map (·.2)):=by
 induction r with
 |nil=>exact True.intro
 | @cons p q f d h t ih=>
  obtain⟨h1,_,h2⟩:=h;by_cases e:p.1=k
  ·have c:q.1=k:=h1.symm.trans e;have b:atKey (q::d) k=Aa q.2:=by simp[atKey,HP,c]
   rw[rn e,b];exact h2
  ·have c:¬q.1=k:=λz=>e (h1.trans z);have b:atKey (q::d) k=atKey d k:=by simp[atKey,HP,c]
   rw[rx e,b];exact ih
theorem KT.CU(r:KT H kvs xs)(k:List Key)(d:cH y u):
  KT H (kvs.map λc=>if c.1=k then(c.1,y) else c) (xs.map (putAt k u)):=by
 induction r with
 |nil=>exact .nil
 | @cons p q f g h t ih=>
  rw[jF,jF];refine .cons ?_ ih;obtain⟨h1,h2,h3⟩:=h;unfold putAt;by_cases e:p.1=k
  ·rw[if_pos e,if_pos (h1.symm.trans e)];exact#v[h1,h2,d]
  ·rw[if_neg e,if_neg (λz=>e (h1.trans z))];exact#v[h1,h2,h3]
theorem KT.put(r:KT H kvs xs)(k:List Key)(hb:H b=Aa (.tup (k.map kV)))(c:cH y u):
  KT H (eD kvs k y) (storedH xs k b u):=by
 have e:(kvs.any λd=>decide (d.1=k))=(atKey xs k).isSome:=by rw[Jr,(r.val k).gP,Option.isSome_map]
 unfold eD storedH;rw[e];by_cases q:(atKey xs k).isSome=Ai
 ·rw[if_pos q,if_pos q];exact r.CU k c
 ·rw[if_neg q,if_neg q];exact Paired.snoc r #v[rfl,hb,c]
theorem KT.keeps(r:KT H kvs xs)(ht:∀b ys,H b=Aa (.tup ys)->c b=Aa (.tup ys)):KT c kvs xs:=Paired.CW r λ_ _ z=>#v[z.1,ht _ _ z.2,z.3]
theorem SU(ok:jU P w H h)(e:Rd H a u):gI P w H h a u:=e.ok ok
theorem wU(ok:jU P w H h)(e:Rd H a (.dK kvs)):kvs.length<=sizeLine/\(a==AI)=Ah/\∃vs,KV kvs vs/\h.DictOf (lP P w) a vs:=show gI P w H h a (.dK kvs) from SU ok e
theorem Rr(ok:jU P w H h)(e:H a=Aa (.dK kvs)):kvs.length<=sizeLine/\(a==AI)=Ah/\∃vs,KV kvs vs/\h.DictOf (lP P w) a vs:=wU ok (.inl e)
theorem Qr(ok:jU P w H h)(e:H a=Aa (.tup (ks.map kV))):(BO (lP P w)).is h ks a:=by obtain⟨_,its,r,o,h1,h2,n,h3⟩:=(show gI P w H h a (.tup (ks.map kV)) from ok a _ e);exact#v[o,its.toArray,n,h1,h2,h3,by simpa using Zl8 r]
theorem Je(ok:jU P w H h)(e:Rd H a (.dT kvs)):kvs.length<=sizeLine/\(a==AI)=Ah /\
  ∃xs,KT H kvs xs/\h.DictOfH (BO (lP P w)) a xs:=by
 obtain⟨z,y,xs,r,o,es,ep,h1,h2,h3,h4,h5⟩:=(show gI P w H h a (.dT kvs) from SU ok e);refine#v[z,y,xs,r,o,es,ep,h1,h2,h3,h4,λx hx=>?_,h5]
 have c:∀{l:List (List Key×V)}{m:List (List Key×Ad×Ac)},KT H l m->∀x∈m,(BO (lP P w)).is h x.1 x.2.1:=by
  intro l m q
  induction q with
  |nil=>intro x hx;exact nomatch hx
  | @cons p q d f hq t ih=>
   intro x hx;rcases iN.mp hx with e|hx
   ·subst e;exact Qr ok (by rw[<-hq.1];exact hq.2)
   ·exact ih x hx
 exact c r x hx
theorem J7(ok:jU P w H h)(e:H a=Aa (.dT kvs)):kvs.length<=sizeLine/\(a==AI)=Ah /\
  ∃xs,KT H kvs xs/\h.DictOfH (BO (lP P w)) a xs:=Je ok (.inl e)
def gS(H:Hp)(a:Ad)(y:V)(r:Option V):Prop:=(∃kvs k,Rd H a (.dK kvs)/\y=kV k/\r=bQ kvs k)\/∃kvs k b,Rd H a (.dT kvs)/\y=.ref b/\H b=Aa (.tup (k.map kV))/\r=bQ kvs k
def ry(H:Hp)(a:Ad)(y v:V)(c:Hp):Prop:=
 (∃kvs k,H a=Aa (.dK kvs)/\y=kV k/\kvs.length<sizeLine/\c=upd H a (.dK (eD kvs k v))) \/
 ∃kvs k b,H a=Aa (.dT kvs)/\y=.ref b/\H b=Aa (.tup (k.map kV))/\kvs.length<sizeLine/\c=upd H a (.dT (eD kvs k v))
theorem gS.k{k:Key}(e:H a=Aa (.dK kvs)):gS H a (kV k) (bQ kvs k):=.inl #v[kvs,k,.inl e,rfl,rfl]
theorem gS.t{k:List Key}(e:H a=Aa (.dT kvs))(eb:H b=Aa (.tup (k.map kV))):gS H a (.ref b) (bQ kvs k):=.inr #v[kvs,k,b,.inl e,rfl,eb,rfl]
theorem ry.k{k:Key}(e:H a=Aa (.dK kvs))(hl:kvs.length<sizeLine):ry H a (kV k) v (upd H a (.dK (eD kvs k v))):=.inl #v[kvs,k,e,rfl,hl,rfl]
theorem ry.t{k:List Key}(e:H a=Aa (.dT kvs))(eb:H b=Aa (.tup (k.map kV)))(hl:kvs.length<sizeLine):
  ry H a (.ref b) v (upd H a (.dT (eD kvs k v))):=.inr #v[kvs,k,b,e,rfl,eb,hl,rfl]
theorem Inv.big(I:Inv X pins σ H s):AI<s.heap.objs.size:=by have h:Ap<s.heap.objs.size:=(I.mod.glob.keeps I.bk).lt;exact Nat.lt_trans (by decide) h
theorem Zro{Q:Ac->Ag->Prop}(hu:A.units+1<Bs)(I:Inv X pins σ H s)(g:gS H a y (Aa v))(j:cH y u)(h:∀f m,Inv X pins σ H m->cH v f->Q f m):
  An (model X.prog X.w) A (Cv (.ref a) u) Q E s:=by
 rcases g with⟨kvs,k,e,ey,l⟩|⟨kvs,k,b,e,ey,eb,l⟩
 ·subst ey;obtain⟨z,hd,vs,c,dd⟩:=wU I.bP e;obtain⟨f,hw,d⟩:=pR.some_of (v:=v) (o:=B0 vs k) (by rw[l];exact c.val k);exact wpAny_getItem_of (yq j) dd.mapOf hw (h f _ (I.tok _) d)
 ·subst ey;cases(show u=Value.ref b from j);obtain⟨z,hd,xs,c,dd⟩:=Je I.bP e;obtain⟨f,hw,d⟩:=pR.some_of (v:=v) (o:=(atKey xs k).map (·.2)) (by rw[l];exact c.val k);obtain⟨p,hp,i⟩:=Option.map_eq_some_iff.mp hw;refine wpAny_getItem_heap (Bi hu) (Qr I.bP eb) dd hp ?_;rw[i];exact h f _ (I.tok _) d
theorem Va{Q:Ac->Ag->Prop}(hu:A.units+1<Bs)(I:Inv X pins σ H s)(g:gS H a y o)(d:cH y u)(h:∀f,Inv X pins σ H f->Q (.bool o.isSome) f):
  An (model X.prog X.w) A (Av .In u (.ref a)) Q E s:=by
 rcases g with⟨kvs,k,e,ey,l⟩|⟨kvs,k,b,e,ey,eb,l⟩
 ·subst ey;obtain⟨z,hd,vs,c,dd⟩:=wU I.bP e;refine wpAny_in_of (yq d) hd dd.mapOf ?_;rw[<-(c.val k).gP,<-l];exact h _ (I.tok _)
 ·subst ey;cases(show u=Value.ref b from d);obtain⟨z,hd,xs,c,dd⟩:=Je I.bP e;refine wpAny_in_heap (Bi hu) (Qr I.bP eb) hd dd ?_;have q:=(c.val k).gP;rw[Option.isSome_map]at q;rw[<-q,<-l];exact h _ (I.tok _)
theorem Zvi{Q:Ac->Ag->Prop}(hu:A.units+1<Bs)(I:Inv X pins σ H s)(g:gS H a y o)(d:cH y u)(h:∀f,Inv X pins σ H f->Q (.bool (!o.isSome)) f):
  An (model X.prog X.w) A (Av .NotIn u (.ref a)) Q E s:=by
 rcases g with⟨kvs,k,e,ey,l⟩|⟨kvs,k,b,e,ey,eb,l⟩
 ·subst ey;obtain⟨z,hd,vs,c,dd⟩:=wU I.bP e;refine wpAny_notIn_of (yq d) hd dd.mapOf ?_;rw[<-(c.val k).gP,<-l];exact h _ (I.tok _)
 ·subst ey;cases(show u=Value.ref b from d);obtain⟨z,hd,xs,c,dd⟩:=Je I.bP e;refine wpAny_notIn_heap (Bi hu) (Qr I.bP eb) hd dd ?_;have q:=(c.val k).gP;rw[Option.isSome_map]at q;rw[<-q,<-l];exact h _ (I.tok _)
theorem Sq(I:Inv X pins σ H s)(f:Ny (H a))(hs:Heap.SameBut a s.heap h')(he:∃q,h'.get? a=Aa q)(c:gI X.prog X.w (upd H a d) h' a d):
  Inv X pins σ (upd H a d) { s with heap:=h',toks:=t' }:=
 I.write (x:=a) (e:=a) f (.inl rfl) (λb q hb z=>(hs.2 b hb).trans z) he c
theorem JX{vs:List (Key×Ac)}(z:kvs.length<=sizeLine)(hd:(a==AI)=Ah)(c:KV kvs vs)(dd:h'.DictOf (lP P w) a vs):
  gI P w d h' a (.dK kvs):=#v[z,hd,vs,c,dd]
theorem Zrn{Q:Unit->Ag->Prop}(hu:A.units+1<Bs)(I:Inv X pins σ H s)(g:ry H a y v j)(n:cH y u)(m:cH v r)(h:∀p,Inv X pins σ j p->Q () p):
  An (model X.prog X.w) A (setItem (.ref a) u r) Q E s:=by
 rcases g with⟨kvs,k,e,ey,l,i⟩|⟨kvs,k,b,e,ey,eb,l,i⟩
 ·subst ey i;obtain⟨z,hd,vs,d,dd⟩:=Rr I.bP e;have hz:vs.length<=sizeLine:=by rw[<-d.length];exact z
  have hl:(eD kvs k v).length<=sizeLine:=by have:=Vb kvs k v;omega
  refine wpAny_setItem_pairs (hsz:=hz) (yq n) dd λh' f hs=>h _ ?_;have he:∃q,h'.get? a=Aa q:=let ⟨q,_,_,hq,_⟩:=f;#v[q,hq];exact Sq I (by rw[e];exact True.intro) hs he (JX hl hd (d.put k m) f)
 ·subst ey i;cases(show u=Value.ref b from n);obtain⟨z,hd,xs,d,dd⟩:=J7 I.bP e;have hz:xs.length<=sizeLine:=by rw[<-Paired.length d];exact z
  have hl:(eD kvs k v).length<=sizeLine:=by have:=Vb kvs k v;omega
  refine wpAny_setItem_heap (hsz:=hz) (Bi hu) (Qr I.bP eb) dd λh' f hs=>h _ ?_;obtain⟨q,es,ep,hq,h2,h3,h4,_,h5⟩:=f;refine Sq I (by rw[e];exact True.intro) hs #v[q,hq] #v[hl,hd,_,(d.put k eb m).keeps λc ys ec=>?_,q,es,ep,hq,h2,h3,h4,h5];rw[bE (fS ec e (λz=>nomatch z))];exact ec
theorem Lj{Q:Ac->Ag->Prop}(I:Inv X pins σ H s)(e:H a=Aa (.dK kvs))(m:cH (kV k) u)(l:bQ kvs k=Aa v)(hm:c=[]\/∃x,c=[x])
  (h:∀g n,Inv X pins σ (upd H a (.dK (Fb kvs k))) n->cH v g->Q g n):An (model X.prog X.w) A (call (.builtin "dict.pop") (.ref a::u::c)) Q E s:=by
 obtain⟨z,hd,vs,d,dd⟩:=Rr I.bP e;obtain⟨g,hw,j⟩:=pR.some_of (v:=v) (o:=B0 vs k) (by rw[<-l];exact d.val k)
 have hp:(keyPart u).isSome=Ai:=by
  cases k with
  |inl i=>obtain⟨t,q⟩:=(show∃t,u=Value.int i t from m);subst q;rfl
  |inr x=>obtain⟨t,q⟩:=(show∃t,u=Value.str x t from m);subst q;rfl
 have ha:argsOk "dict.pop" #v[.ref a::u::c,[]]:=by
  rcases hm with q|⟨x,q⟩
  ·subst q;exact PySem.F.args_dict_pop_2 _ _
  ·subst q;exact PySem.F.args_dict_pop_3 _ _ _
 refine call_meetsIn Zwe dd.typeIs PySem.F.entry_dict_pop ha (meets_dict_pop_there (lP X.prog X.w) a (yq m) c hm hp)
  #v[vs,g,dd,by rw[<-d.length];exact z,hw,λh' f hs=>h g _ ?_ j]
 have he:∃q,h'.get? a=Aa q:=let ⟨q,_,_,hq,_⟩:=f;#v[q,hq];exact Sq I (by rw[e];exact True.intro) hs he (JX (lC (Zs3 kvs k) z) hd (d.drop k) f)
theorem KJ{Q:Ac->Ag->Prop}(I:Inv X pins σ H s)(e:Rd H a (.dK kvs))(h:∀t d,Inv X pins σ H d->Q (.int kvs.length t) d):An (model X.prog X.w) A (call (.builtin "len") [.ref a]) Q E s:=by obtain⟨z,hd,vs,c,dd⟩:=wU I.bP e;refine call_len_dict hd dd (by rw[<-c.length];rw[A2]at z;omega) ?_;rw[<-c.length];exact h _ _ (I.tok _)
def Mx(i:Expr):Prop:=∀c iv,subscripted i Ah c iv=operate [c,iv] (Cv c iv)
theorem Zux{prog:Al}{env:Env}{pos:Pos}{T id:String}{Q:Ac->Ag->Prop}
  (hl:Bt (.type T) "__getitem__" = pure (Aa (.builtin id))) (hs:Mx c)
  (h:An (model prog w) A (eval d env) (λo l=>An (model prog w) A (eval c env) (λi g=>g.TypeIs o T/\An (model prog w) A (Cv o i) Q E g) E l) E s):
  An (model prog w) A (eval (.Subscript d c pos) env) Q E s:=by
 refine Subscript_ (AF h (λo l n=>AF n (λi g j=>?_) λ_ _ x=>x) λ_ _ x=>x);obtain⟨k,j⟩:=j;unfold Co;refine Af ?_;rw[getitemInPython_of_ne k.not_modules];refine Af (wpAny_specialOf k hl ?_)
 have f:An (model prog w) A (subscripted c Ah o i) (λr m=>An (model prog w) A (letTemporaryGo d o r >>= λ_=>pure r) Q E m) E g:=by rw[hs o i];exact wpAny_operating (AF j (λr m p=>Af (wpAny_letTemporaryGo (Aj p))) λ_ _ x=>x)
 first
  |exact Aj (Af f)
  |exact Af (Aj (Af f))
  |exact Af f
theorem Znw(I:Inv X c σ H s)(g:gS H a y o):s.TypeIs (.ref a) "dict":=by
 rcases g with⟨kvs,k,e,_,_⟩|⟨kvs,k,b,e,_,_,_⟩
 ·obtain⟨_,_,vs,_,dd⟩:=wU I.bP e;exact dd.typeIs
 ·obtain⟨_,_,xs,_,dd⟩:=Je I.bP e;exact dd.typeIs
def qV(f g:TE):TE:=λσ H Q=>f σ H λx d=>g σ d λy c=>∃a v,x=.ref a/\gS c a y (Aa v)/\Q v c
def wP(g f:TE):TE:=λσ H Q=>g σ H λy d=>f σ d λx c=>∃a o,x=.ref a/\gS c a y o/\Q (.bl o.isSome) c
def uU(g f:TE):TE:=λσ H Q=>g σ H λy d=>f σ d λx c=>∃a o,x=.ref a/\gS c a y o/\Q (.bl (!o.isSome)) c
def rF(h j i:TE):TS:=λD σ H=>i σ H λv d=>h σ d λx f=>j σ f λy g=>∃a c,x=.ref a/\ry g a y v c/\D.nx σ c
theorem sT(hu:X.A.units+1<Bs)(ho:PE X o td)(hi:PE X i ty)(hs:Mx i):PE X (.Subscript o i pos) (qV td ty):=by intro c s σ H Q I h;refine Zux PySem.F.slot_dict_getitem.lookup hs (bY (ho c s σ H _ I h) λu t ⟨x,j,l,q,n⟩=>bY (hi c t σ j _ l n) λiv w ⟨y,k,f,r,a,v,ex,g,p⟩=>?_);subst ex;obtain rfl:u=Value.ref a:=q;exact#v[Znw f g,Zro hu f g r λB z m d=>#v[v,k,m,d,p]]
theorem G2(hu:X.A.units+1<Bs)(hi:PE X i ty)(ho:PE X o td):PC X .In i o (wP ty td):=by intro c s σ H Q I h;refine bY (hi c s σ H _ I h) λiv t ⟨y,d,j,r,n⟩=>bY (ho c t σ d _ j n) λu v ⟨x,f,k,q,a,m,ex,g,p⟩=>?_;subst ex;obtain rfl:u=Value.ref a:=q;exact Va hu k g r λw l=>#v[.bl m.isSome,f,l,rfl,p]
theorem wF(hu:X.A.units+1<Bs)(hi:PE X i ty)(ho:PE X o td):PC X .NotIn i o (uU ty td):=by intro c s σ H Q I h;refine bY (hi c s σ H _ I h) λiv t ⟨y,d,j,r,n⟩=>bY (ho c t σ d _ j n) λu v ⟨x,f,k,q,a,m,ex,g,p⟩=>?_;subst ex;obtain rfl:u=Value.ref a:=q;exact Zvi hu k g r λw l=>#v[.bl (!m.isSome),f,l,rfl,p]
theorem tj(hu:X.A.units+1<Bs)(ho:PE X o td)(hi:PE X i ty)(hv:PE X value tv)(hs:Ci value (Aa (.Subscript o i pos')) pos.line X.env=pure Ah):
  PS X (.Assign [.Subscript o i pos'] value pos) (rF td ty tv):=by
 intro c s σ H D I h;refine wpAny_Assign_Subscript (bY (hv c s σ H _ I h) λr C ⟨v,d,k,w,p⟩=>bY (ho c C σ d _ k p) λu E ⟨x,f,l,z,q⟩=>bY (hi c E σ f _ l q) λiv J ⟨y,G,m,B,a,j,ex,g,t⟩=>?_) hs;subst ex;obtain rfl:u=Value.ref a:=z;exact Zrn hu m g B w λK n=>#v[σ,j,n,t]
theorem Zs5(h:Ax)(hb:AI<h.objs.size):gI P w H (h.push { cls:=.type "dict",data:=.dict #[] }) h.objs.size (.dK []):=#v[rE _,beq_eq_false_iff_ne.mpr (Ne.symm (gW hb)),[],.nil,Heap.DictOf.new h]
theorem Zs1(h:Ax)(hb:AI<h.objs.size):gI P w H (h.push { cls:=.type "dict",data:=.dict #[] }) h.objs.size (.dT []):=#v[rE _,beq_eq_false_iff_ne.mpr (Ne.symm (gW hb)),[],.nil,_,#[],0,Heap.get?_push_size _ rfl,#v[rfl,rfl,rfl],rfl,rfl,IA]
def vR:TE:=λ_ H Q=>∀p,H p=Ae->Q (.ref p) (upd H p (.dK []))
def RA:TE:=λ_ H Q=>∀p,H p=Ae->Q (.ref p) (upd H p (.dT []))
theorem zd:PE X (.Dict [] [] pos) vR:=λc s σ H Q I h=>wpAny_Dict_empty #v[.ref s.heap.objs.size,_,I.laid (a:=s.heap.objs.size) (o:=.dK []) (t':=s.toks) (λ_ _ q=>Heap.get?_push_of_some _ q) (bV _) (Zs5 s.heap I.big),rfl,h _ (I.bP.fresh (bV _))]
theorem Zsz:PE X (.Dict [] [] pos) RA:=λc s σ H Q I h=>wpAny_Dict_empty #v[.ref s.heap.objs.size,_,I.laid (a:=s.heap.objs.size) (o:=.dT []) (t':=s.toks) (λ_ _ q=>Heap.get?_push_of_some _ q) (bV _) (Zs1 s.heap I.big),rfl,h _ (I.bP.fresh (bV _))]
def ZP:List (TE×TE)->St->Hp->(List (V×V)->Hp->Prop)->Prop
 |[],_,H,Q=>Q [] H
 |(h,tv):: r,σ,H,Q=>h σ H λx c=>tv σ c λy d=>ZP r σ d λg f=>Q ((x,y):: g) f
abbrev VV:List (V×V)->List (Ac×Ac)->Prop:=Paired λp q=>cH p.1 q.1/\cH p.2 q.2
def PPs(X:Cx)(pos:Pos)(f:List (Option Expr))(c:List Expr)(g:List (TE×TE)):Prop:=
 ∀(d:List (Ad×Obj)) (s:Ag) (σ:St) (H:Hp) (Q:List (V×V)->Hp->Prop),Inv X d σ H s->ZP g σ H Q ->
  An (model X.prog X.w) X.A (evalPairs (pairTrees f c X.env pos)) (λvs j=>∃i h,Inv X d σ h j/\VV i vs/\Q i h) X.xe s
def jQ(kvs c:List (Key×V)):List (Key×V):=c.foldl (λd f=>eD d f.1 f.2) kvs
theorem KV.merge:∀{c:List (Key×V)}{rs:List (Key×Ac)}{kvs:List (Key×V)}{vs:List (Key×Ac)},KV c rs->KV kvs vs->KV (jQ kvs c) (merged vs rs):=by
 intro c rs kvs vs r;unfold KV at r
 induction r generalizing kvs vs with
 |nil=>intro q;exact q
 | @cons p q f g h t ih=>
  intro d
  have e:KV (eD kvs p.1 p.2) (stored vs q.1 q.2):=by have:=d.put p.1 h.2;rw[<-h.1];exact this
  exact ih e
theorem IP:∀(c kvs:List (Key×V)),(jQ kvs c).length<=kvs.length+c.length
 |[],kvs=>by show kvs.length<=kvs.length+0;omega
 |p::r,kvs=>by have h1:=IP r (eD kvs p.1 p.2);have h2:=Vb kvs p.1 p.2;show(jQ (eD kvs p.1 p.2) r).length<=_;rw[lG];omega
structure M1 (X:Cx) (o:Expr) (m:Str) (apos:Pos) (e:Expr) (eY:Pos):Prop where
 base:Bg o m X.env (eval o X.env)=eval o X.env
 V8:((AN eY (As [e] X.env)).all (λx=>!x.1)&&(Ca eY (Bw [] X.env)).all (λx=>x.1.isSome)
  && decide (([e]:List Expr).length+([]:List BX).length+(if([]:List BX).isEmpty then 0 else 1)<30))=Ai
 line:(apos.endLine==eY.line)=Ai
 trees:AN eY (As [e] X.env)=[(Ah,eval e X.env)]
structure M2 (X:Cx) (o:Expr) (m:Str) (apos:Pos) (e f:Expr) (eY:Pos):Prop where
 base:Bg o m X.env (eval o X.env)=eval o X.env
 V8:((AN eY (As [e,f] X.env)).all (λx=>!x.1)&&(Ca eY (Bw [] X.env)).all (λx=>x.1.isSome)
  && decide (([e,f]:List Expr).length+([]:List BX).length+(if([]:List BX).isEmpty then 0 else 1)<30))=Ai
 line:(apos.endLine==eY.line)=Ai
 trees:AN eY (As [e,f] X.env)=[(Ah,eval e X.env),(Ah,eval f X.env)]
def W1(H:Hp)(a:Ad):Prop:=(∃kvs,Rd H a (.dK kvs))\/∃kvs,Rd H a (.dT kvs)
theorem ZtF(I:Inv X f σ H s)(d:W1 H a):
  s.TypeIs (.ref a) "dict" /\ (∀b,Value.ref a=.ref b->∃c,s.heap.get? b=Aa c/\c.dict=Ae)/\(a==AI)=Ah:=by
 rcases d with⟨kvs,e⟩|⟨kvs,e⟩
 ·obtain⟨_,hd,vs,_,dd⟩:=wU I.bP e;refine#v[dd.typeIs,λb q=>?_,hd];cases q;obtain⟨c,_,_,h1,h2,_⟩:=dd;exact#v[c,h1,h2.2.1]
 ·obtain⟨_,hd,xs,_,dd⟩:=Je I.bP e;refine#v[dd.typeIs,λb q=>?_,hd];cases q;obtain⟨c,_,_,h1,h2,_⟩:=dd;exact#v[c,h1,h2.2.1]
def S5(f g:TE):TE:=λσ H Q=>f σ H λx c=>∃a,x=.ref a/\W1 c a/\g σ c λy d=>∃kvs k v,d a=Aa (.dK kvs)/\y=kV k/\bQ kvs k=Aa v/\Q v (upd d a (.dK (Fb kvs k)))
theorem Zsy(ho:PE X o td)(he:PE X e ty)(m:M1 X o "pop" apos e eY):PE X (.Call (.Attribute o "pop" apos) [e] [] eY) (S5 td ty):=by intro c s σ H Q I h;refine wpAny_Call_method m.base m.V8 m.line Zwf Zwe PySem.F.type_dict_pop (bY (ho c s σ H _ I h) λu z ⟨x,j,i,t,a,ex,d,q⟩=>?_);subst ex;obtain rfl:u=Value.ref a:=t;obtain⟨A,B,_⟩:=ZtF i d;refine#v[A,B,?_];rw[m.trees];refine Calls.callWith_builtin rfl (Calls.evalArgs_plain (Calls.spliced_cons (bY (he c z σ j _ i q) λiv D ⟨y,C,n,w,kvs,k,v,ea,ey,l,r⟩=>Calls.spliced_nil ?_)));subst ey;exact Lj n ea w l (.inl rfl) λG E p g=>#v[v,_,p,g,r]
end L2
namespace Att
open PySem PySem.W PySem.Calls PyProof.Rows
theorem ZiH:∀(ns:List Int) (vs:List Ac),WellAll P h vs (ns.map WData.int)->BG vs ns:=by
 intro ns
 induction ns with
 |nil=>intro vs w;rw[yB]at w;cases w;exact .nil
 |cons n ns ih=>
  intro vs w;rw[jF]at w;cases w with
  |cons a b=>cases a;exact .cons _ _ (ih _ b)
theorem Zp1{l:OpenLaw}{n:Nat}(hn:l.most=Aa n){P:BB}{h:Ax}{args:List WData}{f:List Ac}
  (c:l.row.toRowW.claim.pre args=Ai) (k:WellAll P h f args):
  ∃a vs ns,f=[Value.ref a]/\args=[WData.list (ns.map WData.int)]/\h.get? a=Aa { cls:=.type "list",data:=.seq vs.toArray }/\BG vs ns/\ns.length<=n:=by
 have j:WShape.hasAll [] args [.list .int]=Ai:=(pre_splitW c).1;have hc:l.pre.holds [] { args:=args }=Ai:=(pre_splitW c).2;obtain⟨d,r,rfl,h1,h2⟩:=hasAllW_cons j;obtain rfl:=hasAllW_nil h2;obtain⟨xs,rfl,h3⟩:=hasW_list h1;obtain⟨ns,rfl⟩:=items_int h3
 have i:ns.length<=n:=by
  unfold OpenLaw.pre at hc
  have h4:(WTm.not (.lt (.lit (.int (n:Int))) (.len (.arg 0)))).holds [] { args:=[.list (ns.map .int)] }=Ai:=by have h4:=(holds_andW hc).1;rw[hn]at h4;exact h4
  have h5:=condW_of h4 (w_not (w_lt w_lit (w_len_list (w_arg rfl))));rw[aQ]at h5;refine Nat.le_of_not_lt λq=>?_;have m:(n:Int)<((ns.length:Nat):Int):=⋯
  first
   |(rw[decide_eq_true m]at h5;exact absurd h5 (by decide))
   |(simp at h5;omega)
 cases k with
 |cons w1 w2=>
  cases w2;cases w1 with
  |list ho g=>exact#v[_,_,ns,rfl,rfl,ho,ZiH ns _ g,i]
theorem Zqr(l:OpenLaw)(args:List WData):l.row.toRowW.claim.post args (.bool Ai) args=Ai:=
 postW_of (r:=l.row.toRowW) (X:=(Ai==Ai))
  (show WShape.has [] (.bool Ai) .bool=Ai by first|rfl|decide|simp[WShape.has,WShape.arms,WShape.armsAll])
  (show(WTm.eq .res (.lit (.bool Ai))).value [] { args:=args,res:=Aa (.bool Ai),after:=args }=Aa (.bool (Ai==Ai)) from w_eq_bool (w_res rfl) w_lit) rfl
theorem ZnH{l:OpenLaw}{n:Nat}{q:Al}{loose:List Str}{XP:(Str->Option Ac)->Ax->Prop}{YP:Au->Ax->Prop}{d:DefRec}
  (hn:l.most=Aa n) (u:d.params.defaults=[])
  (i:∀(w:Au) (s₀ c:Ag) (mg y:Str->Option Ac) (fa:Ad) (o:Obj) (z cd g:Ac) (a:Ad) (vs:List Ac) (ns:List Int),
   Ground q loose [] XP w s₀ mg y c.heap->YP w c.heap ->
   c.heap.get? fa=Aa o->o.data=.func (docDef d.name d.params d.body d.scope z cd g)->c.heap.CodeRec cd d.name->mg d.name=Aa (.ref fa) ->
   c.heap.get? a=Aa { cls:=.type "list",data:=.seq vs.toArray }->BG vs ns->ns.length<=n->c.gens=#[] ->
   AX (model l.prog w) Cj (.call (.ref fa) #v[[.ref a],[]]) (λr p=>r=.ok (.ret (.bool Ai))/\OldK c.heap p.heap/\p.os=c.os/\BE p.gens) c):
  WalkO q loose XP YP l.row.toRowW d [] (λf vs=>PySem.call f vs):=by
 intro w s₀ c mg y G Y fa o z cd g D I ho hd t A v hg args C as m B H x E;obtain rfl:D=.none:=Dflts.none A u;obtain rfl:I=.none:=Dflts.noKw A;obtain⟨a,vs,ns,rfl,rfl,k,h,j⟩:=Zp1 hn m x;refine enter_call (BF (i w s₀ c mg y fa o z cd g a vs ns G Y ho (fd_plain hd) t v k h j hg) λr p hq=>?_);obtain⟨rfl,h2,h3,h4⟩:=hq;exact#v[.inl #v[.bool Ai,.bool Ai,[],rfl,λ_=>rfl,.bool Ai,Zqr l _,λ_=>#v[Oy.nil,λ_ hm=>(nomatch hm)]],h2,h3,h4]
def ledger(h:Ax)(L d:Ad):List (Ad×Obj):=(dX h.objs.size).filterMap λa=>if a=L\/a=d then Ae else(h.get? a).map λo=>(a,o)
end Att
namespace L2
theorem UN:∀{vs:List Ac}{ns:List Int},BG vs ns->Vals (ns.map V.int) vs
 |_,_,.nil=>.nil
 |_,_,.cons n t h=>.cons #v[t,rfl] (UN h)
def Ds(H:Hp):Prop:=∀b,H b=Ae\/∃o xs,H b=Aa (.frz o (.lst xs))
theorem ZsM{P:Al}{w:Au}{K:aE}{mg M:Str->Option Ac}{CX:rM}{k:Nat}{fa a:Ad}{fd:Ao}{x:Str}{sp:Sp}{c:Ag}{vs:List Ac}{ns:List Int}
  (O:K.In c.heap) (A:c.heap.Ns Ap mg) (hb:c.heap.Ns builtinsNs M) (J:∀x:Str,x ≠ "__name__" -> M x=Bb x) (y:c.heap.NoLimit) (hg:c.gens=#[])
  (ha:c.heap.get? a=Aa { cls:=.type "list",data:=.seq vs.toArray }) (hi:BG vs ns) (hl:ns.length<=sizeLine) (hr:cQ k Cj)
  (F:∀base:Ax,K.In base->base.Ns Ap mg->a0 P w K mg base CX k fa fd [x] sp) (l:∀(s:Ag) (u:Ac),BK s fd #v[[u],[]] [(x,u)])
  (L:∀H:Hp,Ds H->cB K H a (ns.map V.int)->sp [.ref a] H (λv _=>v=.bl Ai) λ_ _ _=>False)
  (I:∀H e g,CX [] H c (λ_ _ _=>False) e g->False):
  AX (model P w) Cj (.call (.ref fa) #v[[.ref a],[]]) (λr g=>r=.ok (.ret (.bool Ai))/\OldK c.heap g.heap/\g.os=c.os/\BE g.gens) c:=by
 have S:=UN hi;have D:=hi.length
 -- from an abstract heap in which nothing but vo script may be tracked
 have j:∀H:Hp,Ds H->cB K H a (ns.map V.int)->jU P w H c.heap->(∀b,H b≠Ae->b=a)->(H a≠Ae->K.lookup a=Ae) ->
   AX (model P w) Cj (.call (.ref fa) #v[[.ref a],[]]) (λr g=>r=.ok (.ret (.bool Ai))/\OldK c.heap g.heap/\g.os=c.os/\BE g.gens) c:=by
  intro H R Y B Q U;have f:∀{b:Ad}{o:Obj},c.heap.get? b=Aa o->H b=Ae->(xC c.heap H).get? b=Aa o:=λe n=>ZsR e n
  have N:∀{b:Ad}{o:Obj}{es:Array AA}{ep:Nat},c.heap.get? b=Aa o->o.data=.dict es ep->H b=Ae:=λ{b o es ep} e d=>by
   cases q:H b with
   |none=>rfl
   |some u=>have G:b=a:=Q b (by rw[q];simp);subst G;rw[ha]at e;cases e;have d':Data.seq vs.toArray _=Data.dict es ep:=d;cases d'
  have i:∀{b:Ad}{m:Str->Option Ac},c.heap.Ns b m->(xC c.heap H).Ns b m:=λ{b m} ⟨o,es,ep,e,d,r⟩=>#v[o,es,ep,f e (N e d),d,r]
  have t:K.In (xC c.heap H):=λb o e=>f (O b o e) (by
   cases q:H b with
   |none=>rfl
   |some u=>have G:b=a:=Q b (by rw[q];simp);subst G;rw[U (by rw[q];simp)]at e;cases e)
  have X:Mod K mg (xC c.heap H):=#v[t,i A,#v[M,i hb,J],let ⟨Z,h1,h2⟩:=y;#v[Z,i h1,h2]];have e0:nt P w K mg (xC c.heap H) Cj [] c H:=#v[rfl,X,λb o e=>ZuY e,HC (Zq4 _ _),trivial,λb hb=>absurd (show b∈([]:List Ad) from hb) (by simp),B,.of_eq hg];refine BF ((F _ t (i A)).run Cj [] c H #v[[.ref a],[]] [.ref a] [.ref a] _ _ hr e0 (l c (.ref a)) (.cons rfl .nil) (L H R Y)) λr g h=>?_;cases r with
  |error e=>exact(I H e g h).elim
  |ok fl=>
   cases fl with
   |next=>exact False.elim h
   |brk=>exact False.elim h
   |cont=>exact False.elim h
   |ret u=>
    obtain⟨v,H',os,p,T,C,r',q⟩:=h;have q':v=.bl Ai:=q;subst q';obtain rfl:u=Value.bool Ai:=r';refine#v[rfl,OldK.of_keep λb o e=>?_,os,p];cases q:H b with
    |none=>exact T.keep b o e q (by intro z;exact absurd (show b∈([]:List Ad) from z) (by simp)) (by simp)
    |some u=>
     rcases R b with z|⟨ob,xs,z⟩
     ·rw[q]at z;cases z
     ·have z2:=T.kM b ob _ z;obtain⟨e1,_⟩:=B b _ z;obtain⟨e2,_⟩:=C b _ z2;rw[e]at e1;cases e1;exact e2
 cases hk:K.lookup a with
 |some o=>
  -- vo script is one of vo module's own objects
  have e:=O a o hk;rw[ha]at e;cases e;refine j (λ_=>Ae) (λ_=>.inl rfl) (.inr #v[_,vs.toArray,_,hk,rfl,rfl,rfl,by rw[iO,D];exact hl,by simpa using S]) (λb u z=>by have E:(Ae:Option HO)=Aa u:=z;cases E) (λb z=>absurd rfl z) λz=>absurd rfl z
 |none=>
  refine j (λb=>if b=a then Aa (.frz { cls:=.type "list",data:=.seq vs.toArray } (.lst (ns.map V.int))) else Ae) (λb=>?_) (.inl (.inr #v[{ cls:=.type "list",data:=.seq vs.toArray },if_pos rfl])) (λb u z=>?_) (λb z=>?_) λ_=>hk
  ·by_cases hb:b=a
   ·exact .inr #v[_,_,if_pos hb]
   ·exact .inl (if_neg hb)
  ·by_cases hb:b=a
   ·have E:=(if_pos hb).symm.trans z;cases E;subst hb;exact#v[ha,by rw[aQ];exact hl,vs,_,S,ha]
   ·have E:=(if_neg hb).symm.trans z;cases E
  ·by_cases hb:b=a
   ·exact hb
   ·exact absurd (if_neg hb) z
abbrev KOf{K:aE}{h:Ax}(_:K.In h):aE:=K
theorem Zpt{l:Ye}{n k:Nat}{q:Al}{loose:List Str}{XP:(Str->Option Ac)->Ax->Prop}{YP:Au->Ax->Prop}{d:DefRec}{K:BB->aE}{CX:Au->rM}{sp:Au->Sp}{x:Str}
  (hn:l.most=Aa n) (t:n<=sizeLine) (p:d.params.defaults=[]) (hr:cQ k Cj)
  (I:∀(w:Au) (h:Ax),YP w h->(K w.params).In h)
  (F:∀(w:Au) (mg:Str->Option Ac) (fa:Ad) (h:Ax),(K w.params).In h->h.Ns Ap mg->mg d.name=Aa (.ref fa) ->
   ∃fd:Ao,(∀(s:Ag) (u:Ac),BK s fd #v[[u],[]] [(x,u)]) /\
    ∀base:Ax,(K w.params).In base->base.Ns Ap mg->a0 l.prog w (K w.params) mg base (CX w) k fa fd [x] (sp w))
  (y:∀(w:Au) (H:Hp) (a:Ad) (ns:List Int),ns.length<=n->Ds H->cB (K w.params) H a (ns.map V.int)->sp w [.ref a] H (λv _=>v=.bl Ai) λ_ _ _=>False)
  (m:∀(w:Au) (H:Hp) (s:Ag) (e:Ac) (z:Ag),CX w [] H s (λ_ _ _=>False) e z->False):
  PySem.W.WalkO q loose XP YP l.row.toRowW d [] (λf vs=>PySem.call f vs):=by
 refine Att.ZnH hn p λw s₀ L mg M fa o N cd B a vs ns G Y ho hd J r j i c hg=>?_;have A:=I w _ Y;obtain⟨fd,hb,C⟩:=F w mg fa _ A G.T.g r;exact ZsM A G.T.g G.T.b G.T.builtins G.T.nolimit hg j i (lC c t) hr C hb (λH D E=>y w H a ns c D E) λH e z=>m w H L e z
end L2
/- THE LAST THEOREM (shape;LID,My.* are yours):
   My.bC: a structure of vo addresses that your layer names (classes,functions);My.Txt K t: a structure (Prop) of vo equations over K;
   My.txt_mk:{K}{implicit addresses ..} (e1:nsIn K Ap "law" = Aa (Aa (.ref f))) (e2:K.lookup f=Aa #v[oc,od,.func (fnOf "law" "law" params body scope dV kV doc pm an Rh ct),sl]) (e3:codeIn K Rh "law" = Ai) .. : ∃t,My.Txt K t
set_option maxHeartbeats 0 in
theorem PySem.Challenge.cw_LID_holds : PySem.Challenge.rw_LID.Holds := by
 w_on;o_law;k_head;(case hw=>w_witness2)
 k_fill
 refine L2.Zpt (l:=PySem.Challenge.rw_LID) (n:=63) (k:=40) (x:="script") (CX:=λw=>..) (sp:=λ_=>My.nu) rfl (by decide) rfl ⟨rfl,by decide,by decide⟩ (λw h Y=>PySem.W.kIn_of Y) ?F ?S ?C
 case F=>
  intro w mg fa h KX G hmg
  have T:∃t,My.Txt (L2.KOf KX) t:=by
   dsimp only[L2.KOf]                          -- K must stand as «<heap const> w.params» for k_is
   refine' My.txt_mk ?e1 ?e2 ?e3 ..
   (case e1=>PySem.W.k_is)                    -- in vo order: a name->its address->its object->its parts
   (case e2=>PySem.W.k_is)
   ..
  obtain⟨t,T⟩:=T;have e0:=hmg.symm.trans (oN KX G T.law)
  cases e0                                       -- fa is vo law's own address
  exact#v[_,λs u=>.of_eq rfl,λbase kb nb=>My.law_fn T kb nb]     -- if «.of_eq rfl» comes too early: refine' #v[_,?b,λbase kb nb=>My.law_fn T kb nb];exact λs u=>.of_eq rfl
 case S=>exact λw H a ns hl hO hS=>..
 case C=>exact ..
(vo tactic k_is has no namespace: write k_is) -/
namespace L2
def fB(s:Az)(j:Nat):Az:=match s with
 |.ClassDef _ _ _ body _ _ _ _ _ _ _=>body.getD j (.Pass #v[0,0,0,0])
 |_=>.Pass #v[0,0,0,0]
def uP(s:Az):Arguments:=match s with
 |.FunctionDef _ a _ _ _ _ _ _ _ _=>a
 |_=>{ posonlyargs:=[],args:=[],vararg:=Ae,kwonlyargs:=[],kw_defaults:=[],kwarg:=Ae,defaults:=[] }
def rj(s:Az):List Az:=match s with
 |.FunctionDef _ _ b _ _ _ _ _ _ _=>b
 |_=>[]
def bZ(s:Az):Scope:=match s with
 |.FunctionDef _ _ _ _ _ _ sc _ _ _=>sc
 |_=>{ kind:=.function,names:=[],isGenerator:=Ah,isCoroutine:=Ah }
abbrev fD:rM:=λ_ _ _ _ _ _=>False
abbrev E0:XK:=λ_ _ _=>False
theorem cG:wy fD X E0:=λ_ _ _ _ _ _ _ h=>h.elim
structure qz (K:aE) (x qual:Str) (st:Az) (f:Ad) (fd:Ao):Prop where
 ex:∃(oc:Ac) (od:Option Ad) (kV doc pm:Ac) (an:Option Ad) (Rh ct:Ac) (osl:Array (Option Ac)),
  fd=uK x qual (uP st) (rj st) (bZ st) .none kV doc pm an Rh ct/\K.lookup f=Aa #v[oc,od,.func fd,osl]/\Jt K Rh qual=Ai
 kp:xl K (.ref f)=Ai
section
variable {P:Al}{w:Au}{K:aE}{mg:Str->Option Ac}{base:Ax}
theorem qz.ok{st:Az}{N l:List Str}(F:qz K x c st f fd)(S:aH N l (bZ st))(len:∀vs H Q E,sp vs H Q E->vs.length=l.length)
  (g:∀(d:Ac) (A:At) (outer:List Env) (s:Ag) (H:Hp) (vs:List V) (Q:VK) (E:XK),cQ k (A.deeper (AY c (bZ st) s.heap.objs.size f d))->sp vs H Q E ->
   ∃t,nc (qX fD P w K mg base N c (bZ st) f d A outer s H E).vl (rj st) t/\t { nx:=λ_ m=>Q .non m,rt:=Q } (start N vs) H):a0 P w K mg base fD (k+1) f fd l sp:=by
 obtain⟨v,od,u,n,y,an,d,ct,r,rfl,p,i⟩:=F.ex;refine zy p i S len λA outer s H vs Q E hr j=>?_;obtain⟨t,h,q⟩:=g d A outer s H vs Q E hr j;exact#v[t,h.vl,q]
theorem qz.binds{st:Az}(F:qz K x c st f fd)
  (h:∀(i g j:Ac) (an:Option Ad) (d ct:Ac) (us:List Ac),us.length=k.length->Ct (uK x c (uP st) (rj st) (bZ st) .none i g j an d ct) #v[us,[]]=pure (k.zip us)):ua K fd k []:=by
 obtain⟨p,od,i,g,j,an,d,ct,m,rfl,n,l⟩:=F.ex;exact .all (h i g j an d ct)
theorem ZtJ{st:Az}{od an:Option Ad}(l:K.lookup f=Aa #v[n,od,.func (uK x d (uP st) (rj st) (bZ st) .none j h m an g ct),i])
  (c:Jt K g d=Ai) (k:xl K (.ref f)=Ai):qz K x d st f (uK x d (uP st) (rj st) (bZ st) .none j h m an g ct):=#v[#v[n,od,j,h,m,an,g,ct,i,rfl,l,c],k]
end
theorem fP(hr:cQ k A):A.units+1<Bs:=Nat.lt_of_le_of_lt (Nat.add_le_add_left (by decide:1<=64) _) hr.units
theorem Zrz:mR X (.builtin "len") (λxs H Q=>∃a kvs,xs=[V.ref a]/\H a=Aa (.dK kvs)/\Q (.int kvs.length) H):=by intro c s σ H xs us Q I r h;obtain⟨a,kvs,rfl,ha,q⟩:=h;obtain⟨u,rfl,f⟩:=sG r;cases f;exact KJ I (.inl ha) λt g d=>#v[.int kvs.length,H,d,#v[t,rfl],q]
def bL(H c:Hp):Prop:=∀b o,H b=Aa o->c b=Aa o
theorem bL.refl(H:Hp):bL H H:=λ_ _ h=>h
theorem bL.trans(a:bL H d)(b:bL d f):bL H f:=λc o h=>b c o (a c o h)
theorem bL.free(e:bL H c)(h:c l=Option.none):H l=Option.none:=by
 cases q:H l with
 |none=>rfl
 |some o=>rw[e l o q]at h;cases h
theorem bL.seq{K:aE}{H c:Hp}{a:Ad}{xs:List V}(e:bL H c)(h:cB K H a xs):cB K c a xs:=by
 rcases h with(h|⟨o,h⟩)|h
 ·exact .inl (.inl (e _ _ h))
 ·exact .inl (.inr #v[o,e _ _ h])
 ·exact .inr h
section
variable [DecidableEq κ]
end
def ow(env:Env):List (Str×AT)->List (Str×Ad)->List (Str×Ad)
 |[],acc=>acc
 |(n,k):: r,acc=>if(k==NameKind.free)=Ai then ow env r ((n,(env.cells.lookup n).getD 0):: acc) else ow env r acc
theorem Zrw(h:env.cells.lookup n=Aa c):cellOf env n=pure c:=by unfold cellOf;rw[h]
theorem Z1:∀(names:List (Str×AT)) (f:List (Str×Ad)),(∀x∈names,x.2=.free->∃c,env.cells.lookup x.1=Aa c) ->
  (forIn names f λ(x:Str×AT) (cs:List (Str×Ad))=>(match x with|(name,kind)=>if(kind==NameKind.free)=Ai then(do let d <-cellOf env name;pure PUnit.unit;pure (ForInStep.yield ((name,d):: cs)):Sem _) else(do pure PUnit.unit;pure (ForInStep.yield cs)):Sem (ForInStep (List (Str×Ad)))))=pure (ow env names f)
 |[],f,_=>rfl
 |(n,k):: r,f,h=>by
  have ih:=λa=>Z1 r a λx hx=>h x (sC _ hx);rw[Ke];by_cases hk:(k==NameKind.free)=Ai
  ·obtain⟨c,hc⟩:=h (n,k) uh (by simpa using hk);simp only[hk,if_true,ow,Zrw hc,hc,Option.getD_some,pure_bind];exact ih _
  ·simp only[hk,if_false,ow,pure_bind];exact ih _
theorem ZjX(h:∀x∈scope.names,x.2=.free->∃c,env.cells.lookup x.1=Aa c):closureFor scope env=pure (ow env scope.names []):=by unfold closureFor;have q:=Z1 scope.names [] h;exact(congrArg (λm=>m >>= pure) q).trans (pure_bind _ _)
theorem Vm:∀(names:List (Str×AT)) (d:List (Str×Ad)),(∀x∈names,x.2=.free->∃c,env.cells.lookup x.1=Aa c)->(∀p∈d,env.cells.lookup p.1=Aa p.2) ->
  ∀p∈ow env names d,env.cells.lookup p.1=Aa p.2
 |[],d,_,ha=>ha
 |(n,k):: r,d,h,ha=>by
  by_cases hk:(k==NameKind.free)=Ai
  ·obtain⟨c,hc⟩:=h (n,k) uh (by simpa using hk);simp only[ow,hk,if_true];refine Vm r _ (λx hx=>h x (sC _ hx)) λp hp=>?_;rcases iN.mp hp with rfl|hp
   ·show env.cells.lookup n=Aa _;rw[hc];rfl
   ·exact ha p hp
  ·simp only[ow,hk,if_false];exact Vm r _ (λx hx=>h x (sC _ hx)) ha
theorem Yp:∀(names:List (Str×AT)) (c:List (Str×Ad)) (p:Str×Ad),p∈c->p∈ow env names c
 |[],_,_,h=>h
 |(n,k):: r,c,p,h=>by
  by_cases hk:(k==NameKind.free)=Ai
  ·simp only[ow,hk,if_true];exact Yp r _ p (sC _ h)
  ·simp only[ow,hk,if_false];exact Yp r _ p h
theorem Wd:∀(names:List (Str×AT)) (d:List (Str×Ad)) (x:Str),(x,NameKind.free)∈names->∃c,(x,c)∈ow env names d
 |(n,k):: r,d,x,h=>by
  rcases iN.mp h with e|h
  ·injection e with e1 e2;subst e1;subst e2;simp only[ow,beq_self_eq_true,if_true];exact#v[_,Yp r _ _ uh]
  ·by_cases hk:(k==NameKind.free)=Ai
   ·simp only[ow,hk,if_true];exact Wd r _ x h
   ·simp only[ow,hk,if_false];exact Wd r _ x h
theorem Zdy:∀{l:List (Str×Ad)}{x:Str}{c:Ad},(x,c)∈l->∃d,l.lookup x=Aa d
 |(n,d):: r,x,c,h=>by
  by_cases e:x==n
  ·exact#v[d,by simp[vG,e]]
  ·rcases iN.mp h with q|q
   ·injection q with q1 _;subst q1;simp at e
   ·obtain⟨d',hd⟩:=Zdy q;exact#v[d',by simp[vG,e,hd]]
theorem Wr{env:Env}:∀{names:List (Str×AT)}{x:Str}{k:AT},
  (names.map λ(n,k)=>if(k==NameKind.free&&env.scope.kind == .function&&env.kindOf n==Aa .cell) then(n,NameKind.cell) else(n,k)).lookup x=Aa k ->
  ∃c,names.lookup x=Aa c/\(k=c\/c=.free)
 |[],_,_,h=>by simp at h
 |(n,j):: r,x,k,h=>by
  have ih:=@Wr env r x k;by_cases hc:(j==NameKind.free&&env.scope.kind == .function&&env.kindOf n==Aa .cell)=Ai
  ·simp only[jF,hc,if_true,vG]at h ⊢;cases e:x==n with
   |true=>rw[e]at h;refine#v[j,rfl,.inr ?_];simp only[sE,beq_iff_eq]at hc;exact hc.1.1
   |false=>rw[e]at h;exact ih h
  ·rw[jF]at h;dsimp only at h;rw[if_neg hc,vG]at h;rw[vG];cases e:x==n with
   |true=>rw[e]at h;exact#v[j,rfl,.inl (by injection h with h;exact h.symm)]
   |false=>rw[e]at h;exact ih h
theorem Zhs{env:Env}:∀{names:List (Str×AT)}{x:Str},names.lookup x=Aa .free ->
  (names.map λ(n,k)=>if(k==NameKind.free&&env.scope.kind == .function&&env.kindOf n==Aa .cell) then(n,NameKind.cell) else(n,k)).lookup x=Aa .cell \/
  (names.map λ(n,k)=>if(k==NameKind.free&&env.scope.kind == .function&&env.kindOf n==Aa .cell) then(n,NameKind.cell) else(n,k)).lookup x=Aa .free
 |[],_,h=>by simp at h
 |(n,j):: r,x,h=>by
  have ih:=@Zhs env r x;cases e:x==n with
  |true=>
   rw[vG,e]at h;injection h with h;subst h;rw[jF];dsimp only;split
   ·exact .inl (by simp[vG,e])
   ·exact .inr (by simp[vG,e])
  |false=>
   rw[vG,e]at h;rcases ih h with q|q
   ·left;rw[jF];dsimp only;split <;> simp only[vG,e] <;> exact q
   ·right;rw[jF];dsimp only;split <;> simp only[vG,e] <;> exact q
def uE(X:Cx)(scope:Scope)(N:List Str)(C:Ad)(s:Ag)(H:Hp)(fp:List Ad):Cx:={ X with N:=N,s₀:=s,H₀:=H,env:=compEnvC scope (ow X.env scope.names []) C X.env,outer:=X.stack,stack:=X.stack,ex:=fp,fn:=λ_=>Ah,pn:=[],xe:=λ_ _=>False }
structure aY (X:Cx) (scope:Scope):Prop where
 kind:scope.kind=.function
 ve:∀y∈scope.names,y.2≠.cell
 names:∀y∈scope.names,y.2=.local->scope.names.lookup y.1=Aa .local
 free:∀y∈scope.names,y.2=.free->X.env.kindOf y.1=Aa .cell\/X.env.kindOf y.1=Aa .free
theorem aY.has(S:aY X scope)(ok:X.Ok):∀x∈scope.names,x.2=.free->∃c,X.env.cells.lookup x.1=Aa c:=λx hx h=>ok.has _ (S.free x hx h)
theorem Fx(S:aY X scope)(ok:X.Ok)(h:(ow X.env scope.names []).lookup x=Aa c):X.env.cells.lookup x=Aa c:=Vm scope.names [] (S.has ok) (λp hp=>absurd hp (by simp)) (x,c) (PySem.mem_of_lookup h)
theorem VC(S:aY X scope)(ok:X.Ok)(h:scope.names.lookup x=Aa .free):∃c,(ow X.env scope.names []).lookup x=Aa c/\X.env.cells.lookup x=Aa c:=by obtain⟨c,hc⟩:=Wd (env:=X.env) scope.names [] x (PySem.mem_of_lookup h);obtain⟨d,hd⟩:=Zdy hc;exact#v[d,hd,Fx S ok hd]
structure bI (X:Cx) (scope:Scope) (N:List Str) (k:Nat) (sel:List Nat):Prop where
 len:N.length=k+sel.length
 fr:∀(i j:Nat) (x:Str),sel[i]? = Aa j->N[k+i]? = Aa x->X.N[j]? = Aa x/\scope.names.lookup x=Aa .free
def cst(σ:St)(k:Nat)(sel:List Nat):St:=gR k Ae++sel.map λj=>(σ[j]?).join
theorem Zvk:(cst σ k sel).length=k+sel.length:=by unfold cst;rw[eG,oQ,aQ]
theorem ZtQ{scope:Scope}{N:List Str}{fp:List Ad}(S:aY X scope)(I:Inv X pins σ H s)(hf:∀b∈fp,qL X pins H b)(d:∀b∈fp,b<s.heap.objs.size):(uE X scope N s.heap.objs.size s H fp).Ok where
 mod:=I.ok.mod
 kind:=S.kind
 glob:=I.ok.glob
 blt:=I.ok.blt
 above:=bV _
 inj:=λx y c h1 h2=>I.ok.inj x y c (Fx S I.ok h1) (Fx S I.ok h2)
 has:=λx h=>by
  have h':(relabel scope X.env).names.lookup x=Aa .cell\/(relabel scope X.env).names.lookup x=Aa .free:=h;rcases h' with h'|h'
  ·obtain⟨f,e,q⟩:=Wr h';rcases q with q|q
   ·subst q;exact absurd rfl (S.ve _ (PySem.mem_of_lookup e))
   ·subst q;obtain⟨c,hc,_⟩:=VC S I.ok e;exact#v[c,hc]
  ·obtain⟨f,e,q⟩:=Wr h';have:f=.free:=by rcases q with q|q;exact q.symm;exact q
   subst this;obtain⟨c,hc,_⟩:=VC S I.ok e;exact#v[c,hc]
 wD:=λx c h=>absurd (show Ah=Ai from h) (by simp)
 hd:=I.ok.hd
 frames:=I.ok.frames
 xA:=.inl rfl
 FN:=λb hb=>#v[gW (d b hb),λx c h=>(hf b hb).5 x c (Fx S I.ok h)]
 bs:=I.bs
 rm:=lC I.ok.rm I.sz
 nT:=λb o e hb=>by
  rcases(hf b hb).4 with z|z
  ·exact I.ok.nT b o e z
  ·exact absurd (nr (Heap.lt_size e) (lC I.ok.rm z)) (IX _)
 ot:=λb hb z=>by
  rcases iN.mp (I.rQ b z) with q|q
  ·exact(hf b hb).2 q
  ·exact(hf b hb).3 q
 gZ:=I.stack
 tL:=I.mZ
theorem Zvn{N:List Str}(S:aY X scope)(M:bI X scope N k sel)(I:Inv X pins σ H s)(hf:∀b∈fp,qL X pins H b)(r:∀b∈fp,b<s.heap.objs.size)
  (hn:t.Ns s.heap.objs.size m) (hk:∀b o,s.heap.get? b=Aa o->t.get? b=Aa o):Inv (uE X scope N s.heap.objs.size s H fp) [] (cst σ k sel) H { s with heap:=t,toks:=t' }:=by
 refine#v[ZtQ S I hf r,rfl,I.bare,Un.kept hk,#v[m,hn,λi x v e1 e2 e3=>?_],λx c e=>?_,I.bP.fresh (bV _),λx c e=>I.dU x c (Fx S I.ok e),λp hp=>absurd (show p∈([]:List (Ad×Obj)) from hp) (by simp),I.bP.kept hk,?_]
 ·have hi:k<=i:=by
   by_cases hi:k<=i
   ·exact hi
   ·unfold cst at e2;rw[mY (by simp;omega),Fv]at e2;split at e2 <;> cases e2
  obtain⟨d,rfl⟩:∃d,i=k+d:=#v[i-k,⋯];unfold cst at e2;rw[qP (by simp),oQ,Nat.add_sub_cancel_left,gX]at e2;cases ej:sel[d]? with
  |none=>rw[ej]at e2;cases e2
  |some j=>
   rw[ej]at e2;have f:(σ[j]?).join=Aa v:=Option.some.inj e2
   have e4:σ[j]? = Aa (Aa v):=by
    cases q:σ[j]? with
    |none=>rw[q]at f;cases f
    |some o=>rw[q]at f;cases o with
     |none=>cases f
     |some w=>cases f;rfl
   obtain⟨A,h⟩:=M.fr d j x ej e1;obtain⟨G,B,n⟩:=I.loc;have g:=S.free _ (PySem.mem_of_lookup h) rfl;obtain⟨u,D,C⟩:=n j x v A e4 (by rcases g with q|q;exact .inr (.inl q);exact .inr (.inr q));obtain⟨c,hc,l⟩:=VC S I.ok h;refine#v[u,D,.inr #v[?_,c,hc,?_]]
   ·exact Zhs h
   ·rcases C with⟨y,_⟩|⟨_,E,e5,z⟩
    ·rcases g with q|q
     ·rw[y]at q;cases q
     ·rw[y]at q;cases q
    ·rw[l]at e5;cases e5;obtain⟨o,ho,hd⟩:=z;exact#v[o,hk _ _ ho,hd]
 ·obtain⟨v,o,ho,hd⟩:=I.cell x c (Fx S I.ok e);exact#v[v,o,hk _ _ ho,hd]
 ·rw[Zvk];exact M.len.symm
def Da(X:Cx)(f:List Expr)(t:TT):Prop:=
 ∀(d:List (Ad×Obj)) (s:Ag) (σ:St) (H:Hp) (Q:Bool->Hp->Prop),Inv X d σ H s->t σ H Q ->
  An (model X.prog X.w) X.A (forIn f Ai λc r=>if r=Ai then do let ok <-isTrue c X.env (eval c X.env);pure (ForInStep.yield ok) else pure (ForInStep.yield r)) (TP X d σ Q) X.xe s
def kt:TT:=λ_ H Q=>Q Ai H
theorem p0:Da X [] kt:=λc s σ H Q I h=>wpAny_tests_nil #v[H,I,h]
theorem yF(hc:PT X c t):Da X [c] t:=λd s σ H Q I h=>wpAny_tests_one (hc d s σ H Q I h)
def iP(w:TI)(k:Nat)(sel:List Nat)(g:TG)(u:TT)(t:TE):TE:=λσ H Q=>w σ H λJ h=>∀p,h p=Ae ->
 ∃W:Nat->Nat->St->Hp->Prop,(∃m,W 0 m (cst σ k sel) (upd h p (.lst [])))/\∀i m q c,W i m q c ->
  (J.stop i c/\Q (.ref p) c)\/(J.go i c/\∀x j,J.r9 i c x j->g x q j λf r=>u f r λb l=>if b=Ai then t f l λv n=>∃ys,n p=Aa (.lst ys)/\ys.length<sizeLine/\∃d,d<m/\W (i+1) d f (upd n p (.lst (ys++[v]))) else∃d,d<m/\W (i+1) d f l)
theorem Zrq{X:Cx}{H tg C:Expr}{I:List Expr}{scope:Scope}{pos:Pos}{it D:Ad}{fp:List Ad}{tn:Nat->Ax->Prop}{J:It}{g:TG}{tt:TT}{te:TE}{W:Nat->Nat->St->Hp->Prop}{R:B8->Ag->Prop}{QQ:Hp->Prop}
  (hx:X.xe=λ_ _=>False) (hc:X.calm=Ai) (T:Turn X.prog X.w X.K tg J fp it tn) (hg:PG X tg g) (ht:Da X I tt) (he:PE X H te)
  (hfp:∀b∈fp,b≠X.env.locals/\b∉X.fs/\(b∈X.ex\/X.s₀.heap.objs.size<=b)/\(∀x c,X.env.cells.lookup x=Aa c->c≠b)/\∀p∈X.pn++[],p.1≠b)
  (turn:∀i m σ2 P,W i m σ2 P ->
   (J.stop i P/\QQ P)\/(J.go i P/\∀x G,J.r9 i P x G->g x σ2 G λσ4 H4=>tt σ4 H4 λb S=>if b=Ai then te σ4 S λv H6=>∃ys,H6 D=Aa (.lst ys)/\ys.length<sizeLine/\∃k,k<m/\W (i+1) k σ4 (upd H6 D (.lst (ys++[v]))) else∃k,k<m/\W (i+1) k σ4 S))
  (hR:∀Y B f,Inv X [] B f Y->QQ f->R (.ok .next) Y) {s:Ag} (m0:Nat) (h:∃i B f,Inv X [] B f s/\tn i s.heap/\(∀b∈fp,f b=Ae)/\W i m0 B f):
  AX (model X.prog X.w) X.A (.compLoop (.ListComp H [#v[tg,C,I,0]] scope pos) 0 (.ref it) (.ref D) X.env) R s:=by
 have q:∀{f:Hp},(∀b∈fp,f b=Ae)->∀b∈fp,qL X [] f b:=λhn b hb=>have z:=hfp b hb;#v[hn b hb,z.1,z.2,z.3,z.4,z.5]
 have j:∀{α:Type}{t:Sem α}{Q:α->Ag->Prop}{E:Ac->Ag->Prop}{s:Ag},An (model X.prog X.w) X.A t Q X.xe s->An (model X.prog X.w) X.A t Q E s:=λ{α t Q E s} h=>by rw[hx]at h;exact wpAny_noRaise h
 refine codeAny_loop rfl (λn Y=>∃i B f,Inv X [] B f Y/\tn i Y.heap/\(∀b∈fp,f b=Ae)/\W i n B f) (λn s3 hI=>?_) m0 h;obtain⟨i,σ3,G,I3,Z,V,w3⟩:=hI;show An _ X.A ((compTurn (.ListComp H [#v[tg,C,I,0]] scope pos) 0 (.ref it) (.ref D) X.env).onRaise (λx=>do Ck x X.env;theTreesLotGoes x)) _ _ s3;refine wpAny_noted ?_;rw[compTurn_list];rcases turn i n σ3 G w3 with⟨stop,qn⟩|⟨go,step⟩
 ·refine Af (Bf (Af (bY (j (T.done X rfl rfl rfl hc i [] s3 σ3 G X.xe I3 (q V) Z stop)) λr s4 ⟨hr,I4⟩=>?_)));subst hr;exact Aj (hR s4 σ3 G I4 qn)
 ·refine Af (Bf (Af (bY (j (T.item X rfl rfl rfl hc i [] s3 σ3 G X.xe I3 (q V) Z go)) λr s4 ⟨u,hr,h4⟩=>?_)));subst hr;refine Af (bY (j h4) λ_ s5 ⟨x,S,I5,r5,y5,L,fr5⟩=>?_);have I5':=I5.pinned (q fr5) (T.obj _ _ L);refine Af (bY (j (hg _ s5 σ3 S x u _ I5' r5 (step x S y5))) λ_ s6 ⟨M,H6,I6,q6⟩=>?_);refine Af (bY (j (ht _ s6 M H6 _ I6 q6)) λok s7 ⟨H7,I7,q7⟩=>?_)
  have l:∀{O:Ag}{N:Hp},Inv X ([]++O8 fp s5.heap) M N O->(∃k,k<n/\W (i+1) k M N)->∃m,m<n/\∃i B f,Inv X [] B f O/\tn i O.heap/\(∀b∈fp,f b=Ae)/\W i m B f:=λ{O N} U n8=>by obtain⟨k,hm,w8⟩:=n8;refine#v[k,hm,i+1,M,N,U.k8,T.keep _ _ _ L λb hb o e=>(U.pin (b,o) (qK _ (qK _ (RG hb e)))).1,λb hb=>?_,w8];obtain⟨o,e,d⟩:=T.obj _ _ L b hb;exact(U.pin (b,o) (qK _ (qK _ (RG hb e)))).2
  cases ok with
  |false=>exact Aj #v[rfl,l I7 q7]
  |true=>refine Af (Af (bY (j (he _ s7 M H7 _ I7 q7)) λy O ⟨v,N,U,r8,ys,hys,hl,q8⟩=>?_));refine Af (bY (j (uG _ O M N (.ref D) [v] (.ref D) [y] (λ_ H9=>∃k,k<n/\W (i+1) k M H9) U rfl (.cons r8 .nil) #v[D,ys,v,rfl,rfl,hys,hl,q8])) λ_ s9 ⟨_,H9,I9,_,q9⟩=>?_);exact Aj (Aj #v[rfl,l I9 q9])
structure O4 (X:Cx) (pins:List (Ad×Obj)) (H:Hp) (C:Ad) (s:Ag):Prop where
 none:H C=Option.none
 ne:C≠X.env.locals
 above:X.s₀.heap.objs.size<=C
 cells:∀x c,X.env.cells.lookup x=Aa c->c≠C
 pins:∀p∈X.pn++pins,p.1≠C
 ns:∃m,s.heap.Ns C m
theorem ZjV{B tg t:Expr}{scope:Scope}{pos:Pos}{N:List Str}{sel:List Nat}{tt:TT}{te:TE}{QQ:VK}{use:Option (Ac->Sem Unit)}{Qv:Ac->Ag->Prop}
  (S:aY X scope) (M:bI X scope N k sel) (hc:X.calm=Ai)
  (hg:∀C s H fp,PG (uE X scope N C s H fp) tg g) (ht:∀C s H fp,Da (uE X scope N C s H fp) I tt) (he:∀C s H fp,PE (uE X scope N C s H fp) B te)
  (fin:∀D C L n,Inv X f σ n L->O4 X f n C L->QQ (.ref D) n->compPost (model X.prog X.w) X.A X.xe use Qv (.ref D) C (.ok .next) L)
  (h2:TU X f σ tg (λJ H1=>∀p,H1 p=Ae->∃W:Nat->Nat->St->Hp->Prop,(∃m,W 0 m (cst σ k sel) (upd H1 p (.lst [])))/\∀i m σ2 j,W i m σ2 j ->
   (J.stop i j/\QQ (.ref p) j)\/(J.go i j/\∀x H3,J.r9 i j x H3->g x σ2 H3 λσ4 H4=>tt σ4 H4 λb H5=>if b=Ai then te σ4 H5 λv H6=>∃ys,H6 p=Aa (.lst ys)/\ys.length<sizeLine/\∃U,U<m/\W (i+1) U σ4 (upd H6 p (.lst (ys++[v]))) else∃U,U<m/\W (i+1) U σ4 H5)) R d):
  An (model X.prog X.w) X.A (newList []) (λO s₃=>An (model X.prog X.w) X.A (newFunctionEnv scope X.env.globals (ow X.env scope.names []) [] X.env.qual Ae .none (Aa X.env)) (λq s₄=>AX (model X.prog X.w) X.A (.compStart (.ListComp B [#v[tg,t,I,0]] scope pos) 0 R O { q with scope:=relabel scope X.env }) (compPost (model X.prog X.w) X.A X.xe use Qv O q.locals) s₄) X.xe s₃) X.xe d:=by
 obtain⟨it,fp,tn,J,j,rfl,I2,T,V,f2,R2⟩:=h2;have hD:j d.heap.objs.size=Ae:=I2.bP.fresh (bV _);obtain⟨W,⟨m0,w0⟩,Z⟩:=R2 _ hD;refine wpAny_newObj_type ?_;have l:=I2.FU (its:=[]) (ys:=[]) (t':=d.toks) .nil (rE _);generalize G:({ d with heap:=d.heap.push { cls:=.type "list",data:=.seq ([]:List Ac).toArray },toks:=d.toks }:Ag)=s3 at l;have e3:({ d with heap:=d.heap.push { cls:=.type "list",dict:=Ae,data:=.seq ([]:List Ac).toArray } }:Ag)=s3:=by rw[<-G]
 have up:∀b o,d.heap.get? b=Aa o->s3.heap.get? b=Aa o:=λb o e=>by rw[<-G];exact Heap.get?_push_of_some _ e
 have hsz:d.heap.objs.size<=s3.heap.objs.size:=by rw[<-G];show _<=(d.heap.push _).objs.size;rw[Heap.size_push];exact RL _
 have r:∀b∈fp,b<d.heap.objs.size:=λb hb=>by obtain⟨o,e,_⟩:=T.obj _ _ V b hb;exact Heap.lt_size e
 have E:∀b∈fp,b<s3.heap.objs.size:=λb hb=>nr (r b hb) hsz;have f3:∀b∈fp,qL X f (upd j d.heap.objs.size (.lst [])) b:=λb hb=>have z:=f2 b hb;#v[by rw[bE (gW (r b hb))];exact z.1,z.2,z.3,z.4,z.5,z.6];refine wpAny_newFunctionEnv S.ve (by intro y hy;simp at hy) (λh₁ P Q=>?_) S.kind;have up₁:∀b o,s3.heap.get? b=Aa o->h₁.get? b=Aa o:=λb o e=>Q.extBut b o (gW (Heap.lt_size e)) (Heap.get?_push_of_some _ e);have Ic:=Zvn (N:=N) (k:=k) (sel:=sel) (t':=s3.toks+([]:List (Str×Ac)).length) S M l f3 E P up₁;have Y:tn 0 h₁:=T.keep _ _ _ V λb hb o e=>up₁ b o (up b o e);have fr:∀b∈fp,(upd j d.heap.objs.size (.lst [])) b=Ae:=λb hb=>(f3 b hb).1
 have u:AX (model X.prog X.w) X.A (.compLoop (.ListComp B [#v[tg,t,I,0]] scope pos) 0 (.ref it) (.ref d.heap.objs.size) (compEnvC scope (ow X.env scope.names []) s3.heap.objs.size X.env))
   (compPost (model X.prog X.w) X.A X.xe use Qv (.ref d.heap.objs.size) s3.heap.objs.size) { s3 with heap:=h₁,toks:=s3.toks+([]:List (Str×Ac)).length }:=by
  refine Zrq (X:=uE X scope N s3.heap.objs.size s3 (upd j d.heap.objs.size (.lst [])) fp) (QQ:=λn=>QQ (.ref d.heap.objs.size) n) (W:=W) rfl hc T (hg _ _ _ _) (ht _ _ _ _) (he _ _ _ _) (λb hb=>?_) Z (λL σ' n K q'=>?_) m0 #v[0,cst σ k sel,_,Ic,Y,fr,w0]
  ·refine#v[gW (E b hb),?_,.inl hb,λx c h=>(f3 b hb).5 x c (Fx S l.ok h),λp hp=>absurd (show p∈([]:List (Ad×Obj)) from hp) (by simp)];exact(ZtQ (N:=N) S l f3 E).ot b hb
  ·have Ie:Inv X f σ n L:=l.LL (ch:=fp) K.os K.base K.bP K.bare λb hb=>#v[(f3 b hb).4,(f3 b hb).2,(f3 b hb).5,(f3 b hb).6];refine fin _ _ L n Ie #v[K.free,?_,lC l.sz (bV _),λx c e=>?_,λp hp=>?_,?_] q'
   ·exact Ne.symm (gW l.lt)
   ·obtain⟨v,o,ho,_⟩:=l.cell x c e;exact gW (Heap.lt_size ho)
   ·exact gW (Heap.lt_size (l.pin p hp).1)
   ·obtain⟨m,hn,_⟩:=K.loc;exact#v[m,hn]
 exact codeAny_compStart_list u (T.self X.A 0 _ _ _ Y u)
theorem oZ(S:aY X scope)(M:bI X scope N k sel)(hc:X.calm=Ai)(hi:PI X tg iter wi)
  (hg:∀C s H fp,PG (uE X scope N C s H fp) tg g) (ht:∀C s H fp,Da (uE X scope N C s H fp) ifs tt) (he:∀C s H fp,PE (uE X scope N C s H fp) elt te)
  (hs:∀x,BJ iter X.env x=pure x:=by intro _;rfl):PE X (.ListComp elt [#v[tg,iter,ifs,0]] scope pos) (iP wi k sel g tt te):=by
 intro c s σ H Q I h;rw[eval_ListComp];refine BM (use:=Ae) rfl hs (ZjX (S.has I.ok)) S.kind S.names (bY (hi c s σ H _ I h) λv n h1=>bY h1 λj p h2=>?_);refine ZjV (QQ:=Q) S M hc hg ht he (λD C l f i F q=>?_) h2;obtain⟨m,hn⟩:=F.ns;exact#v[m,hn,λh' d=>#v[.ref D,f,i.turned (t':=l.toks) (λb o hb e=>d.extBut b o hb e) F.none F.ne (.inr F.above) F.cells F.pins,rfl,q]]
theorem HS(S:aY X scope)(M:bI X scope N k sel)(hc:X.calm=Ai)(hi:PI X tg iter wi)
  (hg:∀C s H fp,PG (uE X scope N C s H fp) tg g) (ht:∀C s H fp,Da (uE X scope N C s H fp) ifs tt) (he:∀C s H fp,PE (uE X scope N C s H fp) elt te)
  (K:X.N.Nodup) (t:X.N[i]? = Aa y) (hy:Loc X.env.scope y)
  (w:Ci (.ListComp elt [#v[tg,iter,ifs,0]] scope pos) (Aa (.Name y j)) d.line X.env=pure Ai)
  (hs:∀x,BJ iter X.env x=pure x:=by intro _;rfl) (hf:X.fn y=Ai\/X.env.scope.names.lookup y=Aa .local:=by first|exact .inl rfl|exact .inr rfl|assumption):
  PS X (.Assign [.Name y j] (.ListComp elt [#v[tg,iter,ifs,0]] scope pos) d) (cK (iP wi k sel g tt te) (aU i)):=by
 intro c s σ H D I h;rw[exec_Assign_Name_used _ _ _ _ w];refine Af (Bf (Af ?_));show An _ X.A (do let _ <-comprehension (.ListComp elt [#v[tg,iter,ifs,0]] scope pos) scope X.env _ (newList []) Ah (eval iter X.env) (Aa (assign (.Name y j) X.env))) _ _ s
 refine Af (AF (BM (use:=Aa (assign (.Name y j) X.env)) (Q:=λ_ z=>SP X c D .next z) rfl hs (ZjX (S.has I.ok)) S.kind S.names
  (bY (hi c s σ H _ I h) λv O h1=>bY h1 λL P h2=>?_)) (λ_ z hq=>Aj (Aj hq)) λ_ _ e=>e)
 refine ZjV (QQ:=λv G=>D.nx (σ.set i (Aa v)) G) S M hc hg ht he (λl C z E J F q=>?_) h2;show An _ X.A (assign (.Name y j) X.env (.ref l)) _ _ _;refine wpAny_assign_Name (Zlv J K t hy (v:=.ref l) rfl (λB n r=>?_) hf);obtain⟨m,hn⟩:=F.ns;obtain⟨a,u,ha⟩:=r
 have p:C≠a:=by
  rcases ha with ha|ha
  ·rw[ha];exact F.ne
  ·exact Ne.symm (F.cells _ _ ha)
 refine#v[m,hn.sameBut u p,λh' f=>#v[σ.set i (Aa (.ref l)),E,n.turned (t':=B.toks) (λb o hb e=>f.extBut b o hb e) F.none F.ne (.inr F.above) F.cells F.pins,q]]
theorem PE.imp{e:Expr}(h:PE X e t)(f:∀σ H Q,t' σ H Q->t σ H Q):PE X e t':=λc s σ H Q I q=>h c s σ H Q I (f σ H Q q)
theorem dO.imp(h:dO X g r)(f:∀x y H Q,d x y H Q->r x y H Q):dO X g d:=λc s σ H x y v u Q I i j q=>h c s σ H x y v u Q I i j (f x y H Q q)
theorem sK.imp(h:sK X r)(f:∀x y H Q,i x y H Q->r x y H Q):sK X i:=λd c g s σ H x y v u Q I j k q=>h d c g s σ H x y v u Q I j k (f x y H Q q)
theorem xM.imp(h:xM X r)(f:∀x lo hi H Q,d x lo hi H Q->r x lo hi H Q):xM X d:=λc s σ H x v k l lo hi j Q I i hs pl g q=>h c s σ H x v k l lo hi j Q I i hs pl g (f x lo hi H Q q)
def aA(i:Nat):TE:=λσ H Q=>match σ[i]? with|some (Aa v)=>Q v H|_=>False
theorem Zvq{Q:VK}(h:aA i σ H Q):MA i σ H Q:=by
 unfold aA at h;split at h
 ·exact#v[_,by assumption,h]
 ·exact h.elim
theorem cv(i:Nat)(d:X.N[i]? = Aa x:=by rfl)(hv:Tq X.env.scope x:=by first|exact Or.inl rfl|exact Or.inr (Or.inl rfl)|exact Or.inr (Or.inr rfl))(hd:(x==("__debug__" : Str))=Ah:=by decide)
  (c:(x==("__classdict__" : Str))=Ah:=by decide):PE X (.Name x pos) (aA i):=(FJ d hv hd c).imp λ_ _ _ h=>Zvq h
def cZ(f:Int->Int->V):R2:=λx y H Q=>match x,y with|.int i,.int j=>Q (f i j) H|_,_=>False
def dA(C:Int->Int->Prop)(f:Int->Int->V):R2:=λx y H Q=>match x,y with|.int i,.int j=>C i j/\Q (f i j) H|_,_=>False
theorem zr{Q:VK}(h:cZ f x y H Q):uS f x y H Q:=by cases x <;> cases y <;> first|exact False.elim h|exact#v[_,_,rfl,rfl,h]
theorem IW{Q:VK}(h:dA C f x y H Q):rI C f x y H Q:=by cases x <;> cases y <;> first|exact False.elim h|exact#v[_,_,rfl,rfl,h.1,h.2]
theorem sJ:dO X (AD .Sub) (cZ λi j=>.int (i-j)):=Df.imp λ_ _ _ _ h=>zr h
theorem kP:dO X (AD .FloorDiv) (dA kF λi j=>.int (i/j)):=ZuW.imp λ_ _ _ _ h=>IW h
theorem oz:dO X (AD .Mod) (dA (λ_ j=>0<j) λi j=>.int (i%j)):=Dy.imp λ_ _ _ _ h=>IW h
theorem Kn:dO X (AD .LShift) (dA tY λi j=>.int (i*2^j.toNat)):=Dk.imp λ_ _ _ _ h=>IW h
theorem yz:dO X (AD .RShift) (dA (λ_ j=>0<=j) λi j=>.int (i/2^j.toNat)):=CS.imp λ_ _ _ _ h=>IW h
theorem Vg:dO X (AD .BitAnd) (cZ λi j=>.int (Builtin.bitAnd i j)):=Eu.imp λ_ _ _ _ h=>zr h
theorem MV:dO X (AD .BitOr) (cZ λi j=>.int (Builtin.bitOr i j)):=JQ.imp λ_ _ _ _ h=>zr h
theorem xY:dO X (AD .BitXor) (cZ λi j=>.int (Builtin.bitXor i j)):=Hf.imp λ_ _ _ _ h=>zr h
theorem wb:dO X (Av .Lt) (cZ λi j=>.bl (decide (i<j))):=MR.imp λ_ _ _ _ h=>zr h
theorem zp:dO X (Av .LtE) (cZ λi j=>.bl (decide (i<=j))):=MD.imp λ_ _ _ _ h=>zr h
theorem wM:dO X (Av .Gt) (cZ λi j=>.bl (decide (j<i))):=P0.imp λ_ _ _ _ h=>zr h
theorem uq:dO X (Av .GtE) (cZ λi j=>.bl (decide (j<=i))):=O7.imp λ_ _ _ _ h=>zr h
def pP:R2:=λx y H Q=>match x,y with
 |.int i,.int j=>Q (.int (i+j)) H
 |.str i,.str j=>i.length+j.length<=sizeLine/\Q (.str (i++j)) H
 |.ref l,.ref b=>∃xs c,H l=Aa (.lst xs)/\H b=Aa (.lst c)/\xs.length+c.length<=sizeLine/\∀p,H p=Ae->Q (.ref p) (upd H p (.lst (xs++c)))
 |_,_=>False
theorem qO:dO X (AD .Add) pP:=by
 intro c s σ H x y v u Q I d f h
 cases x <;> cases y <;> first
  |exact False.elim h
  |exact Ge c s σ H _ _ v u Q I d f #v[_,_,rfl,rfl,h]
  |exact Zo1 c s σ H _ _ v u Q I d f #v[_,_,rfl,rfl,h.1,h.2]
  |(obtain⟨xs,g,h1,h2,h3,h4⟩:=h;exact C6 c s σ H _ _ v u Q I d f #v[_,_,xs,g,rfl,rfl,h1,h2,h3,h4])
inductive cW (K:aE) (H:Hp):Nat->V->V->Prop where
 |flat {n:Nat}{x:V} (f:om x=Ai):cW K H n x x
 |lst {n:Nat}{a b:Ad}{xs ys:List V} (h1:cB K H a xs) (h2:cB K H b ys) (hl:xs.length=ys.length) (h:∀(i:Nat) x y,xs[i]? = Aa x->ys[i]? = Aa y->cW K H n x y):cW K H (n+1) (.ref a) (.ref b)
 |tup {n:Nat}{a b:Ad}{xs ys:List V} (h1:gA K H a xs) (h2:gA K H b ys) (hl:xs.length=ys.length) (h:∀(i:Nat) x y,xs[i]? = Aa x->ys[i]? = Aa y->cW K H n x y):cW K H (n+1) (.ref a) (.ref b)
theorem wI(I:Inv X c σ H s)(h:cB X.K H a xs):∃its:List Ac,Vals xs its/\s.heap.IsList a its.toArray:=by obtain⟨its,r,p,_⟩:=I.list h;exact#v[its,r,p.isList]
theorem Zlj{A:At}{n:Nat}(h:A.units+(n+1)<Bs):A.in1.units+n<Bs:=by have e:A.in1.units=A.units+1:=rfl;omega
theorem VR(I:Inv X g σ H s):∀{n:Nat}{x y:V},cW X.K H n x y->∀(A:At) {u v:Ac},A.units+n<Bs->cH x u->cH y v->SeqAt.EqAt A s u v Ai
 |_,_,_,.flat f,A,u,v,hu,m,p=>by
  have e:=T1 (A:=A) (s:=s) m p f f;rename_i n x;have q:pK x x=Ai:=by cases x <;> first|rfl|(simp[pK];done)|exact absurd f (by simp[om])
  rw[q]at e;exact e
 |_,_,_,@cW.lst _ _ n a b xs ys h1 h2 hl h,A,u,v,hu,m,p=>by
  cases m;cases p;by_cases d:a=b
  ·subst d;exact SeqAt.EqAt.same _
  ·obtain⟨its,k,w⟩:=wI I h1;obtain⟨c,l,B⟩:=wI I h2;have e1:=k.length;have e2:=l.length
   have q:=SeqAt.RcAt.lists (A:=A) (e:=λ_=>Ai) w B (by simp;omega) ⋯ (λj j1 j2=>by
    have r:j<its.length:=by simpa using j1
    have t:j<c.length:=by simpa using j2
    obtain⟨J,C,E⟩:=k.get (i:=j) (x:=xs[j]'⋯) (by simp);obtain⟨L,D,G⟩:=l.get (i:=j) (x:=ys[j]'⋯) (by simp)
    have M:its.toArray[j]=J:=by have:=dS.mp C;obtain⟨_,z⟩:=this;simpa using z
    have N:c.toArray[j]=L:=by have:=dS.mp D;obtain⟨_,z⟩:=this;simpa using z
    rw[M,N];exact VR I (h j _ _ (by simp) (by simp)) A.in1 (Zlj hu) E G)
   have:((dX its.toArray.size).all λ_=>Ai)=Ai:=by simp
   rw[this]at q;exact SeqAt.EqAt.of_refs d q
 |_,_,_,@cW.tup _ _ n a b xs ys h1 h2 hl h,A,u,v,hu,m,p=>by
  cases m;cases p;by_cases d:a=b
  ·subst d;exact SeqAt.EqAt.same _
  ·obtain⟨its,k,w,_⟩:=I.tuple h1;obtain⟨c,l,B,_⟩:=I.tuple h2;have e1:=k.length;have e2:=l.length
   have q:=SeqAt.RcAt.tuples (A:=A) (e:=λ_=>Ai) w B ⋯ (λj j1 j2=>by
    have r:j<its.length:=by simpa using j1
    have t:j<c.length:=by simpa using j2
    obtain⟨J,C,E⟩:=k.get (i:=j) (x:=xs[j]'⋯) (by simp);obtain⟨L,D,G⟩:=l.get (i:=j) (x:=ys[j]'⋯) (by simp)
    have M:its.toArray[j]=J:=by have:=dS.mp C;obtain⟨_,z⟩:=this;simpa using z
    have N:c.toArray[j]=L:=by have:=dS.mp D;obtain⟨_,z⟩:=this;simpa using z
    rw[M,N];exact VR I (h j _ _ (by simp) (by simp)) A.in1 (Zlj hu) E G)
   have:(((dX (min its.toArray.size c.toArray.size)).all λ_=>Ai)&&its.toArray.size==c.toArray.size)=Ai:=by simp;omega
   rw[this]at q;exact SeqAt.EqAt.of_refs d q
section
variable {X:Cx}{a b c:Expr}{ta tb tc:TE}{pos:Pos}
def vQ(xs ys:List V):Bool:=xs.length==ys.length&&(dX xs.length).all λi=>pK (xs.getD i .non) (ys.getD i .non)
theorem IL(f:Vals xs us)(g:Vals ys d)(f1:xs.all om=Ai)(f2:ys.all om=Ai)(A:At)(s:Ag):
  ∀j (h1:j<us.toArray.size) (h2:j<d.toArray.size),SeqAt.EqAt A s us.toArray[j] d.toArray[j] (pK (xs.getD j .non) (ys.getD j .non)):=λj j1 j2=>by
 have e1:=f.length;have e2:=g.length;have h:j<us.length:=by simpa using j1
 have k:j<d.length:=by simpa using j2
 have t:j<xs.length:=⋯;have u:j<ys.length:=⋯;obtain⟨q,l,n⟩:=f.get (i:=j) (x:=xs[j]) (by simp);obtain⟨r,m,p⟩:=g.get (i:=j) (x:=ys[j]) (by simp)
 have v:us.toArray[j]=q:=by obtain⟨_,z⟩:=dS.mp l;simpa using z
 have w:d.toArray[j]=r:=by obtain⟨_,z⟩:=dS.mp m;simpa using z
 rw[v,w];have g1:xs.getD j .non=xs[j]:=by simp[jY,t]
 have g2:ys.getD j .non=ys[j]:=by simp[jY,u]
 rw[g1,g2];exact T1 n p (vI.mp f1 _ (tR _)) (vI.mp f2 _ (tR _))
def T8(K:aE)(H:Hp)(p q:Ad)(k:Bool):Prop:=
 (k=Ai/\cW K H 4 (.ref p) (.ref q)) \/
 (∃xs ys,cB K H p xs/\cB K H q ys/\xs.all om=Ai/\ys.all om=Ai/\k=vQ xs ys) \/
 (k=Ah/\∃xs ys,cB K H p xs/\cB K H q ys/\xs.length≠ys.length) \/
 (∃xs ys,gA K H p xs/\gA K H q ys/\xs.all om=Ai/\ys.all om=Ai/\k=vQ xs ys)
theorem Zol(I:Inv X C σ H s)(hu:X.A.units+8<Bs)(h:T8 X.K H p q k):
  SeqAt.RcAt X.A s (.ref p) (.ref q) k/\SeqAt.RcNeAt X.A s (.ref p) (.ref q) (!k):=by
 have u:∀{xs ys:List V}{n:Nat},n<=4->(cB X.K H p xs/\cB X.K H q ys\/gA X.K H p xs/\gA X.K H q ys)->xs.length=ys.length->(∀(i:Nat) x y,xs[i]? = Aa x->ys[i]? = Aa y->cW X.K H n x y) ->
   SeqAt.RcAt X.A s (.ref p) (.ref q) Ai/\SeqAt.RcNeAt X.A s (.ref p) (.ref q) (!Ai):=λ{xs ys n} hn hq hl hd=>by
  have items:∀{us v:List Ac},Vals xs us->Vals ys v->∀j (h1:j<us.toArray.size) (h2:j<v.toArray.size),SeqAt.EqAt X.A.in1 s us.toArray[j] v.toArray[j] Ai:=λ{us v} g l j j1 j2=>by
   have e1:=g.length;have e2:=l.length;have G:j<us.length:=by simpa using j1
   have J:j<v.length:=by simpa using j2
   obtain⟨P,L,N⟩:=g.get (i:=j) (x:=xs[j]'⋯) (by simp);obtain⟨Q,M,O⟩:=l.get (i:=j) (x:=ys[j]'⋯) (by simp)
   have D:us.toArray[j]=P:=by obtain⟨_,z⟩:=dS.mp L;simpa using z
   have E:v.toArray[j]=Q:=by obtain⟨_,z⟩:=dS.mp M;simpa using z
   rw[D,E];exact VR I (hd j _ _ (by simp) (by simp)) X.A.in1 (by have e:X.A.in1.units=X.A.units+1:=rfl;omega) N O
  rcases hq with⟨h1,h2⟩|⟨h1,h2⟩
  ·obtain⟨its,g,m⟩:=wI I h1;obtain⟨d,l,r⟩:=wI I h2;have e1:=g.length;have e2:=l.length;have z:((dX its.toArray.size).all λ_=>Ai)=Ai:=by simp
   have w:=SeqAt.RcAt.lists (A:=X.A) (e:=λ_=>Ai) m r (by simp;omega) ⋯ (items g l);have B:=SeqAt.RcNeAt.lists (A:=X.A) (e:=λ_=>Ai) m r (by simp;omega) ⋯ (items g l);rw[z]at w B;exact#v[w,B]
  ·obtain⟨its,g,m,_⟩:=I.tuple h1;obtain⟨d,l,r,_⟩:=I.tuple h2;have e1:=g.length;have e2:=l.length;have z:(((dX (min its.toArray.size d.toArray.size)).all λ_=>Ai)&&its.toArray.size==d.toArray.size)=Ai:=by simp;omega
   have w:=SeqAt.RcAt.tuples (A:=X.A) (e:=λ_=>Ai) m r ⋯ (items g l);have B:=SeqAt.RcNeAt.tuples (A:=X.A) (e:=λ_=>Ai) m r ⋯ (items g l);rw[z]at w B;exact#v[w,B]
 have t:∀{xs ys:List V},cB X.K H p xs->cB X.K H q ys->xs.length≠ys.length->SeqAt.RcAt X.A s (.ref p) (.ref q) Ah/\SeqAt.RcNeAt X.A s (.ref p) (.ref q) (!Ah):=λ{xs ys} h1 h2 hl=>by
  obtain⟨its,g,m⟩:=wI I h1;obtain⟨d,l,r⟩:=wI I h2;have e1:=g.length;have e2:=l.length;have z:(its.toArray.size != d.toArray.size)=Ai:=by simp;omega
  exact#v[SeqAt.RcAt.lists_lengths m r z ⋯,SeqAt.RcNeAt.lists_lengths m r z ⋯]
 rcases h with⟨rfl,h⟩|⟨xs,ys,h1,h2,f1,f2,rfl⟩|⟨rfl,xs,ys,h1,h2,hl⟩|⟨xs,ys,h1,h2,f1,f2,rfl⟩
 ·cases h with
  |flat f=>simp[om]at f
  |lst h1 h2 hl hd=>exact u (by decide) (.inl #v[h1,h2]) hl hd
  |tup h1 h2 hl hd=>exact u (by decide) (.inr #v[h1,h2]) hl hd
 ·by_cases hl:xs.length=ys.length
  ·obtain⟨its,g,m⟩:=wI I h1;obtain⟨d,l,r⟩:=wI I h2;have e1:=g.length;have e2:=l.length
   have z:vQ xs ys=(dX its.toArray.size).all λi=>pK (xs.getD i .non) (ys.getD i .non):=by unfold vQ;rw[iO,<-e1,hl];simp
   rw[z];exact#v[SeqAt.RcAt.lists m r (by simp;omega) ⋯ (IL g l f1 f2 _ _),SeqAt.RcNeAt.lists m r (by simp;omega) ⋯ (IL g l f1 f2 _ _)]
  ·have z:vQ xs ys=Ah:=by unfold vQ;simp[hl]
   rw[z];exact t h1 h2 hl
 ·exact t h1 h2 hl
 ·obtain⟨its,g,m,_⟩:=I.tuple h1;obtain⟨d,l,r,_⟩:=I.tuple h2;have e1:=g.length;have e2:=l.length;by_cases hl:xs.length=ys.length
  ·have z:vQ xs ys=((dX (min its.toArray.size d.toArray.size)).all (λi=>pK (xs.getD i .non) (ys.getD i .non))&&its.toArray.size==d.toArray.size):=by unfold vQ;rw[iO,iO,<-e1,<-e2,hl];simp
   rw[z];exact#v[SeqAt.RcAt.tuples m r ⋯ (IL g l f1 f2 _ _),SeqAt.RcNeAt.tuples m r ⋯ (IL g l f1 f2 _ _)]
  ·have z:vQ xs ys=((dX (min its.toArray.size d.toArray.size)).all (λi=>pK (xs.getD i .non) (ys.getD i .non))&&its.toArray.size==d.toArray.size):=by
    have D:vQ xs ys=Ah:=by unfold vQ;simp[hl]
    have E:(its.toArray.size==d.toArray.size)=Ah:=by simp;omega
    rw[D,E,Bool.and_false]
   rw[z];exact#v[SeqAt.RcAt.tuples m r ⋯ (IL g l f1 f2 _ _),SeqAt.RcNeAt.tuples m r ⋯ (IL g l f1 f2 _ _)]
def mP(K:aE):R2:=λx y H Q=>match x,y with
 |.int i,.int j=>Q (.bl (decide (i=j))) H
 |.bl i,.bl j=>Q (.bl (decide (i=j))) H
 |.str i,.str j=>Q (.bl (decide (i=j))) H
 |.non,.non=>Q (.bl Ai) H
 |.non,.int _=>Q (.bl Ah) H
 |.int _,.non=>Q (.bl Ah) H
 |.non,.str _=>Q (.bl Ah) H
 |.str _,.non=>Q (.bl Ah) H
 |.non,.bl _=>Q (.bl Ah) H
 |.bl _,.non=>Q (.bl Ah) H
 |.ref p,.ref q=>∃k,T8 K H p q k/\Q (.bl k) H
 |_,_=>False
def zS(K:aE):R2:=λx y H Q=>match x,y with
 |.int i,.int j=>Q (.bl (!decide (i=j))) H
 |.bl i,.bl j=>Q (.bl (!decide (i=j))) H
 |.str i,.str j=>Q (.bl (!decide (i=j))) H
 |.non,.non=>Q (.bl Ah) H
 |.non,.int _=>Q (.bl Ai) H
 |.int _,.non=>Q (.bl Ai) H
 |.non,.str _=>Q (.bl Ai) H
 |.str _,.non=>Q (.bl Ai) H
 |.non,.bl _=>Q (.bl Ai) H
 |.bl _,.non=>Q (.bl Ai) H
 |.ref p,.ref q=>∃k,T8 K H p q k/\Q (.bl (!k)) H
 |_,_=>False
theorem dcI:decide (V.int i=V.int j)=decide (i=j):=by rw[decide_eq_decide];exact#v[V.int.inj,congrArg _]
theorem dcB:decide (V.bl i=V.bl j)=decide (i=j):=by rw[decide_eq_decide];exact#v[V.bl.inj,congrArg _]
theorem dcS:decide (V.str i=V.str j)=decide (i=j):=by rw[decide_eq_decide];exact#v[V.str.inj,congrArg _]
theorem nR(hu:X.A.units+8<Bs):dO X (Av .Eq) (mP X.K):=by
  intro d s σ H x y v u Q I f g h;have go:rEq x y H Q->An (model X.prog X.w) X.A (Av .Eq v u) (EP X d σ Q) X.xe s:=λq=>N2 d s σ H _ _ v u Q I f g q
  cases x <;> cases y <;> first
    |exact False.elim h
    |exact go #v[rfl,h]
    |exact go #v[rfl,by rw[dcI];exact h]
    |exact go #v[rfl,by rw[dcB];exact h]
    |exact go #v[rfl,by rw[dcS];exact h]
    |(
     obtain⟨k,e,q⟩:=h;cases f;cases g;exact(Zol I hu e).1 _ _ _ _ #v[.bl k,H,I,rfl,q])
theorem tU(hu:X.A.units+8<Bs):dO X (Av .NotEq) (zS X.K):=by
  intro d s σ H x y v u Q I f g h;have go:rNe x y H Q->An (model X.prog X.w) X.A (Av .NotEq v u) (EP X d σ Q) X.xe s:=λq=>LY d s σ H _ _ v u Q I f g q
  cases x <;> cases y <;> first
    |exact False.elim h
    |exact go #v[rfl,h]
    |exact go #v[rfl,by rw[dcI];exact h]
    |exact go #v[rfl,by rw[dcB];exact h]
    |exact go #v[rfl,by rw[dcS];exact h]
    |(
     obtain⟨k,e,q⟩:=h;cases f;cases g;exact(Zol I hu e).2 _ _ _ _ #v[.bl (!k),H,I,rfl,q])
def yP:R2:=λx y H Q=>match x,y with
 |.bl i,.bl j=>Q (.bl (decide (i=j))) H
 |x,.non=>Q (.bl (decide (x=.non))) H
 |.non,.bl _=>Q (.bl Ah) H
 |.int _,.bl _=>Q (.bl Ah) H
 |.str _,.bl _=>Q (.bl Ah) H
 |.ref _,.bl _=>Q (.bl Ah) H
 |_,_=>False
def Lo:R2:=λx y H Q=>match x,y with
 |.bl i,.bl j=>Q (.bl (!decide (i=j))) H
 |x,.non=>Q (.bl (!decide (x=.non))) H
 |_,_=>False
theorem tN:dO X (Av .Is) yP:=by
 intro d s σ H x y v u Q I f g h;have pl:∀{k:Bool},PySem.plainIs v u=Ai->(v==u)=k->Q (.bl k) H->An (model X.prog X.w) X.A (Av .Is v u) (EP X d σ Q) X.xe s:=λ{k} hp e q=>wpAny_is_plain hp #v[.bl k,H,I,by rw[e];rfl,q];cases y with
 |non=>
  have q:Q (.bl (decide (x=.non))) H:=by cases x <;> exact h
  exact EG d s σ H _ _ v u Q I f g #v[rfl,q]
 |bl j=>
  cases g;cases x with
  |bl i=>cases f;exact pl rfl (by cases i <;> cases j <;> rfl) h
  |non=>cases f;exact pl rfl rfl h
  |int i=>obtain⟨t,rfl⟩:=f;exact pl rfl rfl h
  |str i=>obtain⟨t,rfl⟩:=f;exact pl rfl rfl h
  |ref i=>cases f;exact pl rfl rfl h
  |_=>exact False.elim h
 |_=>cases x <;> exact False.elim h
theorem Wa:dO X (Av .IsNot) Lo:=by
 intro d s σ H x y v u Q I f g h;cases y with
 |non=>
  have q:Q (.bl (!decide (x=.non))) H:=by cases x <;> exact h
  exact ZuV d s σ H _ _ v u Q I f g #v[rfl,q]
 |bl j=>
  cases g;cases x with
  |bl i=>cases f;exact wpAny_isNot_plain rfl #v[.bl (!decide (i=j)),H,I,(by cases i <;> cases j <;> rfl),h]
  |_=>exact False.elim h
 |_=>cases x <;> exact False.elim h
def yO(i j:Str):Bool:=!(Builtin.Str.occurrences j i 0 j.length 1).isEmpty
def QM(K:aE)(neg:Bool):R2:=λx y H Q=>match y with
 |.ref p=>∃xs,(cB K H p xs\/gA K H p xs)/\om x=Ai/\xs.all om=Ai/\Q (.bl (if neg then !Hs x xs else Hs x xs)) H
 |.str j=>match x with|.str i=>Q (.bl (if neg then !yO i j else yO i j)) H|_=>False
 |_=>False
theorem Qn:dO X (Av .In) (QM X.K Ah):=by
 intro d s σ H x y v u Q I f g h;cases y with
 |ref p=>obtain⟨xs,h1,h2,h3,q⟩:=h;exact Zqz d s σ H _ _ v u Q I f g #v[p,xs,rfl,h1,h2,h3,q]
 |str j=>
  cases x with
  |str i=>exact Zqy d s σ H _ _ v u Q I f g #v[i,j,rfl,rfl,h]
  |_=>exact False.elim h
 |_=>exact False.elim h
def zQ(x:V)(k:Bool->Prop):Prop:=match x with|.bl b=>k b|_=>False
theorem Ztj(h:zQ x k):∃b,x=.bl b/\k b:=by cases x <;> first|exact False.elim h|exact#v[_,rfl,h]
def cO(t:TE):TT:=λσ H Q=>t σ H λx d=>zQ x λk=>Q k d
def kS(K:aE)(t:TE):TT:=λσ H Q=>t σ H λx d=>match x with
 |.non=>Q Ah d
 |.bl b=>Q b d
 |.int i=>Q (decide (i≠0)) d
 |.str y=>y.length<=sizeLine/\Q (decide (y.length≠0)) d
 |.ref p=>∃k,vV K (.ref p) d k/\Q k d
 |.byt p=>∃k,vV K (.byt p) d k/\Q k d
 |_=>False
theorem mV(ha:PE X a t)(he:∀d,isTrue a X.env d=(do let v <-d;standAt a.pos;holding [v] (truthy v)):=by intro _;rfl):PT X a (kS X.K t):=by
 have h:=Zsu ha he
 have e:kS X.K t=(λσ H Q=>t σ H λx f=>∃k,vV X.K x f k/\Q k f):=by
  funext σ H Q;unfold kS;congr 1;funext x f;apply propext;cases x with
  |non=>exact#v[λq=>#v[Ah,rfl,q],λ⟨k,h1,h2⟩=>by have h1:k=Ah:=h1;subst h1;exact h2]
  |bl b=>exact#v[λq=>#v[b,rfl,q],λ⟨k,h1,h2⟩=>by have h1:k=b:=h1;subst h1;exact h2]
  |int i=>
   have z:decide (i≠0)=(i != 0):=by by_cases e:i=0 <;> simp[e]
   exact#v[λq=>#v[decide (i≠0),z,q],λ⟨k,h1,h2⟩=>by have h1:k=(i != 0):=h1;rw[<-z]at h1;subst h1;exact h2]
  |str y=>
   have z:decide (y.length≠0)=((y.length:Int) != 0):=by
    by_cases e:y.length=0
    ·simp[e]
    ·have:(y.length:Int)≠0:=⋯;simp[e,this]
   exact⟨λq=>#v[decide (y.length≠0),#v[q.1,z],q.2],λ⟨k,h1,h2⟩=>by have h1:y.length<=sizeLine/\k=((y.length:Int) != 0):=h1;obtain⟨h0,h1⟩:=h1;rw[<-z]at h1;subst h1;exact#v[h0,h2]⟩
  |ref p=>exact Iff.rfl
  |byt y=>exact Iff.rfl
  |flt y=>exact#v[λq=>q.elim,λ⟨k,h1,h2⟩=>h1.elim]
  |ty y=>exact#v[λq=>q.elim,λ⟨k,h1,h2⟩=>h1.elim]
 rw[e];exact h
theorem HN:zQ x k=∃b,x=.bl b/\k b:=propext #v[Ztj,λ⟨b,e,q⟩=>by subst e;exact q]
theorem ZrB(t:TE):cO t=RK t:=by funext σ H Q;unfold cO RK;congr 1;funext x d;exact HN
theorem eE(ho:dO X (Av d) r)(ha:PE X a ta)(hb:PE X b tb)(hm:AK d b=Ah:=by exact xI _):PT X (.Compare a [d] [b] pos) (cO (aK r ta tb)):=by rw[ZrB];exact ZuO ho ha hb hm
def wh(r i:R2)(ta tb tc:TE):TE:=λσ H Q=>ta σ H λx f=>tb σ f λy g=>r x y g λz d=>zQ z λk=>(if k=Ai then tc σ d λj h=>i y j h Q else Q (.bl Ah) d)
theorem Zmr(r d:R2)(ta tb tc:TE):wh r d ta tb tc=Sd r d ta tb tc:=by funext σ H Q;unfold wh Sd;congr 1;funext x f;congr 1;funext y g;congr 1;funext z h;exact HN
theorem Zrj(ho:dO X (Av g) r)(f:dO X (Av d) h)(ha:PE X a ta)(hb:PE X b tb)(hc:PE X c tc)
  (hm:Cz [g,d] [b,c]=Ah:=by with_unfolding_all rfl):PE X (.Compare a [g,d] [b,c] pos) (wh r h ta tb tc):=by
 rw[Zmr];exact ZsA ho f ha hb hc hm
theorem TK(ho:dO X (Av g) r)(f:dO X (Av d) h)(ha:PE X a ta)(hb:PE X b tb)(hc:PE X c tc)
  (hm:Cz [g,d] [b,c]=Ah:=by with_unfolding_all rfl):PT X (.Compare a [g,d] [b,c] pos) (cO (wh r h ta tb tc)):=by
 rw[ZrB,Zmr];exact Zsv ho f ha hb hc hm
def uD(ta tb:TE):TE:=λσ H Q=>ta σ H λx d=>zQ x λc=>if c=Ai then tb σ d Q else Q (.bl Ah) d
def vy(ta tb:TE):TE:=λσ H Q=>ta σ H λx d=>zQ x λc=>if c=Ai then Q (.bl Ai) d else tb σ d Q
def EV(ta:TE):TE:=λσ H Q=>ta σ H λx d=>zQ x λc=>Q (.bl (!c)) d
theorem Ztk(ta tb:TE):uD ta tb=Tp ta tb:=by funext σ H Q;unfold uD Tp;congr 1;funext x d;exact HN
theorem Zvr(ta tb:TE):vy ta tb=Ey ta tb:=by funext σ H Q;unfold vy Ey;congr 1;funext x d;exact HN
theorem Ztf(ta:TE):EV ta=Wo ta:=by funext σ H Q;unfold EV Wo;congr 1;funext x d;exact HN
variable {rest:List Expr}
theorem yy(ha:PE X a ta)(hb:PE X (.BoolOp .And (b::rest) pos) tb):PE X (.BoolOp .And (a::b::rest) pos) (uD ta tb):=by rw[Ztk];exact FR ha hb
theorem Wb(ha:PE X a ta)(hb:PE X (.BoolOp .Or (b::rest) pos) tb):PE X (.BoolOp .Or (a::b::rest) pos) (vy ta tb):=by rw[Zvr];exact KY ha hb
theorem YX(ha:PE X a ta):PE X (.UnaryOp .Not a pos) (EV ta):=by rw[Ztf];exact Er ha
def eJ(K:aE):R2:=λx y H Q=>match x,y with
 |.ref p,.int i=>∃xs v,(cB K H p xs\/gA K H p xs)/\mN xs i=Aa v/\Q v H
 |.str z,.int i=>z.length<=sizeLine/\∃c,mN z.cps.toList i=Aa c/\Q (.str #v[#[c]]) H
 |_,_=>False
theorem eP:sK X (eJ X.K):=GG.imp λx y H Q h=>by
  cases x <;> cases y <;> first
    |exact False.elim h
    |(
     obtain⟨xs,v,h1|h1,h2,h3⟩:=h
     · exact .inl #v[_,xs,_,v,rfl,rfl,h1,h2,h3]
     · exact .inr (.inl #v[_,xs,_,v,rfl,rfl,h1,h2,h3]))
    |(
     obtain⟨h1,c,h2,h3⟩:=h;exact .inr (.inr #v[_,_,c,rfl,rfl,h1,h2,h3]))
def Ej(K:aE):V->Option Int->Option Int->Hp->VK->Prop:=λx lo hi H Q=>match x with
 |.ref p=>∃xs,cB K H p xs/\∀q,H q=Ae->Q (.ref q) (upd H q (.lst (xT xs lo hi)))
 |_=>False
theorem F5:xM X (Ej X.K):=Zuz.imp λx lo hi H Q h=>by cases x <;> first|exact False.elim h|(obtain⟨xs,h1,h2⟩:=h;exact#v[_,xs,rfl,h1,h2])
def k9(K:aE):List V->Hp->VK->Prop:=λvs H Q=>match vs with
 |[.str z]=>z.length<=sizeLine/\Q (.int z.length) H
 |[.ref p]=>(∃ys,(cB K H p ys\/gA K H p ys)/\Q (.int ys.length) H)\/∃kvs,H p=Aa (.dK kvs)/\Q (.int kvs.length) H
 |_=>False
theorem lS:mR X (.builtin "len") (k9 X.K):=by
 intro d s σ H xs us Q I r h
 match xs,h with
 |[.str z],h=>exact Zml d s σ H _ us Q I r #v[z,rfl,h.1,h.2]
 |[.ref p],h=>
  rcases h with⟨ys,h1,h2⟩|⟨kvs,h1,h2⟩
  ·exact Zmm d s σ H _ us Q I r #v[p,ys,rfl,h1,h2]
  ·exact Zrz d s σ H _ us Q I r #v[p,kvs,rfl,h1,h2]
def cInt:List V->Hp->VK->Prop:=λvs H Q=>match vs with
 |[.int i]=>Q (.int i) H
 |[.bl k]=>Q (.int (if k then 1 else 0)) H
 |_=>False
theorem yl:mR X (.type "int") cInt:=by
 intro d s σ H xs us Q I r h
 match xs,h with
 |[.int i],h=>exact Zmn d s σ H _ us Q I r (.inl #v[i,rfl,h])
 |[.bl k],h=>exact Zmn d s σ H _ us Q I r (.inr #v[k,rfl,h])
def yk(K:aE):List V->Hp->VK->Prop:=λvs H Q=>match vs with
 |[.ref p]=>∃ys,(cB K H p ys\/gA K H p ys)/\∀l,H l=Ae->Q (.ref l) (upd H l (.lst ys))
 |_=>False
theorem J6:mR X (.type "list") (yk X.K):=by
 intro d s σ H xs us Q I r h
 match xs,h with
 |[.ref p],h=>obtain⟨ys,h1,h2⟩:=h;exact Zmk d s σ H _ us Q I r #v[p,ys,rfl,h1,h2]
def HD(K:aE):List V->Hp->VK->Prop:=λvs H Q=>match vs with
 |[.ref p]=>∃ys,((cB K H p ys/\∀l,H l=Ae->Q (.ref l) (upd H l (.tup ys)))\/(gA K H p ys/\Q (.ref p) H))
 |_=>False
theorem Xy:mR X (.type "tuple") (HD X.K):=by
 intro d s σ H xs us Q I r h
 match xs,h with
 |[.ref p],h=>obtain⟨ys,h1⟩:=h;exact Zk5 d s σ H _ us Q I r #v[p,ys,rfl,h1]
def tK:List V->Hp->VK->Prop:=λvs H Q=>match vs with
 |[.int i,.int j]=>Q (.int (if j<i then j else i)) H
 |_=>False
theorem QD(hc:X.calm=Ai):mR X (.builtin "min") tK:=by
 intro d s σ H xs us Q I r h
 match xs,h with
 |[.int i,.int j],h=>exact Zrx hc d s σ H _ us Q I r #v[i,j,rfl,h]
def Gp:List V->Hp->VK->Prop:=λvs H Q=>match vs with
 |[.int i,.int j]=>Q (.int (if j>i then j else i)) H
 |_=>False
theorem OA(hc:X.calm=Ai):mR X (.builtin "max") Gp:=by
 intro d s σ H xs us Q I r h
 match xs,h with
 |[.int i,.int j],h=>exact Zry hc d s σ H _ us Q I r #v[i,j,rfl,h]
def wB(K:aE):List V->Hp->VK->Prop:=λvs H Q=>match vs with
 |[x,.ty T]=>∃t b,k6 K H x t/\eC K t (.type T)=Aa b/\Q (.bl b) H
 |[x,.ref C]=>∃t b,k6 K H x t/\eC K t (.ref C)=Aa b/\Q (.bl b) H
 |_=>False
theorem zU:mR X (.builtin "isinstance") (wB X.K):=by
 intro i s σ H xs us Q I r h
 match xs,h with
 |[x,.ty T],h=>obtain⟨t,k,h1,h2,h3⟩:=h;obtain⟨u,j,rfl,d,f⟩:=yA r;cases f;exact Zl9 I d h1 h2 λg=>#v[.bl k,H,I.tok g,rfl,h3]
 |[x,.ref C],h=>obtain⟨t,k,h1,h2,h3⟩:=h;obtain⟨u,j,rfl,d,f⟩:=yA r;cases f;exact Zl9 I d h1 h2 λg=>#v[.bl k,H,I.tok g,rfl,h3]
def KD(d:List (Str×AT))(scope:Scope):Bool:=scope.names.all λy=>decide (y.2≠.cell)&&(decide (y.2≠.local) ||decide (scope.names.lookup y.1=Aa .local))&&(decide (y.2≠.free) ||decide (d.lookup y.1=Aa .cell) ||decide (d.lookup y.1=Aa .free))
theorem aY.of(d:List (Str×AT))(h:KD d scope=Ai)(k:scope.kind=.function:=by rfl)(e:X.env.scope.names=d:=by rfl):aY X scope:=by
 have q:=vI.mp h;refine#v[k,λy hy=>?_,λy hy hl=>?_,λy hy hf=>?_]
 ·have z:=q y hy;simp only[sE,decide_eq_true_eq]at z;exact z.1.1
 ·have z:=q y hy;simp only[sE,W3,decide_eq_true_eq]at z;exact z.1.2.resolve_left λw=>w hl
 ·have z:=q y hy;simp only[sE,W3,decide_eq_true_eq]at z;show X.env.scope.names.lookup y.1=_\/X.env.scope.names.lookup y.1=_;rw[e];rcases z.2 with(w|w)|w
  ·exact absurd hf w
  ·exact .inl w
  ·exact .inr w
def yC(d:List Str)(scope:Scope)(N:List Str)(k:Nat)(sel:List Nat):Bool:=decide (N.length=k+sel.length)&&(dX sel.length).all λi=>match sel[i]?,N[k+i]? with
 |some j,Aa x=>decide (d[j]? = Aa x)&&decide (scope.names.lookup x=Aa .free)
 |_,_=>Ah
theorem bI.of{N:List Str}(d:List Str)(h:yC d scope N k sel=Ai)(e:X.N=d:=by rfl):bI X scope N k sel:=by unfold yC at h;simp only[sE,decide_eq_true_eq]at h;refine#v[h.1,λi j x h1 h2=>?_];have hi:i<sel.length:=(dS.mp h1).1;have q:=vI.mp h.2 i (wZ.mpr hi);rw[h1,h2]at q;simp only[sE,decide_eq_true_eq]at q;rw[e];exact q
end
theorem lk(hr:cQ k A):A.units+8<Bs:=by have:=hr.units;omega
def Pe(t:TE):TO:=λσ H Q=>t σ H λx c=>match x with|.int i=>Q (Aa i) c|_=>False
theorem Zte(t:TE):Pe t=W5 t:=by
 funext σ H Q;unfold Pe W5;congr 1;funext x c;apply propext
 cases x <;> first
  |exact#v[λq=>#v[_,rfl,q],λ⟨i,e,q⟩=>by cases e;exact q]
  |exact#v[λq=>False.elim q,λ⟨i,e,q⟩=>by cases e]
theorem CO(h:PE X a te):PO X (Aa a) (Pe te):=by rw[Zte];exact ZuQ h
def zR:V->Hp->VK->Prop:=λx H Q=>match x with|.int i=>Q (.int (-i)) H|_=>False
theorem Il:PV X (unaryOp .USub) zR:=λc s σ H x v Q I d h=>by cases x <;> first|exact False.elim h|exact DI c s σ H _ v Q I d #v[_,rfl,h]
theorem sW(h:PC X c a b t)(h1:AK c b=Ah:=by first|exact UG _ (by decide) (by decide)|rfl|with_unfolding_all rfl):PT X (.Compare a [c] [b] pos) (cO t):=by
 have e:cO t=tB t:=by funext σ H Q;unfold cO tB;congr 1;funext x d;exact HN
 rw[e];exact Gh h h1
section
variable {K:aE}{σ:St}{sel:List Nat}{rest:St}{H:Hp}{p:Ad}{tt:TT}{te:TE}{Q:VK}
abbrev C1(J:It)(σ:St)(k:Nat)(sel:List Nat)(g:TG)(tt:TT)(te:TE)(Q:VK)(q:Hp)(p:Ad):Prop:=
 ∃W:Nat->Nat->St->Hp->Prop,(∃m,W 0 m (cst σ k sel) (upd q p (.lst [])))/\∀i m n c,W i m n c ->
  (J.stop i c/\Q (.ref p) c)\/(J.go i c/\∀x h,J.r9 i c x h->g x n h λf r=>tt f r λb j=>if b=Ai then te f j λv l=>∃ys,l p=Aa (.lst ys)/\ys.length<sizeLine/\∃d,d<m/\W (i+1) d f (upd l p (.lst (ys++[v]))) else∃d,d<m/\W (i+1) d f j)
theorem yW{item:Nat->V}(d:Nat->Hp->Prop)(hr:sel.map (λj=>(σ[j]?).join)=rest)(h0:d 0 (upd H p (.lst [])))
  (r:∀i c,i<n->d i c->J.go i c/\∀x h,J.r9 i c x h->h=c/\x=item i) (q:∀c,d n c->J.stop n c)
  (k:∀i c (R:Hp->Prop),i<n->d i c->(∀g,d (i+1) g->R g)->tt (Aa (item i):: rest) c λb t=>if b=Ai then te (Aa (item i):: rest) t λv u=>∃ys,u p=Aa (.lst ys)/\ys.length<sizeLine/\R (upd u p (.lst (ys++[v]))) else R t)
  (z:∀c,d n c->Q (.ref p) c):C1 J σ 1 sel (aU 0) tt te Q H p:=by
 refine#v[λi m y c=>i<=n/\m=n-i+1/\(∃v,y=v::rest)/\d i c,#v[n+1,rE _,rfl,#v[Ae,?_],h0],?_]
 ·unfold cst;rw[hr];rfl
 ·rintro i m y c ⟨hi,rfl,⟨v,rfl⟩,l⟩;by_cases f:i<n
  ·right;obtain⟨hg,hy⟩:=r i c f l;refine#v[hg,λx h hx=>?_];obtain⟨rfl,rfl⟩:=hy x h hx;exact k i h (λg=>∃w,w<n-i+1/\(i+1<=n/\w=n-(i+1)+1/\(∃v,(Aa (item i):: rest:St)=v::rest)/\d (i+1) g)) f l λg h'=>#v[n-(i+1)+1,⋯,f,rfl,#v[_,rfl],h']
  ·left;have e:i=n:=⋯;subst e;exact#v[q c l,z c l]
theorem IU{a:Ad}{xs:List V}{f:Nat->Hp->Prop}(hl:∀i c,i<=xs.length->f i c->cB K c a xs):∀i c,i<xs.length->f i c->(qd K a).go i c/\∀x d,(qd K a).r9 i c x d->d=c/\x=xs.getD i .non:=λi c hi g=>by
 have q:=hl i c (yj hi) g;have e:xs[i]? = Aa (xs.getD i .non):=by simp[jY,hi]
 refine#v[#v[xs,_,q,e],λx d ⟨h1,h2⟩=>#v[h1,?_]];have:=h2 xs q;rw[e]at this;exact(Option.some.inj this).symm
theorem ZpU{a:Ad}{xs:List V}{f:Nat->Hp->Prop}(hl:∀i c,i<=xs.length->f i c->gA K c a xs):∀i c,i<xs.length->f i c->(va K a).go i c/\∀x d,(va K a).r9 i c x d->d=c/\x=xs.getD i .non:=λi c hi g=>by
 have q:=hl i c (yj hi) g;have e:xs[i]? = Aa (xs.getD i .non):=by simp[jY,hi]
 refine#v[#v[xs,_,q,e],λx d ⟨h1,h2⟩=>#v[h1,?_]];have:=h2 xs q;rw[e]at this;exact(Option.some.inj this).symm
theorem ZpV{lo:Int}{n:Nat}{f:Nat->Hp->Prop}:∀i c,i<n->f i c->(qi lo n).go i c/\∀x d,(qi lo n).r9 i c x d->d=c/\x=.int (lo+i):=λi c hi g=>#v[hi,λx d h=>h]
theorem kO{H:Hp}{p:Ad}(hp:H p=Ae):bL H (upd H p o):=λb u e=>by rw[bE (dW e hp)];exact e
theorem Zf5{xs:List V}{f:V->V}{i:Nat}(hi:i<xs.length):(xs.take i).map f++[f (xs.getD i .non)]=(xs.take (i+1)).map f:=by rw[pJ,fN];congr 1;simp[jY,hi]
theorem Zrr(f:V->V)(hl:cB K H a xs)(hp:H p=Ae)(hr:sel.map (λj=>(σ[j]?).join)=rest)(hz:xs.length<=sizeLine)
  (he:∀x d (g:VK),x∈xs->bL H d->g (f x) d->te (Aa x::rest) d g) (h:Q (.ref p) (upd H p (.lst (xs.map f)))):C1 (qd K a) σ 1 sel (aU 0) kt te Q H p:=by
 refine yW (n:=xs.length) (item:=λi=>xs.getD i .non) (λi c=>c=upd H p (.lst ((xs.take i).map f))) hr (by simp) (IU ?_) ?_ ?_ ?_
 ·rintro i c hi rfl;exact(kO hp).seq hl
 ·rintro c rfl;exact#v[xs,(kO hp).seq hl,bV _]
 ·rintro i c R hi rfl k;unfold kt;dsimp only;rw[if_pos rfl];refine he _ _ _ (by rw[show xs.getD i .non=xs[i] from by simp[jY,hi]];exact tR _) (kO hp) #v[_,cN,?_,k _ ?_]
  ·rw[aQ,uw];omega
  ·rw[IN,Zf5 hi]
 ·rintro c rfl;rw[rC];exact h
theorem Zs9{lo:Int}(f:Int->V)(hp:H p=Ae)(hr:sel.map (λj=>(σ[j]?).join)=rest)(hz:n<=sizeLine)
  (he:∀(i:Nat) d (g:VK),i<n->bL H d->g (f (lo+i)) d->te (Aa (.int (lo+i)):: rest) d g) (h:Q (.ref p) (upd H p (.lst ((dX n).map λi=>f (lo+(i:Nat)))))):C1 (qi lo n) σ 1 sel (aU 0) kt te Q H p:=by
 refine yW (n:=n) (item:=λi=>.int (lo+i)) (λi c=>c=upd H p (.lst ((dX i).map λi=>f (lo+(i:Nat))))) hr (by simp) ZpV ?_ ?_ ?_
 ·rintro c rfl;exact bV _
 ·rintro i c R hi rfl k;unfold kt;dsimp only;rw[if_pos rfl];refine he i _ _ hi (kO hp) #v[_,cN,?_,k _ ?_]
  ·rw[aQ,ub];omega
  ·rw[IN,wN,fN];rfl
 ·rintro c rfl;exact h
theorem ZnA(q:V->Bool)(f:V->V)(hl:cB K H a xs)(hp:H p=Ae)(hr:sel.map (λj=>(σ[j]?).join)=rest)(hz:xs.length<=sizeLine)
  (ht:∀x c (g:Bool->Hp->Prop),x∈xs->bL H c->g (q x) c->tt (Aa x::rest) c g)
  (he:∀x c (g:VK),x∈xs->q x=Ai->bL H c->g (f x) c->te (Aa x::rest) c g) (k:Q (.ref p) (upd H p (.lst ((xs.filter q).map f)))):C1 (qd K a) σ 1 sel (aU 0) tt te Q H p:=by
 refine yW (n:=xs.length) (item:=λi=>xs.getD i .non) (λi d=>d=upd H p (.lst (((xs.take i).filter q).map f))) hr (by simp) (IU ?_) ?_ ?_ ?_
 ·rintro i d hi rfl;exact(kO hp).seq hl
 ·rintro d rfl;exact#v[xs,(kO hp).seq hl,bV _]
 ·rintro i d R hi rfl h;have ex:xs.getD i .non=xs[i]:=by simp[jY,hi]
  have hm:xs.getD i .non∈xs:=by rw[ex];exact tR _
  have et:xs.take (i+1)=xs.take i++[xs.getD i .non]:=by rw[pJ];simp[jY,hi]
  refine ht _ _ _ hm (kO hp) ?_;cases hq:q (xs.getD i .non) with
  |true=>
   rw[if_pos rfl];refine he _ _ _ hm hq (kO hp) #v[_,cN,?_,h _ ?_]
   ·rw[aQ];have:=xf q (xs.take i);rw[uw]at this;omega
   ·rw[IN,et,uJ,fN,uX,if_pos hq];rfl
  |false=>rw[if_neg (by simp)];refine h _ ?_;rw[et,uJ,fN,uX,if_neg (by rw[hq];simp),Ri,yB,xt]
 ·rintro d rfl;rw[rC];exact k
end
def t6(x:V)(k:Ad->Prop):Prop:=match x with|.ref p=>k p|_=>False
theorem QL:(∃p,x=.ref p/\k p)=t6 x k:=by
 apply propext
 cases x <;> first
  |exact#v[λ⟨p,e,q⟩=>by cases e;exact q,λq=>#v[_,rfl,q]]
  |exact#v[λ⟨p,e,q⟩=>(by cases e),λq=>False.elim q]
def OY(vs:List V)(k:Int->Prop):Prop:=match vs with|[.int j]=>k j|_=>False
theorem Zoq{vs:List V}:(∃j,vs=[.int j]/\k j)=OY vs k:=by
 apply propext;constructor
 ·rintro⟨j,rfl,q⟩;exact q
 ·intro h;unfold OY at h;split at h
  ·exact#v[_,rfl,h]
  ·exact h.elim
def Q8(vs:List V)(k:Int->Int->Prop):Prop:=match vs with|[.int i,.int j]=>k i j|_=>False
theorem Zth{vs:List V}:(∃i,∃j,vs=[.int i,.int j]<&&>k i j)=Q8 vs k:=by
 apply propext;constructor
 ·rintro⟨i,j,rfl,q⟩;exact q
 ·intro h;unfold Q8 at h;split at h
  ·exact#v[_,_,rfl,h]
  ·exact h.elim
def sH(J:It)(g:TG)(j:TS)(D:Ends)(σ:St)(H:Hp):Prop:=∃W:Nat->Nat->St->Hp->Prop,(∃m,W 0 m σ H)/\∀i m σ H,W i m σ H ->
 (J.stop i H/\D.nx σ H)\/(J.go i H/\∃N:St->Hp->Prop,(∀f c,N f c->∃d,d<m/\W (i+1) d f c)/\∀x c,J.r9 i H x c->g x σ c λk h=>j { D with nx:=N,ct:=N,bk:=D.nx } k h)
def sg(J:It)(σ:St)(k:Nat)(sel:List Nat)(g:TG)(f:TT)(d:TE)(Q:VK)(c:Hp):Prop:=∀p,c p=Ae->C1 J σ k sel g f d Q c p
section
variable {K:aE}{te:TE}{ta:TA}{g:TG}{tb:TS}{D:Ends}{σ:St}{H:Hp}{p:Ad}{xs:List V}{k:Nat}{sel:List Nat}{tt:TT}{el:TE}{Q:VK}
theorem ZpL:gU (jV K te) g tb D σ H=te σ H (λx c=>t6 x λp=>(∃xs,cB K c p xs)<&&>sH (qd K p) g tb D σ c):=by unfold gU jV;congr 1;funext x c;exact QL
theorem Zr7:gU (yZ K te) g tb D σ H=te σ H (λx c=>t6 x λp=>(∃xs,gA K c p xs)<&&>sH (va K p) g tb D σ c):=by unfold gU yZ;congr 1;funext x c;exact QL
theorem ZpJ:gU (qm ta) g tb D σ H=ta σ H (λvs c=>OY vs λj=>-(2^62)<=j<&&>j<2^62<&&>sH (qi 0 j.toNat) g tb D σ c):=by unfold gU qm;congr 1;funext x c;exact Zoq
theorem ZpI:gU (Es ta) g tb D σ H=ta σ H (λvs c=>Q8 vs λi j=>(-(2^62)<=i<&&>i<2^62 <&&> -(2^62)<=j<&&>j<2^62)<&&>sH (qi i (j-i).toNat) g tb D σ c):=by unfold gU Es;congr 1;funext x c;exact Zth
theorem ZoK:iP (jV K te) k sel g tt el σ H Q=te σ H (λx c=>t6 x λp=>(∃xs,cB K c p xs)<&&>sg (qd K p) σ k sel g tt el Q c):=by unfold iP jV;congr 1;funext x c;exact QL
theorem ZpO:iP (yZ K te) k sel g tt el σ H Q=te σ H (λx c=>t6 x λp=>(∃xs,gA K c p xs)<&&>sg (va K p) σ k sel g tt el Q c):=by unfold iP yZ;congr 1;funext x c;exact QL
theorem ZoJ:iP (qm ta) k sel g tt el σ H Q=ta σ H (λvs c=>OY vs λj=>-(2^62)<=j<&&>j<2^62<&&>sg (qi 0 j.toNat) σ k sel g tt el Q c):=by unfold iP qm;congr 1;funext x c;exact Zoq
theorem vu(c:Nat->St->Hp->Prop)(h0:c 0 σ H)(hk:∀i σ H,i<=xs.length->c i σ H->cB K H p xs)
  (hs:∀i x σ H,xs[i]? = Aa x->c i σ H->g x σ H λf d=>tb { D with nx:=c (i+1),ct:=c (i+1),bk:=D.nx } f d) (hd:∀σ H,c xs.length σ H->D.nx σ H):sH (qd K p) g tb D σ H:=ZsZ c h0 hk hs hd
theorem ZsX(c:Nat->St->Hp->Prop)(h0:c 0 σ H)(hk:∀i σ H,i<=xs.length->c i σ H->gA K H p xs)
  (hs:∀i x σ H,xs[i]? = Aa x->c i σ H->g x σ H λf d=>tb { D with nx:=c (i+1),ct:=c (i+1),bk:=D.nx } f d) (hd:∀σ H,c xs.length σ H->D.nx σ H):sH (va K p) g tb D σ H:=Zvd c h0 hk hs hd
theorem vF{lo:Int}(c:Nat->St->Hp->Prop)(h0:c 0 σ H)
  (hs:∀(i:Nat) σ H,i<n->c i σ H->g (.int (lo+i)) σ H λf d=>tb { D with nx:=c (i+1),ct:=c (i+1),bk:=D.nx } f d) (hd:∀σ H,c n σ H->D.nx σ H):sH (qi lo n) g tb D σ H:=Zq9 c h0 hs hd
end
theorem CY{α:Type}{xs:List α}{i:Int}(d:α)(h0:0<=i)(h1:i<xs.length):mN xs i=Aa (xs.getD i.toNat d):=by
 obtain⟨n,rfl⟩:=vP h0;have hn:n<xs.length:=⋯;have e:xs[n]? = Aa (xs.getD n d):=by simp[jY,hn]
 exact wx e
theorem ZsV{α β:Type}(f:α->β)(xs:List α)(n:Nat)(d:α):(xs.map f).getD n (f d)=f (xs.getD n d):=by simp[jY]
theorem Zvv{α β:Type}{f:α->β}{xs:List α}{i:Int}(d:α)(h0:0<=i)(h1:i<xs.length):mN (xs.map f) i=Aa (f (xs.getD i.toNat d)):=by rw[CY (f d) h0 (by rw[aQ];exact h1),ZsV]
theorem uc{α β:Type}{f:α->β}{xs:List α}{i:Nat}{y:β}(h:(xs.map f)[i]? = Aa y):∃x,xs[i]? = Aa x/\y=f x:=by
 rw[gX]at h;cases e:xs[i]? with
 |none=>rw[e]at h;cases h
 |some x=>rw[e]at h;exact#v[x,rfl,(Option.some.inj h).symm]
theorem xX(hg:Gl X x)(hm:∃u,X.mg x=Aa u/\cH v u)(hd:(x==("__debug__" : Str))=Ah:=by decide):PE X (.Name x pos) (tC v):=by obtain⟨u,h1,h2⟩:=hm;exact Ik hg h1 h2 hd
def IE:Expr->Option V
 |.Constant (.int i) _ _=>Aa (.int i)
 |.Constant (.bool b) _ _=>Aa (.bl b)
 |.Constant .none _ _=>Aa .non
 |.Constant (.str x) _ _=>Aa (.str x)
 |_=>Ae
def Rj:List Expr->Option (List V)
 |[]=>Aa []
 |e::r=>match IE e,Rj r with|some v,Aa vs=>Aa (v::vs)|_,_=>Ae
def Jd(vs:List V):TA:=λ_ H Q=>Q vs H
theorem Zqt{e:Expr}(h:IE e=Aa v):PE X e (tC v):=by
 unfold IE at h
 split at h <;> first
  |(cases h;exact aR)
  |(cases h;exact kH)
  |(cases h;exact rl)
  |(cases h;exact wO)
  |cases h
theorem ZoM{e:Expr}(h:IE e=Aa v):As (e::es) env=(Ah,eval e env):: As es env:=by unfold IE at h;split at h <;> first|rfl|cases h
theorem Pv:∀{es:List Expr}{vs:List V},Rj es=Aa vs->PA X es (Jd vs)
 |[],vs,h=>by have e:vs=[]:=(Option.some.inj h).symm;subst e;exact λpos c s σ H Q I q=>aM pos c s σ H Q I q
 |e::r,vs,h=>by
  unfold Rj at h;cases h1:IE e with
  |none=>rw[h1]at h;cases h
  |some v=>
   cases h2:Rj r with
   |none=>rw[h1,h2]at h;cases h
   |some ws=>rw[h1,h2]at h;have d:v::ws=vs:=Option.some.inj h;subst d;exact λpos c s σ H Q I q=>aD (Zqt h1) (Pv h2) (ZoM h1) pos c s σ H Q I q
def VA:V->Option Int->Option Int->Hp->VK->Prop:=λx lo hi H Q=>match x with
 |.str z=>z.length<=sizeLine/\Q (.str (Txt.slice z lo hi)) H
 |_=>False
theorem Mb:xM X VA:=by
 intro d s σ H x v r w lo hi p Q I n hs pl g h;cases x with
 |str z=>
  obtain⟨t,rfl⟩:=n;obtain⟨hz,q⟩:=h;refine#v["str",_,F.slot_str_getitem.lookup,typeIs_str _ _ _,?_];have c:∀t' k,EP X d σ Q (.str (Txt.slice z lo hi) t') { s with toks:=k }:=λt' k=>#v[.str (Txt.slice z lo hi),H,I.tok k,#v[t',rfl],q];cases pl with
  |none=>cases g with
   |none=>exact AZ (l:=Ae) (u:=Ae) (st:=Ae) hs rfl (BC #v[lC (Txt.slice_le z _ _) hz,c])
   |int j f=>exact AZ (l:=Ae) (u:=Aa (j,f)) (st:=Ae) hs rfl (BC #v[lC (Txt.slice_le z _ _) hz,c])
  |int i m=>cases g with
   |none=>exact AZ (l:=Aa (i,m)) (u:=Ae) (st:=Ae) hs rfl (BC #v[lC (Txt.slice_le z _ _) hz,c])
   |int j f=>exact AZ (l:=Aa (i,m)) (u:=Aa (j,f)) (st:=Ae) hs rfl (BC #v[lC (Txt.slice_le z _ _) hz,c])
 |_=>exact False.elim h
def tG(K:aE):List V->Hp->VK->Prop:=λvs H Q=>match vs with
 |[.ref p]=>∃bs:List Bool,cB K H p (bs.map V.bl)/\Q (.bl (bs.all id)) H
 |_=>False
theorem Rs(hc:X.calm=Ai):mR X (.builtin "all") (tG X.K):=by
 intro l s σ H xs us Q I r h
 match xs,h with
 |[.ref p],h=>
  obtain⟨bs,h1,q⟩:=h;obtain⟨u,rfl,j⟩:=sG r;cases j;obtain⟨its,m,pl,hz⟩:=I.list h1;have c:=m.length;rw[aQ]at c;have f:p<s.heap.objs.size:=by obtain⟨_,e,_⟩:=pl.isList;exact Heap.lt_size e
  have hh:X.A.in1.handled=Ae:=I.ok.hd hc;refine call_all_walk (AR pl.isList #v[s.heap.objs.size,_,_,its.toArray.size,_,_,λi=>bs.getD i Ah,rfl,Walks.list hh s.heap.objs.size p (gW f) its.toArray,#v[#v[_,Heap.get?_push_size _ rfl,rfl,rfl],pl.isList.push _],?_,?_])
  ·intro i v w t y hv hq;have d:its[i]? = Aa v:=by simpa using hv
   have hi:i<its.length:=(dS.mp d).1;obtain⟨u,hu,j⟩:=m.get (i:=i) (x:=.bl (bs.getD i Ah)) (by rw[gX];simp[jY,show i<bs.length by omega]);rw[d]at hu;cases hu;cases j;exact AE hq
  ·intro h' B n;refine#v[.bl (bs.all id),H,?_,?_,q]
   ·exact I.kept λb o e=>n b o (by simp;exact gW (Heap.lt_size e)) (Heap.get?_push_of_some _ e)
   ·have e:((dX its.toArray.size).all λi=>bs.getD i Ah)=bs.all id:=by
     rw[iO,<-c];rw[HJ];simp only[vI,wZ,id_eq];constructor
     ·intro z b hb;obtain⟨i,hi,rfl⟩:=List.mem_iff_getElem.mp hb;have:=z i hi;simpa[jY,hi] using this
     ·intro z i hi;have:=z bs[i] (tR _);simpa[jY,hi] using this
    rw[e];rfl
def qh:R2:=λx y H Q=>match x,y with
 |.int i,.int j=>xn i j/\Q (.int (i*j)) H
 |.str z,.int n=>MulOk z n/\Q (.str (Txt.mul z n)) H
 |_,_=>False
theorem rJ:dO X (AD .Mult) qh:=by
  intro c s σ H x y v u Q I f i h
  cases x <;> cases y <;> first
    |exact False.elim h
    |exact Gm c s σ H _ _ v u Q I f i #v[_,_,rfl,rfl,h.1,h.2]
    |(
     obtain⟨t,rfl⟩:=f;obtain⟨t',rfl⟩:=i;exact SB.mul h.1 λd k=>#v[.str _,H,I.tok k,#v[d,rfl],h.2])
structure iS (H:Hp) (p:Ad) (o:HO) (H':Hp):Prop where
 cL:H p=Ae
 eq:H'=upd H p o
theorem iS.same(n:iS H p o H'):bL H H':=by rw[n.eq];exact kO n.cL
theorem iS.at_(n:iS H p o H'):H' p=Aa o:=by rw[n.eq];exact cN
theorem iS.ne(n:iS H p o H')(h:b≠p):H' b=H b:=by rw[n.eq];exact bE h
theorem iS.sq{K:aE}{xs:List V}(n:iS H p (.lst xs) H'):cB K H' p xs:=.of n.at_
theorem CK{F:Ad->Hp->Prop}{o:HO}:(∀p,H p=Ae->F p (upd H p o))=∀p H',iS H p o H'->F p H':=propext #v[λh p H' n=>by rw[n.eq];exact h p n.cL,λh p hp=>h p _ #v[hp,rfl]]
section
variable {K:aE}{t:TA}{σ:St}{H:Hp}{Q:VK}{x:V}{lo hi:Option Int}{vs:List V}{kvs:List (Key×V)}
theorem Hb:kT t σ H Q=t σ H λxs d=>xs.length<=sizeLine/\∀p c,iS d p (.lst xs) c->Q (.ref p) c:=by unfold kT;congr 1;funext xs d;rw[CK (F:=λp c=>Q (.ref p) c)]
theorem Ys:pM t σ H Q=t σ H λxs d=>xs.length<=sizeLine/\∀p c,iS d p (.tup xs) c->Q (.ref p) c:=by unfold pM;congr 1;funext xs d;rw[CK (F:=λp c=>Q (.ref p) c)]
theorem Zr9:vR σ H Q=∀p c,iS H p (.dK []) c->Q (.ref p) c:=by unfold vR;rw[CK (F:=λp c=>Q (.ref p) c)]
theorem C8:Ej K (.ref p) lo hi H Q=∃xs,cB K H p xs/\∀q c,iS H q (.lst (xT xs lo hi)) c->Q (.ref q) c:=by unfold Ej;dsimp only;congr 1;funext xs;rw[CK (F:=λp c=>Q (.ref p) c)]
theorem Zvt:yk K [.ref p] H Q=∃ys,(cB K H p ys\/gA K H p ys)/\∀l c,iS H l (.lst ys) c->Q (.ref l) c:=by unfold yk;dsimp only;congr 1;funext xs;rw[CK (F:=λp c=>Q (.ref p) c)]
theorem Ztd:HD K [.ref p] H Q=∃ys,((cB K H p ys/\∀l c,iS H l (.tup ys) c->Q (.ref l) c)\/(gA K H p ys/\Q (.ref p) H)):=by unfold HD;dsimp only;congr 1;funext xs;rw[CK (F:=λp c=>Q (.ref p) c)]
end
section
variable {K:aE}{σ:St}{sel:List Nat}{rest:St}{H:Hp}{tt:TT}{te:TE}{Q:VK}
theorem IY(f:V->V)(hl:cB K H a xs)(hr:sel.map (λj=>(σ[j]?).join)=rest)(hz:xs.length<=sizeLine)
  (he:∀x c (d:VK),x∈xs->bL H c->d (f x) c->te (Aa x::rest) c d) (g:∀p c,iS H p (.lst (xs.map f)) c->Q (.ref p) c):sg (qd K a) σ 1 sel (aU 0) kt te Q H:=
 λp hp=>Zrr f hl hp hr hz he (g p _ #v[hp,rfl])
theorem Zrt{lo:Int}(f:Int->V)(hr:sel.map (λj=>(σ[j]?).join)=rest)(hz:n<=sizeLine)
  (he:∀(i:Nat) c (d:VK),i<n->bL H c->d (f (lo+i)) c->te (Aa (.int (lo+i)):: rest) c d) (g:∀p c,iS H p (.lst ((dX n).map λi=>f (lo+(i:Nat)))) c->Q (.ref p) c):sg (qi lo n) σ 1 sel (aU 0) kt te Q H:=
 λp hp=>Zs9 f hp hr hz he (g p _ #v[hp,rfl])
theorem Li(q:V->Bool)(f:V->V)(hl:cB K H a xs)(hr:sel.map (λj=>(σ[j]?).join)=rest)(hz:xs.length<=sizeLine)
  (ht:∀x c (d:Bool->Hp->Prop),x∈xs->bL H c->d (q x) c->tt (Aa x::rest) c d)
  (he:∀x c (d:VK),x∈xs->q x=Ai->bL H c->d (f x) c->te (Aa x::rest) c d) (g:∀p c,iS H p (.lst ((xs.filter q).map f)) c->Q (.ref p) c):sg (qd K a) σ 1 sel (aU 0) tt te Q H:=
 λp hp=>ZnA q f hl hp hr hz ht he (g p _ #v[hp,rfl])
end
def GU(K:aE):V->Option Int->Option Int->Hp->VK->Prop:=λx lo hi H Q=>match x with
 |.ref p=>∃xs,cB K H p xs/\∀q c,iS H q (.lst (xT xs lo hi)) c->Q (.ref q) c
 |.str z=>z.length<=sizeLine/\Q (.str (Txt.slice z lo hi)) H
 |_=>False
theorem s_u:xM X (GU X.K):=by
 intro c s σ H x v i j lo hi g Q I f hs pl d h;cases x with
 |ref p=>exact F5 c s σ H (.ref p) v i j lo hi g Q I f hs pl d (by rw[C8];exact h)
 |str z=>exact Mb c s σ H (.str z) v i j lo hi g Q I f hs pl d h
 |_=>exact False.elim h
end L2
namespace DZ
theorem alive{Q:Option Obj->Ag->Prop}(h:s.heap.get? a=Aa o)(q:Q (Aa o) s):An M A (Cb a) Q E s:=λΓ p _=>by unfold Cb;rw[Sem.wp_loadIfAlive,h];exact q
structure tX (z TI TO i1 i2 t l:Ad) (xs ys:Array Ac) (i:Nat) (h:Ax):Prop where
 zo:∃f0,∃f1,h.get? z=Aa { cls:=.type "zip",dict:=Ae,data:=.fields #[f0,.bool f1,.bool Ah,.ref TI,.ref TO],slots:=#[] } <&&>
  (f0=.none\/∃T:Ad,∃o:Obj,f0=Be T<&&>h.get? T=Aa o<&&>T≠z<&&>T≠TO<&&>T≠i1<&&>T≠i2)
 ti:BD h TI (.ref i1) (.ref i2)
 to:∃a,∃b,BD h TO a b
 a1:h.IsTupleIter i1 t i
 a2:h.IsListIter i2 l i
 l1:h.IsTuple t xs
 l2:h.IsList l ys
theorem Zmf:entryFor table "zip.__getattribute__" = Aa Builtin.«object.__getattribute__»:=entryFor_alias (id':="object.__getattribute__") (by kernel_rfl) (by first|rfl|decide +kernel) ∅ (by kernel_rfl)
theorem Znm:Bt (.type "zip") "keys" = pure Ae:=by rw[Bh,AM];kernel_rfl
section
variable {prog:Al}{w:Au}{A:At}{E:Ac->Ag->Prop}{h:Ax}{g:Array BP}{d:Drawn}{t:Nat}{os:OsState}{z:Ad}{vs:Array Ac}
theorem Yb{Q:Fin->Ag->Prop}(hh:A.handled=Ae)(hz:h.get? z=Aa { cls:=.type "zip",dict:=Ae,data:=.fields vs,slots:=#[] })
  (i:∀h' e t',(∀c o,h.get? c=Aa o->h'.get? c=Aa o)->(∃o,h'.get? e=Aa o/\o.cls=.type "AttributeError")->E (.ref e) #v[h',g,d,t',os]):
  An (model prog w) A (Builtin.«object.__getattribute__» #v[[.ref z,.str "keys" j],[]]) Q E #v[h,g,d,t,os]:=by
 have k:(#v[h,g,d,t,os]:Ag).TypeIs (.ref z) "zip":=#v[_,hz,rfl];have f4:=Znm
 repeat (any_goals (first|assumption|wp_step))
 refine Cc hh (λh' f e x=>?_) (attrMsg_fits ∅ ∅);obtain⟨t',l,he⟩:=x.there;exact i h' e f (λc o q=>x.keeps c o q) #v[_,he,rfl]
theorem Xv(hh:A.handled=Ae)(hz:h.get? z=Aa { cls:=.type "zip",dict:=Ae,data:=.fields vs,slots:=#[] })
  (f:∀h' e t',(∀c o,h.get? c=Aa o->h'.get? c=Aa o)->(∃o,h'.get? e=Aa o/\o.cls=.type "AttributeError")->R (.error (.ref e)) #v[h',g,d,t',os]):
  AX (model prog w) A (.call (.builtin "zip.__getattribute__") #v[[.ref z,.str "keys" i],[]]) R #v[h,g,d,t,os]:=
 Bx F.slot_zip_getattribute.plain Zmf (F.slot_zip_getattribute.check _ _ _ _ _ _ _ _ (show(#v[h,g,d,t,os]:Ag).TypeIs (.ref z) "zip" from#v[_,hz,rfl]) (F.args_zip_getattribute_2 _ _) (Yb hh hz f))
theorem Wl{Q:Ac->Ag->Prop}(hh:A.handled=Ae)(hz:h.get? z=Aa { cls:=.type "zip",dict:=Ae,data:=.fields vs,slots:=#[] })
  (i:∀h' e t',(∀c o,h.get? c=Aa o->h'.get? c=Aa o)->(∃o,h'.get? e=Aa o/\o.cls=.type "AttributeError")->E (.ref e) #v[h',g,d,t',os]):
  An (model prog w) A (getAttrBy (.ref z) (.str "keys" l) Ah) Q E #v[h,g,d,t,os]:=by
 have m:(#v[h,g,d,t,os]:Ag).TypeIs (.ref z) "zip":=#v[_,hz,rfl];have f2:=F.slot_zip_getattribute.lookup;have f3:=F.slot_zip_getattribute.bind (.ref z);have f1:=Bj
 repeat (any_goals (first|assumption|wp_step))
 refine Xv hh hz λh' e t' k he=>?_;obtain⟨o,ho,hc⟩:=he;have j:(#v[h',g,d,t',os]:Ag).TypeIs (.ref e) "AttributeError":=#v[o,ho,hc];have f:=i h' e t' k #v[o,ho,hc];have f5:Bt (.type "zip") "__getattr__" = pure Ae:=by rw[Bh,AM];kernel_rfl
 show An _ _ (Bk _ _ _ _ _ _ _) _ _ _;unfold Bk
 repeat (any_goals (first|assumption|wp_step))
theorem RW{Q:Option Ac->Ag->Prop}(hh:A.handled=Ae)(hz:h.get? z=Aa { cls:=.type "zip",dict:=Ae,data:=.fields vs,slots:=#[] })
  (hq:∀h' t',(∀c o,h.get? c=Aa o->h'.get? c=Aa o)->Q Ae #v[h',g,d,t',os]):
  An (model prog w) A (getAttr? (.ref z) "keys") Q E #v[h,g,d,t,os]:=by
 unfold getAttr? getAttrBy?;have f1:=Bj;refine Af (Cy ?_);refine Af (AV (Wl hh hz λh' e t' k he=>?_));obtain⟨o,ho,hc⟩:=he;refine Af (BQ (T:="AttributeError") (b:=Ai) #v[o,ho,hc] f1 ?_);exact Aj (hq _ _ k)
end
theorem ZH:mroOf (.type "dict")=pure [.type "dict",.type "object"]:=by rw[mroOf_type];kernel_rfl
theorem Znn:Bt (.type "dict") "__new__" = pure (Aa (.builtin "dict.__new__")):=by rw[Bh,AM];kernel_rfl
theorem UW:TypeCalled "dict" "dict.__new__" "dict.__init__":=#v[∅,∅,#v[_,_,ZH],madeBy_type ZH Znn ∅,∅,by rw[isSubtype_type];kernel_rfl,F.slot_dict_init]
theorem Zu(a:Ac):checkTypeCall "dict" #v[[a],[]]=pure ():=by kernel_rfl
theorem Zjz(a:Ac):BR "dict.__new__" #v[[.type "dict",a],[]]=pure ():=by kernel_rfl
theorem ZjA:entryFor table "dict.__new__" = Aa Builtin.«dict.__new__»:=entryFor_of_tree (by kernel_rfl)
theorem Pa:entryFor table "dict.update.loop" = Aa Builtin.«dict.update.loop»:=entryFor_of_tree (by kernel_rfl)
theorem Zfx:plainId "dict.__new__" = Ai:=∅
theorem xi:plainId "dict.update.loop" = Ai:=∅
theorem QT:isSubtype (.type "dict") (.type "dict")=pure Ai:=by rw[isSubtype_type];kernel_rfl
theorem YG(a:Ac){Q:Ac->Ag->Prop}(h:Q (.ref s.heap.objs.size) { s with heap:=s.heap.push { cls:=.type "dict",data:=.dict #[] } }):
  AX (model prog w) A (.call (.builtin "dict.__new__") #v[[.type "dict",a],[]]) (wants Q E) s:=by
 refine codeAny_of_tree ?_;show An _ A.in1 (do BR "dict.__new__" #v[[.type "dict",a],[]];again (.builtin "dict.__new__" #v[[.type "dict",a],[]])) _ _ s;refine Af (wpAny_of_eq (Zjz a) (Aj #v[Bu Zfx _,AQ ZjA ?_]));rw[Around.under_plainId Zfx _];have c:=QT;have hm:=ZH;obtain⟨hp,g,d,i,f⟩:=s
 wp_walk
 exact h
end DZ
namespace DZ
section
theorem Zob{vs:Array Ac}{Q:Ac->Ag->Prop}(hz:s.heap.get? z=Aa { cls:=.type "zip",dict:=Ae,data:=.fields vs,slots:=#[] })(h:Q (.ref z) s):An (model prog w) A (pyIter (.ref z)) Q E s:=by have c:s.TypeIs (.ref z) "zip":=#v[_,hz,rfl];refine wpAny_pyIter_slot c F.slot_zip_iter (Bc F.slot_zip_iter c F.entry_zip_iter ?_ (F.args_zip_iter_1 _));show An _ _ (ret (.ref z)) _ _ s;exact Aj #v[_,rfl,"zip",_,c,F.slot_zip_next.lookup,h]
theorem Zw[DecidableEq κ](kvs:List (κ×Ac))(k:κ)(v:Ac):(stored kvs k v).length<=kvs.length+1:=by
 unfold stored;split
 ·rw[aQ];exact RL _
 ·rw[eG];exact bV _
variable [DecidableEq κ]
end
end DZ
namespace L2
theorem Inv.dz{ch:List Ad}(I:Inv X pins σ H s)(f:∀b∈ch,qL X pins H b)(hd:s.heap.objs.size<=d)(k:∀b o,b∉ch->s.heap.get? b=Aa o->h'.get? b=Aa o)
  (h:gI X.prog X.w (upd H d i) h' d i):Inv X pins σ (upd H d i) { s with heap:=h',toks:=t' }:=by
 have hn:H d=Ae:=I.bP.fresh hd;have j:∀{b o},s.heap.get? b=Aa o->b≠d:=λe=>gW (nr (Heap.lt_size e) hd);have g:∀b u,H b=Aa u->b∉ch:=λb u e z=>by rw[(f b z).1]at e;cases e
 refine I.step (g':=s.gens) (d':=s.drawn) (ch:=ch) (λb hb=>?_) (λb o _ _ hc e _=>k b o hc e) (λb o _ _ hc e _=>#v[o.slots,k b o hc e]) (λb o _ e n=>by rw[bE (j e)];exact n)
  (λb o hc e=>#v[o,k b o hc e]) (λb xs e=>by rw[bE (dW e hn)];exact e) (λb o u e=>by rw[bE (dW e hn)];exact e) (λb l e=>#v[#[],by rw[bE (dW e hn),e];simp]) (λm hm=>?_) (λb u e=>?_) I.bare
 ·obtain⟨f0,f1,f2,f3,f4,f5⟩:=f b hb;exact#v[f3,f1,f4,f5]
 ·obtain⟨o,es,ep,ho,r⟩:=hm;exact#v[o,es,ep,k _ o (λz=>(f _ z).2 rfl) ho,r]
 ·by_cases hb:b=d
  ·subst hb;rw[cN]at e;cases e;exact h
  ·rw[bE hb]at e;refine(I.bP b u e).mT (λc v hc q=>k c v ?_ q) (λc q=>by rw[bE (dW q hn)];exact q) λc xs q=>by rw[bE (dW q hn)];exact q
   rcases hc with z|z
   ·rw[z];exact g b u e
   ·exact g c _ z
end L2
namespace NM
def okc(c:Nat):Prop:=97<=c/\c<=122
structure Nm (w:List Nat):Prop where
 pos:1<=w.length
 le:w.length<=8
 ok:∀c∈w,okc c
def nx(p:List Nat)(c k:Nat):List Nat:=p++(c+1):: gR k 97
inductive Nx:List Nat->List Nat->Prop where
 |at(p:List Nat) (c k:Nat):c≠122->Nx (p++c::gR k 122) (nx p c k)
 |all (n:Nat):Nx (gR n 122) (gR (n%8+1) 97)
inductive Wf:Nat->List Nat->List Nat->Prop where
 |zero (w:List Nat):Wf 0 w w
 |succ {k:Nat}{u v w:List Nat}:Nx u v->Wf k v w->Wf (k+1) u w
end NM
namespace ME
section
variable [DecidableEq κ]
def m2(f:α->β)(e:List (κ×α)):List (κ×β):=e.map λp=>(p.1,f p.2)
abbrev Gt(κ:Type):=κ×κ×List κ
end
end ME
namespace MC
def cV:Nat->List Nat×Nat×Nat
 | 0=>([],1,1)
 |n+1=>((cV n).1.map (λc=>c |||(c*2^(cV n).2.2))++[(cV n).2.1*2^(cV n).2.2],(cV n).2.1 |||((cV n).2.1*2^(cV n).2.2),(cV n).2.2*2)
theorem V0(c w j:Nat):(c*2^w).testBit j=(decide (w<=j)&&c.testBit (j-w)):=by rw[<-Nat.shiftLeft_eq,Nat.testBit_shiftLeft]
theorem OQ:∀n,(cV n).2.2=2^n
 | 0=>rfl
 |n+1=>by show(cV n).2.2*2=_;rw[OQ n,zO]
theorem OI(h:c<2^w)(hj:w<=j):c.testBit j=Ah:=C7 (nr h (zg (by decide) hj))
theorem RF:∀n,(cV n).2.1=2^(2^n)-1
 | 0=>rfl
 |n+1=>by
  show(cV n).2.1 |||((cV n).2.1*2^(cV n).2.2)=_
  rw[RF n,OQ n];apply Nat.eq_of_testBit_eq;intro j;rw[QK,V0,Jq,Jq,Jq,zO];by_cases h1:j<2^n
  ·simp[h1];omega
  ·by_cases h2:j<2^n*2
   ·simp[h1,h2];omega
   ·simp[h1,h2];omega
theorem RY:∀n,(cV n).1.length=n
 | 0=>rfl
 |n+1=>by show(_++[_]).length=_;simp[RY n]
theorem Rv:∀n,∀c∈(cV n).1,c<2^(2^n)
 | 0,c,h=>by simp[cV]at h
 |n+1,c,h=>by
  have h':c∈(cV n).1.map (λc=>c |||(c*2^(cV n).2.2))++[(cV n).2.1*2^(cV n).2.2]:=h;rw[OQ,RF]at h';have e2:2^(2^(n+1))=2^(2^n)*2^(2^n):=by rw[<-Nat.pow_add,zO];congr 1;omega
  have hp:0<2^(2^n):=Ji (by decide);have f:∀d,d<2^(2^n)->d*2^(2^n)<2^(2^(n+1)):=λd hd=>by rw[e2];exact Nat.mul_lt_mul_of_pos_right hd hp
  rcases fG.mp h' with q|q
  ·obtain⟨d,hd,rfl⟩:=fE.mp q;have:=Rv n d hd;refine Nat.or_lt_two_pow (nr this (zg (by decide) (zg (by decide) (RL _)))) (f d this)
  ·rw[dQ.mp q];exact f _ ⋯
theorem Zu1(h1:2^n<=j)(h2:j<2^(n+1))(hi:i<n):(j-2^n).testBit i=j.testBit i:=by
 have e:j=2^n+(j-2^n):=⋯;have h3:j-2^n<2^n:=by rw[zO]at h2;omega
 have:=Zyz (i:=n) (j:=i) hi (j-2^n);rw[<-e]at this;exact this.symm
theorem Zum(h2:j<2^(n+1)):j.testBit n=decide (2^n<=j):=by
 by_cases h:2^n<=j
 ·rw[decide_eq_true h];have e:j=2^n+(j-2^n):=⋯;have h3:j-2^n<2^n:=by rw[zO]at h2;omega
  have:=ZyA (j-2^n) n;rw[<-e]at this;rw[this,C7 h3];rfl
 ·rw[decide_eq_false h];exact C7 ⋯
theorem S1:∀(n i j:Nat),i<n->j<2^n->((cV n).1.getD i 0).testBit j=j.testBit i
 | 0,i,j,h,_=>absurd h ⋯
 |n+1,i,j,hi,hj=>by
  have hg:(cV (n+1)).1=(cV n).1.map (λc=>c |||(c*2^(2^n)))++[(2^(2^n)-1)*2^(2^n)]:=by show(cV n).1.map (λc=>c |||(c*2^(cV n).2.2))++[(cV n).2.1*2^(cV n).2.2]=_;rw[OQ,RF]
  have hl:=RY n;rw[hg];by_cases h:i<n
  ·have e:((cV n).1.map (λc=>c |||(c*2^(2^n)))++[(2^(2^n)-1)*2^(2^n)]).getD i 0=((cV n).1.getD i 0) |||(((cV n).1.getD i 0)*2^(2^n)):=by simp[jY,List.getElem?_append,hl,h]
   have hc:(cV n).1.getD i 0<2^(2^n):=by
    have hm:(cV n).1.getD i 0∈(cV n).1:=by have:i<(cV n).1.length:=⋯;simp[jY,this]
    exact Rv n _ hm
   rw[e,QK,V0];by_cases d:j<2^n
   ·rw[S1 n i j h d,decide_eq_false ⋯];simp
   ·rw[OI hc ⋯,decide_eq_true ⋯,S1 n i (j-2^n) h (by rw[zO]at hj;omega),Zu1 ⋯ hj h];simp
  ·have hin:i=n:=⋯;subst hin
   have e:((cV i).1.map (λc=>c |||(c*2^(2^i)))++[(2^(2^i)-1)*2^(2^i)]).getD i 0=(2^(2^i)-1)*2^(2^i):=by simp[jY,List.getElem?_append,hl]
   rw[e,V0,Jq,Zum hj]
   have:j-2^i<2^i:=by rw[zO]at hj;have:0<2^i:=Ji (by decide);omega
   simp[this]
theorem Wm:∀(n a b:Nat),a<n->(a^^^b)+(a&&&b)=a |||b
 | 0,_,_,h=>absurd h ⋯
 |n+1,a,b,h=>by
  by_cases ha:a=0
  ·subst ha;simp
  have ih:=Wm n (a/2) (b/2) ⋯;rw[<-Nat.xor_div_two,<-Nat.and_div_two,<-Nat.or_div_two]at ih;have e1:=ZI (a^^^b) 2;have e2:=ZI (a&&&b) 2;have e3:=ZI (a |||b) 2
  have t:∀x:Nat,x%2=(x.testBit 0).toNat:=λx=>by rw[Nat.testBit_zero];rcases Wu x with q|q <;> simp[q]
  have m1:=t (a^^^b);have m2:=t (a&&&b);have m3:=t (a |||b);rw[Zp]at m1;rw[NV]at m2;rw[QK]at m3
  have:(a^^^b)%2+(a&&&b)%2=(a |||b)%2:=by rw[m1,m2,m3];cases a.testBit 0 <;> cases b.testBit 0 <;> rfl
  omega
end MC
namespace L2
def yt(t u:TS):TS:=aV t u
theorem mid(M:St->Hp->Prop)(h1:∀N:St->Hp->Prop,(∀d c,M d c->N d c)->t { D with nx:=N } σ H)(h2:∀d c,M d c->u D d c):yt t u D σ H:=h1 _ h2
theorem XU{st:Az}{rest:List Az}(h:PS X st t)(hr:nc X rest u):nc X (st::rest) (yt t u):=aX h hr
theorem sS{id:String}(h:Ki X id r):Ng X id r:=h
theorem SF{sel:List Nat}{Q:VK}{item:Nat->V}(q:St->Prop)(d:Nat->Hp->Prop)
  (K:q (cst σ k sel)) (h0:d 0 (upd H p (.lst [])))
  (z:∀i c,i<n->d i c->J.go i c/\∀x l,J.r9 i c x l->l=c/\x=item i) (y:∀c,d n c->J.stop n c)
  (r:∀i h c (R:St->Hp->Prop),i<n->q h->d i c->(∀t j,q t->d (i+1) j->R t j)->g (item i) h c λw G=>E w G λb A=>if b=Ai then D w A λv B=>∃ys,B p=Aa (.lst ys)/\ys.length<sizeLine/\R w (upd B p (.lst (ys++[v]))) else R w A)
  (I:∀c,d n c->Q (.ref p) c):C1 J σ k sel g E D Q H p:=by
 refine#v[λi m h c=>i<=n/\m=n-i+1/\q h/\d i c,#v[n+1,rE _,rfl,K,h0],?_];rintro i m h c ⟨hi,rfl,hs,u⟩;by_cases f:i<n
 ·right;obtain⟨hg,hy⟩:=z i c f u;refine#v[hg,λx l hx=>?_];obtain⟨rfl,rfl⟩:=hy x l hx;exact r i h l (λt j=>∃C,C<n-i+1/\(i+1<=n/\C=n-(i+1)+1/\q t/\d (i+1) j)) f hs u λt j L h'=>#v[n-(i+1)+1,⋯,f,rfl,L,h']
 ·left;have e:i=n:=⋯;subst e;exact#v[y c u,I c u]
theorem Zrs{K:aE}{σ:St}{sel:List Nat}{rest:St}{H:Hp}{l:TE}{Q:VK}{a:Ad}{xs:List V}(f:V->V)(hl:gA K H a xs)(hr:sel.map (λj=>(σ[j]?).join)=rest)(hz:xs.length<=sizeLine)
  (he:∀x c (g:VK),x∈xs->bL H c->g (f x) c->l (Aa x::rest) c g) (m:∀p c,iS H p (.lst (xs.map f)) c->Q (.ref p) c):sg (va K a) σ 1 sel (aU 0) kt l Q H:=by
 intro p hp
 have k:∀{o:HO},gA K (upd H p o) a xs:=λ{o}=>by
  rcases hl with(h|⟨u,h⟩)|h
  ·exact .inl (.inl (kO hp _ _ h))
  ·exact .inl (.inr #v[u,kO hp _ _ h])
  ·exact .inr h
 refine yW (n:=xs.length) (item:=λi=>xs.getD i .non) (λi d=>d=upd H p (.lst ((xs.take i).map f))) hr (by simp) (ZpU ?_) ?_ ?_ ?_
 ·rintro i d hi rfl;exact k
 ·rintro d rfl;exact#v[xs,k,bV _]
 ·rintro i d R hi rfl q;unfold kt;dsimp only;rw[if_pos rfl];refine he _ _ _ (by rw[show xs.getD i .non=xs[i] from by simp[jY,hi]];exact tR _) (kO hp) #v[_,cN,?_,q _ ?_]
  ·rw[aQ,uw];omega
  ·rw[IN,Zf5 hi]
 ·rintro d rfl;rw[rC];exact m p _ #v[hp,rfl]
def S7(H c:Hp):Prop:=∀b o,H b=Aa o->(∀xs,o≠.lst xs)->c b=Aa o
section
variable {K:aE}{H H' H0 H1:Hp}{l a:Ad}{xs ys:List V}{o:HO}
theorem bL.n(s:bL H H'):S7 H H':=λb o e _=>s b o e
theorem S7.clear(h:H l=Aa (.lst xs)):S7 H (upd H l (.lst ys)):=λb o e n=>by rw[bE (fS e h (n xs))];exact e
theorem bL.put(s:bL H0 H)(h:H0 l=Ae):bL H0 (upd H l o):=λb u e=>by rw[bE (dW e h)];exact s b u e
theorem bL.tup(e:bL H H')(h:gA K H a xs):gA K H' a xs:=by
 rcases h with(h|⟨o,h⟩)|h
 ·exact .inl (.inl (e _ _ h))
 ·exact .inl (.inr #v[o,e _ _ h])
 ·exact .inr h
def Gi(N:Ad->Prop)(H H':Hp):Prop:=∀b o,N b->H b=Aa o->H' b=Aa o
theorem bL.keep{N:Ad->Prop}(s:bL H H'):Gi N H H':=λb o _ e=>s b o e
theorem Gi.tup{N:Ad->Prop}(e:Gi N H H')(n:N a)(h:gA K H a xs):gA K H' a xs:=by
 rcases h with(h|⟨o,h⟩)|h
 ·exact .inl (.inl (e _ _ n h))
 ·exact .inl (.inr #v[o,e _ _ n h])
 ·exact .inr h
end
theorem Zof(c:Nat):∀(k:Nat) (d:Array Nat),((gR k (#[c]:Array Nat)).foldl (· ++ ·) d).toList=d.toList++gR k c
 | 0,d=>by simp
 |k+1,d=>by rw[xm,zu,Zof c k,xm];simp
section
variable {K:aE}{H:Hp}{p:Ad}{i:Int}{F:V->Prop}
theorem ixI{cs:List Int}(c:cB K H p (cs.map V.int))(h0:0<=i)(h1:i<cs.length)(h:F (.int (cs.getD i.toNat 0))):∃xs v,(cB K H p xs\/gA K H p xs)/\mN xs i=Aa v/\F v:=#v[_,_,.inl c,Zvv 0 h0 h1,h]
end
def Fw(i j:Int):Prop:=0<=j/\(Builtin.Int.intBits i:Int)+j<=2^27
theorem YL:dO X (AD .LShift) (dA Fw λi j=>.int (i*2^j.toNat)):=(Gn (C:=Fw) (g:=λi j=>i*2^j.toNat) λ_ _ _ _ _ _ _ hc q=>lshift_int hc.1 hc.2 q).imp λ_ _ _ _ h=>IW h
theorem ZpY{c k w:Nat}(h:c<2^k)(hk:k+w<=2^27):Fw c w:=by have:=intBits_le (a:=(c:Int)) (k:=k) (by simpa using h);exact#v[⋯,⋯]
theorem Sv(c w:Nat):((c:Int)*2^((w:Int)).toNat:Int)=((c*2^w:Nat):Int):=by simp
theorem K7(a b:Nat):Builtin.bitAnd (a:Int) (b:Int)=((a&&&b:Nat):Int):=by rw[bitAnd_pp ⋯ ⋯];simp
theorem T5(a b:Nat):Builtin.bitOr (a:Int) (b:Int)=((a |||b:Nat):Int):=by
 rw[bitOr_and,K7];have:=MC.Wm (a+1) a b (JO _)
 have h2:(a |||b)+(a&&&b)=a+b:=by
  have e:∀(n a b:Nat),a<n->(a |||b)+(a&&&b)=a+b:=by
   intro n
   induction n with
   |zero=>intro a b h;omega
   |succ n ih=>
    intro a b h;by_cases ha:a=0
    ·subst ha;simp
    have i1:=ih (a/2) (b/2) ⋯;rw[<-Nat.and_div_two,<-Nat.or_div_two]at i1
    have t:∀x:Nat,x%2=(x.testBit 0).toNat:=λx=>by rw[Nat.testBit_zero];rcases Wu x with q|q <;> simp[q]
    have m2:=t (a&&&b);have m3:=t (a |||b);rw[NV]at m2;rw[QK]at m3;have c:=t a;have d:=t b
    have:(a |||b)%2+(a&&&b)%2=a%2+b%2:=by rw[m2,m3,c,d];cases a.testBit 0 <;> cases b.testBit 0 <;> rfl
    omega
  exact e (a+1) a b (JO _)
 omega
theorem Rp(a b:Nat):Builtin.bitXor (a:Int) (b:Int)=((a^^^b:Nat):Int):=by unfold Builtin.bitXor;rw[T5,K7];have:=MC.Wm (a+1) a b (JO _);omega
end L2
namespace GM
open PySem L2
def nz(n:Nat):Int:=(n:Int)
end GM
namespace L2
def EI:TS:=λ_ _ _=>False
theorem Js{st:Az}:PS X st EI:=λ_ _ _ _ _ _ h=>h.elim
theorem Zi:dO X (AD .Pow) (dA tY λi j=>.int (i^j.toNat)):=ED.imp λ_ _ _ _ h=>IW h
theorem Zr8{Q:VK}:RA σ H Q=∀p c,iS H p (.dT []) c->Q (.ref p) c:=by unfold RA;rw[CK (F:=λp c=>Q (.ref p) c)]
section
open Builtin Builtin.Str
end
theorem bL.nil(s:bL H c)(h:c p=Ae):H p=Ae:=by
 cases e:H p with
 |none=>rfl
 |some o=>rw[s _ _ e]at h;cases h
structure uQ (H:Hp) (p:Ad) (o:HO) (H':Hp):Prop where
 cL:H p=Ae
 at_:H' p=Aa o
 same:bL H H'
theorem iS.UA(n:iS H p o c):uQ H p o c:=#v[n.cL,n.at_,n.same]
theorem uQ.pre(s:bL d H)(n:uQ H p o c):uQ d p o c:=#v[s.nil n.cL,n.at_,s.trans n.same]
theorem uQ.sq{K:aE}{H c:Hp}{p:Ad}{xs:List V}(n:uQ H p (.lst xs) c):cB K c p xs:=.of n.at_
theorem mul_one(c:Nat)(n:Int):(Txt.mul #v[#[c]] n).cps.toList=gR n.toNat c:=by
 unfold Txt.mul;by_cases h1:n<1
 ·rw[if_pos h1];have:n.toNat=0:=⋯;rw[this];rfl
 ·rw[if_neg h1];by_cases h2:(n==1 ||Str.length #v[#[c]]==0)=Ai
  ·rw[if_pos h2]
   have h3:n=1:=by
    rw[W3]at h2;rcases h2 with q|q
    ·exact beq_iff_eq.mp q
    ·exact absurd (beq_iff_eq.mp q) (by show¬(1:Nat)=0;decide)
   subst h3;rfl
  ·rw[if_neg h2];show((gR n.toNat (#[c]:Array Nat)).foldl (· ++ ·) #[]).toList=_;rw[Zof];simp
end L2
namespace MF
abbrev Pr:=Int×Int
def tn(t:Int):Int:=if t%2=0 then t+1 else t-1
def lo(s t:Int):Int:=if t<s then t else s
def hi(s t:Int):Int:=if t>s then t else s
def mM:Int->List Pr->Pr->Option Int
 |_,[],_=>Ae
 |n,q::r,p=>if q=p then Aa n else mM (n+1) r p
def xr(s t:Int):Option Int:=if lo s t=0 then Aa 0 else if lo s t=1\/lo s t=hi s t then Aa (hi s t) else if lo s t=tn (hi s t) then Aa 0 else Ae
def kn(m:Int)(c:List Pr)(p:Pr):Int:=(mM (m+1) c p).getD (m+1+c.length)
def kp(m:Int)(c:List Pr)(p:Pr):List Pr:=if(mM (m+1) c p).isSome then c else c++[p]
def bt(m:Int)(c:List Pr)(s t:Int):Int:=match xr s t with|some v=>v|none=>2*kn m c (lo s t,hi s t)
def bp(m:Int)(c:List Pr)(s t:Int):List Pr:=match xr s t with|some _=>c|none=>kp m c (lo s t,hi s t)
theorem Zog:∀{n:Int}{c:List Pr}{p:Pr}{i:Int},mM n c p=Aa i->n<=i<&&>i<n+c.length<&&>c[(i-n).toNat]? = Aa p
 |n,[],p,i,h=>by simp[mM]at h
 |n,q::r,p,i,h=>by
  unfold mM at h;by_cases e:q=p
  ·rw[if_pos e]at h;have:=Option.some.inj h;subst this;refine#v[⋯,by simp only[lG];omega,?_];rw[show(n-n).toNat=0 by omega,Ja,e]
  ·rw[if_neg e]at h;obtain⟨h1,h2,h3⟩:=Zog h;refine#v[⋯,by simp only[lG];omega,?_];rw[show(i-n).toNat=(i-(n+1)).toNat+1 by omega,Hz];exact h3
theorem ZV:∀{n:Int}{d:List Pr}{p:Pr},mM n d p=Ae->p∉d
 |n,[],p,h=>by simp
 |n,q::r,p,h=>by
  unfold mM at h;by_cases e:q=p
  ·rw[if_pos e]at h;cases h
  ·rw[if_neg e]at h;intro hm;rcases iN.mp hm with c|c
   ·exact e c.symm
   ·exact ZV h c
theorem Zoh:∀{n:Int}{c:List Pr}{p:Pr},mM n c p=Ae->mM n (c++[p]) p=Aa (n+c.length)
 |n,[],p,h=>by simp[mM]
 |n,q::r,p,h=>by
  have e:¬q=p:=λe=>by unfold mM at h;rw[if_pos e]at h;cases h
  unfold mM at h;rw[if_neg e]at h;show mM n (q::(r++[p])) p=_;unfold mM;rw[if_neg e,Zoh h];congr 1;simp only[lG];omega
theorem Hd(m:Int)(c:List Pr)(p:Pr):c.length<=(kp m c p).length/\(kp m c p).length<=c.length+1:=by unfold kp;split <;> simp
theorem ZtS(m:Int)(c:List Pr)(s t:Int):c.length<=(bp m c s t).length/\(bp m c s t).length<=c.length+1:=by
 unfold bp;split
 ·omega
 ·exact Hd ..
theorem ZsN(m:Int)(c:List Pr)(p:Pr):m+1<=kn m c p<&&>kn m c p<m+1+(kp m c p).length:=by
 unfold kn kp;cases h:mM (m+1) c p with
 |none=>simp;omega
 |some i=>have:=Zog h;simp;omega
def Ok(m:Int)(c:List Pr):Prop:=∀(i:Nat) (p:Pr),c[i]? = Aa p->2<=p.1<&&>p.1<p.2<&&>p.1/2≠p.2/2<&&>p.2<2*(m+1+i)
theorem ZpR(hs:0<=s)(ht:0<=t)(h:xr s t=Ae):2<=lo s t/\lo s t<hi s t/\lo s t/2≠hi s t/2:=by
 unfold xr at h;have c:lo s t<=hi s t/\0<=lo s t:=by unfold lo hi;split <;> split <;> omega
 by_cases h1:lo s t=0
 ·rw[if_pos h1]at h;cases h
 rw[if_neg h1]at h;by_cases h2:lo s t=1\/lo s t=hi s t
 ·rw[if_pos h2]at h;cases h
 rw[if_neg h2]at h;by_cases h3:lo s t=tn (hi s t)
 ·rw[if_pos h3]at h;cases h
 refine#v[⋯,⋯,λe=>h3 ?_];unfold tn;split <;> omega
theorem ZpQ(hs:0<=s)(ht:0<=t)(d:s<T)(f:t<T)(h:xr s t=Aa v):0<=v<&&>v<T:=by
 unfold xr at h;have c:lo s t<=hi s t<&&>0<=lo s t<&&>hi s t<T:=by unfold lo hi;split <;> split <;> omega
 by_cases h1:lo s t=0
 ·rw[if_pos h1]at h;cases h;omega
 rw[if_neg h1]at h;by_cases h2:lo s t=1\/lo s t=hi s t
 ·rw[if_pos h2]at h;cases h;omega
 rw[if_neg h2]at h;by_cases h3:lo s t=tn (hi s t)
 ·rw[if_pos h3]at h;cases h;omega
 rw[if_neg h3]at h;cases h
theorem Ma(h1:s<T)(h2:t<T):hi s t<T:=by unfold hi;split <;> omega
theorem Ok.bp(h:Ok m c)(hs:0<=s)(ht:0<=t)(f:s<2*(m+1+c.length))(g:t<2*(m+1+c.length)):Ok m (bp m c s t):=by
 unfold MF.bp;cases e:xr s t with
 |some v=>exact h
 |none=>
  show Ok m (kp m c (lo s t,hi s t));unfold kp;split
  ·exact h
  ·intro i p hp;rcases lD i c.length with d|d
   ·rw[mY d]at hp;exact h i p hp
   ·rw[qP d]at hp
    have h0:i-c.length=0:=by
     rcases Nat.eq_zero_or_pos (i-c.length) with z|z
     ·exact z
     ·rw[tI (by simp;omega)]at hp;cases hp
    rw[h0]at hp;have:=Option.some.inj hp;subst this;have h3:=ZpR hs ht e;have h4:=Ma f g;refine#v[h3.1,h3.2,h3.3,?_];show MF.hi s t<_;have:i=c.length:=⋯;subst this;exact h4
theorem Ztl{m:Int}(hm:0<=m){c:List Pr}{s t:Int}(hs:0<=s)(ht:0<=t)(d:s<2*(m+1+c.length))(f:t<2*(m+1+c.length)):0<=bt m c s t/\bt m c s t<2*(m+1+(MF.bp m c s t).length):=by
 unfold bt MF.bp;cases e:xr s t with
 |some v=>exact ZpQ hs ht d f e
 |none=>have:=ZsN m c (lo s t,hi s t);show 0<=2*kn m c (lo s t,hi s t)/\2*kn m c (lo s t,hi s t)<2*(m+1+((kp m c (lo s t,hi s t)).length:Int));omega
abbrev RS:=Int×List Pr
def p9(m:Int)(c:List Pr)(t:Int):Prop:=0<=t/\t<2*(m+1+c.length)
structure St (m:Int) (ps:List Pr) (n:Nat) (r:RS):Prop where
 ok:Ok m ps->Ok m r.2
 inn:p9 m r.2 r.1
 lo:ps.length<=r.2.length
 hi:r.2.length<=ps.length+n
 pre:∃e,r.2=ps++e
 nd:ps.Nodup->r.2.Nodup
theorem p9.tn(h:p9 m c t):p9 m c (tn t):=by have h1:=h.1;have h2:=h.2;unfold p9 MF.tn;split <;> omega
theorem Ez(m:Int)(c:List Pr)(s t:Int):∃e,bp m c s t=c++e:=by
 unfold bp;split
 ·exact#v[[],by simp]
 ·unfold kp;split
  ·exact#v[[],by simp]
  ·exact#v[_,rfl]
theorem MU(h:c.Nodup):(bp m c s t).Nodup:=by
 unfold bp;split
 ·exact h
 ·unfold kp;cases e:mM (m+1) c (lo s t,hi s t) with
  |some i=>exact h
  |none=>have:=ZV e;show(c++[_]).Nodup;rw[HM];refine#v[h,by simp,λa ha b hb=>?_];rw[dQ]at hb;subst hb;exact λz=>this (z ▸ ha)
def bo(m s t:Int)(c:List Pr):RS:=(bt m c s t,bp m c s t)
theorem Kw(hm:0<=m)(hs:p9 m c s)(ht:p9 m c t):St m c 1 (bo m s t c):=#v[λh=>h.bp hs.1 ht.1 hs.2 ht.2,Ztl hm hs.1 ht.1 hs.2 ht.2,(ZtS m c s t).1,(ZtS m c s t).2,Ez m c s t,λh=>MU h]
def Sub(F x:Nat):Prop:=∀j,x.testBit j=Ai->F.testBit j=Ai
theorem Zse(F:Nat):Sub F 0:=λj h=>by simp at h
theorem Sub.and(h:Sub F x):Sub F (x&&&y):=λj hj=>h j (by rw[NV,sE]at hj;exact hj.1)
theorem Sub.neg(h:Sub F x):Sub F (F^^^x):=λj hj=>by
 rw[Zp]at hj;cases hf:F.testBit j with
 |true=>rfl
 |false=>rw[hf]at hj;have:=h j (by simpa using hj);rw[hf]at this;exact this
def uF(F:Nat)(cs:List Nat)(t:Int):Nat:=if t%2=1 then F^^^cs.getD (t/2).toNat 0 else cs.getD (t/2).toNat 0
def uy(F:Nat):List Nat->List Pr->List Nat
 |cs,[]=>cs
 |cs,p::r=>uy F (cs++[uF F cs p.1&&&uF F cs p.2]) r
theorem Zmc(F:Nat):∀(d c:List Pr) (cs:List Nat),uy F cs (d++c)=uy F (uy F cs d) c
 |[],c,cs=>rfl
 |p::r,c,cs=>Zmc F r c _
theorem Zmb(F:Nat):∀(c:List Pr) (cs:List Nat),(uy F cs c).length=cs.length+c.length
 |[],cs=>rfl
 |p::r,cs=>by show(uy F (cs++[_]) r).length=_;rw[Zmb F r];simp only[eG,lG,rA];omega
theorem Zma(F:Nat):∀(c:List Pr) (cs:List Nat),∃e,uy F cs c=cs++e
 |[],cs=>#v[[],by simp[uy]]
 |p::r,cs=>by obtain⟨e,h⟩:=Zma F r (cs++[uF F cs p.1&&&uF F cs p.2]);exact#v[[uF F cs p.1&&&uF F cs p.2]++e,by show uy F (cs++[_]) r=_;rw[h,oJ]]
theorem ZsL{F:Nat}{cs e:List Nat}{t:Int}(h0:0<=t)(h:t<2*cs.length):uF F (cs++e) t=uF F cs t:=by
 have hl:(t/2).toNat<cs.length:=⋯;unfold uF
 have:(cs++e).getD (t/2).toNat 0=cs.getD (t/2).toNat 0:=by simp[jY,mY hl]
 rw[this]
def wQ(F:Nat)(cs:List Nat):Prop:=∀c∈cs,Sub F c
theorem wQ.getD(h:wQ F cs)(i:Nat):Sub F (cs.getD i 0):=by
 rcases lD i cs.length with hi|hi
 ·have:cs.getD i 0=cs[i]:=by simp[jY,hi]
  rw[this];exact h _ (tR hi)
 ·have:cs.getD i 0=0:=by simp[jY,hi]
  rw[this];exact Zse F
theorem wQ.lit(h:wQ F cs)(t:Int):Sub F (uF F cs t):=by
 unfold uF;split
 ·exact(h.getD _).neg
 ·exact h.getD _
theorem wQ.grow:∀(d:List Pr) (cs:List Nat),wQ F cs->wQ F (uy F cs d)
 |[],cs,h=>h
 |p::r,cs,h=>by
  refine wQ.grow r _ λc hc=>?_;rcases fG.mp hc with hc|hc
  ·exact h c hc
  ·rw[dQ.mp hc];exact(h.lit p.1).and
structure Base (F:Nat) (m:Int) (b:List Nat):Prop where
 len:(b.length:Int)=m+1
 zero:b.getD 0 0=0
 sub:wQ F b
abbrev L(F:Nat)(b:List Nat)(c:List Pr)(t:Int):Nat:=uF F (uy F b c) t
theorem Na(B:Base F m b){c e:List Pr}{t:Int}(h:p9 m c t):L F b (c++e) t=L F b c t:=by unfold L;rw[Zmc];obtain⟨x,hx⟩:=Zma F e (uy F b c);rw[hx];refine ZsL h.1 ?_;have h2:=h.2;have h3:=Zmb F c b;have h4:=B.len;omega
theorem St.lit(B:Base F m b)(h:St m c n r)(hx:p9 m c x):L F b r.2 x=L F b c x:=by obtain⟨e,he⟩:=h.pre;rw[he];exact Na B hx
end MF
namespace L2
def qG(p:MF.Pr):List Key:=[.inl p.1,.inl p.2]
theorem Zu4(h:qG p=qG q):p=q:=by unfold qG at h;injection h with h1 h2;injection h2 with h3 _;exact Prod.ext (Sum.inl.inj h1) (Sum.inl.inj h3)
def qw:Int->List MF.Pr->List (List Key×V)
 |_,[]=>[]
 |n,p::r=>(qG p,.int n):: qw (n+1) r
theorem Ra:∀(n:Int) (c:List MF.Pr) (p:MF.Pr),bQ (qw n c) (qG p)=(MF.mM n c p).map V.int
 |_,[],_=>rfl
 |n,q::r,p=>by
  show bQ ((qG q,V.int n):: qw (n+1) r) (qG p)=_;unfold MF.mM;by_cases e:q=p
  ·rw[if_pos e,rn (p:=(qG q,V.int n)) (congrArg qG e)];rfl
  ·rw[if_neg e,rx (p:=(qG q,V.int n)) (λz=>e (Zu4 z)),Ra (n+1) r p]
theorem Zn9:∀(n:Int) (c:List MF.Pr) (p:MF.Pr),qw n (c++[p])=qw n c++[(qG p,.int (n+c.length))]
 |n,[],p=>by simp[qw]
 |n,q::r,p=>by show(qG q,V.int n):: qw (n+1) (r++[p])=(qG q,V.int n):: (qw (n+1) r++_);rw[Zn9 (n+1) r p];congr 5;simp only[lG];omega
theorem ZqT:∀(n:Int) (c:List MF.Pr),(qw n c).length=c.length
 |_,[]=>rfl
 |n,q::r=>by show(qw (n+1) r).length+1=r.length+1;rw[ZqT (n+1) r]
theorem ZuN(h:MF.mM n c p=Ae):eD (qw n c) (qG p) (.int (n+c.length))=qw n (c++[p]):=by unfold eD;rw[Jr,Ra,h,Zn9];rfl
abbrev En:=Ad×MF.Pr
abbrev aP(es:List En):List MF.Pr:=es.map (·.2)
structure fF (H:Hp) (pl kl:Ad) (m:Int) (es:List En):Prop where
 lst:H pl=Aa (.lst (es.map λe=>V.ref e.1))
 uo:H kl=Aa (.dT (qw (m+1) (aP es)))
 tup:∀e∈es,H e.1=Aa (.tup [.int e.2.1,.int e.2.2])
def lw(pl d:Ad)(H c:Hp):Prop:=∀b o,b≠pl->b≠d->H b=Aa o->c b=Aa o
theorem lw.refl:lw pl kl H H:=λ_ _ _ _ e=>e
theorem lw.trans(u:lw pl kl H H')(v:lw pl kl H' H1):lw pl kl H H1:=λb o c d e=>v b o c d (u b o c d e)
theorem bL.un(s:bL H H'):lw pl kl H H':=λb o _ _ e=>s b o e
theorem Vu:lw pl kl H (upd H pl o):=λb u c _ e=>by rw[bE c];exact e
theorem XS:lw pl kl H (upd H kl o):=λb u _ c e=>by rw[bE c];exact e
theorem fF.same(h:fF H pl kl m es)(s:bL H H'):fF H' pl kl m es:=#v[s _ _ h.lst,s _ _ h.uo,λe he=>s _ _ (h.tup e he)]
structure bB (C:Ad) (H:Hp) (f:Ad) (m:Int) (es:List En) (dx pl kl:Ad):Prop where
 ins:H f=Aa (.ins C dx [("many",.int m),("pairs",.ref pl),("knots",.ref kl)])
 iQ:fF H pl kl m es
theorem bB.same(h:bB C H f m es dx pl kl)(s:bL H H'):bB C H' f m es dx pl kl:=#v[s _ _ h.ins,h.iQ.same s]
theorem fF.nlk(h:fF H pl kl m es):pl≠kl:=fS h.lst h.uo (λz=>nomatch z)
theorem fF.put(h:fF H pl kl m es)(ht:H c=Aa (.tup [.int p.1,.int p.2]))(hf:MF.mM (m+1) (aP es) p=Ae):
  fF (upd (upd H kl (.dT (qw (m+1) (aP es++[p])))) pl (.lst ((es.map λe=>V.ref e.1)++[.ref c]))) pl kl m (es++[(c,p)]):=by
 have d:∀{b:Ad}{xs:List V},H b=Aa (.tup xs)->upd (upd H kl (.dT (qw (m+1) (aP es++[p])))) pl (.lst ((es.map λe=>V.ref e.1)++[.ref c])) b=Aa (.tup xs):=λ{b xs} e=>by rw[bE (fS e h.lst (λz=>nomatch z)),bE (fS e h.uo (λz=>nomatch z))];exact e
 refine#v[?_,?_,λe he=>?_]
 ·rw[cN,fN];rfl
 ·rw[bE h.nlk.symm,cN,aP,aP,fN];rfl
 ·rcases fG.mp he with he|he
  ·exact d (h.tup e he)
  ·rw[dQ]at he;subst he;exact d ht
theorem NC(xs:List V):xT xs (Aa 1) Ae=xs.drop 1:=by
 unfold xT
 have e1:HT.p8 xs.length 0 (Aa 1)=min 1 xs.length:=by have:=HT.ZuF xs.length 0 1;rw[show((1:Nat):Int)=1 from rfl]at this;rw[this]
 have e2:HT.p8 xs.length xs.length Ae=xs.length:=rfl;rw[e1,e2];cases xs with
 |nil=>rfl
 |cons a r=>
  have:min 1 (a::r).length=1:=by simp only[lG];omega
  rw[this,yD (by simp)]
theorem IQ(h:0<=t):Builtin.bitXor t 1=MF.tn t:=by
 obtain⟨a,rfl⟩:=vP h;have e:=Rp a 1;rw[show((1:Nat):Int)=1 from rfl]at e;rw[e];have h1:(a^^^1)/2=a/2:=by rw[Nat.xor_div_two];simp
 have h2:(a^^^1)%2=(a+1)%2:=by
  have:=Nat.xor_mod_two_pow (a:=a) (b:=1) (n:=1);rw[show 2^1=2 from rfl]at this;rw[this];rcases Wu a with q|q
  ·rw[q,show 0^^^1%2=1 from rfl];omega
  ·rw[q,show 1^^^1%2=0 from rfl];omega
 unfold MF.tn;split <;> omega
theorem Zq7(es:List En)(n:Nat)(h:n<es.length):(es.map λe=>V.ref e.1).getD n .non=V.ref (es[n]).1:=by simp[jY,h]
end L2
namespace DL
open PySem DZ
theorem ZkW:entryFor table "list.__getattribute__" = Aa Builtin.«object.__getattribute__»:=entryFor_alias (id':="object.__getattribute__") (by kernel_rfl) (by first|rfl|decide +kernel) ∅ (by kernel_rfl)
theorem Zl4:Bt (.type "list") "keys" = pure Ae:=by rw[Bh,AM];kernel_rfl
section
variable {prog:Al}{w:Au}{A:At}{E:Ac->Ag->Prop}{h:Ax}{g:Array BP}{d:Drawn}{t:Nat}{os:OsState}{z:Ad}{vs:Array Ac}{n:Nat}
theorem Yb{Q:Fin->Ag->Prop}(hh:A.handled=Ae)(hz:h.get? z=Aa { cls:=.type "list",dict:=Ae,data:=.seq vs n,slots:=#[] })
  (i:∀h' e t',(∀c o,h.get? c=Aa o->h'.get? c=Aa o)->(∃o,h'.get? e=Aa o/\o.cls=.type "AttributeError")->E (.ref e) #v[h',g,d,t',os]):
  An (model prog w) A (Builtin.«object.__getattribute__» #v[[.ref z,.str "keys" j],[]]) Q E #v[h,g,d,t,os]:=by
 have k:(#v[h,g,d,t,os]:Ag).TypeIs (.ref z) "list":=#v[_,hz,rfl];have f4:=Zl4
 repeat (any_goals (first|assumption|wp_step))
 refine Cc hh (λh' f e x=>?_) (attrMsg_fits ∅ ∅);obtain⟨t',l,he⟩:=x.there;exact i h' e f (λc o q=>x.keeps c o q) #v[_,he,rfl]
theorem Xv(hh:A.handled=Ae)(hz:h.get? z=Aa { cls:=.type "list",dict:=Ae,data:=.seq vs n,slots:=#[] })
  (f:∀h' e t',(∀c o,h.get? c=Aa o->h'.get? c=Aa o)->(∃o,h'.get? e=Aa o/\o.cls=.type "AttributeError")->R (.error (.ref e)) #v[h',g,d,t',os]):
  AX (model prog w) A (.call (.builtin "list.__getattribute__") #v[[.ref z,.str "keys" i],[]]) R #v[h,g,d,t,os]:=
 Bx F.slot_list_getattribute.plain ZkW (F.slot_list_getattribute.check _ _ _ _ _ _ _ _ (show(#v[h,g,d,t,os]:Ag).TypeIs (.ref z) "list" from#v[_,hz,rfl]) (F.args_list_getattribute_2 _ _) (Yb hh hz f))
theorem Wl{Q:Ac->Ag->Prop}(hh:A.handled=Ae)(hz:h.get? z=Aa { cls:=.type "list",dict:=Ae,data:=.seq vs n,slots:=#[] })
  (i:∀h' e t',(∀c o,h.get? c=Aa o->h'.get? c=Aa o)->(∃o,h'.get? e=Aa o/\o.cls=.type "AttributeError")->E (.ref e) #v[h',g,d,t',os]):
  An (model prog w) A (getAttrBy (.ref z) (.str "keys" l) Ah) Q E #v[h,g,d,t,os]:=by
 have m:(#v[h,g,d,t,os]:Ag).TypeIs (.ref z) "list":=#v[_,hz,rfl];have f2:=F.slot_list_getattribute.lookup;have f3:=F.slot_list_getattribute.bind (.ref z);have f1:=Bj
 repeat (any_goals (first|assumption|wp_step))
 refine Xv hh hz λh' e t' k he=>?_;obtain⟨o,ho,hc⟩:=he;have j:(#v[h',g,d,t',os]:Ag).TypeIs (.ref e) "AttributeError":=#v[o,ho,hc];have f:=i h' e t' k #v[o,ho,hc];have f5:Bt (.type "list") "__getattr__" = pure Ae:=by rw[Bh,AM];kernel_rfl
 show An _ _ (Bk _ _ _ _ _ _ _) _ _ _;unfold Bk
 repeat (any_goals (first|assumption|wp_step))
theorem RW{Q:Option Ac->Ag->Prop}(hh:A.handled=Ae)(hz:h.get? z=Aa { cls:=.type "list",dict:=Ae,data:=.seq vs n,slots:=#[] })
  (hq:∀h' t',(∀c o,h.get? c=Aa o->h'.get? c=Aa o)->Q Ae #v[h',g,d,t',os]):
  An (model prog w) A (getAttr? (.ref z) "keys") Q E #v[h,g,d,t,os]:=by
 unfold getAttr? getAttrBy?;have f1:=Bj;refine Af (Cy ?_);refine Af (AV (Wl hh hz λh' e t' k he=>?_));obtain⟨o,ho,hc⟩:=he;refine Af (BQ (T:="AttributeError") (b:=Ai) #v[o,ho,hc] f1 ?_);exact Aj (hq _ _ k)
end
section
variable {prog:Al}{w:Au}{A:At}{E:Ac->Ag->Prop}{s:Ag}{κ:Type} [DecidableEq κ] {knd:KeyKind prog w κ}
def Prs(knd:KeyKind prog w κ)(d it:Ad)(xs:Array Ac)(es:List (κ×Ac))(h:Ax):Prop:=∀(j:Nat) p,es[j]? = Aa p->∃T c o m,xs[j]? = Aa (.ref T)/\T≠d/\T≠it/\knd.is p.1 c=Ai/\h.get? T=Aa o/\o.cls=.type "tuple" /\ o.data=.seq #[c,p.2] m
theorem Po{it l d:Ad}{xs:Array Ac}{es:List (κ×Ac)}(hh:A.handled=Ae)(k:it≠d)(D:l≠d)(G:l≠it)(hk:es.length=xs.size)(hz:xs.size<=2000):
  ∀(m i:Nat) (s:Ag) (kvs:List (κ×Ac)),i+m=xs.size->kvs.length<=i->s.heap.IsListIter it l i->s.heap.IsList l xs->Prs knd d it xs es s.heap->s.heap.DictOf knd d kvs ->
   (∀h' t',h'.DictOf knd d ((es.drop i).foldl (λe p=>stored e p.1 p.2) kvs)->(∀c o,c≠d->c≠it->s.heap.get? c=Aa o->h'.get? c=Aa o)->R (.ok (.ret .none)) { s with heap:=h',toks:=t' }) ->
   AX (model prog w) A (.builtin "dict.update.loop" #v[[.ref d,.ref it,Be i,.none],[]]) R s
 | 0,i,s,kvs,hm,hl,S,L,P,hd,f=>by
  refine AQ Pa ?_;rw[Around.under_plainId xi _];unfold Builtin.«dict.update.loop»;refine Af (Br hh S L (ZyU ⋯) λh' eb=>?_);have e1:es.drop i=[]:=ZxV ⋯;rw[e1]at f
  have t:h'.DictOf knd d kvs:=by obtain⟨o,es,ep,ho,r⟩:=hd;exact#v[o,es,ep,eb _ _ k.symm ho,r]
  exact Af (Aj (Aj (f h' s.toks t λc o n h e=>eb c o h e)))
 |m+1,i,s,kvs,hm,hl,S,L,P,hd,f=>by
  refine AQ Pa ?_;rw[Around.under_plainId xi _];unfold Builtin.«dict.update.loop»;have hi:i<es.length:=⋯;have y:es[i]? = Aa es[i]:=eF hi;obtain⟨T,kx,o,mm,hx,nd,g,z,ho,q,v⟩:=P i _ y;refine Af (Bo S L (x:=.ref T) hx λh1 K C=>?_);have k1:∀c o,c≠it->s.heap.get? c=Aa o->h1.get? c=Aa o:=λc o hc e=>(C.2 c hc).trans e;refine Af (Ay ?_)
  have u:h1.DictOf knd d kvs:=by obtain⟨o,es,ep,ho,r⟩:=hd;exact#v[o,es,ep,k1 _ _ k.symm ho,r]
  refine Af (wpAny_tryCatch ?_);unfold Builtin.Dict.pairItems;refine Af (wpAny_typeOf (T:="tuple") #v[o,k1 _ _ g ho,q] ?_);rw[if_pos (by decide)];refine Af (A0 (k1 _ _ g ho) v (Aj ?_));refine Ay (wpAny_dictSet_pairs (knd:=knd) (s:={ s with heap:=h1 }) z u (λh2 d2 sb=>?_) (lC hl (lC ⋯ (show 2000<=sizeLine by decide))));have k2:∀c o,c≠d->h1.get? c=Aa o->h2.get? c=Aa o:=λc o hc e=>(sb.2 c hc).trans e;have M:h2.IsListIter it l (i+1):=K.at λo e=>k2 it o k e;have L2:h2.IsList l xs:=L.at λo e=>k2 l o D (k1 l o G e)
  have J:Prs knd d it xs es h2:=λj p hj=>by obtain⟨N,B,U,Q,V,H,I,X,Y,Z,q7⟩:=P j p hj;exact#v[N,B,U,Q,V,H,I,X,k2 _ _ H (k1 _ _ I Y),Z,q7]
  refine Aj #v[Bu xi _,?_];have e1:es.drop i=es[i]::es.drop (i+1):=xg hi;refine Po hh k D G hk hz m (i+1) _ _ ⋯ ?_ M L2 J d2 ?_
  ·have:=Zw kvs es[i].1 es[i].2;omega
  ·intro h' t' d' O;rw[e1]at f;exact f h' t' d' λc o n h e=>O c o n h (k2 c o n (k1 c o h e))
theorem Di{Q:Ac->Ag->Prop}(hz:s.heap.get? l=Aa { cls:=.type "list",dict:=Ae,data:=.seq xs n,slots:=#[] })
  (h:Q (.ref s.heap.objs.size) { s with heap:=s.heap.push { cls:=.type "list_iterator",data:=.fields #[.ref l,.int 0 0] } }):An (model prog w) A (pyIter (.ref l)) Q E s:=AR (items:=xs) #v[_,hz,rfl,n,rfl] h
theorem Y0{xs:Array Ac}{es:List (κ×Ac)}{Q:Ac->Ag->Prop}(hh:A.handled=Ae)(hl:s.heap.get? l=Aa { cls:=.type "list",dict:=Ae,data:=.seq xs n,slots:=#[] })
  (hk:es.length=xs.size) (hz:xs.size<=2000) (P:∀(j:Nat) p,es[j]? = Aa p->∃T i o m,xs[j]? = Aa (.ref T)/\knd.is p.1 i=Ai/\s.heap.get? T=Aa o/\o.cls=.type "tuple" /\ o.data=.seq #[i,p.2] m)
  (q:∀h' t',h'.DictOf knd s.heap.objs.size (es.foldl (λe p=>stored e p.1 p.2) [])->(∀c o,s.heap.get? c=Aa o->h'.get? c=Aa o)->Q (.ref s.heap.objs.size) { s with heap:=h',toks:=t' }):
  An (model prog w) A (call (.type "dict") [.ref l]) Q E s:=by
 refine callType_codes (Q₁:=λv z=>v=.ref s.heap.objs.size/\z={ s with heap:=s.heap.push { cls:=.type "dict",data:=.dict #[] } }) UW (Zu _) F.entry_dict_init (YG _ #v[rfl,rfl]) ?_;rintro obj z ⟨rfl,rfl⟩;refine#v[#v[_,Heap.get?_push_size _ rfl,rfl],F.args_dict_init_2 _ _,?_];obtain⟨hp,g,d0,B,y⟩:=s;dsimp only at *;have d:=Heap.get?_push_of_some { cls:=.type "dict",data:=.dict #[] } hl;have D:(#v[hp.push { cls:=.type "dict",data:=.dict #[] },g,d0,B,y]:Ag).TypeIs (.ref hp.objs.size) "dict":=#v[_,Heap.get?_push_size _ rfl,rfl];have G:(#v[hp.push { cls:=.type "dict",data:=.dict #[] },g,d0,B,y]:Ag).TypeIs (.ref l) "list":=#v[_,d,rfl];have x:=QT;unfold Builtin.«dict.__init__»
 repeat (any_goals (first|assumption|(with_reducible refine RW hh d λh' t' k=>?_)|(with_reducible refine Di (k _ _ d) ?_)|wp_step))
 have t:∀{c:Ad}{o:Obj},hp.get? c=Aa o->c≠hp.objs.size:=λe=>gW (Heap.lt_size e);have C:∀c o,hp.get? c=Aa o->h'.get? c=Aa o:=λc o e=>k c o (Heap.get?_push_of_some _ e);have h:∀c o,hp.get? c=Aa o->(h'.push { cls:=.type "list_iterator",data:=.fields #[.ref l,.int 0 0] }).get? c=Aa o:=λc o e=>Heap.get?_push_of_some _ (C c o e);have f:∀{c:Ad}{o:Obj},hp.get? c=Aa o->c≠h'.objs.size:=λe=>gW (Heap.lt_size (C _ _ e));have H:h'.objs.size≠hp.objs.size:=(gW (Heap.lt_size (k _ _ (Heap.get?_push_size _ rfl)))).symm;refine#v[Bu xi _,Po (A:=A.in1) (knd:=knd) (es:=es) (show A.in1.handled=Ae from hh) H (t hl) (f hl) hk hz xs.size 0 _ [] ⋯ (by simp) #v[_,Heap.get?_push_size _ rfl,rfl,rfl] #v[_,h _ _ hl,rfl,n,rfl] (λj p hj=>?_) ?_ ?_]
 ·obtain⟨T,i,o,m,I,J,u,K,L⟩:=P j p hj;exact#v[T,i,o,m,I,t u,f u,J,h _ _ u,K,L]
 ·obtain⟨o,es,ep,ho,r⟩:=Heap.DictOf.new (knd:=knd) hp;exact#v[o,es,ep,Heap.get?_push_of_some _ (k _ _ ho),r]
 ·intro h2 M d2 k2;refine#v[rfl,q h2 M ?_ λc o e=>k2 c o (t e) (f e) (h c o e)];simpa using d2
end
end DL
namespace L2
def Fa(_:aE):List V->Hp->VK->Prop:=λvs H Q=>match vs with
 |[.ref a]=>∃(ys:List V) (c:List (Key×V)),H a=Aa (.lst ys)/\ys.length=c.length/\c.length<=2000/\(∀(j:Nat) p,c[j]? = Aa p->∃T,ys[j]? = Aa (.ref T)/\H T=Aa (.tup [kV p.1,p.2]))/\∀p d,iS H p (.dK (jQ [] c)) d->Q (.ref p) d
 |_=>False
theorem Zqw{F:Nat->Key×V->Key×Ac->Prop}:∀(c:List (Key×V)) (m:Nat),(∀(j:Nat) p,c[j]? = Aa p->∃u,cH p.2 u/\F (m+j) p (p.1,u)) ->
  ∃es:List (Key×Ac),es.length=c.length/\(∀(j:Nat) e,es[j]? = Aa e->∃p,c[j]? = Aa p/\F (m+j) p e)/\∀(kvs:List (Key×V)) (d:List (Key×Ac)),KV kvs d->KV (c.foldl (λf i=>eD f i.1 i.2) kvs) (es.foldl (λe p=>stored e p.1 p.2) d)
 |[],m,_=>#v[[],rfl,λj e h=>by simp at h,λkvs d r=>r]
 |p::r,m,h=>by
  obtain⟨u,l,fu⟩:=h 0 p rfl
  obtain⟨es,hl,he,hk⟩:=Zqw r (m+1) λj g hj=>by obtain⟨n,h1,h2⟩:=h (j+1) g (by simpa using hj);exact#v[n,h1,by rw[show m+1+j=m+(j+1) by omega];exact h2]
  refine#v[(p.1,u):: es,by simp[hl],λj e hj=>?_,λkvs d k=>hk _ _ (k.put p.1 l)];cases j with
  |zero=>
   have:(p.1,u)=e:=by simpa using hj
   subst this;exact#v[p,rfl,fu]
  |succ j=>obtain⟨g,h1,h2⟩:=he j e (by simpa using hj);exact#v[g,by simpa using h1,by rw[show m+(j+1)=m+1+j by omega];exact h2]
theorem O0(hc:X.calm=Ai):mR X (.type "dict") (Fa X.K):=by
 intro B s σ H xs us Q I r h
 match xs,h with
 |[.ref a],h=>
  obtain⟨ys,g,E,hl,hz,hp,q⟩:=h;obtain⟨u1,rfl,e1⟩:=sG r;cases e1;obtain⟨z,its,n,U,A,i⟩:=I.sh E
  have item:∀(j:Nat) p,g[j]? = Aa p->∃u,cH p.2 u/\∃T c o m,its[j]? = Aa (.ref T)/\(lP X.prog X.w).is p.1 c=Ai/\s.heap.get? T=Aa o/\o.cls=.type "tuple" /\ o.data=.seq #[c,u] m:=λj p hj=>by obtain⟨T,G,D⟩:=hp j p hj;obtain⟨uT,h1,h2⟩:=U.get G;cases h2;obtain⟨L,rt,⟨o,ho,k,m,l⟩,_⟩:=I.tuple (gA.of D);obtain⟨Y,Z,rfl,R,S⟩:=Vals.two rt;exact#v[Z,S,T,Y,o,m,h1,yq R,ho,k,l]
  obtain⟨es,J,t,v⟩:=Zqw (F:=λj p e=>∃T c o m,its[j]? = Aa (.ref T)/\(lP X.prog X.w).is e.1 c=Ai/\s.heap.get? T=Aa o/\o.cls=.type "tuple" /\ o.data=.seq #[c,e.2] m) g 0 λj p hj=>by obtain⟨u,h1,T,c,o,m,h2⟩:=item j p hj;exact#v[u,h1,T,c,o,m,by rw[HQ];exact h2]
  refine DL.Y0 (knd:=lP X.prog X.w) (es:=es) (I.ok.hd hc) i (by rw[iO];omega) (by rw[iO];omega) (λj p hj=>?_) λh2 V dd k2=>?_
  ·obtain⟨p',_,T,c,o,m,C,M,N,O,P⟩:=t j p hj;exact#v[T,c,o,m,by rw[HQ]at C;simpa using C,M,N,O,P]
  ·have d:H s.heap.objs.size=Ae:=I.bP.fresh (bV _);have y:KV (jQ [] g) (es.foldl (λe p=>stored e p.1 p.2) []):=v [] [] .nil
   have f:(jQ [] g).length<=sizeLine:=by have h1:=IP g [];rw[rA]at h1;rw[A2];omega
   have x:((s.heap.objs.size:Ad)==AI)=Ah:=beq_eq_false_iff_ne.mpr (Ne.symm (gW I.big));refine#v[.ref s.heap.objs.size,upd H s.heap.objs.size (.dK (jQ [] g)),?_,rfl,q _ _ #v[d,rfl]];exact I.dz (ch:=[]) (h':=h2) (t':=V) (λb hb=>nomatch hb) (bV _) (λb o _ e=>k2 b o e) (JX f x y dd)
end L2
namespace EX
structure Lv (S:List Ad) (e:Ad) (old:List Ad) (cls:Ac) (h h':Ax) (T:Ad):Prop where
 ge:h.objs.size<=T
 exc:∃oe vs,h'.get? e=Aa oe/\oe.cls=cls/\oe.data=.fields vs/\vs[1]? = Aa (.ref T)/\oe.dict=Ae
 tb:∃oT ts,h'.get? T=Aa oT/\oT.data=.fields ts/\ts[3]? = Aa .none
 keep:∀b o,b∉S->b≠e->b∉old->h.get? b=Aa o->h'.get? b=Aa o
 slot:∀b o,b∈S->h.get? b=Aa o->∃sl,h'.get? b=Aa { o with slots:=sl }
theorem ZsJ(f:Array Ac->Array Ac)(o:Obj):(Obj.mapFields f o).dict=o.dict:=by unfold Obj.mapFields;split <;> rfl
theorem Zom{base:Ax}{L e:Ad}{vs:Array Ac}{nx:Bool}{Q:Unit->Ag->Prop}(r:A.frames=Aa (env::outer))(hl:s.heap.FunFrames base (env::outer))(hf:env.frame=Aa L)
  (he:s.heap.get? e=Aa h) (p:h.dict=Ae) (hd:h.data=.fields vs) (hsz:1<vs.size)
  (q:∀h' T,Lv ((env::outer).filterMap (·.frame)) e [] h.cls s.heap h' T->Q () { s with heap:=h' }):
  An M A (do let a <-frameOf env;let pl <-entryPlaceOf L nx;let b <-EntryCells.newEntry i a .none (Be L) .none pl;setField (.ref e) 1 b) (λ_ C=>An M A (BH (.ref e) Ae) Q E C) E s:=by
 have w:e∉(env::outer).filterMap (·.frame):=λhm=>by obtain⟨_,o,ho,t⟩:=hl.mem hm;rw[he]at ho;cases ho;exact t vs hd
 refine Af (wpAny_frameOf_fun r hl hf λk1 n=>Af (wpAny_entryPlaceOf λpl u=>?_));unfold EntryCells.newEntry newFields;refine Af (wpAny_newObj_type ?_ (u.sizeOk5 _ _ _ _ _));have e1:k1.get? e=Aa h:=(n.2.1 e w).trans he;generalize j:({ cls:=.type "traceback",dict:=Ae,data:=.fields ([i,.ref L,.none,Be L,.none]++(if pl.isEmpty then gR 6 Value.none else pl)).toArray }:Obj)=ob;have k:∃ts,ob.data=.fields ts/\3<ts.size:=#v[_,by rw[<-j],by simp only[iO,eG,lG,rA];omega];obtain⟨ts,l,d⟩:=k;have c:ob.isFreed=Ah:=by rw[<-j];rfl
 have e2:(k1.push ob).get? e=Aa h:=Heap.get?_push_of_some _ e1;refine BI e2 hd hsz ?_;have m:k1.objs.size≠e:=se (Heap.lt_size e1);have d3:=Obj.data_mapFields hd (·.setIfInBounds 1 (Value.ref k1.objs.size));have e3:=Heap.get?_update_self (Obj.mapFields (·.setIfInBounds 1 (Value.ref k1.objs.size))) e2 (Obj.isFreed_of_fields d3);have y:=(Heap.get?_update_other (k1.push ob) (Obj.mapFields (·.setIfInBounds 1 (Value.ref k1.objs.size))) (Ne.symm m)).trans (Heap.get?_push_size k1 c);unfold BH;refine Af (AG e3 d3 (x:=.ref k1.objs.size) (by simp[hsz]) ?_);rw[if_pos (show(Value.ref k1.objs.size != Value.none)=Ai by simp)];refine BI y l d (q _ k1.objs.size ?_)
 have B:∀b o,b≠e->k1.get? b=Aa o->(((k1.push ob).update e (Obj.mapFields (·.setIfInBounds 1 (Value.ref k1.objs.size)))).update k1.objs.size (Obj.mapFields (·.setIfInBounds 3 ((Ae:Option Ad).elim Value.none λf=>Be f)))).get? b=Aa o:=λb o v hb=>by rw[Heap.get?_update_other _ _ (se (Heap.lt_size hb)),Heap.get?_update_other _ _ (Ne.symm v)];exact Heap.get?_push_of_some _ hb
 refine#v[by rw[n.1];exact bV _,#v[_,_,(Heap.get?_update_other _ _ m).trans e3,Obj.cls_mapFields _ _,d3,by simp[hsz],(ZsJ _ _).trans p],?_,λb o hb v _ g=>B b o v ((n.2.1 b hb).trans g),λb o hb g=>?_]
 ·have d4:=Obj.data_mapFields l (·.setIfInBounds 3 ((Ae:Option Ad).elim Value.none λf=>Be f));exact#v[_,_,Heap.get?_update_self _ y (Obj.isFreed_of_fields d4),d4,by simp[d]]
 ·obtain⟨D,hs⟩:=n.2.2 b o g;exact#v[D,B b _ (λz=>w (z ▸ hb)) hs]
def Yl(h:Ax)(e:Ad)(vs:Array Ac)(c:List Ad):Prop:=(vs[1]? = Aa .none/\c=[])\/∃d f ts,c=[d]/\vs[1]? = Aa (.ref d)/\d≠e/\h.get? d=Aa f/\f.data=.fields ts/\ts[3]? = Aa .none
theorem lands{base:Ax}{L e:Ad}{vs:Array Ac}{Q:Unit->Ag->Prop}(h:A.frames=Aa (env::outer))(hl:s.heap.FunFrames base (env::outer))(hf:env.frame=Aa L)
  (he:s.heap.get? e=Aa k) (g:k.dict=Ae) (hd:k.data=.fields vs) (v:Yl s.heap e vs j)
  (q:∀h' T,Lv ((env::outer).filterMap (·.frame)) e j k.cls s.heap h' T->Q () { s with heap:=h' }):An M A (Ck (.ref e) env) (λ_ u=>An M A (BH (.ref e) Ae) Q E u) E s:=by
 unfold Ck;simp only[hf];rcases v with⟨h1,rfl⟩|⟨T0,y,ts,rfl,h1,p,m,f,h3⟩
 ·refine Af (AG he hd h1 ?_);rw[if_neg (by decide)];exact Zom h hl hf he g hd (MW.mp h1).1 q
 ·refine Af (AG he hd h1 ?_);rw[if_pos (show(Value.ref T0 != Value.none)=Ai by simp)];refine Af (AG m f h3 ?_);rw[if_neg (show¬((Value.none==Be L)=Ai) by simp[Be])];refine Af (BI m f (MW.mp h3).1 ?_);have l:∀b,b≠T0->(s.heap.update T0 (Obj.mapFields (·.setIfInBounds 3 Value.none))).get? b=s.heap.get? b:=λb hb=>Heap.get?_update_other _ _ (Ne.symm hb)
  have n:∀b o,s.heap.get? b=Aa o->(∀vs,o.data≠.fields vs)->b≠T0:=λb o hb d z=>by rw[z,m]at hb;cases hb;exact d ts f
  refine Zom h (hl.of_keeps λb o hb d=>#v[o,(l b (n b o hb d)).trans hb,rfl]) hf ((l e (Ne.symm p)).trans he) g hd (MW.mp h1).1 λh' T x=>q h' T #v[?_,x.exc,x.tb,λb o hb r t c=>?_,λb o hb c=>?_]
  ·have:=x.ge;rw[show(s.heap.update T0 (Obj.mapFields (·.setIfInBounds 3 Value.none))).objs.size=s.heap.objs.size from Heap.size_after_update ..]at this;exact this
  ·exact x.keep b o hb r (by simp) ((l b (λz=>t (by simp[z]))).trans c)
  ·obtain⟨_,w,i,d⟩:=hl.mem hb;rw[c]at i;cases i;exact x.slot b o hb ((l b (n b o c d)).trans c)
theorem D3{base:Ax}{L e:Ad}{vs:Array Ac}{Q:Unit->Ag->Prop}(g:A.frames=Aa (env::outer))(hl:s.heap.FunFrames base (env::outer))(hf:env.frame=Aa L)
  (he:s.heap.get? e=Aa d) (f:d.dict=Ae) (hd:d.data=.fields vs) (h:Yl s.heap e vs c)
  (q:∀h' T,Lv ((env::outer).filterMap (·.frame)) e c d.cls s.heap h' T->Q () { s with heap:=h' }):An M A (leaving env (.ref e)) Q E s:=by
 unfold leaving;exact Af (lands g hl hf he f hd h q)
end EX
namespace L2
def lf(P:Al)(w:Au):rM:=λouter H s E er c=>∃e T C d,er=.ref e/\c.os=s.os/\BE c.gens/\Un (oy outer) [] H d s.heap c.heap/\jU P w d c.heap/\s.heap.get? e=Ae/\s.heap.get? T=Ae/\T≠e/\d e=Ae/\d T=Ae /\
 (∃f vs,c.heap.get? e=Aa f/\f.cls=.ref C/\f.data=.fields vs/\vs[1]? = Aa (.ref T)/\f.dict=Ae)/\(∃g ts,c.heap.get? T=Aa g/\g.data=.fields ts/\ts[3]? = Aa .none)/\E (.ref e) (Aa C) d
theorem gI.has(x:gI P w H h a o):∃u,h.get? a=Aa u:=by
 cases o with
 |lst xs=>obtain⟨_,_,_,_,e⟩:=x;exact#v[_,e]
 |tup xs=>obtain⟨_,_,_,_,e,_⟩:=x;exact#v[_,e]
 |dK kvs=>obtain⟨_,_,_,_,o,_,_,e,_⟩:=x;exact#v[_,e]
 |dT kvs=>obtain⟨_,_,_,_,o,_,_,e,_⟩:=x;exact#v[_,e]
 |set S n=>obtain⟨o,_,_,_,e,_⟩:=x;exact#v[_,e]
 |ins C dx fs=>obtain⟨_,_,_,e,_⟩:=x;exact#v[_,e]
 |own y=>exact x
 |xd fs=>obtain⟨_,⟨_,_,_,e,_⟩,_⟩:=x;exact#v[_,e]
 |rng lo hi=>obtain⟨_,_,_,e⟩:=x;exact#v[_,e]
 |frz ob u=>obtain⟨e,_⟩:=x;exact#v[_,e]
 |tbl c=>exact#v[_,(show h.get? a=Aa _ from x)]
 |met f y=>exact#v[_,(show h.get? a=Aa _ from x)]
 |ext φ=>obtain⟨_,e,_⟩:=x;exact e
theorem jU.rO(x:jU P w H h)(e:h.get? a=Ae):H a=Ae:=by
 cases q:H a with
 |none=>rfl
 |some u=>obtain⟨o,z⟩:=(x a u q).has;rw[e]at z;cases z
def um(X:Cx)(d:List (Ad×Obj))(H:Hp)(b:Ad):Prop:=H b=Ae/\b≠X.env.locals/\b∉X.fs/\(b∈X.ex\/X.s₀.heap.get? b=Ae)/\(∀x c,X.env.cells.lookup x=Aa c->c≠b)/\∀p∈X.pn++d,p.1≠b
theorem Inv.xN(I:Inv X d σ H s)(hb:s.heap.get? b=Ae)(hn:g b=Ae):um X d g b:=by
 have f:∀{o:Obj},s.heap.get? b=Aa o->False:=λz=>by rw[hb]at z;cases z
 refine#v[hn,λz=>?_,λz=>?_,?_,λx c e z=>?_,λp hp z=>?_]
 ·obtain⟨m,⟨o,es,ep,ho,_⟩,_⟩:=I.loc;rw[<-z]at ho;exact f ho
 ·obtain⟨_,o,ho,_⟩:=I.gZ.mem z;exact f ho
 ·by_cases hx:b∈X.ex
  ·exact .inl hx
  ·refine .inr ?_;cases q:X.s₀.heap.get? b with
   |none=>rfl
   |some o=>obtain⟨h,h'⟩:=I.base.there b o q hx;exact(f h').elim
 ·obtain⟨v,q⟩:=I.cell x c e;rw[z]at q;obtain⟨o,ho,_⟩:=q;exact f ho
 ·have:=(I.pin p hp).1;rw[z]at this;exact f this
structure yh (X:Cx) (pins:List (Ad×Obj)) (H:Hp) (e C:Ad) (s:Ag):Prop where
 fe:um X pins H e
 obj:∃oe vs old,s.heap.get? e=Aa oe/\oe.cls=.ref C/\oe.data=.fields vs/\EX.Yl s.heap e vs old/\oe.dict=Ae/\∀b∈old,um X pins H b
def K2(X:Cx)(E:XK):Prop:=∀(c:List (Ad×Obj)) (σ:St) (H:Hp) (s:Ag) (e C:Ad),Inv X c σ H s->yh X c H e C s->E (.ref e) (Aa C) H->X.xe (.ref e) s
theorem ZtL(I:Inv X c σ H s)(h:lf X.prog X.w X.stack H s E er j):∃e C f,er=.ref e/\Inv X c σ f j/\yh X c f e C j/\E (.ref e) (Aa C) f:=by obtain⟨e,T,C,f,rfl,v,i,x,k,ge,m,p,he,n,⟨u,vs,h1,h2,h3,h4,h8⟩,⟨r,ts,h5,h6,h7⟩,q⟩:=h;obtain⟨hh,g,d,t,l⟩:=j;obtain rfl:l=s.os:=v;refine#v[e,C,f,rfl,I.call (h':=hh) (g':=g) (d':=d) (t':=t) (ch:=[]) x k i (λb z=>absurd z (by simp)),#v[I.xN ge he,u,vs,[T],h1,h2,h3,.inr #v[T,r,ts,rfl,h4,p,h5,h6,h7],h8,λb hb=>?_],q];rw[dQ.mp hb];exact I.xN m n
theorem Ru(h:K2 X E):wy (lf X.prog X.w) X E:=λc σ H s er i I d=>by obtain⟨e,C,f,rfl,g,fl,q⟩:=ZtL I d;exact h c σ f i e C g fl q
theorem qj:wy (lf P w) X E0:=λ_ _ _ _ _ _ _ h=>by obtain⟨_,_,_,_,_,_,_,_,_,_,_,_,_,_,_,_,q⟩:=h;exact q.elim
section
variable {P:Al}{w:Au}{K:aE}{mg:Str->Option Ac}{base:Ax}
theorem vh{N:List Str}:K2 (qX (lf P w) P w K mg base N d scope f g A outer s H E) E:=by
 intro l σ m p e C I fl q;obtain⟨fe,oe,vs,G,h1,h2,h3,tr,r,fo⟩:=fl;show An (model P w) (A.deeper (AY d scope s.heap.objs.size f g)) (leaving (AY d scope s.heap.objs.size f g) (.ref e)) (λ_ k=>lf P w outer H s E (.ref e) k) (λX k=>lf P w outer H s E X k) p;have fr:(A.deeper (AY d scope s.heap.objs.size f g)).frames=Aa (AY d scope s.heap.objs.size f g::outer):=I.ok.frames;have ff:p.heap.FunFrames base (AY d scope s.heap.objs.size f g::outer):=I.stack;have free:∀b∈(AY d scope s.heap.objs.size f g::outer).filterMap (·.frame),m b=Ae:=I.mZ
 have j:∀{b},um (qX (lf P w) P w K mg base N d scope f g A outer s H E) l m b->s.heap.get? b=Ae:=λ{b} hb=>by
  rcases hb.4 with z|z
  ·exact absurd z (by show b∉([]:List Ad);simp)
  ·exact z
 have h:∀{b o},s.heap.get? b=Aa o->b≠e/\b∉G/\b≠s.heap.objs.size:=λ{b o} hb=>by
  have Z:=Heap.lt_size hb;refine#v[λz=>?_,λz=>?_,gW Z]
  ·have:=j fe;rw[<-z,hb]at this;cases this
  ·have:=j (fo b z);rw[hb]at this;cases this
 refine EX.D3 (base:=base) fr ff rfl h1 r h3 tr λh' T i=>?_
 have t:∀{b},b∈(AY d scope s.heap.objs.size f g::outer).filterMap (·.frame)->b=s.heap.objs.size\/b∈oy outer:=λ{b} hb=>by rw[Ju]at hb;exact iN.mp hb
 have M:∀{b},b∈oy outer->b∈(AY d scope s.heap.objs.size f g::outer).filterMap (·.frame):=λ{b} hb=>by rw[Ju];exact sC _ hb
 have B:=I.base;have J:s.heap.objs.size<=p.heap.objs.size:=I.sz
 have Y:∀b u,m b≠Ae->p.heap.get? b=Aa u->h'.get? b=Aa u:=λb u x hb=>by refine i.keep b u (λz=>x (free b z)) (λz=>x (by rw[z];exact fe.1)) (λz=>x (fo b z).1) hb
 refine#v[e,T,C,m,rfl,I.os,I.bare,#v[λb o e1 n hb hx=>?_,λb o e1 n hb hx=>?_,λb o e1 n hx=>B.free b o e1 n hx,λb o e1 hx=>?_,B.lu,B.kM,B.lx],λb u e1=>?_,j fe,Heap.get?_none_of_le (lC J i.ge),?_,fe.1,I.bP.fresh i.ge,?_,i.tb,q]
 ·obtain⟨Q,R,V⟩:=h e1;refine i.keep b o (λz=>?_) Q R (B.keep b o e1 n hb hx);rcases t z with z|z
  ·exact V z
  ·exact hb z
 ·obtain⟨sl,e2⟩:=B.slot b o e1 n hb hx;obtain⟨L,e3⟩:=i.slot b _ (M hb) e2;exact#v[L,e3]
 ·obtain⟨U,e2⟩:=B.there b o e1 hx;obtain⟨Q,R,V⟩:=h e1;by_cases S:b∈(AY d scope s.heap.objs.size f g::outer).filterMap (·.frame)
  ·obtain⟨sl,e3⟩:=i.slot b _ S e2;exact#v[_,e3]
  ·exact#v[U,i.keep b U S Q R e2]
 ·refine(I.bP b u e1).mT (λc v hc hv=>Y c v (λz=>?_) hv) (λ_ z=>z) λ_ _ z=>z;rcases hc with y|y
  ·rw[y,e1]at z;cases z
  ·rw[y]at z;cases z
 ·exact se (nr (Heap.lt_size h1) i.ge)
 ·obtain⟨D,O,y1,y2,y3,y4,y5⟩:=i.exc;exact#v[D,O,y1,y2.trans h2,y3,y4,y5]
theorem qz.okX{st:Az}{N j:List Str}(F:qz K x c st f fd)(S:aH N j (bZ st))(len:∀vs H Q E,sp vs H Q E->vs.length=j.length)
  (g:∀(d:Ac) (A:At) (outer:List Env) (s:Ag) (H:Hp) (vs:List V) (Q:VK) (E:XK),cQ k (A.deeper (AY c (bZ st) s.heap.objs.size f d))->sp vs H Q E ->
   ∃t,nc (qX (lf P w) P w K mg base N c (bZ st) f d A outer s H E) (rj st) t/\t { nx:=λ_ l=>Q .non l,rt:=Q } (start N vs) H):a0 P w K mg base (lf P w) (k+1) f fd j sp:=by
 obtain⟨r,od,q,m,u,an,d,ct,p,rfl,n,h⟩:=F.ex;exact zy n h S len λA outer s H vs Q E hr i=>g d A outer s H vs Q E hr i
end
section
open PySem.W
theorem Hi{K:Frag}{h:Ax}{C:Ad}{i:List Ac}{d:String}(X:K.In h)(q:excIn K C i d=Ai):∃bm N nm m bs hdct sn sub ab col dd k0 k1 k2 k3 k5 k,
  h.get? C=Aa (excClassObj nm m C N bs bm hdct sn sub ab col dd k0 k1 k2 k3 k5 d)/\h.Ns N k/\k "__init__" = Ae/\OwnTail h i bm:=by
 have hk:=q
 revert hk
 rw[excIn];intro hk;cases hl:K.lookup C with
 |none=>rw[hl]at hk;cases hk
 |some ob=>
  obtain⟨c,dd,dt,p⟩:=ob;rw[hl]at hk;split at hk
  next l cd r he=>
   cases he;split at hk
   next t bm k0 k1 k2 k3 n k5 hm hs=>simp only[sE,beq_iff_eq,Bool.not_eq_true']at hk;obtain⟨⟨⟨⟨⟨hc,hn⟩,f⟩,ht⟩,g⟩,j⟩:=hk;cases cd;cases p;simp only at hm f g j hs;rw[hm,f,hs]at hl;rw[hc,hn]at hl;exact#v[_,_,_,_,_,_,_,_,_,_,_,_,_,_,_,_,_,X _ _ hl,.of_isNs (isNs_of_in X g),nsMap_none_of_in X g j,tail_of_in X ht]
   next=>cases hk
  next=>cases hk
end
def xB(C:Ad)(t:TA)(E:XK):TS:=λ_ σ H=>t σ H λvs c=>vs.length<=sizeLine/\∀e,c e=Ae->E (.ref e) (Aa C) c
theorem DV{e:Expr}(F:ExcBaseFacts B f i k)(q:vq X.K C k f=Ai)(l:k.contains (.type "BaseException")=Ai)
  (hg:Gl X x) (hm:X.mg x=Aa (.ref C)) (hc:X.calm=Ai) (hx:K2 X E) (ha:PA X (e::es) t) (m:(x==("__debug__" : Str))=Ah:=by decide) (he:As (e::es) X.env=(Ah,eval e X.env):: As es X.env:=by rfl)
  (p:(AN c (As (e::es) X.env)).any (·.1)=Ah:=by rfl):PS X (.Raise (Aa (.Call (.Name x J) (e::es) [] c)) Ae pos) (xB C t E):=by
 intro g s σ H D I h;obtain⟨bm,N,nm,M,bs,hdct,sn,sub,ab,col,dd,k0,k1,k2,k3,k5,P,A,G,n,T⟩:=Hi I.ok.mod.Ht q;refine wpAny_Raise_call_subT (nm:=nm) (q:=M) (N:=N) (bs:=bs) (hdct:=hdct) (sn:=sn) (sub:=sub) (ab:=ab) (col:=col) (dd:=dd) (k0:=k0) (k1:=k1) (k2:=k2) (k3:=k3) (k5:=k5) F (T.hasType l) (I.ok.hd hc) p n (FF I hg hm #v[rfl,?_] m);have v:=ha c g s σ H _ I h;rw[he]at v ⊢;refine Calls.evalArgs_plain (bY v λus y ⟨vs,u,j,r,hz,L⟩=>#v[rfl,?_,j.bk _ _ A,G.keeps j.bk,T.keeps j.bk,λh' w d=>?_])
 ·show us.length<=_;rw[<-r.length];exact hz
 ·have z:Inv X g σ u { y with heap:=h' }:=j.kept (t':=y.toks) d.keeps;obtain⟨S,O,Q,R⟩:=d.there;exact hx g σ u _ w C z #v[j.xN d.new (j.bP.rO d.new),_,_,[],O,rfl,rfl,.inl #v[rfl,rfl],rfl,λb hb=>absurd hb (by simp)] (L w (j.bP.rO d.new))
def Cx.plus(X:Cx)(l:List Ad):Cx:={ X with ex:=l++X.ex }
section
variable {X:Cx}{pins:List (Ad×Obj)}{σ:St}{H:Hp}{s:Ag}{l:List Ad}
theorem ZmG(I:Inv X pins σ H s)(hb:X.s₀.heap.get? b=Ae)(o:Obj):X.base.get? b≠Aa o:=λz=>by have:=(I.ok.bs b o z).1;rw[hb]at this;cases this
theorem Inv.plus(I:Inv X pins σ H s)(h:∀b∈l,um X pins H b):Inv (X.plus l) pins σ H s:=by
 have K:=I.ok;refine#v[#v[K.mod,K.kind,K.glob,K.blt,K.above,K.inj,K.has,K.wD,K.hd,K.frames,K.xA,λb hb=>?_,K.bs,K.rm,λb o e hb=>?_,λb hb=>?_,K.gZ,K.tL],I.os,I.bare,?_,I.loc,I.cell,I.free,I.dU,I.pin,I.bP,I.len]
 ·rcases fG.mp hb with z|z
  ·exact#v[(h b z).2,(h b z).5]
  ·exact K.FN b z
 ·rcases fG.mp hb with z|z
  ·rcases(h b z).4 with y|y
   ·exact K.nT b o e y
   ·exact ZmG I y o e
  ·exact K.nT b o e z
 ·rcases fG.mp hb with z|z
  ·exact(h b z).3
  ·exact K.ot b z
 ·have c:∀{b:Ad},b∉l++X.ex->b∉X.ex:=λhb z=>hb (qK _ z);exact#v[λb o e n hb hx=>I.base.keep b o e n hb (c hx),λb o e n hb hx=>I.base.slot b o e n hb (c hx),λb o e n hx=>I.base.free b o e n (c hx),λb o e hx=>I.base.there b o e (c hx),I.base.lu,I.base.kM,I.base.lx]
theorem Inv.minus(I:Inv (X.plus l) pins σ H s)(K:X.Ok)(h:∀b∈l,b∈X.ex\/X.s₀.heap.get? b=Ae):Inv X pins σ H s:=by
 have c:∀{b:Ad}{o:Obj},X.s₀.heap.get? b=Aa o->b∉X.ex->b∉l++X.ex:=λ{b o} e hb z=>by
  rcases fG.mp z with y|y
  ·rcases h b y with u|u
   ·exact hb u
   ·rw[u]at e;cases e
  ·exact hb y
 exact⟨K,I.os,I.bare,#v[λb o e n hb hx=>I.base.keep b o e n hb (c e hx),λb o e n hb hx=>I.base.slot b o e n hb (c e hx),λb o e n hx=>I.base.free b o e n (c e hx),λb o e hx=>I.base.there b o e (c e hx),I.base.lu,I.base.kM,I.base.lx],
  I.loc,I.cell,I.free,I.dU,I.pin,I.bP,I.len⟩
theorem Inv.turn(I:Inv X pins σ H s)(h:∀b∈l,um X pins H b)
  (keep:∀b o,b∉oy X.stack->b∉l->s.heap.get? b=Aa o->h'.get? b=Aa o) (slot:∀b o,b∈oy X.stack->s.heap.get? b=Aa o->∃f,h'.get? b=Aa { o with slots:=f }):Inv X pins σ H { s with heap:=h' }:=by
 have g:=I.plus h;have st:∀b,H b≠Ae->b∉oy X.stack/\b∉l:=λb n=>#v[λz=>n (I.mZ b z),λz=>n (h b z).1]
 have u:Un (oy X.stack) l H H s.heap h':=by
  refine#v[λb o e n hb hx=>keep b o hb hx e,λb o e n hb hx=>slot b o hb e,λb o e n hx=>n,λb o e hx=>?_,λ_ _ e=>e,λ_ _ _ e=>e,λb i e=>#v[#[],by rw[e];simp]];by_cases hb:b∈oy X.stack
  ·obtain⟨f,q⟩:=slot b o hb e;exact#v[_,q]
  ·exact#v[o,keep b o hb hx e]
 have d:jU X.prog X.w H h':=λb u e1=>by
  refine(I.bP b u e1).mT (λc v hc hv=>?_) (λ_ z=>z) λ_ _ z=>z
  have n:H c≠Ae:=λz=>by
   rcases hc with y|y
   ·rw[y,e1]at z;cases z
   ·rw[y]at z;cases z
  exact keep c v (st c n).1 (st c n).2 hv
 exact Inv.minus (l:=l) (g.call (g':=s.gens) (d':=s.drawn) (t':=s.toks) (ch:=l) u d I.bare λb hb=>#v[.inl (qe _ hb),(h b hb).2,(h b hb).5,(h b hb).6]) I.ok λb hb=>(h b hb).4
structure wT (X:Cx) (pins:List (Ad×Obj)) (H:Hp) (e C T:Ad) (s:Ag):Prop where
 fe:um X pins H e
 fT:um X pins H T
 ne:T≠e
 exc:∃oe vs,s.heap.get? e=Aa oe/\oe.cls=.ref C/\oe.data=.fields vs/\vs[1]? = Aa (.ref T)/\oe.dict=Ae
 tb:∃oT ts,s.heap.get? T=Aa oT/\oT.data=.fields ts/\ts[3]? = Aa .none
theorem land{e C:Ad}{Q:Unit->Ag->Prop}(I:Inv X pins σ H s)(hs:X.stack=X.env::X.outer/\X.env.frame=Aa X.env.locals)(fl:yh X pins H e C s)
  (q:∀h' T,Inv X pins σ H { s with heap:=h' }->wT X pins H e C T { s with heap:=h' }->Q () { s with heap:=h' })  :
  An (model X.prog X.w) X.A (Ck (.ref e) X.env) (λ_ k=>An (model X.prog X.w) X.A (BH (.ref e) Ae) Q E k) E s:=by
 obtain⟨fe,v,vs,g,h1,h2,h3,m,d,fo⟩:=fl;have fr:X.A.frames=Aa (X.env::X.outer):=by rw[I.ok.frames,hs.1]
 have ff:s.heap.FunFrames X.base (X.env::X.outer):=by rw[<-hs.1];exact I.stack
 refine EX.lands fr ff hs.2 h1 d h3 m λh' T c=>?_;have es:oy X.stack=(X.env::X.outer).filterMap (·.frame):=by rw[hs.1];rfl
 have j:Inv X pins σ H { s with heap:=h' }:=by
  refine I.turn (l:=e::g) (λb hb=>?_) (λb o hb hl ho=>?_) (λb o hb ho=>?_)
  ·rcases iN.mp hb with z|z
   ·rw[z];exact fe
   ·exact fo b z
  ·rw[es]at hb;exact c.keep b o hb (λz=>hl (by simp[z])) (λz=>hl (by simp[z])) ho
  ·rw[es]at hb;exact c.slot b o hb ho
 have i:s.heap.get? T=Ae:=Heap.get?_none_of_le c.ge;refine q h' T j #v[fe,I.xN i (I.bP.rO i),?_,?_,c.tb]
 ·exact se (nr (Heap.lt_size h1) c.ge)
 ·obtain⟨f,h,n,p,r,t,u⟩:=c.exc;exact#v[f,h,n,p.trans h2,r,t,u]
theorem again{e C T:Ad}{Q:Unit->Ag->Prop}(I:Inv X pins σ H s)(hd:wT X pins H e C T s)
  (q:∀h',Inv X pins σ H { s with heap:=h' }->wT X pins H e C T { s with heap:=h' }->Q () { s with heap:=h' })  :
  An (model X.prog X.w) A (BH (.ref e) Ae) Q E s:=by
 obtain⟨fe,i,j,⟨n,vs,h1,h2,h3,h4,h5⟩,⟨p,ts,g,h,k⟩⟩:=hd;unfold BH;refine Af (AG h1 h3 h4 ?_);rw[if_pos (show(Value.ref T != Value.none)=Ai by simp)];refine BI g h (MW.mp k).1 ?_;have d4:=Obj.data_mapFields h (·.setIfInBounds 3 ((Ae:Option Ad).elim Value.none λf=>Be f));have d:∀b,b≠T->(s.heap.update T (Obj.mapFields (·.setIfInBounds 3 ((Ae:Option Ad).elim Value.none λf=>Be f)))).get? b=s.heap.get? b:=λb hb=>Heap.get?_update_other _ _ (Ne.symm hb)
 have c:∀b,b∈oy X.stack->b≠T:=λb hb z=>by obtain⟨_,o,ho,m⟩:=I.stack.mem hb;rw[z,g]at ho;cases ho;exact m ts h
 refine q _ (I.turn (l:=[T]) (λb hb=>?_) (λb o hb hl ho=>?_) λb o hb ho=>?_) #v[fe,i,j,#v[n,vs,(d e (Ne.symm j)).trans h1,h2,h3,h4,h5],#v[_,_,Heap.get?_update_self _ g (Obj.isFreed_of_fields d4),d4,?_]]
 ·rw[dQ.mp hb];exact i
 ·exact(d b (λz=>hl (by simp[z]))).trans ho
 ·exact#v[o.slots,(d b (c b hb)).trans ho]
 ·simp[(MW.mp k).1]
end
def mroIn(K:aE)(C:Ad):List Ac:=match K.lookup C with
 |some ⟨_,_,.cls cd,_⟩=>cd.mro
 |_=>[]
section
open PySem.W
theorem Zre{K:Frag}{h:Ax}{C:Ad}(X:K.In h)(q:ktsIn K C "BaseException" = Ai):∃nm d N bs bm hdct sn sub ab col dd k0 k1 k2 k3 k5 c,
  h.get? C=Aa (excClassObj nm d C N bs bm hdct sn sub ab col dd k0 k1 k2 k3 k5 c)/\bm.contains (.type "BaseException")=Ai/\mroIn K C=.ref C::bm:=by
 obtain⟨nm,d,N,bs,bm,hdct,sn,sub,ab,col,dd,k0,k1,k2,k3,k5,c,f,hb,_⟩:=kts_cls X q;refine#v[nm,d,N,bs,bm,hdct,sn,sub,ab,col,dd,k0,k1,k2,k3,k5,c,f,hb,?_];cases hl:K.lookup C with
 |none=>unfold ktsIn at q;rw[hl]at q;cases q
 |some ob=>have:=X _ _ hl;rw[f]at this;cases this;unfold mroIn;rw[hl]
end
theorem ZiB{M:Model}{A:At}{E:Ac->Ag->Prop}{h:Ax}{g:Array BP}{d:Drawn}{t:Nat}{os:OsState}{e C D:Ad}{oe:Obj}{K:aE}{Q:Bool->Ag->Prop}(X:K.In h)
  (qC:qo K C "BaseException" = Ai) (qD:qo K D "BaseException" = Ai) (he:h.get? e=Aa oe) (XG:oe.cls=.ref C) (hq:Q ((mroIn K C).contains (.ref D)) #v[h,g,d,t,os]):
  An M A (excMatches (.ref e) (.ref D)) Q E #v[h,g,d,t,os]:=by
 obtain⟨nm,qn,N,bs,bm,hdct,sn,sub,ab,col,dd,k0,k1,k2,k3,k5,newId,hC,hbC,mC⟩:=Zre X qC;obtain⟨nm',qn',N',bs',bm',hdct',sn',sub',ab',col',dd',k0',k1',k2',k3',k5',newId',hD,hbD,mD⟩:=Zre X qD;have hDB:(Value.ref D::bm').contains (.type "BaseException")=Ai:=by rw[List.contains_cons,hbD,Bool.or_true]
 have f:=tc_notTuple;rw[mC]at hq;unfold excMatches
 repeat (first|(with_reducible refine wpAny_loadPart_at he ?_;rw[XG])|with_reducible refine wpAny_loadPart_at hD ?_|(with_reducible refine wpAny_isSubtype_exc hD ?_;rw[hDB])|with_reducible refine wpAny_isSubtype_exc hC ?_|wp_step)
 all_goals (cases hb:(Value.ref C::bm).contains (.ref D) <;> (rw[hb]at hq;wp_walk;exact hq))
def Cx.mk'(X:Cx)(e:Ad):Cx:={ X with A:=X.A.mark (Aa (.ref e)),calm:=Ah,xe:=λ_ _=>False }
def Cx.tr(X:Cx)(c:List (Ad×Obj))(d:St->XK):Cx:={ X with pn:=X.pn++c,xe:=λer s=>∃σ e C H,er=.ref e/\Inv X c σ H s/\yh X c H e C s/\d σ (.ref e) (Aa C) H }
section
variable {X:Cx}{pins:List (Ad×Obj)}{σ:St}{H:Hp}{s:Ag}{e C T:Ad}{D:Ends}{f:Flow}{Ex:St->XK}
theorem Inv.mk'(I:Inv X pins σ H s)(e:Ad):Inv (X.mk' e) pins σ H s:=#v[#v[I.ok.mod,I.ok.kind,I.ok.glob,I.ok.blt,I.ok.above,I.ok.inj,I.ok.has,I.ok.wD,λh=>Bool.noConfusion h,I.ok.frames,I.ok.xA,I.ok.FN,I.ok.bs,I.ok.rm,I.ok.nT,I.ok.ot,I.ok.gZ,I.ok.tL],I.os,I.bare,I.base,I.loc,I.cell,I.free,I.dU,I.pin,I.bP,I.len]
theorem Inv.rT(I:Inv (X.mk' e) pins σ H s)(K:X.Ok):Inv X pins σ H s:=#v[K,I.os,I.bare,I.base,I.loc,I.cell,I.free,I.dU,I.pin,I.bP,I.len]
theorem Inv.tr(I:Inv X pins σ H s)(Ex:St->XK):Inv (X.tr pins Ex) [] σ H s:=#v[#v[I.ok.mod,I.ok.kind,I.ok.glob,I.ok.blt,I.ok.above,I.ok.inj,I.ok.has,I.ok.wD,I.ok.hd,I.ok.frames,I.ok.xA,I.ok.FN,I.ok.bs,I.ok.rm,I.ok.nT,I.ok.ot,I.ok.gZ,I.ok.tL],I.os,I.bare,I.base,I.loc,I.cell,I.free,I.dU,λp hp=>I.pin p (by rw[xt]at hp;exact hp),I.bP,I.len]
theorem Inv.pF(I:Inv (X.tr pins Ex) c σ H s):Inv X pins σ H s:=#v[#v[I.ok.mod,I.ok.kind,I.ok.glob,I.ok.blt,I.ok.above,I.ok.inj,I.ok.has,I.ok.wD,I.ok.hd,I.ok.frames,I.ok.xA,I.ok.FN,I.ok.bs,I.ok.rm,I.ok.nT,I.ok.ot,I.ok.gZ,I.ok.tL],I.os,I.bare,I.base,I.loc,I.cell,I.free,I.dU,λp hp=>I.pin p (qe _ hp),I.bP,I.len]
theorem yh.pF(F:yh (X.tr pins Ex) c H e C s):yh X pins H e C s:=by have g:∀{b},um (X.tr pins Ex) c H b->um X pins H b:=λ{b} h=>#v[h.1,h.2,h.3,h.4,h.5,λp hp=>h.6 p (qe _ hp)];obtain⟨i,vs,d,h1,h2,h3,h4,h6,h5⟩:=F.obj;exact#v[g F.fe,i,vs,d,h1,h2,h3,h4,h6,λb hb=>g (h5 b hb)]
def xW(X:Cx)(Ex:St->XK):Prop:=∀(pins:List (Ad×Obj)) (σ:St) (H:Hp) (s:Ag) (e C:Ad),Inv X pins σ H s->yh X pins H e C s->Ex σ (.ref e) (Aa C) H->X.xe (.ref e) s
theorem Hn:xW (X.tr pins Ex) Ex:=λc σ H s e C I fl q=>#v[σ,e,C,H,rfl,I.pF,fl.pF,q]
theorem K2.toS(h:K2 X E):xW X λ_=>E:=λpins σ H s e C I fl q=>h pins σ H s e C I fl q
theorem SP.rT(h:SP (X.mk' e) pins D f s)(K:X.Ok):SP X pins D f s:=by
 cases f with
 |ret u=>obtain⟨v,d,c,I,r,q⟩:=h;exact#v[v,d,c,I.rT K,r,q]
 |next=>obtain⟨d,c,I,q⟩:=h;exact#v[d,c,I.rT K,q]
 |brk=>obtain⟨d,c,I,q⟩:=h;exact#v[d,c,I.rT K,q]
 |cont=>obtain⟨d,c,I,q⟩:=h;exact#v[d,c,I.rT K,q]
theorem SP.pF(h:SP (X.tr pins Ex) [] D f s):SP X pins D f s:=by
 cases f with
 |ret u=>obtain⟨v,d,c,I,r,q⟩:=h;exact#v[v,d,c,I.pF,r,q]
 |next=>obtain⟨d,c,I,q⟩:=h;exact#v[d,c,I.pF,q]
 |brk=>obtain⟨d,c,I,q⟩:=h;exact#v[d,c,I.pF,q]
 |cont=>obtain⟨d,c,I,q⟩:=h;exact#v[d,c,I.pF,q]
end
def PH(X:Cx)(hs:List Bv)(hd:Ad->Ad->TS):Prop:=∀(c:List (Ad×Obj)) (s:Ag) (σ:St) (H:Hp) (D:Ends) (e C T:Ad),Inv X c σ H s->wT X c H e C T s->hd e C D σ H->An (model X.prog X.w) X.A (handleBy (.ref e) X.env hs) (SP X c D) X.xe s
def EH:Ad->Ad->TS:=λ_ _ _ _ _=>False
def Ml(K:aE)(c:Ad)(d rest:Ad->Ad->TS):Ad->Ad->TS:=λe C D σ H=>qo K C "BaseException" = Ai/\if(mroIn K C).contains (.ref c) then d e C D σ H else rest e C D σ H
section
variable {X:Cx}{x:Str}{np pos:Pos}{Dc:Ad}{b₀:Az}{body:List Az}{rest:List Bv}{hd:Ad->Ad->TS}{ts:TS}
theorem Ef:PH X [] EH:=λ_ _ _ _ _ _ _ _ _ _ h=>h.elim
theorem ZuT(q:qo X.K Dc "BaseException" = Ai)(hg:Gl X x)(hm:X.mg x=Aa (.ref Dc))(hb:∀e,nc (X.mk' e) (b₀::body) ts)(hr:PH X rest hd)(i:(x==("__debug__" : Str))=Ah:=by decide):
  PH X (.ExceptHandler (Aa (.Name x np)) Ae (b₀::body) pos::rest) (Ml X.K Dc (λ_ _=>ts) hd):=by
 intro c s σ H D e C T I hl h;obtain⟨l,h⟩:=h;refine wpAny_handleBy_cons (B5 ?_) (by intro z;cases z);refine FF (X:=X.mk' e) (I.mk' e) hg hm ?_ i;obtain⟨m,vs,h1,h2,h3,h4,h5⟩:=hl.exc;obtain⟨hp,g,d,t,n⟩:=s;refine ZiB I.kE l q h1 h2 ?_;cases hc:(mroIn X.K C).contains (.ref Dc) with
 |false=>rw[hc]at h;exact hr c _ σ H D e C T I hl h
 |true=>rw[hc]at h;refine codeAny_handlers_suite (again (A:=X.A.mark (Aa (.ref e))) I hl λh' j k=>?_);exact AF (hb e c _ σ H D (j.mk' e) h) (λf p z=>z.rT I.ok) λ_ _ z=>z.elim
def Ho(f:(St->XK)->TS)(hd:Ad->Ad->TS):TS:=λD σ H=>f (λg er d c=>∃e C,er=.ref e/\d=Aa C/\hd e C D g c) D σ H
theorem Gz{h₀:Bv}(st:X.stack=X.env::X.outer/\X.env.frame=Aa X.env.locals)(hb:∀c g,nc (X.tr c g) b (i g))(hh:PH X (h₀::hs) hd):PS X (.Try b (h₀::hs) [] [] pos) (Ho i hd):=by
 intro c s σ H D I h;refine wpAny_Try_except (AF (hb c _ [] s σ H D (I.tr _) h) (λf p z=>?_) λer p z=>?_)
 ·have d:=SP.pF z;cases f with
  |next=>exact Aj d
  |ret u=>exact d
  |brk=>exact d
  |cont=>exact d
 ·obtain⟨r,e,C,j,rfl,k,fl,e2,t,m,n,q⟩:=z;cases m;cases n;exact land k st fl λh' T l hl=>hh c _ r j D e C T l hl q
end
def Zq(sp:Sp)(c:List V)(d:St->XK)(t:TA):TE:=λσ H Q=>t σ H λvs f=>sp (vs++c) f Q (d σ)
theorem ZuH{Q:VK}{vs:List V}(hx:xW X Ex)(F:a0 X.prog X.w X.K X.mg X.base (lf X.prog X.w) k f fd ps sp)(hr:cQ k X.A)(hb:ua X.K fd ps ds)(hd:Vals nZ ds)
  (I:Inv X c σ H s) (r:Vals vs us) (h:sp (vs++nZ) H Q (Ex σ)):An (model X.prog X.w) X.A (call (.ref f) us) (EP X c σ Q) X.xe s:=by
 have d:=r.append hd;have g:=d.length;rw[F.len _ _ _ _ h]at g;apply BW;apply BF (F.run X.A X.stack s H #v[us,[]] (us++ds) (vs++nZ) Q (Ex σ) hr I.Hm (hb s us I.kE g.symm) d h);intro res n q
 match res,q with
 |.ok (.ret u),q=>exact I.after q
 |.error er,q=>obtain⟨e,C,i,hr,j,fl,l⟩:=ZtL I q;rw[hr];exact hx c σ i n e C j fl l
theorem ZsB(hx:xW X Ex)(F:a0 X.prog X.w X.K X.mg X.base (lf X.prog X.w) k f fd ps sp)(hr:cQ k X.A)(hg:Gl X x)(hm:X.mg x=Aa (.ref f))(hk:xl X.K (.ref f)=Ai)(hb:ua X.K fd ps ds)(hd:Vals nZ ds)
  (ha:PA X (e::es) t) (d:(x==("__debug__" : Str))=Ah:=by decide) (he:As (e::es) X.env=(Ah,eval e X.env):: As es X.env:=by rfl) (g:(AN pos (As es X.env)).any (·.1)=Ah:=by rfl):
  PE X (.Call (.Name x p) (e::es) [] pos) (Zq sp nZ Ex t):=λc s σ H Q I h=>
 AH (FF I hg hm (Rm I.mod.Ht hk (bY (ha pos c s σ H _ I h) λus q ⟨vs,n,i,l,j⟩=>#v[i.kE,ZuH hx F hr hb hd i l j]) he g) d)
def Uz(a C:Ad):Ax->Prop:=λh=>∃o vs,h.get? a=Aa o/\o.cls=.ref C/\o.data=.fields vs/\o.dict=Ae
def xo(a C:Ad):HO:=.ext (Uz a C)
theorem Inv.seen(I:Inv X pins σ H s)(fe:um X pins H e)(ho:s.heap.get? e=Aa d)(hc:d.cls=.ref C){vs:Array Ac}(hf:d.data=.fields vs)(i:d.dict=Ae):Inv X pins σ (upd H e (xo e C)) s:=by
 have w:∀{b u},H b=Aa u->b≠e:=λ{b u} h z=>by rw[z,fe.1]at h;cases h
 have g:∀{b u},H b=Aa u->upd H e (xo e C) b=Aa u:=λ{b u} h=>(bE (w h)).trans h;refine#v[I.ok,I.os,I.bare,#v[I.base.keep,I.base.slot,λb o e1 n hx=>?_,I.base.there,λb xs h=>g (I.base.lu b xs h),λb o u h=>g (I.base.kM b o u h),λb G h=>?_],I.loc,I.cell,(bE (Ne.symm fe.2)).trans I.free,λx c h=>(bE (fe.5 x c h)).trans (I.dU x c h),λp hp=>?_,λb u h=>?_,I.len]
 ·refine(bE λz=>?_).trans (I.base.free b o e1 n hx);rcases fe.4 with y|y
  ·exact hx (z ▸ y)
  ·rw[z,y]at e1;cases e1
 ·obtain⟨f,q⟩:=I.base.lx b G h;exact#v[f,g q]
 ·obtain⟨j,l,m,r,t⟩:=I.pin p hp;exact#v[j,(bE (fe.6 p hp)).trans l,m,r,t]
 ·by_cases hb:b=e
  ·rw[hb,cN]at h;cases h;rw[hb];exact#v[#v[d,vs,ho,hc,hf,i],#v[d,ho],λh1 h2 ⟨o,vs,A,B,D,E⟩ k=>#v[o,vs,k o A,B,D,E]]
  ·rw[bE hb]at h;exact(I.bP b u h).mT (λc v _ q=>q) (λc q=>g q) λc xs q=>g q
theorem Zpw{M:Model}{A:At}{E:Ac->Ag->Prop}{i:Nat}{n:Str}{v:V}{Q:Unit->Ag->Prop}(I:Inv X pins σ H s)(G:X.N.Nodup)(hi:X.N[i]? = Aa n)(hk:X.env.scope.names.lookup n=Aa .local)(hv:σ[i]? = Aa (Aa v))
  (h:∀l,Inv X pins (σ.set i Ae) H l->Q () l):An M A (unbindName X.env n) Q E s:=by
 obtain⟨m,hn,hl⟩:=id I.loc;obtain⟨u,_,J⟩:=hl i n v hi hv (.inl hk)
 have hm:m n=Aa u:=by
  rcases J with z|⟨z,_⟩
  ·exact z.2
  ·rw[show X.env.kindOf n=Aa .local from hk]at z;rcases z with z|z <;> cases z
 refine wpAny_unbindName_local hk hn hm (by rw[I.ok.kind];rfl) λh' S f hs=>?_;have d:∀{b o},X.s₀.heap.get? b=Aa o->h'.get? b=s.heap.get? b:=λ{b o} e=>hs.2 b (gW (nr (Heap.lt_size e) I.ok.above));refine h _ #v[I.ok,I.os,I.bare,#v[λb o e n hb hx=>(d e).trans (I.base.keep b o e n hb hx),λb o e n hb hx=>?_,I.base.free,λb o e hx=>?_,I.base.lu,I.base.kM,I.base.lx],#v[_,f,λj y w e1 e2 e3=>?_],λy c e=>?_,I.free,I.dU,λp hp=>?_,λb L e=>?_,by simpa using I.len]
 ·rw[show h'.get? b=s.heap.get? b from d e];exact I.base.slot b o e n hb hx
 ·rw[show h'.get? b=s.heap.get? b from d e];exact I.base.there b o e hx
 ·have hj:j≠i:=λz=>by
   rw[z]at e2;have hz:i<σ.length:=by rw[I.len];exact(dS.mp hi).1
   rw[Rw hz]at e2;cases e2
  rw[Zo (Ne.symm hj)]at e2;obtain⟨P,O,q⟩:=hl j y w e1 e2 e3;refine#v[P,O,?_];rcases q with⟨k,z⟩|⟨k,c,r,R⟩
  ·refine .inl #v[k,?_];have K:y≠n:=λz=>hj (YW G e1 (z ▸ hi));simp only[K,if_false,z]
  ·exact .inr #v[k,c,r,R.sameBut hs (I.Pq y c r)]
 ·obtain⟨w,z⟩:=I.cell y c e;exact#v[w,z.sameBut hs (I.Pq y c e)]
 ·obtain⟨t,x,g,B,D⟩:=I.pin p hp;exact#v[(hs.2 p.1 g).trans t,x,g,B,D]
 ·refine(I.bP b L e).mT (λc v hc hv=>(hs.2 c λz=>?_).trans hv) (λ_ q=>q) λ_ _ q=>q;have fr:=I.free;rw[<-z]at fr;rcases hc with y|y
  ·rw[<-y,fr]at e;cases e
  ·rw[fr]at y;cases y
theorem Znt{e:Ac}
  (h:An (model prog w) A (BH e Ae) (λ_ d=>An (model prog w) A (storeName env n e) (λ_ g=>An (model prog w) A (execs (c::body) env) (λf i=>R (.ok f) i) (λ_ _=>False) g) (λ_ _=>False) d) (λ_ _=>False) s):
  AX (model prog w) A (.handlers e [.ExceptHandler Ae (Aa n) (c::body) pos] env) R s:=by
 refine codeAny_of_tree ?_;show An _ A (do return Fin.done (<-(handleWith e env [.ExceptHandler Ae (Aa n) (c::body) pos]).onRaise (λx=>do Ck x env;theTreesLotGoes x))) _ _ s;refine Af (wpAny_noted ?_);unfold handleWith;refine Af (Bf (Af (AF h (λ_ j h1=>?_) λ_ _ z=>z.elim)));refine Af (wpAny_bindName (AF h1 (λ_ k h2=>?_) λ_ _ z=>z.elim));exact Af (AV (AF h2 (λf l h3=>Aj (Aj h3)) λ_ _ z=>z.elim))
def Vf(i:Nat)(ts:TS):Ad->Ad->TS:=λe C D σ H=>ts { nx:=λd c=>D.nx (d.set i Ae) c,rt:=D.rt,bk:=λd c=>D.bk (d.set i Ae) c,ct:=λd c=>D.ct (d.set i Ae) c } (σ.set i (Aa (.ref e))) (upd H e (xo e C))
theorem Pk{rest:List Bv}(q:qo X.K G "BaseException" = Ai)(hg:Gl X x)(hm:X.mg x=Aa (.ref G))
  (L:X.N.Nodup) (hi:X.N[i]? = Aa n) (hk:X.env.scope.names.lookup n=Aa .local) (hb:∀e,nc (X.mk' e) (P::body) ts) (hr:PH X rest hd) (M:(x==("__debug__" : Str))=Ah:=by decide):
  PH X (.ExceptHandler (Aa (.Name x Z)) (Aa n) (P::body) pos::rest) (Ml X.K G (Vf i ts) hd):=by
 intro c s σ H D e C T I hl h;obtain⟨qC,h⟩:=h;refine wpAny_handleBy_cons (B5 ?_) (by intro z;cases z);refine FF (X:=X.mk' e) (I.mk' e) hg hm ?_ M;obtain⟨oe,vs,h1,h2,h3,h4,h5⟩:=hl.exc;obtain⟨hp,g,d,t,os⟩:=s;refine ZiB I.kE qC q h1 h2 ?_;cases hc:(mroIn X.K C).contains (.ref G) with
 |false=>rw[hc]at h;exact hr c _ σ H D e C T I hl h
 |true=>
  rw[hc]at h;refine Znt (again (A:=X.A.mark (Aa (.ref e))) I hl λh' S E=>?_);obtain⟨oe2,vs2,g1,g2,g3,g4,g5⟩:=E.exc;have U:=S.seen E.fe g1 g2 g3 g5;refine RP (i:=i) U L hi (.inl hk) (v:=.ref e) rfl (λs4 V=>?_) (.inr hk);refine AF (hb e c _ _ _ _ (V.mk' e) h) (λf R z=>?_) λ_ _ z=>z.elim
  have m:∀{r j}{Q:Flow->Ag->Prop},Inv X c r j R->(∀p,Inv X c (r.set i Ae) j p->Q f p)->An (model X.prog X.w) X.A (do bindName X.env n .none;Cd X.env n pos) (λ_ p=>Q f p) X.xe R:=λ{r j Q} l k=>by
   refine Af (wpAny_bindName (RP (i:=i) l L hi (.inl hk) (v:=.non) rfl (λs6 Y=>?_) (.inr hk)));unfold Cd;have hz:i<r.length:=by rw[l.len];exact(dS.mp hi).1
   refine BN (Zpw (i:=i) (v:=.non) Y L hi hk (Rw hz) λs7 O=>k s7 ?_);rw[List.set_set]at O;exact O
  have J:=SP.rT z I.ok;cases f with
  |next=>obtain⟨r,j,l,B⟩:=J;exact m l λp y=>#v[_,j,y,B]
  |brk=>obtain⟨r,j,l,B⟩:=J;exact m l λp y=>#v[_,j,y,B]
  |cont=>obtain⟨r,j,l,B⟩:=J;exact m l λp y=>#v[_,j,y,B]
  |ret u=>obtain⟨v,r,j,l,r5,B⟩:=J;exact m l λp y=>#v[v,_,j,y,r5,B]
def rd(K:aE)(C:Ad):Bool:=
 (PySem.W.clsIn K C).isSome&&lO K (.ref C) "__getattribute__" == Aa (Aa (.builtin "BaseException.__getattribute__"))&&lO K (.ref C) "__getattr__" == Aa Ae
 && lO K (.ref C) "__class__" == Aa (Aa (.builtin "object.__class__"))&&Mi K (.builtin "object.__class__") "__get__" == Aa (Aa (.builtin "getset_descriptor.__get__"))
 && Sz K (.builtin "object.__class__")==Aa Ai&&Lp K C (.type "object")==Aa Ai&&Lp K C (.type "BaseException")==Aa Ai
section
open PySem.W PySem.Calls
variable {prog:Al}{w:Au}{A:At}{E:Ac->Ag->Prop}{s:Ag}{K:Frag}{a C:Ad}
theorem Zrf{Q:Option Ac->Ag->Prop}(q:rd K C=Ai)(X:K.In s.heap)(p:Uz a C s.heap)(k:Q (Aa (.ref C)) { s with toks:=s.toks+1 }):An (model prog w) A (getAttr? (.ref a) "__class__") Q E s:=by
 unfold rd at q;simp only[sE,beq_iff_eq]at q;obtain⟨⟨⟨⟨⟨⟨⟨hc,l⟩,m⟩,ha⟩,hn⟩,n⟩,hm⟩,hb⟩:=q;obtain⟨o,vs,h1,h2,h3,h4⟩:=p;have I:InstAt s.heap a o C Ae:=#v[h1,h2,by unfold notCls;rw[h3],by rw[h4];trivial]
 have hf:findObj K C Ae "__class__" = Aa (.bind (.builtin "getset_descriptor.__get__") (.builtin "object.__class__")):=by obtain⟨cd,j⟩:=Option.isSome_iff_exists.mp hc;unfold findObj;rw[j,Option.bind_some,ha,Option.bind_some];simp[hn,n]
 obtain⟨hh,g,d,t,H⟩:=s;have f:=I.type (M:=model prog w);have y:=looks_findIn (M:=model prog w) X l;have L2:=looks_findIn (M:=model prog w) X m;have z:=looks_find (M:=model prog w) X I hf;have B:=looks_mroIn (M:=model prog w) X hb;have f3:=F.attr_ValueError.ga.bind (.ref a);unfold getAttr? getAttrBy? getAttrBy;refine Af (Cy (Af (AV (Ay (Af (f.at (Af (y.at ?_))))))));show An _ _ (if(onTheHeap (.ref C)&&Value.builtin "BaseException.__getattribute__" == Value.builtin "object.__getattribute__")=Ai then _ else getAttrByItsOwn _ _ _ _ _ _) _ _ _;have G:(Value.builtin "BaseException.__getattribute__" == Value.builtin "object.__getattribute__")=Ah:=∅;rw[G,Bool.and_false,if_neg (by decide)];unfold getAttrByItsOwn hookBefore;rw[if_pos (show onTheHeap (.ref C)=Ai from rfl)];refine Af (L2.at (Af (AV (Ay ?_))));unfold callGetattribute;rw[if_neg (by decide)];unfold boundAndCalled;rw[f3];refine Af (Aj ?_);show An _ _ (call (.builtin "BaseException.__getattribute__") [.ref a,.str "__class__" t]) _ _ _;refine BW (Bx F.attr_ValueError.ga.plain F.entry_bexc_ga ?_);have hk:builtinKind "BaseException.__getattribute__" = Aa .slot:=∅;have c:splitId "BaseException.__getattribute__" = Aa ("BaseException","__getattribute__"):=∅;have D:=F.args_bexc_ga (.ref a) (.str "__class__" t);simp only[BR,hk,c];refine Af ?_;unfold isInstance;refine Af (f.at (B.at ?_));simp only[Bool.not_true,vE,if_false]
 have i:∀{h:Unit->Ag->Prop}{v:Ac->Ag->Prop}{u:At}{r:Ag},h () r->An (model prog w) u (match Manifest.signature? "BaseException.__getattribute__" with
   |some sig=>Bind.checkArgs "BaseException.__getattribute__" sig { pos:=[Value.ref a,Value.str (Str.ofString "__class__") t] }
   |x=>pure ()) h v r:=λ{h v u r} q=>by
  repeat (first|assumption|wp_step)
 refine i ?_;unfold Builtin.«object.__getattribute__»;refine Af (Aj ?_);refine Af (Aj ?_);refine Af (f.at (Af (z.at ?_)));show An _ _ (holding [Value.builtin "object.__class__"] (call (.builtin "getset_descriptor.__get__") [.builtin "object.__class__",.ref a,.ref C]) >>= ret) _ _ _;refine Af (Ay (BW (class_get (s:=#v[hh,g,d,t+1,H]) (od:=Ae) X I hm (Aj ?_))));exact handed_on rfl (Aj k)
theorem XW(q:rd K C=Ai):KitX K (.ref a) (.ref C) (Uz a C):=by
 have hc:(clsIn K C).isSome=Ai:=by unfold rd at q;simp only[sE]at q;exact q.1.1.1.1.1.1.1
 obtain⟨cd,c⟩:=Option.isSome_iff_exists.mp hc;unfold clsIn at c;split at c
 next m d' f g ho=>
  refine#v[λM h _ p=>?_,λM h X _=>?_,λh u dd its n t X d=>?_,λ{_ _ _ _ _ _} X p k=>Zrf q X p k]
  ·obtain⟨o,vs,h1,h2,_⟩:=p;rw[<-h2];exact(Looks.ld h1).andThen .now
  ·intro i l j r k z;unfold isType loadHead;exact Af (wpAny_loadPart (k _ _ (X _ _ ho)) (Aj z))
  ·refine Bool.eq_false_iff.mpr λz=>?_;cases Value.ref.inj (beq_iff_eq.mp z);have:=X _ _ ho;rw[d]at this;cases this
 next=>cases c
end
def vf(K:aE):List V->Hp->VK->Prop:=λvs H Q=>match vs with
 |[.ref a,.ty T]=>∃C b,H a=Aa (xo a C)/\rd K C=Ai/\eC K (.ref C) (.type T)=Aa b/\Q (.bl b) H
 |[.ref a,.ref D]=>∃C b,H a=Aa (xo a C)/\rd K C=Ai/\(eC K (.ref C) (.ref D)=Aa b\/∃cs:List Ad,H D=Aa (.tup (cs.map V.ref))/\PySem.W.kitAny K (.ref C) (cs.map Value.ref)=Aa b)/\Q (.bl b) H
 |_=>False
theorem Zlg:∀{cs:List Ad}{us:List Ac},Vals (cs.map V.ref) us->us=cs.map Value.ref
 |[],_,.nil=>rfl
 |c::cs,_,.cons r t=>by rw[show _=Value.ref c from r,Zlg t];rfl
theorem X4:mR X (.builtin "isinstance") (vf X.K):=by
 intro g s σ H xs us Q I r h
 match xs,h with
 |[.ref a,.ty T],h=>obtain⟨C,b,h1,h2,h3,h4⟩:=h;obtain⟨u,t,rfl,d,f⟩:=yA r;cases d;cases f;exact ug (XW h2) I.kE (show gI X.prog X.w H s.heap a (xo a C) from I.bP a _ h1).1 h3 (λz=>nomatch z) λc=>#v[.bl b,H,I.tok c,rfl,h4]
 |[.ref a,.ref D],h=>
  obtain⟨C,b,h1,h2,h3,h4⟩:=h;obtain⟨u,t,rfl,d,f⟩:=yA r;cases d;cases f;have p:=(show gI X.prog X.w H s.heap a (xo a C) from I.bP a _ h1).1;rcases h3 with h3|⟨cs,h5,h3⟩
  ·exact ug (XW h2) I.kE p h3 (λz=>nomatch z) λc=>#v[.bl b,H,I.tok c,rfl,h4]
  ·obtain⟨_,its,l,k,i,m,n,q⟩:=(show gI X.prog X.w H s.heap D (.tup (cs.map V.ref)) from I.bP D _ h5);obtain⟨j,dd,dt,v⟩:=k;cases(show j=_ from m);cases(show dt=_ from q);rw[Zlg l]at i;exact PySem.W.kia_tup (XW h2) I.kE p i h3 (λz=>nomatch z) λc=>#v[.bl b,H,I.tok c,rfl,h4]
structure zc (k:Nat) (A:At):Prop where
 dp:A.depth+3*k+5<B9
 un:A.units+16*k+200<Bs
theorem cQ.m(r:cQ k A):zc k A:=#v[r.dp,r.un]
structure Zy6 (P:Al) (w:Au) (K:aE) (mg:Str->Option Ac) (base:Ax) (CX:rM) (k:Nat) (f:Ad) (fd:Ao) (ps:List Str) (sp:Sp):Prop where
 len:∀vs H Q E,sp vs H Q E->vs.length=ps.length
 run:∀(A:At) (outer:List Env) (s:Ag) (H:Hp) (args:Args) (us:List Ac) (vs:List V) (Q:VK) (E:XK),zc k A->nt P w K mg base A outer s H->BK s fd args (ps.zip us)->Vals vs us->sp vs H Q E ->
  AX (model P w) A (.call (.ref f) args) (CR CX outer P w H s Q E) s
theorem KW{P:Al}{w:Au}{K:aE}{mg:Str->Option Ac}{base:Ax}{N:List Str}{c:Str}{scope:Scope}{f:Ad}{d:Ac}{A:At}{outer:List Env}{s:Ag}{H:Hp}{E:XK}:
  PassesOwn (model (qX (lf P w) P w K mg base N c scope f d A outer s H E).prog (qX (lf P w) P w K mg base N c scope f d A outer s H E).w) (qX (lf P w) P w K mg base N c scope f d A outer s H E).A (qX (lf P w) P w K mg base N c scope f d A outer s H E).env (qX (lf P w) P w K mg base N c scope f d A outer s H E).xe:=λ_ _ h=>wpAny_leaving_again (SameStack.refl _) h
structure FT (K:aE) (mg:Str->Option Ac) (x:Str) (st:Az) (ps:List Str) (f:Ad) (d:Ao):Prop where
 m:mg x=Aa (.ref f)
 n:qz K x x st f d
 b:ua K d ps []
structure FM (K:aE) (c:Ad) (x q:Str) (st:Az) (ps:List Str) (f:Ad) (d:Ao):Prop where
 n:qz K x q st f d
 b:ua K d ps []
 e:Meth K c x f
def FP(K:aE)(x:Str)(st:Az)(f:Ad):Prop:=∃d,jW K Ap x=Aa (Aa (.ref f))/\qz K x x st f d
def FQ(K:aE)(c:Ad)(x q:Str)(st:Az)(f:Ad):Prop:=∃d,qz K x q st f d/\Meth K c x f
structure CP (K:aE) (x:Str) (c:Ad):Prop where
 a:jW K Ap x=Aa (Aa (.ref c))
 pg:Kc K c Str.empty=Ai
 hd:Rc K c=Ai
 po:Xi K c=Ai
 sa:lO K (.ref c) "__setattr__" = Aa (Aa (.builtin "object.__setattr__"))
 mk':Wj K c=Ai
 kc:xl K (.ref c)=Ai
section
variable {P:Al}{w:Au}{K:aE}{mg:Str->Option Ac}{base h:Ax}{x q:Str}{st:Az}{ps N:List Str}{f c:Ad}{d:Ao}{k:Nat}{sp:Sp}
theorem CP.cl(p:CP K x c):sM K c:=#v[p.pg,p.hd,p.po,p.sa]
theorem FP.mk'{od an:Option Ad}(a:jW K Ap x=Aa (Aa (.ref f)))
  (l:K.lookup f=Aa #v[n,od,.func (uK x x (uP st) (rj st) (bZ st) .none m i p an g ct),j])
  (c:Jt K g x=Ai) (k:xl K (.ref f)=Ai):FP K x st f:=#v[_,a,ZtJ l c k]
theorem FQ.mk'{od an:Option Ad}(a:lO K (.ref c) x=Aa (Aa (.ref f)))(i:Sk K (.ref f)=Ai)
  (l:K.lookup f=Aa #v[p,od,.func (uK x q (uP st) (rj st) (bZ st) .none n j r an g ct),m])
  (e:Jt K g q=Ai) (k:xl K (.ref f)=Ai):FQ K c x q st f:=#v[_,ZtJ l e k,#v[a,i,k]]
theorem FP.ft(p:FP K x st f)(X:K.In h)(G:h.Ns Ap mg)
  (B:∀(j i l:Ac) (an:Option Ad) (g ct:Ac) (us:List Ac),us.length=ps.length->Ct (uK x x (uP st) (rj st) (bZ st) .none j i l an g ct) #v[us,[]]=pure (ps.zip us)):FT K mg x st ps f p.choose:=
 #v[oN X G p.choose_spec.1,p.choose_spec.2,p.choose_spec.2.binds B]
theorem FQ.fm(p:FQ K c x q st f)
  (B:∀(j i l:Ac) (an:Option Ad) (g ct:Ac) (us:List Ac),us.length=ps.length->Ct (uK x q (uP st) (rj st) (bZ st) .none j i l an g ct) #v[us,[]]=pure (ps.zip us)):FM K c x q st ps f p.choose:=
 #v[p.choose_spec.1,p.choose_spec.1.binds B,p.choose_spec.2]
theorem CP.Vv(p:CP K x c)(r:FQ K c "__init__" y st f):Mk K c f:=#v[p.mk',r.choose_spec.2.at_,r.choose_spec.2.fn,p.kc]
theorem qz.C0(F:qz K x q st f d)(B:∀(j i l:Ac) (an:Option Ad) (g ct u:Ac),Ct (uK x q (uP st) (rj st) (bZ st) .none j i l an g ct) #v[[u],[]]=pure [(p,u)])(s:Ag)(v:Ac):BK s d #v[[v],[]] [(p,v)]:=by obtain⟨t,od,j,i,l,an,g,ct,n,rfl,r,m⟩:=F.ex;exact .of_eq (B j i l an g ct v)
end
abbrev TM(P:Al)(w:Au)(K:aE)(mg:Str->Option Ac)(base:Ax)(k:Nat)(q:Str)(st:Az)(N:List Str)(f:Ad)(R:TS):Prop:=∀{c:Ac}{A:At}{outer:List Env}{s:Ag}{H:Hp}{E:XK},cQ k (A.deeper (AY q (bZ st) s.heap.objs.size f c))->nc (qX fD P w K mg base N q (bZ st) f c A outer s H E).vl (rj st) R
abbrev TX(P:Al)(w:Au)(K:aE)(mg:Str->Option Ac)(base:Ax)(k:Nat)(q:Str)(st:Az)(N:List Str)(f:Ad)(R:XK->TS):Prop:=∀{c:Ac}{A:At}{outer:List Env}{s:Ag}{H:Hp}{E:XK},cQ k (A.deeper (AY q (bZ st) s.heap.objs.size f c))->nc (qX (lf P w) P w K mg base N q (bZ st) f c A outer s H E) (rj st) (R E)
section
variable {P:Al}{w:Au}{K:aE}{mg:Str->Option Ac}{base h:Ax}{x q:Str}{st:Az}{ps N:List Str}{f c:Ad}{d:Ao}{k:Nat}{sp:Sp}
theorem qz.gJ(F:qz K x q st f d)(S:aH N ps (bZ st))(i:TM P w K mg base k q st N f R)(len:∀vs H Q E,sp vs H Q E->vs.length=ps.length)
  (hb:∀H vs Q E,sp vs H Q E->R { nx:=λ_ g=>Q .non g,rt:=Q } (start N vs) H):a0 P w K mg base fD (k+1) f d ps sp:=
 F.ok S len λ_ _ _ _ H vs Q E hr h=>#v[R,i hr,hb H vs Q E h]
theorem qz.nF(F:qz K x q st f d)(S:aH N ps (bZ st))(i:TX P w K mg base k q st N f R)(len:∀vs H Q E,sp vs H Q E->vs.length=ps.length)
  (hb:∀H vs Q E,sp vs H Q E->R E { nx:=λ_ g=>Q .non g,rt:=Q } (start N vs) H):a0 P w K mg base (lf P w) (k+1) f d ps sp:=
 F.okX S len λ_ _ _ _ H vs Q E hr h=>#v[R E,i hr,hb H vs Q E h]
end
section
variable {X:Cx}{CX:rM}{k:Nat}{f C:Ad}{fd:Ao}{ps:List Str}{sp:Sp}{x:Str}{st:Az}{E:XK}{e o:Expr}{es:List Expr}{t:TA}{p pos apos:Pos}{ta:TE}
theorem hm{j k:Nat}(hr:cQ k A)(h:j<=k:=by decide):cQ j A:=hr.mono h
theorem dP(T:FT X.K X.mg x st ps f fd)(F:a0 X.prog X.w X.K X.mg X.base CX k f fd ps sp)(hr:cQ k X.A)(hx:wy CX X E)
  (ha:PA X (e::es) t) (hg:Gl X x:=by rfl) (c:(x==("__debug__" : Str))=Ah:=by decide) (he:As (e::es) X.env=(Ah,eval e X.env):: As es X.env:=by rfl) (d:(AN pos (As es X.env)).any (·.1)=Ah:=by rfl):
  PE X (.Call (.Name x p) (e::es) [] pos) (dH sp [] E t):=Zz F hr hg T.m T.n.kp T.b .nil hx ha c he d
end
theorem ZiO:Bb "ValueError" = Aa (.type "ValueError"):=by first|rfl|decide +kernel|kernel_rfl
end L2
namespace DT
theorem ZpZ{Q:Ac->Ag->Prop}(st:s.heap.IsKeyIter it d i n ep)(q:Q (.ref it) s):An (model prog w) A (pyIter (.ref it)) Q E s:=by refine wpAny_pyIter_slot st.typeIs F.slot_dict_keyiterator_iter (Bc F.slot_dict_keyiterator_iter st.typeIs F.entry_dict_keyiterator_iter ?_ (F.args_dict_keyiterator_iter_1 _));show An _ _ (ret (.ref it)) _ _ s;exact Aj #v[_,rfl,"dict_keyiterator",_,st.typeIs,F.slot_dict_keyiterator_next.lookup,q]
end DT
namespace L2
theorem Inv.dT(I:Inv X pins σ H s)(e:Rd H d (.dT kvs)):kvs.length<=sizeLine/\(d==AI)=Ah/\∃(xs:List (List Key×Ad×Ac)) (od:Obj) (es:Array AA) (ep:Nat),KT H kvs xs/\s.heap.get? d=Aa od/\od.ExactDict/\od.data=.dict es ep/\es.size=kvs.length /\
  ∀(i:Nat) p,kvs[i]? = Aa p->∃(b:Ad) (h:Int) (v:Ac),es[i]? = Aa #v[h,.ref b,v]/\H b=Aa (.tup (p.1.map kV)):=by
 obtain⟨z,y,xs,r,od,es,ep,h1,h2,h3,h4,h5⟩:=(show gI X.prog X.w H s.heap d (.dT kvs) from SU I.bP e);have hl:kvs.length=xs.length:=Paired.length r;have hs:es.size=kvs.length:=by rw[hl,<-ph,h4,aQ]
 refine#v[z,y,xs,od,es,ep,r,h1,h2,h3,hs,λi p hp=>?_]
 have c:∀{l:List (List Key×V)}{m:List (List Key×Ad×Ac)}{j:Nat}{q:List Key×V},KT H l m->l[j]? = Aa q->∃x,m[j]? = Aa x/\H x.2.1=Aa (.tup (q.1.map kV)):=by
  intro l m j q t
  induction t generalizing j with
  |nil=>intro z;simp at z
  | @cons a b as bs hq _ ih=>
   intro z;cases j with
   |zero=>
    have:a=q:=by simpa using z
    subst this;exact#v[b,rfl,hq.2]
   |succ j=>exact ih (by simpa using z)
 obtain⟨x,hx,f⟩:=c r hp;have:es[i]? = Aa (entryOfKey (BO (lP X.prog X.w)) x):=by rw[<-mi,h4,gX,hx];rfl
 exact#v[x.2.1,_,_,this,f]
theorem qL.fl(h:qL X pins H b):um X pins H b:=⟨h.1,h.2,h.3,h.4.imp id λz=>by
 cases e:X.s₀.heap.get? b with
 |none=>rfl
 |some o=>exact absurd (Heap.lt_size e) (Nat.not_lt.mpr z),h.5,h.6⟩
theorem Inv.adopt{e:Ad}(I:Inv X pins σ H s)(fe:um X pins H e)(ok:gI X.prog X.w (upd H e o) s.heap e o):Inv X pins σ (upd H e o) s:=by
 have m:∀{b u},H b=Aa u->b≠e:=λ{b u} h z=>by rw[z,fe.1]at h;cases h
 have f:∀{b u},H b=Aa u->upd H e o b=Aa u:=λ{b u} h=>(bE (m h)).trans h;refine#v[I.ok,I.os,I.bare,#v[I.base.keep,I.base.slot,λb o e1 n hx=>?_,I.base.there,λb xs h=>f (I.base.lu b xs h),λb o u h=>f (I.base.kM b o u h),λb r h=>?_],I.loc,I.cell,(bE (Ne.symm fe.2)).trans I.free,λx c h=>(bE (fe.5 x c h)).trans (I.dU x c h),λp hp=>?_,λb u h=>?_,I.len]
 ·refine(bE λz=>?_).trans (I.base.free b o e1 n hx);rcases fe.4 with y|y
  ·exact hx (z ▸ y)
  ·rw[z,y]at e1;cases e1
 ·obtain⟨d,q⟩:=I.base.lx b r h;exact#v[d,f q]
 ·obtain⟨g,i,j,k,l⟩:=I.pin p hp;exact#v[g,(bE (fe.6 p hp)).trans i,j,k,l]
 ·by_cases hb:b=e
  ·rw[hb,cN]at h;cases h;rw[hb];exact ok
  ·rw[bE hb]at h;exact(I.bP b u h).mT (λc v _ q=>q) (λc q=>f q) λc xs q=>f q
theorem Inv.sL{h':Ax}{t':Nat}{l:List Ad}(I:Inv X pins σ H s)(hl:∀b∈l,qL X pins H b)(k:∀b o,b∉l->s.heap.get? b=Aa o->h'.get? b=Aa o):Inv X pins σ H { s with heap:=h',toks:=t' }:=by
 have d:∀b u,H b=Aa u->b∉l:=λb u e z=>by rw[(hl b z).1]at e;cases e
 refine I.step (g':=s.gens) (d':=s.drawn) (ch:=l) (λb hb=>?_) (λb o _ _ hc e _=>k b o hc e) (λb o _ _ hc e _=>#v[o.slots,k b o hc e]) (λ_ _ _ _ n=>n)
  (λb o hc e=>#v[o,k b o hc e]) (λ_ _ e=>e) (λ_ _ _ e=>e) (λb f e=>#v[#[],by rw[e];simp]) (λm hm=>?_) (λb u e=>?_) I.bare
 ·obtain⟨f0,f1,f2,f3,f4,f5⟩:=hl b hb;exact#v[f3,f1,f4,f5]
 ·obtain⟨o,es,ep,ho,r⟩:=hm;exact#v[o,es,ep,k _ o (λz=>(hl _ z).2 rfl) ho,r]
 ·refine(I.bP b u e).mT (λc v hc q=>k c v ?_ q) (λ_ q=>q) λ_ _ q=>q;rcases hc with z|z
  ·rw[z];exact d b u e
  ·exact d c _ z
def JZ(K:aE)(l1 l2:Ad):It:=
  ⟨λi H=>∃xs ys x y,cB K H l1 xs/\cB K H l2 ys/\xs[i]? = Aa x/\ys[i]? = Aa y,
   λi H v c=>∃T x y,v=.ref T/\H T=Ae/\c=upd H T (.tup [x,y])/\(∀xs,cB K H l1 xs->xs[i]? = Aa x)/\(∀ys,cB K H l2 ys->ys[i]? = Aa y),
   λi H=>∃xs ys,cB K H l1 xs/\cB K H l2 ys/\(xs.length<=i\/ys.length<=i)⟩
theorem Zr0{P:Al}{w:Au}{K:aE}{p:List Expr}{k:Nat}{pos:Pos}(l1 l2 z B r i1 i2:Ad)(ap:Bz z B r i1 i2 l1 l2):
    Turn P w K (.Tuple p k pos) (JZ K l1 l2) [z,B,r,i1,i2] z (λi h=>IsZip h z B r .none<&&>BD h B (.ref i1) (.ref i2)<&&>(∃a,∃b,BD h r a b)<&&>h.IsListIter i1 l1 i<&&>h.IsListIter i2 l2 i) where
  mem:=by simp
  obj:=λi h ⟨S,U,⟨x,y,V⟩,Y,Z⟩ b hb=>by
    simp only[iN,wJ,or_false]at hb;rcases hb with rfl|rfl|rfl|rfl|rfl
    · exact#v[_,S,λv z=>nomatch z]
    · exact#v[_,U,λv z=>nomatch z]
    · exact#v[_,V,λv z=>nomatch z]
    · obtain⟨o,e,c,d⟩:=Y;exact#v[o,e,λv z=>by rw[d]at z;cases z]
    · obtain⟨o,e,c,d⟩:=Z;exact#v[o,e,λv z=>by rw[d]at z;cases z]
  keep:=λi h h' ⟨S,U,⟨x,y,V⟩,Y,Z⟩ k=>#v[k _ (by simp) _ S,k _ (by simp) _ U,#v[x,y,k _ (by simp) _ V],Y.at λo e=>k _ (by simp) o e,Z.at λo e=>k _ (by simp) o e]
  item:=by
    intro X hP hw hK hc i j s σ H E I hf st hg;subst hP hw hK;obtain⟨xs,ys,x,y,m,n,hx,hy⟩:=hg;obtain⟨f,t,p1,hz1⟩:=I.list m;obtain⟨g,u,p2,hz2⟩:=I.list n;obtain⟨u1,D,ru1⟩:=t.get hx;obtain⟨u2,G,ru2⟩:=u.get hy;obtain⟨M,N,A,sd,O⟩:=st;have W:=WalksT.zip2 (prog:=X.prog) (w:=X.w) (I.ok.hd hc) z B r i1 i2 l1 l2 ap f.toArray g.toArray;have n1:i<f.length:=(dS.mp D).1;have n2:i<g.length:=(dS.mp G).1;have hw:∀b∈[z,r,i1,i2],qL X j H b:=λb hb=>hf b (W.sub b hb |> λ_=>by simp only[iN,wJ,or_false]at hb ⊢;rcases hb with h|h|h|h <;> simp[h]);refine W.item i s _ _ (by simp;omega) #v[M,N,A,sd,O,p1.isList,p2.isList] λT vals h' tk hv hT it J kp=>?_;obtain⟨Q,R,e1,e2,rfl⟩:=hv
    have q1 : Q=u1:=by
     have : f[i]? = Aa Q:=by simpa using e1
     rw[D]at this;cases this;rfl
    have q2 : R=u2:=by
     have : g[i]? = Aa R:=by simpa using e2
     rw[G]at this;cases this;rfl
    subst q1 q2;have aT:=W.apart i T h' J;refine#v[.ref T,rfl,W.go p k pos i T _ _ _ J λl L q=>?_];have I1:Inv X j σ H { s with heap:=l,toks:=tk }:=I.sL hw λb o hb e=>q b o hb (kp b o hb e);have fT:H T=Ae:=I.bP.fresh hT;obtain⟨oT,gT,cT,dT⟩:=it;have ok:gI X.prog X.w (upd H T (.tup [x,y])) l T (.tup [x,y]):=#v[by show 2<=sizeLine;decide,[Q,R],.cons ru1 (.cons ru2 .nil),show l.IsTuple T #[Q,R] from#v[oT,q T oT aT gT,cT,dT]];obtain⟨b1,b2,b3,b4,b5,_,_⟩:=L;refine#v[.ref T,_,I1.adopt (s:={ s with heap:=l,toks:=tk }) (I.pS hT fT).fl ok,rfl,#v[T,x,y,rfl,fT,rfl,λzs hz=>by rw[I.ln hz m];exact hx,λzs hz=>by rw[I.ln hz n];exact hy],#v[b1,b2,b3,b4,b5],λb hb=>?_]
    have hbT:b≠T:=λe=>by
      obtain⟨ra,rb,A⟩:=A;obtain⟨o4,s4,_⟩:=sd;obtain⟨o5,s5,_⟩:=O
      have:∃o,s.heap.get? b=Aa o:=by
        simp only[iN,wJ,or_false]at hb;rcases hb with rfl|rfl|rfl|rfl|rfl
        · exact#v[_,M]
        · exact#v[_,N]
        · exact#v[_,A]
        · exact#v[_,s4]
        · exact#v[_,s5]
      obtain⟨o,ho⟩:=this;have:=Heap.lt_size ho;rw[e]at this;exact absurd this (Nat.not_lt.mpr hT)
    rw[bE hbT];exact(hf b hb).1
  done:=by intro X hP hw hK hc i j s σ H E I hf st hg;subst hP hw hK;obtain⟨xs,ys,m,n,C⟩:=hg;obtain⟨f,t,p1,hz1⟩:=I.list m;obtain⟨g,u,p2,hz2⟩:=I.list n;obtain⟨M,N,⟨a,b,A⟩,sd,O⟩:=st;have l1:=t.length;have l2:=u.length;have hw:∀b∈[z,r,i1,i2],qL X j H b:=λb hb=>hf b (by simp only[iN,wJ,or_false]at hb ⊢;rcases hb with h|h|h|h <;> simp[h]);refine wpAny_pyNext_zip_end (I.ok.hd hc) ap M N A sd O p1.isList p2.isList (C.imp (λh=>by simp;omega) λh=>by simp;omega) λh' kp=>#v[rfl,I.sL (t':=s.toks) hw λb o hb e=>?_];simp only[iN,wJ,or_false,not_or]at hb;exact kp b o hb.1 hb.2.1 hb.2.2.1 hb.2.2.2 e
  self:=λ_ _ _ _ _ st h=>wpAny_pyIter_zip st.1 h
theorem zap(n l1 l2:Nat)(h1:l1<n)(h2:l2<n):Bz (n+4) (n+2) (n+3) n (n+1) l1 l2:=by constructor <;> first|exact se ⋯|exact gW ⋯
def xV(K:aE)(d:TA):TI:=λσ H R=>d σ H λvs c=>∃a b:Ad,vs=[.ref a,.ref b]/\(∃xs,cB K c a xs)/\(∃ys,cB K c b ys)/\R (JZ K a b) c
theorem F0(hg:Gl X "zip")(hm:X.mg "zip" = Ae)(ha:PA X [a,b] v)(hs:As [a,b] X.env=[(Ah,eval a X.env),(Ah,eval b X.env)]:=by rfl)(g:As [b] X.env=[(Ah,eval b X.env)]:=by rfl):
  PI X (.Tuple d k O) (.Call (.Name "zip" p) [a,b] [] pos) (xV X.K v):=by
 intro i s σ H R I h;refine Call_ (wk I hg hm PyProof.Rows.boot_zip (PyProof.Rows.callWith_type1 (bY (ha pos i s σ H _ I h) λus j ⟨vs,w,c,L,J⟩=>?_) (by rw[hs,g]) (by rw[g];rfl)));obtain⟨l1,l2,e,⟨xs,h1⟩,⟨ys,h2⟩,q⟩:=J;subst e;obtain⟨P,Q,rfl,e1,e2⟩:=yA L;cases e1;cases e2;obtain⟨m,M,t,B⟩:=c.list h1;obtain⟨r,N,u,C⟩:=c.list h2;refine call_zip_2 t.isList u.isList λh' l x y z A hsz D=>?_;have E:l1<j.heap.objs.size:=by obtain⟨o,e,_⟩:=t.isList;exact Heap.lt_size e
 have G:l2<j.heap.objs.size:=by obtain⟨o,e,_⟩:=u.isList;exact Heap.lt_size e
 refine wpAny_pyIter_zip l ?_;generalize hn:j.heap.objs.size=n at *;refine#v[n+4,[n+4,n+2,n+3,n,n+1],_,_,w,rfl,c.kept (t':=j.toks) D,Zr0 l1 l2 (n+4) (n+2) (n+3) n (n+1) ?_,#v[l,x,#v[_,_,y],z,A],λb hb=>?_,q]
 ·exact zap n l1 l2 E G
 ·have f:n<=b:=by
   simp only[iN,wJ,or_false]at hb;rcases hb with rfl|rfl|rfl|rfl|rfl
   ·exact QY n 4
   ·exact QY n 2
   ·exact QY n 3
   ·exact bV _
   ·exact QY n 1
  exact c.pS (by rw[hn];exact f) (c.bP.fresh (by rw[hn];exact f))
theorem Zr6{K:aE}{d:TA}{g:TG}{f:TS}{D:Ends}{σ:St}{H:Hp}:gU (xV K d) g f D σ H=d σ H (λvs c=>∃a b:Ad,vs=[.ref a,.ref b]/\(∃xs,cB K c a xs)/\(∃ys,cB K c b ys)/\sH (JZ K a b) g f D σ c):=rfl
def xv(hi:Int)(n:Nat):It:=#v[λi _=>i<n,λi H x c=>c=H/\x=.int (hi-i),λi _=>n<=i]
theorem Zpy{P:Al}{w:Au}{K:aE}{p:Expr}(it:Ad)(hi:Int)(n:Nat):Turn P w K p (xv hi n) [it] it (λi h=>B7 h it (hi+(i:Nat)*(-1)) ((n:Int)-(i:Nat)) (-1)) where
 mem:=by simp
 obj:=λi h st b hb=>by
  have e:b=it:=by simpa using hb
  subst e
  exact⟨_,st,λv z=>by have q:Data.fields _=Data.cell v:=z;cases q⟩
 keep:=λi h h' st k=>k it (by simp) _ st
 item:=by intro X g hw f hc i c s σ H E I hf st hg;subst g hw f;obtain⟨f0,f1,f2,f3,f4,f5⟩:=hf it (by simp);have W:=Walks.range (prog:=X.prog) (w:=X.w) (I.ok.hd hc) it hi (-1) n;refine W.item i s _ _ hg st λv h' j hv d m=>?_;obtain⟨t,rfl⟩:=hv;have l:Inv X c σ H { s with heap:=h',toks:=j }:=I.turned (λb o hb e=>m b o (by simpa using hb) e) f0 f1 f3 f4 f5;refine#v[_,rfl,Iq (s:={ s with heap:=h',toks:=j }) (n:="range_iterator") d rfl rfl (by decide) #v[.int (hi-i),H,l,#v[t,?_],#v[rfl,rfl],d,λb hb=>(hf b hb).1]];congr 1;omega
 done:=by intro X g hw f hc i c s σ H E I hf st hg;subst g hw f;obtain⟨f0,f1,f2,f3,f4,f5⟩:=hf it (by simp);exact BU (I.ok.hd hc) st (by have:n<=i:=hg;omega) λh' eb=>#v[rfl,I.turned (t':=s.toks) (λb o hb e=>eb b o hb e) f0 f1 f3 f4 f5]
 self:=λ_ _ _ _ _ st h=>BV st h
theorem JN(h1 : -(2^63)<=a)(h2:a<2^63):Builtin.Range.rangeFitsLong a=Ai:=by unfold Builtin.Range.rangeFitsLong;simp;omega
theorem ZoO(h1 : -(2^62)<=a)(h2:a<2^62)(h3 : -(2^62)<=b)(h4:b<2^62):Builtin.Range.small a b (-1)=Ai:=by unfold Builtin.Range.small;rw[Zv9,JN ⋯ ⋯,JN ⋯ ⋯,JN (by decide) (by decide),JN (a:=((a-b).toNat:Int)) ⋯ ⋯,if_neg (by decide),JN (a:=b+(-1+1)) ⋯ ⋯];simp
def Rn(d:TA):TI:=λσ H R=>d σ H λvs c=>∃i j:Int,vs=[.int i,.int j,.int (-1)]/\(-(2^62)<=i/\i<2^62 /\ -(2^62)<=j/\j<2^62)/\R (xv i (i-j).toNat) c
theorem ZlT(hg:Gl X "range")(hm:X.mg "range" = Ae)(ha:PA X [a,b,c] n)(hs:As [a,b,c] X.env=[(Ah,eval a X.env),(Ah,eval b X.env),(Ah,eval c X.env)]:=by rfl)(g:As [b,c] X.env=[(Ah,eval b X.env),(Ah,eval c X.env)]:=by rfl):
  PI X tg (.Call (.Name "range" p) [a,b,c] [] pos) (Rn n):=by
 intro d s σ H R I h;refine Call_ (wk I hg hm boot_range (PyProof.Rows.callWith_type1 (bY (ha pos d s σ H _ I h) λus f ⟨vs,m,w,C,k⟩=>?_) (by rw[hs,g]) (by rw[g];rfl)));obtain⟨lo,hi,e,⟨k,x,y,A⟩,q⟩:=k;subst e;cases C with
 |cons r i=>
 cases i with
 |cons B i=>
 cases i with
 |cons l i=>
 cases i;obtain⟨t,rfl⟩:=r;obtain⟨u,rfl⟩:=B;obtain⟨v,rfl⟩:=l;refine call_range_3 (by decide) ?_ (.inl (by unfold Builtin.divisionGoesByPylong;simp;intro z;exact absurd z (by decide)));refine wpAny_pyIter_range (IsRange.new ..) (ZoO k x y A) ?_;have j:Inv X d σ m { f with heap:=f.heap.push { cls:=.type "range",data:=.fields #[.int lo t,.int hi u,.int (-1) v] },toks:=f.toks }:=w.kept λb o e=>Heap.get?_push_of_some _ e
 refine⟨(f.heap.push { cls:=.type "range",data:=.fields #[.int lo t,.int hi u,.int (-1) v] }).objs.size,[(f.heap.push { cls:=.type "range",data:=.fields #[.int lo t,.int hi u,.int (-1) v] }).objs.size],_,_,m,rfl,
  j.kept (t':=f.toks) λb o e=>Heap.get?_push_of_some _ e,Zpy _ lo (lo-hi).toNat,?_,λb hb=>?_,q⟩
 ·show B7 _ _ (lo+((0:Nat):Int)*(-1)) ((((lo-hi).toNat:Nat):Int)-((0:Nat):Int)) (-1);rw[Zv9,show lo+((0:Nat):Int)*(-1)=lo by omega,show((((lo-hi).toNat:Nat):Int)-((0:Nat):Int))=((lo-hi).toNat:Int) by omega];exact Heap.get?_push_size _ rfl
 ·have e:b=(f.heap.push { cls:=.type "range",data:=.fields #[.int lo t,.int hi u,.int (-1) v] }).objs.size:=by simpa using hb
  subst e;exact j.pS (bV _) (j.bP.fresh (bV _))
theorem ZpH:gU (Rn ta) g tb D σ H=ta σ H (λvs c=>∃i j:Int,vs=[.int i,.int j,.int (-1)]/\(-(2^62)<=i/\i<2^62 /\ -(2^62)<=j/\j<2^62)/\sH (xv i (i-j).toNat) g tb D σ c):=rfl
theorem Zra{hi:Int}(c:Nat->St->Hp->Prop)(h0:c 0 σ H)(hs:∀(i:Nat) σ H,i<n->c i σ H->g (.int (hi-i)) σ H λk j=>tb { D with nx:=c (i+1),ct:=c (i+1),bk:=D.nx } k j)(hd:∀σ H,c n σ H->D.nx σ H):sH (xv hi n) g tb D σ H:=by
 refine#v[λi m σ H=>i+m=n/\c i σ H,#v[n,⋯,h0],λi m σ H ⟨hm,hp⟩=>?_];by_cases d:i<n
 ·refine .inr #v[d,c (i+1),λl f h=>#v[m-1,⋯,⋯,h],λx f ⟨e1,e2⟩=>?_];subst e1 e2;exact hs i σ _ d hp
 ·have:i=n:=⋯;subst this;exact .inl #v[bV _,hd σ H hp]
def RN:R2:=λx y H Q=>match x,y with
 |.ref l,.int k=>∃xs,H l=Aa (.lst xs) /\ -(2^63)<=k/\k<2^63/\xs.length*k.toNat<=sizeLine/\∀p c,iS H p (.lst (gR k.toNat xs).flatten) c->Q (.ref p) c
 |_,_=>False
theorem ZtA:dO X (AD .Mult) RN:=D5.imp λx y H Q h=>by
  cases x <;> cases y <;> first
    |exact False.elim h
    |(
     obtain⟨xs,h1,h2,h3,h4,q⟩:=h;exact#v[_,_,xs,rfl,rfl,h1,h2,h3,h4,λp hp=>q p _ #v[hp,rfl]])
theorem Zp5(v:V)(n:Nat):(gR n [v]).flatten=gR n v:=by
 induction n with
 |zero=>rfl
 |succ n ih=>rw[xm,Nb,ih,xm];rfl
open PySem PySem.Spec PyProof.Rows PySem.W
end L2
namespace L2
structure PL (H:Hp) (p:Ad) (es:List En):Prop where
 lst:H p=Aa (.lst (es.map λe=>V.ref e.1))
 tup:∀e∈es,H e.1=Aa (.tup [.int e.2.1,.int e.2.2])
structure PN (H:Hp) (p:Ad) (n:Nat) (es:List En):Prop where
 lst:H p=Aa (.lst (gR n V.non++es.map λe=>V.ref e.1))
 tup:∀e∈es,H e.1=Aa (.tup [.int e.2.1,.int e.2.2])
theorem RT:∀{l:List α}{m:List β},Paired F l m->∀{i:Nat}{q:β},m[i]? = Aa q->∃p,l[i]? = Aa p/\F p q
 |_,_,.nil,i,q,h=>by simp at h
 |_,_,.cons h t,0,q,e=>by rw[Ja]at e;cases e;exact#v[_,rfl,h]
 |_,_,.cons h t,i+1,q,e=>by rw[Hz]at e;obtain⟨p,a,b⟩:=RT t e;exact#v[p,by rw[Hz];exact a,b]
def Fd(H:Hp)(kvs:List (List Key×V))(bs:List Ad):Prop:=bs.length=kvs.length/\∀(i:Nat) (p:List Key×V),kvs[i]? = Aa p->∃b,bs[i]? = Aa b/\H b=Aa (.tup (p.1.map kV))
def XD(_:aE):List V->Hp->VK->Prop:=λvs H Q=>match vs with
 |[.ref p]=>∃kvs,Rd H p (.dT kvs)/\∀bs l c,Fd H kvs bs->iS H l (.lst (bs.map V.ref)) c->Q (.ref l) c
 |_=>False
def YC(_:aE):List V->Hp->VK->Prop:=λvs H Q=>match vs with
 |[.ref p]=>∃kvs,Rd H p (.dK kvs)/\∀l c,iS H l (.lst (kvs.map λd=>kV d.1)) c->Q (.ref l) c
 |_=>False
theorem Yu(r:(lP P w).is k u=Ai):cH (kV k) u:=by
 rcases wu r with⟨i,t,rfl,rfl⟩|⟨x,t,rfl,rfl⟩
 ·exact#v[t,rfl]
 ·exact#v[t,rfl]
theorem Zvo(hc:X.calm=Ai):mR X (.type "list") (YC X.K):=by
 intro u s σ H xs us Q I r h
 match xs,h with
 |[.ref p],h=>
  obtain⟨kvs,e,q⟩:=h;obtain⟨C,rfl,e1⟩:=sG r;cases e1;obtain⟨z,y,vs,g,dd⟩:=wU I.bP e;obtain⟨ep,i⟩:=dd.dictAt;have t:=g.length;refine PySem.W.kdl_call (PySem.W.kdl_dict (knd:=lP X.prog X.w) (kvs:=vs) (ep:=ep) y) (I.ok.hd hc) i ⋯ λh' B d c v hl ⟨ha,hb⟩=>?_
  have l:∀n,n<=kvs.length->Vals ((kvs.take n).map λm=>kV m.1) (d.toList.take n):=by
   intro n
   induction n with
   |zero=>intro _;rw[R3,R3];exact .nil
   |succ n ih=>intro hn;have f:n<d.size:=⋯;obtain⟨k,x,hk,hv⟩:=hb n d[n] (Nt f);obtain⟨A,g1,g2⟩:=RT g hk;rw[pJ,pJ,show d.toList[n]? = Aa d[n] by simp[f],g1,fN];exact Paired.snoc (ih ⋯) (show cH (kV A.1) d[n] by rw[g2.1];exact Yu hv)
  have b3:=l kvs.length (bV _);rw[rC,yD (by rw[ph];omega)]at b3;have j:h'.get? s.heap.objs.size=Aa { cls:=.type "list",dict:=Ae,data:=.seq d.toList.toArray c,slots:=#[] }:=by rw[ZyV];exact hl
  exact#v[.ref s.heap.objs.size,_,I.laid (t':=B) v (bV _) (show gI X.prog X.w _ h' _ (.lst (kvs.map λm=>kV m.1)) from#v[by rw[aQ];omega,d.toList,c,b3,j]),rfl,q _ _ #v[I.bP.fresh (bV _),rfl]]
theorem ZO{rest:St}{Q:VK}{lo:Int}(q:Nat->Bool)(f:Nat->V)(hr:sel.map (λj=>(σ[j]?).join)=rest)(hz:n<=sizeLine)
  (ht:∀(i:Nat) c (d:Bool->Hp->Prop),i<n->bL H c->d (q i) c->l (Aa (.int (lo+i)):: rest) c d)
  (he:∀(i:Nat) c (d:VK),i<n->q i=Ai->bL H c->d (f i) c->k (Aa (.int (lo+i)):: rest) c d) (m:∀p c,iS H p (.lst (((dX n).filter q).map f)) c->Q (.ref p) c):sg (qi lo n) σ 1 sel (aU 0) l k Q H:=by
 intro p hp;refine yW (n:=n) (item:=λi=>.int (lo+i)) (λi g=>g=upd H p (.lst (((dX i).filter q).map f))) hr (by simp) ZpV ?_ ?_ ?_
 ·rintro g rfl;exact bV _
 ·rintro i g R hi rfl h;refine ht i _ _ hi (kO hp) ?_;cases hq:q i with
  |true=>
   rw[if_pos rfl];refine he i _ _ hi hq (kO hp) #v[_,cN,?_,h _ ?_]
   ·rw[aQ];have:=xf q (dX i);rw[ub]at this;omega
   ·rw[IN,wN,uJ,fN,uX,if_pos hq];rfl
  |false=>rw[if_neg (by simp)];refine h _ ?_;rw[wN,uJ,fN,uX,if_neg (by rw[hq];simp),Ri,yB,xt]
 ·rintro g rfl;exact m p _ #v[hp,rfl]
theorem ZjS{n N i:Nat}(h:((dX n).filter q).length=i)(hn:n<N)(hq:q n=Ai):((dX N).filter q)[i]? = Aa n:=by
 have e:dX N=dX n++(dX (N-n)).map (n+·):=by rw[<-List.range_add,show n+(N-n)=N by omega]
 rw[e,uJ,qP ⋯,h,vD];obtain⟨k,hk⟩:∃k,N-n=k+1:=#v[N-n-1,⋯];rw[hk,List.range_succ_eq_map,jF,uX,if_pos (by simpa using hq)];simp
theorem Znu{K:aE}{p:Ad}{N:Nat}{q:Nat->Bool}{f:Nat->V}{g:TG}{v:TS}{D:Ends}{σ:St}{H:Hp}(c:Nat->St->Hp->Prop)(h0:c 0 σ H)(hk:∀n σ H,n<=N->c n σ H->cB K H p (((dX N).filter q).map f))
  (hn:∀n σ H,n<N->q n=Ah->c n σ H->c (n+1) σ H)
  (hs:∀n σ H (M:St->Hp->Prop),n<N->q n=Ai->c n σ H->(∀u t,c (n+1) u t->M u t)->g (f n) σ H λz y=>v { D with nx:=M,ct:=M,bk:=D.nx } z y) (hd:∀σ H,c N σ H->D.nx σ H):sH (qd K p) g v D σ H:=by
 have w:∀(d n:Nat) (σ:St) (H:Hp) (i:Nat),N-n=d->n<=N->((dX n).filter q).length=i->c n σ H->(∃j,j<N/\q j=Ai/\((dX j).filter q).length=i/\c j σ H)\/(((dX N).filter q).length=i/\c N σ H):=by
  intro d
  induction d with
  |zero=>intro n σ H i e hl hf h;have:n=N:=⋯;subst this;exact .inr #v[hf,h]
  |succ d ih=>
   intro n σ H i e hl hf h;cases hq:q n with
   |true=>exact .inl #v[n,⋯,hq,hf,h]
   |false=>refine ih (n+1) σ H i ⋯ ⋯ ?_ (hn n σ H ⋯ hq h);rw[wN,uJ,uX,if_neg (by rw[hq];simp),Ri,xt];exact hf
 refine vu (xs:=((dX N).filter q).map f) (λi σ H=>∃n,n<=N/\((dX n).filter q).length=i/\c n σ H) #v[0,rE _,rfl,h0] ?_ ?_ ?_
 ·rintro i σ H _ ⟨n,hl,_,h⟩;exact hk n σ H hl h
 ·rintro i x σ H hx ⟨n,hl,hf,h⟩;rcases w _ n σ H i rfl hl hf h with⟨j,l,m,k,r⟩|⟨k,_⟩
  ·rw[gX,ZjS k l m]at hx;cases hx;refine hs j σ H _ l m r λu t h'=>#v[j+1,l,?_,h'];rw[wN,uJ,uX,if_pos m,eG,k];rfl
  ·rw[gX,tI ⋯]at hx;cases hx
 ·rintro σ H ⟨n,hl,hf,h⟩;rw[aQ]at hf;rcases w _ n σ H _ rfl hl hf h with⟨j,l,m,k,r⟩|⟨_,r⟩
  ·have:=ZjS k l m;rw[tI (bV _)]at this;cases this
  ·exact hd σ H r
def yc(K:aE)(a:Ad)(n:Nat):It:=#v[λi H=>i<n/\∃xs,cB K H a xs/\xs.length=n,λi H x c=>c=H/\∀xs,cB K H a xs->xs[n-1-i]? = Aa x,λi _=>i=n]
theorem Zr1{P:Al}{w:Au}{K:aE}{C:Expr}(a it:Ad)(n:Nat):Turn P w K C (yc K a n) [it] it (λi h=>h.IsRevIter it a ((n:Int)-1-i)) where
 mem:=by simp
 obj:=λi h st b hb=>by
  have e:b=it:=by simpa using hb
  subst e;obtain⟨o,e,c,d⟩:=st;exact#v[o,e,λv z=>by rw[d]at z;cases z]
 keep:=λi h h' st k=>st.at λo e=>k it (by simp) o e
 item:=by intro X q hw m hc i f s σ H E I hf st hg;subst q hw m;obtain⟨hi,xs,hq,hx⟩:=hg;obtain⟨its,A,p,hz⟩:=I.list hq;have j:xs[n-1-i]? = Aa (xs[n-1-i]'⋯):=eF _;obtain⟨u,hu,y⟩:=A.get j;obtain⟨f0,f1,f2,f3,f4,f5⟩:=hf it (by simp);have e1:(n:Int)-1-(i:Int)=((n-1-i:Nat):Int):=⋯;have l:=st;rw[e1]at l;refine wpAny_pyNext_rev_item l p.isList (x:=u) (by simpa using hu) λh' g B=>?_;have t:Inv X f σ H { s with heap:=h' }:=I.turned (t':=s.toks) (λb o hb e=>(B.2 b hb).trans e) f0 f1 f3 f4 f5;rw[show((n-1-i:Nat):Int)-1=(n:Int)-1-((i+1:Nat):Int) by omega]at g;obtain⟨o,e,c,d⟩:=id g;exact#v[u,rfl,Iq (s:={ s with heap:=h' }) e c d (by decide) #v[_,H,t,y,#v[rfl,λys hy=>by rw[I.ln hy hq];exact j],g,λb hb=>(hf b hb).1]]
 done:=by intro X q hw m hc i f s σ H E I hf st hg;subst q hw m;have r:i=n:=hg;subst r;obtain⟨f0,f1,f2,f3,f4,f5⟩:=hf it (by simp);rw[show(i:Int)-1-(i:Int) = -1 by omega]at st;exact wpAny_pyNext_rev_end (I.ok.hd hc) st λh' eb=>#v[rfl,I.turned (t':=s.toks) (λb o hb e=>eb b o hb e) f0 f1 f3 f4 f5]
 self:=λ_ _ _ _ _ st h=>Ce st h
def VN(K:aE)(d:TA):TI:=λσ H R=>d σ H λvs c=>∃p xs,vs=[.ref p]/\cB K c p xs/\R (yc K p xs.length) c
theorem ZuS(g:Gl X "reversed")(i:X.mg "reversed" = Ae)(ha:PA X [a] m)
  (he:As [a] X.env=(Ah,eval a X.env):: As [] X.env:=by rfl) (j:(AN k (As [] X.env)).any (·.1)=Ah:=by rfl):PI X w (.Call (.Name "reversed" r) [a] [] k) (VN X.K m):=by
 intro d s σ H R I h;refine AH (wk I g i PyProof.Rows.boot_reversed ?_ (by decide) (by decide));refine PyProof.Rows.callWith_type1 (bY (ha k d s σ H _ I h) λus c ⟨vs,n,f,u,t⟩=>?_) he j;obtain⟨p,xs,e,hq,q⟩:=t;subst e;obtain⟨x,rfl,e1⟩:=sG u;cases e1;obtain⟨its,v,pl,hz⟩:=f.list hq;have l:=v.length;refine call_reversed_list pl.isList ?_
 have st:(c.heap.push (revObj p ((its.toArray.size:Int)-1))).IsRevIter c.heap.objs.size p ((xs.length:Int)-1-((0:Nat):Int)):=by
  have:((its.toArray.size:Int)-1)=(xs.length:Int)-1-((0:Nat):Int):=by rw[iO];omega
  rw[<-this];exact#v[_,Heap.get?_push_size _ rfl,rfl,rfl]
 refine Ce st ?_;refine#v[c.heap.objs.size,[c.heap.objs.size],_,_,n,rfl,f.kept (t':=c.toks) λb o e=>Heap.get?_push_of_some _ e,Zr1 p _ _,st,λb hb=>?_,q];have e:b=c.heap.objs.size:=by simpa using hb
 subst e;exact f.pS (bV _) (f.bP.fresh (bV _))
theorem ZpK{K:aE}{d:TA}{g:TG}{f:TS}{D:Ends}{σ:St}{H:Hp}:gU (VN K d) g f D σ H=d σ H (λvs c=>∃p xs,vs=[.ref p]/\cB K c p xs/\sH (yc K p xs.length) g f D σ c):=rfl
theorem ZsY{K:aE}{g:TG}{f:TS}{D:Ends}{σ:St}{H:Hp}{p:Ad}{xs:List V}(d:Nat->St->Hp->Prop)(h0:d 0 σ H)(hk:∀i σ H,i<xs.length->d i σ H->cB K H p xs)
  (hs:∀i x σ H,i<xs.length->xs[xs.length-1-i]? = Aa x->d i σ H->g x σ H λl k=>f { D with nx:=d (i+1),ct:=d (i+1),bk:=D.nx } l k) (hd:∀σ H,d xs.length σ H->D.nx σ H):sH (yc K p xs.length) g f D σ H:=by
 refine#v[λi m σ H=>i+m=xs.length/\d i σ H,#v[xs.length,⋯,h0],λi m σ H ⟨hm,hp⟩=>?_];by_cases c:i<xs.length
 ·refine .inr #v[#v[c,xs,hk i σ H c hp,rfl],d (i+1),λn j h=>#v[m-1,⋯,⋯,h],λx j ⟨e1,e2⟩=>?_];subst e1;exact hs i x σ _ c (e2 xs (hk i σ _ c hp)) hp
 ·have:i=xs.length:=⋯;subst this;exact .inl #v[rfl,hd σ H hp]
theorem Inv.wX(I:Inv X pins σ H s)(e:H d=Aa (.dK kvs)):∃od,s.heap.get? d=Aa od/\Inv X pins σ (upd H d (.frz od (.dK kvs))) s:=by obtain⟨z,y,vs,r,dd⟩:=(show gI X.prog X.w H s.heap d (.dK kvs) from I.bP d _ e);obtain⟨od,es,ep,h1,h2⟩:=id dd;exact#v[od,h1,I.write (x:=d) (e:=d) (h':=s.heap) (t':=s.toks) (by rw[e];exact trivial) (.inl rfl) (λb u _ q=>q) #v[od,h1] #v[h1,z,y,vs,r,dd]]
def Sr(d:Ad)(kvs:List (Key×V))(o:Obj):It:=#v[λi H=>H d=Aa (.frz o (.dK kvs))/\i<kvs.length,λi H x c=>c=H/\∃p,kvs[i]? = Aa p/\x=kV p.1,λi H=>H d=Aa (.frz o (.dK kvs))/\kvs.length<=i]
theorem Zul{P:Al}{w:Au}{K:aE}{B:Expr}(d it:Ad)(kvs:List (Key×V))(o:Obj)(es:Array AA)(ep:Nat)(hd:o.data=.dict es ep):
  Turn P w K B (Sr d kvs o) [it] it (λi h=>h.IsKeyIter it d i kvs.length ep) where
 mem:=by simp
 obj:=λi h st b hb=>by
  have e:b=it:=by simpa using hb
  subst e;obtain⟨o,e,c,q⟩:=st;exact#v[o,e,λv z=>by rw[q]at z;cases z]
 keep:=λi h h' st k=>by obtain⟨o,e,c,q⟩:=st;exact#v[o,k it (by simp) o e,c,q]
 item:=by intro X t hw n hc i g s σ H E I hf st hg;subst t hw n;obtain⟨f0,f1,f2,f3,f4,f5⟩:=hf it (by simp);obtain⟨hz,hi⟩:=hg;obtain⟨g1,z,y,vs,r,dd⟩:=(show gI X.prog X.w H s.heap d (.frz o (.dK kvs)) from I.bP d _ hz);obtain⟨od,m,l,h1,h2,h3,h4⟩:=dd;rw[g1]at h1;cases h1;have f:=h3;rw[hd]at f;cases f;have hl:kvs.length=vs.length:=Paired.length r;have hv:vs[i]? = Aa (vs[i]'⋯):=eF _;obtain⟨p,g2,g3⟩:=RT r hv;rw[hl]at st;refine wpAny_pyNext_dict_item (knd:=lP X.prog X.w) (kvs:=vs) (k:=(vs[i]'⋯).1) (v:=(vs[i]'⋯).2) st #v[o,es,g1,h2,h3,h4] hv λx h' hk j A=>?_;have u:Inv X g σ H { s with heap:=h' }:=I.turned (t':=s.toks) (λb o hb e=>(A.2 b hb).trans e) f0 f1 f3 f4 f5;obtain⟨C,e,c,q⟩:=id j;rw[<-hl]at j;exact#v[_,rfl,Iq (s:={ s with heap:=h' }) e c q (by decide) #v[kV p.1,H,u,by rw[g3.1];exact Yu hk,#v[rfl,p,g2,rfl],j,λb hb=>(hf b hb).1]]
 done:=by intro X t hw n hc i g s σ H E I hf st hg;subst t hw n;obtain⟨f0,f1,f2,f3,f4,f5⟩:=hf it (by simp);obtain⟨hz,hi⟩:=hg;obtain⟨g1,z,y,vs,r,dd⟩:=(show gI X.prog X.w H s.heap d (.frz o (.dK kvs)) from I.bP d _ hz);obtain⟨od,m,l,h1,h2,h3,h4⟩:=dd;rw[g1]at h1;cases h1;have f:=h3;rw[hd]at f;cases f;have hl:kvs.length=vs.length:=Paired.length r;rw[hl]at st;exact wpAny_pyNext_dict_end (knd:=lP X.prog X.w) (kvs:=vs) (I.ok.hd hc) st #v[o,es,g1,h2,h3,h4] (tI ⋯) λh' eb=>#v[rfl,I.turned (t':=s.toks) (λb o hb e=>eb b o hb e) f0 f1 f3 f4 f5]
 self:=λ_ _ _ _ _ st h=>DT.ZpZ st h
def Zm(f:TE):TI:=λσ H R=>f σ H λx c=>∃d kvs,x=.ref d/\c d=Aa (.dK kvs)/\∀o,R (Sr d kvs o) (upd c d (.frz o (.dK kvs)))
theorem Ow(hl:PE X l k):PI X u l (Zm k):=by
 intro f s σ H R I h;refine bY (hl f s σ H _ I h) λv g ⟨x,m,j,t,p⟩=>?_;obtain⟨d,kvs,e,hd,q⟩:=p;subst e;cases t;obtain⟨z,y,vs,r,dd⟩:=(show gI X.prog X.w m g.heap d (.dK kvs) from j.bP d _ hd);obtain⟨od,es,ep,h1,h2,h3,h4⟩:=id dd;obtain⟨n,g1,i⟩:=j.wX hd;rw[h1]at g1;cases g1;have c:kvs.length=vs.length:=Paired.length r;refine wpAny_pyIter_dict (knd:=lP X.prog X.w) (kvs:=vs) y #v[od,es,h1,h2,h3,h4] ?_;refine#v[g.heap.objs.size,[g.heap.objs.size],_,_,_,rfl,i.kept (t':=g.toks) λb o e=>Heap.get?_push_of_some _ e,Zul d _ kvs od es ep h3,#v[_,Heap.get?_push_size _ rfl,rfl,by rw[c];rfl],λb hb=>?_,q od];have e:b=g.heap.objs.size:=by simpa using hb
 subst e;exact i.pS (bV _) (i.bP.fresh (bV _))
theorem Zsb{Q:VK}:iP (Zm f) k sel g h el σ H Q=f σ H (λx c=>∃d kvs,x=.ref d/\c d=Aa (.dK kvs)/\∀o,sg (Sr d kvs o) σ k sel g h el Q (upd c d (.frz o (.dK kvs)))):=rfl
theorem Zru{rest:St}{Q:VK}(ks:List Int)(q:Int->Bool)(hd:H d=Aa (.frz o (.dK kvs)))(h:kvs.map (·.1)=ks.map (Sum.inl:Int->Key))(hr:sel.map (λj=>(σ[j]?).join)=rest)(hz:ks.length<=sizeLine)
  (ht:∀(k:Int) c (g:Bool->Hp->Prop),k∈ks->bL H c->g (q k) c->t (Aa (.int k):: rest) c g)
  (he:∀(k:Int) c (g:VK),bL H c->g (.int k) c->r (Aa (.int k):: rest) c g) (u:∀p c,iS H p (.lst ((ks.filter q).map V.int)) c->Q (.ref p) c):sg (Sr d kvs o) σ 1 sel (aU 0) t r Q H:=by
 intro p hp;have hl:kvs.length=ks.length:=by have:=congrArg List.length h;rwa[aQ,aQ]at this
 have l:d≠p:=λz=>by rw[z,hp]at hd;cases hd
 refine yW (n:=ks.length) (item:=λi=>.int (ks.getD i 0)) (λi f=>f=upd H p (.lst (((ks.take i).filter q).map V.int))) hr (by simp) ?_ ?_ ?_ ?_
 ·rintro i f hi rfl;refine#v[#v[by rw[bE l];exact hd,⋯],λx v ⟨e1,y,hy,e2⟩=>#v[e1,?_]];have:(kvs.map (·.1))[i]? = Aa y.1:=by rw[gX,hy];rfl
  rw[h,gX,eF hi]at this;have e3:(Sum.inl (ks[i]):Key)=y.1:=Option.some.inj this;rw[e2,<-e3];show V.int ks[i]=V.int (ks.getD i 0);simp[jY,hi]
 ·rintro f rfl;exact#v[by rw[bE l];exact hd,⋯]
 ·rintro i f R hi rfl m;have ei:ks.getD i 0=ks[i]:=by simp[jY,hi]
  have et:ks.take (i+1)=ks.take i++[ks[i]]:=by rw[pJ,eF hi];rfl
  rw[ei];refine ht _ _ _ (tR hi) (kO hp) ?_;cases hq:q ks[i] with
  |true=>
   rw[if_pos rfl];refine he _ _ _ (kO hp) #v[_,cN,?_,m _ ?_]
   ·rw[aQ];have h1:=xf q (ks.take i);rw[uw]at h1;omega
   ·rw[et,uJ,fN,IN];simp[hq]
  |false=>rw[if_neg (by simp)];refine m _ ?_;rw[et,uJ];simp[hq]
 ·rintro f rfl;rw[rC];exact u p _ #v[hp,rfl]
end L2
namespace UL
theorem Zmh{it t:Ad}(g:t≠it):∀(n i:Nat) (s:Ag) (Q:List Ac->Ag->Prop),s.heap.IsListIter it t i->s.heap.IsList t items->i+n<=items.size ->
  (∀h',h'.IsListIter it t (i+n)->Heap.SameBut it s.heap h'->Q ((items.toList.drop i).take n) { s with heap:=h' })->An (model prog w) A (draw (.ref it) n) Q E s
 | 0,i,s,Q,hit,_,_,j=>Aj (by simpa using j s.heap hit (Heap.SameBut.refl ..))
 |n+1,i,s,Q,hit,ht,hle,j=>by
  have f:i<items.size:=⋯;show An _ _ (pyNext (.ref it) >>= _) Q E s;skip;refine Af (Bo hit ht (x:=items[i]) (by simp[f]) λh1 c h=>?_);refine Af (Ay (Zmh g n (i+1) _ _ c (ht.at λo e=>(h.2 t g).trans e) ⋯ λh2 d k=>Aj ?_));have hd:items.toList.drop i=items[i]::items.toList.drop (i+1):=by simp[xg,f]
  have:=j h2 (by rw[show i+(n+1)=i+1+n by omega];exact d) (h.trans k);rw[hd,List.take_succ_cons]at this;exact this
theorem ZnJ{x1}{Q:Unit->Ag->Prop}(hh:A.handled=Ae)(ht:s.heap.IsList t items)
  (hn:(AU c env).length=items.size) (d:(AU c env).findIdx? (·.1)=Ae)
  (h:∀h',Heap.ExtBut s.heap.objs.size s.heap h'->An (model prog w) A (assignInOrder ((AU c env).map (·.2)) items.toList) Q E { s with heap:=h' }):
  An (model prog w) A (assign (.Tuple c x1 pos) env (.ref t)) Q E s:=by
 have g:t≠s.heap.objs.size:=by obtain⟨o,ho,_⟩:=ht;exact gW (Heap.lt_size ho)
 rw[assign_Tuple];refine Af (Bf ?_);unfold unpack;rw[hn,d];refine Af (Ay ?_);unfold unpackItems;refine Af ?_;unfold notIterableAtAll;refine Af (wpAny_specialOf ht.typeIs slot_list_iter.lookup (Aj ?_));simp only[vE,if_false];refine Af (Ay (AR ht ?_));refine Af (Ay (Zmh g items.size 0 _ _ #v[_,Heap.get?_push_size _ rfl,rfl,rfl] (ht.push _) ⋯ λh1 f i=>?_));rw[List.drop_zero,yD (by simp),if_neg (by simp)];have k:h1.IsList t items:=(ht.push _).at λo e=>(i.2 t g).trans e;refine Af (Ay (Br hh f k (by simp) λh2 j=>?_));simp only[Option.isSome_none,vE,if_false];exact Aj (h h2 λb o hb e=>j b o hb (i.extBut b o hb (Heap.get?_push_of_some _ e)))
end UL
namespace L2
def Fq(K:aE)(n:Nat)(t:xa):TG:=λv σ H Q=>∃a xs,v=.ref a/\cB K H a xs/\xs.length=n/\t xs σ H Q
theorem Gs(hc:X.calm=Ai)(h:Ig X es t)
  (hn:(AU es X.env).length=n:=by rfl) (hst:(AU es X.env).findIdx? (·.1)=Ae:=by rfl):PG X (.Tuple es k pos) (Fq X.K n t):=by
 intro c s σ H v u Q I r hw;obtain⟨a,xs,e1,hq,hl,hw⟩:=hw;subst e1;cases r;obtain⟨its,d,ht,hz⟩:=I.list hq;refine UL.ZnJ (I.ok.hd hc) ht.isList (by simp[hn,<-hl,d.length]) hst λh' hx=>?_;have f:Inv X c σ H { s with heap:=h' }:=I.kept (t':=s.toks) λb o e=>hx b o (gW (Heap.lt_size e)) e;exact h c _ σ H xs _ Q f (by simpa using d) hw
end L2
namespace MF
section sw
variable (m:Nat)(nd:Nat->Bool)
def cnt:Nat->Nat
 | 0=>0
 |i+1=>cnt i+(if nd (m+1+i) then 1 else 0)
def bec(k:Nat):Nat:=if k<=m then k else 1+m+cnt m nd (k-m-1)
def mt(t:Int):Int:=2*(bec m nd (t/2).toNat:Nat)+t%2
def mp(p:Pr):Pr:=(mt m nd p.1,mt m nd p.2)
variable {m nd}
end sw
def mark(L:List Bool)(t:Int):List Bool:=L.set (t/2).toNat Ai
def oG(L:List Bool)(ts:List Int):List Bool:=ts.foldl mark L
def look(m:Nat)(P:List Pr)(L:List Bool)(j:Nat):List Bool:=if L.getD (m+1+j) Ah then mark (mark L (P.getD j (0,0)).1) (P.getD j (0,0)).2 else L
def down(m:Nat)(P:List Pr)(L:List Bool):Nat->List Bool
 | 0=>L
 |i+1=>look m P (down m P L i) (P.length-1-i)
theorem yI(L:List Bool)(t:Int):(mark L t).length=L.length:=List.length_set ..
theorem K9:∀(ts:List Int) (L:List Bool),(oG L ts).length=L.length
 |[],L=>rfl
 |t::r,L=>(K9 r (mark L t)).trans (yI L t)
theorem Uy(L:List Bool)(t:Int)(k:Nat):(mark L t).getD k Ah=Ai ↔ L.getD k Ah=Ai\/(k=(t/2).toNat/\k<L.length):=by
 unfold mark;rw[mS,mS,List.getElem?_set];by_cases e:(t/2).toNat=k
 ·rw[if_pos e];subst e;by_cases l:(t/2).toNat<L.length
  ·rw[if_pos l];simp[l]
  ·rw[if_neg l];simp[l]
 ·rw[if_neg e];constructor
  ·exact .inl
  ·rintro(h|⟨h,_⟩)
   ·exact h
   ·exact absurd h.symm e
theorem VQ:∀(ts:List Int) (L:List Bool) (k:Nat),(oG L ts).getD k Ah=Ai ↔ L.getD k Ah=Ai\/((∃t∈ts,k=(t/2).toNat)/\k<L.length)
 |[],L,k=>by simp[oG]
 |t::r,L,k=>by
  show(oG (mark L t) r).getD k Ah=Ai ↔ _;rw[VQ r (mark L t) k,Uy,yI];simp only[iN,exists_eq_or_imp];constructor
  ·rintro((h|⟨h,l⟩)|⟨h,l⟩)
   ·exact .inl h
   ·exact .inr #v[.inl h,l]
   ·exact .inr #v[.inr h,l]
  ·rintro(h|⟨h|h,l⟩)
   ·exact .inl (.inl h)
   ·exact .inl (.inr #v[h,l])
   ·exact .inr #v[h,l]
def Tis(m:Nat)(P:List Pr)(ts:List Int):Prop:=∀t∈ts,0<=t/\t<2*((m:Int)+1+P.length)
end MF
namespace MF
section rs
variable (st:Nat->Bool)
def Dw(m:Nat)(P:List Pr)(L:List Bool)(j:Nat):List Bool:=if L.getD (m+1+j) Ah && !(st (m+1+j)) then mark (mark L (P.getD j (0,0)).1) (P.getD j (0,0)).2 else L
def rG(m:Nat)(P:List Pr)(L:List Bool):Nat->List Bool
 | 0=>L
 |i+1=>Dw st m P (rG m P L i) (P.length-1-i)
def Ua(m:Nat)(P:List Pr)(ts:List Int):List Bool:=rG st m P (oG (gR (1+m+P.length) Ah) ts) P.length
def gF(m:Nat)(P:List Pr)(ts:List Int)(k:Nat):Bool:=(Ua st m P ts).getD k Ah
def cD(m:Nat)(P:List Pr)(ts:List Int):List Nat:=(dX (1+m+P.length)).filter (gF st m P ts)
variable {st}
theorem ZqQ(m:Nat)(P:List Pr)(L:List Bool)(j:Nat):(Dw st m P L j).length=L.length:=by
 unfold Dw;split
 ·rw[yI,yI]
 ·rfl
theorem R1(m:Nat)(P:List Pr)(L:List Bool):∀i,(rG st m P L i).length=L.length
 | 0=>rfl
 |i+1=>by unfold rG;rw[ZqQ,R1 m P L i]
theorem ZoT(m:Nat)(P:List Pr)(ts:List Int):(Ua st m P ts).length=1+m+P.length:=by unfold Ua;rw[R1,K9,oQ]
theorem RI(m:Nat)(P:List Pr)(L:List Bool)(j k:Nat):(Dw st m P L j).getD k Ah=Ai ↔
  L.getD k Ah=Ai\/((L.getD (m+1+j) Ah=Ai/\st (m+1+j)=Ah)/\(k=((P.getD j (0,0)).1/2).toNat\/k=((P.getD j (0,0)).2/2).toNat)/\k<L.length):=by
 unfold Dw;split
 ·rename_i h;have h':L.getD (m+1+j) Ah=Ai/\st (m+1+j)=Ah:=by simpa using h
  rw[Uy,Uy,yI];constructor
  ·rintro((a|⟨a,b⟩)|⟨a,b⟩)
   ·exact .inl a
   ·exact .inr #v[h',.inl a,b]
   ·exact .inr #v[h',.inr a,b]
  ·rintro(a|⟨_,a|a,b⟩)
   ·exact .inl (.inl a)
   ·exact .inl (.inr #v[a,b])
   ·exact .inr #v[a,b]
 ·rename_i h;constructor
  ·exact .inl
  ·rintro(a|⟨a,_⟩)
   ·exact a
   ·exact absurd (by simpa using a) h
theorem Zk(m:Nat)(P:List Pr)(L:List Bool)(k:Nat):∀{i'},i<=i'->(rG st m P L i).getD k Ah=Ai->(rG st m P L i').getD k Ah=Ai
  | 0,h,a=>by have : i=0:=⋯;subst this;exact a
  |j+1,h,a=>by
    rcases lD i (j+1) with l|l
    · exact(RI ..).mpr (.inl (Zk m P L k (i':=j) ⋯ a))
    · have:i=j+1:=⋯;subst this;exact a
theorem ZjT{m:Nat}{P:List Pr}(ho:Ok m P)(L:List Bool){j:Nat}(hj:j<P.length):∀{i},P.length-j<=i->i<=P.length->(rG st m P L i).getD (m+1+j) Ah=Ai->(rG st m P L (P.length-1-j)).getD (m+1+j) Ah=Ai
 | 0,h,_,a=>by omega
 |i+1,h,hi,a=>by
  have hp:P[P.length-1-i]? = Aa P[P.length-1-i]:=eF ⋯;obtain⟨_,_,-,_⟩:=ho _ _ hp;have e:P.getD (P.length-1-i) (0,0)=P[P.length-1-i]:=by rw[mS,hp];rfl
  rcases(RI ..).mp a with a|⟨a,b,_⟩
  ·rcases lD i (P.length-j) with l|l
   ·have:i=P.length-1-j:=⋯;subst this;exact a
   ·exact ZjT ho L hj l ⋯ a
  ·rw[e]at b;rcases b with b|b;omega
   omega
theorem ZnZ{m:Nat}{P:List Pr}{ts:List Int}{t:Int}(ht:t∈ts)(h:0<=t/\t<2*((m:Int)+1+P.length)):gF st m P ts (t/2).toNat=Ai:=Zk m P _ _ (i:=0) (rE _) ((VQ ..).mpr (.inr #v[#v[t,ht,rfl],by rw[oQ];omega]))
theorem ZtH{α:Type}{P:List α}{j:Nat}{p:α}(hp:P[j]? = Aa p):j<P.length:=by
 rcases lD j P.length with z|z
 ·exact z
 ·rw[tI z]at hp;cases hp
theorem F6{m:Nat}{P:List Pr}(ho:Ok m P)(ts:List Int){j:Nat}{p:Pr}(hp:P[j]? = Aa p)(hn:gF st m P ts (m+1+j)=Ai)(hs:st (m+1+j)=Ah):gF st m P ts (p.1/2).toNat=Ai/\gF st m P ts (p.2/2).toNat=Ai:=by
 have d:=ZtH hp;have a:=ZjT ho _ d (i:=P.length) ⋯ (bV _) hn;obtain⟨_,_,-,_⟩:=ho _ _ hp;have e:P.getD (P.length-1-(P.length-1-j)) (0,0)=p:=by rw[show P.length-1-(P.length-1-j)=j by omega,mS,hp];rfl
 have c:∀k,(k=(p.1/2).toNat\/k=(p.2/2).toNat)->gF st m P ts k=Ai:=by
  intro k hk;refine Zk m P _ _ (i:=P.length-1-j+1) ⋯ ((RI ..).mpr (.inr #v[?_,?_,?_]))
  ·rw[show P.length-1-(P.length-1-j)=j by omega];exact#v[a,hs]
  ·rw[e];exact hk
  ·rw[R1,K9,oQ];omega
 exact#v[c _ (.inl rfl),c _ (.inr rfl)]
theorem O9(S:Nat->Prop)(h1:∀t∈ts,S (t/2).toNat)(h2:∀j p,P[j]? = Aa p->S (m+1+j)->st (m+1+j)=Ah->S (p.1/2).toNat/\S (p.2/2).toNat)(h:gF st m P ts k=Ai):S k:=by
 have c:∀i,i<=P.length->∀k,(rG st m P (oG (gR (1+m+P.length) Ah) ts) i).getD k Ah=Ai->S k:=by
  intro i
  induction i with
  |zero=>
   intro _ k a;rcases(VQ ..).mp a with a|⟨⟨t,ht,rfl⟩,_⟩
   ·rw[mS,Fv]at a;split at a <;> cases a
   ·exact h1 t ht
  |succ i ih=>
   intro hi k a;have hp:P[P.length-1-i]? = Aa P[P.length-1-i]:=eF ⋯;have e:P.getD (P.length-1-i) (0,0)=P[P.length-1-i]:=by rw[mS,hp];rfl
   rcases(RI ..).mp a with a|⟨⟨a,d⟩,b,_⟩
   ·exact ih ⋯ k a
   ·rw[e]at b;have:=h2 _ _ hp (ih ⋯ _ a) d;rcases b with rfl|rfl
    ·exact this.1
    ·exact this.2
 exact c P.length (bV _) k h
theorem U9(h:1+m+P.length<=k):gF st m P ts k=Ah:=by unfold gF;rw[mS,tI (by rw[ZoT];exact h)];rfl
end rs
theorem Dl(k:Nat):(2*(k:Int)/2).toNat=k:=⋯
theorem Zn0{st:Nat->Bool}{m:Nat}{P:List Pr}(ho:Ok m P){n k:Nat}(h:gF st m P [2*(n:Int)] k=Ai):k<=n:=by
 refine O9 (S:=λk=>k<=n) ?_ ?_ h
 ·intro t ht;rw[dQ]at ht;subst ht;omega
 ·intro j p hp hj _;have:=ho j p hp;constructor <;> omega
def qE(m:Nat)(P:List Pr)(n:Nat):List Nat:=cD (λ_=>Ah) m P [2*(n:Int)]
theorem Zs8{m:Nat}{P:List Pr}(ho:Ok m P){n:Nat}(hn:n<1+m+P.length):qE m P n=(dX (n+1)).filter (gF (λ_=>Ah) m P [2*(n:Int)]):=by
 unfold qE cD
 have c:∀d,(dX (n+1+d)).filter (gF (λ_=>Ah) m P [2*(n:Int)])=(dX (n+1)).filter (gF (λ_=>Ah) m P [2*(n:Int)]):=by
  intro d
  induction d with
  |zero=>rfl
  |succ d ih=>
   rw[show n+1+(d+1)=n+1+d+1 by omega,wN,uJ,ih]
   have:gF (λ_=>Ah) m P [2*(n:Int)] (n+1+d)=Ah:=by
    cases h:gF (λ_=>Ah) m P [2*(n:Int)] (n+1+d) with
    |false=>rfl
    |true=>have:=Zn0 ho h;omega
   rw[uX,if_neg (by rw[this];simp),Ri,xt]
 have:=c (1+m+P.length-(n+1));rw[show n+1+(1+m+P.length-(n+1))=1+m+P.length by omega]at this;exact this
theorem yS{st:Nat->Bool}{m:Nat}{P:List Pr}{n:Nat}(h:n<1+m+P.length):gF st m P [2*(n:Int)] n=Ai:=by have:=ZnZ (st:=st) (m:=m) (P:=P) (ts:=[2*(n:Int)]) (dQ.mpr rfl) ⋯;rwa[Dl]at this
structure vd (st:Nat->Bool) (m:Nat) (P:List Pr) (n i:Nat) (S:Nat->Prop):Prop where
 self:S n
 low:∀k,S k->gF st m P [2*(n:Int)] k=Ai
 clo:∀j p,P[j]? = Aa p->m+1+j<=n->n-(m+1+j)<i->S (m+1+j)->st (m+1+j)=Ah->S (p.1/2).toNat/\S (p.2/2).toNat
theorem vd.new{st:Nat->Bool}(h:∀k,S k ↔ k=n)(hn:n<1+m+P.length):vd st m P n 0 S:=#v[(h n).mpr rfl,λk hk=>by rw[(h k).mp hk];exact yS hn,λj p _ _ hi=>absurd hi (yg _)]
end MF
namespace MF
def Jv(xs:List Int):Bool:=((dX (xs.length-1)).map λj=>decide (xs.getD j 0<xs.getD (j+1) 0)).all id
def eH(xs:List Int)(k:Nat):Bool:=decide ((k:Int)∈xs)
def qk(m:Nat)(P:List Pr)(k:Int)(xs:List Int):Bool:=
 decide ((m:Int)<k<&&>k<1+m+P.length<&&>k∉xs)&&Jv xs&&(xs.map λx=>decide (x∈(qE m P k.toNat).map λj:Nat=>(j:Int))).all id &&
  ((cD (eH xs) m P [2*k]).map λj=>decide (m<j) ||decide ((j:Int)∈xs)).all id
theorem L4{st:Nat->Bool}:j∈cD st m P ts ↔ gF st m P ts j=Ai:=by
 unfold cD;rw[uA,wZ];constructor
 ·exact λh=>h.2
 ·intro h;refine#v[?_,h];rcases lD j (1+m+P.length) with l|l
  ·exact l
  ·rw[U9 l]at h;cases h
def xZ(xs:List Int):Prop:=∀j,j+1<xs.length->xs.getD j 0<xs.getD (j+1) 0
theorem ZjG(xs:List Int):Jv xs=Ai ↔ xZ xs:=by
 unfold Jv xZ;rw[HZ,vI];constructor
 ·intro h j hj;have:=h j (wZ.mpr ⋯);simpa using this
 ·intro h j hj;rw[wZ]at hj;simpa using h j ⋯
theorem Ztw(h:xs.Pairwise (· < ·)):xZ xs:=by
 intro j hj;have a:xs.getD j 0=xs[j]:=by simp[jY,show j<xs.length by omega]
 have b:xs.getD (j+1) 0=xs[j+1]:=by simp[jY,hj]
 rw[a,b];exact uZ.mp h j (j+1) ⋯ hj ⋯
def yn(m:Nat)(P:List Pr)(k:Int)(xs:List Int):Prop:=∀x∈xs,x∈(qE m P k.toNat).map λj:Nat=>(j:Int)
def yr(m:Nat)(P:List Pr)(k:Int)(xs:List Int):Prop:=∀j,gF (eH xs) m P [2*k] j=Ai->m<j\/(j:Int)∈xs
theorem RB(m:Nat)(P:List Pr)(k:Int)(xs:List Int):qk m P k xs=Ai ↔ ((m:Int)<k/\(k<1+m+P.length/\k∉xs))/\xZ xs/\yn m P k xs/\yr m P k xs:=by
 unfold qk;rw[sE,sE,sE,decide_eq_true_eq,ZjG,HZ,vI,HZ,vI];unfold yn yr;constructor
 ·rintro⟨⟨⟨a,b⟩,c⟩,d⟩;refine#v[a,b,λx hx=>by simpa using c x hx,λj hj=>?_];have:=d j (L4.mpr hj);simpa using this
 ·rintro⟨a,b,c,d⟩;refine#v[#v[#v[a,b],λx hx=>by simpa using c x hx],λj hj=>?_];have:=d j (L4.mp hj);simpa using this
structure Ox (m:Nat) (P:List Pr) (n:Nat) (xs:List Int):Prop where
 tZ:xs.Pairwise (· < ·)
 pos:∀x∈xs,0<x/\x<n
 Zy8:∀x∈xs,gF (λ_=>Ah) m P [2*(n:Int)] x.toNat=Ai
 stop:yr m P n xs
theorem ZpS{m:Nat}{P:List Pr}(ho:Ok m P){n:Nat}{xs ys:List Int}{j:Nat}{p:Pr}(hn:n<1+m+P.length)(hp:P[j]? = Aa p)(hs:yr m P n xs)
  (hy:∀x:Int,(x∈xs/\x≠((m+1+j:Nat):Int))\/x=p.1/2\/x=p.2/2->x∈ys):yr m P n ys:=by
 intro k hk;have o:=ho j p hp;have f:=O9 (st:=eH ys) (S:=λk=>gF (eH xs) m P [2*(n:Int)] k=Ai\/(k:Int)=p.1/2\/(k:Int)=p.2/2) ?_ ?_ hk
 ·rcases f with h|h
  ·rcases hs k h with h|h
   ·exact .inl h
   ·by_cases e:(k:Int)=((m+1+j:Nat):Int)
    ·left;omega
    ·exact .inr (hy _ (.inl #v[h,e]))
  ·exact .inr (hy _ (.inr h))
 ·intro t ht;rw[dQ]at ht;subst ht;left;exact ZnZ (dQ.mpr rfl) ⋯
 ·intro i q hq g hst;have l:=ho i q hq;have d:((m+1+i:Nat):Int)∉ys:=by unfold eH at hst;simpa using hst
  rcases g with h|h
  ·by_cases hx:((m+1+i:Nat):Int)∈xs
   ·have e:i=j:=by
     by_cases e:((m+1+i:Nat):Int)=((m+1+j:Nat):Int)
     ·omega
     ·exact absurd (hy _ (.inl #v[hx,e])) d
    subst e;rw[hp]at hq;cases hq;exact#v[.inr (.inl ⋯),.inr (.inr ⋯)]
   ·have c:eH xs (m+1+i)=Ah:=by unfold eH;simpa using hx
    have:=F6 ho [2*(n:Int)] hq h c;exact#v[.inl this.1,.inl this.2]
  ·exact absurd (hy _ (.inr h)) d
theorem Ox.first{m:Nat}{P:List Pr}(ho:Ok m P){j:Nat}{p:Pr}(hp:P[j]? = Aa p):Ox m P (m+1+j) [p.1/2,p.2/2]:=by
 have o:=ho j p hp;have g:=ZtH hp;have d:=F6 (st:=λ_=>Ah) ho [2*((m+1+j:Nat):Int)] hp (yS ⋯) rfl;refine#v[?_,?_,?_,?_]
 ·rw[List.pairwise_cons];refine#v[λy hy=>?_,SO ..];rw[dQ]at hy;subst hy;omega
 ·intro x hx;simp only[iN,wJ,or_false]at hx;rcases hx with rfl|rfl <;> omega
 ·intro x hx;simp only[iN,wJ,or_false]at hx;rcases hx with rfl|rfl
  ·exact d.1
  ·exact d.2
 ·have h0:yr m P (m+1+j:Nat) [((m+1+j:Nat):Int)]:=by
   intro k hk;have:=O9 (st:=eH [((m+1+j:Nat):Int)]) (S:=λk=>k=m+1+j) ?_ ?_ hk
   ·left;omega
   ·intro t ht;rw[dQ]at ht;subst ht;rw[Dl]
   ·intro i q hq f hst;unfold eH at hst;simp[f]at hst
  refine ZpS ho ⋯ hp h0 ?_;rintro x (⟨hx,c⟩|rfl|rfl)
  ·rw[dQ]at hx;exact absurd hx c
  ·exact uh ..
  ·exact sC _ (dQ.mpr rfl)
theorem Re{ns c:List Int}(hp:c.Perm ns)(hs:c.Pairwise (· <= ·))(hd:ns.Nodup):c.Pairwise (· < ·):=by have d:c.Nodup:=hp.nodup_iff.mpr hd;refine Oy.imp₂ (λa b h1 h2=>?_) hs d;omega
def RH(m:Nat)(P:List Pr)(k:Int)(xs:List Int):Bool:=((cD (eH xs) m P [2*k]).map λj=>decide (m<j) ||decide ((j:Int)∈xs)).all id
theorem ZpT(m:Nat)(P:List Pr)(k:Int)(xs:List Int):RH m P k xs=Ai ↔ yr m P k xs:=by
 unfold RH yr;rw[HZ,vI];constructor
 ·intro h j hj;have:=h j (L4.mpr hj);simpa using this
 ·intro h j hj;have:=h j (L4.mp hj);simpa using this
structure tf (m:Nat) (P:List Pr) (n:Nat) (xs:List Int) (ws:List Nat) (c:Nat):Prop where
 nd:ws.Nodup
 self:n∈ws
 rch:∀w∈ws,gF (eH xs) m P [2*(n:Int)] w=Ai
 out:∀w∈ws,(w:Int)∉xs
 le:∀w∈ws,w<=n
 high:∀(i:Nat) w,i<c->ws[i]? = Aa w->m<w
 clo:∀(i:Nat) j p,i<c->ws[i]? = Aa (m+1+j)->P[j]? = Aa p->(p.1/2∈xs\/(p.1/2).toNat∈ws)/\(p.2/2∈xs\/(p.2/2).toNat∈ws)
theorem tf.first{m:Nat}{P:List Pr}{n:Nat}{xs:List Int}(hn:n<1+m+P.length)(hx:(n:Int)∉xs):tf m P n xs [n] 0:=
 ⟨by simp,dQ.mpr rfl,λw hw=>by rw[dQ]at hw;subst hw;exact yS hn,λw hw=>by rw[dQ]at hw;subst hw;exact hx,λw hw=>by rw[dQ]at hw;omega,
  λi w hi=>absurd hi (yg _),λi j p hi=>absurd hi (yg _)⟩
theorem tf.bad(h:tf m P n xs d c)(hw:w∈d)(hm:w<=m):RH m P n xs=Ah:=by
 cases e:RH m P n xs with
 |false=>rfl
 |true=>
  rcases(ZpT ..).mp e w (h.rch w hw) with z|z
  ·omega
  ·exact absurd z (h.out w hw)
structure Betw (m:Nat) (P:List Pr) (n:Nat) (xs ys:List Int):Prop where
 tZ:ys.Pairwise (· < ·)
 mem:∀x:Int,x∈ys ↔ 0<=x/\gF (eH xs) m P [2*(n:Int)] x.toNat=Ai/\x∉xs
theorem K0{xs:List Int}(h:xs.Pairwise (· < ·)):xs.Nodup:=h.imp λh e=>by omega
end MF
namespace L2
theorem ZpN{K:aE}{d:TA}{k:Nat}{sel:List Nat}{g:TG}{f:TT}{el:TE}{σ:L2.St}{H:Hp}{Q:VK}:iP (xV K d) k sel g f el σ H Q=d σ H (λvs c=>∃a b:Ad,vs=[.ref a,.ref b]/\(∃xs,cB K c a xs)/\(∃ys,cB K c b ys)/\sg (JZ K a b) σ k sel g f el Q c):=rfl
theorem Zvl{K:aE}{σ:L2.St}{k:Nat}{sel:List Nat}{g:TG}{I:TT}{G:TE}{Q:VK}{H:Hp}{p a b:Ad}{xs ys:List V}{n:Nat}(hn:n=min xs.length ys.length)(j:L2.St->Prop)(d:Nat->Hp->Prop)(M:j (cst σ k sel))(h0:d 0 (upd H p (.lst [])))
  (hk:∀i c,i<=n->d i c->cB K c a xs/\cB K c b ys)
  (l:∀i x y t f c (R:L2.St->Hp->Prop),xs[i]? = Aa x->ys[i]? = Aa y->c t=Ae->j f->d i c->(∀q h,j q->d (i+1) h->R q h)->g (.ref t) f (upd c t (.tup [x,y])) λr J=>I r J λbb C=>if bb=Ai then G r C λv D=>∃B,D p=Aa (.lst B)/\B.length<sizeLine/\R r (upd D p (.lst (B++[v]))) else R r C)
  (L:∀c,d n c->Q (.ref p) c):C1 (JZ K a b) σ k sel g I G Q H p:=by
 refine#v[λi m f c=>i<=n/\m=n-i+1/\j f/\d i c,#v[n+1,rE _,rfl,M,h0],?_];rintro i m f c ⟨hi,rfl,hs,u⟩;obtain⟨z,A⟩:=hk i c hi u;by_cases w:i<n
 ·right;have h1:i<xs.length:=⋯;have h2:i<ys.length:=⋯;refine#v[#v[xs,ys,xs[i],ys[i],z,A,eF h1,eF h2],?_];rintro x P ⟨T,N,O,e1,e2,e3,e4,e5⟩;subst e1 e3;exact l i N O T f c (λq h=>∃E,E<n-i+1/\(i+1<=n/\E=n-(i+1)+1/\j q/\d (i+1) h)) (e4 xs z) (e5 ys A) e2 hs u λq h g1 g2=>#v[_,⋯,w,rfl,g1,g2]
 ·left;have e:i=n:=⋯;subst e;exact#v[#v[xs,ys,z,A,⋯],L c u]
theorem Zoc(x:Int)(xs:List Int):Hs (.int x) (xs.map V.int)=decide (x∈xs):=by
 unfold Hs;rw[List.any_map,HJ,List.any_eq_true,decide_eq_true_eq];constructor
 ·rintro⟨y,hy,e⟩
  have:y=x:=by
   first
   |(simp only[Function.comp,pK,decide_eq_true_eq]at e;exact e)
   |(simp only[Function.comp,pK,decide_eq_true_eq]at e;exact e.symm)
   |(simp[Function.comp,pK]at e;omega)
  exact this ▸ hy
 ·intro h;exact#v[x,h,by simp[Function.comp,pK]]
theorem Zrc(xs:List Int):(xs.map V.int).all om=Ai:=by rw[HZ,vI];intro x _;rfl
theorem Zg{K:aE}{σ:L2.St}{sel:List Nat}{H:Hp}{Q:VK}{a:Ad}{ks:List Int}(hl:cB K H a (ks.map V.int))(hr:sel.map (λj=>(σ[j]?).join)=[])(hz:ks.length<=sizeLine)
  (v:∀p h us,H p=Ae->h p=Aa (.lst us)->us.length=ks.length->bL H h->(∀(j:Nat) k,ks[j]? = Aa k->∃t,us[j]? = Aa (.ref t)/\h t=Aa (.tup [.int k,.bl Ai]))->Q (.ref p) h):
  sg (qd K a) σ 1 sel (aU 0) kt (pM (aC (aA 0) (aC (tC (.bl Ai)) aI))) Q H:=by
 intro p hp;refine yW (n:=(ks.map V.int).length) (item:=λi=>(ks.map V.int).getD i .non) (λi c=>∃us,c p=Aa (.lst us)/\us.length=i/\bL H c/\∀(j:Nat) k,j<i->ks[j]? = Aa k->∃t,us[j]? = Aa (.ref t)/\c t=Aa (.tup [.int k,.bl Ai])) hr #v[[],cN,rfl,kO hp,λj k hj=>absurd hj (yg _)] (IU ?_) ?_ ?_ ?_
 ·rintro i c hi ⟨us,_,_,d,_⟩;exact d.seq hl
 ·rintro c ⟨us,_,_,d,_⟩;exact#v[_,d.seq hl,bV _]
 ·rintro i c R hi ⟨us,h1,h2,d,h4⟩ w;have f:i<ks.length:=by rw[aQ]at hi;exact hi
  have ei:(ks.map V.int).getD i .non=.int ks[i]:=by simp[jY,f]
  unfold kt;dsimp only;rw[if_pos rfl];simp only[Ys,aC,aI,tC,aA,Ja];refine#v[by show 2<=sizeLine;decide,λu x g=>?_];have q:=g.same _ _ h1;have r:u≠p:=(dW h1 g.cL).symm;refine#v[us,q,⋯,w _ #v[us++[.ref u],cN,by rw[eG,h2];rfl,(d.trans g.same).put hp,λj k hj hk=>?_]];by_cases m:j<i
  ·obtain⟨t',g1,g2⟩:=h4 j k m hk;exact#v[t',by rw[mY ⋯];exact g1,by rw[bE (fS g2 h1 (λz=>nomatch z))];exact g.same _ _ g2]
  ·have l:j=i:=⋯;subst l;rw[eF f]at hk;cases hk;refine#v[u,by rw[<-h2];simp,?_];rw[bE r,g.at_,ei]
 ·rintro c ⟨us,h1,h2,d,h4⟩;refine v p c us hp h1 (by rw[h2,aQ]) d λj k hk=>h4 j k ?_ hk;rw[aQ];exact(dS.mp hk).1
theorem HU(ks:List Int)(j:Int):∀(c:List (Key×V)),(bQ ((ks.map λk=>((.inl k:Key),V.bl Ai)).foldl (λc d=>eD c d.1 d.2) c) (.inl j)).isSome=((bQ c (.inl j)).isSome ||decide (j∈ks)):=by
 induction ks with
 |nil=>intro c;simp
 |cons k r ih=>
  intro c;rw[jF,zu,ih,rf];by_cases e:j=k
  ·subst e;simp
  ·rw[if_neg (λz=>e (Sum.inl.inj z))];simp[e]
end L2
namespace Zh
abbrev zA(h:Ax)(t:Ad):Ax:=h.push { cls:=.type "list_iterator",data:=.fields #[.ref t,.int 0 0] }
abbrev zB(h:Ax)(t l:Ad):Ax:=(zA h t).push { cls:=.type "list_iterator",data:=.fields #[.ref l,.int 0 0] }
abbrev zC(h:Ax)(t l:Ad):Ax:=(zB h t l).push { cls:=.type "tuple",data:=.seq #[.ref h.objs.size,.ref (zA h t).objs.size] }
abbrev zD(h:Ax)(t l:Ad):Ax:=(zC h t l).push { cls:=.type "tuple",data:=.seq #[.none,.none] }
abbrev zE(h:Ax)(t l:Ad):Ax:=(zD h t l).push { cls:=.type "zip",data:=.fields #[.none,.bool Ah,.bool Ah,.ref (zB h t l).objs.size,.ref (zC h t l).objs.size] }
theorem Zpq(t l:Ad)(xs ys:Array Ac):Meets (Builtin.«zip.__new__» #v[[.type "zip",.ref t,.ref l],[]]) (λ_ R s=>s.heap.IsList t xs/\s.heap.IsList l ys/\R (.ok (.ret (.ref (zD s.heap t l).objs.size))) { s with heap:=zE s.heap t l }):=
 .of_wp λprog w A R s h=>by
  obtain⟨hp,g,d,i,f⟩:=s;obtain⟨h1,h2,h⟩:=h;have c:=sub_zip;have j:Heap.IsList (Shared.heap #v[hp,g,d,i,f]) t xs:=h1;have k:Heap.IsList (Shared.heap #v[hp.push { cls:=.type "list_iterator",data:=.fields #[.ref t,.int 0 0] },g,d,i,f]) l ys:=Heap.IsList.push h2 _
  wp_walk using AR j,AR k
  exact#v[_,rfl,h]
structure tX (z TI TO i1 i2 t l:Ad) (xs ys:Array Ac) (i:Nat) (h:Ax):Prop where
 zo:∃f0,∃f1,h.get? z=Aa { cls:=.type "zip",dict:=Ae,data:=.fields #[f0,.bool f1,.bool Ah,.ref TI,.ref TO],slots:=#[] } <&&>
  (f0=.none\/∃T:Ad,∃o:Obj,f0=Be T<&&>h.get? T=Aa o<&&>T≠z<&&>T≠TO<&&>T≠i1<&&>T≠i2)
 ti:BD h TI (.ref i1) (.ref i2)
 to:∃a,∃b,BD h TO a b
 a1:h.IsListIter i1 t i
 a2:h.IsListIter i2 l i
 l1:h.IsList t xs
 l2:h.IsList l ys
theorem Zta{s:Ag}{t l:Ad}{xs ys:Array Ac}{Q:Ac->Ag->Prop}(h1:s.heap.IsList t xs)(h2:s.heap.IsList l ys)
  (h:∀h' z d f i1 i2,tX z d f i1 i2 t l xs ys 0 h'->Bz z d f i1 i2 t l->s.heap.objs.size<=z->s.heap.objs.size<=d->s.heap.objs.size<=f->s.heap.objs.size<=i1->s.heap.objs.size<=i2 ->
   (∀c o,s.heap.get? c=Aa o->h'.get? c=Aa o)->Q (.ref z) { s with heap:=h' }):
  An (model prog w) A (call (.type "zip") [.ref t,.ref l]) Q E s:=by
 refine callType_new F.called_zip (by decide) (F.typeCall_zip_2 _ _) (F.newCall_zip_2 _ _) (λobj=>F.args_object_init_3 obj _ _) F.entry_zip_new (Zpq t l xs ys) #v[h1,h2,?_];have i:(zA s.heap t).objs.size=s.heap.objs.size+1:=Heap.size_push ..;have j:(zB s.heap t l).objs.size=s.heap.objs.size+2:=by rw[Heap.size_push,i]
 have k:(zC s.heap t l).objs.size=s.heap.objs.size+3:=by rw[Heap.size_push,j]
 have m:(zD s.heap t l).objs.size=s.heap.objs.size+4:=by rw[Heap.size_push,k]
 have q:(zE s.heap t l).objs.size=s.heap.objs.size+5:=by rw[Heap.size_push,m]
 have g5:(zE s.heap t l).get? (zD s.heap t l).objs.size=Aa _:=Heap.get?_push_size _ rfl;have g4:(zE s.heap t l).get? (zC s.heap t l).objs.size=Aa _:=Heap.get?_push_of_some _ (Heap.get?_push_size _ rfl);have g3:(zE s.heap t l).get? (zB s.heap t l).objs.size=Aa _:=Heap.get?_push_of_some _ (Heap.get?_push_of_some _ (Heap.get?_push_size _ rfl));have g2:(zE s.heap t l).get? (zA s.heap t).objs.size=Aa _:=Heap.get?_push_of_some _ (Heap.get?_push_of_some _ (Heap.get?_push_of_some _ (Heap.get?_push_size _ rfl)));have g1:(zE s.heap t l).get? s.heap.objs.size=Aa _:=Heap.get?_push_of_some _ (Heap.get?_push_of_some _ (Heap.get?_push_of_some _ (Heap.get?_push_of_some _ (Heap.get?_push_size _ rfl))));have g:∀c o,s.heap.get? c=Aa o->(zE s.heap t l).get? c=Aa o:=λc o x=>Heap.get?_push_of_some _ (Heap.get?_push_of_some _ (Heap.get?_push_of_some _ (Heap.get?_push_of_some _ (Heap.get?_push_of_some _ x))));have n:@LT.lt Nat _ t s.heap.objs.size:=by obtain⟨_,e,_⟩:=h1;exact Heap.lt_size e
 have p:@LT.lt Nat _ l s.heap.objs.size:=by obtain⟨_,e,_⟩:=h2;exact Heap.lt_size e
 show _/\_;rw[j,k,m]at g5;rw[i,j]at g3;rw[k]at g4;rw[i]at g2;rw[m];refine#v[#v[_,g5,rfl],h _ _ _ _ _ _ #v[#v[_,_,g5,.inl rfl],g3,#v[_,_,g4],#v[_,g1,rfl,rfl],#v[_,g2,rfl,rfl],h1.at λo e=>g _ o e,h2.at λo e=>g _ o e] ?_ ⋯ ⋯ ⋯ ⋯ ⋯ g];constructor <;> first|exact gW ⋯|exact se ⋯
theorem ZrZ{Q:Ac->Ag->Prop}(D:Bz z I h i1 i2 t l)(S:tX z I h i1 i2 t l xs ys i s.heap)(hx:xs[i]? = Aa x)(hy:ys[i]? = Aa y)
  (q:∀h' T,tX z I h i1 i2 t l xs ys (i+1) h'->BD h' T x y->s.heap.objs.size<=T->(∀c o,c≠z->c≠h->c≠i1->c≠i2->s.heap.get? c=Aa o->h'.get? c=Aa o)->Q (.ref T) { s with heap:=h' }):
  An (model prog w) A (Builtin.«zip.__next__» #v[[.ref z],[]]) (λP s'=>∃v,P=.done (.ret v)/\Q v s') E s:=by
 obtain⟨⟨f0,f1,hz,hf⟩,G,⟨a,b,L⟩,h1,h2,p,r⟩:=S;show An _ _ (field (.ref z) 2 >>= _) _ _ _;refine Af (AG hz rfl (x:=.bool Ah) rfl ?_);show An _ _ (field (.ref z) 3 >>= _) _ _ _;refine Af (AG hz rfl (x:=.ref I) rfl ?_);refine Af (A0 G rfl ?_);show An _ _ (Builtin.SmallTypes.ownedTupleIsFree (.ref z) >>= _) _ _ _;refine Af ?_;unfold Builtin.SmallTypes.ownedTupleIsFree;refine Af (AG hz rfl (x:=f0) rfl ?_);rcases hf with rfl|⟨T0,oT,rfl,K,n1,n2,n3,n4⟩
 ·refine Aj ?_;simp only[if_true];refine Af (Bm ?_);refine Af (AG hz rfl (x:=.ref h) rfl ?_);refine Af (AJ hz (by simp) λk1 R f=>?_);refine Af ?_;simp only[List.zipIdx_cons,List.zipIdx_nil,Ke,RE];refine Af (Af (BN ?_));show An _ _ (Builtin.SmallTypes.nextOf (.ref i1) >>= _) _ _ _;refine Af (A1 (h1.extBut f.extBut D.i1z) (p.extBut f.extBut D.l1z) hx λk2 j1 j=>Aj ?_);have o2:BD k2 h a b:=j.extBut _ _ D.TOi1 (f.extBut _ _ D.TOz L);refine Af (A0 o2 rfl ?_);refine Af (Cf o2 λk3 o3 m=>?_);replace o3:BD k3 h x b:=o3;refine Af (wpAny_letGo (Aj ?_));refine Af (Af (BN ?_));show An _ _ (Builtin.SmallTypes.nextOf (.ref i2) >>= _) _ _ _;refine Af (A1 (((h2.extBut f.extBut D.i2z).extBut j.extBut D.i12.symm).extBut m.extBut D.TOi2.symm) (((r.extBut f.extBut D.l2z).extBut j.extBut D.l2i1).extBut m.extBut D.l2TO) hy λk4 j2 N=>Aj ?_);have o4:BD k4 h x b:=N.extBut _ _ D.TOi2 o3;refine Af (A0 o4 rfl ?_);refine Af (Cf o4 λk5 M O=>?_);replace M:BD k5 h x y:=M;refine Af (wpAny_letGo (Aj (Aj ?_)));refine Af (A0 M rfl ?_);refine Af (Cg ?_);have sz:k5.objs.size=s.heap.objs.size:=by rw[O.1,N.1,m.1,j.1,f.1]
  have y5:=O.extBut _ _ D.TOz.symm (N.extBut _ _ D.i2z.symm (m.extBut _ _ D.TOz.symm (j.extBut _ _ D.i1z.symm R)))
  have u:∀c o,c≠z->c≠h->c≠i1->c≠i2->s.heap.get? c=Aa o->k5.get? c=Aa o:=λc o k J B C e=>O.extBut _ _ J (N.extBut _ _ C (m.extBut _ _ J (j.extBut _ _ B (f.extBut _ _ k e))))
  have m1:k5.IsListIter i1 t (i+1):=((j1.extBut m.extBut D.TOi1.symm).extBut N.extBut D.i12).extBut O.extBut D.TOi1.symm;have m2:k5.IsListIter i2 l (i+1):=j2.extBut O.extBut D.TOi2.symm;have Y:z<k5.objs.size:=Heap.lt_size y5;have u2:h<k5.objs.size:=Heap.lt_size M;have u3:i1<k5.objs.size:=by obtain⟨_,e,_⟩:=m1;exact Heap.lt_size e
  have u4:i2<k5.objs.size:=by obtain⟨_,e,_⟩:=m2;exact Heap.lt_size e
  show An _ _ (Builtin.SmallTypes.ownedTupleHandOut (.ref z) (.ref k5.objs.size) >>= _) _ _ _;refine Af ?_;unfold Builtin.SmallTypes.ownedTupleHandOut;have y6:=Heap.get?_push_of_some { cls:=.type "tuple",data:=.seq #[x,y] } y5;refine Af (AJ y6 (by simp) λk7 y7 s7=>?_);refine AJ y7 (by simp) λU y8 s8=>?_;have H:∀c o,c≠z->k5.get? c=Aa o->U.get? c=Aa o:=λc o k e=>s8.extBut _ _ k (s7.extBut _ _ k (Heap.get?_push_of_some _ e));have tp:BD U k5.objs.size x y:=s8.extBut _ _ (se Y) (s7.extBut _ _ (se Y) (Heap.get?_push_size _ rfl));refine Aj #v[_,rfl,?_]
  refine q U k5.objs.size ⟨#v[Be k5.objs.size,Ah,y8,.inr #v[_,_,rfl,tp,se Y,se u2,se u3,se u4]],H _ _ D.TIz (u _ _ D.TIz D.TITO D.TIi1 D.TIi2 G),#v[_,_,H _ _ D.TOz M],
   m1.at λo e=>H _ o D.i1z e,m2.at λo e=>H _ o D.i2z e,p.at λo e=>H _ o D.l1z (u _ _ D.l1z D.l1TO D.l1i1 D.l1i2 e),r.at λo e=>H _ o D.l2z (u _ _ D.l2z D.l2TO D.l2i1 D.l2i2 e)⟩ tp (by rw[sz];exact bV _) λc o k J B C e=>H c o k (u c o k J B C e)
 ·refine AF (Q:=λbb f=>bb=Ah/\∃k1,f={ s with heap:=k1 }/\k1.get? z=Aa { cls:=.type "zip",dict:=Ae,data:=.fields #[Be T0,.bool Ai,.bool Ah,.ref I,.ref h],slots:=#[] } /\
   (∀c o,c≠z->s.heap.get? c=Aa o->k1.get? c=Aa o)/\k1.objs.size=s.heap.objs.size) ?_ (λbb f hb=>?_) (λ_ _ e=>e)
  ·show An _ _ (Cb (uN T0) >>= _) _ _ _;refine Af (DZ.alive (o:=oT) (by rw[oK];exact K) ?_);show An _ _ (field (.ref z) 1 >>= _) _ _ _;refine Af (AG hz rfl (x:=.bool f1) rfl ?_);cases f1 with
   |true=>rw[if_neg (by decide)];exact Af (Aj (Aj #v[rfl,s.heap,rfl,hz,λ_ _ _ e=>e,rfl]))
   |false=>rw[if_pos (by decide)];exact Af (AJ hz (by simp) λk1 Z f=>Aj #v[rfl,k1,rfl,Z,λc o hc e=>f.extBut _ _ hc e,f.1])
  ·obtain⟨rfl,k1,rfl,Z,n,V⟩:=hb;rw[if_neg (by decide)];dsimp only;rw[<-Array.forIn_toList];simp only[Ke,RE];refine Af (Af (Af (Ay ?_)));show An _ _ (Builtin.SmallTypes.nextOf (.ref i1) >>= _) _ _ _;have a1:k1.IsListIter i1 t i:=h1.at λo e=>n _ o D.i1z e;have a2:k1.IsListIter i2 l i:=h2.at λo e=>n _ o D.i2z e;have b1:k1.IsList t xs:=p.at λo e=>n _ o D.l1z e;have b2:k1.IsList l ys:=r.at λo e=>n _ o D.l2z e;refine Af (A1 (s:={ s with heap:=k1 }) a1 b1 hx λk2 j1 j=>Aj (Aj ?_));refine Af (Af (Ay ?_));show An _ _ (Builtin.SmallTypes.nextOf (.ref i2) >>= _) _ _ _;refine Af (A1 (s:={ s with heap:=k2 }) (a2.extBut j.extBut D.i12.symm) (b2.extBut j.extBut D.l2i1) hy λk3 j2 m=>Aj (Aj (Aj ?_)));refine Af (Cg ?_ (by show 2<=sizeLine;decide));have g:∀c o,c≠z->c≠i1->c≠i2->s.heap.get? c=Aa o->k3.get? c=Aa o:=λc o k B C e=>m.extBut _ _ C (j.extBut _ _ B (n _ _ k e));have d:∀c o,k3.get? c=Aa o->(k3.push { cls:=.type "tuple",data:=.seq #[x,y] }).get? c=Aa o:=λc o e=>Heap.get?_push_of_some _ e;have y3:=d _ _ (m.extBut _ _ D.i2z.symm (j.extBut _ _ D.i1z.symm Z));have X:k3.objs.size=s.heap.objs.size:=by rw[m.1,j.1];exact V
   refine Aj ⟨_,rfl,q _ k3.objs.size ⟨#v[_,_,y3,.inr #v[T0,oT,rfl,d _ _ (g _ _ n1 n3 n4 K),n1,n2,n3,n4]],d _ _ (g _ _ D.TIz D.TIi1 D.TIi2 G),#v[_,_,d _ _ (g _ _ D.TOz D.TOi1 D.TOi2 L)],
    (j1.extBut m.extBut D.i12).at λo e=>d _ o e,j2.at λo e=>d _ o e,p.at λo e=>d _ o (g _ _ D.l1z D.l1i1 D.l1i2 e),r.at λo e=>d _ o (g _ _ D.l2z D.l2i1 D.l2i2 e)⟩ (Heap.get?_push_size _ rfl) (by rw[X];exact bV _)
    λc o k J B C e=>d _ _ (g _ _ k B C e)⟩
theorem Zug{Q:Fin->Ag->Prop}(hh:A.handled=Ae)(D:Bz z r m i1 i2 t l)(S:tX z r m i1 i2 t l xs ys i s.heap)(hx:xs[i]? = Ae)
  (q:∀h' e,(∀c o,c≠z->c≠m->c≠i1->c≠i2->s.heap.get? c=Aa o->h'.get? c=Aa o)->(∃o,h'.get? e=Aa o/\o.cls=.type "StopIteration")->E (.ref e) { s with heap:=h' }):
  An (model prog w) A (Builtin.«zip.__next__» #v[[.ref z],[]]) Q E s:=by
 obtain⟨⟨f0,f1,hz,hf⟩,y,⟨a,b,H⟩,h1,h2,j,I⟩:=S;show An _ _ (field (.ref z) 2 >>= _) _ _ _;refine Af (AG hz rfl (x:=.bool Ah) rfl ?_);show An _ _ (field (.ref z) 3 >>= _) _ _ _;refine Af (AG hz rfl (x:=.ref r) rfl ?_);refine Af (A0 y rfl ?_);show An _ _ (Builtin.SmallTypes.ownedTupleIsFree (.ref z) >>= _) _ _ _;refine Af ?_;unfold Builtin.SmallTypes.ownedTupleIsFree;refine Af (AG hz rfl (x:=f0) rfl ?_);rcases hf with rfl|⟨T0,J,rfl,v,L,M,N,O⟩
 ·refine Aj ?_;simp only[if_true];refine Af (Bm ?_);refine Af (AG hz rfl (x:=.ref m) rfl ?_);refine Af (AJ hz (by simp) λk1 C d=>?_);refine Af ?_;simp only[List.zipIdx_cons,List.zipIdx_nil,Ke,RE];refine Af (Af (BN ?_));show An _ _ (Builtin.SmallTypes.nextOf (.ref i1) >>= _) _ _ _;refine Af (B6 hh (h1.extBut d.extBut D.i1z) (j.extBut d.extBut D.l1z) hx λk2 e p he=>?_);obtain⟨K,f,h⟩:=he;have k:=p _ _ D.i1z.symm C;have B:e≠z:=λx=>by subst x;rw[k]at f;cases f;simp at h
  exact AJ k (by simp) λk3 _ G=>q k3 e (λc o n _ u _ x=>G.extBut _ _ n (p _ _ u (d.extBut _ _ n x))) #v[K,G.extBut _ _ B f,h]
 ·refine AF (Q:=λbb d=>bb=Ah/\∃k1,d={ s with heap:=k1 }/\(∀c o,c≠z->s.heap.get? c=Aa o->k1.get? c=Aa o)) ?_ (λbb d hb=>?_) (λ_ _ e=>e)
  ·show An _ _ (Cb (uN T0) >>= _) _ _ _;refine Af (DZ.alive (o:=J) (by rw[oK];exact v) ?_);show An _ _ (field (.ref z) 1 >>= _) _ _ _;refine Af (AG hz rfl (x:=.bool f1) rfl ?_);cases f1 with
   |true=>rw[if_neg (by decide)];exact Af (Aj (Aj #v[rfl,s.heap,rfl,λ_ _ _ e=>e]))
   |false=>rw[if_pos (by decide)];exact Af (AJ hz (by simp) λk1 P d=>Aj #v[rfl,k1,rfl,λc o hc e=>d.extBut _ _ hc e])
  ·obtain⟨rfl,k1,rfl,g⟩:=hb;rw[if_neg (by decide)];dsimp only;rw[<-Array.forIn_toList];simp only[Ke,RE];refine Af (Af (Af (Ay ?_)));show An _ _ (Builtin.SmallTypes.nextOf (.ref i1) >>= _) _ _ _;refine Af (B6 (s:={ s with heap:=k1 }) hh (h1.at λo e=>g _ o D.i1z e) (j.at λo e=>g _ o D.l1z e) hx λk2 e p he=>?_);exact q k2 e (λc o n _ u _ x=>p _ _ u (g _ _ n x)) he
theorem ZqM{Q:Option Ac->Ag->Prop}(D:Bz z f d i1 i2 t l)(S:tX z f d i1 i2 t l xs ys i s.heap)(hx:xs[i]? = Aa x)(hy:ys[i]? = Aa y)
  (q:∀h' T,tX z f d i1 i2 t l xs ys (i+1) h'->BD h' T x y->s.heap.objs.size<=T->(∀c o,c≠z->c≠d->c≠i1->c≠i2->s.heap.get? c=Aa o->h'.get? c=Aa o)->Q (Aa (.ref T)) { s with heap:=h' }):
  An (model prog w) A (pyNext (.ref z)) Q E s:=by
 obtain⟨f0,f1,hz,_⟩:=S.zo;have g:s.TypeIs (.ref z) "zip":=#v[_,hz,rfl];unfold pyNext
 exact Af (AV (wpAny_callSpecial?_slot (name:=Str.ofString "__next__") g F.slot_zip_next (Bc F.slot_zip_next g F.entry_zip_next
  (ZrZ D S hx hy λh' T h j k m=>Aj (q h' T h j k m)) (F.args_zip_next_1 _))))
theorem ZsH{Q:Option Ac->Ag->Prop}(hh:A.handled=Ae)(D:Bz z f d i1 i2 t l)(S:tX z f d i1 i2 t l xs ys i s.heap)(hx:xs[i]? = Ae)
  (q:∀h',(∀c o,c≠z->c≠d->c≠i1->c≠i2->s.heap.get? c=Aa o->h'.get? c=Aa o)->Q Ae { s with heap:=h' }):An (model prog w) A (pyNext (.ref z)) Q E s:=by
 obtain⟨f0,f1,hz,_⟩:=S.zo;have g:s.TypeIs (.ref z) "zip":=#v[_,hz,rfl];unfold pyNext;refine Af (AV (wpAny_callSpecial?_slot (name:=Str.ofString "__next__") g F.slot_zip_next (Bc F.slot_zip_next g F.entry_zip_next (Zug hh D S hx λh' e hk he=>?_) (F.args_zip_next_1 _))));obtain⟨o,ho,hc⟩:=he;refine Af (BQ (T:="StopIteration") (b:=Ai) #v[o,ho,hc] isSubtype_stop ?_);exact Aj (q _ hk)
section
variable {prog:Al}{w:Au}{A:At}{E:Ac->Ag->Prop}{s:Ag}
open DZ (Zw Pa xi UW Zu YG QT RW Zob)
theorem tX.write(S:tX z f g i1 i2 t l xs ys i h)(k:∀c o,c≠d->h.get? c=Aa o->h'.get? c=Aa o)(hd:∃o,h'.get? d=Aa o)
  (v:z≠d) (x:f≠d) (y:g≠d) (B:i1≠d) (C:i2≠d) (D:t≠d) (G:l≠d):tX z f g i1 i2 t l xs ys i h':=by
 obtain⟨⟨f0,f1,hz,hf⟩,j,⟨a,b,n⟩,h1,h2,p,q⟩:=S;refine#v[#v[f0,f1,k _ _ v hz,?_],k _ _ x j,#v[a,b,k _ _ y n],h1.at λo e=>k _ o B e,h2.at λo e=>k _ o C e,p.at λo e=>k _ o D e,q.at λo e=>k _ o G e];rcases hf with rfl|⟨T,o,rfl,u,m⟩
 ·exact .inl rfl
 ·by_cases e:T=d
  ·subst e;obtain⟨H,r⟩:=hd;exact .inr #v[T,H,rfl,r,m]
  ·exact .inr #v[T,o,rfl,k _ _ e u,m]
variable {κ:Type} [DecidableEq κ] {knd:KeyKind prog w κ}
theorem Po{xs ys:Array Ac}{ks:List κ}(D:Bz z H h i1 i2 t l)(hh:A.handled=Ae)
  (y:z≠d) (O:H≠d) (B:h≠d) (C:i1≠d) (G:i2≠d) (P:t≠d) (Q:l≠d) (hk:ks.length=xs.size) (hy:ys.size=xs.size) (g:∀(j:Nat) k x,ks[j]? = Aa k->xs[j]? = Aa x->knd.is k x=Ai) (hz:xs.size<=1000):
  ∀(m i:Nat) (s:Ag) (kvs:List (κ×Ac)),i+m=xs.size->kvs.length<=i->tX z H h i1 i2 t l xs ys i s.heap->s.heap.DictOf knd d kvs ->
   (∀h' t',h'.DictOf knd d (((ks.drop i).zip (ys.toList.drop i)).foldl (λe p=>stored e p.1 p.2) kvs)->(∀c o,c≠d->c≠z->c≠h->c≠i1->c≠i2->s.heap.get? c=Aa o->h'.get? c=Aa o)->R (.ok (.ret .none)) { s with heap:=h',toks:=t' }) ->
   AX (model prog w) A (.builtin "dict.update.loop" #v[[.ref d,.ref z,Be i,.none],[]]) R s
 | 0,i,s,kvs,hm,hl,S,hd,f=>by
  refine AQ Pa ?_;rw[Around.under_plainId xi _];unfold Builtin.«dict.update.loop»;have hx:xs[i]? = Ae:=ZyU ⋯;refine Af (ZsH hh D S hx λh' k=>?_);have e1:ks.drop i=[]:=ZxV ⋯;rw[e1]at f
  have K:h'.DictOf knd d kvs:=by obtain⟨o,es,ep,ho,r⟩:=hd;exact#v[o,es,ep,k _ _ y.symm B.symm C.symm G.symm ho,r]
  exact Af (Aj (Aj (f h' s.toks K λc o I n q u v e=>k c o n q u v e)))
 |m+1,i,s,kvs,hm,hl,S,hd,f=>by
  refine AQ Pa ?_;rw[Around.under_plainId xi _];unfold Builtin.«dict.update.loop»;have hi:i<xs.size:=⋯;have hx:xs[i]? = Aa xs[i]:=Nt hi;have N:ys[i]? = Aa (ys[i]'⋯):=Nt ⋯;have M:ks[i]? = Aa (ks[i]'⋯):=eF ⋯;refine Af (ZqM D S hx N λh1 T V hp Z k1=>?_);refine Af (Ay ?_)
  have L:h1.DictOf knd d kvs:=by obtain⟨o,es,ep,ho,r⟩:=hd;exact#v[o,es,ep,k1 _ _ y.symm B.symm C.symm G.symm ho,r]
  refine Af (wpAny_tryCatch ?_);unfold Builtin.Dict.pairItems;refine Af (wpAny_typeOf (T:="tuple") #v[_,hp,rfl] ?_);rw[if_pos (by decide)];refine Af (A0 hp rfl (Aj ?_));refine Ay (wpAny_dictSet_pairs (knd:=knd) (s:={ s with heap:=h1 }) (g i _ _ M hx) L (λh2 d2 U=>?_) (lC hl (lC ⋯ (show 1000<=sizeLine by decide))));have J:∃o,h2.get? d=Aa o:=let ⟨o,_,_,ho,_⟩:=d2;#v[o,ho];have X:=V.write (d:=d) (λc o hc e=>(U.2 c hc).trans e) J y O B C G P Q;refine Aj #v[Bu xi _,?_];have e1:ks.drop i=ks[i]'⋯:: ks.drop (i+1):=xg ⋯
  have e2:ys.toList.drop i=ys[i]'⋯:: ys.toList.drop (i+1):=by rw[xg (by simp;omega)];simp
  refine Po D hh y O B C G P Q hk hy g hz m (i+1) _ _ ⋯ ?_ X d2 ?_
  ·have:=Zw kvs (ks[i]'⋯) (ys[i]'⋯);omega
  ·intro h' t' d' Y;rw[e1,e2]at f;exact f h' t' d' λc o I n q u v e=>Y c o I n q u v ((U.2 c I).trans (k1 c o n q u v e))
theorem Y0{xs ys:Array Ac}{ks:List κ}{Q:Ac->Ag->Prop}(D:Bz z I m i1 i2 t l)(hh:A.handled=Ae)(S:tX z I m i1 i2 t l xs ys 0 s.heap)
  (hk:ks.length=xs.size) (hy:ys.size=xs.size) (n:∀(j:Nat) k x,ks[j]? = Aa k->xs[j]? = Aa x->knd.is k x=Ai) (hz:xs.size<=1000)
  (q:∀h' t',h'.DictOf knd s.heap.objs.size ((ks.zip ys.toList).foldl (λe p=>stored e p.1 p.2) [])->(∀c o,c≠z->c≠m->c≠i1->c≠i2->s.heap.get? c=Aa o->h'.get? c=Aa o)->Q (.ref s.heap.objs.size) { s with heap:=h',toks:=t' }):
  An (model prog w) A (call (.type "dict") [.ref z]) Q E s:=by
 refine callType_codes (Q₁:=λv L=>v=.ref s.heap.objs.size/\L={ s with heap:=s.heap.push { cls:=.type "dict",data:=.dict #[] } }) UW (Zu _) F.entry_dict_init (YG _ #v[rfl,rfl]) ?_;rintro obj L ⟨rfl,rfl⟩;refine#v[#v[_,Heap.get?_push_size _ rfl,rfl],F.args_dict_init_2 _ _,?_];obtain⟨f0,f1,i,_⟩:=S.zo;obtain⟨hp,g,d0,M,K⟩:=s;dsimp only at *;have h:=Heap.get?_push_of_some { cls:=.type "dict",data:=.dict #[] } i;have U:(#v[hp.push { cls:=.type "dict",data:=.dict #[] },g,d0,M,K]:Ag).TypeIs (.ref hp.objs.size) "dict":=#v[_,Heap.get?_push_size _ rfl,rfl];have V:(#v[hp.push { cls:=.type "dict",data:=.dict #[] },g,d0,M,K]:Ag).TypeIs (.ref z) "zip":=#v[_,h,rfl];have J:=QT;unfold Builtin.«dict.__init__»
 repeat (any_goals (first|assumption|(with_reducible refine RW hh h λh' t' k=>?_)|(with_reducible refine Zob (k _ _ h) ?_)|wp_step))
 have f:∀{c:Ad}{o:Obj},hp.get? c=Aa o->c≠hp.objs.size:=λe=>gW (Heap.lt_size e);have N:∀c o,hp.get? c=Aa o->h'.get? c=Aa o:=λc o e=>k c o (Heap.get?_push_of_some _ e);obtain⟨Y,u,⟨Z,Sb,y⟩,B,C,G,H⟩:=id S;refine#v[Bu xi _,Po (A:=A.in1) (knd:=knd) (ks:=ks) D (show A.in1.handled=Ae from hh) (f i) (f u) (f y) (by obtain⟨_,e,_⟩:=B;exact f e) (by obtain⟨_,e,_⟩:=C;exact f e) (by obtain⟨_,e,_⟩:=G;exact f e) (by obtain⟨_,e,_⟩:=H;exact f e) hk hy n hz xs.size 0 _ [] ⋯ (by simp) ?_ ?_ ?_]
 ·exact S.write (d:=hp.objs.size) (λc o hc e=>N c o e) #v[_,k _ _ (Heap.get?_push_size _ rfl)] (f i) (f u) (f y) (by obtain⟨_,e,_⟩:=B;exact f e) (by obtain⟨_,e,_⟩:=C;exact f e) (by obtain⟨_,e,_⟩:=G;exact f e) (by obtain⟨_,e,_⟩:=H;exact f e)
 ·obtain⟨o,es,ep,ho,r⟩:=Heap.DictOf.new (knd:=knd) hp;exact#v[o,es,ep,k _ _ ho,r]
 ·intro h2 X d2 k2;refine#v[rfl,q h2 X ?_ λc o O P R T e=>k2 c o (f e) O P R T (N c o e)];simpa using d2
end
end Zh
namespace L2
def XN(K:aE)(t:TA):TE:=λσ H Q=>t σ H λvs c=>match vs with
 |[.ref a,.ref b]=>∃(ns:List Int) (ys:List V),cB K c a (ns.map V.int)/\cB K c b ys/\ns.length=ys.length/\ns.length<=1000/\∀p d,iS c p (.dK (jQ [] ((ns.map Sum.inl).zip ys))) d->Q (.ref p) d
 |_=>False
theorem ZtK:∀{ns:List Int}{ys:List V}{us:List Ac}{kvs:List (Key×V)}{c:List (Key×Ac)},Vals ys us->KV kvs c ->
  KV (((ns.map (Sum.inl:Int->Key)).zip ys).foldl (λd f=>eD d f.1 f.2) kvs) (((ns.map (Sum.inl:Int->Key)).zip us).foldl (λe p=>stored e p.1 p.2) c)
 |[],_,_,_,_,_,q=>q
 |n::ns,_,_,kvs,c,.nil,q=>q
 |n::ns,_,_,kvs,c,.cons r t,q=>ZtK (ns:=ns) t (q.put (Sum.inl n) r)
theorem Zpg(hc:X.calm=Ai)(L:Gl X "dict")(M:Gl X "zip")(N:X.mg "dict" = Ae)(O:X.mg "zip" = Ae)(ha:PA X [ea,eb] t)
  (he:As [ea,eb] X.env=(Ah,eval ea X.env):: As [eb] X.env:=by rfl) (P:(AN g (As [eb] X.env)).any (·.1)=Ah:=by rfl)
  (l:As [Expr.Call (.Name "zip" G) [ea,eb] [] g] X.env=(Ah,eval (Expr.Call (.Name "zip" G) [ea,eb] [] g) X.env):: As [] X.env:=by rfl) (y:(AN T (As [] X.env)).any (·.1)=Ah:=by rfl):
  PE X (.Call (.Name "dict" p1) [.Call (.Name "zip" G) [ea,eb] [] g] [] T) (XN X.K t):=by
 intro c s σ H Q I h;refine AH (wk I L N PyProof.Rows.boot_dict ?_ (by decide) (by decide));refine PyProof.Rows.callWith_type1 ?_ l y;rw[l];show An _ _ (spliced ((Ah,eval (Expr.Call (.Name "zip" G) [ea,eb] [] g) X.env):: AN T (As [] X.env))) _ _ s;refine Calls.spliced_cons ?_;refine AH (wk I M O PyProof.Rows.boot_zip ?_ (by decide) (by decide));refine PyProof.Rows.callWith_type1 (bY (ha g c s σ H _ I h) λus J ⟨vs,E,f,r1,U⟩=>?_) he P
 match vs,U with
 |[.ref a,.ref b],U=>
  obtain⟨ns,ys,hT,hL,hl,hz,q⟩:=U;obtain⟨u1,u2,rfl,e1,e2⟩:=yA r1;cases e1;cases e2;obtain⟨its,rv,pt⟩:=wI f hT;obtain⟨B,C,pl⟩:=wI f hL;have r:=rv.length;have S3:=C.length;rw[aQ]at r;refine Zh.Zta pt pl λh1 z TI Z i1 i2 S D g1 g2 g3 g4 g5 up=>?_;refine Calls.spliced_nil ?_;have Y:Inv X c σ E { J with heap:=h1 }:=f.kept (t':=J.toks) up
  have fp:∀b∈[z,Z,i1,i2],qL X c E b:=λb hb=>by
   have m:J.heap.objs.size<=b:=by
    simp only[iN,wJ,or_false]at hb;rcases hb with rfl|rfl|rfl|rfl
    ·exact g1
    ·exact g3
    ·exact g4
    ·exact g5
   exact f.pS m (f.bP.fresh m)
  refine Zh.Y0 (knd:=lP X.prog X.w) (ks:=ns.map Sum.inl) D (I.ok.hd hc) S (by rw[aQ,iO];exact r) (by rw[iO,iO];omega) ?_ (by rw[iO];omega) λh2 t2 dd k2=>?_
  ·intro j k x hk hx;rw[gX]at hk;obtain⟨n,hn,rfl⟩:=Option.map_eq_some_iff.mp hk;obtain⟨u,hu,ru⟩:=rv.get (i:=j) (x:=.int n) (by rw[gX,hn];rfl);have A:its[j]? = Aa x:=by simpa using hx
   rw[hu]at A;cases A;exact yq (k:=Sum.inl n) ru
  ·have hd:J.heap.objs.size<=h1.objs.size:=lC g1 (yj (by obtain⟨_,_,e,_⟩:=S.zo;exact Heap.lt_size e));have d:E h1.objs.size=Ae:=f.bP.fresh hd;have V:KV (jQ [] ((ns.map Sum.inl).zip ys)) (((ns.map Sum.inl).zip B).foldl (λe p=>stored e p.1 p.2) []):=ZtK C .nil
   have v:(jQ [] ((ns.map (Sum.inl:Int->Key)).zip ys)).length<=sizeLine:=by have h1:=IP ((ns.map (Sum.inl:Int->Key)).zip ys) [];rw[rA,List.length_zip,aQ]at h1;rw[A2];omega
   have R:((h1.objs.size:Ad)==AI)=Ah:=beq_eq_false_iff_ne.mpr (Ne.symm (gW Y.big));refine#v[.ref h1.objs.size,upd E h1.objs.size (.dK (jQ [] ((ns.map Sum.inl).zip ys))),?_,rfl,q _ _ #v[d,rfl]];refine Y.dz (ch:=[z,Z,i1,i2]) (h':=h2) (t':=t2) (λb hb=>fp b hb) (bV _) (λb o hb e=>k2 b o (λx=>hb (by simp[x])) (λx=>hb (by simp[x])) (λx=>hb (by simp[x])) (λx=>hb (by simp[x])) e) ?_;exact JX v R V (by simpa using dd)
theorem PS.vl{st:Az}(h:PS X.vl st t):PS X st t:=λc s σ H D I hw=>AF (h c s σ H D (I.ny _) hw) (λ_ _ q=>q.unwish) λ_ _ z=>False.elim z
theorem ZoI{Q:VK}:iP (Es c) k sel g d el σ H Q=c σ H (λvs f=>∃i:Int,∃j:Int,vs=[.int i,.int j]<&&>(-(2^62)<=i<&&>i<2^62 <&&> -(2^62)<=j<&&>j<2^62)<&&>sg (qi i (j-i).toNat) σ k sel g d el Q f):=rfl
end L2
set_option maxHeartbeats 400000
namespace SS
theorem ZpX{vs:List Ac}(ho:h.get? a=Aa (Ba "list" vs.toArray n)):(∃e,(Cq h a vs out).get? a=Aa (Ba "list" out e))/\∀b o,b≠a->h.get? b=Aa o->(Cq h a vs out).get? b=Aa o:=by unfold Cq;have g1:=get?_update_seq ho (λ_=>#[]);have g2:=Heap.get?_push_of_some (Ba "list" #[] 0) (Heap.get?_push_of_some (Ba "tuple" vs.toArray 0) g1);exact#v[#v[_,get?_update_seq g2 (λ_=>out)],λb o hb e=>(Heap.get?_update_other _ _ (Ne.symm hb)).trans (Heap.get?_push_of_some _ (Heap.get?_push_of_some _ ((Heap.get?_update_other _ _ (Ne.symm hb)).trans e)))]
end SS
namespace L2
theorem Inv.draw(I:Inv X c σ H s)(d:Drawn):Inv X c σ H { s with drawn:=d }:=#v[I.ok,I.os,I.bare,I.base,I.loc,I.cell,I.free,I.dU,I.pin,I.bP,I.len]
end L2
namespace SR
structure SX (a₀:Array Ar) (p:Array (Nat×Nat×Nat)) (st:AB):Prop where
 perm:(Aq st).Perm a₀
 kind:kindOf st=Bp
 failed:Bq st=Ae
 pend:Aw st=p
def Fr(lo:Nat)(xs ys:Array Ar):Prop:=∀i,i<lo->xs[i]? = ys[i]?
def So(xs:Array Ar)(lo hi:Nat):Prop:=∀i j,lo<=i->i<=j->j<hi->K xs i<=K xs j
theorem Fr.refl(lo:Nat)(xs:Array Ar):Fr lo xs xs:=λ_ _=>rfl
theorem Fr.trans{lo:Nat}(h:Fr lo xs ys)(g:Fr lo ys c):Fr lo xs c:=λi hi=>(h i hi).trans (g i hi)
theorem Fr.key{lo:Nat}(h:Fr lo xs ys)(hi:i<lo):K xs i=K ys i:=K_congr (h i hi)
variable {a₀:Array Ar}{p:Array (Nat×Nat×Nat)}{st:AB}
theorem SX.size(h:SX a₀ p st):(Aq st).size=a₀.size:=h.perm.size_eq
theorem SX.set(h:SX a₀ p st)(hp:xs.Perm (Aq st)):SX a₀ p (setArr st xs):=#v[hp.trans h.perm,h.kind,h.failed,h.pend]
theorem R5{xs:Array Ar}(h0:IntKeys xs)(hi:i<xs.size):∃t q,xs[i]? = Aa (.int (K xs i) t,q):=by have e:xs[i]? = Aa xs[i]:=getElem?_pos _ i hi;obtain⟨n,t,hn⟩:=h0 xs[i] (by simp);refine#v[t,xs[i].2,?_];have e2:xs[i]=(.int n t,xs[i].2):=Prod.ext hn rfl;unfold K;rw[e,e2];rfl
theorem SX.ints(h:SX a₀ p st)(h0:IntKeys a₀):IntKeys (Aq st):=λq hq=>h0 q ((ZyW.mp h.perm).mem_iff.mp hq)
section
variable {prog:Al}{w:Au}{A:At}{E:Ac->Ag->Prop}{s:Ag}
theorem Kg{Q:Option Bool->AB->Prop}(c:SX a₀ p st)(h0:IntKeys a₀)(hi:i<a₀.size)(hj:j<a₀.size)
  (h:Q (Aa (decide (K (Aq st) i<K (Aq st) j))) st):wpS (model prog w) A E s (ltAt' i j) Q st:=by
 obtain⟨t,p,e1⟩:=R5 (c.ints h0) (show i<(Aq st).size by rw[c.size];exact hi);obtain⟨u,q,e2⟩:=R5 (c.ints h0) (show j<(Aq st).size by rw[c.size];exact hj);exact wpS_ltAt c.kind e1 e2 h;skip
theorem SJ{lo n ok:Nat}{Q:Bool->AB->Prop}(h0:IntKeys a₀)(hn:lo+n<=a₀.size)(O:ok<=n)(J:SX a₀ p st)(hs:So (Aq st) lo (lo+ok))
  (h:∀d,SX a₀ p d->Fr lo (Aq d) (Aq st)->So (Aq d) lo (lo+n)->Q Ai d):wpS (model prog w) A E s (binarySort' lo n ok) Q st:=by
 rw[binarySort'_eq]
 refine Ak (AL (AC (I:=λk c d=>c=(Ae,())/\SX a₀ p d/\Fr lo (Aq d) (Aq st)/\So (Aq d) lo (lo+min k n))
  (Q:=λc d=>c=(Ae,())/\SX a₀ p d/\Fr lo (Aq d) (Aq st)/\So (Aq d) lo (lo+n)) ?hst ?hfi ?hin) ?hpo)
 case hpo=>rintro c d ⟨rfl,q,hf,m⟩;exact Am (h d q hf m)
 case hin=>
  refine#v[rfl,J,Fr.refl _ _,λi j hl C hj=>?_];by_cases h1:ok=0
  ·have:i=j:=⋯;rw[this];exact sN _
  ·exact hs i j hl C ⋯
 case hfi=>rintro c d ⟨hc,q,hf,m⟩;rw[show min (max (max ok 1) n) n=n by omega]at m;exact#v[hc,q,hf,m]
 case hst=>
  rintro k c d L M ⟨rfl,q,hf,m⟩;rw[show min k n=k by omega]at m;have hk:lo+k<a₀.size:=⋯
  refine Ak (AL (AC (I:=λx c f=>f=d/\∃l r,c=(Ae,l,r)/\l<=r/\r<=k/\r-l<=k-x /\
    (∀i,i<l->K (Aq d) (lo+i)<=K (Aq d) (lo+k))/\(∀i,r<=i->i<k->K (Aq d) (lo+k)<K (Aq d) (lo+i)))
   (Q:=λc f=>f=d/\∃l r,c=(Ae,l,r)/\l<=k /\
    (∀i,i<l->K (Aq d) (lo+i)<=K (Aq d) (lo+k))/\(∀i,l<=i->i<k->K (Aq d) (lo+k)<K (Aq d) (lo+i))) ?h1 ?h2 ?h3) ?h4)
  case h3=>exact#v[rfl,0,k,rfl,⋯,⋯,⋯,λi hi=>by omega,λi h1 h2=>by omega]
  case h2=>rintro c f ⟨rfl,l,r,rfl,H,v,hm,u,t⟩;have:l=r:=⋯;subst this;exact#v[rfl,l,l,rfl,v,u,t]
  case h1=>
   rintro x c f _ P ⟨rfl,l,r,rfl,H,v,hm,u,t⟩;dsimp only;by_cases z:l≥r
   ·rw[if_pos z];have:l=r:=⋯;subst this;exact Am #v[rfl,l,l,rfl,v,u,t]
   ·rw[if_neg z];refine Ak (Kg q h0 hk ⋯ ?_);by_cases g:K (Aq f) (lo+k)<K (Aq f) (lo+(l+r)/2)
    ·simp only[g,decide_true,if_true];exact Am #v[rfl,l,(l+r)/2,rfl,⋯,⋯,⋯,u,λi h1 h2=>Int.lt_of_lt_of_le g (m _ _ ⋯ ⋯ ⋯)]
    ·simp only[g,decide_false,vE,if_false];exact Am #v[rfl,(l+r)/2+1,r,rfl,⋯,⋯,⋯,λi h1=>Ph (m (lo+i) (lo+(l+r)/2) ⋯ ⋯ ⋯) (Int.not_lt.mp g),t]
  case h4=>
   rintro c f ⟨rfl,l,r,rfl,N,u,t⟩;show wpS _ _ _ _ (do moveDown' (lo+k) (lo+l);pure (ForInStep.yield (Ae,()))) _ _;rw[moveDown'_eq];have D:lo+k<(Aq f).size:=by rw[q.size];exact hk
   have ed:lo+k-(lo+l)=k-l:=⋯;rw[ed]
   have y:∀i,K (bubble (Aq f) (lo+k) (k-l)) i=if i=lo+l then K (Aq f) (lo+k) else if lo+l<i/\i<=lo+k then K (Aq f) (i-1) else K (Aq f) i:=λi=>by rw[K_bubble D ⋯,show lo+k-(k-l)=lo+l by omega]
   refine Ak (B1 (Am #v[rfl,q.set (bubble_perm _ _ _),λi hi=>?_,?_]))
   ·rw[<-hf i hi];show(bubble (Aq f) (lo+k) (k-l))[i]? = _;rw[getElem?_bubble D _ ⋯,if_neg ⋯,if_neg ⋯]
   ·rw[show lo+min (k+1) n=lo+k+1 by omega];intro i j hl C hj;show K (bubble (Aq f) (lo+k) (k-l)) i<=K (bubble (Aq f) (lo+k) (k-l)) j
    have G:∀i,lo<=i->i<lo+l->K (Aq f) i<=K (Aq f) (lo+k):=λi h1 h2=>by have:=u (i-lo) ⋯;rwa[show lo+(i-lo)=i by omega]at this
    have B:∀i,lo+l<=i->i<lo+k->K (Aq f) (lo+k)<K (Aq f) i:=λi h1 h2=>by have:=t (i-lo) ⋯ ⋯;rwa[show lo+(i-lo)=i by omega]at this
    rw[y,y]
    repeat' split
    all_goals first
     |(exfalso;omega)
     |exact sN _
     |exact G _ ⋯ ⋯
     |exact OP (B _ ⋯ ⋯)
     |exact m _ _ ⋯ ⋯ ⋯
end
def F7(lo a d:Nat):StateT AB Sem (Option (Option Nat)×Nat):=
 forIn [a:d] ((Ae,a):Option (Option Nat)×Nat) λ_ c=>do
  let y <-ltAt' (lo+c.snd) (lo+c.snd-1)
  match y with
  |some b=>if b=Ai then pure (ForInStep.done (Ae,c.snd)) else pure (ForInStep.yield (Ae,c.snd+1))
  |_=>pure (ForInStep.done (Aa Ae,c.snd))
def xj(lo n d:Nat):StateT AB Sem (Option Nat):=do
 AW lo (lo+n)
 let c <-F7 lo n d
 match c.fst with
 |some r=>pure r
 |none=>pure (Aa c.snd)
def xD(lo n d:Nat):StateT AB Sem (Option (Option Nat)×Nat×Nat):=
 forIn [n:d] ((Ae,n,0):Option (Option Nat)×Nat×Nat) λ_ c=>do
  let y <-ltAt' (lo+c.snd.fst) (lo+c.snd.fst-1)
  match y with
  |some b=>
   if b=Ai then
    if c.snd.snd>0 then do
     AW (lo+c.snd.fst-(c.snd.snd+1)) (lo+c.snd.fst)
     pure (ForInStep.yield (Ae,c.snd.fst+1,0))
    else pure (ForInStep.yield (Ae,c.snd.fst+1,0))
   else do
    let y <-ltAt' (lo+c.snd.fst-1) (lo+c.snd.fst)
    match y with
    |some b=>
     if b=Ai then pure (ForInStep.done (Ae,c.snd.fst,c.snd.snd))
     else pure (ForInStep.yield (Ae,c.snd.fst+1,c.snd.snd+1))
    |_=>pure (ForInStep.done (Aa Ae,c.snd.fst,c.snd.snd))
  |_=>pure (ForInStep.done (Aa Ae,c.snd.fst,c.snd.snd))
def we(lo n d:Nat):StateT AB Sem (Option Nat):=do
 liftM (rule "list.sort.descending-run");let c <-xD lo (n+1) d
 match c.fst with
 |some r=>pure r
 |none=>
  if c.snd.snd>0 then do
   AW (lo+c.snd.fst-(c.snd.snd+1)) (lo+c.snd.fst)
   xj lo c.snd.fst d
  else xj lo c.snd.fst d
theorem ZuG(lo f:Nat):countRun' lo f=(do
  let c <-F7 lo 1 f
  match c.fst with
  |some r=>pure r
  |none=>
   if(c.snd==f)=Ai then pure (Aa c.snd)
   else if c.snd>1 then do
    let y <-ltAt' lo (lo+c.snd-1)
    match y with
    |some b=>if b=Ai then pure (Aa c.snd) else do
      AW lo (lo+c.snd)
      we lo c.snd f
    |_=>pure Ae
   else we lo c.snd f):=by
 rw[countRun'_eq]
 have g:∀n:Nat,(do
   liftM (rule "list.sort.descending-run");let c <-xD lo (n+1) f
   match c.fst with
   |some r=>pure r
   |none=>
    if c.snd.snd>0 then do
     AW (lo+c.snd.fst-(c.snd.snd+1)) (lo+c.snd.fst)
     AW lo (lo+c.snd.fst)
     let d <-F7 lo c.snd.fst f
     match d.fst with|some r=>pure r|none=>pure (Aa d.snd)
    else do
     AW lo (lo+c.snd.fst)
     let d <-F7 lo c.snd.fst f
     match d.fst with|some r=>pure r|none=>pure (Aa d.snd):StateT AB Sem (Option Nat))=we lo n f:=λn=>rfl
 refine congrArg (bind (F7 lo 1 f)) (funext λc=>?_);obtain⟨r,n⟩:=c;cases r with
 |some r=>rfl
 |none=>
  dsimp only;split
  ·rfl
  ·split
   ·congr 1;funext y;cases y with
    |none=>rfl
    |some b=>
     dsimp only;split
     ·rfl
     ·congr 1;funext _;rw[<-g];congr 1;funext _;congr 1;funext c;obtain⟨r,n,q⟩:=c;cases r with
      |some r=>rfl
      |none=>
       dsimp only;split
       ·congr 1;funext _;congr 1;funext _;congr 1;funext d;obtain⟨r,n⟩:=d;cases r <;> rfl
       ·congr 1;funext _;congr 1;funext d;obtain⟨r,n⟩:=d;cases r <;> rfl
   ·rw[<-g];congr 1;funext _;congr 1;funext c;obtain⟨r,n,q⟩:=c;cases r with
    |some r=>rfl
    |none=>
     dsimp only;split
     ·congr 1;funext _;congr 1;funext _;congr 1;funext d;obtain⟨r,n⟩:=d;cases r <;> rfl
     ·congr 1;funext _;congr 1;funext d;obtain⟨r,n⟩:=d;cases r <;> rfl
section
variable {prog:Al}{w:Au}{A:At}{E:Ac->Ag->Prop}{s:Ag}{a₀:Array Ar}{p:Array (Nat×Nat×Nat)}{st:AB}
def De(xs:Array Ar)(lo hi:Nat):Prop:=∀i j,lo<=i->i<=j->j<hi->K xs j<=K xs i
theorem QN{lo i j:Nat}(hj:j<=xs.size)(hi:lo<=i):Fr lo (mirror xs i j ((j-i)/2)) xs:=λk hk=>by rw[getElem?_mirror_all hj,if_neg ⋯]
theorem M4(hj:j<=xs.size)(he:∀k,i<=k->k<j->K xs k=K xs (j-1))(k:Nat):K (mirror xs i j ((j-i)/2)) k=K xs k:=K_mirror_equal hj he k
theorem yd{Q:Unit->AB->Prop}(h:Q () (setArr st (mirror (Aq st) i j ((j-i)/2)))):wpS (model prog w) A E s (AW i j) Q st:=wpS_reverse h
theorem Mo{lo a d:Nat}{Q:Option (Option Nat)×Nat->AB->Prop}(h0:IntKeys a₀)(hn:lo+d<=a₀.size)(ha:1<=a)(l:a<=d)(v:SX a₀ p st)(hs:So (Aq st) lo (lo+a))
  (h:∀n,a<=n->n<=d->So (Aq st) lo (lo+n)->(n=d\/K (Aq st) (lo+n)<K (Aq st) (lo+n-1))->Q (Ae,n) st):wpS (model prog w) A E s (F7 lo a d) Q st:=by
 unfold F7;refine AC (I:=λx c g=>g=st/\c=(Ae,x)/\So (Aq st) lo (lo+x)) ?h1 ?h2 #v[rfl,rfl,hs]
 case h2=>rintro c g ⟨rfl,rfl,f⟩;rw[show max a d=d by omega]at f ⊢;exact h d l (bV _) f (.inl rfl);skip
 case h1=>
  rintro x c g m y ⟨rfl,rfl,f⟩;dsimp only;refine Ak (Kg v h0 ⋯ ⋯ ?_);by_cases hl:K (Aq g) (lo+x)<K (Aq g) (lo+x-1)
  ·simp only[hl,decide_true,if_true];exact Am (h x m ⋯ f (.inr hl))
  ·simp only[hl,decide_false,vE,if_false];refine Am #v[rfl,rfl,λi j k r hj=>?_];by_cases u:j<lo+x
   ·exact f i j k r u
   ·by_cases q:i=j
    ·rw[q];exact sN _
    ·have t:j=lo+x:=⋯;subst t;exact Ph (f i (lo+x-1) k ⋯ ⋯) (Int.not_lt.mp hl)
theorem PD{lo n c:Nat}{Q:Option Nat->AB->Prop}(h0:IntKeys a₀)(hn:lo+c<=a₀.size)(h1:1<=n)(k:n<=c)(q:SX a₀ p st)(hs:De (Aq st) lo (lo+n))
  (h:∀m d,SX a₀ p d->Fr lo (Aq d) (Aq st)->1<=m->m<=c->So (Aq d) lo (lo+m)->Q (Aa m) d):wpS (model prog w) A E s (xj lo n c) Q st:=by
 unfold xj;have hsz:lo+n<=(Aq st).size:=by rw[q.size];omega
 refine Ak (yd ?_);have f:=q.set (Ch (Aq st) lo (lo+n) ((lo+n-lo)/2));refine Ak (Mo h0 hn h1 k f ?_ λm t g l _=>Am (h m _ f (QN hsz (bV _)) ⋯ g l));intro i j hl r hj;show K (mirror (Aq st) lo (lo+n) ((lo+n-lo)/2)) i<=K (mirror (Aq st) lo (lo+n) ((lo+n-lo)/2)) j;rw[K_mirror hsz,K_mirror hsz,if_pos ⋯,if_pos ⋯];exact hs _ _ ⋯ ⋯ ⋯
theorem Zr{lo n f:Nat}{Q:Option (Option Nat)×Nat×Nat->AB->Prop}(h0:IntKeys a₀)(hn:lo+f<=a₀.size)(h1:1<=n)(G:n<=f)(H:SX a₀ p st)(hs:De (Aq st) lo (lo+n))
  (h:∀m q d,SX a₀ p d->Fr lo (Aq d) (Aq st)->n<=m->m<=f->De (Aq d) lo (lo+m)->q+1<=m->(∀i,lo+m-(q+1)<=i->i<lo+m->K (Aq d) i=K (Aq d) (lo+m-1))->Q (Ae,m,q) d):
  wpS (model prog w) A E s (xD lo n f) Q st:=by
 unfold xD
 refine AC (I:=λx c d=>∃q,c=(Ae,x,q)/\SX a₀ p d/\Fr lo (Aq d) (Aq st)/\De (Aq d) lo (lo+x)/\q+1<=x /\
   (∀i,lo+x-(q+1)<=i->i<lo+x->K (Aq d) i=K (Aq d) (lo+x-1))) ?h1 ?h2 #v[0,rfl,H,Fr.refl _ _,hs,⋯,λi h1 h2=>by congr 1;omega]
 case h2=>rintro c d ⟨q,rfl,g,hf,l,hq,he⟩;rw[show max n f=f by omega]at l hq he ⊢;exact h f q d g hf G (bV _) l hq he
 case h1=>
  rintro x c d C J ⟨q,rfl,g,hf,l,hq,he⟩;dsimp only;have hsz:lo+x<=(Aq d).size:=by rw[g.size];omega
  refine Ak (Kg g h0 ⋯ ⋯ ?_);by_cases hl:K (Aq d) (lo+x)<K (Aq d) (lo+x-1)
  ·simp only[hl,decide_true,if_true]
   have B:∀xs:Array Ar,(∀k,K xs k=K (Aq d) k)->De xs lo (lo+(x+1)):=by
    intro xs hk i j r v hj;rw[hk,hk];by_cases z:j<lo+x
    ·exact l i j r v z
    ·by_cases u:i=j
     ·rw[u];exact sN _
     ·have y:j=lo+x:=⋯;subst y;exact Ph (OP hl) (l i (lo+x-1) r ⋯ ⋯)
   by_cases t:q>0
   ·rw[if_pos t];exact Ak (yd (Am #v[0,rfl,g.set (Ch _ _ _ _),(QN hsz ⋯).trans hf,B _ (M4 hsz he),⋯,λi h1 h2=>by congr 1;omega]))
   ·rw[if_neg t];exact Am #v[0,rfl,g,hf,B _ (λ_=>rfl),⋯,λi h1 h2=>by congr 1;omega]
  ·simp only[hl,decide_false,vE,if_false];refine Ak (Kg g h0 ⋯ ⋯ ?_);by_cases hg:K (Aq d) (lo+x-1)<K (Aq d) (lo+x)
   ·simp only[hg,decide_true,if_true];exact Am (h x q d g hf C ⋯ l hq he)
   ·simp only[hg,decide_false,vE,if_false];have ex:K (Aq d) (lo+x)=K (Aq d) (lo+x-1):=⋯;refine Am #v[q+1,rfl,g,hf,λi j r v hj=>?_,⋯,λi h1 h2=>?_]
    ·by_cases z:j<lo+x
     ·exact l i j r v z
     ·by_cases u:i=j
      ·rw[u];exact sN _
      ·have y:j=lo+x:=⋯;subst y;rw[ex];exact l i (lo+x-1) r ⋯ ⋯
    ·rw[show lo+(x+1)-1=lo+x by omega];by_cases D:i=lo+x
     ·rw[D]
     ·rw[ex];exact he i ⋯ ⋯
theorem zn{lo n d:Nat}{Q:Option Nat->AB->Prop}(h0:IntKeys a₀)(hn:lo+d<=a₀.size)(x:n+1<=d)(y:SX a₀ p st)(hs:De (Aq st) lo (lo+(n+1)))
  (h:∀m c,SX a₀ p c->Fr lo (Aq c) (Aq st)->1<=m->m<=d->So (Aq c) lo (lo+m)->Q (Aa m) c):wpS (model prog w) A E s (we lo n d) Q st:=by
 unfold we;refine Ak (BS (Bm #v[rfl,?_]));refine Ak (Zr h0 hn ⋯ x y hs λm q c k hf z r t hq he=>?_);dsimp only;have hsz:lo+m<=(Aq c).size:=by rw[k.size];omega
 by_cases g:q>0
 ·rw[if_pos g];refine Ak (yd (PD h0 hn ⋯ r (k.set (Ch _ _ _ _)) ?_ λm2 l b f=>h m2 l b (f.trans ((QN hsz ⋯).trans hf))));intro i j v u hj;show K (mirror (Aq c) _ _ _) j<=K (mirror (Aq c) _ _ _) i;rw[M4 hsz he,M4 hsz he];exact t i j v u hj
 ·rw[if_neg g];exact PD h0 hn ⋯ r k t λm2 l b f=>h m2 l b (f.trans hf)
theorem YY{lo d:Nat}{Q:Option Nat->AB->Prop}(h0:IntKeys a₀)(hn:lo+d<=a₀.size)(h1:1<=d)(q:SX a₀ p st)
  (h:∀m l,SX a₀ p l->Fr lo (Aq l) (Aq st)->1<=m->m<=d->So (Aq l) lo (lo+m)->Q (Aa m) l):wpS (model prog w) A E s (countRun' lo d) Q st:=by
 rw[ZuG];refine Ak (Mo h0 hn (bV 1) h1 q (λi j hl x hj=>by rw[show i=j by omega];exact sN _) λn B D g L=>?_);dsimp only;by_cases u:n=d
 ·rw[if_pos (by simpa using u)];exact Am (h n st q (Fr.refl _ _) B D g)
 ·rw[if_neg (by simpa using u)];have z:K (Aq st) (lo+n)<K (Aq st) (lo+n-1):=L.resolve_left u;by_cases v:n>1
  ·rw[if_pos v];refine Ak (Kg q h0 ⋯ ⋯ ?_);by_cases hr:K (Aq st) lo<K (Aq st) (lo+n-1)
   ·simp only[hr,decide_true,if_true];exact Am (h n st q (Fr.refl _ _) B D g)
   ·simp only[hr,decide_false,vE,if_false];have hsz:lo+n<=(Aq st).size:=by rw[q.size];omega
    have c:∀k,lo<=k->k<lo+n->K (Aq st) k=K (Aq st) (lo+n-1):=by intro k y hk;have N:=g lo k (bV _) y hk;have O:=g k (lo+n-1) y ⋯ ⋯;omega
    refine Ak (yd (zn h0 hn ⋯ (q.set (Ch _ _ _ _)) ?_ λm2 M b f=>h m2 M b (f.trans (QN hsz (bV _)))));intro i j t x hj;show K (mirror (Aq st) _ _ _) j<=K (mirror (Aq st) _ _ _) i;rw[M4 hsz c,M4 hsz c];by_cases J:j<lo+n
    ·rw[c i t ⋯,c j ⋯ J];exact sN _
    ·by_cases r:i=j
     ·rw[r];exact sN _
     ·have H:j=lo+n:=⋯;subst H;rw[c i t ⋯];exact OP z
  ·rw[if_neg v];have C:n=1:=⋯;subst C;refine zn h0 hn ⋯ q ?_ h;intro i j t x hj;by_cases r:i=j
   ·rw[r];exact sN _
   ·have I:j=lo+1:=⋯;have G:i=lo+1-1:=⋯;subst I;rw[G];exact OP z
end
def zL:Bool->Ar->Array Ar->Nat->Nat->Nat->StateT AB Sem (Option Nat):=sortPriv% PySem.Builtin.gallop
def IT(left:Bool)(c:Ar)(d:Array Ar)(base i:Nat):StateT AB Sem (Option Bool):=do
 let x <-elem' d (base+i)
 if left then lt' x c else return (<-lt' c x).map (!·)
theorem Ev(left:Bool)(g:Ar)(f:Array Ar)(base n c:Nat):zL left g f base n c=(do
 let mut last:=0
 let mut ofs:=1
 let mut lo:=0
 let mut hi:=0
 let Aa right <-IT left g f base c|return Ae
 if right then
  let d:=n-c
  for _ in [0:n] do
   if ofs≥d then break
   let Aa more <-IT left g f base (c+ofs)|return Ae
   if !more then break
   last:=ofs
   ofs:=2*ofs+1
  lo:=c+last+1
  hi:=c+min ofs d
 else
  let d:=c+1
  for _ in [0:n] do
   if ofs≥d then break
   let Aa found <-IT left g f base (c-ofs)|return Ae
   if found then break
   last:=ofs
   ofs:=2*ofs+1
  lo:=c+1-min ofs d
  hi:=c-last
 for _ in [0:n] do
  if lo≥hi then break
  let m:=lo+(hi-lo)/2
  let Aa more <-IT left g f base m|return Ae
  if more then lo:=m+1 else hi:=m
 return Aa hi):=rfl
section
variable {prog:Al}{w:Au}{A:At}{E:Ac->Ag->Prop}{s:Ag}{st:AB}
theorem QP{Q:Option Bool->AB->Prop}(hk:kindOf st=Bp)(h:Q (Aa (decide (a<b))) st):wpS (model prog w) A E s (lt' (.int a t,q) (.int b u,r)) Q st:=by rw[lt'_eq];refine Ak (BL ?_);rw[hk,keyLt'_oneType];exact Ak (BS (AV (oneLt_int #v[rfl,Am h])))
theorem ou{Q:Ar->AB->Prop}(e:c[i]? = Aa x)(h:Q x st):wpS (model prog w) A E s (elem' c i) Q st:=by rw[elem'_eq,e];exact Am h
def By(left:Bool)(k:Int)(c:Array Ar)(base i:Nat):Prop:=if left then K c (base+i)<k else K c (base+i)<=k
instance (left:Bool) (k:Int) (arr:Array Ar) (base i:Nat):Decidable (By left k arr base i):=by unfold By;infer_instance
theorem vN{left:Bool}{k:Int}{t:Tok}{q:Ac}{c:Array Ar}{base i:Nat}{Q:Option Bool->AB->Prop}(hk:kindOf st=Bp)(h0:IntKeys c)(hi:base+i<c.size)(h:Q (Aa (decide (By left k c base i))) st):
  wpS (model prog w) A E s (IT left (.int k t,q) c base i) Q st:=by
 obtain⟨u,r,e⟩:=R5 h0 hi;unfold IT;refine Ak (ou e ?_);unfold By at h;cases left with
 |true=>exact QP hk h
 |false=>
  refine Ak (QP hk (Am ?_))
  have e2:(Aa (decide (k<K c (base+i)))).map (!·)=Aa (decide (K c (base+i)<=k)):=by show Aa (!decide (k<K c (base+i)))=Aa (decide (K c (base+i)<=k));rw[<-decide_not];congr 1;rw[decide_eq_decide];omega
  rw[e2];exact h
theorem By.mono{left:Bool}{base n i j:Nat}(hs:So c base (base+n))(d:i<=j)(hj:j<n)(h:By left k c base j):By left k c base i:=by have:=hs (base+i) (base+j) ⋯ ⋯ ⋯;unfold By at h ⊢;cases left <;> simp only[if_true,if_false,vE]at h ⊢ <;> omega
theorem tV{left:Bool}{k:Int}{t:Tok}{q:Ac}{f:Array Ar}{base n d:Nat}{Q:Option Nat->AB->Prop}(hk:kindOf st=Bp)(h0:IntKeys f)(hn:base+n<=f.size)(hh:d<n)(hs:So f base (base+n))
  (h:∀m,m<=n->(∀i,i<m->By left k f base i)->(∀i,m<=i->i<n->¬By left k f base i)->Q (Aa m) st):wpS (model prog w) A E s (zL left (.int k t,q) f base n d) Q st:=by
 rw[Ev];refine Ak (vN hk h0 ⋯ ?_);dsimp only;by_cases C:By left k f base d
 ·rw[if_pos (decide_eq_true C)]
  refine Ak (AL (AC (I:=λx c g=>g=st/\∃l o,c=(Ae,l,o)/\x<o/\l<o/\d+l<n/\By left k f base (d+l))
   (Q:=λc g=>g=st/\∃l o,c=(Ae,l,o)/\l<o/\d+l<n/\By left k f base (d+l)/\(o≥n-d\/(d+o<n/\¬By left k f base (d+o)))) ?g1 ?g2 #v[rfl,0,1,rfl,⋯,⋯,hh,C]) ?g3)
  case g2=>rintro c g ⟨rfl,l,o,rfl,h1,h2,h3,h4⟩;exact#v[rfl,l,o,rfl,h2,h3,h4,.inl ⋯]
  case g1=>
   rintro x c g _ hx ⟨rfl,l,o,rfl,h1,h2,h3,h4⟩;dsimp only;by_cases r:o≥n-d
   ·rw[if_pos r];exact Am #v[rfl,l,o,rfl,h2,h3,h4,.inl r]
   ·rw[if_neg r];refine Ak (vN hk h0 ⋯ ?_);dsimp only;by_cases hb:By left k f base (d+o)
    ·rw[if_neg (by simpa using hb)];exact Am #v[rfl,o,2*o+1,rfl,⋯,⋯,⋯,hb]
    ·rw[if_pos (by simpa using hb)];exact Am #v[rfl,l,o,rfl,h2,h3,h4,.inr #v[⋯,hb]]
  case g3=>
   rintro c g ⟨rfl,l,o,rfl,h2,h3,h4,h5⟩;dsimp only;have v:∀i,i<d+l+1->By left k f base i:=λi hi=>h4.mono hs ⋯ h3
   have y:∀i,d+min o (n-d)<=i->i<n->¬By left k f base i:=λi h6 h7 hc=>by
    rcases h5 with z|⟨z,nb⟩
    ·omega
    ·exact nb (hc.mono hs ⋯ h7)
   have B:d+l+1<=d+min o (n-d):=⋯;have j:d+min o (n-d)<=n:=⋯;generalize d+l+1=lo0 at *;generalize d+min o (n-d)=hi0 at *
   refine Ak (AL (AC (I:=λx c u=>u=g/\∃lo hi,c=(Ae,lo,hi)/\lo<=hi/\hi<=n/\hi-lo<=n-x/\(∀i,i<lo->By left k f base i)/\(∀i,hi<=i->i<n->¬By left k f base i))
    (Q:=λc u=>u=g/\∃lo hi,c=(Ae,lo,hi)/\hi<=n/\(∀i,i<hi->By left k f base i)/\(∀i,hi<=i->i<n->¬By left k f base i)) ?b1 ?b2 #v[rfl,_,_,rfl,⋯,⋯,⋯,v,y]) ?b3)
   case b2=>rintro c u ⟨rfl,lo,hi,rfl,B,j,hd,v,y⟩;have:lo=hi:=⋯;subst this;exact#v[rfl,lo,lo,rfl,j,v,y]
   case b3=>rintro c u ⟨rfl,lo,hi,rfl,j,v,y⟩;exact Am (h hi j v y)
   case b1=>
    rintro x c u _ hx ⟨rfl,lo,hi,rfl,B,j,hd,v,y⟩;dsimp only;by_cases r:lo≥hi
    ·rw[if_pos r];have:lo=hi:=⋯;subst this;exact Am #v[rfl,lo,lo,rfl,j,v,y]
    ·rw[if_neg r];refine Ak (vN hk h0 ⋯ ?_);dsimp only;by_cases hb:By left k f base (lo+(hi-lo)/2)
     ·rw[if_pos (decide_eq_true hb)];exact Am #v[rfl,lo+(hi-lo)/2+1,hi,rfl,⋯,j,⋯,λi D=>hb.mono hs ⋯ ⋯,y]
     ·rw[if_neg (by simpa using hb)];exact Am #v[rfl,lo,lo+(hi-lo)/2,rfl,⋯,⋯,⋯,v,λi h1 h2 hc=>hb (hc.mono hs h1 h2)]
 ·rw[if_neg (by simpa using C)]
  refine Ak (AL (AC (I:=λx c g=>g=st/\∃l o,c=(Ae,l,o)/\x<o/\l<o/\l<=d/\¬By left k f base (d-l))
   (Q:=λc g=>g=st/\∃l o,c=(Ae,l,o)/\l<o/\l<=d/\¬By left k f base (d-l)/\(o≥d+1\/(o<=d/\By left k f base (d-o)))) ?k1 ?k2 #v[rfl,0,1,rfl,⋯,⋯,⋯,C]) ?k3)
  case k2=>rintro c g ⟨rfl,l,o,rfl,h1,h2,h3,h4⟩;exact#v[rfl,l,o,rfl,h2,h3,h4,.inl ⋯]
  case k1=>
   rintro x c g _ hx ⟨rfl,l,o,rfl,h1,h2,h3,h4⟩;dsimp only;by_cases r:o≥d+1
   ·rw[if_pos r];exact Am #v[rfl,l,o,rfl,h2,h3,h4,.inl r]
   ·rw[if_neg r];refine Ak (vN hk h0 ⋯ ?_);dsimp only;by_cases hb:By left k f base (d-o)
    ·rw[if_pos (decide_eq_true hb)];exact Am #v[rfl,l,o,rfl,h2,h3,h4,.inr #v[⋯,hb]]
    ·rw[if_neg (by simpa using hb)];exact Am #v[rfl,o,2*o+1,rfl,⋯,⋯,⋯,hb]
  case k3=>
   rintro c g ⟨rfl,l,o,rfl,h2,h3,h4,h5⟩;dsimp only
   have v:∀i,i<d+1-min o (d+1)->By left k f base i:=λi hi=>by
    rcases h5 with z|⟨z,nb⟩
    ·omega
    ·exact nb.mono hs ⋯ ⋯
   have y:∀i,d-l<=i->i<n->¬By left k f base i:=λi h6 h7 hc=>h4 (hc.mono hs h6 h7);have B:d+1-min o (d+1)<=d-l:=⋯;have j:d-l<=n:=⋯;generalize d+1-min o (d+1)=lo0 at *;generalize d-l=hi0 at *
   refine Ak (AL (AC (I:=λx c u=>u=g/\∃lo hi,c=(Ae,lo,hi)/\lo<=hi/\hi<=n/\hi-lo<=n-x/\(∀i,i<lo->By left k f base i)/\(∀i,hi<=i->i<n->¬By left k f base i))
    (Q:=λc u=>u=g/\∃lo hi,c=(Ae,lo,hi)/\hi<=n/\(∀i,i<hi->By left k f base i)/\(∀i,hi<=i->i<n->¬By left k f base i)) ?b1 ?b2 #v[rfl,_,_,rfl,⋯,⋯,⋯,v,y]) ?b3)
   case b2=>rintro c u ⟨rfl,lo,hi,rfl,B,j,hd,v,y⟩;have:lo=hi:=⋯;subst this;exact#v[rfl,lo,lo,rfl,j,v,y]
   case b3=>rintro c u ⟨rfl,lo,hi,rfl,j,v,y⟩;exact Am (h hi j v y)
   case b1=>
    rintro x c u _ hx ⟨rfl,lo,hi,rfl,B,j,hd,v,y⟩;dsimp only;by_cases r:lo≥hi
    ·rw[if_pos r];have:lo=hi:=⋯;subst this;exact Am #v[rfl,lo,lo,rfl,j,v,y]
    ·rw[if_neg r];refine Ak (vN hk h0 ⋯ ?_);dsimp only;by_cases hb:By left k f base (lo+(hi-lo)/2)
     ·rw[if_pos (decide_eq_true hb)];exact Am #v[rfl,lo+(hi-lo)/2+1,hi,rfl,⋯,j,⋯,λi D=>hb.mono hs ⋯ ⋯,y]
     ·rw[if_neg (by simpa using hb)];exact Am #v[rfl,lo,lo+(hi-lo)/2,rfl,⋯,⋯,⋯,v,λi h1 h2 hc=>hb (hc.mono hs h1 h2)]
end
def ky(p:Ar):Int:=numOf p.1
def fR(xs:List Ar):Prop:=xs.Pairwise λx y=>ky x<=ky y
structure Mg (A B out:List Ar) (ia ib:Nat):Prop where
 perm:out.Perm (A.take ia++B.take ib)
 yo:fR out
 low:∀x∈out,∀y,y∈A.drop ia\/y∈B.drop ib->ky x<=ky y
theorem fR.append(hx:fR xs)(hy:fR ys)(h:∀x∈xs,∀y∈ys,ky x<=ky y):fR (xs++ys):=XZ.mpr #v[hx,hy,h]
theorem fR.drop(h:fR xs)(n:Nat):fR (xs.drop n):=h.sublist (List.drop_sublist _ _)
theorem fR.take(h:fR xs)(n:Nat):fR (xs.take n):=h.sublist (List.take_sublist _ _)
theorem fR.cut(h:fR xs)(n:Nat):∀x∈xs.take n,∀y∈xs.drop n,ky x<=ky y:=by have:=h;rw[<-wK n xs]at this;exact(XZ.mp this).2.2
theorem Mg.swap(h:Mg A B out ia ib):Mg B A out ib ia:=#v[h.perm.trans xc,h.yo,λx hx y hy=>h.low x hx y hy.symm]
theorem Mg.rZ(h:Mg A B out ia ib)(c:fR A)(hk:∀x∈(A.drop ia).take k,∀y∈B.drop ib,ky x<=ky y):Mg A B (out++(A.drop ia).take k) (ia+k) ib:=by
 refine#v[?_,h.yo.append ((c.drop ia).take k) λx hx y hy=>h.low x hx y (.inl (CH hy)),λx hx y hy=>?_]
 ·rw[VG];refine(h.perm.append_right _).trans ?_;rw[oJ,oJ];exact rS.append_left _ xc
 ·rw[<-Wn]at hy;rcases fG.mp hx with z|z
  ·exact h.low x z y (hy.imp (λg=>R6 g) id)
  ·rcases hy with g|g
   ·exact(c.drop ia).cut k x z y g
   ·exact hk x z y g
theorem Mg.EK(h:Mg A B out ia ib)(c:fR B)(hk:∀x∈(B.drop ib).take k,∀y∈A.drop ia,ky x<=ky y):Mg A B (out++(B.drop ib).take k) ia (ib+k):=(h.swap.rZ c hk).swap
theorem Mg.ut(h:Mg A B out ia ib)(c:fR A)(hx:A[ia]? = Aa x)(hk:∀y∈B.drop ib,ky x<=ky y):Mg A B (out++[x]) (ia+1) ib:=by
 have e:(A.drop ia).take 1=[x]:=by obtain⟨hi,he⟩:=dS.mp hx;rw[xg hi,he];rfl
 rw[<-e]
 exact h.rZ c λz hz=>by rw[e,dQ]at hz;rw[hz];exact hk
theorem Mg.xR(h:Mg A B out ia ib)(c:fR B)(hx:B[ib]? = Aa x)(hk:∀y∈A.drop ia,ky x<=ky y):Mg A B (out++[x]) ia (ib+1):=(h.swap.ut c hx hk).swap
theorem Mg.done(h:Mg A B out ia ib)(c:fR A)(d:fR B)(he:A.length<=ia\/B.length<=ib):fR (out++A.drop ia++B.drop ib)/\(out++A.drop ia++B.drop ib).Perm (A++B):=by
 constructor
 ·refine((h.yo.append (c.drop ia) λx hx y hy=>h.low x hx y (.inl hy)).append (d.drop ib) λx hx y hy=>?_);rcases fG.mp hx with z|z
  ·exact h.low x z y (.inr hy)
  ·rcases he with g|g
   ·rw[IH g]at z;simp at z
   ·rw[IH g]at hy;simp at hy
 ·have e:(A++B).Perm ((A.take ia++B.take ib)++(A.drop ia++B.drop ib)):=by
   conv=>lhs;rw[<-wK ia A,<-wK ib B]
   simp only[oJ];refine rS.append_left _ ?_;rw[<-oJ,<-oJ];exact rS.append_right _ xc;skip
  rw[oJ];exact(h.perm.append_right _).trans e.symm
theorem Mg.last(h:Mg A B out ia ib)(c:fR A)(d:fR B)(hl:∀x∈B.drop ib,∀y∈A.drop ia,ky x<=ky y):fR (out++B.drop ib++A.drop ia)/\(out++B.drop ib++A.drop ia).Perm (A++B):=by
 constructor
 ·refine((h.yo.append (d.drop ib) λx hx y hy=>h.low x hx y (.inr hy)).append (c.drop ia) λx hx y hy=>?_);rcases fG.mp hx with z|z
  ·exact h.low x z y (.inl hy)
  ·exact hl x z y hy
 ·have e:(A++B).Perm ((A.take ia++B.take ib)++(A.drop ia++B.drop ib)):=by
   conv=>lhs;rw[<-wK ia A,<-wK ib B]
   simp only[oJ];refine rS.append_left _ ?_;rw[<-oJ,<-oJ];exact rS.append_right _ xc;skip
  rw[oJ];exact((h.perm.append_right _).trans (rS.append_left _ xc)).trans e.symm
def Xb:Array Ar->Array Ar->StateT AB Sem (Array Ar):=sortPriv% PySem.Builtin.mergeLo
def HW:Nat->StateT AB Sem Unit:=sortPriv% PySem.Builtin.setMinGallop
theorem ZuB(g:Nat):HW g=modify λs=>SortSt.mk' (kindOf s) (Aq s) (Aw s) g (Bq s):=rfl
theorem Ew(a b:Array Ar):Xb a b=(do
 rule "list.sort.merge-lo"
 let t:=a.size+b.size
 let dn (o:Array Ar) (i j:Nat):=o++a.extract i a.size++b.extract j b.size
 let c (o:Array Ar) (i j:Nat):=o++b.extract j b.size++a.extract i a.size
 let mut o:Array Ar:=#[<-elem' b 0]
 let mut i:=0
 let mut j:=1
 if j==b.size then return dn o i j
 if i+1==a.size then return c o i j
 let mut g:=gallopOf (<-get)
 for _ in [0:t] do
  let mut ca:=0
  let mut cb:=0
  for _ in [0:t] do
   let Aa bw <-lt' (<-elem' b j) (<-elem' a i)|return dn o i j
   if bw then
    o:=o.push (<-elem' b j);j:=j+1;cb:=cb+1;ca:=0
    if j==b.size then return dn o i j
    if cb≥g then break
   else
    o:=o.push (<-elem' a i);i:=i+1;ca:=ca+1;cb:=0
    if i+1==a.size then return c o i j
    if ca≥g then break
  rule "list.sort.gallop"
  g:=g+1
  for _ in [0:t] do
   if g>1 then g:=g-1
   HW g
   let Aa k <-zL Ah (<-elem' b j) a i (a.size-i) 0 |return dn o i j
   ca:=k
   if k>0 then
    o:=o++a.extract i (i+k);i:=i+k
    if i+1==a.size then return c o i j
    if i==a.size then return dn o i j
   o:=o.push (<-elem' b j);j:=j+1
   if j==b.size then return dn o i j
   let Aa k <-zL Ai (<-elem' a i) b j (b.size-j) 0 |return dn o i j
   cb:=k
   if k>0 then
    o:=o++b.extract j (j+k);j:=j+k
    if j==b.size then return dn o i j
   o:=o.push (<-elem' a i);i:=i+1
   if i+1==a.size then return c o i j
   if ca<7&&cb<7 then break
  g:=g+1
  HW g
 unsupported "internal:list.sort.merge-bound"):=rfl
section
variable {prog:Al}{w:Au}{A:At}{E:Ac->Ag->Prop}{s:Ag}{st:AB}
structure SG (st QW:AB):Prop where
 kind:kindOf QW=kindOf st
 arr:Aq QW=Aq st
 pend:Aw QW=Aw st
 fail:Bq QW=Bq st
theorem SG.refl(st:AB):SG st st:=#v[rfl,rfl,rfl,rfl]
theorem SG.trans(h:SG a b)(g:SG b c):SG a c:=#v[g.kind.trans h.kind,g.arr.trans h.arr,g.pend.trans h.pend,g.fail.trans h.fail]
theorem Rz{Q:Unit->AB->Prop}(h:∀c,SG st c->Q () c):wpS (model prog w) A E s (HW g) Q st:=by rw[ZuB];exact B1 (h _ #v[rfl,rfl,rfl,rfl])
theorem rh(h:xs[i]? = Aa x):K xs i=ky x:=by unfold K ky;rw[h]
theorem uB{xs:Array Ar}(h0:IntKeys xs)(hi:i<xs.size):∃k t q,xs[i]? = Aa (.int k t,q)/\K xs i=k:=by obtain⟨t,q,e⟩:=R5 h0 hi;exact#v[_,t,q,e,rfl]
theorem Q7(h:fR xs.toList){lo hi:Nat}(hh:hi<=xs.size):So xs lo hi:=λi j _ f hj=>by
 have c:i<xs.toList.length:=by rw[ph];omega
 have d:j<xs.toList.length:=by rw[ph];omega
 rw[rh (x:=xs.toList[i]) (by rw[<-mi];exact eF c),rh (x:=xs.toList[j]) (by rw[<-mi];exact eF d)];rcases Nat.eq_or_lt_of_le f with e|e
 ·subst e;exact sN _
 ·exact uZ.mp h i j c d e
theorem Sg{xs:List Ar}(h:y∈xs.drop n):∃m,n<=m/\xs[m]? = Aa y:=by obtain⟨k,hk⟩:=wE.mp h;rw[Jf]at hk;exact#v[n+k,⋯,hk]
theorem Qf{xs:List Ar}(h:y∈(xs.drop n).take k):∃m,m<k/\xs[n+m]? = Aa y:=by
 obtain⟨m,hm⟩:=wE.mp h;rw[Nf]at hm;split at hm
 ·rw[Jf]at hm;exact#v[m,by assumption,hm]
 ·cases hm
theorem loX{a b:Array Ar}{Q:Array Ar->AB->Prop}(hk:kindOf st=Bp)(Tn:IntKeys a)(P:IntKeys b)(sA:fR a.toList)(U:fR b.toList)(na:0<a.size)(nb:0<b.size)
  (hf:∀x∈b.toList.take 1,∀y∈a.toList,ky x<=ky y) (hl:∀x∈b.toList,∀y∈a.toList.drop (a.size-1),ky x<=ky y)
  (h:∀o d,SG st d->fR o.toList->o.toList.Perm (a.toList++b.toList)->Q o d):wpS (model prog w) A E s (Xb a b) Q st:=by
 rw[Ew];refine Ak (BS (Bm #v[rfl,?_]));obtain⟨k0,t0,q0,e0,_⟩:=uB P nb;refine Ak (ou e0 ?_);have eB:b.toList[0]? = Aa (.int k0 t0,q0):=by rw[<-e0];simp
 have eT:b.toList.take 1=[(.int k0 t0,q0)]:=by obtain⟨hi,he⟩:=dS.mp eB;rw[List.take_one,List.head?_eq_getElem?,eB];rfl
 have m0:Mg a.toList b.toList [(.int k0 t0,q0)] 0 1:=by
  refine#v[by rw[eT];exact rS.refl _,SO _ _,λx hx y hy=>?_];rw[<-eT]at hx;rcases hy with z|z
  ·exact hf x hx y z
  ·exact U.cut 1 x hx y z
 have la:∀{x:Array Ar}{i:Nat},(x.extract i).toList=x.toList.drop i:=λ{x i}=>by rw[IG,Ii];exact yD (by rw[QZ,ph];exact bV _)
 have lb:∀{x:Array Ar}{i k:Nat},(x.extract i (i+k)).toList=(x.toList.drop i).take k:=λ{x i k}=>by rw[IG,Ii,show i+k-i=k by omega]
 have G:∀{o:Array Ar}{i j:Nat}{d:AB},SG st d->Mg a.toList b.toList o.toList i j->(a.size<=i\/b.size<=j)->Q (o++a.extract i++b.extract j) d:=λ{o i j d} g m e=>by have:=m.done sA U (by simpa using e);rw[<-la,<-la,<-uM,<-uM]at this;exact h _ d g this.1 this.2
 have L:∀{o:Array Ar}{i j:Nat}{d:AB},SG st d->Mg a.toList b.toList o.toList i j->i+1=a.size->Q (o++b.extract j++a.extract i) d:=λ{o i j d} g m e=>by have:=m.last sA U (λx hx y hy=>hl x (R6 hx) y (by rw[<-e];exact hy));rw[<-la,<-la,<-uM,<-uM]at this;exact h _ d g this.1 this.2
 extract_lets o0 i0 j0;by_cases c1:1=b.size
 ·rw[if_pos (by simpa using c1)];exact Am (G (SG.refl _) m0 (.inr ⋯))
 rw[if_neg (by simpa using c1)];by_cases c2:0+1=a.size
 ·rw[if_pos (by simpa using c2)];exact Am (L (SG.refl _) m0 c2)
 rw[if_neg (by simpa using c2)];refine Ak (BL ?_);have szA:a.toList.length=a.size:=ph;have szB:b.toList.length=b.size:=ph
 refine Ak (AL (AC (I:=λx c d=>SG st d/\∃o i j g,c=(Ae,o,i,j,g)/\Mg a.toList b.toList o.toList i j/\i+1<a.size/\j<b.size/\x<i+j)
  (Q:=λc d=>∃r C,c=(Aa r,C)/\Q r d) ?o1 ?o2 #v[SG.refl _,_,_,_,_,rfl,m0,⋯,⋯,⋯]) ?o3)
 case o2=>rintro c d ⟨g,o,i,j,gg,rfl,m,h1,h2,h3⟩;omega
 case o3=>rintro c d ⟨r,C,rfl,hq⟩;exact Am hq
 case o1=>
  rintro x c d _ hx ⟨g1,o,i,j,gg,rfl,m,h1,h2,h3⟩;have V:∀{n:Nat}{y:Ar},a[n]? = Aa y->a.toList[n]? = Aa y:=λ{n y} e=>by rw[mi];exact e
  have X:∀{n:Nat}{y:Ar},b[n]? = Aa y->b.toList[n]? = Aa y:=λ{n y} e=>by rw[mi];exact e
  have T:∀{xs:List Ar}{n:Nat}{y:Ar},fR xs->xs[n]? = Aa y->∀z∈xs.drop n,ky y<=ky z:=λ{xs n y} hs e z hz=>by
   obtain⟨hn,he⟩:=dS.mp e;rw[xg hn,he]at hz;have:=hs.drop n;rw[xg hn,he]at this;rcases iN.mp hz with rfl|hz;skip
   ·exact sN _
   ·exact(List.pairwise_cons.mp this).1 z hz
  have kA:∀{n:Nat}{k:Int}{t:Tok}{q:Ac},a[n]? = Aa (.int k t,q)->∀z∈a.toList.drop n,k<=ky z:=λ{n k t q} e=>T sA (V e);have kB:∀{n:Nat}{k:Int}{t:Tok}{q:Ac},b[n]? = Aa (.int k t,q)->∀z∈b.toList.drop n,k<=ky z:=λ{n k t q} e=>T U (X e);extract_lets
  refine Ak (AL (AC (I:=λx c J=>SG st J/\∃o2 i2 j2 ca cb,c=(Ae,o2,i2,j2,ca,cb)/\Mg a.toList b.toList o2.toList i2 j2/\i2+1<a.size/\j2<b.size/\i+j+x<=i2+j2)
   (Q:=λc J=>SG st J/\((∃r C,c=(Aa r,C)/\Q r J)\/∃o2 i2 j2 ca cb,c=(Ae,o2,i2,j2,ca,cb)/\Mg a.toList b.toList o2.toList i2 j2/\i2+1<a.size/\j2<b.size/\i+j+1<=i2+j2)) ?i1 ?i2 #v[g1,o,i,j,0,0,rfl,m,h1,h2,⋯]) ?i3)
  case i2=>rintro c J ⟨g2,o2,i2,j2,ca,cb,rfl,m2,p1,p2,p3⟩;omega
  case i1=>
   rintro x2 c J _ hx2 ⟨g2,o2,i2,j2,ca,cb,rfl,m2,p1,p2,p3⟩;dsimp only;obtain⟨kb,tb,qb,eb,_⟩:=uB P p2;obtain⟨ka,ta,qa,ea,_⟩:=uB Tn (show i2<a.size by omega);refine Ak (ou eb (Ak (ou ea (Ak (QP (g2.kind.trans hk) ?_)))));dsimp only;by_cases oh:kb<ka
   ·rw[if_pos (decide_eq_true oh)];refine Ak (ou eb ?_)
    have m3:Mg a.toList b.toList (o2.push (.int kb tb,qb)).toList i2 (j2+1):=by
     rw[Dh]
     exact m2.xR U (X eb) λy hy=>by have:=kA ea y hy;show kb<=ky y;omega
    by_cases O:j2+1=b.size
    ·rw[if_pos (by simpa using O)];exact Am #v[g2,.inl #v[_,_,rfl,G g2 m3 (.inr ⋯)]]
    ·rw[if_neg (by simpa using O)];split
     ·exact Am #v[g2,.inr #v[_,_,_,_,_,rfl,m3,p1,⋯,⋯]]
     ·exact Am #v[g2,_,_,_,_,_,rfl,m3,p1,⋯,⋯]
   ·rw[if_neg (by simpa using oh)];refine Ak (ou ea ?_)
    have m3:Mg a.toList b.toList (o2.push (.int ka ta,qa)).toList (i2+1) j2:=by
     rw[Dh]
     exact m2.ut sA (V ea) λy hy=>by have:=kB eb y hy;show ka<=ky y;omega
    by_cases O:i2+1+1=a.size
    ·rw[if_pos (by simpa using O)];exact Am #v[g2,.inl #v[_,_,rfl,L g2 m3 O]]
    ·rw[if_neg (by simpa using O)];split
     ·exact Am #v[g2,.inr #v[_,_,_,_,_,rfl,m3,⋯,⋯,⋯]]
     ·exact Am #v[g2,_,_,_,_,_,rfl,m3,⋯,⋯,⋯]
  case i3=>
   rintro c J ⟨g2,⟨r,C,rfl,hq⟩|⟨o2,i2,j2,ca,cb,rfl,m2,p1,p2,p3⟩⟩
   ·exact Am #v[r,_,rfl,hq]
   ·extract_lets;refine Ak (BS (Bm #v[rfl,?_]));extract_lets gz
    refine Ak (AL (AC (I:=λx c H=>SG st H/\∃o3 i3 j3 g3 ca cb,c=(Ae,o3,i3,j3,g3,ca,cb)/\Mg a.toList b.toList o3.toList i3 j3/\i3+1<a.size/\j3<b.size/\i2+j2+x<=i3+j3)
     (Q:=λc H=>SG st H/\((∃r C,c=(Aa r,C)/\Q r H)\/∃o3 i3 j3 g3 ca cb,c=(Ae,o3,i3,j3,g3,ca,cb)/\Mg a.toList b.toList o3.toList i3 j3/\i3+1<a.size/\j3<b.size/\i2+j2<=i3+j3)) ?j1 ?j2 #v[g2,o2,i2,j2,_,ca,cb,rfl,m2,p1,p2,⋯]) ?j3)
    case j2=>rintro c H ⟨g3,o3,i3,j3,gg3,ca,cb,rfl,m3,p4,p5,p6⟩;omega
    case j3=>
     rintro c H ⟨g3,⟨r,C,rfl,hq⟩|⟨o3,i3,j3,gg3,ca,cb,rfl,m3,p4,p5,p6⟩⟩
     ·exact Am #v[r,_,rfl,hq]
     ·extract_lets;exact Ak (Rz λf g4=>Am #v[g3.trans g4,o3,i3,j3,_,rfl,m3,p4,p5,⋯])
    case j1=>
     rintro x3 c H _ hx3 ⟨g3,o3,i3,j3,gg3,ca,cb,rfl,m3,p4,p5,p6⟩;refine AL (Q:=λr f=>SG st f/\((∃N C,r=.done (Aa N,C)/\Q N f)\/∃D i4 j4 g4 l v,(r=.done (Ae,D,i4,j4,g4,l,v)\/r=.yield (Ae,D,i4,j4,g4,l,v))/\Mg a.toList b.toList D.toList i4 j4/\i4+1<a.size/\j4<b.size/\i2+j2+(x3+1)<=i4+j4)) ?_ ?_
     rotate_left
     ·rintro _ f ⟨g4,⟨N,C,rfl,hq⟩|⟨D,i4,j4,gg4,l,v,rfl|rfl,m4,q1,q2,q3⟩⟩
      ·exact#v[g4,.inl #v[N,C,rfl,hq]]
      ·exact#v[g4,.inr #v[D,i4,j4,gg4,l,v,rfl,m4,q1,q2,⋯]]
      ·exact#v[g4,D,i4,j4,gg4,l,v,rfl,m4,q1,q2,⋯]
     extract_lets z1 z2 z3 z4 z5 z6 z7 z8 z9 z10 z11 z12 jp z13
     have Os:∀u g,wpS (model prog w) A E s (jp u g) (λr f=>SG st f/\((∃N C,r=.done (Aa N,C)/\Q N f)\/∃D i4 j4 g4 l v,(r=.done (Ae,D,i4,j4,g4,l,v)\/r=.yield (Ae,D,i4,j4,g4,l,v))/\Mg a.toList b.toList D.toList i4 j4/\i4+1<a.size/\j4<b.size/\i2+j2+(x3+1)<=i4+j4)) H:=by
      intro u g;obtain⟨kb,tb,qb,eb,_⟩:=uB P p5;refine Ak (Rz λf g4=>?_);refine Ak (ou eb ?_);have Mc:kindOf f=Bp:=g4.kind.trans (g3.kind.trans hk);have B:=g3.trans g4;refine Ak (tV Mc Tn (by show i3+(a.size-i3)<=_;omega) (by show 0<a.size-i3;omega) ?_ λk Ip Y Z=>?_)
      ·exact Q7 sA (by show i3+(a.size-i3)<=_;omega)
      have Ip:k<=a.size-i3:=Ip;have Y:∀n,n<k->K a (i3+n)<=kb:=Y;have Z:∀n,k<=n->n<a.size-i3->¬K a (i3+n)<=kb:=Z
      have up:∀y∈a.toList.drop (i3+k),kb<=ky y:=λy hy=>by
       obtain⟨n,hn,e⟩:=Sg hy;have h8:n<a.size:=by have:=(dS.mp e).1;omega
       have:=Z (n-i3) ⋯ ⋯;rw[show i3+(n-i3)=n by omega,rh (by rw[<-mi];exact e)]at this;omega
      have dn:∀x∈(a.toList.drop i3).take k,∀y∈b.toList.drop j3,ky x<=ky y:=λx hx y hy=>by obtain⟨n,hn,e⟩:=Qf hx;have h8:=Y n hn;rw[rh (by rw[<-mi];exact e)]at h8;have:=kB eb y hy;omega
      dsimp -zeta only;extract_lets y1 jp2 y3 y4
      have R:∀u o i,i3<=i->Mg a.toList b.toList o.toList i j3->i+1<a.size->(∀y∈a.toList.drop i,kb<=ky y)->wpS (model prog w) A E s (jp2 u o i) (λr f=>SG st f/\((∃N C,r=.done (Aa N,C)/\Q N f)\/∃D i4 j4 g4 l v,(r=.done (Ae,D,i4,j4,g4,l,v)\/r=.yield (Ae,D,i4,j4,g4,l,v))/\Mg a.toList b.toList D.toList i4 j4/\i4+1<a.size/\j4<b.size/\i2+j2+(x3+1)<=i4+j4)) f:=by
       intro u o i hii m4 hi1 hup;refine Ak (ou eb ?_)
       have m5:Mg a.toList b.toList (o.push (.int kb tb,qb)).toList i (j3+1):=by rw[Dh];exact m4.xR U (X eb) hup
       by_cases O:j3+1=b.size
       ·rw[if_pos (by show(j3+1==b.size)=Ai;simpa using O)];exact Am #v[B,.inl #v[_,_,rfl,G (j:=j3+1) B m5 (.inr (HC O.symm))]]
       rw[if_neg (by show¬(j3+1==b.size)=Ai;simpa using O)];obtain⟨ka,ta,qa,ea,_⟩:=uB Tn (show i<a.size by omega);refine Ak (ou ea ?_);refine Ak (tV Mc P (by show j3+1+(b.size-(j3+1))<=_;omega) (by show 0<b.size-(j3+1);omega) (Q7 U (by show j3+1+(b.size-(j3+1))<=_;omega)) λM HI El D9=>?_);have HI:M<=b.size-(j3+1):=HI;have El:∀n,n<M->K b (j3+1+n)<ka:=El;have D9:∀n,M<=n->n<b.size-(j3+1)->¬K b (j3+1+n)<ka:=D9
       have KH:∀y∈b.toList.drop (j3+1+M),ka<=ky y:=λy hy=>by
        obtain⟨n,hn,e⟩:=Sg hy;have h8:n<b.size:=by have:=(dS.mp e).1;omega
        have:=D9 (n-(j3+1)) ⋯ ⋯;rw[show j3+1+(n-(j3+1))=n by omega,rh (by rw[<-mi];exact e)]at this;omega
       have dn2:∀x∈(b.toList.drop (j3+1)).take M,∀y∈a.toList.drop i,ky x<=ky y:=λx hx y hy=>by obtain⟨n,hn,e⟩:=Qf hx;have h8:=El n hn;rw[rh (by rw[<-mi];exact e)]at h8;have:=kA ea y hy;omega
       dsimp -zeta only;extract_lets w1 w2 jp3 w4 w5
       have S:∀u o j,j3+1<=j->Mg a.toList b.toList o.toList i j->j<b.size->(∀y∈b.toList.drop j,ka<=ky y)->wpS (model prog w) A E s (jp3 u o j) (λr f=>SG st f/\((∃N C,r=.done (Aa N,C)/\Q N f)\/∃D i4 j4 g4 l v,(r=.done (Ae,D,i4,j4,g4,l,v)\/r=.yield (Ae,D,i4,j4,g4,l,v))/\Mg a.toList b.toList D.toList i4 j4/\i4+1<a.size/\j4<b.size/\i2+j2+(x3+1)<=i4+j4)) f:=by
        intro u o j hjj m6 hj1 hup2;refine Ak (ou ea ?_)
        have m7:Mg a.toList b.toList (o.push (.int ka ta,qa)).toList (i+1) j:=by rw[Dh];exact m6.ut sA (V ea) hup2
        by_cases c4:i+1+1=a.size
        ·rw[if_pos (by show(i+1+1==a.size)=Ai;simpa using c4)];exact Am #v[B,.inl #v[_,_,rfl,L B m7 c4]]
        rw[if_neg (by show¬(i+1+1==a.size)=Ai;simpa using c4)];split
        ·exact Am #v[B,.inr #v[_,i+1,j,_,_,_,.inl rfl,m7,⋯,hj1,⋯]]
        ·exact Am #v[B,.inr #v[_,i+1,j,_,_,_,.inr rfl,m7,⋯,hj1,⋯]]
       by_cases c5:M>0
       ·rw[if_pos c5]
        have m8:Mg a.toList b.toList (o.push (.int kb tb,qb)++b.extract (j3+1) (j3+1+M)).toList i (j3+1+M):=by rw[uM,lb];exact m5.EK U dn2
        by_cases c6:j3+1+M=b.size
        ·rw[if_pos (by show(j3+1+M==b.size)=Ai;simpa using c6)];exact Am #v[B,.inl #v[_,_,rfl,G (j:=j3+1+M) B m8 (.inr (HC c6.symm))]]
        ·rw[if_neg (by show¬(j3+1+M==b.size)=Ai;simpa using c6)];exact S () _ (j3+1+M) ⋯ m8 ⋯ KH
       ·rw[if_neg c5];have k0:M=0:=⋯;rw[k0]at KH;exact S () _ (j3+1) (bV _) m5 ⋯ KH
      by_cases c7:k>0
      ·rw[if_pos c7]
       have m9:Mg a.toList b.toList (o3++a.extract i3 (i3+k)).toList (i3+k) j3:=by rw[uM,lb];exact m3.rZ sA dn
       by_cases c8:i3+k+1=a.size
       ·rw[if_pos (by show(i3+k+1==a.size)=Ai;simpa using c8)];exact Am #v[B,.inl #v[_,_,rfl,L (i:=i3+k) B m9 c8]]
       rw[if_neg (by show¬(i3+k+1==a.size)=Ai;simpa using c8)];by_cases c9:i3+k=a.size
       ·rw[if_pos (by show(i3+k==a.size)=Ai;simpa using c9)];exact Am #v[B,.inl #v[_,_,rfl,G (i:=i3+k) B m9 (.inl (HC c9.symm))]]
       rw[if_neg (by show¬(i3+k==a.size)=Ai;simpa using c9)];exact R () _ (i3+k) ⋯ m9 ⋯ up
      ·rw[if_neg c7];have k0:k=0:=⋯;rw[k0]at up;exact R () _ i3 (bV _) m3 p4 up
     split
     ·exact Os () _
     ·exact Os () _
end
structure Mh (A B out:List Ar) (na nb:Nat):Prop where
 perm:out.Perm (A.drop na++B.drop nb)
 yo:fR out.reverse
 high:∀x∈out,∀y,y∈A.take na\/y∈B.take nb->ky y<=ky x
theorem Mh.swap(h:Mh A B out c d):Mh B A out d c:=#v[h.perm.trans xc,h.yo,λx hx y hy=>h.high x hx y hy.symm]
theorem Mh.rZ(h:Mh A B out c d)(f:fR A)(hm:m<=c)(hk:∀x∈(A.take c).drop m,∀y∈B.take d,ky y<=ky x):Mh A B (out++((A.take c).drop m).reverse) m d:=by
 have e:A.drop m=(A.take c).drop m++A.drop c:=by
  conv=>lhs;rw[<-wK c A]
  rw[List.drop_append];rcases lD A.length c with z|z
  ·rw[IH (show A.length<=c by omega),List.drop_nil]
  ·rw[uw,Jn z,show m-c=0 by omega,List.drop_zero]
 refine#v[?_,?_,λx hx y hy=>?_]
 ·rw[e,oJ];refine(xc).trans ?_;exact((List.reverse_perm _).append h.perm)
 ·rw[List.reverse_append,List.reverse_reverse];refine fR.append ((f.take c).drop m) h.yo λx hx y hy=>?_;exact h.high y (IJ.mp hy) x (.inl (R6 hx))
 ·rcases fG.mp hx with z|z
  ·refine h.high x z y (hy.imp (λg=>?_) id);have e2:A.take m=(A.take c).take m:=by rw[Wp,Jn hm]
   rw[e2]at g;exact CH g
  ·rw[IJ]at z;rcases hy with g|g
   ·have e2:A.take m=(A.take c).take m:=by rw[Wp,Jn hm]
    rw[e2]at g;exact(f.take c).cut m y g x z
   ·exact hk x z y g
theorem Mh.EK(h:Mh A B out d c)(f:fR B)(hm:m<=c)(hk:∀x∈(B.take c).drop m,∀y∈A.take d,ky y<=ky x):Mh A B (out++((B.take c).drop m).reverse) d m:=(h.swap.rZ f hm hk).swap
theorem Mh.ut(h:Mh A B out (c+1) d)(f:fR A)(hx:A[c]? = Aa x)(hk:∀y∈B.take d,ky y<=ky x):Mh A B (out++[x]) c d:=by
 have e:(A.take (c+1)).drop c=[x]:=by obtain⟨hi,he⟩:=dS.mp hx;rw[List.take_succ,hx,List.drop_append,IH (by rw[uw];omega),uw,Jn ⋯,vD];rfl
 have:=h.rZ (m:=c) f ⋯ λz hz=>by rw[e,dQ]at hz;rw[hz];exact hk
 rwa[e]at this
theorem Mh.xR(h:Mh A B out c (d+1))(f:fR B)(hx:B[d]? = Aa x)(hk:∀y∈A.take c,ky y<=ky x):Mh A B (out++[x]) c d:=(h.swap.ut f hx hk).swap
theorem Mh.fin(h:Mh A B out c d)(f:fR A)(g:fR B)(hl:∀x∈A.take c,∀y∈B.take d,ky x<=ky y):fR (A.take c++B.take d++out.reverse)/\(A.take c++B.take d++out.reverse).Perm (A++B):=by
 constructor
 ·refine((f.take c).append (g.take d) hl).append h.yo λx hx y hy=>?_;exact h.high y (IJ.mp hy) x (fG.mp hx)
 ·have e:(A++B).Perm ((A.take c++B.take d)++(A.drop c++B.drop d)):=by
   conv=>lhs;rw[<-wK c A,<-wK d B]
   simp only[oJ];refine rS.append_left _ ?_;rw[<-oJ,<-oJ];exact rS.append_right _ xc;skip
  exact(rS.append_left _ ((List.reverse_perm _).trans h.perm)).trans e.symm
def UF:Array Ar->Array Ar->StateT AB Sem (Array Ar):=sortPriv% PySem.Builtin.mergeHi
theorem Gf(a b:Array Ar):UF a b=(do
 rule "list.sort.merge-hi"
 let t:=a.size+b.size
 let dn (o:Array Ar) (i j:Nat):=a.extract 0 i++b.extract 0 j++o.reverse
 let fb (o:Array Ar) (i j:Nat):=b.extract 0 j++a.extract 0 i++o.reverse
 let mut i:=a.size-1
 let mut j:=b.size
 let mut o:Array Ar:=#[<-elem' a i]
 if i==0 then return dn o i j
 if j==1 then return fb o i j
 let mut g:=gallopOf (<-get)
 for _ in [0:t] do
  let mut ca:=0
  let mut cb:=0
  for _ in [0:t] do
   let Aa aw <-lt' (<-elem' b (j-1)) (<-elem' a (i-1))|return dn o i j
   if aw then
    i:=i-1;o:=o.push (<-elem' a i);ca:=ca+1;cb:=0
    if i==0 then return dn o i j
    if ca≥g then break
   else
    j:=j-1;o:=o.push (<-elem' b j);cb:=cb+1;ca:=0
    if j==1 then return fb o i j
    if cb≥g then break
  rule "list.sort.gallop"
  g:=g+1
  for _ in [0:t] do
   if g>1 then g:=g-1
   HW g
   let Aa m <-zL Ah (<-elem' b (j-1)) a 0 i (i-1)|return dn o i j
   let k:=i-m
   ca:=k
   if k>0 then
    o:=o++(a.extract m i).reverse;i:=m
    if i==0 then return dn o i j
   j:=j-1;o:=o.push (<-elem' b j)
   if j==1 then return fb o i j
   let Aa m <-zL Ai (<-elem' a (i-1)) b 0 j (j-1)|return dn o i j
   let k:=j-m
   cb:=k
   if k>0 then
    o:=o++(b.extract m j).reverse;j:=m
    if j==1 then return fb o i j
    if j==0 then return dn o i j
   i:=i-1;o:=o.push (<-elem' a i)
   if i==0 then return dn o i j
   if ca<7&&cb<7 then break
  g:=g+1
  HW g
 unsupported "internal:list.sort.merge-bound"):=rfl
section
variable {prog:Al}{w:Au}{A:At}{E:Ac->Ag->Prop}{s:Ag}{st:AB}
theorem Zl2{xs:List Ar}(h:y∈xs.take n):∃m,m<n/\xs[m]? = Aa y:=by
 obtain⟨m,hm⟩:=wE.mp h;rw[Nf]at hm;split at hm
 ·exact#v[m,by assumption,hm]
 ·cases hm
theorem ZtD{xs:List Ar}(h:y∈(xs.take n).drop m):∃k,m<=k/\k<n/\xs[k]? = Aa y:=by
 obtain⟨k,hk,e⟩:=Sg h;rw[Nf]at e;split at e
 ·exact#v[k,hk,by assumption,e]
 ·cases e
theorem hiX{a b:Array Ar}{Q:Array Ar->AB->Prop}(hk:kindOf st=Bp)(S:IntKeys a)(Xw:IntKeys b)(sA:fR a.toList)(sB:fR b.toList)(na:0<a.size)(nb:0<b.size)
  (hf:∀x∈b.toList.take 1,∀y∈a.toList,ky x<=ky y) (hl:∀x∈b.toList,∀y∈a.toList.drop (a.size-1),ky x<=ky y)
  (h:∀o d,SG st d->fR o.toList->o.toList.Perm (a.toList++b.toList)->Q o d):wpS (model prog w) A E s (UF a b) Q st:=by
 rw[Gf];refine Ak (BS (Bm #v[rfl,?_]));obtain⟨k0,t0,q0,e0,_⟩:=uB S (show a.size-1<a.size by omega);extract_lets;refine Ak (ou e0 ?_);have szA:a.toList.length=a.size:=ph;have szB:b.toList.length=b.size:=ph
 have eT:a.toList.drop (a.size-1)=[(.int k0 t0,q0)]:=by
  have e1:a.toList[a.size-1]? = Aa (.int k0 t0,q0):=by rw[mi];exact e0
  obtain⟨hi,he⟩:=dS.mp e1;rw[xg hi,he,IH ⋯]
 have m0:Mh a.toList b.toList [(.int k0 t0,q0)] (a.size-1) b.size:=by
  refine#v[by rw[eT,IH ⋯,xt],SO _ _,λx hx y hy=>?_];rw[<-eT]at hx;rcases hy with z|z
  ·exact sA.cut _ y z x hx
  ·exact hl y (CH z) x hx
 have la:∀{x:Array Ar}{i:Nat},(x.extract 0 i).toList=x.toList.take i:=λ{x i}=>by rw[IG,Ii];rfl
 have lb:∀{x:Array Ar}{i k:Nat},((x.extract i k).reverse).toList=((x.toList.take k).drop i).reverse:=λ{x i k}=>by rw[Xc,IG,Ii,List.drop_take]
 have H:∀{o:Array Ar}{i j:Nat}{d:AB},SG st d->Mh a.toList b.toList o.toList i j->(i=0\/j=0)->Q (a.extract 0 i++b.extract 0 j++o.reverse) d:=λ{o i j d} g m e=>by
  have:=m.fin sA sB (λx hx y hy=>by
   rcases e with rfl|rfl
   ·simp at hx
   ·simp at hy)
  rw[<-la,<-la,<-uM,<-Xc,<-uM]at this;exact h _ d g this.1 this.2
 have M:∀{o:Array Ar}{i j:Nat}{d:AB},SG st d->Mh a.toList b.toList o.toList i j->j=1->Q (b.extract 0 j++a.extract 0 i++o.reverse) d:=λ{o i j d} g m e=>by have:=m.swap.fin sB sA (λx hx y hy=>hf x (by rw[<-e];exact hx) y (CH hy));rw[<-la,<-la,<-uM,<-Xc,<-uM]at this;exact h _ d g this.1 (this.2.trans xc)
 extract_lets;by_cases c1:a.size-1=0
 ·rw[if_pos (by show(a.size-1==0)=Ai;simpa using c1)];exact Am (H (SG.refl _) m0 (.inl c1))
 rw[if_neg (by show¬(a.size-1==0)=Ai;simpa using c1)];by_cases c2:b.size=1
 ·rw[if_pos (by show(b.size==1)=Ai;simpa using c2)];exact Am (M (SG.refl _) m0 c2)
 rw[if_neg (by show¬(b.size==1)=Ai;simpa using c2)];refine Ak (BL ?_);extract_lets
 refine Ak (AL (AC (I:=λx c d=>SG st d/\∃o i j g,c=(Ae,i,j,o,g)/\Mh a.toList b.toList o.toList i j/\1<=i/\2<=j/\i<=a.size/\j<=b.size/\x+i+j<a.size+b.size)
  (Q:=λc d=>∃r C,c=(Aa r,C)/\Q r d) ?o1 ?o2 #v[SG.refl _,#[(.int k0 t0,q0)],a.size-1,b.size,_,rfl,m0,⋯,⋯,⋯,⋯,⋯]) ?o3)
 case o2=>rintro c d ⟨g,o,i,j,gg,rfl,m,h1,h2,h3,h4,h5⟩;omega
 case o3=>rintro c d ⟨r,C,rfl,hq⟩;exact Am hq
 case o1=>
  rintro x c d _ hx ⟨g1,o,i,j,gg,rfl,m,h1,h2,h3,h4,h5⟩;have atA:∀{n:Nat}{y:Ar},a[n]? = Aa y->a.toList[n]? = Aa y:=λ{n y} e=>by rw[mi];exact e
  have atB:∀{n:Nat}{y:Ar},b[n]? = Aa y->b.toList[n]? = Aa y:=λ{n y} e=>by rw[mi];exact e
  have V:∀{xs:List Ar}{n:Nat}{y:Ar},fR xs->xs[n]? = Aa y->∀z∈xs.take (n+1),ky z<=ky y:=λ{xs n y} hs e z hz=>by
   rw[List.take_succ,e]at hz;rcases fG.mp hz with g|g
   ·obtain⟨hn,he⟩:=dS.mp e;exact hs.cut n z g y (by rw[xg hn,he];exact uh ..)
   ·have:z=y:=by simpa using g
    rw[this];exact sN _
  have kA:∀{n:Nat}{k:Int}{t:Tok}{q:Ac},1<=n->a[n-1]? = Aa (.int k t,q)->∀z∈a.toList.take n,ky z<=k:=λ{n k t q} h1 e z hz=>V sA (atA e) z (by rw[show n-1+1=n by omega];exact hz);have kB:∀{n:Nat}{k:Int}{t:Tok}{q:Ac},1<=n->b[n-1]? = Aa (.int k t,q)->∀z∈b.toList.take n,ky z<=k:=λ{n k t q} h1 e z hz=>V sB (atB e) z (by rw[show n-1+1=n by omega];exact hz)
  have oA:∀{o:Array Ar}{i j:Nat}{x:Ar},1<=i->Mh a.toList b.toList o.toList i j->a[i-1]? = Aa x->(∀y∈b.toList.take j,ky y<=ky x)->Mh a.toList b.toList (o.push x).toList (i-1) j:=λ{o i j x} h1 m e hy=>by rw[Dh];exact Mh.ut (by rw[show i-1+1=i by omega];exact m) sA (atA e) hy
  have oB:∀{o:Array Ar}{i j:Nat}{x:Ar},1<=j->Mh a.toList b.toList o.toList i j->b[j-1]? = Aa x->(∀y∈a.toList.take i,ky y<=ky x)->Mh a.toList b.toList (o.push x).toList i (j-1):=λ{o i j x} h1 m e hy=>by rw[Dh];exact Mh.xR (by rw[show j-1+1=j by omega];exact m) sB (atB e) hy
  extract_lets
  refine Ak (AL (AC (I:=λx c L=>SG st L/\∃o2 i2 j2 ca cb,c=(Ae,i2,j2,o2,ca,cb)/\Mh a.toList b.toList o2.toList i2 j2/\1<=i2/\2<=j2/\i2<=a.size/\j2<=b.size/\x+i2+j2<=i+j)
   (Q:=λc L=>SG st L/\((∃r C,c=(Aa r,C)/\Q r L)\/∃o2 i2 j2 ca cb,c=(Ae,i2,j2,o2,ca,cb)/\Mh a.toList b.toList o2.toList i2 j2/\1<=i2/\2<=j2/\i2<=a.size/\j2<=b.size/\1+i2+j2<=i+j)) ?i1 ?i2 #v[g1,o,i,j,0,0,rfl,m,h1,h2,h3,h4,⋯]) ?i3)
  case i2=>rintro c L ⟨g2,o2,i2,j2,ca,cb,rfl,m2,p1,p2,p3,p4,p5⟩;have p5:a.size+b.size+i2+j2<=i+j:=p5;omega
  case i1=>
   rintro x2 c L _ hx2 ⟨g2,o2,i2,j2,ca,cb,rfl,m2,p1,p2,p3,p4,p5⟩;dsimp only;obtain⟨kb,tb,qb,eb,_⟩:=uB Xw (show j2-1<b.size by omega);obtain⟨ka,ta,qa,ea,_⟩:=uB S (show i2-1<a.size by omega);refine Ak (ou eb (Ak (ou ea (Ak (QP (g2.kind.trans hk) ?_)))));dsimp only;by_cases oh:kb<ka
   ·rw[if_pos (decide_eq_true oh)];refine Ak (ou ea ?_)
    have m3:=oA p1 m2 ea λy hy=>by have:=kB ⋯ eb y hy;show ky y<=ka;omega
    by_cases O:i2-1=0
    ·rw[if_pos (by simpa using O)];exact Am #v[g2,.inl #v[_,_,rfl,H g2 m3 (.inl O)]]
    ·rw[if_neg (by simpa using O)];split
     ·exact Am #v[g2,.inr #v[_,_,_,_,_,rfl,m3,⋯,⋯,⋯,⋯,⋯]]
     ·exact Am #v[g2,_,_,_,_,_,rfl,m3,⋯,⋯,⋯,⋯,⋯]
   ·rw[if_neg (by simpa using oh)];refine Ak (ou eb ?_)
    have m3:=oB ⋯ m2 eb λy hy=>by have:=kA p1 ea y hy;show ky y<=kb;omega
    by_cases O:j2-1=1
    ·rw[if_pos (by simpa using O)];exact Am #v[g2,.inl #v[_,_,rfl,M g2 m3 O]]
    ·rw[if_neg (by simpa using O)];split
     ·exact Am #v[g2,.inr #v[_,_,_,_,_,rfl,m3,⋯,⋯,⋯,⋯,⋯]]
     ·exact Am #v[g2,_,_,_,_,_,rfl,m3,⋯,⋯,⋯,⋯,⋯]
  case i3=>
   rintro c L ⟨g2,⟨r,C,rfl,hq⟩|⟨o2,i2,j2,ca,cb,rfl,m2,p1,p2,p3,p4,p5⟩⟩
   ·exact Am #v[r,_,rfl,hq]
   ·extract_lets;refine Ak (BS (Bm #v[rfl,?_]));extract_lets gz
    refine Ak (AL (AC (I:=λx c J=>SG st J/\∃o3 i3 j3 g3 ca cb,c=(Ae,i3,j3,o3,g3,ca,cb)/\Mh a.toList b.toList o3.toList i3 j3/\1<=i3/\2<=j3/\i3<=a.size/\j3<=b.size/\x+i3+j3<=i2+j2)
     (Q:=λc J=>SG st J/\((∃r C,c=(Aa r,C)/\Q r J)\/∃o3 i3 j3 g3 ca cb,c=(Ae,i3,j3,o3,g3,ca,cb)/\Mh a.toList b.toList o3.toList i3 j3/\1<=i3/\2<=j3/\i3<=a.size/\j3<=b.size/\i3+j3<=i2+j2)) ?j1 ?j2 #v[g2,o2,i2,j2,_,ca,cb,rfl,m2,p1,p2,p3,p4,⋯]) ?j3)
    case j2=>rintro c J ⟨g3,o3,i3,j3,gg3,ca,cb,rfl,m3,r1,r2,r3,r4,r5⟩;have r5:a.size+b.size+i3+j3<=i2+j2:=r5;omega
    case j3=>
     rintro c J ⟨g3,⟨r,C,rfl,hq⟩|⟨o3,i3,j3,gg3,ca,cb,rfl,m3,r1,r2,r3,r4,r5⟩⟩
     ·exact Am #v[r,_,rfl,hq]
     ·extract_lets;exact Ak (Rz λf g4=>Am #v[g3.trans g4,o3,i3,j3,_,rfl,m3,r1,r2,r3,r4,⋯])
    case j1=>
     rintro x3 c J _ hx3 ⟨g3,o3,i3,j3,gg3,ca,cb,rfl,m3,r1,r2,r3,r4,r5⟩;refine AL (Q:=(λr f=>SG st f/\((∃N C,r=.done (Aa N,C)/\Q N f)\/∃G i4 j4 g4 l v,(r=.done (Ae,i4,j4,G,g4,l,v)\/r=.yield (Ae,i4,j4,G,g4,l,v))/\Mh a.toList b.toList G.toList i4 j4/\1<=i4/\2<=j4/\i4<=a.size/\j4<=b.size/\x3+1+i4+j4<=i2+j2))) ?_ ?_
     rotate_left
     ·rintro _ f ⟨g4,⟨N,C,rfl,hq⟩|⟨G,i4,j4,gg4,l,v,rfl|rfl,m4,q1,q2,q3,q4,q5⟩⟩
      ·exact#v[g4,.inl #v[N,C,rfl,hq]]
      ·exact#v[g4,.inr #v[G,i4,j4,gg4,l,v,rfl,m4,q1,q2,q3,q4,⋯]]
      ·exact#v[g4,G,i4,j4,gg4,l,v,rfl,m4,q1,q2,q3,q4,⋯]
     extract_lets z1 z2 z3 z4 z5 z6 z7 z8 z9 z10 z11 z12 jp z13
     have Os:∀u g,wpS (model prog w) A E s (jp u g) (λr f=>SG st f/\((∃N C,r=.done (Aa N,C)/\Q N f)\/∃G i4 j4 g4 l v,(r=.done (Ae,i4,j4,G,g4,l,v)\/r=.yield (Ae,i4,j4,G,g4,l,v))/\Mh a.toList b.toList G.toList i4 j4/\1<=i4/\2<=j4/\i4<=a.size/\j4<=b.size/\x3+1+i4+j4<=i2+j2)) J:=by
      intro u g;obtain⟨kb,tb,qb,eb,_⟩:=uB Xw (show j3-1<b.size by omega);refine Ak (Rz λf g4=>?_);refine Ak (ou eb ?_);have Mc:kindOf f=Bp:=g4.kind.trans (g3.kind.trans hk);have B:=g3.trans g4;refine Ak (tV Mc S (by show 0+i3<=_;omega) (by show i3-1<i3;omega) (Q7 sA (by show 0+i3<=_;omega)) λk Ip X Y=>?_);have Ip:k<=i3:=Ip;have X:∀n,n<k->K a (0+n)<=kb:=X;have Y:∀n,k<=n->n<i3->¬K a (0+n)<=kb:=Y
      have R:∀y∈a.toList.take k,ky y<=kb:=λy hy=>by obtain⟨n,hn,e⟩:=Zl2 hy;have:=X n hn;rwa[HQ,rh (by rw[<-mi];exact e)]at this
      have upk:∀x∈(a.toList.take i3).drop k,∀y∈b.toList.take j3,ky y<=ky x:=λx hx y hy=>by obtain⟨n,Z,hn2,e⟩:=ZtD hx;have:=Y n Z hn2;rw[HQ,rh (by rw[<-mi];exact e)]at this;have:=kB ⋯ eb y hy;omega
      dsimp -zeta only;extract_lets y1 y2 jp2 y3
      have T:∀u i o,i<=i3->1<=i->Mh a.toList b.toList o.toList i j3->(∀y∈a.toList.take i,ky y<=kb)->wpS (model prog w) A E s (jp2 u i o) (λr f=>SG st f/\((∃N C,r=.done (Aa N,C)/\Q N f)\/∃G i4 j4 g4 l v,(r=.done (Ae,i4,j4,G,g4,l,v)\/r=.yield (Ae,i4,j4,G,g4,l,v))/\Mh a.toList b.toList G.toList i4 j4/\1<=i4/\2<=j4/\i4<=a.size/\j4<=b.size/\x3+1+i4+j4<=i2+j2)) f:=by
       intro u i o hii hi1 m4 hlo;refine Ak (ou eb ?_);have m5:=oB ⋯ m4 eb hlo;by_cases O:j3-1=1
       ·rw[if_pos (by show(j3-1==1)=Ai;simpa using O)];exact Am #v[B,.inl #v[_,_,rfl,M (j:=j3-1) B m5 O]]
       rw[if_neg (by show¬(j3-1==1)=Ai;simpa using O)];obtain⟨ka,ta,qa,ea,_⟩:=uB S (show i-1<a.size by omega);refine Ak (ou ea ?_);refine Ak (tV Mc Xw (by show 0+(j3-1)<=_;omega) (by show j3-1-1<j3-1;omega) (Q7 sB (by show 0+(j3-1)<=_;omega)) λD HI El D9=>?_);have HI:D<=j3-1:=HI;have El:∀n,n<D->K b (0+n)<ka:=El;have D9:∀n,D<=n->n<j3-1->¬K b (0+n)<ka:=D9
       have P:∀y∈b.toList.take D,ky y<=ka:=λy hy=>by obtain⟨n,hn,e⟩:=Zl2 hy;have:=El n hn;rw[HQ,rh (by rw[<-mi];exact e)]at this;omega
       have KH:∀x∈(b.toList.take (j3-1)).drop D,∀y∈a.toList.take i,ky y<=ky x:=λx hx y hy=>by obtain⟨n,Z,hn2,e⟩:=ZtD hx;have:=D9 n Z hn2;rw[HQ,rh (by rw[<-mi];exact e)]at this;have:=kA hi1 ea y hy;omega
       dsimp -zeta only;extract_lets w1 w2 w3 jp3 w5 w6
       have U:∀u j o,j<=j3-1->2<=j->Mh a.toList b.toList o.toList i j->(∀y∈b.toList.take j,ky y<=ka)->wpS (model prog w) A E s (jp3 u j o) (λr f=>SG st f/\((∃N C,r=.done (Aa N,C)/\Q N f)\/∃G i4 j4 g4 l v,(r=.done (Ae,i4,j4,G,g4,l,v)\/r=.yield (Ae,i4,j4,G,g4,l,v))/\Mh a.toList b.toList G.toList i4 j4/\1<=i4/\2<=j4/\i4<=a.size/\j4<=b.size/\x3+1+i4+j4<=i2+j2)) f:=by
        intro u j o hjj hj2 m6 hlo2;refine Ak (ou ea ?_);have m7:=oA hi1 m6 ea hlo2;by_cases c4:i-1=0
        ·rw[if_pos (by show(i-1==0)=Ai;simpa using c4)];exact Am #v[B,.inl #v[_,_,rfl,H (i:=i-1) B m7 (.inl c4)]]
        rw[if_neg (by show¬(i-1==0)=Ai;simpa using c4)];split
        ·exact Am #v[B,.inr #v[_,i-1,j,_,_,_,.inl rfl,m7,⋯,⋯,⋯,⋯,⋯]]
        ·exact Am #v[B,.inr #v[_,i-1,j,_,_,_,.inr rfl,m7,⋯,⋯,⋯,⋯,⋯]]
       by_cases c5:j3-1-D>0
       ·rw[if_pos c5]
        have m8:Mh a.toList b.toList (o.push (.int kb tb,qb)++(b.extract D (j3-1)).reverse).toList i D:=by rw[uM,lb];exact m5.EK sB ⋯ KH
        by_cases c6:D=1
        ·rw[if_pos (by show(D==1)=Ai;simpa using c6)];exact Am #v[B,.inl #v[_,_,rfl,M (j:=D) B m8 c6]]
        rw[if_neg (by show¬(D==1)=Ai;simpa using c6)];by_cases c7:D=0
        ·rw[if_pos (by show(D==0)=Ai;simpa using c7)];exact Am #v[B,.inl #v[_,_,rfl,H (j:=D) B m8 (.inr c7)]]
        rw[if_neg (by show¬(D==0)=Ai;simpa using c7)];exact U () D _ ⋯ ⋯ m8 P
       ·rw[if_neg c5];have k0:D=j3-1:=⋯;rw[k0]at P;exact U () (j3-1) _ (bV _) ⋯ m5 P
      by_cases c7:i3-k>0
      ·rw[if_pos c7]
       have m9:Mh a.toList b.toList (o3++(a.extract k i3).reverse).toList k j3:=by rw[uM,lb];exact m3.rZ sA ⋯ upk
       by_cases c8:k=0
       ·rw[if_pos (by show(k==0)=Ai;simpa using c8)];exact Am #v[B,.inl #v[_,_,rfl,H (i:=k) B m9 (.inl c8)]]
       rw[if_neg (by show¬(k==0)=Ai;simpa using c8)];exact T () k _ ⋯ ⋯ m9 R
      ·rw[if_neg c7];have k0:k=i3:=⋯;rw[k0]at R;exact T () i3 _ (bV _) r1 m3 R
     split
     ·exact Os () _
     ·exact Os () _
end
def wr(c:Nat)(l:List (Ar×Nat))(xs:Array Ar):Array Ar:=l.foldl (λa q=>a.setIfInBounds (c+q.2) q.1) xs
theorem Tj(c:Nat):∀(l:List Ar) (n:Nat) (xs:Array Ar),c+n+l.length<=xs.size->∀j,(wr c (l.zipIdx n) xs)[j]? = if c+n<=j/\j<c+n+l.length then l[j-(c+n)]? else xs[j]?
 |[],n,xs,_,j=>by rw[if_neg (by simp only[rA];omega)];rfl
 |x::l,n,xs,h,j=>by
  rw[lG]at h;have:=Tj c l (n+1) (xs.setIfInBounds (c+n) x) (by rw[Rg];omega) j;show(wr c ((x,n):: l.zipIdx (n+1)) xs)[j]? = _;show(wr c (l.zipIdx (n+1)) (xs.setIfInBounds (c+n) x))[j]? = _;rw[this,lG];by_cases h1:c+(n+1)<=j/\j<c+(n+1)+l.length
  ·rw[if_pos h1,if_pos ⋯,show j-(c+n)=j-(c+(n+1))+1 by omega,Hz]
  ·rw[if_neg h1];by_cases h2:j=c+n
   ·subst h2;rw[if_pos ⋯,vD,Ja,Array.getElem?_setIfInBounds_self_of_lt ⋯]
   ·rw[if_neg ⋯,Array.getElem?_setIfInBounds_ne ⋯]
theorem Zuj(h:c+l.length<=xs.size):(wr c l.zipIdx xs).toList=xs.toList.take c++l++xs.toList.drop (c+l.length):=by
 refine List.ext_getElem? λj=>?_;have e:=Tj c l 0 xs ⋯ j;rw[QA]at e;rw[mi,e];have f:xs.toList.length=xs.size:=ph;have d:(xs.toList.take c).length=c:=by rw[uw];omega
 rcases lD j c with z|z
 ·rw[if_neg ⋯,oJ,mY ⋯,Q1 z,mi]
 ·rcases lD j (c+l.length) with y|y
  ·rw[if_pos ⋯,oJ,qP ⋯,d,mY ⋯]
  ·rw[if_neg ⋯,qP (by rw[eG];omega),eG,d,Jf,mi];congr 1;omega
theorem Zui{c:Nat}{l:List Ar}{xs:Array Ar}(h:c+l.length<=xs.size)(hp:l.Perm ((xs.toList.drop c).take l.length)):(wr c l.zipIdx xs).Perm xs:=by
 refine ZyW.mpr ?_;rw[Zuj h]
 have e:xs.toList=xs.toList.take c++(xs.toList.drop c).take l.length++xs.toList.drop (c+l.length):=by conv=>lhs;rw[<-wK (c+l.length) xs.toList,VG]
 refine rS.trans ?_ (rS.of_eq e.symm);exact rS.append_right _ (rS.append_left _ hp)
theorem Ztu{lo n:Nat}(h:So xs lo (lo+n))(hs:lo+n<=xs.size):fR ((xs.toList.drop lo).take n):=by
 refine uZ.mpr λi j hi hj c=>?_;rw[uw]at hi hj
 have g:∀m (hm:m<((xs.toList.drop lo).take n).length),ky ((xs.toList.drop lo).take n)[m]=K xs (lo+m):=λm hm=>by rw[uw]at hm;refine(rh ?_).symm;rw[<-mi,<-Jf,<-Q1 (show m<n by omega)];exact eF _
 rw[g i,g j];exact h _ _ ⋯ ⋯ ⋯
theorem Zok{xs:Array Ar}{lo n:Nat}:(xs.extract lo (lo+n)).toList=(xs.toList.drop lo).take n:=by rw[IG,Ii,show lo+n-lo=n by omega]
theorem Zoj{xs:Array Ar}{lo n:Nat}(h:lo+n<=xs.size):(xs.extract lo (lo+n)).size=n:=by rw[Array.size_extract];omega
theorem Q4{xs:Array Ar}{lo hi:Nat}(h0:IntKeys xs):IntKeys (xs.extract lo hi):=λq hq=>h0 q (by rw[IG,Ii]at hq;exact R6 (CH hq))
theorem G1(i:Nat):mergeAt' i=(do
 let u <-get
 let (Aa (sa,na,pw),Aa (sb,nb,_)):=((Aw u)[i]?,(Aw u)[i+1]?)|unsupported "internal:list.sort.pending"
 set (Cr u (((Aw u).setIfInBounds i (sa,na+nb,pw)).eraseIdxIfInBounds (i+1)))
 let Aa k <-zL Ah (<-elem' (Aq u) sb) (Aq u) sa na 0 |return Ah
 let (sa,na):=(sa+k,na-k)
 if na==0 then return Ai
 let Aa nb <-zL Ai (<-elem' (Aq u) (sa+na-1)) (Aq u) sb nb (nb-1)|return Ah
 if nb==0 then return Ai
 let x:=(Aq u).extract sa sb
 let y:=(Aq u).extract sb (sb+nb)
 let m <-if na<=nb then Xb x y else UF x y
 modify λu=>setArr u (wr sa m.toList.zipIdx (Aq u))
 return (Bq (<-get)).isNone):=rfl
section
variable {prog:Al}{w:Au}{A:At}{E:Ac->Ag->Prop}{s:Ag}{st:AB}{a₀:Array Ar}{p:Array (Nat×Nat×Nat)}
theorem Tv{Q:PUnit->AB->Prop}(h:Q #v[] c):wpS (model prog w) A E s (set c:StateT AB Sem PUnit) Q st:=by unfold wpS;rw[StateT.run_set];exact Aj #v[rfl,h]
theorem YN{Q:Bool->AB->Prop}(h0:IntKeys a₀)(Y:SX a₀ p st)(hp1:p[i]? = Aa (c,d,pw))(hp2:p[i+1]? = Aa (c+d,G,pw2))(hna:0<d)(hnb:0<G)(hsz:c+d+G<=a₀.size)
  (Z:So (Aq st) c (c+d)) (X:So (Aq st) (c+d) (c+d+G))
  (h:∀l,SX a₀ ((p.setIfInBounds i (c,d+G,pw)).eraseIdxIfInBounds (i+1)) l->(∀j,j<c\/c+d+G<=j->(Aq l)[j]? = (Aq st)[j]?)->So (Aq l) c (c+d+G)->Q Ai l):
  wpS (model prog w) A E s (mergeAt' i) Q st:=by
 rw[G1];refine Ak (BL ?_);rw[Y.pend,hp1,hp2];dsimp only;have M:=Y.ints h0;have hS:=Y.size;have hPm:=Y.perm;have hKd:=Y.kind;have hFl:=Y.failed;refine Ak (Tv ?_);have f:SX a₀ ((p.setIfInBounds i (c,d+G,pw)).eraseIdxIfInBounds (i+1)) (Cr st ((p.setIfInBounds i (c,d+G,pw)).eraseIdxIfInBounds (i+1))):=#v[hPm,hKd,hFl,rfl];have H:Aq (Cr st ((p.setIfInBounds i (c,d+G,pw)).eraseIdxIfInBounds (i+1)))=Aq st:=rfl;generalize Cr st ((p.setIfInBounds i (c,d+G,pw)).eraseIdxIfInBounds (i+1))=st1 at f H;generalize (p.setIfInBounds i (c,d+G,pw)).eraseIdxIfInBounds (i+1)=p1 at f h;generalize Aq st=xs at *;obtain⟨kb,tb,qb,eb,hkb⟩:=uB M (show c+d<xs.size by omega);refine Ak (ou eb ?_);refine Ak (tV f.kind M ⋯ hna Z λk Ip J R=>?_);dsimp only;have J:∀n,n<k->K xs (c+n)<=kb:=J;have R:∀n,k<=n->n<d->¬K xs (c+n)<=kb:=R;have P:∀j,c+d<=j->j<c+d+G->kb<=K xs j:=λj g1 g2=>by rw[<-hkb];exact X _ _ (bV _) g1 g2
 by_cases c1:d-k=0
 ·rw[if_pos (by simpa using c1)];refine Am (h st1 f (λj _=>by rw[H]) λi' B hl I hj=>?_);rw[H];rcases lD B (c+d) with z|z
  ·exact Z _ _ hl I z
  ·rcases lD i' (c+d) with y|y
   ·have:=J (i'-c) ⋯;rw[show c+(i'-c)=i' by omega]at this;exact Ph this (P B z hj)
   ·exact X _ _ y I hj
 rw[if_neg (by simpa using c1)];obtain⟨kl,tl,ql,el,IS⟩:=uB M (show c+k+(d-k)-1<xs.size by omega);have O:c+k+(d-k)-1=c+d-1:=⋯;rw[O]at IS;refine Ak (ou el ?_);refine Ak (tV f.kind M ⋯ (show G-1<G by omega) X λD HI T L=>?_);dsimp only;have T:∀n,n<D->K xs (c+d+n)<kl:=T;have L:∀n,D<=n->n<G->¬K xs (c+d+n)<kl:=L;have hlA:∀j,c<=j->j<c+d->K xs j<=kl:=λj g1 g2=>by rw[<-IS];exact Z _ _ g1 ⋯ ⋯
 by_cases c2:D=0
 ·rw[if_pos (by simpa using c2)];refine Am (h st1 f (λj _=>by rw[H]) λi' B hl I hj=>?_);rw[H];rcases lD B (c+d) with z|z
  ·exact Z _ _ hl I z
  ·rcases lD i' (c+d) with y|y
   ·have:=L (B-(c+d)) ⋯ ⋯;rw[show c+d+(B-(c+d))=B by omega]at this;have:=hlA i' hl y;omega
   ·exact X _ _ y I hj
 rw[if_neg (by simpa using c2)];have eX:xs.extract (c+k) (c+d)=xs.extract (c+k) (c+k+(d-k)):=by rw[show c+k+(d-k)=c+d by omega]
 rw[eX];have lX:(xs.extract (c+k) (c+k+(d-k))).toList=(xs.toList.drop (c+k)).take (d-k):=Zok;have lY:(xs.extract (c+d) (c+d+D)).toList=(xs.toList.drop (c+d)).take D:=Zok;have zX:(xs.extract (c+k) (c+k+(d-k))).size=d-k:=Zoj ⋯;have zY:(xs.extract (c+d) (c+d+D)).size=D:=Zoj ⋯;have sX:fR (xs.extract (c+k) (c+k+(d-k))).toList:=by rw[lX];exact Ztu (λi' B a1 a2 a3=>Z _ _ ⋯ a2 ⋯) ⋯
 have sY:fR (xs.extract (c+d) (c+d+D)).toList:=by rw[lY];exact Ztu (λi' B a1 a2 a3=>X _ _ a1 a2 ⋯) ⋯
 have inX:∀q∈(xs.extract (c+k) (c+k+(d-k))).toList,∃j,c+k<=j/\j<c+d/\K xs j=ky q:=λq hq=>by rw[lX]at hq;obtain⟨m,hm,e⟩:=Qf hq;exact#v[c+k+m,⋯,⋯,rh (by rw[<-mi];exact e)]
 have U:∀q∈(xs.extract (c+d) (c+d+D)).toList,∃j,c+d<=j/\j<c+d+D/\K xs j=ky q:=λq hq=>by rw[lY]at hq;obtain⟨m,hm,e⟩:=Qf hq;exact#v[c+d+m,⋯,⋯,rh (by rw[<-mi];exact e)]
 have N:∀q∈(xs.extract (c+k) (c+k+(d-k))).toList,kb<ky q:=λq hq=>by obtain⟨j,j1,j2,e⟩:=inX q hq;have:=R (j-c) ⋯ ⋯;rw[show c+(j-c)=j by omega]at this;omega
 have hf:∀x∈(xs.extract (c+d) (c+d+D)).toList.take 1,∀y∈(xs.extract (c+k) (c+k+(d-k))).toList,ky x<=ky y:=λx hx y hy=>by have h1:=N y hy;rw[lY,Wp,Jn ⋯]at hx;obtain⟨m,hm,e⟩:=Qf hx;have:K xs (c+d)=ky x:=rh (by rw[<-mi,show c+d=c+d+m by omega];exact e);omega
 have hl:∀x∈(xs.extract (c+d) (c+d+D)).toList,∀y∈(xs.extract (c+k) (c+k+(d-k))).toList.drop ((xs.extract (c+k) (c+k+(d-k))).size-1),ky x<=ky y:=λx hx y hy=>by
  obtain⟨j,j1,j2,e⟩:=U x hx;have h1:=T (j-(c+d)) ⋯;rw[show c+d+(j-(c+d))=j by omega]at h1;rw[zX,lX]at hy;obtain⟨m,hm,e2⟩:=Sg hy;rw[Nf]at e2;split at e2
  ·rw[Jf]at e2;have:K xs (c+d-1)=ky y:=rh (by rw[<-mi,show c+d-1=c+k+m by omega];exact e2);omega
  ·cases e2
 have fin:∀(o:Array Ar) (l:AB),SG st1 l->fR o.toList->o.toList.Perm ((xs.extract (c+k) (c+k+(d-k))).toList++(xs.extract (c+d) (c+d+D)).toList) ->
   wpS (model prog w) A E s (do modify λu=>setArr u (wr (c+k) o.toList.zipIdx (Aq u));let v <-get;pure (Bq v).isNone) Q l:=λo l g so po=>by
  have hol:o.toList.length=(d-k)+D:=by rw[po.length_eq,eG,ph,ph,zX,zY]
  have ear:Aq l=xs:=g.arr.trans H;refine Ak (B1 (Ak (BL (Am ?_))));have efl:Bq (setArr l (wr (c+k) o.toList.zipIdx (Aq l)))=Ae:=g.fail.trans f.failed;rw[efl,ear];have hle:c+k+o.toList.length<=xs.size:=⋯
  have S:(wr (c+k) o.toList.zipIdx xs).Perm xs:=Zui hle (by refine po.trans (rS.of_eq ?_);rw[hol,lX,lY,VG,Wn,show c+k+(d-k)=c+d by omega])
  have get:=Tj (c+k) o.toList 0 xs ⋯;simp only[QA]at get
  have V:∀j,c+k<=j->j<c+d+D->∃q,o.toList[j-(c+k)]? = Aa q/\K (wr (c+k) o.toList.zipIdx xs) j=ky q:=λj g1 g2=>by have hj:j-(c+k)<o.toList.length:=⋯;refine#v[_,eF hj,rh ?_];rw[get,if_pos ⋯];exact eF hj
  have C:∀j,j<c+k\/c+d+D<=j->K (wr (c+k) o.toList.zipIdx xs) j=K xs j:=λj g1=>K_congr (by rw[get,if_neg ⋯])
  have lo1:∀q∈o.toList,kb<=ky q:=λq hq=>by
   rcases fG.mp (po.mem_iff.mp hq) with z|z
   ·have:=N q z;omega
   ·obtain⟨j,j1,j2,e⟩:=U q z;have:=P j j1 ⋯;omega
  have lo2:∀q∈o.toList,∀t,c<=t->t<c+k->K xs t<=ky q:=λq hq t t1 t2=>by have h1:=J (t-c) ⋯;rw[show c+(t-c)=t by omega]at h1;have:=lo1 q hq;omega
  have up1:∀q∈o.toList,∀t,c+d+D<=t->t<c+d+G->ky q<=K xs t:=λq hq t t1 t2=>by
   have h1:=L (t-(c+d)) ⋯ ⋯;rw[show c+d+(t-(c+d))=t by omega]at h1;rcases fG.mp (po.mem_iff.mp hq) with z|z
   ·obtain⟨j,j1,j2,e⟩:=inX q z;have:=hlA j ⋯ j2;omega
   ·obtain⟨j,j1,j2,e⟩:=U q z;rw[<-e];exact X _ _ j1 ⋯ t2
  refine h _ #v[S.trans hPm,g.kind.trans f.kind,efl,g.pend.trans f.pend] (λj hj=>?_) λi' B l1 l2 l3=>?_
  ·show(wr (c+k) o.toList.zipIdx xs)[j]? = xs[j]?;rw[get,if_neg ⋯]
  ·show K (wr (c+k) o.toList.zipIdx xs) i'<=K (wr (c+k) o.toList.zipIdx xs) B;rcases lD i' (c+k) with y|y
   ·rw[C i' (.inl y)];rcases lD B (c+k) with z|z
    ·rw[C B (.inl z)];exact Z _ _ l1 l2 ⋯
    ·rcases lD B (c+d+D) with v|v
     ·obtain⟨q,hq,e⟩:=V B z v;rw[e];exact lo2 q (jP hq) i' l1 y
     ·rw[C B (.inr v)];have h1:=J (i'-c) ⋯;rw[show c+(i'-c)=i' by omega]at h1;exact Ph h1 (P B ⋯ l3)
   ·rcases lD i' (c+d+D) with u|u
    ·obtain⟨q,hq,e⟩:=V i' y u;rw[e];rcases lD B (c+d+D) with v|v
     ·obtain⟨r,hr,e2⟩:=V B ⋯ v;rw[e2];rcases Nat.eq_or_lt_of_le l2 with z|z
      ·subst z;rw[hq]at hr;cases hr;exact sN _
      ·obtain⟨a1,a2⟩:=dS.mp hq;obtain⟨b1,b2⟩:=dS.mp hr;rw[<-a2,<-b2];exact uZ.mp so _ _ a1 b1 ⋯
     ·rw[C B (.inr v)];exact up1 q (jP hq) B v l3
    ·rw[C i' (.inr u),C B (.inr ⋯)];exact X _ _ ⋯ l2 l3
 split
 ·exact Ak (loX f.kind (Q4 M) (Q4 M) sX sY ⋯ ⋯ hf hl fin)
 ·exact Ak (hiX f.kind (Q4 M) (Q4 M) sX sY ⋯ ⋯ hf hl fin)
end
end SR
namespace SR
def pL(xs:Array Ar):Nat->Nat->List (Nat×Nat×Nat)->Prop
 |b,e,[]=>b=e
 |b,e,(s,n,_):: r=>s=b/\0<n/\So xs s (s+n)/\pL xs (b+n) e r
theorem pL.le:∀{l:List (Nat×Nat×Nat)}{b e:Nat},pL xs b e l->b+l.length<=e
 |[],b,e,h=>by rw[show b=e from h];exact bV _
 |(s,n,p):: r,b,e,h=>by obtain⟨_,hn,_,h⟩:=h;have:=h.le;rw[lG];omega
theorem pL.same:∀{l:List (Nat×Nat×Nat)}{b e:Nat},(∀j,b<=j->j<e->K ys j=K xs j)->pL xs b e l->pL ys b e l
 |[],b,e,_,h=>h
 |(s,n,p):: r,b,e,hk,h=>by obtain⟨rfl,hn,hs,h⟩:=h;have c:=h.le;refine#v[rfl,hn,λi j h1 h2 h3=>?_,h.same λj h1 h2=>hk j ⋯ h2];rw[hk i ⋯ ⋯,hk j ⋯ ⋯];exact hs i j h1 h2 h3
theorem pL.snoc:∀{l:List (Nat×Nat×Nat)}{b e:Nat},pL xs b e l->0<n->So xs e (e+n)->pL xs b (e+n) (l++[(e,n,p)])
 |[],b,e,h,hn,hs=>by have h:b=e:=h;subst h;exact#v[rfl,hn,hs,rfl]
 |(s,m,q):: r,b,e,h,hn,hs=>by obtain⟨h1,h2,h3,h4⟩:=h;exact#v[h1,h2,h3,h4.snoc hn hs]
theorem pL.at:∀{l:List (Nat×Nat×Nat)}{b e:Nat} (i:Nat),pL xs b e l->i+1<l.length->∃c d f pw g,l[i]? = Aa (c,d,pw)/\l[i+1]? = Aa (c+d,f,g)/\0<d/\0<f/\b<=c/\c+d+f<=e/\So xs c (c+d)/\So xs (c+d) (c+d+f) /\
  ∀ys:Array Ar,(∀j,j<c\/c+d+f<=j->K ys j=K xs j)->So ys c (c+d+f)->pL ys b e ((l.set i (c,d+f,pw)).eraseIdx (i+1))
 |[],_,_,i,_,h=>by simp at h
 |[_],_,_,i,_,h=>by simp at h
 |(s,n,p):: (s2,n2,p2):: r,b,e,0,h,_=>by obtain⟨rfl,h1,h2,rfl,h3,h4,h5⟩:=h;have m:=h5.le;refine#v[s,n,n2,p,p2,rfl,rfl,h1,h3,bV _,⋯,h2,h4,λys hk hs=>?_];refine#v[rfl,⋯,by rw[<-Nat.add_assoc];exact hs,?_];rw[<-Nat.add_assoc];exact h5.same λj g1 g2=>hk j (.inr g1)
 |(s,n,p):: x::r,b,e,i+1,h,hi=>by obtain⟨rfl,h1,h2,h3⟩:=h;obtain⟨c,d,f,pw,g,e1,e2,g1,g2,g3,g4,g5,g6,g7⟩:=h3.at i (by simpa using hi);refine#v[c,d,f,pw,g,e1,e2,g1,g2,⋯,g4,g5,g6,λys hk hs=>?_];refine#v[rfl,h1,λi' k l1 l2 q=>?_,g7 ys hk hs];rw[hk i' (.inl ⋯),hk k (.inl ⋯)];exact h2 i' k l1 l2 q
theorem pL.pow(hf:∀x,f x=(x.1,x.2.1,pw)):∀{l:List (Nat×Nat×Nat)}{b e:Nat} (k:Nat),pL xs b e l->pL xs b e (l.modify k f)
 |[],b,e,k,h=>by cases k <;> exact h
 |(s,n,p):: r,b,e,0,h=>by show pL xs b e (f (s,n,p):: r);rw[hf];exact h
 |(s,n,p):: r,b,e,k+1,h=>#v[h.1,h.2,h.3,h.4.pow hf k]
section
variable {prog:Al}{w:Au}{A:At}{E:Ac->Ag->Prop}{s:Ag}{st:AB}{a₀:Array Ar}
structure SP (a₀:Array Ar) (lo:Nat) (st:AB):Prop where
 perm:(Aq st).Perm a₀
 kind:kindOf st=Bp
 failed:Bq st=Ae
 chain:pL (Aq st) 0 lo (Aw st).toList
theorem SP.sx{lo:Nat}(h:SP a₀ lo st):SX a₀ (Aw st) st:=#v[h.perm,h.kind,h.failed,rfl]
theorem yw{lo i:Nat}{Q:Bool->AB->Prop}(h0:IntKeys a₀)(k:SP a₀ lo st)(l:lo<=a₀.size)(hi:i+1<(Aw st).size)
  (h:∀c,SP a₀ lo c->(Aw c).size+1=(Aw st).size->(∀j,lo<=j->(Aq c)[j]? = (Aq st)[j]?)->Q Ai c):wpS (model prog w) A E s (mergeAt' i) Q st:=by
 obtain⟨q,n,p,pw,m,e1,e2,g1,g2,g3,g4,g5,g6,g7⟩:=k.chain.at i (by rw[ph];exact hi);rw[mi]at e1 e2;refine YN h0 k.sx e1 e2 g1 g2 ⋯ g5 g6 λc d f g=>?_;refine h c #v[d.perm,d.kind,d.failed,?_] ?_ λj hj=>f j (.inr ⋯)
 ·have:=g7 (Aq c) (λj hj=>K_congr (f j hj)) g;rw[d.pend,ZyX,dif_pos (by rw[Rg];exact hi),Array.toList_eraseIdx,Array.toList_setIfInBounds];exact this
 ·rw[d.pend,ZyX,dif_pos (by rw[Rg];exact hi),Array.size_eraseIdx,Rg];omega
theorem Vo{Q:Unit->AB->Prop}(h0:IntKeys a₀)(hB:SP a₀ 0 st)(hp:Aw st=#[])(h2:0<a₀.size)
  (h:∀g,(Aq g).Perm a₀->Bq g=Ae->SortedTo (Aq g) a₀.size->Q () g):wpS (model prog w) A E s sortRuns' Q st:=by
 rw[sortRuns'_eq];refine Ak (BL ?_);have hsz:(Aq st).size=a₀.size:=hB.perm.size_eq;extract_lets sz mr lo0
 refine Ak (AL (AC (I:=λx c g=>∃lo,c=(Ae,lo)/\SP a₀ lo g/\lo<=a₀.size/\x<=lo)
  (Q:=λc g=>c=(Ae,a₀.size)/\SP a₀ a₀.size g) ?o1 ?o2 #v[0,rfl,hB,⋯,bV _]) ?o3)
 case o2=>rintro c g ⟨lo,rfl,C,h3,h4⟩;have h4:max 0 (Aq st).size<=lo:=h4;have:lo=a₀.size:=⋯;subst this;exact#v[rfl,C]
 case o1=>
  rintro x c g _ hx ⟨lo,rfl,C,h3,h4⟩;extract_lets lo1 jp fo nf;by_cases c1:lo≥a₀.size
  ·rw[if_pos (by show lo≥(Aq st).size;omega)];have:lo=a₀.size:=⋯;subst this;exact Am #v[rfl,C]
  rw[if_neg (by show¬lo≥(Aq st).size;omega)];refine Ak (YY h0 (by show lo+((Aq st).size-lo)<=_;omega) (by show 1<=(Aq st).size-lo;omega) C.sx λm p z T Z O y=>?_);have O:m<=(Aq st).size-lo:=O;have G:SP a₀ lo p:=#v[z.perm,z.kind,z.failed,by rw[z.pend];exact C.chain.same λj g1 g2=>T.key g2];have y:So (Aq p) lo (lo+m):=y;refine AL (Q:=λr q=>∃f,r=.yield (Ae,f)/\SP a₀ f q/\lo<f/\f<=a₀.size) ?_ ?_
  rotate_left
  ·rintro _ q ⟨f,rfl,g1,g2,g3⟩;exact#v[f,rfl,g1,g3,⋯]
  dsimp -zeta only;extract_lets n0
  have M:∀u n p,SP a₀ lo p->0<n->lo+n<=a₀.size->So (Aq p) lo (lo+n)->wpS (model prog w) A E s (jp u n) (λr q=>∃f,r=.yield (Ae,f)/\SP a₀ f q/\lo<f/\f<=a₀.size) p:=by
   intro u n p G hn Y P;refine Ak (BL ?_);extract_lets lo2 jp2
   have D:∀u d,SP a₀ lo d->So (Aq d) lo (lo+n)->wpS (model prog w) A E s (jp2 u) (λr q=>∃f,r=.yield (Ae,f)/\SP a₀ f q/\lo<f/\f<=a₀.size) d:=by intro u d k R;refine Ak (B1 (Am #v[lo+n,rfl,#v[k.perm,k.kind,k.failed,?_],⋯,Y]));show pL (Aq d) 0 (lo+n) ((Aw d).push (lo,n,0)).toList;rw[Dh];exact k.chain.snoc hn R
   cases hbk:(Aw p).back? with
   |none=>exact D () p G P
   |some v=>
    obtain⟨s1,n1,p1⟩:=v;dsimp -zeta only;extract_lets pw
    refine Ak (AL (AC (I:=λx c d=>c=(Ae,())/\SP a₀ lo d/\So (Aq d) lo (lo+n))
     (Q:=λc d=>c=(Ae,())/\SP a₀ lo d/\So (Aq d) lo (lo+n)) ?l1 (λ_ _ hh=>hh) #v[rfl,G,P]) ?l2)
    case l1=>
     rintro x c d _ _ ⟨rfl,k,t⟩;refine Ak (BL ?_);extract_lets pp;by_cases H:(Aw d).size>1
     ·rw[if_pos H];have e:(Aw d)[(Aw d).size-2]? = Aa (Aw d)[(Aw d).size-2]:=Nt ⋯;show wpS (model prog w) A E s (match (Aw d)[(Aw d).size-2]? with|some (_,_,older)=>_|x=>_) _ _;rw[e];dsimp -zeta only;split
      ·exact Am #v[rfl,k,t]
      ·refine Ak (yw h0 k h3 (by show(Aw d).size-2+1<_;omega) λq S _ L=>?_);rw[if_neg (by simp)];refine Am #v[rfl,S,λi' j' l1 l2 l3=>?_];rw[K_congr (L i' l1),K_congr (L j' ⋯)];exact t i' j' l1 l2 l3
     ·rw[if_neg H];exact Am #v[rfl,k,t]
    case l2=>rintro c d ⟨rfl,k,t⟩;extract_lets;refine Ak (B1 ?_);refine D () _ #v[k.perm,k.kind,k.failed,?_] t;show pL (Aq d) 0 lo ((Aw d).modify ((Aw d).size-1) _).toList;rw[Array.toList_modify];exact k.chain.pow (pw:=pw) (λ_=>rfl) _
  by_cases c3:m<mr
  ·rw[if_pos c3];refine Ak (BS (Bm #v[rfl,?_]));have hfo:fo=min ((Aq st).size-lo) mr:=rfl;refine Ak (SJ (lo:=lo) (ok:=m) h0 ⋯ ⋯ G.sx y λd B J K=>?_);rw[if_neg (by simp)];exact M () fo d #v[B.perm,B.kind,B.failed,by rw[B.pend];exact G.chain.same λj g1 g2=>J.key g2] ⋯ ⋯ K
  ·rw[if_neg c3];exact M () m p G Z ⋯ y
 case o3=>
  rintro c g ⟨rfl,C⟩;dsimp -zeta only;extract_lets;have N:=C.chain.le;rw[ph]at N
  refine Ak (AL (AC (I:=λx c d=>c=(Ae,())/\SP a₀ a₀.size d/\x+(Aw d).size<=a₀.size+1)
   (Q:=λc d=>c=(Ae,())/\SP a₀ a₀.size d/\(Aw d).size<=1) ?m1 ?m2 #v[rfl,C,⋯]) ?m3)
  case m2=>rintro c d ⟨rfl,k,hx⟩;have hx:max 0 (Aq st).size+(Aw d).size<=a₀.size+1:=hx;exact#v[rfl,k,⋯]
  case m1=>
   rintro x c d _ _ ⟨rfl,k,hx⟩;extract_lets;refine Ak (BL ?_);extract_lets pp i1 bf i2;by_cases H:(Aw d).size<=1
   ·rw[if_pos H];exact Am #v[rfl,k,H]
   rw[if_neg H]
   have V:i2<=(Aw d).size-2:=by
    show(if _ then(Aw d).size-2-1 else(Aw d).size-2)<=(Aw d).size-2;split
    ·exact Nat.sub_le _ _
    ·exact bV _
   have U:i2+1<(Aw d).size:=Nat.lt_of_le_of_lt (Nat.succ_le_succ V) ⋯;refine Ak (yw h0 k (bV _) U λq S hz _=>?_);rw[if_neg (by simp)];exact Am #v[rfl,S,⋯]
  case m3=>
   rintro c d ⟨rfl,k,hx⟩;refine Am (h d k.perm k.failed ?_);have hc:=k.chain;rw[<-ph]at hx;generalize (Aw d).toList=l at hc hx
   match l,hc,hx with
   |[],hc,_=>have hc:0=a₀.size:=hc;omega
   |[(s1,n1,p1)],hc,_=>obtain⟨rfl,g1,g2,g3⟩:=hc;have g3:0+n1=a₀.size:=g3;intro i j X hj;exact g2 i j (rE _) X ⋯
   |_::_::_,_,hx=>simp at hx
end
theorem Zsh{vs:List Ac}(ho:s.heap.get? a=Aa (Ba "list" vs.toArray n))(m:BG vs ns)(hz:vs.length<=1000000)
  (h:∀(out:Array Ac) (d:List Int),BG out.toList d->d.Perm ns->d.Pairwise (· <= ·)->P (.done (.ret .none)) { s with heap:=Cq s.heap a vs out }):
  An (model prog w) A (Builtin.«list.sort» #v[[.ref a],[]]) P E s:=by
 by_cases c:vs.length<64
 ·exact list_sort_tree ho m c h
 rw[list_sort_plain];have t:(1000000:Nat)<=sizeLine:=by decide
 have j:vs.toArray.size=vs.length:=by simp
 refine Af (listItems_at ho rfl ?_);skip;refine Af (listUpdate_at ho rfl ?_ (hsz:=by rw[j];omega) (hsz2:=by show 0<=_;omega));obtain⟨e1,k⟩:∃e1,(s.heap.update a (Obj.mapSeq λ_=>#[])).get? a=Aa (Ba "list" #[] e1):=#v[_,get?_update_seq ho (λ_=>#[])];refine Af (seqEpoch_at k rfl ?_);skip;refine Af (Cg ?_);refine Af (Cp ?_);skip;refine Ay ?_;have ha:a<s.heap.objs.size:=Heap.lt_size ho
 have l:(((s.heap.update a (Obj.mapSeq λ_=>#[])).push (Ba "tuple" vs.toArray 0)).push (Ba "list" #[] 0)).get? a=Aa (Ba "list" #[] e1):=by rw[Heap.get?_push_ne _ _ _ (by rw[size_push',Heap.size_update];exact gW (Nat.lt_succ_of_lt ha)),Heap.get?_push_ne _ _ _ (by rw[Heap.size_update];exact gW ha)];exact k
 show An (model prog w) A _ P E { s with heap:=((s.heap.update a (Obj.mapSeq λ_=>#[])).push (Ba "tuple" vs.toArray 0)).push (Ba "list" #[] 0) };dsimp only;rw[if_neg (by rw[j];omega),if_neg (by rw[j];omega)]
 obtain⟨g,i,rest,rfl⟩:∃g i rest,vs=g::i::rest:=by
  match vs,c with
  |[],c=>simp at c
  |[_],c=>simp at c
  |g::i::rest,_=>exact#v[g,i,rest,rfl]
 rw[keyKind_ints m];refine Af (Aj ?_)
 refine Af (AF (Vo (a₀:=pairsOf (g::i::rest)) (st:=SortSt.mk' Bp ((g::i::rest).toArray.zip (g::i::rest).toArray) #[] 7 Ae)
  (Q:=λ_ f=>(Aq f).Perm (pairsOf (g::i::rest))/\Bq f=Ae/\SortedTo (Aq f) (pairsOf (g::i::rest)).size)
  m.intKeys #v[Array.Perm.refl _,rfl,rfl,rfl] rfl (by rw[pairsOf_size];omega) λf p q r=>#v[p,q,r]) ?_ λ_ _ e=>e)
 rintro⟨⟨⟩,f⟩ u ⟨rfl,hp,hf,hs⟩;dsimp only;refine Af (seqEpoch_at l rfl ?_);skip;refine Af (listUpdate_at l rfl ?_ (hsz2:=by refine lC (HC ((Array.size_map ..).trans (hp.size_eq.trans (pairsOf_size _)))) ?_;omega));rw[hf];simp only[bne_self_eq_false,vE,if_false];obtain⟨d,h1,h2,h3⟩:=sorted_out m hp hs;exact Aj (h _ d h1 h2 h3)
end SR
namespace DE
open PySem DZ
structure ES (e it l:Ad) (xs:Array Ac) (i:Nat) (h:Ax):Prop where
 eo:∃f0 f1 old,h.get? e=Aa { cls:=.type "enumerate",dict:=Ae,data:=.fields #[f0,.bool f1,.ref it,Be i,.none,old],slots:=#[] }/\(f0=.none\/∃(T:Ad) (o:Obj),f0=Be T/\h.get? T=Aa o/\T≠e/\T≠it)
 a1:h.IsListIter it l i
 l1:h.IsList l xs
section
variable [DecidableEq κ]
end
end DE
namespace L2
def Wi(n:Nat):List Key:=(dX n).map λi:Nat=>Sum.inl (i:Int)
def RZ(K:aE)(t:TA):TE:=λσ H Q=>t σ H λvs d=>match vs with
 |[.ref a]=>∃ys:List V,d a=Aa (.lst ys)/\ys.length<=1000/\∀p c,iS d p (.dK (jQ [] ((Wi ys.length).zip ys))) c->Q (.ref p) c
 |_=>False
def YQ(K:aE):List V->Hp->VK->Prop:=λvs H Q=>match vs with
 |[.ref a]=>∃ns:List Int,cB K H a (ns.map V.int)/\0<ns.length/\∀M,M∈ns->(∀x∈ns,x<=M)->Q (.int M) H
 |_=>False
theorem Hx(hc:X.calm=Ai):mR X (.builtin "max") (YQ X.K):=by
 intro f s σ H xs us Q I r h
 match xs,h with
 |[.ref p],h=>
  obtain⟨ns,hq,i,q⟩:=h;obtain⟨m,rfl,e1⟩:=sG r;cases e1;obtain⟨its,k,pl,hz⟩:=I.list hq;have d:=S4 k;obtain⟨xs,c⟩:=d.allInts.items;have hn:numsOf (intItems xs).toList=ns:=by rw[<-c];exact d.numsOf
  rw[nums_intItems]at hn;have g:xs.size=ns.length:=by rw[<-hn,aQ,ph]
  have hl:=pl.isList;rw[c]at hl;refine max_intList (I.ok.hd hc) hl ⋯ λv h' l hv hk=>?_;obtain⟨t,rfl⟩:=intItems_at hv;obtain⟨h1,h2⟩:=argBest_gt (numAt xs) (xs.size-1);refine#v[.int _,H,I.kept (t':=l) hk,#v[t,rfl],q _ ?_ λa ha=>?_]
  ·rw[numAt_eq,hn];exact getD_mem ⋯
  ·obtain⟨j,hj,rfl⟩:=mem_getD ha;have:=h2 j ⋯;rwa[numAt_eq,hn]at this
end L2
namespace SD
theorem ZsP{L:Ad}(K:T2 prog w T r d n P OK)(hh:A.handled=Ae)(g:OK s.heap)(hr:L≠r)(hd:L≠d)(i:s.heap.get? L=Aa { cls:=.type "list",data:=.seq #[] c })(hn:n<=sizeLine)
  (j:∀h' k f h,(∀b o,b≠L->s.heap.get? b=Aa o->h'.get? b=Aa o)->h'.get? L=Aa { cls:=.type "list",dict:=Ae,data:=.seq f h,slots:=#[] }->ItemsOf P f n->R (.ok (.ret (.ref L))) { s with heap:=h',toks:=k }):
  AX (model prog w) A (.builtin "list.__iadd__" #v[[.ref L,.ref r],[]]) R s:=by
 refine AQ entry_list_iadd' ?_;rw[Around.under_plainId (show plainId "list.__iadd__" = Ai by decide +kernel) _];exact PySem.W.kdl_extend K hh g L hr hd (.ref L) c i j hn
theorem ZnC{Q:List Ac->Ag->Prop}(K:T2 prog w T r d n P OK)(hh:A.handled=Ae)(h:OK s.heap)(hn:n<=sizeLine)
  (q:∀f h' j,(∀b o,s.heap.get? b=Aa o->h'.get? b=Aa o)->s.heap.objs.size<h'.objs.size->ItemsOf P f n->Q f.toList { s with heap:=h',toks:=j }):An (model prog w) A (collect (.ref r)) Q E s:=by
 obtain⟨hr,hd⟩:=K.there s.heap h;unfold collect;refine Af (wpAny_runValue (AQ entry_proto_collect' ?_));show An _ _ (do again (.builtin "list.__iadd__" #v[[<-newList [],.ref r],[]])) _ _ s;have i:(s.heap.push (Ba "list" #[] 0)).get? s.heap.objs.size=Aa (Ba "list" #[] 0):=Heap.get?_push_size _ rfl;refine Af (Cp (Aj #v[Code.quiet_builtin _ ∅,ZsP (s:={ s with heap:=s.heap.push (Ba "list" #[] 0) }) K hh (K.keep _ _ h λb _ o e=>Heap.get?_push_of_some _ e) (se hr) (se hd) i hn λh' j f c k g hi=>?_]));dsimp only;refine Af (wpAny_load g (Aj ?_));exact q f h' j (λb o e=>k b o (gW (Heap.lt_size e)) (Heap.get?_push_of_some _ e)) (Heap.lt_size g) hi
theorem ZoN{Q:Ac->Ag->Prop}{ks:List Int}(K:T2 prog w T r d n P OK)(hh:A.handled=Ae)(k:OK s.heap)(u:n<=100000)(hk:∀c,ItemsOf P c n->BG c.toList ks)
  (q:∀h' i r out e f,(∀b o,s.heap.get? b=Aa o->h'.get? b=Aa o)->s.heap.objs.size<=r->h'.get? r=Aa (Ba "list" out e)->BG out.toList f->f.Perm ks->f.Pairwise (· <= ·)->Q (.ref r) { s with heap:=h',toks:=i }):
  An (model prog w) A (call (.builtin "sorted") [.ref r]) Q E s:=by
 refine Calls.call_function_entry kind_sorted plain_sorted entry_sorted (args_sorted1 _) ?_;unfold Builtin.«sorted»;refine Af (m:=checkCount "sorted" 1 1 _) (Aj ?_);refine Af (ZnC K (by first|exact hh|simpa using hh) k (by rw[A2];omega) λc h' i v h hi=>?_);have t:=hk c hi;have l:c.toList.length<=1000000:=by rw[ph,hi.1];omega
 refine Af (Cp ?_ (by rw[A2];omega));have g:(h'.push (Ba "list" c.toList.toArray 0)).get? h'.objs.size=Aa (Ba "list" c.toList.toArray 0):=Heap.get?_push_size _ rfl;show An _ _ _ _ _ { s with heap:=h'.push (Ba "list" c.toList.toArray 0),toks:=i };refine Af (Ay (Bc slot_list_sort #v[_,g,rfl] entry_list_sort (SR.Zsh g t l λout f b1 b2 b3=>#v[_,rfl,Aj #v[_,rfl,?_]]) (args_list_sort _)));obtain⟨⟨e,j⟩,p⟩:=SS.ZpX (out:=out) g;exact q _ i _ out e f (λb o x=>p b o (gW (Nat.lt_trans (Heap.lt_size x) h)) (Heap.get?_push_of_some _ (v b o x))) (yj h) j b1 b2 b3
end SD
namespace L2
def QO(_:aE):List V->Hp->VK->Prop:=λvs H Q=>match vs with
 |[.ref p]=>∃(kvs:List (Key×V)) (ns:List Int),Rd H p (.dK kvs)/\kvs.map (·.1)=ns.map Sum.inl/\ns.length<=100000/\∀(c:List Int) (l:Ad) (d:Hp),c.Perm ns->c.Pairwise (· <= ·)->iS H l (.lst (c.map V.int)) d->Q (.ref l) d
 |_=>False
theorem ZrA(hc:X.calm=Ai):mR X (.builtin "sorted") (QO X.K):=by
 intro B s σ H xs us Q I r h
 match xs,h with
 |[.ref p],h=>
  obtain⟨kvs,ns,e,i,D,q⟩:=h;obtain⟨O,rfl,e1⟩:=sG r;cases e1;obtain⟨z,y,vs,j,dd⟩:=wU I.bP e;obtain⟨ep,t⟩:=dd.dictAt;have A:=j.length;have G:kvs.length=ns.length:=by have:=congrArg List.length i;rwa[aQ,aQ]at this
  refine SD.ZoN (ks:=ns) (PySem.W.kdl_dict (knd:=lP X.prog X.w) (kvs:=vs) (ep:=ep) y) (I.ok.hd hc) t ⋯ (λc ⟨ha,hb⟩=>?_) λh' N l out C d L g m b1 b2 b3=>?_
  ·have u:∀n,n<=kvs.length->Vals ((kvs.take n).map λv=>kV v.1) (c.toList.take n):=by
    intro n
    induction n with
    |zero=>intro _;rw[R3,R3];exact .nil
    |succ n ih=>intro hn;have f:n<c.size:=⋯;obtain⟨k,x,hk,hv⟩:=hb n c[n] (Nt f);obtain⟨M,g1,g2⟩:=RT j hk;rw[pJ,pJ,show c.toList[n]? = Aa c[n] by simp[f],g1,fN];exact Paired.snoc (ih ⋯) (show cH (kV M.1) c[n] by rw[g2.1];exact Yu hv)
   have b3:=u kvs.length (bV _);rw[rC,yD (by rw[ph];omega)]at b3
   have e2:(kvs.map λv=>kV v.1)=ns.map V.int:=by
    have:(kvs.map (·.1)).map kV=(ns.map Sum.inl).map kV:=by rw[i]
    rw[iR,iR]at this;exact this
   rw[e2]at b3;exact S4 b3
  ·have J:(100000:Nat)<=sizeLine:=by decide
   have E:d.length=ns.length:=b2.length_eq;exact#v[.ref l,_,I.laid (a:=l) (o:=.lst (d.map V.int)) (h':=h') (t':=N) L g #v[by rw[aQ];omega,out.toList,C,UN b1,by rw[ZyV];exact m],rfl,q d l _ b2 b3 #v[I.bP.fresh g,rfl]]
end L2
namespace MZ
abbrev Ab:=Nat->Option (Option Nat)
abbrev Cm:=Nat->Option (Option Nat)
variable {lo:Nat->List Nat}{goal:Nat->Prop}
structure Flow (lo:Nat->List Nat) (goal:Nat->Prop) (ab:Ab):Prop where
 up:∀p q,ab p=Aa (Aa q)->p∈lo q/\ab q≠Ae
 top:∀p,ab p=Aa Ae->∃g,goal g/\p∈lo g
 inj:∀p p' q,ab p=Aa (Aa q)->ab p'=Aa (Aa q)->p=p'
 src:∀p,ab p≠Ae->lo p≠[]->∃p',ab p'=Aa (Aa p)
 ng:∀p,ab p≠Ae->¬goal p
def kY(lo:Nat->List Nat)(ab:Ab)(e:Nat):List Nat:=
 if e%2=1 then(lo (e/2)).map (λl=>2*l)++[2*(e/2)] else match ab (e/2) with
  |none=>[2*(e/2)+1]
  |some Ae=>[]
  |some (Aa q)=>[2*q+1]
theorem HV{p e:Nat}(h:e∈kY lo ab (2*p+1)):(∃l∈lo p,e=2*l)\/e=2*p:=by
 unfold kY at h;rw[if_pos ⋯,show(2*p+1)/2=p by omega,fG,fE,dQ]at h;rcases h with⟨l,hl,rfl⟩|h
 ·exact .inl #v[l,hl,rfl]
 ·exact .inr h
theorem D6{p e:Nat}(h:e∈kY lo ab (2*p)):(ab p=Ae/\e=2*p+1)\/∃q,ab p=Aa (Aa q)/\e=2*q+1:=by
 unfold kY at h;rw[if_neg ⋯,show(2*p)/2=p by omega]at h;cases ha:ab p with
 |none=>rw[ha]at h;exact .inl #v[rfl,dQ.mp h]
 |some o=>
  rw[ha]at h;cases o with
  |none=>simp at h
  |some q=>exact .inr #v[q,rfl,dQ.mp h]
structure Path (lo:Nat->List Nat) (goal:Nat->Prop) (ab:Ab) (cm:Cm) (π:Nat->Prop) (s:Nat):Prop where
 succ:∀e,π e->e≠2*s+1->∃e',π e'/\cm e'=Aa (Aa e)
 pred:∀e,π e->cm e=Aa Ae\/∃u,π u/\cm e=Aa (Aa u)
 uniq:∀e e' u,π e->π e'->cm e=Aa (Aa u)->cm e'=Aa (Aa u)->e=e'
 step:∀e u,π e->cm e=Aa (Aa u)->e∈kY lo ab u
 start:∀e,π e->cm e=Aa Ae->e%2=0/\∃g,goal g/\e/2∈lo g
 fin:π (2*s+1)
 iZ:lo s=[]
 one:∀t,π (2*t+1)->lo t=[]->t=s
 far:∀p,goal p->¬π (2*p)/\¬π (2*p+1)
 rk:∃r:Nat->Nat,∀e u,cm e=Aa (Aa u)->r u<r e
open Classical in
noncomputable def lead(ab:Ab)(cm:Cm)(π:Nat->Prop):Ab:=λp=>if π (2*p) then(match cm (2*p) with
  |some Ae=>Aa Ae
  |some (Aa u)=>if u=2*p+1 then Ae else Aa (Aa (u/2))
  |none=>Ae) else ab p
section
variable {ab:Ab}{cm:Cm}{π:Nat->Prop}{s:Nat}
theorem vX(h:¬π (2*p)):lead ab cm π p=ab p:=by unfold lead;rw[if_neg h]
theorem CI(h:π (2*p))(hc:cm (2*p)=Aa Ae):lead ab cm π p=Aa Ae:=by unfold lead;rw[if_pos h,hc]
theorem L3(h:π (2*p))(hc:cm (2*p)=Aa (Aa (2*p+1))):lead ab cm π p=Ae:=by unfold lead;rw[if_pos h,hc];simp
theorem wW(h:π (2*p))(hc:cm (2*p)=Aa (Aa u))(hu:u≠2*p+1):lead ab cm π p=Aa (Aa (u/2)):=by unfold lead;rw[if_pos h,hc];simp[hu]
variable (F:Flow lo goal ab) (P:Path lo goal ab cm π s)
include P
theorem GR(h:π (2*p))(hc:cm (2*p)=Aa (Aa u)):∃q,u=2*q+1/\(p∈lo q\/p=q):=by
 have hs:=P.step _ _ h hc;rcases(by omega:u=2*(u/2)\/u=2*(u/2)+1) with e|e
 ·rw[e]at hs;rcases D6 hs with⟨_,z⟩|⟨q,_,z⟩ <;> omega
 ·rw[e]at hs;refine#v[u/2,e,?_];rcases HV hs with⟨l,hl,z⟩|z
  ·rw[show p=l by omega];exact .inl hl
  ·exact .inr ⋯
theorem Ss(h:π (2*q+1)):(π (2*q)/\cm (2*q+1)=Aa (Aa (2*q))/\ab q=Ae)\/∃p,π (2*p)/\cm (2*q+1)=Aa (Aa (2*p))/\ab p=Aa (Aa q):=by
 rcases P.pred _ h with hc|⟨u,hu,hc⟩
 ·have:=(P.start _ h hc).1;omega
 ·have hs:=P.step _ _ h hc;rcases(by omega:u=2*(u/2)\/u=2*(u/2)+1) with e|e
  ·rw[e]at hs hc hu;rcases D6 hs with⟨ha,z⟩|⟨c,ha,z⟩
   ·have:u/2=q:=⋯;rw[this]at ha hc hu;exact .inl #v[hu,hc,ha]
   ·have:c=q:=⋯;subst this;exact .inr #v[u/2,hu,hc,ha]
  ·rw[e]at hs;rcases HV hs with⟨l,hl,z⟩|z <;> omega
include F
theorem Zrb(hq:ab q≠Ae)(h:π (2*q+1))(hp:ab p=Aa (Aa q)):π (2*p)/\cm (2*q+1)=Aa (Aa (2*p)):=by
 rcases Ss P h with⟨_,_,z⟩|⟨c,h1,h2,h3⟩
 ·exact absurd z hq
 ·rw[F.inj p c q hp h3];exact#v[h1,h2]
theorem Zu9(h:π (2*p))(hp:ab p=Aa (Aa q)):π (2*q+1)/\cm (2*q+1)=Aa (Aa (2*p)):=by
 obtain⟨e,he,hc⟩:=P.succ _ h ⋯;rcases D6 (P.step _ _ he hc) with⟨z,_⟩|⟨c,z,rfl⟩
 ·rw[hp]at z;cases z
 ·rw[hp]at z;cases z;exact#v[he,hc]
omit F in
theorem Zoe(h:π (2*p))(hp:ab p=Ae):π (2*p+1)/\cm (2*p+1)=Aa (Aa (2*p)):=by
 obtain⟨e,he,hc⟩:=P.succ _ h ⋯;rcases D6 (P.step _ _ he hc) with⟨_,rfl⟩|⟨c,z,_⟩
 ·exact#v[he,hc]
 ·rw[hp]at z;cases z
omit F in
omit F in
theorem Zve(h:π (2*q+1))(hq:lo q≠[]):∃l,π (2*l)/\cm (2*l)=Aa (Aa (2*q+1))/\(l∈lo q\/l=q):=by
 obtain⟨e,he,hc⟩:=P.succ _ h (λz=>hq ((show s=q by omega) ▸ P.iZ));rcases HV (P.step _ _ he hc) with⟨l,hl,rfl⟩|rfl
 ·exact#v[l,he,hc,.inl hl]
 ·exact#v[q,he,hc,.inr rfl]
omit F in
theorem ZqL(h1:cm (2*p)=Aa (Aa (2*p+1)))(h2:cm (2*p+1)=Aa (Aa (2*p))):False:=by obtain⟨r,hr⟩:=P.rk;have a:=hr _ _ h1;have b:=hr _ _ h2;omega
variable (oh:∀p l,l∈lo p->l<p)
include oh
theorem ZqX:Flow lo goal (lead ab cm π):=by
 refine#v[λp q h=>?_,λp h=>?_,λp k q h h'=>?_,λp h hp=>?_,λp h=>?_]
 ·-- up
  by_cases hp:π (2*p)
  ·rcases P.pred _ hp with hc|⟨u,hu,hc⟩
   ·rw[CI hp hc]at h;cases h
   ·obtain⟨j,rfl,hl⟩:=GR P hp hc;by_cases e:p=j
    ·subst e;rw[L3 hp hc]at h;cases h
    ·rw[wW hp hc ⋯]at h;have:j=q:=by have:=Option.some.inj (Option.some.inj h);omega
     subst this;refine#v[hl.resolve_right e,λhn=>?_]
     -- j is not taken out
     by_cases hq:π (2*j)
     ·rcases P.pred _ hq with c|⟨D,t,c⟩
      ·rw[CI hq c]at hn;cases hn
      ·obtain⟨B,rfl,i⟩:=GR P hq c;by_cases e2:j=B
       ·subst e2;have:=P.uniq _ _ _ hp hq hc c;omega
       ·rw[wW hq c ⋯]at hn;cases hn
     ·rw[vX hq]at hn;rcases Ss P hu with⟨z,_⟩|⟨H,_,_,z⟩
      ·exact hq z
      ·exact(F.up _ _ z).2 hn
  ·rw[vX hp]at h;obtain⟨h1,h2⟩:=F.up p q h;refine#v[h1,λhn=>?_];by_cases hq:π (2*q)
   ·rcases P.pred _ hq with c|⟨D,t,c⟩
    ·rw[CI hq c]at hn;cases hn
    ·obtain⟨B,rfl,i⟩:=GR P hq c;by_cases e2:q=B
     ·subst e2;exact hp (Zrb F P h2 t h).1
     ·rw[wW hq c ⋯]at hn;cases hn
   ·rw[vX hq]at hn;exact h2 hn
 ·-- top
  by_cases hp:π (2*p)
  ·rcases P.pred _ hp with hc|⟨u,hu,hc⟩
   ·have:=(P.start _ hp hc).2;rwa[show 2*p/2=p by omega]at this
   ·obtain⟨j,rfl,hl⟩:=GR P hp hc;by_cases e:p=j
    ·subst e;rw[L3 hp hc]at h;cases h
    ·rw[wW hp hc ⋯]at h;cases h
  ·rw[vX hp]at h;exact F.top p h
 ·-- inj
  have v:∀p,lead ab cm π p=Aa (Aa q)->(π (2*p)/\cm (2*p)=Aa (Aa (2*q+1)))\/(¬π (2*p)/\ab p=Aa (Aa q)):=λp h=>by
   by_cases hp:π (2*p)
   ·rcases P.pred _ hp with hc|⟨u,hu,hc⟩
    ·rw[CI hp hc]at h;cases h
    ·obtain⟨j,rfl,hl⟩:=GR P hp hc;by_cases e:p=j
     ·subst e;rw[L3 hp hc]at h;cases h
     ·rw[wW hp hc ⋯]at h;have:j=q:=by have:=Option.some.inj (Option.some.inj h);omega
      subst this;exact .inl #v[hp,hc]
   ·rw[vX hp]at h;exact .inr #v[hp,h]
  have w:∀a b,π (2*a)->cm (2*a)=Aa (Aa (2*q+1))->¬π (2*b)->ab b=Aa (Aa q)->False:=λa b ha hc hb d=>by
   have y:π (2*q+1):=by
    rcases P.pred _ ha with z|⟨u,hu,z⟩
    ·rw[hc]at z;cases z
    ·rw[hc]at z;cases z;exact hu
   exact hb (Zrb F P (F.up _ _ d).2 y d).1
  rcases v p h with⟨x,m⟩|⟨x,m⟩ <;> rcases v k h' with⟨b1,b2⟩|⟨b1,b2⟩
  ·have:=P.uniq _ _ _ x b1 m b2;omega
  ·exact(w p k x m b1 b2).elim
  ·exact(w k p b1 b2 x m).elim
  ·exact F.inj p k q m b2
 ·-- src
  -- behind vo foot of p a head f it
  have f:π (2*p+1)->¬(π (2*p)/\cm (2*p)=Aa (Aa (2*p+1)))->∃k,lead ab cm π k=Aa (Aa p):=λhf g=>by
   obtain⟨l,hl,hc,i⟩:=Zve P hf hp;rcases i with i|rfl
   ·have:=oh _ _ i;refine#v[l,?_];rw[wW hl hc ⋯];congr 2;omega
   ·exact absurd #v[hl,hc] g
  have A:ab p≠Ae->¬(π (2*p)/\cm (2*p)=Aa (Aa (2*p+1)))->∃k,lead ab cm π k=Aa (Aa p):=λd g=>by
   obtain⟨C,h0⟩:=F.src p d hp;by_cases n:π (2*C)
   ·exact f (Zu9 F P n h0).1 g
   ·exact#v[C,by rw[vX n];exact h0]
  have g:¬(π (2*p)/\cm (2*p)=Aa (Aa (2*p+1))):=λ⟨E,G⟩=>h (L3 E G);by_cases d:ab p=Ae
  ·by_cases r:π (2*p)
   ·exact f (Zoe P r d).1 g
   ·rw[vX r]at h;exact absurd d h
  ·exact A d g
 ·-- goals
  intro hg;have:=P.far p hg;rw[vX this.1]at h;exact F.ng p h hg
theorem Zl5:ab s=Ae/\lead ab cm π s≠Ae/\∀t,lo t=[]->t≠s->(lead ab cm π t≠Ae ↔ ab t≠Ae):=by
 have hs:π (2*s)/\cm (2*s+1)=Aa (Aa (2*s))/\ab s=Ae:=by
  rcases Ss P P.fin with z|⟨p,_,_,z⟩
  ·exact z
  ·have:=(F.up _ _ z).1;rw[P.iZ]at this;simp at this
 refine#v[hs.3,λhn=>?_,λt ht c=>?_]
 ·rcases P.pred _ hs.1 with hc|⟨u,hu,hc⟩
  ·rw[CI hs.1 hc]at hn;cases hn
  ·obtain⟨q,rfl,hl⟩:=GR P hs.1 hc;by_cases e:s=q
   ·subst e;exact ZqL P hc hs.2
   ·rw[wW hs.1 hc ⋯]at hn;cases hn
 ·by_cases hp:π (2*t)
  ·have d:ab t≠Ae:=λz=>c (P.one t (Zoe P hp z).1 ht);refine#v[λ_=>d,λ_ hn=>?_];rcases P.pred _ hp with hc|⟨u,hu,hc⟩
   ·rw[CI hp hc]at hn;cases hn
   ·obtain⟨q,rfl,hl⟩:=GR P hp hc;by_cases e:t=q
    ·subst e;exact c (P.one _ hu ht)
    ·rw[wW hp hc ⋯]at hn;cases hn
  ·rw[vX hp]
end
end MZ
namespace MZ
variable {lo:Nat->List Nat}{goal:Nat->Prop}{ab:Ab}
abbrev Cs:=List (Nat×Option Nat)
def bU(cs:Cs):Cm:=λe=>(cs.find? λx=>decide (x.1=e)).map (·.2)
def keys(cs:Cs):List Nat:=cs.map (·.1)
theorem uz(c:(keys cs).Nodup){e:Nat}:bU cs e=Aa f ↔ (e,f)∈cs:=by
 unfold bU
 induction cs with
 |nil=>simp
 |cons x r ih=>
  obtain⟨a,b⟩:=x;unfold keys at c ih;rw[jF,uL]at c;by_cases h:a=e
  ·subst h;rw[ZxW (by simp),Option.map_some,iN];constructor
   ·intro z;cases z;exact .inl rfl
   ·rintro(z|z)
    ·cases z;rfl
    ·exact absurd (fE.mpr #v[_,z,rfl]) c.1
  ·rw[ZxX (by simpa using h),ih c.2,iN];constructor
   ·exact .inr
   ·rintro(z|z)
    ·cases z;exact absurd rfl h
    ·exact z
structure pN (lo:Nat->List Nat) (goal:Nat->Prop) (ab:Ab) (cs:Cs):Prop where
 nd:(keys cs).Nodup
 yH:∀(i:Nat) e u,cs[i]? = Aa (e,Aa u)->(∃(j:Nat) (f:Option Nat),j<i/\cs[j]? = Aa (u,f))/\e∈kY lo ab u/\∀t,u=2*t+1->lo t≠[]
 start:∀e,(e,Ae)∈cs->e%2=0/\∃g,goal g/\e/2∈lo g
 all:∀g l,goal g->l∈lo g->(2*l,Ae)∈cs
theorem pN.snoc(c:pN lo goal ab cs){e u:Nat}(hu:u∈keys cs)(he:e∉keys cs)(hn:e∈kY lo ab u)(hs:∀t,u=2*t+1->lo t≠[]):pN lo goal ab (cs++[(e,Aa u)]):=by
 refine#v[?_,λi k n h=>?_,λk h=>?_,λg l hg hl=>qe _ (c.all g l hg hl)]
 ·unfold keys at he ⊢;rw[fN,HM];refine#v[c.nd,by simp,λx hx y hy z=>?_];simp only[jF,yB,dQ]at hy;subst hy;subst z;exact he hx
 ·rcases lD i cs.length with l|l
  ·rw[mY l]at h;obtain⟨⟨j,f,hj,m⟩,h2,h3⟩:=c.yH i k n h;exact#v[#v[j,f,hj,by rw[mY ⋯];exact m],h2,h3]
  ·have hi:i=cs.length:=by have:=(dS.mp h).1;rw[eG]at this;simp at this;omega
   subst hi;rw[qP (bV _),vD]at h;cases h;obtain⟨x,hx,e1⟩:=fE.mp hu;obtain⟨j,hj⟩:=wE.mp hx;obtain⟨a,b⟩:=x;cases e1;have d:=(dS.mp hj).1;exact#v[#v[j,b,d,by rw[mY d];exact hj],hn,hs]
 ·rcases fG.mp h with z|z
  ·exact c.start k z
  ·rw[dQ]at z;cases z
inductive On (cm:Cm) (t:Nat):Nat->Prop where
 |here:On cm t t
 |up {e u:Nat} (h:On cm t e) (hc:cm e=Aa (Aa u)):On cm t u
def it(cm:Cm)(t:Nat):Nat->Option Nat
 | 0=>Aa t
 |i+1=>(it cm t i).bind λe=>(cm e).join
theorem On.it{t e:Nat}(h:On cm t e):∃i,MZ.it cm t i=Aa e:=by
 induction h with
 |here=>exact#v[0,rfl]
 |up h hc ih=>obtain⟨i,hi⟩:=ih;exact#v[i+1,by show(MZ.it cm t i).bind _=_;rw[hi];show(cm _).join=_;rw[hc];rfl]
theorem X2{cm:Cm}{t:Nat}{r:Nat->Nat}(hr:∀e u,cm e=Aa (Aa u)->r u<r e):∀{i j a b:Nat},i<j->it cm t i=Aa a->it cm t j=Aa b->r b<r a:=by
 have d:∀{i a b:Nat},it cm t i=Aa a->it cm t (i+1)=Aa b->r b<r a:=λ{i a b} ha hb=>by
  have hb:(it cm t i).bind (λe=>(cm e).join)=Aa b:=hb;rw[ha]at hb;have hb:(cm a).join=Aa b:=hb;refine hr a b ?_;cases h:cm a with
  |none=>rw[h]at hb;cases hb
  |some o=>rw[h]at hb;rw[show o=Aa b from hb]
 intro i j a b f ha hb
 induction j generalizing b with
 |zero=>omega
 |succ j ih=>
  cases hj:it cm t j with
  |none=>have hb:(it cm t j).bind (λe=>(cm e).join)=Aa b:=hb;rw[hj]at hb;cases hb
  |some c=>
   have h1:=d hj hb;by_cases e:i=j
   ·subst e;rw[ha]at hj;cases hj;exact h1
   ·exact Nat.lt_trans h1 (ih ⋯ hj)
theorem pN.path(c:pN lo goal ab cs)(F:Flow lo goal ab)(hg:∀g,goal g->lo g≠[])(hs:lo s=[])(hk:2*s+1∈keys cs):Path lo goal ab (bU cs) (On (bU cs) (2*s+1)) s:=by
 have fr:∀e u,bU cs e=Aa (Aa u)->u∈keys cs/\e∈kY lo ab u/\(∀t,u=2*t+1->lo t≠[])/\(keys cs).idxOf u<(keys cs).idxOf e:=λe u h=>by
  obtain⟨i,hi⟩:=wE.mp ((uz c.nd).mp h);obtain⟨⟨j,f,hj,B⟩,h2,h3⟩:=c.yH i e u hi;have L:=(dS.mp hi).1
  have D:∀{k:Nat}{x:Nat}{y:Option Nat},cs[k]? = Aa (x,y)->(keys cs).idxOf x=k:=λ{k x y} hk=>by
   have G:=(dS.mp hk).1
   have e1:(keys cs)[k]'(by unfold keys;rw[aQ];exact G)=x:=by unfold keys;rw[List.getElem_map,(dS.mp hk).2]
   rw[<-e1];exact c.nd.idxOf_getElem k _
  exact#v[fE.mpr #v[_,jP B,rfl],h2,h3,by rw[D hi,D B];exact hj]
 have E:∀e u,bU cs e=Aa (Aa u)->(keys cs).idxOf u<(keys cs).idxOf e:=λe u h=>(fr e u h).4
 have C:∀e,On (bU cs) (2*s+1) e->e∈keys cs:=λe h=>by
  cases h with
  |here=>exact hk
  |up h hc=>exact(fr _ _ hc).1
 have A:∀e,e∈keys cs->∃f,bU cs e=Aa f:=λe h=>by obtain⟨x,hx,rfl⟩:=fE.mp h;exact#v[x.2,(uz c.nd).mpr hx]
 have n:∀e,On (bU cs) (2*s+1) e->e≠2*s+1->∃r,On (bU cs) (2*s+1) r/\bU cs r=Aa (Aa e):=λe h I=>by
  cases h with
  |here=>exact absurd rfl I
  |up h hc=>exact#v[_,h,hc]
 have ft:∀p,goal p->¬On (bU cs) (2*s+1) (2*p+1):=λp hp h=>by
  have H:=hg p hp;have v:ab p=Ae:=Classical.byContradiction λz=>F.ng p z hp;obtain⟨r,w,d⟩:=n _ h (λz=>H ((show s=p by omega) ▸ hs));have hst:=(fr _ _ d).2;rcases HV hst with⟨l,hl,rfl⟩|rfl
  ·have:=(uz c.nd).mpr (c.all p l hp hl);rw[d]at this;cases this
  ·obtain⟨f,hf⟩:=A _ (C _ h);cases f with
   |none=>have:=(c.start _ ((uz c.nd).mp hf)).1;omega
   |some u=>
    have m:=(fr _ _ hf).2;rcases(by omega:u=2*(u/2)\/u=2*(u/2)+1) with e|e
    ·rw[e]at m hf;rcases D6 m with⟨_,z⟩|⟨q,z,O⟩
     ·rw[show u/2=p by omega]at hf;have M:=E _ _ hf;have N:=E _ _ d;omega
     ·rw[show q=p by omega]at z;exact(F.up _ _ z).2 v
    ·rw[e]at m;rcases HV m with⟨l,_,z⟩|z <;> omega
 refine#v[n,λe h=>?_,λe r u h h' hc d=>?_,λe u h hc=>(fr _ _ hc).2,λe h hc=>c.start e ((uz c.nd).mp hc),.here,hs,λt h ht=>?_,λp hp=>#v[λh=>?_,ft p hp],#v[_,E]]
 ·obtain⟨f,hf⟩:=A _ (C e h);cases f with
  |none=>exact .inl hf
  |some u=>exact .inr #v[u,.up h hf,hf]
 ·obtain⟨i,hi⟩:=h.it;obtain⟨j,hj⟩:=h'.it;have J:it (bU cs) (2*s+1) (i+1)=Aa u:=by show(it _ _ i).bind _=_;rw[hi];show(bU cs e).join=_;rw[hc];rfl
  have K:it (bU cs) (2*s+1) (j+1)=Aa u:=by show(it _ _ j).bind _=_;rw[hj];show(bU cs r).join=_;rw[d];rfl
  rcases OS i j with l|l|l
  ·have:=X2 E (show i+1<j+1 by omega) J K;omega
  ·subst l;rw[hi]at hj;exact Option.some.inj hj
  ·have:=X2 E (show j+1<i+1 by omega) K J;omega
 ·by_cases e:2*t+1=2*s+1
  ·omega
  ·obtain⟨r,w,d⟩:=n _ h e;exact absurd ht ((fr _ _ d).3 t rfl)
 ·have v:ab p=Ae:=Classical.byContradiction λz=>F.ng p z hp;obtain⟨r,w,d⟩:=n _ h ⋯;rcases D6 (fr _ _ d).2 with⟨_,rfl⟩|⟨q,z,_⟩
  ·exact ft p hp w
  ·rw[v]at z;cases z
end MZ
namespace MZ
variable {lo:Nat->List Nat}{goal:Nat->Prop}{ab:Ab}
inductive Wy (ab:Ab) (t:Nat):Nat->Prop where
 |here:Wy ab t t
 |up {p q:Nat} (h:Wy ab t p) (hp:ab p=Aa (Aa q)):Wy ab t q
theorem Wy.trans(h:Wy ab t p)(g:Wy ab p q):Wy ab t q:=by
 induction g with
 |here=>exact h
 |up _ hp ih=>exact ih.up hp
theorem Wy.lin(h:Wy ab t x)(g:Wy ab t y):Wy ab x y\/Wy ab y x:=by
 induction h with
 |here=>exact .inl g
 | @up p q h hp ih=>
  rcases ih with z|z
  ·cases z with
   |here=>exact .inr (Wy.here.up hp)
   | @up j _ z d=>
    -- p comes to y by at least one step,vo first of which is to q
    have i:∀{a b:Nat},Wy ab a b->a=b\/∃c,ab a=Aa (Aa c)/\Wy ab c b:=λ{a b} w=>by
     induction w with
     |here=>exact .inl rfl
     | @up u v w hu f=>
      rcases f with rfl|⟨c,hc,w2⟩
      ·exact .inr #v[v,hu,.here]
      ·exact .inr #v[c,hc,w2.up hu]
    rcases i (z.up d) with e|⟨c,hc,w⟩
    ·subst e;exact .inr (Wy.here.up hp)
    ·rw[hp]at hc;cases hc;exact .inl w
  ·exact .inr (z.up hp)
theorem P8(F:Flow lo goal ab)(c:∀p l,l∈lo p->l<p):∀p,ab p≠Ae->∃t,lo t=[]/\ab t≠Ae/\Wy ab t p:=by
 intro p
 induction p using Nat.strongRecOn with
 |_ p ih=>
  intro hp;by_cases hs:lo p=[]
  ·exact#v[p,hs,hp,.here]
  ·obtain⟨q,hq⟩:=F.src p hp hs;obtain⟨t,h1,h2,h3⟩:=ih q (c _ _ (F.up _ _ hq).1) (by rw[hq];simp);exact#v[t,h1,h2,h3.up hq]
theorem Zuh(F:Flow lo goal ab)(h:Wy ab t p)(g:Wy ab t' p)(ht:lo t=[])(d:lo t'=[]):t=t':=by
 induction h with
 |here=>
  cases g with
  |here=>rfl
  |up g hp=>have:=(F.up _ _ hp).1;rw[ht]at this;simp at this
 |up h hp ih=>
  cases g with
  |here=>have:=(F.up _ _ hp).1;rw[d]at this;simp at this
  |up g c=>exact ih (F.inj _ _ _ hp c ▸ g)
theorem Xx(F:Flow lo goal ab)(c:∀p l,l∈lo p->l<p)(hn:∀p,ab p≠Ae->p<n):∀(k p:Nat),n-p<=k->ab p≠Ae->∃x,Wy ab p x/\ab x=Aa Ae
 | 0,p,hk,hp=>by have:=hn p hp;omega
 |k+1,p,hk,hp=>by
  cases h:ab p with
  |none=>exact absurd h hp
  |some o=>
   cases o with
   |none=>exact#v[p,.here,h]
   |some q=>have h1:=c _ _ (F.up _ _ h).1;have h2:=hn p hp;obtain⟨x,hx,ht⟩:=Xx F c hn k q ⋯ (F.up _ _ h).2;exact#v[x,(Wy.here.up h).trans hx,ht]
structure pY (lo:Nat->List Nat) (goal:Nat->Prop) (ab:Ab) (K:Nat->Prop):Prop where
 all:∀g l,goal g->l∈lo g->K (2*l)
 xh:∀e e',K e->e'∈kY lo ab e->K e'
 xw:∀t,K (2*t+1)->lo t≠[]
def wv(K:Nat->Prop)(p:Nat):Prop:=K (2*p)/\¬K (2*p+1)
section
variable {K:Nat->Prop} (S:pY lo goal ab K)
include S
theorem pY.low(h:K (2*p+1))(hl:l∈lo p):K (2*l):=by refine S.xh _ _ h ?_;unfold kY;rw[if_pos ⋯,show(2*p+1)/2=p by omega];exact qe _ (fE.mpr #v[l,hl,rfl])
theorem pY.own(h:K (2*p+1)):K (2*p):=by refine S.xh _ _ h ?_;unfold kY;rw[if_pos ⋯,show(2*p+1)/2=p by omega];exact qK _ (dQ.mpr rfl)
theorem pY.free(h:K (2*p))(hp:ab p=Ae):K (2*p+1):=by refine S.xh _ _ h ?_;unfold kY;rw[if_neg ⋯,show 2*p/2=p by omega,hp];exact dQ.mpr rfl
theorem pY.next(h:K (2*p))(hp:ab p=Aa (Aa q)):K (2*q+1):=by refine S.xh _ _ h ?_;unfold kY;rw[if_neg ⋯,show 2*p/2=p by omega,hp];exact dQ.mpr rfl
theorem ZnU(h:wv K p):ab p≠Ae:=λz=>h.2 (S.free h.1 z)
theorem Zuy(F:Flow lo goal ab)(ht:lo t=[])(h:Wy ab t p)(hk:K (2*p)):∃x,Wy ab t x/\wv K x:=by
 induction h with
 |here=>exact#v[_,.here,hk,λz=>S.xw _ z ht]
 | @up p q h hp ih=>
  by_cases hf:K (2*q+1)
  ·exact ih (S.low hf (F.up _ _ hp).1)
  ·exact#v[q,h.up hp,hk,hf]
theorem ZnT(h:Wy ab x y)(hk:K (2*x)):x=y\/K (2*y+1):=by
 induction h with
 |here=>exact .inl rfl
 | @up p q h hp ih=>
  rcases ih with rfl|z
  ·exact .inr (S.next hk hp)
  ·exact .inr (S.next (S.own z) hp)
theorem Zsf(hx:Wy ab t x)(hy:Wy ab t y)(c:wv K x)(d:wv K y):x=y:=by
 rcases hx.lin hy with z|z
 ·rcases ZnT S z c.1 with e|e
  ·exact e
  ·exact absurd e d.2
 ·rcases ZnT S z d.1 with e|e
  ·exact e.symm
  ·exact absurd e c.2
end
theorem Rq{α β:Type}[DecidableEq β]{R:α->β->Prop}(g:∀a c b,R a b->R c b->a=c):∀{A:List α}{B:List β},A.Nodup->(∀a∈A,∃b∈B,R a b)->A.length<=B.length
 |[],B,_,_=>rE _
 |a::A,B,nd,h=>by
  rw[uL]at nd;obtain⟨b,hb,hr⟩:=h a (uh ..)
  have:=Rq g (A:=A) (B:=B.erase b) nd.2 λc d=>by obtain⟨j,i,f⟩:=h c (sC _ d);refine#v[j,?_,f];refine(List.mem_erase_of_ne λe=>?_).mpr i;subst e;rw[g a c j hr f]at nd;exact nd.1 d
  rw[ZxY hb]at this;have:0<B.length:=ZxZ hb;rw[lG];omega
theorem ZoL{K:Nat->Prop}(S:pY lo goal ab K)(F:Flow lo goal ab)(c:∀p l,l∈lo p->l<p){n:Nat}(hn:∀p,ab p≠Ae->p<n){A B:List Nat}(j:A.Nodup)(k:B.Nodup)(d:∀t,t∈A ↔ lo t=[]/\ab t≠Ae)(f:∀p,p∈B ↔ wv K p):A.length=B.length:=by
 refine Nat.le_antisymm (Rq (R:=λt p=>Wy ab t p/\lo t=[]) (λa i b h h'=>Zuh F h.1 h'.1 h.2 h'.2) j λt ht=>?_) (Rq (R:=λp t=>Wy ab t p/\wv K p) (λa i b h h'=>Zsf S h.1 h'.1 h.2 h'.2) k λp hp=>?_)
 ·obtain⟨h1,h2⟩:=(d t).mp ht;obtain⟨x,hx,ho⟩:=Xx F c hn _ t (bV _) h2;obtain⟨g,hg,hl⟩:=F.top x ho;obtain⟨y,hy,hst⟩:=Zuy S F h1 hx (S.all g x hg hl);exact#v[y,(f y).mpr hst,hy,h1]
 ·have hst:=(f p).mp hp;obtain⟨t,h1,h2,h3⟩:=P8 F c p (ZnU S hst);exact#v[t,(d t).mpr #v[h1,h2],h3,hst]
end MZ
namespace MZ
def uW(as:Cs)(p:Nat)(o:Option Nat):Cs:=if(as.any λx=>decide (x.1=p))=Ai then as.map (λx=>if x.1=p then(x.1,o) else x) else as++[(p,o)]
def HX(as:Cs)(p:Nat):Cs:=as.filter λx=>decide (x.1≠p)
theorem OD(as:Cs)(p:Nat):(as.any λx=>decide (x.1=p))=Ai ↔ p∈keys as:=by
 unfold keys;rw[List.any_eq_true,fE];constructor
 ·rintro⟨x,hx,e⟩;exact#v[x,hx,of_decide_eq_true e]
 ·rintro⟨x,hx,e⟩;exact#v[x,hx,decide_eq_true e]
theorem ID:bU as p=Ae ↔ p∉keys as:=by
 unfold bU keys;rw[Option.map_eq_none_iff,List.find?_eq_none,fE];constructor
 ·rintro h ⟨x,hx,e⟩;exact h x hx (decide_eq_true e)
 ·intro h x hx e;exact h #v[x,hx,of_decide_eq_true e]
theorem xH:bU as p≠Ae ↔ p∈keys as:=by rw[ne_eq,ID];exact Classical.not_not
theorem Yy(as:Cs)(p:Nat)(o:Option Nat):keys (uW as p o)=if p∈keys as then keys as else keys as++[p]:=by
 unfold uW;by_cases h:p∈keys as
 ·rw[if_pos ((OD as p).mpr h),if_pos h];unfold keys;rw[iR];refine ym λx _=>?_;show(if x.1=p then(x.1,o) else x).1=x.1;split <;> rfl
 ·rw[if_neg (λz=>h ((OD as p).mp z)),if_neg h];unfold keys;rw[fN];rfl
theorem NJ(c:(keys as).Nodup)(p:Nat)(o:Option Nat):(keys (uW as p o)).Nodup:=by
 rw[Yy];split
 ·exact c
 ·rename_i h;rw[HM];refine#v[c,by simp,λx hx y hy e=>?_];rw[dQ]at hy;subst hy e;exact h hx
theorem VZ(d:(keys as).Nodup)(p:Nat)(o:Option Nat)(q:Nat):bU (uW as p o) q=if q=p then Aa o else bU as q:=by
 have c:=NJ d p o
 have mem:∀f,(q,f)∈uW as p o ↔ if q=p then f=o else(q,f)∈as:=λf=>by
  unfold uW;by_cases h:p∈keys as
  ·rw[if_pos ((OD as p).mpr h),fE];by_cases e:q=p
   ·subst e;rw[if_pos rfl];constructor
    ·rintro⟨x,_,hx⟩;by_cases hq:x.1=q
     ·rw[if_pos hq]at hx;cases hx;rfl
     ·rw[if_neg hq]at hx;rw[hx]at hq;exact absurd rfl hq
    ·rintro rfl;obtain⟨x,hx,e⟩:=fE.mp h;exact#v[x,hx,by rw[if_pos e,e]]
   ·rw[if_neg e];constructor
    ·rintro⟨x,hm,hx⟩;by_cases hq:x.1=p
     ·rw[if_pos hq]at hx;cases hx;exact absurd hq e
     ·rw[if_neg hq]at hx;rw[<-hx];exact hm
    ·intro hm;exact#v[_,hm,by rw[if_neg e]]
  ·rw[if_neg (λz=>h ((OD as p).mp z)),fG,dQ];by_cases e:q=p
   ·subst e;rw[if_pos rfl];constructor
    ·rintro(z|z)
     ·exact absurd (fE.mpr #v[_,z,rfl]) h
     ·cases z;rfl
    ·rintro rfl;exact .inr rfl
   ·rw[if_neg e];constructor
    ·rintro(z|z)
     ·exact z
     ·cases z;exact absurd rfl e
    ·exact .inl
 by_cases e:q=p
 ·rw[if_pos e];exact(uz c).mpr ((mem o).mpr (by rw[if_pos e]))
 ·rw[if_neg e];cases h:bU as q with
  |some f=>exact(uz c).mpr ((mem f).mpr (by rw[if_neg e];exact(uz d).mp h))
  |none=>
   rw[ID]at h ⊢;rw[Yy];split
   ·exact h
   ·rw[fG,dQ];exact λz=>z.elim h e
theorem ZqO(c:(keys as).Nodup)(p:Nat):(keys (HX as p)).Nodup:=by unfold keys HX;exact Oy.sublist ((List.filter_sublist).map _) c
theorem Zvm(d:(keys as).Nodup)(p q:Nat):bU (HX as p) q=if q=p then Ae else bU as q:=by
 have c:=ZqO d p;by_cases e:q=p
 ·rw[if_pos e,ID];intro h;obtain⟨x,hx,e2⟩:=fE.mp h;have:=(uA.mp hx).2;simp at this;exact this (e2.trans e)
 ·rw[if_neg e];cases h:bU as q with
  |some f=>exact(uz c).mpr (uA.mpr #v[(uz d).mp h,by simpa using e])
  |none=>rw[ID]at h ⊢;intro z;obtain⟨x,hx,e2⟩:=fE.mp z;exact h (fE.mpr #v[x,(uA.mp hx).1,e2])
def t9(cm:Cm)(t i:Nat)(e:Nat):Prop:=∃j,j<i/\it cm t j=Aa e
theorem Zuk{e:Nat}(h:it cm t i=Ae):t9 cm t i e ↔ On cm t e:=by
  have f:∀{j a},it cm t j=Aa a->On cm t a:=by
    intro j
    induction j with
    |zero=>intro a ha;cases ha;exact .here
    |succ j ih=>
      intro a ha;have ha:(it cm t j).bind (λe=>(cm e).join)=Aa a:=ha;cases hj:it cm t j with
      |none=>rw[hj]at ha;cases ha
      |some b=>
        rw[hj]at ha;have ha:(cm b).join=Aa a:=ha;refine(ih hj).up ?_;cases hc:cm b with
        |none=>rw[hc]at ha;cases ha
        |some o=>rw[hc]at ha;rw[show o=Aa a from ha]
  have c:∀j,i<=j->it cm t j=Ae:=by
    intro j
    induction j with
    |zero=>intro hj;have : i=0:=⋯;subst this;exact h
    |succ j ih=>
      intro hj;by_cases e:i=j+1
      · subst e;exact h
      · show(it cm t j).bind _=Ae;rw[ih ⋯];rfl
  constructor
  · rintro⟨j,_,hj⟩;exact f hj
  · intro ho;obtain⟨j,hj⟩:=ho.it;refine#v[j,FY λd=>?_,hj];rw[c j d]at hj;cases hj
theorem Zo9(h:∀e,π e ↔ c e):lead ab cm π=lead ab cm c:=by have:π=c:=funext λe=>propext (h e);rw[this]
theorem ZqW:lead ab cm (t9 cm t 0)=ab:=by funext p;exact vX (λ⟨j,hj,_⟩=>by omega)
theorem ZjO{t i e p:Nat}(h:it cm t i=Aa e)(hp:2*p≠e):lead ab cm (t9 cm t (i+1)) p=lead ab cm (t9 cm t i) p:=by
 have:t9 cm t (i+1) (2*p) ↔ t9 cm t i (2*p):=by
  constructor
  ·rintro⟨j,hj,c⟩;by_cases e1:j=i
   ·subst e1;rw[h]at c;exact absurd (Option.some.inj c).symm hp
   ·exact#v[j,⋯,c]
  ·rintro⟨j,hj,c⟩;exact#v[j,⋯,c]
 unfold lead;by_cases g:t9 cm t i (2*p)
 ·rw[if_pos g,if_pos (this.mpr g)]
 ·rw[if_neg g,if_neg (λz=>g (this.mp z))]
theorem Zpv{t i e:Nat}(h:it cm t i=Aa e):t9 cm t (i+1) e:=#v[i,⋯,h]
end MZ
namespace ML
open MZ
inductive Dn (lo:Nat->List Nat) (k:Nat):Nat->Prop where
 |here:Dn lo k k
 |low {y x:Nat} (h:Dn lo k y) (hx:x∈lo y):Dn lo k x
inductive nU (lo:Nat->List Nat) (C:Nat->Prop):Nat->Prop where
 |iZ {p:Nat}:¬C p->lo p=[]->nU lo C p
 |up {p l:Nat}:¬C p->l∈lo p->nU lo C l->nU lo C p
variable {lo:Nat->List Nat}
theorem Dn.trans(h:Dn lo k y)(g:Dn lo y x):Dn lo k x:=by
 induction g with
 |here=>exact h
 |low _ hx ih=>exact ih.low hx
theorem Dn.le(c:∀p l,l∈lo p->l<p)(h:Dn lo k x):x<=k:=by
 induction h with
 |here=>exact bV _
 |low _ hx ih=>have:=c _ _ hx;omega
theorem Dn.first(h:Dn lo k x):x=k\/∃l∈lo k,Dn lo l x:=by
 induction h with
 |here=>exact .inl rfl
 |low _ hx ih=>
  rcases ih with rfl|⟨l,hl,g⟩
  ·exact .inr #v[_,hx,.here]
  ·exact .inr #v[l,hl,g.low hx]
theorem ZqV(d:∀p l,l∈lo p->l<p):∀n p:Nat,p<n->nU lo (λc=>c∈([]:List Nat)) p:=by
 intro n
 induction n with
 |zero=>intro p hp;omega
 |succ n ih=>
  intro p hp;cases h:lo p with
  |nil=>exact .iZ (by simp) h
  |cons x r=>
   have hx:x∈lo p:=by rw[h];exact uh ..
   exact .up (by simp) hx (ih x (by have:=d p x hx;omega))
theorem ZqU{ab:Ab}{c:Nat->Prop}{K:Nat->Prop}(S:pY lo c ab K){C:Nat->Prop}(d:∀p,wv K p->C p){x:Nat}(h:nU lo C x):¬K (2*x):=by
 induction h with
 |iZ nb hl=>intro hk;exact nb (d _ #v[hk,λz=>S.xw _ z hl])
 |up nb hl _ ih=>intro hk;exact nb (d _ #v[hk,λz=>ih (S.low z hl)])
theorem KS(F:Flow lo c ab)(h:Wy ab p x):Dn lo x p:=by
 induction h with
 |here=>exact .here
 |up h hp ih=>exact(Dn.low .here (F.up _ _ hp).1).trans ih
structure WZ (lo:Nat->List Nat) (lv:Nat->Nat) (s k:Nat) (C:List Nat):Prop where
 mono:∀l∈lo k,lv l<=lv k
 tZ:C.Pairwise (· < ·)
 len:C.length<=s
 dn:∀c∈C,Dn lo k c/\c≠k
 le:∀c∈C,lv c+1<=lv k
 xw:∀l∈lo k,¬nU lo (λc=>c∈C) l
 low:∀B:List Nat,B.length<=s->(∀l∈lo k,¬nU lo (λc=>c∈B) l)->∃c∈B,lv k<=lv c+1
theorem WZ.ext{g d:Nat->Nat}{s k:Nat}{C:List Nat}(f:∀p l,l∈lo p->l<p)(h:WZ lo g s k C)(he:∀x,x<=k->d x=g x)(hm:∀x,g x<=d x):WZ lo d s k C where
 mono:=λl hl=>by rw[he k (bV _),he l (by have:=f k l hl;omega)];exact h.mono l hl
 tZ:=h.tZ
 len:=h.len
 dn:=h.dn
 le:=λc hc=>by rw[he k (bV _),he c ((h.dn c hc).1.le f)];exact h.le c hc
 xw:=h.xw
 low:=λB i hd=>by obtain⟨c,hc,z⟩:=h.low B i hd;exact#v[c,hc,by rw[he k (bV _)];have:=hm c;omega]
section
variable {lv:Nat->Nat}{s k g:Nat} (oh:∀p l,l∈lo p->l<p) (wj:lo k≠[])
include oh
include wj
theorem Zvh:∀l∈lo k,¬nU lo (λc=>c∈lo k) l:=λl hl w=>by
 cases w with
 |iZ n _=>exact n hl
 |up n _ _=>exact n hl
end
end ML
namespace ML
open MZ
structure Cu (lo:Nat->List Nat) (s k:Nat) (C:List Nat):Prop where
 tZ:C.Pairwise (· < ·)
 len:C.length<=s
 dn:∀c∈C,Dn lo k c/\c≠k
 xw:∀l∈lo k,¬nU lo (λc=>c∈C) l
variable {lo:Nat->List Nat}{s k:Nat}{C:List Nat} (oh:∀p l,l∈lo p->l<p)
include oh
theorem Z2(d:lo k≠[])(hr:(lo k).Pairwise (· < ·))(h2:(lo k).length<=s):Cu lo s k (lo k):=#v[hr,h2,λc hc=>#v[.low .here hc,by have:=oh k c hc;omega],Zvh oh d]
theorem Zvj{d:Nat->Prop}{ab:Ab}(F:Flow lo d ab)(i:∀z,d z->Dn lo k z)(f:d k){n:Nat}(hn:∀p,ab p≠Ae->p<n){q:List Nat}(r:q.Nodup)(mem:∀t,t∈q ↔ lo t=[]/\ab t≠Ae)(hs:q.length<=s)
  {K:Nat->Prop} (S:pY lo d ab K) (hr:C.Pairwise (· < ·)) (g:∀p,p∈C ↔ wv K p):Cu lo s k C where
 tZ:=hr
 len:=by have:=ZoL S F oh hn r (hr.imp λh=>gW h) mem g;omega
 dn:=λc hc=>by have hd:=ZnU S ((g c).mp hc);obtain⟨x,hx,m⟩:=Xx F oh hn (n-c) c (bV _) hd;obtain⟨z,hz,j⟩:=F.top x m;exact#v[((i z hz).low j).trans (KS F hx),λe=>F.ng c hd (e ▸ f)]
 xw:=λl hl w=>ZqU S (λp hp=>(g p).mpr hp) w (S.all k l f hl)
theorem Cu.pos(d:lo k≠[])(h:Cu lo s k C):0<C.length:=by
 cases C with
 |cons c B=>exact Nat.zero_lt_succ _
 |nil=>obtain⟨l,hl⟩:=List.exists_mem_of_ne_nil _ d;exact absurd (ZqV oh (l+1) l ⋯) (h.xw l hl)
end ML
namespace MP
open MF (Sub)
def base(m L:Nat)(x:Int):Bool:=decide (1<=x/\x<=m)&&L.testBit (x-1).toNat
def pcS(F:Nat)(d:List Nat)(c:Nat):List Nat:=(dX (d.length/2)).map λi=>(c&&&d.getD (2*i+1) 0) |||((F^^^c)&&&d.getD (2*i) 0)
end MP
namespace L2
def VH(g h:TE):TE:=λσ H Q=>g σ H λx f=>∃a,x=.ref a/\W1 f a/\h σ f λy d=>∃b kvs c,y=.ref b/\a≠b/\d a=Aa (.dK kvs)/\d b=Aa (.dK c)/\kvs.length+c.length<=sizeLine/\Q .non (upd d a (.dK (jQ kvs c)))
theorem ZuU(ho:PE X o td)(he:PE X e ty)(m:M1 X o "update" apos e eY):PE X (.Call (.Attribute o "update" apos) [e] [] eY) (VH td ty):=by
 intro f s σ H Q I h;refine wpAny_Call_method m.base m.V8 m.line Zwf Zwg PySem.F.type_dict_update (bY (ho f s σ H _ I h) λu E ⟨x,z,v,C,a,ex,d,A⟩=>?_);subst ex;obtain rfl:u=Value.ref a:=C;obtain⟨G,J,_⟩:=ZtF v d;refine#v[G,J,?_];rw[m.trees];refine Calls.callWith_builtin rfl (Calls.evalArgs_plain (Calls.spliced_cons (bY (he f E σ z _ v A) λiv M ⟨y,L,k,D,b,kvs,c,ey,n,ha,hb,hz,B⟩=>Calls.spliced_nil ?_)));subst ey;obtain rfl:iv=Value.ref b:=D;obtain⟨N,p,vs,i,dd⟩:=Rr k.bP ha;obtain⟨O,r,K,j,l⟩:=Rr k.bP hb;refine call_meetsIn Zwg dd.typeIs PySem.F.entry_dict_update (PySem.F.args_dict_update_2 _ _) (meets_dict_update (lP X.prog X.w) a b n r) #v[vs,K,dd,l,?_,λh' g _ hs=>#v[.non,_,?_,rfl,B]]
 ·rw[<-i.length,<-j.length];exact hz
 ·have t:(jQ kvs c).length<=sizeLine:=lC (IP c kvs) hz;have he:∃q,h'.get? a=Aa q:=let ⟨q,_,_,hq,_⟩:=g;#v[q,hq];exact Sq k (by rw[ha];exact True.intro) hs he (JX t p (j.merge i) g)
def Ft(K:aE):List V->Hp->VK->Prop:=λvs H Q=>match vs with
 |[.ref a]=>∃ns:List Int,cB K H a (ns.map V.int)/\Q (.int ns.sum) H
 |_=>False
theorem J4(hc:X.calm=Ai):mR X (.builtin "sum") (Ft X.K):=by
 intro f s σ H xs us Q I r h
 match xs,h with
 |[.ref p],h=>
  obtain⟨ns,hq,q⟩:=h;obtain⟨j,rfl,e1⟩:=sG r;cases e1;obtain⟨its,g,pl,hz⟩:=I.list hq;have d:=S4 g;obtain⟨xs,c⟩:=d.allInts.items;have hn:numsOf (intItems xs).toList=ns:=by rw[<-c];exact d.numsOf
  rw[nums_intItems]at hn;have hl:=pl.isList;rw[c]at hl;refine sum_intListG (I.ok.hd hc) hl λh' i t' hk=>?_;refine#v[.int _,H,I.kept (t':=i) hk,#v[t',rfl],?_];rw[preSum_eq,yD (by simp),hn];exact q
def bN(u:TS):TS:=u
theorem bX(h:nc X l u):nc X l (bN u):=h
theorem nms(h:aV t u D σ H):bN (aV t u) D σ H:=h
theorem Ti(h:yt t u D σ H):bN (yt t u) D σ H:=h
theorem nmf(h:gU i g u D σ H):bN (gU i g u) D σ H:=h
theorem nmw(h:yN c u D σ H):bN (yN c u) D σ H:=h
theorem nmi(h:eK c t u D σ H):bN (eK c t u) D σ H:=h
theorem nmr{e:TE}(h:cY e D σ H):bN (cY e) D σ H:=h
theorem CG(h:∀N:St->Hp->Prop,(∀d c,u D d c->N d c)->t { D with nx:=N } σ H):bN (aV t u) D σ H:=h (u D) λ_ _ x=>x
theorem TB{P:St->Hp->Prop}{B:(St->Hp->Prop)->Prop}(h:∀N:St->Hp->Prop,(∀σ H,P σ H->N σ H)->B N):∃N:St->Hp->Prop,(∀σ H,N σ H->P σ H)/\B N:=#v[P,λ_ _ x=>x,h P λ_ _ x=>x]
theorem nma{e:TE}(h:cK e g D σ H):bN (cK e g) D σ H:=h
end L2
namespace DJ
open L2
def top (i:Nat):Az:=PySem.Challenge.pw_gatefold_k36_laid.main.body.getD i (.Pass ⟨0,0,0,0⟩)
abbrev tD:List Str:=["_law_pairs","_law_cut","_law_knot"]
abbrev DM:List Str:=["_law_pieces","_law_ties","_law_pairs","_law_many","_law_size"]
abbrev uO:List Str:=["self","knot"]
abbrev zI:List Str:=["knot","cut","table"]
abbrev Dr:List Str:=["_law_piece_here","_law_pairs","_law_many","_law_size"]
abbrev Hr:List Str:=["_law_fold","_law_script","_law_last","_law_most"]
abbrev xk:List Str:=["self","knot","level","cut","ways"]
abbrev wS:List Str:=["self","many","pieces","ties"]
abbrev xU:List Str:=["thing","least","greatest"]
abbrev GK:List Str:=["_law_fold","_law_ties","_law_off"]
abbrev ux:List Str:=["self"]
abbrev QU:List Str:=["_law_script","_law_k"]
abbrev Vy:List Str:=["self","maze","inner","size"]
abbrev QX:List Str:=["lit","pair","every"]
abbrev Se:List Str:=["_law_k","_law_fold"]
abbrev R9:List Str:=["lit","tie","every"]
abbrev Us:List Str:=["_law_cell","_law_total"]
abbrev Y9:List Str:=["_law_fold","_law_count"]
abbrev UR:List Str:=["above","came","spring"]
abbrev JT:List Str:=["_law_script"]
abbrev XY:List Str:=["fold","knots","stops"]
abbrev zq:List Str:=["place"]
abbrev Tt:List Str:=["maze","goals","above"]
abbrev zH:List Str:=["lower"]
abbrev T4:List Str:=["maze","goals","most"]
abbrev zW:List Str:=["lower","knot","self","greatest"]
abbrev YJ:List Str:=["fold","knot","some"]
abbrev Yn:List Str:=["maze","above","end"]
abbrev X6:List Str:=["self","fold","size"]
abbrev Ur:List Str:=["fold","ties","size"]
abbrev Tu:List Str:=["self","one","other"]
abbrev RO:List Str:=["cut","lowers"]
abbrev Tw:List Str:=["fold","knot","cut"]
abbrev Sn:List Str:=["fold","knot"]
abbrev QJ:List Str:=["self","many"]
abbrev Su:List Str:=["self","ties"]
abbrev D8:List Str:=["many"]
abbrev R4:List Str:=["self","tie"]
abbrev Sx:List Str:=["_law_found"]
abbrev UB:List Str:=["above","spring"]
abbrev yL:List Str:=["lower","self","greatest"]
abbrev Wz:List Str:=["many","pieces"]
abbrev YI:List Str:=["ties","lowers"]
abbrev Te:List Str:=["maze","goals"]
abbrev Yw:List Str:=["maze","above"]
abbrev yp:List Str:=["lower","fold","stops"]
abbrev WX:List Str:=["one","other"]
abbrev QB:List Str:=["numbers"]
abbrev yT:List Str:=["_law_k","_law_many"]
abbrev Iz:List Str:=["tie"]
abbrev QG:List Str:=["thing"]
abbrev Jo:Az:=top 2
abbrev ZgI:List Str:=D8
local macro_rules | `(tactic| walk_at "s")=>`(tactic| exact ⟨rfl,rfl,rfl,by decide +kernel,rfl,by decide +kernel,by decide +kernel⟩)
theorem Zi6:aH ZgI D8 (bZ Jo):=by walk_at"s"
abbrev I8:Az:=top 3
abbrev U2:List Str:=["many","columns","every","width","place"]
theorem yU:aH U2 D8 (bZ I8):=by walk_at"s"
abbrev Qc:Az:=top 15
abbrev Zj1:List Str:=QX
theorem ZmU:aH Zj1 QX (bZ Qc):=by walk_at"s"
abbrev Oq:Az:=top 16
abbrev Z3:List Str:=R9
theorem ZoR:aH Z3 R9 (bZ Oq):=by walk_at"s"
abbrev Qm:Az:=top 18
abbrev Zj2:List Str:=QG
theorem ZmV:aH Zj2 QG (bZ Qm):=by walk_at"s"
abbrev OX:Az:=top 19
abbrev Zhy:List Str:=xU
theorem Zks:aH Zhy xU (bZ OX):=by walk_at"s"
abbrev Ij:Az:=top 20
abbrev X8:List Str:=QB
theorem ZlC:aH X8 QB (bZ Ij):=by walk_at"s"
abbrev IK:Az:=top 25
abbrev Yt:List Str:=RO
theorem ZlD:aH Yt RO (bZ IK):=by walk_at"s"
abbrev Iw:Az:=top 26
abbrev WY:List Str:=["many","pieces","lowers","top","knot","cut","table"]
theorem Dx:aH WY Wz (bZ Iw):=by walk_at"s"
abbrev NN:Az:=top 27
abbrev Z7:List Str:=["ties","lowers","tie"]
theorem Zhr:aH Z7 YI (bZ NN):=by walk_at"s"
abbrev HG:Az:=fB (top 29) 0
abbrev UE:List Str:=wS
theorem ZgS:aH UE wS (bZ HG):=by walk_at"s"
abbrev Iv:Az:=fB (top 29) 1
abbrev TW:List Str:=ux
theorem Zii:aH TW ux (bZ Iv):=by walk_at"s"
abbrev LI:Az:=fB (top 29) 2
abbrev ZhB:List Str:=ux
theorem Zkv:aH ZhB ux (bZ LI):=by walk_at"s"
abbrev IR:Az:=top 31
abbrev Y8:List Str:=["fold","knots","stops","seen","knot","tie"]
theorem Qg:aH Y8 XY (bZ IR):=by walk_at"s"
abbrev JS:Az:=top 32
abbrev ZtW:List Str:=Sn
theorem ZuE:aH ZtW Sn (bZ JS):=by walk_at"s"
abbrev xO:Az:=top 33
abbrev Jc:List Str:=["fold","knot","some","within","stops"]
theorem Yk:aH Jc YJ (bZ xO):=by walk_at"s"
abbrev Ln:Az:=top 35
abbrev ZtU:List Str:=zq
theorem ZuC:aH ZtU zq (bZ Ln):=by walk_at"s"
abbrev OL:Az:=top 36
abbrev ZM:List Str:=zq
theorem ZuD:aH ZM zq (bZ OL):=by walk_at"s"
abbrev Pm:Az:=top 37
abbrev Zhw:List Str:=["maze","goals","goal"]
theorem Zgb:aH Zhw Te (bZ Pm):=by walk_at"s"
abbrev HH:Az:=top 38
abbrev W4:List Str:=["maze","above","end","place"]
theorem Zhq:aH W4 Yn (bZ HH):=by walk_at"s"
abbrev JD:Az:=top 39
abbrev Zot:List Str:=["maze","goals","above","came","goal","lower","waiting","end","place","ahead"]
theorem zK:aH Zot Tt (bZ JD):=by walk_at"s"
abbrev Qb:Az:=top 40
abbrev ZtT:List Str:=["above","came","spring","end","place","upper"]
theorem Jg:aH ZtT UR (bZ Qb):=by walk_at"s"
abbrev OW:Az:=top 41
abbrev Zj0:List Str:=["above","spring","way"]
theorem Zie:aH Zj0 UB (bZ OW):=by walk_at"s"
abbrev Gv:Az:=top 42
abbrev Rf:List Str:=["maze","above","springs"]
theorem ZjF:aH Rf Yw (bZ Gv):=by walk_at"s"
abbrev Ib:Az:=top 43
abbrev Yc:List Str:=["came"]
theorem ZmT:aH Yc ["came"] (bZ Ib):=by walk_at"s"
abbrev LU:Az:=top 44
abbrev ZrI:List Str:=["maze","goals","most","above","number","found"]
theorem Q9:aH ZrI T4 (bZ LU):=by walk_at"s"
abbrev MT:Az:=top 48
abbrev ZiT:List Str:=["size"]
theorem ZlA:aH ZiT ["size"] (bZ MT):=by walk_at"s"
abbrev JE:Az:=top 49
abbrev Zmy:List Str:=["fold","maze","knot","pair"]
theorem Q2:aH Zmy ["fold"] (bZ JE):=by walk_at"s"
abbrev PJ:Az:=fB (top 50) 0
abbrev Zd1:List Str:=["self","fold","size","maze","knot"]
theorem Y1:aH Zd1 X6 (bZ PJ):=by walk_at"s"
abbrev zw:Az:=fB (top 50) 1
abbrev L6:List Str:=["self","maze","inner","size","knot","lowers","greatest","goals","told","same"]
theorem DP:aH L6 Vy (bZ zw):=by walk_at"s"
abbrev Nw:Az:=fB (top 50) 2
abbrev ZgJ:List Str:=xk
theorem Zi7:aH ZgJ xk (bZ Nw):=by walk_at"s"
abbrev LJ:Az:=fB (top 50) 3
abbrev Zch:List Str:=uO
theorem Zd6:aH Zch uO (bZ LJ):=by walk_at"s"
abbrev Ld:Az:=fB (top 50) 5
abbrev Zhz:List Str:=uO
theorem Zkt:aH Zhz uO (bZ Ld):=by walk_at"s"
abbrev Ih:Az:=top 52
abbrev WE:List Str:=["fold","knot","cut","every","lit","between","lower"]
theorem OU:aH WE Tw (bZ Ih):=by walk_at"s"
abbrev CF:Az:=top 54
abbrev SC:List Str:=["fold","ties","size","labels","needed","pieces","knot","cut"]
theorem I0:aH SC Ur (bZ CF):=by walk_at"s"
abbrev Oe:Az:=top 58
abbrev Zos:List Str:=Iz
theorem Zp2:aH Zos Iz (bZ Oe):=by walk_at"s"
abbrev KR:Az:=fB (top 59) 0
abbrev Zfa:List Str:=QJ
theorem ZhI:aH Zfa QJ (bZ KR):=by walk_at"s"
abbrev M7:Az:=fB (top 59) 1
abbrev ZhA:List Str:=ux
theorem Zku:aH ZhA ux (bZ M7):=by walk_at"s"
abbrev Qk:Az:=fB (top 59) 2
abbrev ZfC:List Str:=R4
theorem Zih:aH ZfC R4 (bZ Qk):=by walk_at"s"
abbrev L7:Az:=fB (top 59) 3
abbrev ZiW:List Str:=uO
theorem ZlE:aH ZiW uO (bZ L7):=by walk_at"s"
abbrev Pt:Az:=fB (top 59) 4
abbrev ZiX:List Str:=["self","one","other","first","second"]
theorem UY:aH ZiX Tu (bZ Pt):=by walk_at"s"
abbrev La:Az:=fB (top 59) 5
abbrev Ze9:List Str:=Su
theorem ZhH:aH Ze9 Su (bZ La):=by walk_at"s"
abbrev O2:Az:=top 61
abbrev ZgH:List Str:=QU
theorem Zi5:aH ZgH QU (bZ O2):=by walk_at"s"
abbrev J5:Az:=top 62
abbrev ZiU:List Str:=Sx
theorem ZlB:aH ZiU Sx (bZ J5):=by walk_at"s"
abbrev Le:Az:=top 63
abbrev ZmA:List Str:=["_law_cell","_law_total","_law_some","_law_j","_law_count"]
theorem Kb:aH ZmA Us (bZ Le):=by walk_at"s"
abbrev NO:Az:=top 64
abbrev Zhx:List Str:=["_law_fold","_law_count","_law_top","_law_k"]
theorem QH:aH Zhx Y9 (bZ NO):=by walk_at"s"
abbrev HE:Az:=top 65
abbrev Ui:List Str:=["_law_fold","_law_script","_law_last","_law_most","_law_k","_law_cell","_law_one","_law_other","_law_left"]
theorem HR:aH Ui Hr (bZ HE):=by walk_at"s"
abbrev IV:Az:=top 66
abbrev WR:List Str:=["_law_pairs","_law_cut","_law_knot","_law_size","_law_known","_law_j","_law_k","_law_low","_law_high","_law_full","_law_left"]
theorem ye:aH WR tD (bZ IV):=by walk_at"s"
abbrev Ir:Az:=top 67
abbrev WI:List Str:=["_law_pairs","_law_cut","_law_knot","_law_pile","_law_met","_law_k"]
theorem Qz:aH WI tD (bZ Ir):=by walk_at"s"
abbrev Lu:Az:=top 68
abbrev ZiV:List Str:=["_law_piece_here","_law_pairs","_law_many","_law_size","_law_knot","_law_cut","_law_bits","_law_j"]
theorem J3:aH ZiV Dr (bZ Lu):=by walk_at"s"
abbrev Pi:Az:=top 69
abbrev ZgG:List Str:=["_law_fold","_law_ties","_law_off","e"]
theorem Zfw:aH ZgG GK (bZ Pi):=by walk_at"s"
abbrev Iu:Az:=top 70
abbrev T6:List Str:=["_law_pieces","_law_ties","_law_pairs","_law_many","_law_size","_law_need","_law_tie","_law_last","_law_piece_here","_law_k"]
theorem GP:aH T6 DM (bZ Iu):=by walk_at"s"
abbrev HF:Az:=top 71
abbrev Xh:List Str:=["_law_script","_law_many","_law_size","_law_fold","_law_most","_law_pairs","_law_cell","_law_ties","_law_j","_law_one","_law_late","_law_handed","_law_board","_law_told","_law_off"]
theorem qx:aH Xh JT (bZ HF):=by walk_at"s"
set_option genInjectivity false in
set_option genSizeOf false in
structure bC where
 gH:Ad
 kw:Ao
 eZ:Ad
 iL:Ao
 kJ:Ad
 nD:Ao
 ma:Ad
 pi:Ao
 kN:Ad
 nM:Ao
 hV:Ad
 lj:Ao
 jI:Ad
 mu:Ao
 jM:Ad
 mI:Ao
 gE:Ad
 kz:Ao
 jC:Ad
 mG:Ao
 dG:Ad
 gN:Ao
 fJ:Ad
 jL:Ao
 gY:Ad
 lz:Ao
 lZ:Ad
 oU:Ao
 rN:Ad
 vK:Ao
 nk:Ad
 qq:Ao
 sy:Ad
 vW:Ao
 sD:Ad
 vA:Ao
 iA:Ad
 kW:Ao
 jB:Ad
 mK:Ao
 nS:Ad
 qp:Ao
 sm:Ad
 vJ:Ao
 kL:Ad
 nP:Ao
 lI:Ad
 oY:Ao
 kG:Ad
 nB:Ao
 pu:Ad
 sV:Ao
 iW:Ad
 mF:Ao
 lV:Ad
 pk:Ao
 cX:Ad
 fW:Ao
 eS:Ad
 iM:Ao
 gC:Ad
 ku:Ao
 cU:Ad
 dY:Ao
 hU:Ad
 lr:Ao
 pA:Ad
 sP:Ao
 rP:Ad
 vZ:Ao
 ni:Ad
 qN:Ao
 dR:Ad
 iH:Ao
 hH:Ad
 lg:Ao
 fK:Ad
 jE:Ao
 jK:Ad
 mh:Ao
 iY:Ad
 mE:Ao
 eW:Ad
 iC:Ao
 gD:Ad
 km:Ao
 iT:Ad
 me:Ao
 lM:Ad
 oM:Ao
 hZ:Ad
 kZ:Ao
 fM:Ad
 jJ:Ao
 fZ:Ad
 kj:Ao
 iX:Ad
 mv:Ao
 jA:Ad
 mj:Ao
 gG:Ad
 ko:Ao
 iV:Ad
 mx:Ao
 vg:Ad
 za:Ao
 aN:Ad
 aG:Ad
 aB:Ad
 bA:Ad
 dJ:Ad
 dI:Ad
 cC:Ad
 aS:Ad
 aW:Ad
 bS:Ad
def QS(_:bC):V:=.int 1
def QV(_:bC):V:=.int 999
def R8(_:bC):V:=.int 6
def Rx(_:bC):V:=.int 2
def Ro(_:bC):V:=.int 6
def Ry(_:bC):V:=.int 10
def Ix(_:bC):V:=.int 0
structure Txt (K:aE) (mg:Str->Option Ac) (a:bC):Prop where
 gB:FT K mg "full_column" Jo D8 a.gH a.kw
 iB:FT K mg "input_columns" I8 D8 a.eZ a.iL
 nE:FT K mg "lit_pair" Qc QX a.kJ a.nD
 lK:FT K mg "lit_tie" Oq R9 a.ma a.pi
 hJ:FT K mg "is_whole" Qm QG a.kN a.nM
 eA:FT K mg "is_between" OX xU a.hV a.lj
 jG:FT K mg "is_rising" Ij QB a.jI a.mu
 mJ:FT K mg "is_cut_of" IK RO a.jM a.mI
 kD:FT K mg "need_pieces" Iw Wz a.gE a.kz
 ml:FT K mg "need_ties" NN YI a.jC a.mG
 gO:FM K a.aN "__init__" "Board.__init__" HG wS a.dG a.gN
 dB:FM K a.aN "pieces" "Board.pieces" Iv ux a.fJ a.jL
 dZ:FM K a.aN "ties" "Board.ties" LI ux a.gY a.lz
 jR:FT K mg "reached" IR XY a.lZ a.oU
 si:FT K mg "cone" JS Sn a.rN a.vK
 qJ:FT K mg "is_cut" xO YJ a.nk a.qq
 nO:FT K mg "head" Ln zq a.sy a.vW
 jD:FT K mg "foot" OL zq a.sD a.vA
 fH:FT K mg "need_goals" Pm Te a.iA a.kW
 mf:FT K mg "next_ends" HH Yn a.jB a.mK
 qA:FT K mg "search" JD Tt a.nS a.qp
 vT:FT K mg "lead" Qb UR a.sm a.vJ
 nK:FT K mg "way_from" OW UB a.kL a.nP
 lL:FT K mg "ways_of" Gv Yw a.lI a.oY
 nN:FT K mg "stops_of" Ib ["came"] a.kG a.nB
 s0:FT K mg "apart" LU T4 a.pu a.sV
 fV:FT K mg "need_size" MT ["size"] a.iW a.mF
 oS:FT K mg "maze_of" JE ["fold"] a.lV a.pk
 fY:FM K a.aG "__init__" "Labels.__init__" PJ X6 a.cX a.fW
 fA:FM K a.aG "settle" "Labels.settle" zw Vy a.eS a.iM
 cJ:FM K a.aG "keep" "Labels.keep" Nw xk a.gC a.ku
 cR:FM K a.aG "need_and_knot" "Labels.need_and_knot" LJ uO a.cU a.dY
 hF:FM K a.aG "cut" "Labels.cut" Ld uO a.hU a.lr
 sU:FT K mg "table" Ih Tw a.pA a.sP
 nL:FT K mg "laid" CF Ur a.rP a.vZ
 qM:FT K mg "turned" Oe Iz a.ni a.qN
 iI:FM K a.aB "__init__" "Fold.__init__" KR QJ a.dR a.iH
 aF:FM K a.aB "total" "Fold.total" M7 ux a.hH a.lg
 dD:FM K a.aB "has_tie" "Fold.has_tie" Qk R4 a.fK a.jE
 bW:FM K a.aB "pair" "Fold.pair" L7 uO a.jK a.mh
 aZ:FM K a.aB "both" "Fold.both" Pt Tu a.iY a.mE
 eU:FM K a.aB "and_knot" "Fold.and_knot" La Su a.eW a.iC
 cI:FT K mg "_law_cell_at" O2 QU a.gD a.km
 fU:FT K mg "_law_whole" J5 Sx a.iT a.me
 oO:FT K mg "_law_two" Le Us a.lM a.oM
 kU:FT K mg "_law_row_in" NO Y9 a.hZ a.kZ
 jN:FT K mg "_law_pairs_by" HE Hr a.fM a.jJ
 kq:FT K mg "_law_columns" IV tD a.fZ a.kj
 ms:FT K mg "_law_stops" Ir tD a.iX a.mv
 mH:FT K mg "_law_piece" Lu Dr a.jA a.mj
 kk:FT K mg "_law_no_size" Pi GK a.gG a.ko
 mo:FT K mg "_law_right" Iu DM a.iV a.mx
 zh:FT K mg "law" HF JT a.vg a.za
 qv:mg "Board" = Aa (.ref a.aN)
 dC:sM K a.aN
 nX:Mk K a.aN a.dG
 kr:rV K a.aN "many"
 eN:rV K a.aN "kept_pieces"
 fL:rV K a.aN "kept_ties"
 tz:mg "Labels" = Aa (.ref a.aG)
 bH:sM K a.aG
 l8:Mk K a.aG a.cX
 cM:rV K a.aG "levels"
 cF:rV K a.aG "found_cuts"
 dE:rV K a.aG "found_ways"
 wV:mg "Fold" = Aa (.ref a.aB)
 aJ:sM K a.aB
 pG:Mk K a.aB a.dR
 bM:rV K a.aB "many"
 eM:rV K a.aB "pairs"
 eL:rV K a.aB "knots"
 lm:mg "FoldError" = Aa (.ref a.bA)
 su:mg "NoBoard" = Aa (.ref a.dJ)
 wg:mg "NoCut" = Aa (.ref a.dI)
 t7:mg "NoGoal" = Aa (.ref a.cC)
 jT:mg "NoKnot" = Aa (.ref a.aS)
 oP:mg "NoSize" = Aa (.ref a.aW)
 qH:mg "NoTie" = Aa (.ref a.bS)
 nq:vq K a.dI [.type "ValueError",.type "Exception",.type "BaseException",.type "object"] "ValueError.__new__" = Ai
 qQ:rd K a.dI=Ai
 qU:eC K (.ref a.dI) (.type "ValueError")=Aa Ai
 r0:(L2.mroIn K a.dI).contains (.ref a.bA)=Ai
 iK:(L2.mroIn K a.dI).contains (.ref a.aW)=Ah
 sj:eC K (.ref a.dI) (.ref a.bA)=Aa Ai
 uu:eC K (.ref a.dI) (.ref a.dJ)=Aa Ah
 iD:eC K (.ref a.dI) (.ref a.aS)=Aa Ah
 jH:eC K (.ref a.dI) (.ref a.bS)=Aa Ah
 lT:vq K a.cC [.type "ValueError",.type "Exception",.type "BaseException",.type "object"] "ValueError.__new__" = Ai
 pj:rd K a.cC=Ai
 pd:eC K (.ref a.cC) (.type "ValueError")=Aa Ai
 ri:(L2.mroIn K a.cC).contains (.ref a.bA)=Ai
 tP:(L2.mroIn K a.cC).contains (.ref a.aW)=Ah
 qZ:eC K (.ref a.cC) (.ref a.bA)=Aa Ai
 sQ:eC K (.ref a.cC) (.ref a.dJ)=Aa Ah
 tQ:eC K (.ref a.cC) (.ref a.aS)=Aa Ah
 iJ:eC K (.ref a.cC) (.ref a.bS)=Aa Ah
 gQ:vq K a.aS [.type "ValueError",.type "Exception",.type "BaseException",.type "object"] "ValueError.__new__" = Ai
 o6:rd K a.aS=Ai
 pe:eC K (.ref a.aS) (.type "ValueError")=Aa Ai
 rD:(L2.mroIn K a.aS).contains (.ref a.bA)=Ai
 gK:(L2.mroIn K a.aS).contains (.ref a.aW)=Ah
 qW:eC K (.ref a.aS) (.ref a.bA)=Aa Ai
 tm:eC K (.ref a.aS) (.ref a.dJ)=Aa Ah
 tE:eC K (.ref a.aS) (.ref a.aS)=Aa Ai
 iF:eC K (.ref a.aS) (.ref a.bS)=Aa Ah
 lQ:vq K a.aW [.type "ValueError",.type "Exception",.type "BaseException",.type "object"] "ValueError.__new__" = Ai
 gL:rd K a.aW=Ai
 lU:eC K (.ref a.aW) (.type "ValueError")=Aa Ai
 qY:(L2.mroIn K a.aW).contains (.ref a.bA)=Ai
 eI:(L2.mroIn K a.aW).contains (.ref a.aW)=Ai
 jX:eC K (.ref a.aW) (.ref a.bA)=Aa Ai
 ly:eC K (.ref a.aW) (.ref a.dJ)=Aa Ah
 lN:eC K (.ref a.aW) (.ref a.aS)=Aa Ah
 eR:eC K (.ref a.aW) (.ref a.bS)=Aa Ah
 nC:vq K a.bS [.type "ValueError",.type "Exception",.type "BaseException",.type "object"] "ValueError.__new__" = Ai
 qB:rd K a.bS=Ai
 qF:eC K (.ref a.bS) (.type "ValueError")=Aa Ai
 rK:(L2.mroIn K a.bS).contains (.ref a.bA)=Ai
 iG:(L2.mroIn K a.bS).contains (.ref a.aW)=Ah
 rW:eC K (.ref a.bS) (.ref a.bA)=Aa Ai
 ul:eC K (.ref a.bS) (.ref a.dJ)=Aa Ah
 iE:eC K (.ref a.bS) (.ref a.aS)=Aa Ah
 iU:eC K (.ref a.bS) (.ref a.bS)=Aa Ai
 nG:eC K (.ref a.aN) (.ref a.aN)=Aa Ai
 nH:lO K (.ref a.aN) "__class__" = Aa (Aa (.builtin "object.__class__"))
 nY:Mi K (.builtin "object.__class__") "__get__" = Aa (Aa (.builtin "getset_descriptor.__get__"))
 nJ:Sz K (.builtin "object.__class__")=Aa Ai
 nw:Lp K a.aN (.type "object")=Aa Ai
 hY:qo K a.bA "BaseException" = Ai
 qS:qo K a.dI "BaseException" = Ai
 o7:qo K a.cC "BaseException" = Ai
 pb:qo K a.aS "BaseException" = Ai
 jO:qo K a.aW "BaseException" = Ai
 qu:qo K a.bS "BaseException" = Ai
 ur:∃u,mg "ALWAYS" = Aa u/\cH (QS a) u
 mc:∃u,mg "GREATEST_KNOT" = Aa u/\cH (QV a) u
 lW:∃u,mg "GREATEST_SIZE" = Aa u/\cH (R8 a) u
 ox:∃u,mg "LEAST_SIZE" = Aa u/\cH (Rx a) u
 nW:∃u,mg "LONGEST_CUT" = Aa u/\cH (Ro a) u
 nI:∃u,mg "MOST_INPUTS" = Aa u/\cH (Ry a) u
 nV:∃u,mg "NEVER" = Aa u/\cH (Ix a) u
 oo:mg "ValueError" = Ae
 px:mg "all" = Ae
 sR:mg "bool" = Ae
 jS:mg "dict" = Ae
 pW:mg "int" = Ae
 bJ:mg "isinstance" = Ae
 bR:mg "len" = Ae
 fX:mg "list" = Ae
 vY:mg "max" = Ae
 pQ:mg "min" = Ae
 bO:mg "range" = Ae
 qy:mg "reversed" = Ae
 oX:mg "sorted" = Ae
 FD:mg "sum" = Ae
 lq:mg "tuple" = Ae
 u8:mg "zip" = Ae
seal PE PT PS nc PA PG Ig PI PO PW Da PPs PK PC C5 PIp dO PV mR sK xM Ng Ki yt bN
set_option hygiene false
local macro_rules | `(tactic| walk_at "g0")=>`(tactic| try simp only [aV,QS,QV,R8,Rx,Ro,Ry,Ix,cK,aU,zG,o8,xS,xP,aK,tC,aA,cZ,dA,pP,qh,mP,zS,yP,Lo,QM,zQ,cO,kS,wh,cY,Xa,yN,li,eK,Oa,dH,aC,aI,fI,dF,k9,cInt,wB,tK,Gp,tG,lR,lE,xp,uD,vy,EV,zf,zR,ZpL,Zr7,ZpJ,ZpI,ZoK,ZpO,ZoJ,ZpN,t6,OY,Q8,eJ,WJ,GU,Pe,YF,Jd,Hb,Ys,Zr9,Zvt,Ztd,qV,wP,uU,rF,uf,wa,Ll,fQ,kR,vB,XN,ZoI,YQ,QO,yf,S5,YC,EI,Ft,VH,Xp,xB,Ho,Ml,Vf,EH,Zq,vf,Fa,Zr6,ZpH,RN,ZpK,Zsb,Fq,Zr8,xt,List.cons_append,List.nil_append,Ja,Hz,List.set_cons_zero,List.set_cons_succ,decide_eq_true_eq,if_true,if_false,vE,eq_self,decide_true,decide_false,Bool.not_true,Bool.not_false,Bool.not_eq_true',decide_eq_false_iff_not,Bool.and_true,RJ])
local macro_rules | `(tactic| walk_at "go")=>`(tactic| (walk_at "g0";repeat ((first | (with_reducible (first | refine nms ?_ | refine Ti ?_ | refine nmf ?_ | refine nmi ?_ | refine nmr ?_ | refine nmw ?_ | refine nma ?_)) | refine nms ?_ | refine Ti ?_ | refine nmf ?_ | refine nmi ?_ | refine nmr ?_);walk_at "g0")))
local macro_rules | `(tactic| walk_at "sd")=>`(tactic| first | exact And.intro (by decide) (by decide) | decide | omega | exact Or.inl (And.intro ⋯ ⋯) | exact Or.inr (And.intro ⋯ ⋯) | exact And.intro ⋯ (And.intro ⋯ (by decide)) | exact And.intro ⋯ ⋯)
local macro_rules | `(tactic| walk_at "")=>`(tactic| (walk_at "go";repeat (first | (refine And.intro (by walk_at "sd") ?_;walk_at "go"))))
local macro_rules | `(tactic| walk_at "o")=>`(tactic| first | exact Or.inl rfl | exact Or.inr rfl)
variable {P:Al}{w:Au}{K:aE}{mg:Str->Option Ac}{base:Ax}{a:bC}
def Zlw(_:aE):Sp:=λvs H Q _=>∃t:Int,vs=[.int t]/\0<=t/\Q (.int (MF.tn t)) H
def W8(K:aE):TS:=(cY (aK (cZ λi j=>.int (Builtin.bitXor i j)) (aA 0) (tC (.int 1))))
theorem kQ:(20000:Nat)<=sizeLine:=by decide
theorem Zpz(T:Txt K mg a):TM P w K mg base 0 "turned" Oe Zos a.ni (W8 K):=λhr=>(bD (dM (bK xY (cv 0) aR)))
theorem ZqA(T:Txt K mg a):a0 P w K mg base fD 1 a.ni a.qN Iz (Zlw K):=by
 refine T.qM.n.gJ Zp2 (Zpz T) (λvs H Q E h=>?_) (λH vs Q E h=>?_)
 ·obtain⟨t,rfl,_⟩:=h;rfl
 ·obtain⟨t,rfl,h0,q⟩:=h;show W8 K _ [Aa (.int t)] H;unfold W8;walk_at"go";rw[IQ h0];exact q
def Yg(a:bC)(K:aE):Sp:=λvs H Q _=>∃(x dx:Ad) (m:Int),vs=[.ref x,.int m]/\H x=Aa (.ins a.aB dx []) /\
 ∀c pl d,(∀b o,b≠x->H b=Aa o->c b=Aa o)->H pl=Ae->H d=Ae->bB a.aB c x m [] dx pl d->Q .non c
def W7(K:aE):TS:=(aV (vB K (aA 0) (aA 1) "many")
  (aV (vB K (aA 0) (kT aI) "pairs")
  (vB K (aA 0) RA "knots")))
theorem ZhG(T:Txt K mg a):TM P w K mg base 0 "Fold.__init__" KR Zfa a.dR (W7 K):=
 λhr=>(aX (xJ (cv 0) (cv 1) rfl)
   (aX (xJ (cv 0) (lJ aM) rfl)
   (bD (xJ (cv 0) Zsz rfl))))
theorem ZhV(T:Txt K mg a):a0 P w K mg base fD 1 a.dR a.iH QJ (Yg a K):=by
 refine T.iI.n.gJ ZhI (ZhG T) (λvs H Q E h=>?_) (λH vs Q E h=>?_)
 ·obtain⟨x,dx,m,rfl,_⟩:=h;rfl
 ·obtain⟨x,dx,m,rfl,hx,q⟩:=h;show W7 K _ [Aa (.ref x),Aa (.int m)] H;unfold W7;walk_at"go";refine#v[x,a.aB,dx,[],rfl,hx,T.aJ,T.bM,by decide,?_];walk_at"go";refine#v[by decide,λpl u g=>?_];have v:=g.same _ _ (cN (H:=H) (a:=x) (o:=.ins a.aB dx (eO "many" (.int m) [])));refine#v[x,a.aB,dx,_,rfl,v,T.aJ,T.eM,by have:=vp "many" (.int m) [];simp only[rA]at this;omega,?_];walk_at"go";intro f k i;have y:=i.same _ _ (cN (H:=u) (a:=x) (o:=.ins a.aB dx (eO "pairs" (.ref pl) (eO "many" (.int m) []))));refine#v[x,a.aB,dx,_,rfl,y,T.aJ,T.eL,by have h7:=vp "many" (.int m) [];have h8:=vp "pairs" (.ref pl) (eO "many" (.int m) []);simp only[rA]at h7;omega,?_];have d:pl≠x:=λe=>by have:=g.cL;rw[e,cN]at this;cases this
  have c:f≠x:=λe=>by have:=i.cL;rw[e,cN]at this;cases this
  have p:k pl=Aa (.lst []):=i.same _ _ (by rw[bE d];exact g.at_);have l:k f=Aa (.dT []):=i.at_
  have st:∀b o,b≠x->H b=Aa o->k b=Aa o:=λb o j e=>i.same _ _ (by rw[bE j];exact g.same _ _ (by rw[bE j];exact e))
  have t:H pl=Ae:=by have:=g.cL;rw[bE d]at this;exact this
  have r:H f=Ae:=by have h1:=i.cL;rw[bE c]at h1;have h2:=g.same.nil h1;rw[bE c]at h2;exact h2
  refine q _ pl f (λb o j e=>by rw[bE j];exact st b o j e) t r #v[?_,?_,?_,λe he=>nomatch he]
  ·rw[cN]
   have e1:eO "knots" (.ref f) (eO "pairs" (.ref pl) (eO "many" (.int m) []))=([("many",V.int m),("pairs",V.ref pl),("knots",V.ref f)]:List (Str×V)):=by have z:¬("many" : Str) = "pairs":=∅;have A:¬("many" : Str) = "knots":=∅;have B:¬("pairs" : Str) = "knots":=∅;simp[eO,z,A,B]
   rw[e1]
  ·rw[bE d];exact p
  ·rw[bE c];exact l
def qR(a:bC)(_:aE):Sp:=λvs H Q _=>∃(f dx pl c:Ad) (m:Int) (es:List En),vs=[.ref f]/\bB a.aB H f m es dx pl c/\Q (.int (1+m+es.length)) H
def Yi(K:aE):TS:=(cY (aK pP (aK pP (tC (.int 1)) (kR K (aA 0) "many")) (dF (k9 K) (aC (kR K (aA 0) "pairs") aI))))
theorem Zkn(T:Txt K mg a):TM P w K mg base 0 "Fold.total" M7 ZhA a.hH (Yi K):=λhr=>(bD (dM (bK qO (bK qO aR (lB (cv 0))) (eV lS (by rfl) T.bR PySem.boot_len (aD (lB (cv 0)) aM)))))
theorem rr(T:Txt K mg a):a0 P w K mg base fD 1 a.hH a.lg ux (qR a K):=by
 refine T.aF.n.gJ Zku (Zkn T) (λvs H Q E h=>?_) (λH vs Q E h=>?_)
 ·obtain⟨f,dx,pl,c,m,es,rfl,_⟩:=h;rfl
 ·obtain⟨f,dx,pl,c,m,es,rfl,hf,q⟩:=h;show Yi K _ [Aa (.ref f)] H;unfold Yi;walk_at"go";refine#v[f,a.aB,dx,_,_,rfl,hf.ins,T.aJ,T.bM,rfl,?_];walk_at"go";refine#v[f,a.aB,dx,_,_,rfl,hf.ins,T.aJ,T.eM,rfl,?_];walk_at"go";refine .inl #v[_,.inl (.of hf.iQ.lst),?_];rw[aQ];exact q
def WO(a:bC)(_:aE):Sp:=λvs H Q _=>∃(f dx pl c:Ad) (m t:Int) (es:List En),vs=[.ref f,.int t]/\bB a.aB H f m es dx pl c/\Q (.bl (decide (0<=t/\t<2*(1+m+es.length)))) H
def Ym(a:bC)(K:aE):TS:=(cY (wh (cZ λi j=>.bl (decide (i<=j))) (cZ λi j=>.bl (decide (i<j))) (tC (.int 0)) (aA 1) (aK qh (tC (.int 2)) (fQ a.aB "total" (qR a K) [] E0 (aA 0) aI))))
theorem Zh8(T:Txt K mg a):TM P w K mg base 1 "Fold.has_tie" Qk ZfC a.fK (Ym a K):=λhr=>(bD (dM (Zrj zp wb aR (cv 1) (bK rJ aR (oR (cv 0) T.aJ T.aF.e (rr T) (hm hr) T.aF.b .nil cG)))))
theorem ZeY(T:Txt K mg a):a0 P w K mg base fD 2 a.fK a.jE R4 (WO a K):=by
 refine T.dD.n.gJ Zih (Zh8 T) (λvs H Q E h=>?_) (λH vs Q E h=>?_)
 ·obtain⟨f,dx,pl,c,m,t,es,rfl,_⟩:=h;rfl
 ·obtain⟨f,dx,pl,c,m,t,es,rfl,hf,q⟩:=h;show Ym a K _ [Aa (.ref f),Aa (.int t)] H;unfold Ym;walk_at"go";by_cases h0:0<=t
  ·rw[if_pos h0];refine#v[f,dx,_,rfl,hf.ins,rfl,f,dx,pl,c,m,es,rfl,hf,?_];walk_at"go";refine#v[.inl #v[by decide,by decide],?_];have e:decide (t<2*(1+m+(es.length:Int)))=decide (0<=t/\t<2*(1+m+es.length)):=by rw[decide_eq_decide];omega
   rw[e];exact q
  ·rw[if_neg h0];have e:Ah=decide (0<=t/\t<2*(1+m+(es.length:Int))):=by rw[decide_eq_false ⋯]
   rw[e];exact q
def Dd(a:bC)(_:aE):Sp:=λvs H Q E=>∃(f dx pl c:Ad) (m k:Int) (es:List En),vs=[.ref f,.int k]/\bB a.aB H f m es dx pl c /\
 (0<=k/\k<1+m+es.length->(k<=m->Q .non H)/\(∀e,m<k->es[(k-m-1).toNat]? = Aa e->Q (.ref e.1) H))/\(¬(0<=k/\k<1+m+es.length)->∀e,H e=Ae->E (.ref e) (Aa a.aS) H)
abbrev Zjr(a:bC)(K:aE)(E:XK):TS:=(cY (aK (eJ K) (kR K (aA 0) "pairs") (aK (cZ λi j=>.int (i-j)) (aK (cZ λi j=>.int (i-j)) (aA 1) (kR K (aA 0) "many")) (tC (.int 1)))))
abbrev Zjq(a:bC)(K:aE)(E:XK):TS:=(aV (eK (cO (aK (cZ λi j=>.bl (decide (i<=j))) (aA 1) (kR K (aA 0) "many"))) (cY (tC .non)) fI)
  (bN (Zjr a K E)))
def Th(a:bC)(K:aE)(E:XK):TS:=(aV (eK (lE (cO (aK (cZ λi j=>.bl (decide (i<j))) (aA 1) (tC (.int 0)))) (cO (aK (cZ λi j=>.bl (decide (j<=i))) (aA 1) (fQ a.aB "total" (qR a K) [] E0 (aA 0) aI)))) (xB a.aS (aC (tC (.str "no knot of this fold")) aI) E) fI)
  (bN (Zjq a K E)))
theorem Zlt(T:Txt K mg a):TX P w K mg base 1 "Fold.pair" L7 ZiW a.jK (Th a K):=
 λhr=>(aX (fC (PW.pt (mw (eE wb (cv 1) aR) (rH (eE uq (cv 1) (oR (cv 0) T.aJ T.aF.e (rr T) (hm hr) T.aF.b .nil cG))))) (bD (DV Fp T.gQ (by decide) rfl T.jT rfl vh (aD wO aM))) fO)
   (bX (aX (fC (eE zp (cv 1) (lB (cv 0))) (bD (dM rl)) fO)
   (bX (bD (dM (eQ eP (lB (cv 0)) (bK sJ (bK sJ (cv 1) (lB (cv 0))) aR))))))))
theorem KN(T:Txt K mg a):a0 P w K mg base (lf P w) 2 a.jK a.mh uO (Dd a K):=by
 refine T.bW.n.nF ZlE (Zlt T) (λvs H Q E h=>?_) (λH vs Q E h=>?_)
 ·obtain⟨f,dx,pl,d,m,k,es,rfl,_⟩:=h;rfl
 ·obtain⟨f,dx,pl,d,m,k,es,rfl,hf,l,g⟩:=h;show Th a K E _ [Aa (.ref f),Aa (.int k)] H;unfold Th;walk_at"go";by_cases h0:k<0
  ·rw[if_pos h0];exact#v[by decide,g ⋯]
  rw[if_neg h0];refine#v[f,dx,_,rfl,hf.ins,rfl,f,dx,pl,d,m,es,rfl,hf,?_];walk_at"go";by_cases h1:1+m+(es.length:Int)<=k
  ·rw[if_pos h1];exact#v[by decide,g ⋯]
  rw[if_neg h1];obtain⟨i,j⟩:=l ⋯;walk_at"go";refine#v[f,a.aB,dx,_,_,rfl,hf.ins,T.aJ,T.bM,rfl,?_];walk_at"go";by_cases hk:k<=m
  ·rw[if_pos hk];exact i hk
  ·rw[if_neg hk];walk_at"go";refine#v[f,a.aB,dx,_,_,rfl,hf.ins,T.aJ,T.eM,rfl,f,a.aB,dx,_,_,rfl,hf.ins,T.aJ,T.bM,rfl,?_];walk_at"go";have c:(k-m-1).toNat<es.length:=⋯;refine#v[_,_,.inl (.of hf.iQ.lst),CY .non ⋯ (by rw[aQ];omega),?_];rw[Zq7 es _ c];exact j _ ⋯ (eF c)
def Zer(a:bC)(_:aE):Sp:=λvs H Q _=>∃(f dx pl g h:Ad) (m:Int) (p:MF.Pr) (es:List En),vs=[.ref f,.ref h]/\bB a.aB H f m es dx pl g/\H h=Aa (.tup [.int p.1,.int p.2])/\es.length<=5000 /\
 ∀d c,lw pl g H d->bB a.aB d f m c dx pl g->aP c=MF.kp m (aP es) p->Q (.int (MF.kn m (aP es) p)) d
abbrev Zgo(a:bC)(K:aE):TS:=(aV (rF (kR K (aA 0) "knots") (aA 1) (fQ a.aB "total" (qR a K) [] E0 (aA 0) aI))
  (li (uf K "list" uR (kR K (aA 0) "pairs") (aC (aA 1) aI))))
def Tb(a:bC)(K:aE):TS:=(yt (eK (cO (uU (aA 1) (kR K (aA 0) "knots"))) (bN (Zgo a K)) fI)
  (cY (qV (kR K (aA 0) "knots") (aA 1))))
theorem ZhF(T:Txt K mg a):TM P w K mg base 1 "Fold.and_knot" La Ze9 a.eW (Tb a K):=
 λhr=>(XU (fC (sW (wF (fP hr) (cv 1) (lB (cv 0)))) (bX (aX (tj (fP hr) (lB (cv 0)) (cv 1) (oR (cv 0) T.aJ T.aF.e (rr T) (hm hr) T.aF.b .nil cG) rfl)
   (bD (l0 (u0 sZ vS vz (sS uG) (lB (cv 0)) (aD (cv 1) aM)))))) fO)
   (bD (dM (sT (fP hr) (lB (cv 0)) (cv 1) (λ_ _=>rfl)))))
theorem ZhU(T:Txt K mg a):a0 P w K mg base fD 2 a.eW a.iC Su (Zer a K):=by
 refine T.eU.n.gJ ZhH (ZhF T) (λvs H Q E h=>?_) (λH vs Q E h=>?_)
 ·obtain⟨f,dx,pl,g,l,m,p,es,rfl,_⟩:=h;rfl
 ·obtain⟨f,dx,pl,g,l,m,p,es,rfl,hf,ht,hz,q⟩:=h;show Tb a K _ [Aa (.ref f),Aa (.ref l)] H;unfold Tb;have D:(5001:Nat)<=sizeLine:=by decide
  refine mid (λC r=>C=[Aa (.ref f),Aa (.ref l)]/\lw pl g H r/\∃d,bB a.aB r f m d dx pl g/\aP d=MF.kp m (aP es) p/\MF.mM (m+1) (aP d) p=Aa (MF.kn m (aP es) p)/\r l=Aa (.tup [.int p.1,.int p.2])) ?_ ?_
  ·intro N B;walk_at"go";refine#v[f,a.aB,dx,_,_,rfl,hf.ins,T.aJ,T.eL,rfl,g,_,rfl,gS.t (k:=qG p) hf.iQ.uo ht,?_];rw[Ra];cases c:MF.mM (m+1) (aP es) p with
   |some i=>
    walk_at"go";refine B _ _ #v[rfl,lw.refl,es,hf,?_,?_,ht]
    ·unfold MF.kp;rw[c];rfl
    ·unfold MF.kn;rw[c];rfl
   |none=>
    walk_at"go";refine#v[f,dx,_,rfl,hf.ins,rfl,f,dx,pl,g,m,es,rfl,hf,?_];walk_at"go";refine#v[f,a.aB,dx,_,_,rfl,hf.ins,T.aJ,T.eL,rfl,?_];walk_at"go";refine#v[g,_,rfl,ry.t (k:=qG p) hf.iQ.uo ht (by rw[ZqT,aQ];omega),?_];have e0:(1+m+(es.length:Int))=(m+1)+((aP es).length:Nat):=by rw[aQ];omega
    rw[e0,ZuN c];have y:f≠g:=fS hf.ins hf.iQ.uo (λz=>nomatch z);have A:f≠pl:=fS hf.ins hf.iQ.lst (λz=>nomatch z);have i2:upd H g (.dT (qw (m+1) (aP es++[p]))) f=Aa (.ins a.aB dx [("many",.int m),("pairs",.ref pl),("knots",.ref g)]):=by rw[bE y];exact hf.ins
    have l2:upd H g (.dT (qw (m+1) (aP es++[p]))) pl=Aa (.lst (es.map λe=>V.ref e.1)):=by rw[bE hf.iQ.nlk];exact hf.iQ.lst
    walk_at"go";refine#v[f,a.aB,dx,_,_,rfl,i2,T.aJ,T.eM,rfl,?_];walk_at"go";refine#v[.inl #v[by trivial,_,.of l2],pl,_,_,rfl,rfl,l2,by rw[aQ];omega,?_];refine B _ _ #v[rfl,XS.trans Vu,es++[(l,p)],#v[?_,hf.iQ.put ht c],?_,?_,?_]
    ·rw[bE A];exact i2
    ·unfold MF.kp;rw[c,aP,fN];rfl
    ·unfold MF.kn;rw[c,aP,fN];exact MF.Zoh c
    ·rw[bE (fS ht hf.iQ.lst (λz=>nomatch z)),bE (fS ht hf.iQ.uo (λz=>nomatch z))];exact ht
  ·rintro C r ⟨rfl,u,d,j,v,c,x⟩;walk_at"go";refine#v[f,a.aB,dx,_,_,rfl,j.ins,T.aJ,T.eL,rfl,g,.int (MF.kn m (aP es) p),rfl,?_,q _ d u j v];have:=gS.t (k:=qG p) j.iQ.uo x;rw[Ra,c]at this;exact this
def xF(a:bC)(_:aE):Sp:=λvs H Q E=>∃(f dx pl g:Ad) (m s t:Int) (es:List En),vs=[.ref f,.int s,.int t]/\bB a.aB H f m es dx pl g/\es.length<=5000 /\
 (0<=s/\0<=t/\s<2*(1+m+es.length)/\t<2*(1+m+es.length)->∀d c,lw pl g H d->bB a.aB d f m c dx pl g->aP c=MF.bp m (aP es) s t->Q (.int (MF.bt m (aP es) s t)) d) /\
 (¬(0<=s/\0<=t/\s<2*(1+m+es.length)/\t<2*(1+m+es.length))->∀e,H e=Ae->E (.ref e) (Aa a.bS) H)
abbrev Zjv(a:bC)(K:aE)(E:XK):TS:=(cY (aK qh (tC (.int 2)) (fQ a.aB "and_knot" (Zer a K) [] E0 (aA 0) (aC (pM (aC (aA 3) (aC (aA 4) aI))) aI))))
abbrev Zju(a:bC)(K:aE)(E:XK):TS:=(aV (eK (cO (aK (mP K) (aA 3) (dH (Zlw K) [] E0 (aC (aA 4) aI)))) (cY (tC (Ix a))) fI)
  (bN (Zjv a K E)))
abbrev Zjt(a:bC)(K:aE)(E:XK):TS:=(aV (eK (lE (cO (aK (mP K) (aA 3) (tC (QS a)))) (cO (aK (mP K) (aA 3) (aA 4)))) (cY (aA 4)) fI)
  (bN (Zju a K E)))
abbrev Zjs(a:bC)(K:aE)(E:XK):TS:=(aV (cK (dF Gp (aC (aA 1) (aC (aA 2) aI))) (aU 4))
  (aV (eK (cO (aK (mP K) (aA 3) (tC (Ix a)))) (cY (tC (Ix a))) fI)
  (bN (Zjt a K E))))
def XI(a:bC)(K:aE)(E:XK):TS:=(aV (eK (lE (lR (kS K (fQ a.aB "has_tie" (WO a K) [] E0 (aA 0) (aC (aA 1) aI)))) (lR (kS K (fQ a.aB "has_tie" (WO a K) [] E0 (aA 0) (aC (aA 2) aI))))) (xB a.bS (aC (tC (.str "no tie of this fold")) aI) E) fI)
  (aV (cK (dF tK (aC (aA 1) (aC (aA 2) aI))) (aU 3))
  (bN (Zjs a K E))))
theorem Zlu(T:Txt K mg a):TX P w K mg base 2 "Fold.both" Pt ZiX a.iY (XI a K):=
 λhr=>(aX (fC (PW.pt (mw (mU (mV (oI (cv 0) T.aJ T.dD.e (ZeY T) (hm hr) T.dD.b .nil cG (aD (cv 1) aM)))) (rH (mU (mV (oI (cv 0) T.aJ T.dD.e (ZeY T) (hm hr) T.dD.b .nil cG (aD (cv 2) aM))))))) (bD (DV Fp T.nC (by decide) rfl T.qH rfl vh (aD wO aM))) fO)
   (aX (dL 3 UY.nd (eV (QD rfl) (by rfl) T.pQ PyProof.Rows.boot_min (aD (cv 1) (aD (cv 2) aM))))
   (bX (aX (dL 4 UY.nd (eV (OA rfl) (by rfl) T.vY PyProof.Rows.boot_max (aD (cv 1) (aD (cv 2) aM))))
   (aX (fC (eE (nR (lk hr)) (cv 3) (xX rfl T.nV)) (bD (dM (xX rfl T.nV))) fO)
   (bX (aX (fC (PW.pt (mw (eE (nR (lk hr)) (cv 3) (xX rfl T.ur)) (rH (eE (nR (lk hr)) (cv 3) (cv 4))))) (bD (dM (cv 4))) fO)
   (bX (aX (fC (eE (nR (lk hr)) (cv 3) (dP T.qM (ZqA T) (hm hr) cG (aD (cv 4) aM))) (bD (dM (xX rfl T.nV))) fO)
   (bX (bD (dM (bK rJ aR (oI (cv 0) T.aJ T.eU.e (ZhU T) (hm hr) T.eU.b .nil cG (aD (sI (aD (cv 3) (aD (cv 4) aM))) aM)))))))))))))))
theorem Gg(T:Txt K mg a):a0 P w K mg base (lf P w) 3 a.iY a.mE Tu (xF a K):=by
 refine T.aZ.n.nF UY (Zlu T) (λvs H Q E h=>?_) (λH vs Q E h=>?_)
 ·obtain⟨f,dx,pl,g,m,s,t,es,rfl,_⟩:=h;rfl
 ·obtain⟨f,dx,pl,g,m,x,y,es,rfl,hf,hz,I,D⟩:=h;show XI a K E _ [Aa (.ref f),Aa (.int x),Aa (.int y),Ae,Ae] H;unfold XI
  try unfold Ix
  try unfold QS
  walk_at"go";refine#v[f,dx,_,rfl,hf.ins,rfl,f,dx,pl,g,m,x,es,rfl,hf,?_];by_cases gx:0<=x/\x<2*(1+m+(es.length:Int))
  case neg=>rw[decide_eq_false gx];walk_at"go";exact#v[by decide,D (λ⟨p,_,r,_⟩=>gx #v[p,r])]
  rw[decide_eq_true gx];walk_at"go";refine#v[f,dx,_,rfl,hf.ins,rfl,f,dx,pl,g,m,y,es,rfl,hf,?_];by_cases gy:0<=y/\y<2*(1+m+(es.length:Int))
  case neg=>rw[decide_eq_false gy];walk_at"go";exact#v[by decide,D (λ⟨_,p,_,r⟩=>gy #v[p,r])]
  rw[decide_eq_true gy];obtain⟨hx,A⟩:=gx;obtain⟨hy,B⟩:=gy;have q:=I #v[hx,hy,A,B];walk_at"go";have c:=q;unfold MF.bt MF.bp MF.xr at c;have e1:(if y<x then y else x)=MF.lo x y:=rfl;have e2:(if y>x then y else x)=MF.hi x y:=rfl;rw[e1,e2];by_cases h1:MF.lo x y=0
  ·rw[if_pos h1]at c ⊢;exact c H es lw.refl hf rfl
  rw[if_neg h1]at c ⊢;by_cases h2:MF.lo x y=1\/MF.lo x y=MF.hi x y
  ·rw[if_pos h2]at c;have d:=c H es lw.refl hf rfl;rcases h2 with h2|h2
   ·walk_at"go";rw[if_pos h2];exact d
   ·by_cases h3:MF.lo x y=1
    ·walk_at"go";rw[if_pos h3];exact d
    ·walk_at"go";rw[if_neg h3,if_pos h2];exact d
  rw[if_neg h2]at c;walk_at"go";rw[if_neg (λz=>h2 (.inl z)),if_neg (λz=>h2 (.inr z))];have l:0<=MF.hi x y:=by unfold MF.hi;split <;> omega
  walk_at"go";refine#v[MF.hi x y,rfl,l,?_];walk_at"go";by_cases h3:MF.lo x y=MF.tn (MF.hi x y)
  ·rw[if_pos h3]at c ⊢;exact c H es lw.refl hf rfl
  rw[if_neg h3]at c ⊢;walk_at"go";refine#v[f,dx,_,rfl,hf.ins,rfl,by show 2<=sizeLine;decide,λJ L C=>?_];have k:=hf.same C.same;refine#v[f,dx,pl,g,J,m,(MF.lo x y,MF.hi x y),es,rfl,k,C.at_,hz,λG i u j v=>?_];walk_at"go";refine#v[.inl #v[by decide,by decide],c G i (C.same.un.trans u) j v]
theorem pG{a:bC}{K:aE}{H:Hp}{m:Int}{F:Ad->Hp->Prop}{E:XK}(q:∀x dx pl d c,bL H c->H x=Ae->H pl=Ae->H d=Ae->bB a.aB c x m [] dx pl d->F x c):
  ∀x dx,H x=Ae->H dx=Ae->dx≠x->Yg a K [.ref x,.int m] (upd (upd H dx (.own x)) x (.ins a.aB dx [])) (λv g=>v=.non/\F x g) E:=by
 intro x dx hx hd h;refine#v[x,dx,m,rfl,cN,λc pl d st hp hk hf=>#v[rfl,q x dx pl d c (λb o e=>?_) hx ?_ ?_ hf]]
 ·have f:b≠x:=dW e hx;have i:b≠dx:=dW e hd;exact st b o f (by rw[bE f,bE i];exact e)
 ·cases e:H pl with
  |none=>rfl
  |some o=>rw[bE (dW e hx),bE (dW e hd),e]at hp;cases hp
 ·cases e:H d with
  |none=>rfl
  |some o=>rw[bE (dW e hx),bE (dW e hd),e]at hk;cases hk
def Scr(K:aE)(H:Hp)(p:Ad)(xs:List V)(L:Ad->Prop):Prop:=(cB K H p xs/\¬L p)\/∀c,cB K c p xs
theorem yQ{L:List Bool}{i:Int}(h0:0<=i)(h1:i<L.length):mN (L.map V.bl) i=Aa (.bl (L.getD i.toNat Ah)):=by rw[CY .non h0 (by rw[aQ];exact h1)];have:i.toNat<L.length:=⋯;simp[jY,this]
theorem ZtE{n:Nat}{k:Int}(h0:0<=k)(h1:k<n):wG n k=Aa k.toNat:=by unfold wG;simp[h0,h1]
theorem Ztv(L:List Bool)(t:Int):(L.map V.bl).set (t/2).toNat (.bl Ai)=(MF.mark L t).map V.bl:=(List.map_set ..).symm
theorem ZjN{L:List Bool}{ts:List Int}(h:ts[i]? = Aa t):MF.oG L (ts.take (i+1))=MF.mark (MF.oG L (ts.take i)) t:=by unfold MF.oG;rw[pJ,h,List.foldl_append];rfl
theorem Zvc{ts:List Int}{i:Nat}{x:V}(h:(ts.map V.int)[i]? = Aa x):∃t:Int,x=.int t/\ts[i]? = Aa t/\t∈ts:=by
 rw[gX]at h;cases e:ts[i]? with
 |none=>rw[e]at h;cases h
 |some t=>rw[e]at h;cases h;exact#v[t,rfl,rfl,jP e]
theorem ZqP(L:List Bool)(p:MF.Pr):MF.oG L [p.1,p.2]=MF.mark (MF.mark L p.1) p.2:=rfl
theorem ZsU{ts:List Int}{i:Nat}{x:V}(h:(ts.map λt=>V.int (t/2))[i]? = Aa x):∃t:Int,x=.int (t/2)/\ts[i]? = Aa t/\t∈ts:=by
 rw[gX]at h;cases e:ts[i]? with
 |none=>rw[e]at h;cases h
 |some t=>rw[e]at h;cases h;exact#v[t,rfl,rfl,jP e]
def qr(kvs:List (Key×V))(k:Nat):Bool:=(bQ kvs (.inl (k:Int))).isSome
def uV(k:Nat):V:=.int (k:Int)
def RC(a:bC)(K:aE):Sp:=λvs H Q _=>∃(f dx pl d p sd:Ad) (m:Nat) (ts:List Int) (kvs:List (Key×V)) (es:List En),vs=[.ref f,.ref p,.ref sd]/\bB a.aB H f m es dx pl d/\cB K H p (ts.map λt=>V.int (t/2))/\H sd=Aa (.dK kvs)/\MF.Ok m (aP es)/\MF.Tis m (aP es) ts/\m<=10/\es.length<=4000/\ts.length<=4000 /\
 ∀q c,uQ H q (.lst ((MF.cD (qr kvs) m (aP es) ts).map uV)) c->Q (.ref q) c
abbrev ZlM(a:bC)(K:aE):TS:=(gU (yZ K (fQ a.aB "pair" (Dd a K) [] E0 (aA 0) (aC (aA 4) aI))) (aU 5) (cK (tC (.bl Ai)) (xP (aA 3) (aK (dA kF λi j=>.int (i/j)) (aA 5) (tC (.int 2))) XX)))
abbrev ZlL(a:bC)(K:aE):TS:=(cY (iP (qm (aC (fQ a.aB "total" (qR a K) [] E0 (aA 0) aI) aI)) 1 [3] (aU 0) (kS K (aK (eJ K) (aA 1) (aA 0))) (aA 0)))
abbrev ZlK(a:bC)(K:aE):TS:=(aV (gU (Rn (aC (aK (cZ λi j=>.int (i-j)) (fQ a.aB "total" (qR a K) [] E0 (aA 0) aI) (tC (.int 1))) (aC (kR K (aA 0) "many") (aC (zf zR (tC (.int 1))) aI)))) (aU 4) (eK (xp (kS K (aK (eJ K) (aA 3) (aA 4))) (cO (uU (aA 4) (aA 2)))) (bN (ZlM a K)) fI))
  (bN (ZlL a K)))
def ZC(a:bC)(K:aE):TS:=(aV (cK (aK RN (kT (aC (tC (.bl Ah)) aI)) (fQ a.aB "total" (qR a K) [] E0 (aA 0) aI)) (aU 3))
  (aV (gU (jV K (aA 1)) (aU 4) (cK (tC (.bl Ai)) (xP (aA 3) (aA 4) XX)))
  (bN (ZlK a K))))
theorem ZoC(T:Txt K mg a):TM P w K mg base 2 "reached" IR Y8 a.lZ (ZC a K):=
 λhr=>(aX (dL 3 Qg.nd (bK ZtA (lJ (aD kH aM)) (oR (cv 0) T.aJ T.aF.e (rr T) (hm hr) T.aF.b .nil cG)))
   (aX (my PassesOwn.never rfl (lH (cv 1)) (dN 4 Qg.nd) (bD (Mm kH (Ztz (cv 3) (cv 4) ZnY))))
   (bX (aX (my PassesOwn.never rfl (ZlT rfl T.bO (aD (bK sJ (oR (cv 0) T.aJ T.aF.e (rr T) (hm hr) T.aF.b .nil cG) aR) (aD (lB (cv 0)) (aD (Io Il aR) aM)))) (dN 4 Qg.nd) (bD (fC (PW.pt (Hh (mV (eQ eP (cv 3) (cv 4))) (ER (sW (wF (fP hr) (cv 4) (cv 2)))))) (bX (bD (my PassesOwn.never rfl (YT (oI (cv 0) T.aJ T.bW.e (KN T) (hm hr) T.bW.b .nil qj (aD (cv 4) aM))) (dN 5 Qg.nd) (bD (Mm kH (Ztz (cv 3) (bK kP (cv 5) aR) ZnY)))))) fO)))
   (bX (bD (dM (oZ (N:=["knot","seen"]) (k:=1) (sel:=[3]) (aY.of (bZ IR).names ∅) (bI.of Y8 ∅) rfl (uj rfl T.bO (aD (oR (cv 0) T.aJ T.aF.e (rr T) (hm hr) T.aF.b .nil cG) aM)) (λ_ _ _ _=>(dN 0 (show kK (["knot","seen"]:List Str) by decide +kernel))) (λ_ _ _ _=>(yF (mV (eQ eP (cv 1) (cv 0))))) (λ_ _ _ _=>(cv 0))))))))))
theorem WH(T:Txt K mg a):a0 P w K mg base fD 3 a.lZ a.oU XY (RC a K):=by
 refine T.jR.n.gJ Qg (ZoC T) (λvs H Q E h=>?_) (λH vs Q E h=>?_)
 ·obtain⟨f,dx,pl,N,p,sd,m,ts,kvs,es,rfl,_⟩:=h;rfl
 ·obtain⟨f,dx,pl,N,p,sd,m,ts,kvs,es,rfl,hf,hT,hS,ok,hin,hm,hz,htz,q⟩:=h;show ZC a K _ [Aa (.ref f),Aa (.ref p),Aa (.ref sd),Ae,Ae,Ae] H;unfold ZC;have big:=kQ;have wn:((aP es).length:Int)=es.length:=by rw[aQ]
  walk_at"";intro r1 H1 O;refine#v[f,dx,_,rfl,O.same _ _ hf.ins,rfl,f,dx,pl,N,m,es,rfl,hf.same O.same,?_];walk_at"";refine#v[_,O.at_,⋯,⋯,by simp only[rg];omega,λu H2 X=>?_];have hw:H u=Ae:=O.same.nil X.cL
  have e0:(gR (1+(m:Int)+(es.length:Int)).toNat [V.bl Ah]).flatten=(MF.oG (gR (1+m+(aP es).length) Ah) (ts.take 0)).map V.bl:=by rw[Zp5,show(1+(m:Int)+(es.length:Int)).toNat=1+m+(aP es).length by omega];show _=(gR (1+m+(aP es).length) Ah).map V.bl;rw[List.map_replicate]
  rw[e0]at X;have y:∀xs:List Int,(MF.oG (gR (1+m+(aP es).length) Ah) xs).length=1+m+(aP es).length:=λxs=>by rw[MF.K9,oQ]
  generalize Z:gR (1+m+(aP es).length) Ah=L0 at *;walk_at"";have s2:=O.same.trans X.same;refine#v[#v[_,s2.seq hT],vu (xs:=ts.map λt=>V.int (t/2)) (λi σ I=>bL H I/\I u=Aa (.lst ((MF.oG L0 (ts.take i)).map V.bl))/\∃r,σ=[Aa (.ref f),Aa (.ref p),Aa (.ref sd),Aa (.ref u),r,Ae]) #v[s2,X.at_,_,rfl] ?_ ?_ ?_]
  ·rintro i σ I _ ⟨G,_⟩;exact G.seq hT
  ·rintro i x σ I hx ⟨G,U,r,rfl⟩;obtain⟨t,rfl,ht,d⟩:=ZsU hx;have hb:=hin t d;walk_at"";refine#v[u,_,_,_,rfl,rfl,U,ZtE ⋯ (by rw[aQ,y];omega),G.put hw,?_,_,rfl];rw[cN,Ztv,ZjN ht]
  ·rintro σ I ⟨G,U,r,rfl⟩;have f3:=hf.same G;rw[aQ,rC]at U;walk_at"";refine#v[f,dx,_,rfl,f3.ins,rfl,f,dx,pl,N,m,es,rfl,f3,?_];walk_at"";refine#v[f,a.aB,dx,_,_,rfl,f3.ins,T.aJ,T.bM,rfl,?_];walk_at"";refine#v[_,_,rfl,#v[⋯,⋯,⋯,⋯],?_];rw[show(1+(m:Int)+(es.length:Int)-1-(m:Int)).toNat=(aP es).length by omega];have g:∀i,(MF.rG (qr kvs) m (aP es) (MF.oG L0 ts) i).length=1+m+(aP es).length:=λi=>by rw[MF.R1,y]
   refine Zra (λi σ S=>bL H S/\S u=Aa (.lst ((MF.rG (qr kvs) m (aP es) (MF.oG L0 ts) i).map V.bl))/\∃r C,σ=[Aa (.ref f),Aa (.ref p),Aa (.ref sd),Aa (.ref u),r,C]) #v[G,U,_,_,rfl] ?_ ?_
   ·rintro i σ S hi ⟨v,D,r,C,rfl⟩;have f4:=hf.same v;have L:(aP es).length-1-i<es.length:=⋯;have B:es[(aP es).length-1-i]? = Aa es[(aP es).length-1-i]:=eF L;have M:(aP es)[(aP es).length-1-i]? = Aa (es[(aP es).length-1-i]).2:=by rw[gX,B];rfl
    obtain⟨o1,o2,o3,o4⟩:=ok _ _ M;have te:=f4.iQ.tup _ (tR L);have kn:1+(m:Int)+(es.length:Int)-1-(i:Int)=((m+1+((aP es).length-1-i):Nat):Int):=⋯;have c:MF.rG (qr kvs) m (aP es) (MF.oG L0 ts) (i+1)=MF.Dw (qr kvs) m (aP es) (MF.rG (qr kvs) m (aP es) (MF.oG L0 ts) i) ((aP es).length-1-i):=rfl;unfold MF.Dw at c;rw[mS (l:=aP es),M,Option.getD_some]at c;generalize hE:es[(aP es).length-1-i]=e at *;have hjb:m+1+((aP es).length-1-i)<1+m+(aP es).length:=⋯;rw[kn];walk_at"";refine#v[_,_,.inl (.of D),yQ ⋯ (by rw[g];omega),?_];rw[oK];cases hnd:(MF.rG (qr kvs) m (aP es) (MF.oG L0 ts) i).getD (m+1+((aP es).length-1-i)) Ah with
    |false=>rw[hnd,Bool.false_and,if_neg (by simp)]at c;walk_at"go";exact#v[v,by rw[c];exact D,_,_,rfl]
    |true=>
     rw[hnd,RJ]at c;walk_at"";refine#v[sd,_,rfl,gS.k (k:=.inl ((m+1+((aP es).length-1-i):Nat):Int)) (v _ _ hS),?_];have hst:(bQ kvs (.inl ((m+1+((aP es).length-1-i):Nat):Int))).isSome=qr kvs (m+1+((aP es).length-1-i)):=rfl;rw[hst];cases hsx:qr kvs (m+1+((aP es).length-1-i)) with
     |true=>rw[hsx,if_neg (by simp)]at c;walk_at"go";exact#v[v,by rw[c];exact D,_,_,rfl]
     |false=>
      rw[hsx,Bool.not_false,if_pos rfl]at c;walk_at"";refine#v[f,dx,_,rfl,f4.ins,rfl,f,dx,pl,N,m,_,es,rfl,f4,λ_=>#v[λz=>absurd z ⋯,λe' _ J=>?_],λz=>absurd #v[⋯,⋯] z];rw[show(((m+1+((aP es).length-1-i):Nat):Int)-(m:Int)-1).toNat=(aP es).length-1-i by omega,B]at J;cases J;walk_at"";refine#v[#v[_,.of te],ZsX (xs:=[.int e.2.1,.int e.2.2]) (λj σ A=>bL H A/\A u=Aa (.lst ((MF.oG (MF.rG (qr kvs) m (aP es) (MF.oG L0 ts) i) ([e.2.1,e.2.2].take j)).map V.bl))/\∃r C,σ=[Aa (.ref f),Aa (.ref p),Aa (.ref sd),Aa (.ref u),r,C]) #v[v,D,_,_,rfl] ?_ ?_ ?_]
      ·rintro j σ A _ ⟨R,_⟩;exact .of ((hf.same R).iQ.tup _ (jP B))
      ·rintro j x σ A hx ⟨R,Y,r,C,rfl⟩;obtain⟨t,rfl,ht,d⟩:=Zvc (ts:=[e.2.1,e.2.2]) hx
       have hb:0<=t/\t<2*(1+(m:Int)+es.length):=by
        rcases iN.mp d with rfl|d
        ·omega
        ·rw[dQ]at d;subst d;omega
       walk_at"";refine#v[u,_,_,_,rfl,rfl,Y,ZtE ⋯ (by rw[aQ,MF.K9,g];omega),R.put hw,?_,_,_,rfl];rw[cN,Ztv,ZjN ht]
      ·rintro σ A ⟨R,Y,r,C,rfl⟩;refine#v[R,?_,_,_,rfl];rw[c,<-ZqP];exact Y
   ·rintro σ S ⟨v,D,r,C,rfl⟩;have f4:=hf.same v;walk_at"";refine#v[f,dx,_,rfl,f4.ins,rfl,f,dx,pl,N,m,es,rfl,f4,?_];walk_at"";rw[show(1+(m:Int)+(es.length:Int)).toNat=1+m+(aP es).length by omega];refine ZO (MF.gF (qr kvs) m (aP es) ts) uV rfl ⋯ ?_ ?_ ?_
    ·intro i H' Q' hi s' q';walk_at"";refine#v[_,_,.inl (.of (s' _ _ D)),yQ ⋯ (by rw[g];omega),?_];rw[show((0:Int)+(i:Int)).toNat=i by omega];have e9:(MF.rG (qr kvs) m (aP es) (MF.oG L0 ts) (aP es).length).getD i Ah=MF.gF (qr kvs) m (aP es) ts i:=by rw[<-Z];rfl
     rw[e9];walk_at"go";exact q'
    ·intro i H' Q' hi _ s' q';walk_at"";rw[show(0:Int)+(i:Int)=(i:Int) by omega];exact q'
    ·intro pq A n5;exact q pq A #v[v.nil n5.cL,n5.at_,v.trans n5.same]
def Ws(a:bC)(_:aE):Sp:=λvs H Q E=>∃(f dx pl d:Ad) (m:Nat) (k:Int) (es:List En),vs=[.ref f,.int k]/\bB a.aB H f m es dx pl d/\MF.Ok m (aP es)/\m<=10/\es.length<=4000 /\
 (∀n:Nat,k=n->n<1+m+es.length->∀q c,uQ H q (.lst ((MF.qE m (aP es) n).map uV)) c->Q (.ref q) c)/\(¬(0<=k/\k<1+m+es.length)->∀e,H e=Ae->E (.ref e) (Aa a.aS) H)
def V3(a:bC)(K:aE)(E:XK):TS:=(aV (eK (lE (cO (aK (cZ λi j=>.bl (decide (i<j))) (aA 1) (tC (.int 0)))) (cO (aK (cZ λi j=>.bl (decide (j<=i))) (aA 1) (fQ a.aB "total" (qR a K) [] E0 (aA 0) aI)))) (xB a.aS (aC (tC (.str "no knot of this fold")) aI) E) fI)
  (cY (dH (RC a K) [] E0 (aC (aA 0) (aC (kT (aC (aA 1) aI)) (aC vR aI))))))
theorem Zur(T:Txt K mg a):TX P w K mg base 3 "cone" JS ZtW a.rN (V3 a K):=
 λhr=>(aX (fC (PW.pt (mw (eE wb (cv 1) aR) (rH (eE uq (cv 1) (oR (cv 0) T.aJ T.aF.e (rr T) (hm hr) T.aF.b .nil cG))))) (bD (DV Fp T.gQ (by decide) rfl T.jT rfl vh (aD wO aM))) fO)
   (bD (dM (dP T.jR (WH T) (hm hr) cG (aD (cv 0) (aD (lJ (aD (cv 1) aM)) (aD zd aM)))))))
theorem ZqE(T:Txt K mg a):a0 P w K mg base (lf P w) 4 a.rN a.vK Sn (Ws a K):=by
 refine T.si.n.nF ZuE (Zur T) (λvs H Q E h=>?_) (λH vs Q E h=>?_)
 ·obtain⟨f,dx,pl,c,m,k,es,rfl,_⟩:=h;rfl
 ·obtain⟨f,dx,pl,c,m,k,es,rfl,hf,ok,hm,hz,u,l⟩:=h;show V3 a K E _ [Aa (.ref f),Aa (.int k)] H;unfold V3;walk_at"go";by_cases h0:k<0
  ·rw[if_pos h0];exact#v[by decide,l ⋯]
  rw[if_neg h0];refine#v[f,dx,_,rfl,hf.ins,rfl,f,dx,pl,c,m,es,rfl,hf,?_];walk_at"go";by_cases h1:1+(m:Int)+(es.length:Int)<=k
  ·rw[if_pos h1];exact#v[by decide,l ⋯]
  rw[if_neg h1];obtain⟨n,rfl⟩:=vP (by omega:0<=k);have q:=u n rfl ⋯;walk_at"";refine#v[by show 1<=sizeLine;decide,λv x d=>?_];walk_at"";intro sd y g
  have e1:([V.int (n:Int)]:List V)=[2*(n:Int)].map λt=>V.int (t/2):=by show[V.int (n:Int)]=[V.int (2*(n:Int)/2)];rw[show 2*(n:Int)/2=(n:Int) by omega]
  rw[e1]at d;have j:=d.same.trans g.same;refine#v[f,dx,pl,c,v,sd,m,[2*(n:Int)],[],es,rfl,hf.same j,.of (g.same _ _ d.at_),g.at_,ok,?_,hm,hz,by simp,λr p i=>?_]
  ·intro t ht;rw[dQ]at ht;subst ht;have:(aP es).length=es.length:=aQ ..;omega
  ·exact q r p #v[j.nil i.cL,i.at_,j.trans i.same]
def SZ(K:aE):Sp:=λvs H Q _=>∃(p:Ad) (xs:List Int),vs=[.ref p]/\cB K H p (xs.map V.int)/\xs.length<=4000/\∀c,bL H c->Q (.bl (MF.Jv xs)) c
def Ze(K:aE):TS:=(cY (dF (tG K) (aC (iP (xV K (aC (aA 0) (aC (WJ (GU K) (aA 0) (Pe (tC (.int 1))) YF) aI))) 2 [] (zG K 2 (o8 (aU 0) (o8 (aU 1) xS))) kt (aK (cZ λi j=>.bl (decide (i<j))) (aA 0) (aA 1))) aI)))
theorem Zlr(T:Txt K mg a):TM P w K mg base 0 "is_rising" Ij X8 a.jI (Ze K):=λhr=>(bD (dM (eV (Rs rfl) (by rfl) T.px PyProof.Rows.boot_all (aD (oZ (N:=WX) (k:=2) (sel:=[]) (aY.of (bZ Ij).names ∅) (bI.of X8 ∅) rfl (F0 rfl T.u8 (aD (cv 0) (aD (Zsx s_u (cv 0) (CO aR) ZuR) aM))) (λ_ _ _ _=>(IM rfl (qc (dN 0 (show kK (WX:List Str) by decide +kernel)) (qc (dN 1 (show kK (WX:List Str) by decide +kernel)) Fz)))) (λ_ _ _ _=>p0) (λ_ _ _ _=>(zm wb (cv 0) (cv 1) (xI _)))) aM))))
theorem Zhu(T:Txt K mg a):a0 P w K mg base fD 1 a.jI a.mu QB (SZ K):=by
 refine T.jG.n.gJ ZlC (Zlr T) (λvs H Q E h=>?_) (λH vs Q E h=>?_)
 ·obtain⟨p,xs,rfl,_⟩:=h;rfl
 ·obtain⟨p,xs,rfl,g,hz,q⟩:=h;show Ze K _ [Aa (.ref p)] H;unfold Ze;have z:=kQ;walk_at"";refine#v[_,g,λB u c=>?_];rw[NC]at c;refine#v[p,B,rfl,#v[_,c.same.seq g],#v[_,c.sq],λr hr=>Zvl (xs:=xs.map V.int) (ys:=(xs.map V.int).drop 1) (n:=xs.length-1) (by rw[QZ,aQ];omega) (λσ=>∃l m,σ=[l,m]) (λi d=>d r=Aa (.lst (((dX i).map λj=>decide (xs.getD j 0<xs.getD (j+1) 0)).map V.bl))/\bL u d) #v[_,_,rfl] #v[cN,kO hr] ?_ ?_ ?_]
  ·rintro i v _ ⟨_,f⟩;exact#v[f.seq (c.same.seq g),f.seq c.sq]
  ·rintro i x y t D v R hx hy ht ⟨l,m,rfl⟩ ⟨h1,f⟩ A
   have hi:i+1<xs.length:=by have:=(dS.mp hy).1;rw[QZ,aQ]at this;omega
   have ex:x=.int (xs.getD i 0):=by rw[gX,eF ⋯]at hx;cases hx;simp[jY,show i<xs.length by omega]
   have ey:y=.int (xs.getD (i+1) 0):=by rw[Jf,gX,show 1+i=i+1 by omega,eF hi]at hy;cases hy;simp[jY,hi]
   subst ex ey;have k:t≠r:=(dW h1 ht).symm;walk_at"";refine#v[t,_,rfl,.of cN,rfl,_,_,rfl,_,_,rfl,rfl,?_];walk_at"";refine#v[_,by rw[bE k.symm];exact h1,by rw[aQ,aQ,ub];omega,A _ _ #v[_,_,rfl] #v[?_,((f.trans (kO ht))).put hr]];rw[cN,wN,fN,fN];rfl
  ·rintro d ⟨h1,C⟩;walk_at"";refine#v[_,.of h1,?_];exact q d (c.same.trans C)
theorem Zn3(ks:List Nat):ks.map uV=(ks.map λj:Nat=>(j:Int)).map V.int:=by rw[iR];rfl
def Zly(a:bC)(K:aE):Sp:=λvs H Q _=>∃(f dx pl d p:Ad) (m:Nat) (k:Int) (xs:List Int) (es:List En),vs=[.ref f,.int k,.ref p]/\bB a.aB H f m es dx pl d/\cB K H p (xs.map V.int)/\MF.Ok m (aP es)/\m<=10/\es.length<=1900/\xs.length<=1900 /\
 ∀c,bL H c->Q (.bl (MF.qk m (aP es) k xs)) c
abbrev Zm5(a:bC)(K:aE):TS:=(cY (dF (tG K) (aC (iP (jV K (dH (RC a K) [] E0 (aC (aA 0) (aC (kT (aC (aA 1) aI)) (aC (aA 4) aI))))) 1 [0,4] (aU 0) kt (vy (aK (cZ λi j=>.bl (decide (j<i))) (aA 0) (kR K (aA 1) "many")) (wP (aA 0) (aA 2)))) aI)))
abbrev Zm4(a:bC)(K:aE):TS:=(aV (cK (dF (Fa K) (aC (iP (jV K (aA 2)) 1 [] (aU 0) kt (pM (aC (aA 0) (aC (tC (.bl Ai)) aI)))) aI)) (aU 4))
  (bN (Zm5 a K)))
abbrev Zm3(a:bC)(K:aE):TS:=(aV (eK (lR (kS K (dF (tG K) (aC (iP (jV K (aA 2)) 1 [3] (aU 0) kt (wP (aA 0) (aA 1))) aI)))) (cY (tC (.bl Ah))) fI)
  (bN (Zm4 a K)))
abbrev Zm2(a:bC)(K:aE):TS:=(aV (cK (dF (Fa K) (aC (iP (jV K (dH (Ws a K) [] E0 (aC (aA 0) (aC (aA 1) aI)))) 1 [] (aU 0) kt (pM (aC (aA 0) (aC (tC (.bl Ai)) aI)))) aI)) (aU 3))
  (bN (Zm3 a K)))
def V6(a:bC)(K:aE):TS:=(aV (eK (lE (cO (aK (cZ λi j=>.bl (decide (i<=j))) (aA 1) (kR K (aA 0) "many"))) (lE (cO (aK (cZ λi j=>.bl (decide (j<=i))) (aA 1) (fQ a.aB "total" (qR a K) [] E0 (aA 0) aI))) (lE (cO (aK (QM K Ah) (aA 1) (aA 2))) (lR (kS K (dH (SZ K) [] E0 (aC (aA 2) aI))))))) (cY (tC (.bl Ah))) fI)
  (bN (Zm2 a K)))
theorem ZpB(T:Txt K mg a):TM P w K mg base 4 "is_cut" xO Jc a.nk (V6 a K):=
 λhr=>(aX (fC (PW.pt (mw (eE zp (cv 1) (lB (cv 0))) (mw (eE uq (cv 1) (oR (cv 0) T.aJ T.aF.e (rr T) (hm hr) T.aF.b .nil cG)) (mw (eE Qn (cv 1) (cv 2) (by with_unfolding_all rfl)) (rH (mU (mV (dP T.jG (Zhu T) (hm hr) cG (aD (cv 2) aM))))))))) (bD (dM kH)) fO)
   (bX (aX (dL 3 Yk.nd (re (O0 rfl) (by rfl) T.jS PyProof.Rows.boot_dict (aD (oZ (N:=zH) (k:=1) (sel:=[]) (aY.of (bZ xO).names ∅) (bI.of Jc ∅) rfl (lH (dP T.si (ZqE T) (hm hr) qj (aD (cv 0) (aD (cv 1) aM)))) (λ_ _ _ _=>(dN 0 (show kK (zH:List Str) by decide +kernel))) (λ_ _ _ _=>p0) (λ_ _ _ _=>(sI (aD (cv 0) (aD kH aM))))) aM)))
   (bX (aX (fC (mU (mV (eV (Rs rfl) (by rfl) T.px PyProof.Rows.boot_all (aD (oZ (N:=["lower","within"]) (k:=1) (sel:=[3]) (aY.of (bZ xO).names ∅) (bI.of Jc ∅) rfl (lH (cv 2)) (λ_ _ _ _=>(dN 0 (show kK (["lower","within"]:List Str) by decide +kernel))) (λ_ _ _ _=>p0) (λ_ _ _ _=>(Wg (G2 (fP hr) (cv 0) (cv 1))))) aM)))) (bD (dM kH)) fO)
   (bX (aX (dL 4 Yk.nd (re (O0 rfl) (by rfl) T.jS PyProof.Rows.boot_dict (aD (oZ (N:=zH) (k:=1) (sel:=[]) (aY.of (bZ xO).names ∅) (bI.of Jc ∅) rfl (lH (cv 2)) (λ_ _ _ _=>(dN 0 (show kK (zH:List Str) by decide +kernel))) (λ_ _ _ _=>p0) (λ_ _ _ _=>(sI (aD (cv 0) (aD kH aM))))) aM)))
   (bX (bD (dM (eV (Rs rfl) (by rfl) T.px PyProof.Rows.boot_all (aD (oZ (N:=yp) (k:=1) (sel:=[0,4]) (aY.of (bZ xO).names ∅) (bI.of Jc ∅) rfl (lH (dP T.jR (WH T) (hm hr) cG (aD (cv 0) (aD (lJ (aD (cv 1) aM)) (aD (cv 4) aM))))) (λ_ _ _ _=>(dN 0 (show kK (yp:List Str) by decide +kernel))) (λ_ _ _ _=>p0) (λ_ _ _ _=>(Wb (zm wM (cv 0) (lB (cv 1)) (xI _)) (yu (Wg (G2 (fP hr) (cv 0) (cv 2))))))) aM))))))))))))
theorem ZqD(T:Txt K mg a):a0 P w K mg base fD 5 a.nk a.qq YJ (Zly a K):=by
 refine T.qJ.n.gJ Yk (ZpB T) (λvs H Q E h=>?_) (λH vs Q E h=>?_)
 ·obtain⟨f,dx,pl,N,p,m,k,xs,es,rfl,_⟩:=h;rfl
 ·obtain⟨f,dx,pl,N,p,m,k,xs,es,rfl,hf,A,ok,hm,hz,hxz,q⟩:=h;show V6 a K _ [Aa (.ref f),Aa (.int k),Aa (.ref p),Ae,Ae] H;unfold V6;have big:=kQ;have wn:(aP es).length=es.length:=aQ ..
  have J:MF.qk m (aP es) k xs=Ah->∀u,bL H u->Q (.bl Ah) u:=λe u C=>by have:=q u C;rwa[e]at this
  walk_at"";refine#v[f,a.aB,dx,_,_,rfl,hf.ins,T.aJ,T.bM,rfl,?_];walk_at"";by_cases g1:k<=(m:Int)
  ·rw[if_pos g1];exact J (by unfold MF.qk;rw[decide_eq_false (λz=>absurd z.1 ⋯)];rfl) H (bL.refl _)
  rw[if_neg g1];refine#v[f,dx,_,rfl,hf.ins,rfl,f,dx,pl,N,m,es,rfl,hf,?_];walk_at"";by_cases g2:1+(m:Int)+(es.length:Int)<=k
  ·rw[if_pos g2];exact J (by unfold MF.qk;rw[decide_eq_false (λz=>absurd z.2.1 ⋯)];rfl) H (bL.refl _)
  rw[if_neg g2];refine#v[_,.inl A,rfl,Zrc xs,?_];rw[Zoc];by_cases g3:k∈xs
  ·rw[decide_eq_true g3,if_pos rfl];exact J (by unfold MF.qk;rw[decide_eq_false (λz=>absurd g3 z.2.2)];rfl) H (bL.refl _)
  rw[decide_eq_false g3,if_neg (by simp)];have h0:decide ((m:Int)<k/\(k<1+m+(aP es).length/\k∉xs))=Ai:=decide_eq_true #v[⋯,⋯,g3];refine#v[p,xs,rfl,A,⋯,λH1 s1=>?_];walk_at"";cases hr:MF.Jv xs with
  |false=>walk_at"go";exact J (by unfold MF.qk;rw[h0,hr];rfl) H1 s1
  |true=>
   walk_at"go";obtain⟨n,rfl⟩:=vP (by omega:0<=k);refine#v[f,dx,pl,N,m,n,es,rfl,hf.same s1,ok,hm,⋯,λc e oh cp H2 O=>?_,λz=>absurd #v[⋯,⋯] z];have en:c=n:=⋯;subst en;rw[Zn3]at O
   have hCl:((MF.qE m (aP es) c).map λj:Nat=>(j:Int)).length<=1950:=by rw[aQ];unfold MF.qE MF.cD;have:=xf (MF.gF (λ_=>Ah) m (aP es) [2*(c:Int)]) (dX (1+m+(aP es).length));rw[ub]at this;omega
   have d:MF.qk m (aP es) (c:Int) xs=((xs.map λx=>decide (x∈(MF.qE m (aP es) c).map λj:Nat=>(j:Int))).all id&&((MF.cD (MF.eH xs) m (aP es) [2*(c:Int)]).map λj=>decide (m<j) ||decide ((j:Int)∈xs)).all id):=by unfold MF.qk;rw[h0,hr,oK];rfl
   generalize hC:((MF.qE m (aP es) c).map λj:Nat=>(j:Int))=CL at *;have s02:=s1.trans O.same;walk_at"";refine#v[#v[_,O.sq],Zg O.sq rfl ⋯ λmp H3 us hmp h3 X s3 hu=>?_];walk_at"";refine#v[us,CL.map λx=>(.inl x,.bl Ai),h3,by rw[X,aQ],by rw[aQ];omega,λj pr hj=>?_,λwd H4 n4=>?_]
   ·rw[gX]at hj;cases hx:CL[j]? with
    |none=>rw[hx]at hj;cases hj
    |some x=>rw[hx]at hj;cases hj;exact hu j x hx
   have r:=s02.trans (s3.trans n4.same);walk_at"";refine#v[#v[_,r.seq A],IY (λv=>match v with|.int x=>.bl (decide (x∈CL))|v=>v) (r.seq A) rfl (by rw[aQ];omega) ?_ ?_]
   ·intro x u Q' hx C B;obtain⟨y,hy,rfl⟩:=fE.mp hx;walk_at"";refine#v[wd,_,rfl,gS.k (k:=.inl y) (C _ _ n4.at_),?_]
    have ev:(bQ (jQ [] (CL.map λx=>((.inl x:Key),V.bl Ai))) (.inl y)).isSome=decide (y∈CL):=by have:=HU CL y [];simpa[jQ,bQ] using this
    rw[ev];exact B
   ·intro lp H5 Y;have e5:(xs.map V.int).map (λv=>match v with|.int x=>V.bl (decide (x∈CL))|v=>v)=(xs.map λx=>decide (x∈CL)).map V.bl:=by rw[iR,iR];rfl
    rw[e5]at Y;have i:=r.trans Y.same;walk_at"";refine#v[_,Y.sq,?_];cases hc:(xs.map λx=>decide (x∈CL)).all id with
    |false=>walk_at"go";exact J (by rw[d,hc];rfl) H5 i
    |true=>
     rw[hc,RJ]at d;walk_at"go";refine#v[#v[_,i.seq A],Zg (i.seq A) rfl ⋯ λmq H6 us2 hmq h6 D s6 U=>?_];walk_at"";refine#v[us2,xs.map λx=>(.inl x,.bl Ai),h6,by rw[D,aQ],by rw[aQ];omega,λj pr hj=>?_,λsd H7 Z=>?_]
     ·rw[gX]at hj;cases hx:xs[j]? with
      |none=>rw[hx]at hj;cases hj
      |some x=>rw[hx]at hj;cases hj;exact U j x hx
     have s07:=i.trans (s6.trans Z.same)
     have hst:qr (jQ [] (xs.map λx=>((.inl x:Key),V.bl Ai)))=MF.eH xs:=by funext j;have:=HU xs (j:Int) [];unfold qr MF.eH;simpa[jQ,bQ] using this
     walk_at"";refine#v[by show 1<=sizeLine;decide,λkp H8 G=>?_]
     have e1:([V.int (c:Int)]:List V)=[2*(c:Int)].map λt=>V.int (t/2):=by show[V.int (c:Int)]=[V.int (2*(c:Int)/2)];rw[show 2*(c:Int)/2=(c:Int) by omega]
     rw[e1]at G;have L:=s07.trans G.same;refine#v[f,dx,pl,N,kp,sd,m,[2*(c:Int)],_,es,rfl,hf.same L,.of G.at_,G.same _ _ Z.at_,ok,?_,hm,⋯,by simp,λrq H9 I=>?_]
     ·intro t ht;rw[dQ]at ht;subst ht;omega
     rw[hst,Zn3]at I;have M:=L.trans I.same
     have hRl:((MF.cD (MF.eH xs) m (aP es) [2*(c:Int)]).map λj:Nat=>(j:Int)).length<=1950:=by rw[aQ];unfold MF.cD;have:=xf (MF.gF (MF.eH xs) m (aP es) [2*(c:Int)]) (dX (1+m+(aP es).length));rw[ub]at this;omega
     walk_at"";refine#v[#v[_,I.sq],IY (λv=>match v with|.int x=>.bl (decide ((m:Int)<x) ||decide (x∈xs))|v=>v) I.sq rfl (by rw[aQ];omega) ?_ ?_]
     ·intro x u Q' hx C B;obtain⟨y,hy,rfl⟩:=fE.mp hx;have s0':=M.trans C;walk_at"";refine#v[f,a.aB,dx,_,_,rfl,(hf.same s0').ins,T.aJ,T.bM,rfl,?_];walk_at"";by_cases g:(m:Int)<y
      ·rw[if_pos g];simp only[g,decide_true,Bool.true_or]at B;exact B
      ·rw[if_neg g];refine#v[sd,_,rfl,gS.k (k:=.inl y) (C _ _ (I.same _ _ (G.same _ _ Z.at_))),?_]
       have ev:(bQ (jQ [] (xs.map λx=>((.inl x:Key),V.bl Ai))) (.inl y)).isSome=decide (y∈xs):=by have:=HU xs y [];simpa[jQ,bQ] using this
       rw[ev];simp only[g,decide_false,Vk]at B;exact B
     ·intro fp R l
      have S:(((MF.cD (MF.eH xs) m (aP es) [2*(c:Int)]).map λj:Nat=>(j:Int)).map V.int).map (λv=>match v with|.int x=>V.bl (decide ((m:Int)<x) ||decide (x∈xs))|v=>v)=((MF.cD (MF.eH xs) m (aP es) [2*(c:Int)]).map λj=>decide (m<j) ||decide ((j:Int)∈xs)).map V.bl:=by rw[iR,iR,iR];refine ym λj _=>?_;show V.bl (decide ((m:Int)<(j:Int)) ||_)=V.bl (decide (m<j) ||_);rw[show decide ((m:Int)<(j:Int))=decide (m<j) by rw[decide_eq_decide];omega]
      rw[S]at l;walk_at"";refine#v[_,l.sq,?_];have:=q R (M.trans l.same);rw[d]at this;exact this
def nv(c:Nat):V:=.int (c:Nat)
def ov:Option Nat->V
 |none=>.non
 |some u=>nv u
def enc(x:Nat×Option Nat):Key×V:=(.inl (x.1:Int),ov x.2)
theorem GW(e:Nat):∀cs:MZ.Cs,bQ (cs.map enc) (.inl (e:Int))=(MZ.bU cs e).map ov
 |[]=>rfl
 |x::r=>by
  rw[jF];by_cases h:x.1=e
  ·rw[rn (show(enc x).1=.inl (e:Int) by unfold enc;rw[h])];unfold MZ.bU;rw[ZxW (by simpa using h)];rfl
  ·rw[rx (show¬(enc x).1=.inl (e:Int) from λz=>h (by have:=Sum.inl.inj z;omega)),GW e r];unfold MZ.bU;rw[ZxX (by simpa using h)]
theorem Zvx(e:Nat)(cs:MZ.Cs):((cs.map enc).any λc=>decide (c.1=(.inl (e:Int):Key)))=(cs.any λx=>decide (x.1=e)):=by rw[List.any_map];congr 1;funext x;show decide ((.inl (x.1:Int):Key)=.inl (e:Int))=decide (x.1=e);rw[decide_eq_decide];exact#v[λz=>by have:=Sum.inl.inj z;omega,λz=>by rw[z]]
theorem Si(cs:MZ.Cs)(e:Nat)(o:Option Nat):eD (cs.map enc) (.inl (e:Int)) (ov o)=(MZ.uW cs e o).map enc:=by
 unfold eD MZ.uW;rw[Zvx];by_cases h:(cs.any λx=>decide (x.1=e))=Ai
 ·rw[if_pos h,if_pos h,iR,iR];refine ym λx _=>?_;show(if(enc x).1=.inl (e:Int) then((enc x).1,ov o) else enc x)=enc (if x.1=e then(x.1,o) else x);by_cases g:x.1=e
  ·rw[if_pos g,if_pos (show(enc x).1=.inl (e:Int) by unfold enc;rw[g])];rfl
  ·rw[if_neg g,if_neg (show¬(enc x).1=.inl (e:Int) from λz=>g (by have:=Sum.inl.inj z;omega))]
 ·rw[if_neg h,if_neg h,fN];rfl
theorem Zs2(cs:MZ.Cs)(e:Nat):Fb (cs.map enc) (.inl (e:Int))=(MZ.HX cs e).map enc:=by unfold Fb MZ.HX;rw[II];congr 1;refine List.filter_congr λx _=>?_;show decide ((enc x).1≠.inl (e:Int))=decide (x.1≠e);rw[decide_eq_decide];exact#v[λz g=>z (by unfold enc;rw[g]),λz g=>z (by have:=Sum.inl.inj g;omega)]
structure cS (H:Hp) (mp:Ad) (rs:List Ad) (ls:List (List Nat)):Prop where
 lst:H mp=Aa (.lst (rs.map V.ref))
 len:rs.length=ls.length
 at_:∀(i:Nat) r l,rs[i]? = Aa r->ls[i]? = Aa l->H r=Aa (.lst (l.map nv))
theorem cS.same(h:cS H f rs d)(s:bL H c):cS c f rs d:=#v[s _ _ h.lst,h.len,λi r l hr hl=>s _ _ (h.at_ i r l hr hl)]
def cP(c:List (List Nat))(p:Nat):List Nat:=c.getD p []
theorem cS.get(h:cS H d rs c)(hi:i<c.length):∃r,mN (rs.map V.ref) (i:Int)=Aa (.ref r)/\H r=Aa (.lst ((cP c i).map nv)):=by
 have hr:rs[i]? = Aa (rs[i]'(by rw[h.len];exact hi)):=eF _;have hl:c[i]? = Aa c[i]:=eF hi;refine#v[rs[i]'(by rw[h.len];exact hi),?_,?_]
 ·rw[CY .non ⋯ (by rw[aQ,h.len];omega),oK,mS,gX,hr];rfl
 ·have:=h.at_ i _ _ hr hl
  unfold cP;rw[mS,hl];exact this
def Nc(_:aE):Sp:=λvs H Q _=>∃p:Nat,vs=[.int p]/\Q (nv (2*p)) H
def TZ(K:aE):TS:=(cY (aK qh (tC (.int 2)) (aA 0)))
theorem Zup(T:Txt K mg a):TM P w K mg base 0 "head" Ln ZtU a.sy (TZ K):=λhr=>(bD (dM (bK rJ aR (cv 0))))
theorem QI(T:Txt K mg a):a0 P w K mg base fD 1 a.sy a.vW zq (Nc K):=by
 refine T.nO.n.gJ ZuC (Zup T) (λvs H Q E h=>?_) (λH vs Q E h=>?_)
 ·obtain⟨p,rfl,_⟩:=h;rfl
 ·obtain⟨p,rfl,q⟩:=h;show TZ K _ [Aa (.int p)] H;unfold TZ;walk_at"";exact q
def yv(_:aE):Sp:=λvs H Q _=>∃p:Nat,vs=[.int p]/\Q (nv (2*p+1)) H
def ZJ(K:aE):TS:=(cY (aK pP (aK qh (tC (.int 2)) (aA 0)) (tC (.int 1))))
theorem Zuq(T:Txt K mg a):TM P w K mg base 0 "foot" OL ZM a.sD (ZJ K):=λhr=>(bD (dM (bK qO (bK rJ aR (cv 0)) aR)))
theorem Ff(T:Txt K mg a):a0 P w K mg base fD 1 a.sD a.vA zq (yv K):=by
 refine T.jD.n.gJ ZuD (Zuq T) (λvs H Q E h=>?_) (λH vs Q E h=>?_)
 ·obtain⟨p,rfl,_⟩:=h;rfl
 ·obtain⟨p,rfl,q⟩:=h;show ZJ K _ [Aa (.int p)] H;unfold ZJ;walk_at"";exact q
def Jb(c:List (List Nat))(gs:List Int):Prop:=∀g∈gs,0<=g/\(g<c.length/\cP c g.toNat≠[])
def Zf7(a:bC)(_:aE):Sp:=λvs H Q E=>∃(d gp:Ad) (rs:List Ad) (c:List (List Nat)) (gs:List Int),vs=[.ref d,.ref gp]/\cS H d rs c/\H gp=Aa (.lst (gs.map V.int))/\(Jb c gs->Q .non H)/\(¬Jb c gs->∀e,H e=Ae->E (.ref e) (Aa a.cC) H)
abbrev Zip(a:bC)(K:aE)(E:XK):TS:=(eK (lE (cO (aK (cZ λi j=>.bl (decide (i<j))) (aA 2) (tC (.int 0)))) (lE (cO (aK (cZ λi j=>.bl (decide (j<=i))) (aA 2) (dF (k9 K) (aC (aA 0) aI)))) (cO (aK (mP K) (dF (k9 K) (aC (aK (eJ K) (aA 0) (aA 2)) aI)) (tC (.int 0)))))) (xB a.cC (aC (tC (.str "a goal is a spring or no place of the maze")) aI) E) fI)
def Yz(a:bC)(K:aE)(E:XK):TS:=(gU (jV K (aA 1)) (aU 2) (bN (Zip a K E)))
theorem Zkj(T:Txt K mg a):TX P w K mg base 0 "need_goals" Pm Zhw a.iA (Yz a K):=λhr=>(bD (my KW rfl (lH (cv 1)) (dN 2 Zgb.nd) (bX (bD (fC (PW.pt (mw (eE wb (cv 2) aR) (mw (eE uq (cv 2) (eV lS (by rfl) T.bR PySem.boot_len (aD (cv 0) aM))) (rH (eE (nR (lk hr)) (eV lS (by rfl) T.bR PySem.boot_len (aD (eQ eP (cv 0) (cv 2)) aM)) aR))))) (bD (DV Fp T.lT (by decide) rfl T.t7 rfl vh (aD wO aM))) fO)))))
theorem ZkE(T:Txt K mg a):a0 P w K mg base (lf P w) 1 a.iA a.kW Te (Zf7 a K):=by
 refine T.fH.n.nF Zgb (Zkj T) (λvs H Q E h=>?_) (λH vs Q E h=>?_)
 ·obtain⟨q,gp,rs,j,gs,rfl,_⟩:=h;rfl
 ·obtain⟨q,gp,rs,j,gs,rfl,l,A,C,B⟩:=h;show Yz a K E _ [Aa (.ref q),Aa (.ref gp),Ae] H;unfold Yz;walk_at"";refine#v[#v[_,.of A],vu (xs:=gs.map V.int) (λi σ f=>f=H/\Jb j (gs.take i)/\∃t,σ=[Aa (.ref q),Aa (.ref gp),t]) #v[rfl,λg hg=>by simp at hg,_,rfl] ?_ ?_ ?_]
  ·rintro i σ f _ ⟨rfl,_⟩;exact .of A
  ·rintro i v σ f hv ⟨rfl,c,t,rfl⟩;obtain⟨g,hg,rfl⟩:=uc hv;have d:¬(0<=g/\(g<j.length/\cP j g.toNat≠[]))->∀e,f e=Ae->E (.ref e) (Aa a.cC) f:=λp=>B λk=>p (k g (jP hg));walk_at"";by_cases u:g<0
   ·rw[if_pos u];walk_at"";exact λe he=>d ⋯ e he
   rw[if_neg u];refine .inl #v[_,.inl (.of l.lst),?_];rw[aQ,l.len];by_cases y:(j.length:Int)<=g
   ·rw[if_pos y];walk_at"";exact λe he=>d ⋯ e he
   rw[if_neg y];obtain⟨gn,rfl⟩:=vP (by omega:0<=g);obtain⟨r,h1,h2⟩:=l.get (i:=gn) ⋯;refine#v[_,_,.inl (.of l.lst),h1,?_];refine .inl #v[_,.inl (.of h2),?_];rw[aQ];walk_at"";by_cases m:((cP j gn).length:Int)=0
   ·rw[if_pos m];walk_at"";refine λe he=>d (λ⟨_,_,z⟩=>z ?_) e he;rw[oK];exact Zx0.mp ⋯
   ·rw[if_neg m];refine#v[by trivial,λx hx=>?_,_,rfl];rw[pJ,hg]at hx;rcases fG.mp hx with z|z
    ·exact c x z
    ·simp only[Option.toList_some,dQ]at z;subst z;refine#v[⋯,⋯,λz=>m ?_];rw[oK]at z;rw[z];rfl
  ·rintro σ f ⟨rfl,c,t,rfl⟩;rw[aQ,rC]at c;walk_at"";exact C c
def YR(_:aE):Sp:=λvs H Q _=>∃(f ap:Ad) (rs:List Ad) (c:List (List Nat)) (as:MZ.Cs) (e:Nat),vs=[.ref f,.ref ap,.int e]/\cS H f rs c/\H ap=Aa (.dK (as.map enc))/\e/2<c.length/\c.length<=1200/\(cP c (e/2)).length<=1200 /\
 ∀l d,uQ H l (.lst ((MZ.kY (cP c) (MZ.bU as) e).map nv)) d->Q (.ref l) d
abbrev Zjb(K:aE):TS:=(cY (aK pP (iP (jV K (aK (eJ K) (aA 0) (aA 3))) 1 [] (aU 0) kt (dH (Nc K) [] E0 (aC (aA 0) aI))) (kT (aC (dH (Nc K) [] E0 (aC (aA 3) aI)) aI))))
abbrev Zja(K:aE):TS:=(cY (Oa (cO (aK yP (qV (aA 1) (aA 3)) (tC .non))) (kT aI) (kT (aC (dH (yv K) [] E0 (aC (qV (aA 1) (aA 3)) aI)) aI))))
abbrev Zi9(K:aE):TS:=(aV (eK (cO (uU (aA 3) (aA 1))) (cY (kT (aC (dH (yv K) [] E0 (aC (aA 3) aI)) aI))) fI)
  (bN (Zja K)))
abbrev Zi8(K:aE):TS:=(aV (eK (cO (aK (mP K) (aA 2) (dH (yv K) [] E0 (aC (aA 3) aI)))) (bN (Zjb K)) fI)
  (bN (Zi9 K)))
def TL(K:aE):TS:=(aV (cK (aK (dA kF λi j=>.int (i/j)) (aA 2) (tC (.int 2))) (aU 3))
  (bN (Zi8 K)))
theorem Zlk(T:Txt K mg a):TM P w K mg base 1 "next_ends" HH W4 a.jB (TL K):=
 λhr=>(aX (dL 3 Zhq.nd (bK kP (cv 2) aR))
   (bX (aX (fC (eE (nR (lk hr)) (cv 2) (dP T.jD (Ff T) (hm hr) cG (aD (cv 3) aM))) (bX (bD (dM (bK qO (oZ (N:=zH) (k:=1) (sel:=[]) (aY.of (bZ HH).names ∅) (bI.of W4 ∅) rfl (lH (eQ eP (cv 0) (cv 3))) (λ_ _ _ _=>(dN 0 (show kK (zH:List Str) by decide +kernel))) (λ_ _ _ _=>p0) (λ_ _ _ _=>(dP T.nO (QI T) (hm hr) cG (aD (cv 0) aM)))) (lJ (aD (dP T.nO (QI T) (hm hr) cG (aD (cv 3) aM)) aM)))))) fO)
   (bX (aX (fC (sW (wF (fP hr) (cv 3) (cv 1))) (bD (dM (lJ (aD (dP T.jD (Ff T) (hm hr) cG (aD (cv 3) aM)) aM)))) fO)
   (bX (bD (dM (Tk (eE tN (sT (fP hr) (cv 1) (cv 3) (λ_ _=>rfl)) rl) (lJ aM) (lJ (aD (dP T.jD (Ff T) (hm hr) cG (aD (sT (fP hr) (cv 1) (cv 3) (λ_ _=>rfl)) aM)) aM)))))))))))
theorem ZlU(T:Txt K mg a):a0 P w K mg base fD 2 a.jB a.mK Yn (YR K):=by
 refine T.mf.n.gJ Zhq (Zlk T) (λvs H Q E h=>?_) (λH vs Q E h=>?_)
 ·obtain⟨x,ap,rs,f,as,e,rfl,_⟩:=h;rfl
 ·obtain⟨x,ap,rs,f,as,e,rfl,t,A,he,hl,B,q⟩:=h;show TL K _ [Aa (.ref x),Aa (.ref ap),Aa (.int e),Ae] H;unfold TL;have z:=kQ;have e2:((e:Int)/2)=((e/2:Nat):Int):=⋯;have g1:=gS.k (k:=.inl ((e/2:Nat):Int)) A;rw[GW]at g1;walk_at"";rw[e2];refine#v[e/2,rfl,?_];unfold nv;walk_at"";by_cases c:(e:Int)=((2*(e/2)+1:Nat):Int)
  ·rw[if_pos c];have m:e%2=1:=⋯;obtain⟨r,h1,h2⟩:=t.get he;walk_at"go";refine#v[_,_,.inl (.of t.lst),h1,?_];refine#v[#v[_,.of h2],IY (λv=>match v with|.int l=>.int (2*l)|_=>.non) (.of h2) rfl (by rw[aQ];omega) ?_ ?_]
   ·intro v G J hv L D;obtain⟨l,_,rfl⟩:=fE.mp hv;walk_at"";refine#v[l,rfl,?_];have:nv (2*l)=V.int (2*(l:Int)):=by unfold nv;congr 1
    rw[this];exact D
   intro l1 I p;have e1:((cP f (e/2)).map nv).map (λv=>match v with|.int l=>V.int (2*l)|_=>.non)=((cP f (e/2)).map λl=>2*l).map nv:=by rw[iR,iR];rfl
   rw[e1]at p;walk_at"";refine#v[e/2,rfl,?_];refine#v[by show 1<=sizeLine;decide,λl2 i d=>?_];refine#v[_,_,d.same _ _ p.at_,d.at_,by rw[aQ,aQ];show _+1<=_;omega,λC j=>?_]
   have e3:((cP f (e/2)).map λl=>2*l).map nv++[nv (2*(e/2))]=(MZ.kY (cP f) (MZ.bU as) e).map nv:=by unfold MZ.kY;rw[if_pos m,fN];rfl
   rw[e3];have y:=p.same.trans d.same;exact q C _ #v[y.nil j,cN,y.trans (kO j)]
  rw[if_neg c];have g:¬e%2=1:=⋯;walk_at"go";refine#v[ap,_,rfl,g1,?_];cases hc:MZ.bU as (e/2) with
  |none=>
   rw[hc]at g1;walk_at"";refine#v[e/2,rfl,?_];refine#v[by show 1<=sizeLine;decide,λl2 i d=>?_]
   have e3:[nv (2*(e/2)+1)]=(MZ.kY (cP f) (MZ.bU as) e).map nv:=by unfold MZ.kY;rw[if_neg g,hc];rfl
   rw[e3]at d;exact q l2 i d.UA
  |some o=>
   rw[hc]at g1;walk_at"";refine#v[ap,_,rfl,g1,?_];cases o with
   |none=>
    show _;walk_at"";intro l2 i d
    have e3:([]:List V)=(MZ.kY (cP f) (MZ.bU as) e).map nv:=by unfold MZ.kY;rw[if_neg g,hc];rfl
    rw[e3]at d;exact q l2 i d.UA
   |some u=>
    show _;walk_at"";refine#v[ap,_,rfl,g1,?_];refine#v[u,rfl,?_];refine#v[by show 1<=sizeLine;decide,λl2 i d=>?_]
    have e3:[nv (2*u+1)]=(MZ.kY (cP f) (MZ.bU as) e).map nv:=by unfold MZ.kY;rw[if_neg g,hc];rfl
    rw[e3]at d;exact q l2 i d.UA
def vH(gs:List Nat)(g:Nat):Prop:=g∈gs
theorem xz:∀{xs:List Nat},xs.Nodup->(∀x∈xs,x<n)->xs.length<=n:=λ{xs} c h=>by have:=MZ.Rq (R:=λa b:Nat=>a=b) (λa d b h h'=>h.trans h'.symm) (A:=xs) (B:=dX n) c λa ha=>#v[a,wZ.mpr (h a ha),rfl];rwa[ub]at this
structure pv (ls:List (List Nat)) (gs:List Nat) (as cs:MZ.Cs) (ws:List Nat):Prop where
 vv:MZ.pN (cP ls) (vH gs) (MZ.bU as) cs
 wait:∀w∈ws,w∈MZ.keys cs
 wnd:ws.Nodup
 bd:∀e∈MZ.keys cs,e<2*ls.length
 done:∀e∈MZ.keys cs,e∈ws\/((∀t,e=2*t+1->cP ls t≠[])/\∀e'∈MZ.kY (cP ls) (MZ.bU as) e,e'∈MZ.keys cs)
theorem pv.len(h:pv c gs as cs d):cs.length<=2*c.length:=by have:=xz h.vv.nd h.bd;unfold MZ.keys at this;rwa[aQ]at this
structure Mz (ls:List (List Nat)):Prop where
 lt:∀p l,l∈cP ls p->l<p
 nd:∀p,(cP ls p).Nodup
theorem Mz.len(h:Mz c)(p:Nat):(cP c p).length<=p:=xz (h.nd p) (h.lt p)
theorem WF(h:l∈cP c p):p<c.length:=by refine FY λz=>?_;unfold cP at h;rw[mS,tI z]at h;simp at h
theorem Ep(f:Mz c)(ab:∀p q,MZ.bU as p=Aa (Aa q)->q<c.length){e d:Nat}(he:e<2*c.length)(h:d∈MZ.kY (cP c) (MZ.bU as) e):d<2*c.length:=by
 rcases(by omega:e=2*(e/2)\/e=2*(e/2)+1) with z|z
 ·rw[z]at h;rcases MZ.D6 h with⟨_,rfl⟩|⟨q,hq,rfl⟩
  ·omega
  ·have:=ab _ _ hq;omega
 ·rw[z]at h;rcases MZ.HV h with⟨l,hl,rfl⟩|rfl
  ·have:=f.lt _ _ hl;omega
  ·omega
def Z5(_:aE):Sp:=λvs H Q _=>∃(h gp ap:Ad) (rs:List Ad) (c:List (List Nat)) (gs:List Nat) (as:MZ.Cs),vs=[.ref h,.ref gp,.ref ap]/\cS H h rs c/\H gp=Aa (.lst (gs.map nv))/\H ap=Aa (.dK (as.map enc))/\Mz c/\c.length<=1200/\(∀g∈gs,g<c.length)/\(∀p q,MZ.bU as p=Aa (Aa q)->q<c.length) /\
 (∀s cs f cp d,bL H d->H cp=Ae->d f=Aa (.tup [nv s,.ref cp])->d cp=Aa (.dK (cs.map enc))->MZ.pN (cP c) (vH gs) (MZ.bU as) cs->cP c s=[]->2*s+1∈MZ.keys cs->s<c.length->(∀e∈MZ.keys cs,e<2*c.length)->Q (.ref f) d) /\
 (∀cs f cp d,bL H d->d f=Aa (.tup [.non,.ref cp])->d cp=Aa (.dK (cs.map enc))->pv c gs as cs []->Q (.ref f) d)
abbrev Zin(K:aE):TS:=(eK (cO (uU (aA 9) (aA 3))) (aV (rF (aA 3) (aA 9) (aA 7))
  (li (uf K "list" uR (aA 6) (aC (aA 9) aI)))) fI)
abbrev ZmZ(K:aE):TS:=(aV (eK (xp (cO (aK (mP K) (aA 7) (dH (yv K) [] E0 (aC (aA 8) aI)))) (cO (aK (mP K) (dF (k9 K) (aC (aK (eJ K) (aA 0) (aA 8)) aI)) (tC (.int 0))))) (cY (pM (aC (aA 8) (aC (aA 3) aI)))) fI)
  (gU (jV K (dH (YR K) [] E0 (aC (aA 0) (aC (aA 2) (aC (aA 7) aI))))) (aU 9) (bN (Zin K))))
abbrev ZmY(K:aE):TS:=(aV (cK (wa K "list" yf (aA 6)) (aU 7))
  (aV (cK (aK (dA kF λi j=>.int (i/j)) (aA 7) (tC (.int 2))) (aU 8))
  (bN (ZmZ K))))
abbrev ZmX(K:aE):TS:=(aV (cK (dF (YC K) (aC (aA 3) aI)) (aU 6))
  (aV (yN (kS K (aA 6)) (bN (ZmY K)))
  (cY (pM (aC (tC .non) (aC (aA 3) aI))))))
abbrev ZmW(K:aE):TS:=(aV (gU (jV K (aA 1)) (aU 4) (gU (jV K (aK (eJ K) (aA 0) (aA 4))) (aU 5) (rF (aA 3) (dH (Nc K) [] E0 (aC (aA 5) aI)) (tC .non))))
  (bN (ZmX K)))
def US(K:aE):TS:=(aV (cK vR (aU 3))
  (bN (ZmW K)))
theorem ZpA(T:Txt K mg a):TM P w K mg base 2 "search" JD Zot a.nS (US K):=
 λhr=>(aX (dL 3 zK.nd zd)
   (bX (aX (my PassesOwn.never rfl (lH (cv 1)) (dN 4 zK.nd) (bD (my PassesOwn.never rfl (lH (eQ eP (cv 0) (cv 4))) (dN 5 zK.nd) (bD (tj (fP hr) (cv 3) (dP T.nO (QI T) (hm hr) cG (aD (cv 5) aM)) rl rfl)))))
   (bX (aX (dL 6 zK.nd (re (Zvo rfl) (by rfl) T.fX PyProof.Rows.boot_list (aD (cv 3) aM)))
   (aX (SA PassesOwn.never (mV (cv 6)) (bX (aX (dL 7 zK.nd (UO sZ Zwh Zwi (sS ZtC) (cv 6)))
   (aX (dL 8 zK.nd (bK kP (cv 7) aR))
   (bX (aX (fC (PW.pt (Hh (eE (nR (lk hr)) (cv 7) (dP T.jD (Ff T) (hm hr) cG (aD (cv 8) aM))) (ER (eE (nR (lk hr)) (eV lS (by rfl) T.bR PySem.boot_len (aD (eQ eP (cv 0) (cv 8)) aM)) aR)))) (bD (dM (sI (aD (cv 8) (aD (cv 3) aM))))) fO)
   (bD (my PassesOwn.never rfl (lH (dP T.mf (ZlU T) (hm hr) cG (aD (cv 0) (aD (cv 2) (aD (cv 7) aM))))) (dN 9 zK.nd) (bX (bD (fC (sW (wF (fP hr) (cv 9) (cv 3))) (aX (tj (fP hr) (cv 3) (cv 9) (cv 7) rfl)
   (bD (l0 (u0 sZ vS vz (sS uG) (cv 6) (aD (cv 9) aM))))) fO)))))))))))
   (bD (dM (sI (aD rl (aD (cv 3) aM)))))))))))
theorem ZqB(T:Txt K mg a):a0 P w K mg base fD 3 a.nS a.qp Tt (Z5 K):=by
 refine T.qA.n.gJ zK (ZpA T) (λvs H Q E h=>?_) (λH vs Q E h=>?_)
 ·obtain⟨mp,gp,ap,rs,A,gs,as,rfl,_⟩:=h;rfl
 ·obtain⟨mp,gp,ap,rs,A,gs,as,rfl,hM,hG,hA,mz,hn,hgs,hab,q1,q0⟩:=h;show US K _ [Aa (.ref mp),Aa (.ref gp),Aa (.ref ap),Ae,Ae,Ae,Ae,Ae,Ae,Ae] H;unfold US;have big:=kQ;walk_at"";intro cp H1 n1;have fc:H cp=Ae:=n1.cL;walk_at"";refine#v[#v[_,.of (n1.same _ _ hG)],vu (xs:=gs.map nv) (λi σ H2=>bL H H2/\∃(cs:MZ.Cs) (Y N:Option V),H2 cp=Aa (.dK (cs.map enc))/\(MZ.keys cs).Nodup/\(∀x∈cs,x.2=Ae)/\(∀e,e∈MZ.keys cs ↔ ∃g∈gs.take i,∃l∈cP A g,e=2*l)/\σ=[Aa (.ref mp),Aa (.ref gp),Aa (.ref ap),Aa (.ref cp),Y,N,Ae,Ae,Ae,Ae]) #v[n1.same,[],_,_,n1.at_,IA,λx hx=>by simp at hx,λe=>by simp[MZ.keys],rfl] ?_ ?_ ?_]
  ·rintro i σ H2 _ ⟨s2,_⟩;exact .of (s2 _ _ hG)
  ·rintro i v σ H2 hv ⟨s2,cs,Y,N,h2,nd2,S,C,rfl⟩;obtain⟨g,hg,rfl⟩:=uc hv;have hgl:=hgs g (jP hg);obtain⟨r,hr1,hr2⟩:=(hM.same s2).get hgl;have hll:=mz.len g;unfold nv;walk_at"";refine#v[_,_,.inl (.of (s2 _ _ hM.lst)),hr1,?_];refine#v[#v[_,.of hr2],vu (xs:=(cP A g).map nv) (λj σ H3=>bL H H3/\H3 r=Aa (.lst ((cP A g).map nv))/\∃(cs:MZ.Cs) (N:Option V),H3 cp=Aa (.dK (cs.map enc))/\(MZ.keys cs).Nodup/\(∀x∈cs,x.2=Ae)/\(∀e,e∈MZ.keys cs ↔ (∃g∈gs.take i,∃l∈cP A g,e=2*l)\/∃l∈(cP A g).take j,e=2*l)/\σ=[Aa (.ref mp),Aa (.ref gp),Aa (.ref ap),Aa (.ref cp),Aa (.int (g:Nat)),N,Ae,Ae,Ae,Ae]) #v[s2,hr2,cs,_,h2,nd2,S,λe=>by rw[C];simp,rfl] ?_ ?_ ?_]
   ·rintro j σ H3 _ ⟨_,h3,_⟩;exact .of h3
   ·rintro j w σ H3 hw ⟨s3,hr3,cs,N,h3,R,Z,L,rfl⟩;obtain⟨l,hl,rfl⟩:=uc hw;have hlm:=jP hl
    have Q5:cs.length<=2*A.length:=by
     have:=xz (n:=2*A.length) R λe he=>by
      rcases(L e).mp he with⟨g',hg',l',J,rfl⟩|⟨l',J,rfl⟩
      ·have:=mz.lt _ _ J;have:=WF J;omega
      ·have:=mz.lt _ _ (CH J);omega
     unfold MZ.keys at this;rwa[aQ]at this
    unfold nv;walk_at"";refine#v[l,rfl,cp,_,rfl,.k (k:=.inl ((2*l:Nat):Int)) h3 (by rw[aQ];omega),s3.put fc,?_,MZ.uW cs (2*l) Ae,_,?_,MZ.NJ R _ _,λx hx=>?_,λe=>?_,rfl]
    ·rw[bE (fS hr3 h3 (λz=>nomatch z))];exact hr3
    ·rw[cN];exact congrArg (λz=>Aa (HO.dK z)) (Si cs (2*l) Ae)
    ·have hx':=(MZ.uz (MZ.NJ R _ _)).mpr (show(x.1,x.2)∈_ from hx);rw[MZ.VZ R]at hx';by_cases e:x.1=2*l
     ·rw[if_pos e]at hx';exact(Option.some.inj hx').symm
     ·rw[if_neg e]at hx';exact Z _ ((MZ.uz R).mp hx')
    ·rw[MZ.Yy]
     have ek:(∃l'∈(cP A g).take (j+1),e=2*l') ↔ (∃l'∈(cP A g).take j,e=2*l')\/e=2*l:=by
      rw[pJ,hl];constructor
      ·rintro⟨l',J,rfl⟩;rcases fG.mp J with z|z
       ·exact .inl #v[l',z,rfl]
       ·simp only[Option.toList_some,dQ]at z;subst z;exact .inr rfl
      ·rintro(⟨l',J,rfl⟩|rfl)
       ·exact#v[l',qe _ J,rfl]
       ·exact#v[l,qK _ (by simp),rfl]
     rw[ek,<-or_assoc,<-L];split
     ·rename_i hin;constructor
      ·exact .inl
      ·rintro(z|rfl)
       ·exact z
       ·exact hin
     ·rw[fG,dQ]
   ·rintro σ H3 ⟨s3,hr3,cs,N,h3,R,Z,L,rfl⟩;rw[aQ,rC]at L;refine#v[s3,cs,_,_,h3,R,Z,λe=>?_,rfl];rw[L,pJ,hg];constructor
    ·rintro(⟨g',hg',l,hl,rfl⟩|⟨l,hl,rfl⟩)
     ·exact#v[g',qe _ hg',l,hl,rfl]
     ·exact#v[g,qK _ (by simp),l,hl,rfl]
    ·rintro⟨g',hg',l,hl,rfl⟩;rcases fG.mp hg' with z|z
     ·exact .inl #v[g',z,l,hl,rfl]
     ·simp only[Option.toList_some,dQ]at z;subst z;exact .inr #v[l,hl,rfl]
  ·rintro σ H2 ⟨s2,O,Y,N,h2,nd2,S,C,rfl⟩;rw[aQ,rC]at C
   have hC0:MZ.pN (cP A) (vH gs) (MZ.bU as) O:=by
    refine#v[nd2,λi e u h=>?_,λe h=>?_,λg l hg hl=>?_]
    ·have:=S _ (jP h);cases this
    ·obtain⟨g,hg,l,hl,rfl⟩:=(C e).mp (fE.mpr #v[_,h,rfl]);exact#v[⋯,g,hg,by rw[show 2*l/2=l by omega];exact hl]
    ·obtain⟨x,hx,e⟩:=fE.mp ((C (2*l)).mpr #v[g,hg,l,hl,rfl]);have:=S x hx;rw[<-e,<-this];exact hx
   have hS0:pv A gs as O (MZ.keys O):=⟨hC0,λw hw=>hw,nd2,λe he=>by obtain⟨g,hg,l,hl,rfl⟩:=(C e).mp he;have:=mz.lt _ _ hl;have:=WF hl;omega,λe he=>.inl he⟩
   walk_at"";refine#v[_,.inl h2,λG H3 n3=>?_];have e3:(O.map enc).map (λkv=>kV kv.1)=(MZ.keys O).map nv:=by unfold MZ.keys;rw[iR,iR];rfl
   rw[e3]at n3;have ww:=s2.trans n3.same;have fw:H G=Ae:=s2.nil n3.cL;have TN:cp≠G:=dW h2 n3.cL;walk_at"";refine#v[λm σ H4=>∃(cs:MZ.Cs) (ws:List Nat) (Y N v7 v8 v9:Option V),bL H H4/\H4 cp=Aa (.dK (cs.map enc))/\H4 G=Aa (.lst (ws.map nv))/\pv A gs as cs ws/\m=2*(2*A.length-cs.length)+ws.length/\σ=[Aa (.ref mp),Aa (.ref gp),Aa (.ref ap),Aa (.ref cp),Y,N,Aa (.ref G),v7,v8,v9],#v[_,O,MZ.keys O,_,_,_,_,_,ww,n3.same _ _ h2,n3.at_,hS0,rfl,rfl],?_];rintro m σ H4 ⟨cs,ws,Y,N,v7,v8,v9,s4,h4,hw4,sk,rfl,rfl⟩;simp only[kS,aA,Ja,Hz];refine#v[_,.inl #v[_,.of hw4,rfl],?_];rcases VT ws with rfl|⟨B,e,hwe⟩
   ·rw[if_neg (by simp)];walk_at"";refine#v[by show 2<=sizeLine;decide,λtp H5 n5=>?_];exact q0 cs tp cp H5 (s4.trans n5.same) n5.at_ (n5.same _ _ h4) sk
   rw[Sa]at hwe;subst hwe;rw[if_pos (by simp)];have TF:=sk.wait e (by simp);have heb:=sk.bd e TF;have Q5:=sk.len;have hwn:=HM.mp sk.wnd;refine#v[λσ' H'=>∃(d:MZ.Cs) (q:List Nat) (Y N v7 v8 v9:Option V),bL H H'/\H' cp=Aa (.dK (d.map enc))/\H' G=Aa (.lst (q.map nv))/\pv A gs as d q/\2*(2*A.length-d.length)+q.length<=2*(2*A.length-cs.length)+B.length/\σ'=[Aa (.ref mp),Aa (.ref gp),Aa (.ref ap),Aa (.ref cp),Y,N,Aa (.ref G),v7,v8,v9],?_,?_]
   ·rintro σ' H' ⟨d,q,w4,w5,w7,w8,w9,z1,z2,z3,z4,z5,rfl⟩;exact#v[_,by rw[eG,rg];omega,d,q,_,_,_,_,_,z1,z2,z3,z4,rfl,rfl]
   walk_at"go";refine#v[.inl #v[by trivial,_,.of hw4],G,_,nv e,rfl,by trivial,hw4,by rw[fN];simp,?_];have Zb:upd H4 G (.lst (((B++[e]).map nv).dropLast)) G=Aa (.lst (B.map nv)):=by rw[cN,fN];simp
   have h5:upd H4 G (.lst (((B++[e]).map nv).dropLast)) cp=Aa (.dK (cs.map enc)):=by rw[bE TN];exact h4
   have s5:bL H (upd H4 G (.lst (((B++[e]).map nv).dropLast))):=s4.put fw;generalize upd H4 G (.lst (((B++[e]).map nv).dropLast))=H5 at Zb h5 s5 ⊢;unfold nv;walk_at"";have e2:((e:Int)/2)=((e/2:Nat):Int):=⋯;rw[e2];refine#v[e/2,rfl,?_];unfold nv;have Tg:=hM.same s5;obtain⟨r,hr1,hr2⟩:=Tg.get (i:=e/2) ⋯
   have go:(∀t,e=2*t+1->cP A t≠[])->∀D:Ends,D.nx=(λσ' H'=>∃(d:MZ.Cs) (q:List Nat) (Y N v7 v8 v9:Option V),bL H H'/\H' cp=Aa (.dK (d.map enc))/\H' G=Aa (.lst (q.map nv))/\pv A gs as d q/\2*(2*A.length-d.length)+q.length<=2*(2*A.length-cs.length)+B.length/\σ'=[Aa (.ref mp),Aa (.ref gp),Aa (.ref ap),Aa (.ref cp),Y,N,Aa (.ref G),v7,v8,v9])->YR K [.ref mp,.ref ap,.int (e:Nat)] H5 (λx H6=>match x with|.ref p=>(∃xs,cB K H6 p xs)/\sH (qd K p) (aU 9) (bN (Zin K)) D [Aa (.ref mp),Aa (.ref gp),Aa (.ref ap),Aa (.ref cp),Y,N,Aa (.ref G),Aa (.int (e:Nat)),Aa (.int ((e/2:Nat):Int)),v9] H6|_=>False) E0:=λR0 D hD=>by
    refine#v[mp,ap,rs,A,as,e,rfl,Tg,s5 _ _ hA,⋯,hn,by have:=mz.len (e/2);omega,λl6 H6 md=>?_];obtain⟨f6,h6,s6⟩:=md;have nlw:l6≠G:=(dW Zb f6).symm;have nlc:l6≠cp:=(dW h5 f6).symm;refine#v[#v[_,.of h6],vu (xs:=(MZ.kY (cP A) (MZ.bU as) e).map nv) (λj σ H7=>∃(d:MZ.Cs) (q:List Nat) (v9:Option V),bL H H7/\H7 l6=Aa (.lst ((MZ.kY (cP A) (MZ.bU as) e).map nv))/\H7 cp=Aa (.dK (d.map enc))/\H7 G=Aa (.lst (q.map nv))/\MZ.pN (cP A) (vH gs) (MZ.bU as) d/\(∀x∈MZ.keys cs,x∈MZ.keys d)/\(∀x∈MZ.keys d,x<2*A.length/\(x∈MZ.keys cs\/x∈q))/\(∀x∈q,x∈MZ.keys d)/\(∀x∈B,x∈q)/\q.Nodup/\cs.length<=d.length/\(∀x∈(MZ.kY (cP A) (MZ.bU as) e).take j,x∈MZ.keys d)/\q.length+cs.length=B.length+d.length/\σ=[Aa (.ref mp),Aa (.ref gp),Aa (.ref ap),Aa (.ref cp),Y,N,Aa (.ref G),Aa (.int (e:Nat)),Aa (.int ((e/2:Nat):Int)),v9]) #v[cs,B,_,s5.trans s6,h6,s6 _ _ h5,s6 _ _ Zb,sk.vv,λx hx=>hx,λx hx=>#v[sk.bd x hx,.inl hx],λx hx=>sk.wait x (qe _ hx),λx hx=>hx,hwn.1,bV _,λx hx=>by simp at hx,rfl,rfl] ?_ ?_ ?_]
    ·rintro j σ H7 _ ⟨_,_,_,_,h7,_⟩;exact .of h7
    ·rintro j v σ H7 hv ⟨d,q,w9,s7,hl7,h7,hw7,U,M,I,X,ws7,wn7,le7,nx7,ln7,rfl⟩;obtain⟨x,hx,rfl⟩:=uc hv;have hxm:=jP hx;have U5:=Ep mz hab heb hxm
     have hcl':d.length<=2*A.length:=by have:=xz U.nd λy hy=>(I y hy).1;unfold MZ.keys at this;rwa[aQ]at this
     have hwl':q.length<=2*A.length:=xz wn7 λy hy=>(I y (X y hy)).1;have g1:=gS.k (k:=.inl (x:Int)) h7;rw[GW]at g1;unfold nv;walk_at"";refine#v[cp,_,rfl,g1,?_]
     have etk:∀y∈(MZ.kY (cP A) (MZ.bU as) e).take (j+1),y∈(MZ.kY (cP A) (MZ.bU as) e).take j\/y=x:=λy hy=>by
      rw[pJ,hx]at hy;rcases fG.mp hy with z|z
      ·exact .inl z
      ·exact .inr (by simpa using z)
     cases hc:MZ.bU d x with
     |some f=>
      have hin:=MZ.xH.mp (by rw[hc];simp);walk_at"go";refine#v[d,q,_,s7,hl7,h7,hw7,U,M,I,X,ws7,wn7,le7,λy hy=>?_,ln7,rfl];rcases etk y hy with z|rfl
      ·exact nx7 y z
      ·exact hin
     |none=>
      have GE:=MZ.ID.mp hc;walk_at"";refine#v[cp,_,rfl,.k (k:=.inl (x:Int)) h7 (by rw[aQ];omega),?_];have hw8:upd H7 cp (.dK (eD (d.map enc) (.inl (x:Int)) (.int (e:Nat)))) G=Aa (.lst (q.map nv)):=by rw[bE TN.symm];exact hw7
      walk_at"";refine#v[.inl #v[by trivial,_,.of hw8],G,_,_,rfl,rfl,hw8,by rw[aQ];omega,?_]
      have YD:eD (d.map enc) (.inl (x:Int)) (.int (e:Nat))=(d++[(x,Aa e)]).map enc:=by have:=Si d x (Aa e);unfold MZ.uW at this;rw[if_neg (λz=>GE ((MZ.OD d x).mp z))]at this;exact this
      have ek:MZ.keys (d++[(x,Aa e)])=MZ.keys d++[x]:=by unfold MZ.keys;rw[fN];rfl
      refine#v[d++[(x,Aa e)],q++[x],_,(s7.put fc).put fw,?_,?_,?_,U.snoc (M e TF) GE hxm R0,λy hy=>?_,λy hy=>?_,λy hy=>?_,λy hy=>qe _ (ws7 y hy),?_,by rw[eG];omega,λy hy=>?_,by rw[eG,eG];simp only[rg];omega,rfl]
      ·rw[bE nlw,bE nlc];exact hl7
      ·rw[bE TN,cN,YD]
      ·rw[cN,fN];rfl
      ·rw[ek];exact qe _ (M y hy)
      ·rw[ek]at hy;rcases fG.mp hy with z|z
       ·exact#v[(I y z).1,(I y z).2.elim .inl λw=>.inr (qe _ w)]
       ·rw[dQ]at z;subst z;exact#v[U5,.inr (by simp)]
      ·rw[ek];rcases fG.mp hy with z|z
       ·exact qe _ (X y z)
       ·exact qK _ z
      ·rw[HM];refine#v[wn7,by simp,λy hy z hz w=>?_];rw[dQ]at hz;subst hz w;exact GE (X y hy)
      ·rw[ek];rcases etk y hy with z|rfl
       ·exact qe _ (nx7 y z)
       ·simp
    ·rintro σ H7 ⟨d,q,w9,s7,hl7,h7,hw7,U,M,I,X,ws7,wn7,le7,nx7,ln7,rfl⟩;rw[aQ,rC]at nx7
     have hcl':d.length<=2*A.length:=by have:=xz U.nd λy hy=>(I y hy).1;unfold MZ.keys at this;rwa[aQ]at this
     rw[hD];refine#v[d,q,_,_,_,_,_,s7,h7,hw7,#v[U,X,wn7,λy hy=>(I y hy).1,λy hy=>?_],⋯,rfl]
     ·rcases(I y hy).2 with z|z
      ·rcases sk.done y z with w|⟨w1,w2⟩
       ·rcases fG.mp w with u|u
        ·exact .inl (ws7 y u)
        ·rw[dQ]at u;subst u;exact .inr #v[R0,λe' he'=>nx7 e' he']
       ·exact .inr #v[w1,λe' he'=>M e' (w2 e' he')]
      ·exact .inl z
   walk_at"";by_cases c:(e:Int)=((2*(e/2)+1:Nat):Int)
   ·rw[if_pos c];refine#v[_,_,.inl (.of Tg.lst),hr1,?_];refine .inl #v[_,.inl (.of hr2),?_];rw[aQ];by_cases c0:((cP A (e/2)).length:Int)=0
    ·rw[if_pos c0];refine#v[by show 2<=sizeLine;decide,λtp H6 n6=>?_];refine q1 (e/2) cs tp cp H6 (s5.trans n6.same) fc n6.at_ (n6.same _ _ h5) sk.vv (Zx0.mp ⋯) (by rw[show 2*(e/2)+1=e by omega];exact TF) ⋯ sk.bd
    ·rw[if_neg c0];refine go (λt ht z=>c0 (by rw[show e/2=t by omega,z];rfl)) _ ?_;rfl
   ·rw[if_neg c];refine go (λt ht z=>c ⋯) _ ?_;rfl
theorem YE(c:(MZ.keys as).Nodup)(h:∀p∈MZ.keys as,p<n):as.length<=n:=by have:=xz c h;unfold MZ.keys at this;rwa[aQ]at this
def ZpW(_:aE):Sp:=λvs H Q _=>∃(ap cp:Ad) (lo:Nat->List Nat) (d:Nat->Prop) (as cs:MZ.Cs) (s n:Nat),vs=[.ref ap,.ref cp,.int s]/\H ap=Aa (.dK (as.map enc))/\H cp=Aa (.dK (cs.map enc))/\ap≠cp/\(MZ.keys as).Nodup/\(∀p∈MZ.keys as,p<n)/\(∀e∈MZ.keys cs,e<2*n)/\n<=1200/\MZ.Flow lo d (MZ.bU as)/\MZ.Path lo d (MZ.bU as) (MZ.bU cs) (MZ.On (MZ.bU cs) (2*s+1)) s /\
 ∀c f,(∀b o,b≠ap->H b=Aa o->f b=Aa o)->f ap=Aa (.dK (c.map enc))->(MZ.keys c).Nodup->(∀p∈MZ.keys c,p<n)->MZ.bU c=MZ.lead (MZ.bU as) (MZ.bU cs) (MZ.On (MZ.bU cs) (2*s+1))->Q .non f
abbrev Zp9(K:aE):TS:=(eK (cO (aK (mP K) (aA 5) (dH (yv K) [] E0 (aC (aA 4) aI)))) (li (S5 (aA 0) (aA 4))) (rF (aA 0) (aA 4) (aK (dA kF λi j=>.int (i/j)) (aA 5) (tC (.int 2)))))
abbrev Zp8(K:aE):TS:=(yt (eK (cO (aK (mP K) (aA 3) (dH (Nc K) [] E0 (aC (aA 4) aI)))) (eK (cO (aK yP (aA 5) (tC .non))) (rF (aA 0) (aA 4) (tC .non)) (bN (Zp9 K))) fI)
  (cK (aA 5) (aU 3)))
abbrev Zp7(K:aE):TS:=(aV (cK (aK (dA kF λi j=>.int (i/j)) (aA 3) (tC (.int 2))) (aU 4))
  (aV (cK (qV (aA 1) (aA 3)) (aU 5))
  (bN (Zp8 K))))
def U1(K:aE):TS:=(aV (cK (dH (yv K) [] E0 (aC (aA 2) aI)) (aU 3))
  (yN (cO (aK Lo (aA 3) (tC .non))) (bN (Zp7 K))))
theorem Zun(T:Txt K mg a):TM P w K mg base 1 "lead" Qb ZtT a.sm (U1 K):=
 λhr=>(aX (dL 3 Jg.nd (dP T.jD (Ff T) (hm hr) cG (aD (cv 2) aM)))
   (bD (SA PassesOwn.never (eE Wa (cv 3) rl) (bX (aX (dL 4 Jg.nd (bK kP (cv 3) aR))
   (aX (dL 5 Jg.nd (sT (fP hr) (cv 1) (cv 3) (λ_ _=>rfl)))
   (bX (XU (fC (eE (nR (lk hr)) (cv 3) (dP T.nO (QI T) (hm hr) cG (aD (cv 4) aM))) (bD (fC (eE tN (cv 5) rl) (bD (tj (fP hr) (cv 0) (cv 4) rl rfl)) (bX (bD (fC (eE (nR (lk hr)) (cv 5) (dP T.jD (Ff T) (hm hr) cG (aD (cv 4) aM))) (bD (l0 (Zsy (cv 0) (cv 4) #v[rfl,rfl,rfl,rfl]))) (bD (tj (fP hr) (cv 0) (cv 4) (bK kP (cv 5) aR) rfl))))))) fO)
   (bD (dL 3 Jg.nd (cv 5)))))))))))
theorem ZuX(T:Txt K mg a):a0 P w K mg base fD 2 a.sm a.vJ UR (ZpW K):=by
 refine T.vT.n.gJ Jg (Zun T) (λvs H Q E h=>?_) (λH vs Q E h=>?_)
 ·obtain⟨ap,cp,lo,D,as,cs,s,n,rfl,_⟩:=h;rfl
 ·obtain⟨ap,cp,lo,D,as,cs,s,n,rfl,hA,hC,Zs,nda,ba,bc,hn,F,P,q⟩:=h;show U1 K _ [Aa (.ref ap),Aa (.ref cp),Aa (.int s),Ae,Ae,Ae] H;unfold U1;have big:=kQ;obtain⟨r,hr⟩:=P.rk
  have onI:∀{i e},MZ.it (MZ.bU cs) (2*s+1) i=Aa e->MZ.On (MZ.bU cs) (2*s+1) e:=λ{i}=>by
   induction i with
   |zero=>intro e he;cases he;exact .here
   |succ i ih=>
    intro e he;have he:(MZ.it (MZ.bU cs) (2*s+1) i).bind (λe=>(MZ.bU cs e).join)=Aa e:=he;cases hj:MZ.it (MZ.bU cs) (2*s+1) i with
    |none=>rw[hj]at he;cases he
    |some b=>
     rw[hj]at he;have he:(MZ.bU cs b).join=Aa e:=he;refine(ih hj).up ?_;cases hc:MZ.bU cs b with
     |none=>rw[hc]at he;cases he
     |some o=>rw[hc]at he;rw[show o=Aa e from he]
  walk_at"";refine#v[s,rfl,?_];refine#v[λm σ C=>∃(i:Nat) (g:MZ.Cs) (R S:Option V),(∀b o,b≠ap->H b=Aa o->C b=Aa o)/\C ap=Aa (.dK (g.map enc))/\(MZ.keys g).Nodup/\(∀p∈MZ.keys g,p<n)/\MZ.bU g=MZ.lead (MZ.bU as) (MZ.bU cs) (MZ.t9 (MZ.bU cs) (2*s+1) i)/\m=(match MZ.it (MZ.bU cs) (2*s+1) i with|some e=>r e+1 |none=>0)/\σ=[Aa (.ref ap),Aa (.ref cp),Aa (.int s),Aa (ov (MZ.it (MZ.bU cs) (2*s+1) i)),R,S],#v[_,0,as,_,_,λ_ _ _ e=>e,hA,nda,ba,MZ.ZqW.symm,rfl,rfl],?_];rintro m σ C ⟨i,g,R,S,B,h2,l,v,x,rfl,rfl⟩;cases hi:MZ.it (MZ.bU cs) (2*s+1) i with
  |none=>show _;walk_at"";refine q g C B h2 l v (x.trans (MZ.Zo9 λe=>MZ.Zuk hi))
  |some e=>
   have L:=onI hi;have Zy7:=YE l v;show _;walk_at""
   obtain⟨f,hf⟩:∃f,MZ.bU cs e=Aa f:=by
    rcases P.pred e L with z|⟨u,_,z⟩
    ·exact#v[_,z]
    ·exact#v[_,z]
   have Y:e∈MZ.keys cs:=MZ.xH.mp (by rw[hf];simp);have heb:=bc e Y;have e2:((e:Int)/2)=((e/2:Nat):Int):=⋯
   have J:MZ.it (MZ.bU cs) (2*s+1) (i+1)=f:=by show(MZ.it (MZ.bU cs) (2*s+1) i).bind (λe=>(MZ.bU cs e).join)=f;rw[hi];show(MZ.bU cs e).join=f;rw[hf];rfl
   have X:C cp=Aa (.dK (cs.map enc)):=B _ _ Zs.symm hC;have g1:=gS.k (k:=.inl (e:Int)) X;rw[GW,hf]at g1
   have I:¬MZ.t9 (MZ.bU cs) (2*s+1) i e:=λ⟨j,hj,Z⟩=>by have:=MZ.X2 hr hj Z hi;omega
   refine#v[λO t=>∃(d:MZ.Cs) (R S:Option V),(∀b o,b≠ap->H b=Aa o->t b=Aa o)/\t ap=Aa (.dK (d.map enc))/\(MZ.keys d).Nodup/\(∀p∈MZ.keys d,p<n)/\MZ.bU d=MZ.lead (MZ.bU as) (MZ.bU cs) (MZ.t9 (MZ.bU cs) (2*s+1) (i+1))/\O=[Aa (.ref ap),Aa (.ref cp),Aa (.int s),Aa (ov f),R,S],?_,?_]
   ·rintro O t ⟨d,w4,w5,z1,M,z3,z4,z5,rfl⟩;refine#v[_,?_,i+1,d,w4,w5,z1,M,z3,z4,z5,rfl,by rw[J]];rw[J];cases f with
    |none=>exact Nat.succ_pos _
    |some u=>have:=hr e u hf;show r u+1<r e+1;omega
   rw[show ov (Aa e)=V.int (e:Nat) from rfl];walk_at"";rw[e2];refine#v[cp,_,rfl,g1,?_];walk_at"go";refine mid (λO t=>∃d:MZ.Cs,(∀b o,b≠ap->H b=Aa o->t b=Aa o)/\t ap=Aa (.dK (d.map enc))/\(MZ.keys d).Nodup/\(∀p∈MZ.keys d,p<n)/\MZ.bU d=MZ.lead (MZ.bU as) (MZ.bU cs) (MZ.t9 (MZ.bU cs) (2*s+1) (i+1))/\O=[Aa (.ref ap),Aa (.ref cp),Aa (.int s),Aa (.int (e:Nat)),Aa (.int ((e/2:Nat):Int)),Aa (ov f)]) ?_ ?_
   ·intro N hN;walk_at"";refine#v[e/2,rfl,?_];unfold nv;walk_at"";by_cases c:(e:Int)=((2*(e/2):Nat):Int)
    ·rw[if_pos c];have ee:2*(e/2)=e:=⋯
     have y:∀d:MZ.Cs,(MZ.keys d).Nodup->(∀p,MZ.bU d p=if p=e/2 then MZ.lead (MZ.bU as) (MZ.bU cs) (MZ.t9 (MZ.bU cs) (2*s+1) (i+1)) (e/2) else MZ.bU g p)->∀t,(∀b o,b≠ap->H b=Aa o->t b=Aa o)->t ap=Aa (.dK (d.map enc))->N [Aa (.ref ap),Aa (.ref cp),Aa (.int s),Aa (.int (e:Nat)),Aa (.int ((e/2:Nat):Int)),Aa (ov f)] t:=λd nd3 G t s3 h3=>by
      refine hN _ _ #v[d,s3,h3,nd3,λp hp=>?_,funext λp=>?_,rfl]
      ·by_cases z:p=e/2
       ·omega
       ·have:=MZ.xH.mpr hp;rw[G,if_neg z]at this;exact v p (MZ.xH.mp this)
      ·rw[G];by_cases z:p=e/2
       ·rw[if_pos z,z]
       ·rw[if_neg z,x,MZ.ZjO hi ⋯]
     have self:=MZ.Zpv hi;cases f with
     |none=>
      walk_at"";refine#v[ap,_,rfl,.k (k:=.inl ((e/2:Nat):Int)) h2 (by rw[aQ];omega),?_];refine y (MZ.uW g (e/2) Ae) (MZ.NJ l _ _) (λp=>?_) _ (λb o A z=>by rw[bE A];exact B b o A z) ?_
      ·rw[MZ.VZ l];by_cases z:p=e/2
       ·rw[if_pos z,if_pos z,MZ.CI (by rw[ee];exact self) (by rw[ee];exact hf)]
       ·rw[if_neg z,if_neg z]
      ·rw[cN];exact congrArg (λz=>Aa (HO.dK z)) (Si g (e/2) Ae)
     |some u=>
      rw[show ov (Aa u)=V.int (u:Nat) from rfl]at y ⊢;walk_at"";refine#v[e/2,rfl,?_];unfold nv;walk_at"";by_cases cu:(u:Int)=((2*(e/2)+1:Nat):Int)
      ·rw[if_pos cu];have eu:u=2*(e/2)+1:=⋯;walk_at""
       have wj:MZ.bU g (e/2)≠Ae:=by
        rw[x,MZ.vX (by rw[ee];exact I)];have hpu:MZ.On (MZ.bU cs) (2*s+1) (2*(e/2)+1):=eu ▸ L.up hf;rcases MZ.Ss P hpu with⟨_,M,_⟩|⟨p',_,_,z⟩
        ·exact(MZ.ZqL P (p:=e/2) (by rw[ee,hf,show u=e+1 by omega]) M).elim
        ·exact(F.up _ _ z).2
       obtain⟨o,ho⟩:=Option.ne_none_iff_exists'.mp wj;refine#v[ap,rfl,.inl #v[_,.inl h2],?_];refine#v[_,.inl ((e/2:Nat):Int),ov o,h2,rfl,by rw[GW,ho];rfl,?_];refine y (MZ.HX g (e/2)) (MZ.ZqO l _) (λp=>?_) _ (λb o A z=>by rw[bE A];exact B b o A z) ?_
       ·rw[MZ.Zvm l];by_cases z:p=e/2
        ·rw[if_pos z,if_pos z,MZ.L3 (by rw[ee];exact self) (by rw[ee,hf,show u=e+1 by omega])]
        ·rw[if_neg z,if_neg z]
       ·rw[cN,Zs2]
      ·rw[if_neg cu];have U:((u:Int)/2)=((u/2:Nat):Int):=⋯;walk_at"";rw[U];refine#v[ap,_,rfl,.k (k:=.inl ((e/2:Nat):Int)) h2 (by rw[aQ];omega),?_];refine y (MZ.uW g (e/2) (Aa (u/2))) (MZ.NJ l _ _) (λp=>?_) _ (λb o A z=>by rw[bE A];exact B b o A z) ?_
       ·rw[MZ.VZ l];by_cases z:p=e/2
        ·rw[if_pos z,if_pos z,MZ.wW (u:=u) (by rw[ee];exact self) (by rw[ee];exact hf) ⋯]
        ·rw[if_neg z,if_neg z]
       ·rw[cN];exact congrArg (λz=>Aa (HO.dK z)) (Si g (e/2) (Aa (u/2)))
    ·rw[if_neg c];refine hN _ _ #v[g,B,h2,l,v,?_,rfl];rw[x];funext p;exact(MZ.ZjO hi ⋯).symm
   ·rintro O t ⟨d,z1,M,z3,z4,z5,rfl⟩;walk_at"";exact#v[d,_,_,z1,M,z3,z4,z5,rfl]
structure PQ (ab:MZ.Ab) (s:Nat) (w:List Nat):Prop where
 hd:∃r,w=s::r
 st:∀(i a b:Nat),w[i]? = Aa a->w[i+1]? = Aa b->ab a=Aa (Aa b)
 tp:∃v x,w=v++[x]/\ab x=Aa Ae
theorem Y5:mN ((v++[x]).map nv) (-1)=Aa (nv x):=by rw[fN];unfold mN wG;simp;rw[if_pos ⋯,show(-1+((v.length:Int)+1)).toNat=v.length by omega];simp
def Zia(_:aE):Sp:=λvs H Q _=>∃(ap:Ad) (lo:Nat->List Nat) (c:Nat->Prop) (as:MZ.Cs) (s n:Nat),vs=[.ref ap,.int s]/\H ap=Aa (.dK (as.map enc))/\(∀p∈MZ.keys as,p<n)/\n<=1200/\MZ.Flow lo c (MZ.bU as)/\(∀p l,l∈lo p->l<p)/\MZ.bU as s≠Ae /\
 ∀l w d,uQ H l (.lst (w.map nv)) d->PQ (MZ.bU as) s w->Q (.ref l) d
abbrev Zkw(K:aE):TS:=(aV (yN (cO (aK Lo (qV (aA 0) (aK (eJ K) (aA 2) (zf zR (tC (.int 1))))) (tC .non))) (li (uf K "list" uR (aA 2) (aC (qV (aA 0) (aK (eJ K) (aA 2) (zf zR (tC (.int 1))))) aI))))
  (cY (aA 2)))
def ZF(K:aE):TS:=(aV (cK (kT (aC (aA 1) aI)) (aU 2))
  (bN (Zkw K)))
theorem ZmK(T:Txt K mg a):TM P w K mg base 0 "way_from" OW Zj0 a.kL (ZF K):=
 λhr=>(aX (dL 2 Zie.nd (lJ (aD (cv 1) aM)))
   (bX (aX (SA PassesOwn.never (eE Wa (sT (fP hr) (cv 0) (eQ eP (cv 2) (Io Il aR)) (λ_ _=>rfl)) rl) (bD (l0 (u0 sZ vS vz (sS uG) (cv 2) (aD (sT (fP hr) (cv 0) (eQ eP (cv 2) (Io Il aR)) (λ_ _=>rfl)) aM)))))
   (bD (dM (cv 2))))))
theorem Zne(T:Txt K mg a):a0 P w K mg base fD 1 a.kL a.nP UB (Zia K):=by
 refine T.nK.n.gJ Zie (ZmK T) (λvs H Q E h=>?_) (λH vs Q E h=>?_)
 ·obtain⟨ap,lo,d,as,s,n,rfl,_⟩:=h;rfl
 ·obtain⟨ap,lo,d,as,s,n,rfl,J,ba,hn,F,B,hs,q⟩:=h;show ZF K _ [Aa (.ref ap),Aa (.int s),Ae] H;unfold ZF;have I:=kQ;walk_at"";refine#v[by show 1<=sizeLine;decide,λl O u=>?_];walk_at"";refine#v[λm σ c=>∃(v:List Nat) (x:Nat),bL H c/\c l=Aa (.lst ((v++[x]).map nv))/\(∃r,v++[x]=s::r)/\(∀(i a b:Nat),(v++[x])[i]? = Aa a->(v++[x])[i+1]? = Aa b->MZ.bU as a=Aa (Aa b))/\MZ.bU as x≠Ae/\v.length<=x/\m=n-x/\σ=[Aa (.ref ap),Aa (.int s),Aa (.ref l)],#v[_,[],s,u.same,u.at_,#v[[],rfl],λi a b h1 h2=>by simp at h2,hs,rE _,rfl,rfl],?_];rintro m σ c ⟨v,x,C,h2,f,t,p,L,rfl,rfl⟩;have M:=ba x (MZ.xH.mp p);obtain⟨o,ho⟩:=Option.ne_none_iff_exists'.mp p;have g1:=gS.k (k:=.inl (x:Int)) (C _ _ J);rw[GW,ho]at g1;walk_at"";refine#v[_,_,.inl (.of h2),Y5,?_];refine#v[ap,_,rfl,g1,?_];cases o with
  |none=>show _;walk_at"";exact q l (v++[x]) c #v[u.cL,h2,C] #v[f,t,v,x,rfl,ho]
  |some y=>
   have N:=B _ _ (F.up _ _ ho).1;have g1:gS c ap (kV (.inl (x:Int))) (Aa (V.int (y:Nat))):=g1;rw[if_pos (λz=>nomatch z)];refine#v[λG D=>∃A,A=upd c l (.lst ((v++[x]).map nv++[nv y]))/\D=A/\G=[Aa (.ref ap),Aa (.int s),Aa (.ref l)],?_,?_]
   ·rintro G D ⟨A,rfl,rfl,rfl⟩;refine#v[n-y,⋯,v++[x],y,C.put u.cL,by rw[cN,fN (l₁:=v++[x])];rfl,?_,λi a b h1 h2=>?_,(F.up _ _ ho).2,by rw[eG];simp;omega,rfl,rfl]
    ·obtain⟨r,hr⟩:=f;exact#v[r++[y],by rw[hr];rfl]
    ·rcases lD (i+1) (v++[x]).length with g|g
     ·rw[mY ⋯]at h1;rw[mY g]at h2;exact t i a b h1 h2
     ·have j:i+1<(v++[x]++[y]).length:=(dS.mp h2).1;rw[eG]at j;simp only[rg]at j;have hi:i+1=(v++[x]).length:=⋯;rw[hi,qP (bV _),vD]at h2;rw[mY ⋯,show i=v.length by rw[eG]at hi;simp at hi;omega,qP (bV _),vD]at h1;cases h1;cases h2;exact ho
   ·refine#v[.inl #v[by trivial,_,.of h2],?_];refine#v[_,_,.inl (.of h2),Y5,?_];refine#v[ap,_,rfl,g1,?_];refine#v[l,_,_,rfl,rfl,h2,by rw[aQ,eG];simp;omega,?_];exact#v[_,rfl,rfl,rfl]
def cA(xs:List Nat):List Int:=xs.map λx:Nat=>(x:Int)
theorem IZ(xs:List Nat):(cA xs).map V.int=xs.map nv:=by unfold cA;rw[iR];rfl
theorem ZT(cs:MZ.Cs):(cs.map enc).map (·.1)=(cA (MZ.keys cs)).map Sum.inl:=by unfold cA MZ.keys;rw[iR,iR,iR];rfl
theorem ZjL(hp:c.Perm (cA ks))(hs:c.Pairwise (· <= ·))(f:ks.Nodup):∃xs:List Nat,c=cA xs/\xs.Perm ks/\xs.Pairwise (· < ·):=by
 have h1:c=cA (c.map uN):=by unfold cA;rw[iR];refine(F9 _).symm.trans (ym λx hx=>?_);obtain⟨k,_,rfl⟩:=fE.mp (hp.mem_iff.mp hx);rfl
 have h2:(c.map uN).Perm ks:=by
  have:=hp.map uN;unfold cA at this;rw[iR]at this
  have e:ks.map (uN ∘ λx:Nat=>(x:Int))=ks:=by refine(ym λx _=>?_).trans (F9 _);rfl
  rwa[e]at this
 refine#v[_,h1,h2,?_]
 have d:(c.map uN).Pairwise (· <= ·):=by rw[OH];exact hs.imp λh=>by omega
 exact Oy.imp₂ (λa b g1 g2=>by omega) d (h2.nodup_iff.mpr f)
def Zib(_:aE):Sp:=λvs H Q _=>∃(cp:Ad) (cs:MZ.Cs),vs=[.ref cp]/\H cp=Aa (.dK (cs.map enc))/\(MZ.keys cs).Nodup/\cs.length<=3000 /\
 ∀l (es:List Nat) c,uQ H l (.lst ((es.map λe:Nat=>e/2).map nv)) c->es.Pairwise (· < ·)->(∀e,e∈es ↔ e∈MZ.keys cs/\2*(e/2)+1∉MZ.keys cs)->Q (.ref l) c
def Y7(K:aE):TS:=(cY (iP (jV K (dF (QO K) (aC (aA 0) aI))) 1 [0] (aU 0) (cO (uU (dH (yv K) [] E0 (aC (aK (dA kF λi j=>.int (i/j)) (aA 0) (tC (.int 2))) aI)) (aA 1))) (aK (dA kF λi j=>.int (i/j)) (aA 0) (tC (.int 2)))))
theorem ZmL(T:Txt K mg a):TM P w K mg base 1 "stops_of" Ib Yc a.kG (Y7 K):=λhr=>(bD (dM (oZ (N:=["end","came"]) (k:=1) (sel:=[0]) (aY.of (bZ Ib).names ∅) (bI.of Yc ∅) rfl (lH (eV (ZrA rfl) (by rfl) T.oX PyProof.Rows.boot_sorted (aD (cv 0) aM))) (λ_ _ _ _=>(dN 0 (show kK (["end","came"]:List Str) by decide +kernel))) (λ_ _ _ _=>(yF (sW (wF (fP hr) (dP T.jD (Ff T) (hm hr) cG (aD (bK kP (cv 0) aR) aM)) (cv 1))))) (λ_ _ _ _=>(bK kP (cv 0) aR)))))
theorem Znf(T:Txt K mg a):a0 P w K mg base fD 2 a.kG a.nB ["came"] (Zib K):=by
 refine T.nN.n.gJ ZmT (ZmL T) (λvs H Q E h=>?_) (λH vs Q E h=>?_)
 ·obtain⟨cp,cs,rfl,_⟩:=h;rfl
 ·obtain⟨cp,cs,rfl,r,C,y,q⟩:=h;show Y7 K _ [Aa (.ref cp)] H;unfold Y7;have x:=kQ;have A:(MZ.keys cs).length=cs.length:=by unfold MZ.keys;rw[aQ]
  walk_at"";refine#v[_,cA (MZ.keys cs),.inl r,ZT cs,by unfold cA;rw[aQ];omega,λD l G hp hs c=>?_];obtain⟨xs,rfl,d,j⟩:=ZjL hp hs C;rw[IZ]at c;have B:xs.length<=3000:=by rw[d.length_eq];omega
  refine#v[#v[_,c.sq],Li (λv=>match v with|.int e=>decide (2*(e.toNat/2)+1∉MZ.keys cs)|_=>Ah) (λv=>match v with|.int e=>nv (e.toNat/2)|_=>.non) c.sq rfl (by rw[aQ];omega) ?_ ?_ ?_]
  ·intro v m p hv t g;obtain⟨e,he,rfl⟩:=fE.mp hv;have e2:((e:Int)/2)=((e/2:Nat):Int):=⋯;have g1:=gS.k (k:=.inl ((2*(e/2)+1:Nat):Int)) (t _ _ (c.same _ _ r));rw[GW]at g1;unfold nv;walk_at"";rw[e2];refine#v[e/2,rfl,?_];refine#v[cp,_,rfl,g1,?_];have g:p (decide (2*(e/2)+1∉MZ.keys cs)) m:=g
   have:(!((MZ.bU cs (2*(e/2)+1)).map ov).isSome)=decide (2*(e/2)+1∉MZ.keys cs):=by
    cases hc:MZ.bU cs (2*(e/2)+1) with
    |none=>rw[decide_eq_true (MZ.ID.mp hc)];rfl
    |some f=>rw[decide_eq_false (λz=>z (MZ.xH.mp (by rw[hc];simp)))];rfl
   rw[this];exact g
  ·intro v m p hv _ t g;obtain⟨e,he,rfl⟩:=fE.mp hv;have e2:((e:Int)/2)=((e/2:Nat):Int):=⋯;unfold nv;walk_at"";rw[e2];exact g
  intro l2 u i
  have e3:(((xs.map nv).filter λv=>match v with|.int e=>decide (2*(e.toNat/2)+1∉MZ.keys cs)|_=>Ah).map λv=>match v with|.int e=>nv (e.toNat/2)|_=>.non)=((xs.filter λe=>decide (2*(e/2)+1∉MZ.keys cs)).map λe:Nat=>e/2).map nv:=by rw[II,iR,iR];rfl
  rw[e3]at i;refine q l2 _ u #v[c.same.nil i.cL,i.at_,c.same.trans i.same] (j.filter _) λe=>?_;rw[uA,d.mem_iff,decide_eq_true_iff]
def Ug(_:aE):Sp:=λvs H Q _=>∃(g ap:Ad) (rs:List Ad) (d:List (List Nat)) (c:Nat->Prop) (as:MZ.Cs),vs=[.ref g,.ref ap]/\cS H g rs d/\H ap=Aa (.dK (as.map enc))/\(MZ.keys as).Nodup/\as.length<=3000/\(∀p∈MZ.keys as,p<d.length)/\d.length<=1200/\MZ.Flow (cP d) c (MZ.bU as)/\Mz d /\
 ∀l f,bL H f->Q (.ref l) f
def YA(K:aE):TS:=(aV (cK (iP (jV K (dF (QO K) (aC (aA 1) aI))) 1 [0] (aU 0) (cO (aK (mP K) (dF (k9 K) (aC (aK (eJ K) (aA 1) (aA 0)) aI)) (tC (.int 0)))) (aA 0)) (aU 2))
  (cY (iP (jV K (aA 2)) 1 [1] (aU 0) kt (dH (Zia K) [] E0 (aC (aA 1) (aC (aA 0) aI))))))
theorem ZoB(T:Txt K mg a):TM P w K mg base 1 "ways_of" Gv Rf a.lI (YA K):=
 λhr=>(aX (HS (i:=2) (N:=["place","maze"]) (k:=1) (sel:=[0]) (aY.of (bZ Gv).names ∅) (bI.of Rf ∅) rfl (lH (eV (ZrA rfl) (by rfl) T.oX PyProof.Rows.boot_sorted (aD (cv 1) aM))) (λ_ _ _ _=>(dN 0 (show kK (["place","maze"]:List Str) by decide +kernel))) (λ_ _ _ _=>(yF (eE (nR (lk hr)) (eV lS (by rfl) T.bR PySem.boot_len (aD (eQ eP (cv 1) (cv 0)) aM)) aR))) (λ_ _ _ _=>(cv 0)) ZjF.nd rfl (by walk_at"o") rfl)
   (bD (dM (oZ (N:=["spring","above"]) (k:=1) (sel:=[1]) (aY.of (bZ Gv).names ∅) (bI.of Rf ∅) rfl (lH (cv 2)) (λ_ _ _ _=>(dN 0 (show kK (["spring","above"]:List Str) by decide +kernel))) (λ_ _ _ _=>p0) (λ_ _ _ _=>(dP T.nK (Zne T) (hm hr) cG (aD (cv 1) (aD (cv 0) aM))))))))
theorem ZjI(T:Txt K mg a):a0 P w K mg base fD 2 a.lI a.oY Yw (Ug K):=by
 refine T.lL.n.gJ ZjF (ZoB T) (λvs H Q E h=>?_) (λH vs Q E h=>?_)
 ·obtain⟨O,ap,rs,d,f,as,rfl,_⟩:=h;rfl
 ·obtain⟨O,ap,rs,d,f,as,rfl,N,M,nd,Z,ba,hn,F,mz,q⟩:=h;show YA K _ [Aa (.ref O),Aa (.ref ap),Ae] H;unfold YA;have Y:=kQ;have IS:(MZ.keys as).length=as.length:=by unfold MZ.keys;rw[aQ]
  walk_at"";refine#v[_,cA (MZ.keys as),.inl M,ZT as,by unfold cA;rw[aQ];omega,λns' l1 H1 hp hs m=>?_];obtain⟨xs,rfl,l,hxs⟩:=ZjL hp hs nd;rw[IZ]at m;have G:xs.length<=3000:=by rw[l.length_eq];omega
  refine#v[#v[_,m.sq],Li (λv=>match v with|.int e=>decide ((cP d e.toNat).length=0)|_=>Ah) id m.sq rfl (by rw[aQ];omega) ?_ ?_ ?_]
  ·intro v J L hv I x;obtain⟨e,he,rfl⟩:=fE.mp hv;have z:=ba e (l.mem_iff.mp he);obtain⟨r,h1,h2⟩:=(N.same (m.same.trans I)).get z;unfold nv;walk_at"";refine#v[_,_,.inl (.of (I _ _ (m.same _ _ N.lst))),h1,?_];refine .inl #v[_,.inl (.of h2),?_];rw[aQ];walk_at"";have x:L (decide ((cP d e).length=0)) J:=x;rw[show decide (((cP d e).length:Int)=0)=decide ((cP d e).length=0) by rw[decide_eq_decide];omega];exact x
  ·intro v J L hv _ I x;walk_at"";exact x
  intro l2 X p
  have e3:(((xs.map nv).filter λv=>match v with|.int e=>decide ((cP d e.toNat).length=0)|_=>Ah).map id)=(xs.filter λe=>decide ((cP d e).length=0)).map nv:=by rw[F9,II];rfl
  rw[e3]at p;have y:=m.same.trans p.same;obtain⟨c,k⟩:∃c,c=xs.filter λe=>decide ((cP d e).length=0):=#v[_,rfl];rw[<-k]at p
  have A:∀t∈c,MZ.bU as t≠Ae:=λt ht=>by rw[k]at ht;exact MZ.xH.mpr (l.mem_iff.mp (uA.mp ht).1)
  have hsl:c.length<=3000:=by rw[k];exact lC (xf ..) G
  walk_at"";refine#v[#v[_,p.sq],λcp u=>SF (n:=(c.map nv).length) (item:=λi=>(c.map nv).getD i .non) (λσ=>∃U,σ=[U,Aa (.ref ap)]) (λi j=>bL X j/\∃us:List V,j cp=Aa (.lst us)/\us.length=i) #v[_,rfl] #v[kO u,[],cN,rfl] (IU (xs:=c.map nv) ?_) ?_ ?_ ?_]
  ·rintro i j _ ⟨g,_⟩;exact .of (g _ _ p.at_)
  ·rintro j ⟨g,_⟩;exact#v[_,.of (g _ _ p.at_),bV _]
  ·rintro i σ3 j R hi ⟨U,rfl⟩ ⟨g,us,h3,D⟩ hR;rw[aQ]at hi;have B:c[i]? = Aa c[i]:=eF hi;have C:=A _ (tR hi);rw[show(c.map nv).getD i .non=nv c[i] by rw[mS,gX,B];rfl];generalize c[i]=t at *;unfold nv;walk_at"";refine#v[ap,cP d,f,as,t,d.length,rfl,g _ _ (y _ _ M),ba,hn,F,mz.lt,C,λl4 w H4 md hw=>?_];obtain⟨_,_,S⟩:=md;exact#v[_,S _ _ h3,⋯,hR _ _ #v[_,rfl] #v[(g.trans S).put u,us++[.ref l4],cN,by rw[eG,D];rfl]]
  rintro j ⟨g,_⟩;exact q cp j (y.trans g)
def Cnt(c:List (List Nat))(as:MZ.Cs)(i:Nat):Prop:=∃A:List Nat,A.Nodup/\(∀t,t∈A ↔ cP c t=[]/\MZ.bU as t≠Ae)/\A.length=i
theorem Zp0(h:pv c gs as cs []):MZ.pY (cP c) (vH gs) (MZ.bU as) (λe=>e∈MZ.keys cs):=by
 refine#v[λg l hg hl=>fE.mpr #v[_,h.vv.all g l hg hl,rfl],λe d he hn=>?_,λt ht=>?_]
 ·rcases h.done e he with z|z
  ·simp at z
  ·exact z.2 d hn
 ·rcases h.done _ ht with z|z
  ·simp at z
  ·exact z.1 t rfl
structure Told (ls:List (List Nat)) (gs:List Nat) (most:Nat) (H:Hp) (v:V) (as:MZ.Cs):Prop where
 VY:MZ.Flow (cP ls) (vH gs) (MZ.bU as)
 bd:∀p∈MZ.keys as,p<ls.length
 rest:v=.non\/∃(sl:Ad) (es:List Nat) (cs:MZ.Cs) (A:List Nat),v=.ref sl/\H sl=Aa (.lst ((es.map λe:Nat=>e/2).map nv))/\pv ls gs as cs []/\es.Pairwise (· < ·)/\(∀e,e∈es ↔ e∈MZ.keys cs/\2*(e/2)+1∉MZ.keys cs)/\A.Nodup/\(∀t,t∈A ↔ cP ls t=[]/\MZ.bU as t≠Ae)/\A.length<=most
def ZnX(a:bC)(_:aE):Sp:=λvs H Q E=>∃(g gp:Ad) (rs:List Ad) (d:List (List Nat)) (gi:List Int) (c:Nat),vs=[.ref g,.ref gp,.int c]/\cS H g rs d/\H gp=Aa (.lst (gi.map V.int))/\Mz d/\d.length<=1200/\c<=10 /\
 (∀gs h i v as f,gi=cA gs->Jb d gi->bL H f->(∀b,v=.ref b->H b=Ae)->f h=Aa (.tup [.ref i,v])->Told d gs c f v as->Q (.ref h) f)/\(¬Jb d gi->∀e,H e=Ae->E (.ref e) (Aa a.cC) H)
abbrev ZoZ(a:bC)(K:aE)(E:XK):TS:=(cY (pM (aC (dH (Ug K) [] E0 (aC (aA 0) (aC (aA 3) aI))) (aC (dH (Zib K) [] E0 (aC (aK (eJ K) (aA 5) (tC (.int 1))) aI)) aI))))
abbrev ZoY(a:bC)(K:aE)(E:XK):TS:=(aV (eK (cO (aK yP (aK (eJ K) (aA 5) (tC (.int 0))) (tC .non))) (bN (ZoZ a K E)) fI)
  (li (dH (ZpW K) [] E0 (aC (aA 3) (aC (aK (eJ K) (aA 5) (tC (.int 1))) (aC (aK (eJ K) (aA 5) (tC (.int 0))) aI))))))
abbrev ZoX(a:bC)(K:aE)(E:XK):TS:=(aV (gU (qm (aC (aK pP (aA 2) (tC (.int 1))) aI)) (aU 4) (aV (cK (dH (Z5 K) [] E0 (aC (aA 0) (aC (aA 1) (aC (aA 3) aI)))) (aU 5))
  (bN (ZoY a K E))))
  (cY (pM (aC (dH (Ug K) [] E0 (aC (aA 0) (aC (aA 3) aI))) (aC (tC .non) aI)))))
def UP(a:bC)(K:aE)(E:XK):TS:=(aV (li (dH (Zf7 a K) [] E (aC (aA 0) (aC (aA 1) aI))))
  (aV (cK vR (aU 3))
  (bN (ZoX a K E))))
theorem Zr4(T:Txt K mg a):TX P w K mg base 3 "apart" LU ZrI a.pu (UP a K):=
 λhr=>(aX (l0 (Zz (ZkE T) (hm hr) rfl T.fH.m T.fH.n.kp T.fH.b .nil (Ru vh) (aD (cv 0) (aD (cv 1) aM))))
   (aX (dL 3 Q9.nd zd)
   (bX (aX (PS.vl (my PassesOwn.never rfl (uj rfl T.bO (aD (bK qO (cv 2) aR) aM)) (dN 4 Q9.nd) (aX (dL 5 Q9.nd (dP T.qA (ZqB T) (hm hr) cG (aD (cv 0) (aD (cv 1) (aD (cv 3) aM)))))
   (bX (aX (fC (eE tN (eQ eP (cv 5) aR) rl) (bX (bD (dM (sI (aD (dP T.lL (ZjI T) (hm hr) cG (aD (cv 0) (aD (cv 3) aM))) (aD (dP T.nN (Znf T) (hm hr) cG (aD (eQ eP (cv 5) aR) aM)) aM)))))) fO)
   (bD (l0 (dP T.vT (ZuX T) (hm hr) cG (aD (cv 3) (aD (eQ eP (cv 5) aR) (aD (eQ eP (cv 5) aR) aM)))))))))))
   (bD (dM (sI (aD (dP T.lL (ZjI T) (hm hr) cG (aD (cv 0) (aD (cv 3) aM))) (aD rl aM)))))))))
theorem ZsE(T:Txt K mg a):a0 P w K mg base (lf P w) 4 a.pu a.sV T4 (ZnX a K):=by
 refine T.s0.n.nF Q9 (Zr4 T) (λvs H Q E h=>?_) (λH vs Q E h=>?_)
 ·obtain⟨B,gp,rs,f,gi,d,rfl,_⟩:=h;rfl
 ·obtain⟨B,gp,rs,f,gi,d,rfl,X,hG,O,hn,hmo,q1,q0⟩:=h;show UP a K E _ [Aa (.ref B),Aa (.ref gp),Aa (.int d),Ae,Ae,Ae] H;unfold UP;have big:=kQ;walk_at"";refine#v[B,gp,rs,f,gi,rfl,X,hG,λm=>?_,q0]
  obtain⟨gs,l⟩:∃gs,gi=cA gs:=⟨gi.map uN,by unfold cA;rw[iR];refine(F9 _).symm.trans (ym λx hx=>?_);have:=(m x hx).1;show x=((x.toNat:Nat):Int);omega⟩
  have L:=hG;rw[l,IZ]at L
  have M:∀g∈gs,g<f.length/\cP f g≠[]:=λg hg=>by obtain⟨_,h2,h3⟩:=m (g:Int) (by rw[l];exact fE.mpr #v[g,hg,rfl]);rw[oK]at h3;exact#v[⋯,h3]
  walk_at"";intro ap H1 n1;have fa:H ap=Ae:=n1.cL;have v:MZ.Flow (cP f) (vH gs) (MZ.bU []):=#v[λp q h=>(nomatch h),λp h=>(nomatch h),λp p' q h=>(nomatch h),λp h=>absurd rfl h,λp h=>absurd rfl h];walk_at"";rw[show((d:Int)+1).toNat=d+1 by omega];refine vF (λi σ S=>bL H S/\∃(as:MZ.Cs) (v4 v5:Option V),S ap=Aa (.dK (as.map enc))/\(MZ.keys as).Nodup/\(∀p∈MZ.keys as,p<f.length)/\MZ.Flow (cP f) (vH gs) (MZ.bU as)/\Cnt f as i/\σ=[Aa (.ref B),Aa (.ref gp),Aa (.int d),Aa (.ref ap),v4,v5]) #v[n1.same,[],_,_,n1.at_,IA,λp hp=>by simp[MZ.keys]at hp,v,#v[[],IA,λt=>#v[λz=>by simp at z,λz=>absurd rfl z.2],rfl],rfl] ?_ ?_
  ·rintro i σ S hi ⟨u,as,v4,v5,h2,j,c,k,c2,rfl⟩;have hal:=YE j c;walk_at"";refine#v[B,gp,ap,rs,f,gs,as,rfl,X.same u,u _ _ L,h2,O,⋯,λg hg=>(M g hg).1,λp q hpq=>c q (MZ.xH.mp (k.up p q hpq).2),λs cs tp cp H3 I fc3 h3 y cm3 N hk3 hsb hcb=>?_,λcs tp cp H3 I h3 y sk=>?_]
   ·-- a iZ cL come to
    have P:=cm3.path k (λg hg=>(M g hg).2) N hk3;have Zs:ap≠cp:=dW h2 fc3;walk_at"";refine#v[_,_,.inr (.of h3),rfl,?_];unfold nv;walk_at"";refine#v[_,_,.inr (.of h3),rfl,?_];refine#v[_,_,.inr (.of h3),rfl,?_];refine#v[ap,cp,cP f,vH gs,as,cs,s,f.length,rfl,I _ _ h2,y,Zs,j,c,hcb,⋯,k,P,λZ H4 C h4 nd4 ba4 J=>?_]
    ·have F4:=MZ.ZqX k P O.lt;rw[<-J]at F4;obtain⟨l1,l2,l3⟩:=MZ.Zl5 k P O.lt;rw[<-J]at l2 l3;refine#v[λb o e=>?_,Z,_,_,h4,nd4,ba4,F4,?_,rfl]
     ·exact C b o (dW e fa) (I _ _ (u _ _ e))
     ·obtain⟨A,nA,U,rfl⟩:=c2;refine#v[s::A,uL.mpr #v[λz=>((U s).mp z).2 l1,nA],λt=>?_,rfl];rw[iN,U];constructor
      ·rintro(rfl|⟨R,z2⟩)
       ·exact#v[N,l2]
       ·refine#v[R,?_];by_cases e:t=s
        ·subst e;exact l2
        ·exact(l3 t R e).mpr z2
      ·rintro⟨R,z2⟩;by_cases e:t=s
       ·exact .inl e
       ·exact .inr #v[R,(l3 t R e).mp z2]
   ·walk_at"";refine#v[_,_,.inr (.of h3),rfl,?_];walk_at"";refine#v[B,ap,rs,f,vH gs,as,rfl,X.same (u.trans I),I _ _ h2,j,⋯,c,⋯,k,O,λwl H4 C=>?_];refine#v[_,_,.inr (.of (C _ _ h3)),rfl,?_];refine#v[cp,cs,rfl,C _ _ y,sk.vv.nd,by have:=sk.len;omega,λsl es H5 md hes hem=>?_];obtain⟨f5,h5,s5⟩:=md;refine#v[by show 2<=sizeLine;decide,λD Y G=>?_];have ww:=u.trans I;have r:=ww.trans C;have Tz:=r.trans s5;obtain⟨A,nA,U,rfl⟩:=c2;exact q1 gs D wl (.ref sl) as Y l m (Tz.trans G.same) (λb e=>by cases e;exact r.nil f5) G.at_ #v[k,c,.inr #v[sl,es,cs,A,rfl,G.same _ _ h5,sk,hes,hem,nA,U,⋯]]
  ·rintro σ S ⟨u,as,v4,v5,h2,j,c,k,c2,rfl⟩;have hal:=YE j c;walk_at"";refine#v[B,ap,rs,f,vH gs,as,rfl,X.same u,h2,j,⋯,c,⋯,k,O,λwl H4 C=>?_];refine#v[by show 2<=sizeLine;decide,λD Y G=>?_];have r:=u.trans C;exact q1 gs D wl .non as Y l m (r.trans G.same) (λb e=>nomatch e) G.at_ #v[k,c,.inl rfl]
def wC(H:Hp):V->Prop
 |.int _=>True
 |.bl _=>True
 |.str _=>True
 |.non=>True
 |.ref a=>(∃xs,H a=Aa (.lst xs))\/∃xs,H a=Aa (.tup xs)
 |_=>False
theorem wC.same(h:wC H v)(s:∀b o,H b=Aa o->c b=Aa o):wC c v:=by
 cases v with
 |ref a=>
  rcases h with⟨xs,e⟩|⟨xs,e⟩
  ·exact .inl #v[xs,s _ _ e]
  ·exact .inr #v[xs,s _ _ e]
 |_=>exact h
def whole:V->Bool
 |.int _=>Ai
 |_=>Ah
def Mj(_:aE):Sp:=λvs H Q _=>∃v:V,vs=[v]/\wC H v/\Q (.bl (whole v)) H
def S6(K:aE):TS:=(cY (uD (dF (wB K) (aC (aA 0) (aC (tC (.ty "int")) aI))) (EV (dF (wB K) (aC (aA 0) (aC (tC (.ty "bool")) aI))))))
theorem ZmN(T:Txt K mg a):TM P w K mg base 0 "is_whole" Qm Zj2 a.kN (S6 K):=λhr=>(bD (dM (yy (eV zU (by rfl) T.bJ PyProof.Rows.boot_isinstance (aD (cv 0) (aD (zJ (v:=.ty "int") rfl T.pW PyProof.Rows.boot_int rfl) aM))) (yu (YX (eV zU (by rfl) T.bJ PyProof.Rows.boot_isinstance (aD (cv 0) (aD (zJ (v:=.ty "bool") rfl T.sR PyProof.Rows.boot_bool rfl) aM))))))))
theorem T9(T:Txt K mg a):a0 P w K mg base fD 1 a.kN a.nM QG (Mj K):=by
 refine T.hJ.n.gJ ZmV (ZmN T) (λvs H Q E h=>?_) (λH vs Q E h=>?_)
 ·obtain⟨v,rfl,_⟩:=h;rfl
 ·obtain⟨v,rfl,hv,q⟩:=h;show S6 K _ [Aa v] H;unfold S6;walk_at"";cases v with
  |int i=>refine#v[_,Ai,.int _,rfl,?_];walk_at"";refine#v[_,Ah,.int _,rfl,?_];walk_at"";exact q
  |bl x=>refine#v[_,Ai,.bl _,rfl,?_];walk_at"";refine#v[_,Ai,.bl _,rfl,?_];walk_at"";exact q
  |str z=>refine#v[_,Ah,.str _,rfl,?_];walk_at"";exact q
  |non=>refine#v[_,Ah,.non,rfl,?_];walk_at"";exact q
  |ref r=>
   rcases hv with⟨xs,e⟩|⟨xs,e⟩
   ·refine#v[_,Ah,.lst e,rfl,?_];walk_at"";exact q
   ·refine#v[_,Ah,.tup e,rfl,?_];walk_at"";exact q
  |_=>exact hv.elim
def wH(v:V)(l g:Int):Bool:=match v with
 |.int i=>decide (l<=i/\i<=g)
 |_=>Ah
theorem ZqK(h:whole v=Ah)(l g:Int):wH v l g=Ah:=by
 cases v with
 |int i=>cases h
 |_=>rfl
theorem FS(h:whole v=Ai):∃i,v=.int i:=by
 cases v with
 |int i=>exact#v[i,rfl]
 |_=>cases h
def IB(_:aE):Sp:=λvs H Q _=>∃(v:V) (l g:Int),vs=[v,.int l,.int g]/\wC H v/\Q (.bl (wH v l g)) H
def VD(K:aE):TS:=(cY (uD (dH (Mj K) [] E0 (aC (aA 0) aI)) (wh (cZ λi j=>.bl (decide (i<=j))) (cZ λi j=>.bl (decide (i<=j))) (aA 1) (aA 0) (aA 2))))
theorem Zkl(T:Txt K mg a):TM P w K mg base 1 "is_between" OX Zhy a.hV (VD K):=λhr=>(bD (dM (yy (dP T.hJ (T9 T) (hm hr) cG (aD (cv 0) aM)) (yu (Zrj zp zp (cv 1) (cv 0) (cv 2))))))
theorem R7(T:Txt K mg a):a0 P w K mg base fD 2 a.hV a.lj xU (IB K):=by
 refine T.eA.n.gJ Zks (Zkl T) (λvs H Q E h=>?_) (λH vs Q E h=>?_)
 ·obtain⟨v,l,g,rfl,_⟩:=h;rfl
 ·obtain⟨v,l,g,rfl,hv,q⟩:=h;show VD K _ [Aa v,Aa (.int l),Aa (.int g)] H;unfold VD;walk_at"";refine#v[v,rfl,hv,?_];cases hw:whole v with
  |false=>rw[ZqK hw]at q;walk_at"";exact q
  |true=>
   obtain⟨i,rfl⟩:=FS hw;have q:Q (.bl (decide (l<=i/\i<=g))) H:=q;walk_at"";by_cases h:l<=i
   ·rw[if_pos h];rw[show decide (l<=i/\i<=g)=decide (i<=g) by rw[decide_eq_decide];omega]at q;exact q
   ·rw[if_neg h];rw[decide_eq_false (λz=>h z.1)]at q;exact q
def qT(v:V):Bool:=wH v 2 6
def Zhl(a:bC)(_:aE):Sp:=λvs H Q E=>∃v:V,vs=[v]/\wC H v/\(qT v=Ai->Q .non H)/\(qT v=Ah->∀e,H e=Ae->E (.ref e) (Aa a.aW) H)
def X9(a:bC)(K:aE)(E:XK):TS:=(eK (lR (kS K (dH (IB K) [] E0 (aC (aA 0) (aC (tC (Rx a)) (aC (tC (R8 a)) aI)))))) (xB a.aW (aC (tC (.str "not a whole number from 2 to 6")) aI) E) fI)
theorem Zlm(T:Txt K mg a):TX P w K mg base 2 "need_size" MT ZiT a.iW (X9 a K):=λhr=>(bD (fC (mU (mV (dP T.eA (R7 T) (hm hr) cG (aD (cv 0) (aD (xX rfl T.ox) (aD (xX rfl T.lW) aM)))))) (bD (DV Fp T.lQ (by decide) rfl T.oP rfl vh (aD wO aM))) fO))
theorem ZlW(T:Txt K mg a):a0 P w K mg base (lf P w) 3 a.iW a.mF ["size"] (Zhl a K):=by
 refine T.fV.n.nF ZlA (Zlm T) (λvs H Q E h=>?_) (λH vs Q E h=>?_)
 ·obtain⟨v,rfl,_⟩:=h;rfl
 ·obtain⟨v,rfl,hv,d,c⟩:=h;show X9 a K E _ [Aa v] H;unfold X9
  try unfold Rx
  try unfold R8
  walk_at"";refine#v[v,_,_,rfl,hv,?_];have e:wH v 2 6=qT v:=rfl;rw[e];cases h:qT v with
  |true=>walk_at"";exact d h
  |false=>walk_at"";exact c h
def kC(m:Nat)(P:List MF.Pr):List (List Nat):=gR (m+1) []++P.map λp=>[(p.1/2).toNat,(p.2/2).toNat]
theorem yV(m:Nat)(P:List MF.Pr):(kC m P).length=m+1+P.length:=by unfold kC;rw[eG,oQ,aQ]
theorem Zl3{P:List MF.Pr}(h:k<=m):(kC m P)[k]? = Aa []:=by unfold kC;rw[mY (by rw[oQ];omega),Fv,if_pos ⋯]
theorem ZjM{P:List MF.Pr}(h:P[j]? = Aa p):(kC m P)[m+1+j]? = Aa [(p.1/2).toNat,(p.2/2).toNat]:=by unfold kC;rw[qP (by rw[oQ];omega),oQ,show m+1+j-(m+1)=j by omega,gX,h];rfl
theorem UU{P:List MF.Pr}(h:k<=m):cP (kC m P) k=[]:=by unfold cP;rw[mS,Zl3 h];rfl
theorem zP{P:List MF.Pr}(h:P[j]? = Aa p):cP (kC m P) (m+1+j)=[(p.1/2).toNat,(p.2/2).toNat]:=by unfold cP;rw[mS,ZjM h];rfl
theorem WB{P:List MF.Pr}(h:l∈cP (kC m P) k):∃j p,k=m+1+j/\P[j]? = Aa p/\(l=(p.1/2).toNat\/l=(p.2/2).toNat):=by
 have hk:=WF h;rw[yV]at hk;rcases lD m k with z|z
 ·have hj:k-m-1<P.length:=⋯;refine#v[k-m-1,P[k-m-1],⋯,eF hj,?_];rw[show k=m+1+(k-m-1) by omega,zP (eF hj)]at h;simpa using h
 ·rw[UU z]at h;simp at h
theorem Ha{m:Nat}{P:List MF.Pr}(ok:MF.Ok m P):Mz (kC m P):=by
 refine#v[λk l h=>?_,λk=>?_]
 ·obtain⟨j,p,rfl,hp,e⟩:=WB h;obtain⟨_,_,-,_⟩:=ok j p hp;omega
 ·rcases lD m k with z|z
  ·rcases lD (k-m-1) P.length with y|y
   ·rw[show k=m+1+(k-m-1) by omega,zP (eF y)];have:=ok _ _ (eF y);simp;omega
   ·unfold cP;rw[mS,tI (by rw[yV];omega)];exact IA
  ·rw[UU z];exact IA
theorem cS.snoc{c bp:Ad}(h:cS H c rs f)(hb:H bp=Aa (.lst (bs.map nv)))(k:c∉rs)(j:c≠bp):cS (upd H c (.lst (rs.map V.ref++[.ref bp]))) c (rs++[bp]) (f++[bs]):=by
 refine#v[by rw[cN,fN];rfl,by rw[eG,eG,h.len];rfl,λi r l hr hl=>?_]
 have d:c≠r:=λz=>by
  have:=jP hr;rcases fG.mp this with g|g
  ·exact k (z ▸ g)
  ·rw[dQ]at g;exact j (z.trans g)
 rw[bE d.symm];rcases OS i f.length with z|z|z
 ·rw[mY (by rw[h.len];exact z)]at hr;rw[mY z]at hl;exact h.at_ i r l hr hl
 ·subst z;rw[qP (by rw[h.len];exact bV _),h.len,vD]at hr;rw[qP (bV _),vD]at hl;cases hr;cases hl;exact hb
 ·rw[tI (by rw[eG,rg];omega)]at hl;cases hl
def ZjD(a:bC)(_:aE):Sp:=λvs H Q _=>∃(f dx pl g:Ad) (m:Nat) (es:List En),vs=[.ref f]/\bB a.aB H f m es dx pl g/\MF.Ok m (aP es)/\m<=10/\es.length<=4000 /\
 ∀c rs d,bL H d->H c=Ae->(∀r∈rs,H r=Ae/\c≠r)->cS d c rs (kC m (aP es))->Q (.ref c) d
abbrev ZlO(a:bC)(K:aE):TS:=(aV (cK (fQ a.aB "pair" (Dd a K) [] E0 (aA 0) (aC (aA 2) aI)) (aU 3))
  (li (uf K "list" uR (aA 1) (aC (Oa (cO (aK yP (aA 3) (tC .non))) (kT aI) (kT (aC (aK (dA kF λi j=>.int (i/j)) (aK (eJ K) (aA 3) (tC (.int 0))) (tC (.int 2))) (aC (aK (dA kF λi j=>.int (i/j)) (aK (eJ K) (aA 3) (tC (.int 1))) (tC (.int 2))) aI)))) aI))))
abbrev ZlN(a:bC)(K:aE):TS:=(aV (gU (qm (aC (fQ a.aB "total" (qR a K) [] E0 (aA 0) aI) aI)) (aU 2) (bN (ZlO a K)))
  (cY (aA 1)))
def YZ(a:bC)(K:aE):TS:=(aV (cK (kT aI) (aU 1))
  (bN (ZlN a K)))
theorem ZoD(T:Txt K mg a):TM P w K mg base 2 "maze_of" JE Zmy a.lV (YZ a K):=
 λhr=>(aX (dL 1 Q2.nd (lJ aM))
   (bX (aX (my PassesOwn.never rfl (uj rfl T.bO (aD (oR (cv 0) T.aJ T.aF.e (rr T) (hm hr) T.aF.b .nil cG) aM)) (dN 2 Q2.nd) (bX (aX (dL 3 Q2.nd (oI (cv 0) T.aJ T.bW.e (KN T) (hm hr) T.bW.b .nil qj (aD (cv 2) aM)))
   (bD (l0 (u0 sZ vS vz (sS uG) (cv 1) (aD (Tk (eE tN (cv 3) rl) (lJ aM) (lJ (aD (bK kP (eQ eP (cv 3) aR) aR) (aD (bK kP (eQ eP (cv 3) aR) aR) aM)))) aM)))))))
   (bD (dM (cv 1))))))
theorem Zo2(T:Txt K mg a):a0 P w K mg base fD 3 a.lV a.pk ["fold"] (ZjD a K):=by
 refine T.oS.n.gJ Q2 (ZoD T) (λvs H Q E h=>?_) (λH vs Q E h=>?_)
 ·obtain⟨f,dx,pl,A,m,es,rfl,_⟩:=h;rfl
 ·obtain⟨f,dx,pl,A,m,es,rfl,hf,ok,hm,hz,q⟩:=h;show YZ a K _ [Aa (.ref f),Ae,Ae,Ae] H;unfold YZ;have J:=kQ;have L:(aP es).length=es.length:=aQ ..;walk_at"";intro p R u;have f1:=hf.same u.same;walk_at"";refine#v[f,dx,_,rfl,f1.ins,rfl,f,dx,pl,A,m,es,rfl,f1,?_];walk_at"";rw[show(1+(m:Int)+(es.length:Int)).toNat=m+1+es.length by omega];refine vF (λi σ v=>bL H v/\∃(rs:List Ad) (B C:Option V),(∀r∈rs,H r=Ae/\p≠r)/\cS v p rs ((kC m (aP es)).take i)/\σ=[Aa (.ref f),Aa (.ref p),B,C]) #v[u.same,[],_,_,λr hr=>by simp at hr,#v[u.at_,rfl,λi r l hr=>by simp at hr],rfl] ?_ ?_
  ·rintro i σ v hi ⟨t,rs,B,C,d,k,rfl⟩;have f2:=hf.same t;have O:rs.length=i:=by rw[k.len,uw,yV];omega
   have D:p∉rs:=λz=>(d p z).2 rfl;walk_at"";refine#v[f,dx,_,rfl,f2.ins,rfl,f,dx,pl,A,m,_,es,rfl,f2,λ_=>#v[λM=>?_,λe N he=>?_],λz=>absurd #v[⋯,⋯] z]
   ·walk_at"";refine#v[.inl #v[by trivial,_,.of k.lst],by show 0<=sizeLine;omega,λy I g=>?_];have c:=k.same g.same;have nm:p≠y:=dW k.lst g.cL;refine#v[p,_,_,rfl,rfl,c.lst,by rw[aQ];omega,(t.trans g.same).put u.cL,rs++[y],_,_,λr hr=>?_,?_,rfl]
    ·rcases fG.mp hr with z|z
     ·exact d r z
     ·rw[dQ]at z;subst z;exact#v[t.nil g.cL,nm]
    ·rw[pJ,Zl3 ⋯];exact c.snoc (bs:=[]) g.at_ D nm
   ·obtain⟨j,hj⟩:∃j,i=m+1+j:=#v[i-m-1,⋯];have x:es[j]? = Aa e:=by rw[<-he];congr 1;omega
    have hp:(aP es)[j]? = Aa e.2:=by rw[gX,x];rfl
    obtain⟨o1,o2,o3,S⟩:=ok _ _ hp;have G:=f2.iQ.tup _ (jP x);walk_at"";refine#v[.inl #v[by trivial,_,.of k.lst],?_];refine#v[_,_,.inr (.of G),rfl,?_];walk_at"";refine#v[_,_,.inr (.of G),rfl,?_];walk_at"";refine#v[by show 2<=sizeLine;decide,λy I g=>?_];have c:=k.same g.same;have nm:p≠y:=dW k.lst g.cL;refine#v[p,_,_,rfl,rfl,c.lst,by rw[aQ];omega,(t.trans g.same).put u.cL,rs++[y],_,_,λr hr=>?_,?_,rfl]
    ·rcases fG.mp hr with z|z
     ·exact d r z
     ·rw[dQ]at z;subst z;exact#v[t.nil g.cL,nm]
    ·rw[pJ,hj,ZjM hp,<-hj];refine c.snoc (bs:=[(e.2.1/2).toNat,(e.2.2/2).toNat]) ?_ D nm;rw[g.at_];show Aa (HO.lst [V.int (e.2.1/2),V.int (e.2.2/2)])=Aa (HO.lst [nv _,nv _]);unfold nv;rw[show((e.2.1/2).toNat:Int)=e.2.1/2 by omega,show((e.2.2/2).toNat:Int)=e.2.2/2 by omega]
  ·rintro σ v ⟨t,rs,B,C,d,k,rfl⟩;rw[yD (by rw[yV];omega)]at k;walk_at"";exact q p rs v t u.cL d k
theorem XE{m:Nat}{P:List MF.Pr}(ok:MF.Ok m P){n:Nat}(hn:n<1+m+P.length){k:Nat}:k∈MF.qE m P n ↔ ML.Dn (cP (kC m P)) n k:=by
 unfold MF.qE;rw[MF.L4];constructor
 ·intro h;refine MF.O9 (S:=ML.Dn (cP (kC m P)) n) (λt ht=>?_) (λj p hp c _=>?_) h
  ·rw[dQ]at ht;subst ht;rw[MF.Dl];exact .here
  ·exact#v[c.low (by rw[zP hp];simp),c.low (by rw[zP hp];simp)]
 ·intro h
  induction h with
  |here=>exact MF.yS hn
  |low h hx ih=>
   obtain⟨j,p,rfl,hp,e⟩:=WB hx;have:=MF.F6 ok [2*(n:Int)] hp ih rfl;rcases e with rfl|rfl
   ·exact this.1
   ·exact this.2
theorem Zrp{m:Nat}{P:List MF.Pr}(ok:MF.Ok m P){n:Nat}(hn:n<1+m+P.length):∃v,MF.qE m P n=v++[n]:=by rw[MF.Zs8 ok hn,wN,uJ];refine#v[(dX n).filter (MF.gF (λ_=>Ah) m P [2*(n:Int)]),?_];rw[uX,if_pos (MF.yS hn)];rfl
theorem Zs7(m:Nat)(P:List MF.Pr)(n:Nat):(MF.qE m P n).length<=1+m+P.length:=by unfold MF.qE MF.cD;refine lC (xf ..) ?_;rw[ub];exact bV _
def lF:Nat->List Ad->List (Key×V)
 |_,[]=>[]
 |n,c::r=>(.inl (n:Int),.ref c):: lF (n+1) r
theorem Q3:∀(n:Nat) (cs:List Ad) (k:Int),bQ (lF n cs) (.inl k)=if(n:Int)<=k then(cs[(k-n).toNat]?).map V.ref else Ae
 |n,[],k=>by show Ae=_;split <;> simp
 |n,c::r,k=>by
  show bQ ((.inl (n:Int),.ref c):: lF (n+1) r) (.inl k)=_;by_cases e:k=n
  ·subst e;rw[rn rfl,if_pos (sN _),show((n:Int)-(n:Int)).toNat=0 by omega];rfl
  ·rw[rx (λz=>e (by have:=Sum.inl.inj z;omega)),Q3 (n+1) r k];by_cases h:(n:Int)<=k
   ·rw[if_pos ⋯,if_pos h,show(k-(n:Int)).toNat=(k-((n+1:Nat):Int)).toNat+1 by omega,Hz]
   ·rw[if_neg ⋯,if_neg h]
theorem Zn8:∀(n:Nat) (cs:List Ad) (c:Ad),lF n (cs++[c])=lF n cs++[(.inl ((n+cs.length:Nat):Int),.ref c)]
 |n,[],c=>rfl
 |n,x::r,c=>by show(.inl (n:Int),.ref x):: lF (n+1) (r++[c])=(.inl (n:Int),.ref x):: (lF (n+1) r++_);rw[Zn8 (n+1) r c,lG,show n+1+r.length=n+(r.length+1) by omega]
theorem ZrH:∀(n:Nat) (cs:List Ad) (k:Nat),n+cs.length<=k->((lF n cs).any λd=>decide (d.1=(.inl (k:Int):Key)))=Ah
 |n,[],k,_=>rfl
 |n,c::r,k,h=>by rw[lG]at h;show(decide ((.inl (n:Int):Key)=.inl (k:Int)) ||_)=Ah;rw[decide_eq_false (λz=>by have:=Sum.inl.inj z;omega),Vk];exact ZrH (n+1) r k ⋯
theorem Zqp(n:Nat)(cs:List Ad)(c:Ad):eD (lF n cs) (.inl ((n+cs.length:Nat):Int)) (.ref c)=lF n (cs++[c]):=by unfold eD;rw[ZrH n cs _ (bV _),if_neg (by simp),Zn8]
theorem T3:∀(n:Nat) (cs:List Ad),(lF n cs).length=cs.length
 |_,[]=>rfl
 |n,c::r=>by show(lF (n+1) r).length+1=r.length+1;rw[T3]
structure kX (C:Ad) (H:Hp) (x dx ll fc fw:Ad) (m:Nat) (t8:List Nat) (rp cL:List Ad):Prop where
 ins:H x=Aa (.ins C dx [("levels",.ref ll),("found_cuts",.ref fc),("found_ways",.ref fw)])
 lst:H ll=Aa (.lst (t8.map nv))
 ol:H fc=Aa (.dK (lF (m+1) rp))
 pH:H fw=Aa (.dK (lF (m+1) cL))
def tu(d fc fw:Ad)(H c:Hp):Prop:=∀b o,b≠d->b≠fc->b≠fw->H b=Aa o->c b=Aa o
theorem tu.trans(u:tu c fc fw H d)(v:tu c fc fw d f):tu c fc fw H f:=λb o g h i e=>v b o g h i (u b o g h i e)
theorem RX(s:bL H c):tu d fc fw H c:=λb o _ _ _ e=>s b o e
theorem kX.same(h:kX C H x dx i fc fw m d c f)(s:bL H g):kX C g x dx i fc fw m d c f:=#v[s _ _ h.ins,s _ _ h.lst,s _ _ h.ol,s _ _ h.pH]
def Rk(a:bC)(_:aE):Sp:=λvs H Q _=>∃(x dx j fc fw c w:Ad) (m k h:Nat) (f:List Nat) (d g:List Ad),vs=[.ref x,.int k,.int h,.ref c,.ref w]/\kX a.aG H x dx j fc fw m f d g/\k=m+1+d.length/\d.length=g.length/\f.length<=10000/\k<=10000/\fc≠fw /\
 ∀i,tu j fc fw H i->kX a.aG i x dx j fc fw m (f++[h]) (d++[c]) (g++[w])->Q .non i
def UC(K:aE):TS:=(aV (li (uf K "list" uR (kR K (aA 0) "levels") (aC (aA 2) aI)))
  (aV (rF (kR K (aA 0) "found_cuts") (aA 1) (aA 3))
  (rF (kR K (aA 0) "found_ways") (aA 1) (aA 4))))
theorem Zi4(T:Txt K mg a):TM P w K mg base 0 "Labels.keep" Nw ZgJ a.gC (UC K):=
 λhr=>(aX (l0 (u0 sZ vS vz (sS uG) (lB (cv 0)) (aD (cv 2) aM)))
   (aX (tj (fP hr) (lB (cv 0)) (cv 1) (cv 3) rfl)
   (bD (tj (fP hr) (lB (cv 0)) (cv 1) (cv 4) rfl))))
theorem V9(T:Txt K mg a):a0 P w K mg base fD 1 a.gC a.ku xk (Rk a K):=by
 refine T.cJ.n.gJ Zi7 (Zi4 T) (λvs H Q E h=>?_) (λH vs Q E h=>?_)
 ·obtain⟨x,dx,i,fc,fw,c,w,m,k,d,f,j,l,rfl,_⟩:=h;rfl
 ·obtain⟨x,dx,i,fc,fw,c,w,m,k,d,f,j,l,rfl,g,hk,u,hz,I,D,q⟩:=h;show UC K _ [Aa (.ref x),Aa (.int k),Aa (.int d),Aa (.ref c),Aa (.ref w)] H;unfold UC;have G:=kQ;have J:i≠x:=fS g.lst g.ins (λz=>nomatch z);have L:fc≠x:=fS g.ol g.ins (λz=>nomatch z);have M:fw≠x:=fS g.pH g.ins (λz=>nomatch z);have B:i≠fc:=fS g.lst g.ol (λz=>nomatch z);have C:i≠fw:=fS g.lst g.pH (λz=>nomatch z);walk_at"";refine#v[x,a.aG,dx,_,_,rfl,g.ins,T.bH,T.cM,rfl,?_];walk_at"";refine#v[.inl #v[by trivial,_,.of g.lst],i,_,_,rfl,rfl,g.lst,by rw[aQ];omega,?_];have p:upd H i (.lst (f.map nv++[.int d])) x=Aa (.ins a.aG dx [("levels",.ref i),("found_cuts",.ref fc),("found_ways",.ref fw)]):=by rw[bE J.symm];exact g.ins
  have t:upd H i (.lst (f.map nv++[.int d])) fc=Aa (.dK (lF (m+1) j)):=by rw[bE B.symm];exact g.ol
  have y:upd H i (.lst (f.map nv++[.int d])) fw=Aa (.dK (lF (m+1) l)):=by rw[bE C.symm];exact g.pH
  have v:upd H i (.lst (f.map nv++[.int d])) i=Aa (.lst ((f++[d]).map nv)):=by rw[cN,fN];rfl
  have N:tu i fc fw H (upd H i (.lst (f.map nv++[.int d]))):=λb o g1 _ _ e=>by rw[bE g1];exact e
  generalize upd H i (.lst (f.map nv++[.int d]))=H1 at *;walk_at"";refine#v[x,a.aG,dx,_,_,rfl,p,T.bH,T.cF,rfl,fc,_,rfl,ry.k (k:=.inl (k:Int)) t (by rw[T3];omega),?_];have e2:eD (lF (m+1) j) (.inl (k:Int)) (.ref c)=lF (m+1) (j++[c]):=by rw[hk];exact Zqp _ _ _
  rw[e2];walk_at"";have r:upd H1 fc (.dK (lF (m+1) (j++[c]))) x=Aa (.ins a.aG dx [("levels",.ref i),("found_cuts",.ref fc),("found_ways",.ref fw)]):=by rw[bE L.symm];exact p
  have A:upd H1 fc (.dK (lF (m+1) (j++[c]))) fw=Aa (.dK (lF (m+1) l)):=by rw[bE D.symm];exact y
  refine#v[x,a.aG,dx,_,_,rfl,r,T.bH,T.dE,rfl,fw,_,rfl,ry.k (k:=.inl (k:Int)) A (by rw[T3];omega),?_];have e3:eD (lF (m+1) l) (.inl (k:Int)) (.ref w)=lF (m+1) (l++[w]):=by rw[hk,u];exact Zqp _ _ _
  rw[e3];refine q _ (λb o g1 g2 g3 e=>?_) #v[?_,?_,?_,cN]
  ·rw[bE g3,bE g2];exact N b o g1 g2 g3 e
  ·rw[bE M.symm];exact r
  ·rw[bE C,bE B];exact v
  ·rw[bE D,cN]
theorem ZB{xs:List Nat}(h:n<xs.length):mN (xs.map nv) (n:Int)=Aa (nv (xs.getD n 0)):=by rw[CY .non ⋯ (by rw[aQ];omega),oK,mS,mS,gX,eF h];rfl
def Zb2(a:bC)(_:aE):Sp:=λvs H Q E=>∃(x dx g fc fw:Ad) (m:Nat) (k:Int) (d:List Nat) (c f:List Ad),vs=[.ref x,.int k]/\kX a.aG H x dx g fc fw m d c f/\(m<k/\k<m+1+c.length->Q .non H)/\(¬(m<k/\k<m+1+c.length)->∀e,H e=Ae->E (.ref e) (Aa a.aS) H)
theorem Zva:(bQ (lF (m+1) c) (.inl k)).isSome=decide (m<k/\k<m+1+c.length):=by
 rw[Q3];by_cases h:((m+1:Nat):Int)<=k
 ·rw[if_pos h,Option.isSome_map];by_cases g:(k-((m+1:Nat):Int)).toNat<c.length
  ·rw[eF g,decide_eq_true ⋯];rfl
  ·rw[tI ⋯,decide_eq_false ⋯];rfl
 ·rw[if_neg h,decide_eq_false ⋯];rfl
def UJ(a:bC)(K:aE)(E:XK):TS:=(eK (cO (uU (aA 1) (kR K (aA 0) "found_cuts"))) (xB a.aS (aC (tC (.str "no and-knot of these labels")) aI) E) fI)
theorem Zd4(T:Txt K mg a):TX P w K mg base 0 "Labels.need_and_knot" LJ Zch a.cU (UJ a K):=λhr=>(bD (fC (sW (wF (fP hr) (cv 1) (lB (cv 0)))) (bD (DV Fp T.gQ (by decide) rfl T.jT rfl vh (aD wO aM))) fO))
theorem Zeg(T:Txt K mg a):a0 P w K mg base (lf P w) 1 a.cU a.dY uO (Zb2 a K):=by
 refine T.cR.n.nF Zd6 (Zd4 T) (λvs H Q E h=>?_) (λH vs Q E h=>?_)
 ·obtain⟨x,dx,i,fc,fw,m,k,d,c,f,rfl,_⟩:=h;rfl
 ·obtain⟨x,dx,i,fc,fw,m,k,d,c,f,rfl,g,l,j⟩:=h;show UJ a K E _ [Aa (.ref x),Aa (.int k)] H;unfold UJ;walk_at"";refine#v[x,a.aG,dx,_,_,rfl,g.ins,T.bH,T.cF,rfl,fc,_,rfl,gS.k (k:=.inl k) g.ol,?_];rw[Zva];by_cases h:m<k/\k<m+1+c.length
  ·rw[decide_eq_true h];walk_at"";exact l h
  ·rw[decide_eq_false h];walk_at"";exact j h
def Zf9(a:bC)(_:aE):Sp:=λvs H Q E=>∃(x dx l fc fw:Ad) (m:Nat) (k:Int) (g:List Nat) (d h:List Ad) (f:List (List Nat)),vs=[.ref x,.int k]/\kX a.aG H x dx l fc fw m g d h/\d.length=f.length/\(∀(i:Nat) c C,d[i]? = Aa c->f[i]? = Aa C->H c=Aa (.lst (C.map nv))) /\
 (∀(i:Nat) C,k=((m+1+i:Nat):Int)->f[i]? = Aa C->∀q j,iS H q (.lst (C.map nv)) j->Q (.ref q) j)/\(¬(m<k/\k<m+1+d.length)->∀e,H e=Ae->E (.ref e) (Aa a.aS) H)
def Wc(a:bC)(K:aE)(E:XK):TS:=(aV (li (fQ a.aG "need_and_knot" (Zb2 a K) [] E (aA 0) (aC (aA 1) aI)))
  (cY (dF (yk K) (aC (qV (kR K (aA 0) "found_cuts") (aA 1)) aI))))
theorem Zkm(T:Txt K mg a):TX P w K mg base 1 "Labels.cut" Ld Zhz a.hU (Wc a K):=
 λhr=>(aX (l0 (oI (cv 0) T.bH T.cR.e (Zeg T) (hm hr) T.cR.b .nil (Ru vh) (aD (cv 1) aM)))
   (bD (dM (re J6 (by rfl) T.fX PyProof.Rows.boot_list (aD (sT (fP hr) (lB (cv 0)) (cv 1) (λ_ _=>rfl)) aM)))))
theorem ZkH(T:Txt K mg a):a0 P w K mg base (lf P w) 2 a.hU a.lr uO (Zf9 a K):=by
 refine T.hF.n.nF Zkt (Zkm T) (λvs H Q E h=>?_) (λH vs Q E h=>?_)
 ·obtain⟨x,dx,t,fc,fw,m,k,f,c,j,d,rfl,_⟩:=h;rfl
 ·obtain⟨x,dx,t,fc,fw,m,k,f,c,j,d,rfl,p,v,q,A,z⟩:=h;show Wc a K E _ [Aa (.ref x),Aa (.int k)] H;unfold Wc;walk_at"";refine#v[x,dx,_,rfl,p.ins,rfl,x,dx,t,fc,fw,m,k,f,c,j,rfl,p,λhk=>?_,z];obtain⟨i,rfl⟩:∃i:Nat,k=((m+1+i:Nat):Int):=#v[(k-m-1).toNat,⋯];have hi:i<c.length:=⋯
  have hv:bQ (lF (m+1) c) (.inl ((m+1+i:Nat):Int))=Aa (.ref c[i]):=by rw[Q3,if_pos ⋯,show(((m+1+i:Nat):Int)-((m+1:Nat):Int)).toNat=i by omega,eF hi];rfl
  have r:d[i]? = Aa (d[i]'⋯):=eF _;have hc:=q i _ _ (eF hi) r;walk_at"";have g:=gS.k (k:=.inl ((m+1+i:Nat):Int)) p.ol;rw[hv]at g;refine#v[x,a.aG,dx,_,_,rfl,p.ins,T.bH,T.cF,rfl,fc,_,rfl,g,?_];walk_at"";exact#v[_,.inl (.of hc),λl u y=>A i _ rfl r l u y]
structure kI (C:Ad) (H:Hp) (x dx ll fc fw:Ad) (m:Nat) (P:List MF.Pr) (s:Nat) (t8:List Nat) (rp cL:List Ad) (uk:List (List Nat)):Prop where
 at_:kX C H x dx ll fc fw m t8 rp cL
 nf:fc≠fw
 len:t8.length=m+1+rp.length
 wl:rp.length=cL.length
 cl:rp.length=uk.length
 low:∀k,k<=m->t8.getD k 0=0
 cut:∀(i:Nat) c C,rp[i]? = Aa c->uk[i]? = Aa C->H c=Aa (.lst (C.map nv))/\c≠ll
 PX:∀(i:Nat) C,uk[i]? = Aa C->ML.Cu (cP (kC m P)) s (m+1+i) C
theorem tu.lst(u:tu f fc fw H d)(hc:H fc=Aa (.dK ks))(hw:H fw=Aa (.dK c))(e:H b=Aa (.lst xs))(n:b≠f):d b=Aa (.lst xs):=u b _ n (fS e hc (λz=>nomatch z)) (fS e hw (λz=>nomatch z)) e
theorem cS.un3{d fc fw w:Ad}(h:cS H w us g)(u:tu d fc fw H f)(hc:H fc=Aa (.dK ks))(hw:H fw=Aa (.dK c))(n:w≠d)(j:∀u∈us,u≠d):cS f w us g:=#v[u.lst hc hw h.lst n,h.len,λi r y hr hy=>u.lst hc hw (h.at_ i r y hr hy) (j r (jP hr))]
theorem Zmd(h:k<xs.length):(xs++[y]).getD k 0=xs.getD k 0:=by rw[mS,mS,mY h]
theorem zF{α:Type}{xs:List α}{y z:α}{i:Nat}(h:(xs++[y])[i]? = Aa z):xs[i]? = Aa z\/(i=xs.length/\z=y):=by
 rcases OS i xs.length with w|w|w
 ·rw[mY w]at h;exact .inl h
 ·subst w;rw[qP (bV _),vD]at h;cases h;exact .inr #v[rfl,rfl]
 ·rw[tI (by rw[eG,rg];omega)]at h;cases h
section
variable {C:Ad}{H H':Hp}{x dx ll fc fw c w:Ad}{m:Nat}{P:List MF.Pr}{s lev:Nat}{t8:List Nat}{rp cL:List Ad}{uk:List (List Nat)}{Cn:List Nat}
theorem kI.same(h:kI C H x dx ll fc fw m P s t8 rp cL uk)(st:bL H H'):kI C H' x dx ll fc fw m P s t8 rp cL uk:=#v[h.at_.same st,h.nf,h.len,h.wl,h.cl,h.low,λi c C hc d=>#v[st _ _ (h.cut i c C hc d).1,(h.cut i c C hc d).2],h.PX]
theorem kI.more(h:kI C H x dx ll fc fw m P s t8 rp cL uk)(u:tu ll fc fw H H')(h':kX C H' x dx ll fc fw m (t8++[lev]) (rp++[c]) (cL++[w]))(hc:H' c=Aa (.lst (Cn.map nv)))(q:c≠ll)
  (f:ML.Cu (cP (kC m P)) s (m+1+rp.length) Cn):kI C H' x dx ll fc fw m P s (t8++[lev]) (rp++[c]) (cL++[w]) (uk++[Cn]):=by
 have hl:=h.len;have l:=h.cl;have p:=h.wl;refine#v[h',h.nf,?_,?_,?_,λk hk=>?_,λi n g j d=>?_,λi g d=>?_]
 ·simp only[eG,rg];omega
 ·simp only[eG,rg];omega
 ·simp only[eG,rg];omega
 ·rw[Zmd ⋯];exact h.low k hk
 ·rcases zF j with z|⟨z,rfl⟩
  ·have:=(dS.mp z).1;rcases zF d with y|⟨y,_⟩
   ·have:=h.cut i n g z y;exact#v[u.lst h.at_.ol h.at_.pH this.1 this.2,this.2]
   ·omega
  ·rcases zF d with y|⟨_,rfl⟩
   ·have:=(dS.mp y).1;omega
   ·exact#v[hc,q]
 ·rcases zF d with y|⟨rfl,rfl⟩
  ·exact h.PX i g y
  ·rw[<-l];exact f
end
theorem Ztm:mN ((v::r).map nv) 0=Aa (nv v):=by rw[CY .non ⋯ (by rw[aQ,lG];omega)];rfl
theorem Vn:∀l:List Nat,(cA l).map uN=l
 |[]=>rfl
 |x::r=>by show(uN (x:Int)):: (cA r).map uN=x::r;rw[Vn r,oK]
theorem ZsI(h:cA xs=cA ys):xs=ys:=by rw[<-Vn xs,h,Vn]
def Zeq(a:bC)(_:aE):Sp:=λvs H Q _=>∃(x dx i fc fw p ip:Ad) (rs:List Ad) (m s:Nat) (P:List MF.Pr) (l:List Nat) (c n:List Ad) (k:List (List Nat)),vs=[.ref x,.ref p,.ref ip,.int s]/\kI a.aG H x dx i fc fw m P s l c n k/\c.length<P.length/\MF.Ok m P/\m+1+P.length<=1000/\2<=s/\s<=6/\cS H p rs (kC m P)/\(∀r∈rs,r≠i)/\H ip=Aa (.lst ((MF.qE m P (m+1+c.length)).map nv)) /\
 ∀j g d h f,tu i fc fw H j->kI a.aG j x dx i fc fw m P s g d h f->d.length=c.length+1->Q .non j
abbrev Zgn(a:bC)(K:aE):TS:=(aV (li (fQ a.aG "keep" (Rk a K) [] E0 (aA 0) (aC (aA 4) (aC (tC (.int 1)) (aC (aA 5) (aC (kT aI) aI))))))
  Xa)
abbrev Zgm(a:bC)(K:aE):TS:=(aV (cK (iP (jV K (aA 5)) 1 [0,6] (aU 0) (cO (aK (mP K) (aK (eJ K) (kR K (aA 1) "levels") (aA 0)) (aA 2))) (aA 0)) (aU 9))
  (li (fQ a.aG "keep" (Rk a K) [] E0 (aA 0) (aC (aA 4) (aC (aA 6) (aC (aK (eJ K) (aA 8) (tC (.int 1))) (aC (qV (kR K (aA 0) "found_ways") (aK (eJ K) (aA 9) (tC (.int 0)))) aI)))))))
abbrev Zgl(a:bC)(K:aE):TS:=(eK (cO (aK yP (aK (eJ K) (aA 8) (tC (.int 1))) (tC .non))) (li (fQ a.aG "keep" (Rk a K) [] E0 (aA 0) (aC (aA 4) (aC (aK pP (aA 6) (tC (.int 1))) (aC (aA 5) (aC (aK (eJ K) (aA 8) (tC (.int 0))) aI)))))) (bN (Zgm a K)))
abbrev Zgk(a:bC)(K:aE):TS:=(aV (cK (dH (ZnX a K) [] E0 (aC (aA 1) (aC (aA 7) (aC (aA 3) aI)))) (aU 8))
  (bN (Zgl a K)))
abbrev Zgj(a:bC)(K:aE):TS:=(aV (cK (iP (jV K (aA 2)) 1 [4,0,6] (aU 0) (lE (cO (aK (mP K) (aA 0) (aA 1))) (cO (aK (mP K) (aK (eJ K) (kR K (aA 2) "levels") (aA 0)) (aA 3)))) (aA 0)) (aU 7))
  (bN (Zgk a K)))
abbrev Zgi(a:bC)(K:aE):TS:=(aV (cK (dF (YQ K) (aC (iP (jV K (aA 5)) 1 [0] (aU 0) kt (aK (eJ K) (kR K (aA 1) "levels") (aA 0))) aI)) (aU 6))
  (aV (eK (cO (aK (mP K) (aA 6) (tC (.int 0)))) (bN (Zgn a K)) fI)
  (bN (Zgj a K))))
def Uv(a:bC)(K:aE):TS:=(aV (cK (aK (eJ K) (aA 2) (zf zR (tC (.int 1)))) (aU 4))
  (aV (cK (aK (eJ K) (aA 1) (aA 4)) (aU 5))
  (bN (Zgi a K))))
theorem ZhE(T:Txt K mg a):TM P w K mg base 4 "Labels.settle" zw L6 a.eS (Uv a K):=
 λhr=>(aX (dL 4 DP.nd (eQ eP (cv 2) (Io Il aR)))
   (aX (dL 5 DP.nd (eQ eP (cv 1) (cv 4)))
   (bX (aX (dL 6 DP.nd (eV (Hx rfl) (by rfl) T.vY PyProof.Rows.boot_max (aD (oZ (N:=["lower","self"]) (k:=1) (sel:=[0]) (aY.of (bZ zw).names ∅) (bI.of L6 ∅) rfl (lH (cv 5)) (λ_ _ _ _=>(dN 0 (show kK (["lower","self"]:List Str) by decide +kernel))) (λ_ _ _ _=>p0) (λ_ _ _ _=>(eQ eP (lB (cv 1)) (cv 0)))) aM)))
   (aX (fC (eE (nR (lk hr)) (cv 6) aR) (bX (aX (l0 (oI (cv 0) T.bH T.cJ.e (V9 T) (hm hr) T.cJ.b .nil cG (aD (cv 4) (aD aR (aD (cv 5) (aD (lJ aM) aM))))))
   (bD ZuP))) fO)
   (bX (aX (HS (i:=7) (N:=zW) (k:=1) (sel:=[4,0,6]) (aY.of (bZ zw).names ∅) (bI.of L6 ∅) rfl (lH (cv 2)) (λ_ _ _ _=>(dN 0 (show kK (zW:List Str) by decide +kernel))) (λ_ _ _ _=>(yF (PW.pt (mw (eE (nR (lk hr)) (cv 0) (cv 1)) (rH (eE (nR (lk hr)) (eQ eP (lB (cv 2)) (cv 0)) (cv 3))))))) (λ_ _ _ _=>(cv 0)) DP.nd rfl (by walk_at"o") rfl)
   (bX (aX (dL 8 DP.nd (dP T.s0 (ZsE T) (hm hr) qj (aD (cv 1) (aD (cv 7) (aD (cv 3) aM)))))
   (bX (bD (fC (eE tN (eQ eP (cv 8) aR) rl) (bD (l0 (oI (cv 0) T.bH T.cJ.e (V9 T) (hm hr) T.cJ.b .nil cG (aD (cv 4) (aD (bK qO (cv 6) aR) (aD (cv 5) (aD (eQ eP (cv 8) aR) aM))))))) (bX (aX (HS (i:=9) (N:=yL) (k:=1) (sel:=[0,6]) (aY.of (bZ zw).names ∅) (bI.of L6 ∅) rfl (lH (cv 5)) (λ_ _ _ _=>(dN 0 (show kK (yL:List Str) by decide +kernel))) (λ_ _ _ _=>(yF (eE (nR (lk hr)) (eQ eP (lB (cv 1)) (cv 0)) (cv 2)))) (λ_ _ _ _=>(cv 0)) DP.nd rfl (by walk_at"o") rfl)
   (bD (l0 (oI (cv 0) T.bH T.cJ.e (V9 T) (hm hr) T.cJ.b .nil cG (aD (cv 4) (aD (cv 6) (aD (eQ eP (cv 8) aR) (aD (sT (fP hr) (lB (cv 0)) (eQ eP (cv 9) aR) (λ_ _=>rfl)) aM)))))))))))))))))))))
theorem ZhT(T:Txt K mg a):a0 P w K mg base fD 5 a.eS a.iM Vy (Zeq a K):=by
 refine T.fA.n.gJ DP (ZhE T) (λvs H Q E h=>?_) (λH vs Q E h=>?_)
 ·obtain⟨x,dx,ll,fc,fw,mp,ip,rs,m,s,P,c,t,B,uk,rfl,_⟩:=h;rfl
 ·obtain⟨x,dx,ll,fc,fw,mp,ip,rs,m,s,O,c,t,B,uk,rfl,R,oh,ok,hn,s2,s6,hM,Sy,hI,q⟩:=h;show Uv a K _ [Aa (.ref x),Aa (.ref mp),Aa (.ref ip),Aa (.int s),Ae,Ae,Ae,Ae,Ae,Ae] H;unfold Uv;have big:=kQ;have mz:=Ha ok;have hlen:=R.len;have hN:m+1+t.length<1+m+O.length:=⋯;obtain⟨cv,hcv⟩:=Zrp ok hN;have hI':=hI;rw[hcv]at hI';obtain⟨p,hp⟩:∃p,O[t.length]? = Aa p:=#v[_,eF oh];obtain⟨o1,o2,o3,o4⟩:=ok _ _ hp;have G:=zP (m:=m) hp;obtain⟨r,hr1,I⟩:=hM.get (i:=m+1+t.length) (by rw[yV];omega);rw[G]at I;obtain⟨d,Ni⟩:∃l:Nat,l=(p.1/2).toNat:=#v[_,rfl];obtain⟨f,hlb⟩:∃l:Nat,l=(p.2/2).toNat:=#v[_,rfl];rw[<-Ni,<-hlb]at I G;have la:d<m+1+t.length:=⋯;have lb:f<m+1+t.length:=⋯;have PX:d<f:=⋯;walk_at"";refine#v[_,_,.inl (.of hI'),Y5,?_];generalize S:m+1+t.length=N at *;unfold nv;walk_at"";refine#v[_,_,.inl (.of hM.lst),hr1,?_];walk_at"";refine#v[#v[_,.of I],IY (λv=>match v with|.int l=>nv (c.getD l.toNat 0)|_=>.non) (.of I) rfl (by rw[aQ];show 2<=_;omega) ?_ ?_]
  ·intro v H' Q' hv X u;obtain⟨l,hl,rfl⟩:=fE.mp hv
   have hl':l<c.length:=by
    rcases iN.mp hl with z|z
    ·omega
    ·rw[dQ]at z;omega
   have u:Q' (nv (c.getD l 0)) H':=u;unfold nv;walk_at"";exact#v[x,a.aG,dx,_,_,rfl,X _ _ R.at_.ins,T.bH,T.cM,rfl,_,_,.inl (.of (X _ _ R.at_.lst)),ZB hl',u]
  intro l1 H1 n1;have U:=R.same n1.same;have hM1:=hM.same n1.same;have hI1:=n1.same _ _ hI;refine#v[[(c.getD d 0:Nat),(c.getD f 0:Nat)],.of n1.at_,by simp,λM hMm _=>?_]
  obtain⟨g,rfl⟩:∃g:Nat,M=g:=by
   rcases iN.mp hMm with z|z
   ·exact#v[_,z]
   ·rw[dQ]at z;exact#v[_,z]
  have gg:c.getD d 0=g\/c.getD f 0=g:=by
   rcases iN.mp hMm with z|z
   ·exact .inl ⋯
   ·rw[dQ]at z;exact .inr ⋯
  have wj:cP (kC m O) N≠[]:=by rw[G];simp
  have xu:(cP (kC m O) N).Pairwise (· < ·):=by rw[G];simpa using PX
  have S3:(cP (kC m O) N).length<=s:=by rw[G];exact s2
  have J:r≠ll:=by
   have hi:N<rs.length:=by rw[hM.len,yV];omega
   rw[CY .non ⋯ (by rw[aQ];omega),oK,mS,gX,eF hi]at hr1;have:rs[N]=r:=by simpa using hr1
   rw[<-this];exact Sy _ (tR hi)
  by_cases h0:(g:Int)=0
  ·rw[if_pos h0];have g0:g=0:=⋯;subst g0;walk_at"go";refine#v[x,dx,_,rfl,U.at_.ins,rfl,by show 0<=sizeLine;omega,λwp H2 n2=>?_];have C:=U.same n2.same;have Z:=n1.same.trans n2.same;refine#v[x,dx,ll,fc,fw,r,wp,m,N,1,c,t,B,rfl,C.at_,S.symm,R.wl,⋯,⋯,R.nf,λH3 u3 h3=>?_];have Y:=u3.lst C.at_.ol C.at_.pH (Z _ _ I) J
   exact q H3 _ _ _ _ ((RX Z).trans u3) (kI.more (Cn:=[d,f]) C u3 h3 Y J (by rw[S,<-G];exact ML.Z2 mz.lt wj xu S3)) (by rw[eG];rfl)
  rw[if_neg h0];obtain⟨gs,hgs⟩:∃gs,gs=(MF.qE m O N).filter λk=>decide (k=N\/c.getD k 0=g):=#v[_,rfl]
  have Zv:∀z,z∈gs ↔ z=N\/(ML.Dn (cP (kC m O)) N z/\c.getD z 0=g):=λz=>by
   rw[hgs,uA,decide_eq_true_iff,XE ok hN];constructor
   ·rintro⟨h1,h2|h2⟩
    ·exact .inl h2
    ·exact .inr #v[h1,h2]
   ·rintro(rfl|⟨h1,h2⟩)
    ·exact#v[.here,.inl rfl]
    ·exact#v[h1,.inr h2]
  walk_at"go";refine#v[#v[_,.of hI1],Li (rest:=[Aa (.int (N:Nat)),Aa (.ref x),Aa (.int (g:Nat))]) (λv=>match v with|.int e=>decide (e.toNat=N\/c.getD e.toNat 0=g)|_=>Ah) id (.of hI1) rfl (by rw[aQ];have:=Zs7 m O N;omega) ?_ ?_ ?_]
  ·intro v H' Q' hv X u;obtain⟨e,he,rfl⟩:=fE.mp hv;have hle:=((XE ok hN).mp he).le mz.lt;have u:Q' (decide (e=N\/c.getD e 0=g)) H':=u;unfold nv;walk_at"";by_cases hen:(e:Int)=(N:Int)
   ·rw[if_pos hen];rw[decide_eq_true (.inl ⋯)]at u;exact u
   ·rw[if_neg hen];rw[show decide (e=N\/c.getD e 0=g)=decide ((c.getD e 0:Int)=(g:Int)) by rw[decide_eq_decide];omega]at u;exact#v[x,a.aG,dx,_,_,rfl,X _ _ U.at_.ins,T.bH,T.cM,rfl,_,_,.inl (.of (X _ _ U.at_.lst)),ZB ⋯,u]
  ·intro v H' Q' hv _ X u;walk_at"";exact u
  intro gp H2 n2
  have e2:(((MF.qE m O N).map nv).filter λv=>match v with|.int e=>decide (e.toNat=N\/c.getD e.toNat 0=g)|_=>Ah).map id=(cA gs).map V.int:=by rw[F9,II,IZ,hgs];rfl
  rw[e2]at n2;have C:=U.same n2.same;have hM2:=hM1.same n2.same;have Z:=n1.same.trans n2.same
  have bP:Jb (kC m O) (cA gs):=λz hz=>by
   obtain⟨k,hk,rfl⟩:=fE.mp hz
   have hkN:m<k/\k<=N:=by
    rcases(Zv k).mp hk with rfl|⟨h1,h2⟩
    ·omega
    ·refine#v[FY λz=>?_,h1.le mz.lt];have:=R.low k z;omega
   refine#v[⋯,by rw[yV];omega,?_];rw[oK];obtain⟨j,rfl⟩:∃j,k=m+1+j:=#v[k-m-1,⋯];rw[zP (eF (show j<O.length by omega))];simp
  walk_at"go";refine#v[mp,gp,rs,kC m O,cA gs,s,rfl,hM2,n2.at_,mz,by rw[yV];omega,⋯,λgs' tp wl v as H3 egs _ s3 fsl htp L=>?_,λGE=>absurd bP GE];rw[<-ZsI egs]at L;have y:=C.same s3;have hM3:=hM2.same s3;have ww:=Z.trans s3;have hbd:∀p,MZ.bU as p≠Ae->p<(kC m O).length:=λp hp=>L.bd p (MZ.xH.mp hp);walk_at"go";refine#v[_,_,.inr (.of htp),rfl,?_];rcases L.rest with rfl|⟨sl,es,cs,A,rfl,hsl,sk,hes,hem,nA,hA,hss⟩
  ·rw[if_pos rfl];refine#v[x,dx,_,rfl,y.at_.ins,rfl,?_];refine#v[_,_,.inr (.of htp),rfl,?_];refine#v[x,dx,ll,fc,fw,r,wl,m,N,g+1,c,t,B,rfl,y.at_,S.symm,R.wl,⋯,⋯,R.nf,λH4 u4 h4=>?_];have hr4:=u4.lst y.at_.ol y.at_.pH (ww _ _ I) J
   exact q H4 _ _ _ _ ((RX ww).trans u4) (kI.more (Cn:=[d,f]) y u4 h4 hr4 J (by rw[S,<-G];exact ML.Z2 mz.lt wj xu S3)) (by rw[eG];rfl)
  ·rw[if_neg (by simp)];walk_at"";have Y:=ww _ _ I;refine#v[#v[_,.of Y],Li (rest:=[Aa (.ref x),Aa (.int (g:Nat))]) (λv=>match v with|.int e=>decide (c.getD e.toNat 0=g)|_=>Ah) id (.of Y) rfl (by rw[aQ];show 2<=_;omega) ?_ ?_ ?_]
   ·intro v H' Q' hv X u;obtain⟨l,hl,rfl⟩:=fE.mp hv
    have hl':l<c.length:=by
     rcases iN.mp hl with z|z
     ·omega
     ·rw[dQ]at z;omega
    have u:Q' (decide (c.getD l 0=g)) H':=u;unfold nv;walk_at"";rw[show decide (c.getD l 0=g)=decide ((c.getD l 0:Int)=(g:Int)) by rw[decide_eq_decide];omega]at u;exact#v[x,a.aG,dx,_,_,rfl,X _ _ y.at_.ins,T.bH,T.cM,rfl,_,_,.inl (.of (X _ _ y.at_.lst)),ZB hl',u]
   ·intro v H' Q' hv _ X u;walk_at"";exact u
   intro sp H4 n4
   have e4:(([d,f].map nv).filter λv=>match v with|.int e=>decide (c.getD e.toNat 0=g)|_=>Ah).map id=([d,f].filter λe=>decide (c.getD e 0=g)).map nv:=by rw[F9,II];rfl
   rw[e4]at n4
   obtain⟨l,rest,Vt⟩:∃l rest,([d,f].filter λe=>decide (c.getD e 0=g))=l::rest:=by
    cases e:[d,f].filter λe=>decide (c.getD e 0=g) with
    |cons l rest=>exact#v[l,rest,rfl]
    |nil=>
     have:=List.filter_eq_nil_iff.mp e;rcases gg with z|z
     ·exact absurd (decide_eq_true z) (this d (by simp))
     ·exact absurd (decide_eq_true z) (this f (by simp))
   rw[Vt]at n4;obtain⟨hlm,hlg⟩:=uA.mp (show l∈[d,f].filter λe=>decide (c.getD e 0=g) by rw[Vt];exact uh ..);rw[decide_eq_true_iff]at hlg
   have hlN:l<N:=by
    rcases iN.mp hlm with z|z
    ·omega
    ·rw[dQ]at z;omega
   have Zd:m<l:=FY λz=>by have:=R.low l z;omega
   obtain⟨i,rfl⟩:∃i,l=m+1+i:=#v[l-m-1,⋯];have hi:i<B.length:=by have:=R.wl;omega
   have hv:bQ (lF (m+1) B) (.inl ((m+1+i:Nat):Int))=Aa (.ref B[i]):=by rw[Q3,if_pos ⋯,show(((m+1+i:Nat):Int)-((m+1:Nat):Int)).toNat=i by omega,eF hi];rfl
   have D:=y.same n4.same;have g4:=gS.k (k:=.inl ((m+1+i:Nat):Int)) D.at_.pH
   rw[hv]at g4;refine#v[x,dx,_,rfl,D.at_.ins,rfl,_,_,.inr (.of (n4.same _ _ htp)),rfl,x,a.aG,dx,_,_,rfl,D.at_.ins,T.bH,T.dE,rfl,_,_,.inl (.of n4.at_),Ztm,fw,_,rfl,g4,?_];refine#v[x,dx,ll,fc,fw,sl,B[i],m,N,g,c,t,B,rfl,D.at_,S.symm,R.wl,⋯,⋯,R.nf,λH5 u5 h5=>?_];have nsl:sl≠ll:=(dW C.at_.lst (fsl sl rfl)).symm;have VF:=u5.lst D.at_.ol D.at_.pH (n4.same _ _ hsl) nsl
   have ev:∀e∈es,e=2*(e/2)/\MZ.wv (λe=>e∈MZ.keys cs) (e/2):=λe he=>by
    obtain⟨a1,a2⟩:=(hem e).mp he
    have e2:e=2*(e/2):=by
     rcases(by omega:e=2*(e/2)\/e=2*(e/2)+1) with z|z
     ·exact z
     ·exact absurd (z ▸ a1) a2
    exact#v[e2,by show 2*(e/2)∈MZ.keys cs;rw[<-e2];exact a1,a2]
   have rB:(es.map λe:Nat=>e/2).Pairwise (· < ·):=by refine OH.mpr (hes.imp_of_mem λ{a b} ha hb hab=>?_);have:=(ev a ha).1;have:=(ev b hb).1;omega
   have mB:∀p,p∈(es.map λe:Nat=>e/2) ↔ MZ.wv (λe=>e∈MZ.keys cs) p:=λp=>by
    rw[fE];constructor
    ·rintro⟨e,he,rfl⟩;exact(ev e he).2
    ·intro st;refine#v[2*p,(hem _).mpr #v[st.1,?_],⋯];rw[show 2*p/2=p by omega];exact st.2
   refine q H5 _ _ _ _ ((RX (ww.trans n4.same)).trans u5) (kI.more (Cn:=es.map λe:Nat=>e/2) D u5 h5 VF nsl ?_) (by rw[eG];rfl);rw[S];refine ML.Zvj mz.lt L.VY (λz hz=>?_) ((Zv N).mpr (.inl rfl)) hbd nA hA hss (Zp0 sk) rB mB;rcases(Zv z).mp hz with rfl|⟨h,_⟩
   ·exact .here
   ·exact h
def Ta(a:bC)(K:aE):Sp:=λvs H Q E=>∃(x dx f h pl l:Ad) (v:V) (m:Nat) (es:List En),vs=[.ref x,.ref f,v]/\H x=Aa (.ins a.aG dx [])/\bB a.aB H f m es h pl l/\MF.Ok m (aP es)/\m<=10/\m+1+es.length<=1000/\wC H v /\
 (∀s:Nat,v=.int s->2<=s->s<=6->∀d k fc fw i c j g,(∀b o,b≠x->H b=Aa o->d b=Aa o)->H k=Ae->H fc=Ae->H fw=Ae->kI a.aG d x dx k fc fw m (aP es) s i c j g->c.length=es.length->Q .non d)/\(qT v=Ah->∀e,H e=Ae->E (.ref e) (Aa a.aW) H)
abbrev Zfp(a:bC)(K:aE)(E:XK):TS:=(gU (Es (aC (aK pP (kR K (aA 1) "many") (tC (.int 1))) (aC (fQ a.aB "total" (qR a K) [] E0 (aA 1) aI) aI))) (aU 4) (li (fQ a.aG "settle" (Zeq a K) [] E0 (aA 0) (aC (aA 3) (aC (dH (Ws a K) [] E0 (aC (aA 1) (aC (aA 4) aI))) (aC (aA 2) aI))))))
abbrev Zfo(a:bC)(K:aE)(E:XK):TS:=(aV (vB K (aA 0) vR "found_ways")
  (aV (cK (dH (ZjD a K) [] E0 (aC (aA 1) aI)) (aU 3))
  (bN (Zfp a K E))))
abbrev Zfn(a:bC)(K:aE)(E:XK):TS:=(aV (vB K (aA 0) (aK RN (kT (aC (tC (.int 0)) aI)) (aK pP (kR K (aA 1) "many") (tC (.int 1)))) "levels")
  (aV (vB K (aA 0) vR "found_cuts")
  (bN (Zfo a K E))))
def Xq(a:bC)(K:aE)(E:XK):TS:=(aV (li (dH (Zhl a K) [] E (aC (aA 2) aI)))
  (bN (Zfn a K E)))
theorem Zf4(T:Txt K mg a):TX P w K mg base 5 "Labels.__init__" PJ Zd1 a.cX (Xq a K):=
 λhr=>(aX (l0 (Zz (ZlW T) (hm hr) rfl T.fV.m T.fV.n.kp T.fV.b .nil (Ru vh) (aD (cv 2) aM)))
   (bX (aX (xJ (cv 0) (bK ZtA (lJ (aD aR aM)) (bK qO (lB (cv 1)) aR)) rfl)
   (aX (xJ (cv 0) zd rfl)
   (bX (aX (xJ (cv 0) zd rfl)
   (aX (dL 3 Y1.nd (dP T.oS (Zo2 T) (hm hr) cG (aD (cv 1) aM)))
   (bX (bD (PS.vl (my PassesOwn.never rfl (Uu rfl T.bO (aD (bK qO (lB (cv 1)) aR) (aD (oR (cv 1) T.aJ T.aF.e (rr T) (hm hr) T.aF.b .nil cG) aM))) (dN 4 Y1.nd) (bD (l0 (oI (cv 0) T.bH T.fA.e (ZhT T) (hm hr) T.fA.b .nil cG (aD (cv 3) (aD (dP T.si (ZqE T) (hm hr) qj (aD (cv 1) (aD (cv 4) aM))) (aD (cv 2) aM)))))))))))))))))
theorem Zgr(T:Txt K mg a):a0 P w K mg base (lf P w) 6 a.cX a.fW X6 (Ta a K):=by
 refine T.fY.n.nF Y1 (Zf4 T) (λvs H Q E h=>?_) (λH vs Q E h=>?_)
 ·obtain⟨x,dx,f,j,pl,R,v,m,es,rfl,_⟩:=h;rfl
 ·obtain⟨x,dx,f,j,pl,R,v,m,es,rfl,hx,hf,ok,hm,hn,hv,q1,q0⟩:=h;show Xq a K E _ [Aa (.ref x),Aa (.ref f),Aa v,Ae,Ae] H;unfold Xq;have big:=kQ;have wn:(aP es).length=es.length:=aQ ..;walk_at"";refine#v[v,rfl,hv,λhs=>?_,q0]
  obtain⟨s,rfl,s2,s6⟩:∃s:Nat,v=.int s/\2<=s/\s<=6:=by
   unfold qT wH at hs;split at hs
   ·rename_i i;have:=of_decide_eq_true hs;exact#v[i.toNat,by congr 1;omega,⋯,⋯]
   ·cases hs
  have q:=q1 s rfl s2 s6;walk_at"";intro z1 H1 n1;have f1:=hf.same n1.same;refine#v[f,a.aB,j,_,_,rfl,f1.ins,T.aJ,T.bM,rfl,?_];refine#v[_,n1.at_,⋯,⋯,by show 1*_<=_;omega,λg H2 n2=>?_]
  have e2:(gR ((m:Int)+1).toNat [V.int 0]).flatten=(gR (m+1) 0).map nv:=by rw[Zp5,show((m:Int)+1).toNat=m+1 by omega,List.map_replicate];rfl
  rw[e2]at n2;have D:=n1.same.trans n2.same;have fl:H g=Ae:=n1.same.nil n2.cL;have x2:=D _ _ hx
  have hfx:f≠x:=λz=>by have:=hf.ins;rw[z,hx]at this;simp at this
  refine#v[x,a.aG,dx,[],rfl,x2,T.bH,T.cM,by decide,λfc H3 S=>?_];have M:g≠x:=(dW hx fl).symm;have L:fc≠x:=λe=>by have:=S.cL;rw[e,cN]at this;cases this
  have I:H fc=Ae:=by have:=S.cL;rw[bE L]at this;exact D.nil this
  have x3:H3 x=Aa (.ins a.aG dx (eO "levels" (.ref g) [])):=S.same _ _ cN;have u3:∀b o,b≠x->H2 b=Aa o->H3 b=Aa o:=λb o y e=>S.same _ _ (by rw[bE y];exact e);refine#v[x,a.aG,dx,_,rfl,x3,T.bH,T.cF,by have:=vp "levels" (.ref g) [];simp only[rA]at this;omega,?_];walk_at"";intro fw O n4;have N:fw≠x:=λe=>by have:=n4.cL;rw[e,cN]at this;cases this
  have Y:H3 fw=Ae:=by have:=n4.cL;rw[bE N]at this;exact this
  have J:H fw=Ae:=by
   cases e:H fw with
   |none=>rfl
   |some o=>have:=u3 _ _ N (D _ _ e);rw[Y]at this;cases this
  have nf:fc≠fw:=dW S.at_ Y
  have x4:O x=Aa (.ins a.aG dx (eO "found_cuts" (.ref fc) (eO "levels" (.ref g) []))):=n4.same _ _ cN;have u4:∀b o,b≠x->H3 b=Aa o->O b=Aa o:=λb o y e=>n4.same _ _ (by rw[bE y];exact e);refine#v[x,a.aG,dx,_,rfl,x4,T.bH,T.dE,by have h7:=vp "levels" (.ref g) [];have h8:=vp "found_cuts" (.ref fc) (eO "levels" (.ref g) []);simp only[rA]at h7;omega,?_]
  have e5:eO "found_ways" (.ref fw) (eO "found_cuts" (.ref fc) (eO "levels" (.ref g) []))=([("levels",V.ref g),("found_cuts",V.ref fc),("found_ways",V.ref fw)]:List (Str×V)):=by have z1:¬("levels" : Str) = "found_cuts":=∅;have z2:¬("levels" : Str) = "found_ways":=∅;have z3:¬("found_cuts" : Str) = "found_ways":=∅;simp[eO,z1,z2,z3]
  rw[e5];have x5:upd O x (.ins a.aG dx [("levels",V.ref g),("found_cuts",V.ref fc),("found_ways",V.ref fw)]) x=Aa (.ins a.aG dx [("levels",V.ref g),("found_cuts",V.ref fc),("found_ways",V.ref fw)]):=cN;have u5:∀b o,b≠x->O b=Aa o->upd O x (.ins a.aG dx [("levels",V.ref g),("found_cuts",V.ref fc),("found_ways",V.ref fw)]) b=Aa o:=λb o y e=>by rw[bE y];exact e
  generalize upd O x (.ins a.aG dx [("levels",V.ref g),("found_cuts",V.ref fc),("found_ways",V.ref fw)])=H5 at x5 u5 ⊢;have st:∀b o,b≠x->H b=Aa o->H5 b=Aa o:=λb o y e=>u5 _ _ y (u4 _ _ y (u3 _ _ y (D _ _ e)));have hnx:∀{b:Ad}{o:HO},H b=Aa o->(∀d,o≠.ins a.aG d [])->b≠x:=λ{b o} e n z=>by subst z;rw[hx]at e;cases e;exact n _ rfl
  have f5:bB a.aB H5 f m es j pl R:=#v[st _ _ hfx hf.ins,st _ _ (fS hf.iQ.lst hx (λz=>nomatch z)) hf.iQ.lst,st _ _ (fS hf.iQ.uo hx (λz=>nomatch z)) hf.iQ.uo,λe he=>st _ _ (fS (hf.iQ.tup e he) hx (λz=>nomatch z)) (hf.iQ.tup e he)];have l5:H5 g=Aa (.lst ((gR (m+1) 0).map nv)):=u5 _ _ M (u4 _ _ M (u3 _ _ M n2.at_));have c5:H5 fc=Aa (.dK (lF (m+1) [])):=u5 _ _ L (u4 _ _ L S.at_);have w5:H5 fw=Aa (.dK (lF (m+1) [])):=u5 _ _ N n4.at_
  walk_at"";refine#v[f,j,pl,R,m,es,rfl,f5,ok,hm,⋯,λmp rs H6 l fm hrs hM=>?_];have f6:=f5.same l;walk_at"";refine#v[f,a.aB,j,_,_,rfl,f6.ins,T.aJ,T.bM,rfl,?_];walk_at"";refine#v[f,j,_,rfl,f6.ins,rfl,f,j,pl,R,m,es,rfl,f6,?_];walk_at"";rw[show(1+(m:Int)+(es.length:Int)-((m:Int)+1)).toNat=es.length by omega];have nml:mp≠g:=(dW l5 fm).symm;have Sy:∀r∈rs,r≠g:=λr hr=>(dW l5 (hrs r hr).1).symm
  have hL0:kI a.aG H6 x dx g fc fw m (aP es) s (gR (m+1) 0) [] [] []:=#v[#v[l _ _ x5,l _ _ l5,l _ _ c5,l _ _ w5],nf,by rw[oQ];rfl,rfl,rfl,λk hk=>by rw[mS,Fv,if_pos ⋯];rfl,λi c C hc=>by simp at hc,λi C hC=>by simp at hC]
  refine vF (λi σ G=>tu g fc fw H6 G/\∃u p A t,∃v4:Option V,kI a.aG G x dx g fc fw m (aP es) s u p A t/\p.length=i/\σ=[Aa (.ref x),Aa (.ref f),Aa (.int s),Aa (.ref mp),v4]) #v[λb o _ _ _ e=>e,_,_,_,_,_,hL0,rfl,rfl] ?_ ?_
  ·rintro i σ G hi ⟨u7,u,p,A,t,v4,B,Z,rfl⟩
   have f7:bB a.aB G f m es j pl R:=by have nn:∀{b:Ad}{o:HO},H b=Aa o->(∀d,o≠.ins a.aG d [])->G b=Aa o:=λ{b o} e n=>u7 _ _ (dW e fl) (dW e I) (dW e J) (l _ _ (st _ _ (hnx e n) e));exact#v[nn hf.ins (λd z=>by simp at z),nn hf.iQ.lst (λd z=>nomatch z),nn hf.iQ.uo (λd z=>nomatch z),λe he=>nn (hf.iQ.tup e he) (λd z=>nomatch z)]
   have hM7:=hM.un3 u7 (l _ _ c5) (l _ _ w5) nml Sy;walk_at"";refine#v[x,dx,_,rfl,B.at_.ins,rfl,f,j,pl,R,m,_,es,rfl,f7,ok,hm,⋯,λn hnn hnl ip H8 md=>?_,λz=>absurd #v[⋯,⋯] z];obtain⟨fi,SQ,s8⟩:=md;have enn:n=m+1+p.length:=⋯;rw[enn]at SQ;have hL8:=B.same s8;refine#v[x,dx,g,fc,fw,mp,ip,rs,m,s,aP es,u,p,A,t,rfl,hL8,⋯,ok,⋯,s2,s6,hM7.same s8,Sy,SQ,λH9 lvs' U was' X u9 hL9 hc9=>?_];exact#v[(u7.trans (RX s8)).trans u9,lvs',U,was',X,_,hL9,⋯,rfl]
  ·rintro σ G ⟨u7,u,p,A,t,v4,B,Z,rfl⟩;walk_at"";exact q G g fc fw u p A t (λb o y e=>u7 _ _ (dW e fl) (dW e I) (dW e J) (l _ _ (st _ _ y e))) fl I J B Z
theorem l8{a:bC}{K:aE}{H:Hp}{f k pl r:Ad}{m s:Nat}{es:List En}{F:Ad->Hp->Prop}{E:XK}(hf:bB a.aB H f m es k pl r)(ok:MF.Ok m (aP es))(hm:m<=10)(hn:m+1+es.length<=1000)(B:2<=s)(C:s<=6)
  (q:∀x dx l fc fw j h d i g,bL H j->H x=Ae->H l=Ae->H fc=Ae->H fw=Ae->kI a.aG j x dx l fc fw m (aP es) s h d i g->d.length=es.length->F x j):
  ∀x dx,H x=Ae->H dx=Ae->dx≠x->Ta a K [.ref x,.ref f,.int s] (upd (upd H dx (.own x)) x (.ins a.aG dx [])) (λv t=>v=.non/\F x t) E:=by
 intro x dx hx hd p;have c:bL H (upd (upd H dx (.own x)) x (.ins a.aG dx [])):=(kO hd).trans (kO (by rw[bE p.symm];exact hx));refine#v[x,dx,f,k,pl,r,.int s,m,es,rfl,cN,hf.same c,ok,hm,hn,trivial,λA e _ _ j l fc fw h d i g st hl hc hw u n=>?_,λz=>?_]
 ·have:A=s:=by have:=V.int.inj e;omega
  subst this;refine#v[rfl,q x dx l fc fw j h d i g (λb o e=>?_) hx (c.nil hl) (c.nil hc) (c.nil hw) u n];have y:b≠x:=dW e hx;exact st b o y (c _ _ e)
 ·unfold qT wH at z;have:=of_decide_eq_false z;omega
def og(m:Nat):Nat:=2^2^m-1
def Up(_:aE):Sp:=λvs H Q _=>∃m:Nat,vs=[.int m]/\m<=10/\Q (.int (og m:Nat)) H
def UQ(K:aE):TS:=(cY (aK (cZ λi j=>.int (i-j)) (aK (dA tY λi j=>.int (i*2^j.toNat)) (tC (.int 1)) (aK (dA tY λi j=>.int (i*2^j.toNat)) (tC (.int 1)) (aA 0))) (tC (.int 1))))
theorem Zi3(T:Txt K mg a):TM P w K mg base 0 "full_column" Jo ZgI a.gH (UQ K):=λhr=>(bD (dM (bK sJ (bK Kn aR (bK Kn aR (cv 0))) aR)))
theorem Zfy(T:Txt K mg a):a0 P w K mg base fD 1 a.gH a.kw D8 (Up K):=by
 refine T.gB.n.gJ Zi6 (Zi3 T) (λvs H Q E h=>?_) (λH vs Q E h=>?_)
 ·obtain⟨m,rfl,_⟩:=h;rfl
 ·obtain⟨m,rfl,d,q⟩:=h;show UQ K _ [Aa (.int m)] H;unfold UQ;have c:(2:Nat)^m<=2^10:=zg (by decide) d;have ec:(1*2^((m:Int)).toNat:Int)=((2^m:Nat):Int):=by simp
  have ef:(1*2^(((2^m:Nat):Int)).toNat-1:Int)=((og m:Nat):Int):=by have:=Sv 1 (2^m);rw[show((1:Nat):Int)=1 from rfl]at this;rw[this,Nat.one_mul];have h1:1<=2^2^m:=V1;unfold og;omega
  walk_at"";rw[ec]
  have cp:tY 1 ((2^m:Nat):Int):=by generalize 2^m=N at c;exact#v[⋯,⋯,by decide]
  refine#v[cp,?_];rw[ef];exact q
theorem Zsi:(1000:Nat)<=sizeLine:=by decide
def Zep(K:aE):Sp:=λvs H Q _=>∃m:Nat,vs=[.int m]/\m<=10/\∀q c,bL H c->H q=Ae->c q=Aa (.lst (((MC.cV m).1.map GM.nz).map V.int))->Q (.ref q) c
def Pj(w:Nat):V->V|.int c=>.int (Builtin.bitOr c (c*2^(GM.nz w).toNat))|_=>.non
theorem two2(h:i<=10):2^i<=1024:=by have:(2:Nat)^i<=2^10:=zg (by decide) h;omega
abbrev Zgh(K:aE):TS:=(aV (cK (aK (cZ λi j=>.int (Builtin.bitOr i j)) (aA 2) (aK (dA Fw λi j=>.int (i*2^j.toNat)) (aA 2) (aA 3))) (aU 2))
  (cK (aK qh (aA 3) (tC (.int 2))) (aU 3)))
abbrev Zgg(K:aE):TS:=(aV (li (uf K "list" uR (aA 1) (aC (aK (dA Fw λi j=>.int (i*2^j.toNat)) (aA 2) (aA 3)) aI)))
  (bN (Zgh K)))
abbrev Zgf(K:aE):TS:=(aV (cK (iP (jV K (aA 1)) 1 [3] (aU 0) kt (aK (cZ λi j=>.int (Builtin.bitOr i j)) (aA 0) (aK (dA Fw λi j=>.int (i*2^j.toNat)) (aA 0) (aA 1)))) (aU 1))
  (bN (Zgg K)))
abbrev Zge(K:aE):TS:=(aV (cK (tC (.int 1)) (aU 3))
  (aV (gU (qm (aC (aA 0) aI)) (aU 4) (bN (Zgf K)))
  (cY (aA 1))))
def Vz(K:aE):TS:=(aV (cK (kT aI) (aU 1))
  (aV (cK (tC (.int 1)) (aU 2))
  (bN (Zge K))))
theorem ZhD(T:Txt K mg a):TM P w K mg base 0 "input_columns" I8 U2 a.eZ (Vz K):=
 λhr=>(aX (dL 1 yU.nd (lJ aM))
   (aX (dL 2 yU.nd aR)
   (bX (aX (dL 3 yU.nd aR)
   (aX (my PassesOwn.never rfl (uj rfl T.bO (aD (cv 0) aM)) (dN 4 yU.nd) (bX (aX (HS (i:=1) (N:=["column","width"]) (k:=1) (sel:=[3]) (aY.of (bZ I8).names ∅) (bI.of U2 ∅) rfl (lH (cv 1)) (λ_ _ _ _=>(dN 0 (show kK (["column","width"]:List Str) by decide +kernel))) (λ_ _ _ _=>p0) (λ_ _ _ _=>(bK MV (cv 0) (bK YL (cv 0) (cv 1)))) yU.nd rfl (by walk_at"o") rfl)
   (bX (aX (l0 (u0 sZ vS vz (sS uG) (cv 1) (aD (bK YL (cv 2) (cv 3)) aM)))
   (bX (aX (dL 2 yU.nd (bK MV (cv 2) (bK YL (cv 2) (cv 3))))
   (bD (dL 3 yU.nd (bK rJ (cv 3) aR))))))))))
   (bD (dM (cv 1))))))))
theorem ZhS(T:Txt K mg a):a0 P w K mg base fD 1 a.eZ a.iL D8 (Zep K):=by
 refine T.iB.n.gJ yU (ZhD T) (λvs H Q E h=>?_) (λH vs Q E h=>?_)
 ·obtain⟨m,rfl,_⟩:=h;rfl
 ·obtain⟨m,rfl,hm,q⟩:=h;show Vz K _ [Aa (.int m),Ae,Ae,Ae,Ae] H;unfold Vz;have u:=Zsi;walk_at"";intro G N t;walk_at"";rw[oK]
  refine vF (λi σ f=>∃r,bL H f/\H r=Ae/\f r=Aa (.lst (((MC.cV i).1.map GM.nz).map V.int))/\∃v,σ=[Aa (.int m),Aa (.ref r),Aa (.int (GM.nz (MC.cV i).2.1)),Aa (.int (GM.nz (MC.cV i).2.2)),v])
   #v[G,t.same,t.cL,t.at_,_,rfl] ?_ ?_
  ·rintro i σ f hi ⟨r,l,fr,d,v,rfl⟩;have hw:=MC.OQ i;have he:=MC.RF i;have C:=MC.RY i;have B:=two2 (show i<=10 by omega);have z:0<2^i:=Ji (by decide);walk_at"";refine#v[#v[_,.of d],IY (Pj (MC.cV i).2.2) (.of d) rfl (by rw[aQ,aQ];omega) ?_ ?_]
   ·intro x M R hx _ D;obtain⟨y,hy,rfl⟩:=fE.mp hx;obtain⟨c,hc,rfl⟩:=fE.mp hy;walk_at"go";exact#v[ZpY (k:=2^i) (MC.Rv i c hc) (by rw[hw];omega),D]
   ·intro A O j;have p:(MC.cV i).2.1<2^(2^i):=by rw[he];have:0<2^(2^i):=Ji (by decide);omega
    have g:Fw (GM.nz (MC.cV i).2.1) (GM.nz (MC.cV i).2.2):=ZpY (k:=2^i) p (by rw[hw];omega);walk_at"go";refine#v[.inl #v[by trivial,_,j.sq],g,A,_,_,rfl,rfl,j.at_,by rw[aQ,aQ,aQ];omega,?_];walk_at"go";refine#v[g,.inr #v[by decide,by decide],A,(l.trans j.same).put (l.free j.cL),l.free j.cL,?_,Aa (.int (0+(i:Int))),?_]
    ·rw[cN];congr 2;show _=(((MC.cV i).1.map (λc=>c |||(c*2^(MC.cV i).2.2))++[(MC.cV i).2.1*2^(MC.cV i).2.2]).map GM.nz).map V.int;rw[fN,fN,iR,iR,iR,iR]
     have I:∀c∈(MC.cV i).1,Pj (MC.cV i).2.2 (V.int (GM.nz c))=V.int (GM.nz (c |||(c*2^(MC.cV i).2.2))):=λc _=>by show V.int (Builtin.bitOr (GM.nz c) (GM.nz c*2^(GM.nz (MC.cV i).2.2).toNat))=V.int (GM.nz (c |||(c*2^(MC.cV i).2.2)));unfold GM.nz;rw[Sv,T5]
     have J:GM.nz (MC.cV i).2.1*2^(GM.nz (MC.cV i).2.2).toNat=GM.nz ((MC.cV i).2.1*2^(MC.cV i).2.2):=by unfold GM.nz;rw[Sv]
     have L:=ym I;rw[J];exact congrArg (· ++ [V.int (GM.nz ((MC.cV i).2.1*2^(MC.cV i).2.2))]) L
    ·have e1:Builtin.bitOr (GM.nz (MC.cV i).2.1) (GM.nz (MC.cV i).2.1*2^(GM.nz (MC.cV i).2.2).toNat)=GM.nz (MC.cV (i+1)).2.1:=by show _=GM.nz ((MC.cV i).2.1 |||((MC.cV i).2.1*2^(MC.cV i).2.2));unfold GM.nz;rw[Sv,T5]
     have e2:GM.nz (MC.cV i).2.2*2=GM.nz (MC.cV (i+1)).2.2:=by show _=GM.nz ((MC.cV i).2.2*2);unfold GM.nz;omega
     rw[e1,e2]
  ·rintro σ f ⟨r,l,fr,d,v,rfl⟩;walk_at"";exact q r f l fr d
def tv(F z:Nat)(t:Int):Nat:=if t%2=1 then F^^^z else z
def X5(_:aE):Sp:=λvs H Q _=>∃(d:Ad) (kvs:List (Key×V)) (t:Int) (F z:Nat),vs=[.ref d,.int t,.int F]/\H d=Aa (.dK kvs)/\bQ kvs (.inl (t/2))=Aa (.int z)/\Q (.int (tv F z t:Nat)) H
def Wq(K:aE):TS:=(cY (Oa (cO (aK (mP K) (aK (dA (λ_ j=>0<j) λi j=>.int (i%j)) (aA 1) (tC (.int 2))) (tC (.int 1)))) (aK (cZ λi j=>.int (Builtin.bitXor i j)) (qV (aA 0) (aK (dA kF λi j=>.int (i/j)) (aA 1) (tC (.int 2)))) (aA 2)) (qV (aA 0) (aK (dA kF λi j=>.int (i/j)) (aA 1) (tC (.int 2))))))
theorem ZoE(T:Txt K mg a):TM P w K mg base 0 "lit_tie" Oq Z3 a.ma (Wq K):=λhr=>(bD (dM (Tk (eE (nR (lk hr)) (bK oz (cv 1) aR) aR) (bK xY (sT (fP hr) (cv 0) (bK kP (cv 1) aR) (λ_ _=>rfl)) (cv 2)) (sT (fP hr) (cv 0) (bK kP (cv 1) aR) (λ_ _=>rfl)))))
theorem ZjJ(T:Txt K mg a):a0 P w K mg base fD 1 a.ma a.pi R9 (X5 K):=by
 refine T.lK.n.gJ ZoR (ZoE T) (λvs H Q E h=>?_) (λH vs Q E h=>?_)
 ·obtain⟨d,kvs,t,F,z,rfl,_⟩:=h;rfl
 ·obtain⟨d,kvs,t,F,z,rfl,hd,hv,q⟩:=h;show Wq K _ [Aa (.ref d),Aa (.int t),Aa (.int F)] H;unfold Wq
  have g1:gS H d (kV (.inl (t/2))) (Aa (.int z)):=by have:=gS.k (k:=.inl (t/2)) hd;rw[hv]at this;exact this
  unfold tv at q;walk_at"";by_cases h:t%2=1
  ·rw[if_pos h]at q ⊢;walk_at"";refine#v[d,.int z,rfl,g1,?_];walk_at"";rw[Rp,Nat.xor_comm];exact q
  ·rw[if_neg h]at q ⊢;walk_at"";exact#v[d,.int z,rfl,g1,q]
def Zic(_:aE):Sp:=λvs H Q _=>∃(d c:Ad) (kvs:List (Key×V)) (x y:Int) (F f g:Nat),vs=[.ref d,.ref c,.int F]/\H d=Aa (.dK kvs)/\H c=Aa (.tup [.int x,.int y])/\bQ kvs (.inl (x/2))=Aa (.int f)/\bQ kvs (.inl (y/2))=Aa (.int g)/\Q (.int (tv F f x&&&tv F g y:Nat)) H
def WC(K:aE):TS:=(cY (aK (cZ λi j=>.int (Builtin.bitAnd i j)) (dH (X5 K) [] E0 (aC (aA 0) (aC (aK (eJ K) (aA 1) (tC (.int 0))) (aC (aA 2) aI)))) (dH (X5 K) [] E0 (aC (aA 0) (aC (aK (eJ K) (aA 1) (tC (.int 1))) (aC (aA 2) aI))))))
theorem ZmM(T:Txt K mg a):TM P w K mg base 1 "lit_pair" Qc Zj1 a.kJ (WC K):=λhr=>(bD (dM (bK Vg (dP T.lK (ZjJ T) (hm hr) cG (aD (cv 0) (aD (eQ eP (cv 1) aR) (aD (cv 2) aM)))) (dP T.lK (ZjJ T) (hm hr) cG (aD (cv 0) (aD (eQ eP (cv 1) aR) (aD (cv 2) aM)))))))
theorem Zng(T:Txt K mg a):a0 P w K mg base fD 2 a.kJ a.nD QX (Zic K):=by
 refine T.nE.n.gJ ZmU (ZmM T) (λvs H Q E h=>?_) (λH vs Q E h=>?_)
 ·obtain⟨d,c,kvs,x,y,F,f,g,rfl,_⟩:=h;rfl
 ·obtain⟨d,c,kvs,x,y,F,f,g,rfl,hd,ht,h1,h2,q⟩:=h;show WC K _ [Aa (.ref d),Aa (.ref c),Aa (.int F)] H;unfold WC;walk_at"";refine#v[_,_,.inr (.of ht),rfl,d,kvs,x,F,f,rfl,hd,h1,?_];walk_at"";refine#v[_,_,.inr (.of ht),rfl,d,kvs,y,F,g,rfl,hd,h2,?_];walk_at"";rw[K7];exact q
theorem CJ{κ:Type}[DecidableEq κ](kvs:List (κ×V))(k:κ)(v:V):(eD kvs k v).length<=kvs.length+1:=by
 unfold eD;split
 ·rw[aQ];omega
 ·rw[eG];exact bV _
theorem Zle:∀(ks:List Int) (f:List Nat) (c:List (Key×V)),ks.length=f.length->(∀k,(bQ c (.inl k)).isSome=Ai->∃z:Nat,bQ c (.inl k)=Aa (.int z)) ->
  (((ks.map (Sum.inl:Int->Key)).zip (f.map λz=>V.int (z:Nat))).foldl (λc d=>eD c d.1 d.2) c).length<=c.length+ks.length /\
  ∀k:Int,((bQ (((ks.map (Sum.inl:Int->Key)).zip (f.map λz=>V.int (z:Nat))).foldl (λc d=>eD c d.1 d.2) c) (.inl k)).isSome=((bQ c (.inl k)).isSome ||decide (k∈ks))) /\
   ((bQ (((ks.map (Sum.inl:Int->Key)).zip (f.map λz=>V.int (z:Nat))).foldl (λc d=>eD c d.1 d.2) c) (.inl k)).isSome=Ai->∃z:Nat,bQ (((ks.map (Sum.inl:Int->Key)).zip (f.map λz=>V.int (z:Nat))).foldl (λc d=>eD c d.1 d.2) c) (.inl k)=Aa (.int z))
 |[],f,c,_,h=>by simpa using h
 |k0::ks,z0::f,c,hl,h=>by
  have g:ks.length=f.length:=Nat.succ.inj hl
  have h':∀k,(bQ (eD c (.inl k0) (.int (z0:Nat))) (.inl k)).isSome=Ai->∃z:Nat,bQ (eD c (.inl k0) (.int (z0:Nat))) (.inl k)=Aa (.int z):=by
   intro k;rw[rf];by_cases e:k=k0
   ·subst e;rw[if_pos rfl];exact λ_=>#v[z0,rfl]
   ·rw[if_neg (λz=>e (Sum.inl.inj z))];exact h k
  obtain⟨i1,i2⟩:=Zle ks f (eD c (.inl k0) (.int (z0:Nat))) g h';rw[jF,jF,QE,zu];refine#v[?_,λk=>?_]
  ·have:=CJ c (.inl k0) (.int (z0:Nat));rw[lG];refine lC i1 ?_;omega
  ·obtain⟨j1,j2⟩:=i2 k;refine#v[?_,j2];rw[j1,rf];by_cases e:k=k0
   ·subst e;simp
   ·rw[if_neg (λz=>e (Sum.inl.inj z))];simp[e]
theorem ZS:∀(ks:List Int) (d:List Nat) (c:List (Key×V)) (k:Nat) (x:Int) (z:Nat),ks.Nodup->ks[k]? = Aa x->d[k]? = Aa z ->
  bQ (((ks.map (Sum.inl:Int->Key)).zip (d.map λz=>V.int (z:Nat))).foldl (λc f=>eD c f.1 f.2) c) (.inl x)=Aa (.int (z:Nat))
 |[],d,c,k,x,z,_,h,_=>by simp at h
 |k0::ks,[],c,k,x,z,_,_,h=>by simp at h
 |k0::ks,z0::d,c,0,x,z,hd,hx,hz=>by
  have e1:k0=x:=by simpa using hx
  have e2:z0=z:=by simpa using hz
  subst e1 e2;rw[jF,jF,QE,zu];have hn:=(uL.mp hd).1
  have keep:∀(ks:List Int) (d:List Nat) (c:List (Key×V)),k0∉ks->bQ (((ks.map (Sum.inl:Int->Key)).zip (d.map λz=>V.int (z:Nat))).foldl (λc f=>eD c f.1 f.2) c) (.inl k0)=bQ c (.inl k0):=by
   intro ks
   induction ks with
   |nil=>intro d c _;simp
   |cons a r ih=>
    intro d c hk;cases d with
    |nil=>simp
    |cons b t=>rw[jF,jF,QE,zu,ih t _ (λh=>hk (sC _ h)),rf,if_neg (λh=>hk (by rw[Sum.inl.inj h];exact uh ..))]
  rw[keep ks d _ hn,rf,if_pos rfl]
 |k0::ks,z0::d,c,k+1,x,z,hd,hx,hz=>by rw[jF,jF,QE,zu];exact ZS ks d _ k x z (uL.mp hd).2 (by simpa using hx) (by simpa using hz)
def xG(v:Nat->Bool)(t:Int):Bool:=v (t/2).toNat != decide (t%2=1)
structure Agr (m:Nat) (P:List MF.Pr) (n:Nat) (xs:List Int) (N:Nat) (v:Nat->Bool):Prop where
 cut:∀(k:Nat) x,xs[k]? = Aa x->v x.toNat=N.testBit k
 iQ:∀j p,P[j]? = Aa p->MF.gF (MF.eH xs) m P [2*(n:Int)] (m+1+j)=Ai->MF.eH xs (m+1+j)=Ah->v (m+1+j)=(xG v p.1&&xG v p.2)
def uH(m:Nat)(P:List MF.Pr)(n:Nat)(xs:List Int)(z j:Nat):Prop:=z<2^2^xs.length/\∀(N:Nat) (v:Nat->Bool),N<2^xs.length->Agr m P n xs N v->z.testBit N=v j
theorem yM(c:F<2^k)(hz:z<2^k):tv F z t<2^k:=by
 unfold tv;split
 ·exact Nat.xor_lt_two_pow c hz
 ·exact hz
theorem Zq8(n:Nat):og n<2^2^n:=by have:0<2^2^n:=Ji (by decide);unfold og;omega
theorem Q0{N:Nat}(c:F.testBit N=Ai)(h:z.testBit N=v (t/2).toNat):(tv F z t).testBit N=xG v t:=by
 unfold tv xG;by_cases e:t%2=1
 ·rw[if_pos e,Zp,c,h,decide_eq_true e];cases v (t/2).toNat <;> rfl
 ·rw[if_neg e,h,decide_eq_false e];cases v (t/2).toNat <;> rfl
theorem RD{n N:Nat}(h:N<2^n):(og n).testBit N=Ai:=by unfold og;rw[Jq];exact decide_eq_true h
theorem ZoG{m:Nat}{P:List MF.Pr}{n:Nat}{xs:List Int}{j d f:Nat}{p:MF.Pr}(hp:P[j]? = Aa p)(hr:MF.gF (MF.eH xs) m P [2*(n:Int)] (m+1+j)=Ai)(hs:MF.eH xs (m+1+j)=Ah)
  (h1:uH m P n xs d (p.1/2).toNat) (h2:uH m P n xs f (p.2/2).toNat):uH m P n xs (tv (og xs.length) d p.1&&&tv (og xs.length) f p.2) (m+1+j):=by
 refine#v[Nat.and_lt_two_pow _ (yM (Zq8 _) h2.1),λN v c ag=>?_];rw[NV,Q0 (RD c) (h1.2 N v c ag),Q0 (RD c) (h2.2 N v c ag),ag.iQ j p hp hr hs]
theorem ZpC{m:Nat}{P:List MF.Pr}{n:Nat}{xs:List Int}{k z:Nat}{x:Int}(hx:xs[k]? = Aa x)(hz:(MC.cV xs.length).1[k]? = Aa z):uH m P n xs z x.toNat:=by refine#v[MC.Rv _ _ (jP hz),λN v c ag=>?_];rw[ag.cut k x hx,<-MC.S1 xs.length k N (dS.mp hx).1 c,mS,hz];rfl
def Rt(xs:List Int):V->Bool|.int x=>!decide (x∈xs)|_=>Ah
theorem Zs0(xs:List Int)(r:Nat->Bool)(N:Nat):((((dX N).filter r).map uV).filter (Rt xs)).map id=((dX N).filter λj=>r j && !MF.eH xs j).map uV:=by rw[F9,II,List.filter_filter];congr 1;refine List.filter_congr λj _=>?_;show(Rt xs (uV j)&&r j)=(r j && !MF.eH xs j);rw[Bool.and_comm];rfl
def ZnW(a:bC)(K:aE):Sp:=λvs H Q E=>∃(f dx pl d p:Ad) (m:Nat) (k:Int) (xs:List Int) (es:List En),vs=[.ref f,.int k,.ref p]/\bB a.aB H f m es dx pl d/\cB K H p (xs.map V.int)/\MF.Ok m (aP es)/\m<=10/\es.length<=1900/\xs.length<=10 /\
 (MF.qk m (aP es) k xs=Ai->∀(z:Nat) c,uH m (aP es) k.toNat xs z k.toNat->bL H c->Q (.int z) c)/\(MF.qk m (aP es) k xs=Ah->∀c,bL H c->∀e,c e=Ae->E (.ref e) (Aa a.dI) c)
abbrev ZoW(a:bC)(K:aE)(E:XK):TS:=(aV (gU (jV K (aA 5)) (aU 6) (rF (aA 4) (aA 6) (dH (Zic K) [] E0 (aC (aA 4) (aC (fQ a.aB "pair" (Dd a K) [] E0 (aA 0) (aC (aA 6) aI)) (aC (aA 3) aI))))))
  (cY (qV (aA 4) (aA 1))))
abbrev ZoV(a:bC)(K:aE)(E:XK):TS:=(aV (cK (iP (jV K (dH (RC a K) [] E0 (aC (aA 0) (aC (kT (aC (aA 1) aI)) (aC (aA 4) aI))))) 1 [4] (aU 0) (cO (uU (aA 0) (aA 1))) (aA 0)) (aU 5))
  (bN (ZoW a K E)))
abbrev ZoU(a:bC)(K:aE)(E:XK):TS:=(aV (cK (XN K (aC (aA 2) (aC (dH (Zep K) [] E0 (aC (dF (k9 K) (aC (aA 2) aI)) aI)) aI))) (aU 4))
  (bN (ZoV a K E)))
def Uc(a:bC)(K:aE)(E:XK):TS:=(aV (eK (lR (kS K (dH (Zly a K) [] E0 (aC (aA 0) (aC (aA 1) (aC (aA 2) aI)))))) (xB a.dI (aC (tC (.str "no cut of this knot")) aI) E) fI)
  (aV (cK (dH (Up K) [] E0 (aC (dF (k9 K) (aC (aA 2) aI)) aI)) (aU 3))
  (bN (ZoU a K E))))
theorem Zr3(T:Txt K mg a):TX P w K mg base 5 "table" Ih WE a.pA (Uc a K):=
 λhr=>(aX (fC (mU (mV (dP T.qJ (ZqD T) (hm hr) cG (aD (cv 0) (aD (cv 1) (aD (cv 2) aM)))))) (bD (DV Fp T.nq (by decide) rfl T.wg rfl vh (aD wO aM))) fO)
   (aX (dL 3 OU.nd (dP T.gB (Zfy T) (hm hr) cG (aD (eV lS (by rfl) T.bR PySem.boot_len (aD (cv 2) aM)) aM)))
   (bX (aX (dL 4 OU.nd (Zpg rfl rfl rfl T.jS T.u8 (aD (cv 2) (aD (dP T.iB (ZhS T) (hm hr) cG (aD (eV lS (by rfl) T.bR PySem.boot_len (aD (cv 2) aM)) aM)) aM))))
   (bX (aX (HS (i:=5) (N:=["lower","lit"]) (k:=1) (sel:=[4]) (aY.of (bZ Ih).names ∅) (bI.of WE ∅) rfl (lH (dP T.jR (WH T) (hm hr) cG (aD (cv 0) (aD (lJ (aD (cv 1) aM)) (aD (cv 4) aM))))) (λ_ _ _ _=>(dN 0 (show kK (["lower","lit"]:List Str) by decide +kernel))) (λ_ _ _ _=>(yF (sW (wF (fP hr) (cv 0) (cv 1))))) (λ_ _ _ _=>(cv 0)) OU.nd rfl (by walk_at"o") rfl)
   (bX (aX (PS.vl (my PassesOwn.never rfl (lH (cv 5)) (dN 6 OU.nd) (bD (tj (fP hr) (cv 4) (cv 6) (dP T.nE (Zng T) (hm hr) cG (aD (cv 4) (aD (oI (cv 0) T.aJ T.bW.e (KN T) (hm hr) T.bW.b .nil qj (aD (cv 6) aM)) (aD (cv 3) aM)))) rfl))))
   (bD (dM (sT (fP hr) (cv 4) (cv 1) (λ_ _=>rfl))))))))))))
theorem ZsD(T:Txt K mg a):a0 P w K mg base (lf P w) 6 a.pA a.sP Tw (ZnW a K):=by
 refine T.sU.n.nF OU (Zr3 T) (λvs H Q E h=>?_) (λH vs Q E h=>?_)
 ·obtain⟨f,dx,pl,kl,p,m,k,xs,es,rfl,_⟩:=h;rfl
 ·obtain⟨f,dx,pl,kl,p,m,k,xs,es,rfl,hf,hX,ok,hm,hz,hxz,qt,qf⟩:=h;show Uc a K E _ [Aa (.ref f),Aa (.int k),Aa (.ref p),Ae,Ae,Ae,Ae] H;unfold Uc;have big:=kQ;have wn:(aP es).length=es.length:=aQ ..;walk_at"";refine#v[f,dx,pl,kl,p,m,k,xs,es,rfl,hf,hX,ok,hm,hz,⋯,λH1 s1=>?_];cases hc:MF.qk m (aP es) k xs with
  |false=>walk_at"go";exact#v[by decide,qf hc H1 s1]
  |true=>
   have q:=qt hc;obtain⟨⟨k1,k2,k3⟩,xu,hhang,I⟩:=(MF.RB ..).mp hc;obtain⟨n,rfl⟩:=vP (by omega:0<=k);walk_at"";refine .inl #v[_,.inl (s1.seq hX),?_];rw[aQ];refine#v[xs.length,rfl,hxz,?_];walk_at"";refine .inl #v[_,.inl (s1.seq hX),?_];rw[aQ];refine#v[xs.length,rfl,hxz,λic H2 s2 hic h2=>?_];have L:=s1.trans s2;have el:(MC.cV xs.length).1.length=xs.length:=MC.RY ..;walk_at"";refine#v[xs,_,L.seq hX,.of h2,by rw[aQ,aQ];exact el.symm,⋯,λu H3 n3=>?_];have ey:((MC.cV xs.length).1.map GM.nz).map V.int=(MC.cV xs.length).1.map λz=>V.int (z:Nat):=by rw[iR];rfl
   rw[ey]at n3
   have hxd:xs.Nodup:=by
    have hr:∀(a b:Nat),a<b->b<xs.length->xs.getD a 0<xs.getD b 0:=by
     intro a b S hb
     induction b with
     |zero=>omega
     |succ b ih=>
      have h1:=xu b hb;rcases lD a b with l|l
      ·have:=ih l ⋯;omega
      ·have:a=b:=⋯;subst this;exact h1
    refine uZ.mpr λa b ha hb S e=>?_;have:=hr a b S hb;rw[show xs.getD a 0=xs[a] by simp[jY,ha],show xs.getD b 0=xs[b] by simp[jY,hb],e]at this;omega
   have zt:∀(k:Nat) (x:Int),xs[k]? = Aa x->∃z:Nat,bQ (((xs.map (Sum.inl:Int->Key)).zip ((MC.cV xs.length).1.map λz=>V.int (z:Nat))).foldl (λg C=>eD g C.1 C.2) []) (.inl x)=Aa (.int (z:Nat))/\uH m (aP es) n xs z x.toNat:=by intro k x hx;have hk:=(dS.mp hx).1;have hz:(MC.cV xs.length).1[k]? = Aa ((MC.cV xs.length).1[k]'⋯):=eF ⋯;exact#v[_,ZS xs _ [] k x _ hxd hx hz,ZpC hx hz]
   obtain⟨zl,zv⟩:=Zle xs (MC.cV xs.length).1 [] el.symm (λk h=>by simp[bQ]at h);have r:iS H2 u (.dK (((xs.map (Sum.inl:Int->Key)).zip ((MC.cV xs.length).1.map λz=>V.int (z:Nat))).foldl (λg C=>eD g C.1 C.2) [])) H3:=n3;clear n3;generalize (((xs.map (Sum.inl:Int->Key)).zip ((MC.cV xs.length).1.map λz=>V.int (z:Nat))).foldl (λg C=>eD g C.1 C.2) [])=kv0 at r zl zv zt
   have hst:qr kv0=MF.eH xs:=by funext j;unfold qr MF.eH;rw[(zv (j:Int)).1];simp[bQ]
   have ww:=L.trans r.same;have hld:H u=Ae:=L.nil r.cL;walk_at"";refine#v[by show 1<=sizeLine;decide,λkp H4 n4=>?_]
   have e1:([V.int (n:Int)]:List V)=[2*(n:Int)].map λt=>V.int (t/2):=by show[V.int (n:Int)]=[V.int (2*(n:Int)/2)];rw[show 2*(n:Int)/2=(n:Int) by omega]
   rw[e1]at n4;have Sm:=ww.trans n4.same;refine#v[f,dx,pl,kl,kp,u,m,[2*(n:Int)],kv0,es,rfl,hf.same Sm,.of n4.at_,n4.same _ _ r.at_,ok,?_,hm,⋯,by simp,λrq H5 n5=>?_]
   ·intro t ht;rw[dQ]at ht;subst ht;omega
   rw[hst]at n5;have Tz:=Sm.trans n5.same;have J:=n5.same _ _ (n4.same _ _ r.at_)
   have hRl:((MF.cD (MF.eH xs) m (aP es) [2*(n:Int)]).map uV).length<=sizeLine:=by rw[aQ];unfold MF.cD;have:=xf (MF.gF (MF.eH xs) m (aP es) [2*(n:Int)]) (dX (1+m+(aP es).length));rw[ub]at this;omega
   walk_at"";refine#v[#v[_,n5.sq],Li (Rt xs) id n5.sq rfl hRl ?_ ?_ ?_]
   ·intro v H' Q' hv s' q';obtain⟨y,hy,rfl⟩:=fE.mp hv;walk_at"";refine#v[u,_,rfl,gS.k (k:=.inl (y:Int)) (s' _ _ J),?_];have ev:(bQ kv0 (.inl (y:Int))).isSome=decide ((y:Int)∈xs):=by rw[(zv (y:Int)).1];simp[bQ]
    rw[ev];exact q'
   ·intro v H' Q' hv _ s' q';obtain⟨y,hy,rfl⟩:=fE.mp hv;walk_at"";exact q'
   intro bp H6 O;have e6:(((MF.cD (MF.eH xs) m (aP es) [2*(n:Int)]).map uV).filter (Rt xs)).map id=((dX (1+m+(aP es).length)).filter λj=>MF.gF (MF.eH xs) m (aP es) [2*(n:Int)] j && !MF.eH xs j).map uV:=Zs0 xs _ _;rw[e6]at O;have s06:=Tz.trans O.same;have hbl:bp≠u:=(dW J O.cL).symm;walk_at""
   refine⟨#v[_,O.sq],Znu (N:=1+m+(aP es).length) (q:=λj=>MF.gF (MF.eH xs) m (aP es) [2*(n:Int)] j && !MF.eH xs j) (f:=uV) (λc σ B=>bL H B/\B bp=Aa (.lst (((dX (1+m+(aP es).length)).filter λj=>MF.gF (MF.eH xs) m (aP es) [2*(n:Int)] j && !MF.eH xs j).map uV)) /\
    ∃(kvs:List (Key×V)) (v6:Option V),B u=Aa (.dK kvs)/\kvs.length<=xs.length+c/\(∀j:Nat,MF.gF (MF.eH xs) m (aP es) [2*(n:Int)] j=Ai->j<c\/MF.eH xs j=Ai->∃z:Nat,bQ kvs (.inl (j:Int))=Aa (.int z)/\uH m (aP es) n xs z j) /\
    σ=[Aa (.ref f),Aa (.int (n:Int)),Aa (.ref p),Aa (.int (og xs.length:Nat)),Aa (.ref u),Aa (.ref bp),v6]) #v[s06,O.at_,kv0,_,O.same _ _ J,by simpa using zl,?_,rfl] ?_ ?_ ?_ ?_⟩
   ·intro j _ hj;have Z:=hj.resolve_left (yg _);unfold MF.eH at Z;obtain⟨c,hc'⟩:=wE.mp (of_decide_eq_true Z);have:=zt c _ hc';rwa[oK]at this
   ·rintro c σ B _ ⟨_,b7,_⟩;exact .of b7
   ·rintro c σ B Q5 hq ⟨R,b7,kvs,v6,d7,l7,d,rfl⟩;refine#v[R,b7,kvs,v6,d7,⋯,λj hr hj=>d j hr ?_,rfl];rcases hj with hj|hj
    ·by_cases e:j=c
     ·subst e;rw[hr,RJ]at hq;right;simpa using hq
     ·left;omega
    ·exact .inr hj
   ·rintro c σ B M Q5 hq ⟨R,b7,kvs,v6,d7,l7,d,rfl⟩ hM;have G:MF.gF (MF.eH xs) m (aP es) [2*(n:Int)] c=Ai:=(Sf.mp hq).1;have A:MF.eH xs c=Ah:=by have:=(Sf.mp hq).2;simpa using this
    have hcm:m<c:=(I c G).resolve_right λz=>by unfold MF.eH at A;simp[z]at A
    obtain⟨i,rfl⟩:∃i,c=m+1+i:=#v[c-(m+1),⋯];have Y:i<es.length:=⋯;have X:es[i]? = Aa es[i]:=eF Y;have D:(aP es)[i]? = Aa (es[i]).2:=by rw[gX,X];rfl
    obtain⟨o1,o2,o3,o4⟩:=ok _ _ D;have f7:=hf.same R;have te:=f7.iQ.tup _ (tR Y);have rc:=MF.F6 ok [2*(n:Int)] D G A;generalize hE:es[i]=e at *;obtain⟨z1,hz1,ht1⟩:=d _ rc.1 (.inl ⋯);obtain⟨z2,hz2,ht2⟩:=d _ rc.2 (.inl ⋯);rw[show(((e.2.1/2).toNat:Nat):Int)=e.2.1/2 by omega]at hz1;rw[show(((e.2.2/2).toNat:Nat):Int)=e.2.2/2 by omega]at hz2;show(aU 6) (V.int ((m+1+i:Nat):Int)) _ _ _;walk_at"";refine#v[f,dx,_,rfl,f7.ins,rfl,f,dx,pl,kl,m,_,es,rfl,f7,λ_=>#v[λz=>absurd z ⋯,λe' _ U=>?_],λz=>absurd #v[⋯,⋯] z];rw[show(((m+1+i:Nat):Int)-(m:Int)-1).toNat=i by omega,X]at U;cases U;walk_at"";refine#v[u,e.1,kvs,e.2.1,e.2.2,_,z1,z2,rfl,d7,te,hz1,hz2,?_];walk_at"";refine#v[u,_,rfl,ry.k (k:=.inl ((m+1+i:Nat):Int)) d7 ⋯,hM _ _ #v[R.put hld,by rw[bE hbl];exact b7,_,_,cN,by have:=CJ kvs (.inl ((m+1+i:Nat):Int)) (V.int (tv (og xs.length) z1 e.2.1&&&tv (og xs.length) z2 e.2.2:Nat));omega,λj hr hj=>?_,rfl]];rw[rf];by_cases ej:j=m+1+i
    ·subst ej;rw[if_pos rfl];exact#v[_,rfl,ZoG D G A ht1 ht2]
    ·rw[if_neg (λz=>ej (by have:=Sum.inl.inj z;omega))];refine d j hr ?_;rcases hj with hj|hj
     ·left;omega
     ·exact .inr hj
   ·rintro σ B ⟨R,b7,kvs,v6,d7,l7,d,rfl⟩;obtain⟨z,hz,htz⟩:=d n (MF.yS ⋯) (.inl ⋯);walk_at"";refine#v[u,.int z,rfl,?_,q z B (by rw[oK];exact htz) R];have:=gS.k (k:=.inl (n:Int)) d7;rw[hz]at this;exact this
theorem Zlf{K:aE}{Q:VK}(q:Q (.bl Ai) H):Mj K [.int i] H Q E:=#v[_,rfl,trivial,q]
theorem Ve{K:aE}{Q:VK}(q:Q (.bl (decide (l<=i/\i<=g))) H):IB K [.int i,.int l,.int g] H Q E:=#v[_,_,_,rfl,trivial,q]
abbrev Pc:=Int×List Int×Int
structure hQ (H:Hp) (l:Ad) (ts:List (Ad×Ad)) (ps:List Pc):Prop where
 lst:H l=Aa (.lst (ts.map λt=>V.ref t.1))
 len:ts.length=ps.length
 at_:∀(i:Nat) t p,ts[i]? = Aa t->ps[i]? = Aa p->H t.1=Aa (.tup [.int p.1,.ref t.2,.int p.2.2])/\H t.2=Aa (.lst (p.2.1.map V.int))
structure tF (H:Hp) (l:Ad) (ts:List (Ad×Ad)) (ps:List Pc):Prop where
 tup:H l=Aa (.tup (ts.map λt=>V.ref t.1))
 len:ts.length=ps.length
 at_:∀(i:Nat) t p,ts[i]? = Aa t->ps[i]? = Aa p->H t.1=Aa (.tup [.int p.1,.ref t.2,.int p.2.2])/\H t.2=Aa (.tup (p.2.1.map V.int))
theorem hQ.same(h:hQ H l ts d)(s:bL H c):hQ c l ts d:=#v[s _ _ h.lst,h.len,λi t p ht hp=>#v[s _ _ (h.at_ i t p ht hp).1,s _ _ (h.at_ i t p ht hp).2]]
def NL(H c:Hp):Prop:=∀b o,(∀xs,o≠HO.lst xs)->H b=Aa o->c b=Aa o
theorem NL.of(s:bL H c):NL H c:=λb o _ e=>s b o e
theorem tF.nl(h:tF H l ts d)(s:NL H c):tF c l ts d:=#v[s _ _ (λ_ z=>nomatch z) h.tup,h.len,λi t p ht hp=>#v[s _ _ (λ_ z=>nomatch z) (h.at_ i t p ht hp).1,s _ _ (λ_ z=>nomatch z) (h.at_ i t p ht hp).2]]
theorem hQ.get(h:hQ H l ts c)(hi:i<ts.length):∃p,c[i]? = Aa p/\H (ts[i]).1=Aa (.tup [.int p.1,.ref (ts[i]).2,.int p.2.2])/\H (ts[i]).2=Aa (.lst (p.2.1.map V.int)):=by
 have hp:c[i]? = Aa (c[i]'(by rw[<-h.len];exact hi)):=eF _;have g:=h.at_ i _ _ (eF hi) hp
 exact#v[_,hp,g.1,g.2]
theorem tF.get(h:tF H l ts c)(hi:i<ts.length):∃p,c[i]? = Aa p/\H (ts[i]).1=Aa (.tup [.int p.1,.ref (ts[i]).2,.int p.2.2])/\H (ts[i]).2=Aa (.tup (p.2.1.map V.int)):=by
 have hp:c[i]? = Aa (c[i]'(by rw[<-h.len];exact hi)):=eF _;have g:=h.at_ i _ _ (eF hi) hp
 exact#v[_,hp,g.1,g.2]
theorem Ztx(ts:List (Ad×Ad))(hi:i<ts.length):(ts.map λt=>V.ref t.1).getD i .non=.ref (ts[i]).1:=by rw[mS,gX,eF hi];rfl
def uI(m:Nat)(c:List Pc):List Int:=((dX m).map λi:Nat=>1+(i:Int))++c.map (·.1)
def tq(m:Nat)(c:List Pc):Int:=(c.map (·.1)).getLastD m
structure WPc (m:Nat) (ps:List Pc) (p:Pc):Prop where
 up:tq m ps<p.1
 hi:p.1<=999
 l1:1<=p.2.1.length
 l6:p.2.1.length<=6
 tZ:p.2.1.Pairwise (· < ·)
 kn:∀x∈p.2.1,x∈uI m ps
 t0:0<=p.2.2
 t1:p.2.2<((2^2^p.2.1.length:Nat):Int)
def WP(m:Nat)(c:List Pc):Prop:=∀i p,c[i]? = Aa p->WPc m (c.take i) p
structure WT (m:Nat) (ps:List Pc) (pU:List Int):Prop where
 l1:1<=pU.length
 lh:pU.length<=100
 Tr:∀t∈pU,0<=t/\(t/2=0\/t/2∈uI m ps)
theorem Zr2(m:Nat)(c:List Pc)(p:Pc):tq m (c++[p])=p.1:=by unfold tq;rw[fN];simp
theorem Zpa(m:Nat)(c:List Pc)(p:Pc):uI m (c++[p])=uI m c++[p.1]:=by unfold uI;rw[fN,oJ];rfl
theorem ZpE{c:List Pc}{i:Nat}{p:Pc}(h:c[i]? = Aa p):c.take (i+1)=c.take i++[p]:=by rw[pJ,h];rfl
theorem Ztn{α:Type}(xs:List α):(xs.map λ_=>Ai).all id=Ai:=by rw[HZ,vI];intro _ _;rfl
def Zhp(K:aE):Sp:=λvs H Q _=>∃(c d:Ad) (xs:List Int) (kvs:List (Key×V)),vs=[.ref c,.ref d]/\cB K H c (xs.map V.int)/\H d=Aa (.dK kvs)/\1<=xs.length/\xs.length<=6/\xs.Pairwise (· < ·)/\(∀x∈xs,(bQ kvs (.inl x)).isSome=Ai)/\∀f,bL H f->Q (.bl Ai) f
abbrev Zjp(a:bC)(K:aE):TS:=(aV (eK (lR (kS K (dF (tG K) (aC (iP (jV K (aA 0)) 1 [1] (aU 0) kt (uD (dH (Mj K) [] E0 (aC (aA 0) aI)) (wP (aA 0) (aA 1)))) aI)))) (cY (tC (.bl Ah))) fI)
  (cY (dH (SZ K) [] E0 (aC (aA 0) aI))))
def Y6(a:bC)(K:aE):TS:=(aV (eK (lE (cO (aK (cZ λi j=>.bl (decide (i<j))) (dF (k9 K) (aC (aA 0) aI)) (tC (.int 1)))) (cO (aK (cZ λi j=>.bl (decide (j<i))) (dF (k9 K) (aC (aA 0) aI)) (tC (Ro a))))) (cY (tC (.bl Ah))) fI)
  (bN (Zjp a K)))
theorem Zls(T:Txt K mg a):TM P w K mg base 1 "is_cut_of" IK Yt a.jM (Y6 a K):=
 λhr=>(aX (fC (PW.pt (mw (eE wb (eV lS (by rfl) T.bR PySem.boot_len (aD (cv 0) aM)) aR) (rH (eE wM (eV lS (by rfl) T.bR PySem.boot_len (aD (cv 0) aM)) (xX rfl T.nW))))) (bD (dM kH)) fO)
   (bX (aX (fC (mU (mV (eV (Rs rfl) (by rfl) T.px PyProof.Rows.boot_all (aD (oZ (N:=["lower","lowers"]) (k:=1) (sel:=[1]) (aY.of (bZ IK).names ∅) (bI.of Yt ∅) rfl (lH (cv 0)) (λ_ _ _ _=>(dN 0 (show kK (["lower","lowers"]:List Str) by decide +kernel))) (λ_ _ _ _=>p0) (λ_ _ _ _=>(yy (dP T.hJ (T9 T) (hm hr) cG (aD (cv 0) aM)) (yu (Wg (G2 (fP hr) (cv 0) (cv 1))))))) aM)))) (bD (dM kH)) fO)
   (bD (dM (dP T.jG (Zhu T) (hm hr) cG (aD (cv 0) aM)))))))
theorem Zl0(T:Txt K mg a):a0 P w K mg base fD 2 a.jM a.mI RO (Zhp K):=by
 refine T.mJ.n.gJ ZlD (Zls T) (λvs H Q E h=>?_) (λH vs Q E h=>?_)
 ·obtain⟨c,d,xs,kvs,rfl,_⟩:=h;rfl
 ·obtain⟨c,d,xs,kvs,rfl,hc,hd,h1,h6,hr,hk,q⟩:=h;show Y6 a K _ [Aa (.ref c),Aa (.ref d)] H;unfold Y6
  try unfold Ro
  have i:=kQ;walk_at"";refine .inl #v[_,.inl hc,?_];rw[aQ];rw[if_neg (show¬((xs.length:Int)<1) by omega)];refine .inl #v[_,.inl hc,?_];rw[aQ];rw[if_neg (show¬((6:Int)<(xs.length:Int)) by omega)];walk_at"";refine#v[#v[_,hc],IY (λ_=>.bl Ai) hc rfl (by rw[aQ];omega) ?_ ?_]
  ·intro v p t hv l j;obtain⟨y,hy,rfl⟩:=fE.mp hv;walk_at"";refine Zlf ?_;walk_at"";refine#v[d,_,rfl,gS.k (k:=.inl y) (l _ _ hd),?_];rw[hk y hy];exact j
  intro u r f;have e1:(xs.map V.int).map (λ_=>V.bl Ai)=(xs.map λ_=>Ai).map V.bl:=by rw[iR,iR];rfl
  rw[e1]at f;walk_at"";refine#v[_,f.sq,?_];rw[Ztn];walk_at"";refine#v[c,xs,rfl,f.same.seq hc,⋯,λg m=>?_];rw[(MF.ZjG xs).mpr (MF.Ztw hr)];exact q g (f.same.trans m)
def Zft(_:aE):Sp:=λvs H Q _=>∃(m:Nat) (l:Ad) (ts:List (Ad×Ad)) (c:List Pc),vs=[.int m,.ref l]/\hQ H l ts c/\WP m c/\m<=10/\c.length<=1000 /\
 ∀d kvs f,uQ H d (.dK kvs) f->(∀x:Int,(bQ kvs (.inl x)).isSome=decide (x∈uI m c))->Q (.ref d) f
abbrev ZhL(a:bC)(K:aE):TS:=(aV (eK (lR (kS K (dH (IB K) [] E0 (aC (aA 6) (aC (tC (.int 0)) (aC (dH (Up K) [] E0 (aC (dF (k9 K) (aC (aA 5) aI)) aI)) aI)))))) EI fI)
  (aV (rF (aA 2) (aA 4) (tC (.bl Ai)))
  (cK (aA 4) (aU 3))))
abbrev ZhK(a:bC)(K:aE):TS:=(aV (eK (lE (lR (kS K (dH (IB K) [] E0 (aC (aA 4) (aC (aK pP (aA 3) (tC (.int 1))) (aC (tC (QV a)) aI)))))) (lR (kS K (dH (Zhp K) [] E0 (aC (aA 5) (aC (aA 2) aI)))))) EI fI)
  (bN (ZhL a K)))
abbrev ZhJ(a:bC)(K:aE):TS:=(aV (gU (jV K (aA 1)) (zG K 3 (o8 (aU 4) (o8 (aU 5) (o8 (aU 6) xS)))) (bN (ZhK a K)))
  (cY (aA 2)))
def XQ(a:bC)(K:aE):TS:=(aV (cK (dF (Fa K) (aC (iP (Es (aC (tC (.int 1)) (aC (aK pP (aA 0) (tC (.int 1))) aI))) 1 [] (aU 0) kt (pM (aC (aA 0) (aC (tC (.bl Ai)) aI)))) aI)) (aU 2))
  (aV (cK (aA 0) (aU 3))
  (bN (ZhJ a K))))
theorem ZiZ(T:Txt K mg a):TM P w K mg base 2 "need_pieces" Iw WY a.gE (XQ a K):=
 λhr=>(aX (dL 2 Dx.nd (re (O0 rfl) (by rfl) T.jS PyProof.Rows.boot_dict (aD (oZ (N:=["knot"]) (k:=1) (sel:=[]) (aY.of (bZ Iw).names ∅) (bI.of WY ∅) rfl (Uu rfl T.bO (aD aR (aD (bK qO (cv 0) aR) aM))) (λ_ _ _ _=>(dN 0 (show kK (["knot"]:List Str) by decide +kernel))) (λ_ _ _ _=>p0) (λ_ _ _ _=>(sI (aD (cv 0) (aD kH aM))))) aM)))
   (aX (dL 3 Dx.nd (cv 0))
   (bX (aX (my PassesOwn.never rfl (lH (cv 1)) (IM rfl (qc (dN 4 Dx.nd) (qc (dN 5 Dx.nd) (qc (dN 6 Dx.nd) Fz)))) (bX (aX (fC (PW.pt (mw (mU (mV (dP T.eA (R7 T) (hm hr) cG (aD (cv 4) (aD (bK qO (cv 3) aR) (aD (xX rfl T.mc) aM)))))) (rH (mU (mV (dP T.mJ (Zl0 T) (hm hr) cG (aD (cv 5) (aD (cv 2) aM)))))))) (bD Js) fO)
   (bX (aX (fC (mU (mV (dP T.eA (R7 T) (hm hr) cG (aD (cv 6) (aD aR (aD (dP T.gB (Zfy T) (hm hr) cG (aD (eV lS (by rfl) T.bR PySem.boot_len (aD (cv 5) aM)) aM)) aM)))))) (bD Js) fO)
   (aX (tj (fP hr) (cv 2) (cv 4) kH rfl)
   (bD (dL 3 Dx.nd (cv 4)))))))))
   (bD (dM (cv 2)))))))
theorem Zjw(T:Txt K mg a):a0 P w K mg base fD 3 a.gE a.kz Wz (Zft K):=by
 refine T.kD.n.gJ Dx (ZiZ T) (λvs H Q E h=>?_) (λH vs Q E h=>?_)
 ·obtain⟨m,l,ts,U,rfl,_⟩:=h;rfl
 ·obtain⟨m,l,ts,U,rfl,O,wp,m10,hz,q⟩:=h;show XQ a K _ [Aa (.int m),Aa (.ref l),Ae,Ae,Ae,Ae,Ae] H;unfold XQ
  try unfold QV
  have big:=kQ;have Xn:=O.len;walk_at"";refine#v[_,_,rfl,#v[by decide,by decide,⋯,⋯],?_];rw[show((m:Int)+1-1).toNat=m by omega];refine λlp G=>SF (n:=m) (item:=λi=>.int ((1:Int)+(i:Nat))) (λσ=>∃v,σ=[v]) (λi g=>∃us,g lp=Aa (.lst us)/\us.length=i/\bL H g/\∀j:Nat,j<i->∃t,us[j]? = Aa (.ref t)/\g t=Aa (.tup [.int (1+(j:Int)),.bl Ai])) #v[_,rfl] #v[[],cN,rfl,kO G,λj hj=>absurd hj (yg _)] ?_ ?_ ?_ ?_
  ·intro i g hi _;exact#v[hi,λx H5 hy=>hy]
  ·intro g _;exact bV _
  ·rintro i σ2 g R hi ⟨v,rfl⟩ ⟨us,h1,h2,X,h4⟩ hR;walk_at"";refine#v[by show 2<=sizeLine;decide,λt5 H5 M=>?_];have hp5:=M.same _ _ h1;have npt:t5≠lp:=(dW h1 M.cL).symm;refine#v[us,hp5,⋯,hR _ _ #v[_,rfl] #v[us++[.ref t5],cN,by rw[eG,h2];rfl,(X.trans M.same).put G,λj hj=>?_]];by_cases hji:j<i
   ·obtain⟨t',g1,g2⟩:=h4 j hji;exact#v[t',by rw[mY ⋯];exact g1,by rw[bE (fS g2 h1 (λz=>nomatch z))];exact M.same _ _ g2]
   ·have Y:j=i:=⋯;subst Y;exact#v[t5,by rw[<-h2];simp,by rw[bE npt];exact M.at_]
  rintro g ⟨us,h1,h2,X,h4⟩;walk_at"";refine#v[us,((dX m).map λi:Nat=>1+(i:Int)).map λx=>(.inl x,.bl Ai),h1,by rw[h2,aQ,aQ,ub],by rw[aQ,aQ,ub];omega,λj pr hj=>?_,λd H3 S=>?_]
  ·rw[iR,gX]at hj;cases hx:(dX m)[j]? with
   |none=>rw[hx]at hj;cases hj
   |some x=>
    rw[hx]at hj;cases hj;have C:j<m:=by have:=(dS.mp hx).1;rwa[ub]at this
    rw[List.getElem?_range C]at hx;cases hx;exact h4 j C
  have L:∀x:Int,(bQ (jQ [] (((dX m).map λi:Nat=>1+(i:Int)).map λx=>((.inl x:Key),V.bl Ai))) (.inl x)).isSome=decide (x∈uI m []):=λx=>by have:=HU ((dX m).map λi:Nat=>1+(i:Int)) x [];unfold uI;rw[yB,xt];simpa[jQ,bQ] using this
  have D:(jQ [] (((dX m).map λi:Nat=>1+(i:Int)).map λx=>((.inl x:Key),V.bl Ai))).length<=m:=by
   have key:∀(ks:List Int) (c:List (Key×V)),((ks.map λx=>((.inl x:Key),V.bl Ai)).foldl (λc kv=>eD c kv.1 kv.2) c).length<=c.length+ks.length:=by
    intro ks
    induction ks with
    |nil=>intro c;simp
    |cons k r ih=>intro c;rw[jF,zu,lG];dsimp only;have:=ih (eD c (.inl k) (.bl Ai));have:=CJ c (.inl k) (.bl Ai);omega
   have:=key ((dX m).map λi:Nat=>1+(i:Int)) [];rw[aQ,ub]at this;simpa[jQ] using this
  generalize jQ [] (((dX m).map λi:Nat=>1+(i:Int)).map λx=>((.inl x:Key),V.bl Ai))=kv0 at S L D;have N:=X.trans S.same;have B:H d=Ae:=X.nil S.cL;walk_at"";refine#v[#v[_,.of (N _ _ O.lst)],vu (xs:=ts.map λt=>V.ref t.1) (λi σ y=>bL H y/\∃(kvs:List (Key×V)) (v4 v5 v6:Option V),y d=Aa (.dK kvs)/\kvs.length<=m+i/\(∀x:Int,(bQ kvs (.inl x)).isSome=decide (x∈uI m (U.take i)))/\σ=[Aa (.int m),Aa (.ref l),Aa (.ref d),Aa (.int (tq m (U.take i))),v4,v5,v6]) #v[N,kv0,_,_,_,S.at_,⋯,L,rfl] ?_ ?_ ?_]
  ·rintro i σ y _ ⟨A,_⟩;exact .of (A _ _ O.lst)
  ·rintro i v σ y hv ⟨A,kvs,v4,v5,v6,h4,hl4,f,rfl⟩;have hi:i<ts.length:=by have:=(dS.mp hv).1;rwa[aQ]at this
   rw[gX,eF hi]at hv;have ev:V.ref (ts[i]).1=v:=Option.some.inj hv;subst ev;clear hv;obtain⟨p,hp,hpt,I⟩:=(O.same A).get hi;obtain⟨w1,w2,w3,w4,w5,w6,w7,w8⟩:=wp i p hp;have J:=ZpE hp;generalize (ts[i]).1=t1 at *;generalize (ts[i]).2=t2 at *
   have u:((og p.2.1.length:Nat):Int)=((2^2^p.2.1.length:Nat):Int)-1:=by unfold og;have h1:1<=2^2^p.2.1.length:=V1;omega
   walk_at"";refine#v[t1,_,rfl,.of hpt,rfl,_,_,rfl,_,_,rfl,_,_,rfl,rfl,?_];walk_at"";refine Ve ?_;rw[decide_eq_true (show tq m (U.take i)+1<=p.1/\p.1<=999 by omega)];walk_at"";refine#v[t2,d,p.2.1,kvs,rfl,.of I,h4,w3,w4,w5,λx hx=>by rw[f];exact decide_eq_true (w6 x hx),λH5 s5=>?_];walk_at"";refine .inl #v[_,.inl (.of (s5 _ _ I)),?_];rw[aQ];refine#v[_,rfl,⋯,?_];refine Ve ?_;rw[u,decide_eq_true (show(0:Int)<=p.2.2/\p.2.2<=((2^2^p.2.1.length:Nat):Int)-1 from#v[w7,by generalize ((2^2^p.2.1.length:Nat):Int)=Z at w8 ⊢;omega])];walk_at"";refine#v[d,_,rfl,ry.k (k:=.inl p.1) (s5 _ _ h4) ⋯,(A.trans s5).put B,_,Aa (.int p.1),Aa (.ref t2),Aa (.int p.2.2),cN,?_,λx=>?_,?_]
   ·have:=CJ kvs (.inl p.1) (V.bl Ai);omega
   ·rw[J,Zpa,rf];by_cases e:x=p.1
    ·subst e;rw[if_pos rfl];simp
    ·rw[if_neg (λz=>e (Sum.inl.inj z)),f x,decide_eq_decide,fG,dQ];exact#v[.inl,λz=>z.resolve_right e]
   ·rw[J,Zr2]
  ·rintro σ y ⟨A,kvs,v4,v5,v6,h4,hl4,f,rfl⟩;rw[aQ,Xn,rC]at f;walk_at"";exact q d kvs y #v[B,h4,A] f
def Zhk(K:aE):Sp:=λvs H Q _=>∃(g d:Ad) (c:List Int) (kvs:List (Key×V)) (m:Nat) (f:List Pc),vs=[.ref g,.ref d]/\cB K H g (c.map V.int)/\H d=Aa (.dK kvs)/\(∀x:Int,(bQ kvs (.inl x)).isSome=decide (x∈uI m f))/\WT m f c/\Q .non H
abbrev Zjc(K:aE):TS:=(eK (lE (lR (kS K (dH (Mj K) [] E0 (aC (aA 2) aI)))) (xp (cO (aK (zS K) (aK (dA kF λi j=>.int (i/j)) (aA 2) (tC (.int 2))) (tC (.int 0)))) (cO (uU (aK (dA kF λi j=>.int (i/j)) (aA 2) (tC (.int 2))) (aA 1))))) EI fI)
def SV(K:aE):TS:=(aV (eK (cO (aK (cZ λi j=>.bl (decide (i<j))) (dF (k9 K) (aC (aA 0) aI)) (tC (.int 1)))) EI fI)
  (gU (jV K (aA 0)) (aU 2) (bN (Zjc K))))
theorem Zll(T:Txt K mg a):TM P w K mg base 1 "need_ties" NN Z7 a.jC (SV K):=
 λhr=>(aX (fC (eE wb (eV lS (by rfl) T.bR PySem.boot_len (aD (cv 0) aM)) aR) (bD Js) fO)
   (bD (my PassesOwn.never rfl (lH (cv 0)) (dN 2 Zhr.nd) (bX (bD (fC (PW.pt (mw (mU (mV (dP T.hJ (T9 T) (hm hr) cG (aD (cv 2) aM)))) (rH (PW.pt (Hh (eE (tU (lk hr)) (bK kP (cv 2) aR) aR) (ER (sW (wF (fP hr) (bK kP (cv 2) aR) (cv 1))))))))) (bD Js) fO))))))
theorem ZlV(T:Txt K mg a):a0 P w K mg base fD 2 a.jC a.mG YI (Zhk K):=by
 refine T.ml.n.gJ Zhr (Zll T) (λvs H Q E h=>?_) (λH vs Q E h=>?_)
 ·obtain⟨l,d,c,kvs,m,u,rfl,_⟩:=h;rfl
 ·obtain⟨l,d,c,kvs,m,u,rfl,j,hd,hk,r,q⟩:=h;show SV K _ [Aa (.ref l),Aa (.ref d),Ae] H;unfold SV;have x:=r.l1;walk_at"";refine .inl #v[_,.inl j,?_];rw[aQ,if_neg (show¬((c.length:Int)<1) by omega)];walk_at"";refine#v[#v[_,j],vu (xs:=c.map V.int) (λi σ f=>f=H/\∃p,σ=[Aa (.ref l),Aa (.ref d),p]) #v[rfl,_,rfl] ?_ ?_ ?_]
  ·rintro i σ f _ ⟨rfl,_⟩;exact j
  ·rintro i v σ f hv ⟨rfl,p,rfl⟩;obtain⟨t,ht,rfl⟩:=uc hv;have hw:=r.Tr t (jP ht);walk_at"";refine Zlf ?_;walk_at"";by_cases g:t/2=0
   ·rw[if_neg (by simpa using g)];exact#v[by trivial,_,rfl]
   ·rw[if_pos (by simpa using g)];walk_at"";refine#v[d,_,rfl,gS.k (k:=.inl (t/2)) hd,?_];rw[hk,decide_eq_true (hw.2.resolve_left g)];walk_at"go";exact#v[by trivial,_,rfl]
  ·rintro σ f ⟨rfl,p,rfl⟩;walk_at"";exact q
def sO(C:Ad)(H:Hp)(x:Ad)(m:Nat)(f:List Pc)(c:List Int):Prop:=∃(dx k d:Ad) (ts:List (Ad×Ad)),H x=Aa (.ins C dx [("many",.int m),("kept_pieces",.ref k),("kept_ties",.ref d)])/\tF H k ts f/\H d=Aa (.tup (c.map V.int))
theorem sO.nl(h:sO C H x m f c)(s:NL H d):sO C d x m f c:=by obtain⟨dx,k,g,ts,h1,h2,h3⟩:=h;exact#v[dx,k,g,ts,s _ _ (λ_ z=>nomatch z) h1,h2.nl s,s _ _ (λ_ z=>nomatch z) h3]
theorem sO.same(h:sO C H x m f c)(s:bL H d):sO C d x m f c:=h.nl (NL.of s)
def VU(a:bC)(K:aE):Sp:=λvs H Q _=>∃(x dx l g:Ad) (m:Nat) (ts:List (Ad×Ad)) (d:List Pc) (c:List Int),vs=[.ref x,.int m,.ref l,.ref g]/\H x=Aa (.ins a.aN dx [])/\hQ H l ts d/\H g=Aa (.lst (c.map V.int))/\WP m d/\WT m d c/\1<=m/\m<=10/\d.length<=1000 /\
 ∀f,(∀b o,b≠x->H b=Aa o->f b=Aa o)->sO a.aN f x m d c->Q .non f
abbrev ZfK(a:bC)(K:aE):TS:=(aV (vB K (aA 0) (dF (HD K) (aC (iP (jV K (aA 2)) 3 [] (zG K 3 (o8 (aU 0) (o8 (aU 1) (o8 (aU 2) xS)))) kt (pM (aC (aA 0) (aC (dF (HD K) (aC (aA 1) aI)) (aC (aA 2) aI))))) aI)) "kept_pieces")
  (vB K (aA 0) (dF (HD K) (aC (aA 3) aI)) "kept_ties"))
abbrev ZfJ(a:bC)(K:aE):TS:=(aV (li (dH (Zhk K) [] E0 (aC (aA 3) (aC (dH (Zft K) [] E0 (aC (aA 1) (aC (aA 2) aI))) aI))))
  (aV (vB K (aA 0) (aA 1) "many")
  (bN (ZfK a K))))
def UM(a:bC)(K:aE):TS:=(aV (eK (lR (kS K (dH (IB K) [] E0 (aC (aA 1) (aC (tC (.int 1)) (aC (tC (Ry a)) aI)))))) EI fI)
  (bN (ZfJ a K)))
theorem ZgN(T:Txt K mg a):TM P w K mg base 3 "Board.__init__" HG UE a.dG (UM a K):=
 λhr=>(aX (fC (mU (mV (dP T.eA (R7 T) (hm hr) cG (aD (cv 1) (aD aR (aD (xX rfl T.nI) aM)))))) (bD Js) fO)
   (bX (aX (l0 (dP T.ml (ZlV T) (hm hr) cG (aD (cv 3) (aD (dP T.kD (Zjw T) (hm hr) cG (aD (cv 1) (aD (cv 2) aM))) aM))))
   (aX (xJ (cv 0) (cv 1) rfl)
   (bX (aX (xJ (cv 0) (re Xy (by rfl) T.lq PyProof.Rows.boot_tuple (aD (oZ (N:=zI) (k:=3) (sel:=[]) (aY.of (bZ HG).names ∅) (bI.of UE ∅) rfl (lH (cv 2)) (λ_ _ _ _=>(IM rfl (qc (dN 0 (show kK (zI:List Str) by decide +kernel)) (qc (dN 1 (show kK (zI:List Str) by decide +kernel)) (qc (dN 2 (show kK (zI:List Str) by decide +kernel)) Fz))))) (λ_ _ _ _=>p0) (λ_ _ _ _=>(sI (aD (cv 0) (aD (re Xy (by rfl) T.lq PyProof.Rows.boot_tuple (aD (cv 1) aM)) (aD (cv 2) aM)))))) aM)) rfl)
   (bD (xJ (cv 0) (re Xy (by rfl) T.lq PyProof.Rows.boot_tuple (aD (cv 3) aM)) rfl))))))))
theorem Zg7(T:Txt K mg a):a0 P w K mg base fD 4 a.dG a.gN wS (VU a K):=by
 refine T.gO.n.gJ ZgS (ZgN T) (λvs H Q E h=>?_) (λH vs Q E h=>?_)
 ·obtain⟨x,dx,l,tp,m,ts,ps,c,rfl,_⟩:=h;rfl
 ·obtain⟨x,dx,l,tp,m,ts,ps,c,rfl,hx,k,hT,wp,wt,m1,m10,hz,q⟩:=h;show UM a K _ [Aa (.ref x),Aa (.int m),Aa (.ref l),Aa (.ref tp)] H;unfold UM
  try unfold Ry
  have big:=kQ;have Xn:=k.len;walk_at"";refine Ve ?_;rw[decide_eq_true (show(1:Int)<=(m:Int)/\(m:Int)<=10 by omega)];walk_at"";refine#v[m,l,ts,ps,rfl,k,wp,m10,hz,λd kvs H1 md hk=>?_];obtain⟨_,hd1,s1⟩:=md;refine#v[tp,d,c,kvs,m,ps,rfl,.of (s1 _ _ hT),hd1,hk,wt,?_];walk_at"";refine#v[x,a.aN,dx,[],rfl,s1 _ _ hx,T.dC,T.kr,by decide,?_];walk_at"";have N:upd H1 x (.ins a.aN dx (eO "many" (.int m) [])) x=Aa (.ins a.aN dx (eO "many" (.int m) [])):=cN;have O:∀b o,b≠x->H b=Aa o->upd H1 x (.ins a.aN dx (eO "many" (.int m) [])) b=Aa o:=λb o n e=>by rw[bE n];exact s1 _ _ e
  generalize upd H1 x (.ins a.aN dx (eO "many" (.int m) []))=H2 at N O ⊢;have r:hQ H2 l ts ps:=#v[O _ _ (fS k.lst hx (λz=>nomatch z)) k.lst,k.len,λi t p ht hp=>#v[O _ _ (fS (k.at_ i t p ht hp).1 hx (λz=>nomatch z)) (k.at_ i t p ht hp).1,O _ _ (fS (k.at_ i t p ht hp).2 hx (λz=>nomatch z)) (k.at_ i t p ht hp).2]];refine#v[#v[_,.of r.lst],λcp Y=>SF (n:=(ts.map λt=>V.ref t.1).length) (item:=λi=>(ts.map λt=>V.ref t.1).getD i .non) (λσ=>∃v0 v1 v2,σ=[v0,v1,v2]) (λi G=>bL H2 G/\∃us:List (Ad×Ad),G cp=Aa (.lst (us.map λt=>V.ref t.1))/\us.length=i/\∀(j:Nat) t p,us[j]? = Aa t->ps[j]? = Aa p->G t.1=Aa (.tup [.int p.1,.ref t.2,.int p.2.2])/\G t.2=Aa (.tup (p.2.1.map V.int))) #v[_,_,_,rfl] #v[kO Y,[],cN,rfl,λj t p ht=>by simp at ht] (IU (xs:=ts.map λt=>V.ref t.1) ?_) ?_ ?_ ?_]
  ·rintro i G _ ⟨J,_⟩;exact .of (J _ _ r.lst)
  ·rintro G ⟨J,_⟩;exact#v[_,.of (J _ _ r.lst),bV _]
  ·rintro i σ3 G R hi ⟨v0,v1,v2,rfl⟩ ⟨J,us,h3,v,M⟩ hR;have Z:i<ts.length:=by rwa[aQ]at hi
   obtain⟨p,hp,hpt,hpc⟩:=(r.same J).get Z;rw[Ztx ts Z];generalize (ts[i]).1=t1 at *;generalize (ts[i]).2=t2 at *;walk_at"";refine#v[t1,_,rfl,.of hpt,rfl,_,_,rfl,_,_,rfl,_,_,rfl,rfl,?_];walk_at"";refine#v[_,.inl #v[.of hpc,λc4 I g=>?_]];refine#v[by show 3<=sizeLine;decide,λt5 H5 n5=>?_];have D:=g.same.trans n5.same;have h5:=D _ _ h3;have SN:t5≠cp:=(dW (g.same _ _ h3) n5.cL).symm;have ncp:c4≠cp:=(dW h3 g.cL).symm;refine#v[_,h5,by rw[aQ];omega,hR _ _ #v[_,_,_,rfl] #v[(J.trans D).put Y,us++[(t5,c4)],by rw[cN,fN];rfl,by rw[eG,v];rfl,λj t p' ht L=>?_]];by_cases hji:j<i
   ·rw[mY ⋯]at ht;obtain⟨g1,g2⟩:=M j t p' ht L;exact#v[by rw[bE (fS g1 h3 (λz=>nomatch z))];exact D _ _ g1,by rw[bE (fS g2 h3 (λz=>nomatch z))];exact D _ _ g2]
   ·have QF:j<us.length+1:=by have:=(dS.mp ht).1;rwa[eG]at this
    have hj:j=i:=⋯;subst hj;rw[<-v,qP (bV _),vD]at ht;have et:(t5,c4)=t:=by simpa using ht
    subst et;rw[hp]at L;cases L;exact#v[by rw[bE SN];exact n5.at_,by rw[bE ncp];exact n5.same _ _ g.at_]
  rintro G ⟨J,us,h3,v,M⟩;rw[aQ]at v;walk_at"";refine#v[_,.inl #v[.of h3,λA I g=>?_]];have B:=J.trans g.same;refine#v[x,a.aN,dx,_,rfl,B _ _ N,T.dC,T.eN,by have:=vp "many" (.int (m:Int)) [];simp only[rA]at this;omega,?_];walk_at""
  have u:∀{b:Ad}{o:HO},I b=Aa o->(∀C d f,o≠.ins C d f)->b≠x:=λ{b o} e n z=>by subst z;rw[B _ _ N]at e;cases e;exact n _ _ _ rfl
  have y:upd I x (.ins a.aN dx (eO "kept_pieces" (.ref A) (eO "many" (.int m) []))) x=Aa (.ins a.aN dx (eO "kept_pieces" (.ref A) (eO "many" (.int m) []))):=cN;have u5:∀b o,b≠x->I b=Aa o->upd I x (.ins a.aN dx (eO "kept_pieces" (.ref A) (eO "many" (.int m) []))) b=Aa o:=λb o n e=>by rw[bE n];exact e
  generalize upd I x (.ins a.aN dx (eO "kept_pieces" (.ref A) (eO "many" (.int m) [])))=H5 at y u5 ⊢;have X:I tp=Aa (.lst (c.map V.int)):=B _ _ (O _ _ (fS hT hx (λz=>nomatch z)) hT);have hT5:=u5 _ _ (u X (λ_ _ _ z=>nomatch z)) X;refine#v[_,.inl #v[.of hT5,λtt H6 n6=>?_]];refine#v[x,a.aN,dx,_,rfl,n6.same _ _ y,T.dC,T.fL,by have h7:=vp "many" (.int (m:Int)) [];have h8:=vp "kept_pieces" (.ref A) (eO "many" (.int (m:Int)) []);simp only[rA]at h7;omega,?_]
  have e1:eO "kept_ties" (.ref tt) (eO "kept_pieces" (.ref A) (eO "many" (.int (m:Int)) []))=([("many",V.int m),("kept_pieces",V.ref A),("kept_ties",V.ref tt)]:List (Str×V)):=by have z1:¬("many" : Str) = "kept_pieces":=∅;have z2:¬("many" : Str) = "kept_ties":=∅;have z3:¬("kept_pieces" : Str) = "kept_ties":=∅;simp[eO,z1,z2,z3]
  have hx6:=n6.same _ _ y;have ntx:tt≠x:=(dW y n6.cL).symm;have up:∀b o,b≠x->I b=Aa o->upd H6 x (.ins a.aN dx (eO "kept_ties" (.ref tt) (eO "kept_pieces" (.ref A) (eO "many" (.int (m:Int)) [])))) b=Aa o:=λb o n e=>by rw[bE n];exact n6.same _ _ (u5 _ _ n e)
  refine q _ (λb o n e=>up _ _ n (B _ _ (O _ _ n e))) #v[dx,A,tt,us,by rw[cN,e1],#v[up _ _ (u g.at_ (λ_ _ _ z=>nomatch z)) g.at_,⋯,λj t p ht hp=>?_],by rw[bE ntx];exact n6.at_];obtain⟨g1,g2⟩:=M j t p ht hp;have S:=g.same _ _ g1;have U:=g.same _ _ g2;exact#v[up _ _ (u S (λ_ _ _ z=>nomatch z)) S,up _ _ (u U (λ_ _ _ z=>nomatch z)) U]
def UK(a:bC)(_:aE):Sp:=λvs H Q _=>∃(x:Ad) (m:Nat) (f:List Pc) (c:List Int),vs=[.ref x]/\sO a.aN H x m f c/\f.length<=1000 /\
 ∀l us d,H l=Ae->bL H d->hQ d l us f->(∀t∈us,H t.1=Ae/\H t.2=Ae/\t.2≠l)->Q (.ref l) d
def Yd(K:aE):TS:=(cY (iP (yZ K (kR K (aA 0) "kept_pieces")) 3 [] (zG K 3 (o8 (aU 0) (o8 (aU 1) (o8 (aU 2) xS)))) kt (pM (aC (aA 0) (aC (dF (yk K) (aC (aA 1) aI)) (aC (aA 2) aI))))))
theorem Zh9(T:Txt K mg a):TM P w K mg base 0 "Board.pieces" Iv TW a.fJ (Yd K):=λhr=>(bD (dM (oZ (N:=zI) (k:=3) (sel:=[]) (aY.of (bZ Iv).names ∅) (bI.of TW ∅) rfl (YT (lB (cv 0))) (λ_ _ _ _=>(IM rfl (qc (dN 0 (show kK (zI:List Str) by decide +kernel)) (qc (dN 1 (show kK (zI:List Str) by decide +kernel)) (qc (dN 2 (show kK (zI:List Str) by decide +kernel)) Fz))))) (λ_ _ _ _=>p0) (λ_ _ _ _=>(sI (aD (cv 0) (aD (re J6 (by rfl) T.fX PyProof.Rows.boot_list (aD (cv 1) aM)) (aD (cv 2) aM))))))))
theorem ZeZ(T:Txt K mg a):a0 P w K mg base fD 1 a.fJ a.jL ux (UK a K):=by
 refine T.dB.n.gJ Zii (Zh9 T) (λvs H Q E h=>?_) (λH vs Q E h=>?_)
 ·obtain⟨x,m,O,G,rfl,_⟩:=h;rfl
 ·obtain⟨x,m,O,G,rfl,Z,hz,q⟩:=h;show Yd K _ [Aa (.ref x)] H;unfold Yd;have Y:=kQ;obtain⟨dx,k,tt,ts,hx,A,hT⟩:=Z;have Xn:=A.len;walk_at"";refine#v[x,a.aN,dx,_,_,rfl,hx,T.dC,T.eN,rfl,?_];walk_at"";refine#v[#v[_,.of A.tup],λcp r=>SF (n:=(ts.map λt=>V.ref t.1).length) (item:=λi=>(ts.map λt=>V.ref t.1).getD i .non) (λσ=>∃S U X,σ=[S,U,X]) (λi d=>bL H d/\∃us:List (Ad×Ad),d cp=Aa (.lst (us.map λt=>V.ref t.1))/\us.length=i/\(∀t∈us,H t.1=Ae/\H t.2=Ae/\t.2≠cp)/\∀(j:Nat) t p,us[j]? = Aa t->O[j]? = Aa p->d t.1=Aa (.tup [.int p.1,.ref t.2,.int p.2.2])/\d t.2=Aa (.lst (p.2.1.map V.int))) #v[_,_,_,rfl] #v[kO r,[],cN,rfl,λt ht=>by simp at ht,λj t p ht=>by simp at ht] (ZpU (xs:=ts.map λt=>V.ref t.1) ?_) ?_ ?_ ?_]
  ·rintro i d _ ⟨c,_⟩;exact .of (c _ _ A.tup)
  ·rintro d ⟨c,_⟩;exact#v[_,.of (c _ _ A.tup),bV _]
  ·rintro i σ3 d R hi ⟨S,U,X,rfl⟩ ⟨c,us,h3,f,g,v⟩ hR;have B:i<ts.length:=by rwa[aQ]at hi
   obtain⟨p,hp,L,J⟩:=(A.nl (NL.of c)).get B;rw[Ztx ts B];generalize (ts[i]).1=t1 at *;generalize (ts[i]).2=t2 at *;walk_at"";refine#v[t1,_,rfl,.of L,rfl,_,_,rfl,_,_,rfl,_,_,rfl,rfl,?_];walk_at"";refine#v[_,.inr (.of J),λI H4 y=>?_];refine#v[by show 3<=sizeLine;decide,λN H5 C=>?_];have l:=y.same.trans C.same;have h5:=l _ _ h3;have M:N≠cp:=(dW (y.same _ _ h3) C.cL).symm;have D:I≠cp:=(dW h3 y.cL).symm;refine#v[_,h5,by rw[aQ];omega,hR _ _ #v[_,_,_,rfl] #v[(c.trans l).put r,us++[(N,I)],by rw[cN,fN];rfl,by rw[eG,f];rfl,λt ht=>?_,λj t p' ht u=>?_]]
   ·rcases fG.mp ht with z|z
    ·exact g t z
    ·rw[dQ]at z;subst z;exact#v[(c.trans y.same).nil C.cL,c.nil y.cL,D]
   by_cases hji:j<i
   ·rw[mY ⋯]at ht;obtain⟨g1,g2⟩:=v j t p' ht u;exact#v[by rw[bE (fS g1 h3 (λz=>nomatch z))];exact l _ _ g1,by rw[bE (g t (jP ht)).3];exact l _ _ g2]
   ·have QF:j<us.length+1:=by have:=(dS.mp ht).1;rwa[eG]at this
    have hj:j=i:=⋯;subst hj;rw[<-f,qP (bV _),vD]at ht;have et:(N,I)=t:=by simpa using ht
    subst et;rw[hp]at u;cases u;exact#v[by rw[bE M];exact C.at_,by rw[bE D];exact C.same _ _ y.at_]
  rintro d ⟨c,us,h3,f,g,v⟩;rw[aQ]at f;exact q cp us d r c #v[h3,⋯,v] g
def VI(a:bC)(_:aE):Sp:=λvs H Q _=>∃(x:Ad) (m:Nat) (f:List Pc) (c:List Int),vs=[.ref x]/\sO a.aN H x m f c/\∀l d,iS H l (.lst (c.map V.int)) d->Q (.ref l) d
def S8(K:aE):TS:=(cY (dF (yk K) (aC (kR K (aA 0) "kept_ties") aI)))
theorem Zko(T:Txt K mg a):TM P w K mg base 0 "Board.ties" LI ZhB a.gY (S8 K):=λhr=>(bD (dM (re J6 (by rfl) T.fX PyProof.Rows.boot_list (aD (lB (cv 0)) aM))))
theorem Zgs(T:Txt K mg a):a0 P w K mg base fD 1 a.gY a.lz ux (VI a K):=by
 refine T.dZ.n.gJ Zkv (Zko T) (λvs H Q E h=>?_) (λH vs Q E h=>?_)
 ·obtain⟨x,m,i,c,rfl,_⟩:=h;rfl
 ·obtain⟨x,m,i,c,rfl,f,q⟩:=h;show S8 K _ [Aa (.ref x)] H;unfold S8;obtain⟨dx,k,p,ts,hx,j,g⟩:=f;walk_at"";refine#v[x,a.aN,dx,_,_,rfl,hx,T.dC,T.fL,rfl,?_];walk_at"";exact#v[_,.inr (.of g),λl d n=>q l d n]
theorem nX{a:bC}{K:aE}{H:Hp}{m:Nat}{l i:Ad}{ts:List (Ad×Ad)}{d:List Pc}{c:List Int}{F:Ad->Hp->Prop}{E:XK}(n:hQ H l ts d)(p:H i=Aa (.lst (c.map V.int)))(t:WP m d)(u:WT m d c)(m1:1<=m)(g:m<=10)(hz:d.length<=1000)
  (q:∀x f,bL H f->sO a.aN f x m d c->F x f):
  ∀x dx,H x=Ae->H dx=Ae->dx≠x->VU a K [.ref x,.int m,.ref l,.ref i] (upd (upd H dx (.own x)) x (.ins a.aN dx [])) (λv j=>v=.non/\F x j) E:=by
 intro x dx hx hd r
 have h:bL H (upd (upd H dx (.own x)) x (.ins a.aN dx [])):=λb o e=>by rw[bE (dW e hx),bE (dW e hd)];exact e
 refine#v[x,dx,l,i,m,ts,d,c,rfl,cN,n.same h,h _ _ p,t,u,m1,g,hz,λf st k=>#v[rfl,q x f (λb o e=>?_) k]];exact st b o (dW e hx) (h _ _ e)
theorem ZqY{m:Nat}{P:List MF.Pr}(ok:MF.Ok m P){s n:Nat}{C:List Nat}(L:ML.Cu (cP (kC m P)) s n C)(h1:m<n)(h2:n<1+m+P.length):MF.qk m P n (cA C)=Ai:=by
  have mem:∀{j:Nat},(j:Int)∈cA C ↔ j∈C:=λ{j}=>by
    unfold cA;rw[fE]
    exact⟨λ⟨y,hy,e⟩=>by have : y=j:=⋯;rw[<-this];exact hy,λh=>#v[j,h,rfl]⟩
  rw[MF.RB];refine#v[#v[⋯,⋯,λz=>(L.dn n (mem.mp z)).2 rfl],MF.Ztw ?_,λx hx=>?_,λj hj=>?_]
  · unfold cA;exact OH.mpr (L.tZ.imp λh=>by omega)
  · obtain⟨y,hy,rfl⟩:=fE.mp hx;rw[oK];exact fE.mpr #v[y,(XE ok h2).mpr (L.dn y hy).1,rfl]
  · have f:=MF.O9 (S:=λj=>j=n\/¬ML.nU (cP (kC m P)) (λc=>c∈C) j) (λt ht=>by
      rw[dQ]at ht;rw[ht];exact .inl ⋯) (λi p hp f hst=>by
      have hn:m+1+i∉C:=λz=>by have:MF.eH (cA C) (m+1+i)=Ai:=decide_eq_true (mem.mpr z);rw[this]at hst;cases hst
      have d:∀l∈cP (kC m P) (m+1+i),¬ML.nU (cP (kC m P)) (λc=>c∈C) l:=λl hl=>by
        rcases f with e|e
        · rw[e]at hl;exact L.xw l hl
        · exact λz=>e (.up hn hl z)
      rw[zP hp]at d;exact#v[.inr (d _ (by simp)),.inr (d _ (by simp))]) hj
    rcases lD m j with z|z
    · exact .inl z
    · refine .inr (mem.mpr (Classical.byContradiction λg=>?_));rcases f with e|e
      · omega
      · exact e (.iZ g (UU z))
theorem yY{P:List MF.Pr}(h1:m<n)(h2:n<m+1+P.length):cP (kC m P) n≠[]:=by obtain⟨j,rfl⟩:∃j,n=m+1+j:=#v[n-m-1,⋯];rw[zP (eF (show j<P.length by omega))];simp
theorem ZnB{K:aE}{sel:List Nat}{Q:VK}{a:Ad}{ks:List Int}(f:Int->Int)(he:∀k d x,x (.int (f k)) d->y [Aa (.int k)] d x)(hl:cB K H a (ks.map V.int))(hr:sel.map (λj=>(σ[j]?).join)=[])(hz:ks.length<=sizeLine)
  (A:∀p d us,H p=Ae->d p=Aa (.lst us)->us.length=ks.length->bL H d->(∀(j:Nat) k,ks[j]? = Aa k->∃t,us[j]? = Aa (.ref t)/\d t=Aa (.tup [.int (f k),.bl Ai]))->Q (.ref p) d):
  sg (qd K a) σ 1 sel (aU 0) kt (pM (aC y (aC (tC (.bl Ai)) aI))) Q H:=by
 intro p hp;refine yW (n:=(ks.map V.int).length) (item:=λi=>(ks.map V.int).getD i .non) (λi c=>∃us,c p=Aa (.lst us)/\us.length=i/\bL H c/\∀(j:Nat) k,j<i->ks[j]? = Aa k->∃t,us[j]? = Aa (.ref t)/\c t=Aa (.tup [.int (f k),.bl Ai])) hr #v[[],cN,rfl,kO hp,λj k hj=>absurd hj (yg _)] (IU ?_) ?_ ?_ ?_
 ·rintro i c hi ⟨us,_,_,g,_⟩;exact g.seq hl
 ·rintro c ⟨us,_,_,g,_⟩;exact#v[_,g.seq hl,bV _]
 ·rintro i c R hi ⟨us,h1,h2,g,h4⟩ B;have h:i<ks.length:=by rw[aQ]at hi;exact hi
  have ei:(ks.map V.int).getD i .non=.int ks[i]:=by simp[jY,h]
  unfold kt;dsimp only;rw[if_pos rfl,ei];simp only[Ys,aC,aI,tC];refine he _ _ _ #v[by show 2<=sizeLine;decide,λv C l=>?_];have r:=l.same _ _ h1;have u:v≠p:=(dW h1 l.cL).symm;refine#v[us,r,⋯,B _ #v[us++[.ref v],cN,by rw[eG,h2];rfl,(g.trans l.same).put hp,λj k hj hk=>?_]];by_cases q:j<i
  ·obtain⟨t',g1,g2⟩:=h4 j k q hk;exact#v[t',by rw[mY ⋯];exact g1,by rw[bE (fS g2 h1 (λz=>nomatch z))];exact l.same _ _ g2]
  ·have m:j=i:=⋯;subst m;rw[eF h]at hk;cases hk;refine#v[v,by rw[<-h2];simp,?_];rw[bE u,l.at_]
 ·rintro c ⟨us,h1,h2,g,h4⟩;refine A p c us hp h1 (by rw[h2,aQ]) g λj k hk=>h4 j k ?_ hk;rw[aQ];exact(dS.mp hk).1
theorem ZjC(k:Key):∀(c kvs:List (Key×V)),(bQ (jQ kvs c) k).isSome=((bQ kvs k).isSome ||(bQ c k).isSome)
 |[],kvs=>by show(bQ kvs k).isSome=((bQ kvs k).isSome ||false);rw[Bool.or_false]
 |p::r,kvs=>by
  show(bQ (jQ (eD kvs p.1 p.2) r) k).isSome=_;rw[ZjC k r,rf];by_cases e:p.1=k
  ·rw[rn e];subst e;simp
  ·rw[rx e];have d:¬k=p.1:=λz=>e z.symm;simp[d]
theorem yI(ks:List Int)(c:List (Key×V)):(jQ c (ks.map λk=>((.inl k:Key),V.bl Ai))).length<=c.length+ks.length:=by have:=IP (ks.map λk=>((.inl k:Key),V.bl Ai)) c;rwa[aQ]at this
def vO(c:List Int)(d:List Pc):List Int:=(c.map λt=>t/2)++d.flatMap λp=>p.2.1
structure Laid (m:Nat) (P:List MF.Pr) (s:Nat) (pU:List Int) (qs:List Pc):Prop where
 pc:∀p∈qs,∃(n z:Nat) (C:List Nat),p.1=n/\m<n/\n<m+1+P.length/\p.2.1=cA C/\p.2.2=z/\1<=C.length/\C.length<=s/\MF.qk m P n (cA C)=Ai/\(∀c∈C,1<=c/\c<n)/\C.Pairwise (· < ·)/\uH m P n (cA C) z n
 G0:qs.Pairwise λp q=>q.1<p.1
 Im:∀(i:Nat) p,qs[i]? = Aa p->p.1∈vO pU (qs.take i)
 all:∀n:Nat,(n:Int)∈vO pU qs->m<n->(n:Int)∈qs.map (·.1)
theorem ZtN{m:Nat}{P:List MF.Pr}(ok:MF.Ok m P){n c:Nat}(h:ML.Dn (cP (kC m P)) n c)(hn:1<=n):1<=c:=by
 induction h with
 |here=>exact hn
 |low h hx ih=>obtain⟨j,p,_,hp,e⟩:=WB hx;obtain⟨o1,o2,_,_⟩:=ok _ _ hp;rcases e with rfl|rfl <;> omega
structure gM (m:Nat) (P:List MF.Pr) (s:Nat) (pU:List Int) (i:Nat) (nks:List Int) (qs:List Pc):Prop where
 pc:∀p∈qs,∃(n:Nat) (C:List Nat),p.1=n/\m+1+P.length<=n+i/\m<n/\n<m+1+P.length/\p.2.1=cA C/\ML.Cu (cP (kC m P)) s n C/\0<=p.2.2/\p.2.2<((2^2^p.2.1.length:Nat):Int)
 tel:∀p∈qs,∃(n z:Nat),p.1=n/\p.2.2=z/\uH m P n p.2.1 z n
 G0:qs.Pairwise λp q=>q.1<p.1
 len:qs.length<=i
 eq:nks=vO pU qs
 Im:∀(i:Nat) p,qs[i]? = Aa p->p.1∈vO pU (qs.take i)
 all:∀n:Nat,(n:Int)∈nks->m<n->n<m+1+P.length->m+1+P.length<=n+i->(n:Int)∈qs.map (·.1)
theorem gM.Tr{P:List MF.Pr}(h:gM m P s c i d f)(t:Int)(ht:t∈c):t/2∈d:=by rw[h.eq];exact qe _ (fE.mpr #v[t,ht,rfl])
theorem gM.sub{P:List MF.Pr}(h:gM m P s f i d g)(p:Pc)(hp:p∈g)(c:Int)(hc:c∈p.2.1):c∈d:=by rw[h.eq];exact qK _ (Rb.mpr #v[p,hp,hc])
theorem gM.skip{P:List MF.Pr}(h:gM m P s c i f g)(hn:((m+1+P.length-1-i:Nat):Int)∉f):gM m P s c (i+1) f g:=
 ⟨λp hp=>by obtain⟨n,C,h1,h2,j,k,l,q,r,t⟩:=h.pc p hp;exact#v[n,C,h1,⋯,j,k,l,q,r,t],h.tel,h.G0,by have:=h.len;omega,h.eq,h.Im,λn d h1 h2 h3=>by
  by_cases e:n=m+1+P.length-1-i
  ·rw[e]at d;exact absurd d hn
  ·exact h.all n d h1 h2 ⋯⟩
theorem gM.put{P:List MF.Pr}(h:gM m P s f i k r)(ok:MF.Ok m P)(hi:i<P.length)(L:ML.Cu (cP (kC m P)) s (m+1+P.length-1-i) C)(l:uH m P (m+1+P.length-1-i) (cA C) z (m+1+P.length-1-i))(hin:((m+1+P.length-1-i:Nat):Int)∈k):gM m P s f (i+1) (k++cA C) (r++[(((m+1+P.length-1-i:Nat):Int),cA C,(z:Int))]):=by
 have d:(cA C).length=C.length:=aQ ..;have hz:z<2^2^C.length:=by have:=l.1;rwa[d]at this
 refine#v[λp hp=>?_,λp hp=>?_,XZ.mpr #v[h.G0,by simp,λp hp q hq=>?_],by rw[eG,rg];have:=h.len;omega,?_,λj p hj=>?_,λn hn h1 h2 h3=>?_]
 ·rcases fG.mp hp with g|g
  ·obtain⟨n,C,h1,h2,t,u,v,x,y,A⟩:=h.pc p g;exact#v[n,C,h1,⋯,t,u,v,x,y,A]
  ·rw[dQ]at g;subst g;exact#v[_,C,rfl,⋯,⋯,⋯,rfl,L,by show(0:Int)<=(z:Int);omega,by show(z:Int)<((2^2^(cA C).length:Nat):Int);rw[d];exact Int.ofNat_lt.mpr hz]
 ·rcases fG.mp hp with g|g
  ·exact h.tel p g
  ·rw[dQ]at g;subst g;exact#v[_,z,rfl,rfl,l]
 ·rw[dQ]at hq;subst hq;obtain⟨n,_,h1,h2,_⟩:=h.pc p hp;show((m+1+P.length-1-i:Nat):Int)<p.1;omega
 ·rw[h.eq];unfold vO;rw[List.flatMap_append,oJ];simp
 ·rcases zF hj with g|⟨g,rfl⟩
  ·rw[Zx1 (yj (dS.mp g).1)];exact h.Im j p g
  ·rw[Zx1 ⋯,yD ⋯,<-h.eq];exact hin
 ·rw[fN,fG];by_cases e:n=m+1+P.length-1-i
  ·right;rw[e];exact dQ.mpr rfl
  ·left;refine h.all n ?_ h1 h2 ⋯;rcases fG.mp hn with g|g
   ·exact g
   ·obtain⟨c,hc,ec⟩:=fE.mp g;obtain⟨d1,d2⟩:=L.dn c hc;have:=d1.le (Ha ok).lt;omega
theorem gM.done{P:List MF.Pr}(h:gM m P s d P.length H f)(ok:MF.Ok m P)(hs:s<=6)(hn:m+1+P.length<=1000)(Z:1<=d.length)(I:d.length<=100)(E:∀t∈d,0<=t/\t<2*(m+1+P.length)):WP m f.reverse/\WT m f.reverse d/\Laid m P s d f:=by
 have A:f.reverse.Pairwise λp q=>p.1<q.1:=List.pairwise_reverse.mpr h.G0
 have G:∀x:Int,1<=x->x<m+1+P.length->x∈H->x<=m\/x∈f.map (·.1):=λx x1 x2 hx=>by
  obtain⟨n,rfl⟩:=vP (by omega:0<=x);rcases lD m n with z|z
  ·exact .inr (h.all n hx z ⋯ ⋯)
  ·exact .inl ⋯
 refine#v[λi p hp=>?_,#v[Z,I,λt ht=>?_],λp hp=>?_,h.G0,h.Im,λn l h1=>?_]
 ·have D:p∈f:=IJ.mp (jP hp);obtain⟨n,C,e1,_,y,R,e2,L,V,X⟩:=h.pc p D;have Y:=(dS.mp hp).1;have r:=L.pos (Ha ok).lt (yY y ⋯);have B:p.2.1.length=C.length:=by rw[e2];exact aQ ..
  have hb:∀q∈f.reverse.take i,q.1<p.1:=λq hq=>by
   obtain⟨j,hj⟩:=wE.mp hq;rw[Nf]at hj;split at hj
   ·rename_i u;obtain⟨J,M⟩:=dS.mp hj;obtain⟨b1,b2⟩:=dS.mp hp;have:=uZ.mp A j i J b1 u;rw[M,b2]at this;exact this
   ·cases hj
  refine#v[?_,⋯,by rw[B];exact r,by rw[B];have:=L.len;omega,?_,λx hx=>?_,V,X]
  ·unfold tq;rcases VT (f.reverse.take i) with z|⟨v,q,z⟩
   ·rw[z];show(m:Int)<p.1;omega
   ·rw[z,Sa,fN];show((v.map (·.1))++[q.1]).getLastD m<p.1;rw[List.getLastD_concat];exact hb q (by rw[z,Sa];simp)
  ·rw[e2];unfold cA;exact OH.mpr (L.tZ.imp λh=>by omega)
  ·have Q:=h.sub p D x hx;rw[e2]at hx;obtain⟨c,hc,rfl⟩:=fE.mp hx;obtain⟨d1,d2⟩:=L.dn c hc;have d3:=d1.le (Ha ok).lt;have d4:=ZtN ok d1 ⋯;unfold uI;rw[fG];rcases G c ⋯ ⋯ Q with z|z
   ·exact .inl (fE.mpr #v[c-1,wZ.mpr ⋯,⋯])
   ·right;obtain⟨q,hq,e⟩:=fE.mp z;have O:q∈f.reverse:=IJ.mpr hq;obtain⟨j,hj⟩:=wE.mp O;refine fE.mpr #v[q,?_,e]
    have u:j<i:=by
     refine FY λN=>?_;obtain⟨J,M⟩:=dS.mp hj;obtain⟨b1,b2⟩:=dS.mp hp;rcases Sh N with g|g
     ·have:=uZ.mp A i j b1 J g;rw[M,b2]at this;omega
     ·subst g;rw[hp]at hj;cases hj;omega
    exact jP (by rw[Q1 u];exact hj)
 ·obtain⟨T,t2⟩:=E t ht;refine#v[T,?_];by_cases e:t/2=0
  ·exact .inl e
  ·right;unfold uI;rw[fG];rcases G (t/2) ⋯ ⋯ (h.Tr t ht) with z|z
   ·exact .inl (fE.mpr #v[(t/2-1).toNat,wZ.mpr ⋯,⋯])
   ·right;rw[List.map_reverse,IJ];exact z
 ·obtain⟨n,C,e1,_,y,R,e2,L,V,X⟩:=h.pc p hp;obtain⟨S,z,e3,e4,U⟩:=h.tel p hp;have en:S=n:=⋯;subst en;rw[e2]at U;have r:=L.pos (Ha ok).lt (yY y ⋯);refine#v[S,z,C,e1,y,R,e2,e4,r,L.len,ZqY ok L y ⋯,λc hc=>?_,L.tZ,U];obtain⟨d1,d2⟩:=L.dn c hc;have d3:=d1.le (Ha ok).lt;exact#v[ZtN ok d1 ⋯,⋯]
 ·rw[<-h.eq]at l
  have hb:n<m+1+P.length:=by
   rw[h.eq]at l;rcases fG.mp l with g|g
   ·obtain⟨t,ht,e⟩:=fE.mp g;obtain⟨T,t2⟩:=E t ht;omega
   ·obtain⟨p,hp,hc⟩:=Rb.mp g;obtain⟨k,C,e1,_,y,R,e2,L,_⟩:=h.pc p hp;rw[e2]at hc;obtain⟨c,hc,ec⟩:=fE.mp hc;have d3:=(L.dn c hc).1.le (Ha ok).lt;omega
  exact h.all n l h1 hb ⋯
theorem Zo4(h:qT v=Ai):∃s:Nat,v=.int s/\2<=s/\s<=6:=by
 unfold qT wH at h;cases v with
 |int i=>have:=of_decide_eq_true h;obtain⟨n,rfl⟩:=vP (by omega:0<=i);exact#v[n,rfl,⋯,⋯]
 |_=>cases h
def Vr(a:bC)(_:aE):Sp:=λvs H Q E=>∃(f dx pl i h:Ad) (v:V) (m:Nat) (es:List En) (c:List Int),vs=[.ref f,.ref h,v]/\bB a.aB H f m es dx pl i/\MF.Ok m (aP es)/\1<=m/\m<=10/\m+1+es.length<=1000/\H h=Aa (.lst (c.map V.int))/\1<=c.length/\c.length<=100/\(∀t∈c,0<=t/\t<2*(m+1+es.length))/\wC H v /\
 (∀s:Nat,v=.int s->2<=s->s<=6->∀x g d,bL H d->sO a.aN d x m g.reverse c->Laid m (aP es) s c g->g.length<=1000->Q (.ref x) d)/\(qT v=Ah->∀e d,bL H d->d e=Ae->E (.ref e) (Aa a.aW) d)
abbrev Zqn(a:bC)(K:aE)(E:XK):TS:=(aV (li (uf K "list" uR (aA 5) (aC (pM (aC (aA 6) (aC (aA 7) (aC (dH (ZnW a K) [] E0 (aC (aA 0) (aC (aA 6) (aC (aA 7) aI)))) aI)))) aI)))
  (li (VH (aA 4) (dF (Fa K) (aC (iP (jV K (aA 7)) 1 [] (aU 0) kt (pM (aC (aA 0) (aC (tC (.bl Ai)) aI)))) aI)))))
abbrev Zqm(a:bC)(K:aE)(E:XK):TS:=(eK (cO (wP (aA 6) (aA 4))) (aV (cK (fQ a.aG "cut" (Zf9 a K) [] E0 (aA 3) (aC (aA 6) aI)) (aU 7))
  (bN (Zqn a K E))) fI)
abbrev Zql(a:bC)(K:aE)(E:XK):TS:=(aV (li (wa K "list" Xp (aA 5)))
  (cY (Ll a.aN (VU a K) [] E0 (aC (kR K (aA 0) "many") (aC (aA 5) (aC (aA 1) aI))))))
abbrev Zqk(a:bC)(K:aE)(E:XK):TS:=(aV (gU (Rn (aC (aK (cZ λi j=>.int (i-j)) (fQ a.aB "total" (qR a K) [] E0 (aA 0) aI) (tC (.int 1))) (aC (kR K (aA 0) "many") (aC (zf zR (tC (.int 1))) aI)))) (aU 6) (bN (Zqm a K E)))
  (bN (Zql a K E)))
abbrev Zqj(a:bC)(K:aE)(E:XK):TS:=(aV (cK (dF (Fa K) (aC (iP (jV K (aA 1)) 1 [] (aU 0) kt (pM (aC (aK (dA kF λi j=>.int (i/j)) (aA 0) (tC (.int 2))) (aC (tC (.bl Ai)) aI)))) aI)) (aU 4))
  (aV (cK (kT aI) (aU 5))
  (bN (Zqk a K E))))
def Xk(a:bC)(K:aE)(E:XK):TS:=(aV (cK (Ll a.aG (Ta a K) [] E (aC (aA 0) (aC (aA 2) aI))) (aU 3))
  (bN (Zqj a K E)))
theorem Zuo(T:Txt K mg a):TX P w K mg base 7 "laid" CF SC a.rP (Xk a K):=
 λhr=>(aX (dL 3 I0.nd (Xm T.l8 (Zgr T) (hm hr) rfl T.tz T.fY.b .nil (Ru vh) (aD (cv 0) (aD (cv 2) aM))))
   (bX (aX (dL 4 I0.nd (re (O0 rfl) (by rfl) T.jS PyProof.Rows.boot_dict (aD (oZ (N:=Iz) (k:=1) (sel:=[]) (aY.of (bZ CF).names ∅) (bI.of SC ∅) rfl (lH (cv 1)) (λ_ _ _ _=>(dN 0 (show kK (Iz:List Str) by decide +kernel))) (λ_ _ _ _=>p0) (λ_ _ _ _=>(sI (aD (bK kP (cv 0) aR) (aD kH aM))))) aM)))
   (aX (dL 5 I0.nd (lJ aM))
   (bX (aX (PS.vl (my PassesOwn.never rfl (ZlT rfl T.bO (aD (bK sJ (oR (cv 0) T.aJ T.aF.e (rr T) (hm hr) T.aF.b .nil cG) aR) (aD (lB (cv 0)) (aD (Io Il aR) aM)))) (dN 6 I0.nd) (bX (bD (fC (sW (G2 (fP hr) (cv 6) (cv 4))) (aX (dL 7 I0.nd (oI (cv 3) T.bH T.hF.e (ZkH T) (hm hr) T.hF.b .nil qj (aD (cv 6) aM)))
   (bX (aX (l0 (u0 sZ vS vz (sS uG) (cv 5) (aD (sI (aD (cv 6) (aD (cv 7) (aD (dP T.sU (ZsD T) (hm hr) qj (aD (cv 0) (aD (cv 6) (aD (cv 7) aM)))) aM)))) aM)))
   (bD (l0 (ZuU (cv 4) (re (O0 rfl) (by rfl) T.jS PyProof.Rows.boot_dict (aD (oZ (N:=zH) (k:=1) (sel:=[]) (aY.of (bZ CF).names ∅) (bI.of SC ∅) rfl (lH (cv 7)) (λ_ _ _ _=>(dN 0 (show kK (zH:List Str) by decide +kernel))) (λ_ _ _ _=>p0) (λ_ _ _ _=>(sI (aD (cv 0) (aD kH aM))))) aM)) #v[rfl,rfl,rfl,rfl])))))) fO)))))
   (bX (aX (l0 (UO sZ PySem.F.slot_list_reverse PySem.F.type_list_reverse (sS Zo5) (cv 5)))
   (bD (dM (Xm T.nX (Zg7 T) (hm hr) rfl T.qv T.gO.b .nil cG (aD (lB (cv 0)) (aD (cv 5) (aD (cv 1) aM))))))))))))))
theorem ZqC(T:Txt K mg a):a0 P w K mg base (lf P w) 8 a.rP a.vZ Ur (Vr a K):=by
 refine T.nL.n.nF I0 (Zuo T) (λvs H Q E h=>?_) (λH vs Q E h=>?_)
 ·obtain⟨f,dx,pl,kl,tp,v,m,es,d,rfl,_⟩:=h;rfl
 ·obtain⟨f,dx,pl,kl,tp,v,m,es,d,rfl,hf,ok,m1,m10,hn,hT,t1,t100,RM,hv,q,q0⟩:=h;show Xk a K E _ [Aa (.ref f),Aa (.ref tp),Aa v,Ae,Ae,Ae,Ae,Ae] H;unfold Xk;have big:=kQ;walk_at"";cases hsz:qT v with
  |false=>intro x xd hx hd wj;have We:bL H (upd (upd H xd (.own x)) x (.ins a.aG xd [])):=(kO hd).trans (kO (by rw[bE wj.symm];exact hx));refine#v[x,xd,f,dx,pl,kl,v,m,es,rfl,cN,hf.same We,ok,m10,hn,hv.same We,λs e s2 s6=>?_,λ_ e he=>q0 hsz e _ We he];subst e;unfold qT wH at hsz;have:=of_decide_eq_false hsz;exfalso;omega
  |true=>
  obtain⟨s,rfl,s2,s6⟩:=Zo4 hsz;replace q:=q s rfl s2 s6;refine l8 hf ok ⋯ ⋯ s2 s6 λx xd ll fc fw H1 t8 rp cL uk s1 hx hll hfc hfw hL Q5=>?_;walk_at"";have Kt:=s1 _ _ hT;have Wk:=hf.same s1;have wn:(aP es).length=es.length:=aQ ..;refine#v[#v[_,.of Kt],ZnB (λt=>t/2) (λk H' Q' q'=>?_) (.of Kt) rfl ⋯ λmq H2 us hmq h2 hul R hu=>?_]
  ·walk_at"";exact q'
  walk_at"";refine#v[us,d.map λt=>((.inl (t/2):Key),V.bl Ai),h2,by rw[hul,aQ],by rw[aQ];omega,λj pr hj=>?_,λO H3 n3=>?_]
  ·obtain⟨t,ht,rfl⟩:=uc hj;exact hu j t ht
  walk_at"";intro u H4 n4;have Sm:=((s1.trans R).trans n3.same).trans n4.same;have s14:=(R.trans n3.same).trans n4.same;have UI:=hf.same Sm;walk_at"go";refine#v[f,dx,_,rfl,UI.ins,rfl,f,dx,pl,kl,m,es,rfl,UI,?_];walk_at"";refine#v[f,a.aB,dx,_,_,rfl,UI.ins,T.aJ,T.bM,rfl,?_];refine#v[_,_,rfl,#v[⋯,⋯,⋯,⋯],?_];rw[show(1+(m:Int)+(es.length:Int)-1-(m:Int)).toNat=es.length by omega];have Tc:=hL.cl;have Zy9:H3 O=Aa (.dK (jQ [] (d.map λt=>((.inl (t/2):Key),V.bl Ai)))):=n3.at_
  have mM:H1 O=Ae:=R.nil n3.cL;have TD:H1 u=Ae:=(R.trans n3.same).nil n4.cL;have nnl:O≠u:=dW n3.at_ n4.cL
  have e0:jQ [] (d.map λt=>((.inl (t/2):Key),V.bl Ai))=jQ [] ((d.map λt=>t/2).map λk=>((.inl k:Key),V.bl Ai)):=by rw[iR];rfl
  refine Zra (λi σ X=>bL H1 X/\∃(kvs:List (Key×V)) (B:List Int) (ts:List (Ad×Ad)) (L:List Pc) (v6 v7:Option V),X O=Aa (.dK kvs)/\(∀x:Int,(bQ kvs (.inl x)).isSome=decide (x∈B))/\kvs.length<=100+6*i/\hQ X u ts L/\(∀t∈ts,t.2≠u)/\gM m (aP es) s d i B L/\σ=[Aa (.ref f),Aa (.ref tp),Aa (.int s),Aa (.ref x),Aa (.ref O),Aa (.ref u),v6,v7]) #v[s14,_,d.map λt=>t/2,[],[],_,_,n4.same _ _ n3.at_,λx=>?_,?_,#v[n4.at_,rfl,λi t p ht=>by simp at ht],λt ht=>by simp at ht,#v[λp hp=>by simp at hp,λp hp=>by simp at hp,.nil,bV _,by unfold vO;simp,λi p hp=>by simp at hp,λn _ _ h2 h3=>by omega],rfl] ?_ ?_
  ·rw[e0];unfold jQ;rw[HU];simp[bQ]
  ·rw[e0];have:=yI (d.map λt=>t/2) [];rw[aQ,rA]at this;omega
  ·rintro i σ X hi ⟨s5,kvs,B,ts,L,v6,v7,N,M,IS,D,J,I,rfl⟩;have X0:=hL.same s5;have W0:=Wk.same s5;rw[show 1+(m:Int)+(es.length:Int)-1-(i:Int)=((m+1+(aP es).length-1-i:Nat):Int) by omega];walk_at"";refine#v[O,_,rfl,gS.k (k:=.inl ((m+1+(aP es).length-1-i:Nat):Int)) N,?_];rw[M];by_cases hin:((m+1+(aP es).length-1-i:Nat):Int)∈B
   case neg=>rw[decide_eq_false hin];walk_at"go";exact#v[s5,kvs,B,ts,L,_,_,N,M,⋯,D,J,I.skip hin,rfl]
   rw[decide_eq_true hin];obtain⟨C,hC⟩:∃C,uk[es.length-1-i]? = Aa C:=#v[_,eF ⋯];have Lb:=hL.PX _ C hC;rw[show m+1+(es.length-1-i)=m+1+(aP es).length-1-i by omega]at Lb;have Gd:=ZqY ok Lb ⋯ ⋯;have hCl:=Lb.len;walk_at"";refine#v[x,xd,_,rfl,X0.at_.ins,rfl,x,xd,ll,fc,fw,m,_,t8,rp,cL,uk,rfl,X0.at_,Tc,λj c C hc hC=>(X0.cut j c C hc hC).1,λj C' ej hC' cq H6 n6=>?_,λz=>absurd #v[⋯,⋯] z];have:j=es.length-1-i:=⋯;subst this;rw[hC]at hC';cases hC';have wm:=D.same n6.same;walk_at"";refine#v[.inl #v[by trivial,_,.of wm.lst],?_];have hCn:(cA C).length=C.length:=aQ ..;refine#v[f,dx,pl,kl,cq,m,_,cA C,es,rfl,W0.same n6.same,by rw[IZ];exact n6.sq,ok,m10,⋯,⋯,λ_ z H7 hz s7=>?_,λz=>by rw[Gd]at z;cases z];have hzl:z<2^2^C.length:=by have:=hz.1;rwa[hCn]at this
   refine#v[by show 3<=sizeLine;decide,λZ H8 n8=>?_];have U:=s7.trans n8.same;have Vp:=wm.same U;have hpl:=D.len;have hIl:=I.len;refine#v[u,_,_,rfl,rfl,Vp.lst,by rw[aQ];omega,?_];have V5:cq≠u:=(dW D.lst n6.cL).symm;have ntl:Z≠u:=(dW (s7 _ _ wm.lst) n8.cL).symm;have Y:H8 cq=Aa (.lst ((cA C).map V.int)):=by rw[IZ];exact U _ _ n6.at_
   have UX:=U _ _ (n6.same _ _ N)
   have hP9:hQ (upd H8 u (.lst ((ts.map λt=>V.ref t.1)++[.ref Z]))) u (ts++[(Z,cq)]) (L++[(((m+1+(aP es).length-1-i:Nat):Int),cA C,(z:Int))]):=by
    refine#v[by rw[cN,fN];rfl,by rw[eG,eG,D.len];rfl,λj t p ht hp=>?_];rcases zF ht with g|⟨g,rfl⟩
    ·have h1:=(dS.mp g).1;rcases zF hp with g'|⟨g',_⟩
     ·obtain⟨a1,a2⟩:=Vp.at_ j t p g g'
      exact#v[by rw[bE (fS a1 Vp.lst (λz=>nomatch z))];exact a1,by rw[bE (J t (jP g))];exact a2]
     ·omega
    ·rcases zF hp with g'|⟨_,rfl⟩
     ·have h1:=(dS.mp g').1;omega
     ·exact#v[by rw[bE ntl];exact n8.at_,by rw[bE V5];exact Y]
   have s19:bL H1 (upd H8 u (.lst ((ts.map λt=>V.ref t.1)++[.ref Z]))):=((s5.trans n6.same).trans U).put TD;have r:upd H8 u (.lst ((ts.map λt=>V.ref t.1)++[.ref Z])) O=Aa (.dK kvs):=by rw[bE nnl];exact UX
   have G:upd H8 u (.lst ((ts.map λt=>V.ref t.1)++[.ref Z])) cq=Aa (.lst ((cA C).map V.int)):=by rw[bE V5];exact Y
   generalize upd H8 u (.lst ((ts.map λt=>V.ref t.1)++[.ref Z]))=H9 at hP9 s19 r G ⊢;refine#v[O,rfl,.inl #v[_,.of r],#v[_,.of G],Zg (.of G) rfl ⋯ λmq H10 us hmq h10 hus s10 hu=>?_];walk_at"";refine#v[us,(cA C).map λk=>((.inl k:Key),V.bl Ai),h10,by rw[hus,aQ],by rw[aQ];omega,λj pr hj=>?_,λd2 H11 n11=>?_]
   ·obtain⟨k,hk,rfl⟩:=uc hj;exact hu j k hk
   have A:=s10.trans n11.same;have ndd:O≠d2:=dW (s10 _ _ r) n11.cL;have Zd:=yI (cA C) [];rw[rA]at Zd;refine#v[d2,kvs,_,rfl,ndd,A _ _ r,n11.at_,⋯,(s19.trans A).put mM,_,B++cA C,ts++[(Z,cq)],L++[_],_,_,cN,λx=>?_,?_,?_,λt ht=>?_,I.put ok ⋯ Lb hz hin,rfl]
   ·rw[ZjC,M];unfold jQ;rw[HU];simp[bQ,fG,Bool.decide_or]
   ·have:=IP (jQ [] ((cA C).map λk=>((.inl k:Key),V.bl Ai))) kvs;omega
   ·have l:=hP9.same A;exact#v[by rw[bE nnl.symm];exact l.lst,l.len,λj t p ht hp=>#v[by rw[bE (fS (l.at_ j t p ht hp).1 (A _ _ r) (λz=>nomatch z))];exact(l.at_ j t p ht hp).1,by rw[bE (fS (l.at_ j t p ht hp).2 (A _ _ r) (λz=>nomatch z))];exact(l.at_ j t p ht hp).2]]
   ·rcases fG.mp ht with g|g
    ·exact J t g
    ·rw[dQ]at g;rw[g];exact V5
  ·rintro σ X ⟨s5,kvs,B,ts,L,v6,v7,N,M,IS,D,J,I,rfl⟩;rw[<-wn]at I;have W0:=Wk.same s5;obtain⟨hWP,hWT,hLd⟩:=I.done ok s6 ⋯ t1 t100 (by rw[wn];exact RM);walk_at"";refine#v[.inl #v[by trivial,_,.of D.lst],u,_,rfl,trivial,D.lst,?_];have nfl:f≠u:=fS W0.ins D.lst (λz=>nomatch z);have S:bL H1 (upd X u (.lst (ts.map λt=>V.ref t.1).reverse)):=s5.put TD
   have hPr:hQ (upd X u (.lst (ts.map λt=>V.ref t.1).reverse)) u ts.reverse L.reverse:=by
    refine#v[by rw[cN,List.map_reverse],by rw[zN,zN,D.len],λj t p ht hp=>?_];have hpl:=D.len;have QF:j<ts.length:=by have:=(dS.mp ht).1;rwa[zN]at this
    rw[Vl QF]at ht;rw[Vl ⋯]at hp;rw[<-hpl]at hp;obtain⟨a1,a2⟩:=D.at_ _ t p ht hp
    exact#v[by rw[bE (fS a1 D.lst (λz=>nomatch z))];exact a1,by rw[bE (J t (jP ht))];exact a2]
   generalize upd X u (.lst (ts.map λt=>V.ref t.1).reverse)=H6 at S hPr ⊢;have hf6:=Wk.same S;refine#v[f,a.aB,dx,_,_,rfl,hf6.ins,T.aJ,T.bM,rfl,?_];have Vt:=I.len;have hlq:L.reverse.length=L.length:=zN;intro xb db U5 hdb wj;exact nX (K:=K) (F:=λx H2=>Q (.ref x) H2) hPr (S _ _ Kt) hWP hWT m1 m10 ⋯ (λy H7 s7 hB=>q y L H7 ((s1.trans S).trans s7) hB hLd ⋯) xb db U5 hdb wj
def EY(K:aE):Sp:=λvs H Q _=>∃(p:Ad) (ns:List Int) (k:Nat),vs=[.ref p,.int k]/\cB K H p (ns.map V.int)/\∀c,0<=c->Q (.int c) H
abbrev ZhR(K:aE):TS:=(cY (aK (dA (λ_ j=>0<j) λi j=>.int (i%j)) (aK (eJ K) (aA 0) (aA 1)) (aK (dA tY λi j=>.int (i^j.toNat)) (tC (.int 10)) (tC (.int 40)))))
def Wx(K:aE):TS:=(aV (eK (cO (aK (cZ λi j=>.bl (decide (i<j))) (aA 1) (dF (k9 K) (aC (aA 0) aI)))) (bN (ZhR K)) fI)
  (cY (tC (.int 0))))
theorem Zi2(T:Txt K mg a):TM P w K mg base 0 "_law_cell_at" O2 ZgH a.gD (Wx K):=
 λhr=>(aX (fC (eE wb (cv 1) (eV lS (by rfl) T.bR PySem.boot_len (aD (cv 0) aM))) (bX (bD (dM (bK oz (eQ eP (cv 0) (cv 1)) (bK Zi aR aR))))) fO)
   (bD (dM aR)))
theorem HL(T:Txt K mg a):a0 P w K mg base fD 1 a.gD a.km QU (EY K):=by
 refine T.cI.n.gJ Zi5 (Zi2 T) (λvs H Q E h=>?_) (λH vs Q E h=>?_)
 ·obtain⟨p,ns,k,rfl,_⟩:=h;rfl
 ·obtain⟨p,ns,k,rfl,c,q⟩:=h;show Wx K _ [Aa (.ref p),Aa (.int k)] H;unfold Wx;walk_at"go";refine .inl #v[_,.inl c,?_];rw[aQ];have hp:∀n:Nat,(0:Int)<10^n:=λn=>Int.pow_pos (by decide);by_cases h:(k:Int)<ns.length
  ·rw[if_pos h];walk_at"go";refine ixI c ⋯ h ?_;walk_at"go";exact#v[#v[by decide,by decide,by decide],hp _,q _ (JI _ (Int.ne_of_gt (hp _)))]
  ·rw[if_neg h];exact q 0 (by decide)
def Sc(_:aE):Sp:=λvs H Q _=>∃i:Int,vs=[.int i]/\Q (.bl Ai) H
def YU(K:aE):TS:=(cY (uD (dF (wB K) (aC (aA 0) (aC (tC (.ty "int")) aI))) (EV (dF (wB K) (aC (aA 0) (aC (tC (.ty "bool")) aI))))))
theorem Zln(T:Txt K mg a):TM P w K mg base 0 "_law_whole" J5 ZiU a.iT (YU K):=λhr=>(bD (dM (yy (eV zU (by rfl) T.bJ PyProof.Rows.boot_isinstance (aD (cv 0) (aD (zJ (v:=.ty "int") rfl T.pW PyProof.Rows.boot_int rfl) aM))) (yu (YX (eV zU (by rfl) T.bJ PyProof.Rows.boot_isinstance (aD (cv 0) (aD (zJ (v:=.ty "bool") rfl T.sR PyProof.Rows.boot_bool rfl) aM))))))))
theorem XO(T:Txt K mg a):a0 P w K mg base fD 1 a.iT a.me Sx (Sc K):=by
 refine T.fU.n.gJ ZlB (Zln T) (λvs H Q E h=>?_) (λH vs Q E h=>?_)
 ·obtain⟨i,rfl,_⟩:=h;rfl
 ·obtain⟨i,rfl,q⟩:=h;show YU K _ [Aa (.int i)] H;unfold YU;walk_at"go";refine#v[_,Ai,.int i,rfl,?_];walk_at"go";refine#v[_,Ah,.int i,rfl,?_];walk_at"go";exact q
def ZjE(_:aE):Sp:=λvs H Q _=>∃(c:Int) (t:Nat),vs=[.int c,.int t]/\0<=c/\1<=t/\t<=2000 /\
 ∀p x y d,bL H d->H p=Ae->d p=Aa (.lst [.int x,.int y])->0<=x->x<2*t->0<=y->y<2*t->Q (.ref p) d
abbrev ZlQ(K:aE):TS:=(aV (li (uf K "list" uR (aA 2) (aC (aK (eJ K) (kT (aC (aK (dA (λ_ j=>0<j) λi j=>.int (i%j)) (aK (dA kF λi j=>.int (i/j)) (aA 0) (tC (.int 3))) (aA 4)) (aC (aK (cZ λi j=>.int (i-j)) (aK (cZ λi j=>.int (i-j)) (aK qh (tC (.int 2)) (aA 1)) (tC (.int 1))) (aK (dA (λ_ j=>0<j) λi j=>.int (i%j)) (aK (dA kF λi j=>.int (i/j)) (aA 0) (tC (.int 3))) (aA 4))) aI))) (dF cInt (aC (aK (cZ λi j=>.bl (decide (j<i))) (aK (dA (λ_ j=>0<j) λi j=>.int (i%j)) (aA 0) (tC (.int 3))) (tC (.int 0))) aI))) aI)))
  (cK (aK (dA kF λi j=>.int (i/j)) (aK (dA kF λi j=>.int (i/j)) (aA 0) (tC (.int 3))) (aA 4)) (aU 0)))
abbrev ZlP(K:aE):TS:=(aV (cK (aK (eJ K) (kT (aC (aK qh (tC (.int 2)) (aA 1)) (aC (dF tK (aC (aK qh (tC (.int 2)) (aA 1)) (aC (tC (.int 16)) aI))) aI))) (dF cInt (aC (aK (cZ λi j=>.bl (decide (j<i))) (aK (dA (λ_ j=>0<j) λi j=>.int (i%j)) (aA 0) (tC (.int 3))) (tC (.int 0))) aI))) (aU 4))
  (bN (ZlQ K)))
def WN(K:aE):TS:=(aV (cK (kT aI) (aU 2))
  (aV (gU (qm (aC (tC (.int 2)) aI)) (aU 3) (bN (ZlP K)))
  (cY (aA 2))))
theorem ZoF(T:Txt K mg a):TM P w K mg base 0 "_law_two" Le ZmA a.lM (WN K):=
 λhr=>(aX (dL 2 Kb.nd (lJ aM))
   (aX (my PassesOwn.never rfl (uj rfl T.bO (aD aR aM)) (dN 3 Kb.nd) (bX (aX (dL 4 Kb.nd (eQ eP (lJ (aD (bK rJ aR (cv 1)) (aD (eV (QD rfl) (by rfl) T.pQ PyProof.Rows.boot_min (aD (bK rJ aR (cv 1)) (aD aR aM))) aM))) (re yl (by rfl) T.pW PyProof.Rows.boot_int (aD (zm wM (bK oz (cv 0) aR) aR (xI _)) aM))))
   (bX (aX (l0 (u0 sZ vS vz (sS uG) (cv 2) (aD (eQ eP (lJ (aD (bK oz (bK kP (cv 0) aR) (cv 4)) (aD (bK sJ (bK sJ (bK rJ aR (cv 1)) aR) (bK oz (bK kP (cv 0) aR) (cv 4))) aM))) (re yl (by rfl) T.pW PyProof.Rows.boot_int (aD (zm wM (bK oz (cv 0) aR) aR (xI _)) aM))) aM)))
   (bD (dL 0 Kb.nd (bK kP (bK kP (cv 0) aR) (cv 4)))))))))
   (bD (dM (cv 2)))))
theorem Zo3(T:Txt K mg a):a0 P w K mg base fD 1 a.lM a.oM Us (ZjE K):=by
 refine T.oO.n.gJ Kb (ZoF T) (λvs H Q E h=>?_) (λH vs Q E h=>?_)
 ·obtain⟨c,t,rfl,_⟩:=h;rfl
 ·obtain⟨c,t,rfl,k,S,U,q⟩:=h;show WN K _ [Aa (.int c),Aa (.int t),Ae,Ae,Ae] H;unfold WN;have A:=kQ;walk_at"";intro sp I j;walk_at"";refine vF (λi σ f=>bL H f/\∃(d:List Int) (c:Int) (u v:Option V),f sp=Aa (.lst (d.map V.int))/\d.length=i/\(∀z∈d,0<=z/\z<2*(t:Int))/\0<=c/\σ=[Aa (.int c),Aa (.int t),Aa (.ref sp),u,v]) #v[j.same,[],c,_,_,j.at_,rfl,λz hz=>by simp at hz,k,rfl] ?_ ?_
  ·rintro i σ f hi ⟨r,d,c,u,v,h2,hl,hz,k,rfl⟩;walk_at"";refine#v[by show 2<=sizeLine;decide,λO J m=>#v[by decide,?_]]
   obtain⟨n,hv,B,C⟩:∃n:Int,mN [V.int (2*(t:Int)),V.int (if 16<2*(t:Int) then 16 else 2*(t:Int))] (if 0<c%3 then 1 else 0)=Aa (.int n)/\1<=n/\n<=2*t:=by
    by_cases g:0<c%3
    ·rw[if_pos g];exact#v[_,rfl,by split <;> omega,by split <;> omega]
    ·rw[if_neg g];exact#v[_,rfl,⋯,⋯]
   refine#v[_,.int n,.inl m.sq,hv,?_];have h3:=m.same _ _ h2;have M:=JI (c/3) (show n≠0 by omega);have N:=VM (c/3) (show 0<n by omega);walk_at"";refine#v[.inl #v[by trivial,_,.of h3],#v[⋯,⋯],⋯,.inl #v[⋯,⋯],#v[⋯,⋯],⋯,by show 2<=sizeLine;decide,λR L p=>#v[by decide,?_]]
   obtain⟨z,l,D,G⟩:∃z:Int,mN [V.int (c/3%n),V.int (2*(t:Int)-1-c/3%n)] (if 0<c%3 then 1 else 0)=Aa (.int z)/\0<=z/\z<2*t:=by
    by_cases g:0<c%3
    ·rw[if_pos g];exact#v[_,rfl,⋯,⋯]
    ·rw[if_neg g];exact#v[_,rfl,⋯,⋯]
   refine#v[_,.int z,.inl p.sq,l,sp,_,_,rfl,rfl,p.same _ _ h3,by rw[aQ];omega,#v[⋯,⋯],#v[⋯,⋯],((r.trans m.same).trans p.same).put j.cL,d++[z],c/3/n,_,_,by rw[cN,fN];rfl,by rw[eG,hl];rfl,λx hx=>?_,Yo ⋯ ⋯,rfl];rcases fG.mp hx with g|g
   ·exact hz x g
   ·rw[dQ]at g;subst g;exact#v[D,G]
  ·rintro σ f ⟨r,d,c,u,v,h2,hl,hz,k,rfl⟩;walk_at""
   obtain⟨x,y,rfl⟩:∃x y,d=[x,y]:=by
    match d,hl with
    |[x,y],_=>exact#v[x,y,rfl]
   exact q sp x y f r j.cL h2 (hz x (by simp)).1 (hz x (by simp)).2 (hz y (by simp)).1 (hz y (by simp)).2
theorem Uw(s:bL H c)(u:lw pl f c d)(hp:H pl=Ae)(hk:H f=Ae):bL H d:=λb o e=>u b o (dW e hp) (dW e hk) (s b o e)
theorem Gj{a:bC}{K:aE}{H:Hp}{f dx pl i:Ad}{m:Nat}{es:List En}{x y:Int}{Q:VK}{E:XK}(f2:bB a.aB H f m es dx pl i)(ok:MF.Ok m (aP es))(hl:es.length<=5000)(hx:MF.p9 m (aP es) x)(hy:MF.p9 m (aP es) y)
  (k:∀h c r,lw pl i H h->bB a.aB h f m c dx pl i->MF.Ok m (aP c)->c.length<=es.length+1->es.length<=c.length->MF.p9 m (aP c) r->(∀u,MF.p9 m (aP es) u->MF.p9 m (aP c) u)->Q (.int r) h):xF a K [.ref f,.int x,.int y] H Q E:=by
 have st:=MF.Kw (m:=(m:Int)) ⋯ hx hy;have jx:=hx.2;have jy:=hy.2;have p:(aP es).length=es.length:=aQ ..;refine#v[f,dx,pl,i,m,x,y,es,rfl,f2,⋯,λ_ h c t f3 q=>?_,λz=>absurd #v[hx.1,hy.1,⋯,⋯] z];have l:=st.hi;have n:=st.lo;have g:=st.ok ok;have d:=st.inn;simp only[MF.bo]at l n g d;rw[<-q]at l n g d;have j:(aP c).length=c.length:=aQ ..;exact k h c _ t f3 g ⋯ ⋯ d λu hu=>#v[hu.1,by have:=hu.2;omega]
def Zf8(a:bC)(_:aE):Sp:=λvs H Q _=>∃(f dx pl d:Ad) (m:Nat),vs=[.ref f,.int 550]/\bB a.aB H f m [] dx pl d/\3<=m/\m<=6 /\
 ∀es c,lw pl d H c->bB a.aB c f m es dx pl d->MF.Ok m (aP es)->es.length<=551->Q (.int (1+m+es.length)) c
abbrev Zir(a:bC)(K:aE):TS:=(cK (fQ a.aB "both" (xF a K) [] E0 (aA 0) (aC (aK (cZ λi j=>.int (Builtin.bitXor i j)) (aA 2) (tC (.int 1))) (aC (aK (eJ K) (kT (Jd [(.int 2),(.int 4)])) (aK (dA (λ_ j=>0<j) λi j=>.int (i%j)) (aA 3) (tC (.int 2)))) aI))) (aU 2))
abbrev Ziq(a:bC)(K:aE):TS:=(aV (gU (qm (aC (aA 1) aI)) (aU 3) (bN (Zir a K)))
  (cY (fQ a.aB "total" (qR a K) [] E0 (aA 0) aI)))
def X1(a:bC)(K:aE):TS:=(aV (cK (fQ a.aB "both" (xF a K) [] E0 (aA 0) (Jd [(.int 2),(.int 4)])) (aU 2))
  (bN (Ziq a K)))
theorem Zkk(T:Txt K mg a):TM P w K mg base 3 "_law_row_in" NO Zhx a.hZ (X1 a K):=
 λhr=>(aX (dL 2 QH.nd (oI (cv 0) T.aJ T.aZ.e (Gg T) (hm hr) T.aZ.b .nil qj (Pv (vs:=[(.int 2),(.int 4)]) rfl)))
   (bX (aX (my PassesOwn.never rfl (uj rfl T.bO (aD (cv 1) aM)) (dN 3 QH.nd) (bX (bD (dL 2 QH.nd (oI (cv 0) T.aJ T.aZ.e (Gg T) (hm hr) T.aZ.b .nil qj (aD (bK xY (cv 2) aR) (aD (eQ eP (lJ (Pv (vs:=[(.int 2),(.int 4)]) rfl)) (bK oz (cv 3) aR)) aM)))))))
   (bD (dM (oR (cv 0) T.aJ T.aF.e (rr T) (hm hr) T.aF.b .nil cG))))))
theorem ZkF(T:Txt K mg a):a0 P w K mg base fD 4 a.hZ a.kZ Y9 (Zf8 a K):=by
 refine T.kU.n.gJ QH (Zkk T) (λvs H Q E h=>?_) (λH vs Q E h=>?_)
 ·obtain⟨f,dx,pl,j,m,rfl,_⟩:=h;rfl
 ·obtain⟨f,dx,pl,j,m,rfl,hf,m3,Z,q⟩:=h;show X1 a K _ [Aa (.ref f),Aa (.int 550),Ae,Ae] H;unfold X1;have G:=kQ;walk_at"";have it:∀{es:List En}{t:Int},0<=t->t<=4->MF.p9 m (aP es) t:=λ{es t} h0 h1=>#v[h0,by have:(aP es).length=es.length:=aQ ..;omega];refine#v[f,dx,_,rfl,hf.ins,rfl,Gj hf (λi p hp=>by simp[aP]at hp) (by simp) (it ⋯ ⋯) (it ⋯ ⋯) λS k r M f3 y J _ ir _=>?_];rw[rA]at J;walk_at"";refine vF (λi σ g=>∃(es:List En) (t:Int) (C:Option V),lw pl j H g/\bB a.aB g f m es dx pl j/\MF.Ok m (aP es)/\es.length<=i+1/\MF.p9 m (aP es) t/\σ=[Aa (.ref f),Aa (.int 550),Aa (.int t),C]) #v[k,r,_,M,f3,y,⋯,ir,rfl] ?_ ?_
  ·rintro i σ g hi ⟨es,t,C,B,f4,d,D,c,rfl⟩;walk_at"";have I:i<550:=hi
   have e5:∃z:Int,mN [V.int 2,V.int 4] ((0+(i:Int))%2)=Aa (.int z)/\0<=z/\z<=4:=by
    have:(0+(i:Int))%2=0\/(0+(i:Int))%2=1:=⋯;rcases this with e|e <;> rw[e]
    ·exact#v[2,rfl,by decide,by decide]
    ·exact#v[4,rfl,by decide,by decide]
   obtain⟨z,hz,O,R⟩:=e5;refine#v[f,dx,_,rfl,f4.ins,rfl,by show 2<=sizeLine;decide,λp5 U x=>#v[by decide,_,.int z,.inl x.sq,hz,?_]];rw[IQ c.1];refine Gj (f4.same x.same) d ⋯ c.tn (it O R) λX l L N f6 A Y _ u _=>?_;exact#v[l,L,_,B.trans (lw.trans (λb o _ _ e=>x.same b o e) N),f6,A,⋯,u,rfl]
  ·rintro σ g ⟨es,t,C,B,f4,d,D,c,rfl⟩;walk_at"";have v:es.length<=551:=D;exact#v[f,dx,_,rfl,f4.ins,rfl,f,dx,pl,j,m,es,rfl,f4,q es g B f4 d v]
def pT(m:Nat)(es:List En):List V:=gR (m+1) V.non++es.map λe=>V.ref e.1
theorem ZW{a:bC}{K:aE}{H:Hp}{f dx pl h:Ad}{m:Nat}{es:List En}{σ:L2.St}{sel:List Nat}{Q:VK}(f2:bB a.aB H f m es dx pl h)(hz:m+1+es.length<=20000)(hr:sel.map (λj=>(σ[j]?).join)=[Aa (.ref f)])(n:∀l d,iS H l (.lst (pT m es)) d->Q (.ref l) d):
  sg (qi 0 (m+1+es.length)) σ 1 sel (aU 0) kt (fQ a.aB "pair" (Dd a K) [] E0 (aA 1) (aC (aA 0) aI)) Q H:=by
 have k:=kQ;refine Zrt (λz=>(pT m es).getD z.toNat .non) hr ⋯ (λi g r hi q c=>?_) λl g p=>?_
 ·have f3:=f2.same q;rw[show(0+(i:Int)).toNat=i by omega]at c;walk_at"";refine#v[f,dx,_,rfl,f3.ins,rfl,f,dx,pl,h,m,_,es,rfl,f3,λ_=>#v[λhk=>?_,λe hk he=>?_],λz=>absurd #v[⋯,⋯] z]
  ·have:(pT m es).getD i .non=.non:=by unfold pT;rw[mS,mY (by rw[oQ];omega),Fv,if_pos ⋯];rfl
   rw[this]at c;exact c
  ·have:(pT m es).getD i .non=.ref e.1:=by unfold pT;rw[mS,qP (by rw[oQ];omega),oQ,gX,show i-(m+1)=((0+(i:Int))-(m:Int)-1).toNat by omega,he];rfl
   rw[this]at c;exact c
 ·refine n l g ?_;have el:(pT m es).length=m+1+es.length:=by unfold pT;rw[eG,oQ,aQ]
  have e:((dX (m+1+es.length)).map λi:Nat=>(pT m es).getD (0+(i:Int)).toNat .non)=pT m es:=by
   refine List.ext_getElem? λj=>?_;rw[gX];by_cases hj:j<m+1+es.length
   ·rw[List.getElem?_range hj];simp[jY,el,hj,show(0+(j:Int)).toNat=j by omega]
   ·rw[tI (by rw[ub];omega),tI ⋯];rfl
  rw[<-e];exact p
def ZeA(a:bC)(K:aE):Sp:=λvs H Q _=>∃(f dx pl g p:Ad) (m h:Nat) (ns:List Int) (es:List En),vs=[.ref f,.ref p,.int 60,.int h]/\(∀d,lw pl g H d->cB K d p (ns.map V.int))/\bB a.aB H f m es dx pl g/\MF.Ok m (aP es)/\1<=m/\m<=6/\ns.length<=63/\m+1+es.length<=h+3/\h<=600 /\
 ∀c l d,lw pl g H d->bB a.aB d f m c dx pl g->MF.Ok m (aP c)->m+1+c.length<=h+3->H l=Ae->d l=Aa (.lst (pT m c))->Q (.ref l) d
abbrev Zg3(a:bC)(K:aE):TS:=(aV (cK (fQ a.aB "both" (xF a K) [] E0 (aA 0) (aC (aA 6) (aC (aK (cZ λi j=>.int (Builtin.bitXor i j)) (aA 7) (tC (.int 1))) aI))) (aU 8))
  (li (fQ a.aB "both" (xF a K) [] E0 (aA 0) (aC (aK (cZ λi j=>.int (Builtin.bitXor i j)) (aA 8) (tC (.int 1))) (aC (aK (cZ λi j=>.int (Builtin.bitXor i j)) (fQ a.aB "both" (xF a K) [] E0 (aA 0) (aC (aK (cZ λi j=>.int (Builtin.bitXor i j)) (aA 6) (tC (.int 1))) (aC (aA 7) aI))) (tC (.int 1))) aI)))))
abbrev Zg2(a:bC)(K:aE):TS:=(eK (cO (aK (mP K) (aK (dA (λ_ j=>0<j) λi j=>.int (i%j)) (aA 5) (tC (.int 5))) (tC (.int 4)))) (bN (Zg3 a K)) (li (fQ a.aB "both" (xF a K) [] E0 (aA 0) (aC (aA 6) (aC (aA 7) aI)))))
abbrev Zg1(a:bC)(K:aE):TS:=(aV (cK (dH (ZjE K) [] E0 (aC (aK (dA kF λi j=>.int (i/j)) (aA 5) (tC (.int 5))) (aC (fQ a.aB "total" (qR a K) [] E0 (aA 0) aI) aI))) (Fq K 2 (o8 (aU 6) (o8 (aU 7) xS))))
  (bN (Zg2 a K)))
abbrev Zg0(a:bC)(K:aE):TS:=(aV (cK (aK pP (dH (EY K) [] E0 (aC (aA 1) (aC (aA 4) aI))) (aK qh (tC (.int 5)) (aA 4))) (aU 5))
  (bN (Zg1 a K)))
abbrev ZgZ(a:bC)(K:aE):TS:=(aV (eK (cO (aK (cZ λi j=>.bl (decide (j<i))) (fQ a.aB "total" (qR a K) [] E0 (aA 0) aI) (aA 3))) Ztt fI)
  (bN (Zg0 a K)))
abbrev ZdZ(a:bC)(K:aE):TS:=(cY (iP (qm (aC (fQ a.aB "total" (qR a K) [] E0 (aA 0) aI) aI)) 1 [0] (aU 0) kt (fQ a.aB "pair" (Dd a K) [] E0 (aA 1) (aC (aA 0) aI))))
def ZD(a:bC)(K:aE):TS:=(aV (gU (Es (aC (tC (.int 5)) (aC (dF tK (aC (dF (k9 K) (aC (aA 1) aI)) (aC (aA 2) aI))) aI))) (aU 4) (bN (ZgZ a K)))
  (bN (ZdZ a K)))
theorem Zh7(T:Txt K mg a):TM P w K mg base 3 "_law_pairs_by" HE Ui a.fM (ZD a K):=
 λhr=>(aX (my PassesOwn.never rfl (Uu rfl T.bO (aD aR (aD (eV (QD rfl) (by rfl) T.pQ PyProof.Rows.boot_min (aD (eV lS (by rfl) T.bR PySem.boot_len (aD (cv 1) aM)) (aD (cv 2) aM))) aM))) (dN 4 HR.nd) (bX (aX (fC (eE wM (oR (cv 0) T.aJ T.aF.e (rr T) (hm hr) T.aF.b .nil cG) (cv 3)) (bD Zsw) fO)
   (bX (aX (dL 5 HR.nd (bK qO (dP T.cI (HL T) (hm hr) cG (aD (cv 1) (aD (cv 4) aM))) (bK rJ aR (cv 4))))
   (bX (aX (Mm (dP T.oO (Zo3 T) (hm hr) cG (aD (bK kP (cv 5) aR) (aD (oR (cv 0) T.aJ T.aF.e (rr T) (hm hr) T.aF.b .nil cG) aM))) (Gs rfl (qc (dN 6 HR.nd) (qc (dN 7 HR.nd) Fz))))
   (bX (bD (fC (eE (nR (lk hr)) (bK oz (cv 5) aR) aR) (bX (aX (dL 8 HR.nd (oI (cv 0) T.aJ T.aZ.e (Gg T) (hm hr) T.aZ.b .nil qj (aD (cv 6) (aD (bK xY (cv 7) aR) aM))))
   (bD (l0 (oI (cv 0) T.aJ T.aZ.e (Gg T) (hm hr) T.aZ.b .nil qj (aD (bK xY (cv 8) aR) (aD (bK xY (oI (cv 0) T.aJ T.aZ.e (Gg T) (hm hr) T.aZ.b .nil qj (aD (bK xY (cv 6) aR) (aD (cv 7) aM))) aR) aM))))))) (bD (l0 (oI (cv 0) T.aJ T.aZ.e (Gg T) (hm hr) T.aZ.b .nil qj (aD (cv 6) (aD (cv 7) aM)))))))))))))))
   (bX (bD (dM (oZ (N:=Se) (k:=1) (sel:=[0]) (aY.of (bZ HE).names ∅) (bI.of Ui ∅) rfl (uj rfl T.bO (aD (oR (cv 0) T.aJ T.aF.e (rr T) (hm hr) T.aF.b .nil cG) aM)) (λ_ _ _ _=>(dN 0 (show kK (Se:List Str) by decide +kernel))) (λ_ _ _ _=>p0) (λ_ _ _ _=>(oI (cv 1) T.aJ T.bW.e (KN T) (hm hr) T.bW.b .nil qj (aD (cv 0) aM))))))))
theorem Zix(T:Txt K mg a):a0 P w K mg base fD 4 a.fM a.jJ Hr (ZeA a K):=by
 refine T.jN.n.gJ HR (Zh7 T) (λvs H Q E h=>?_) (λH vs Q E h=>?_)
 ·obtain⟨f,dx,pl,r,p,m,A,ns,es,rfl,_⟩:=h;rfl
 ·obtain⟨f,dx,pl,r,p,m,A,ns,es,rfl,hS,hf,ok,m1,m6,hl,hn,hmo,q⟩:=h;show ZD a K _ [Aa (.ref f),Aa (.ref p),Aa (.int 60),Aa (.int A),Ae,Ae,Ae,Ae,Ae] H;unfold ZD;have big:=kQ;walk_at"";refine .inl #v[_,.inl (hS H lw.refl),?_];rw[aQ]
  obtain⟨R,hR,hR60⟩:∃R:Nat,(if(60:Int)<(ns.length:Int) then(60:Int) else(ns.length:Int))=(R:Int)/\R<=60:=by
   by_cases g:(60:Int)<(ns.length:Int)
   ·rw[if_pos g];exact#v[60,rfl,⋯]
   ·rw[if_neg g];exact#v[ns.length,rfl,⋯]
  rw[hR];refine#v[#v[⋯,⋯,⋯,⋯],?_]
  have N:∀(d:List En) (k:Hp) (D G I J L:Option V),lw pl r H k->bB a.aB k f m d dx pl r->MF.Ok m (aP d)->m+1+d.length<=A+3->bN (ZdZ a K) { nx:=λ_ H'=>Q .non H',rt:=Q } [Aa (.ref f),Aa (.ref p),Aa (.int 60),Aa (.int A),D,G,I,J,L] k:=by
   intro d k D G I J L t f2 j l2;walk_at"";refine#v[f,dx,_,rfl,f2.ins,rfl,f,dx,pl,r,m,d,rfl,f2,?_];have en:(1+(m:Int)+(d.length:Int)).toNat=m+1+d.length:=⋯;refine#v[⋯,⋯,?_];rw[en];refine ZW f2 ⋯ rfl λl H3 u=>?_;refine q d l H3 (t.trans u.same.un) (f2.same u.same) j l2 ?_ u.at_
   cases hl:H l with
   |none=>rfl
   |some o=>
    have n1:l≠pl:=λz=>by rw[z]at u;exact absurd u.cL (by rw[f2.iQ.lst];simp)
    have n2:l≠r:=λz=>by rw[z]at u;exact absurd u.cL (by rw[f2.iQ.uo];simp)
    have:=t l o n1 n2 hl;rw[u.cL]at this;cases this
  refine vF (λi σ k=>∃(d:List En) (D G I J L:Option V),lw pl r H k/\bB a.aB k f m d dx pl r/\MF.Ok m (aP d)/\m+1+d.length<=A+3/\σ=[Aa (.ref f),Aa (.ref p),Aa (.int 60),Aa (.int A),D,G,I,J,L]) #v[es,_,_,_,_,_,lw.refl,hf,ok,hn,rfl] ?_ ?_
  ·rintro i σ k hi ⟨d,D,G,I,J,L,t,f2,j,l2,rfl⟩;walk_at"";refine#v[f,dx,_,rfl,f2.ins,rfl,f,dx,pl,r,m,d,rfl,f2,?_];walk_at"";by_cases g:(A:Int)<1+(m:Int)+(d.length:Int)
   ·rw[if_pos g];exact N d k _ _ _ _ _ t f2 j l2
   rw[if_neg g];walk_at"";have e2:(aP d).length=d.length:=aQ ..;have X:=hS k t;rw[show(5:Int)+(i:Int)=((5+i:Nat):Int) by omega];refine#v[p,ns,5+i,rfl,X,λc c0=>?_];walk_at"";refine#v[f,dx,_,rfl,f2.ins,rfl,f,dx,pl,r,m,d,rfl,f2,?_];obtain⟨ce,O⟩:∃ce:Int,ce=c+5*((5+i:Nat):Int):=#v[_,rfl];refine#v[ce/5,m+1+d.length,by rw[O,show 1+(m:Int)+(d.length:Int)=((m+1+d.length:Nat):Int) by omega],Yo ⋯ ⋯,⋯,⋯,λtw x y H3 s3 ftw h3 x0 x1 y0 y1=>?_];rw[<-O];have f3:=f2.same s3;walk_at"";refine#v[tw,_,rfl,.of h3,rfl,_,_,rfl,_,_,rfl,rfl,?_];have ix:MF.p9 m (aP d) x:=#v[x0,⋯];have iy:MF.p9 m (aP d) y:=#v[y0,⋯];walk_at"";by_cases c4:ce%5=4
   ·rw[if_pos c4];walk_at"";refine#v[f,dx,_,rfl,f3.ins,rfl,?_];rw[IQ y0];refine Gj f3 j ⋯ ix iy.tn λH4 M r4 u4 f4 B l4 _ v C=>?_;walk_at"";refine#v[f,dx,_,rfl,f4.ins,rfl,f,dx,_,rfl,f4.ins,rfl,?_];rw[IQ x0];refine Gj f4 B ⋯ (C _ ix.tn) (C _ iy) λH5 es5 r5 u5 f5 Y l5 _ S up5=>?_;walk_at"";rw[IQ v.1,IQ S.1];refine Gj f5 Y ⋯ (up5 _ v.tn) S.tn λH6 U r6 u6 f6 Z l6 _ ir6 up6=>?_;exact#v[U,_,_,_,_,_,((t.trans s3.un).trans u4).trans (u5.trans u6),f6,Z,⋯,rfl]
   ·rw[if_neg c4];refine#v[f,dx,_,rfl,f3.ins,rfl,Gj f3 j ⋯ ix iy λH4 M r4 u4 f4 B l4 _ v C=>?_];exact#v[M,_,_,_,_,_,(t.trans s3.un).trans u4,f4,B,⋯,rfl]
  ·rintro σ k ⟨d,D,G,I,J,L,t,f2,j,l2,rfl⟩;exact N d k _ _ _ _ _ t f2 j l2
def wz(q:Nat->Bool)(n:Nat):Nat:=(((dX n).filter q).map λi=>2^i).sum
theorem Td(q:Nat->Bool)(n:Nat):wz q (n+1)=wz q n+if q n=Ai then 2^n else 0:=by unfold wz;rw[wN,uJ,fN,List.sum_append];cases h:q n <;> simp[h]
theorem Sl(q:Nat->Bool):∀n,wz q n<2^n
 | 0=>Nat.one_pos
 |n+1=>by have:=Sl q n;rw[Td,zO];split <;> omega
theorem Zon(q:Nat->Bool)(N:Nat):∀n,(wz q n).testBit N=(decide (N<n)&&q N)
 | 0=>by show(0:Nat).testBit N=_;simp
 |n+1=>by
  have ih:=Zon q N n;have hl:=Sl q n;rw[Td];rcases OS N n with h|h|h
  ·rw[decide_eq_true (by omega:N<n+1)];rw[decide_eq_true h]at ih;split
   ·rw[Nat.add_comm,Zyz h,ih]
   ·rw[QA,ih]
  ·subst h;rw[decide_eq_true (by omega:N<N+1)];have z:(wz q N).testBit N=Ah:=C7 hl;split
   ·rename_i hq;rw[Nat.add_comm,ZyA,z,hq];rfl
   ·rename_i hq;rw[QA,z];cases h:q N with
    |true=>exact absurd h hq
    |false=>rfl
  ·rw[decide_eq_false (by omega:¬N<n+1)];have c:=Sl q (n+1);rw[Td]at c;exact C7 (nr c (zg (by decide) ⋯))
structure lA (H:Hp) (l:Ad) (m:Nat) (es:List En):Prop where
 lst:H l=Aa (.lst (pT m es))
 tup:∀e∈es,H e.1=Aa (.tup [.int e.2.1,.int e.2.2])
theorem lA.same(h:lA H l m es)(s:bL H c):lA c l m es:=#v[s _ _ h.lst,λe he=>s _ _ (h.tup e he)]
theorem Fk(m:Nat)(es:List En):(pT m es).length=m+1+es.length:=by unfold pT;rw[eG,oQ,aQ]
theorem Zn2(h:k<=m):(pT m es)[k]? = Aa .non:=by unfold pT;rw[mY (by rw[oQ];omega),Fv,if_pos ⋯]
theorem Hw{e:En}(h:es[j]? = Aa e):(pT m es)[m+1+j]? = Aa (.ref e.1):=by unfold pT;rw[qP (by rw[oQ];omega),oQ,show m+1+j-(m+1)=j by omega,gX,h];rfl
def RU(L:Nat)(kvs:List (Key×V)):Prop:=∀k:Int,(bQ kvs (.inl k)).isSome=Ai->∃z:Nat,bQ kvs (.inl k)=Aa (.int z)/\z<2^2^L
def Mu(C:List Nat)(kvs:List (Key×V))(i:Nat):Prop:=∀(k c:Nat),C[k]? = Aa c->k<i->bQ kvs (.inl (c:Int))=Aa (.int ((wz (λN=>N.testBit k) (2^C.length):Nat):Int))
def Fo(m:Nat)(P:List MF.Pr)(n:Nat)(C:List Nat)(kvs:List (Key×V))(i:Nat):Prop:=∀j p,P[j]? = Aa p->MF.gF (MF.eH (cA C)) m P [2*(n:Int)] (m+1+j)=Ai->MF.eH (cA C) (m+1+j)=Ah->m+1+j<i ->
 ∃c d:Nat,bQ kvs (.inl (p.1/2))=Aa (.int c)/\bQ kvs (.inl (p.2/2))=Aa (.int d)/\bQ kvs (.inl ((m+1+j:Nat):Int))=Aa (.int ((tv (og C.length) c p.1&&&tv (og C.length) d p.2:Nat):Int))
theorem Znp{P:List MF.Pr}(t:RU C.length kvs)(u:Mu C kvs C.length)(A:Fo m P n C kvs (n+1))(ok:MF.Ok m P)(r:uH m P n (cA C) z n)(hv:bQ kvs (.inl (n:Int))=Aa (.int (q:Nat))):z=q:=by
 have d:(cA C).length=C.length:=aQ ..;obtain⟨y,hy,D⟩:=t n (by rw[hv];rfl)
 have g:y=q:=by rw[hv]at hy;have:=V.int.inj (Option.some.inj hy);omega
 subst g;have l:=r.1;rw[d]at l;refine Nat.eq_of_testBit_eq λN=>?_;by_cases f:N<2^C.length
 case neg=>have hp:2^2^C.length<=2^N:=zg (by decide) ⋯;rw[C7 (by omega:z<2^N),C7 (by omega:y<2^N)]
 have bt:∀{k:Int}{z:Nat},bQ kvs (.inl k)=Aa (.int (z:Nat))->(match bQ kvs (.inl k) with|some (.int i)=>i.toNat.testBit N|_=>Ah)=z.testBit N:=λ{k z} h=>by rw[h];rfl
 have ag:Agr m P n (cA C) N (λk=>match bQ kvs (.inl (k:Int)) with|some (.int i)=>i.toNat.testBit N|_=>Ah):=by
  refine#v[λk x hx=>?_,λj p hp hr hs=>?_]
  ·unfold cA at hx;rw[gX]at hx;cases hc:C[k]? with
   |none=>rw[hc]at hx;cases hx
   |some c=>rw[hc]at hx;cases hx;show(match bQ kvs (.inl (((c:Int).toNat:Nat):Int)) with|some (.int i)=>i.toNat.testBit N|_=>Ah)=_;rw[oK,bt (u k c hc (dS.mp hc).1),Zon,decide_eq_true f];rfl
  ·have B:=MF.Zn0 ok hr;obtain⟨E,G,h1,h2,h3⟩:=A j p hp hr hs ⋯;obtain⟨o1,o2,o3,H⟩:=ok j p hp;have e1:(((p.1/2).toNat:Nat):Int)=p.1/2:=⋯;have e2:(((p.2/2).toNat:Nat):Int)=p.2/2:=⋯;show(match bQ kvs (.inl ((m+1+j:Nat):Int)) with|some (.int i)=>i.toNat.testBit N|_=>Ah)=_;rw[bt h3,NV,Q0 (RD f) (v:=λk=>match bQ kvs (.inl (k:Int)) with|some (.int i)=>i.toNat.testBit N|_=>Ah) (by show E.testBit N=(match bQ kvs (.inl (((p.1/2).toNat:Nat):Int)) with|some (.int i)=>i.toNat.testBit N|_=>Ah);rw[e1,bt h1]),Q0 (RD f) (v:=λk=>match bQ kvs (.inl (k:Int)) with|some (.int i)=>i.toNat.testBit N|_=>Ah) (by show G.testBit N=(match bQ kvs (.inl (((p.2/2).toNat:Nat):Int)) with|some (.int i)=>i.toNat.testBit N|_=>Ah);rw[e2,bt h2])]
 rw[r.2 N _ (by rw[d];exact f) ag];exact bt hv
def KnK(C:List Nat)(kvs:List (Key×V))(i:Nat):Prop:=∀k:Int,(bQ kvs (.inl k)).isSome=Ai->k∈cA C\/k<i
theorem V7{C:List Nat}{j:Nat}:(j:Int)∈cA C ↔ j∈C:=by
  unfold cA;rw[fE]
  exact⟨λ⟨y,hy,e⟩=>by have : y=j:=⋯;rw[<-this];exact hy,λh=>#v[j,h,rfl]⟩
theorem ZK{P:List MF.Pr}(d:Mu C kvs C.length)(f:Fo m P n C kvs i)(hst:∀j,MF.gF (MF.eH (cA C)) m P [2*(n:Int)] j=Ai->m<j\/(j:Int)∈cA C)(hr:MF.gF (MF.eH (cA C)) m P [2*(n:Int)] j=Ai)(hj:j<i):(bQ kvs (.inl (j:Int))).isSome=Ai:=by
 cases hs:MF.eH (cA C) j with
 |true=>obtain⟨k,hk⟩:=wE.mp (V7.mp (of_decide_eq_true hs));rw[d k j hk (dS.mp hk).1];rfl
 |false=>
  have hm:=(hst j hr).resolve_right (of_decide_eq_false hs);obtain⟨c,rfl⟩:∃c,j=m+1+c:=#v[j-m-1,⋯]
  have hl:c<P.length:=FY λz=>by rw[MF.U9 ⋯]at hr;cases hr
  obtain⟨_,_,_,_,h3⟩:=f c _ (eF hl) hr hs hj;rw[h3];rfl
theorem U0{P:List MF.Pr}(c:Fo m P n C kvs i)(d:∀j p,P[j]? = Aa p->m+1+j=i->MF.gF (MF.eH (cA C)) m P [2*(n:Int)] i=Ai->MF.eH (cA C) i=Ah->False):Fo m P n C kvs (i+1):=λj p hp hr hs hj=>by
 rcases Sh (W6 hj) with g|g
 ·exact c j p hp hr hs g
 ·rw[g]at hr hs;exact(d j p hp g hr hs).elim
theorem Ztq(F z:Nat)(t:Int):Builtin.bitXor (z:Int) ((F:Int)*(t%2))=((tv F z t:Nat):Int):=by
 unfold tv;have:t%2=0\/t%2=1:=⋯;rcases this with e|e
 ·rw[e,if_neg ⋯,Int.mul_zero];have:=Rp z 0;rw[show((0:Nat):Int)=0 from rfl]at this;rw[this,Nat.xor_zero]
 ·rw[e,if_pos rfl,Int.mul_one,Rp,Nat.xor_comm]
def Zfv(_:aE):Sp:=λvs H Q _=>∃(f cp:Ad) (m n:Nat) (es:List En) (C:List Nat),vs=[.ref f,.ref cp,.int n]/\lA H f m es/\H cp=Aa (.lst ((cA C).map V.int))/\MF.Ok m (aP es)/\MF.qk m (aP es) n (cA C)=Ai/\C.length<=6/\C.Pairwise (· < ·)/\m<n/\n<m+1+es.length/\m+1+es.length<=1000 /\
 ∀d kvs (z:Nat) c,bL H c->c d=Aa (.dK kvs)->RU C.length kvs->Mu C kvs C.length->Fo m (aP es) n C kvs (n+1)->bQ kvs (.inl (n:Int))=Aa (.int z)->Q (.ref d) c
abbrev ZhQ(K:aE):TS:=(aV (cK (aK (cZ λi j=>.int (Builtin.bitXor i j)) (qV (aA 4) (aK (dA kF λi j=>.int (i/j)) (aA 7) (tC (.int 2)))) (aK qh (aA 9) (aK (dA (λ_ j=>0<j) λi j=>.int (i%j)) (aA 7) (tC (.int 2))))) (aU 10))
  (rF (aA 4) (aA 6) (aK (cZ λi j=>.int (Builtin.bitAnd i j)) (aA 10) (aK (cZ λi j=>.int (Builtin.bitXor i j)) (qV (aA 4) (aK (dA kF λi j=>.int (i/j)) (aA 8) (tC (.int 2)))) (aK qh (aA 9) (aK (dA (λ_ j=>0<j) λi j=>.int (i%j)) (aA 8) (tC (.int 2))))))))
abbrev ZhP(K:aE):TS:=(aV (cK (aK (cZ λi j=>.int (i-j)) (aK (dA tY λi j=>.int (i*2^j.toNat)) (tC (.int 1)) (aA 3)) (tC (.int 1))) (aU 9))
  (bN (ZhQ K)))
abbrev ZhO(K:aE):TS:=(eK (xp (cO (wP (aK (dA kF λi j=>.int (i/j)) (aA 7) (tC (.int 2))) (aA 4))) (cO (wP (aK (dA kF λi j=>.int (i/j)) (aA 8) (tC (.int 2))) (aA 4)))) (bN (ZhP K)) fI)
abbrev ZhN(K:aE):TS:=(eK (xp (cO (uU (aA 6) (aA 4))) (cO (aK Lo (aK (eJ K) (aA 0) (aA 6)) (tC .non)))) (aV (cK (aK (eJ K) (aA 0) (aA 6)) (zG K 2 (o8 (aU 7) (o8 (aU 8) xS))))
  (bN (ZhO K))) fI)
abbrev ZhM(K:aE):TS:=(aV (gU (qm (aC (dF (k9 K) (aC (aA 1) aI)) aI)) (aU 5) (rF (aA 4) (aK (eJ K) (aA 1) (aA 5)) (dF (Ft K) (aC (iP (qm (aC (aA 3) aI)) 1 [5] (aU 0) (cO (aK (mP K) (aK (cZ λi j=>.int (Builtin.bitAnd i j)) (aK (dA (λ_ j=>0<=j) λi j=>.int (i/2^j.toNat)) (aA 0) (aA 1)) (tC (.int 1))) (tC (.int 1)))) (aK (dA tY λi j=>.int (i*2^j.toNat)) (tC (.int 1)) (aA 0))) aI))))
  (aV (gU (qm (aC (aK pP (aA 2) (tC (.int 1))) aI)) (aU 6) (bN (ZhN K)))
  (cY (aA 4))))
def XA(K:aE):TS:=(aV (cK (aK (dA tY λi j=>.int (i*2^j.toNat)) (tC (.int 1)) (dF (k9 K) (aC (aA 1) aI))) (aU 3))
  (aV (cK vR (aU 4))
  (bN (ZhM K))))
theorem Zi1(T:Txt K mg a):TM P w K mg base 0 "_law_columns" IV WR a.fZ (XA K):=
 λhr=>(aX (dL 3 ye.nd (bK Kn aR (eV lS (by rfl) T.bR PySem.boot_len (aD (cv 1) aM))))
   (aX (dL 4 ye.nd zd)
   (bX (aX (my PassesOwn.never rfl (uj rfl T.bO (aD (eV lS (by rfl) T.bR PySem.boot_len (aD (cv 1) aM)) aM)) (dN 5 ye.nd) (bD (tj (fP hr) (cv 4) (eQ eP (cv 1) (cv 5)) (eV (J4 rfl) (by rfl) T.FD PyProof.Rows.boot_sum (aD (oZ (N:=["_law_i","_law_j"]) (k:=1) (sel:=[5]) (aY.of (bZ IV).names ∅) (bI.of WR ∅) rfl (uj rfl T.bO (aD (cv 3) aM)) (λ_ _ _ _=>(dN 0 (show kK (["_law_i","_law_j"]:List Str) by decide +kernel))) (λ_ _ _ _=>(yF (eE (nR (lk hr)) (bK Vg (bK yz (cv 0) (cv 1)) aR) aR))) (λ_ _ _ _=>(bK Kn aR (cv 0)))) aM)) rfl)))
   (aX (my PassesOwn.never rfl (uj rfl T.bO (aD (bK qO (cv 2) aR) aM)) (dN 6 ye.nd) (bX (bD (fC (PW.pt (Hh (sW (wF (fP hr) (cv 6) (cv 4))) (ER (eE Wa (eQ eP (cv 0) (cv 6)) rl)))) (aX (Mm (eQ eP (cv 0) (cv 6)) (IM rfl (qc (dN 7 ye.nd) (qc (dN 8 ye.nd) Fz))))
   (bX (bD (fC (PW.pt (Hh (sW (G2 (fP hr) (bK kP (cv 7) aR) (cv 4))) (ER (sW (G2 (fP hr) (bK kP (cv 8) aR) (cv 4)))))) (bX (aX (dL 9 ye.nd (bK sJ (bK Kn aR (cv 3)) aR))
   (bX (aX (dL 10 ye.nd (bK xY (sT (fP hr) (cv 4) (bK kP (cv 7) aR) (λ_ _=>rfl)) (bK rJ (cv 9) (bK oz (cv 7) aR))))
   (bD (tj (fP hr) (cv 4) (cv 6) (bK Vg (cv 10) (bK xY (sT (fP hr) (cv 4) (bK kP (cv 8) aR) (λ_ _=>rfl)) (bK rJ (cv 9) (bK oz (cv 8) aR)))) rfl)))))) fO)))) fO))))
   (bD (dM (cv 4))))))))
theorem Zjy(T:Txt K mg a):a0 P w K mg base fD 1 a.fZ a.kj tD (Zfv K):=by
 refine T.kq.n.gJ ye (Zi1 T) (λvs H Q E h=>?_) (λH vs Q E h=>?_)
 ·obtain⟨lp,cp,m,n,es,C,rfl,_⟩:=h;rfl
 ·obtain⟨lp,cp,m,n,es,C,rfl,hP,hC,ok,R,c6,G,mn,nl,hz,q⟩:=h;show XA K _ [Aa (.ref lp),Aa (.ref cp),Aa (.int n),Ae,Ae,Ae,Ae,Ae,Ae,Ae,Ae] H;unfold XA;have big:=kQ;have D:(cA C).length=C.length:=aQ ..;have wn:(aP es).length=es.length:=aQ ..;obtain⟨S,O⟩:∃S,2^C.length=S:=#v[_,rfl];have p6:S<=64:=by rw[<-O];exact zg (by decide) c6
  walk_at"";refine .inl #v[_,.inl (.of hC),?_];rw[aQ,D];have ec:(1*2^((C.length:Int)).toNat:Int)=(S:Int):=by rw[<-O];simp
  rw[ec];refine#v[#v[⋯,⋯,by decide],?_];walk_at"";intro d H1 n1;walk_at"";refine .inl #v[_,.inl (.of (n1.same _ _ hC)),?_];rw[aQ,D];refine#v[⋯,⋯,?_];refine vF (λi σ H2=>bL H H2/\∃(kvs:List (Key×V)) (L:Option V),H2 d=Aa (.dK kvs)/\kvs.length<=i/\RU C.length kvs/\Mu C kvs i/\(∀k:Int,(bQ kvs (.inl k)).isSome=decide (k∈cA (C.take i)))/\σ=[Aa (.ref lp),Aa (.ref cp),Aa (.int n),Aa (.int S),Aa (.ref d),L,Ae,Ae,Ae,Ae,Ae]) #v[n1.same,[],_,n1.at_,bV _,λk h=>by simp[bQ]at h,λk c _ h=>absurd h (yg _),λk=>by simp[bQ,cA],rfl] ?_ ?_
  ·rintro i σ H2 hi ⟨s2,kvs,L,h2,l2,b2,c2,k2,rfl⟩;have U:i<C.length:=⋯;walk_at"";obtain⟨c,hc⟩:∃c,C[i]? = Aa c:=#v[_,eF U];rw[oK];refine ZO (λN=>N.testBit i) (λN=>.int ((2^N:Nat):Int)) rfl ⋯ (λN H' Q' hN s' q'=>?_) (λN H' Q' hN _ s' q'=>?_) λsp M n3=>?_
   ·walk_at""
    have eb:(Builtin.bitAnd ((0+(N:Int))/2^(0+(i:Int)).toNat) 1=1)=(N.testBit i=Ai):=by rw[show(0+(i:Int)).toNat=i by omega,Int.zero_add,show(2:Int)^i=((2^i:Nat):Int) by simp,<-Int.natCast_ediv,show(1:Int)=((1:Nat):Int) from rfl,K7];rw[Nat.testBit_eq_decide_div_mod_eq,Nat.and_one_is_mod];simp only[eq_iff_iff,decide_eq_true_eq];omega
    simp only[eb];rw[Bool.decide_eq_true];exact q'
   ·walk_at"";rw[show(1:Int)*2^(0+(N:Int)).toNat=((2^N:Nat):Int) by rw[show(0+(N:Int)).toNat=N by omega];simp];exact q'
   have hcm:c∈C:=jP hc
   have Y:((((dX S).filter λN=>N.testBit i).map λN=>((2^N:Nat):Int))).sum=((wz (λN=>N.testBit i) S:Nat):Int):=by
    unfold wz;generalize (dX S).filter (λN=>N.testBit i)=l
    induction l with
    |nil=>rfl
    |cons a r ih=>rw[jF,jF,List.sum_cons,List.sum_cons,ih];omega
   have hgc:(cA C)[i]? = Aa (c:Int):=by unfold cA;rw[gX,hc];rfl
   walk_at"";refine#v[((dX S).filter λN=>N.testBit i).map λN=>((2^N:Nat):Int),by rw[iR];exact .of n3.at_,?_];rw[Y];refine#v[_,.int (c:Int),.inl (.of (n3.same _ _ (s2 _ _ hC))),?_,d,_,rfl,ry.k (k:=.inl (c:Int)) (n3.same _ _ h2) ⋯,(s2.trans n3.same).put n1.cL,_,_,cN,?_,?_,?_,?_,rfl]
   ·rw[show(0:Int)+(i:Int)=(i:Int) by omega];exact wx (by rw[gX,hgc];rfl)
   ·have:=CJ kvs (.inl (c:Int)) (.int ((wz (λN=>N.testBit i) S:Nat):Int));omega
   ·intro k hk;rw[rf]at hk ⊢;by_cases e:(Sum.inl k:Key)=.inl (c:Int)
    ·rw[if_pos e];exact#v[_,rfl,by rw[O];exact Sl _ _]
    ·rw[if_neg e]at hk ⊢;exact b2 k hk
   ·intro k c' A hk;rw[rf];by_cases e:(Sum.inl (c':Int):Key)=.inl (c:Int)
    ·rw[if_pos e];have ec':c'=c:=by have:=Sum.inl.inj e;omega
     subst ec'
     have:k=i:=by
      obtain⟨a1,a2⟩:=dS.mp A;obtain⟨b1,b2⟩:=dS.mp hc;rcases OS k i with g|g|g
      ·have:=uZ.mp G k i a1 b1 g;omega
      ·exact g
      ·have:=uZ.mp G i k b1 a1 g;omega
     subst this;rw[O]
    ·rw[if_neg e];refine c2 k c' A ?_;rcases Sh (W6 hk) with g|g
     ·exact g
     ·subst g;rw[hc]at A;cases A;exact absurd rfl e
   ·intro k;rw[rf];have et:C.take (i+1)=C.take i++[c]:=by rw[pJ,hc];rfl
    have em:cA (C.take (i+1))=cA (C.take i)++[(c:Int)]:=by rw[et];unfold cA;rw[fN];rfl
    rw[em];by_cases e:(Sum.inl k:Key)=.inl (c:Int)
    ·rw[if_pos e];cases e;simp
    ·rw[if_neg e,k2 k];have:k≠(c:Int):=λz=>e (by rw[z]);simp[this]
  ·rintro σ H2 ⟨s2,kvs,L,h2,l2,b2,c2,k2,rfl⟩;walk_at"";obtain⟨⟨k1,k2',k3⟩,hris',hhang,u⟩:=(MF.RB ..).mp R;refine vF (λi σ M=>bL H M/\∃(kvs:List (Key×V)) (L v6 v7 v8 v9 J:Option V),M d=Aa (.dK kvs)/\kvs.length<=6+i/\RU C.length kvs/\Mu C kvs C.length/\Fo m (aP es) n C kvs i/\KnK C kvs i/\σ=[Aa (.ref lp),Aa (.ref cp),Aa (.int n),Aa (.int S),Aa (.ref d),L,v6,v7,v8,v9,J]) #v[s2,kvs,_,_,_,_,_,_,h2,⋯,b2,c2,λj p _ _ _ h=>absurd h (yg _),λk hk=>by rw[k2]at hk;have:=of_decide_eq_true hk;rw[oK,rC]at this;exact .inl this,rfl] ?_ ?_
   ·rintro i σ M hi ⟨I,kvs,L,v6,v7,v8,v9,J,h3,l3,b3,x,B,v,rfl⟩;have U:i<=n:=⋯;have y:=hP.same I;walk_at"";refine#v[d,_,rfl,gS.k (k:=.inl (0+(i:Int))) h3,?_];rw[show(0:Int)+(i:Int)=(i:Int) by omega];cases hv:bQ kvs (.inl (i:Int)) with
    |some z=>
     walk_at"go";refine#v[I,kvs,_,_,_,_,_,_,h3,⋯,b3,x,U0 B λj p hp hj hr hs=>?_,λk hk=>(v k hk).imp id λz=>by omega,rfl];rcases v i (by rw[hv];rfl) with g|g
     ·have:=of_decide_eq_false hs;exact this g
     ·omega
    |none=>
    walk_at"";rcases lD m i with X|X
    case inr=>refine#v[_,.non,.inl (.of y.lst),wx (Zn2 X),?_];walk_at"go";exact#v[I,kvs,_,_,_,_,_,_,h3,⋯,b3,x,U0 B λj p hp hj hr hs=>by omega,λk hk=>(v k hk).imp id λz=>by omega,rfl]
    obtain⟨j,rfl⟩:∃j,i=m+1+j:=#v[i-m-1,⋯];obtain⟨e,he⟩:∃e,es[j]? = Aa e:=#v[_,eF ⋯];have hp:(aP es)[j]? = Aa e.2:=by unfold aP;rw[gX,he];rfl
    obtain⟨o1,o2,o3,o4⟩:=ok j e.2 hp;have ht:=y.tup e (jP he);refine#v[_,_,.inl (.of y.lst),wx (Hw he),?_];walk_at"";rw[if_pos (λz=>nomatch z)];refine#v[_,_,.inl (.of y.lst),wx (Hw he),_,_,rfl,.of ht,rfl,_,_,rfl,_,_,rfl,rfl,?_];walk_at""
    have skip:∀t:Int,(t=e.2.1\/t=e.2.2)->bQ kvs (.inl (t/2))=Ae->Fo m (aP es) n C kvs (m+1+j+1):=λt htt GE=>U0 B λj' p' f hj hr hs=>by have:j'=j:=⋯;subst this;rw[hp]at f;cases f;have rc:=MF.F6 ok [2*(n:Int)] hp hr hs;have hk:(bQ kvs (.inl (((t/2).toNat:Nat):Int))).isSome=Ai:=ZK x B u (by rcases htt with rfl|rfl;exact rc.1;exact rc.2) ⋯;rw[show(((t/2).toNat:Nat):Int)=t/2 by omega,GE]at hk;cases hk
    have up:KnK C kvs (m+1+j+1):=λk hk=>(v k hk).imp id λz=>by omega
    refine#v[d,_,rfl,gS.k (k:=.inl (e.2.1/2)) h3,?_];cases hv1:bQ kvs (.inl (e.2.1/2)) with
    |none=>walk_at"go";exact#v[I,kvs,_,_,_,_,_,_,h3,⋯,b3,x,skip _ (.inl rfl) hv1,up,rfl]
    |some w1=>
    obtain⟨z1,Z,z1l⟩:=b3 _ (by rw[hv1];rfl);rw[hv1]at Z;cases Z;walk_at"";refine#v[d,_,rfl,gS.k (k:=.inl (e.2.2/2)) h3,?_];cases hv2:bQ kvs (.inl (e.2.2/2)) with
    |none=>walk_at"go";exact#v[I,kvs,_,_,_,_,_,_,h3,⋯,b3,x,skip _ (.inr rfl) hv2,up,rfl]
    |some w2=>
    obtain⟨z2,hz2,z2l⟩:=b3 _ (by rw[hv2];rfl);rw[hv2]at hz2;cases hz2;walk_at""
    have ef:(1*2^((S:Int)).toNat-1:Int)=((og C.length:Nat):Int):=by have h1:1<=2^S:=V1;unfold og;rw[O,oK,Int.one_mul,show(2:Int)^S=((2^S:Nat):Int) by simp];omega
    rw[ef];refine#v[d,.int z1,rfl,by have:=gS.k (k:=.inl (e.2.1/2)) h3;rw[hv1]at this;exact this,by decide,.inr #v[⋯,⋯],#v[by decide,by decide],d,.int z2,rfl,by have:=gS.k (k:=.inl (e.2.2/2)) h3;rw[hv2]at this;exact this,by decide,.inr #v[⋯,⋯],?_];walk_at"go";rw[Ztq,Ztq,K7];have Zn:∀{k:Int}{w:V},bQ kvs (.inl k)=Aa w->¬(Sum.inl k:Key)=.inl ((m+1+j:Nat):Int):=λ{k w} h z=>by rw[z,hv]at h;cases h
    have keep:∀{k:Int}{w:V},bQ kvs (.inl k)=Aa w->bQ (eD kvs (.inl ((m+1+j:Nat):Int)) (.int ((tv (og C.length) z1 e.2.1&&&tv (og C.length) z2 e.2.2:Nat):Int))) (.inl k)=Aa w:=λ{k w} h=>by rw[rf,if_neg (Zn h)];exact h
    refine#v[d,_,rfl,ry.k (k:=.inl ((m+1+j:Nat):Int)) h3 ⋯,I.put n1.cL,_,_,_,_,_,_,_,cN,?_,?_,λk c hc hk=>keep (x k c hc hk),?_,?_,rfl]
    ·have:=CJ kvs (.inl ((m+1+j:Nat):Int)) (.int ((tv (og C.length) z1 e.2.1&&&tv (og C.length) z2 e.2.2:Nat):Int));omega
    ·intro k hk;rw[rf]at hk ⊢;by_cases g:(Sum.inl k:Key)=.inl ((m+1+j:Nat):Int)
     ·rw[if_pos g];exact#v[_,rfl,Nat.and_lt_two_pow _ (yM (Zq8 _) z2l)]
     ·rw[if_neg g]at hk ⊢;exact b3 k hk
    ·intro j' p' f hr hs hj;rcases Sh (W6 hj) with g|g
     ·obtain⟨a1,a2,g1,g2,g3⟩:=B j' p' f hr hs g;exact#v[a1,a2,keep g1,keep g2,keep g3]
     ·have:j'=j:=⋯;subst this;rw[hp]at f;cases f;exact#v[z1,z2,keep hv1,keep hv2,by rw[rf,if_pos rfl]]
    ·intro k hk;rw[rf]at hk;by_cases g:(Sum.inl k:Key)=.inl ((m+1+j:Nat):Int)
     ·have:=Sum.inl.inj g;exact .inr ⋯
     ·rw[if_neg g]at hk;exact up k hk
   ·rintro σ M ⟨I,kvs,L,v6,v7,v8,v9,J,h3,l3,b3,x,B,v,rfl⟩;walk_at"";have ht:((n:Int)+1).toNat=n+1:=⋯;rw[ht]at B;obtain⟨z,hz',_⟩:=b3 n (ZK x B u (MF.yS ⋯) ⋯);exact q d kvs z M I h3 b3 x B hz'
def Zhm(_:aE):Sp:=λvs H Q _=>∃(d cp:Ad) (m n:Nat) (es:List En) (C:List Nat),vs=[.ref d,.ref cp,.int n]/\lA H d m es/\H cp=Aa (.lst ((cA C).map V.int))/\MF.Ok m (aP es)/\MF.qk m (aP es) n (cA C)=Ai/\C.length<=6/\m<n/\n<m+1+es.length/\m+1+es.length<=1000 /\
 ∀c,bL H c->Q (.bl Ai) c
abbrev Zjg(K:aE):TS:=(aV (li (uf K "list" uR (aA 3) (aC (aK (dA kF λi j=>.int (i/j)) (aK (eJ K) (aK (eJ K) (aA 0) (aA 5)) (tC (.int 0))) (tC (.int 2))) aI)))
  (li (uf K "list" uR (aA 3) (aC (aK (dA kF λi j=>.int (i/j)) (aK (eJ K) (aK (eJ K) (aA 0) (aA 5)) (tC (.int 1))) (tC (.int 2))) aI))))
abbrev Zjf(K:aE):TS:=(aV (eK (cO (aK yP (aK (eJ K) (aA 0) (aA 5)) (tC .non))) (cY (tC (.bl Ah))) fI)
  (aV (rF (aA 4) (aA 5) (tC (.bl Ai)))
  (bN (Zjg K))))
abbrev Zje(K:aE):TS:=(aV (cK (wa K "list" yf (aA 3)) (aU 5))
  (aV (eK (lE (cO (aK (QM K Ah) (aA 5) (aA 1))) (cO (wP (aA 5) (aA 4)))) zz fI)
  (bN (Zjf K))))
abbrev Zjd(K:aE):TS:=(aV (yN (cO (aK (cZ λi j=>.bl (decide (j<i))) (dF (k9 K) (aC (aA 3) aI)) (tC (.int 0)))) (bN (Zje K)))
  (cY (tC (.bl Ai))))
def V4(K:aE):TS:=(aV (cK (iP (yZ K (aK (eJ K) (aA 0) (aA 2))) 1 [] (aU 0) kt (aK (dA kF λi j=>.int (i/j)) (aA 0) (tC (.int 2)))) (aU 3))
  (aV (cK vR (aU 4))
  (bN (Zjd K))))
theorem Zlo(T:Txt K mg a):TM P w K mg base 0 "_law_stops" Ir WI a.iX (V4 K):=
 λhr=>(aX (HS (i:=3) (N:=["_law_low_or_high"]) (k:=1) (sel:=[]) (aY.of (bZ Ir).names ∅) (bI.of WI ∅) rfl (YT (eQ eP (cv 0) (cv 2))) (λ_ _ _ _=>(dN 0 (show kK (["_law_low_or_high"]:List Str) by decide +kernel))) (λ_ _ _ _=>p0) (λ_ _ _ _=>(bK kP (cv 0) aR)) Qz.nd rfl (by walk_at"o") rfl)
   (aX (dL 4 Qz.nd zd)
   (bX (aX (SA PassesOwn.never (eE wM (eV lS (by rfl) T.bR PySem.boot_len (aD (cv 3) aM)) aR) (bX (aX (dL 5 Qz.nd (UO sZ Zwh Zwi (sS ZtC) (cv 3)))
   (aX (fC (PW.pt (mw (eE Qn (cv 5) (cv 1) (by with_unfolding_all rfl)) (rH (sW (G2 (fP hr) (cv 5) (cv 4)))))) (bD Znb) fO)
   (bX (aX (fC (eE tN (eQ eP (cv 0) (cv 5)) rl) (bD (dM kH)) fO)
   (aX (tj (fP hr) (cv 4) (cv 5) kH rfl)
   (bX (aX (l0 (u0 sZ vS vz (sS uG) (cv 3) (aD (bK kP (eQ eP (eQ eP (cv 0) (cv 5)) aR) aR) aM)))
   (bD (l0 (u0 sZ vS vz (sS uG) (cv 3) (aD (bK kP (eQ eP (eQ eP (cv 0) (cv 5)) aR) aR) aM)))))))))))))
   (bD (dM kH))))))
theorem ZlX(T:Txt K mg a):a0 P w K mg base fD 1 a.iX a.mv tD (Zhm K):=by
 refine T.ms.n.gJ Qz (Zlo T) (λvs H Q E h=>?_) (λH vs Q E h=>?_)
 ·obtain⟨lp,cp,m,n,es,C,rfl,_⟩:=h;rfl
 ·obtain⟨lp,cp,m,n,es,C,rfl,hP,hC,ok,Gd,c6,mn,nl,hz,q⟩:=h;show V4 K _ [Aa (.ref lp),Aa (.ref cp),Aa (.int n),Ae,Ae,Ae] H;unfold V4;have big:=kQ;have hlen:(cA C).length=C.length:=aQ ..;have wn:(aP es).length=es.length:=aQ ..;obtain⟨⟨k1,k2',k3⟩,hris',hhang,Z⟩:=(MF.RB ..).mp Gd;obtain⟨j,rfl⟩:∃j,n=m+1+j:=#v[n-m-1,⋯];obtain⟨e,he⟩:∃e,es[j]? = Aa e:=#v[_,eF ⋯];have hp:(aP es)[j]? = Aa e.2:=by unfold aP;rw[gX,he];rfl
  obtain⟨o1,o2,o3,o4⟩:=ok j e.2 hp;have ht:=hP.tup e (jP he);have R0:MF.eH (cA C) (m+1+j)=Ah:=decide_eq_false k3;have rc:=MF.F6 ok [2*((m+1+j:Nat):Int)] hp (MF.yS ⋯) R0;walk_at"";refine#v[_,_,.inl (.of hP.lst),wx (Hw he),?_];walk_at"";refine#v[#v[_,.of ht],Zrs (λv=>match v with|.int x=>.int (x/2)|_=>.non) (.of ht) rfl (by show 2<=sizeLine;decide) (λv H' Q' hv s' q'=>?_) λr H1 n1=>?_]
  ·have:v=.int e.2.1\/v=.int e.2.2:=by simpa using hv
   rcases this with rfl|rfl <;> walk_at"" <;> exact q'
  walk_at"";intro d H2 n2;have S:r≠d:=dW n1.at_ n2.cL
  walk_at"";obtain⟨N,hN⟩:∃N:Nat,N=m+1+es.length:=#v[_,rfl];refine#v[λmm σ G=>bL H G/\∃(ks l:List Nat) (kvs:List (Key×V)) (v5:Option V),G r=Aa (.lst (ks.map nv))/\G d=Aa (.dK kvs)/\(∀k∈ks,MF.gF (MF.eH (cA C)) m (aP es) [2*((m+1+j:Nat):Int)] k=Ai)/\l.Nodup/\(∀k∈l,k<N)/\kvs.length<=l.length/\(∀x:Int,(bQ kvs (.inl x)).isSome=decide (x∈cA l))/\ks.length<=l.length+2/\mm=3*(N-l.length)+ks.length/\σ=[Aa (.ref lp),Aa (.ref cp),Aa (.int ((m+1+j:Nat):Int)),Aa (.ref r),Aa (.ref d),v5],#v[_,n1.same.trans n2.same,[(e.2.1/2).toNat,(e.2.2/2).toNat],[],[],_,?_,n2.at_,?_,.nil,λk hk=>by simp at hk,bV _,λx=>by simp[bQ,cA],bV _,rfl,rfl],?_]
  ·rw[n2.same _ _ n1.at_];show Aa (HO.lst [V.int (e.2.1/2),V.int (e.2.2/2)])=Aa (HO.lst [nv (e.2.1/2).toNat,nv (e.2.2/2).toNat]);unfold nv;rw[show(((e.2.1/2).toNat:Nat):Int)=e.2.1/2 by omega,show(((e.2.2/2).toNat:Nat):Int)=e.2.2/2 by omega]
  ·intro k hk;have:k=(e.2.1/2).toNat\/k=(e.2.2/2).toNat:=by simpa using hk
   rcases this with rfl|rfl
   ·exact rc.1
   ·exact rc.2
  rintro mm σ G ⟨s3,ks,l,kvs,v5,h3,d3,r3,R,b3,l3,k3',hkk,hmm,rfl⟩;have Zd:=xz R b3;have hP3:=hP.same s3;walk_at"";refine .inl #v[_,.inl (.of h3),?_];rw[aQ];rcases VT ks with rfl|⟨c,k,rfl⟩
  ·walk_at"";exact q G s3
  rw[Sa]at *;have IS:(c++[k]).length=c.length+1:=by simp
  rw[if_pos ⋯];refine TB λW hW=>?_;have Y:H r=Ae:=n1.cL;have fd:H d=Ae:=n1.same.nil n2.cL;have O:=r3 k (by simp);have s4:bL H (upd G r (.lst ((c++[k]).map nv).dropLast)):=s3.put Y;have A:upd G r (.lst ((c++[k]).map nv).dropLast) r=Aa (.lst (c.map nv)):=by rw[cN,fN];simp
  have J:upd G r (.lst ((c++[k]).map nv).dropLast) d=Aa (.dK kvs):=by rw[bE S.symm];exact d3
  walk_at"";refine#v[.inl #v[by trivial,_,.of h3],r,_,nv k,rfl,trivial,h3,by rw[fN];simp,?_];generalize upd G r (.lst ((c++[k]).map nv).dropLast)=H4 at s4 A J ⊢;have hP4:=hP.same s4;walk_at"";have X:∀{I:Hp}{v5:Option V} (y f:List Nat) (t:List (Key×V)),bL H I->I r=Aa (.lst (y.map nv))->I d=Aa (.dK t)->(∀k∈y,MF.gF (MF.eH (cA C)) m (aP es) [2*((m+1+j:Nat):Int)] k=Ai)->f.Nodup->(∀k∈f,k<N)->t.length<=f.length->(∀x:Int,(bQ t (.inl x)).isSome=decide (x∈cA f))->y.length<=f.length+2->3*(N-f.length)+y.length<mm->W [Aa (.ref lp),Aa (.ref cp),Aa (.int ((m+1+j:Nat):Int)),Aa (.ref r),Aa (.ref d),v5] I:=λy f t a1 a2 a3 a4 a5 a6 a7 a8 a9 a10=>hW _ _ #v[_,a10,a1,y,f,t,_,a2,a3,a4,a5,a6,a7,a8,a9,rfl,rfl];have r4:∀x∈c,MF.gF (MF.eH (cA C)) m (aP es) [2*((m+1+j:Nat):Int)] x=Ai:=λx hx=>r3 x (qe _ hx);have U:W [Aa (.ref lp),Aa (.ref cp),Aa (.int ((m+1+j:Nat):Int)),Aa (.ref r),Aa (.ref d),Aa (nv k)] H4:=X c l kvs s4 A J r4 R b3 l3 k3' ⋯ ⋯;refine#v[_,.inl (.of (s4 _ _ hC)),rfl,by simp[om],?_];have ein:Hs (nv k) ((cA C).map V.int)=decide ((k:Int)∈cA C):=Zoc ..;rw[ein];by_cases L:(k:Int)∈cA C
  ·rw[if_pos (decide_eq_true L)];exact U
  rw[if_neg (by rw[decide_eq_false L];exact mQ)];refine#v[d,_,rfl,gS.k (k:=.inl (k:Int)) J,?_];rw[k3'];by_cases M:(k:Int)∈cA l
  ·rw[if_pos (decide_eq_true M)];exact U
  rw[if_neg (by rw[decide_eq_false M];exact mQ)];have hks:MF.eH (cA C) k=Ah:=decide_eq_false L;have Zza:=(Z k O).resolve_right L;obtain⟨i,rfl⟩:∃i,k=m+1+i:=#v[k-m-1,⋯]
  have hil:i<(aP es).length:=FY λz=>by rw[MF.U9 ⋯]at O;cases O
  obtain⟨p,u⟩:∃e,es[i]? = Aa e:=#v[_,eF ⋯];have hp':(aP es)[i]? = Aa p.2:=by unfold aP;rw[gX,u];rfl
  obtain⟨p1,p2,p3,p4⟩:=ok i p.2 hp';have ht':=hP4.tup p (jP u);have rc':=MF.F6 ok [2*((m+1+j:Nat):Int)] hp' O hks;walk_at"";refine#v[_,_,.inl (.of hP4.lst),wx (Hw u),?_];walk_at"";rw[if_neg (λz=>nomatch z)];refine#v[d,_,rfl,ry.k (k:=.inl ((m+1+i:Nat):Int)) J ⋯,?_];have s5:bL H (upd H4 d (.dK (eD kvs (.inl ((m+1+i:Nat):Int)) (.bl Ai)))):=s4.put fd;have B:upd H4 d (.dK (eD kvs (.inl ((m+1+i:Nat):Int)) (.bl Ai))) r=Aa (.lst (c.map nv)):=by rw[bE S];exact A
  have hd5:upd H4 d (.dK (eD kvs (.inl ((m+1+i:Nat):Int)) (.bl Ai))) d=Aa (.dK (eD kvs (.inl ((m+1+i:Nat):Int)) (.bl Ai))):=cN;generalize upd H4 d (.dK (eD kvs (.inl ((m+1+i:Nat):Int)) (.bl Ai)))=I at s5 B hd5 ⊢;have hP5:=hP.same s5;have ht5:=hP5.tup p (jP u);walk_at"";refine#v[.inl #v[by trivial,_,.of B],_,_,.inl (.of hP5.lst),wx (Hw u),?_];walk_at"";have q1:(((p.2.1/2).toNat:Nat):Int)=p.2.1/2:=⋯;have q2:(((p.2.2/2).toNat:Nat):Int)=p.2.2/2:=⋯;have ksl:c.length<sizeLine:=⋯;refine#v[_,.int p.2.1,.inr (.of ht5),rfl,#v[by decide,by decide],r,_,_,rfl,rfl,B,by rw[aQ];exact ksl,?_];have s6:bL H (upd I r (.lst (c.map nv++[.int (p.2.1/2)]))):=s5.put Y
  have D:upd I r (.lst (c.map nv++[.int (p.2.1/2)])) r=Aa (.lst ((c++[(p.2.1/2).toNat]).map nv)):=by rw[cN,fN];show _=Aa (HO.lst (c.map nv++[V.int (((p.2.1/2).toNat:Nat):Int)]));rw[q1]
  have hd6:upd I r (.lst (c.map nv++[.int (p.2.1/2)])) d=Aa (.dK (eD kvs (.inl ((m+1+i:Nat):Int)) (.bl Ai))):=by rw[bE S.symm];exact hd5
  generalize upd I r (.lst (c.map nv++[.int (p.2.1/2)]))=H6 at s6 D hd6 ⊢;have wm:=hP.same s6;have ht6:=wm.tup p (jP u);refine#v[.inl #v[by trivial,_,.of D],_,_,.inl (.of wm.lst),wx (Hw u),_,.int p.2.2,.inr (.of ht6),rfl,#v[by decide,by decide],r,_,_,rfl,rfl,D,by rw[aQ,eG,rg];omega,?_];refine X (c++[(p.2.1/2).toNat]++[(p.2.2/2).toNat]) ((m+1+i):: l) _ (s6.put Y) ?_ (by rw[bE S.symm];exact hd6) ?_ ?_ ?_ ?_ ?_ ?_ ?_
  ·rw[cN,fN (l₂:=[(p.2.2/2).toNat])];show _=Aa (HO.lst ((c++[(p.2.1/2).toNat]).map nv++[V.int (((p.2.2/2).toNat:Nat):Int)]));rw[q2]
  ·intro x hx;rcases fG.mp hx with g|g
   ·rcases fG.mp g with g|g
    ·exact r4 x g
    ·rw[dQ]at g;subst g;exact rc'.1
   ·rw[dQ]at g;subst g;exact rc'.2
  ·exact uL.mpr #v[λz=>M (V7.mpr z),R]
  ·intro x hx;rcases iN.mp hx with rfl|g
   ·omega
   ·exact b3 x g
  ·have:=CJ kvs (.inl ((m+1+i:Nat):Int)) (.bl Ai);rw[lG];omega
  ·intro x;rw[rf];by_cases g:(Sum.inl x:Key)=.inl ((m+1+i:Nat):Int)
   ·rw[if_pos g];cases g;unfold cA;simp
   ·rw[if_neg g,k3' x];have:x≠((m+1+i:Nat):Int):=λz=>g (by rw[z]);unfold cA;rw[jF];simp only[iN,this,false_or]
  ·rw[lG,eG,eG,rg,rg];omega
  ·rw[lG,eG,eG,rg,rg]
   have oh:l.length<N:=by
    have:=xz (n:=N) (xs:=(m+1+i):: l) (uL.mpr #v[λz=>M (V7.mpr z),R]) (λx hx=>by
     rcases iN.mp hx with rfl|g
     ·omega
     ·exact b3 x g)
    rw[lG]at this;omega
   omega
structure Pce (m:Nat) (P:List MF.Pr) (s n z:Nat) (C:List Nat):Prop where
 lo:m<n
 hi:n<m+1+P.length
 c1:1<=C.length
 cs:C.length<=s
 cut:MF.qk m P n (cA C)=Ai
 bd:∀c∈C,1<=c/\c<n
 tZ:C.Pairwise (· < ·)
 tel:uH m P n (cA C) z n
def Zho(a:bC)(_:aE):Sp:=λvs H Q _=>∃(f d cp:Ad) (m s n z:Nat) (es:List En) (C:List Nat),vs=[.ref f,.ref d,.int m,.int s]/\H f=Aa (.tup [.int n,.ref cp,.int z])/\H cp=Aa (.lst ((cA C).map V.int))/\lA H d m es/\MF.Ok m (aP es)/\m+1+es.length<=1000/\s<=6/\Pce m (aP es) s n z C /\
 ∀c,bL H c->Q (.bl Ai) c
abbrev Zjo(K:aE):TS:=(eK (lE (lR (kS K (dH (Sc K) [] E0 (aC (aK (eJ K) (aA 5) (aA 7)) aI)))) (lE (lR (cO (wh (cZ λi j=>.bl (decide (i<=j))) (cZ λi j=>.bl (decide (i<j))) (tC (.int 1)) (aK (eJ K) (aA 5) (aA 7)) (aA 4)))) (xp (cO (aK (cZ λi j=>.bl (decide (j<i))) (aA 7) (tC (.int 0)))) (cO (aK (cZ λi j=>.bl (decide (j<=i))) (aK (eJ K) (aA 5) (aK (cZ λi j=>.int (i-j)) (aA 7) (tC (.int 1)))) (aK (eJ K) (aA 5) (aA 7))))))) (cY (tC (.bl Ah))) fI)
abbrev Zjn(K:aE):TS:=(cY (uD (dH (Zhm K) [] E0 (aC (aA 1) (aC (aA 5) (aC (aA 4) aI)))) (aK (mP K) (aA 6) (qV (dH (Zfv K) [] E0 (aC (aA 1) (aC (aA 5) (aC (aA 4) aI)))) (aA 4)))))
abbrev Zjm(K:aE):TS:=(aV (eK (lE (lR (kS K (dH (Sc K) [] E0 (aC (aA 4) aI)))) (lE (lR (kS K (dH (Sc K) [] E0 (aC (aA 6) aI)))) (lE (lR (cO (wh (cZ λi j=>.bl (decide (i<j))) (cZ λi j=>.bl (decide (i<j))) (aA 2) (aA 4) (dF (k9 K) (aC (aA 1) aI))))) (lR (cO (wh (cZ λi j=>.bl (decide (i<=j))) (cZ λi j=>.bl (decide (i<=j))) (tC (.int 1)) (dF (k9 K) (aC (aA 5) aI)) (aA 3))))))) (cY (tC (.bl Ah))) fI)
  (aV (gU (qm (aC (dF (k9 K) (aC (aA 5) aI)) aI)) (aU 7) (bN (Zjo K)))
  (bN (Zjn K))))
def WG(K:aE):TS:=(aV (eK (lE (lR (kS K (dF (wB K) (aC (aA 0) (aC (tC (.ty "tuple")) aI))))) (lE (cO (aK (zS K) (dF (k9 K) (aC (aA 0) aI)) (tC (.int 3)))) (lR (kS K (dF (wB K) (aC (aK (eJ K) (aA 0) (tC (.int 1))) (aC (tC (.ty "list")) aI))))))) (cY (tC (.bl Ah))) fI)
  (aV (cK (aA 0) (zG K 3 (o8 (aU 4) (o8 (aU 5) (o8 (aU 6) xS)))))
  (bN (Zjm K))))
theorem Zlq(T:Txt K mg a):TM P w K mg base 1 "_law_piece" Lu ZiV a.jA (WG K):=
 λhr=>(aX (fC (PW.pt (mw (mU (mV (eV zU (by rfl) T.bJ PyProof.Rows.boot_isinstance (aD (cv 0) (aD (zJ (v:=.ty "tuple") rfl T.lq PyProof.Rows.boot_tuple rfl) aM))))) (mw (eE (tU (lk hr)) (eV lS (by rfl) T.bR PySem.boot_len (aD (cv 0) aM)) aR) (rH (mU (mV (eV zU (by rfl) T.bJ PyProof.Rows.boot_isinstance (aD (eQ eP (cv 0) aR) (aD (zJ (v:=.ty "list") rfl T.fX PyProof.Rows.boot_list rfl) aM))))))))) (bD (dM kH)) fO)
   (aX (Mm (cv 0) (IM rfl (qc (dN 4 J3.nd) (qc (dN 5 J3.nd) (qc (dN 6 J3.nd) Fz)))))
   (bX (aX (fC (PW.pt (mw (mU (mV (dP T.fU (XO T) (hm hr) cG (aD (cv 4) aM)))) (mw (mU (mV (dP T.fU (XO T) (hm hr) cG (aD (cv 6) aM)))) (mw (mU (TK wb wb (cv 2) (cv 4) (eV lS (by rfl) T.bR PySem.boot_len (aD (cv 1) aM)))) (rH (mU (TK zp zp aR (eV lS (by rfl) T.bR PySem.boot_len (aD (cv 5) aM)) (cv 3)))))))) (bD (dM kH)) fO)
   (aX (my PassesOwn.never rfl (uj rfl T.bO (aD (eV lS (by rfl) T.bR PySem.boot_len (aD (cv 5) aM)) aM)) (dN 7 J3.nd) (bX (bD (fC (PW.pt (mw (mU (mV (dP T.fU (XO T) (hm hr) cG (aD (eQ eP (cv 5) (cv 7)) aM)))) (mw (mU (TK zp wb aR (eQ eP (cv 5) (cv 7)) (cv 4))) (rH (PW.pt (Hh (eE wM (cv 7) aR) (ER (eE uq (eQ eP (cv 5) (bK sJ (cv 7) aR)) (eQ eP (cv 5) (cv 7)))))))))) (bD (dM kH)) fO))))
   (bX (bD (dM (yy (dP T.ms (ZlX T) (hm hr) cG (aD (cv 1) (aD (cv 5) (aD (cv 4) aM)))) (yu (zm (nR (lk hr)) (cv 6) (sT (fP hr) (dP T.kq (Zjy T) (hm hr) cG (aD (cv 1) (aD (cv 5) (aD (cv 4) aM)))) (cv 4) (λ_ _=>rfl)) (xI _))))))))))))
theorem ZlZ(T:Txt K mg a):a0 P w K mg base fD 2 a.jA a.mj Dr (Zho a K):=by
 refine T.mH.n.gJ J3 (Zlq T) (λvs H Q E h=>?_) (λH vs Q E h=>?_)
 ·obtain⟨y,r,cp,m,s,n,z,es,C,rfl,_⟩:=h;rfl
 ·obtain⟨y,r,cp,m,s,n,z,es,C,rfl,t,l,v,ok,hz,U,c,q⟩:=h;show WG K _ [Aa (.ref y),Aa (.ref r),Aa (.int m),Aa (.int s),Ae,Ae,Ae,Ae] H;unfold WG;have G:=kQ;have p:(cA C).length=C.length:=aQ ..;have J:(aP es).length=es.length:=aQ ..;walk_at"";refine#v[_,Ai,.tup t,rfl,?_];walk_at"";refine .inl #v[_,.inr (.of t),?_];walk_at"";refine#v[_,_,.inr (.of t),rfl,_,Ai,.lst l,rfl,?_];walk_at"";refine#v[_,_,rfl,.of t,rfl,_,_,rfl,_,_,rfl,_,_,rfl,rfl,?_];refine CG λW L=>?_;walk_at"";refine#v[n,rfl,?_];walk_at"";refine#v[z,rfl,?_];walk_at"";rw[if_neg (by decide),if_pos (by have:=c.lo;omega)];refine .inl #v[_,.inl (.of v.lst),?_];rw[Fk,if_neg (by have:=c.hi;omega)];refine .inl #v[_,.inl (.of l),?_];rw[aQ,p,if_pos (by have:=c.c1;omega),if_neg (by have:=c.cs;omega)];refine L _ _ ?_;walk_at"";refine .inl #v[_,.inl (.of l),?_];rw[aQ,p];have M:=c.cs;refine#v[⋯,⋯,?_];refine vF (λi σ u=>u=H/\∃A:Option V,σ=[Aa (.ref y),Aa (.ref r),Aa (.int m),Aa (.int s),Aa (.int n),Aa (.ref cp),Aa (.int z),A]) #v[rfl,_,rfl] ?_ ?_
  ·rintro i σ u hi ⟨rfl,A,rfl⟩;have f:i<C.length:=⋯;have g:∀{j:Nat} (h:j<C.length),mN ((cA C).map V.int) (j:Int)=Aa (.int (C[j]:Nat)):=λ{j} h=>wx (by unfold cA;rw[gX,gX,eF h];rfl);have hb:=c.bd _ (tR f);walk_at"";rw[show(0:Int)+(i:Int)=(i:Int) by omega];refine#v[_,_,.inl (.of l),g f,C[i],rfl,?_];walk_at"";refine#v[_,_,.inl (.of l),g f,?_];walk_at"";rw[if_pos ⋯,if_neg ⋯];by_cases i0:(0:Int)<(i:Int)
   case neg=>rw[if_neg i0];exact#v[trivial,_,rfl]
   rw[if_pos i0];obtain⟨j,rfl⟩:∃j,i=j+1:=#v[i-1,⋯];have hj:j<C.length:=⋯;have hr:=uZ.mp c.tZ j (j+1) hj f ⋯;rw[show((j+1:Nat):Int)-1=(j:Int) by omega];refine#v[_,_,.inl (.of l),g hj,_,_,.inl (.of l),g f,?_];walk_at"go";rw[if_neg ⋯];exact#v[trivial,_,rfl]
  ·rintro σ u ⟨rfl,A,rfl⟩;walk_at"";refine#v[r,cp,m,n,es,C,rfl,v,l,ok,c.cut,⋯,c.lo,by have:=c.hi;omega,hz,λS x=>?_];walk_at"";refine#v[r,cp,m,n,es,C,rfl,v.same x,x _ _ l,ok,c.cut,⋯,c.tZ,c.lo,by have:=c.hi;omega,hz,λd kvs R D O h4 b4 I N B=>?_];have ez:=Znp b4 I N ok c.tel B;walk_at"";refine#v[d,.int R,rfl,by have:=gS.k (k:=.inl (n:Int)) h4;rw[B]at this;exact this,?_];walk_at"";rw[decide_eq_true ⋯];exact q D (x.trans O)
def Z9(a:bC)(K:aE):Sp:=λvs H Q _=>∃(f dx pl h g:Ad) (v:V) (m:Nat) (es:List En) (c:List Int),vs=[.ref f,.ref g,v]/\bB a.aB H f m es dx pl h/\MF.Ok m (aP es)/\1<=m/\m<=10/\m+1+es.length<=1000/\cB K H g (c.map V.int)/\1<=c.length/\c.length<=100/\(∀t∈c,0<=t/\t<2*(m+1+es.length))/\wC H v/\qT v=Ah /\
 ∀d,bL H d->Q (.bl Ai) d
def Vx(a:bC)(K:aE):TS:=(aV (Ho (λc=>(li (Zq (Vr a K) [] c (aC (aA 0) (aC (dF (yk K) (aC (aA 1) aI)) (aC (aA 2) aI)))))) (Ml K a.aW (Vf 3 (cY (uD (dF (vf K) (aC (aA 3) (aC (tC (.ref a.bA)) aI))) (uD (dF (vf K) (aC (aA 3) (aC (tC (.ty "ValueError")) aI))) (EV (dF (vf K) (aC (aA 3) (aC (pM (aC (tC (.ref a.aS)) (aC (tC (.ref a.bS)) (aC (tC (.ref a.dJ)) aI)))) aI)))))))) (Ml K a.bA (λ_ _=>(cY (tC (.bl Ah)))) EH)))
  (cY (tC (.bl Ah))))
theorem Zi0(T:Txt K mg a):TM P w K mg base 8 "_law_no_size" Pi ZgG a.gG (Vx a K):=
 λhr=>(aX (Gz #v[rfl,rfl] (λ_ c=>(bD (l0 (ZsB Hn (ZqC T) (hm hr) rfl T.nL.m T.nL.n.kp T.nL.b .nil (aD (cv 0) (aD (re J6 (by rfl) T.fX PyProof.Rows.boot_list (aD (cv 1) aM)) (aD (cv 2) aM))))))) (Pk (i:=3) T.jO rfl T.oP Zfw.nd rfl rfl (λ_=>(bD (dM (yy (eV X4 (by rfl) T.bJ PyProof.Rows.boot_isinstance (aD (cv 3) (aD (Ik (v:=.ref a.bA) rfl T.lm rfl) aM))) (yy (eV X4 (by rfl) T.bJ PyProof.Rows.boot_isinstance (aD (cv 3) (aD (zJ (v:=.ty "ValueError") rfl T.oo ZiO rfl) aM))) (yu (YX (eV X4 (by rfl) T.bJ PyProof.Rows.boot_isinstance (aD (cv 3) (aD (sI (aD (Ik (v:=.ref a.aS) rfl T.jT rfl) (aD (Ik (v:=.ref a.bS) rfl T.qH rfl) (aD (Ik (v:=.ref a.dJ) rfl T.su rfl) aM)))) aM)))))))))) (ZuT T.hY rfl T.lm (λ_=>(bD (dM kH))) Ef)))
   (bD (dM kH)))
theorem Zjx(T:Txt K mg a):a0 P w K mg base fD 9 a.gG a.ko GK (Z9 a K):=by
 refine T.kk.n.gJ Zfw (Zi0 T) (λvs H Q E h=>?_) (λH vs Q E h=>?_)
 ·obtain⟨f,dx,pl,r,u,v,m,es,c,rfl,_⟩:=h;rfl
 ·obtain⟨f,dx,pl,r,u,v,m,es,c,rfl,hf,ok,m1,j,hn,z,B,d,i,hv,hsz,q⟩:=h;show Vx a K _ [Aa (.ref f),Aa (.ref u),Aa v,Ae] H;unfold Vx;have y:=kQ;walk_at"";refine#v[_,.inl z,λl C g=>?_];refine#v[f,dx,pl,r,l,v,m,es,c,rfl,hf.same g.same,ok,m1,j,hn,g.at_,B,d,i,hv.same g.same,λs e t G=>?_,λ_ e D t he=>#v[e,_,rfl,rfl,T.jO,?_]]
  ·subst e;unfold qT wH at hsz;have:=of_decide_eq_false hsz;exfalso;omega
  rw[T.eI];have A:=(g.same.trans t).trans (kO (o:=xo e a.aW) he);walk_at"";refine#v[a.aW,Ai,cN,T.gL,.inl T.jX,?_];walk_at"";refine#v[a.aW,Ai,cN,T.gL,T.lU,?_];walk_at"";refine#v[by show 3<=sizeLine;decide,λp x k=>#v[a.aW,Ah,k.same _ _ cN,T.gL,.inr #v[[a.aS,a.bS,a.dJ],k.at_,?_],?_]]
  ·simp only[jF,yB,PySem.W.kitAny,T.lN,T.eR,T.ly]
  exact q x (A.trans k.same)
def sv(k:Int):Key×V:=(.inl k,.bl Ai)
def wo(ks:List Int)(k:Int):List Int:=if k∈ks then ks else ks++[k]
theorem Zqo(ks:List Int)(k:Int):eD (ks.map sv) (.inl k) (.bl Ai)=(wo ks k).map sv:=by
 unfold eD wo
 have ea:((ks.map sv).any λd=>decide (d.1=(.inl k:Key)))=decide (k∈ks):=by
  induction ks with
  |nil=>simp
  |cons x r ih=>
   rw[jF,IF,ih];by_cases e:x=k
   ·subst e;simp[sv]
   ·have c:¬k=x:=λz=>e z.symm;simp[sv,e,c]
 by_cases h:k∈ks
 ·rw[if_pos (by rw[ea];exact decide_eq_true h),if_pos h,iR];refine ym λx _=>?_;show(if(sv x).1=(.inl k:Key) then((sv x).1,V.bl Ai) else sv x)=sv x;split <;> rfl
 ·rw[if_neg (by rw[ea,decide_eq_false h];exact mQ),if_neg h,fN];rfl
theorem Zpu(x:Int):∀ks:List Int,(bQ (ks.map sv) (.inl x)).isSome=decide (x∈ks)
 |[]=>by simp[bQ]
 |k::r=>by
  rw[jF];show(bQ (((.inl k:Key),V.bl Ai):: r.map sv) (.inl x)).isSome=_;by_cases e:k=x
  ·subst e;rw[rn rfl];simp
  ·rw[rx (λz=>e (Sum.inl.inj z)),Zpu x r];have c:¬x=k:=λz=>e z.symm;simp[c]
theorem Zn5:x∈wo ks k ↔ x∈ks\/x=k:=by
 unfold wo;split
 ·rename_i h;exact#v[.inl,λz=>z.elim id λe=>by rw[e];exact h]
 ·simp
theorem ZjK(h:ks.Nodup):(wo ks k).Nodup:=by
 unfold wo;split
 ·exact h
 ·rename_i hk;rw[HM];exact#v[h,by simp,λa ha b hb e=>hk (by rw[dQ]at hb;rw[<-hb,<-e];exact ha)]
theorem Zn7(ks:List Int)(k:Int):(wo ks k).length<=ks.length+1:=by
 unfold wo;split
 ·omega
 ·rw[eG];exact bV _
theorem VS:∀{xs ys:List Int},xs.Nodup->(∀x∈xs,x∈ys)->xs.length<=ys.length
 |[],_,_,_=>rE _
 |x::r,ys,nd,h=>by have hx:=h x (uh ..);have c:=uL.mp nd;have:=VS (xs:=r) (ys:=ys.erase x) c.2 λy hy=>(List.mem_erase_of_ne (λe=>c.1 (by rw[<-e];exact hy))).mpr (h y (sC _ hy));rw[ZxY hx]at this;have:=ZxZ hx;rw[lG];omega
def Zhn(a:bC)(K:aE):Sp:=λvs H Q _=>∃(l h g:Ad) (ts:List (Ad×Ad)) (d:List Pc) (c:List Int) (m s:Nat) (es:List En),vs=[.ref l,.ref h,.ref g,.int m,.int s]/\hQ H l ts d.reverse/\H h=Aa (.lst (c.map V.int))/\lA H g m es/\MF.Ok m (aP es)/\m+1+es.length<=1000/\s<=6/\d.length<=1000/\c.length<=100/\Laid m (aP es) s c d /\
 ∀f,bL H f->Q (.bl Ai) f
abbrev Zjl(a:bC)(K:aE):TS:=(aV (cK (aK (eJ K) (aA 8) (tC (.int 0))) (aU 7))
  (gU (jV K (aK (eJ K) (aA 8) (tC (.int 1)))) (aU 9) (rF (aA 5) (aA 9) (tC (.bl Ai)))))
abbrev Zjk(a:bC)(K:aE):TS:=(aV (eK (lE (lR (kS K (dH (Zho a K) [] E0 (aC (aA 8) (aC (aA 2) (aC (aA 3) (aC (aA 4) aI))))))) (lE (cO (uU (aK (eJ K) (aA 8) (tC (.int 0))) (aA 5))) (cO (aK (cZ λi j=>.bl (decide (j<=i))) (aK (eJ K) (aA 8) (tC (.int 0))) (aA 7))))) (cY (tC (.bl Ah))) fI)
  (bN (Zjl a K)))
abbrev Zjj(a:bC)(K:aE):TS:=(cY (aK (mP K) (dF (k9 K) (aC (iP (Zm (aA 5)) 1 [3] (aU 0) (cO (aK (cZ λi j=>.bl (decide (j<i))) (aA 0) (aA 1))) (aA 0)) aI)) (dF (k9 K) (aC (aA 0) aI))))
abbrev Zji(a:bC)(K:aE):TS:=(aV (cK (dF (k9 K) (aC (aA 2) aI)) (aU 7))
  (aV (gU (VN K (aC (aA 0) aI)) (aU 8) (bN (Zjk a K)))
  (bN (Zjj a K))))
abbrev Zjh(a:bC)(K:aE):TS:=(aV (gU (jV K (aA 1)) (aU 6) (rF (aA 5) (aK (dA kF λi j=>.int (i/j)) (aA 6) (tC (.int 2))) (tC (.bl Ai))))
  (bN (Zji a K)))
def Vw(a:bC)(K:aE):TS:=(aV (eK (lR (kS K (dF (wB K) (aC (aA 0) (aC (tC (.ty "list")) aI))))) (cY (tC (.bl Ah))) fI)
  (aV (cK vR (aU 5))
  (bN (Zjh a K))))
theorem Zlp(T:Txt K mg a):TM P w K mg base 2 "_law_right" Iu T6 a.iV (Vw a K):=
 λhr=>(aX (fC (mU (mV (eV zU (by rfl) T.bJ PyProof.Rows.boot_isinstance (aD (cv 0) (aD (zJ (v:=.ty "list") rfl T.fX PyProof.Rows.boot_list rfl) aM))))) (bD (dM kH)) fO)
   (aX (dL 5 GP.nd zd)
   (bX (aX (my PassesOwn.never rfl (lH (cv 1)) (dN 6 GP.nd) (bD (tj (fP hr) (cv 5) (bK kP (cv 6) aR) kH rfl)))
   (bX (aX (dL 7 GP.nd (eV lS (by rfl) T.bR PySem.boot_len (aD (cv 2) aM)))
   (aX (my PassesOwn.never rfl (ZuS rfl T.qy (aD (cv 0) aM)) (dN 8 GP.nd) (bX (aX (fC (PW.pt (mw (mU (mV (dP T.mH (ZlZ T) (hm hr) cG (aD (cv 8) (aD (cv 2) (aD (cv 3) (aD (cv 4) aM))))))) (mw (sW (wF (fP hr) (eQ eP (cv 8) aR) (cv 5))) (rH (eE uq (eQ eP (cv 8) aR) (cv 7)))))) (bD (dM kH)) fO)
   (bX (aX (dL 7 GP.nd (eQ eP (cv 8) aR))
   (bD (my PassesOwn.never rfl (lH (eQ eP (cv 8) aR)) (dN 9 GP.nd) (bD (tj (fP hr) (cv 5) (cv 9) kH rfl)))))))))
   (bX (bD (dM (zm (nR (lk hr)) (eV lS (by rfl) T.bR PySem.boot_len (aD (oZ (N:=yT) (k:=1) (sel:=[3]) (aY.of (bZ Iu).names ∅) (bI.of T6 ∅) rfl (Ow (cv 5)) (λ_ _ _ _=>(dN 0 (show kK (yT:List Str) by decide +kernel))) (λ_ _ _ _=>(yF (eE wM (cv 0) (cv 1)))) (λ_ _ _ _=>(cv 0))) aM)) (eV lS (by rfl) T.bR PySem.boot_len (aD (cv 0) aM)) (xI _))))))))))))
theorem ZlY(T:Txt K mg a):a0 P w K mg base fD 3 a.iV a.mx DM (Zhn a K):=by
 refine T.mo.n.gJ GP (Zlp T) (λvs H Q E h=>?_) (λH vs Q E h=>?_)
 ·obtain⟨l,tp,U,ts,u,r,m,s,es,rfl,_⟩:=h;rfl
 ·obtain⟨l,tp,U,ts,u,r,m,s,es,rfl,S,hT,hP,ok,hz,s6,ql,tl,A,q⟩:=h;show Vw a K _ [Aa (.ref l),Aa (.ref tp),Aa (.ref U),Aa (.int m),Aa (.int s),Ae,Ae,Ae,Ae,Ae] H;unfold Vw;have big:=kQ;have wn:(aP es).length=es.length:=aQ ..;walk_at"";refine#v[_,Ai,.lst S.lst,rfl,?_];walk_at"";intro d H1 X;walk_at"";have Kt:=X.same _ _ hT;refine#v[#v[_,.of Kt],vu (xs:=r.map V.int) (λi σ Y=>bL H Y/\∃(ks:List Int) (B:Option V),Y d=Aa (.dK (ks.map sv))/\ks.Nodup/\ks.length<=i/\(∀x,x∈ks ↔ x∈(r.take i).map λt=>t/2)/\σ=[Aa (.ref l),Aa (.ref tp),Aa (.ref U),Aa (.int m),Aa (.int s),Aa (.ref d),B,Ae,Ae,Ae]) #v[X.same,[],_,X.at_,.nil,bV _,λx=>by simp,rfl] ?_ ?_ ?_]
  ·rintro i σ Y _ ⟨L,_⟩;exact .of (L _ _ hT)
  ·rintro i v σ Y hv ⟨L,ks,B,h2,G,l2,m2,rfl⟩;obtain⟨t,ht,rfl⟩:=uc hv;have hil:=(dS.mp ht).1;walk_at"";refine#v[d,_,rfl,ry.k (k:=.inl (t/2)) h2 (by rw[aQ];omega),L.put X.cL,wo ks (t/2),_,by rw[cN,Zqo],ZjK G,by have:=Zn7 ks (t/2);omega,λx=>?_,rfl];rw[Zn5,m2,pJ,ht,fN];simp
  rintro σ Y ⟨L,ks,B,h2,G,l2,m2,rfl⟩;rw[aQ]at l2 m2;rw[rC]at m2;walk_at"";refine .inl #v[_,.inl (.of (hP.same L).lst),?_];rw[Fk];walk_at"";have hL2:=S.same L;refine#v[l,_,rfl,.of hL2.lst,?_];have hql:ts.length=u.length:=by rw[S.len,zN]
  refine ZsY (λi σ Z=>bL H Z/\∃(ks:List Int) (la:Int) (B v8 O:Option V),Z d=Aa (.dK (ks.map sv))/\ks.Nodup/\ks.length<=100+6*i/\(∀x,x∈ks ↔ x∈vO r (u.take i))/\(∀p,u[i]? = Aa p->p.1<la)/\σ=[Aa (.ref l),Aa (.ref tp),Aa (.ref U),Aa (.int m),Aa (.int s),Aa (.ref d),B,Aa (.int la),v8,O]) #v[L,ks,_,_,_,_,h2,G,⋯,λx=>by rw[m2];unfold vO;simp,λp hp=>?_,rfl] ?_ ?_ ?_
  ·obtain⟨n,z,C,e1,e2,e3,_⟩:=A.pc p (jP hp);omega
  ·rintro i σ Z _ ⟨M,_⟩;exact .of (S.same M).lst
  ·rintro i v σ Z hi hv ⟨M,ks,la,B,v8,O,h3,I,l3,m3,la3,rfl⟩;rw[aQ]at hi hv;have hL3:=S.same M;have hP3:=hP.same M;obtain⟨t,ht,rfl⟩:=uc hv;obtain⟨p,hp⟩:∃p,u[i]? = Aa p:=#v[_,eF ⋯]
   have hpr:u.reverse[ts.length-1-i]? = Aa p:=by rw[Vl ⋯,show u.length-1-(ts.length-1-i)=i by omega];exact hp
   obtain⟨g1,g2⟩:=hL3.at_ _ t p ht hpr
   obtain⟨n,z,C,e1,e2,e3,e4,e5,e6,e7,e8,e9,e10,e11⟩:=A.pc p (jP hp);rw[e1,e5]at g1;rw[e4]at g2;have hin:=(m3 _).mpr (A.Im i p hp);have Ni:=la3 p hp;rw[e1]at hin Ni;walk_at"";refine#v[t.1,U,t.2,m,s,n,z,es,C,rfl,g1,g2,hP3,ok,hz,s6,#v[e2,e3,e6,e7,e8,e9,e10,e11],λH4 N=>?_];have y:=N _ _ g1;have h4:=N _ _ h3;walk_at"";refine#v[_,_,.inr (.of y),rfl,d,_,rfl,gS.k (k:=.inl (n:Int)) h4,?_];rw[Zpu,decide_eq_true hin];walk_at"";refine#v[_,_,.inr (.of y),rfl,?_];walk_at"";rw[if_neg ⋯];walk_at"";have s34:=M.trans N;have ZR:=N _ _ g2;have hCl:(cA C).length=C.length:=aQ ..;refine#v[_,_,.inr (.of y),rfl,_,_,.inr (.of y),rfl,#v[_,.of ZR],vu (xs:=(cA C).map V.int) (λj σ R=>bL H R/\R t.2=Aa (.lst ((cA C).map V.int))/\∃(f:List Int) (O:Option V),R d=Aa (.dK (f.map sv))/\f.Nodup/\f.length<=100+6*i+j/\(∀x,x∈f ↔ x∈ks\/x∈(cA C).take j)/\σ=[Aa (.ref l),Aa (.ref tp),Aa (.ref U),Aa (.int m),Aa (.int s),Aa (.ref d),B,Aa (.int n),Aa (.ref t.1),O]) #v[s34,ZR,ks,_,h4,I,⋯,λx=>by simp,rfl] ?_ ?_ ?_]
   ·rintro j σ R _ ⟨_,g5,_⟩;exact .of g5
   ·rintro j v σ R hv ⟨s5,g5,f,O,h5,J,l5,m5,rfl⟩;obtain⟨c,hc,rfl⟩:=uc hv;have QF:=(dS.mp hc).1;walk_at"";refine#v[d,_,rfl,ry.k (k:=.inl c) h5 (by rw[aQ];omega),s5.put X.cL,by rw[bE (fS g5 h5 (λz=>nomatch z))];exact g5,wo f c,_,by rw[cN,Zqo],ZjK J,by have:=Zn7 f c;omega,λx=>?_,rfl];rw[Zn5,m5,pJ,hc];simp[or_assoc]
   ·rintro σ R ⟨s5,g5,f,O,h5,J,l5,m5,rfl⟩;rw[aQ]at l5 m5;rw[rC]at m5;refine#v[s5,f,_,_,_,_,h5,J,⋯,λx=>?_,λp' D=>?_,rfl]
    ·rw[m5,m3,pJ,hp];unfold vO;rw[Option.toList_some,List.flatMap_append,List.flatMap_singleton,e4,<-oJ,fG (t:=cA C)]
    ·obtain⟨a1,a2⟩:=dS.mp D;obtain⟨b1,b2⟩:=dS.mp hp;have:=uZ.mp A.G0 i (i+1) b1 a1 ⋯;rw[a2,b2]at this;omega
  rintro σ Z ⟨M,ks,la,B,v8,O,h3,I,l3,m3,la3,rfl⟩;rw[aQ,hql,rC]at m3;rw[aQ,hql]at l3;walk_at""
  have el:(ks.filter λk=>decide ((m:Int)<k)).length=u.length:=by
   have hm:∀{x:Int},x∈vO r u->(m:Int)<x->x∈u.map (·.1):=λ{x} hx oh=>by obtain⟨n,rfl⟩:=vP (by omega:0<=x);exact A.all n hx ⋯
   have e1:=VS (xs:=ks.filter λk=>decide ((m:Int)<k)) (ys:=u.map (·.1)) (Oy.filter _ I) λx hx=>by obtain⟨h1,h2⟩:=uA.mp hx;exact hm ((m3 x).mp h1) (of_decide_eq_true h2)
   have e2:=VS (xs:=u.map (·.1)) (ys:=ks.filter λk=>decide ((m:Int)<k)) (OH.mpr (A.G0.imp λh=>by omega)) λx hx=>by
    obtain⟨p,hp,rfl⟩:=fE.mp hx;obtain⟨n,z,C,g1,g2,_⟩:=A.pc p hp;obtain⟨i,hi⟩:=wE.mp hp;refine uA.mpr #v[(m3 _).mpr ?_,decide_eq_true ⋯];have:=A.Im i p hi;unfold vO at this ⊢;rcases fG.mp this with g|g
    ·exact qe _ g
    ·obtain⟨p',D,hc⟩:=Rb.mp g;exact qK _ (Rb.mpr #v[p',CH D,hc])
   rw[aQ]at e1 e2;omega
  refine#v[d,_,rfl,h3,λo=>Zru ks (λk=>decide ((m:Int)<k)) cN (by rw[iR];rfl) rfl ⋯ (λk H' Q' hk s' q'=>?_) (λk H' Q' s' q'=>?_) λp H4 n4=>?_]
  ·walk_at"";exact q'
  ·walk_at"";exact q'
  have N:=(M.put (o:=.frz o (.dK (ks.map sv))) X.cL).trans n4.same;walk_at"";refine .inl #v[_,.inl n4.sq,.inl #v[_,.inl (.of (S.same N).lst),?_]];rw[aQ,aQ,el,decide_eq_true ⋯];exact q H4 N
theorem Sw{K:aE}{xs:List Int}(h1:H p=Aa (.lst (xs.map V.int)))(h2:H q=Aa (.lst (xs.map V.int))):cW K H (n+1) (.ref p) (.ref q):=by refine cW.lst (n:=n) (.of h1) (.of h2) rfl λi y z hy hz=>?_;rw[hy]at hz;cases hz;obtain⟨t,_,rfl⟩:=uc hy;exact .flat rfl
theorem Zrg{K:aE}(h1:hQ H p ts c)(h2:hQ H q us c):cW K H (n+3) (.ref p) (.ref q):=by
 refine cW.lst (n:=n+2) (.of h1.lst) (.of h2.lst) (by rw[aQ,aQ,h1.len,h2.len]) λi y z hy hz=>?_;obtain⟨t,ht,rfl⟩:=uc hy;obtain⟨u,hu,rfl⟩:=uc hz;have hi:i<c.length:=by rw[<-h1.len];exact(dS.mp ht).1
 have hp:=eF hi;obtain⟨d,f⟩:=h1.at_ i t _ ht hp
 obtain⟨b1,b2⟩:=h2.at_ i u _ hu hp
 refine cW.tup (n:=n+1) (.of d) (.of b1) rfl λj y z hy hz=>?_
 match j,hy,hz with
 | 0,hy,hz=>cases hy;cases hz;exact .flat rfl
 | 1,hy,hz=>cases hy;cases hz;exact Sw f b2
 | 2,hy,hz=>cases hy;cases hz;exact .flat rfl
 |j+3,hy,_=>cases hy
theorem Ei{K:aE}(h1:lA H p m es)(h2:H q=Aa (.lst (pT m es))):cW K H 4 (.ref p) (.ref q):=by
 refine cW.lst (n:=3) (.of h1.lst) (.of h2) rfl λi y z hy hz=>?_;rw[hy]at hz;cases hz;rcases lD m i with g|g
 ·obtain⟨j,rfl⟩:∃j,i=m+1+j:=#v[i-m-1,⋯];have hl:=(dS.mp hy).1;rw[Fk]at hl;have he:es[j]? = Aa (es[j]'⋯):=eF _;rw[Hw he]at hy;cases hy;have ht:=h1.tup _ (jP he);refine cW.tup (n:=2) (.of ht) (.of ht) rfl λk y z hy hz=>?_;rw[hy]at hz;cases hz
  have:y=.int (es[j]'⋯).2.1\/y=.int (es[j]'⋯).2.2:=by have:=jP hy;simpa using this
  rcases this with rfl|rfl <;> exact .flat rfl
 ·rw[Zn2 g]at hy;cases hy;exact .flat rfl
theorem sO.Xe(h:sO C H x m j c)(hp:H pl=Aa (.lst xs))(hk:H g=Aa (.dT l))(u:lw pl g H f):sO C f x m j c:=by obtain⟨dx,k,n,ts,h1,h2,h3⟩:=h;have go:∀{b:Ad}{ys:List V},H b=Aa (.tup ys)->f b=Aa (.tup ys):=λe=>u _ _ (fS e hp (λz=>nomatch z)) (fS e hk (λz=>nomatch z)) e;exact#v[dx,k,n,ts,u _ _ (fS h1 hp (λz=>nomatch z)) (fS h1 hk (λz=>nomatch z)) h1,#v[go h2.tup,h2.len,λi t p ht d=>#v[go (h2.at_ i t p ht d).1,go (h2.at_ i t p ht d).2]],go h3]
theorem hQ.Xe(h:hQ H l ts g)(hp:H pl=Aa (.lst xs))(hk:H f=Aa (.dT j))(k:l≠pl)(m:∀t∈ts,t.2≠pl)(u:lw pl f H d):hQ d l ts g:=#v[u _ _ k (fS h.lst hk (λz=>nomatch z)) h.lst,h.len,λi t p ht c=>#v[u _ _ (fS (h.at_ i t p ht c).1 hp (λz=>nomatch z)) (fS (h.at_ i t p ht c).1 hk (λz=>nomatch z)) (h.at_ i t p ht c).1,u _ _ (m t (jP ht)) (fS (h.at_ i t p ht c).2 hk (λz=>nomatch z)) (h.at_ i t p ht c).2]]
def nu(K:aE):Sp:=λvs H Q _=>∃(p:Ad) (ns:List Int),vs=[.ref p]/\cB K H p (ns.map V.int)/\ns.length<=63/\∀c,Q (.bl Ai) c
abbrev Zst(a:bC)(K:aE):TS:=(aV (cK (tC (.int 2)) (aU 2))
  (cK (aK pP (dH (Zf8 a K) [] E0 (aC (aA 3) (aC (tC (.int 550)) aI))) (tC (.int 9))) (aU 4)))
abbrev Zss(a:bC)(K:aE):TS:=(aV (cK (aK (cZ λi j=>.int (i-j)) (aK (cZ λi j=>.int (i-j)) (aK qh (tC (.int 2)) (dF (k9 K) (aC (aA 5) aI))) (tC (.int 1))) (aK (dA (λ_ j=>0<j) λi j=>.int (i%j)) (aK (dA kF λi j=>.int (i/j)) (aA 9) (tC (.int 3))) (dF tK (aC (aK qh (tC (.int 2)) (dF (k9 K) (aC (aA 5) aI))) (aC (tC (.int 9)) aI))))) (aU 10))
  (li (uf K "list" uR (aA 7) (aC (aK (eJ K) (kT (aC (aA 10) (aC (aK (dA (λ_ j=>0<j) λi j=>.int (i%j)) (aK (dA kF λi j=>.int (i/j)) (aA 9) (tC (.int 3))) (aK qh (tC (.int 2)) (dF (k9 K) (aC (aA 5) aI)))) (aC (aK (dA (λ_ j=>0<j) λi j=>.int (i%j)) (aA 9) (tC (.int 4))) aI)))) (aK (dA (λ_ j=>0<j) λi j=>.int (i%j)) (aA 9) (tC (.int 3)))) aI))))
abbrev Zsr(a:bC)(K:aE):TS:=(aV (cK (aK (dA (λ_ j=>0<=j) λi j=>.int (i/2^j.toNat)) (aA 6) (aK qh (tC (.int 7)) (aA 8))) (aU 9))
  (bN (Zss a K)))
abbrev Zsq(a:bC)(K:aE):TS:=(eK (lR (kS K (dH (Z9 a K) [] E0 (aC (aA 3) (aC (aK (eJ K) (kT (aC (aA 7) (aC (kT (Jd [(.int 2),(.int 3),(.int 0)])) aI))) (aK (dA (λ_ j=>0<j) λi j=>.int (i%j)) (aA 6) (tC (.int 2)))) (aC (aA 14) aI)))))) (cY (tC (.bl Ah))) fI)
abbrev Zsp(a:bC)(K:aE):TS:=(cY (uD (aK (mP K) (fQ a.aN "pieces" (UK a K) [] E0 (aA 12) aI) (aA 13)) (aK (mP K) (fQ a.aN "ties" (VI a K) [] E0 (aA 12) aI) (aA 7))))
abbrev Zso(a:bC)(K:aE):TS:=(aV (li (fQ a.aB "both" (xF a K) [] E0 (aA 3) (aC (aK (cZ λi j=>.int (i-j)) (aK qh (tC (.int 2)) (dF (k9 K) (aC (aA 5) aI))) (tC (.int 1))) (aC (tC (.int 2)) aI))))
  (bN (Zsp a K)))
abbrev Zsn(a:bC)(K:aE):TS:=(aV (eK (cO (aK (zS K) (iP (qm (aC (fQ a.aB "total" (qR a K) [] E0 (aA 3) aI) aI)) 1 [3] (aU 0) kt (fQ a.aB "pair" (Dd a K) [] E0 (aA 1) (aC (aA 0) aI))) (aA 5))) (cY (tC (.bl Ah))) fI)
  (bN (Zso a K)))
abbrev Zsm(a:bC)(K:aE):TS:=(aV (gU (jV K (kT (aC (tC (.int 1)) (aC (tC (.int 7)) (aC (tC (.int 0)) (aC (tC (.bl Ai)) (aC (tC .non) (aC (tC (.str "3")) (aC (aK (cZ λi j=>.int (i-j)) (zf zR (tC (.int 1))) (aK (dA (λ_ j=>0<j) λi j=>.int (i%j)) (aA 6) (aK (dA tY λi j=>.int (i^j.toNat)) (tC (.int 10)) (tC (.int 30))))) (aC (aK pP (tC (.int 7)) (aK (dA (λ_ j=>0<j) λi j=>.int (i%j)) (aA 6) (aK (dA tY λi j=>.int (i^j.toNat)) (tC (.int 10)) (tC (.int 30))))) aI)))))))))) (aU 14) (bN (Zsq a K)))
  (bN (Zsn a K)))
abbrev Zsl(a:bC)(K:aE):TS:=(aV (eK (lR (kS K (dH (Zhn a K) [] E0 (aC (aA 13) (aC (aA 7) (aC (aA 5) (aC (aA 1) (aC (aA 2) aI)))))))) (cY (tC (.bl Ah))) fI)
  (bN (Zsm a K)))
abbrev Zqh(a:bC)(K:aE):TS:=(aV (eK (lE (lR (kS K (dF (wB K) (aC (aA 12) (aC (tC (.ref a.aN)) aI))))) (lE (cO (aK (zS K) (kR K (aA 12) "many") (aA 1))) (lE (cO (aK (zS K) (fQ a.aN "ties" (VI a K) [] E0 (aA 12) aI) (aA 7))) (cO (aK (zS K) (aA 11) (aA 7)))))) (cY (tC (.bl Ah))) fI)
  (aV (cK (fQ a.aN "pieces" (UK a K) [] E0 (aA 12) aI) (aU 13))
  (bN (Zsl a K))))
abbrev Zqg(a:bC)(K:aE):TS:=(aV (cK (dF (yk K) (aC (aA 7) aI)) (aU 11))
  (aV (cK (dH (Vr a K) [] E0 (aC (aA 3) (aC (aA 11) (aC (aA 2) aI)))) (aU 12))
  (bN (Zqh a K))))
abbrev Zqf(a:bC)(K:aE):TS:=(aV (gU (qm (aC (aK pP (tC (.int 1)) (aK (dA (λ_ j=>0<j) λi j=>.int (i%j)) (dH (EY K) [] E0 (aC (aA 0) (aC (tC (.int 2)) aI))) (tC (.int 8)))) aI)) (aU 8) (bN (Zsr a K)))
  (bN (Zqg a K)))
abbrev Zqe(a:bC)(K:aE):TS:=(aV (cK (dH (EY K) [] E0 (aC (aA 0) (aC (tC (.int 3)) aI))) (aU 6))
  (aV (cK (kT aI) (aU 7))
  (bN (Zqf a K))))
abbrev Zqd(a:bC)(K:aE):TS:=(aV (cK (dH (ZeA a K) [] E0 (aC (aA 3) (aC (aA 0) (aC (tC (.int 60)) (aC (aA 4) aI))))) (aU 5))
  (bN (Zqe a K)))
abbrev Zqc(a:bC)(K:aE):TS:=(yt (eK (xp (cO (aK (cZ λi j=>.bl (decide (j<i))) (aA 1) (tC (.int 2)))) (cO (aK (mP K) (aK (dA (λ_ j=>0<j) λi j=>.int (i%j)) (aK (dA kF λi j=>.int (i/j)) (dH (EY K) [] E0 (aC (aA 0) (aC (tC (.int 0)) aI))) (tC (.int 6))) (tC (.int 16))) (tC (.int 7))))) (bN (Zst a K)) fI)
  (bN (Zqd a K)))
abbrev Zqb(a:bC)(K:aE):TS:=(aV (cK (aK (eJ K) (kT (Jd [(.int 44),(.int 44),(.int 40),(.int 32),(.int 30)])) (aK (cZ λi j=>.int (i-j)) (aA 2) (tC (.int 2)))) (aU 4))
  (bN (Zqc a K)))
abbrev Zqa(a:bC)(K:aE):TS:=(aV (cK (aK pP (tC (.int 2)) (aK (dA (λ_ j=>0<j) λi j=>.int (i%j)) (dH (EY K) [] E0 (aC (aA 0) (aC (tC (.int 1)) aI))) (tC (.int 5)))) (aU 2))
  (aV (cK (Ll a.aB (Yg a K) [] E0 (aC (aA 1) aI)) (aU 3))
  (bN (Zqb a K))))
def WA(a:bC)(K:aE):TS:=(aV (cK (aK pP (tC (.int 1)) (aK (dA (λ_ j=>0<j) λi j=>.int (i%j)) (dH (EY K) [] E0 (aC (aA 0) (aC (tC (.int 0)) aI))) (tC (.int 6)))) (aU 1))
  (bN (Zqa a K)))
theorem CC(T:Txt K mg a):TM P w K mg base 9 "law" HF Xh a.vg (WA a K):=
 λhr=>(aX (dL 1 qx.nd (bK qO aR (bK oz (dP T.cI (HL T) (hm hr) cG (aD (cv 0) (aD aR aM))) aR)))
   (bX (aX (dL 2 qx.nd (bK qO aR (bK oz (dP T.cI (HL T) (hm hr) cG (aD (cv 0) (aD aR aM))) aR)))
   (aX (dL 3 qx.nd (Xm T.pG (ZhV T) (hm hr) rfl T.wV T.iI.b .nil cG (aD (cv 1) aM)))
   (bX (aX (dL 4 qx.nd (eQ eP (lJ (Pv (vs:=[(.int 44),(.int 44),(.int 40),(.int 32),(.int 30)]) rfl)) (bK sJ (cv 2) aR)))
   (bX (XU (fC (PW.pt (Hh (eE wM (cv 1) aR) (ER (eE (nR (lk hr)) (bK oz (bK kP (dP T.cI (HL T) (hm hr) cG (aD (cv 0) (aD aR aM))) aR) aR) aR)))) (bX (aX (dL 2 qx.nd aR)
   (bD (dL 4 qx.nd (bK qO (dP T.kU (ZkF T) (hm hr) cG (aD (cv 3) (aD aR aM))) aR))))) fO)
   (bX (aX (dL 5 qx.nd (dP T.jN (Zix T) (hm hr) cG (aD (cv 3) (aD (cv 0) (aD aR (aD (cv 4) aM))))))
   (bX (aX (dL 6 qx.nd (dP T.cI (HL T) (hm hr) cG (aD (cv 0) (aD aR aM))))
   (aX (dL 7 qx.nd (lJ aM))
   (bX (aX (my PassesOwn.never rfl (uj rfl T.bO (aD (bK qO aR (bK oz (dP T.cI (HL T) (hm hr) cG (aD (cv 0) (aD aR aM))) aR)) aM)) (dN 8 qx.nd) (bX (aX (dL 9 qx.nd (bK yz (cv 6) (bK rJ aR (cv 8))))
   (bX (aX (dL 10 qx.nd (bK sJ (bK sJ (bK rJ aR (eV lS (by rfl) T.bR PySem.boot_len (aD (cv 5) aM))) aR) (bK oz (bK kP (cv 9) aR) (eV (QD rfl) (by rfl) T.pQ PyProof.Rows.boot_min (aD (bK rJ aR (eV lS (by rfl) T.bR PySem.boot_len (aD (cv 5) aM))) (aD aR aM))))))
   (bD (l0 (u0 sZ vS vz (sS uG) (cv 7) (aD (eQ eP (lJ (aD (cv 10) (aD (bK oz (bK kP (cv 9) aR) (bK rJ aR (eV lS (by rfl) T.bR PySem.boot_len (aD (cv 5) aM)))) (aD (bK oz (cv 9) aR) aM)))) (bK oz (cv 9) aR)) aM)))))))))
   (bX (aX (dL 11 qx.nd (re J6 (by rfl) T.fX PyProof.Rows.boot_list (aD (cv 7) aM)))
   (aX (dL 12 qx.nd (dP T.nL (ZqC T) (hm hr) qj (aD (cv 3) (aD (cv 11) (aD (cv 2) aM)))))
   (bX (aX (fC (PW.pt (mw (mU (mV (eV zU (by rfl) T.bJ PyProof.Rows.boot_isinstance (aD (cv 12) (aD (Ik (v:=.ref a.aN) rfl T.qv rfl) aM))))) (mw (eE (tU (lk hr)) (lB (cv 12)) (cv 1)) (mw (eE (tU (lk hr)) (oR (cv 12) T.dC T.dZ.e (Zgs T) (hm hr) T.dZ.b .nil cG) (cv 7)) (rH (eE (tU (lk hr)) (cv 11) (cv 7))))))) (bD (dM kH)) fO)
   (aX (dL 13 qx.nd (oR (cv 12) T.dC T.dB.e (ZeZ T) (hm hr) T.dB.b .nil cG))
   (bX (aX (fC (mU (mV (dP T.mo (ZlY T) (hm hr) cG (aD (cv 13) (aD (cv 7) (aD (cv 5) (aD (cv 1) (aD (cv 2) aM)))))))) (bD (dM kH)) fO)
   (bX (aX (my PassesOwn.never rfl (lH (lJ (aD aR (aD aR (aD aR (aD kH (aD rl (aD wO (aD (bK sJ (Io Il aR) (bK oz (cv 6) (bK Zi aR aR))) (aD (bK qO aR (bK oz (cv 6) (bK Zi aR aR))) aM)))))))))) (dN 14 qx.nd) (bX (bD (fC (mU (mV (dP T.kk (Zjx T) (hm hr) cG (aD (cv 3) (aD (eQ eP (lJ (aD (cv 7) (aD (lJ (Pv (vs:=[(.int 2),(.int 3),(.int 0)]) rfl)) aM))) (bK oz (cv 6) aR)) (aD (cv 14) aM)))))) (bD (dM kH)) fO))))
   (bX (aX (fC (eE (tU (lk hr)) (oZ (N:=Se) (k:=1) (sel:=[3]) (aY.of (bZ HF).names ∅) (bI.of Xh ∅) rfl (uj rfl T.bO (aD (oR (cv 3) T.aJ T.aF.e (rr T) (hm hr) T.aF.b .nil cG) aM)) (λ_ _ _ _=>(dN 0 (show kK (Se:List Str) by decide +kernel))) (λ_ _ _ _=>p0) (λ_ _ _ _=>(oI (cv 1) T.aJ T.bW.e (KN T) (hm hr) T.bW.b .nil qj (aD (cv 0) aM)))) (cv 5)) (bD (dM kH)) fO)
   (bX (aX (l0 (oI (cv 3) T.aJ T.aZ.e (Gg T) (hm hr) T.aZ.b .nil qj (aD (bK sJ (bK rJ aR (eV lS (by rfl) T.bR PySem.boot_len (aD (cv 5) aM))) aR) (aD aR aM))))
   (bX (bD (dM (yy (zm (nR (lk hr)) (oR (cv 12) T.dC T.dB.e (ZeZ T) (hm hr) T.dB.b .nil cG) (cv 13) (xI _)) (yu (zm (nR (lk hr)) (oR (cv 12) T.dC T.dZ.e (Zgs T) (hm hr) T.dZ.b .nil cG) (cv 7) (xI _))))))))))))))))))))))))))))))))))))
theorem D4(T:Txt K mg a):a0 P w K mg base fD 10 a.vg a.za JT (nu K):=by
 refine T.zh.n.gJ qx (CC T) (λvs H Q E h=>?_) (λH vs Q E h=>?_)
 ·obtain⟨p,ns,rfl,_⟩:=h;rfl
 ·obtain⟨p,ns,rfl,hS,hl,k⟩:=h;show WA a K _ [Aa (.ref p),Ae,Ae,Ae,Ae,Ae,Ae,Ae,Ae,Ae,Ae,Ae,Ae,Ae,Ae] H;unfold WA;have big:=kQ;walk_at"";refine#v[p,ns,0,rfl,hS,λc0 c00=>?_];obtain⟨m,hm⟩:=vP (by omega:0<=1+c0%6);walk_at"";rw[hm];refine#v[p,ns,1,rfl,hS,λc1 c10=>?_];obtain⟨s,hs⟩:=vP (by omega:0<=2+c1%5);walk_at"";rw[hs];refine pG λf dx pl kl H1 s1 ff fp fk f1=>?_;walk_at"";intro mp H2 n2
  obtain⟨y,hmo,mo30,mo44⟩:∃y:Nat,mN [V.int 44,V.int 44,V.int 40,V.int 32,V.int 30] ((s:Int)-2)=Aa (.int y)/\30<=y/\y<=44:=by
   have:(s:Int)-2=0\/(s:Int)-2=1\/(s:Int)-2=2\/(s:Int)-2=3\/(s:Int)-2=4:=⋯;rcases this with e|e|e|e|e <;> rw[e]
   ·exact#v[44,rfl,by decide,by decide]
   ·exact#v[44,rfl,by decide,by decide]
   ·exact#v[40,rfl,by decide,by decide]
   ·exact#v[32,rfl,by decide,by decide]
   ·exact#v[30,rfl,by decide,by decide]
  refine#v[_,.int y,.inl n2.sq,hmo,?_];have s2:=s1.trans n2.same;have f2:=f1.same n2.same;refine Ti (mid (λσ' H'=>∃(es:List En) (s' y:Nat),bL H H'/\bB a.aB H' f m es dx pl kl/\MF.Ok m (aP es)/\m+1+es.length<=y+3/\y<=600/\2<=s'/\s'<=6/\σ'=[Aa (.ref p),Aa (.int m),Aa (.int s'),Aa (.ref f),Aa (.int y),Ae,Ae,Ae,Ae,Ae,Ae,Ae,Ae,Ae,Ae]) ?_ ?_)
  ·intro N hN;have ok0:MF.Ok m (aP []):=λi p hp=>by simp[aP]at hp
   have no:N [Aa (.ref p),Aa (.int m),Aa (.int s),Aa (.ref f),Aa (.int y),Ae,Ae,Ae,Ae,Ae,Ae,Ae,Ae,Ae,Ae] H2:=hN _ _ #v[[],s,y,s2,f2,ok0,by rw[rA];omega,⋯,⋯,⋯,rfl];walk_at"";by_cases h2:(2:Int)<(m:Int)
   case neg=>rw[if_neg h2];exact no
   rw[if_pos h2];refine#v[p,ns,0,rfl,s2.seq hS,λc c0'=>?_];walk_at"";by_cases h7:c/6%16=7
   case neg=>rw[if_neg h7];exact no
   rw[if_pos h7];walk_at"";refine#v[f,dx,pl,kl,m,rfl,f2,⋯,⋯,λes H3 u3 f3 ok3 l3=>?_];walk_at"";exact hN _ _ #v[es,2,m+1+es.length+9,Uw s2 u3 fp fk,f3,ok3,⋯,⋯,by decide,by decide,by rw[show 1+(m:Int)+(es.length:Int)+9=((m+1+es.length+9:Nat):Int) by omega];rfl]
  clear hmo mo30 mo44 hs n2;clear s;rintro σ H3 ⟨es,s,y,s3,f3,ok3,l3,mo6,s2',s6,rfl⟩;walk_at"";refine#v[f,dx,pl,kl,p,m,y,ns,es,rfl,λH' u=>(Uw s3 u fp fk).seq hS,f3,ok3,⋯,⋯,hl,l3,mo6,λes lp H4 u4 f4 ok4 l4 TD h4=>?_];have s4:=Uw s3 u4 fp fk;have wn:(aP es).length=es.length:=aQ ..;have Z:lA H4 lp m es:=#v[h4,f4.iQ.tup];walk_at"";refine#v[p,ns,3,rfl,s4.seq hS,λc3 c30=>?_];walk_at"";intro tp H5 n5;walk_at"";refine#v[p,ns,2,rfl,(s4.trans n5.same).seq hS,λc2 c20=>?_];walk_at"";obtain⟨j,S⟩:∃j:Nat,j=m+1+es.length:=#v[_,rfl];have ftp:H tp=Ae:=s4.nil n5.cL;refine vF (λi σ H6=>bL H4 H6/\∃(d:List Int) (v8 v9 v10:Option V),H6 tp=Aa (.lst (d.map V.int))/\d.length=i/\(∀t∈d,0<=t/\t<2*(j:Int))/\σ=[Aa (.ref p),Aa (.int m),Aa (.int s),Aa (.ref f),Aa (.int y),Aa (.ref lp),Aa (.int c3),Aa (.ref tp),v8,v9,v10,Ae,Ae,Ae,Ae]) #v[n5.same,[],_,_,_,n5.at_,rfl,λt ht=>by simp at ht,rfl] ?_ ?_
  ·rintro i σ H6 hi ⟨s6',d,v8,v9,v10,h6,l6,b6,rfl⟩;have SQ:i<8:=⋯;have wm:=Z.same s6';walk_at"";obtain⟨D,hon⟩:∃D:Int,D=c3/2^(7*(0+(i:Int))).toNat:=#v[_,rfl];have on0:0<=D:=by rw[hon];exact Yo c30 (OP (Int.pow_pos (by decide)))
   rw[<-hon];refine .inl #v[_,.inl (.of wm.lst),?_];rw[Fk,<-S];walk_at"";refine .inl #v[_,.inl (.of wm.lst),?_];rw[Fk,<-S];walk_at"";have a1:=JI (D/3) (show 2*(j:Int)≠0 by omega);have a2:=VM (D/3) (show 0<2*(j:Int) by omega)
   obtain⟨la,Ni,la0,la1⟩:∃la:Int,la=2*(j:Int)-1-D/3%(if(9:Int)<2*(j:Int) then 9 else 2*(j:Int))/\0<=la/\la<2*j:=by
    have pz:0<(if(9:Int)<2*(j:Int) then(9:Int) else 2*(j:Int))/\(if(9:Int)<2*(j:Int) then(9:Int) else 2*(j:Int))<=2*j:=by split <;> omega
    have b1:=JI (D/3) (show(if(9:Int)<2*(j:Int) then(9:Int) else 2*(j:Int))≠0 by omega);have b2:=VM (D/3) pz.1;exact#v[_,rfl,⋯,⋯]
   rw[<-Ni];refine#v[.inl #v[by trivial,_,.of h6],#v[by decide,by decide],.inl #v[_,.inl (.of wm.lst),?_]];rw[Fk,<-S];refine#v[.inl #v[by decide,by decide],⋯,by decide,by show 3<=sizeLine;decide,λp7 H7 n7=>#v[by decide,?_]]
   obtain⟨z,hz,z0,z1⟩:∃z:Int,mN [V.int la,V.int (D/3%(2*(j:Int))),V.int (D%4)] (D%3)=Aa (.int z)/\0<=z/\z<2*j:=by
    have:D%3=0\/D%3=1\/D%3=2:=⋯;rcases this with e|e|e <;> rw[e]
    ·exact#v[_,rfl,la0,la1]
    ·exact#v[_,rfl,a1,a2]
    ·exact#v[_,rfl,⋯,⋯]
   refine#v[_,.int z,.inl n7.sq,hz,tp,_,_,rfl,rfl,n7.same _ _ h6,by rw[aQ];omega,(s6'.trans n7.same).put n5.cL,d++[z],_,_,_,by rw[cN,fN];rfl,by rw[eG,l6];rfl,λt ht=>?_,rfl];rcases fG.mp ht with g|g
   ·exact b6 t g
   ·rw[dQ]at g;subst g;exact#v[z0,z1]
  rintro σ H6 ⟨s6',d,v8,v9,v10,h6,l6,b6,rfl⟩;walk_at"";refine#v[_,.inl (.of h6),λhp H7 n7=>?_];have Zf:=s6'.trans n7.same;have f7:=f4.same Zf;have hP7:=Z.same Zf;have tl:1<=d.length/\d.length<=100:=⋯;have RM:∀t∈d,0<=t/\t<2*((m:Int)+1+es.length):=λt ht=>by have:=b6 t ht;omega
  walk_at"";refine#v[f,dx,pl,kl,hp,.int s,m,es,d,rfl,f7,ok4,⋯,⋯,⋯,n7.at_,tl.1,tl.2,RM,trivial,λs' es' _ _ x qs H8 s8 hB ld ql=>?_,λz=>?_]
  case refine_2=>unfold qT wH at z;have:=of_decide_eq_false z;omega
  have es2:s'=s:=by have:=V.int.inj es';omega
  subst es2;have s48:=Zf.trans s8;refine CG λW hW=>?_;walk_at"";obtain⟨bd,bk,bt,us,I,hx2,hx3⟩:=id hB;have UD:=s8 _ _ (n7.same _ _ h6);refine#v[_,Ai,.ins I T.dC T.nH T.nY T.nJ T.nw,T.nG,?_];walk_at"";refine#v[x,_,_,_,_,rfl,I,T.dC,T.kr,rfl,?_];walk_at"";refine#v[x,_,_,rfl,I,rfl,x,m,qs.reverse,d,rfl,hB,λl9 H9 n9=>?_];walk_at"";refine#v[Ai,.inl #v[rfl,Sw (n:=3) n9.at_ (n9.same _ _ UD)],?_];walk_at"";refine#v[Ai,.inl #v[rfl,Sw (n:=3) (n9.same _ _ (s8 _ _ n7.at_)) (n9.same _ _ UD)],?_];walk_at"";refine hW _ _ ?_;have s49:=s48.trans n9.same;have Uh:=hB.same n9.same;have SK:=n9.same _ _ UD;clear I hx2 hx3;obtain⟨bd,bk,bt,us,I,hx2,hx3⟩:=id Uh;walk_at"";refine#v[x,_,_,rfl,I,rfl,x,m,qs.reverse,d,rfl,Uh,by rw[zN];exact ql,λlt us2 H10 flt s10 hL10 Zn=>?_];have JG:=s49.trans s10;walk_at"";refine#v[lt,tp,lp,us2,qs,d,m,s',es,rfl,hL10,s10 _ _ SK,Z.same JG,ok4,⋯,⋯,ql,tl.2,ld,λH11 s11=>?_];walk_at"";have Ob:=JG.trans s11;obtain⟨e30,he30,e0⟩:∃e:Int,e=c3%10^uN 30/\0<=e:=#v[_,rfl,JI _ (by decide)];rw[<-he30];obtain⟨C,r⟩:∃C:List V,C=[V.int 1,V.int 7,V.int 0,V.bl Ai,V.non,V.str "3",V.int (-1-e30),V.int (7+e30)]:=#v[_,rfl];rw[<-r]
  have YH:∀v∈C,(∀H,wC H v)/\qT v=Ah:=λv hv=>by
   rw[r]at hv;have ok:∀i:Int,¬(2<=i/\i<=6)->qT (.int i)=Ah:=λi h=>decide_eq_false h;simp only[iN,wJ,or_false]at hv;rcases hv with rfl|rfl|rfl|rfl|rfl|rfl|rfl|rfl
   ·exact#v[λ_=>trivial,ok _ ⋯]
   ·exact#v[λ_=>trivial,ok _ ⋯]
   ·exact#v[λ_=>trivial,ok _ ⋯]
   ·exact#v[λ_=>trivial,rfl]
   ·exact#v[λ_=>trivial,rfl]
   ·exact#v[λ_=>trivial,rfl]
   ·exact#v[λ_=>trivial,ok _ ⋯]
   ·exact#v[λ_=>trivial,ok _ ⋯]
  refine#v[by rw[r];show 8<=sizeLine;decide,λop H12 J=>#v[#v[_,J.sq],vu (xs:=C) (λi σ X=>bL H12 X/\∃v14:Option V,σ=[Aa (.ref p),Aa (.int m),Aa (.int s'),Aa (.ref f),Aa (.int y),Aa (.ref lp),Aa (.int c3),Aa (.ref tp),v8,v9,v10,Aa (.ref hp),Aa (.ref x),Aa (.ref lt),v14]) #v[bL.refl _,_,rfl] ?_ ?_ ?_]]
  ·rintro i σ X _ ⟨l,_⟩;exact .of (l _ _ J.at_)
  ·rintro i v σ X hv ⟨l,v14,rfl⟩;obtain⟨hnice,hbad⟩:=YH v (jP hv);have U:=J.same.trans l;have G:=Ob.trans U;have To:=U _ _ (s11 _ _ (s10 _ _ SK));walk_at"";intro SE H14 A;refine#v[by show 2<=sizeLine;decide,λzT H15 n15=>#v[by decide,?_]];have B:=A.same.trans n15.same;have Q6:=f4.same (G.trans B)
   obtain⟨w,zs,hw,hzs,z1,z2,zb⟩:∃(w:Ad) (zs:List Int),mN [V.ref tp,V.ref SE] (c3%2)=Aa (.ref w)/\H15 w=Aa (.lst (zs.map V.int))/\1<=zs.length/\zs.length<=100/\∀t∈zs,0<=t/\t<2*((m:Int)+1+es.length):=by
    have:c3%2=0\/c3%2=1:=⋯;rcases this with e|e <;> rw[e]
    ·exact#v[tp,d,rfl,B _ _ To,tl.1,tl.2,RM]
    ·refine#v[SE,[2,3,0],rfl,n15.same _ _ A.at_,by decide,by decide,λt ht=>?_];have:t=2\/t=3\/t=0:=by simpa using ht
     omega
   refine#v[_,.ref w,.inl n15.sq,hw,f,dx,pl,kl,w,v,m,es,zs,rfl,Q6,ok4,⋯,⋯,⋯,.of hzs,z1,z2,zb,hnice _,hbad,λH16 L=>?_];walk_at"go";exact#v[(l.trans B).trans L,_,rfl]
  rintro σ X ⟨l,v14,rfl⟩;have G:=(Ob.trans J.same).trans l;refine CG λW2 hW2=>?_;have HY:=f4.same G;walk_at"";refine#v[f,dx,_,rfl,HY.ins,rfl,f,dx,pl,kl,m,es,rfl,HY,?_];walk_at"";rw[show(1+(m:Int)+(es.length:Int)).toNat=m+1+es.length by omega];refine ZW HY ⋯ rfl λl14 H14 A=>?_;have LS:=G.trans A.same;have Y:=f4.same LS;have O:=Z.same LS;walk_at"";refine#v[Ai,.inl #v[rfl,Ei #v[A.at_,O.tup] O.lst],?_];walk_at"";refine hW2 _ _ ?_;walk_at"";refine#v[f,dx,_,rfl,Y.ins,rfl,.inl #v[_,.inl (.of O.lst),.inl #v[by decide,by decide],?_]];rw[Fk];refine Gj Y ok4 ⋯ #v[⋯,⋯] #v[⋯,⋯] λH15 es15 r15 u15 _ _ _ _ _ _=>?_;have f9:=f4.same s49;have R:=Y.iQ.lst;have q:=Y.iQ.uo;have O1:bL H9 H14:=((s10.trans s11).trans ((J.same.trans l))).trans A.same;have M:=(Uh.same O1).Xe R q u15;have Xs:=(hL10.same (((s11.trans J.same).trans l).trans A.same)).Xe R q (dW f9.iQ.lst flt).symm (λt ht=>(dW f9.iQ.lst (Zn t ht).2).symm) u15;have SN:tp≠pl:=(dW f4.iQ.lst n5.cL).symm;have P4:=O1 _ _ SK;have TV:=u15 _ _ SN (fS P4 q (λz=>nomatch z)) P4;obtain⟨bd',bk',bt',us',hy1,hy2,hy3⟩:=id M;walk_at"";refine#v[x,_,_,rfl,hy1,rfl,x,m,qs.reverse,d,rfl,M,by rw[zN];exact ql,λl16 us16 H16 _ L hL16 _=>?_];walk_at"";refine#v[Ai,.inl #v[rfl,Zrg (n:=1) hL16 (Xs.same L)],?_];walk_at"";refine#v[x,_,_,rfl,L _ _ hy1,rfl,x,m,qs.reverse,d,rfl,M.same L,λl17 H17 n17=>?_];walk_at"";exact#v[Ai,.inl #v[rfl,Sw (n:=3) n17.at_ (n17.same _ _ (L _ _ TV))],k _]
theorem yJ{us:List Ac}(h:us.length=1):∃a,us=[a]:=List.length_eq_one_iff.mp h
theorem yK{us:List Ac}(h:us.length=2):∃a b,us=[a,b]:=by
 obtain _|⟨a,t⟩:=us
 ·cases h
 ·obtain⟨b,rfl⟩:=yJ (Nat.succ.inj h);exact#v[a,b,rfl]
theorem ze{us:List Ac}(h:us.length=3):∃a b c,us=[a,b,c]:=by
 obtain _|⟨a,t⟩:=us
 ·cases h
 ·obtain⟨b,c,rfl⟩:=yK (Nat.succ.inj h);exact#v[a,b,c,rfl]
theorem yG{us:List Ac}(h:us.length=4):∃a b c d,us=[a,b,c,d]:=by
 obtain _|⟨a,t⟩:=us
 ·cases h
 ·obtain⟨b,c,d,rfl⟩:=ze (Nat.succ.inj h);exact#v[a,b,c,d,rfl]
theorem zj{us:List Ac}(h:us.length=5):∃a b c d e,us=[a,b,c,d,e]:=by
 obtain _|⟨a,t⟩:=us
 ·cases h
 ·obtain⟨b,c,d,e,rfl⟩:=yG (Nat.succ.inj h);exact#v[a,b,c,d,e,rfl]
theorem Qe{us:List Ac}(h:us.length=6):∃a b c d e f,us=[a,b,c,d,e,f]:=by
 obtain _|⟨a,t⟩:=us
 ·cases h
 ·obtain⟨b,c,d,e,f,rfl⟩:=zj (Nat.succ.inj h);exact#v[a,b,c,d,e,f,rfl]
local macro_rules | `(tactic| walk_at "b1")=>`(tactic| exact λ_ _ _ _ _ _ us hl=>by obtain ⟨_,e⟩:=yJ hl;subst e;rfl)
local macro_rules | `(tactic| walk_at "b2")=>`(tactic| exact λ_ _ _ _ _ _ us hl=>by obtain ⟨_,_,e⟩:=yK hl;subst e;rfl)
local macro_rules | `(tactic| walk_at "b3")=>`(tactic| exact λ_ _ _ _ _ _ us hl=>by obtain ⟨_,_,_,e⟩:=ze hl;subst e;rfl)
local macro_rules | `(tactic| walk_at "b4")=>`(tactic| exact λ_ _ _ _ _ _ us hl=>by obtain ⟨_,_,_,_,e⟩:=yG hl;subst e;rfl)
local macro_rules | `(tactic| walk_at "b5")=>`(tactic| exact λ_ _ _ _ _ _ us hl=>by obtain ⟨_,_,_,_,_,e⟩:=zj hl;subst e;rfl)
local macro_rules | `(tactic| walk_at "b6")=>`(tactic| exact λ_ _ _ _ _ _ us hl=>by obtain ⟨_,_,_,_,_,_,e⟩:=Qe hl;subst e;rfl)
theorem all_mk{l:Ye}{w:Au}{K:aE}{h:Ax}{mg:Str->Option Ac}{fa:Ad}(X:K.In h)(G:h.Ns Ap mg)(hfa:mg "law" = Aa (.ref fa))
  {f0:Ad}{f1:Ad}{f2:Ad}{f3:Ad}{f4:Ad}{f5:Ad}{f6:Ad}{f7:Ad}{f8:Ad}{f9:Ad}{f10:Ad}{f11:Ad}{f12:Ad}{HY:Ad}{f14:Ad}{Q6:Ad}{ZX:Ad}{f17:Ad}{f18:Ad}{ZN:Ad}{f20:Ad}{ZU:Ad}{Z0:Ad}{f23:Ad}{f24:Ad}{f25:Ad}{f26:Ad}{f27:Ad}{f28:Ad}{f29:Ad}{f30:Ad}{f31:Ad}{ZY:Ad}{f33:Ad}{f34:Ad}{f35:Ad}{f36:Ad}{f37:Ad}{f38:Ad}{f39:Ad}{f40:Ad}{f41:Ad}{f42:Ad}{f43:Ad}{f44:Ad}{f45:Ad}{f46:Ad}{f47:Ad}{f48:Ad}{f49:Ad}{f50:Ad}{f51:Ad}{f52:Ad}{j:Ad}{m:Ad}{q:Ad}{c:Ad}{p:Ad}{k:Ad}{i:Ad}{d:Ad}{f:Ad}{g:Ad}{t3:Tok}{V:Tok}{Y:Tok}{oi:Tok}{nQ:Tok}{nh:Tok}{vM:Tok}
  (pD:CP K "Board" j)
  (nj:CP K "Labels" m)
  (rX:CP K "Fold" q)
  (pC:jW K Ap "FoldError" = Aa (Aa (.ref c)))
  (rR:jW K Ap "NoBoard" = Aa (Aa (.ref p)))
  (uY:jW K Ap "NoCut" = Aa (Aa (.ref k)))
  (uv:jW K Ap "NoGoal" = Aa (Aa (.ref i)))
  (tS:jW K Ap "NoKnot" = Aa (Aa (.ref d)))
  (tW:jW K Ap "NoSize" = Aa (Aa (.ref f)))
  (vk:jW K Ap "NoTie" = Aa (Aa (.ref g)))
  (x0:FP K "full_column" Jo f0)
  (x1:FP K "input_columns" I8 f1)
  (x2:FP K "lit_pair" Qc f2)
  (x3:FP K "lit_tie" Oq f3)
  (x4:FP K "is_whole" Qm f4)
  (x5:FP K "is_between" OX f5)
  (x6:FP K "is_rising" Ij f6)
  (x7:FP K "is_cut_of" IK f7)
  (x8:FP K "need_pieces" Iw f8)
  (x9:FP K "need_ties" NN f9)
  (x10:FQ K j "__init__" "Board.__init__" HG f10)
  (x11:FQ K j "pieces" "Board.pieces" Iv f11)
  (x12:FQ K j "ties" "Board.ties" LI f12)
  (x13:FP K "reached" IR HY)
  (x14:FP K "cone" JS f14)
  (x15:FP K "is_cut" xO Q6)
  (x16:FP K "head" Ln ZX)
  (x17:FP K "foot" OL f17)
  (x18:FP K "need_goals" Pm f18)
  (x19:FP K "next_ends" HH ZN)
  (x20:FP K "search" JD f20)
  (x21:FP K "lead" Qb ZU)
  (x22:FP K "way_from" OW Z0)
  (x23:FP K "ways_of" Gv f23)
  (x24:FP K "stops_of" Ib f24)
  (x25:FP K "apart" LU f25)
  (x26:FP K "need_size" MT f26)
  (x27:FP K "maze_of" JE f27)
  (x28:FQ K m "__init__" "Labels.__init__" PJ f28)
  (x29:FQ K m "settle" "Labels.settle" zw f29)
  (x30:FQ K m "keep" "Labels.keep" Nw f30)
  (x31:FQ K m "need_and_knot" "Labels.need_and_knot" LJ f31)
  (x32:FQ K m "cut" "Labels.cut" Ld ZY)
  (x33:FP K "table" Ih f33)
  (x34:FP K "laid" CF f34)
  (x35:FP K "turned" Oe f35)
  (x36:FQ K q "__init__" "Fold.__init__" KR f36)
  (x37:FQ K q "total" "Fold.total" M7 f37)
  (x38:FQ K q "has_tie" "Fold.has_tie" Qk f38)
  (x39:FQ K q "pair" "Fold.pair" L7 f39)
  (x40:FQ K q "both" "Fold.both" Pt f40)
  (x41:FQ K q "and_knot" "Fold.and_knot" La f41)
  (x42:FP K "_law_cell_at" O2 f42)
  (x43:FP K "_law_whole" J5 f43)
  (x44:FP K "_law_two" Le f44)
  (x45:FP K "_law_row_in" NO f45)
  (x46:FP K "_law_pairs_by" HE f46)
  (x47:FP K "_law_columns" IV f47)
  (x48:FP K "_law_stops" Ir f48)
  (x49:FP K "_law_piece" Lu f49)
  (x50:FP K "_law_no_size" Pi f50)
  (x51:FP K "_law_right" Iu f51)
  (x52:FP K "law" HF f52)
  (nq:vq K k [.type "ValueError",.type "Exception",.type "BaseException",.type "object"] "ValueError.__new__" = Ai)
  (qQ:rd K k=Ai)
  (qU:eC K (.ref k) (.type "ValueError")=Aa Ai)
  (H:(L2.mroIn K k).contains (.ref c)=Ai)
  (iK:(L2.mroIn K k).contains (.ref f)=Ah)
  (D:eC K (.ref k) (.ref c)=Aa Ai)
  (O:eC K (.ref k) (.ref p)=Aa Ah)
  (iD:eC K (.ref k) (.ref d)=Aa Ah)
  (jH:eC K (.ref k) (.ref g)=Aa Ah)
  (lT:vq K i [.type "ValueError",.type "Exception",.type "BaseException",.type "object"] "ValueError.__new__" = Ai)
  (pj:rd K i=Ai)
  (pd:eC K (.ref i) (.type "ValueError")=Aa Ai)
  (A:(L2.mroIn K i).contains (.ref c)=Ai)
  (Z:(L2.mroIn K i).contains (.ref f)=Ah)
  (r:eC K (.ref i) (.ref c)=Aa Ai)
  (J:eC K (.ref i) (.ref p)=Aa Ah)
  (Q:eC K (.ref i) (.ref d)=Aa Ah)
  (iJ:eC K (.ref i) (.ref g)=Aa Ah)
  (gQ:vq K d [.type "ValueError",.type "Exception",.type "BaseException",.type "object"] "ValueError.__new__" = Ai)
  (o6:rd K d=Ai)
  (pe:eC K (.ref d) (.type "ValueError")=Aa Ai)
  (B:(L2.mroIn K d).contains (.ref c)=Ai)
  (gK:(L2.mroIn K d).contains (.ref f)=Ah)
  (t:eC K (.ref d) (.ref c)=Aa Ai)
  (L:eC K (.ref d) (.ref p)=Aa Ah)
  (R:eC K (.ref d) (.ref d)=Aa Ai)
  (iF:eC K (.ref d) (.ref g)=Aa Ah)
  (lQ:vq K f [.type "ValueError",.type "Exception",.type "BaseException",.type "object"] "ValueError.__new__" = Ai)
  (gL:rd K f=Ai)
  (lU:eC K (.ref f) (.type "ValueError")=Aa Ai)
  (C:(L2.mroIn K f).contains (.ref c)=Ai)
  (eI:(L2.mroIn K f).contains (.ref f)=Ai)
  (u:eC K (.ref f) (.ref c)=Aa Ai)
  (M:eC K (.ref f) (.ref p)=Aa Ah)
  (S:eC K (.ref f) (.ref d)=Aa Ah)
  (eR:eC K (.ref f) (.ref g)=Aa Ah)
  (nC:vq K g [.type "ValueError",.type "Exception",.type "BaseException",.type "object"] "ValueError.__new__" = Ai)
  (qB:rd K g=Ai)
  (qF:eC K (.ref g) (.type "ValueError")=Aa Ai)
  (I:(L2.mroIn K g).contains (.ref c)=Ai)
  (iG:(L2.mroIn K g).contains (.ref f)=Ah)
  (E:eC K (.ref g) (.ref c)=Aa Ai)
  (U:eC K (.ref g) (.ref p)=Aa Ah)
  (iE:eC K (.ref g) (.ref d)=Aa Ah)
  (iU:eC K (.ref g) (.ref g)=Aa Ai)
  (nG:eC K (.ref j) (.ref j)=Aa Ai)
  (nH:lO K (.ref j) "__class__" = Aa (Aa (.builtin "object.__class__")))
  (nY:Mi K (.builtin "object.__class__") "__get__" = Aa (Aa (.builtin "getset_descriptor.__get__")))
  (nJ:Sz K (.builtin "object.__class__")=Aa Ai)
  (nw:Lp K j (.type "object")=Aa Ai)
  (hY:qo K c "BaseException" = Ai)
  (qS:qo K k "BaseException" = Ai)
  (o7:qo K i "BaseException" = Ai)
  (pb:qo K d "BaseException" = Ai)
  (jO:qo K f "BaseException" = Ai)
  (qu:qo K g "BaseException" = Ai)
  (pZ:lO K (.ref j) "many" = Aa Ae)
  (x:lO K (.ref j) "kept_pieces" = Aa Ae)
  (N:lO K (.ref j) "kept_ties" = Aa Ae)
  (mO:lO K (.ref m) "levels" = Aa Ae)
  (y:lO K (.ref m) "found_cuts" = Aa Ae)
  (z:lO K (.ref m) "found_ways" = Aa Ae)
  (qI:lO K (.ref q) "many" = Aa Ae)
  (py:lO K (.ref q) "pairs" = Aa Ae)
  (pX:lO K (.ref q) "knots" = Aa Ae)
  (vU:jW K Ap "ALWAYS" = Aa (Aa (.int 1 t3)))
  (mL:jW K Ap "GREATEST_KNOT" = Aa (Aa (.int 999 V)))
  (mW:jW K Ap "GREATEST_SIZE" = Aa (Aa (.int 6 Y)))
  (pV:jW K Ap "LEAST_SIZE" = Aa (Aa (.int 2 oi)))
  (oj:jW K Ap "LONGEST_CUT" = Aa (Aa (.int 6 nQ)))
  (oH:jW K Ap "MOST_INPUTS" = Aa (Aa (.int 10 nh)))
  (xE:jW K Ap "NEVER" = Aa (Aa (.int 0 vM)))
  (pE:jW K Ap "ValueError" = Aa Ae)
  (MB:jW K Ap "all" = Aa Ae)
  (CZ:jW K Ap "bool" = Aa Ae)
  (G3:jW K Ap "dict" = Aa Ae)
  (Mp:jW K Ap "int" = Aa Ae)
  (pO:jW K Ap "isinstance" = Aa Ae)
  (Qd:jW K Ap "len" = Aa Ae)
  (EL:jW K Ap "list" = Aa Ae)
  (Lc:jW K Ap "max" = Aa Ae)
  (K1:jW K Ap "min" = Aa Ae)
  (xL:jW K Ap "range" = Aa Ae)
  (rY:jW K Ap "reversed" = Aa Ae)
  (wc:jW K Ap "sorted" = Aa Ae)
  (PF:jW K Ap "sum" = Aa Ae)
  (yb:jW K Ap "tuple" = Aa Ae)
  (O5:jW K Ap "zip" = Aa Ae):
  ∃fd:Ao,(∀(s:Ag) (v:Ac),BK s fd #v[[v],[]] [("_law_script",v)])/\∀base:Ax,K.In base->base.Ns Ap mg->a0 l.prog w K mg base fD 10 fa fd JT (nu K):=by
 have e:=hfa.symm.trans (oN X G x52.choose_spec.1);cases e;have T:Txt K mg #v[f0,_,f1,_,f2,_,f3,_,f4,_,f5,_,f6,_,f7,_,f8,_,f9,_,f10,_,f11,_,f12,_,HY,_,f14,_,Q6,_,ZX,_,f17,_,f18,_,ZN,_,f20,_,ZU,_,Z0,_,f23,_,f24,_,f25,_,f26,_,f27,_,f28,_,f29,_,f30,_,f31,_,ZY,_,f33,_,f34,_,f35,_,f36,_,f37,_,f38,_,f39,_,f40,_,f41,_,f42,_,f43,_,f44,_,f45,_,f46,_,f47,_,f48,_,f49,_,f50,_,f51,_,_,_,j,m,q,c,p,k,i,d,f,g]:=#v[x0.ft X G (by walk_at"b1"),x1.ft X G (by walk_at"b1"),x2.ft X G (by walk_at"b3"),x3.ft X G (by walk_at"b3"),x4.ft X G (by walk_at"b1"),x5.ft X G (by walk_at"b3"),x6.ft X G (by walk_at"b1"),x7.ft X G (by walk_at"b2"),x8.ft X G (by walk_at"b2"),x9.ft X G (by walk_at"b2"),x10.fm (by walk_at"b4"),x11.fm (by walk_at"b1"),x12.fm (by walk_at"b1"),x13.ft X G (by walk_at"b3"),x14.ft X G (by walk_at"b2"),x15.ft X G (by walk_at"b3"),x16.ft X G (by walk_at"b1"),x17.ft X G (by walk_at"b1"),x18.ft X G (by walk_at"b2"),x19.ft X G (by walk_at"b3"),x20.ft X G (by walk_at"b3"),x21.ft X G (by walk_at"b3"),x22.ft X G (by walk_at"b2"),x23.ft X G (by walk_at"b2"),x24.ft X G (by walk_at"b1"),x25.ft X G (by walk_at"b3"),x26.ft X G (by walk_at"b1"),x27.ft X G (by walk_at"b1"),x28.fm (by walk_at"b3"),x29.fm (by walk_at"b4"),x30.fm (by walk_at"b5"),x31.fm (by walk_at"b2"),x32.fm (by walk_at"b2"),x33.ft X G (by walk_at"b3"),x34.ft X G (by walk_at"b3"),x35.ft X G (by walk_at"b1"),x36.fm (by walk_at"b2"),x37.fm (by walk_at"b1"),x38.fm (by walk_at"b2"),x39.fm (by walk_at"b2"),x40.fm (by walk_at"b3"),x41.fm (by walk_at"b2"),x42.ft X G (by walk_at"b2"),x43.ft X G (by walk_at"b1"),x44.ft X G (by walk_at"b2"),x45.ft X G (by walk_at"b2"),x46.ft X G (by walk_at"b4"),x47.ft X G (by walk_at"b3"),x48.ft X G (by walk_at"b3"),x49.ft X G (by walk_at"b4"),x50.ft X G (by walk_at"b3"),x51.ft X G (by walk_at"b5"),x52.ft X G (by walk_at"b1"),oN X G pD.a,pD.cl,pD.Vv x10,pZ,x,N,oN X G nj.a,nj.cl,nj.Vv x28,mO,y,z,oN X G rX.a,rX.cl,rX.Vv x36,qI,py,pX,oN X G pC,oN X G rR,oN X G uY,oN X G uv,oN X G tS,oN X G tW,oN X G vk,nq,qQ,qU,H,iK,D,O,iD,jH,lT,pj,pd,A,Z,r,J,Q,iJ,gQ,o6,pe,B,gK,t,L,R,iF,lQ,gL,lU,C,eI,u,M,S,eR,nC,qB,qF,I,iG,E,U,iE,iU,nG,nH,nY,nJ,nw,hY,qS,o7,pb,jO,qu,#v[_,oN X G vU,#v[_,rfl]],#v[_,oN X G mL,#v[_,rfl]],#v[_,oN X G mW,#v[_,rfl]],#v[_,oN X G pV,#v[_,rfl]],#v[_,oN X G oj,#v[_,rfl]],#v[_,oN X G oH,#v[_,rfl]],#v[_,oN X G xE,#v[_,rfl]],ro X G pE,ro X G MB,ro X G CZ,ro X G G3,ro X G Mp,ro X G pO,ro X G Qd,ro X G EL,ro X G Lc,ro X G K1,ro X G xL,ro X G rY,ro X G wc,ro X G PF,ro X G yb,ro X G O5];exact#v[_,T.zh.n.C0 λ_ _ _ _ _ _ _=>rfl,λbase _ _=>D4 T]
theorem walk{l:Ye}{q:Al}{loose:List Str}{XP:(Str->Option Ac)->Ax->Prop}{YP:Au->Ax->Prop}{d:DefRec}{K:BB->aE}(hn:l.most=Aa 63)(c:d.params.defaults=[])
  (i:∀(w:Au) (h:Ax),YP w h->(K w.params).In h)
  (F:∀(w:Au) (mg:Str->Option Ac) (fa:Ad) (h:Ax),(K w.params).In h->h.Ns Ap mg->mg d.name=Aa (.ref fa) ->
   ∃fd:Ao,(∀(s:Ag) (u:Ac),BK s fd #v[[u],[]] [("_law_script",u)])/\∀base:Ax,(K w.params).In base->base.Ns Ap mg->a0 l.prog w (K w.params) mg base fD 10 fa fd JT (nu (K w.params))):
  PySem.W.WalkO q loose XP YP l.row.toRowW d [] (λf vs=>PySem.call f vs):=
 L2.Zpt (n:=63) (k:=10) (x:="_law_script") (CX:=λ_=>fD) (sp:=λw=>nu (K w.params)) hn (by decide) c #v[rfl,by decide,by decide] i F (λ_ _ a ns hl _ g=>#v[a,ns,rfl,g,hl,λ_=>rfl]) λ_ _ _ _ _ z=>z
end DJ
lay_quick PySem.Challenge.pw_gatefold_k36_laid
namespace OT
open PySem PySem.W PySem.Spec PyProof.Rows L2
noncomputable section
abbrev aO(l:List Nat):Str:=#v[#v[l]]
abbrev PM:=BB
abbrev OB:=Obj
abbrev TP:Al:=PySem.W.Fast.tw17523818666043962433
def tT(i:Nat):Az:=TP.main.body.getD i (.Pass #v[0,0,0,0])
abbrev vs(s:Str)(t:Nat):Ac:=.str s t
abbrev vr(a:Nat):Ac:=.ref a
abbrev vi(a:Int)(t:Nat):Ac:=.int a t
abbrev nl:=BT.nil
abbrev Zl(P:PM):BT:=BT.nil
abbrev N(f:PM->OB)(a b:PM->BT)(P:PM):BT:=BT.node (f P) (a P) (b P)
abbrev M(f:PM->OB)(a:PM->BT)(P:PM):BT:=BT.node (f P) (a P) BT.nil
abbrev L(f:PM->OB)(P:PM):BT:=BT.node (f P) BT.nil BT.nil
abbrev bF:Ac:=.bool Ah
abbrev bT:Ac:=.bool Ai
abbrev vb(y:String):Ac:=.builtin y
abbrev vt(y:String):Ac:=.type y
abbrev sr(a:Nat):Option Ac:=Aa (.ref a)
abbrev ss(s:Str)(t:Nat):Option Ac:=Aa (.str s t)
abbrev z0:Ac:=.int 0 0
abbrev of(y:String)(l:List Ac):Obj:=#v[.type y,Ae,.fields #v[l],#v[[]]]
abbrev oq(y:String)(l:List Ac)(n:Nat):Obj:=#v[.type y,Ae,.seq #v[l] n,#v[[]]]
abbrev od(y:String)(l:List AA)(n:Nat):Obj:=#v[.type y,Ae,.dict #v[l] n,#v[[]]]
abbrev vn:Ac:=.none
abbrev df(a:Array Ac):Data:=.fields a
abbrev dq(a:Array Ac)(n:Nat):Data:=.seq a n
abbrev dd(a:Array AA)(n:Nat):Data:=.dict a n
abbrev de(P:BB)(s:Str)(t:Nat)(v:Ac):AA:=.mk (PyData.keyHash P s) (.str s t) v
abbrev ob(t:String)(d:Data)(c:Array (Option Ac)):Obj:=#v[.type t,Ae,d,c]
abbrev nd:=BT.node
abbrev y0:=PySem.W.SL.s2766695959194262286x5
abbrev y1:=PySem.W.SL.s5856160107412720595x4
abbrev oC(a b c:Str)(n l k f v x:Nat):Obj:=of y1 [vs a n,vs b (n+1),vs c (n+2),vi l 0,vi k 0,z0,z0,vi f 0,vr v,bT,vi x 0,vr (v+1),vn,vn,vn,vr (v+2),vi (n+3) 0,vi l 0,vs c (n+4)]
abbrev y2:=PySem.W.SL.s658472552662922059x5
abbrev y3:=PySem.W.SL.s14018661285674007319x4
abbrev y4:=PySem.W.SL.s7097527257260152453x26
abbrev y5:=PySem.W.SL.s7174869446012820540x8
abbrev y6:=PySem.W.SL.s6070975301684473832x10
abbrev y7:=PySem.W.SL.s11030030927630378310x26
abbrev y8:=PySem.W.SL.s10062305145149207511x16
abbrev y9:=PySem.W.SL.s17162191345867700912x4
abbrev ue:=PySem.W.SL.s5946037652744460706x9
abbrev tO:=PySem.W.SL.s4278001404047624695x13
abbrev pB:=PySem.W.SL.s2742458400755230247x6
abbrev ui:=PySem.W.SL.s4209523147560561109x18
abbrev Ed:=PySem.W.SL.s14755015743595814543x17
abbrev RQ:=PySem.W.SL.s10220274742760427390x26
abbrev wq:=PySem.W.SL.s4290257624100764138x5
abbrev wA:=PySem.W.SL.s4860613602091757760x24
abbrev Za:=PySem.W.SL.s11443829558043349243x14
abbrev T7:=PySem.W.SL.s6511155373996960695x17
abbrev Uk:=PySem.W.SL.s12411053484034534018x21
abbrev b0(P:PM):OB:=PySem.W.boot_o_0 P
abbrev b1(P:PM):OB:=PySem.W.boot_o_1 P
abbrev b2(P:PM):OB:=PySem.W.boot_o_2 P
abbrev b3(P:PM):OB:=PySem.W.boot_o_3 P
abbrev b4(P:PM):OB:=PySem.W.boot_o_4 P
abbrev b5(P:PM):OB:=PySem.W.boot_o_5 P
abbrev b6(P:PM):OB:=PySem.W.boot_o_6 P
abbrev b7(P:PM):OB:=PySem.W.boot_o_7 P
abbrev b8(P:PM):OB:=PySem.W.boot_o_8 P
abbrev b9(P:PM):OB:=PySem.W.boot_o_9 P
abbrev TJ(P:PM):OB:=PySem.W.boot_o_10 P
abbrev j0(a b:Str)(s:Az):OB:=#v[vn,Ae,.func (.mk a b (uP s) (.stmts (rj s)) (bZ s) 0 [] vn vn vn vn Ae vn vn 0),#v[[]]]
abbrev j1(a b:Str)(s:Az)(q:Str)(t n:Nat):OB:=#v[(vt y5),Ae,.func (.mk a b (uP s) (.stmts (rj s)) (bZ s) 3 [] vn vn vn (vs q t) Ae (vr n) vn 0),#v[[]]]
abbrev q0:=aO [95,108,97,119,95,114,111,119,95,105,110]
abbrev q1:=aO [47,99,108,97,105,109,47,99,117,116,46,112,121]
abbrev q2:=aO [76,97,98,101,108,115]
abbrev q3:=aO [103,97,116,101,102,111,108,100,46,101,114,114,111,114,115]
abbrev q4:=aO [70,111,108,100,69,114,114,111,114]
abbrev q5:=aO [95,95,110,97,109,101,95,95]
abbrev q6:=aO [103,97,116,101,102,111,108,100,46,99,111,110,101,115]
abbrev q7:=aO [95,95,100,111,99,95,95]
abbrev q8:=aO [95,95,112,97,99,107,97,103,101,95,95]
abbrev q9:=aO [95,95,108,111,97,100,101,114,95,95]
abbrev q10:=aO [95,95,115,112,101,99,95,95]
abbrev q11:=aO [95,95,97,110,110,111,116,97,116,105,111,110,115,95,95]
abbrev q12:=aO [95,95,98,117,105,108,116,105,110,115,95,95]
abbrev q13:=aO [95,95,102,105,108,101,95,95]
abbrev SE:=aO [95,95,99,97,99,104,101,100,95,95]
abbrev zT:=aO [95,119,97,108,108]
abbrev Eb:=aO [102,117,108,108,95,99,111,108,117,109,110]
abbrev F1:=aO [105,110,112,117,116,95,99,111,108,117,109,110,115]
abbrev yX:=aO [78,111,84,105,101]
abbrev zk:=aO [78,111,75,110,111,116]
abbrev zi:=aO [78,111,67,117,116]
abbrev zM:=aO [78,111,71,111,97,108]
abbrev yx:=aO [78,111,83,105,122,101]
abbrev yR:=aO [78,111,66,111,97,114,100]
abbrev D0:=aO [99,104,111,115,101,110,95,108,105,116]
abbrev Gr:=aO [108,105,116,95,112,97,105,114]
abbrev CT:=aO [108,105,116,95,116,105,101]
abbrev C3:=aO [105,115,95,119,104,111,108,101]
abbrev DU:=aO [105,115,95,98,101,116,119,101,101,110]
abbrev GN:=aO [105,115,95,114,105,115,105,110,103]
abbrev q30:=aO [77,79,83,84,95,73,78,80,85,84,83]
abbrev q31:=aO [71,82,69,65,84,69,83,84,95,75,78,79,84]
abbrev q32:=aO [76,79,78,71,69,83,84,95,67,85,84]
abbrev GQ:=aO [105,115,95,99,117,116,95,111,102]
abbrev DW:=aO [110,101,101,100,95,112,105,101,99,101,115]
abbrev Hv:=aO [110,101,101,100,95,116,105,101,115]
abbrev Hk:=aO [112,105,101,99,101,95,99,111,108,117,109,110]
abbrev zx:=aO [66,111,97,114,100]
abbrev Hj:=aO [114,101,97,99,104,101,100]
abbrev mX:=aO [108,97,119,95,103,97,116,101,102,111,108,100,95,107,51,54,95,108,97,105,100]
abbrev Et:=aO [99,111,110,101]
abbrev EZ:=aO [105,115,95,99,117,116]
abbrev DN:=aO [104,101,97,100]
abbrev GH:=aO [102,111,111,116]
abbrev GZ:=aO [110,101,101,100,95,103,111,97,108,115]
abbrev EE:=aO [110,101,120,116,95,101,110,100,115]
abbrev CN:=aO [115,101,97,114,99,104]
abbrev G6:=aO [108,101,97,100]
abbrev DO:=aO [119,97,121,95,102,114,111,109]
abbrev Dq:=aO [119,97,121,115,95,111,102]
abbrev DK:=aO [115,116,111,112,115,95,111,102]
abbrev Gc:=aO [97,112,97,114,116]
abbrev q52:=aO [76,69,65,83,84,95,83,73,90,69]
abbrev q53:=aO [71,82,69,65,84,69,83,84,95,83,73,90,69]
abbrev C4:=aO [110,101,101,100,95,115,105,122,101]
abbrev DR:=aO [109,97,122,101,95,111,102]
abbrev DA:=aO [116,97,98,108,101]
abbrev Hy:=aO [108,97,105,100]
abbrev q58:=aO [78,69,86,69,82]
abbrev q59:=aO [65,76,87,65,89,83]
abbrev GI:=aO [116,117,114,110,101,100]
abbrev yE:=aO [70,111,108,100]
abbrev GX:=aO [95,108,97,119,95,99,101,108,108,95,97,116]
abbrev F3:=aO [95,108,97,119,95,119,104,111,108,101]
abbrev Du:=aO [95,108,97,119,95,116,119,111]
abbrev C2:=aO [95,108,97,119,95,112,97,105,114,115,95,98,121]
abbrev Gw:=aO [95,108,97,119,95,99,111,108,117,109,110,115]
abbrev Dg:=aO [95,108,97,119,95,115,116,111,112,115]
abbrev Go:=aO [95,108,97,119,95,112,105,101,99,101]
abbrev D1:=aO [95,108,97,119,95,110,111,95,115,105,122,101]
abbrev FV:=aO [95,108,97,119,95,114,105,103,104,116]
abbrev FI:=aO [108,97,119]
abbrev P5:=aO [109,97,122,101]
abbrev Zj:=aO [103,111,97,108,115]
abbrev q74:=aO [109,111,115,116]
abbrev Qy:=aO [97,98,111,118,101]
abbrev q76:=aO [110,117,109,98,101,114]
abbrev q78:=aO [102,111,117,110,100]
abbrev pf:=aO [103,97,116,101,102,111,108,100,46,109,97,122,101,115]
abbrev q80:=aO [107]
abbrev MS:=aO [108,97,98,101,108]
abbrev Tl:=aO [76,97,98,101,108,115,46,108,97,98,101,108]
abbrev tM:=aO [115,101,108,102]
abbrev zZ:=aO [107,110,111,116]
abbrev N6:=aO [112,105,101,99,101,115]
abbrev Uq:=aO [66,111,97,114,100,46,112,105,101,99,101,115]
abbrev o9:=aO [95,95,109,111,100,117,108,101,95,95]
abbrev wL:=aO [95,95,113,117,97,108,110,97,109,101,95,95]
abbrev pa:=aO [95,95,102,105,114,115,116,108,105,110,101,110,111,95,95]
abbrev oW:=aO [95,95,115,116,97,116,105,99,95,97,116,116,114,105,98,117,116,101,115,95,95]
abbrev Ia:=aO [99,117,116]
abbrev Vc:=aO [76,97,98,101,108,115,46,99,117,116]
abbrev q93:=aO [108,111,119,101,114,115]
abbrev q96:=aO [108,111,119,101,114]
abbrev q99:=aO [95,108,97,119,95,102,111,108,100]
abbrev WM:=aO [95,108,97,119,95,116,105,101,115]
abbrev XR:=aO [95,108,97,119,95,111,102,102]
abbrev ZA:=aO [101]
abbrev vw:=aO [116,111,116,97,108]
abbrev FO:=aO [70,111,108,100,46,116,111,116,97,108]
abbrev wR:=aO [109,97,110,121]
abbrev YO:=aO [112,97,105,114,115]
abbrev pI:=aO [103,97,116,101,102,111,108,100,46,98,111,97,114,100,115]
abbrev Yq:=aO [95,108,97,119,95,112,97,105,114,115]
abbrev S0:=aO [95,108,97,119,95,99,117,116]
abbrev XF:=aO [95,108,97,119,95,107,110,111,116]
abbrev PB:=aO [95,108,97,119,95,107]
abbrev xy:=aO [116,105,101]
abbrev Mq:=aO [108,105,116]
abbrev HB:=aO [101,118,101,114,121]
abbrev xQ:=aO [103,97,116,101,102,111,108,100,46,108,105,103,104,116,105,110,103]
abbrev tH:=aO [95,95,100,105,99,116,95,95]
abbrev rL:=aO [95,95,105,110,105,116,95,95]
abbrev EO:=aO [76,97,98,101,108,115,46,95,95,105,110,105,116,95,95]
abbrev HA:=aO [102,111,108,100]
abbrev Og:=aO [115,105,122,101]
abbrev Zy:=aO [108,101,118,101,108,115]
abbrev Vh:=aO [102,111,117,110,100,95,99,117,116,115]
abbrev UT:=aO [102,111,117,110,100,95,119,97,121,115]
abbrev vC:=aO [115,101,116,116,108,101]
abbrev oa:=aO [103,97,116,101,102,111,108,100,46,108,97,98,101,108,115]
abbrev SM:=aO [95,108,97,119,95,115,105,122,101]
abbrev Ls:=aO [95,108,97,119,95,106]
abbrev GF:=aO [112,97,105,114]
abbrev vm:=aO [100,101,112,116,104,115]
abbrev Ec:=aO [66,111,97,114,100,46,100,101,112,116,104,115]
abbrev Hc:=aO [116,105,101,115]
abbrev EC:=aO [66,111,97,114,100,46,116,105,101,115]
abbrev vj:=aO [110,101,101,100,95,97,110,100,95,107,110,111,116]
abbrev xq:=aO [112,108,97,99,101]
abbrev wf:=aO [107,101,101,112]
abbrev tJ:=aO [119,97,121,115]
abbrev zV:=aO [95,95,119,101,97,107,114,101,102,95,95]
abbrev ud:=aO [99,111,108,117,109,110,115]
abbrev Fl:=aO [66,111,97,114,100,46,99,111,108,117,109,110,115]
abbrev Xu:=aO [107,101,112,116,95,112,105,101,99,101,115]
abbrev SY:=aO [107,101,112,116,95,116,105,101,115]
abbrev FX:=aO [66,111,97,114,100,46,95,95,105,110,105,116,95,95]
abbrev L9:=aO [103,111,97,108]
abbrev vc:=aO [97,110,100,95,107,110,111,116]
abbrev Fs:=aO [70,111,108,100,46,97,110,100,95,107,110,111,116]
abbrev Tx:=aO [107,110,111,116,115]
abbrev P9:=aO [99,97,109,101]
abbrev Y2:=aO [119,97,105,116,105,110,103]
abbrev Qt:=aO [101,110,100]
abbrev Yr:=aO [97,104,101,97,100]
abbrev WK:=aO [95,108,97,119,95,115,99,114,105,112,116]
abbrev Ub:=aO [95,108,97,119,95,99,101,108,108]
abbrev vL:=aO [98,111,116,104]
abbrev Ts:=aO [95,108,97,119,95,116,111,116,97,108]
abbrev XB:=aO [95,108,97,119,95,115,111,109,101]
abbrev Pw:=aO [95,108,97,119,95,99,111,117,110,116]
abbrev Qp:=aO [60,109,111,100,117,108,101,62]
abbrev Xl:=aO [95,108,97,119,95,116,111,112]
abbrev wY:=aO [103,97,116,101,102,111,108,100,46,98,105,116,115]
abbrev DB:=aO [70,111,108,100,46,112,97,105,114]
abbrev Vs:=aO [111,110,101]
abbrev Ud:=aO [111,116,104,101,114]
abbrev qg:=aO [103,97,116,101,102,111,108,100,46,102,111,108,100,115]
abbrev NB:=aO [102,105,114,115,116]
abbrev Xz:=aO [95,108,97,119,95,102,111,117,110,100]
abbrev Hl:=aO [76,97,98,101,108,115,46,110,101,101,100,95,97,110,100,95,107,110,111,116]
abbrev Mr:=aO [103,97,116,101,102,111,108,100,46,116,97,98,108,101,115]
abbrev EU:=aO [76,97,98,101,108,115,46,119,97,121,115]
abbrev Vj:=aO [119,97,121]
abbrev XV:=aO [95,108,97,119,95,112,105,101,99,101,95,104,101,114,101]
abbrev XJ:=aO [95,108,97,119,95,109,97,110,121]
abbrev U7:=aO [95,108,97,119,95,98,105,116,115]
abbrev v3:=aO [104,97,115,95,116,105,101]
abbrev Dp:=aO [70,111,108,100,46,104,97,115,95,116,105,101]
abbrev Wv:=aO [115,101,99,111,110,100]
abbrev Oz:=aO [115,112,114,105,110,103]
abbrev Fg:=aO [70,111,108,100,46,98,111,116,104]
abbrev Eo:=aO [70,111,108,100,46,95,95,105,110,105,116,95,95]
abbrev NK:=aO [116,104,105,110,103]
abbrev TQ:=aO [108,101,97,115,116]
abbrev WW:=aO [103,114,101,97,116,101,115,116]
abbrev YB:=aO [117,112,112,101,114]
abbrev GC:=aO [103,97,116,101,102,111,108,100,46,119,104,111,108,101,115]
abbrev Fy:=aO [76,97,98,101,108,115,46,107,101,101,112]
abbrev WS:=aO [108,101,118,101,108]
abbrev VB:=aO [103,97,116,101,102,111,108,100,46,103,97,116,101,115]
abbrev Np:=aO [103,97,116,101,102,111,108,100,46,108,97,121,105,110,103]
abbrev Gu:=aO [76,97,98,101,108,115,46,115,101,116,116,108,101]
abbrev P1:=aO [95,95,109,97,105,110,95,95]
def aL(P:PM):=oq y0 [] 0
abbrev e:=L aL
def bG(P:PM):OB:=(Obj.mk vn Ae (df #v[[]]) #v[[]])
abbrev oD(a b:Str)(n l k v m:Nat):Obj:=of y1 [vs a n,vs b (n+1),vs q1 (n+2),vi l 0,vi k 0,z0,z0,vi 3 0,vr v,bT,vi 181 0,vr (v+1),vn,vr (v+2),vr (v+3),vr (v+4),vi m 0,vi l 0,vs q1 (m+1)]
abbrev oE(a b:Str)(n l v:Nat):Obj:=of y1 [vs a n,vs b (n+1),vs q1 (n+2),vi l 0,z0,z0,z0,z0,vr v,bF,vi 181 0,vr (v+1),vn,vn,vn,vn,vi (n+3) 0,vi l 0,vs q1 (n+4)]
abbrev oF(a b:Str)(n l k v:Nat):Obj:=oC a b q1 n l k 3 v 181
def YV(P:PM):=oE Qp Qp 182 1 11
def YM(P:PM):=(ob y2 Data.plain #v[[(sr 13),(sr 3),(sr 3),Ae,(ss P1 164),Ae,(sr 0)]])
abbrev w0(P:PM):List AA:=[de P q7 166 vn,de P q8 167 vn,de P q9 168 (vb y4),de P q10 169 vn,de P q11 170 (vr 6),de P q12 171 (vr 4),de P q13 173 (vs q1 172),de P SE 174 vn,de P zT 193 (vr 21),de P Eb 202 (vr 28),de P F1 208 (vr 33),de P q4 228 (vr 43)]
def o49(P:PM):=od y3 ([de P q5 165 (vs q3 209)]++w0 P) 13
abbrev w21(P:PM):List Ac:=[vi 1 0,z0,vr 20,vi 5 0,z0,vr 27,vi 7 0,z0,vr 32,vi 18 0,z0,vr 39]
def o50(P:PM):OB:=(Obj.mk vn Ae (df #v[(w21 P)]) #v[[]])
def o53(P:PM):=oq y0 [vs q80 190] 0
def o55(P:PM):=j0 zT zT (tT 0)
def o56(P:PM):=oD zT zT 187 1 1 15 191
def o57(P:PM):=j1 zT zT (tT 0) P1 164 20
def o60(P:PM):=oq y0 [vs wR 199] 0
def o62(P:PM):=j0 Eb Eb (tT 2)
def WQ(P:PM):=oD Eb Eb 196 5 1 22 200
def o64(P:PM):=j1 Eb Eb (tT 2) wY 194 27
def o67(P:PM):=j0 F1 F1 (tT 3)
def VL(P:PM):=oF F1 F1 203 7 1 29
def o69(P:PM):=j1 F1 F1 (tT 3) wY 194 32
def o70(P:PM):=oq y0 [(vt y6)] 0
def oV(P:PM):=of y7 [(vb y8),(vt y9)]
def o72(P:PM):=od y3 [de P o9 218 (vs q3 209),de P wL 220 (vs q4 219),de P pa 222 (vi 18 221),de P oW 223 (vr 41)] 4
def o75(P:PM):=oE q4 q4 213 18 37
def o76(P:PM):=(ob y2 Data.plain #v[[(sr 39),(sr 3),(sr 36),Ae,(ss q3 209),Ae,(sr 0)]])
def Ww(P:PM):=od y3 [de P o9 218 (vs q3 209),de P pa 222 (vi 18 221),de P oW 223 (vr 41),de P zV 225 (vr 44),de P q7 226 vn] 3
def o79(P:PM):=(ob y9 (Data.cls (ClassData.mk q4 [(vt y6)] [vr 43,(vt y6),(vt ue),(vt tO),(vt pB)] 42 q4 Ai [] [] Ah Ae Ah)) #v[[(sr 34),Ae,(ss q4 211),(ss q4 219),(Aa (vb ui)),(Aa bT)]])
def o80(P:PM):=of Ed [vs zV 224,vr 43,(vb RQ),vn]
def o81(P:PM):=of wq [vr 43,vr 43,vr 43]
def o82(P:PM):=of y7 [(vb wA),vr 43]
abbrev w1(P:PM):List AA:=w0 P++[de P yX 244 (vr 56)]
def o83(P:PM):=od y3 ([de P q5 165 (vs q3 209)]++w1 P) 14
abbrev w22(P:PM):List Ac:=w21 P++[vi 20 0,z0,vr 52]
def o84(P:PM):OB:=(Obj.mk vn Ae (df #v[(w22 P)]) #v[[]])
def o85(P:PM):=(ob y9 (Data.cls (ClassData.mk q4 [(vt y6)] [vr 43,(vt y6),(vt ue),(vt tO),(vt pB)] 42 q4 Ai [] [vr 56] Ah Ae Ah)) #v[[(sr 34),Ae,(ss q4 211),(ss q4 219),(Aa (vb ui)),(Aa bT)]])
def uC(P:PM):=oq y0 [vr 43] 0
def Z4(P:PM):=od y3 [de P o9 236 (vs q3 209),de P wL 238 (vs yX 237),de P pa 240 (vi 20 239),de P oW 241 (vr 54)] 4
def o91(P:PM):=oE yX yX 231 20 50
def o92(P:PM):=(ob y2 Data.plain #v[[(sr 52),(sr 3),(sr 49),Ae,(ss q3 209),Ae,(sr 0)]])
def UH(P:PM):=od y3 [de P o9 236 (vs q3 209),de P pa 240 (vi 20 239),de P oW 241 (vr 54),de P q7 242 vn] 2
def VO(P:PM):=(ob y9 (Data.cls (ClassData.mk yX [vr 43] [vr 56,vr 43,(vt y6),(vt ue),(vt tO),(vt pB)] 55 yX Ai [] [] Ah Ae Ah)) #v[[(sr 47),Ae,(ss yX 229),(ss yX 237),(Aa (vb ui)),(Aa bT)]])
def o96(P:PM):=of wq [vr 56,vr 56,vr 56]
def o97(P:PM):=of y7 [(vb wA),vr 56]
abbrev w2(P:PM):List AA:=w1 P++[de P zk 260 (vr 68)]
def o98(P:PM):=od y3 ([de P q5 165 (vs q3 209)]++w2 P) 15
abbrev w23(P:PM):List Ac:=w22 P++[vi 22 0,z0,vr 64]
def o99(P:PM):OB:=(Obj.mk vn Ae (df #v[(w23 P)]) #v[[]])
def SW(P:PM):=(ob y9 (Data.cls (ClassData.mk q4 [(vt y6)] [vr 43,(vt y6),(vt ue),(vt tO),(vt pB)] 42 q4 Ai [] [vr 56,vr 68] Ah Ae Ah)) #v[[(sr 34),Ae,(ss q4 211),(ss q4 219),(Aa (vb ui)),(Aa bT)]])
def O3(P:PM):=od y3 [de P o9 252 (vs q3 209),de P wL 254 (vs zk 253),de P pa 256 (vi 22 255),de P oW 257 (vr 66)] 4
def M8(P:PM):=oE zk zk 247 22 62
def NG(P:PM):=(ob y2 Data.plain #v[[(sr 64),(sr 3),(sr 61),Ae,(ss q3 209),Ae,(sr 0)]])
def FL(P:PM):=od y3 [de P o9 252 (vs q3 209),de P pa 256 (vi 22 255),de P oW 257 (vr 66),de P q7 258 vn] 2
def DS(P:PM):=(ob y9 (Data.cls (ClassData.mk zk [vr 43] [vr 68,vr 43,(vt y6),(vt ue),(vt tO),(vt pB)] 67 zk Ai [] [] Ah Ae Ah)) #v[[(sr 59),Ae,(ss zk 245),(ss zk 253),(Aa (vb ui)),(Aa bT)]])
def L5(P:PM):=of wq [vr 68,vr 68,vr 68]
def LG(P:PM):=of y7 [(vb wA),vr 68]
abbrev w3(P:PM):List AA:=w2 P++[de P zi 276 (vr 80)]
def XH(P:PM):=od y3 ([de P q5 165 (vs q3 209)]++w3 P) 16
abbrev w24(P:PM):List Ac:=w23 P++[vi 24 0,z0,vr 76]
def Xf(P:PM):OB:=(Obj.mk vn Ae (df #v[(w24 P)]) #v[[]])
def Zc(P:PM):=(ob y9 (Data.cls (ClassData.mk q4 [(vt y6)] [vr 43,(vt y6),(vt ue),(vt tO),(vt pB)] 42 q4 Ai [] [vr 56,vr 68,vr 80] Ah Ae Ah)) #v[[(sr 34),Ae,(ss q4 211),(ss q4 219),(Aa (vb ui)),(Aa bT)]])
def LC(P:PM):=od y3 [de P o9 268 (vs q3 209),de P wL 270 (vs zi 269),de P pa 272 (vi 24 271),de P oW 273 (vr 78)] 4
def NP(P:PM):=oE zi zi 263 24 74
def Kx(P:PM):=(ob y2 Data.plain #v[[(sr 76),(sr 3),(sr 73),Ae,(ss q3 209),Ae,(sr 0)]])
def Gk(P:PM):=od y3 [de P o9 268 (vs q3 209),de P pa 272 (vi 24 271),de P oW 273 (vr 78),de P q7 274 vn] 2
def CQ(P:PM):=(ob y9 (Data.cls (ClassData.mk zi [vr 43] [vr 80,vr 43,(vt y6),(vt ue),(vt tO),(vt pB)] 79 zi Ai [] [] Ah Ae Ah)) #v[[(sr 71),Ae,(ss zi 261),(ss zi 269),(Aa (vb ui)),(Aa bT)]])
def K4(P:PM):=of wq [vr 80,vr 80,vr 80]
def Jw(P:PM):=of y7 [(vb wA),vr 80]
abbrev w4(P:PM):List AA:=w3 P++[de P zM 292 (vr 92)]
def Ux(P:PM):=od y3 ([de P q5 165 (vs q3 209)]++w4 P) 17
abbrev w25(P:PM):List Ac:=w24 P++[vi 26 0,z0,vr 88]
def YK(P:PM):OB:=(Obj.mk vn Ae (df #v[(w25 P)]) #v[[]])
def VX(P:PM):=(ob y9 (Data.cls (ClassData.mk q4 [(vt y6)] [vr 43,(vt y6),(vt ue),(vt tO),(vt pB)] 42 q4 Ai [] [vr 56,vr 68,vr 80,vr 92] Ah Ae Ah)) #v[[(sr 34),Ae,(ss q4 211),(ss q4 219),(Aa (vb ui)),(Aa bT)]])
def MX(P:PM):=od y3 [de P o9 284 (vs q3 209),de P wL 286 (vs zM 285),de P pa 288 (vi 26 287),de P oW 289 (vr 90)] 4
def MK(P:PM):=oE zM zM 279 26 86
def Oc(P:PM):=(ob y2 Data.plain #v[[(sr 88),(sr 3),(sr 85),Ae,(ss q3 209),Ae,(sr 0)]])
def FE(P:PM):=od y3 [de P o9 284 (vs q3 209),de P pa 288 (vi 26 287),de P oW 289 (vr 90),de P q7 290 vn] 2
def DY(P:PM):=(ob y9 (Data.cls (ClassData.mk zM [vr 43] [vr 92,vr 43,(vt y6),(vt ue),(vt tO),(vt pB)] 91 zM Ai [] [] Ah Ae Ah)) #v[[(sr 83),Ae,(ss zM 277),(ss zM 285),(Aa (vb ui)),(Aa bT)]])
def Pd(P:PM):=of wq [vr 92,vr 92,vr 92]
def JM(P:PM):=of y7 [(vb wA),vr 92]
abbrev w5(P:PM):List AA:=w4 P++[de P yx 308 (vr 104)]
def UZ(P:PM):=od y3 ([de P q5 165 (vs q3 209)]++w5 P) 18
abbrev w26(P:PM):List Ac:=w25 P++[vi 28 0,z0,vr 100]
def Xj(P:PM):OB:=(Obj.mk vn Ae (df #v[(w26 P)]) #v[[]])
def Vd(P:PM):=(ob y9 (Data.cls (ClassData.mk q4 [(vt y6)] [vr 43,(vt y6),(vt ue),(vt tO),(vt pB)] 42 q4 Ai [] [vr 56,vr 68,vr 80,vr 92,vr 104] Ah Ae Ah)) #v[[(sr 34),Ae,(ss q4 211),(ss q4 219),(Aa (vb ui)),(Aa bT)]])
def Oo(P:PM):=od y3 [de P o9 300 (vs q3 209),de P wL 302 (vs yx 301),de P pa 304 (vi 28 303),de P oW 305 (vr 102)] 4
def No(P:PM):=oE yx yx 295 28 98
def Kj(P:PM):=(ob y2 Data.plain #v[[(sr 100),(sr 3),(sr 97),Ae,(ss q3 209),Ae,(sr 0)]])
def GS(P:PM):=od y3 [de P o9 300 (vs q3 209),de P pa 304 (vi 28 303),de P oW 305 (vr 102),de P q7 306 vn] 2
def Gq(P:PM):=(ob y9 (Data.cls (ClassData.mk yx [vr 43] [vr 104,vr 43,(vt y6),(vt ue),(vt tO),(vt pB)] 103 yx Ai [] [] Ah Ae Ah)) #v[[(sr 95),Ae,(ss yx 293),(ss yx 301),(Aa (vb ui)),(Aa bT)]])
def MG(P:PM):=of wq [vr 104,vr 104,vr 104]
def K3(P:PM):=of y7 [(vb wA),vr 104]
abbrev w6(P:PM):List AA:=w5 P++[de P yR 324 (vr 116),de P D0 335 (vr 125),de P Gr 346 (vr 132),de P CT 355 (vr 139),de P C3 364 (vr 146),de P DU 373 (vr 153)]
def Tf(P:PM):=od y3 ([de P q5 165 (vs GC 356)]++w6 P) 24
abbrev w27(P:PM):List Ac:=w26 P++[vi 30 0,z0,vr 112,vi 33 0,z0,vr 124,vi 37 0,z0,vr 131,vi 39 0,z0,vr 138,vi 42 0,z0,vr 145,vi 44 0,z0,vr 152]
def Xo(P:PM):OB:=(Obj.mk vn Ae (df #v[(w27 P)]) #v[[]])
def E1(P:PM):=(ob y9 (Data.cls (ClassData.mk q4 [(vt y6)] [vr 43,(vt y6),(vt ue),(vt tO),(vt pB)] 42 q4 Ai [] [vr 56,vr 68,vr 80,vr 92,vr 104,vr 116] Ah Ae Ah)) #v[[(sr 34),Ae,(ss q4 211),(ss q4 219),(Aa (vb ui)),(Aa bT)]])
def Jz(P:PM):=od y3 [de P o9 316 (vs q3 209),de P wL 318 (vs yR 317),de P pa 320 (vi 30 319),de P oW 321 (vr 114)] 4
def PR(P:PM):=oE yR yR 311 30 110
def LB(P:PM):=(ob y2 Data.plain #v[[(sr 112),(sr 3),(sr 109),Ae,(ss q3 209),Ae,(sr 0)]])
def Gb(P:PM):=od y3 [de P o9 316 (vs q3 209),de P pa 320 (vi 30 319),de P oW 321 (vr 114),de P q7 322 vn] 2
def ET(P:PM):=(ob y9 (Data.cls (ClassData.mk yR [vr 43] [vr 116,vr 43,(vt y6),(vt ue),(vt tO),(vt pB)] 115 yR Ai [] [] Ah Ae Ah)) #v[[(sr 107),Ae,(ss yR 309),(ss yR 317),(Aa (vb ui)),(Aa bT)]])
def Ql(P:PM):=of wq [vr 116,vr 116,vr 116]
def JL(P:PM):=of y7 [(vb wA),vr 116]
def KG(P:PM):=oq y0 [vs ud 330,vs HB 331,vs NB 332] 0
def JY(P:PM):=j0 D0 D0 (tT 13)
def Qh(P:PM):=oD D0 D0 327 33 2 119 333
def Pf(P:PM):=j1 D0 D0 (tT 13) VB 325 124
def K6(P:PM):=oq y0 [vs Mq 341,vs GF 342,vs HB 343] 0
def N0(P:PM):=j0 Gr Gr (tT 15)
def GJ(P:PM):=oD Gr Gr 338 37 3 126 344
def OR(P:PM):=j1 Gr Gr (tT 15) xQ 336 131
def KB(P:PM):=oq y0 [vs Mq 350,vs xy 351,vs HB 352] 0
def JU(P:PM):=j0 CT CT (tT 16)
def GV(P:PM):=oD CT CT 347 39 3 133 353
def P6(P:PM):=j1 CT CT (tT 16) xQ 336 138
def Lh(P:PM):=oq y0 [vs NK 361] 0
def J2(P:PM):=j0 C3 C3 (tT 18)
def Fu(P:PM):=oD C3 C3 358 42 1 140 362
def KO(P:PM):=j1 C3 C3 (tT 18) GC 356 145
def Nu(P:PM):=oq y0 [vs NK 368,vs TQ 369,vs WW 370] 0
def O6(P:PM):=j0 DU DU (tT 19)
def GY(P:PM):=oD DU DU 365 44 3 147 371
def Py(P:PM):=j1 DU DU (tT 19) GC 356 152
abbrev w7(P:PM):List AA:=w6 P++[de P GN 379 (vr 158),de P q30 383 (vi 10 382),de P q31 385 (vi 999 384),de P q32 387 (vi 6 386),de P GQ 393 (vr 163),de P DW 399 (vr 168),de P Hv 408 (vr 175),de P Hk 414 (vr 180)]
def TC(P:PM):=od y3 ([de P q5 165 (vs pI 380)]++w7 P) 32
abbrev w28(P:PM):List Ac:=w27 P++[vi 46 0,z0,vr 157,vi 52 0,z0,vr 162,vi 58 0,z0,vr 167,vi 69 0,z0,vr 174,vi 75 0,z0,vr 179]
def VE(P:PM):OB:=(Obj.mk vn Ae (df #v[(w28 P)]) #v[[]])
def Mw(P:PM):=j0 GN GN (tT 20)
def GO(P:PM):=oF GN GN 374 46 1 154
def N4(P:PM):=j1 GN GN (tT 20) GC 356 157
def KU(P:PM):=j0 GQ GQ (tT 25)
def GA(P:PM):=oF GQ GQ 388 52 2 159
def Qi(P:PM):=j1 GQ GQ (tT 25) pI 380 162
def Op(P:PM):=j0 DW DW (tT 26)
def Dv(P:PM):=oF DW DW 394 58 2 164
def NZ(P:PM):=j1 DW DW (tT 26) pI 380 167
def LW(P:PM):=oq y0 [vs Hc 403,vs q93 404,vs xy 405] 0
def OC(P:PM):=j0 Hv Hv (tT 27)
def Ek(P:PM):=oD Hv Hv 400 69 2 169 406
def Kq(P:PM):=j1 Hv Hv (tT 27) pI 380 174
def Jk(P:PM):=j0 Hk Hk (tT 28)
def Km(P:PM):=oF Hk Hk 409 75 3 176
def Lg(P:PM):=j1 Hk Hk (tT 28) pI 380 179
abbrev w8(P:PM):List AA:=w7 P++[de P zx 469 (vr 219),de P Hj 477 (vr 228)]
def Yv(P:PM):=od y3 ([de P q5 165 (vs q6 470)]++w8 P) 34
abbrev w29(P:PM):List Ac:=w28 P++[vi 80 0,z0,vr 186,vi 106 0,z0,vr 227]
def S2(P:PM):OB:=(Obj.mk vn Ae (df #v[(w29 P)]) #v[[]])
abbrev w9(P:PM):List AA:=[de P wL 424 (vs zx 423),de P pa 426 (vi 80 425),de P rL 432 (vr 192),de P N6 438 (vr 197),de P Hc 445 (vr 204),de P ud 451 (vr 209),de P vm 458 (vr 216),de P oW 462 (vr 217)]
def Ps(P:PM):=od y3 ([de P o9 422 (vs pI 380)]++w9 P) 9
abbrev w30(P:PM):List Ac:=[vi 82 0,vi 4 0,vr 191,vi 90 0,vi 4 0,vr 196,vi 93 0,vi 4 0,vr 203,vi 96 0,vi 4 0,vr 208,vi 103 0,vi 4 0,vr 215]
def KQ(P:PM):OB:=(Obj.mk vn Ae (df #v[(w30 P)]) #v[[]])
def Qs(P:PM):=oE zx zx 417 80 184
def Lm(P:PM):=(ob y2 Data.plain #v[[(sr 186),(sr 3),(sr 183),Ae,(ss pI 380),Ae,(sr 0)]])
def LZ(P:PM):=j0 rL FX (fB (tT 29) 0)
def C9(P:PM):=oF rL FX 427 82 4 188
def Qw(P:PM):=j1 rL FX (fB (tT 29) 0) pI 380 191
def Pl(P:PM):=j0 N6 Uq (fB (tT 29) 1)
def DF(P:PM):=oF N6 Uq 433 90 1 193
def Nn(P:PM):=j1 N6 Uq (fB (tT 29) 1) pI 380 196
def OE(P:PM):=oq y0 [vs tM 442] 0
def MI(P:PM):=j0 Hc EC (fB (tT 29) 2)
def FK(P:PM):=oD Hc EC 439 93 1 198 443
def Ov(P:PM):=j1 Hc EC (fB (tT 29) 2) pI 380 203
def J0(P:PM):=j0 ud Fl (fB (tT 29) 3)
def Ly(P:PM):=oF ud Fl 446 96 1 205
def MM(P:PM):=j1 ud Fl (fB (tT 29) 3) pI 380 208
def Kk(P:PM):=oq y0 [vs tM 455] 0
def Qq(P:PM):=j0 vm Ec (fB (tT 29) 4)
def JH(P:PM):=oD vm Ec 452 103 1 210 456
def J9(P:PM):=j1 vm Ec (fB (tT 29) 4) pI 380 215
def NT(P:PM):=oq y0 [vs Xu 459,vs SY 460,vs wR 461] 0
abbrev w10(P:PM):List AA:=[de P pa 426 (vi 80 425),de P rL 432 (vr 192),de P N6 438 (vr 197),de P Hc 445 (vr 204),de P ud 451 (vr 209),de P vm 458 (vr 216),de P oW 462 (vr 217),de P tH 464 (vr 220),de P zV 466 (vr 221),de P q7 467 vn]
def Hq(P:PM):=od y3 ([de P o9 422 (vs pI 380)]++w10 P) 4
def EA(P:PM):=(ob y9 (Data.cls (ClassData.mk zx [(vt pB)] [vr 219,(vt pB)] 218 zx Ai [] [] Ah Ae Ah)) #v[[Ae,Ae,(ss zx 415),(ss zx 423),(Aa (vb Za)),(Aa bT)]])
def Kp(P:PM):=of Ed [vs tH 463,vr 219,(vb T7),(vb Uk)]
def PP(P:PM):=of Ed [vs zV 465,vr 219,(vb RQ),vn]
def MQ(P:PM):=of wq [vr 219,vr 219,vr 219]
def LR(P:PM):=of y7 [(vb wA),vr 219]
def P2(P:PM):=j0 Hj Hj (tT 31)
def GT(P:PM):=oF Hj Hj 472 106 3 224
def JB(P:PM):=j1 Hj Hj (tT 31) q6 470 227
abbrev w11(P:PM):List AA:=w8 P++[de P Et 485 (vr 235),de P EZ 491 (vr 240),de P DN 500 (vr 247),de P GH 507 (vr 254),de P GZ 516 (vr 261),de P EE 522 (vr 266),de P CN 538 (vr 273),de P G6 550 (vr 280),de P DO 559 (vr 287),de P Dq 565 (vr 292),de P DK 571 (vr 297),de P Gc 583 (vr 304),de P q52 587 (vi 2 586),de P q53 589 (vi 6 588)]
def W9(P:PM):=od y3 ([de P q5 165 (vs oa 584)]++w11 P) 48
abbrev w31(P:PM):List Ac:=w29 P++[vi 115 0,z0,vr 234,vi 119 0,z0,vr 239,vi 128 0,z0,vr 246,vi 130 0,z0,vr 253,vi 132 0,z0,vr 260,vi 136 0,z0,vr 265,vi 143 0,z0,vr 272,vi 159 0,z0,vr 279,vi 172 0,z0,vr 286,vi 177 0,z0,vr 291,vi 180 0,z0,vr 296,vi 182 0,z0,vr 303]
def Vi(P:PM):OB:=(Obj.mk vn Ae (df #v[(w31 P)]) #v[[]])
def NF(P:PM):=oq y0 [vs HA 481,vs zZ 482] 0
def Qo(P:PM):=j0 Et Et (tT 32)
def Fj(P:PM):=oD Et Et 478 115 2 229 483
def Lq(P:PM):=j1 Et Et (tT 32) q6 470 234
def Lz(P:PM):=j0 EZ EZ (tT 33)
def G5(P:PM):=oF EZ EZ 486 119 3 236
def L1(P:PM):=j1 EZ EZ (tT 33) q6 470 239
def PY(P:PM):=oq y0 [vs xq 497] 0
def Pn(P:PM):=j0 DN DN (tT 35)
def He(P:PM):=oD DN DN 494 128 1 241 498
def Nl(P:PM):=j1 DN DN (tT 35) pf 492 246
def Lx(P:PM):=oq y0 [vs xq 504] 0
def Kd(P:PM):=j0 GH GH (tT 36)
def Gy(P:PM):=oD GH GH 501 130 1 248 505
def Nz(P:PM):=j1 GH GH (tT 36) pf 492 253
def KC(P:PM):=oq y0 [vs P5 511,vs Zj 512,vs L9 513] 0
def NR(P:PM):=j0 GZ GZ (tT 37)
def Dm(P:PM):=oD GZ GZ 508 132 2 255 514
def Oh(P:PM):=j1 GZ GZ (tT 37) pf 492 260
def Me(P:PM):=j0 EE EE (tT 38)
def Do(P:PM):=oF EE EE 517 136 3 262
def Oj(P:PM):=j1 EE EE (tT 38) pf 492 265
def NI(P:PM):=oq y0 [vs P5 526,vs Zj 527,vs Qy 528,vs P9 529,vs L9 530,vs q96 531,vs Y2 532,vs Qt 533,vs xq 534,vs Yr 535] 0
def KL(P:PM):=j0 CN CN (tT 39)
def EQ(P:PM):=oD CN CN 523 143 3 267 536
def NW(P:PM):=j1 CN CN (tT 39) pf 492 272
def M0(P:PM):=oq y0 [vs Qy 542,vs P9 543,vs Oz 544,vs Qt 545,vs xq 546,vs YB 547] 0
def Of(P:PM):=j0 G6 G6 (tT 40)
def Hg(P:PM):=oD G6 G6 539 159 3 274 548
def Ms(P:PM):=j1 G6 G6 (tT 40) pf 492 279
def NH(P:PM):=oq y0 [vs Qy 554,vs Oz 555,vs Vj 556] 0
def J1(P:PM):=j0 DO DO (tT 41)
def DD(P:PM):=oD DO DO 551 172 2 281 557
def Nh(P:PM):=j1 DO DO (tT 41) pf 492 286
def LX(P:PM):=j0 Dq Dq (tT 42)
def DQ(P:PM):=oF Dq Dq 560 177 2 288
def Mv(P:PM):=j1 Dq Dq (tT 42) pf 492 291
def MJ(P:PM):=j0 DK DK (tT 43)
def Fh(P:PM):=oF DK DK 566 180 1 293
def M3(P:PM):=j1 DK DK (tT 43) pf 492 296
def LQ(P:PM):=oq y0 [vs P5 575,vs Zj 576,vs q74 577,vs Qy 578,vs q76 579,vs q78 580] 0
def OG(P:PM):=j0 Gc Gc (tT 44)
def FB(P:PM):=oD Gc Gc 572 182 3 298 581
def Qa(P:PM):=j1 Gc Gc (tT 44) pf 492 303
abbrev w12(P:PM):List AA:=w11 P++[de P C4 596 (vr 311),de P DR 606 (vr 318)]
def Uo(P:PM):=od y3 ([de P q5 165 (vs oa 584)]++w12 P) 50
abbrev ZZ(P:PM):List Ac:=w31 P++[vi 194 0,z0,vr 310,vi 197 0,z0,vr 317]
def ZG(P:PM):OB:=(Obj.mk vn Ae (df #v[(ZZ P)]) #v[[]])
def Ky(P:PM):=oq y0 [vs Og 593] 0
def JK(P:PM):=j0 C4 C4 (tT 48)
def GD(P:PM):=oD C4 C4 590 194 1 305 594
def Pb(P:PM):=j1 C4 C4 (tT 48) oa 584 310
def NS(P:PM):=oq y0 [vs HA 600,vs P5 601,vs zZ 602,vs GF 603] 0
def Nd(P:PM):=j0 DR DR (tT 49)
def DX(P:PM):=oD DR DR 597 197 1 312 604
def OF(P:PM):=j1 DR DR (tT 49) oa 584 317
abbrev w13(P:PM):List AA:=w12 P++[de P q2 687 (vr 373)]
def Um(P:PM):=od y3 ([de P q5 165 (vs oa 584)]++w13 P) 51
abbrev w33(P:PM):List Ac:=ZZ P++[vi 203 0,z0,vr 324]
def TR(P:PM):OB:=(Obj.mk vn Ae (df #v[(w33 P)]) #v[[]])
abbrev w14(P:PM):List AA:=[de P wL 616 (vs q2 615),de P pa 618 (vi 203 617),de P rL 629 (vr 332),de P vC 635 (vr 337),de P wf 646 (vr 344),de P vj 654 (vr 351),de P MS 662 (vr 358),de P Ia 670 (vr 365),de P tJ 676 (vr 370),de P oW 680 (vr 371)]
def KZ(P:PM):=od y3 ([de P o9 614 (vs oa 584)]++w14 P) 11
abbrev w34(P:PM):List Ac:=[vi 205 0,vi 4 0,vr 331,vi 214 0,vi 4 0,vr 336,vi 229 0,vi 4 0,vr 343,vi 234 0,vi 4 0,vr 350,vi 238 0,vi 4 0,vr 357,vi 241 0,vi 4 0,vr 364,vi 245 0,vi 4 0,vr 369]
def LH(P:PM):OB:=(Obj.mk vn Ae (df #v[(w34 P)]) #v[[]])
def Jy(P:PM):=oE q2 q2 609 203 322
def Oi(P:PM):=(ob y2 Data.plain #v[[(sr 324),(sr 3),(sr 321),Ae,(ss oa 584),Ae,(sr 0)]])
def LP(P:PM):=oq y0 [vs tM 622,vs HA 623,vs Og 624,vs P5 625,vs zZ 626] 0
def ON(P:PM):=j0 rL EO (fB (tT 50) 0)
def EW(P:PM):=oD rL EO 619 205 3 326 627
def KA(P:PM):=j1 rL EO (fB (tT 50) 0) oa 584 331
def JJ(P:PM):=j0 vC Gu (fB (tT 50) 1)
def F8(P:PM):=oF vC Gu 630 214 4 333
def JC(P:PM):=j1 vC Gu (fB (tT 50) 1) oa 584 336
def NX(P:PM):=oq y0 [vs tM 639,vs zZ 640,vs WS 641,vs Ia 642,vs tJ 643] 0
def N1(P:PM):=j0 wf Fy (fB (tT 50) 2)
def FG(P:PM):=oD wf Fy 636 229 5 338 644
def MH(P:PM):=j1 wf Fy (fB (tT 50) 2) oa 584 343
def Lf(P:PM):=oq y0 [vs tM 650,vs zZ 651] 0
def ND(P:PM):=j0 vj Hl (fB (tT 50) 3)
def Dt(P:PM):=oD vj Hl 647 234 2 345 652
def OM(P:PM):=j1 vj Hl (fB (tT 50) 3) oa 584 350
def Kz(P:PM):=oq y0 [vs tM 658,vs zZ 659] 0
def LM(P:PM):=j0 MS Tl (fB (tT 50) 4)
def NY(P:PM):=oD MS Tl 655 238 2 352 660
def Nj(P:PM):=j1 MS Tl (fB (tT 50) 4) oa 584 357
def Nr(P:PM):=oq y0 [vs tM 666,vs zZ 667] 0
def MN(P:PM):=j0 Ia Vc (fB (tT 50) 5)
def EM(P:PM):=oD Ia Vc 663 241 2 359 668
def Pz(P:PM):=j1 Ia Vc (fB (tT 50) 5) oa 584 364
def NQ(P:PM):=j0 tJ EU (fB (tT 50) 6)
def OJ(P:PM):=oF tJ EU 671 245 2 366
def KI(P:PM):=j1 tJ EU (fB (tT 50) 6) oa 584 369
def Jj(P:PM):=oq y0 [vs Vh 677,vs UT 678,vs Zy 679] 0
abbrev w15(P:PM):List AA:=[de P pa 618 (vi 203 617),de P rL 629 (vr 332),de P vC 635 (vr 337),de P wf 646 (vr 344),de P vj 654 (vr 351),de P MS 662 (vr 358),de P Ia 670 (vr 365),de P tJ 676 (vr 370),de P oW 680 (vr 371),de P tH 682 (vr 374),de P zV 684 (vr 375),de P q7 685 vn]
def G4(P:PM):=od y3 ([de P o9 614 (vs oa 584)]++w15 P) 4
def G8(P:PM):=(ob y9 (Data.cls (ClassData.mk q2 [(vt pB)] [vr 373,(vt pB)] 372 q2 Ai [] [] Ah Ae Ah)) #v[[Ae,Ae,(ss q2 607),(ss q2 615),(Aa (vb Za)),(Aa bT)]])
def NA(P:PM):=of Ed [vs tH 681,vr 373,(vb T7),(vb Uk)]
def Od(P:PM):=of Ed [vs zV 683,vr 373,(vb RQ),vn]
def Ou(P:PM):=of wq [vr 373,vr 373,vr 373]
def Pu(P:PM):=of y7 [(vb wA),vr 373]
abbrev w16(P:PM):List AA:=w13 P++[de P DA 695 (vr 382),de P Hy 703 (vr 387),de P q58 707 (vi 0 706),de P q59 709 (vi 1 708),de P GI 716 (vr 394)]
def Yh(P:PM):=od y3 ([de P q5 165 (vs qg 704)]++w16 P) 56
abbrev w35(P:PM):List Ac:=w33 P++[vi 249 0,z0,vr 381,vi 259 0,z0,vr 386,vi 273 0,z0,vr 393]
def TY(P:PM):OB:=(Obj.mk vn Ae (df #v[(w35 P)]) #v[[]])
def Lw(P:PM):=j0 DA DA (tT 52)
def FZ(P:PM):=oF DA DA 690 249 3 378
def Mt(P:PM):=j1 DA DA (tT 52) Mr 688 381
def Pp(P:PM):=j0 Hy Hy (tT 54)
def DC(P:PM):=oF Hy Hy 698 259 3 383
def Jm(P:PM):=j1 Hy Hy (tT 54) Np 696 386
def Lk(P:PM):=oq y0 [vs xy 713] 0
def OO(P:PM):=j0 GI GI (tT 58)
def EB(P:PM):=oD GI GI 710 273 1 388 714
def N3(P:PM):=j1 GI GI (tT 58) qg 704 393
abbrev w17(P:PM):List AA:=w16 P++[de P yE 789 (vr 446)]
def U4(P:PM):=od y3 ([de P q5 165 (vs mX 790)]++w17 P) 57
abbrev w36(P:PM):List Ac:=w35 P++[vi 275 0,z0,vr 400]
def Y3(P:PM):OB:=(Obj.mk vn Ae (df #v[(w36 P)]) #v[[]])
abbrev w18(P:PM):List AA:=[de P wL 726 (vs yE 725),de P pa 728 (vi 275 727),de P rL 736 (vr 408),de P vw 743 (vr 415),de P v3 751 (vr 422),de P GF 759 (vr 429),de P vL 770 (vr 436),de P vc 778 (vr 443),de P oW 782 (vr 444)]
def PU(P:PM):=od y3 ([de P o9 724 (vs qg 704)]++w18 P) 10
abbrev w37(P:PM):List Ac:=[vi 277 0,vi 4 0,vr 407,vi 282 0,vi 4 0,vr 414,vi 285 0,vi 4 0,vr 421,vi 288 0,vi 4 0,vr 428,vi 295 0,vi 4 0,vr 435,vi 308 0,vi 4 0,vr 442]
def Jh(P:PM):OB:=(Obj.mk vn Ae (df #v[(w37 P)]) #v[[]])
def M6(P:PM):=oE yE yE 719 275 398
def Kv(P:PM):=(ob y2 Data.plain #v[[(sr 400),(sr 3),(sr 397),Ae,(ss qg 704),Ae,(sr 0)]])
def N7(P:PM):=oq y0 [vs tM 732,vs wR 733] 0
def J8(P:PM):=j0 rL Eo (fB (tT 59) 0)
def GB(P:PM):=oD rL Eo 729 277 2 402 734
def Ks(P:PM):=j1 rL Eo (fB (tT 59) 0) qg 704 407
def Jp(P:PM):=oq y0 [vs tM 740] 0
def N8(P:PM):=j0 vw FO (fB (tT 59) 1)
def Ga(P:PM):=oD vw FO 737 282 1 409 741
def L8(P:PM):=j1 vw FO (fB (tT 59) 1) qg 704 414
def K5(P:PM):=oq y0 [vs tM 747,vs xy 748] 0
def PZ(P:PM):=j0 v3 Dp (fB (tT 59) 2)
def Ee(P:PM):=oD v3 Dp 744 285 2 416 749
def JV(P:PM):=j1 v3 Dp (fB (tT 59) 2) qg 704 421
def Mn(P:PM):=oq y0 [vs tM 755,vs zZ 756] 0
def KM(P:PM):=j0 GF DB (fB (tT 59) 3)
def Dz(P:PM):=oD GF DB 752 288 2 423 757
def Kr(P:PM):=j1 GF DB (fB (tT 59) 3) qg 704 428
def Ko(P:PM):=oq y0 [vs tM 763,vs Vs 764,vs Ud 765,vs NB 766,vs Wv 767] 0
def Ka(P:PM):=j0 vL Fg (fB (tT 59) 4)
def EJ(P:PM):=oD vL Fg 760 295 3 430 768
def M9(P:PM):=j1 vL Fg (fB (tT 59) 4) qg 704 435
def Ol(P:PM):=oq y0 [vs tM 774,vs Hc 775] 0
def N9(P:PM):=j0 vc Fs (fB (tT 59) 5)
def Dj(P:PM):=oD vc Fs 771 308 2 437 776
def MY(P:PM):=j1 vc Fs (fB (tT 59) 5) qg 704 442
def Qu(P:PM):=oq y0 [vs Tx 779,vs wR 780,vs YO 781] 0
abbrev w19(P:PM):List AA:=[de P pa 728 (vi 275 727),de P rL 736 (vr 408),de P vw 743 (vr 415),de P v3 751 (vr 422),de P GF 759 (vr 429),de P vL 770 (vr 436),de P vc 778 (vr 443),de P oW 782 (vr 444),de P tH 784 (vr 447),de P zV 786 (vr 448),de P q7 787 vn]
def CD(P:PM):=od y3 ([de P o9 724 (vs qg 704)]++w19 P) 4
def CV(P:PM):=(ob y9 (Data.cls (ClassData.mk yE [(vt pB)] [vr 446,(vt pB)] 445 yE Ai [] [] Ah Ae Ah)) #v[[Ae,Ae,(ss yE 717),(ss yE 725),(Aa (vb Za)),(Aa bT)]])
def JP(P:PM):=of Ed [vs tH 783,vr 446,(vb T7),(vb Uk)]
def NE(P:PM):=of Ed [vs zV 785,vr 446,(vb RQ),vn]
def Kh(P:PM):=of wq [vr 446,vr 446,vr 446]
def MO(P:PM):=of y7 [(vb wA),vr 446]
abbrev w20(P:PM):List AA:=w17 P++[de P GX 799 (vr 457),de P F3 806 (vr 464),de P Du 817 (vr 471),de P q0 827 (vr 478),de P C2 833 (vr 483),de P Gw 839 (vr 488),de P Dg 845 (vr 493),de P Go 859 (vr 500),de P D1 869 (vr 507),de P FV 875 (vr 512),de P FI 881 (vr 517)]
def Fm(P:PM):=od y3 ([de P q5 165 (vs mX 790)]++w20 P) 68
abbrev w38(P:PM):List Ac:=w36 P++[vi 314 0,z0,vr 456,vi 318 0,z0,vr 463,vi 320 0,z0,vr 470,vi 327 0,z0,vr 477,vi 332 0,z0,vr 482,vi 344 0,z0,vr 487,vi 357 0,z0,vr 492,vi 370 0,z0,vr 499,vi 380 0,z0,vr 506,vi 388 0,z0,vr 511,vi 402 0,z0,vr 516]
def K8(P:PM):OB:=(Obj.mk vn Ae (df #v[(w38 P)]) #v[[]])
def Ot(P:PM):=oq y0 [vs WK 795,vs PB 796] 0
def M5(P:PM):=j0 GX GX (tT 61)
def G7(P:PM):=oD GX GX 792 314 2 451 797
def JR(P:PM):=j1 GX GX (tT 61) mX 790 456
def Nq(P:PM):=oq y0 [vs Xz 803] 0
def P7(P:PM):=j0 F3 F3 (tT 62)
def Fi(P:PM):=oD F3 F3 800 318 1 458 804
def JA(P:PM):=j1 F3 F3 (tT 62) mX 790 463
def LO(P:PM):=oq y0 [vs Ub 810,vs Ts 811,vs XB 812,vs Ls 813,vs Pw 814] 0
def Kf(P:PM):=j0 Du Du (tT 63)
def CM(P:PM):=oD Du Du 807 320 2 465 815
def OV(P:PM):=j1 Du Du (tT 63) mX 790 470
def Jx(P:PM):=oq y0 [vs q99 821,vs Pw 822,vs Xl 823,vs PB 824] 0
def Mf(P:PM):=j0 q0 q0 (tT 64)
def Db(P:PM):=oD q0 q0 818 327 2 472 825
def LK(P:PM):=j1 q0 q0 (tT 64) mX 790 477
def Px(P:PM):=j0 C2 C2 (tT 65)
def D7(P:PM):=oF C2 C2 828 332 4 479
def JF(P:PM):=j1 C2 C2 (tT 65) mX 790 482
def Lr(P:PM):=j0 Gw Gw (tT 66)
def EF(P:PM):=oF Gw Gw 834 344 3 484
def NU(P:PM):=j1 Gw Gw (tT 66) mX 790 487
def Nv(P:PM):=j0 Dg Dg (tT 67)
def Hu(P:PM):=oF Dg Dg 840 357 3 489
def Pg(P:PM):=j1 Dg Dg (tT 67) mX 790 492
def JW(P:PM):=oq y0 [vs XV 849,vs Yq 850,vs XJ 851,vs SM 852,vs XF 853,vs S0 854,vs U7 855,vs Ls 856] 0
def LD(P:PM):=j0 Go Go (tT 68)
def EN(P:PM):=oD Go Go 846 370 4 494 857
def LN(P:PM):=j1 Go Go (tT 68) mX 790 499
def OZ(P:PM):=oq y0 [vs q99 863,vs WM 864,vs XR 865,vs ZA 866] 0
def N5(P:PM):=j0 D1 D1 (tT 69)
def Eh(P:PM):=oD D1 D1 860 380 3 501 867
def Qj(P:PM):=j1 D1 D1 (tT 69) mX 790 506
def Jl(P:PM):=j0 FV FV (tT 70)
def FW(P:PM):=oF FV FV 870 388 5 508
def P3(P:PM):=j1 FV FV (tT 70) mX 790 511
def Qx(P:PM):=j0 FI FI (tT 71)
def F2(P:PM):=oF FI FI 876 402 1 513
def Nk(P:PM):=j1 FI FI (tT 71) mX 790 516
def Z8(P:BB):Ax:=(Heap.mk #v[[b0 P,b1 P,b2 P,b3 P,b4 P,b5 P,b6 P,b7 P,b8 P,b9 P,TJ P,aL P,bG P,YV P,YM P]] (PySem.Life.mk [] [] [] 0 [] [] Ah #v[[]] [] 0 Ah Ah Ah 0 [2000,10,10] Ah 0 Ai [] [] 0 Ah))
def st_(f:Nat):Nat->OB->BT->BT:=Nat.rec (λ_ _ t=>t) (λ_ r i x t=>BT.casesOn t (.node x .nil .nil) (λy a b=>cond (Nat.beq i 0) (.node x a b) (cond (Nat.beq (i%2) 1) (.node y (r (i/2) x a) b) (.node y a (r (i/2-1) x b))))) f
def rz(P:PM)(l:List (PM->OB)):Nat->BT->BT:=List.rec (λ_ t=>t) (λo _ r n t=>r (n+1) (st_ 12 n (o P) t)) l
def up(P:PM)(l:List (Nat×(PM->OB)))(t:BT):BT:=List.rec (λt=>t) (λo _ r t=>r (st_ 12 o.1 (o.2 P) t)) l t
def Zx(P:PM):BT:=rz P [b0,b1,b2,b3,b4,b5,b6,b7,b8,b9,TJ,aL,bG,YV,YM] 0 BT.nil
def Xg(P:PM):BT:=rz P [aL,bG,o53,aL,o55,o56,o57,aL,bG,o60,aL,o62,WQ,o64,aL,bG,o67,VL,o69,o70,oV,o72,aL,bG,o75,o76,aL,Ww,o79,o80,o81,o82] 15 (up P [(3,o49),(12,o50)] (Zx P))
def Ul(P:PM):BT:=rz P [uC,oV,Z4,aL,bG,o91,o92,aL,UH,VO,o96,o97] 47 (up P [(3,o83),(12,o84),(43,o85)] (Xg P))
def X7(P:PM):BT:=rz P [uC,oV,O3,aL,bG,M8,NG,aL,FL,DS,L5,LG] 59 (up P [(3,o98),(12,o99),(43,SW)] (Ul P))
def VJ(P:PM):BT:=rz P [uC,oV,LC,aL,bG,NP,Kx,aL,Gk,CQ,K4,Jw] 71 (up P [(3,XH),(12,Xf),(43,Zc)] (X7 P))
def Wt(P:PM):BT:=rz P [uC,oV,MX,aL,bG,MK,Oc,aL,FE,DY,Pd,JM] 83 (up P [(3,Ux),(12,YK),(43,VX)] (VJ P))
def Zt(P:PM):BT:=rz P [uC,oV,Oo,aL,bG,No,Kj,aL,GS,Gq,MG,K3] 95 (up P [(3,UZ),(12,Xj),(43,Vd)] (Wt P))
def VP(P:PM):BT:=rz P [uC,oV,Jz,aL,bG,PR,LB,aL,Gb,ET,Ql,JL,aL,bG,KG,aL,JY,Qh,Pf,aL,bG,K6,aL,N0,GJ,OR,aL,bG,KB,aL,JU,GV,P6,aL,bG,Lh,aL,J2,Fu,KO,aL,bG,Nu,aL,O6,GY,Py] 107 (up P [(3,Tf),(12,Xo),(43,E1)] (Zt P))
def SI(P:PM):BT:=rz P [aL,bG,Mw,GO,N4,aL,bG,KU,GA,Qi,aL,bG,Op,Dv,NZ,aL,bG,LW,aL,OC,Ek,Kq,aL,bG,Jk,Km,Lg] 154 (up P [(3,TC),(12,VE)] (VP P))
def TH(P:PM):BT:=rz P [aL,oV,Ps,aL,KQ,Qs,Lm,aL,bG,LZ,C9,Qw,aL,bG,Pl,DF,Nn,aL,bG,OE,aL,MI,FK,Ov,aL,bG,J0,Ly,MM,aL,bG,Kk,aL,Qq,JH,J9,NT,Hq,EA,Kp,PP,MQ,LR,aL,bG,P2,GT,JB] 181 (up P [(3,Yv),(12,S2)] (SI P))
def Yj(P:PM):BT:=rz P [aL,bG,NF,aL,Qo,Fj,Lq,aL,bG,Lz,G5,L1,aL,bG,PY,aL,Pn,He,Nl,aL,bG,Lx,aL,Kd,Gy,Nz,aL,bG,KC,aL,NR,Dm,Oh,aL,bG,Me,Do,Oj,aL,bG,NI,aL,KL,EQ,NW,aL,bG,M0,aL,Of,Hg,Ms,aL,bG,NH,aL,J1,DD,Nh,aL,bG,LX,DQ,Mv,aL,bG,MJ,Fh,M3,aL,bG,LQ,aL,OG,FB,Qa] 229 (up P [(3,W9),(12,Vi)] (TH P))
def WD(P:PM):BT:=rz P [aL,bG,Ky,aL,JK,GD,Pb,aL,bG,NS,aL,Nd,DX,OF] 305 (up P [(3,Uo),(12,ZG)] (Yj P))
def Uj(P:PM):BT:=rz P [aL,oV,KZ,aL,LH,Jy,Oi,aL,bG,LP,aL,ON,EW,KA,aL,bG,JJ,F8,JC,aL,bG,NX,aL,N1,FG,MH,aL,bG,Lf,aL,ND,Dt,OM,aL,bG,Kz,aL,LM,NY,Nj,aL,bG,Nr,aL,MN,EM,Pz,aL,bG,NQ,OJ,KI,Jj,G4,G8,NA,Od,Ou,Pu] 319 (up P [(3,Um),(12,TR)] (WD P))
def U6(P:PM):BT:=rz P [aL,bG,Lw,FZ,Mt,aL,bG,Pp,DC,Jm,aL,bG,Lk,aL,OO,EB,N3] 378 (up P [(3,Yh),(12,TY)] (Uj P))
def Xr(P:PM):BT:=rz P [aL,oV,PU,aL,Jh,M6,Kv,aL,bG,N7,aL,J8,GB,Ks,aL,bG,Jp,aL,N8,Ga,L8,aL,bG,K5,aL,PZ,Ee,JV,aL,bG,Mn,aL,KM,Dz,Kr,aL,bG,Ko,aL,Ka,EJ,M9,aL,bG,Ol,aL,N9,Dj,MY,Qu,CD,CV,JP,NE,Kh,MO] 395 (up P [(3,U4),(12,Y3)] (U6 P))
def ZL(P:PM):BT:=rz P [aL,bG,Ot,aL,M5,G7,JR,aL,bG,Nq,aL,P7,Fi,JA,aL,bG,LO,aL,Kf,CM,OV,aL,bG,Jx,aL,Mf,Db,LK,aL,bG,Px,D7,JF,aL,bG,Lr,EF,NU,aL,bG,Nv,Hu,Pg,aL,bG,JW,aL,LD,EN,LN,aL,bG,OZ,aL,N5,Eh,Qj,aL,bG,Jl,FW,P3,aL,bG,Qx,F2,Nk] 451 (up P [(3,Fm),(12,K8)] (Xr P))
def Iy(P:BB):Ax:=(Heap.mk #v[[b0 P,b1 P,b2 P,Fm P,b4 P,b5 P,b6 P,b7 P,b8 P,b9 P,TJ P,aL P,K8 P,YV P,YM P,aL P,bG P,o53 P,aL P,o55 P,o56 P,o57 P,aL P,bG P,o60 P,aL P,o62 P,WQ P,o64 P,aL P,bG P,o67 P,VL P,o69 P,o70 P,oV P,o72 P,aL P,bG P,o75 P,o76 P,aL P,Ww P,E1 P,o80 P,o81 P,o82 P,uC P,oV P,Z4 P,aL P,bG P,o91 P,o92 P,aL P,UH P,VO P,o96 P,o97 P,uC P,oV P,O3 P,aL P,bG P,M8 P,NG P,aL P,FL P,DS P,L5 P,LG P,uC P,oV P,LC P,aL P,bG P,NP P,Kx P,aL P,Gk P,CQ P,K4 P,Jw P,uC P,oV P,MX P,aL P,bG P,MK P,Oc P,aL P,FE P,DY P,Pd P,JM P,uC P,oV P,Oo P,aL P,bG P,No P,Kj P,aL P,GS P,Gq P,MG P,K3 P,uC P,oV P,Jz P,aL P,bG P,PR P,LB P,aL P,Gb P,ET P,Ql P,JL P,aL P,bG P,KG P,aL P,JY P,Qh P,Pf P,aL P,bG P,K6 P,aL P,N0 P,GJ P,OR P,aL P,bG P,KB P,aL P,JU P,GV P,P6 P,aL P,bG P,Lh P,aL P,J2 P,Fu P,KO P,aL P,bG P,Nu P,aL P,O6 P,GY P,Py P,aL P,bG P,Mw P,GO P,N4 P,aL P,bG P,KU P,GA P,Qi P,aL P,bG P,Op P,Dv P,NZ P,aL P,bG P,LW P,aL P,OC P,Ek P,Kq P,aL P,bG P,Jk P,Km P,Lg P,aL P,oV P,Ps P,aL P,KQ P,Qs P,Lm P,aL P,bG P,LZ P,C9 P,Qw P,aL P,bG P,Pl P,DF P,Nn P,aL P,bG P,OE P,aL P,MI P,FK P,Ov P,aL P,bG P,J0 P,Ly P,MM P,aL P,bG P,Kk P,aL P,Qq P,JH P,J9 P,NT P,Hq P,EA P,Kp P,PP P,MQ P,LR P,aL P,bG P,P2 P,GT P,JB P,aL P,bG P,NF P,aL P,Qo P,Fj P,Lq P,aL P,bG P,Lz P,G5 P,L1 P,aL P,bG P,PY P,aL P,Pn P,He P,Nl P,aL P,bG P,Lx P,aL P,Kd P,Gy P,Nz P,aL P,bG P,KC P,aL P,NR P,Dm P,Oh P,aL P,bG P,Me P,Do P,Oj P,aL P,bG P,NI P,aL P,KL P,EQ P,NW P,aL P,bG P,M0 P,aL P,Of P,Hg P,Ms P,aL P,bG P,NH P,aL P,J1 P,DD P,Nh P,aL P,bG P,LX P,DQ P,Mv P,aL P,bG P,MJ P,Fh P,M3 P,aL P,bG P,LQ P,aL P,OG P,FB P,Qa P,aL P,bG P,Ky P,aL P,JK P,GD P,Pb P,aL P,bG P,NS P,aL P,Nd P,DX P,OF P,aL P,oV P,KZ P,aL P,LH P,Jy P,Oi P,aL P,bG P,LP P,aL P,ON P,EW P,KA P,aL P,bG P,JJ P,F8 P,JC P,aL P,bG P,NX P,aL P,N1 P,FG P,MH P,aL P,bG P,Lf P,aL P,ND P,Dt P,OM P,aL P,bG P,Kz P,aL P,LM P,NY P,Nj P,aL P,bG P,Nr P,aL P,MN P,EM P,Pz P,aL P,bG P,NQ P,OJ P,KI P,Jj P,G4 P,G8 P,NA P,Od P,Ou P,Pu P,aL P,bG P,Lw P,FZ P,Mt P,aL P,bG P,Pp P,DC P,Jm P,aL P,bG P,Lk P,aL P,OO P,EB P,N3 P,aL P,oV P,PU P,aL P,Jh P,M6 P,Kv P,aL P,bG P,N7 P,aL P,J8 P,GB P,Ks P,aL P,bG P,Jp P,aL P,N8 P,Ga P,L8 P,aL P,bG P,K5 P,aL P,PZ P,Ee P,JV P,aL P,bG P,Mn P,aL P,KM P,Dz P,Kr P,aL P,bG P,Ko P,aL P,Ka P,EJ P,M9 P,aL P,bG P,Ol P,aL P,N9 P,Dj P,MY P,Qu P,CD P,CV P,JP P,NE P,Kh P,MO P,aL P,bG P,Ot P,aL P,M5 P,G7 P,JR P,aL P,bG P,Nq P,aL P,P7 P,Fi P,JA P,aL P,bG P,LO P,aL P,Kf P,CM P,OV P,aL P,bG P,Jx P,aL P,Mf P,Db P,LK P,aL P,bG P,Px P,D7 P,JF P,aL P,bG P,Lr P,EF P,NU P,aL P,bG P,Nv P,Hu P,Pg P,aL P,bG P,JW P,aL P,LD P,EN P,LN P,aL P,bG P,OZ P,aL P,N5 P,Eh P,Qj P,aL P,bG P,Jl P,FW P,P3 P,aL P,bG P,Qx P,F2 P,Nk P]] (PySem.Life.mk [] [] [] 0 [] [] Ah #v[[]] [] 0 Ah Ah Ah 0 [2000,10,10] Ah 0 Ai [] [] 0 Ah))
def ev(p:Al):Env:=Env.mk p.main.scope mainNs mainNs [] Str.empty Ae (.ref 13) (Aa 14) 0
def cE(p:Al):Code:=.body (behindTheImports p) (ev p)
def st(p:Al)(i k:Nat):List Az:=((behindTheImports p).drop i).take k
def LF:Life:=Life.mk [] [] [] 0 [] [] Ah #[] [] 0 Ah Ah Ah 0 [2000,10,10] Ah 0 Ai [] [] 0 Ah
def SS(T:BB->BT)(n k:Nat)(w:Au)(os:OsState):SharedT:=#v[T w.params,n,LF,#v[[]],#v[0,0,0,0],k,os]
def Pc(f:(String->Option Builtin)->Al->Au->Nat->Option Ac->Nat->Nat->SharedT->Thread->Option (Flow×SharedT×Code×Pos))(tb:String->Option Builtin)(p:Al)(N i k:Nat)(pos pos':Pos)(T T':BB->BT)(n t n' t':Nat):Prop:=∀(w:Au) (os:OsState),f tb p w 11 (Aa (.ref 6)) 1 N (SS T n t w os) (piecesOf (st p i k) (ev p) (cE p) pos [topFrame #v[0,0,0,0]])=Aa (.next,SS T' n' t' w os,cE p,pos')
theorem Pc.plain {N i k:Nat}{pos pos':Pos}{T T':BB->BT}{n t n' t':Nat} (h:Pc PySem.W.Fast.tw10110043849684766642 PySem.W.Fast.tw14364793385576792824 TP N i k pos pos' T T' n t n' t'):Pc segRunT Bd PySem.Challenge.pw_gatefold_k36_laid N i k pos pos' T T' n t n' t':=by
 rw[PySem.W.Fast.te10110043849684766642,PySem.W.Fast.te14364793385576792824,PySem.W.Fast.te17523818666043962433];exact h
abbrev PW:Al:=PySem.Challenge.pw_gatefold_k36_laid
abbrev PC:=Pc segRunT Bd PW
theorem c0:PC 289 0 6 #v[0,0,0,0] #v[18,0,19,8] Zx Xg 15 187 47 229:=.plain λw c=>by kernel_rfl
theorem c1:PC 214 6 1 #v[18,0,19,8] #v[20,0,21,8] Xg Ul 47 229 59 245:=.plain λw c=>by kernel_rfl
theorem c2:PC 214 7 1 #v[20,0,21,8] #v[22,0,23,8] Ul X7 59 245 71 261:=.plain λw c=>by kernel_rfl
theorem c3:PC 214 8 1 #v[22,0,23,8] #v[24,0,25,8] X7 VJ 71 261 83 277:=.plain λw c=>by kernel_rfl
theorem c4:PC 214 9 1 #v[24,0,25,8] #v[26,0,27,8] VJ Wt 83 277 95 293:=.plain λw c=>by kernel_rfl
theorem c5:PC 214 10 1 #v[26,0,27,8] #v[28,0,29,8] Wt Zt 95 293 107 309:=.plain λw c=>by kernel_rfl
theorem c6:PC 394 11 9 #v[28,0,29,8] #v[44,0,45,57] Zt VP 107 309 154 374:=.plain λw c=>by kernel_rfl
theorem c7:PC 172 20 9 #v[44,0,45,57] #v[75,0,79,17] VP SI 154 374 181 415:=.plain λw c=>by kernel_rfl
theorem c8:PC 374 29 3 #v[75,0,79,17] #v[106,0,114,63] SI TH 181 415 229 478:=.plain λw c=>by kernel_rfl
theorem c9:PC 397 32 16 #v[106,0,114,63] #v[193,0,193,13] TH Yj 229 478 305 590:=.plain λw c=>by kernel_rfl
theorem c10:PC 62 48 2 #v[193,0,193,13] #v[197,0,202,15] Yj WD 305 590 319 607:=.plain λw c=>by kernel_rfl
theorem c11:PC 415 50 1 #v[197,0,202,15] #v[203,0,247,59] WD Uj 319 607 378 688:=.plain λw c=>by kernel_rfl
theorem c12:PC 127 51 8 #v[203,0,247,59] #v[273,0,274,18] Uj U6 378 688 395 717:=.plain λw c=>by kernel_rfl
theorem c13:PC 396 59 2 #v[273,0,274,18] #v[313,0,313,8] U6 Xr 395 717 451 792:=.plain λw c=>by kernel_rfl
theorem c14:PC 323 61 11 #v[313,0,313,8] #v[402,0,430,78] Xr ZL 451 792 518 882:=.plain λw c=>by kernel_rfl
theorem step{N i k:Nat}{pos pos':Pos}(c:Pc segRunT Bd p N i k pos pos' T T' n t n' t'){M:Nat}{os:OsState}
  (h:topRun Bd p w 11 (Aa (.ref 6)) M (SS T' n' t' w os).abs (restOf ((behindTheImports p).drop (i+k)) (ev p) (cE p) pos' [topFrame #v[0,0,0,0]])=Aa r):
  topRun Bd p w 11 (Aa (.ref 6)) (N+M) (SS T n t w os).abs (restOf ((behindTheImports p).drop i) (ev p) (cE p) pos [topFrame #v[0,0,0,0]])=Aa r:=by
 have e:(behindTheImports p).drop i=st p i k++(behindTheImports p).drop (i+k):=by unfold st;rw[<-Wn];exact(wK _ _).symm
 rw[e];exact piece_app (segRun_of (c w os)) h
def Fn(f:(String->Option Builtin)->Al->Au->Nat->Option Ac->Nat->Ag->Thread->Option Ag)(tb:String->Option Builtin)(p:Al):Prop:=∀(w:Au) (os:OsState),f tb p w 11 (Aa (.ref 6)) 2 (SS ZL 518 882 w os).abs #v[doneF .next,cE p,⟨402,0,430,78⟩,[topFrame ⟨0,0,0,0⟩]]=Aa #v[Iy w.params,#v[[]],#v[0,0,0,0],882,os]
theorem fin:Fn topRun Bd PW:=by rw[PySem.W.Fast.te14082659384304107361,PySem.W.Fast.te14364793385576792824,show PW=TP from PySem.W.Fast.te17523818666043962433];exact λw c=>by kernel_rfl
def Pr(f:(String->Option Builtin)->Al->Au->Nat->Option Ac->Nat->Ag->Thread->Option (Ag×Thread))(d:(String->Option Builtin)->Code->Sem Fin)(tb:String->Option Builtin)(p:Al):Prop:=∀(w:Au) (os:OsState),f tb p w 11 (Aa (.ref 6)) 12 #v[boot_heap w.params,#v[[]],boot_drawn,boot_toks,os] (topStub p)=Aa (#v[Z8 w.params,#v[[]],#v[0,0,0,0],187,os],#v[d tb (cE p),cE p,#v[0,0,0,0],[topFrame #v[0,0,0,0]]])
theorem Ue:Pr topGo denote Bd PW:=by rw[PySem.W.Fast.te15667345088766844465,PySem.W.Fast.te11892475500146522536,PySem.W.Fast.te14364793385576792824,show PW=TP from PySem.W.Fast.te17523818666043962433];exact λw c=>by kernel_rfl
def Bl(f:(String->Option Builtin)->Al->Au->Nat->Option Ac->Nat->Nat->Ag->Thread->Option (Flow×Ag×Code×Pos))(tb:String->Option Builtin)(p:Al):Prop:=∀(w:Au) (os:OsState),f tb p w 11 (Aa (.ref 6)) 1 1 #v[Z8 w.params,#v[[]],#v[0,0,0,0],187,os] (blockOf (behindTheImports p) (ev p) (cE p) #v[0,0,0,0] [topFrame #v[0,0,0,0]])=Aa (.next,(SS Zx 15 187 w os).abs,cE p,⟨0,0,0,0⟩)
theorem blk:Bl segRun Bd PW:=by rw[PySem.W.Fast.te14374325043358763698,PySem.W.Fast.te14364793385576792824,show PW=TP from PySem.W.Fast.te17523818666043962433];exact λw c=>by kernel_rfl
theorem d44:(behindTheImports PW).drop 72=[]:=by kernel_rfl
theorem run(w:Au)(os:OsState):topRun Bd PW w 11 (Aa (.ref 6)) (12+(1+(289+(214+(214+(214+(214+(214+(394+(172+(374+(397+(62+(415+(127+(396+(323+2))))))))))))))))) #v[boot_heap w.params,#v[[]],boot_drawn,boot_toks,os] (topStub PW)=Aa #v[Iy w.params,#v[[]],#v[0,0,0,0],882,os]:=by refine go_top (Ue w os) ?_;refine piece_block (blk w os) ?_;refine step c0 (step c1 (step c2 (step c3 (step c4 (step c5 (step c6 (step c7 (step c8 (step c9 (step c10 (step c11 (step c12 (step c13 (step c14 ?_))))))))))))));rw[d44];exact fin w os
theorem size(w:Au):((boot_heap w.params).isNs Ap&&(Array.mk ([]:List BP)).size==0,(boot_heap w.params).objs.size,(boot_heap w.params).nsMap Ap "__annotations__")=(Ai,11,Aa (.ref 6)):=by kernel_rfl
theorem op:∀w:Au,(fencedOpening Bd PW w 8148).map (λs=>(s.heap,s.gens,s.drawn,s.toks))=Aa (boot_heap w.params,Array.mk [],boot_drawn,boot_toks):=boot_open (by kernel_rfl) (by decide) (λs=>by kernel_rfl)
def KP:List Nat:=[0,2,3,5,6,7,8,9,10,11,13,15,16,18,19,20,22,23,24,25,26,27,28,29,31,32,33,35,36,37,38,39,40,41,42,43,44,46,47,48,49,50,52,54,56,57,58,59,61,62,63,64,65,66,67,68,69,70,71]
def VW(p:Al):Al:={ p with main:={ p.main with body:=KP.filterMap λi=>p.main.body[i]? } }
abbrev S9(w:Au)(os:OsState):Ag:=#v[Iy w.params,#v[[]],#v[0,0,0,0],882,os]
def LA(im:List Az->List Str)(p:Al):Prop:=∀(w:Au) (os:OsState),(staticsOk (im p.main.body) (boot_heap w.params) (Iy w.params)&&namesBound p (Iy w.params)&&gensDone (S9 w os)&&laidKept (boot_heap w.params) (Iy w.params))=Ai
theorem la:LA importedModules PW:=by rw[PySem.W.Fast.te5923862056798008813,show PW=TP from PySem.W.Fast.te17523818666043962433];exact λw c=>by kernel_rfl
abbrev XT(q:Al):Ag->Bool:=λs=>xlAt q [] s&&recOk [] s
theorem lb0(w:Au)(os:OsState):PySem.W.Fast.tw4187177175401517315 (VW TP) [] (PySem.W.Fast.tw5923862056798008813 TP.main.body) (XT (VW TP)) Ai (S9 w os)=openGood (VW TP) []:=by kernel_rfl
end
end OT
namespace DJ
open L2
noncomputable abbrev Q(l:List Nat):Str:=#v[#v[l]]
noncomputable abbrev fq(b c:Str)(s:Az)(q:Str)(t n:Nat):Obj:=#v[(Value.type "function"),Ae,.func (uK b c (uP s) (rj s) (bZ s) Value.none Value.none Value.none (Value.str q t) Ae (Value.ref n) Value.none),#v[[]]]
noncomputable def KF:BB->aE:=λP=>
 (nat_lit 28,fq "full_column" "full_column" Jo OT.wY 194 27)::
 (nat_lit 33,fq "input_columns" "input_columns" I8 OT.wY 194 32)::
 (nat_lit 132,fq "lit_pair" "lit_pair" Qc OT.xQ 336 131)::
 (nat_lit 139,fq "lit_tie" "lit_tie" Oq OT.xQ 336 138)::
 (nat_lit 146,fq "is_whole" "is_whole" Qm OT.GC 356 145)::
 (nat_lit 153,fq "is_between" "is_between" OX OT.GC 356 152)::
 (nat_lit 158,fq "is_rising" "is_rising" Ij OT.GC 356 157)::
 (nat_lit 163,fq "is_cut_of" "is_cut_of" IK OT.pI 380 162)::
 (nat_lit 168,fq "need_pieces" "need_pieces" Iw OT.pI 380 167)::
 (nat_lit 175,fq "need_ties" "need_ties" NN OT.pI 380 174)::
 (nat_lit 192,fq "__init__" "Board.__init__" HG OT.pI 380 191)::
 (nat_lit 197,fq "pieces" "Board.pieces" Iv OT.pI 380 196)::
 (nat_lit 204,fq "ties" "Board.ties" LI OT.pI 380 203)::
 (nat_lit 228,fq "reached" "reached" IR OT.q6 470 227)::
 (nat_lit 235,fq "cone" "cone" JS OT.q6 470 234)::
 (nat_lit 240,fq "is_cut" "is_cut" xO OT.q6 470 239)::
 (nat_lit 247,fq "head" "head" Ln OT.pf 492 246)::
 (nat_lit 254,fq "foot" "foot" OL OT.pf 492 253)::
 (nat_lit 261,fq "need_goals" "need_goals" Pm OT.pf 492 260)::
 (nat_lit 266,fq "next_ends" "next_ends" HH OT.pf 492 265)::
 (nat_lit 273,fq "search" "search" JD OT.pf 492 272)::
 (nat_lit 280,fq "lead" "lead" Qb OT.pf 492 279)::
 (nat_lit 287,fq "way_from" "way_from" OW OT.pf 492 286)::
 (nat_lit 292,fq "ways_of" "ways_of" Gv OT.pf 492 291)::
 (nat_lit 297,fq "stops_of" "stops_of" Ib OT.pf 492 296)::
 (nat_lit 304,fq "apart" "apart" LU OT.pf 492 303)::
 (nat_lit 311,fq "need_size" "need_size" MT OT.oa 584 310)::
 (nat_lit 318,fq "maze_of" "maze_of" JE OT.oa 584 317)::
 (nat_lit 332,fq "__init__" "Labels.__init__" PJ OT.oa 584 331)::
 (nat_lit 337,fq "settle" "Labels.settle" zw OT.oa 584 336)::
 (nat_lit 344,fq "keep" "Labels.keep" Nw OT.oa 584 343)::
 (nat_lit 351,fq "need_and_knot" "Labels.need_and_knot" LJ OT.oa 584 350)::
 (nat_lit 365,fq "cut" "Labels.cut" Ld OT.oa 584 364)::
 (nat_lit 382,fq "table" "table" Ih OT.Mr 688 381)::
 (nat_lit 387,fq "laid" "laid" CF OT.Np 696 386)::
 (nat_lit 394,fq "turned" "turned" Oe OT.qg 704 393)::
 (nat_lit 408,fq "__init__" "Fold.__init__" KR OT.qg 704 407)::
 (nat_lit 415,fq "total" "Fold.total" M7 OT.qg 704 414)::
 (nat_lit 422,fq "has_tie" "Fold.has_tie" Qk OT.qg 704 421)::
 (nat_lit 429,fq "pair" "Fold.pair" L7 OT.qg 704 428)::
 (nat_lit 436,fq "both" "Fold.both" Pt OT.qg 704 435)::
 (nat_lit 443,fq "and_knot" "Fold.and_knot" La OT.qg 704 442)::
 (nat_lit 457,fq "_law_cell_at" "_law_cell_at" O2 OT.mX 790 456)::
 (nat_lit 464,fq "_law_whole" "_law_whole" J5 OT.mX 790 463)::
 (nat_lit 471,fq "_law_two" "_law_two" Le OT.mX 790 470)::
 (nat_lit 478,fq "_law_row_in" "_law_row_in" NO OT.mX 790 477)::
 (nat_lit 483,fq "_law_pairs_by" "_law_pairs_by" HE OT.mX 790 482)::
 (nat_lit 488,fq "_law_columns" "_law_columns" IV OT.mX 790 487)::
 (nat_lit 493,fq "_law_stops" "_law_stops" Ir OT.mX 790 492)::
 (nat_lit 500,fq "_law_piece" "_law_piece" Lu OT.mX 790 499)::
 (nat_lit 507,fq "_law_no_size" "_law_no_size" Pi OT.mX 790 506)::
 (nat_lit 512,fq "_law_right" "_law_right" Iu OT.mX 790 511)::
 (nat_lit 517,fq "law" "law" HF OT.mX 790 516)::
 (nat_lit 27,OT.WQ P)::
 (nat_lit 32,OT.VL P)::
 (nat_lit 131,OT.GJ P)::
 (nat_lit 138,OT.GV P)::
 (nat_lit 145,OT.Fu P)::
 (nat_lit 152,OT.GY P)::
 (nat_lit 157,OT.GO P)::
 (nat_lit 162,OT.GA P)::
 (nat_lit 167,OT.Dv P)::
 (nat_lit 174,OT.Ek P)::
 (nat_lit 191,OT.C9 P)::
 (nat_lit 196,OT.DF P)::
 (nat_lit 203,OT.FK P)::
 (nat_lit 227,OT.GT P)::
 (nat_lit 234,OT.Fj P)::
 (nat_lit 239,OT.G5 P)::
 (nat_lit 246,OT.He P)::
 (nat_lit 253,OT.Gy P)::
 (nat_lit 260,OT.Dm P)::
 (nat_lit 265,OT.Do P)::
 (nat_lit 272,OT.EQ P)::
 (nat_lit 279,OT.Hg P)::
 (nat_lit 286,OT.DD P)::
 (nat_lit 291,OT.DQ P)::
 (nat_lit 296,OT.Fh P)::
 (nat_lit 303,OT.FB P)::
 (nat_lit 310,OT.GD P)::
 (nat_lit 317,OT.DX P)::
 (nat_lit 331,OT.EW P)::
 (nat_lit 336,OT.F8 P)::
 (nat_lit 343,OT.FG P)::
 (nat_lit 350,OT.Dt P)::
 (nat_lit 364,OT.EM P)::
 (nat_lit 381,OT.FZ P)::
 (nat_lit 386,OT.DC P)::
 (nat_lit 393,OT.EB P)::
 (nat_lit 407,OT.GB P)::
 (nat_lit 414,OT.Ga P)::
 (nat_lit 421,OT.Ee P)::
 (nat_lit 428,OT.Dz P)::
 (nat_lit 435,OT.EJ P)::
 (nat_lit 442,OT.Dj P)::
 (nat_lit 456,OT.G7 P)::
 (nat_lit 463,OT.Fi P)::
 (nat_lit 470,OT.CM P)::
 (nat_lit 477,OT.Db P)::
 (nat_lit 482,OT.D7 P)::
 (nat_lit 487,OT.EF P)::
 (nat_lit 492,OT.Hu P)::
 (nat_lit 499,OT.EN P)::
 (nat_lit 506,OT.Eh P)::
 (nat_lit 511,OT.FW P)::
 (nat_lit 516,OT.F2 P)::
 (nat_lit 2,OT.b2 P)::
 (nat_lit 3,OT.Fm P)::
 (nat_lit 43,OT.E1 P)::
 (nat_lit 42,OT.Ww P)::
 (nat_lit 56,OT.VO P)::
 (nat_lit 55,OT.UH P)::
 (nat_lit 68,OT.DS P)::
 (nat_lit 67,OT.FL P)::
 (nat_lit 80,OT.CQ P)::
 (nat_lit 79,OT.Gk P)::
 (nat_lit 92,OT.DY P)::
 (nat_lit 91,OT.FE P)::
 (nat_lit 104,OT.Gq P)::
 (nat_lit 103,OT.GS P)::
 (nat_lit 116,OT.ET P)::
 (nat_lit 115,OT.Gb P)::
 (nat_lit 219,OT.EA P)::
 (nat_lit 218,OT.Hq P)::
 (nat_lit 373,OT.G8 P)::
 (nat_lit 372,OT.G4 P)::
 (nat_lit 446,OT.CV P)::
 (nat_lit 445,OT.CD P):: []
end DJ
namespace OT
open PySem PySem.W PySem.Spec
noncomputable abbrev AS:List Ad:=(nat_lit 28::nat_lit 33::nat_lit 132::nat_lit 139::nat_lit 146::nat_lit 153::nat_lit 158::nat_lit 163::nat_lit 168::nat_lit 175::nat_lit 192::nat_lit 197::nat_lit 204::nat_lit 228::nat_lit 235::nat_lit 240::nat_lit 247::nat_lit 254::nat_lit 261::nat_lit 266::nat_lit 273::nat_lit 280::nat_lit 287::nat_lit 292::nat_lit 297::nat_lit 304::nat_lit 311::nat_lit 318::nat_lit 332::nat_lit 337::nat_lit 344::nat_lit 351::nat_lit 365::nat_lit 382::nat_lit 387::nat_lit 394::nat_lit 408::nat_lit 415::nat_lit 422::nat_lit 429::nat_lit 436::nat_lit 443::nat_lit 457::nat_lit 464::nat_lit 471::nat_lit 478::nat_lit 483::nat_lit 488::nat_lit 493::nat_lit 500::nat_lit 507::nat_lit 512::nat_lit 517::nat_lit 27::nat_lit 32::nat_lit 131::nat_lit 138::nat_lit 145::nat_lit 152::nat_lit 157::nat_lit 162::nat_lit 167::nat_lit 174::nat_lit 191::nat_lit 196::nat_lit 203::nat_lit 227::nat_lit 234::nat_lit 239::nat_lit 246::nat_lit 253::nat_lit 260::nat_lit 265::nat_lit 272::nat_lit 279::nat_lit 286::nat_lit 291::nat_lit 296::nat_lit 303::nat_lit 310::nat_lit 317::nat_lit 331::nat_lit 336::nat_lit 343::nat_lit 350::nat_lit 364::nat_lit 381::nat_lit 386::nat_lit 393::nat_lit 407::nat_lit 414::nat_lit 421::nat_lit 428::nat_lit 435::nat_lit 442::nat_lit 456::nat_lit 463::nat_lit 470::nat_lit 477::nat_lit 482::nat_lit 487::nat_lit 492::nat_lit 499::nat_lit 506::nat_lit 511::nat_lit 516::nat_lit 2::nat_lit 3::nat_lit 43::nat_lit 42::nat_lit 56::nat_lit 55::nat_lit 68::nat_lit 67::nat_lit 80::nat_lit 79::nat_lit 92::nat_lit 91::nat_lit 104::nat_lit 103::nat_lit 116::nat_lit 115::nat_lit 219::nat_lit 218::nat_lit 373::nat_lit 372::nat_lit 446::nat_lit 445::[])
noncomputable abbrev HK:Hook:=kHook DJ.KF AS (λ_=>by kernel_rfl)
theorem lb(w:Au)(os:OsState):openSeen (VW PW) [] (importedModules PW.main.body) (XT (VW PW)) Ai (S9 w os)=openGood (VW PW) []:=by rw[PySem.W.Fast.te4187177175401517315,PySem.W.Fast.te5923862056798008813,show PW=TP from PySem.W.Fast.te17523818666043962433];exact lb0 w os
theorem lc(w:Au)(os:OsState):HK.obs (S9 w os)=HK.val w:=by kernel_rfl
theorem left:LeftO PW (VW PW) [] (XT (VW PW)) HK.obs HK.val 8148:=LeftO.of_pieces op size run (by decide) λw=>funext λc=>by rw[la w c,lb w c,lc w c]
end OT
open PySem PySem.W PyProof.Rows
set_option maxHeartbeats 0 in
theorem PySem.Challenge.cw_gatefold_k36_laid_holds : PySem.Challenge.rw_gatefold_k36_laid.Holds := by
 w_on;o_law
 refine holds_open (q:=OT.VW OT.PW) (loose:=[]) (Xt:=OT.XT (OT.VW OT.PW)) (XP:=XL (OT.VW OT.PW) []) (Yf:=OT.HK.obs) (Ya:=OT.HK.val) (YP:=OT.HK.says) (N:=8148) OT.left OT.HK.of OT.HK.keeps
  (λs e=>xl_of s (Sf.mp e).1) XL.keeps (by rfl) (by rfl) (by rfl)
  (λs e=>recFacts_of (Sf.mp e).2) (by rfl) (by first|assumption|decide +kernel)
  ∅
  #v[rfl,rfl,rfl,rfl,rfl,∅] ?hw ?hc
 case hw=>w_witness2
 refine DJ.walk (l:=PySem.Challenge.rw_gatefold_k36_laid) (K:=DJ.KF) rfl rfl (λw h Y=>PySem.W.kIn_of Y) ?F
 case F=>
  intro w mg fa h KX G hmg
  k_fill
  refine' DJ.all_mk KX G hmg #v[?aa,?ab,?ac,?ad,?ae,?af,?ag] #v[?ah,?ai,?aj,?ak,?al,?am,?an] #v[?ao,?ap,?aq,?ar,?as,?au,?av] ?aw ?ax ?ay ?az ?ba ?bb ?bc (.mk' ?bd ?be ?bf ?bg) (.mk' ?bh ?bi ?bj ?bk) (.mk' ?bl ?bm ?bn ?bo) (.mk' ?bp ?bq ?br ?bs) (.mk' ?bt ?bu ?bv ?bw) (.mk' ?bx ?bz ?b0 ?b1) (.mk' ?b2 ?b3 ?b4 ?b5) (.mk' ?b6 ?b7 ?b8 ?b9) (.mk' ?ca ?cb ?cc ?cd) (.mk' ?ce ?cf ?cg ?ch) (.mk' ?ci ?cj ?ck ?cl ?cm) (.mk' ?cn ?co ?cp ?cq ?cr) (.mk' ?cs ?ct ?cu ?cv ?cw) (.mk' ?cx ?cy ?cz ?da) (.mk' ?db ?dc ?dd ?de) (.mk' ?df ?dg ?dh ?di) (.mk' ?dj ?dk ?dl ?dm) (.mk' ?dn ?dp ?dq ?dr) (.mk' ?ds ?dt ?du ?dv) (.mk' ?dw ?dx ?dy ?dz) (.mk' ?d0 ?d1 ?d2 ?d3) (.mk' ?d4 ?d5 ?d6 ?d7) (.mk' ?d8 ?d9 ?ea ?eb) (.mk' ?ec ?ed ?ee ?ef) (.mk' ?eg ?eh ?ei ?ej) (.mk' ?ek ?el ?em ?en) (.mk' ?eo ?ep ?eq ?er) (.mk' ?es ?et ?eu ?ev) (.mk' ?ew ?ex ?ey ?ez ?e0) (.mk' ?e1 ?e2 ?e3 ?e4 ?e5) (.mk' ?e6 ?e7 ?e8 ?e9 ?fa) (.mk' ?fb ?fc ?fd ?fe ?ff) (.mk' ?fg ?fh ?fi ?fj ?fk) (.mk' ?fl ?fm ?fn ?fo) (.mk' ?fp ?fq ?fr ?fs) (.mk' ?ft ?fu ?fv ?fw) (.mk' ?fx ?fy ?fz ?f0 ?f1) (.mk' ?f2 ?f3 ?f4 ?f5 ?f6) (.mk' ?f7 ?f8 ?f9 ?ga ?gb) (.mk' ?gc ?gd ?ge ?gf ?gg) (.mk' ?gh ?gi ?gj ?gk ?gl) (.mk' ?gm ?gn ?go ?gp ?gq) (.mk' ?gr ?gs ?gt ?gu) (.mk' ?gv ?gw ?gx ?gy) (.mk' ?gz ?g0 ?g1 ?g2) (.mk' ?g3 ?g4 ?g5 ?g6) (.mk' ?g7 ?g8 ?g9 ?ha) (.mk' ?hb ?hd ?he ?hf) (.mk' ?hg ?hh ?hi ?hj) (.mk' ?hk ?hl ?hm ?hn) (.mk' ?ho ?hp ?hq ?hr) (.mk' ?hs ?ht ?hu ?hv) (.mk' ?hx ?hy ?hz ?h0) ?h1 ?h2 ?h3 ?h4 ?h5 ?h6 ?h7 ?h8 ?h9 ?ia ?ib ?ic ?id ?ie ?ig ?ih ?ii ?ij ?ik ?il ?im ?io ?ip ?iq ?ir ?is ?it ?iu ?iv ?iw ?ix ?iy ?iz ?i0 ?i1 ?i2 ?i3 ?i4 ?i5 ?i6 ?i7 ?i8 ?i9 ?ja ?jb ?jc ?jd ?je ?jf ?jg ?jh ?ji ?jj ?jk ?jl ?jm ?jn ?jo ?jp ?jq ?jr ?js ?jt ?ju ?jv ?jw ?jx ?jy ?jz ?j0 ?j1 ?j2 ?j3 ?j4 ?j5 ?j6 ?j7 ?j8 ?j9 ?ka ?kb ?kc ?kd ?ke ?kf ?kg ?kh ?ki
  (case aa|ab|ac|ad|ae|af|ag|ah|ai|aj|ak|al|am|an|ao|ap|aq|ar|as|au|av|aw|ax|ay|az|ba|bb|bc|bd|be|bf|bg|bh|bi|bj|bk|bl|bm|bn|bo|bp|bq|br|bs|bt|bu|bv|bw|bx|bz|b0|b1|b2|b3|b4|b5|b6|b7|b8|b9|ca|cb|cc|cd|ce|cf|cg|ch|ci|cj|ck|cl|cm|cn|co|cp|cq|cr|cs|ct|cu|cv|cw|cx|cy|cz|da|db|dc|dd|de|df|dg|dh|di|dj|dk|dl|dm|dn|dp|dq|dr|ds|dt|du|dv|dw|dx|dy|dz|d0|d1|d2|d3|d4|d5|d6|d7|d8|d9|ea|eb|ec|ed|ee|ef|eg|eh|ei|ej|ek|el|em|en|eo|ep|eq|er|es|et|eu|ev|ew|ex|ey|ez|e0|e1|e2|e3|e4|e5|e6|e7|e8|e9|fa|fb|fc|fd|fe|ff|fg|fh|fi|fj|fk|fl|fm|fn|fo|fp|fq|fr|fs|ft|fu|fv|fw|fx|fy|fz|f0|f1|f2|f3|f4|f5|f6|f7|f8|f9|ga|gb|gc|gd|ge|gf|gg|gh|gi|gj|gk|gl|gm|gn|go|gp|gq|gr|gs|gt|gu|gv|gw|gx|gy|gz|g0|g1|g2|g3|g4|g5|g6|g7|g8|g9|ha|hb|hd|he|hf|hg|hh|hi|hj|hk|hl|hm|hn|ho|hp|hq|hr|hs|ht|hu|hv|hx|hy|hz|h0|jn|jo|jp|jq|jr|js|jt|ju|jv|jw|jx|jy|jz|j0|j1|j2|j3|j4|j5|j6|j7|j8|j9|ka|kb|kc|kd|ke|kf|kg|kh|ki=>k_is)
  (case h1|ia|ik|iu|i3=>kernel_rfl)
  (case h2|h3|h4|h5|h6|h7|h8|h9|ib|ic|id|ie|ig|ih|ii|ij|il|im|io|ip|iq|ir|is|it|iv|iw|ix|iy|iz|i0|i1|i2|i4|i5|i6|i7|i8|i9|ja|jb|jc|jd|je|jf|jg|jh|ji|jj|jk|jl|jm=>first|rfl|decide +kernel|k_is)

