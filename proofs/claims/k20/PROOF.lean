import PyProof.Rows.All
import Wide.All
import OpenK.AllK
import Wide.FinOn
import Lean
import PyProof.EqAt
import PyProof.EqKinds
import PyProof.TupleCall
import PyProof.ZipIter
import PyProof.WalksMore
import PyProof.ListNew
import PyProof.IsiBase
import PyProof.DictList
import PyProof.AttrMiss
import PyProof.FactsAll.dict
import PyProof.ListRange
import PyProof.StrLawsWords
import PyProof.StationsW
import KE.KIsAll
import PyProof.DictIter
import KE.KRevIter
import KE.KRangeStep
import KE.RegMulBits
import KE.KDictList
import PyProof.Draws
import PyProof.EnumStmt
import PyProof.Rows.CallKwBuiltin
import PyProof.Rows.Exc
import PySem.Challenge.RW_gatefold_k20_folded_as_the_net
set_option Elab.async false
set_option linter.all false
set_option maxRecDepth 100000
namespace L2
open PySem PySem.Spec PyProof.Rows
abbrev Key:=Sum Int Str
def keyIs:Key→Value→Bool
 | .inl k,v=>Value.isInt k v
 | .inr x,v=>Value.isStrOf x v
def keyH (w:World):Key→Int
 | .inl k=>hashInt k
 | .inr x=>hashStr w x
theorem keyIs_shape:∀ {k:Key}{v:Value},keyIs k v=true→(∃ i t,k=Sum.inl i∧v=Value.int i t)∨(∃ x t,k=Sum.inr x∧v=Value.str x t)
 | .inl i,v,h=>by
  obtain ⟨t,e⟩:=Value.isInt_shape (k:=i) (v:=v) h
  exact .inl ⟨i,t,rfl,e⟩
 | .inr x,v,h=>by
  obtain ⟨t,e⟩:=Value.isStrOf_shape (x:=x) (v:=v) h
  exact .inr ⟨x,t,rfl,e⟩
theorem keyIs_int (i:Int) (t:Tok):keyIs (.inl i) (.int i t)=true:=by simp [keyIs,Value.isInt]
theorem keyIs_str (x:Str) (t:Tok):keyIs (.inr x) (.str x t)=true:=by simp [keyIs,Value.isStrOf]
theorem key_ll (a b:Int):decide ((Sum.inl a:Key)=Sum.inl b)=(a == b):=by
 by_cases e:a=b
 ·subst e;simp
 ·have h:¬ (Sum.inl a:Key)=Sum.inl b:=fun q=>e (Sum.inl.inj q)
  rw [decide_eq_false h]
  exact (beq_eq_false_iff_ne.mpr e).symm
theorem key_rr (a b:Str):decide ((Sum.inr a:Key)=Sum.inr b)=decide (a=b):=by
 by_cases e:a=b
 ·subst e;simp
 ·have h:¬ (Sum.inr a:Key)=Sum.inr b:=fun q=>e (Sum.inr.inj q)
  rw [decide_eq_false h,decide_eq_false e]
theorem key_lr (a:Int) (b:Str):decide ((Sum.inl a:Key)=Sum.inr b)=false:=decide_eq_false (fun q=>nomatch q)
theorem key_rl (a:Str) (b:Int):decide ((Sum.inr a:Key)=Sum.inl b)=false:=decide_eq_false (fun q=>nomatch q)
def mixKind (prog:Program) (w:World):PySem.KeyKind prog w Key where
 is:=keyIs
 hash:=keyH w
 inj:=fun v a b ha hb=>by
  rcases keyIs_shape ha with ⟨i,t,rfl,rfl⟩ | ⟨x,t,rfl,rfl⟩
  ·rcases keyIs_shape hb with ⟨j,u,rfl,e⟩ | ⟨y,u,rfl,e⟩
   ·injection e with e1 _;rw [e1]
   ·exact nomatch e
  ·rcases keyIs_shape hb with ⟨j,u,rfl,e⟩ | ⟨y,u,rfl,e⟩
   ·exact nomatch e
   ·injection e with e1 _;rw [e1]
 byValue:=fun k v h=>by
  rcases keyIs_shape h with ⟨i,t,rfl,rfl⟩ | ⟨x,t,rfl,rfl⟩ <;> rfl
 pyHash:=fun hv h=>by
  rcases keyIs_shape hv with ⟨i,t,rfl,rfl⟩ | ⟨x,t,rfl,rfl⟩
  ·exact wpAny_pyHash_int h
  ·exact wpAny_pyHash_str h
 eqBool:=fun hu hv h=>by
  rcases keyIs_shape hu with ⟨i,t,rfl,rfl⟩ | ⟨x,t,rfl,rfl⟩
  ·rcases keyIs_shape hv with ⟨j,u,rfl,rfl⟩ | ⟨y,u,rfl,rfl⟩
   ·rw [key_ll] at h;exact wpAny_eqBool_int h
   ·rw [key_lr] at h;exact SeqAt.EqAt.int_str i t y u _ _ _ _ h
  ·rcases keyIs_shape hv with ⟨j,u,rfl,rfl⟩ | ⟨y,u,rfl,rfl⟩
   ·rw [key_rl] at h;exact SeqAt.EqAt.str_int x t j u _ _ _ _ h
   ·rw [key_rr] at h;exact wpAny_eqBool_str h
 «strs»:=fun k x t v h=>by
  rcases keyIs_shape h with ⟨i,u,rfl,e⟩ | ⟨y,u,rfl,e⟩
  ·exact nomatch e
  ·injection e with e1 _
   subst e1
   cases v <;> rfl
theorem mixKind_int (prog:Program) (w:World) (i:Int) (t:Tok):(mixKind prog w).is (.inl i) (.int i t)=true:=keyIs_int i t
theorem mixKind_str (prog:Program) (w:World) (x:Str) (t:Tok):(mixKind prog w).is (.inr x) (.str x t)=true:=keyIs_str x t
inductive V where
 | non | bl (b:Bool) | int (i:Int) | str (x:Str) | byt (b:Array UInt8) | flt (b:UInt64) | ref (a:Addr) | ty (n:String)
 deriving DecidableEq
def RelV:V→Value→Prop
 | .non,u=>u=Value.none
 | .bl b,u=>u=Value.bool b
 | .int i,u=>∃ t,u=Value.int i t
 | .str x,u=>∃ t,u=Value.str x t
 | .byt b,u=>∃ t,u=Value.bytes b t
 | .flt b,u=>∃ t,u=Value.float b t
 | .ref a,u=>u=Value.ref a
 | .ty n,u=>u=Value.type n
abbrev Vals:List V→List Value→Prop:=Paired RelV
theorem Vals.length {xs:List V}{us:List Value} (r:Vals xs us):xs.length=us.length:=Paired.length r
theorem Vals.get:∀ {xs:List V}{us:List Value}{i:Nat}{x:V},Vals xs us→xs[i]? = some x→∃ u,us[i]? = some u∧RelV x u
 | _,_,_,_,.nil,e=>by simp at e
 | _,_,0,_,.cons r _,e=>by simp at e;subst e;exact ⟨_,rfl,r⟩
 | _,_,i+1,x,.cons _ t,e=>by
  obtain ⟨u,h1,h2⟩:=Vals.get (i:=i) (x:=x) t (by simpa using e)
  exact ⟨u,by simpa using h1,h2⟩
theorem Vals.set {x:V}{u:Value} (r:RelV x u):∀ {xs:List V}{us:List Value} (i:Nat),Vals xs us→Vals (xs.set i x) (us.set i u)
 | _,_,_,.nil=>.nil
 | _,_,0,.cons _ t=>.cons r t
 | _,_,i+1,.cons q t=>.cons q (Vals.set r i t)
theorem Vals.append:∀ {xs ys:List V}{us ws:List Value},Vals xs us→Vals ys ws→Vals (xs ++ ys) (us ++ ws)
 | _,_,_,_,.nil,s=>s
 | _,_,_,_,.cons r t,s=>.cons r (Vals.append t s)
theorem Vals.take:∀ {xs:List V}{us:List Value} (n:Nat),Vals xs us→Vals (xs.take n) (us.take n)
 | _,_,0,_=>.nil
 | _,_,_+1,.nil=>.nil
 | _,_,n+1,.cons r t=>.cons r (Vals.take n t)
theorem Vals.drop:∀ {xs:List V}{us:List Value} (n:Nat),Vals xs us→Vals (xs.drop n) (us.drop n)
 | _,_,0,r=>r
 | _,_,_+1,.nil=>.nil
 | _,_,n+1,.cons _ t=>Vals.drop n t
def RelO:Option V→Option Value→Prop
 | some v,some u=>RelV v u
 | none,none=>True
 | _,_=>False
def KV {κ:Type}:List (κ × V)→List (κ × Value)→Prop:=Paired fun (p:κ × V) (q:κ × Value)=>p.1=q.1∧RelV p.2 q.2
def kV:Key→V
 | .inl i=>.int i
 | .inr x=>.str x
inductive HO where
  | lst (xs:List V)
  | tup (xs:List V)
  | dK (kvs:List (Key × V)) | dT (kvs:List (List Key × V))
  | set (S:Int→Bool) (n:Nat)
  | ins (C dx:Addr) (fs:List (Str × V))
  | own (x:Addr)
  | xd (fs:List (Str × V))
  | met (f x:Addr)
  | rng (lo hi:Int)
  | frz (o:Obj) (u:HO)
  | tbl (ps:Array Value)
  | ext (φ:Heap→Prop)
abbrev Hp:=Addr→Option HO
def upd (H:Hp) (a:Addr) (o:HO):Hp:=fun b=>if b=a then some o else H b
theorem upd_same {H:Hp}{a:Addr}{o:HO}:upd H a o a=some o:=by unfold upd;rw [if_pos rfl]
theorem upd_ne {H:Hp}{a b:Addr}{o:HO} (h:b≠a):upd H a o b=H b:=by unfold upd;rw [if_neg h]
theorem upd_upd {H:Hp}{a:Addr}{o u:HO}:upd (upd H a o) a u=upd H a u:=by
 funext b;unfold upd;split <;> rfl
theorem ne_of {H:Hp}{a b:Addr}{o u:HO} (h:H a=some o) (h':H b=some u) (d:o≠u):a≠b:=by
 intro e;subst e;rw [h] at h';exact d (Option.some.inj h')
theorem ne_of_none {H:Hp}{a b:Addr}{o:HO} (h:H a=some o) (h':H b=none):a≠b:=by
 intro e;subst e;rw [h] at h';cases h'
section
variable (P:Program) (w:World)
def ObjOk (H:Hp) (h:Heap) (a:Addr):HO→Prop
 | .lst xs=>xs.length≤sizeLine∧∃ (its:List Value) (n:Nat),Vals xs its∧h.get? a=some { cls:=.type "list",data:=.seq its.toArray n }
 | .tup xs=>xs.length≤sizeLine∧∃ its:List Value,Vals xs its∧IsTup h a its.toArray
 | .dK kvs=>kvs.length≤sizeLine∧(a == sysModules)=false∧∃ vs,KV kvs vs∧h.DictOf (mixKind P w) a vs
 | .dT kvs=>kvs.length≤sizeLine∧(a == sysModules)=false∧∃ xs:List (List Key × Addr × Value),
   Paired (fun (p:List Key × V) (q:List Key × Addr × Value)=>p.1=q.1∧H q.2.1=some (.tup (p.1.map kV))∧RelV p.2 q.2.2) kvs xs ∧
   ∃ o es ep,h.get? a=some o∧o.ExactDict∧o.data=.dict es ep∧es.toList=xs.map (entryOfKey (tupleKind (mixKind P w)))∧(xs.map (·.1)).Nodup
 | .set S n=>h.SetOf (intKind P w) a S n
 | .ins C dx fs=>H dx=some (.own a)∧fs.length≤1000∧dx≠a∧h.get? a=some (PySem.W.instObj C dx) ∧
   ∃ mA,h.Ns1 dx mA∧(∀ f,RelO (fs.lookup f) (mA f))∧PySem.Within mA (fs.map (·.1))
 | .own _=>∃ o,h.get? a=some o
 | .xd fs=>∃ mA,h.Ns1 a mA∧∀ f,RelO (fs.lookup f) (mA f)
 | .rng lo hi=>∃ t u v,h.get? a=some { cls:=.type "range",data:=.fields #[.int lo t,.int hi u,.int 1 v] }
 | .frz o u=>h.get? a=some o∧ObjOk H h a u
 | .tbl ps=>h.get? a=some { cls:=.none,data:=.fields ps }
 | .met f x=>h.get? a=some (PySem.W.methodObj (.ref f) (.ref x))
 | .ext φ=>φ h∧(∃ o,h.get? a=some o)∧∀ h1 h2:Heap,φ h1→(∀ o,h1.get? a=some o→h2.get? a=some o)→φ h2
def HOk (H:Hp) (h:Heap):Prop:=∀ a o,H a=some o→ObjOk P w H h a o
end
section
variable {P:Program}{w:World}{H H':Hp}{h h':Heap}{a:Addr}{o:HO}
theorem ObjOk.lt (x:ObjOk P w H h a o):a<h.objs.size:=by
 cases o with
 | lst xs=>obtain ⟨_,_,_,_,e⟩:=x;exact Heap.lt_size e
 | tup xs=>obtain ⟨_,_,_,p⟩:=x;exact p.lt
 | dK kvs=>obtain ⟨_,_,_,_,o,_,_,e,_⟩:=x;exact Heap.lt_size e
 | dT kvs=>obtain ⟨_,_,_,_,o,_,_,e,_⟩:=x;exact Heap.lt_size e
 | set S n=>obtain ⟨o,_,_,_,e,_⟩:=x;exact Heap.lt_size e
 | ins C dx fs=>obtain ⟨_,_,_,e,_⟩:=x;exact Heap.lt_size e
 | own y=>obtain ⟨_,e⟩:=x;exact Heap.lt_size e
 | xd fs=>obtain ⟨_,⟨_,_,_,e,_⟩,_⟩:=x;exact Heap.lt_size e
 | rng lo hi=>obtain ⟨_,_,_,e⟩:=x;exact Heap.lt_size e
 | frz ob u=>obtain ⟨e,_⟩:=x;exact Heap.lt_size e
 | tbl ps=>exact Heap.lt_size (show h.get? a=some _ from x)
 | met f y=>exact Heap.lt_size (show h.get? a=some _ from x)
 | ext φ=>obtain ⟨_,⟨_,e⟩,_⟩:=x;exact Heap.lt_size e
theorem Paired.mapP {α β:Type}{F G:α→β→Prop}:∀ {l₁:List α}{l₂:List β},Paired F l₁ l₂→(∀ a b,F a b→G a b)→Paired G l₁ l₂
 | _,_,.nil,_=>.nil
 | _,_,.cons r t,f=>.cons (f _ _ r) (Paired.mapP t f)
theorem ObjOk.stay (x:ObjOk P w H h a o) (k:∀ b u,(b=a∨H b=some (.own a))→h.get? b=some u→h'.get? b=some u)
  (ho:∀ b,H b=some (.own a)→H' b=some (.own a)) (ht:∀ b xs,H b=some (.tup xs)→H' b=some (.tup xs)):ObjOk P w H' h' a o:=by
 induction o with
 | lst xs=>obtain ⟨z,its,n,r,e⟩:=x;exact ⟨z,its,n,r,k _ _ (.inl rfl) e⟩
 | tup xs=>obtain ⟨z,its,r,ob,e,c⟩:=x;exact ⟨z,its,r,ob,k _ _ (.inl rfl) e,c⟩
 | dK kvs=>obtain ⟨z,y,vs,r,ob,es,ep,e,c⟩:=x;exact ⟨z,y,vs,r,ob,es,ep,k _ _ (.inl rfl) e,c⟩
 | dT kvs =>
  obtain ⟨z,y,xs,r,ob,es,ep,e,c⟩:=x
  exact ⟨z,y,xs,Paired.mapP r fun p q z=>⟨z.1,ht _ _ z.2.1,z.2.2⟩,ob,es,ep,k _ _ (.inl rfl) e,c⟩
 | set S n=>obtain ⟨ob,es,ep,t,e,c⟩:=x;exact ⟨ob,es,ep,t,k _ _ (.inl rfl) e,c⟩
 | ins C dx fs =>
  obtain ⟨d,z,ne,e,mA,⟨od,es,ep,e2,c⟩,r⟩:=x
  exact ⟨ho _ d,z,ne,k _ _ (.inl rfl) e,mA,⟨od,es,ep,k _ _ (.inr d) e2,c⟩,r⟩
 | own y=>obtain ⟨ob,e⟩:=x;exact ⟨ob,k _ _ (.inl rfl) e⟩
 | xd fs=>obtain ⟨mA,⟨od,es,ep,e,c⟩,r⟩:=x;exact ⟨mA,⟨od,es,ep,k _ _ (.inl rfl) e,c⟩,r⟩
 | rng lo hi=>obtain ⟨t,u,v,e⟩:=x;exact ⟨t,u,v,k _ _ (.inl rfl) e⟩
 | frz ob u ih=>obtain ⟨e,q⟩:=x;exact ⟨k _ _ (.inl rfl) e,ih q⟩
 | tbl ps =>
  have e:h.get? a=some { cls:=.none,data:=.fields ps }:=x
  show h'.get? a=some { cls:=.none,data:=.fields ps }
  exact k a _ (.inl rfl) e
 | met f y =>
  have e:h.get? a=some (PySem.W.methodObj (.ref f) (.ref y)):=x
  show h'.get? a=some (PySem.W.methodObj (.ref f) (.ref y))
  exact k a _ (.inl rfl) e
 | ext φ=>obtain ⟨p,⟨o,e⟩,st⟩:=x;exact ⟨st _ _ p fun o q=>k _ _ (.inl rfl) q,⟨o,k _ _ (.inl rfl) e⟩,st⟩
theorem HOk.lt (x:HOk P w H h) (e:H a=some o):a<h.objs.size:=(x a o e).lt
theorem HOk.fresh (x:HOk P w H h) (e:h.objs.size≤a):H a=none:=by
 cases q:H a with
 | none=>rfl
 | some u=>exact absurd (Nat.lt_of_lt_of_le (x.lt q) e) (Nat.lt_irrefl _)
theorem HOk.kept (x:HOk P w H h) (k:∀ b u,h.get? b=some u→h'.get? b=some u):HOk P w H h':=fun a o e =>
 (x a o e).stay (fun b u _ q=>k b u q) (fun _ q=>q) fun _ _ q=>q
theorem HOk.laid (x:HOk P w H h) (k:∀ b u,h.get? b=some u→h'.get? b=some u) (hp:h.objs.size≤a) (new:ObjOk P w (upd H a o) h' a o):HOk P w (upd H a o) h':=fun b u e=>by
 have hn:=x.fresh hp
 by_cases hb:b=a
 ·subst hb;rw [upd_same] at e;cases e;exact new
 ·rw [upd_ne hb] at e
  exact (x b u e).stay (fun c v _ q=>k c v q) (fun c q=>by rw [upd_ne (ne_of_none q hn)];exact q) fun c xs q=>by rw [upd_ne (ne_of_none q hn)];exact q
end
def Rd (H:Hp) (a:Addr) (u:HO):Prop:=H a=some u∨∃ o,H a=some (.frz o u)
theorem Rd.ok {P:Program}{w:World}{H:Hp}{h:Heap}{a:Addr}{u:HO} (r:Rd H a u) (x:HOk P w H h):ObjOk P w H h a u:=by
 rcases r with r | ⟨o,r⟩
 ·exact x a u r
 ·obtain ⟨_,q⟩:=x a _ r
  exact q
def Mut:Option HO→Prop
 | some (.lst _)=>True
 | some (.dK _)=>True
 | some (.dT _)=>True
 | some (.set _ _)=>True
 | some (.ins _ _ _)=>True
 | some (.ext _)=>True
 | _=>False
section
variable {P:Program}{w:World}{H:Hp}{h h':Heap}{x e:Addr}{o':HO}
theorem HOk.write (ok:HOk P w H h) (mu:Mut (H x)) (he:e=x∨H e=some (.own x)) (k:∀ b u,b≠e→h.get? b=some u→h'.get? b=some u) (heo:∃ u,h'.get? e=some u)
  (new:ObjOk P w (upd H x o') h' x o'):HOk P w (upd H x o') h':=fun b u q=>by
 have nown:∀ c y,H c=some (.own y)→c≠x:=fun c y r z=>by subst z;rw [r] at mu;exact mu
 have ntup:∀ c xs,H c=some (.tup xs)→c≠x:=fun c xs r z=>by subst z;rw [r] at mu;exact mu
 by_cases hb:b=x
 ·subst hb;rw [upd_same] at q;cases q;exact new
 ·rw [upd_ne hb] at q
  by_cases hbe:b=e
  ·have q':H b=some (.own x):=by
    rcases he with z | z
    ·exact absurd (hbe.trans z) hb
    ·rw [hbe];exact z
   rw [q] at q';cases q'
   obtain ⟨v,hv⟩:=heo
   exact ⟨v,by rw [hbe];exact hv⟩
  ·refine (ok b u q).stay (fun c v hc r=>k c v ?_ r) (fun c r=>by rw [upd_ne (nown c b r)];exact r) fun c xs r=>by rw [upd_ne (ntup c xs r)];exact r
   rcases hc with rfl | hc
   ·exact hbe
   ·rintro rfl
    rcases he with z | z
    ·exact nown c b hc z
    ·rw [hc] at z;cases z;exact hb rfl
end
structure Un (fs ex:List Addr) (H H':Hp) (h h':Heap):Prop where
 keep:∀ b o,h.get? b=some o→H b=none→b ∉ fs→b ∉ ex→h'.get? b=some o
 slot:∀ b o,h.get? b=some o→H b=none→b∈fs→b ∉ ex→∃ sl,h'.get? b=some { o with slots:=sl }
 free:∀ b o,h.get? b=some o→H b=none→b ∉ ex→H' b=none
 there:∀ b o,h.get? b=some o→b ∉ ex→∃ o',h'.get? b=some o'
 tups:∀ b xs,H b=some (.tup xs)→H' b=some (.tup xs)
 frzs:∀ b o u,H b=some (.frz o u)→H' b=some (.frz o u)
 tbls:∀ b ps,H b=some (.tbl ps)→∃ more,H' b=some (.tbl (ps ++ more))
section
variable {fs fs' ex ex':List Addr}{H H1 H2:Hp}{h h1 h2 h':Heap}{a x e:Addr}{o:HO}
theorem Un.any (u:Un fs ex H H1 h h1) {b:Addr}{ob:Obj} (q:h.get? b=some ob) (n:H b=none) (hx:b ∉ ex):∃ sl,h1.get? b=some { ob with slots:=sl }:=by
 by_cases hb:b∈fs
 ·exact u.slot b ob q n hb hx
 ·exact ⟨ob.slots,u.keep b ob q n hb hx⟩
theorem Un.kept (k:∀ b u,h.get? b=some u→h'.get? b=some u):Un fs ex H H h h' :=
 ⟨fun b ob q _ _ _=>k b ob q,fun b ob q _ _ _=>⟨ob.slots,k b ob q⟩,fun _ _ _ n _=>n,fun b ob q _=>⟨ob,k b ob q⟩,fun _ _ q=>q,fun _ _ _ q=>q,fun _ ps q=>⟨#[],by rw [q];simp⟩⟩
theorem Un.refl:Un fs ex H H h h:=Un.kept fun _ _ q=>q
theorem Un.laid (k:∀ b u,h.get? b=some u→h'.get? b=some u) (hp:h.objs.size≤a) (hn:H a=none):Un fs ex H (upd H a o) h h' where
 keep:=fun b u q _ _ _=>k b u q
 slot:=fun b u q _ _ _=>⟨u.slots,k b u q⟩
 free:=fun b u q n _=>by rw [upd_ne (Nat.ne_of_lt (Nat.lt_of_lt_of_le (Heap.lt_size q) hp))];exact n
 there:=fun b u q _=>⟨u,k b u q⟩
 tups:=fun b xs q=>by rw [upd_ne (ne_of_none q hn)];exact q
 frzs:=fun b u xs q=>by rw [upd_ne (ne_of_none q hn)];exact q
 tbls:=fun b ps q=>⟨#[],by rw [upd_ne (ne_of_none q hn),q];simp⟩
theorem Un.write (mu:Mut (H x)) (he:e=x∨H e=some (.own x)) (k:∀ b u,b≠e→h.get? b=some u→h'.get? b=some u) (heo:∃ u,h'.get? e=some u):Un fs ex H (upd H x o) h h':=by
 have hx:∀ b,H b=none→b≠x:=fun b n z=>by subst z;rw [n] at mu;exact mu
 have hb:∀ b,H b=none→b≠e:=fun b n z=>by
  subst z
  rcases he with r | r
  ·exact hx b n r
  ·rw [n] at r;cases r
 have hm:∀ b u,H b=some u→¬ Mut (some u)→b≠x:=fun b u q nm z=>by subst z;rw [q] at mu;exact nm mu
 refine ⟨fun b u q n _ _=>k b u (hb b n) q,fun b u q n _ _=>⟨u.slots,k b u (hb b n) q⟩,fun b u q n _=>by rw [upd_ne (hx b n)];exact n,fun b u q _=>?_,
  fun b xs q=>by rw [upd_ne (hm b _ q fun z=>z)];exact q,fun b u xs q=>by rw [upd_ne (hm b _ q fun z=>z)];exact q,fun b ps q=>⟨#[],by rw [upd_ne (hm b _ q fun z=>z),q];simp⟩⟩
 by_cases hbe:b=e
 ·subst hbe;exact heo
 ·exact ⟨u,k b u hbe q⟩
end
def trk (h:Heap) (H:Hp):List Addr:=(List.range h.objs.size).filter fun a=>(H a).isSome
def hidT (h:Heap) (H:Hp):Heap:=PySem.W.hideAll h (trk h H)
theorem hidT_size (h:Heap) (H:Hp):(hidT h H).objs.size=h.objs.size:=PySem.W.hideAll_size _ _
theorem hidT_get {h:Heap}{H:Hp}{b:Addr}{o:Obj} (e:h.get? b=some o) (n:H b=none):(hidT h H).get? b=some o :=
 PySem.W.hideAll_get _ e fun hm=>by
  have q:(H b).isSome=true:=(List.mem_filter.mp hm).2
  rw [n] at q;simp at q
theorem of_hidT {h:Heap}{H:Hp}{b:Addr}{o:Obj} (e:(hidT h H).get? b=some o):h.get? b=some o∧H b=none:=by
 have e':h.get? b=some o:=PySem.W.of_hideAll (trk h H) e
 refine ⟨e',?_⟩
 cases q:H b with
 | none=>rfl
 | some x =>
  have hm:b∈trk h H:=List.mem_filter.mpr ⟨List.mem_range.mpr (Heap.lt_size e'),by simp [q]⟩
  have z:(hidT h H).get? b=none:=PySem.W.hideAll_none (trk h H) hm
  rw [z] at e;cases e
def allNews (g h:Heap) (L:Addr):List (Addr × Obj):=(List.range h.objs.size).filterMap fun a=>if a=L∨(g.get? a).isSome=true then none else (h.get? a).map fun o=>(a,o)
def rest (g h:Heap) (L d:Addr):List (Addr × Obj):=(allNews g h L).filter fun p=>decide (p.1≠d)
structure Mod (K:PySem.W.Frag) (mg:Str→Option Value) (base:Heap):Prop where
 kin:K.In base
 glob:base.Ns mainGlobals mg
 blt:∃ mb,base.Ns builtinsNs mb∧∀ x:Str,x ≠ "__name__" → mb x=bootBuiltins x
 nolimit:base.NoLimit
structure Cx where
 prog:Program
 w:World
 K:PySem.W.Frag
 mg:Str→Option Value
 base:Heap
 A:Around
 N:List Str
 s₀:Shared
 H₀:Hp
 env:Env
 outer:List Env
 stack:List Env
 ex:List Addr
 fn:Str→Bool
 calm:Bool
 pn:List (Addr × Obj)
 xe:Value→Shared→Prop
def frs (l:List Env):List Addr:=l.filterMap (·.frame)
abbrev Cx.fs (X:Cx):List Addr:=frs X.outer
def Vis (sc:Scope) (x:Str):Prop:=sc.names.lookup x=some .local∨sc.names.lookup x=some .cell∨sc.names.lookup x=some .free
def Loc (sc:Scope) (x:Str):Prop:=sc.names.lookup x=some .local∨sc.names.lookup x=some .cell
def Look (env:Env) (h:Heap) (m:Str→Option Value) (x:Str) (u:Value):Prop :=
 (env.kindOf x=some .local∧m x=some u)∨((env.kindOf x=some .cell∨env.kindOf x=some .free)∧∃ c,env.cells.lookup x=some c∧h.IsCell c (some u))
structure Cx.Ok (X:Cx):Prop where
 mod:Mod X.K X.mg X.base
 kind:X.env.scope.kind=.function
 glob:X.env.globals=mainGlobals
 blt:X.env.builtins=builtinsNs
 above:X.s₀.heap.objs.size≤X.env.locals
 inj:∀ x y c,X.env.cells.lookup x=some c→X.env.cells.lookup y=some c→x=y
 has:∀ x,(X.env.kindOf x=some .cell∨X.env.kindOf x=some .free)→∃ c,X.env.cells.lookup x=some c
 cab:∀ x c,X.fn x=true→X.env.cells.lookup x=some c→X.s₀.heap.objs.size≤c
 hd:X.calm=true→X.A.handled=none
 frames:X.A.frames=some X.stack
 stk:X.stack=X.outer∨(X.stack=X.env :: X.outer∧X.env.frame=some X.env.locals)
 exf:∀ b∈X.ex,b≠X.env.locals∧∀ x c,X.env.cells.lookup x=some c→c≠b
 bs:∀ b o,X.base.get? b=some o→X.s₀.heap.get? b=some o∧X.H₀ b=none
 bsz:X.base.objs.size≤X.s₀.heap.objs.size
 noex:∀ b o,X.base.get? b=some o→b ∉ X.ex
 exfs:∀ b∈X.ex,b ∉ X.fs
 funs:X.s₀.heap.FunFrames X.base X.outer
 frf:∀ b∈X.fs,X.H₀ b=none
structure Inv (X:Cx) (pins:List (Addr × Obj)) (σ:List (Option V)) (H:Hp) (s:Shared):Prop where
 ok:X.Ok
 os:s.os=X.s₀.os
 bare:AllBare s.gens
 base:Un X.fs X.ex X.H₀ H X.s₀.heap s.heap
 loc:∃ m,s.heap.Ns X.env.locals m∧∀ (i:Nat) (x:Str) (v:V),X.N[i]? = some x→σ[i]? = some (some v)→Vis X.env.scope x→∃ u,RelV v u∧Look X.env s.heap m x u
 cell:∀ x c,X.env.cells.lookup x=some c→∃ v,s.heap.IsCell c v
 free:H X.env.locals=none
 freeC:∀ x c,X.env.cells.lookup x=some c→H c=none
 pin:∀ p∈X.pn ++ pins,s.heap.get? p.1=some p.2∧H p.1=none∧p.1≠X.env.locals∧p.1 ∉ X.fs∧∀ v,p.2.data≠.cell v
 hok:HOk X.prog X.w H s.heap
 len:σ.length=X.N.length
section
variable {X:Cx}{pins:List (Addr × Obj)}{σ:List (Option V)}{H H':Hp}{s:Shared}{h':Heap}
theorem Cx.Ok.nofr (ok:X.Ok) {b:Addr}{o:Obj} (e:X.base.get? b=some o):b ∉ X.fs:=fun hb=>by
 have:=(ok.funs.mem hb).1
 rw [e] at this;cases this
theorem Inv.bs (I:Inv X pins σ H s):∀ b o,X.base.get? b=some o→s.heap.get? b=some o∧H b=none:=fun b o e =>
 ⟨I.base.keep b o (I.ok.bs b o e).1 (I.ok.bs b o e).2 (I.ok.nofr e) (I.ok.noex b o e),I.base.free b o (I.ok.bs b o e).1 (I.ok.bs b o e).2 (I.ok.noex b o e)⟩
theorem Inv.bk (I:Inv X pins σ H s):∀ b o,X.base.get? b=some o→s.heap.get? b=some o:=fun b o e=>(I.bs b o e).1
theorem Inv.mod (I:Inv X pins σ H s):Mod X.K X.mg X.base:=I.ok.mod
theorem Inv.kIn (I:Inv X pins σ H s):X.K.In s.heap:=I.ok.mod.kin.keeps I.bk
theorem Inv.nolimit (I:Inv X pins σ H s):s.heap.NoLimit:=I.ok.mod.nolimit.keeps I.bk
theorem Inv.fr (I:Inv X pins σ H s):∃ m,Fr X.base X.env.locals s.heap m :=
 let ⟨m,hn,_⟩:=I.loc
 ⟨m,hn,I.bk,Nat.le_trans I.ok.bsz I.ok.above⟩
theorem Inv.lt (I:Inv X pins σ H s):X.env.locals<s.heap.objs.size:=let ⟨_,hn,_⟩:=I.loc;hn.lt
theorem Inv.sz (I:Inv X pins σ H s):X.s₀.heap.objs.size≤s.heap.objs.size:=Nat.le_trans I.ok.above (Nat.le_of_lt I.lt)
theorem Inv.nofs (I:Inv X pins σ H s) {a:Addr} (h:s.heap.objs.size≤a):a ∉ X.fs:=fun hb=>by
 obtain ⟨_,o,ho,_⟩:=I.ok.funs.mem hb
 exact absurd (Nat.lt_of_lt_of_le (Heap.lt_size ho) (Nat.le_trans I.sz h)) (Nat.lt_irrefl _)
theorem Inv.cne (I:Inv X pins σ H s):∀ x c,X.env.cells.lookup x=some c→c≠X.env.locals:=fun x c e z=>by
 obtain ⟨v,o,ho,hd⟩:=I.cell x c e
 obtain ⟨m,⟨o',es,ep,ho',hd',_⟩,_⟩:=I.loc
 rw [z,ho'] at ho;cases ho;rw [hd'] at hd;cases hd
theorem Inv.funs (I:Inv X pins σ H s):s.heap.FunFrames X.base X.outer:=by
 have all:∀ (l:List Env),(∀ b∈frs l,b∈X.fs)→X.s₀.heap.FunFrames X.base l→s.heap.FunFrames X.base l:=by
  intro l
  induction l with
  | nil=>intro _ _;trivial
  | cons env r ih =>
   intro hs hl
   obtain ⟨hk,⟨L,o,hf,hn,ho,hd⟩,hr⟩:=hl
   have hL:L∈X.fs:=hs L (by unfold frs;rw [List.filterMap_cons,hf];exact List.mem_cons_self)
   obtain ⟨sl,e⟩:=I.base.slot L o ho (I.ok.frf L hL) hL fun z=>I.ok.exfs L z hL
   exact ⟨hk,⟨L,_,hf,hn,e,hd⟩,ih (fun b hb=>hs b (by unfold frs;rw [List.filterMap_cons,hf];exact List.mem_cons_of_mem _ hb)) hr⟩
 exact all X.outer (fun _ hb=>hb) I.ok.funs
theorem Inv.stack (I:Inv X pins σ H s):s.heap.FunFrames X.base X.stack:=by
 rcases I.ok.stk with e | ⟨e,hf⟩
 ·rw [e];exact I.funs
 ·rw [e]
  obtain ⟨m,hn,_⟩:=I.loc
  refine .cons (by rw [I.ok.kind];decide) hf hn ?_ I.funs
  exact Heap.get?_none_of_le (Nat.le_trans I.ok.bsz I.ok.above)
theorem Inv.stkSub (I:Inv X pins σ H s):∀ b∈frs X.stack,b∈X.env.locals :: X.fs:=fun b hb=>by
 rcases I.ok.stk with e | ⟨e,hf⟩
 ·rw [e] at hb;exact List.mem_cons_of_mem _ hb
 ·rw [e] at hb
  unfold frs at hb
  rw [List.filterMap_cons,hf] at hb
  exact hb
theorem Inv.stkFree (I:Inv X pins σ H s):∀ b∈frs X.stack,H b=none:=fun b hb=>by
 rcases List.mem_cons.mp (I.stkSub b hb) with e | hb
 ·rw [e];exact I.free
 ·obtain ⟨_,o,ho,_⟩:=I.ok.funs.mem hb
  exact I.base.free b o ho (I.ok.frf b hb) fun z=>I.ok.exfs b z hb
theorem Inv.step {g':Array GenState}{t':Nat}{d':Drawn}{ch:List Addr} (I:Inv X pins σ H s)
  (hch:∀ b∈ch,(b∈X.ex∨X.s₀.heap.objs.size≤b)∧b≠X.env.locals∧(∀ x c,X.env.cells.lookup x=some c→c≠b)∧∀ p∈X.pn ++ pins,p.1≠b)
  (keep:∀ b o,b≠X.env.locals→b ∉ X.fs→b ∉ ch→s.heap.get? b=some o→H b=none→h'.get? b=some o)
  (slot:∀ b o,b≠X.env.locals→b∈X.fs→b ∉ ch→s.heap.get? b=some o→H b=none→∃ sl,h'.get? b=some { o with slots:=sl }) (free:∀ b o,b ∉ ch→s.heap.get? b=some o→H b=none→H' b=none)
  (there:∀ b o,b ∉ ch→s.heap.get? b=some o→∃ o',h'.get? b=some o')
  (tups:∀ b xs,H b=some (.tup xs)→H' b=some (.tup xs)) (frzs:∀ b o u,H b=some (.frz o u)→H' b=some (.frz o u)) (tbls:∀ b ps,H b=some (.tbl ps)→∃ more,H' b=some (.tbl (ps ++ more)))
  (ns:∀ m,s.heap.Ns X.env.locals m→h'.Ns X.env.locals m) (hok:HOk X.prog X.w H' h') (hg:AllBare g') :
  Inv X pins σ H' { s with heap:=h',gens:=g',drawn:=d',toks:=t' }:=by
 have neL:∀ b o,X.s₀.heap.get? b=some o→b≠X.env.locals:=fun b o e=>Nat.ne_of_lt (Nat.lt_of_lt_of_le (Heap.lt_size e) I.ok.above)
 have neC:∀ b o,X.s₀.heap.get? b=some o→b ∉ X.ex→b ∉ ch:=fun b o e hx hb=>by
  rcases (hch b hb).1 with z | z
  ·exact hx z
  ·exact absurd (Nat.lt_of_lt_of_le (Heap.lt_size e) z) (Nat.lt_irrefl _)
 have cellK:∀ x c,X.env.cells.lookup x=some c→∀ v,s.heap.IsCell c v→h'.IsCell c v:=fun x c e v ⟨o,ho,hd⟩=>by
  have nch:c ∉ ch:=fun z=>(hch c z).2.2.1 x c e rfl
  by_cases hc:c∈X.fs
  ·obtain ⟨sl,q⟩:=slot c o (I.cne x c e) hc nch ho (I.freeC x c e)
   exact ⟨_,q,hd⟩
  ·exact ⟨o,keep c o (I.cne x c e) hc nch ho (I.freeC x c e),hd⟩
 refine ⟨I.ok,I.os,hg,⟨fun b o e n hb hx=>?_,fun b o e n hb hx=>?_,fun b o e n hx=>?_,fun b o e hx=>?_,fun b xs e=>tups b xs (I.base.tups b xs e),fun b o xs e=>frzs b o xs (I.base.frzs b o xs e),fun b ps e=>?_⟩,?_,fun x c e=>?_,?_,fun x c e=>?_,fun p hp=>?_,hok,I.len⟩
 ·exact keep b o (neL b o e) hb (neC b o e hx) (I.base.keep b o e n hb hx) (I.base.free b o e n hx)
 ·obtain ⟨sl,e1⟩:=I.base.slot b o e n hb hx
  obtain ⟨sl',e2⟩:=slot b _ (neL b o e) hb (neC b o e hx) e1 (I.base.free b o e n hx)
  exact ⟨sl',e2⟩
 ·obtain ⟨o',e1⟩:=I.base.there b o e hx
  exact free b o' (neC b o e hx) e1 (I.base.free b o e n hx)
 ·obtain ⟨o',e1⟩:=I.base.there b o e hx
  exact there b o' (neC b o e hx) e1
 ·obtain ⟨m1,e1⟩:=I.base.tbls b ps e
  obtain ⟨m2,e2⟩:=tbls b _ e1
  exact ⟨m1 ++ m2,by rw [e2,Array.append_assoc]⟩
 ·obtain ⟨m,hn,hl⟩:=I.loc
  refine ⟨m,ns m hn,fun i x v e1 e2 e3=>?_⟩
  obtain ⟨u,r,l⟩:=hl i x v e1 e2 e3
  refine ⟨u,r,?_⟩
  rcases l with l | ⟨k,c,e,z⟩
  ·exact .inl l
  ·exact .inr ⟨k,c,e,cellK x c e _ z⟩
 ·obtain ⟨v,z⟩:=I.cell x c e
  exact ⟨v,cellK x c e v z⟩
 ·obtain ⟨m,⟨o,_,_,ho,_⟩,_⟩:=I.loc
  exact free _ o (fun z=>(hch _ z).2.1 rfl) ho I.free
 ·obtain ⟨v,o,ho,hd⟩:=I.cell x c e
  exact free c o (fun z=>(hch c z).2.2.1 x c e rfl) ho (I.freeC x c e)
 ·obtain ⟨e,n,ne,nf,d⟩:=I.pin p hp
  have nch:p.1 ∉ ch:=fun z=>(hch p.1 z).2.2.2 p hp rfl
  exact ⟨keep p.1 p.2 ne nf nch e n,free p.1 p.2 nch e n,ne,nf,d⟩
theorem Inv.un {t':Nat} (I:Inv X pins σ H s) (u:Un X.fs [] H H' s.heap h') (hok:HOk X.prog X.w H' h'):Inv X pins σ H' { s with heap:=h',toks:=t' }:=by
 obtain ⟨m,⟨o,es,ep,ho,r⟩,_⟩:=id I.loc
 obtain ⟨sl,hL⟩:=u.any ho I.free (by simp)
 exact I.step (g':=s.gens) (d':=s.drawn) (ch:=[]) (fun _ z=>nomatch z) (fun b o _ hb _ e n=>u.keep b o e n hb (by simp)) (fun b o _ hb _ e n=>u.slot b o e n hb (by simp)) (fun b o _ e n=>u.free b o e n (by simp)) (fun b o _ e=>u.there b o e (by simp)) u.tups u.frzs u.tbls (fun m' hm=>by
  obtain ⟨o',es',ep',ho',r'⟩:=hm
  rw [ho] at ho';cases ho'
  exact ⟨_,es',ep',hL,r'⟩) hok I.bare
theorem Inv.call {g':Array GenState}{t':Nat}{d':Drawn}{ch:List Addr} (I:Inv X pins σ H s) (u:Un (frs X.stack) ch H H' s.heap h') (hok:HOk X.prog X.w H' h') (hg:AllBare g')
  (hch:∀ b∈ch,(b∈X.ex∨X.s₀.heap.objs.size≤b)∧b≠X.env.locals∧(∀ x c,X.env.cells.lookup x=some c→c≠b)∧∀ p∈X.pn ++ pins,p.1≠b) :
  Inv X pins σ H' { s with heap:=h',gens:=g',drawn:=d',toks:=t' }:=by
 obtain ⟨m,⟨o,es,ep,ho,r⟩,_⟩:=id I.loc
 obtain ⟨sl,hL⟩:=u.any ho I.free fun z=>(hch _ z).2.1 rfl
 exact I.step (ch:=ch) hch (fun b o hL hb hc e n=>u.keep b o e n (fun z=>(List.mem_cons.mp (I.stkSub b z)).elim hL hb) hc) (fun b o _ _ hc e n=>u.any e n hc) (fun b o hc e n=>u.free b o e n hc) (fun b o hc e=>u.there b o e hc) u.tups u.frzs u.tbls (fun m' hm=>by
  obtain ⟨o',es',ep',ho',r'⟩:=hm
  rw [ho] at ho';cases ho'
  exact ⟨_,es',ep',hL,r'⟩) hok hg
theorem Inv.turned {t':Nat}{it:Addr} (I:Inv X pins σ H s) (k:∀ b o,b≠it→s.heap.get? b=some o→h'.get? b=some o) (hn:H it=none) (hL:it≠X.env.locals)
  (h1:it∈X.ex∨X.s₀.heap.objs.size≤it) (h2:∀ x c,X.env.cells.lookup x=some c→c≠it) (h3:∀ p∈X.pn ++ pins,p.1≠it):Inv X pins σ H { s with heap:=h',toks:=t' }:=by
 have nit:∀ b u,H b=some u→b≠it:=fun b u e z=>by rw [z,hn] at e;cases e
 refine I.step (g':=s.gens) (d':=s.drawn) (ch:=[it]) (fun b hb=>?_) (fun b o _ _ hc e _=>k b o (fun z=>hc (by simp [z])) e) (fun b o _ _ hc e _=>⟨o.slots,k b o (fun z=>hc (by simp [z])) e⟩) (fun _ _ _ _ n=>n)
  (fun b o hc e=>⟨o,k b o (fun z=>hc (by simp [z])) e⟩) (fun _ _ e=>e) (fun _ _ _ e=>e) (fun b ps e=>⟨#[],by rw [e];simp⟩) (fun m hm=>?_) (fun b u e=>?_) I.bare
 ·have e:b=it:=by simpa using hb
  subst e
  exact ⟨h1,hL,h2,h3⟩
 ·obtain ⟨o,es,ep,ho,r⟩:=hm
  exact ⟨o,es,ep,k _ o (Ne.symm hL) ho,r⟩
 ·refine (I.hok b u e).stay (fun c v hc q=>k c v ?_ q) (fun _ q=>q) fun _ _ q=>q
  rcases hc with z | z
  ·rw [z];exact nit b u e
  ·exact nit c _ z
theorem Inv.tok (I:Inv X pins σ H s) (t:Nat):Inv X pins σ H { s with toks:=t }:=I.un (h':=s.heap) (t':=t) Un.refl I.hok
theorem Inv.kept {t':Nat} (I:Inv X pins σ H s) (k:∀ b u,s.heap.get? b=some u→h'.get? b=some u):Inv X pins σ H { s with heap:=h',toks:=t' }:=I.un (Un.kept k) (I.hok.kept k)
theorem Inv.laid {a:Addr}{o:HO}{t':Nat} (I:Inv X pins σ H s) (k:∀ b u,s.heap.get? b=some u→h'.get? b=some u) (hp:s.heap.objs.size≤a) (new:ObjOk X.prog X.w (upd H a o) h' a o) :
  Inv X pins σ (upd H a o) { s with heap:=h',toks:=t' }:=I.un (Un.laid k hp (I.hok.fresh hp)) (I.hok.laid k hp new)
theorem Inv.write {x e:Addr}{o:HO}{t':Nat} (I:Inv X pins σ H s) (mu:Mut (H x)) (he:e=x∨H e=some (.own x)) (k:∀ b u,b≠e→s.heap.get? b=some u→h'.get? b=some u) (heo:∃ u,h'.get? e=some u)
  (new:ObjOk X.prog X.w (upd H x o) h' x o):Inv X pins σ (upd H x o) { s with heap:=h',toks:=t' }:=I.un (Un.write mu he k heo) (I.hok.write mu he k heo new)
theorem Inv.pins_of {pins':List (Addr × Obj)} (I:Inv X pins σ H s) (h:∀ p∈pins',s.heap.get? p.1=some p.2∧H p.1=none∧p.1≠X.env.locals∧p.1 ∉ X.fs∧∀ v,p.2.data≠.cell v):Inv X pins' σ H s :=
 ⟨I.ok,I.os,I.bare,I.base,I.loc,I.cell,I.free,I.freeC,fun p hp=>(List.mem_append.mp hp).elim (fun z=>I.pin p (List.mem_append_left _ z)) (h p),I.hok,I.len⟩
theorem nodup_ix {N:List Str} (hN:N.Nodup) {i j:Nat}{x:Str} (a:N[i]? = some x) (b:N[j]? = some x):i=j:=by
 obtain ⟨h1,e1⟩:=List.getElem?_eq_some_iff.mp a
 obtain ⟨h2,e2⟩:=List.getElem?_eq_some_iff.mp b
 exact (List.getElem_inj hN).mp (e1.trans e2.symm)
theorem store_ok2 {M:Model}{A:Around}{E:Value→Shared→Prop}{i:Nat}{x:Str}{v:V}{u:Value}{Q:Unit→Shared→Prop} (I:Inv X pins σ H s) (hN:X.N.Nodup) (hi:X.N[i]? = some x) (hx:Loc X.env.scope x) (r:RelV v u)
  (h:∀ s',Inv X pins (σ.set i (some v)) H s'→(∃ a,Heap.SameBut a s.heap s'.heap∧(a=X.env.locals∨X.env.cells.lookup x=some a))→Q () s') (hf:X.fn x=true∨X.env.scope.names.lookup x=some .local:=by first | exact .inl rfl | exact .inr rfl | assumption):wpAny M A (storeName X.env x u) Q E s:=by
 obtain ⟨m,hn,hl⟩:=id I.loc
 have hcls:(X.env.scope.kind == .class || (X.env.scope.kind == .module && X.env.locals != X.env.globals))=false:=by rw [I.ok.kind];rfl
 have hiσ:i<σ.length:=by rw [I.len];exact (List.getElem?_eq_some_iff.mp hi).1
 have cne:=I.cne
 have tracked:∀ {a:Addr}{h':Heap},(∃ o,s.heap.get? a=some o∧H a=none)→Heap.SameBut a s.heap h'→HOk X.prog X.w H h':=fun {a h'} ha hs b ob e=>by
  obtain ⟨_,_,hfree⟩:=ha
  refine (I.hok b ob e).stay (fun c w' hc q=>(hs.2 c ?_).trans q) (fun _ q=>q) fun _ _ q=>q
  rintro rfl
  rcases hc with rfl | hc
  ·rw [hfree] at e;cases e
  ·rw [hfree] at hc;cases hc
 rcases hx with hk | hk
 ·refine wpAny_storeName_local hk hn (fun h' hn' hs=>?_) hcls
  obtain ⟨oL,_,_,hoL,_⟩:=id hn
  refine h _ ⟨I.ok,I.os,I.bare,⟨fun b o e n hb hx=>?_,fun b o e n hb hx=>?_,I.base.free,fun b o e hx=>?_,I.base.tups,I.base.frzs,I.base.tbls⟩,⟨_,hn',fun j y v' e1 e2 e3=>?_⟩,fun y c e=>?_,I.free,I.freeC,fun p hp=>?_,tracked ⟨oL,hoL,I.free⟩ hs,by simpa using I.len⟩ ⟨_,hs,.inl rfl⟩
  ·exact (hs.2 b (Nat.ne_of_lt (Nat.lt_of_lt_of_le (Heap.lt_size e) I.ok.above))).trans (I.base.keep b o e n hb hx)
  ·obtain ⟨sl,e1⟩:=I.base.slot b o e n hb hx
   exact ⟨sl,(hs.2 b (Nat.ne_of_lt (Nat.lt_of_lt_of_le (Heap.lt_size e) I.ok.above))).trans e1⟩
  ·obtain ⟨o',e1⟩:=I.base.there b o e hx
   exact ⟨o',(hs.2 b (Nat.ne_of_lt (Nat.lt_of_lt_of_le (Heap.lt_size e) I.ok.above))).trans e1⟩
  ·by_cases hj:j=i
   ·subst hj
    rw [hi] at e1;cases e1
    rw [List.getElem?_set_self hiσ] at e2
    cases e2
    exact ⟨u,r,.inl ⟨hk,by simp⟩⟩
   ·rw [List.getElem?_set_ne (Ne.symm hj)] at e2
    obtain ⟨u',r',q⟩:=hl j y v' e1 e2 e3
    refine ⟨u',r',?_⟩
    rcases q with ⟨k,e⟩ | ⟨k,c,e,z⟩
    ·refine .inl ⟨k,?_⟩
     have:y≠x:=fun e=>hj (nodup_ix hN e1 (e ▸ hi))
     simp [this,e]
    ·exact .inr ⟨k,c,e,z.sameBut hs (cne y c e)⟩
  ·obtain ⟨w',z⟩:=I.cell y c e
   exact ⟨w',z.sameBut hs (cne y c e)⟩
  ·obtain ⟨e,n,ne,nf,d⟩:=I.pin p hp
   exact ⟨(hs.2 p.1 ne).trans e,n,ne,nf,d⟩
 ·have hfn:X.fn x=true:=by
   rcases hf with z | z
   ·exact z
   ·rw [z] at hk;cases hk
  obtain ⟨c,hc⟩:=I.ok.has x (.inl hk)
  obtain ⟨w',z⟩:=I.cell x c hc
  refine wpAny_storeName_cell I.ok.kind hk hc z (fun h' hc' hs=>?_)
  obtain ⟨oc,hoc,hocd⟩:=id z
  refine h { s with heap:=h' } ⟨I.ok,I.os,I.bare,⟨fun b o e n hb hx=>?_,fun b o e n hb hx=>?_,I.base.free,fun b o e hx=>?_,I.base.tups,I.base.frzs,I.base.tbls⟩,⟨m,hn.sameBut hs (Ne.symm (cne x c hc)),fun j y v' e1 e2 e3=>?_⟩,fun y c' e=>?_,I.free,I.freeC,fun p hp=>?_,tracked ⟨oc,hoc,I.freeC x c hc⟩ hs,by simpa using I.len⟩ ⟨c,hs,.inr hc⟩
  ·exact (hs.2 b (Nat.ne_of_lt (Nat.lt_of_lt_of_le (Heap.lt_size e) (I.ok.cab x c hfn hc)))).trans (I.base.keep b o e n hb hx)
  ·obtain ⟨sl,e1⟩:=I.base.slot b o e n hb hx
   exact ⟨sl,(hs.2 b (Nat.ne_of_lt (Nat.lt_of_lt_of_le (Heap.lt_size e) (I.ok.cab x c hfn hc)))).trans e1⟩
  ·obtain ⟨o',e1⟩:=I.base.there b o e hx
   exact ⟨o',(hs.2 b (Nat.ne_of_lt (Nat.lt_of_lt_of_le (Heap.lt_size e) (I.ok.cab x c hfn hc)))).trans e1⟩
  ·by_cases hj:j=i
   ·subst hj
    rw [hi] at e1;cases e1
    rw [List.getElem?_set_self hiσ] at e2
    cases e2
    exact ⟨u,r,.inr ⟨.inl hk,c,hc,hc'⟩⟩
   ·rw [List.getElem?_set_ne (Ne.symm hj)] at e2
    obtain ⟨u',r',q⟩:=hl j y v' e1 e2 e3
    refine ⟨u',r',?_⟩
    rcases q with q | ⟨k,c',e,z'⟩
    ·exact .inl q
    ·refine .inr ⟨k,c',e,z'.sameBut hs ?_⟩
     rintro rfl
     exact hj (nodup_ix hN e1 (I.ok.inj _ _ _ e hc ▸ hi))
  ·by_cases hcc:c'=c
   ·subst hcc;exact ⟨_,hc'⟩
   ·obtain ⟨w2,z2⟩:=I.cell y c' e
    exact ⟨w2,z2.sameBut hs hcc⟩
  ·obtain ⟨e,n,ne,nf,d⟩:=I.pin p hp
   refine ⟨(hs.2 p.1 ?_).trans e,n,ne,nf,d⟩
   intro q
   rw [q,hoc] at e
   have q':oc=p.2:=Option.some.inj e
   exact d w' (by rw [← q'];exact hocd)
theorem store_ok {M:Model}{A:Around}{E:Value→Shared→Prop}{i:Nat}{x:Str}{v:V}{u:Value}{Q:Unit→Shared→Prop} (I:Inv X pins σ H s) (hN:X.N.Nodup) (hi:X.N[i]? = some x) (hx:Loc X.env.scope x) (r:RelV v u)
  (h:∀ s',Inv X pins (σ.set i (some v)) H s'→Q () s') (hf:X.fn x=true∨X.env.scope.names.lookup x=some .local:=by first | exact .inl rfl | exact .inr rfl | assumption):wpAny M A (storeName X.env x u) Q E s :=
 store_ok2 I hN hi hx r (fun s' I' _=>h s' I') hf
theorem Inv.call' {s':Shared}{ch:List Addr} (I:Inv X pins σ H s) (ho:s'.os=s.os) (u:Un (frs X.stack) ch H H' s.heap s'.heap) (hok:HOk X.prog X.w H' s'.heap) (hg:AllBare s'.gens)
  (hch:∀ b∈ch,(b∈X.ex∨X.s₀.heap.objs.size≤b)∧b≠X.env.locals∧(∀ x c,X.env.cells.lookup x=some c→c≠b)∧∀ p∈X.pn ++ pins,p.1≠b):Inv X pins σ H' s':=by
 obtain ⟨h',g',d',t',o'⟩:=s'
 have e:o'=s.os:=ho
 subst e
 exact I.call (g':=g') (t':=t') (d':=d') u hok hg hch
end
abbrev XK:=Value→Option Addr→Hp→Prop
abbrev St:=List (Option V)
abbrev VK:=V→Hp→Prop
abbrev TE:=St→Hp→VK→Prop
abbrev TT:=St→Hp→(Bool→Hp→Prop)→Prop
abbrev TA:=St→Hp→(List V→Hp→Prop)→Prop
structure Ends where
 nx:St→Hp→Prop
 rt:VK
 bk:St→Hp→Prop:=fun _ _=>False
 ct:St→Hp→Prop:=fun _ _=>False
abbrev TS:=Ends→St→Hp→Prop
def EP (X:Cx) (pins:List (Addr × Obj)) (σ:St) (Q:VK) (u:Value) (s':Shared):Prop:=∃ v H',Inv X pins σ H' s'∧RelV v u∧Q v H'
def TP (X:Cx) (pins:List (Addr × Obj)) (σ:St) (Q:Bool→Hp→Prop) (b:Bool) (s':Shared):Prop:=∃ H',Inv X pins σ H' s'∧Q b H'
def AP (X:Cx) (pins:List (Addr × Obj)) (σ:St) (Q:List V→Hp→Prop) (us:List Value) (s':Shared):Prop:=∃ vs H',Inv X pins σ H' s'∧Vals vs us∧Q vs H'
def SP (X:Cx) (pins:List (Addr × Obj)) (D:Ends) (f:Flow) (s':Shared):Prop :=
 match f with
 | .next=>∃ σ' H',Inv X pins σ' H' s'∧D.nx σ' H'
 | .brk=>∃ σ' H',Inv X pins σ' H' s'∧D.bk σ' H'
 | .cont=>∃ σ' H',Inv X pins σ' H' s'∧D.ct σ' H'
 | .ret u=>∃ v σ' H',Inv X pins σ' H' s'∧RelV v u∧D.rt v H'
def PE (X:Cx) (e:Expr) (t:TE):Prop :=
 ∀ (pins:List (Addr × Obj)) (s:Shared) (σ:St) (H:Hp) (Q:VK),Inv X pins σ H s→t σ H Q→wpAny (model X.prog X.w) X.A (eval e X.env) (EP X pins σ Q) X.xe s
def PT (X:Cx) (e:Expr) (t:TT):Prop :=
 ∀ (pins:List (Addr × Obj)) (s:Shared) (σ:St) (H:Hp) (Q:Bool→Hp→Prop),Inv X pins σ H s→t σ H Q→wpAny (model X.prog X.w) X.A (isTrue e X.env (eval e X.env)) (TP X pins σ Q) X.xe s
def PW (X:Cx) (e:Expr) (t:TT):Prop :=
 ∀ (whole:Sem Value) (pins:List (Addr × Obj)) (s:Shared) (σ:St) (H:Hp) (Q:Bool→Hp→Prop),Inv X pins σ H s→t σ H Q→wpAny (model X.prog X.w) X.A (isTrue e X.env whole) (TP X pins σ Q) X.xe s
theorem PW.pt {X:Cx}{e:Expr}{t:TT} (h:PW X e t):PT X e t:=h _
def PA (X:Cx) (es:List Expr) (t:TA):Prop :=
 ∀ (pos:Pos) (pins:List (Addr × Obj)) (s:Shared) (σ:St) (H:Hp) (Q:List V→Hp→Prop),Inv X pins σ H s→t σ H Q→wpAny (model X.prog X.w) X.A (spliced (backTo pos (starEach es X.env))) (AP X pins σ Q) X.xe s
def PS (X:Cx) (st:Stmt) (t:TS):Prop :=
 ∀ (pins:List (Addr × Obj)) (s:Shared) (σ:St) (H:Hp) (D:Ends),Inv X pins σ H s→t D σ H→wpAny (model X.prog X.w) X.A (exec st X.env) (SP X pins D) X.xe s
def PSs (X:Cx) (st:List Stmt) (t:TS):Prop :=
 ∀ (pins:List (Addr × Obj)) (s:Shared) (σ:St) (H:Hp) (D:Ends),Inv X pins σ H s→t D σ H→wpAny (model X.prog X.w) X.A (execs st X.env) (SP X pins D) X.xe s
theorem thn {α:Type}{t:Sem α}{Q Q':α→Shared→Prop}{M:Model}{A:Around}{E:Value→Shared→Prop}{s:Shared} (h:wpAny M A t Q E s) (hQ:∀ a s,Q a s→Q' a s):wpAny M A t Q' E s:=wpAny_mono h hQ fun _ _ x=>x
section
variable {X:Cx}
theorem bin {a b:Expr}{ta tb:TE} (ha:PE X a ta) (hb:PE X b tb) {pins:List (Addr × Obj)}{s:Shared}{σ:St}{H:Hp}{R:V→V→Hp→Prop} (I:Inv X pins σ H s) (h:ta σ H fun x H1=>tb σ H1 fun y H2=>R x y H2)
  {α:Type}{Q:α→Shared→Prop}{f:Value→Value→Sem α}
  (hf:∀ v u s2 x y H2,Inv X pins σ H2 s2→RelV x v→RelV y u→R x y H2→wpAny (model X.prog X.w) X.A (f v u) Q X.xe s2) :
  wpAny (model X.prog X.w) X.A (eval a X.env) (fun v s₁=>wpAny (model X.prog X.w) X.A (eval b X.env) (fun u s₂=>wpAny (model X.prog X.w) X.A (f v u) Q X.xe s₂) X.xe s₁) X.xe s:=by
 refine thn (ha pins s σ H _ I h) fun v s1 ⟨x,H1,I1,r1,q1⟩=>?_
 refine thn (hb pins s1 σ H1 _ I1 q1) fun u s2 ⟨y,H2,I2,r2,q2⟩=>?_
 exact hf v u s2 x y H2 I2 r1 r2 q2
def tVar (i:Nat):TE:=fun σ H Q=>∃ v,σ[i]? = some (some v)∧Q v H
def tC (v:V):TE:=fun _ H Q=>Q v H
theorem pe_var {i:Nat}{x:Str}{pos:Pos} (hN:X.N[i]? = some x) (hv:Vis X.env.scope x) (hd:(x == ("__debug__" : Str))=false:=by decide) (hcd:(x == ("__classdict__" : Str))=false:=by decide):PE X (.Name x pos) (tVar i):=by
 intro pins s σ H Q I h
 obtain ⟨v,e,h⟩:=h
 obtain ⟨m,hn,hl⟩:=I.loc
 obtain ⟨u,r,l⟩:=hl i x v hN e hv
 have fin:EP X pins σ Q u s:=⟨v,H,I,r,h⟩
 rcases l with ⟨hk,hm⟩ | ⟨hk,c,hc,hcell⟩
 ·exact wpAny_Name (wpAny_loadName_local I.ok.kind hk hn hm fin) hd
 ·rcases hk with hk | hk
  ·exact wpAny_Name (wpAny_loadName_cell I.ok.kind hk hc hcell fin) hd
  ·exact wpAny_Name (wpAny_loadName_free I.ok.kind hk hc hcell fin hcd) hd
theorem pe_int {i j pos}:PE X (.Constant (.int i) j pos) (tC (.int i)):=fun _ _ _ H _ I h=>wpAny_Constant_int ⟨.int i,H,I.tok _,⟨_,rfl⟩,h⟩
theorem pe_bl {b j pos}:PE X (.Constant (.bool b) j pos) (tC (.bl b)):=fun _ _ _ H _ I h=>Constant_bool ⟨.bl b,H,I,rfl,h⟩
theorem pe_non {j pos}:PE X (.Constant .none j pos) (tC .non):=fun _ _ _ H _ I h=>Constant_none ⟨.non,H,I,rfl,h⟩
theorem pe_str {x j pos}:PE X (.Constant (.str x) j pos) (tC (.str x)):=fun _ _ _ H _ I h=>Calls.Constant_str ⟨.str x,H,I.tok _,⟨_,rfl⟩,h⟩
def Gl (X:Cx) (x:Str):Prop:=X.env.kindOf x=some .globalImplicit
theorem ld_glob {E:Value→Shared→Prop}{pins:List (Addr × Obj)}{s:Shared}{σ:St}{H:Hp}{x:Str}{u:Value}{pos:Pos}{Q:Value→Shared→Prop} (I:Inv X pins σ H s) (hg:Gl X x) (hm:X.mg x=some u) (h:Q u s)
  (hd:(x == ("__debug__" : Str))=false:=by decide):wpAny (model X.prog X.w) X.A (eval (.Name x pos) X.env) Q E s :=
 Calls.Name_function_global I.ok.kind hg (Calls.loadGlobal_global (by rw [I.ok.glob];exact I.mod.glob.keeps I.bk) hm h) hd
theorem ld_blt {E:Value→Shared→Prop}{pins:List (Addr × Obj)}{s:Shared}{σ:St}{H:Hp}{x:Str}{u:Value}{pos:Pos}{Q:Value→Shared→Prop} (I:Inv X pins σ H s) (hg:Gl X x) (hm:X.mg x=none) (hv:bootBuiltins x=some u) (h:Q u s)
  (hn:x ≠ "__name__":=by decide) (hd:(x == ("__debug__" : Str))=false:=by decide):wpAny (model X.prog X.w) X.A (eval (.Name x pos) X.env) Q E s:=by
 obtain ⟨mb,h1,h2⟩:=I.mod.blt
 exact Calls.Name_function_global I.ok.kind hg (Calls.loadGlobal_builtin (by rw [I.ok.glob];exact I.mod.glob.keeps I.bk) hm (by rw [I.ok.blt];exact h1.keeps I.bk) ((h2 x hn).trans hv) h) hd
theorem pe_glob {x:Str}{v:V}{u:Value}{pos:Pos} (hg:Gl X x) (hm:X.mg x=some u) (r:RelV v u) (hd:(x == ("__debug__" : Str))=false:=by decide):PE X (.Name x pos) (tC v) :=
 fun _ _ _ H _ I h=>ld_glob I hg hm ⟨v,H,I,r,h⟩ hd
theorem pe_bltn {x:Str}{v:V}{u:Value}{pos:Pos} (hg:Gl X x) (hm:X.mg x=none) (hv:bootBuiltins x=some u) (r:RelV v u) (hn:x ≠ "__name__":=by decide) (hd:(x == ("__debug__" : Str))=false:=by decide):PE X (.Name x pos) (tC v) :=
 fun _ _ _ H _ I h=>ld_blt I hg hm hv ⟨v,H,I,r,h⟩ hn hd
variable {a b:Expr}{ta tb:TE}{pos:Pos}
def PC (X:Cx) (op:CmpOp) (a b:Expr) (t:TE):Prop :=
 ∀ (pins:List (Addr × Obj)) (s:Shared) (σ:St) (H:Hp) (Q:VK),Inv X pins σ H s→t σ H Q →
  wpAny (model X.prog X.w) X.A (eval a X.env) (fun v s₁=>wpAny (model X.prog X.w) X.A (eval b X.env) (fun u s₂=>wpAny (model X.prog X.w) X.A (compareOp op v u) (EP X pins σ Q) X.xe s₂) X.xe s₁) X.xe s
theorem nobehind (b:Expr) {op:CmpOp} (h:op≠.In) (h2:op≠.NotIn):behindInMarks op b=false:=by
 have e1:(op == CmpOp.In)=false:=by cases op <;> first | rfl | exact absurd rfl h
 have e2:(op == CmpOp.NotIn)=false:=by cases op <;> first | rfl | exact absurd rfl h2
 cases b <;> simp [behindInMarks,e1,e2]
def tB (t:TE):TT:=fun σ H Q=>t σ H fun x H1=>∃ c,x=.bl c∧Q c H1
theorem pt_cmp {op:CmpOp}{t:TE} (h:PC X op a b t) (h1:behindInMarks op b=false:=by first | exact nobehind _ (by decide) (by decide) | rfl):PT X (.Compare a [op] [b] pos) (tB t):=by
 intro pins s σ H Q I hw
 refine wpAny_isTrue_Compare1 (thn (h pins s σ H _ I hw) fun v s1 h1=>thn h1 fun u s2 h2=>thn h2 fun c s3 ⟨x,H1,I1,r1,q1⟩=>?_) h1
 obtain ⟨d,rfl,q⟩:=q1
 cases r1
 exact wpAny_truthy_bool ⟨H1,I1,q⟩
variable {tA tB':TT}{rest:List Expr}
def tAnd (t u:TT):TT:=fun σ H Q=>t σ H fun c H1=>if c=true then u σ H1 Q else Q false H1
def tOr (t u:TT):TT:=fun σ H Q=>t σ H fun c H1=>if c=true then Q true H1 else u σ H1 Q
def tNot (t:TT):TT:=fun σ H Q=>t σ H fun c H1=>Q (!c) H1
theorem pw_and1 (ha:PT X a tA):PW X (.BoolOp .And [a] pos) tA:=by
 intro wh pins s σ H Q I h
 refine isTrue_and (thn (ha pins s σ H Q I h) fun c s1 e=>?_)
 cases c with
 | true=>exact isTrue_and_nil e
 | false=>exact e
theorem pw_or1 (ha:PT X a tA):PW X (.BoolOp .Or [a] pos) tA:=by
 intro wh pins s σ H Q I h
 refine isTrue_or (thn (ha pins s σ H Q I h) fun c s1 e=>?_)
 cases c with
 | false=>exact isTrue_or_nil e
 | true=>exact e
theorem pw_and (ha:PT X a tA) (hb:PW X (.BoolOp .And (b :: rest) pos) tB'):PW X (.BoolOp .And (a :: b :: rest) pos) (tAnd tA tB'):=by
 intro wh pins s σ H Q I h
 refine isTrue_and (thn (ha pins s σ H _ I h) fun c s1 ⟨H1,I1,q1⟩=>?_)
 cases c with
 | true=>exact hb wh pins s1 σ H1 Q I1 q1
 | false=>exact ⟨H1,I1,q1⟩
theorem pw_or (ha:PT X a tA) (hb:PW X (.BoolOp .Or (b :: rest) pos) tB'):PW X (.BoolOp .Or (a :: b :: rest) pos) (tOr tA tB'):=by
 intro wh pins s σ H Q I h
 refine isTrue_or (thn (ha pins s σ H _ I h) fun c s1 ⟨H1,I1,q1⟩=>?_)
 cases c with
 | true=>exact ⟨H1,I1,q1⟩
 | false=>exact hb wh pins s1 σ H1 Q I1 q1
theorem pt_not (ha:PT X a tA):PT X (.UnaryOp .Not a pos) (tNot tA):=by
 intro pins s σ H Q I h
 exact isTrue_not (ha pins s σ H (fun c H1=>Q (!c) H1) I h)
def tIf (t:TT) (ta tb:TE):TE:=fun σ H Q=>t σ H fun c H1=>if c=true then ta σ H1 Q else tb σ H1 Q
theorem pe_ifExp {c:Expr} (hc:PT X c tA) (ha:PE X a ta) (hb:PE X b tb):PE X (.IfExp c a b pos) (tIf tA ta tb):=by
 intro pins s σ H Q I h
 refine wpAny_IfExp (thn (hc pins s σ H _ I h) fun d s1 ⟨H1,I1,q1⟩=>?_)
 cases d with
 | true=>exact ha pins s1 σ H1 Q I1 q1
 | false=>exact hb pins s1 σ H1 Q I1 q1
end
def SqL (K:PySem.W.Frag) (H:Hp) (a:Addr) (xs:List V):Prop :=
 Rd H a (.lst xs) ∨
  ∃ (o:Obj) (its:Array Value) (n:Nat),K.lookup a=some o∧o.cls=.type "list" ∧ o.dict=none∧o.data=.seq its n∧its.size≤sizeLine∧Vals xs its.toList
def SqT (K:PySem.W.Frag) (H:Hp) (a:Addr) (xs:List V):Prop :=
 Rd H a (.tup xs) ∨
  ∃ (o:Obj) (its:Array Value) (n:Nat),K.lookup a=some o∧o.cls=.type "tuple" ∧ o.data=.seq its n∧its.size≤sizeLine∧Vals xs its.toList
def absV:Value→Option V
 | .none=>some .non
 | .bool b=>some (.bl b)
 | .int i _=>some (.int i)
 | .str x _=>some (.str x)
 | .bytes b _=>some (.byt b)
 | .float b _=>some (.flt b)
 | .ref a=>some (.ref a)
 | .type n=>some (.ty n)
 | _=>none
theorem RelV.abs {x:V}{u:Value} (r:RelV x u):absV u=some x:=by
 cases x with
 | non=>cases r;rfl
 | bl _=>cases r;rfl
 | int _=>obtain ⟨t,rfl⟩:=r;rfl
 | str _=>obtain ⟨t,rfl⟩:=r;rfl
 | byt _=>obtain ⟨t,rfl⟩:=r;rfl
 | flt _=>obtain ⟨t,rfl⟩:=r;rfl
 | ref _=>cases r;rfl
 | ty _=>cases r;rfl
theorem RelV.inj {x y:V}{u:Value} (r:RelV x u) (q:RelV y u):x=y:=Option.some.inj (r.abs.symm.trans q.abs)
theorem Vals.inj:∀ {xs ys:List V}{us:List Value},Vals xs us→Vals ys us→xs=ys
 | _,_,_,.nil,.nil=>rfl
 | _,_,_,.cons r t,.cons r' t'=>by rw [r.inj r',Vals.inj t t']
section
variable {X:Cx}{pins:List (Addr × Obj)}{σ:St}{H:Hp}{s:Shared}{a:Addr}{xs ys:List V}
theorem SqL.of {K:PySem.W.Frag} (h:H a=some (.lst xs)):SqL K H a xs:=.inl (.inl h)
theorem SqT.of {K:PySem.W.Frag} (h:H a=some (.tup xs)):SqT K H a xs:=.inl (.inl h)
theorem Inv.list (I:Inv X pins σ H s) (h:SqL X.K H a xs):∃ its:List Value,Vals xs its∧PlainL s.heap a its.toArray∧xs.length≤sizeLine:=by
 rcases h with h | ⟨o,its,n,hk,hc,hd,hs,hz,r⟩
 ·obtain ⟨z,its,n,r,e⟩:=h.ok I.hok
  exact ⟨its,r,⟨_,n,e,rfl,rfl,rfl⟩,z⟩
 ·refine ⟨its.toList,r,⟨o,n,I.kIn a o hk,hc,hd,by simpa using hs⟩,?_⟩
  have e:=r.length
  simp only [Array.length_toList] at e
  omega
theorem Inv.tuple (I:Inv X pins σ H s) (h:SqT X.K H a xs):∃ its:List Value,Vals xs its∧IsTup s.heap a its.toArray∧xs.length≤sizeLine:=by
 rcases h with h | ⟨o,its,n,hk,hc,hs,hz,r⟩
 ·obtain ⟨z,its,r,p⟩:=h.ok I.hok
  exact ⟨its,r,p,z⟩
 ·refine ⟨its.toList,r,⟨o,I.kIn a o hk,hc,n,by simpa using hs⟩,?_⟩
  have e:=r.length
  simp only [Array.length_toList] at e
  omega
theorem Inv.list_inj (I:Inv X pins σ H s) (h:SqL X.K H a xs) (h':SqL X.K H a ys):xs=ys:=by
 obtain ⟨its,r,⟨o,n,e,_,_,d⟩,_⟩:=I.list h
 obtain ⟨its',r',⟨o',n',e',_,_,d'⟩,_⟩:=I.list h'
 rw [e] at e';cases e'
 rw [d] at d'
 injection d' with d1 _
 have:its=its':=by simpa using congrArg Array.toList d1
 subst this
 exact r.inj r'
theorem Inv.tuple_inj (I:Inv X pins σ H s) (h:SqT X.K H a xs) (h':SqT X.K H a ys):xs=ys:=by
 obtain ⟨its,r,⟨o,e,_,n,d⟩,_⟩:=I.tuple h
 obtain ⟨its',r',⟨o',e',_,n',d'⟩,_⟩:=I.tuple h'
 rw [e] at e';cases e'
 rw [d] at d'
 injection d' with d1 _
 have:its=its':=by simpa using congrArg Array.toList d1
 subst this
 exact r.inj r'
end
abbrev Cx.wish (X:Cx) (E:Value→Shared→Prop):Cx:={ X with xe:=E }
abbrev Cx.nox (X:Cx):Cx:=X.wish fun _ _=>False
theorem Cx.Ok.wish {X:Cx} (ok:X.Ok) (E:Value→Shared→Prop):(X.wish E).Ok :=
 ⟨ok.mod,ok.kind,ok.glob,ok.blt,ok.above,ok.inj,ok.has,ok.cab,ok.hd,ok.frames,ok.stk,ok.exf,ok.bs,ok.bsz,ok.noex,ok.exfs,ok.funs,ok.frf⟩
theorem Cx.Ok.unwish {X:Cx}{E:Value→Shared→Prop} (ok:(X.wish E).Ok):X.Ok :=
 ⟨ok.mod,ok.kind,ok.glob,ok.blt,ok.above,ok.inj,ok.has,ok.cab,ok.hd,ok.frames,ok.stk,ok.exf,ok.bs,ok.bsz,ok.noex,ok.exfs,ok.funs,ok.frf⟩
section
variable {X:Cx}{pins:List (Addr × Obj)}{σ:St}{H:Hp}{s:Shared}{E:Value→Shared→Prop}
theorem Inv.wish (I:Inv X pins σ H s) (E:Value→Shared→Prop):Inv (X.wish E) pins σ H s:=⟨I.ok.wish E,I.os,I.bare,I.base,I.loc,I.cell,I.free,I.freeC,I.pin,I.hok,I.len⟩
theorem Inv.unwish (I:Inv (X.wish E) pins σ H s):Inv X pins σ H s:=⟨I.ok.unwish,I.os,I.bare,I.base,I.loc,I.cell,I.free,I.freeC,I.pin,I.hok,I.len⟩
theorem SP.unwish {D:Ends}{f:Flow}{s':Shared} (h:SP (X.wish E) pins D f s'):SP X pins D f s':=by
 cases f with
 | next=>obtain ⟨σ',H',I,q⟩:=h;exact ⟨σ',H',I.unwish,q⟩
 | brk=>obtain ⟨σ',H',I,q⟩:=h;exact ⟨σ',H',I.unwish,q⟩
 | cont=>obtain ⟨σ',H',I,q⟩:=h;exact ⟨σ',H',I.unwish,q⟩
 | ret u=>obtain ⟨v,σ',H',I,r,q⟩:=h;exact ⟨v,σ',H',I.unwish,r,q⟩
theorem PSs.nox {st:List Stmt}{t:TS} (h:PSs X.nox st t):PSs X st t:=fun pins s σ H D I hw =>
 wpAny_mono (h pins s σ H D (I.wish _) hw) (fun _ _ q=>q.unwish) fun _ _ z=>False.elim z
end
section
variable {X:Cx}{st:Stmt}{rest:List Stmt}{t u:TS}{e:Expr}{te:TE}{pos:Pos}
def tNext:TS:=fun D σ H=>D.nx σ H
def tSeq (t u:TS):TS:=fun D σ H=>t { D with nx:=u D } σ H
theorem pss_nil:PSs X [] tNext:=fun _ _ σ H _ I h=>wpAny_execs_nil ⟨σ,H,I,h⟩
theorem pss_cons (h1:PS X st t) (h2:PSs X rest u):PSs X (st :: rest) (tSeq t u):=by
 intro pins s σ H D I h
 refine wpAny_execs_cons (thn (h1 pins s σ H { D with nx:=u D } I h) fun f s1 q=>?_)
 cases f with
 | next =>
  obtain ⟨σ',H',I',q⟩:=q
  exact h2 pins s1 σ' H' D I' q
 | ret v=>exact q
 | brk=>exact q
 | cont=>exact q
theorem pss_one (h1:PS X st t):PSs X [st] t:=by
 intro pins s σ H D I h
 refine wpAny_execs_cons (thn (h1 pins s σ H D I h) fun f s1 q=>?_)
 cases f with
 | next=>exact wpAny_execs_nil q
 | ret v=>exact q
 | brk=>exact q
 | cont=>exact q
theorem Inv.quiet {pins:List (Addr × Obj)}{σ:St}{H:Hp}{s:Shared} (I:Inv X pins σ H s):interactive X.env=false:=by simp [interactive,I.ok.kind]
def tDrop (te:TE):TS:=fun D σ H=>te σ H fun _ H1=>D.nx σ H1
theorem ps_expr (he:PE X e te) (hs:swapsWith e none pos.line X.env=pure false:=by rfl):PS X (.Expr e pos) (tDrop te):=by
 intro pins s σ H D I h
 exact wpAny_Expr_any (thn (he pins s σ H _ I h) fun v s1 ⟨x,H1,I1,r1,q1⟩=>⟨σ,H1,I1,q1⟩) I.quiet hs
def tRet (te:TE):TS:=fun D σ H=>te σ H D.rt
theorem ps_ret (he:PE X e te):PS X (.Return (some e) pos) (tRet te):=by
 intro pins s σ H D I h
 exact wpAny_Return_some (thn (he pins s σ H _ I h) fun v s1 ⟨x,H1,I1,r1,q1⟩=>⟨x,σ,H1,I1,r1,q1⟩)
def tIfS (c:TT) (t u:TS):TS:=fun D σ H=>c σ H fun b H1=>if b=true then t D σ H1 else u D σ H1
theorem ps_if {c:Expr}{a b:List Stmt}{tc:TT} (hc:PT X c tc) (ha:PSs X a t) (hb:PSs X b u):PS X (.If c a b pos) (tIfS tc t u):=by
 intro pins s σ H D I h
 refine wpAny_If (thn (hc pins s σ H _ I h) fun d s1 ⟨H1,I1,q1⟩=>?_)
 cases d with
 | true=>exact ha pins s1 σ H1 D I1 q1
 | false=>exact hb pins s1 σ H1 D I1 q1
end
abbrev TG:=V→St→Hp→(St→Hp→Prop)→Prop
abbrev TGs:=List V→St→Hp→(St→Hp→Prop)→Prop
def PG (X:Cx) (target:Expr) (t:TG):Prop :=
 ∀ (pins:List (Addr × Obj)) (s:Shared) (σ:St) (H:Hp) (v:V) (u:Value) (Q:St→Hp→Prop),Inv X pins σ H s→RelV v u→t v σ H Q →
  wpAny (model X.prog X.w) X.A (assign target X.env u) (fun _ s'=>∃ σ' H',Inv X pins σ' H' s'∧Q σ' H') X.xe s
def PGs (X:Cx) (ts:List Expr) (t:TGs):Prop :=
 ∀ (pins:List (Addr × Obj)) (s:Shared) (σ:St) (H:Hp) (vs:List V) (us:List Value) (Q:St→Hp→Prop),Inv X pins σ H s→Vals vs us→t vs σ H Q →
  wpAny (model X.prog X.w) X.A (assignInOrder ((assignEach ts X.env).map (·.2)) us) (fun _ s'=>∃ σ' H',Inv X pins σ' H' s'∧Q σ' H') X.xe s
abbrev TSet:=V→V→V→Hp→(Hp→Prop)→Prop
def PSet (X:Cx) (t:TSet):Prop :=
 ∀ (pins:List (Addr × Obj)) (s:Shared) (σ:St) (H:Hp) (o i v:V) (ov iv u:Value) (Q:Hp→Prop),Inv X pins σ H s→RelV o ov→RelV i iv→RelV v u→t o i v H Q →
  wpAny (model X.prog X.w) X.A (setItem ov iv u) (fun _ s'=>∃ H',Inv X pins σ H' s'∧Q H') X.xe s
abbrev TIp:=V→V→Hp→VK→Prop
def PIp (X:Cx) (op:Operator) (t:TIp):Prop :=
 ∀ (pins:List (Addr × Obj)) (s:Shared) (σ:St) (H:Hp) (x y:V) (v u:Value) (Q:VK),Inv X pins σ H s→RelV x v→RelV y u→t x y H Q →
  wpAny (model X.prog X.w) X.A (inplaceOp op v u) (EP X pins σ Q) X.xe s
section
variable {X:Cx}{pos:Pos}
def gName (i:Nat):TG:=fun v σ H Q=>Q (σ.set i (some v)) H
theorem pg_name {i:Nat}{x:Str} (hN:X.N.Nodup) (hi:X.N[i]? = some x) (hx:Loc X.env.scope x) (hf:X.fn x=true∨X.env.scope.names.lookup x=some .local:=by first | exact .inl rfl | exact .inr rfl | assumption):PG X (.Name x pos) (gName i):=by
 intro pins s σ H v u Q I r h
 exact wpAny_assign_Name (store_ok I hN hi hx r (fun s' I'=>⟨_,H,I',h⟩) hf)
def gNil:TGs:=fun vs σ H Q=>vs=[]∧Q σ H
def gCons (t:TG) (u:TGs):TGs:=fun vs σ H Q=>∃ v r,vs=v :: r∧t v σ H fun σ' H'=>u r σ' H' Q
theorem pgs_nil:PGs X [] gNil:=by
 intro pins s σ H vs us Q I r h
 obtain ⟨e,h⟩:=h
 subst e
 cases r
 exact assignInOrder_nil ⟨σ,H,I,h⟩
theorem pgs_cons {e:Expr}{es:List Expr}{t:TG}{u:TGs} (h1:PG X e t) (h2:PGs X es u)
  (hs:(assignEach (e :: es) X.env).map (·.2)=assign e X.env :: (assignEach es X.env).map (·.2):=by rfl):PGs X (e :: es) (gCons t u):=by
 intro pins s σ H vs us Q I r h
 obtain ⟨v,vr,e1,h⟩:=h
 subst e1
 cases r with
 | cons r rr =>
  rw [hs]
  refine assignInOrder_cons (thn (h1 pins s σ H _ _ _ I r h) fun _ s1 ⟨σ1,H1,I1,q1⟩=>?_)
  exact h2 pins s1 σ1 H1 _ _ Q I1 rr q1
def gTup (K:PySem.W.Frag) (n:Nat) (t:TGs):TG:=fun v σ H Q=>∃ a xs,v=.ref a∧SqT K H a xs∧xs.length=n∧t xs σ H Q
theorem pg_tup {es:List Expr}{k:Nat}{t:TGs}{n:Nat} (hc:X.calm=true) (h:PGs X es t)
  (hn:(assignEach es X.env).length=n:=by rfl) (hst:(assignEach es X.env).findIdx? (·.1)=none:=by rfl):PG X (.Tuple es k pos) (gTup X.K n t):=by
 intro pins s σ H v u Q I r hw
 obtain ⟨a,xs,e1,hq,hl,hw⟩:=hw
 subst e1
 cases r
 obtain ⟨its,rv,ht,hz⟩:=I.tuple hq
 refine assign_Tuple_tuple (I.ok.hd hc) ht (by simp [hn,← hl,rv.length]) hst fun h' hx=>?_
 have I1:Inv X pins σ H { s with heap:=h' }:=I.kept (t':=s.toks) fun b o e=>hx b o (Nat.ne_of_lt (Heap.lt_size e)) e
 exact h pins _ σ H xs _ Q I1 (by simpa using rv) hw
def gSub (to ti:TE) (t:TSet):TG:=fun v σ H Q=>to σ H fun o H1=>ti σ H1 fun i H2=>t o i v H2 fun H3=>Q σ H3
theorem pg_sub {o i:Expr}{to ti:TE}{t:TSet} (ho:PE X o to) (hi:PE X i ti) (hs:PSet X t)
  (ha:∀ v,assign (.Subscript o i pos) X.env v=(do
   let ov ← holding [v] (eval o X.env)
   let iv ← holding [v,ov] (eval i X.env)
   standAt pos
   holding [v,ov,iv] (setItem ov iv v)
   release [v,ov,iv] []):=by intro _;rfl):PG X (.Subscript o i pos) (gSub to ti t):=by
 intro pins s σ H v u Q I r h
 rw [ha]
 refine wpAny_bind (wpAny_holding (thn (ho pins s σ H _ I h) fun ov s1 ⟨x,H1,I1,r1,q1⟩=>?_))
 refine wpAny_bind (wpAny_holding (thn (hi pins s1 σ H1 _ I1 q1) fun iv s2 ⟨y,H2,I2,r2,q2⟩=>?_))
 refine wpAny_bind (wpAny_standAt (wpAny_bind (wpAny_holding (thn (hs pins s2 σ H2 x y v ov iv u _ I2 r1 r2 r q2) fun _ s3 ⟨H3,I3,q3⟩=>?_))))
 exact wpAny_release ⟨σ,H3,I3,q3⟩
def tAsg (te:TE) (g:TG):TS:=fun D σ H=>te σ H fun x H1=>g x σ H1 D.nx
theorem ps_asg {tg e:Expr}{te:TE}{g:TG} (he:PE X e te) (hg:PG X tg g) (hs:swapsWithSole [tg] e pos.line X.env=pure false:=by rfl) (hw:swappedStores [tg] e X.env=pure none:=by rfl)
  (h1:(assignEach [tg] X.env).map (·.2)=[assign tg X.env]:=by rfl):PS X (.Assign [tg] e pos) (tAsg te g):=by
 intro pins s σ H D I h
 refine wpAny_Assign_stores (thn (he pins s σ H _ I h) fun v s1 ⟨x,H1,I1,r1,q1⟩=>?_) hs hw
 rw [h1]
 exact thn (hg pins s1 σ H1 x v _ I1 r1 q1) fun _ s2 q=>q
theorem ps_set {i:Nat}{x:Str}{e:Expr}{te:TE}{pos':Pos} (hN:X.N.Nodup) (hi:X.N[i]? = some x) (hx:Loc X.env.scope x) (he:PE X e te) (hs:swapsWith e (some (.Name x pos')) pos.line X.env=pure false:=by rfl) (hf:X.fn x=true∨X.env.scope.names.lookup x=some .local:=by first | exact .inl rfl | exact .inr rfl | assumption) :
  PS X (.Assign [.Name x pos'] e pos) (tAsg te (gName i)):=by
 intro pins s σ H D I h
 refine wpAny_Assign_Name (thn (he pins s σ H _ I h) fun v s1 ⟨y,H1,I1,r1,q1⟩=>?_) hs
 exact store_ok I1 hN hi hx r1 (fun s2 I2=>⟨_,H1,I2,q1⟩) hf
end
section
variable {X:Cx}{pos:Pos}
end
structure It where
 go:Nat→Hp→Prop
 yld:Nat→Hp→V→Hp→Prop
 stop:Nat→Hp→Prop
def FpOk (X:Cx) (pins:List (Addr × Obj)) (H:Hp) (b:Addr):Prop :=
 H b=none∧b≠X.env.locals∧b ∉ X.fs∧(b∈X.ex∨X.s₀.heap.objs.size≤b)∧(∀ x c,X.env.cells.lookup x=some c→c≠b)∧∀ p∈X.pn ++ pins,p.1≠b
theorem Inv.fpOk {X:Cx}{pins:List (Addr × Obj)}{σ:St}{H H':Hp}{s:Shared}{b:Addr} (I:Inv X pins σ H s) (hb:s.heap.objs.size≤b) (hn:H' b=none):FpOk X pins H' b:=by
 refine ⟨hn,Nat.ne_of_gt (Nat.lt_of_lt_of_le I.lt hb),I.nofs hb,.inr (Nat.le_trans I.sz hb),fun x c e z=>?_,fun p hp z=>?_⟩
 ·obtain ⟨v,q⟩:=I.cell x c e
  exact absurd (Nat.lt_of_lt_of_le q.lt (by rw [z];exact hb)) (Nat.lt_irrefl _)
 ·exact absurd (Nat.lt_of_lt_of_le (Heap.lt_size (I.pin p hp).1) (by rw [z];exact hb)) (Nat.lt_irrefl _)
structure Turn (P:Program) (w:World) (K:PySem.W.Frag) (tg:Expr) (J:It) (fp:List Addr) (it:Addr) (tn:Nat→Heap→Prop):Prop where
 mem:it∈fp
 obj:∀ i h,tn i h→∀ b∈fp,∃ o,h.get? b=some o∧∀ v,o.data≠.cell v
 keep:∀ i h h',tn i h→(∀ b∈fp,∀ o,h.get? b=some o→h'.get? b=some o)→tn i h'
 item:∀ (X:Cx),X.prog=P→X.w=w→X.K=K→X.calm=true→∀ (i:Nat) (pins:List (Addr × Obj)) (s:Shared) (σ:St) (H:Hp) (E:Value→Shared→Prop),Inv X pins σ H s→(∀ b∈fp,FpOk X pins H b)→tn i s.heap→J.go i H →
  wpAny (model P w) X.A (pyNext (.ref it)) (fun r s1=>∃ u,r=some u ∧
   wpAny (model P w) X.A (letOwnedTupleGo tg (.ref it) u) (fun _ s2=>∃ x H',Inv X pins σ H' s2∧RelV x u∧J.yld i H x H'∧tn (i+1) s2.heap∧∀ b∈fp,H' b=none) E s1) E s
 done:∀ (X:Cx),X.prog=P→X.w=w→X.K=K→X.calm=true→∀ (i:Nat) (pins:List (Addr × Obj)) (s:Shared) (σ:St) (H:Hp) (E:Value→Shared→Prop),Inv X pins σ H s→(∀ b∈fp,FpOk X pins H b)→tn i s.heap→J.stop i H →
  wpAny (model P w) X.A (pyNext (.ref it)) (fun r s1=>r=none∧Inv X pins σ H s1) E s
 self:∀ (A:Around) (i:Nat) (s:Shared) (Q:Value→Shared→Prop) (E:Value→Shared→Prop),tn i s.heap→Q (.ref it) s→wpAny (model P w) A (pyIter (.ref it)) Q E s
abbrev TI:=St→Hp→(It→Hp→Prop)→Prop
def PIE (X:Cx) (pins:List (Addr × Obj)) (σ:St) (tg:Expr) (R:It→Hp→Prop) (itv:Value) (s2:Shared):Prop :=
 ∃ (it:Addr) (fp:List Addr) (tn:Nat→Heap→Prop) (J:It) (H':Hp),itv=.ref it∧Inv X pins σ H' s2∧Turn X.prog X.w X.K tg J fp it tn∧tn 0 s2.heap∧(∀ b∈fp,FpOk X pins H' b)∧R J H'
def PI (X:Cx) (tg iter:Expr) (wi:TI):Prop :=
 ∀ (pins:List (Addr × Obj)) (s:Shared) (σ:St) (H:Hp) (R:It→Hp→Prop),Inv X pins σ H s→wi σ H R →
  wpAny (model X.prog X.w) X.A (eval iter X.env) (fun v s1=>wpAny (model X.prog X.w) X.A (pyIter v) (PIE X pins σ tg R) X.xe s1) X.xe s
theorem go_of {M:Model}{A:Around}{E:Value→Shared→Prop}{s:Shared}{tg:Expr}{it:Addr}{u:Value}{o:Obj}{n:String}{vs:Array Value}{Q:Unit→Shared→Prop} (ho:s.heap.get? it=some o) (hc:o.cls=.type n) (hd:o.data=.fields vs)
    (hn:["enumerate","zip","dict_itemiterator","dict_reverseitemiterator","odict_iterator","itertools.zip_longest","itertools.pairwise"].contains n=false) (hQ:Q () s):wpAny M A (letOwnedTupleGo tg (.ref it) u) Q E s:=by
  unfold letOwnedTupleGo
  cases tg <;> first
    | exact wpAny_pure hQ
    | (cases u <;> first
        | exact wpAny_pure hQ
        | (refine wpAny_bind (wpAny_load ho ?_)
           rw [hc,hd]
           show wpAny M A (if (["enumerate","zip","dict_itemiterator","dict_reverseitemiterator","odict_iterator","itertools.zip_longest","itertools.pairwise"].contains n && vs[0]? == some (rawInt _))=true then _ else _) Q E s
           rw [if_neg (by intro h;rw [hn,Bool.false_and] at h;cases h)]
           exact wpAny_pure hQ))
def Itl (K:PySem.W.Frag) (a:Addr):It :=
 ⟨fun i H=>∃ xs x,SqL K H a xs∧xs[i]? = some x,fun i H x H'=>H'=H∧∀ xs,SqL K H a xs→xs[i]? = some x,fun i H=>∃ xs,SqL K H a xs∧xs.length≤i⟩
def Itt (K:PySem.W.Frag) (a:Addr):It :=
 ⟨fun i H=>∃ xs x,SqT K H a xs∧xs[i]? = some x,fun i H x H'=>H'=H∧∀ xs,SqT K H a xs→xs[i]? = some x,fun i H=>∃ xs,SqT K H a xs∧xs.length≤i⟩
def Itr (lo:Int) (n:Nat):It:=⟨fun i _=>i<n,fun i H x H'=>H'=H∧x=.int (lo+i),fun i _=>n≤i⟩
theorem turn_list {P:Program}{w:World}{K:PySem.W.Frag}{tg:Expr} (a it:Addr):Turn P w K tg (Itl K a) [it] it (fun i h=>h.IsListIter it a i) where
 mem:=by simp
 obj:=fun i h st b hb=>by
  have e:b=it:=by simpa using hb
  subst e
  obtain ⟨o,e,c,d⟩:=st
  exact ⟨o,e,fun v z=>by rw [d] at z;cases z⟩
 keep:=fun i h h' st k=>st.at fun o e=>k it (by simp) o e
 item:=by
  intro X hP hw hK hc i pins s σ H E I hf st hg
  subst hP hw hK
  obtain ⟨xs,x,hq,hx⟩:=hg
  obtain ⟨its,rv,p,hz⟩:=I.list hq
  obtain ⟨u,hu,ru⟩:=rv.get hx
  obtain ⟨f0,f1,f2,f3,f4,f5⟩:=hf it (by simp)
  refine wpAny_pyNext_list_item st p.isList (x:=u) (by simpa using hu) fun h' st' sb=>?_
  have I1:Inv X pins σ H { s with heap:=h' }:=I.turned (t':=s.toks) (fun b o hb e=>(sb.2 b hb).trans e) f0 f1 f3 f4 f5
  obtain ⟨o,e,c,d⟩:=id st'
  exact ⟨u,rfl,go_of (s:={ s with heap:=h' }) e c d (by decide) ⟨x,H,I1,ru,⟨rfl,fun ys hy=>by rw [I.list_inj hy hq];exact hx⟩,st',fun b hb=>(hf b hb).1⟩⟩
 done:=by
  intro X hP hw hK hc i pins s σ H E I hf st hg
  subst hP hw hK
  obtain ⟨xs,hq,hx⟩:=hg
  obtain ⟨its,rv,p,hz⟩:=I.list hq
  obtain ⟨f0,f1,f2,f3,f4,f5⟩:=hf it (by simp)
  have hl:=rv.length
  exact wpAny_pyNext_list_end (I.ok.hd hc) st p.isList (by simp;omega) fun h' eb=>⟨rfl,I.turned (t':=s.toks) (fun b o hb e=>eb b o hb e) f0 f1 f3 f4 f5⟩
 self:=fun _ _ _ _ _ st h=>wpAny_pyIter_listiter st h
theorem turn_tuple {P:Program}{w:World}{K:PySem.W.Frag}{tg:Expr} (a it:Addr):Turn P w K tg (Itt K a) [it] it (fun i h=>h.IsTupleIter it a i) where
 mem:=by simp
 obj:=fun i h st b hb=>by
  have e:b=it:=by simpa using hb
  subst e
  obtain ⟨o,e,c,d⟩:=st
  exact ⟨o,e,fun v z=>by rw [d] at z;cases z⟩
 keep:=fun i h h' st k=>st.at fun o e=>k it (by simp) o e
 item:=by
  intro X hP hw hK hc i pins s σ H E I hf st hg
  subst hP hw hK
  obtain ⟨xs,x,hq,hx⟩:=hg
  obtain ⟨its,rv,p,hz⟩:=I.tuple hq
  obtain ⟨u,hu,ru⟩:=rv.get hx
  obtain ⟨f0,f1,f2,f3,f4,f5⟩:=hf it (by simp)
  refine wpAny_pyNext_tuple_item st (show s.heap.IsTuple a its.toArray from p) (x:=u) (by simpa using hu) fun h' st' sb=>?_
  have I1:Inv X pins σ H { s with heap:=h' }:=I.turned (t':=s.toks) (fun b o hb e=>(sb.2 b hb).trans e) f0 f1 f3 f4 f5
  obtain ⟨o,e,c,d⟩:=id st'
  exact ⟨u,rfl,go_of (s:={ s with heap:=h' }) e c d (by decide) ⟨x,H,I1,ru,⟨rfl,fun ys hy=>by rw [I.tuple_inj hy hq];exact hx⟩,st',fun b hb=>(hf b hb).1⟩⟩
 done:=by
  intro X hP hw hK hc i pins s σ H E I hf st hg
  subst hP hw hK
  obtain ⟨xs,hq,hx⟩:=hg
  obtain ⟨its,rv,p,hz⟩:=I.tuple hq
  obtain ⟨f0,f1,f2,f3,f4,f5⟩:=hf it (by simp)
  have hl:=rv.length
  exact wpAny_pyNext_tuple_end (I.ok.hd hc) st (show s.heap.IsTuple a its.toArray from p) (by simp;omega) fun h' eb=>⟨rfl,I.turned (t':=s.toks) (fun b o hb e=>eb b o hb e) f0 f1 f3 f4 f5⟩
 self:=fun _ _ _ _ _ st h=>wpAny_pyIter_tupleiter st h
theorem turn_range {P:Program}{w:World}{K:PySem.W.Frag}{tg:Expr} (it:Addr) (lo:Int) (n:Nat):Turn P w K tg (Itr lo n) [it] it (fun i h=>IsRangeIter h it (lo+(i:Nat) * 1) ((n:Int) - (i:Nat)) 1) where
 mem:=by simp
 obj:=fun i h st b hb=>by
  have e:b=it:=by simpa using hb
  subst e
  exact ⟨_,st,fun v z=>by
   have z':Data.fields _=Data.cell v:=z
   cases z'⟩
 keep:=fun i h h' st k=>k it (by simp) _ st
 item:=by
  intro X hP hw hK hc i pins s σ H E I hf st hg
  subst hP hw hK
  obtain ⟨f0,f1,f2,f3,f4,f5⟩:=hf it (by simp)
  have W:=Walks.range (prog:=X.prog) (w:=X.w) (I.ok.hd hc) it lo 1 n
  refine W.item i s _ _ hg st fun v h' tk hv st' kk=>?_
  obtain ⟨t,rfl⟩:=hv
  have I1:Inv X pins σ H { s with heap:=h',toks:=tk }:=I.turned (fun b o hb e=>kk b o (by simpa using hb) e) f0 f1 f3 f4 f5
  refine ⟨_,rfl,go_of (s:={ s with heap:=h',toks:=tk }) (n:="range_iterator") st' rfl rfl (by decide) ⟨.int (lo+i),H,I1,⟨t,?_⟩,⟨rfl,rfl⟩,st',fun b hb=>(hf b hb).1⟩⟩
  rw [Int.mul_one]
 done:=by
  intro X hP hw hK hc i pins s σ H E I hf st hg
  subst hP hw hK
  obtain ⟨f0,f1,f2,f3,f4,f5⟩:=hf it (by simp)
  exact wpAny_pyNext_range_end (I.ok.hd hc) st (by have:n≤i:=hg;omega) fun h' eb=>⟨rfl,I.turned (t':=s.toks) (fun b o hb e=>eb b o hb e) f0 f1 f3 f4 f5⟩
 self:=fun _ _ _ _ _ st h=>wpAny_pyIter_rangeiter st h
section
variable {X:Cx}{tg:Expr}
def iList (K:PySem.W.Frag) (tl:TE):TI:=fun σ H R=>tl σ H fun x H1=>∃ a,x=.ref a∧(∃ xs,SqL K H1 a xs)∧R (Itl K a) H1
def iTup (K:PySem.W.Frag) (tl:TE):TI:=fun σ H R=>tl σ H fun x H1=>∃ a,x=.ref a∧(∃ xs,SqT K H1 a xs)∧R (Itt K a) H1
theorem pi_list {l:Expr}{tl:TE} (hl:PE X l tl):PI X tg l (iList X.K tl):=by
 intro pins s σ H R I h
 refine thn (hl pins s σ H _ I h) fun v s1 ⟨x,H1,I1,r1,q1⟩=>?_
 obtain ⟨a,e,⟨xs,hq⟩,q⟩:=q1
 subst e
 cases r1
 obtain ⟨its,rv,p,hz⟩:=I1.list hq
 refine wpAny_pyIter_list p.isList ?_
 refine ⟨s1.heap.objs.size,[s1.heap.objs.size],_,_,H1,rfl,I1.kept (t':=s1.toks) fun b o e=>Heap.get?_push_of_some _ e,turn_list a _,⟨_,Heap.get?_push_size _ rfl,rfl,rfl⟩,fun b hb=>?_,q⟩
 have e:b=s1.heap.objs.size:=by simpa using hb
 subst e
 exact I1.fpOk (Nat.le_refl _) (I1.hok.fresh (Nat.le_refl _))
theorem pi_tup {l:Expr}{tl:TE} (hl:PE X l tl):PI X tg l (iTup X.K tl):=by
 intro pins s σ H R I h
 refine thn (hl pins s σ H _ I h) fun v s1 ⟨x,H1,I1,r1,q1⟩=>?_
 obtain ⟨a,e,⟨xs,hq⟩,q⟩:=q1
 subst e
 cases r1
 obtain ⟨its,rv,p,hz⟩:=I1.tuple hq
 refine wpAny_pyIter_tuple (show s1.heap.IsTuple a its.toArray from p) ?_
 refine ⟨s1.heap.objs.size,[s1.heap.objs.size],_,_,H1,rfl,I1.kept (t':=s1.toks) fun b o e=>Heap.get?_push_of_some _ e,turn_tuple a _,⟨_,Heap.get?_push_size _ rfl,rfl,rfl⟩,fun b hb=>?_,q⟩
 have e:b=s1.heap.objs.size:=by simpa using hb
 subst e
 exact I1.fpOk (Nat.le_refl _) (I1.hok.fresh (Nat.le_refl _))
theorem range_it {pins:List (Addr × Obj)}{σ:St}{H:Hp}{s:Shared}{R:It→Hp→Prop}{E:Value→Shared→Prop}{lo hi:Int}{t u v:Tok}{tk:Nat} (I:Inv X pins σ H s) (h1 : -(2 ^ 62)≤lo) (h2:lo<2 ^ 62) (h3 : -(2 ^ 62)≤hi) (h4:hi<2 ^ 62)
  (q:R (Itr lo (hi - lo).toNat) H):wpAny (model X.prog X.w) X.A (pyIter (.ref s.heap.objs.size)) (PIE X pins σ tg R) E { s with heap:=s.heap.push { cls:=.type "range",data:=.fields #[.int lo t,.int hi u,.int 1 v] },toks:=tk }:=by
 refine wpAny_pyIter_range (IsRange.new ..) (small_one h1 h2 h3 h4) ?_
 have I1:Inv X pins σ H { s with heap:=s.heap.push { cls:=.type "range",data:=.fields #[.int lo t,.int hi u,.int 1 v] },toks:=tk }:=I.kept fun b o e=>Heap.get?_push_of_some _ e
 refine ⟨(s.heap.push { cls:=.type "range",data:=.fields #[.int lo t,.int hi u,.int 1 v] }).objs.size,[(s.heap.push { cls:=.type "range",data:=.fields #[.int lo t,.int hi u,.int 1 v] }).objs.size],_,_,H,rfl,
  I1.kept (t':=tk) fun b o e=>Heap.get?_push_of_some _ e,turn_range _ lo (hi - lo).toNat,?_,fun b hb=>?_,q⟩
 ·have e1:lo+((0:Nat):Int) * 1=lo:=by simp
  have e2:(((hi - lo).toNat:Nat):Int) - ((0:Nat):Int)=Builtin.Range.rangeSize lo hi 1:=by rw [rangeSize_one];split <;> omega
  show IsRangeIter _ _ (lo+((0:Nat):Int) * 1) ((((hi - lo).toNat:Nat):Int) - ((0:Nat):Int)) 1
  rw [e1,e2]
  exact Heap.get?_push_size _ rfl
 ·have e:b=(s.heap.push { cls:=.type "range",data:=.fields #[.int lo t,.int hi u,.int 1 v] }).objs.size:=by simpa using hb
  subst e
  exact I1.fpOk (Nat.le_refl _) (I1.hok.fresh (Nat.le_refl _))
def iRng1 (ta:TA):TI:=fun σ H R=>ta σ H fun vs H1=>∃ j:Int,vs=[.int j] ∧ -(2 ^ 62)≤j∧j<2 ^ 62∧R (Itr 0 j.toNat) H1
def iRng2 (ta:TA):TI:=fun σ H R=>ta σ H fun vs H1=>∃ i j:Int,vs=[.int i,.int j]∧(-(2 ^ 62)≤i∧i<2 ^ 62 ∧ -(2 ^ 62)≤j∧j<2 ^ 62)∧R (Itr i (j - i).toNat) H1
theorem pi_range1 {a:Expr}{ta:TA}{p pos:Pos} (hg:Gl X "range") (hm:X.mg "range" = none) (ha:PA X [a] ta) (hs:starEach [a] X.env=[(false,eval a X.env)]:=by rfl):PI X tg (.Call (.Name "range" p) [a] [] pos) (iRng1 ta):=by
 intro pins s σ H R I h
 refine Call_ (ld_blt I hg hm boot_range (PyProof.Rows.callWith_type1 (thn (ha pos pins s σ H _ I h) fun us s1 ⟨vs,H1,I1,r1,q1⟩=>?_) hs rfl))
 obtain ⟨j,e,q1,q2,q⟩:=q1
 subst e
 cases r1 with
 | cons r rr =>
  cases rr
  obtain ⟨t,rfl⟩:=r
  exact call_range_1 (range_it I1 (by omega) (by omega) q1 q2 (by simpa using q))
theorem pi_range2 {a b:Expr}{ta:TA}{p pos:Pos} (hg:Gl X "range") (hm:X.mg "range" = none) (ha:PA X [a,b] ta) (hs:starEach [a,b] X.env=[(false,eval a X.env),(false,eval b X.env)]:=by rfl) (hs2:starEach [b] X.env=[(false,eval b X.env)]:=by rfl) :
  PI X tg (.Call (.Name "range" p) [a,b] [] pos) (iRng2 ta):=by
 intro pins s σ H R I h
 refine Call_ (ld_blt I hg hm boot_range (PyProof.Rows.callWith_type1 (thn (ha pos pins s σ H _ I h) fun us s1 ⟨vs,H1,I1,r1,q1⟩=>?_) (by rw [hs,hs2]) (by rw [hs2];rfl)))
 obtain ⟨i,j,e,⟨q1,q2,q3,q4⟩,q⟩:=q1
 subst e
 cases r1 with
 | cons r rr =>
  cases rr with
  | cons r' rr =>
   cases rr
   obtain ⟨t,rfl⟩:=r
   obtain ⟨t',rfl⟩:=r'
   exact call_range_2 (range_it I1 q1 q2 q3 q4 q)
def tFor (wi:TI) (g:TG) (tb:TS):TS:=fun D σ H=>wi σ H fun J H1=>∃ W:Nat→Nat→St→Hp→Prop,(∃ m,W 0 m σ H1)∧∀ i m σ H,W i m σ H →
 (J.stop i H∧D.nx σ H)∨(J.go i H∧∃ N:St→Hp→Prop,(∀ σ' H',N σ' H'→∃ m',m'<m∧W (i+1) m' σ' H')∧∀ x H',J.yld i H x H'→g x σ H' fun σ2 H2=>tb { D with nx:=N,ct:=N,bk:=D.nx } σ2 H2)
def pinsAt (fp:List Addr) (h:Heap):List (Addr × Obj):=fp.filterMap fun b=>(h.get? b).map fun o=>(b,o)
theorem mem_pinsAt {fp:List Addr}{h:Heap}{b:Addr}{o:Obj} (hb:b∈fp) (e:h.get? b=some o):(b,o)∈pinsAt fp h:=List.mem_filterMap.mpr ⟨b,hb,by rw [e];rfl⟩
theorem of_pinsAt {fp:List Addr}{h:Heap}{p:Addr × Obj} (hp:p∈pinsAt fp h):p.1∈fp∧h.get? p.1=some p.2:=by
 obtain ⟨b,hb,e⟩:=List.mem_filterMap.mp hp
 cases q:h.get? b with
 | none=>rw [q] at e;cases e
 | some o =>
  rw [q] at e
  have e':(b,o)=p:=Option.some.inj e
  subst e'
  exact ⟨hb,q⟩
theorem Inv.pinned {pins:List (Addr × Obj)}{σ:St}{H:Hp}{s:Shared}{fp:List Addr} (I:Inv X pins σ H s) (hf:∀ b∈fp,FpOk X pins H b) (ho:∀ b∈fp,∃ o,s.heap.get? b=some o∧∀ v,o.data≠.cell v):Inv X (pins ++ pinsAt fp s.heap) σ H s :=
 I.pins_of fun p hp=>(List.mem_append.mp hp).elim (fun z=>I.pin p (List.mem_append_right _ z)) fun z=>by
  obtain ⟨hb,e⟩:=of_pinsAt z
  obtain ⟨f0,f1,f2,_⟩:=hf p.1 hb
  obtain ⟨o,e',d⟩:=ho p.1 hb
  rw [e] at e';cases e'
  exact ⟨e,f0,f1,f2,d⟩
theorem Inv.unpinned {pins pl:List (Addr × Obj)}{σ:St}{H:Hp}{s:Shared} (I:Inv X (pins ++ pl) σ H s):Inv X pins σ H s:=I.pins_of fun p hp=>I.pin p (List.mem_append_right _ (List.mem_append_left _ hp))
theorem ps_for {iter:Expr}{body:List Stmt}{wi:TI}{g:TG}{tb:TS}{pos:Pos} (hp:PassesOwn (model X.prog X.w) X.A X.env X.xe) (hc:X.calm=true) (hi:PI X tg iter wi) (hg:PG X tg g) (hb:PSs X body tb)
  (hs:∀ x,foldedSetIterable iter X.env x=pure x:=by intro _;rfl):PS X (.For tg iter body [] pos) (tFor wi g tb):=by
 intro pins s σ H D I h
 refine wpAny_For (thn (hi pins s σ H _ I h) fun v s1 h1=>thn h1 fun itv s2 h2=>?_) hs
 obtain ⟨it,fp,tn,J,H2,e,I2,T,st2,f2,W,⟨m0,w0⟩,turn⟩:=h2
 subst e
 -- what stays true of the iterator's objects through the loop
 have stat:∀ {H':Hp},(∀ b∈fp,H' b=none)→∀ b∈fp,FpOk X pins H' b:=fun hn b hb=>⟨hn b hb,(f2 b hb).2⟩
 refine codeAny_forLoop_any (fun n s'=>∃ i σ' H',Inv X pins σ' H' s'∧tn i s'.heap∧(∀ b∈fp,H' b=none)∧W i n σ' H') ?_ m0 ⟨0,σ,H2,I2,st2,fun b hb=>(f2 b hb).1,w0⟩
 rintro n s3 ⟨i,σ3,H3,I3,st3,fr3,w3⟩
 rcases turn i n σ3 H3 w3 with ⟨stop,qn⟩ | ⟨go,N,hN,step⟩
 ·refine wpAny_passesOwn hp (thn (T.done X rfl rfl rfl hc i pins s3 σ3 H3 X.xe I3 (stat fr3) st3 stop) fun r s4 ⟨hr,I4⟩=>?_)
  subst hr
  exact wpAny_execs_nil ⟨σ3,H3,I4,qn⟩
 ·refine wpAny_passesOwn hp (thn (T.item X rfl rfl rfl hc i pins s3 σ3 H3 X.xe I3 (stat fr3) st3 go) fun r s4 ⟨u,hr,h4⟩=>?_)
  subst hr
  refine wpAny_passesOwn hp (thn h4 fun _ s5 ⟨x,H5,I5,r5,y5,st5,fr5⟩=>?_)
  have I5':=I5.pinned (stat fr5) (T.obj _ _ st5)
  refine wpAny_passesOwn hp (thn (hg _ s5 σ3 H5 x u _ I5' r5 (step x H5 y5)) fun _ s6 ⟨σ6,H6,I6,q6⟩=>?_)
  refine wpAny_passesOwn hp (thn (hb _ s6 σ6 H6 _ I6 q6) fun f s7 q7=>?_)
  have again:∀ {σ7:St}{H7:Hp},Inv X (pins ++ pinsAt fp s5.heap) σ7 H7 s7→N σ7 H7→∃ m,m<n∧∃ i σ' H',Inv X pins σ' H' s7∧tn i s7.heap∧(∀ b∈fp,H' b=none)∧W i m σ' H':=fun {σ7 H7} I7 n7=>by
   obtain ⟨m',hm,w7⟩:=hN σ7 H7 n7
   refine ⟨m',hm,i+1,σ7,H7,I7.unpinned,T.keep _ _ _ st5 fun b hb o e=>(I7.pin (b,o) (List.mem_append_right _ (List.mem_append_right _ (mem_pinsAt hb e)))).1,fun b hb=>?_,w7⟩
   obtain ⟨o,e,d⟩:=T.obj _ _ st5 b hb
   exact (I7.pin (b,o) (List.mem_append_right _ (List.mem_append_right _ (mem_pinsAt hb e)))).2.1
  cases f with
  | next=>obtain ⟨σ7,H7,I7,n7⟩:=q7;exact again I7 n7
  | cont=>obtain ⟨σ7,H7,I7,n7⟩:=q7;exact again I7 n7
  | brk=>obtain ⟨σ7,H7,I7,q7⟩:=q7;exact ⟨σ7,H7,I7.unpinned,q7⟩
  | ret v=>obtain ⟨x7,σ7,H7,I7,r7,q7⟩:=q7;exact ⟨x7,σ7,H7,I7.unpinned,r7,q7⟩
end
theorem for_list {K:PySem.W.Frag}{a:Addr}{xs:List V}{g:TG}{tb:TS}{D:Ends}{σ:St}{H:Hp} (Pv:Nat→St→Hp→Prop) (h0:Pv 0 σ H) (hl:∀ i σ H,i≤xs.length→Pv i σ H→SqL K H a xs)
  (hs:∀ i x σ H,xs[i]? = some x→Pv i σ H→g x σ H fun σ2 H2=>tb { D with nx:=Pv (i+1),ct:=Pv (i+1),bk:=D.nx } σ2 H2) (hd:∀ σ H,Pv xs.length σ H→D.nx σ H) :
  ∃ W:Nat→Nat→St→Hp→Prop,(∃ m,W 0 m σ H)∧∀ i m σ H,W i m σ H →
   ((Itl K a).stop i H∧D.nx σ H)∨((Itl K a).go i H∧∃ N:St→Hp→Prop,(∀ σ' H',N σ' H'→∃ m',m'<m∧W (i+1) m' σ' H')∧∀ x H',(Itl K a).yld i H x H'→g x σ H' fun σ2 H2=>tb { D with nx:=N,ct:=N,bk:=D.nx } σ2 H2):=by
 refine ⟨fun i m σ H=>m=xs.length - i∧i≤xs.length∧Pv i σ H,⟨xs.length,by simp,Nat.zero_le _,h0⟩,?_⟩
 rintro i m σ H ⟨rfl,hi,p⟩
 have q:=hl i σ H hi p
 by_cases hlt:i<xs.length
 ·refine .inr ⟨⟨xs,xs[i],q,by simp [hlt]⟩,Pv (i+1),fun σ' H' p'=>⟨xs.length - (i+1),by omega,rfl,hlt,p'⟩,fun x H' y=>?_⟩
  obtain ⟨e,y⟩:=y
  subst e
  exact hs i x σ _ (y xs q) p
 ·have e:i=xs.length:=by omega
  subst e
  exact .inl ⟨⟨xs,q,Nat.le_refl _⟩,hd σ H p⟩
theorem for_tup {K:PySem.W.Frag}{a:Addr}{xs:List V}{g:TG}{tb:TS}{D:Ends}{σ:St}{H:Hp} (Pv:Nat→St→Hp→Prop) (h0:Pv 0 σ H) (hl:∀ i σ H,i≤xs.length→Pv i σ H→SqT K H a xs)
  (hs:∀ i x σ H,xs[i]? = some x→Pv i σ H→g x σ H fun σ2 H2=>tb { D with nx:=Pv (i+1),ct:=Pv (i+1),bk:=D.nx } σ2 H2) (hd:∀ σ H,Pv xs.length σ H→D.nx σ H) :
  ∃ W:Nat→Nat→St→Hp→Prop,(∃ m,W 0 m σ H)∧∀ i m σ H,W i m σ H →
   ((Itt K a).stop i H∧D.nx σ H)∨((Itt K a).go i H∧∃ N:St→Hp→Prop,(∀ σ' H',N σ' H'→∃ m',m'<m∧W (i+1) m' σ' H')∧∀ x H',(Itt K a).yld i H x H'→g x σ H' fun σ2 H2=>tb { D with nx:=N,ct:=N,bk:=D.nx } σ2 H2):=by
 refine ⟨fun i m σ H=>m=xs.length - i∧i≤xs.length∧Pv i σ H,⟨xs.length,by simp,Nat.zero_le _,h0⟩,?_⟩
 rintro i m σ H ⟨rfl,hi,p⟩
 have q:=hl i σ H hi p
 by_cases hlt:i<xs.length
 ·refine .inr ⟨⟨xs,xs[i],q,by simp [hlt]⟩,Pv (i+1),fun σ' H' p'=>⟨xs.length - (i+1),by omega,rfl,hlt,p'⟩,fun x H' y=>?_⟩
  obtain ⟨e,y⟩:=y
  subst e
  exact hs i x σ _ (y xs q) p
 ·have e:i=xs.length:=by omega
  subst e
  exact .inl ⟨⟨xs,q,Nat.le_refl _⟩,hd σ H p⟩
theorem for_range {lo:Int}{n:Nat}{g:TG}{tb:TS}{D:Ends}{σ:St}{H:Hp} (Pv:Nat→St→Hp→Prop) (h0:Pv 0 σ H)
  (hs:∀ i σ H,i<n→Pv i σ H→g (.int (lo+i)) σ H fun σ2 H2=>tb { D with nx:=Pv (i+1),ct:=Pv (i+1),bk:=D.nx } σ2 H2) (hd:∀ σ H,Pv n σ H→D.nx σ H) :
  ∃ W:Nat→Nat→St→Hp→Prop,(∃ m,W 0 m σ H)∧∀ i m σ H,W i m σ H →
   ((Itr lo n).stop i H∧D.nx σ H)∨((Itr lo n).go i H∧∃ N:St→Hp→Prop,(∀ σ' H',N σ' H'→∃ m',m'<m∧W (i+1) m' σ' H')∧∀ x H',(Itr lo n).yld i H x H'→g x σ H' fun σ2 H2=>tb { D with nx:=N,ct:=N,bk:=D.nx } σ2 H2):=by
 refine ⟨fun i m σ H=>m=n - i∧i≤n∧Pv i σ H,⟨n,by simp,Nat.zero_le _,h0⟩,?_⟩
 rintro i m σ H ⟨rfl,hi,p⟩
 by_cases hlt:i<n
 ·refine .inr ⟨hlt,Pv (i+1),fun σ' H' p'=>⟨n - (i+1),by omega,rfl,hlt,p'⟩,fun x H' y=>?_⟩
  obtain ⟨e,y⟩:=y
  subst e y
  exact hs i σ _ hlt p
 ·have e:i=n:=by omega
  subst e
  exact .inl ⟨Nat.le_refl _,hd σ H p⟩
abbrev R2:=V→V→Hp→VK→Prop
def OpR (X:Cx) (f:Value→Value→Sem Value) (r:R2):Prop :=
 ∀ (pins:List (Addr × Obj)) (s:Shared) (σ:St) (H:Hp) (x y:V) (v u:Value) (Q:VK),Inv X pins σ H s→RelV x v→RelV y u→r x y H Q →
  wpAny (model X.prog X.w) X.A (f v u) (EP X pins σ Q) X.xe s
def UnR (X:Cx) (f:Value→Sem Value) (r:V→Hp→VK→Prop):Prop :=
 ∀ (pins:List (Addr × Obj)) (s:Shared) (σ:St) (H:Hp) (x:V) (v:Value) (Q:VK),Inv X pins σ H s→RelV x v→r x H Q →
  wpAny (model X.prog X.w) X.A (f v) (EP X pins σ Q) X.xe s
def CallR (X:Cx) (f:Value) (r:List V→Hp→VK→Prop):Prop :=
 ∀ (pins:List (Addr × Obj)) (s:Shared) (σ:St) (H:Hp) (xs:List V) (us:List Value) (Q:VK),Inv X pins σ H s→Vals xs us→r xs H Q →
  wpAny (model X.prog X.w) X.A (call f us) (EP X pins σ Q) X.xe s
def TruR (X:Cx) (r:V→Hp→(Bool→Hp→Prop)→Prop):Prop :=
 ∀ (pins:List (Addr × Obj)) (s:Shared) (σ:St) (H:Hp) (x:V) (v:Value) (Q:Bool→Hp→Prop),Inv X pins σ H s→RelV x v→r x H Q →
  wpAny (model X.prog X.w) X.A (truthy v) (TP X pins σ Q) X.xe s
def tOp (r:R2) (ta tb:TE):TE:=fun σ H Q=>ta σ H fun x H1=>tb σ H1 fun y H2=>r x y H2 Q
def tUn (r:V→Hp→VK→Prop) (ta:TE):TE:=fun σ H Q=>ta σ H fun x H1=>r x H1 Q
def rI (C:Int→Int→Prop) (g:Int→Int→V):R2:=fun x y H Q=>∃ i j,x=.int i∧y=.int j∧C i j∧Q (g i j) H
def rI0 (g:Int→Int→V):R2:=fun x y H Q=>∃ i j,x=.int i∧y=.int j∧Q (g i j) H
def rU (g:Int→V):V→Hp→VK→Prop:=fun x H Q=>∃ i,x=.int i∧Q (g i) H
section
variable {X:Cx}{a b c:Expr}{ta tb tc:TE}{pos:Pos}
theorem binT (ha:PE X a ta) (hb:PE X b tb) {pins:List (Addr × Obj)}{s:Shared}{σ:St}{H:Hp}{R:V→V→Hp→Prop} (I:Inv X pins σ H s)
  (h:ta σ H fun x H1=>tb σ H1 fun y H2=>R x y H2) {Q:Value→Shared→Prop}{f:Value→Value→Sem Value}
  (hf:∀ v u s2 x y H2,Inv X pins σ H2 s2→RelV x v→RelV y u→R x y H2→wpAny (model X.prog X.w) X.A (f v u) Q X.xe s2) :
  wpAny (model X.prog X.w) X.A (eval a X.env) (fun v s₁=>wpAny (model X.prog X.w) X.A (eval b X.env) (fun u s₂=>wpAny (model X.prog X.w) X.A (f v u) Q X.xe s₂) X.xe s₁) X.xe s:=by
 refine thn (ha pins s σ H _ I h) fun v s1 ⟨x,H1,I1,r1,q1⟩=>?_
 refine thn (hb pins s1 σ H1 _ I1 q1) fun u s2 ⟨y,H2,I2,r2,q2⟩=>?_
 exact hf v u s2 x y H2 I2 r1 r2 q2
theorem pe_op {op:Operator}{r:R2} (ho:OpR X (binaryOp op) r) (ha:PE X a ta) (hb:PE X b tb):PE X (.BinOp a op b pos) (tOp r ta tb):=by
 intro pins s σ H Q I h
 exact wpAny_BinOp (binT ha hb I h fun v u s2 x y H2 I2 rx ry q=>ho pins s2 σ H2 x y v u Q I2 rx ry q)
theorem pe_un {op:UnaryOp}{r:V→Hp→VK→Prop} (ho:UnR X (unaryOp op) r) (ha:PE X a ta):PE X (.UnaryOp op a pos) (tUn r ta):=by
 intro pins s σ H Q I h
 exact UnaryOp_ (thn (ha pins s σ H _ I h) fun v s1 ⟨x,H1,I1,r1,q1⟩=>ho pins s1 σ H1 x v Q I1 r1 q1)
theorem opI {f:Value→Value→Sem Value}{C:Int→Int→Prop}{g:Int→Int→Int}
  (rule:∀ (i j:Int) (t u:Tok) (s:Shared) (Q:Value→Shared→Prop) (E:Value→Shared→Prop),C i j→Q (.int (g i j) s.toks) { s with toks:=s.toks+1 }→wpAny (model X.prog X.w) X.A (f (.int i t) (.int j u)) Q E s) :
  OpR X f (rI C fun i j=>.int (g i j)):=by
 intro pins s σ H x y v u Q I rx ry h
 obtain ⟨i,j,rfl,rfl,hc,q⟩:=h
 obtain ⟨t,rfl⟩:=rx
 obtain ⟨t',rfl⟩:=ry
 exact rule i j t t' s _ _ hc ⟨.int (g i j),H,I.tok _,⟨_,rfl⟩,q⟩
theorem opI0 {f:Value→Value→Sem Value}{g:Int→Int→Int}
  (rule:∀ (i j:Int) (t u:Tok) (s:Shared) (Q:Value→Shared→Prop) (E:Value→Shared→Prop),Q (.int (g i j) s.toks) { s with toks:=s.toks+1 }→wpAny (model X.prog X.w) X.A (f (.int i t) (.int j u)) Q E s) :
  OpR X f (rI0 fun i j=>.int (g i j)):=by
 intro pins s σ H x y v u Q I rx ry h
 obtain ⟨i,j,rfl,rfl,q⟩:=h
 obtain ⟨t,rfl⟩:=rx
 obtain ⟨t',rfl⟩:=ry
 exact rule i j t t' s _ _ ⟨.int (g i j),H,I.tok _,⟨_,rfl⟩,q⟩
theorem opB0 {f:Value→Value→Sem Value}{g:Int→Int→Bool}
  (rule:∀ (i j:Int) (t u:Tok) (s:Shared) (Q:Value→Shared→Prop) (E:Value→Shared→Prop),Q (.bool (g i j)) s→wpAny (model X.prog X.w) X.A (f (.int i t) (.int j u)) Q E s) :
  OpR X f (rI0 fun i j=>.bl (g i j)):=by
 intro pins s σ H x y v u Q I rx ry h
 obtain ⟨i,j,rfl,rfl,q⟩:=h
 obtain ⟨t,rfl⟩:=rx
 obtain ⟨t',rfl⟩:=ry
 exact rule i j t t' s _ _ ⟨.bl (g i j),H,I,rfl,q⟩
def CDiv (i j:Int):Prop:=0<j∧j<1073741824
def CPow (i j:Int):Prop:=0≤j∧j≤1000000∧i.natAbs<2 ^ 64
def CMul (i j:Int):Prop:=(-(2 ^ 64)<i∧i<2 ^ 64)∨(-(2 ^ 64)<j∧j<2 ^ 64)
theorem CMul.ok {i j:Int} (h:CMul i j):IntMulOk i j:=by
 rcases h with ⟨h1,h2⟩ | ⟨h1,h2⟩
 ·exact .of_left (intBits_le_64 h1 h2)
 ·exact .of_right (intBits_le_64 h1 h2)
theorem two_pow_nn (k:Nat):(0:Int)≤2 ^ k:=by
 rw [two_pow_cast]
 exact Int.natCast_nonneg _
theorem op_add:OpR X (binaryOp .Add) (rI0 fun i j=>.int (i+j)):=opI0 fun _ _ _ _ _ _ _ q=>add_int q
theorem op_sub:OpR X (binaryOp .Sub) (rI0 fun i j=>.int (i - j)):=opI0 fun _ _ _ _ _ _ _ q=>sub_int q
theorem op_mul:OpR X (binaryOp .Mult) (rI CMul fun i j=>.int (i * j)):=opI fun _ _ _ _ _ _ _ hc q=>mul_int q hc.ok
theorem op_fdiv:OpR X (binaryOp .FloorDiv) (rI CDiv fun i j=>.int (i / j)):=opI fun i j _ _ _ _ _ hc q=>by
 have h1:(0:Int)<j:=hc.1
 have h2:j<1073741824:=hc.2
 exact floordiv_int (by omega) (by rw [Int.fdiv_eq_ediv_of_nonneg i (by omega)];exact q) (.inl (PyProof.noPylong_small (by omega)))
theorem op_mod:OpR X (binaryOp .Mod) (rI (fun _ j=>0<j) fun i j=>.int (i % j)):=opI fun i j _ _ _ _ _ hc q=>by
 have h1:(0:Int)<j:=hc
 exact mod_int' (by omega) (by rw [Int.fmod_eq_emod_of_nonneg i (by omega)];exact q)
theorem op_pow:OpR X (binaryOp .Pow) (rI CPow fun i j=>.int (i ^ j.toNat)):=opI fun _ _ _ _ _ _ _ hc q=>pow_int_small hc.1 hc.2.1 hc.2.2 q
theorem op_shl:OpR X (binaryOp .LShift) (rI CPow fun i j=>.int (i * 2 ^ j.toNat)):=opI fun _ _ _ _ _ _ _ hc q=>lshift_int_small hc.1 hc.2.1 hc.2.2 q
theorem op_shr:OpR X (binaryOp .RShift) (rI (fun _ j=>0≤j) fun i j=>.int (i / 2 ^ j.toNat)):=opI fun i j _ _ _ _ _ hc q =>
 rshift_int hc (by rw [Int.fdiv_eq_ediv_of_nonneg i (two_pow_nn _)];exact q)
theorem op_and:OpR X (binaryOp .BitAnd) (rI0 fun i j=>.int (Builtin.bitAnd i j)):=opI0 fun _ _ _ _ _ _ _ q=>and_int q
theorem op_or:OpR X (binaryOp .BitOr) (rI0 fun i j=>.int (Builtin.bitOr i j)):=opI0 fun _ _ _ _ _ _ _ q=>or_int q
theorem op_xor:OpR X (binaryOp .BitXor) (rI0 fun i j=>.int (Builtin.bitXor i j)):=opI0 fun _ _ _ _ _ _ _ q=>xor_int q
theorem unI {f:Value→Sem Value}{g:Int→Int}
  (rule:∀ (i:Int) (t:Tok) (s:Shared) (Q:Value→Shared→Prop) (E:Value→Shared→Prop),Q (.int (g i) s.toks) { s with toks:=s.toks+1 }→wpAny (model X.prog X.w) X.A (f (.int i t)) Q E s) :
  UnR X f (rU fun i=>.int (g i)):=by
 intro pins s σ H x v Q I rx h
 obtain ⟨i,rfl,q⟩:=h
 obtain ⟨t,rfl⟩:=rx
 exact rule i t s _ _ ⟨.int (g i),H,I.tok _,⟨_,rfl⟩,q⟩
theorem un_neg:UnR X (unaryOp .USub) (rU fun i=>.int (-i)):=unI fun _ _ _ _ _ q=>neg_int q
end
def scal:V→V→Bool
 | .non,.non=>true | .non,.int _=>true | .int _,.non=>true | .non,.bl _=>true | .bl _,.non=>true | .non,.str _=>true | .str _,.non=>true
 | .int _,.int _=>true | .bl _,.bl _=>true | .str _,.str _=>true | .byt _,.byt _=>true
 | .int _,.str _=>true | .str _,.int _=>true | .bl _,.str _=>true | .str _,.bl _=>true
 | _,_=>false
def rEq:R2:=fun x y H Q=>scal x y=true∧Q (.bl (decide (x=y))) H
def rNe:R2:=fun x y H Q=>scal x y=true∧Q (.bl (!decide (x=y))) H
theorem dec_int {i j:Int}:decide (V.int i=V.int j)=(i == j):=by
 rw [Bool.eq_iff_iff]
 simp
theorem dec_bl {i j:Bool}:decide (V.bl i=V.bl j)=(i == j):=by
 rw [Bool.eq_iff_iff]
 simp
theorem dec_str {i j:Str}:decide (V.str i=V.str j)=(i == j):=by
 rw [Bool.eq_iff_iff]
 simp
theorem dec_byt {i j:Array UInt8}:decide (V.byt i=V.byt j)=(i.toList == j.toList):=by
 rw [Bool.eq_iff_iff]
 cases i
 cases j
 simp
section
variable {X:Cx}{a b c:Expr}{ta tb tc:TE}{pos:Pos}
theorem fin_bl {pins:List (Addr × Obj)}{σ:St}{H:Hp}{s:Shared}{Q:VK}{k k':Bool} (I:Inv X pins σ H s) (q:Q (.bl k) H) (e:k=k'):EP X pins σ Q (.bool k') s:=by
 subst e
 exact ⟨.bl k,H,I,rfl,q⟩
theorem op_eq:OpR X (compareOp .Eq) rEq:=by
 intro pins s σ H x y v u Q I rx ry h
 obtain ⟨hs,q⟩:=h
 cases x with
 | non =>
  cases rx
  cases y with
  | non=>cases ry;exact PySem.EqNone.eq_none_none (fin_bl I q (by simp))
  | bl j=>cases ry;exact PySem.EqNone.eq_none_bool (fin_bl I q (by simp))
  | int j=>obtain ⟨t',rfl⟩:=ry;exact PySem.EqNone.eq_none_int (fin_bl I q (by simp))
  | str j=>obtain ⟨t',rfl⟩:=ry;exact PySem.EqNone.eq_none_str (fin_bl I q (by simp))
  | _=>exact absurd (show false=true from hs) Bool.false_ne_true
 | bl i =>
  cases rx
  cases y with
  | non=>cases ry;exact PySem.EqNone.eq_bool_none (fin_bl I q (by simp))
  | bl j=>cases ry;exact eq_bool (fin_bl I q dec_bl)
  | str j=>obtain ⟨t',rfl⟩:=ry;exact PySem.EqMixed.eq_bool_str (fin_bl I q (by simp))
  | _=>exact absurd (show false=true from hs) Bool.false_ne_true
 | int i =>
  obtain ⟨t,rfl⟩:=rx
  cases y with
  | non=>cases ry;exact PySem.EqNone.eq_int_none (fin_bl I q (by simp))
  | int j=>obtain ⟨t',rfl⟩:=ry;exact eq_int (fin_bl I q dec_int)
  | str j=>obtain ⟨t',rfl⟩:=ry;exact PySem.EqMixed.eq_int_str (fin_bl I q (by simp))
  | _=>exact absurd (show false=true from hs) Bool.false_ne_true
 | str i =>
  obtain ⟨t,rfl⟩:=rx
  cases y with
  | non=>cases ry;exact PySem.EqNone.eq_str_none (fin_bl I q (by simp))
  | bl j=>cases ry;exact PySem.EqMixed.eq_str_bool (fin_bl I q (by simp))
  | int j=>obtain ⟨t',rfl⟩:=ry;exact PySem.EqMixed.eq_str_int (fin_bl I q (by simp))
  | str j=>obtain ⟨t',rfl⟩:=ry;exact eq_str (fin_bl I q dec_str)
  | _=>exact absurd (show false=true from hs) Bool.false_ne_true
 | byt i =>
  obtain ⟨t,rfl⟩:=rx
  cases y with
  | byt j=>obtain ⟨t',rfl⟩:=ry;exact PySem.W.eq_bytes (fin_bl I q dec_byt)
  | _=>exact absurd (show false=true from hs) Bool.false_ne_true
 | _=>cases y <;> exact absurd (show false=true from hs) Bool.false_ne_true
theorem op_ne:OpR X (compareOp .NotEq) rNe:=by
 intro pins s σ H x y v u Q I rx ry h
 obtain ⟨hs,q⟩:=h
 cases x with
 | non =>
  cases rx
  cases y with
  | non=>cases ry;exact PySem.EqNone.ne_none_none (fin_bl I q (by simp))
  | bl j=>cases ry;exact PySem.EqNone.ne_none_bool (fin_bl I q (by simp))
  | int j=>obtain ⟨t',rfl⟩:=ry;exact PySem.EqNone.ne_none_int (fin_bl I q (by simp))
  | str j=>obtain ⟨t',rfl⟩:=ry;exact PySem.EqNone.ne_none_str (fin_bl I q (by simp))
  | _=>exact absurd (show false=true from hs) Bool.false_ne_true
 | bl i =>
  cases rx
  cases y with
  | non=>cases ry;exact PySem.EqNone.ne_bool_none (fin_bl I q (by simp))
  | bl j=>cases ry;exact ne_bool (fin_bl I q (congrArg not dec_bl))
  | str j=>obtain ⟨t',rfl⟩:=ry;exact PySem.EqMixed.ne_bool_str (fin_bl I q (by simp))
  | _=>exact absurd (show false=true from hs) Bool.false_ne_true
 | int i =>
  obtain ⟨t,rfl⟩:=rx
  cases y with
  | non=>cases ry;exact PySem.EqNone.ne_int_none (fin_bl I q (by simp))
  | int j=>obtain ⟨t',rfl⟩:=ry;exact ne_int (fin_bl I q (congrArg not dec_int))
  | str j=>obtain ⟨t',rfl⟩:=ry;exact PySem.EqMixed.ne_int_str (fin_bl I q (by simp))
  | _=>exact absurd (show false=true from hs) Bool.false_ne_true
 | str i =>
  obtain ⟨t,rfl⟩:=rx
  cases y with
  | non=>cases ry;exact PySem.EqNone.ne_str_none (fin_bl I q (by simp))
  | bl j=>cases ry;exact PySem.EqMixed.ne_str_bool (fin_bl I q (by simp))
  | int j=>obtain ⟨t',rfl⟩:=ry;exact PySem.EqMixed.ne_str_int (fin_bl I q (by simp))
  | str j=>obtain ⟨t',rfl⟩:=ry;exact ne_str (fin_bl I q (congrArg not dec_str))
  | _=>exact absurd (show false=true from hs) Bool.false_ne_true
 | byt i =>
  obtain ⟨t,rfl⟩:=rx
  cases y with
  | byt j=>obtain ⟨t',rfl⟩:=ry;exact PySem.W.ne_bytes (fin_bl I q (congrArg not dec_byt))
  | _=>exact absurd (show false=true from hs) Bool.false_ne_true
 | _=>cases y <;> exact absurd (show false=true from hs) Bool.false_ne_true
theorem op_lt:OpR X (compareOp .Lt) (rI0 fun i j=>.bl (decide (i<j))):=opB0 fun _ _ _ _ _ _ _ q=>lt_int q
theorem op_le:OpR X (compareOp .LtE) (rI0 fun i j=>.bl (decide (i≤j))):=opB0 fun _ _ _ _ _ _ _ q=>le_int q
theorem op_ge:OpR X (compareOp .GtE) (rI0 fun i j=>.bl (decide (j≤i))):=opB0 fun _ _ _ _ _ _ _ q=>ge_int q
theorem op_in_str:OpR X (compareOp .In) (fun x y H Q=>∃ i j,x=.str i∧y=.str j∧Q (.bl (!(Builtin.Str.occurrences j i 0 j.length 1).isEmpty)) H):=by
 intro pins s σ H x y v u Q I rx ry h
 obtain ⟨i,j,rfl,rfl,q⟩:=h
 obtain ⟨t,rfl⟩:=rx
 obtain ⟨t',rfl⟩:=ry
 exact in_str (fin_bl I q rfl)
theorem op_notN:OpR X (compareOp .IsNot) (fun x y H Q=>y=.non∧Q (.bl (!decide (x=.non))) H):=by
 intro pins s σ H x y v u Q I rx ry h
 obtain ⟨rfl,q⟩:=h
 cases ry
 refine isnot_none_gen (fin_bl I q ?_)
 cases x <;> first
  | (cases rx;rfl)
  | (obtain ⟨t,rfl⟩:=rx;rfl)
theorem nomark (b:Expr) {op:CmpOp} (h:op≠.In:=by decide) (h2:op≠.NotIn:=by decide):behindInMarks op b=false:=by
 have e1:(op == CmpOp.In)=false:=by cases op <;> first | rfl | exact absurd rfl h
 have e2:(op == CmpOp.NotIn)=false:=by cases op <;> first | rfl | exact absurd rfl h2
 cases b <;> simp [behindInMarks,e1,e2]
theorem pe_cmpR {op:CmpOp}{r:R2} (ho:OpR X (compareOp op) r) (ha:PE X a ta) (hb:PE X b tb) (hm:behindInMarks op b=false):PE X (.Compare a [op] [b] pos) (tOp r ta tb):=by
 intro pins s σ H Q I h
 exact wpAny_Compare1 (binT ha hb I h fun v u s2 x y H2 I2 rx ry q=>ho pins s2 σ H2 x y v u Q I2 rx ry q) hm
def tTest (t:TE):TT:=fun σ H Q=>t σ H fun x H'=>∃ k,x=.bl k∧Q k H'
theorem pt_cmpR {op:CmpOp}{r:R2} (ho:OpR X (compareOp op) r) (ha:PE X a ta) (hb:PE X b tb) (hm:behindInMarks op b=false):PT X (.Compare a [op] [b] pos) (tTest (tOp r ta tb)):=by
 intro pins s σ H Q I h
 refine wpAny_isTrue_Compare1 (thn (ha pins s σ H _ I h) fun v s1 ⟨x,H1,I1,r1,q1⟩=>thn (hb pins s1 σ H1 _ I1 q1) fun u s2 ⟨y,H2,I2,r2,q2⟩ =>
  thn (ho pins s2 σ H2 x y v u _ I2 r1 r2 q2) fun c s3 ⟨z,H3,I3,r3,k,e,q3⟩=>?_) hm
 subst e
 cases r3
 exact wpAny_truthy_bool ⟨H3,I3,q3⟩
def tChain (r r':R2) (ta tb tc:TE):TE:=fun σ H Q=>ta σ H fun x H1=>tb σ H1 fun y H2=>r x y H2 fun z H3=>∃ k,z=.bl k ∧
 (if k=true then tc σ H3 fun w' H4=>r' y w' H4 Q else Q (.bl false) H3)
theorem pe_chain {op op':CmpOp}{r r':R2} (ho:OpR X (compareOp op) r) (ho':OpR X (compareOp op') r') (ha:PE X a ta) (hb:PE X b tb) (hc:PE X c tc)
  (hm:lastMarks [op,op'] [b,c]=false:=by with_unfolding_all rfl):PE X (.Compare a [op,op'] [b,c] pos) (tChain r r' ta tb tc):=by
 intro pins s σ H Q I h
 refine Compare_chain (thn (ha pins s σ H _ I h) fun v s1 ⟨x,H1,I1,r1,q1⟩=>chain_link (thn (hb pins s1 σ H1 _ I1 q1) fun u s2 ⟨y,H2,I2,r2,q2⟩ =>
  thn (ho pins s2 σ H2 x y v u _ I2 r1 r2 q2) fun d s3 ⟨z,H3,I3,r3,k,e,q3⟩=>?_)) hm
 subst e
 cases r3
 refine wpAny_truthy_bool ?_
 cases k with
 | false=>exact ite_ff ⟨.bl false,H3,I3,rfl,q3⟩
 | true=>exact ite_tt (chain_last (thn (hc pins s3 σ H3 _ I3 q3) fun w' s4 ⟨z',H4,I4,r4,q4⟩=>ho' pins s4 σ H4 y z' u w' Q I4 r2 r4 q4))
def TruV (K:PySem.W.Frag) (x:V) (H:Hp) (k:Bool):Prop :=
 match x with
 | .non=>k=false
 | .bl b=>k=b
 | .int i=>k=(i != 0)
 | .str y=>y.length≤sizeLine∧k=((y.length:Int) != 0)
 | .byt y=>y.size≤sizeLine∧k=((y.size:Int) != 0)
 | .ref p=>(∃ xs,SqL K H p xs∧k = !xs.isEmpty)∨(∃ xs,SqT K H p xs∧k = !xs.isEmpty)∨∃ kvs,H p=some (.dK kvs)∧k = !kvs.isEmpty
 | _=>False
theorem isEmpty_kv {κ:Type}{kvs:List (κ × V)}{vs:List (κ × Value)} (r:KV kvs vs):(!vs.isEmpty) = !kvs.isEmpty:=by
 cases r <;> rfl
theorem isEmpty_of {xs:List V}{its:List Value} (r:Vals xs its):(!its.toArray.isEmpty) = !xs.isEmpty:=by
 cases r <;> simp
theorem line63:(sizeLine:Nat)<2 ^ 63:=by rw [sizeLine_eq];decide
theorem tru_ok:TruR X (fun x H Q=>∃ k,TruV X.K x H k∧Q k H):=by
 intro pins s σ H x v Q I rx h
 obtain ⟨k,e,q⟩:=h
 have hl:=line63
 have hs:sizeLine=16777216:=sizeLine_eq
 cases x with
 | non =>
  cases rx
  have e':k=false:=e
  subst e'
  exact truthy_none ⟨H,I,q⟩
 | bl b =>
  cases rx
  have e':k=b:=e
  subst e'
  exact wpAny_truthy_bool ⟨H,I,q⟩
 | int i =>
  obtain ⟨t,rfl⟩:=rx
  have e':k=(i != 0):=e
  subst e'
  exact PySem.P.truthy_int ⟨H,I,q⟩
 | str y =>
  obtain ⟨t,rfl⟩:=rx
  obtain ⟨hy,e'⟩:y.length≤sizeLine∧k=((y.length:Int) != 0):=e
  subst e'
  exact PySem.P.truthy_str (by omega) ⟨H,I.tok _,q⟩
 | byt y =>
  obtain ⟨t,rfl⟩:=rx
  obtain ⟨hy,e'⟩:y.size≤sizeLine∧k=((y.size:Int) != 0):=e
  subst e'
  exact PySem.W.truthy_bytes (by omega) ⟨H,I.tok _,q⟩
 | ref p =>
  cases rx
  have e':(∃ xs,SqL X.K H p xs∧k = !xs.isEmpty)∨(∃ xs,SqT X.K H p xs∧k = !xs.isEmpty)∨∃ kvs,H p=some (.dK kvs)∧k = !kvs.isEmpty:=e
  rcases e' with ⟨xs,hx,e'⟩ | ⟨xs,hx,e'⟩ | ⟨kvs,hx,e'⟩
  ·subst e'
   obtain ⟨its,r,pl,hz⟩:=I.list hx
   have hlen:=r.length
   exact wpAny_truthy_list pl.isList (by simp only [List.size_toArray];omega) ⟨H,I.tok _,by rw [isEmpty_of r];exact q⟩
  ·subst e'
   obtain ⟨its,r,pl,hz⟩:=I.tuple hx
   have hlen:=r.length
   exact truthy_tuple pl (by simp only [List.size_toArray];omega) ⟨H,I.tok _,by rw [isEmpty_of r];exact q⟩
  ·subst e'
   obtain ⟨hz,hS,vs,r,m⟩:kvs.length≤sizeLine∧(p == sysModules)=false∧∃ vs,KV kvs vs∧s.heap.DictOf (mixKind X.prog X.w) p vs:=I.hok p _ hx
   have hlen:kvs.length=vs.length:=Paired.length r
   exact wpAny_truthy_dict hS m (by omega) ⟨H,I.tok _,by rw [isEmpty_kv r];exact q⟩
 | _=>exact (show False from e).elim
theorem pt_truth (ha:PE X a ta) (he:∀ whole,isTrue a X.env whole=(do let v ← whole;standAt a.pos;holding [v] (truthy v))) :
  PT X a (fun σ H Q=>ta σ H fun x H'=>∃ k,TruV X.K x H' k∧Q k H'):=by
 intro pins s σ H Q I h
 exact isTrue_plain (thn (ha pins s σ H _ I h) fun v s1 ⟨x,H1,I1,r1,q1⟩=>tru_ok pins s1 σ H1 x v Q I1 r1 q1) (he _)
theorem op_add_str:OpR X (binaryOp .Add) (fun x y H Q=>∃ i j,x=.str i∧y=.str j∧i.length+j.length≤sizeLine∧Q (.str (i ++ j)) H):=by
 intro pins s σ H x y v u Q I rx ry h
 obtain ⟨i,j,rfl,rfl,hz,q⟩:=h
 obtain ⟨t,rfl⟩:=rx
 obtain ⟨t',rfl⟩:=ry
 exact add_str (fun t' tk=>⟨.str (i ++ j),H,I.tok _,⟨_,rfl⟩,q⟩) hz
theorem vals1 {x:V}{us:List Value} (r:Vals [x] us):∃ u,us=[u]∧RelV x u:=by
 cases r with
 | cons r1 r2=>cases r2;exact ⟨_,rfl,r1⟩
theorem vals2 {x y:V}{us:List Value} (r:Vals [x,y] us):∃ u w',us=[u,w']∧RelV x u∧RelV y w':=by
 cases r with
 | cons r1 r2 =>
  cases r2 with
  | cons r3 r4=>cases r4;exact ⟨_,_,rfl,r1,r3⟩
theorem call_max2 (hc:X.calm=true):CallR X (.builtin "max") (fun xs H Q=>∃ i j,xs=[.int i,.int j]∧Q (.int (if j > i then j else i)) H):=by
 intro pins s σ H xs us Q I r h
 obtain ⟨i,j,rfl,q⟩:=h
 obtain ⟨u,w',rfl,⟨t,rfl⟩,⟨t',rfl⟩⟩:=vals2 r
 refine max_two_ints (I.ok.hd hc) fun h' tk k=>⟨_,H,I.kept k,?_,q⟩
 by_cases hj:j > i
 ·rw [if_pos hj,if_pos hj];exact ⟨_,rfl⟩
 ·rw [if_neg hj,if_neg hj];exact ⟨_,rfl⟩
theorem call_min2 (hc:X.calm=true):CallR X (.builtin "min") (fun xs H Q=>∃ i j,xs=[.int i,.int j]∧Q (.int (if j<i then j else i)) H):=by
 intro pins s σ H xs us Q I r h
 obtain ⟨i,j,rfl,q⟩:=h
 obtain ⟨u,w',rfl,⟨t,rfl⟩,⟨t',rfl⟩⟩:=vals2 r
 refine min_two_ints (I.ok.hd hc) fun h' tk k=>⟨_,H,I.kept k,?_,q⟩
 by_cases hj:j<i
 ·rw [if_pos hj,if_pos hj];exact ⟨_,rfl⟩
 ·rw [if_neg hj,if_neg hj];exact ⟨_,rfl⟩
theorem call_int1:CallR X (.type "int") (fun xs H Q=>(∃ i,xs=[.int i]∧Q (.int i) H)∨∃ k,xs=[.bl k]∧Q (.int (if k then 1 else 0)) H):=by
 intro pins s σ H xs us Q I r h
 rcases h with ⟨i,rfl,q⟩ | ⟨k,rfl,q⟩
 ·obtain ⟨u,rfl,t,rfl⟩:=vals1 r
  exact call_int_int ⟨.int i,H,I,⟨_,rfl⟩,q⟩
 ·obtain ⟨u,rfl,r1⟩:=vals1 r
  cases r1
  exact call_int_bool ⟨.int (if k then 1 else 0),H,I.tok _,⟨_,rfl⟩,q⟩
end
structure ObjM (h:Heap) (x dx C:Addr) (mA:Str→Option Value):Prop where
 obj:h.get? x=some (PySem.W.instObj C dx)
 ns:h.Ns1 dx mA
 ne:dx≠x
theorem lookIn_ns {h:Heap}{dx:Addr}{mA:Str→Option Value} (n:h.Ns1 dx mA):∃ od,h.get? dx=some od∧∀ name,PySem.W.lookIn name od=some (mA name):=by
 obtain ⟨o,es,ep,ho,hd,hk,_,hm⟩:=n
 refine ⟨o,ho,fun name=>?_⟩
 have e:=hm name
 unfold nsFind findBy at e
 rw [← Array.find?_toList] at e
 unfold PySem.W.lookIn
 rw [hd]
 dsimp only
 split
 ·rename_i y q
  rw [q] at e
  exact congrArg some e
 ·rename_i q
  rw [q] at e
  have a:es.toList.any (·.refKey)=false:=by
   rw [List.any_eq_false]
   intro y hy
   obtain ⟨z,t,hkey⟩:=hk y (Array.mem_toList_iff.mp hy)
   simp [DictEntry.refKey,hkey]
  have a':¬ es.toList.any (·.refKey)=true:=by rw [a];exact Bool.false_ne_true
  rw [if_neg a']
  exact congrArg some e
theorem ObjM.look {h:Heap}{x dx C:Addr}{mA:Str→Option Value} (I:ObjM h x dx C mA):∃ od,PySem.W.InstAt h x (PySem.W.instObj C dx) C (some od)∧∀ name,PySem.W.lookIn name od=some (mA name) :=
 let ⟨od,ho,hl⟩:=lookIn_ns I.ns
 ⟨od,⟨I.obj,rfl,rfl,ho⟩,hl⟩
section
variable {prog:Program}{w:World}{A:Around}{E:Value→Shared→Prop}{s:Shared}{K:PySem.W.Frag}{x dx C f:Addr}{mA:Str→Option Value}{name:Str}{v:Value}
theorem get_map {expr:Bool}{Q:Value→Shared→Prop} (X:K.In s.heap) (I:ObjM s.heap x dx C mA) (hg:PySem.W.plainGet K C name=true) (hh:PySem.W.hasDictIn K C=true)
  (ha:PySem.W.findIn K (.ref C) name=some none) (hv:mA name=some v) (hv':PySem.W.handedIn v=true) (h:Q v { s with toks:=s.toks+1 }) :
  wpAny (model prog w) A (getAttr (.ref x) name expr) Q E s:=by
 obtain ⟨od,J,hl⟩:=I.look
 exact PySem.W.get_value X J (PySem.W.plainGet_of hg).1 (PySem.W.findObj_own hh ha rfl (by rw [hl,hv])) hv' h
theorem get_meth {pl:Sem Bool}{Q:Value × List Value→Shared→Prop} (X:K.In s.heap) (I:ObjM s.heap x dx C mA) (hg:PySem.W.plainGet K C name=true)
  (hf:PySem.W.findIn K (.ref C) name=some (some (.ref f))) (ht:PySem.W.isFn K (.ref f)=true) (hv:mA name=none) (h:Q (.ref f,[.ref x]) s) :
  wpAny (model prog w) A (getMethod (.ref x) name pl) Q E s:=by
 obtain ⟨od,J,hl⟩:=I.look
 exact PySem.W.method_fn X J (PySem.W.plainGet_of hg).1 (PySem.W.plainGet_of hg).2 hf (beq_iff_eq.mp ht) (by show (PySem.W.lookIn name od).map (·.isSome)=some false;rw [hl,hv];rfl) h
theorem set_map {ns:List Str}{Q:Unit→Shared→Prop} (X:K.In s.heap) (I:ObjM s.heap x dx C mA)
  (hs:PySem.W.findIn K (.ref C) "__setattr__" = some (some (.builtin "object.__setattr__"))) (hp:PySem.W.plainOver K C=true) (ht:PySem.W.takerIn K C name=some none) (hh:PySem.W.hasDictIn K C=true)
  (hw:PySem.Within mA ns) (hsz:ns.length≤sizeLine)
  (h:∀ h',ObjM h' x dx C (fun y=>if y=name then some v else mA y)→Heap.SameBut dx s.heap h'→Q () { s with heap:=h',toks:=s.toks+2 }) :
  wpAny (model prog w) A (setAttr (.ref x) name v) Q E s:=by
 obtain ⟨od,J,hl⟩:=I.look
 refine PySem.W.set_plain X J hs (PySem.W.osa_open (s:={ s with toks:=s.toks+1 }) (r:=none) X J hp ht fun b=>?_)
 obtain ⟨cd,hc,hd'⟩:=PySem.W.any_some hh
 have hx:s.heap.get? x=some ⟨.ref C,some dx,.plain,#[]⟩:=I.obj
 refine wpAny_bind (wpAny_pure (wpAny_bind (wpAny_bind (wpAny_loadPart hx (wpAny_bind (PySem.W.Looks.here (s:={ s with toks:=s.toks+1 }) (PySem.W.looks_clsIn X hc) ?_))))))
 rw [hd']
 refine wpAny_pure (a:=some dx) (wpAny_bind (wpAny_pure (wpAny_bind ?_)))
 refine wpAny_nsSet1 (s:={ s with toks:=s.toks+1 }) I.ns fun h' hn2 hs2=>?_
 obtain ⟨oD,esD,epD,hoD,hdD,hcD⟩:=hn2.count (PySem.Within.cons name v hw)
 refine wpAny_bind (wpAny_lookBehind hoD (by rw [hdD];exact pastItsLine_dict (Nat.le_trans hcD (by rw [List.length_cons];omega))) ?_)
 exact wpAny_pure (h _ ⟨(hs2.2 _ (Ne.symm I.ne)).trans I.obj,hn2,I.ne⟩ hs2)
theorem make_map {R:Result→Shared→Prop}{vs:List Value}{kw:List (Str × Value)} (X:K.In s.heap) (hm:PySem.W.makesIn K C=true)
  (hi:PySem.W.findIn K (.ref C) "__init__" = some (some (.ref f))) (hf:PySem.W.typeIn K (.ref f)=some (.type "function"))
  (h:codeAny (model prog w) (A.under (.builtin "type.__call__" ⟨.ref C :: vs,kw⟩)) (.call (.ref f) ⟨.ref (s.heap.objs.size+1) :: vs,kw⟩) (PySem.W.InitBack (s.heap.objs.size+1) R)
   { s with heap:=(s.heap.push PySem.W.emptyDict).push (PySem.W.instObj C s.heap.objs.size) }) :
  codeAny (model prog w) A (.call (.ref C) ⟨vs,kw⟩) R s:=by
 obtain ⟨hh,g,d,t,os⟩:=s
 exact PySem.W.make_core (PySem.W.makes_of X hm) (PySem.W.looks_findIn X hi) (fun self=>PySem.W.bind_fn X self hf) (.inl rfl) h
end
def putF (f:Str) (v:V):List (Str × V)→List (Str × V)
 | []=>[(f,v)]
 | (g,x) :: r=>if g=f then (g,v) :: r else (g,x) :: putF f v r
theorem lookup_putF (f g:Str) (v:V):∀ fs:List (Str × V),(putF f v fs).lookup g=if g=f then some v else fs.lookup g
 | []=>by
  show List.lookup g [(f,v)]=_
  by_cases h:g=f
  ·have hb:(g == f)=true:=beq_iff_eq.mpr h
   simp only [List.lookup,hb,if_pos h]
  ·have hb:(g == f)=false:=beq_eq_false_iff_ne.mpr h
   simp only [List.lookup,hb,if_neg h]
 | (k,x) :: r=>by
  have ih:=lookup_putF f g v r
  rw [show putF f v ((k,x) :: r)=(if k=f then (k,v) :: r else (k,x) :: putF f v r) from rfl]
  by_cases hk:k=f
  ·rw [if_pos hk]
   by_cases h:g=k
   ·have hb:(g == k)=true:=beq_iff_eq.mpr h
    simp only [List.lookup,hb,if_pos (h.trans hk)]
   ·have hb:(g == k)=false:=beq_eq_false_iff_ne.mpr h
    simp only [List.lookup,hb,if_neg (fun e:g=f=>h (e.trans hk.symm))]
  ·rw [if_neg hk]
   by_cases h:g=k
   ·have hb:(g == k)=true:=beq_iff_eq.mpr h
    simp only [List.lookup,hb,if_neg (fun e:g=f=>hk (h.symm.trans e))]
   ·have hb:(g == k)=false:=beq_eq_false_iff_ne.mpr h
    simp only [List.lookup,hb]
    exact ih
theorem keys_putF (f:Str) (v:V):∀ fs:List (Str × V),f∈(putF f v fs).map (·.1)∧∀ g,g∈fs.map (·.1)→g∈(putF f v fs).map (·.1)
 | []=>⟨by simp [putF],fun g h=>by simp at h⟩
 | (k,x) :: r=>by
  obtain ⟨i1,i2⟩:=keys_putF f v r
  rw [show putF f v ((k,x) :: r)=(if k=f then (k,v) :: r else (k,x) :: putF f v r) from rfl]
  by_cases hk:k=f
  ·rw [if_pos hk]
   subst hk
   exact ⟨by simp,fun g h=>by simpa using h⟩
  ·rw [if_neg hk]
   refine ⟨?_,fun g h=>?_⟩
   ·rw [List.map_cons]
    exact List.mem_cons_of_mem _ i1
   ·rw [List.map_cons] at h ⊢
    rcases List.mem_cons.mp h with e | e
    ·exact List.mem_cons.mpr (.inl e)
    ·exact List.mem_cons_of_mem _ (i2 g e)
theorem length_putF (f:Str) (v:V):∀ fs:List (Str × V),(putF f v fs).length≤fs.length+1
 | []=>by simp [putF]
 | (k,x) :: r=>by
  have ih:=length_putF f v r
  rw [show putF f v ((k,x) :: r)=(if k=f then (k,v) :: r else (k,x) :: putF f v r) from rfl]
  by_cases hk:k=f
  ·rw [if_pos hk,List.length_cons,List.length_cons];omega
  ·rw [if_neg hk,List.length_cons,List.length_cons];omega
theorem RelO.some_of {v:V}{o:Option Value} (r:RelO (some v) o):∃ u,o=some u∧RelV v u:=by
 cases o with
 | none=>exact (show False from r).elim
 | some u=>exact ⟨u,rfl,r⟩
theorem RelO.none_of {o:Option Value} (r:RelO none o):o=none:=by
 cases o with
 | none=>rfl
 | some u=>exact (show False from r).elim
theorem handed_of {v:V}{u:Value} (r:RelV v u):PySem.W.handedIn u=true:=by
 cases v with
 | non=>cases (show u=Value.none from r);rfl
 | bl b=>cases (show u=Value.bool b from r);rfl
 | int i=>obtain ⟨t,e⟩:=(show ∃ t,u=Value.int i t from r);cases e;rfl
 | str x=>obtain ⟨t,e⟩:=(show ∃ t,u=Value.str x t from r);cases e;rfl
 | byt b=>obtain ⟨t,e⟩:=(show ∃ t,u=Value.bytes b t from r);cases e;rfl
 | flt b=>obtain ⟨t,e⟩:=(show ∃ t,u=Value.float b t from r);cases e;rfl
 | ref a=>cases (show u=Value.ref a from r);rfl
 | ty n=>cases (show u=Value.type n from r);rfl
section
variable {P:Program}{w:World}{H H':Hp}{h h':Heap}{a C dx:Addr}{fs fs':List (Str × V)}
theorem ins_get (hok:HOk P w H h) (e:H a=some (.ins C dx fs)):∃ mA,ObjM h a dx C mA∧(∀ f,RelO (fs.lookup f) (mA f))∧PySem.Within mA (fs.map (·.1))∧fs.length≤1000∧H dx=some (.own a):=by
 obtain ⟨d,z,ne,ob,mA,n,r,q⟩:=(show ObjOk P w H h a (.ins C dx fs) from hok a _ e)
 exact ⟨mA,⟨ob,n,ne⟩,r,q,z,d⟩
end
structure Cls (K:PySem.W.Frag) (C:Addr):Prop where
 pg:PySem.W.plainGet K C Str.empty=true
 hd:PySem.W.hasDictIn K C=true
 po:PySem.W.plainOver K C=true
 sa:PySem.W.findIn K (.ref C) "__setattr__" = some (some (.builtin "object.__setattr__"))
theorem Cls.get {K:PySem.W.Frag}{C:Addr} (c:Cls K C) (f:Str):PySem.W.plainGet K C f=true:=c.pg
def NoAttr (K:PySem.W.Frag) (C:Addr) (f:Str):Prop:=PySem.W.findIn K (.ref C) f=some none
theorem NoAttr.taker {K:PySem.W.Frag}{C:Addr}{f:Str} (n:NoAttr K C f):PySem.W.takerIn K C f=some none:=by
 unfold PySem.W.takerIn
 rw [show PySem.W.findIn K (.ref C) f=some none from n]
 rfl
structure Con (K:PySem.W.Frag) (C:Addr) (f:Str) (v:V) (u:Value):Prop where
 at_:PySem.W.findIn K (.ref C) f=some (some u)
 rel:RelV v u
 get:PySem.W.specialIn K u "__get__" = some none
 cp:PySem.W.copiedNames.contains f=false
structure Meth (K:PySem.W.Frag) (C:Addr) (m:Str) (f:Addr):Prop where
 at_:PySem.W.findIn K (.ref C) m=some (some (.ref f))
 fn:PySem.W.isFn K (.ref f)=true
 kp:PySem.W.keepIn K (.ref f)=true
section
variable {X:Cx}{pins:List (Addr × Obj)}{σ:St}{H:Hp}{s:Shared}{a C dx:Addr}{fs:List (Str × V)}{f:Str}{v:V}{A:Around}{E:Value→Shared→Prop}
theorem getattr_ok {b:Bool}{Q:Value→Shared→Prop} (I:Inv X pins σ H s) (e:H a=some (.ins C dx fs)) (c:Cls X.K C) (n:NoAttr X.K C f) (l:fs.lookup f=some v)
  (h:∀ u s',Inv X pins σ H s'→RelV v u→Q u s'):wpAny (model X.prog X.w) A (getAttr (.ref a) f b) Q E s:=by
 obtain ⟨mA,O,r,_,_,_⟩:=ins_get I.hok e
 obtain ⟨u,hu,ru⟩:=RelO.some_of (v:=v) (o:=mA f) (by rw [← l];exact r f)
 exact get_map I.kIn O (c.get f) c.hd n hu (handed_of ru) (h u _ (I.tok _) ru)
theorem getmeth_ok {m:Str}{g:Addr}{pl:Sem Bool}{Q:Value × List Value→Shared→Prop} (I:Inv X pins σ H s) (e:H a=some (.ins C dx fs)) (c:Cls X.K C) (k:Meth X.K C m g) (l:fs.lookup m=none)
  (h:Q (.ref g,[.ref a]) s):wpAny (model X.prog X.w) A (getMethod (.ref a) m pl) Q E s:=by
 obtain ⟨mA,O,r,_,_,_⟩:=ins_get I.hok e
 have hn:mA m=none:=RelO.none_of (by rw [← l];exact r m)
 exact get_meth I.kIn O (c.get m) k.at_ k.fn hn h
theorem setattr_ok {y:V}{u:Value}{Q:Unit→Shared→Prop} (I:Inv X pins σ H s) (e:H a=some (.ins C dx fs)) (c:Cls X.K C) (n:NoAttr X.K C f) (hl:fs.length<1000) (ry:RelV y u)
  (h:∀ s',Inv X pins σ (upd H a (.ins C dx (putF f y fs))) s'→Q () s'):wpAny (model X.prog X.w) A (setAttr (.ref a) f u) Q E s:=by
 obtain ⟨mA,O,r,wi,_,ho⟩:=ins_get I.hok e
 have hz:(fs.map (·.1)).length≤sizeLine:=by rw [List.length_map,sizeLine_eq];omega
 refine set_map I.kIn O c.sa c.po n.taker c.hd wi hz fun h' O' sb=>h _ ?_
 have hd:∃ o,h'.get? dx=some o:=let ⟨o,_,_,e',_⟩:=O'.ns;⟨o,e'⟩
 refine I.write (x:=a) (e:=dx) (by rw [e];exact True.intro) (.inr ho) (fun b q hb z=>(sb.2 b hb).trans z) hd ?_
 refine ⟨by rw [upd_ne O.ne];exact ho,?_,O.ne,O'.obj,_,O'.ns,fun g=>?_,fun g hg=>?_⟩
 ·have:=length_putF f y fs;omega
 ·show RelO ((putF f y fs).lookup g) (if g=f then some u else mA g)
  rw [lookup_putF]
  by_cases q:g=f
  ·rw [if_pos q,if_pos q];exact ry
  ·rw [if_neg q,if_neg q];exact r g
 ·by_cases q:g=f
  ·rw [q];exact (keys_putF f y fs).1
  ·refine (keys_putF f y fs).2 g (wi g fun z=>hg ?_)
   show (if g=f then some u else mA g)=none
   rw [if_neg q];exact z
theorem Inv.made (I:Inv X pins σ H s):Inv X pins σ (upd (upd H s.heap.objs.size (.own (s.heap.objs.size+1))) (s.heap.objs.size+1) (.ins C s.heap.objs.size []))
  { s with heap:=(s.heap.push PySem.W.emptyDict).push (PySem.W.instObj C s.heap.objs.size) }:=by
 have e1:(s.heap.push PySem.W.emptyDict).get? s.heap.objs.size=some PySem.W.emptyDict:=Heap.get?_push_size s.heap rfl
 have e2:((s.heap.push PySem.W.emptyDict).push (PySem.W.instObj C s.heap.objs.size)).get? (s.heap.objs.size+1)=some (PySem.W.instObj C s.heap.objs.size):=by
  have:=Heap.get?_push_size (s.heap.push PySem.W.emptyDict) (o:=PySem.W.instObj C s.heap.objs.size) rfl
  rwa [Heap.size_push] at this
 have e3:(s.heap.push PySem.W.emptyDict).Ns s.heap.objs.size (fun _=>none):=⟨PySem.W.emptyDict,#[],_,e1,rfl,(fun e he=>absurd he (by simp)),fun _=>rfl⟩
 have I1:=I.laid (a:=s.heap.objs.size) (o:=.own (s.heap.objs.size+1)) (h':=s.heap.push PySem.W.emptyDict) (t':=s.toks) (fun b u q=>Heap.get?_push_of_some _ q) (Nat.le_refl _) ⟨_,e1⟩
 refine I1.laid (a:=s.heap.objs.size+1) (o:=.ins C s.heap.objs.size []) (t':=s.toks) (fun b u q=>Heap.get?_push_of_some _ q) (Nat.le_of_eq (Heap.size_push _ _)) ?_
 have ne:s.heap.objs.size≠s.heap.objs.size+1:=Nat.ne_of_lt (Nat.lt_succ_self _)
 refine ⟨by rw [upd_ne ne,upd_same],Nat.zero_le _,ne,e2,fun _=>none,(Heap.Ns1.of_empty e3).at fun o q=>Heap.get?_push_of_some _ q,fun _=>True.intro,fun y hy=>absurd rfl hy⟩
theorem attr_of {prog:Program}{w:World}{env:Env}{e:Expr}{f:Str}{pos:Pos}{s:Shared}{Q:Value→Shared→Prop} (hb:attributeBase e f env (eval e env)=eval e env)
  (h:wpAny (model prog w) A (eval e env) (fun o s₁=>wpAny (model prog w) A (getAttr o f true) Q E s₁) E s):wpAny (model prog w) A (eval (.Attribute e f pos) env) Q E s :=
 Attribute_any_ h (by rw [arm_eval_Attribute,hb])
end
def tFld (K:PySem.W.Frag) (ta:TE) (f:Str):TE:=fun σ H Q=>ta σ H fun x H1=>∃ a C dx fs v,x=.ref a∧H1 a=some (.ins C dx fs)∧Cls K C∧NoAttr K C f∧fs.lookup f=some v∧Q v H1
def sFld (K:PySem.W.Frag) (ta tv:TE) (f:Str):TS:=fun D σ H=>tv σ H fun y H1=>ta σ H1 fun x H2=>∃ a C dx fs,x=.ref a∧H2 a=some (.ins C dx fs)∧Cls K C∧NoAttr K C f∧fs.length<1000 ∧
 D.nx σ (upd H2 a (.ins C dx (putF f y fs)))
section
variable {X:Cx}{o e value:Expr}{f:Str}{pos pos' tpos:Pos}{ta tv:TE}
theorem pe_fld (he:PE X e ta) (hb:attributeBase e f X.env (eval e X.env)=eval e X.env):PE X (.Attribute e f pos) (tFld X.K ta f):=by
 intro pins s σ H Q I h
 refine attr_of hb (thn (he pins s σ H _ I h) fun u s1 ⟨x,H1,I1,rx,a,C,dx,fs,v,ex,ea,c,n,l,q⟩=>?_)
 subst ex
 obtain rfl:u=Value.ref a:=rx
 exact getattr_ok I1 ea c n l fun u' s2 I2 ru=>⟨v,H1,I2,ru,q⟩
theorem ps_fld (ha:PE X o ta) (hv:PE X value tv) (hs:swapsWith value (some (.Attribute o f pos')) pos.line X.env=pure false):PS X (.Assign [.Attribute o f pos'] value pos) (sFld X.K ta tv f):=by
 intro pins s σ H D I h
 refine plainObj_wpAny_Assign_Attribute (thn (hv pins s σ H _ I h) fun u s1 ⟨y,H1,I1,ry,q⟩=>thn (ha pins s1 σ H1 _ I1 q) fun ov s2 ⟨x,H2,I2,rx,a,C,dx,fs,ex,ea,c,n,l,q2⟩=>?_) hs
 subst ex
 obtain rfl:ov=Value.ref a:=rx
 exact setattr_ok I2 ea c n l ry fun s3 I3=>⟨σ,_,I3,q2⟩
theorem methcall_of {pl:Sem Bool}{m:Str}{apos:Pos}{args:List Expr}{pins:List (Addr × Obj)}{s:Shared}{σ:St}{H:Hp}{Q:Value→Shared→Prop}{te:TE} (he:PE X e te) (I:Inv X pins σ H s)
  (h:te σ H fun x H1=>∃ a C dx fs g,x=.ref a∧H1 a=some (.ins C dx fs)∧Cls X.K C∧Meth X.K C m g∧fs.lookup m=none ∧
   ∀ s1,Inv X pins σ H1 s1→wpAny (model X.prog X.w) X.A (callWith pos (.ref g) [.ref a] (backTo pos (starEach args X.env)) (backToKw pos (keywordEach [] X.env))) Q X.xe s1)
  (ht:eval (.Call (.Attribute e m apos) args [] pos) X.env=(do
   let ov ← eval e X.env
   standAt apos.atName
   let (f,first) ← holding [ov] (getMethod ov m pl)
   callWith pos f first (backTo pos (starEach args X.env)) (backToKw pos (keywordEach [] X.env)))) :
  wpAny (model X.prog X.w) X.A (eval (.Call (.Attribute e m apos) args [] pos) X.env) Q X.xe s:=by
 refine PySem.W.methodCall_KW (pl:=pl) (thn (he pins s σ H _ I h) fun u s1 ⟨x,H1,I1,rx,a,C,dx,fs,g,ex,ea,c,k,l,q⟩=>?_) ht
 subst ex
 obtain rfl:u=Value.ref a:=rx
 exact getmeth_ok I1 ea c k l (q s1 I1)
end
section
variable {X:Cx}{pins:List (Addr × Obj)}{σ:St}{H:Hp}{s:Shared}{A:Around}{E:Value→Shared→Prop}{Q:Value→Shared→Prop}{c:Value}{b:Bool}
inductive TyOf (K:PySem.W.Frag) (H:Hp):V→Value→Prop where
 | non:TyOf K H .non (.type "NoneType")
 | bl (x:Bool):TyOf K H (.bl x) (.type "bool")
 | int (i:Int):TyOf K H (.int i) (.type "int")
 | str (x:Str):TyOf K H (.str x) (.type "str")
 | flt (x:UInt64):TyOf K H (.flt x) (.type "float")
 | lst {a:Addr}{xs:List V} (e:H a=some (.lst xs)):TyOf K H (.ref a) (.type "list")
 | frz {a:Addr}{o:Obj}{xs:List V} (e:H a=some (.frz o (.lst xs))):TyOf K H (.ref a) (.type "list")
 | tup {a:Addr}{xs:List V} (e:H a=some (.tup xs)):TyOf K H (.ref a) (.type "tuple")
 | dK {a:Addr}{kvs:List (Key × V)} (e:H a=some (.dK kvs)):TyOf K H (.ref a) (.type "dict")
 | dT {a:Addr}{kvs:List (List Key × V)} (e:H a=some (.dT kvs)):TyOf K H (.ref a) (.type "dict")
 | ins {a C dx:Addr}{fs:List (Str × V)} (e:H a=some (.ins C dx fs)) (cl:Cls K C) (ha:PySem.W.findIn K (.ref C) "__class__" = some (some (.builtin "object.__class__")))
   (hn:PySem.W.specialIn K (.builtin "object.__class__") "__get__" = some (some (.builtin "getset_descriptor.__get__"))) (htk:PySem.W.takesIn K (.builtin "object.__class__")=some true)
   (hm:PySem.W.mroIn K C (.type "object")=some true):TyOf K H (.ref a) (.ref C)
theorem isinst_ok {x:V}{u t:Value} (I:Inv X pins σ H s) (rx:RelV x u) (ty:TyOf X.K H x t) (e:PySem.W.kitOne X.K t c=some b) (h:∀ tk,Q (.bool b) { s with toks:=tk }) :
  wpAny (model X.prog X.w) A (call (.builtin "isinstance") [u,c]) Q E s:=by
 cases ty with
 | non=>cases (show u=Value.none from rx);exact PySem.W.kia_one PySem.W.kitx_none I.kIn True.intro e (fun z=>nomatch z) h
 | bl y=>cases (show u=Value.bool y from rx);exact PySem.W.kia_one PySem.W.kitx_bool I.kIn True.intro e (fun z=>nomatch z) h
 | int i=>obtain ⟨t,q⟩:=(show ∃ t,u=Value.int i t from rx);cases q;exact PySem.W.kia_one PySem.W.kitx_int I.kIn True.intro e (fun z=>nomatch z) h
 | str y=>obtain ⟨t,q⟩:=(show ∃ t,u=Value.str y t from rx);cases q;exact PySem.W.kia_one PySem.W.kitx_str I.kIn True.intro e (fun z=>nomatch z) h
 | flt y=>obtain ⟨t,q⟩:=(show ∃ t,u=Value.float y t from rx);cases q;exact PySem.W.kia_one PySem.W.kitx_float I.kIn True.intro e (fun z=>nomatch z) h
 | @lst a xs ea =>
  cases (show u=Value.ref a from rx)
  obtain ⟨_,_,n,_,h1⟩:=(show ObjOk X.prog X.w H s.heap a (.lst xs) from I.hok a _ ea)
  exact PySem.W.kia_one PySem.W.kitx_list I.kIn ⟨_,h1,rfl⟩ e (fun z=>nomatch z) h
 | @frz a ob xs ea =>
  cases (show u=Value.ref a from rx)
  obtain ⟨_,_,_,n,_,h1⟩:=(show ObjOk X.prog X.w H s.heap a (.frz ob (.lst xs)) from I.hok a _ ea)
  exact PySem.W.kia_one PySem.W.kitx_list I.kIn ⟨_,h1,rfl⟩ e (fun z=>nomatch z) h
 | @tup a xs ea =>
  cases (show u=Value.ref a from rx)
  obtain ⟨_,_,_,p⟩:=(show ObjOk X.prog X.w H s.heap a (.tup xs) from I.hok a _ ea)
  obtain ⟨o,h1,h2,_⟩:=p
  exact PySem.W.kia_one PySem.W.kitx_tuple I.kIn ⟨o,h1,h2⟩ e (fun z=>nomatch z) h
 | @dK a kvs ea =>
  cases (show u=Value.ref a from rx)
  obtain ⟨_,_,vs,_,p⟩:=(show ObjOk X.prog X.w H s.heap a (.dK kvs) from I.hok a _ ea)
  obtain ⟨o,es,ep,h1,h2,_⟩:=p
  exact PySem.W.kia_one PySem.W.kitx_dict I.kIn ⟨o,h1,h2.1⟩ e (fun z=>nomatch z) h
 | @dT a kvs ea =>
  cases (show u=Value.ref a from rx)
  obtain ⟨_,_,xs,_,o,es,ep,h1,h2,_⟩:=(show ObjOk X.prog X.w H s.heap a (.dT kvs) from I.hok a _ ea)
  exact PySem.W.kia_one PySem.W.kitx_dict I.kIn ⟨o,h1,h2.1⟩ e (fun z=>nomatch z) h
 | @ins a C dx fs ea cl ha hn htk hm =>
  cases (show u=Value.ref a from rx)
  obtain ⟨mA,O,_⟩:=ins_get I.hok ea
  obtain ⟨od,J,_⟩:=O.look
  exact PySem.W.kia_one (PySem.W.kitx_own (cl.get _) cl.hd ha hn htk hm) I.kIn J e (fun z=>nomatch z) h
end
structure Room (k:Nat) (A:Around):Prop where
 hd:A.handled=none
 dp:A.depth+3 * k+5<recursionLimit
 un:A.units+16 * k+200<cLine
theorem Room.mono {j k:Nat}{A:Around} (r:Room k A) (h:j≤k):Room j A:=⟨r.hd,by have:=r.dp;omega,by have:=r.un;omega⟩
theorem Room.deeper {k:Nat}{A:Around} (r:Room (k+1) A) (env:Env):Room k (A.deeper env) :=
 ⟨r.hd,by have:=r.dp;show A.depth+1+3 * k+5<_;omega,by have:=r.un;show A.units+3+16 * k+200<_;omega⟩
theorem Room.in1 {k:Nat}{A:Around} (r:Room (k+1) A):Room k A.in1 :=
 ⟨r.hd,by have:=r.dp;show A.depth+3 * k+5<_;omega,by have:=r.un;show A.units+1+16 * k+200<_;omega⟩
theorem make_depth {A:Around}{C:Addr}{us:List Value}{kw:List (Str × Value)}:(A.under (.builtin "type.__call__" ⟨.ref C :: us,kw⟩)).depth=A.depth+1:=by
 first | rfl | simp [Around.under,Code.weight,Code.isCreation,Code.isGuard,Code.isCaller,Code.frames,Code.isFrame,guardIds]
theorem make_units {A:Around}{C:Addr}{us:List Value}{kw:List (Str × Value)}:(A.under (.builtin "type.__call__" ⟨.ref C :: us,kw⟩)).units=A.units+1:=by
 first | rfl | simp [Around.under,Code.cUnits,Code.frames,Code.isFrame]
theorem Room.make {k:Nat}{A:Around} (r:Room (k+1) A) (C:Addr) (us:List Value) (kw:List (Str × Value)):Room k (A.under (.builtin "type.__call__" ⟨.ref C :: us,kw⟩)) :=
 ⟨r.hd,by have:=r.dp;rw [make_depth];omega,by have:=r.un;rw [make_units];omega⟩
theorem Room.depth {k:Nat}{A:Around} (r:Room k A):A.depth<recursionLimit:=by have:=r.dp;omega
theorem Room.units {k:Nat}{A:Around} (r:Room k A):A.units+64<cLine:=by have:=r.un;omega
def tNil:TA:=fun _ H Q=>Q [] H
def tCons (ta:TE) (tr:TA):TA:=fun σ H Q=>ta σ H fun x H1=>tr σ H1 fun xs H2=>Q (x :: xs) H2
section
variable {X:Cx}{e:Expr}{es:List Expr}{te:TE}{t:TA}{pos:Pos}
theorem pa_nil:PA X [] tNil:=fun _ _ _ _ H Q I h=>Calls.spliced_nil ⟨[],H,I,.nil,h⟩
theorem pa_cons (ha:PE X e te) (hr:PA X es t) (hs:starEach (e :: es) X.env=(false,eval e X.env) :: starEach es X.env:=by rfl):PA X (e :: es) (tCons te t):=by
 intro pos pins s σ H Q I h
 rw [hs]
 show wpAny _ _ (spliced ((false,eval e X.env) :: backTo pos (starEach es X.env))) _ _ s
 refine Calls.spliced_cons (thn (ha pins s σ H _ I h) fun u s1 ⟨x,H1,I1,r1,q1⟩=>?_)
 exact thn (hr pos pins s1 σ H1 _ I1 q1) fun us s2 ⟨xs,H2,I2,r2,q2⟩=>⟨x :: xs,H2,I2,.cons r1 r2,q2⟩
def tTup (t:TA):TE:=fun σ H Q=>t σ H fun xs H1=>xs.length≤sizeLine∧∀ p,H1 p=none→Q (.ref p) (upd H1 p (.tup xs))
def tLst (t:TA):TE:=fun σ H Q=>t σ H fun xs H1=>xs.length≤sizeLine∧∀ p,H1 p=none→Q (.ref p) (upd H1 p (.lst xs))
theorem pe_tup {x1} (h:PA X es t):PE X (.Tuple es x1 pos) (tTup t):=by
 intro pins s σ H Q I hq
 refine wpAny_Tuple_spliced (thn (h pos pins s σ H _ I hq) fun us s1 ⟨xs,H1,I1,r,z,q⟩=>⟨by rw [← r.length];exact z,?_⟩)
 have hf:H1 s1.heap.objs.size=none:=I1.hok.fresh (Nat.le_refl _)
 refine ⟨.ref s1.heap.objs.size,upd H1 s1.heap.objs.size (.tup xs),I1.laid (t':=s1.toks) (fun b u e=>Heap.get?_push_of_some _ e) (Nat.le_refl _) ?_,rfl,q _ hf⟩
 exact ⟨z,us,r,⟨_,Heap.get?_push_size _ rfl,rfl,_,rfl⟩⟩
theorem pe_lst (h:PA X es t):PE X (.List es pos) (tLst t):=by
 intro pins s σ H Q I hq
 refine wpAny_List_spliced (thn (h pos pins s σ H _ I hq) fun us s1 ⟨xs,H1,I1,r,z,q⟩=>⟨by rw [← r.length];exact z,?_⟩)
 have hf:H1 s1.heap.objs.size=none:=I1.hok.fresh (Nat.le_refl _)
 refine ⟨.ref s1.heap.objs.size,upd H1 s1.heap.objs.size (.lst xs),I1.laid (t':=s1.toks) (fun b u e=>Heap.get?_push_of_some _ e) (Nat.le_refl _) ?_,rfl,q _ hf⟩
 exact ⟨z,us,0,r,Heap.get?_push_size _ rfl⟩
end
abbrev Sp:=List V→Hp→VK→XK→Prop
abbrev CXT:=List Env→Hp→Shared→XK→Value→Shared→Prop
structure Env0 (P:Program) (w:World) (K:PySem.W.Frag) (mg:Str→Option Value) (base:Heap) (A:Around) (outer:List Env) (s:Shared) (H:Hp):Prop where
 frames:A.frames=some outer
 mod:Mod K mg base
 bs:∀ b o,base.get? b=some o→s.heap.get? b=some o∧H b=none
 bsz:base.objs.size≤s.heap.objs.size
 funs:s.heap.FunFrames base outer
 frf:∀ b∈frs outer,H b=none
 hok:HOk P w H s.heap
 bare:AllBare s.gens
def CE (outer:List Env) (P:Program) (w:World) (H:Hp) (s:Shared) (Q:VK) (u:Value) (s':Shared):Prop :=
 ∃ v H',s'.os=s.os∧AllBare s'.gens∧Un (frs outer) [] H H' s.heap s'.heap∧HOk P w H' s'.heap∧RelV v u∧Q v H'
def CR (CX:CXT) (outer:List Env) (P:Program) (w:World) (H:Hp) (s:Shared) (Q:VK) (E:XK) (r:Result) (s':Shared):Prop :=
 match r with
 | .ok (.ret u)=>CE outer P w H s Q u s'
 | .ok _=>False
 | .error e=>CX outer H s E e s'
structure FnOk (P:Program) (w:World) (K:PySem.W.Frag) (mg:Str→Option Value) (base:Heap) (CX:CXT) (k:Nat) (f:Addr) (fd:FuncData) (ps:List Str) (sp:Sp):Prop where
 len:∀ vs H Q E,sp vs H Q E→vs.length=ps.length
 run:∀ (A:Around) (outer:List Env) (s:Shared) (H:Hp) (args:Args) (us:List Value) (vs:List V) (Q:VK) (E:XK),Room k A→Env0 P w K mg base A outer s H→BindsTo s fd args (ps.zip us)→Vals vs us→sp vs H Q E →
  codeAny (model P w) A (.call (.ref f) args) (CR CX outer P w H s Q E) s
theorem Env0.make {P:Program}{w:World}{K:PySem.W.Frag}{mg:Str→Option Value}{base:Heap}{A:Around}{outer:List Env}{s:Shared}{H:Hp} (e:Env0 P w K mg base A outer s H) (C:Addr) (us:List Value) (kw:List (Str × Value)) :
  Env0 P w K mg base (A.under (.builtin "type.__call__" ⟨.ref C :: us,kw⟩)) outer s H:=⟨by first | exact e.frames | (simpa [Around.under,Code.envs,Code.isFrame,pushEnvs] using e.frames),e.mod,e.bs,e.bsz,e.funs,e.frf,e.hok,e.bare⟩
theorem Env0.in1 {P:Program}{w:World}{K:PySem.W.Frag}{mg:Str→Option Value}{base:Heap}{A:Around}{outer:List Env}{s:Shared}{H:Hp} (e:Env0 P w K mg base A outer s H) :
  Env0 P w K mg base A.in1 outer s H:=⟨e.frames,e.mod,e.bs,e.bsz,e.funs,e.frf,e.hok,e.bare⟩
section
variable {X:Cx}{pins:List (Addr × Obj)}{σ:St}{H:Hp}{s s':Shared}
theorem Inv.env0 (I:Inv X pins σ H s):Env0 X.prog X.w X.K X.mg X.base X.A X.stack s H :=
 ⟨I.ok.frames,I.ok.mod,I.bs,Nat.le_trans I.ok.bsz I.sz,I.stack,I.stkFree,I.hok,I.bare⟩
theorem Inv.after {Q:VK}{u:Value} (I:Inv X pins σ H s) (h:CE X.stack X.prog X.w H s Q u s'):EP X pins σ Q u s':=by
 obtain ⟨v,H',os,bare,un,hok,r,q⟩:=h
 obtain ⟨hh,g,d,t,os'⟩:=s'
 obtain rfl:os'=s.os:=os
 exact ⟨v,H',I.call (h':=hh) (g':=g) (d':=d) (t':=t) (ch:=[]) un hok bare (fun b z=>absurd z (by simp)),r,q⟩
end
def tCall (sp:Sp) (dvs:List V) (E:XK) (t:TA):TE:=fun σ H Q=>t σ H fun vs H1=>sp (vs ++ dvs) H1 Q E
def tMeth (C:Addr) (m:Str) (sp:Sp) (dvs:List V) (E:XK) (ta:TE) (t:TA):TE:=fun σ H Q=>ta σ H fun x H1=>∃ a dx fs,x=.ref a∧H1 a=some (.ins C dx fs)∧fs.lookup m=none ∧
 t σ H1 fun vs H2=>sp (x :: (vs ++ dvs)) H2 Q E
def tMake (C:Addr) (sp:Sp) (dvs:List V) (E:XK) (t:TA):TE:=fun σ H Q=>t σ H fun vs H1=>∀ x dx,H1 x=none→H1 dx=none→dx≠x →
 sp (.ref x :: (vs ++ dvs)) (upd (upd H1 dx (.own x)) x (.ins C dx [])) (fun v H2=>v=.non∧Q (.ref x) H2) E
def Binds (K:PySem.W.Frag) (fd:FuncData) (ps:List Str) (ds:List Value):Prop :=
 ∀ (s:Shared) (us:List Value),K.In s.heap→(us ++ ds).length=ps.length→BindsTo s fd ⟨us,[]⟩ (ps.zip (us ++ ds))
theorem Binds.all {K:PySem.W.Frag}{fd:FuncData}{ps:List Str} (h:∀ us:List Value,us.length=ps.length→bindArgs fd ⟨us,[]⟩=pure (ps.zip us)):Binds K fd ps []:=fun s us _ hl=>by
 rw [List.append_nil] at hl ⊢
 exact .of_eq (h us hl)
def Passes (CX:CXT) (X:Cx) (E:XK):Prop:=∀ (pins:List (Addr × Obj)) (σ:St) (H:Hp) (s:Shared) (e:Value) (s':Shared),Inv X pins σ H s→CX X.stack H s E e s'→X.xe e s'
section
variable {X:Cx}{CX:CXT}{k:Nat}{f C:Addr}{fd:FuncData}{ps:List Str}{sp:Sp}{dvs:List V}{ds:List Value}{E:XK}{x m:Str}{p pos apos:Pos}{e o:Expr}{es:List Expr}{ta:TE}{t:TA}
theorem run_fn {pins:List (Addr × Obj)}{σ:St}{H:Hp}{s:Shared}{Q:VK}{us:List Value}{vs:List V} (F:FnOk X.prog X.w X.K X.mg X.base CX k f fd ps sp) (hr:Room k X.A) (hb:Binds X.K fd ps ds) (hd:Vals dvs ds) (hx:Passes CX X E)
  (I:Inv X pins σ H s) (r:Vals vs us) (h:sp (vs ++ dvs) H Q E):wpAny (model X.prog X.w) X.A (call (.ref f) us) (EP X pins σ Q) X.xe s:=by
 have r2:Vals (vs ++ dvs) (us ++ ds):=r.append hd
 have hl:(us ++ ds).length=ps.length:=by rw [← r2.length];exact F.len _ _ _ _ h
 refine wpAny_call (codeAny_mono (F.run X.A X.stack s H ⟨us,[]⟩ (us ++ ds) (vs ++ dvs) Q E hr I.env0 (hb s us I.kIn hl) r2 h) fun r s' hq=>?_)
 cases r with
 | error e=>exact hx pins σ H s e s' I hq
 | ok fl =>
  cases fl with
  | ret u=>exact I.after hq
  | next=>exact False.elim hq
  | brk=>exact False.elim hq
  | cont=>exact False.elim hq
theorem pe_call (F:FnOk X.prog X.w X.K X.mg X.base CX k f fd ps sp) (hr:Room k X.A) (hg:Gl X x) (hm:X.mg x=some (.ref f)) (hk:PySem.W.keepIn X.K (.ref f)=true) (hb:Binds X.K fd ps ds) (hd:Vals dvs ds) (hx:Passes CX X E)
  (ha:PA X (e :: es) t) (hdb:(x == ("__debug__" : Str))=false:=by decide) (he:starEach (e :: es) X.env=(false,eval e X.env) :: starEach es X.env:=by rfl) (hpl:(backTo pos (starEach es X.env)).any (·.1)=false:=by rfl) :
  PE X (.Call (.Name x p) (e :: es) [] pos) (tCall sp dvs E t):=by
 intro pins s σ H Q I h
 refine wpAny_Call_Name_kw (ld_glob I hg hm ?_ hdb)
 refine PySem.W.callWith_K (h₀:=X.base) I.ok.mod.kin hk (thn (ha pos pins s σ H _ I h) fun us s1 ⟨vs,H1,I1,r,q⟩=>⟨I1.kIn,?_⟩) he hpl
 exact run_fn F hr hb hd hx I1 r q
theorem pe_meth {pl:Sem Bool} (he:PE X o ta) (c:Cls X.K C) (hm:Meth X.K C m f) (F:FnOk X.prog X.w X.K X.mg X.base CX k f fd ps sp) (hr:Room k X.A) (hb:Binds X.K fd ps ds) (hd:Vals dvs ds) (hx:Passes CX X E) (ha:PA X (e :: es) t)
  (hst:starEach (e :: es) X.env=(false,eval e X.env) :: starEach es X.env:=by rfl) (hpl:(backTo pos (starEach es X.env)).any (·.1)=false:=by rfl)
  (ht:eval (.Call (.Attribute o m apos) (e :: es) [] pos) X.env=(do
   let ov ← eval o X.env
   standAt apos.atName
   let (f,first) ← holding [ov] (getMethod ov m pl)
   callWith pos f first (backTo pos (starEach (e :: es) X.env)) (backToKw pos (keywordEach [] X.env))):=by rfl) :
  PE X (.Call (.Attribute o m apos) (e :: es) [] pos) (tMeth C m sp dvs E ta t):=by
 intro pins s σ H Q I h
 refine PySem.W.methodCall_KW (pl:=pl) (thn (he pins s σ H _ I h) fun u s1 ⟨x,H1,I1,rx,a,dx,fs,ex,ea,l,q⟩=>?_) ht
 subst ex
 obtain rfl:u=Value.ref a:=rx
 refine getmeth_ok I1 ea c hm l ?_
 refine PySem.W.callWith_K (first:=[.ref a]) (h₀:=X.base) I.ok.mod.kin hm.kp (thn (ha pos pins s1 σ H1 _ I1 q) fun us s2 ⟨vs,H2,I2,r,q2⟩=>⟨I2.kIn,?_⟩) hst hpl
 exact run_fn (us:=.ref a :: us) (vs:=.ref a :: vs) F hr hb hd hx I2 (.cons rfl r) q2
theorem pe_meth0 {pl:Sem Bool} (he:PE X o ta) (c:Cls X.K C) (hm:Meth X.K C m f) (F:FnOk X.prog X.w X.K X.mg X.base CX k f fd ps sp) (hr:Room k X.A) (hb:Binds X.K fd ps ds) (hd:Vals dvs ds) (hx:Passes CX X E)
  (ht:eval (.Call (.Attribute o m apos) [] [] pos) X.env=(do
   let ov ← eval o X.env
   standAt apos.atName
   let (f,first) ← holding [ov] (getMethod ov m pl)
   callWith pos f first (backTo pos (starEach [] X.env)) (backToKw pos (keywordEach [] X.env))):=by rfl) :
  PE X (.Call (.Attribute o m apos) [] [] pos) (tMeth C m sp dvs E ta tNil):=by
 intro pins s σ H Q I h
 refine PySem.W.methodCall_KW (pl:=pl) (thn (he pins s σ H _ I h) fun u s1 ⟨x,H1,I1,rx,a,dx,fs,ex,ea,l,q⟩=>?_) ht
 subst ex
 obtain rfl:u=Value.ref a:=rx
 refine getmeth_ok I1 ea c hm l ?_
 exact PySem.W.callWith_K0 (first:=[.ref a]) I1.kIn hm.kp (run_fn (us:=[.ref a]) (vs:=[.ref a]) F hr hb hd hx I1 (.cons rfl .nil) q)
structure Mk (K:PySem.W.Frag) (C f:Addr):Prop where
 makes:PySem.W.makesIn K C=true
 init:PySem.W.findIn K (.ref C) "__init__" = some (some (.ref f))
 fn:PySem.W.isFn K (.ref f)=true
 kp:PySem.W.keepIn K (.ref C)=true
theorem run_make {pins:List (Addr × Obj)}{σ:St}{H:Hp}{s:Shared}{Q:VK}{us:List Value}{vs:List V} (M:Mk X.K C f) (F:FnOk X.prog X.w X.K X.mg X.base CX k f fd ps sp) (hr:Room (k+1) X.A) (hb:Binds X.K fd ps ds) (hd:Vals dvs ds)
  (hx:Passes CX X E) (I:Inv X pins σ H s) (r:Vals vs us)
  (h:∀ x dx,H x=none→H dx=none→dx≠x→sp (.ref x :: (vs ++ dvs)) (upd (upd H dx (.own x)) x (.ins C dx [])) (fun v H2=>v=.non∧Q (.ref x) H2) E) :
  wpAny (model X.prog X.w) X.A (call (.ref C) us) (EP X pins σ Q) X.xe s:=by
 have hq:=h (s.heap.objs.size+1) s.heap.objs.size (I.hok.fresh (Nat.le_succ _)) (I.hok.fresh (Nat.le_refl _)) (Nat.ne_of_lt (Nat.lt_succ_self _))
 have I2:=Inv.made (C:=C) I
 have r2:Vals (V.ref (s.heap.objs.size+1) :: (vs ++ dvs)) (Value.ref (s.heap.objs.size+1) :: (us ++ ds)):=.cons rfl (r.append hd)
 have hl:(Value.ref (s.heap.objs.size+1) :: us ++ ds).length=ps.length:=by
  have e:=r2.length
  rw [F.len _ _ _ _ hq] at e
  exact e.symm
 refine wpAny_call (make_map (f:=f) I.kIn M.makes M.init (beq_iff_eq.mp M.fn) (codeAny_mono (F.run _ X.stack _ _ ⟨Value.ref (s.heap.objs.size+1) :: us,[]⟩ (Value.ref (s.heap.objs.size+1) :: (us ++ ds)) _ _ E (hr.make C us [])
  (I2.env0.make C us []) (hb _ (Value.ref (s.heap.objs.size+1) :: us) I2.kIn hl) r2 hq) fun r s' hq'=>?_))
 cases r with
 | error e=>exact hx pins σ _ _ e s' I2 hq'
 | ok fl =>
  cases fl with
  | ret u =>
   obtain ⟨v,H',I3,rv,ev,q3⟩:=I2.after hq'
   subst ev
   exact ⟨rv,⟨V.ref (s.heap.objs.size+1),H',I3,rfl,q3⟩⟩
  | next=>exact False.elim hq'
  | brk=>exact False.elim hq'
  | cont=>exact False.elim hq'
theorem pe_make (M:Mk X.K C f) (F:FnOk X.prog X.w X.K X.mg X.base CX k f fd ps sp) (hr:Room (k+1) X.A) (hg:Gl X x) (hm:X.mg x=some (.ref C)) (hb:Binds X.K fd ps ds) (hd:Vals dvs ds) (hx:Passes CX X E)
  (ha:PA X (e :: es) t) (hdb:(x == ("__debug__" : Str))=false:=by decide) (he:starEach (e :: es) X.env=(false,eval e X.env) :: starEach es X.env:=by rfl) (hpl:(backTo pos (starEach es X.env)).any (·.1)=false:=by rfl) :
  PE X (.Call (.Name x p) (e :: es) [] pos) (tMake C sp dvs E t):=by
 intro pins s σ H Q I h
 refine wpAny_Call_Name_kw (ld_glob I hg hm ?_ hdb)
 refine PySem.W.callWith_K (h₀:=X.base) I.ok.mod.kin M.kp (thn (ha pos pins s σ H _ I h) fun us s1 ⟨vs,H1,I1,r,q⟩=>⟨I1.kIn,?_⟩) he hpl
 exact run_make M F hr hb hd hx I1 r q
end
def PK (X:Cx) (kws:List Keyword) (t:TA):Prop :=
 ∀ (pos:Pos) (pins:List (Addr × Obj)) (s:Shared) (σ:St) (H:Hp) (Q:List V→Hp→Prop),Inv X pins σ H s→t σ H Q→wpAny (model X.prog X.w) X.A (evalAll ((backToKw pos (keywordEach kws X.env)).map (·.2))) (AP X pins σ Q) X.xe s
section
variable {X:Cx}{CX:CXT}{k:Nat}{f C:Addr}{fd:FuncData}{ps ks:List Str}{sp:Sp}{E:XK}{x m:Str}{p pos apos kpos:Pos}{e o:Expr}{es:List Expr}{kws:List Keyword}{te ta:TE}{t tk:TA}{nm:Option Str}
structure KBinds (K:PySem.W.Frag) (fd:FuncData) (ps ks:List Str) (g:List Value→List Value→List Value) (gV:List V→List V→List V):Prop where
 to:∀ (s:Shared) (us ws:List Value),K.In s.heap→(g us ws).length=ps.length→BindsTo s fd ⟨us,ks.zip ws⟩ (ps.zip (g us ws))
 rel:∀ {vs:List V}{us:List Value}{zs:List V}{ws:List Value},Vals vs us→Vals zs ws→Vals (gV vs zs) (g us ws)
variable {g:List Value→List Value→List Value}{gV:List V→List V→List V}
end
structure FnScope (N P:List Str) (sc:Scope):Prop where
 kind:sc.kind=.function
 co:sc.isCoroutine=false
 gen:sc.isGenerator=false
 nd:N.Nodup
 pre:N.take P.length=P
 par:∀ x∈P,sc.names.lookup x=some .local∨sc.names.lookup x=some .cell
 nofree:∀ y∈sc.names,y.2≠.free
theorem bindL_out {kindOf:Str→Option NameKind}{x:Str}:∀ {binds:List (Str × Value)}{m:Str→Option Value},(∀ v,(x,v) ∉ binds)→bindL kindOf binds m x=m x
 | [],_,_=>rfl
 | (n,v) :: r,m,h=>by
  unfold bindL
  rw [bindL_out fun w hw=>h w (List.mem_cons_of_mem _ hw)]
  split
  ·have:x≠n:=by rintro rfl;exact h v List.mem_cons_self
   simp [this]
  ·rfl
theorem bindC_out {kindOf:Str→Option NameKind}{x:Str}:∀ {binds:List (Str × Value)}{m:Str→Option Value},(∀ v,(x,v) ∉ binds)→bindC kindOf binds m x=m x
 | [],_,_=>rfl
 | (n,v) :: r,m,h=>by
  unfold bindC
  rw [bindC_out fun w hw=>h w (List.mem_cons_of_mem _ hw)]
  split
  ·rfl
  ·have:x≠n:=by rintro rfl;exact h v List.mem_cons_self
   simp [this]
theorem bindL_get {kindOf:Str→Option NameKind}{x:Str}{v:Value}:∀ {P:List Str}{vs:List Value}{i:Nat}{m:Str→Option Value},P.Nodup→P[i]? = some x→vs[i]? = some v→kindOf x=some .local →
  bindL kindOf (P.zip vs) m x=some v
 | [],_,_,_,_,h,_,_=>by simp at h
 | _ :: _,[],_,_,_,_,h,_=>by simp at h
 | p :: P,w :: vs,0,m,nd,h1,h2,hk=>by
  simp at h1 h2;subst h1;subst h2
  show bindL kindOf ((p,w) :: P.zip vs) m p=_
  unfold bindL
  rw [bindL_out fun v hv=>(List.nodup_cons.mp nd).1 (List.of_mem_zip hv).1,if_pos hk]
  simp
 | p :: P,w :: vs,i+1,m,nd,h1,h2,hk=>by
  show bindL kindOf ((p,w) :: P.zip vs) m x=_
  unfold bindL
  exact bindL_get (i:=i) (List.nodup_cons.mp nd).2 (by simpa using h1) (by simpa using h2) hk
theorem bindC_get {kindOf:Str→Option NameKind}{x:Str}{v:Value}:∀ {P:List Str}{vs:List Value}{i:Nat}{m:Str→Option Value},P.Nodup→P[i]? = some x→vs[i]? = some v→kindOf x≠some .local →
  bindC kindOf (P.zip vs) m x=some v
 | [],_,_,_,_,h,_,_=>by simp at h
 | _ :: _,[],_,_,_,_,h,_=>by simp at h
 | p :: P,w :: vs,0,m,nd,h1,h2,hk=>by
  simp at h1 h2;subst h1;subst h2
  show bindC kindOf ((p,w) :: P.zip vs) m p=_
  unfold bindC
  rw [bindC_out fun v hv=>(List.nodup_cons.mp nd).1 (List.of_mem_zip hv).1,if_neg hk]
  simp
 | p :: P,w :: vs,i+1,m,nd,h1,h2,hk=>by
  show bindC kindOf ((p,w) :: P.zip vs) m x=_
  unfold bindC
  exact bindC_get (i:=i) (List.nodup_cons.mp nd).2 (by simpa using h1) (by simpa using h2) hk
def start (N:List Str) (vs:List V):St:=vs.map some ++ List.replicate (N.length - vs.length) none
def cxOf (CX:CXT) (P:Program) (w:World) (K:PySem.W.Frag) (mg:Str→Option Value) (base:Heap) (N:List Str) (qual:Str) (scope:Scope) (f:Addr) (cd:Value) (A:Around) (outer:List Env) (s:Shared) (H:Hp) (E:XK):Cx where
 prog:=P
 w:=w
 K:=K
 mg:=mg
 base:=base
 A:=A.deeper (envOfC qual scope s.heap.objs.size f cd)
 N:=N
 s₀:=s
 H₀:=H
 env:=envOfC qual scope s.heap.objs.size f cd
 outer:=outer
 stack:=envOfC qual scope s.heap.objs.size f cd :: outer
 ex:=[]
 calm:=true
 fn:=fun _=>true
 pn:=[]
 xe:=fun e s'=>wpAny (model P w) (A.deeper (envOfC qual scope s.heap.objs.size f cd)) (leaving (envOfC qual scope s.heap.objs.size f cd) e) (fun _ s''=>CX outer H s E e s'') (fun e' s''=>CX outer H s E e' s'') s'
theorem cell_has {sc:Scope}{n:Nat}{x:Str} (h:sc.names.lookup x=some .cell):∃ c,(cellsFrom n sc.names []).lookup x=some c:=by
 have q:=PySem.W.cellsFrom_some sc.names n [] (.inl h)
 exact Option.isSome_iff_exists.mp q
theorem inv_start {CX:CXT}{P:Program}{w:World}{K:PySem.W.Frag}{mg:Str→Option Value}{base:Heap}{N ps:List Str}{qual:Str}{scope:Scope}{f:Addr}{cd:Value}{A:Around}{outer:List Env}{s s1:Shared}{H:Hp}{E:XK}{us:List Value}{vs:List V}
  (S:FnScope N ps scope) (hd:A.handled=none) (e0:Env0 P w K mg base A outer s H) (hl:vs.length=ps.length) (r:Vals vs us)
  (x:InCallC s s.heap.objs.size (bindL (envOfC qual scope s.heap.objs.size f cd).kindOf (ps.zip us) fun _=>none) (cellsFrom (s.heap.objs.size+1) scope.names []) (bindC (envOfC qual scope s.heap.objs.size f cd).kindOf (ps.zip us) fun _=>none) s1) :
  Inv (cxOf CX P w K mg base N qual scope f cd A outer s H E) [] (start N vs) H s1:=by
 have hpl:ps.length≤N.length:=by have:=congrArg List.length S.pre;rw [List.length_take] at this;omega
 obtain ⟨h1,tk,rfl,hk⟩:=x.done
 have noA:∀ b:Addr,b ∉ (cxOf CX P w K mg base N qual scope f cd A outer s H E).ex:=fun b z=>absurd (show b∈([]:List Addr) from z) (by simp)
 refine ⟨⟨e0.mod,S.kind,rfl,rfl,Nat.le_refl _,fun y z c h1 h2=>?_,fun y hy=>?_,fun y c _ h=>?_,fun _=>hd,Around.frames_deeper e0.frames,.inr ⟨rfl,rfl⟩,fun b z=>absurd z (noA b),e0.bs,e0.bsz,fun b _ _=>noA b,fun b z=>absurd z (noA b),e0.funs,e0.frf⟩,
  rfl,e0.bare,Un.kept hk,⟨_,x.toInCall.ns,fun i y v h1 h2 h3=>?_⟩,fun y c h=>⟨_,x.cell y c h⟩,e0.hok.fresh (Nat.le_refl _),fun y c h=>?_,fun p hp=>absurd (show p∈([]:List (Addr × Obj)) from hp) (by simp),e0.hok.kept hk,?_⟩
 ·exact name_of_addr x.apart (PySem.mem_of_lookup h1) (PySem.mem_of_lookup h2)
 ·have hy:scope.names.lookup y=some .cell∨scope.names.lookup y=some .free:=hy
  rcases hy with hy | hy
  ·exact cell_has hy
  ·exact absurd rfl (S.nofree _ (PySem.mem_of_lookup hy))
 ·exact Nat.le_of_lt (x.above y c (PySem.mem_of_lookup h))
 ·have hi:i<vs.length:=by
   unfold start at h2
   by_cases hi:i<vs.length
   ·exact hi
   ·rw [List.getElem?_append_right (by simpa using hi)] at h2
    rw [List.getElem?_replicate] at h2
    split at h2 <;> cases h2
  have ha:vs[i]? = some v:=by
   unfold start at h2
   rw [List.getElem?_append_left (by simpa using hi),List.getElem?_map] at h2
   cases e:vs[i]? with
   | none=>rw [e] at h2;cases h2
   | some a=>rw [e] at h2;cases h2;rfl
  obtain ⟨u,hu,rv⟩:=r.get ha
  have hp:ps[i]? = some y:=by
   rw [← S.pre,List.getElem?_take_of_lt (by omega)];exact h1
  have ndP:ps.Nodup:=by rw [← S.pre];exact S.nd.sublist (List.take_sublist _ _)
  refine ⟨u,rv,?_⟩
  rcases S.par y (List.mem_of_getElem? hp) with k | k
  ·exact .inl ⟨k,bindL_get ndP hp hu k⟩
  ·obtain ⟨c,e⟩:=cell_has (n:=s.heap.objs.size+1) k
   refine .inr ⟨.inl k,c,e,?_⟩
   have q:=x.cell y c e
   rw [bindC_get ndP hp hu (by show scope.names.lookup y≠_;rw [k];decide)] at q
   exact q
 ·exact e0.hok.fresh (Nat.le_of_lt (x.above y c (PySem.mem_of_lookup h)))
 ·unfold start
  show _=N.length
  rw [List.length_append,List.length_map,List.length_replicate]
  omega
theorem fn_of {CX:CXT}{P:Program}{w:World}{K:PySem.W.Frag}{mg:Str→Option Value}{base:Heap}{k:Nat}{f:Addr}{name qual:Str}{params:Arguments}{body:List Stmt}{scope:Scope}{dV kV doc pm cdv ct oc:Value}{an od:Option Addr}
  {osl:Array (Option Value)}{N ps:List Str}{sp:Sp} (lk:K.lookup f=some ⟨oc,od,.func (PySem.W.fnOf name qual params body scope dV kV doc pm an cdv ct),osl⟩) (hcd:PySem.W.codeIn K cdv qual=true) (S:FnScope N ps scope)
  (len:∀ vs H Q E,sp vs H Q E→vs.length=ps.length)
  (hbody:∀ (A:Around) (outer:List Env) (s:Shared) (H:Hp) (vs:List V) (Q:VK) (E:XK),Room k (A.deeper (envOfC qual scope s.heap.objs.size f cdv))→sp vs H Q E →
   ∃ t,PSs (cxOf CX P w K mg base N qual scope f cdv A outer s H E) body t∧t { nx:=fun _ H'=>Q .non H',rt:=Q } (start N vs) H) :
  FnOk P w K mg base CX (k+1) f (PySem.W.fnOf name qual params body scope dV kV doc pm an cdv ct) ps sp:=by
 refine ⟨len,fun A outer s H args us vs Q E hr e0 hb r hsp=>?_⟩
 have hl:=len _ _ _ _ hsp
 have KX:K.In s.heap:=e0.mod.kin.keeps fun b o e=>(e0.bs b o e).1
 have lim:s.heap.NoLimit:=e0.mod.nolimit.keeps fun b o e=>(e0.bs b o e).1
 have hkind:∀ y∈ps.zip us,scope.names.lookup y.1=some .local∨(scope.names.lookup y.1=some .cell∧((cellsFrom (s.heap.objs.size+1) scope.names []).lookup y.1).isSome=true):=fun ⟨n,v⟩ hy=>by
  rcases S.par n (List.of_mem_zip hy).1 with q | q
  ·exact .inl q
  ·exact .inr ⟨q,PySem.W.cellsFrom_some _ _ _ (.inl q)⟩
 refine codeAny_call_function hr.depth (KX _ _ lk) rfl S.co S.gen rfl (PySem.W.codeRec_of KX hcd) (hb _ _ _ _ ?_)
 refine wpAny_newFunctionEnv_cells S.kind hkind fun env he s1 x=>?_
 subst he
 refine ⟨lim.keeps x.toInCall.keep,codeAny_func ?_⟩
 obtain ⟨t,ht,hq⟩:=hbody A outer s H vs Q E (hr.deeper _) hsp
 have I:Inv (cxOf CX P w K mg base N qual scope f cdv A outer s H E) [] (start N vs) H s1:=inv_start S hr.hd e0 hl r x
 refine wpAny_mono (ht [] s1 (start N vs) H _ I hq) (fun fl s' hs=>?_) fun e s' hs=>hs
 have fin:∀ {σ':St}{H':Hp}{v:V}{u:Value},Inv (cxOf CX P w K mg base N qual scope f cdv A outer s H E) [] σ' H' s'→RelV v u→Q v H'→CE outer P w H s Q u s' :=
  fun {σ' H' v u} J rv q=>⟨v,H',J.os,J.bare,J.base,J.hok,rv,q⟩
 cases fl with
 | ret u =>
  obtain ⟨v,σ',H',J,rv,q⟩:=hs
  exact fin J rv q
 | next =>
  obtain ⟨σ',H',J,q⟩:=hs
  exact fin (v:=V.non) (u:=Value.none) J rfl q
 | brk =>
  obtain ⟨_,_,_,q⟩:=hs
  exact False.elim q
 | cont =>
  obtain ⟨_,_,_,q⟩:=hs
  exact False.elim q
section
variable {X:Cx}{x:Str}{p pos:Pos}{e:Expr}{es:List Expr}{t:TA}{id T:String}{r:List V→Hp→VK→Prop}
def tCB (r:List V→Hp→VK→Prop) (t:TA):TE:=fun σ H Q=>t σ H fun vs H1=>r vs H1 Q
theorem pe_callB (hc:CallR X (.builtin id) r) (hg:Gl X x) (hm:X.mg x=none) (hv:bootBuiltins x=some (.builtin id)) (ha:PA X (e :: es) t) (hn:x ≠ "__name__":=by decide) (hdb:(x == ("__debug__" : Str))=false:=by decide)
  (he:starEach (e :: es) X.env=(false,eval e X.env) :: starEach es X.env:=by rfl) (hpl:(backTo pos (starEach es X.env)).any (·.1)=false:=by rfl):PE X (.Call (.Name x p) (e :: es) [] pos) (tCB r t):=by
 intro pins s σ H Q I h
 refine wpAny_Call_Name_kw (ld_blt I hg hm hv ?_ hn hdb)
 exact PyProof.Rows.callWith_builtin1 (thn (ha pos pins s σ H _ I h) fun us s1 ⟨vs,H1,I1,r1,q1⟩=>hc pins s1 σ H1 vs us Q I1 r1 q1) he hpl
theorem pe_callTy (hc:CallR X (.type T) r) (hg:Gl X x) (hm:X.mg x=none) (hv:bootBuiltins x=some (.type T)) (ha:PA X (e :: es) t) (hn:x ≠ "__name__":=by decide) (hdb:(x == ("__debug__" : Str))=false:=by decide)
  (he:starEach (e :: es) X.env=(false,eval e X.env) :: starEach es X.env:=by rfl) (hpl:(backTo pos (starEach es X.env)).any (·.1)=false:=by rfl):PE X (.Call (.Name x p) (e :: es) [] pos) (tCB r t):=by
 intro pins s σ H Q I h
 refine wpAny_Call_Name_kw (ld_blt I hg hm hv ?_ hn hdb)
 exact PyProof.Rows.callWith_type1 (thn (ha pos pins s σ H _ I h) fun us s1 ⟨vs,H1,I1,r1,q1⟩=>hc pins s1 σ H1 vs us Q I1 r1 q1) he hpl
end
end L2
namespace HT
open PySem PyProof.Rows
section
open PySem.SeqAt
open PySem.AutoSeq1 (wpAny_loadPart')
open PySem.MeetsSeq PySem.MeetsSeq2 PySem.MeetsSeq3
end
section
variable {prog:Program}{w:World}{A:Around}{E:Value→Shared→Prop}{s:Shared}
def sIx (n d:Nat):Option Int→Nat
 | none=>d
 | some v=>if v<0 then (v+(n:Int)).toNat else min v.toNat n
theorem sIx_nat (n d k:Nat):sIx n d (some (k:Int))=min k n:=by
 show (if (k:Int)<0 then ((k:Int)+(n:Int)).toNat else min (k:Int).toNat n)=min k n
 rw [if_neg (by omega),Int.toNat_natCast]
end
end HT
namespace L2
open PySem PySem.Spec PyProof.Rows
abbrev TO:=St→Hp→(Option Int→Hp→Prop)→Prop
def PO (X:Cx) (e:Option Expr) (t:TO):Prop :=
 ∀ (pins:List (Addr × Obj)) (s:Shared) (σ:St) (H:Hp) (Q:Option Int→Hp→Prop),Inv X pins σ H s→t σ H Q →
  wpAny (model X.prog X.w) X.A (evalPart e X.env) (fun u s'=>∃ o H',Inv X pins σ H' s'∧IsPart u o∧Q o H') X.xe s
def tNoPart:TO:=fun _ H Q=>Q none H
def tPart (t:TE):TO:=fun σ H Q=>t σ H fun x H1=>∃ i,x=.int i∧Q (some i) H1
section
variable {X:Cx}{e:Expr}{te:TE}{lo hi:Option Expr}{tl th:TO}{pos p2:Pos}
theorem po_none:PO X none tNoPart:=by
 intro pins s σ H Q I h
 rw [evalPart_none]
 exact wpAny_pure ⟨none,H,I,.none,h⟩
theorem po_some (h:PE X e te):PO X (some e) (tPart te):=by
 intro pins s σ H Q I hw
 rw [evalPart_some]
 refine thn (h pins s σ H _ I hw) fun u s1 ⟨x,H1,I1,r1,q1⟩=>?_
 obtain ⟨i,rfl,q⟩:=q1
 obtain ⟨t,rfl⟩:=r1
 exact ⟨some i,H1,I1,.int i t,q⟩
def SlR (X:Cx) (r:V→Option Int→Option Int→Hp→VK→Prop):Prop :=
 ∀ (pins:List (Addr × Obj)) (s:Shared) (σ:St) (H:Hp) (x:V) (v vl vu:Value) (lo hi:Option Int) (sl:Addr) (Q:VK),Inv X pins σ H s→RelV x v→s.heap.IsSliceOf sl vl vu .none→IsPart vl lo→IsPart vu hi→r x lo hi H Q →
  ∃ T id,typeLookup (.type T) "__getitem__" = pure (some (.builtin id))∧s.TypeIs v T∧wpAny (model X.prog X.w) X.A (getItem v (.ref sl)) (EP X pins σ Q) X.xe s
def tSl (r:V→Option Int→Option Int→Hp→VK→Prop) (te:TE) (tl th:TO):TE:=fun σ H Q=>te σ H fun x H1=>tl σ H1 fun l H2=>th σ H2 fun u H3=>r x l u H3 Q
theorem pe_slice {r:V→Option Int→Option Int→Hp→VK→Prop} (hr:SlR X r) (he:PE X e te) (hl:PO X lo tl) (hu:PO X hi th):PE X (.Subscript e (.Slice lo hi none p2) pos) (tSl r te tl th):=by
 intro pins s σ H Q I h
 refine Subscript_ (thn (he pins s σ H _ I h) fun v s1 ⟨x,H1,I1,r1,q1⟩=>?_)
 refine wpAny_Slice (thn (hl pins s1 σ H1 _ I1 q1) fun vl s2 ⟨l,H2,I2,pl,q2⟩=>thn (hu pins s2 σ H2 _ I2 q2) fun vu s3 ⟨u,H3,I3,pu,q3⟩=>?_)
 rw [evalPart_none]
 refine wpAny_pure ?_
 have I4:Inv X pins σ H3 { s3 with heap:=s3.heap.push { cls:=.type "slice",data:=.fields #[vl,vu,.none] } }:=I3.kept (t':=s3.toks) fun b ob q=>Heap.get?_push_of_some _ q
 obtain ⟨T,id,hT,ht,hg⟩:=hr pins { s3 with heap:=s3.heap.push { cls:=.type "slice",data:=.fields #[vl,vu,.none] } } σ H3 x v vl vu l u s3.heap.objs.size Q I4 r1 (Heap.IsSliceOf.new ..) pl pu q3
 show wpAny (model X.prog X.w) X.A (subscriptTail e (.Slice lo hi none p2) v (.ref s3.heap.objs.size)) (EP X pins σ Q) X.xe { s3 with heap:=s3.heap.push { cls:=.type "slice",data:=.fields #[vl,vu,.none] } }
 exact tail_any (ops:=[.ref s3.heap.objs.size,v]) ht hT hg (by with_unfolding_all rfl)
def cutV (xs:List V) (lo hi:Option Int):List V:=(xs.drop (HT.sIx xs.length 0 lo)).take (HT.sIx xs.length xs.length hi - HT.sIx xs.length 0 lo)
theorem cutV_length (xs:List V) (lo hi:Option Int):(cutV xs lo hi).length≤xs.length:=by
 unfold cutV
 rw [List.length_take,List.length_drop]
 omega
end
def ixN (n:Nat) (i:Int):Option Nat:=if 0≤i then (if i<n then some i.toNat else none) else if -(n:Int)≤i then some (i+n).toNat else none
def atI {α:Type} (xs:List α) (i:Int):Option α:=(ixN xs.length i).bind fun j=>xs[j]?
theorem ixN_seq {n:Nat}{i:Int}{j:Nat} (h:ixN n i=some j):seqIndex? i n=some j∧j<n ∧ -(n:Int)≤i∧i<n:=by
 unfold ixN at h
 by_cases h0:0≤i
 ·rw [if_pos h0] at h
  by_cases h1:i<n
  ·rw [if_pos h1] at h
   have e:i.toNat=j:=Option.some.inj h
   exact ⟨by rw [seqIndex_of h0 h1,e],by omega,by omega,h1⟩
  ·rw [if_neg h1] at h;cases h
 ·rw [if_neg h0] at h
  by_cases h1 : -(n:Int)≤i
  ·rw [if_pos h1] at h
   have e:(i+n).toNat=j:=Option.some.inj h
   exact ⟨by rw [seqIndex_neg (by omega) h1,e],by omega,h1,by omega⟩
  ·rw [if_neg h1] at h;cases h
theorem atI_get {α:Type}{xs:List α}{i:Int}{v:α} (h:atI xs i=some v):∃ j,seqIndex? i xs.length=some j∧xs[j]? = some v∧j<xs.length ∧ -(xs.length:Int)≤i∧i<xs.length:=by
 unfold atI at h
 cases e:ixN xs.length i with
 | none=>rw [e] at h;cases h
 | some j =>
  rw [e] at h
  obtain ⟨h1,h2,h3,h4⟩:=ixN_seq e
  exact ⟨j,h1,h,h2,h3,h4⟩
theorem atI_nat {α:Type}{xs:List α}{j:Nat}{v:α} (h:xs[j]? = some v):atI xs (j:Int)=some v:=by
 have hj:j<xs.length:=(List.getElem?_eq_some_iff.mp h).1
 have e:ixN xs.length (j:Int)=some j:=by
  unfold ixN
  rw [if_pos (by omega),if_pos (by omega)];simp
 unfold atI;rw [e];exact h
def PlainIx (b:Expr):Prop:=∀ o i,subscripted b false o i=operate [o,i] (getItem o i)
def IxR (X:Cx) (r:R2):Prop :=
 ∀ (value slice:Expr) (pins:List (Addr × Obj)) (s:Shared) (σ:St) (H:Hp) (x y:V) (v u:Value) (Q:VK),Inv X pins σ H s→RelV x v→RelV y u→r x y H Q →
  subscripted slice false v u=operate [v,u] (getItem v u)→wpAny (model X.prog X.w) X.A (subscriptTail value slice v u) (EP X pins σ Q) X.xe s
def MtR (X:Cx) (id:String) (r:V→List V→Hp→VK→Prop):Prop :=
 ∀ (pins:List (Addr × Obj)) (s:Shared) (σ:St) (H:Hp) (x:V) (xs:List V) (v:Value) (us:List Value) (Q:VK),Inv X pins σ H s→RelV x v→Vals xs us→r x xs H Q →
  wpAny (model X.prog X.w) X.A (call (.builtin id) (v :: us)) (EP X pins σ Q) X.xe s
section
variable {X:Cx}{a b:Expr}{ta tb:TE}{pos:Pos}
theorem IxR.or {r r':R2} (h:IxR X r) (h':IxR X r'):IxR X (fun x y H Q=>r x y H Q∨r' x y H Q):=by
 intro value slice pins s σ H x y v u Q I rx ry q hs
 rcases q with q | q
 ·exact h value slice pins s σ H x y v u Q I rx ry q hs
 ·exact h' value slice pins s σ H x y v u Q I rx ry q hs
theorem pe_ix {r:R2} (hr:IxR X r) (ha:PE X a ta) (hb:PE X b tb) (hs:PlainIx b):PE X (.Subscript a b pos) (tOp r ta tb):=by
 intro pins s σ H Q I h
 exact Subscript_ (binT ha hb I h fun v u s2 x y H2 I2 rx ry q=>hr a b pins s2 σ H2 x y v u Q I2 rx ry q (hs _ _))
def rIxL (K:PySem.W.Frag):R2:=fun x y H Q=>∃ p xs i v,x=.ref p∧y=.int i∧SqL K H p xs∧atI xs i=some v∧Q v H
def rIxT (K:PySem.W.Frag):R2:=fun x y H Q=>∃ p xs i v,x=.ref p∧y=.int i∧SqT K H p xs∧atI xs i=some v∧Q v H
def rIxS:R2:=fun x y H Q=>∃ z i c,x=.str z∧y=.int i∧z.length≤sizeLine∧atI z.cps.toList i=some c∧Q (.str ⟨#[c]⟩) H
theorem ix_list:IxR X (rIxL X.K):=by
 intro value slice pins s σ H x y v u Q I rx ry h hs
 obtain ⟨p,xs,i,z,rfl,rfl,hq,he,q⟩:=h
 cases rx
 obtain ⟨t,rfl⟩:=ry
 obtain ⟨its,r,pl,hz⟩:=I.list hq
 obtain ⟨j,h1,h2,h3,h4,h5⟩:=atI_get he
 obtain ⟨w,ew,rw'⟩:=r.get h2
 have hl:=r.length
 have hn:=line63
 have fin:EP X pins σ Q w s:=⟨z,H,I,rw',q⟩
 by_cases h0:0≤i
 ·have hj:i.toNat=j:=by
   rw [seqIndex_of h0 h5] at h1
   exact Option.some.inj h1
  exact item_listR pl.isList h0 (by omega) (by rw [hj];simpa using ew) fin hs
 ·have hj:(i+(its.toArray.size:Int)).toNat=j:=by
   rw [seqIndex_neg (by omega) h4] at h1
   rw [List.size_toArray,← hl]
   exact Option.some.inj h1
  exact subscriptTail_builtinR (x:=w) pl.isList.typeIs slot_list_getitem.lookup
   (wpAny_getItem_list_neg (Q:=fun r s'=>r=w∧EP X pins σ Q r s') pl.isList (by omega) (by rw [List.size_toArray] <;> omega) (by omega) (by rw [hj];simpa using ew) ⟨rfl,fin⟩) hs
theorem ix_tup:IxR X (rIxT X.K):=by
 intro value slice pins s σ H x y v u Q I rx ry h hs
 obtain ⟨p,xs,i,z,rfl,rfl,hq,he,q⟩:=h
 cases rx
 obtain ⟨t,rfl⟩:=ry
 obtain ⟨its,r,pl,hz⟩:=I.tuple hq
 obtain ⟨j,h1,h2,h3,h4,h5⟩:=atI_get he
 obtain ⟨w,ew,rw'⟩:=r.get h2
 have hl:=r.length
 have hn:=line63
 have fin:EP X pins σ Q w s:=⟨z,H,I,rw',q⟩
 exact subscriptTail_builtinR (x:=w) pl.typeIs slot_tuple_getitem.lookup
  (getItem_tuple (j:=j) (Q:=fun r s'=>r=w∧EP X pins σ Q r s') pl (by omega) (by omega) (by rw [List.size_toArray,← hl];exact h1) (by simpa using ew) ⟨rfl,fin⟩) hs
theorem ix_str:IxR X rIxS:=by
 intro value slice pins s σ H x y v u Q I rx ry h hs
 obtain ⟨z,i,c,rfl,rfl,hz,he,q⟩:=h
 obtain ⟨t,rfl⟩:=rx
 obtain ⟨t',rfl⟩:=ry
 obtain ⟨j,h1,h2,h3,h4,h5⟩:=atI_get he
 have hl:z.cps.toList.length=z.length:=by simp [Str.length]
 rw [hl] at h1 h4 h5
 have hn:=line63
 exact tail_any (typeIs_str s z t) slot_str_getitem.lookup (getItem_str (c:=c) (by
  have e1:decide (i < -(2 ^ 63:Int))=false:=decide_eq_false (by omega)
  have e2:decide (i ≥ 2 ^ 63)=false:=decide_eq_false (by omega)
  rw [e1,e2,Bool.or_false]) (by rw [h1];simpa using h2) ⟨.str ⟨#[c]⟩,H,I.tok _,⟨_,rfl⟩,q⟩) hs
def rIx (K:PySem.W.Frag):R2:=fun x y H Q=>rIxL K x y H Q∨rIxT K x y H Q∨rIxS x y H Q
theorem ix_seq:IxR X (rIx X.K):=ix_list.or (ix_tup.or ix_str)
theorem mapSeq_set (its:List Value) (n j:Nat) (u:Value):Obj.mapSeq (·.setIfInBounds j u) { cls:=.type "list",data:=.seq its.toArray n }={ cls:=.type "list",data:=.seq (its.set j u).toArray n }:=by
 simp [Obj.mapSeq]
theorem Inv.lst {pins:List (Addr × Obj)}{σ:St}{H:Hp}{s:Shared}{p:Addr}{xs:List V} (I:Inv X pins σ H s) (h:H p=some (.lst xs)) :
  ∃ (its:List Value) (n:Nat),Vals xs its∧s.heap.get? p=some { cls:=.type "list",data:=.seq its.toArray n }∧xs.length≤sizeLine:=by
 obtain ⟨z,its,n,r,e⟩:=I.hok p _ h
 exact ⟨its,n,r,e,z⟩
theorem Inv.lstUpd {pins:List (Addr × Obj)}{σ:St}{H:Hp}{s:Shared}{p:Addr}{xs ys:List V}{its its':List Value}{n n':Nat}{f:Obj→Obj} (I:Inv X pins σ H s) (h:H p=some (.lst xs))
  (ho:s.heap.get? p=some { cls:=.type "list",data:=.seq its.toArray n }) (hf:f { cls:=.type "list",data:=.seq its.toArray n }={ cls:=.type "list",data:=.seq its'.toArray n' }) (r:Vals ys its') (hz:ys.length≤sizeLine) (t:Nat) :
  Inv X pins σ (upd H p (.lst ys)) { s with heap:=s.heap.update p f,toks:=t }:=by
 have e:(s.heap.update p f).get? p=some { cls:=.type "list",data:=.seq its'.toArray n' }:=by
  rw [Heap.get?_update_self f ho (by rw [hf] <;> rfl),hf]
 refine I.write (x:=p) (e:=p) (by rw [h];trivial) (.inl rfl) (fun b u hb q=>(Heap.get?_update_other _ _ (Ne.symm hb)).trans q) ⟨_,e⟩ ?_
 exact ⟨hz,its',n',r,e⟩
def rSetL:V→V→V→Hp→(Hp→Prop)→Prop:=fun o i v H Q=>∃ p xs k j,o=.ref p∧i=.int k∧H p=some (.lst xs)∧ixN xs.length k=some j∧Q (upd H p (.lst (xs.set j v)))
theorem set_list:PSet X rSetL:=by
 intro pins s σ H o i v ov iv u Q I ro ri rv h
 obtain ⟨p,xs,k,j,rfl,rfl,hp,hj,q⟩:=h
 cases ro
 obtain ⟨t,rfl⟩:=ri
 obtain ⟨its,n,r,ho,hz⟩:=I.lst hp
 obtain ⟨h1,h2,h3,h4⟩:=ixN_seq hj
 have hl:=r.length
 have hn:=line63
 have I':Inv X pins σ (upd H p (.lst (xs.set j v))) { s with heap:=s.heap.update p (Obj.mapSeq (·.setIfInBounds j u)) } :=
  I.lstUpd hp ho (mapSeq_set its n j u) (r.set rv j) (by rw [List.length_set];exact hz) s.toks
 by_cases h0:0≤k
 ·have hk:k.toNat=j:=by
   rw [seqIndex_of h0 h4] at h1
   exact Option.some.inj h1
  exact PySem.W.ki_setAt ho h0 (by omega) (by rw [List.size_toArray,← hl];exact h4) (by rw [hk];exact ⟨_,I',q⟩)
 ·have hk:(k+(its.toArray.size:Int)).toNat=j:=by
   rw [seqIndex_neg (by omega) h3] at h1
   rw [List.size_toArray,← hl]
   exact Option.some.inj h1
  exact PySem.W.ki_setBack ho (by omega) (by rw [List.size_toArray,← hl];exact h3) (by omega) (by rw [hk];exact ⟨_,I',q⟩)
theorem slice_bounds (lo hi:Option Int) (n:Nat):(sliceBounds lo hi none n).1=((HT.sIx n 0 lo:Nat):Int)∧(sliceBounds lo hi none n).2.1=((HT.sIx n n hi:Nat):Int)∧(sliceBounds lo hi none n).2.2=1:=by
 refine ⟨?_,?_,rfl⟩
 ·cases lo with
  | none=>simp [sliceBounds,HT.sIx]
  | some i =>
   simp only [sliceBounds,HT.sIx,Option.getD_none,show (1:Int) > 0 by decide,if_true]
   by_cases h:i<0
   ·simp only [h,if_true] <;> omega
   ·simp only [h,if_false] <;> omega
 ·cases hi with
  | none=>simp [sliceBounds,HT.sIx]
  | some i =>
   simp only [sliceBounds,HT.sIx,Option.getD_none,show (1:Int) > 0 by decide,if_true]
   by_cases h:i<0
   ·simp only [h,if_true] <;> omega
   ·simp only [h,if_false] <;> omega
theorem slicePick_cut (its:List Value) (lo hi:Option Int):slicePick its.toArray lo hi none=((its.drop (HT.sIx its.length 0 lo)).take (HT.sIx its.length its.length hi - HT.sIx its.length 0 lo)).toArray:=by
 obtain ⟨h1,h2,h3⟩:=slice_bounds lo hi its.toArray.size
 unfold slicePick
 rw [h1,h2,h3]
 simp only [sliceRange_one,pick_run,List.size_toArray] <;> rfl
def rSlL (K:PySem.W.Frag):V→Option Int→Option Int→Hp→VK→Prop:=fun x lo hi H Q=>∃ a xs,x=.ref a∧SqL K H a xs∧∀ p,H p=none→Q (.ref p) (upd H p (.lst (cutV xs lo hi)))
theorem sl_list:SlR X (rSlL X.K):=by
 intro pins s σ H x v vl vu lo hi sl Q I rx hs pl pu h
 obtain ⟨a,xs,rfl,hx,q⟩:=h
 cases rx
 obtain ⟨its,r,ht,hz⟩:=I.list hx
 have hlen:=r.length
 refine ⟨"list",_,slot_list_getitem.lookup,ht.isList.typeIs,?_⟩
 refine wpAny_getItem_list_slice ht.isList hs pl pu .none (by simp) ?_ (by rw [List.size_toArray] <;> omega)
 rw [slicePick_cut,← hlen]
 refine ⟨.ref s.heap.objs.size,_,I.laid (t':=s.toks) (o:=.lst (cutV xs lo hi)) (fun b ob q=>Heap.get?_push_of_some _ q) (Nat.le_refl _) ?_,rfl,q _ (I.hok.fresh (Nat.le_refl _))⟩
 exact ⟨Nat.le_trans (cutV_length xs lo hi) hz,_,0,(r.drop (HT.sIx xs.length 0 lo)).take (HT.sIx xs.length xs.length hi - HT.sIx xs.length 0 lo),Heap.get?_push_size _ rfl⟩
def flatV:V→Bool
 | .non=>true
 | .bl _=>true
 | .int _=>true
 | .str _=>true
 | _=>false
def eqV:V→V→Bool
 | .non,.non=>true
 | .bl a,.bl b=>a == b
 | .bl a,.int b=>(if a then 1 else 0) == b
 | .int a,.bl b=>a == (if b then 1 else 0)
 | .int a,.int b=>a == b
 | .str a,.str b=>a == b
 | _,_=>false
theorem eqAt_V {A:Around}{s:Shared}{y x:V}{u v:Value} (ry:RelV y u) (rx:RelV x v) (fy:flatV y=true) (fx:flatV x=true):SeqAt.EqAt A s u v (eqV y x):=by
 cases y with
 | non =>
  cases ry
  cases x with
  | non=>cases rx;exact SeqAt.EqAt.same _
  | bl b=>cases rx;exact SeqAt.EqAt.none_bool b
  | int b=>obtain ⟨t,rfl⟩:=rx;exact SeqAt.EqAt.none_int b t
  | str b=>obtain ⟨t,rfl⟩:=rx;exact SeqAt.EqAt.none_str b t
  | _=>exact absurd (show false=true from fx) Bool.false_ne_true
 | bl a =>
  cases ry
  cases x with
  | non=>cases rx;exact SeqAt.EqAt.bool_none a
  | bl b=>cases rx;exact SeqAt.EqAt.bool_bool a b
  | int b=>obtain ⟨t,rfl⟩:=rx;exact SeqAt.EqAt.bool_int a b t
  | str b=>obtain ⟨t,rfl⟩:=rx;exact SeqAt.EqAt.bool_str a b t
  | _=>exact absurd (show false=true from fx) Bool.false_ne_true
 | int a =>
  obtain ⟨t',rfl⟩:=ry
  cases x with
  | non=>cases rx;exact SeqAt.EqAt.int_none a t'
  | bl b=>cases rx;exact SeqAt.EqAt.int_bool a t' b
  | int b=>obtain ⟨t,rfl⟩:=rx;exact SeqAt.EqAt.int_int a t' b t
  | str b=>obtain ⟨t,rfl⟩:=rx;exact SeqAt.EqAt.int_str a t' b t
  | _=>exact absurd (show false=true from fx) Bool.false_ne_true
 | str a =>
  obtain ⟨t',rfl⟩:=ry
  cases x with
  | non=>cases rx;exact SeqAt.EqAt.str_none a t'
  | bl b=>cases rx;exact SeqAt.EqAt.str_bool a t' b
  | int b=>obtain ⟨t,rfl⟩:=rx;exact SeqAt.EqAt.str_int a t' b t
  | str b=>obtain ⟨t,rfl⟩:=rx;exact SeqAt.EqAt.str_str a t' b t
  | _=>exact absurd (show false=true from fx) Bool.false_ne_true
 | _=>exact absurd (show false=true from fy) Bool.false_ne_true
def eqU (x:V) (u:Value):Bool:=match u with
 | .none=>eqV .non x
 | .bool b=>eqV (.bl b) x
 | .int i _=>eqV (.int i) x
 | .str z _=>eqV (.str z) x
 | _=>false
theorem eqU_of {x y:V}{u:Value} (r:RelV y u) (f:flatV y=true):eqU x u=eqV y x:=by
 cases y with
 | non=>cases r;rfl
 | bl b=>cases r;rfl
 | int i=>obtain ⟨t,rfl⟩:=r;rfl
 | str z=>obtain ⟨t,rfl⟩:=r;rfl
 | _=>exact absurd (show false=true from f) Bool.false_ne_true
theorem any_eqU {x:V}:∀ {xs:List V}{us:List Value},Vals xs us→xs.all flatV=true→us.any (eqU x)=xs.any fun y=>eqV y x
 | _,_,.nil,_=>rfl
 | y :: xs,u :: us,.cons r t,f=>by
  rw [List.all_cons,Bool.and_eq_true] at f
  rw [List.any_cons,List.any_cons,eqU_of r f.1,any_eqU t f.2]
theorem mem_eqAt {A:Around}{s:Shared}{x:V}{v:Value} (rx:RelV x v) (fx:flatV x=true):∀ {xs:List V}{us:List Value},Vals xs us→xs.all flatV=true→∀ u∈us,SeqAt.EqAt A s u v (eqU x u)
 | _,_,.nil,_=>fun u hu=>by cases hu
 | y :: xs,u :: us,.cons r t,f=>fun u' hu=>by
  rw [List.all_cons,Bool.and_eq_true] at f
  rcases List.mem_cons.mp hu with rfl | hu
  ·rw [eqU_of r f.1];exact eqAt_V r rx f.1 fx
  ·exact mem_eqAt rx fx t f.2 u' hu
def inV (x:V) (xs:List V):Bool:=xs.any fun y=>eqV y x
def rIn (K:PySem.W.Frag) (neg:Bool):R2:=fun x y H Q=>∃ p xs,y=.ref p∧(SqL K H p xs∨SqT K H p xs)∧flatV x=true∧xs.all flatV=true∧Q (.bl (if neg then !inV x xs else inV x xs)) H
theorem op_in_seq:OpR X (compareOp .In) (rIn X.K false):=by
 intro pins s σ H x y v u Q I rx ry h
 obtain ⟨p,xs,rfl,hq,fx,fs,q⟩:=h
 cases ry
 rcases hq with hq | hq
 ·obtain ⟨its,r,pl,hz⟩:=I.list hq
  refine SeqAt.in_listAt (eqU x) pl.isList (fun w hw=>mem_eqAt rx fx r fs w (by simpa using hw)) ⟨.bl _,H,I,rfl,?_⟩
  rw [show its.toArray.any (eqU x)=its.any (eqU x) by simp,any_eqU r fs]
  exact q
 ·obtain ⟨its,r,pl,hz⟩:=I.tuple hq
  refine SeqAt.in_tupleAt (eqU x) pl (fun w hw=>mem_eqAt rx fx r fs w (by simpa using hw)) ⟨.bl _,H,I,rfl,?_⟩
  rw [show its.toArray.any (eqU x)=its.any (eqU x) by simp,any_eqU r fs]
  exact q
theorem call_len_seq:CallR X (.builtin "len") (fun xs H Q=>∃ p ys,xs=[.ref p]∧(SqL X.K H p ys∨SqT X.K H p ys)∧Q (.int ys.length) H):=by
 intro pins s σ H xs us Q I r h
 obtain ⟨p,ys,rfl,hq,q⟩:=h
 obtain ⟨u,rfl,rx⟩:=vals1 r
 cases rx
 have hn:=line63
 rcases hq with hq | hq
 ·obtain ⟨its,r',pl,hz⟩:=I.list hq
  have hlen:=r'.length
  exact Calls.call_len_list pl.isList (by simp only [List.size_toArray] <;> omega) ⟨.int ys.length,H,I.tok _,⟨s.toks+1,by rw [List.size_toArray,hlen]⟩,q⟩
 ·obtain ⟨its,r',pl,hz⟩:=I.tuple hq
  have hlen:=r'.length
  exact len_tuple pl (by simp only [List.size_toArray] <;> omega) ⟨.int ys.length,H,I.tok _,⟨s.toks+1,by rw [List.size_toArray,hlen]⟩,q⟩
theorem call_len_str:CallR X (.builtin "len") (fun xs H Q=>∃ z,xs=[.str z]∧z.length≤sizeLine∧Q (.int z.length) H):=by
 intro pins s σ H xs us Q I r h
 obtain ⟨z,rfl,hz,q⟩:=h
 obtain ⟨u,rfl,t,rfl⟩:=vals1 r
 have hn:=line63
 exact len_str (by omega) ⟨.int z.length,H,I.tok _,⟨_,rfl⟩,q⟩
theorem call_tuple_of:CallR X (.type "tuple") (fun xs H Q=>∃ p ys,xs=[.ref p]∧((SqL X.K H p ys∧∀ l,H l=none→Q (.ref l) (upd H l (.tup ys)))∨(SqT X.K H p ys∧Q (.ref p) H))):=by
 intro pins s σ H xs us Q I r h
 obtain ⟨p,ys,rfl,h⟩:=h
 obtain ⟨u,rfl,rx⟩:=vals1 r
 cases rx
 rcases h with ⟨hq,q⟩ | ⟨hq,q⟩
 ·obtain ⟨its,r',pl,hz⟩:=I.list hq
  have hlen:=r'.length
  refine call_tuple_list pl.isList (fun h' kp=>?_) (by simp only [List.size_toArray] <;> omega)
  have I1:Inv X pins σ H { s with heap:=h' }:=I.kept (t':=s.toks) kp
  have I2:Inv X pins σ (upd H h'.objs.size (.tup ys)) { s with heap:=h'.push { cls:=.type "tuple",data:=.seq its.toArray } } :=
   I1.laid (t':=s.toks) (fun b o e=>Heap.get?_push_of_some _ e) (Nat.le_refl _) (show ObjOk X.prog X.w _ _ _ (.tup ys) from ⟨hz,its,r',IsTup.new _ _⟩)
  exact ⟨.ref h'.objs.size,_,I2,rfl,q _ (I1.hok.fresh (Nat.le_refl _))⟩
 ·obtain ⟨its,r',pl,hz⟩:=I.tuple hq
  exact call_tuple_same pl ⟨.ref p,H,I,rfl,q⟩
def tyV (K:PySem.W.Frag) (T:String) (x:V) (H:Hp):Prop:=match x with
 | .str _=>T = "str"
 | .int _=>T = "int"
 | .ref p=>(T = "list" ∧ ∃ xs,SqL K H p xs)∨(T = "tuple" ∧ ∃ o,K.lookup p=some o∧o.cls=.type "tuple" ∧ o.dict=none) ∨
   (T = "dict" ∧ ((∃ kvs,H p=some (.dK kvs))∨∃ kvs,H p=some (.dT kvs)))∨(T = "set" ∧ ∃ S n,H p=some (.set S n))
 | _=>False
theorem tyV_is {pins:List (Addr × Obj)}{σ:St}{H:Hp}{s:Shared}{T:String}{x:V}{v:Value} (I:Inv X pins σ H s) (r:RelV x v) (ty:tyV X.K T x H) :
  s.TypeIs v T∧∀ a,v=.ref a→∃ ob,s.heap.get? a=some ob∧ob.dict=none:=by
 cases x with
 | str z =>
  obtain ⟨t,rfl⟩:=r
  cases (show T = "str" from ty)
  exact ⟨typeIs_str s z t,fun _ e=>nomatch e⟩
 | int i =>
  obtain ⟨t,rfl⟩:=r
  cases (show T = "int" from ty)
  exact ⟨typeIs_int s i t,fun _ e=>nomatch e⟩
 | ref p =>
  cases r
  rcases ty with ⟨rfl,xs,hq⟩ | ⟨rfl,o,hk,hc,hd⟩ | ⟨rfl,hk⟩ | ⟨rfl,S,n,hk⟩
  ·obtain ⟨its,_,pl,_⟩:=I.list hq
   refine ⟨pl.isList.typeIs,fun a e=>?_⟩
   cases e
   obtain ⟨o,n,e,c,hd,_⟩:=pl
   exact ⟨o,e,hd⟩
  ·refine ⟨⟨o,I.kIn p o hk,hc⟩,fun a e=>?_⟩
   cases e
   exact ⟨o,I.kIn _ o hk,hd⟩
  ·have z:∃ o,s.heap.get? p=some o∧o.ExactDict:=by
    rcases hk with ⟨kvs,hk⟩ | ⟨kvs,hk⟩
    ·obtain ⟨_,_,_,_,o,_,_,e,ex,_⟩:=I.hok p _ hk
     exact ⟨o,e,ex⟩
    ·obtain ⟨_,_,_,_,o,_,_,e,ex,_⟩:=I.hok p _ hk
     exact ⟨o,e,ex⟩
   obtain ⟨o,e,ex⟩:=z
   refine ⟨⟨o,e,ex.1⟩,fun a e2=>?_⟩
   cases e2
   exact ⟨o,e,ex.2.1⟩
  ·obtain ⟨o,_,_,_,e,ex,_⟩:=I.hok p _ hk
   refine ⟨⟨o,e,ex.1⟩,fun a e2=>?_⟩
   cases e2
   exact ⟨o,e,ex.2.1⟩
 | _=>exact False.elim ty
def tBM (K:PySem.W.Frag) (T:String) (r:V→List V→Hp→VK→Prop) (to:TE) (t:TA):TE:=fun σ H Q=>to σ H fun x H1=>tyV K T x H1∧t σ H1 fun xs H2=>r x xs H2 Q
variable {o e:Expr}{es:List Expr}{to:TE}{t:TA}{name:Str}{apos cpos:Pos}{T id:String}{r:V→List V→Hp→VK→Prop}
theorem pe_bm (pa:PlainAttrs T) (slot:Slot T name id) (hty:typeOf (.builtin id)=pure (.type "method_descriptor")) (hm:MtR X id r) (ho:PE X o to) (ha:PA X (e :: es) t)
  (hbase:attributeBase o name X.env (eval o X.env)=eval o X.env:=by rfl)
  (hfew:((backTo cpos (starEach (e :: es) X.env)).all (fun x=>!x.1) && (backToKw cpos (keywordEach [] X.env)).all (fun x=>x.1.isSome)
   && decide ((e :: es).length+([]:List Keyword).length+(if ([]:List Keyword).isEmpty then 0 else 1)<30))=true:=by rfl)
  (hline:(apos.endLine == cpos.line)=true:=by rfl) (hs:starEach (e :: es) X.env=(false,eval e X.env) :: starEach es X.env:=by rfl) (hplain:(backTo cpos (starEach es X.env)).any (·.1)=false:=by rfl) :
  PE X (.Call (.Attribute o name apos) (e :: es) [] cpos) (tBM X.K T r to t):=by
 intro pins s σ H Q I h
 refine wpAny_Call_method_late hbase hfew hline rfl (thn (ho pins s σ H _ I h) fun v s1 ⟨x,H1,I1,r1,ty,q1⟩=>?_)
 obtain ⟨h1,h2⟩:=tyV_is I1 r1 ty
 refine ⟨T,id,pa,slot,hty,h1,h2,?_⟩
 have hA:=ha cpos pins s1 σ H1 _ I1 q1
 rw [hs] at hA ⊢
 refine Calls.callWith_builtin (by show (false || (backTo cpos (starEach es X.env)).any (·.1))=false;rw [hplain] <;> rfl) (Calls.evalArgs_plain ?_)
 exact thn hA fun us s2 ⟨vs,H2,I2,r2,q2⟩=>hm pins s2 σ H2 x vs v us Q I2 r1 r2 q2
/- xs.append(e),list.index on a module's tuple .. are MtR facts of 06m -/
end
def MtM (X:Cx) (id:String) (r:V→List V→Hp→VK→Prop):Prop :=
 ∀ (pins:List (Addr × Obj)) (s:Shared) (σ:St) (H:Hp) (x:V) (xs:List V) (v:Value) (us:List Value) (Q:VK),Inv X pins σ H s→RelV x v→Vals xs us→r x xs H Q →
  wpAny (model X.prog X.w) X.A (call (.builtin id) (v :: us)) (EP X pins σ Q) X.xe s
theorem Vals.one:∀ {x:V}{us:List Value},Vals [x] us→∃ u,us=[u]∧RelV x u
 | _,_,.cons r .nil=>⟨_,rfl,r⟩
theorem Vals.two:∀ {x y:V}{us:List Value},Vals [x,y] us→∃ u v,us=[u,v]∧RelV x u∧RelV y v
 | _,_,_,.cons r (.cons q .nil)=>⟨_,_,rfl,r,q⟩
theorem Vals.zero:∀ {us:List Value},Vals [] us→us=[]
 | _,.nil=>rfl
theorem Vals.rep {xs:List V}{us:List Value} (h:Vals xs us):∀ k:Nat,Vals (List.replicate k xs).flatten (List.replicate k us).flatten
 | 0=>.nil
 | k+1=>by
  rw [List.replicate_succ,List.replicate_succ,List.flatten_cons,List.flatten_cons]
  exact Vals.append h (Vals.rep h k)
theorem foldl_rep (its:List Value):∀ (k:Nat) (acc:List Value),
  List.foldl (fun x1 x2=>x1 ++ x2) acc.toArray (List.replicate k its.toArray)=(acc ++ (List.replicate k its).flatten).toArray
 | 0,acc=>by simp
 | k+1,acc=>by
  have e:acc.toArray ++ its.toArray=(acc ++ its).toArray:=by simp
  have e2:(acc ++ its) ++ (List.replicate k its).flatten=acc ++ (List.replicate (k+1) its).flatten:=by
   rw [List.replicate_succ,List.flatten_cons,List.append_assoc]
  rw [← e2,← foldl_rep its k (acc ++ its),← e,List.replicate_succ,List.foldl_cons]
section
variable {X:Cx}{pins:List (Addr × Obj)}{σ:St}{H:Hp}{s:Shared}{l b:Addr}{xs ys zs:List V}
theorem Inv.lset {its its':List Value}{n:Nat}{f:Array Value→Array Value}{t':Nat} (I:Inv X pins σ H s) (hH:H l=some (.lst xs))
  (e:s.heap.get? l=some { cls:=.type "list",data:=.seq its.toArray n }) (hf:f its.toArray=its'.toArray) (hv:Vals ys its') (hz:ys.length≤sizeLine) :
  Inv X pins σ (upd H l (.lst ys)) { s with heap:=s.heap.update l (Obj.mapSeq f),toks:=t' }:=by
 have q:=PySem.IsL.update e f
 rw [hf] at q
 refine I.write (x:=l) (e:=l) (by rw [hH];exact trivial) (.inl rfl) (fun b' u hb hu=>(Heap.get?_update_other s.heap (Obj.mapSeq f) (Ne.symm hb)).trans hu) ⟨_,q⟩ ?_
 exact ⟨hz,its',_,hv,q⟩
theorem Inv.lnew {its:List Value}{t':Nat} (I:Inv X pins σ H s) (hv:Vals ys its) (hz:ys.length≤sizeLine) :
  Inv X pins σ (upd H s.heap.objs.size (.lst ys)) { s with heap:=s.heap.push { cls:=.type "list",data:=.seq its.toArray },toks:=t' } :=
 I.laid (fun _ _ q=>Heap.get?_push_of_some _ q) (Nat.le_refl _) ⟨hz,its,0,hv,Heap.get?_push_size _ rfl⟩
theorem Inv.fresh (I:Inv X pins σ H s):H s.heap.objs.size=none:=I.hok.fresh (Nat.le_refl _)
theorem Inv.lstM (I:Inv X pins σ H s) (hH:H l=some (.lst xs)):xs.length≤sizeLine∧∃ (its:List Value) (n:Nat),Vals xs its∧xs.length=its.length∧s.heap.get? l=some { cls:=.type "list",data:=.seq its.toArray n }:=by
 obtain ⟨z,its,n,r,e⟩:=I.hok l _ hH
 exact ⟨z,its,n,r,r.length,e⟩
theorem notLongL {n:Nat} (h:n≤sizeLine):Builtin.List.listTooLong n=false:=by
 unfold Builtin.List.listTooLong
 exact decide_eq_false (by omega)
end
section
variable {X:Cx}
def rAppend:V→List V→Hp→VK→Prop:=fun x vs H Q=>∃ l xs y,x=.ref l∧vs=[y]∧H l=some (.lst xs)∧xs.length<sizeLine∧Q .non (upd H l (.lst (xs ++ [y])))
theorem mt_append:MtM X "list.append" rAppend:=by
 intro pins s σ H x vs v us Q I rx rv h
 obtain ⟨l,xs,y,rfl,rfl,hH,hz,q⟩:=h
 cases rx
 obtain ⟨u,rfl,ru⟩:=rv.one
 obtain ⟨z,its,n,r,hl,e⟩:=I.lstM hH
 refine call_meets F.slot_list_append ⟨_,e,rfl⟩ F.entry_list_append (F.args_list_append_2 _ _) (PySem.list_append l its.toArray n u (by rw [List.size_toArray];omega)) ⟨e,?_⟩
 refine ⟨.non,_,I.lset (its':=its ++ [u]) hH e (by simp) (r.append (.cons ru .nil)) ?_,rfl,q⟩
 rw [List.length_append,List.length_singleton]
 omega
def rExtend:V→List V→Hp→VK→Prop:=fun x vs H Q=>∃ l b xs zs,x=.ref l∧vs=[.ref b]∧H l=some (.lst xs)∧H b=some (.lst zs)∧xs.length+zs.length≤sizeLine∧Q .non (upd H l (.lst (xs ++ zs)))
theorem mt_extend:MtM X "list.extend" rExtend:=by
 intro pins s σ H x vs v us Q I rx rv h
 obtain ⟨l,b,xs,zs,rfl,rfl,hH,hB,hz,q⟩:=h
 cases rx
 obtain ⟨u,rfl,ru⟩:=rv.one
 cases ru
 obtain ⟨z,its,n,r,hl,e⟩:=I.lstM hH
 obtain ⟨z2,its2,n2,r2,hl2,e2⟩:=I.lstM hB
 have hsz:its.toArray.size+its2.toArray.size≤sizeLine:=by rw [List.size_toArray,List.size_toArray];omega
 have hlong:¬ (!its.toArray.isEmpty && Builtin.List.listTooLong (its.toArray.size+its2.toArray.size))=true:=by
  rw [notLongL hsz,Bool.and_false]
  exact Bool.false_ne_true
 refine call_meets F.slot_list_extend ⟨_,e,rfl⟩ F.entry_list_extend (F.args_list_extend_2 _ _)
  (AutoSeq1.list_extend_list_list_0 l its.toArray n b its2.toArray n2 hlong (by rw [List.size_toArray];omega) (by omega)) ⟨e,e2,?_⟩
 refine ⟨.non,_,I.lset (its':=its ++ its2) hH e (by simp) (r.append r2) ?_,rfl,q⟩
 rw [List.length_append]
 omega
def rCat:R2:=fun x y H Q=>∃ l b xs zs,x=.ref l∧y=.ref b∧H l=some (.lst xs)∧H b=some (.lst zs)∧xs.length+zs.length≤sizeLine∧∀ p,H p=none→Q (.ref p) (upd H p (.lst (xs ++ zs)))
theorem op_cat:OpR X (binaryOp .Add) rCat:=by
 intro pins s σ H x y v u Q I rx ry h
 obtain ⟨l,b,xs,zs,rfl,rfl,hH,hB,hz,q⟩:=h
 cases rx
 cases ry
 obtain ⟨z,its,n,r,hl,e⟩:=I.lstM hH
 obtain ⟨z2,its2,n2,r2,hl2,e2⟩:=I.lstM hB
 refine PySem.P.add_list e e2 ?_ (by rw [List.size_toArray,List.size_toArray];omega)
 have ea:its.toArray ++ its2.toArray=(its ++ its2).toArray:=by simp
 rw [ea]
 exact ⟨.ref _,_,I.lnew (t':=s.toks) (r.append r2) (by rw [List.length_append];omega),rfl,q _ I.fresh⟩
def rRep:R2:=fun x y H Q=>∃ l k xs,x=.ref l∧y=.int k∧H l=some (.lst xs) ∧ -(2 ^ 63)≤k∧k<2 ^ 63∧xs.length * k.toNat≤sizeLine ∧
 ∀ p,H p=none→Q (.ref p) (upd H p (.lst (List.replicate k.toNat xs).flatten))
theorem len_rep {α:Type} (xs:List α) (k:Nat):(List.replicate k xs).flatten.length=k * xs.length:=by
 induction k with
 | zero=>simp
 | succ k ih=>rw [List.replicate_succ,List.flatten_cons,List.length_append,ih,Nat.succ_mul,Nat.add_comm]
theorem op_rep:OpR X (binaryOp .Mult) rRep:=by
 intro pins s σ H x y v u Q I rx ry h
 obtain ⟨l,k,xs,rfl,rfl,hH,h1,h2,hz,q⟩:=h
 cases rx
 obtain ⟨t,rfl⟩:=ry
 obtain ⟨z,its,n,r,hl,e⟩:=I.lstM hH
 have hlen:its.toArray.size * k.toNat≤sizeLine:=by rw [List.size_toArray,← hl];exact hz
 have hcap:¬ its.toArray.size * k.toNat > (2 ^ 63 - 1) / 8:=by
  have:(sizeLine:Nat)≤(2 ^ 63 - 1) / 8:=by decide
  omega
 have hfit:¬ (!Builtin.List.listFitsIndex k)=true:=by
  rw [fitsIndex_both h1 h2]
  exact Bool.false_ne_true
 have hlong:¬ Builtin.List.listTooLong (its.toArray.size * k.toNat)=true:=by
  rw [notLongL hlen]
  exact Bool.false_ne_true
 have hnew:List.foldl (fun x1 x2=>x1 ++ x2) #[] (List.replicate (if its.toArray.isEmpty=true then 0 else k.toNat) its.toArray)=(List.replicate k.toNat its).flatten.toArray:=by
  have f0:∀ m:Nat,List.foldl (fun x1 x2=>x1 ++ x2) #[] (List.replicate m its.toArray)=(List.replicate m its).flatten.toArray:=fun m=>by
   have:=foldl_rep its m []
   rw [List.nil_append] at this
   exact this
  rw [f0]
  cases its with
  | nil=>simp
  | cons a r'=>rw [if_neg (by simp)]
 refine wpAny_binaryOp_repeat_ref (T:="list") (U:="int") (by decide) ⟨_,e,rfl⟩ (fun s'=>typeIs_int s' k t) noFill_list_mul F.fills_int_mul F.slot_int_rmul repeat_list F.slot_int_index.lookup
  (call_meets F.slot_int_rmul (typeIs_int s k t) F.entry_int_rmul (F.args_int_rmul_2 _ _) (int___rmul___int_list k t l its.toArray n)
   ⟨e,rfl,⟨_,e,rfl⟩,call_meets F.slot_list_mul ⟨_,e,rfl⟩ F.entry_list_mul (F.args_list_mul_2 _ _) (AutoListH.list___mul___list_int_3 l its.toArray n k t hfit hcap hlong) ⟨e,?_⟩⟩)
 rw [hnew]
 exact ⟨.ref _,_,I.lnew (t':=s.toks) (r.rep k.toNat) (by rw [len_rep,Nat.mul_comm];exact hz),rfl,q _ I.fresh⟩
end
section
variable {prog:Program}{w:World}{A:Around}{E:Value→Shared→Prop}{s:Shared}
end
section
variable {X:Cx}
end
section
variable {κ:Type} [DecidableEq κ]
def valV (kvs:List (κ × V)) (k:κ):Option V:=(kvs.find? fun kv=>decide (kv.1=k)).map (·.2)
def putK (kvs:List (κ × V)) (k:κ) (v:V):List (κ × V) :=
 if (kvs.any fun kv=>decide (kv.1=k))=true then kvs.map (fun kv=>if kv.1=k then (kv.1,v) else kv) else kvs ++ [(k,v)]
theorem valV_pos {p:κ × V}{r:List (κ × V)}{k:κ} (e:p.1=k):valV (p :: r) k=some p.2:=by simp [valV,List.find?_cons,e]
theorem valV_neg {p:κ × V}{r:List (κ × V)}{k:κ} (e:¬ p.1=k):valV (p :: r) k=valV r k:=by simp [valV,List.find?_cons,e]
theorem valV_any (k:κ):∀ kvs:List (κ × V),(kvs.any fun kv=>decide (kv.1=k))=(valV kvs k).isSome
 | []=>rfl
 | p :: r=>by
  rw [List.any_cons]
  by_cases e:p.1=k
  ·simp only [valV_pos e,decide_eq_true e,Bool.true_or,Option.isSome_some]
  ·rw [valV_neg e,decide_eq_false e,Bool.false_or];exact valV_any k r
theorem valV_map (k j:κ) (y:V):∀ kvs:List (κ × V),valV (kvs.map fun kv=>if kv.1=k then (kv.1,y) else kv) j=(valV kvs j).map fun x=>if j=k then y else x
 | []=>rfl
 | p :: r=>by
  have ih:=valV_map k j y r
  rw [List.map_cons]
  by_cases h:p.1=k
  ·rw [if_pos h]
   by_cases e:p.1=j
   ·rw [valV_pos (p:=(p.1,y)) e,valV_pos e,Option.map_some,if_pos (e.symm.trans h)]
   ·rw [valV_neg (p:=(p.1,y)) e,valV_neg e,ih]
  ·rw [if_neg h]
   by_cases e:p.1=j
   ·rw [valV_pos (p:=p) e,valV_pos e,Option.map_some,if_neg (fun z=>h (e.trans z))]
   ·rw [valV_neg (p:=p) e,valV_neg e,ih]
theorem valV_snoc (k j:κ) (y:V):∀ kvs:List (κ × V),valV kvs k=none→valV (kvs ++ [(k,y)]) j=if j=k then some y else valV kvs j
 | [],_=>by
  by_cases e:k=j
  ·rw [if_pos e.symm];exact valV_pos (p:=(k,y)) e
  ·rw [if_neg (fun z=>e z.symm)];exact valV_neg (p:=(k,y)) e
 | p :: r,hn=>by
  rw [List.cons_append]
  have hk:¬ p.1=k:=fun z=>by rw [valV_pos z] at hn;cases hn
  rw [valV_neg hk] at hn
  have ih:=valV_snoc k j y r hn
  by_cases e:p.1=j
  ·rw [valV_pos e,valV_pos e,if_neg (fun z=>hk (e.trans z))]
  ·rw [valV_neg e,valV_neg e,ih]
theorem valV_put (kvs:List (κ × V)) (k j:κ) (y:V):valV (putK kvs k y) j=if j=k then some y else valV kvs j:=by
 unfold putK
 by_cases a:(kvs.any fun kv=>decide (kv.1=k))=true
 ·rw [if_pos a,valV_map]
  rw [valV_any] at a
  by_cases e:j=k
  ·obtain ⟨x,hx⟩:=Option.isSome_iff_exists.mp a
   rw [if_pos e,e,hx,Option.map_some,if_pos rfl]
  ·rw [if_neg e]
   cases valV kvs j with
   | none=>rfl
   | some x=>rw [Option.map_some,if_neg e]
 ·rw [if_neg a]
  refine valV_snoc k j y kvs ?_
  rw [valV_any] at a
  cases q:valV kvs k with
  | none=>rfl
  | some x=>rw [q] at a;exact (a rfl).elim
theorem length_putK (kvs:List (κ × V)) (k:κ) (v:V):(putK kvs k v).length≤kvs.length+1:=by
 unfold putK
 split
 ·rw [List.length_map];omega
 ·rw [List.length_append,List.length_cons,List.length_nil];omega
theorem RelO.isSome_eq {o:Option V}{u:Option Value} (r:RelO o u):o.isSome=u.isSome:=by
 cases o with
 | none=>cases u with
  | none=>rfl
  | some _=>exact (show False from r).elim
 | some _=>cases u with
  | none=>exact (show False from r).elim
  | some _=>rfl
theorem RelO.getD {o:Option V}{u:Option Value}{d:V}{d':Value} (r:RelO o u) (rd:RelV d d'):RelV (o.getD d) (u.getD d'):=by
 cases o with
 | none=>cases u with
  | none=>exact rd
  | some _=>exact (show False from r).elim
 | some _=>cases u with
  | none=>exact (show False from r).elim
  | some _=>exact r
theorem KV.val {kvs:List (κ × V)}{vs:List (κ × Value)} (r:KV kvs vs) (k:κ):RelO (valV kvs k) (valueAt vs k):=by
 unfold KV at r
 induction r with
 | nil=>exact True.intro
 | @cons p q ps qs h t ih =>
  obtain ⟨h1,h2⟩:=h
  by_cases e:p.1=k
  ·have e':q.1=k:=h1.symm.trans e
   have b:valueAt (q :: qs) k=some q.2:=by simp [valueAt,List.find?_cons,e']
   rw [valV_pos e,b];exact h2
  ·have e':¬ q.1=k:=fun z=>e (h1.trans z)
   have b:valueAt (q :: qs) k=valueAt qs k:=by simp [valueAt,List.find?_cons,e']
   rw [valV_neg e,b];exact ih
theorem KV.any {kvs:List (κ × V)}{vs:List (κ × Value)} (r:KV kvs vs) (k:κ):(kvs.any fun kv=>decide (kv.1=k))=vs.any fun kv=>decide (kv.1=k):=by
 unfold KV at r
 induction r with
 | nil=>rfl
 | cons h t ih=>rw [List.any_cons,List.any_cons,ih,h.1]
theorem KV.repl {kvs:List (κ × V)}{vs:List (κ × Value)} (r:KV kvs vs) (k:κ) {y:V}{u:Value} (ry:RelV y u) :
  KV (kvs.map fun kv=>if kv.1=k then (kv.1,y) else kv) (vs.map fun kv=>if kv.1=k then (kv.1,u) else kv):=by
 unfold KV at r ⊢
 induction r with
 | nil=>exact .nil
 | @cons p q ps qs h t ih =>
  rw [List.map_cons,List.map_cons]
  refine .cons ?_ ih
  obtain ⟨h1,h2⟩:=h
  by_cases e:p.1=k
  ·rw [if_pos e,if_pos (h1.symm.trans e)];exact ⟨h1,ry⟩
  ·rw [if_neg e,if_neg (fun z=>e (h1.trans z))];exact ⟨h1,h2⟩
theorem KV.put {kvs:List (κ × V)}{vs:List (κ × Value)} (r:KV kvs vs) (k:κ) {y:V}{u:Value} (ry:RelV y u):KV (putK kvs k y) (stored vs k u):=by
 unfold putK stored
 rw [r.any k]
 by_cases e:(vs.any fun kv=>decide (kv.1=k))=true
 ·rw [if_pos e,if_pos e];exact r.repl k ry
 ·rw [if_neg e,if_neg e];exact Paired.snoc r ⟨rfl,ry⟩
theorem KV.keys {kvs:List (κ × V)}{vs:List (κ × Value)} (r:KV kvs vs):kvs.map (·.1)=vs.map (·.1):=by
 unfold KV at r
 induction r with
 | nil=>rfl
 | cons h t ih=>rw [List.map_cons,List.map_cons,ih,h.1]
theorem KV.length {kvs:List (κ × V)}{vs:List (κ × Value)} (r:KV kvs vs):kvs.length=vs.length:=Paired.length r
end
theorem kV_is {P:Program}{w:World}{k:Key}{u:Value} (r:RelV (kV k) u):(mixKind P w).is k u=true:=by
 cases k with
 | inl i=>obtain ⟨t,e⟩:=(show ∃ t,u=Value.int i t from r);subst e;exact mixKind_int P w i t
 | inr x=>obtain ⟨t,e⟩:=(show ∃ t,u=Value.str x t from r);subst e;exact mixKind_str P w x t
theorem items_are {P:Program}{w:World}:∀ {ks:List Key}{us:List Value},Vals (ks.map kV) us→ItemsAre (mixKind P w) ks us
 | [],_,r=>by rw [List.map_nil] at r;cases r;exact .nil
 | k :: ks,_,r=>by
  rw [List.map_cons] at r
  cases r with
  | cons h t=>exact .cons (kV_is h) (items_are t)
abbrev KT (H:Hp):List (List Key × V)→List (List Key × Addr × Value)→Prop:=Paired fun p q=>p.1=q.1∧H q.2.1=some (.tup (p.1.map kV))∧RelV p.2 q.2.2
theorem KT.val {H:Hp}{kvs:List (List Key × V)}{xs:List (List Key × Addr × Value)} (r:KT H kvs xs) (k:List Key):RelO (valV kvs k) ((atKey xs k).map (·.2)):=by
 induction r with
 | nil=>exact True.intro
 | @cons p q ps qs h t ih =>
  obtain ⟨h1,_,h2⟩:=h
  by_cases e:p.1=k
  ·have e':q.1=k:=h1.symm.trans e
   have b:atKey (q :: qs) k=some q.2:=by simp [atKey,List.find?_cons,e']
   rw [valV_pos e,b];exact h2
  ·have e':¬ q.1=k:=fun z=>e (h1.trans z)
   have b:atKey (q :: qs) k=atKey qs k:=by simp [atKey,List.find?_cons,e']
   rw [valV_neg e,b];exact ih
theorem KT.repl {H:Hp}{kvs:List (List Key × V)}{xs:List (List Key × Addr × Value)} (r:KT H kvs xs) (k:List Key) {y:V}{u:Value} (ry:RelV y u) :
  KT H (kvs.map fun kv=>if kv.1=k then (kv.1,y) else kv) (xs.map (putAt k u)):=by
 induction r with
 | nil=>exact .nil
 | @cons p q ps qs h t ih =>
  rw [List.map_cons,List.map_cons]
  refine .cons ?_ ih
  obtain ⟨h1,h2,h3⟩:=h
  unfold putAt
  by_cases e:p.1=k
  ·rw [if_pos e,if_pos (h1.symm.trans e)];exact ⟨h1,h2,ry⟩
  ·rw [if_neg e,if_neg (fun z=>e (h1.trans z))];exact ⟨h1,h2,h3⟩
theorem KT.put {H:Hp}{kvs:List (List Key × V)}{xs:List (List Key × Addr × Value)} (r:KT H kvs xs) (k:List Key) {b:Addr}{y:V}{u:Value} (hb:H b=some (.tup (k.map kV))) (ry:RelV y u) :
  KT H (putK kvs k y) (storedH xs k b u):=by
 have e:(kvs.any fun kv=>decide (kv.1=k))=(atKey xs k).isSome:=by
  rw [valV_any,(r.val k).isSome_eq,Option.isSome_map]
 unfold putK storedH
 rw [e]
 by_cases q:(atKey xs k).isSome=true
 ·rw [if_pos q,if_pos q];exact r.repl k ry
 ·rw [if_neg q,if_neg q];exact Paired.snoc r ⟨rfl,hb,ry⟩
theorem KT.keeps {H H':Hp}{kvs:List (List Key × V)}{xs:List (List Key × Addr × Value)} (r:KT H kvs xs) (ht:∀ b ys,H b=some (.tup ys)→H' b=some (.tup ys)):KT H' kvs xs :=
 Paired.mapP r fun _ _ z=>⟨z.1,ht _ _ z.2.1,z.2.2⟩
section
variable {P:Program}{w:World}{H:Hp}{h:Heap}{a:Addr}
theorem rd_of {u:HO} (ok:HOk P w H h) (e:Rd H a u):ObjOk P w H h a u:=e.ok ok
theorem dk_rd {kvs:List (Key × V)} (ok:HOk P w H h) (e:Rd H a (.dK kvs)):kvs.length≤sizeLine∧(a == sysModules)=false∧∃ vs,KV kvs vs∧h.DictOf (mixKind P w) a vs :=
 show ObjOk P w H h a (.dK kvs) from rd_of ok e
theorem dk_of {kvs:List (Key × V)} (ok:HOk P w H h) (e:H a=some (.dK kvs)):kvs.length≤sizeLine∧(a == sysModules)=false∧∃ vs,KV kvs vs∧h.DictOf (mixKind P w) a vs:=dk_rd ok (.inl e)
theorem key_of {ks:List Key} (ok:HOk P w H h) (e:H a=some (.tup (ks.map kV))):(tupleKind (mixKind P w)).is h ks a:=by
 obtain ⟨_,its,r,o,h1,h2,n,h3⟩:=(show ObjOk P w H h a (.tup (ks.map kV)) from ok a _ e)
 exact ⟨o,its.toArray,n,h1,h2,h3,by simpa using items_are r⟩
theorem dt_rd {kvs:List (List Key × V)} (ok:HOk P w H h) (e:Rd H a (.dT kvs)):kvs.length≤sizeLine∧(a == sysModules)=false ∧
  ∃ xs,KT H kvs xs∧h.DictOfH (tupleKind (mixKind P w)) a xs:=by
 obtain ⟨z,y,xs,r,o,es,ep,h1,h2,h3,h4,h5⟩:=(show ObjOk P w H h a (.dT kvs) from rd_of ok e)
 refine ⟨z,y,xs,r,o,es,ep,h1,h2,h3,h4,fun x hx=>?_,h5⟩
 have all:∀ {l:List (List Key × V)}{m:List (List Key × Addr × Value)},KT H l m→∀ x∈m,(tupleKind (mixKind P w)).is h x.1 x.2.1:=by
  intro l m q
  induction q with
  | nil=>intro x hx;exact nomatch hx
  | @cons p q ps qs hq t ih =>
   intro x hx
   rcases List.mem_cons.mp hx with e | hx
   ·subst e
    exact key_of ok (by rw [← hq.1];exact hq.2.1)
   ·exact ih x hx
 exact all r x hx
theorem dt_of {kvs:List (List Key × V)} (ok:HOk P w H h) (e:H a=some (.dT kvs)):kvs.length≤sizeLine∧(a == sysModules)=false ∧
  ∃ xs,KT H kvs xs∧h.DictOfH (tupleKind (mixKind P w)) a xs:=dt_rd ok (.inl e)
end
def DGet (H:Hp) (a:Addr) (y:V) (r:Option V):Prop :=
 (∃ kvs k,Rd H a (.dK kvs)∧y=kV k∧r=valV kvs k)∨∃ kvs k b,Rd H a (.dT kvs)∧y=.ref b∧H b=some (.tup (k.map kV))∧r=valV kvs k
def DPut (H:Hp) (a:Addr) (y v:V) (H':Hp):Prop :=
 (∃ kvs k,H a=some (.dK kvs)∧y=kV k∧kvs.length<sizeLine∧H'=upd H a (.dK (putK kvs k v))) ∨
 ∃ kvs k b,H a=some (.dT kvs)∧y=.ref b∧H b=some (.tup (k.map kV))∧kvs.length<sizeLine∧H'=upd H a (.dT (putK kvs k v))
theorem DGet.k {H:Hp}{a:Addr}{kvs:List (Key × V)}{k:Key} (e:H a=some (.dK kvs)):DGet H a (kV k) (valV kvs k):=.inl ⟨kvs,k,.inl e,rfl,rfl⟩
theorem DGet.t {H:Hp}{a b:Addr}{kvs:List (List Key × V)}{k:List Key} (e:H a=some (.dT kvs)) (eb:H b=some (.tup (k.map kV))):DGet H a (.ref b) (valV kvs k):=.inr ⟨kvs,k,b,.inl e,rfl,eb,rfl⟩
theorem DPut.k {H:Hp}{a:Addr}{kvs:List (Key × V)}{k:Key}{v:V} (e:H a=some (.dK kvs)) (hl:kvs.length<sizeLine):DPut H a (kV k) v (upd H a (.dK (putK kvs k v))):=.inl ⟨kvs,k,e,rfl,hl,rfl⟩
theorem DPut.t {H:Hp}{a b:Addr}{kvs:List (List Key × V)}{k:List Key}{v:V} (e:H a=some (.dT kvs)) (eb:H b=some (.tup (k.map kV))) (hl:kvs.length<sizeLine) :
  DPut H a (.ref b) v (upd H a (.dT (putK kvs k v))):=.inr ⟨kvs,k,b,e,rfl,eb,hl,rfl⟩
section
variable {X:Cx}{pins:List (Addr × Obj)}{σ:St}{H:Hp}{s:Shared}{a:Addr}{y v:V}{u r:Value}{o:Option V}{A:Around}{E:Value→Shared→Prop}
theorem Inv.big (I:Inv X pins σ H s):sysModules<s.heap.objs.size:=by
 have h:mainGlobals<s.heap.objs.size:=(I.mod.glob.keeps I.bk).lt
 exact Nat.lt_trans (by decide) h
theorem d_getItem {Q:Value→Shared→Prop} (hu:A.units+1<cLine) (I:Inv X pins σ H s) (g:DGet H a y (some v)) (ry:RelV y u) (h:∀ w' s',Inv X pins σ H s'→RelV v w'→Q w' s') :
  wpAny (model X.prog X.w) A (getItem (.ref a) u) Q E s:=by
 rcases g with ⟨kvs,k,e,ey,l⟩ | ⟨kvs,k,b,e,ey,eb,l⟩
 ·subst ey
  obtain ⟨z,hd,vs,rel,dd⟩:=dk_rd I.hok e
  obtain ⟨w',hw,rw'⟩:=RelO.some_of (v:=v) (o:=valueAt vs k) (by rw [l];exact rel.val k)
  exact wpAny_getItem_of (kV_is ry) dd.mapOf hw (h w' _ (I.tok _) rw')
 ·subst ey
  cases (show u=Value.ref b from ry)
  obtain ⟨z,hd,xs,rel,dd⟩:=dt_rd I.hok e
  obtain ⟨w',hw,rw'⟩:=RelO.some_of (v:=v) (o:=(atKey xs k).map (·.2)) (by rw [l];exact rel.val k)
  obtain ⟨p,hp,hp2⟩:=Option.map_eq_some_iff.mp hw
  refine wpAny_getItem_heap (tupleKind_room_in1 hu) (key_of I.hok eb) dd hp ?_
  rw [hp2]
  exact h w' _ (I.tok _) rw'
theorem d_notIn {Q:Value→Shared→Prop} (hu:A.units+1<cLine) (I:Inv X pins σ H s) (g:DGet H a y o) (ry:RelV y u) (h:∀ s',Inv X pins σ H s'→Q (.bool (!o.isSome)) s') :
  wpAny (model X.prog X.w) A (compareOp .NotIn u (.ref a)) Q E s:=by
 rcases g with ⟨kvs,k,e,ey,l⟩ | ⟨kvs,k,b,e,ey,eb,l⟩
 ·subst ey
  obtain ⟨z,hd,vs,rel,dd⟩:=dk_rd I.hok e
  refine wpAny_notIn_of (kV_is ry) hd dd.mapOf ?_
  rw [← (rel.val k).isSome_eq,← l]
  exact h _ (I.tok _)
 ·subst ey
  cases (show u=Value.ref b from ry)
  obtain ⟨z,hd,xs,rel,dd⟩:=dt_rd I.hok e
  refine wpAny_notIn_heap (tupleKind_room_in1 hu) (key_of I.hok eb) hd dd ?_
  have q:=(rel.val k).isSome_eq
  rw [Option.isSome_map] at q
  rw [← q,← l]
  exact h _ (I.tok _)
theorem d_write {h':Heap}{t':Nat}{ob:HO} (I:Inv X pins σ H s) (mu:Mut (H a)) (hs:Heap.SameBut a s.heap h') (he:∃ q,h'.get? a=some q) (new:ObjOk X.prog X.w (upd H a ob) h' a ob) :
  Inv X pins σ (upd H a ob) { s with heap:=h',toks:=t' } :=
 I.write (x:=a) (e:=a) mu (.inl rfl) (fun b q hb z=>(hs.2 b hb).trans z) he new
theorem dk_new {P:Program}{w:World}{H':Hp}{h':Heap}{kvs:List (Key × V)}{vs:List (Key × Value)} (z:kvs.length≤sizeLine) (hd:(a == sysModules)=false) (rel:KV kvs vs) (dd:h'.DictOf (mixKind P w) a vs) :
  ObjOk P w H' h' a (.dK kvs):=⟨z,hd,vs,rel,dd⟩
theorem d_setItem {H':Hp}{Q:Unit→Shared→Prop} (hu:A.units+1<cLine) (I:Inv X pins σ H s) (g:DPut H a y v H') (ry:RelV y u) (rv:RelV v r) (h:∀ s',Inv X pins σ H' s'→Q () s') :
  wpAny (model X.prog X.w) A (setItem (.ref a) u r) Q E s:=by
 rcases g with ⟨kvs,k,e,ey,l,eH⟩ | ⟨kvs,k,b,e,ey,eb,l,eH⟩
 ·subst ey eH
  obtain ⟨z,hd,vs,rel,dd⟩:=dk_of I.hok e
  have hz:vs.length≤sizeLine:=by rw [← rel.length];exact z
  have hl:(putK kvs k v).length≤sizeLine:=by have:=length_putK kvs k v;omega
  refine wpAny_setItem_pairs (hsz:=hz) (kV_is ry) dd fun h' dd' hs=>h _ ?_
  have he:∃ q,h'.get? a=some q:=let ⟨q,_,_,hq,_⟩:=dd';⟨q,hq⟩
  exact d_write I (by rw [e];exact True.intro) hs he (dk_new hl hd (rel.put k rv) dd')
 ·subst ey eH
  cases (show u=Value.ref b from ry)
  obtain ⟨z,hd,xs,rel,dd⟩:=dt_of I.hok e
  have hz:xs.length≤sizeLine:=by rw [← Paired.length rel];exact z
  have hl:(putK kvs k v).length≤sizeLine:=by have:=length_putK kvs k v;omega
  refine wpAny_setItem_heap (hsz:=hz) (tupleKind_room_in1 hu) (key_of I.hok eb) dd fun h' dd' hs=>h _ ?_
  obtain ⟨q,es,ep,hq,h2,h3,h4,_,h5⟩:=dd'
  refine d_write I (by rw [e];exact True.intro) hs ⟨q,hq⟩ ⟨hl,hd,_,(rel.put k eb rv).keeps fun c ys ec=>?_,q,es,ep,hq,h2,h3,h4,h5⟩
  rw [upd_ne (ne_of ec e (fun z=>nomatch z))]
  exact ec
end
section
variable {X:Cx}{pins:List (Addr × Obj)}{σ:St}{H:Hp}{s:Shared}{a:Addr}{kvs:List (Key × V)}{k:Key}{u:Value}{A:Around}{E:Value→Shared→Prop}
theorem d_len {Q:Value→Shared→Prop} (I:Inv X pins σ H s) (e:Rd H a (.dK kvs)) (h:∀ t s',Inv X pins σ H s'→Q (.int kvs.length t) s'):wpAny (model X.prog X.w) A (call (.builtin "len") [.ref a]) Q E s:=by
 obtain ⟨z,hd,vs,rel,dd⟩:=dk_rd I.hok e
 refine call_len_dict hd dd (by rw [← rel.length];rw [sizeLine_eq] at z;omega) ?_
 rw [← rel.length]
 exact h _ _ (I.tok _)
end
def NoSl (i:Expr):Prop:=∀ ov iv,subscripted i false ov iv=operate [ov,iv] (getItem ov iv)
theorem subD_of {prog:Program}{w:World}{A:Around}{E:Value→Shared→Prop}{s:Shared}{env:Env}{value slice:Expr}{pos:Pos}{T id:String}{Q:Value→Shared→Prop}
  (hl:typeLookup (.type T) "__getitem__" = pure (some (.builtin id))) (hs:NoSl slice)
  (h:wpAny (model prog w) A (eval value env) (fun o s₁=>wpAny (model prog w) A (eval slice env) (fun i s₂=>s₂.TypeIs o T∧wpAny (model prog w) A (getItem o i) Q E s₂) E s₁) E s) :
  wpAny (model prog w) A (eval (.Subscript value slice pos) env) Q E s:=by
 refine Subscript_ (wpAny_mono h (fun o s₁ h₁=>wpAny_mono h₁ (fun i s₂ h₂=>?_) fun _ _ x=>x) fun _ _ x=>x)
 obtain ⟨hT,h₂⟩:=h₂
 unfold subscriptTail
 refine wpAny_bind ?_
 rw [getitemInPython_of_ne hT.not_modules]
 refine wpAny_bind (wpAny_specialOf hT hl ?_)
 have fin:wpAny (model prog w) A (subscripted slice false o i) (fun r s₃=>wpAny (model prog w) A (letTemporaryGo value o r >>= fun _=>pure r) Q E s₃) E s₂:=by
  rw [hs o i]
  exact wpAny_operating (wpAny_mono h₂ (fun r s₃ h₃=>wpAny_bind (wpAny_letTemporaryGo (wpAny_pure h₃))) fun _ _ x=>x)
 first
  | exact wpAny_pure (wpAny_bind fin)
  | exact wpAny_bind (wpAny_pure (wpAny_bind fin))
  | exact wpAny_bind fin
theorem dict_typeIs {X:Cx}{pins:List (Addr × Obj)}{σ:St}{H:Hp}{s:Shared}{a:Addr}{y:V}{o:Option V} (I:Inv X pins σ H s) (g:DGet H a y o):s.TypeIs (.ref a) "dict":=by
 rcases g with ⟨kvs,k,e,_,_⟩ | ⟨kvs,k,b,e,_,_,_⟩
 ·obtain ⟨_,_,vs,_,dd⟩:=dk_rd I.hok e
  exact dd.typeIs
 ·obtain ⟨_,_,xs,_,dd⟩:=dt_rd I.hok e
  exact dd.typeIs
def tDGet (td ty:TE):TE:=fun σ H Q=>td σ H fun x H1=>ty σ H1 fun y H2=>∃ a v,x=.ref a∧DGet H2 a y (some v)∧Q v H2
def tDNotIn (ty td:TE):TE:=fun σ H Q=>ty σ H fun y H1=>td σ H1 fun x H2=>∃ a o,x=.ref a∧DGet H2 a y o∧Q (.bl (!o.isSome)) H2
def sDPut (td ty tv:TE):TS:=fun D σ H=>tv σ H fun v H1=>td σ H1 fun x H2=>ty σ H2 fun y H3=>∃ a H4,x=.ref a∧DPut H3 a y v H4∧D.nx σ H4
section
variable {X:Cx}{o i e value:Expr}{pos pos' tpos:Pos}{td ty tv:TE}
theorem pe_dget (hu:X.A.units+1<cLine) (ho:PE X o td) (hi:PE X i ty) (hs:NoSl i):PE X (.Subscript o i pos) (tDGet td ty):=by
 intro pins s σ H Q I h
 refine subD_of PySem.F.slot_dict_getitem.lookup hs (thn (ho pins s σ H _ I h) fun u s1 ⟨x,H1,I1,rx,q1⟩=>thn (hi pins s1 σ H1 _ I1 q1) fun iv s2 ⟨y,H2,I2,ry,a,v,ex,g,q2⟩=>?_)
 subst ex
 obtain rfl:u=Value.ref a:=rx
 exact ⟨dict_typeIs I2 g,d_getItem hu I2 g ry fun w' s3 I3 rw'=>⟨v,H2,I3,rw',q2⟩⟩
theorem pc_dnotin (hu:X.A.units+1<cLine) (hi:PE X i ty) (ho:PE X o td):PC X .NotIn i o (tDNotIn ty td):=by
 intro pins s σ H Q I h
 refine thn (hi pins s σ H _ I h) fun iv s1 ⟨y,H1,I1,ry,q1⟩=>thn (ho pins s1 σ H1 _ I1 q1) fun u s2 ⟨x,H2,I2,rx,a,ov,ex,g,q2⟩=>?_
 subst ex
 obtain rfl:u=Value.ref a:=rx
 exact d_notIn hu I2 g ry fun s3 I3=>⟨.bl (!ov.isSome),H2,I3,rfl,q2⟩
theorem ps_dput (hu:X.A.units+1<cLine) (ho:PE X o td) (hi:PE X i ty) (hv:PE X value tv) (hs:swapsWith value (some (.Subscript o i pos')) pos.line X.env=pure false) :
  PS X (.Assign [.Subscript o i pos'] value pos) (sDPut td ty tv):=by
 intro pins s σ H D I h
 refine wpAny_Assign_Subscript (thn (hv pins s σ H _ I h) fun r s1 ⟨v,H1,I1,rv,q1⟩=>thn (ho pins s1 σ H1 _ I1 q1) fun u s2 ⟨x,H2,I2,rx,q2⟩=>thn (hi pins s2 σ H2 _ I2 q2) fun iv s3 ⟨y,H3,I3,ry,a,H4,ex,g,q3⟩=>?_) hs
 subst ex
 obtain rfl:u=Value.ref a:=rx
 exact d_setItem hu I3 g ry rv fun s4 I4=>⟨σ,H4,I4,q3⟩
end
theorem dk_empty {P:Program}{w:World}{H:Hp} (h:Heap) (hb:sysModules<h.objs.size):ObjOk P w H (h.push { cls:=.type "dict",data:=.dict #[] }) h.objs.size (.dK []) :=
 ⟨Nat.zero_le _,beq_eq_false_iff_ne.mpr (Ne.symm (Nat.ne_of_lt hb)),[],.nil,Heap.DictOf.new h⟩
theorem dt_empty {P:Program}{w:World}{H:Hp} (h:Heap) (hb:sysModules<h.objs.size):ObjOk P w H (h.push { cls:=.type "dict",data:=.dict #[] }) h.objs.size (.dT []) :=
 ⟨Nat.zero_le _,beq_eq_false_iff_ne.mpr (Ne.symm (Nat.ne_of_lt hb)),[],.nil,_,#[],0,Heap.get?_push_size _ rfl,⟨rfl,rfl,rfl⟩,rfl,rfl,List.nodup_nil⟩
def tDNewK:TE:=fun _ H Q=>∀ p,H p=none→Q (.ref p) (upd H p (.dK []))
def tDNewT:TE:=fun _ H Q=>∀ p,H p=none→Q (.ref p) (upd H p (.dT []))
section
variable {X:Cx}{pos:Pos}
theorem pe_dnewK:PE X (.Dict [] [] pos) tDNewK:=fun pins s σ H Q I h =>
 wpAny_Dict_empty ⟨.ref s.heap.objs.size,_,I.laid (a:=s.heap.objs.size) (o:=.dK []) (t':=s.toks) (fun _ _ q=>Heap.get?_push_of_some _ q) (Nat.le_refl _) (dk_empty s.heap I.big),rfl,h _ (I.hok.fresh (Nat.le_refl _))⟩
theorem pe_dnewT:PE X (.Dict [] [] pos) tDNewT:=fun pins s σ H Q I h =>
 wpAny_Dict_empty ⟨.ref s.heap.objs.size,_,I.laid (a:=s.heap.objs.size) (o:=.dT []) (t':=s.toks) (fun _ _ q=>Heap.get?_push_of_some _ q) (Nat.le_refl _) (dt_empty s.heap I.big),rfl,h _ (I.hok.fresh (Nat.le_refl _))⟩
end
def tPairs:List (TE × TE)→St→Hp→(List (V × V)→Hp→Prop)→Prop
 | [],_,H,Q=>Q [] H
 | (tk,tv) :: r,σ,H,Q=>tk σ H fun x H1=>tv σ H1 fun y H2=>tPairs r σ H2 fun ps H3=>Q ((x,y) :: ps) H3
abbrev VV:List (V × V)→List (Value × Value)→Prop:=Paired fun p q=>RelV p.1 q.1∧RelV p.2 q.2
def PPs (X:Cx) (pos:Pos) (keys:List (Option Expr)) (values:List Expr) (trs:List (TE × TE)):Prop :=
 ∀ (pins:List (Addr × Obj)) (s:Shared) (σ:St) (H:Hp) (Q:List (V × V)→Hp→Prop),Inv X pins σ H s→tPairs trs σ H Q →
  wpAny (model X.prog X.w) X.A (evalPairs (pairTrees keys values X.env pos)) (fun vs s'=>∃ ps H',Inv X pins σ H' s'∧VV ps vs∧Q ps H') X.xe s
theorem pps_nil {X:Cx}{pos:Pos}:PPs X pos [] [] []:=fun pins s σ H Q I h=>pairTrees_nil_walk ⟨[],H,I,.nil,h⟩
theorem pps_cons {X:Cx}{pos:Pos}{k v:Expr}{ks:List (Option Expr)}{vs:List Expr}{tk tv:TE}{trs:List (TE × TE)} (hk:PE X k tk) (hv:PE X v tv) (hr:PPs X pos ks vs trs) :
  PPs X pos (some k :: ks) (v :: vs) ((tk,tv) :: trs):=fun pins s σ H Q I h =>
 pairTrees_cons_walk (thn (hk pins s σ H _ I h) fun u s1 ⟨x,H1,I1,rx,q1⟩=>thn (hv pins s1 σ H1 _ I1 q1) fun w2 s2 ⟨y,H2,I2,ry,q2⟩ =>
  thn (hr pins s2 σ H2 _ I2 q2) fun ws s3 ⟨ps,H3,I3,rel,q3⟩=>⟨(x,y) :: ps,H3,I3,.cons ⟨rx,ry⟩ rel,q3⟩)
def mergeK (kvs more:List (Key × V)):List (Key × V):=more.foldl (fun acc kv=>putK acc kv.1 kv.2) kvs
theorem KV.merge:∀ {more:List (Key × V)}{rs:List (Key × Value)}{kvs:List (Key × V)}{vs:List (Key × Value)},KV more rs→KV kvs vs→KV (mergeK kvs more) (merged vs rs):=by
 intro more rs kvs vs r
 unfold KV at r
 induction r generalizing kvs vs with
 | nil=>intro q;exact q
 | @cons p q ps qs h t ih =>
  intro r0
  have e:KV (putK kvs p.1 p.2) (stored vs q.1 q.2):=by
   have:=r0.put p.1 h.2
   rw [← h.1];exact this
  exact ih e
theorem length_mergeK:∀ (more kvs:List (Key × V)),(mergeK kvs more).length≤kvs.length+more.length
 | [],kvs=>by show kvs.length≤kvs.length+0;omega
 | p :: r,kvs=>by
  have h1:=length_mergeK r (putK kvs p.1 p.2)
  have h2:=length_putK kvs p.1 p.2
  show (mergeK (putK kvs p.1 p.2) r).length≤_
  rw [List.length_cons];omega
theorem carries_of {P:Program}{w:World}:∀ {kvs:List (Key × V)}{ws:List (Value × Value)},VV (kvs.map fun kv=>(kV kv.1,kv.2)) ws→∃ rs,Carries (mixKind P w) ws rs∧KV kvs rs
 | [],_,r=>by rw [List.map_nil] at r;cases r;exact ⟨[],True.intro,.nil⟩
 | p :: kvs,_,r=>by
  rw [List.map_cons] at r
  cases r with
  | @cons a b as bs h t =>
   obtain ⟨rs,c,q⟩:=carries_of (P:=P) (w:=w) t
   obtain ⟨b1,b2⟩:=b
   exact ⟨(p.1,b2) :: rs,⟨kV_is h.1,rfl,c⟩,.cons ⟨rfl,h.2⟩ q⟩
def tDisp (trs:List (TE × TE)):TE:=fun σ H Q=>∀ p,H p=none→tPairs trs σ (upd H p (.dK [])) fun ps H2=>H2 p=some (.dK [])∧∃ kvs:List (Key × V),ps=kvs.map (fun kv=>(kV kv.1,kv.2))∧kvs.length≤15∧Q (.ref p) (upd H2 p (.dK (mergeK [] kvs)))
theorem pe_disp {X:Cx}{pos:Pos}{keys:List (Option Expr)}{values:List Expr}{trs:List (TE × TE)} (h:PPs X pos keys values trs) (hall:keys.all (·.isSome)=true) (hl:keys.length=values.length) (h0:keys≠[])
  (h15:keys.length≤15):PE X (.Dict keys values pos) (tDisp trs):=by
 intro pins s σ H Q I q
 have hn:=I.hok.fresh (Nat.le_refl s.heap.objs.size)
 have I1:=I.laid (a:=s.heap.objs.size) (o:=.dK []) (h':=s.heap.push { cls:=.type "dict",data:=.dict #[] }) (t':=s.toks) (fun _ _ q=>Heap.get?_push_of_some _ q) (Nat.le_refl _) (dk_empty s.heap I.big)
 refine wpAny_Dict_walk (knd:=mixKind X.prog X.w) hall hl h0 h15 (thn (h pins _ σ _ _ I1 (q _ hn)) fun ws s2 ⟨ps,H2,I2,rel,e,kvs,ep,lk,q2⟩=>?_)
 subst ep
 obtain ⟨rs,c,rk⟩:=carries_of (P:=X.prog) (w:=X.w) rel
 obtain ⟨z,hd,vs0,r0,dd⟩:=dk_of I2.hok e
 cases r0
 refine ⟨rs,c,dd,fun h' dd' hs=>⟨.ref s.heap.objs.size,_,?_,rfl,q2⟩⟩
 have hz:(mergeK [] kvs).length≤sizeLine:=by
  have h1:=length_mergeK kvs []
  rw [List.length_nil] at h1
  rw [sizeLine_eq];omega
 have he:∃ q,h'.get? s.heap.objs.size=some q:=let ⟨q,_,_,hq,_⟩:=dd';⟨q,hq⟩
 exact d_write I2 (by rw [e];exact True.intro) hs he (dk_new hz hd (rk.merge .nil) dd')
structure M1 (X:Cx) (o:Expr) (m:Str) (apos:Pos) (e:Expr) (cpos:Pos):Prop where
 base:attributeBase o m X.env (eval o X.env)=eval o X.env
 few:((backTo cpos (starEach [e] X.env)).all (fun x=>!x.1) && (backToKw cpos (keywordEach [] X.env)).all (fun x=>x.1.isSome)
  && decide (([e]:List Expr).length+([]:List Keyword).length+(if ([]:List Keyword).isEmpty then 0 else 1)<30))=true
 line:(apos.endLine == cpos.line)=true
 trees:backTo cpos (starEach [e] X.env)=[(false,eval e X.env)]
structure M2 (X:Cx) (o:Expr) (m:Str) (apos:Pos) (e f:Expr) (cpos:Pos):Prop where
 base:attributeBase o m X.env (eval o X.env)=eval o X.env
 few:((backTo cpos (starEach [e,f] X.env)).all (fun x=>!x.1) && (backToKw cpos (keywordEach [] X.env)).all (fun x=>x.1.isSome)
  && decide (([e,f]:List Expr).length+([]:List Keyword).length+(if ([]:List Keyword).isEmpty then 0 else 1)<30))=true
 line:(apos.endLine == cpos.line)=true
 trees:backTo cpos (starEach [e,f] X.env)=[(false,eval e X.env),(false,eval f X.env)]
def IsD (H:Hp) (a:Addr):Prop:=(∃ kvs,Rd H a (.dK kvs))∨∃ kvs,Rd H a (.dT kvs)
theorem isD_at {X:Cx}{pins:List (Addr × Obj)}{σ:St}{H:Hp}{s:Shared}{a:Addr} (I:Inv X pins σ H s) (d:IsD H a) :
  s.TypeIs (.ref a) "dict" ∧ (∀ b,Value.ref a=.ref b→∃ ob,s.heap.get? b=some ob∧ob.dict=none)∧(a == sysModules)=false:=by
 rcases d with ⟨kvs,e⟩ | ⟨kvs,e⟩
 ·obtain ⟨_,hd,vs,_,dd⟩:=dk_rd I.hok e
  refine ⟨dd.typeIs,fun b q=>?_,hd⟩
  cases q
  obtain ⟨ob,_,_,h1,h2,_⟩:=dd
  exact ⟨ob,h1,h2.2.1⟩
 ·obtain ⟨_,hd,xs,_,dd⟩:=dt_rd I.hok e
  refine ⟨dd.typeIs,fun b q=>?_,hd⟩
  cases q
  obtain ⟨ob,_,_,h1,h2,_⟩:=dd
  exact ⟨ob,h1,h2.2.1⟩
section
variable {X:Cx}{pins:List (Addr × Obj)}{σ:St}{H:Hp}{s:Shared}{a:Addr}{y d:V}{u r:Value}{o:Option V}{A:Around}{E:Value→Shared→Prop}
theorem d_get2 {Q:Value→Shared→Prop} (hu:A.units+1<cLine) (I:Inv X pins σ H s) (g:DGet H a y o) (ry:RelV y u) (rd:RelV d r) (h:∀ w' s',Inv X pins σ H s'→RelV (o.getD d) w'→Q w' s') :
  wpAny (model X.prog X.w) A (call (.builtin "dict.get") [.ref a,u,r]) Q E s:=by
 rcases g with ⟨kvs,k,e,ey,l⟩ | ⟨kvs,k,b,e,ey,eb,l⟩
 ·subst ey
  obtain ⟨z,hd,vs,rel,dd⟩:=dk_rd I.hok e
  refine call_meetsIn PySem.F.slot_dict_get dd.typeIs PySem.F.entry_dict_get (PySem.F.args_dict_get_3 _ _ _) (meets_dict_get_default (mixKind X.prog X.w) a (kV_is ry) hd r) ⟨_,dd.mapOf,h _ _ (I.tok _) ?_⟩
  rw [l]
  exact (rel.val k).getD rd
 ·subst ey
  cases (show u=Value.ref b from ry)
  obtain ⟨z,hd,xs,rel,dd⟩:=dt_rd I.hok e
  refine call_meetsIn PySem.F.slot_dict_get dd.typeIs PySem.F.entry_dict_get (PySem.F.args_dict_get_3 _ _ _) (meetsH_dict_get_default (tupleKind (mixKind X.prog X.w)) a b hd r) ⟨tupleKind_room_in1 hu,k,xs,key_of I.hok eb,dd,h _ _ (I.tok _) ?_⟩
  rw [l]
  exact (rel.val k).getD rd
end
def tDGet2 (td ty tx:TE):TE:=fun σ H Q=>td σ H fun x H1=>∃ a,x=.ref a∧IsD H1 a∧ty σ H1 fun y H2=>tx σ H2 fun z H3=>∃ o,DGet H3 a y o∧Q (o.getD z) H3
section
variable {X:Cx}{o e f:Expr}{apos cpos:Pos}{td ty tx:TE}
theorem pe_dget2 (hu:X.A.units+1<cLine) (ho:PE X o td) (he:PE X e ty) (hf:PE X f tx) (m:M2 X o "get" apos e f cpos):PE X (.Call (.Attribute o "get" apos) [e,f] [] cpos) (tDGet2 td ty tx):=by
 intro pins s σ H Q I h
 refine wpAny_Call_method m.base m.few m.line PySem.F.plainAttrs_dict PySem.F.slot_dict_get PySem.F.type_dict_get (thn (ho pins s σ H _ I h) fun u s1 ⟨x,H1,I1,rx,a,ex,d,q1⟩=>?_)
 subst ex
 obtain rfl:u=Value.ref a:=rx
 obtain ⟨t1,t2,_⟩:=isD_at I1 d
 refine ⟨t1,t2,?_⟩
 rw [m.trees]
 refine Calls.callWith_builtin rfl (Calls.evalArgs_plain (Calls.spliced_cons (thn (he pins s1 σ H1 _ I1 q1) fun iv s2 ⟨y,H2,I2,ry,q2⟩ =>
  Calls.spliced_cons (thn (hf pins s2 σ H2 _ I2 q2) fun fv s3 ⟨z,H3,I3,rz,ov,g,q3⟩=>Calls.spliced_nil ?_))))
 exact d_get2 hu I3 g ry rz fun w' s4 I4 rw'=>⟨_,H3,I4,rw',q3⟩
end
section
variable {X:Cx}{pins:List (Addr × Obj)}{σ:St}{H:Hp}{s:Shared}{a:Addr}{kvs:List (Key × V)}{A:Around}{E:Value→Shared→Prop}
end
section
variable {X:Cx}{pins:List (Addr × Obj)}{σ:St}{H:Hp}{s:Shared}{a:Addr}{y:V}{u:Value}{A:Around}{E:Value→Shared→Prop}
end
end L2
namespace Att
open PySem PySem.W PySem.Calls PyProof.Rows
theorem ints_of_wellAll {P:Params}{h:Heap}:∀ (ns:List Int) (vs:List Value),WellAll P h vs (ns.map WData.int)→IntsAre vs ns:=by
 intro ns
 induction ns with
 | nil =>
  intro vs w
  rw [List.map_nil] at w
  cases w
  exact .nil
 | cons n ns ih =>
  intro vs w
  rw [List.map_cons] at w
  cases w with
  | cons a b =>
   cases a
   exact .cons _ _ (ih _ b)
theorem script_of {l:OpenLaw}{n:Nat} (hn:l.most=some n) {P:Params}{h:Heap}{args:List WData}{vals:List Value}
  (hpre:l.row.toRowW.claim.pre args=true) (hwl:WellAll P h vals args) :
  ∃ a vs ns,vals=[Value.ref a]∧args=[WData.list (ns.map WData.int)]∧h.get? a=some { cls:=.type "list",data:=.seq vs.toArray }∧IntsAre vs ns∧ns.length≤n:=by
 have hsh:WShape.hasAll [] args [.list .int]=true:=(pre_splitW hpre).1
 have hc:l.pre.holds [] { args:=args }=true:=(pre_splitW hpre).2
 obtain ⟨d,r,rfl,h1,h2⟩:=hasAllW_cons hsh
 obtain rfl:=hasAllW_nil h2
 obtain ⟨xs,rfl,h3⟩:=hasW_list h1
 obtain ⟨ns,rfl⟩:=items_int h3
 have hlen:ns.length≤n:=by
  unfold OpenLaw.pre at hc
  have h4:(WTm.not (.lt (.lit (.int (n:Int))) (.len (.arg 0)))).holds [] { args:=[.list (ns.map .int)] }=true:=by
   have h4:=(holds_andW hc).1
   rw [hn] at h4
   exact h4
  have h5:=condW_of h4 (w_not (w_lt w_lit (w_len_list (w_arg rfl))))
  rw [List.length_map] at h5
  refine Nat.le_of_not_lt fun q=>?_
  have q':(n:Int)<((ns.length:Nat):Int):=by omega
  first
   | (rw [decide_eq_true q'] at h5;exact absurd h5 (by decide))
   | (simp at h5;omega)
 cases hwl with
 | cons w1 w2 =>
  cases w2
  cases w1 with
  | list ho hall=>exact ⟨_,_,ns,rfl,rfl,ho,ints_of_wellAll ns _ hall,hlen⟩
theorem post_true (l:OpenLaw) (args:List WData):l.row.toRowW.claim.post args (.bool true) args=true :=
 postW_of (r:=l.row.toRowW) (X:=(true == true))
  (show WShape.has [] (.bool true) .bool=true by first | rfl | decide | simp [WShape.has,WShape.arms,WShape.armsAll])
  (show (WTm.eq .res (.lit (.bool true))).value [] { args:=args,res:=some (.bool true),after:=args }=some (.bool (true == true)) from w_eq_bool (w_res rfl) w_lit) rfl
theorem attach_call {l:OpenLaw}{n:Nat}{q:Program}{loose:List Str}{XP:(Str→Option Value)→Heap→Prop}{YP:World→Heap→Prop}{d:DefRec}
  (hn:l.most=some n) (hdf:d.params.defaults=[])
  (call:∀ (w:World) (s₀ s₁:Shared) (mg mb:Str→Option Value) (fa:Addr) (o:Obj) (pm cd doc:Value) (a:Addr) (vs:List Value) (ns:List Int),
   Ground q loose [] XP w s₀ mg mb s₁.heap→YP w s₁.heap →
   s₁.heap.get? fa=some o→o.data=.func (docDef d.name d.params d.body d.scope pm cd doc)→s₁.heap.CodeRec cd d.name→mg d.name=some (.ref fa) →
   s₁.heap.get? a=some { cls:=.type "list",data:=.seq vs.toArray }→IntsAre vs ns→ns.length≤n→s₁.gens = #[] →
   codeAny (model l.prog w) callerA (.call (.ref fa) ⟨[.ref a],[]⟩) (fun r s'=>r=.ok (.ret (.bool true))∧OldK s₁.heap s'.heap∧s'.os=s₁.os∧AllBare s'.gens) s₁) :
  WalkO q loose XP YP l.row.toRowW d [] (fun f vs=>PySem.call f vs):=by
 intro w s₀ s₁ mg mb G Y fa o pm cd doc dV kV ho hd hcd hD hmg hg args vals as hpre hlay hrd hwl hlo
 obtain rfl:dV=.none:=Dflts.none hD hdf
 obtain rfl:kV=.none:=Dflts.noKw hD
 obtain ⟨a,vs,ns,rfl,rfl,hobj,hints,hlen⟩:=script_of hn hpre hwl
 refine enter_call (codeAny_mono (call w s₀ s₁ mg mb fa o pm cd doc a vs ns G Y ho (fd_plain hd) hcd hmg hobj hints hlen hg) fun r s' hq=>?_)
 obtain ⟨rfl,h2,h3,h4⟩:=hq
 exact ⟨.inl ⟨.bool true,.bool true,[],rfl,fun _=>rfl,.bool true,post_true l _,fun _=>⟨List.Pairwise.nil,fun _ hm=>(nomatch hm)⟩⟩,h2,h3,h4⟩
section
variable {prog:Program}{w:World}{A:Around}{E:Value→Shared→Prop}{s:Shared}{K:Frag}
def ledger (h:Heap) (L d:Addr):List (Addr × Obj):=(List.range h.objs.size).filterMap fun a=>if a=L∨a=d then none else (h.get? a).map fun o=>(a,o)
end
end Att
namespace L2
open PySem PySem.Spec PyProof.Rows
theorem vals_ints:∀ {vs:List Value}{ns:List Int},IntsAre vs ns→Vals (ns.map V.int) vs
 | _,_,.nil=>.nil
 | _,_,.cons n t h=>.cons ⟨t,rfl⟩ (vals_ints h)
def Only (H:Hp):Prop:=∀ b,H b=none∨∃ o xs,H b=some (.frz o (.lst xs))
theorem law_call {P:Program}{w:World}{K:PySem.W.Frag}{mg mb:Str→Option Value}{CX:CXT}{k:Nat}{fa a:Addr}{fd:FuncData}{x:Str}{sp:Sp}{s₁:Shared}{vs:List Value}{ns:List Int}
  (KX:K.In s₁.heap) (hns:s₁.heap.Ns mainGlobals mg) (hb:s₁.heap.Ns builtinsNs mb) (hbb:∀ x:Str,x ≠ "__name__" → mb x=bootBuiltins x) (hlim:s₁.heap.NoLimit) (hg:s₁.gens = #[])
  (ha:s₁.heap.get? a=some { cls:=.type "list",data:=.seq vs.toArray }) (hi:IntsAre vs ns) (hl:ns.length≤sizeLine) (hr:Room k callerA)
  (F:∀ base:Heap,K.In base→base.Ns mainGlobals mg→FnOk P w K mg base CX k fa fd [x] sp) (hbind:∀ (s:Shared) (u:Value),BindsTo s fd ⟨[u],[]⟩ [(x,u)])
  (hsp:∀ H:Hp,Only H→SqL K H a (ns.map V.int)→sp [.ref a] H (fun v _=>v=.bl true) fun _ _ _=>False)
  (hCX:∀ H e s',CX [] H s₁ (fun _ _ _=>False) e s'→False) :
  codeAny (model P w) callerA (.call (.ref fa) ⟨[.ref a],[]⟩) (fun r s'=>r=.ok (.ret (.bool true))∧OldK s₁.heap s'.heap∧s'.os=s₁.os∧AllBare s'.gens) s₁:=by
 have rv:=vals_ints hi
 have lenV:=hi.length
 -- from an abstract heap in which nothing but the script may be tracked
 have core:∀ H:Hp,Only H→SqL K H a (ns.map V.int)→HOk P w H s₁.heap→(∀ b,H b≠none→b=a)→(H a≠none→K.lookup a=none) →
   codeAny (model P w) callerA (.call (.ref fa) ⟨[.ref a],[]⟩) (fun r s'=>r=.ok (.ret (.bool true))∧OldK s₁.heap s'.heap∧s'.os=s₁.os∧AllBare s'.gens) s₁:=by
  intro H hO hS hok hA hK
  have base_of:∀ {b:Addr}{o:Obj},s₁.heap.get? b=some o→H b=none→(hidT s₁.heap H).get? b=some o:=fun e n=>hidT_get e n
  have noA:∀ {b:Addr}{o:Obj}{es:Array DictEntry}{ep:Nat},s₁.heap.get? b=some o→o.data=.dict es ep→H b=none:=fun {b o es ep} e d=>by
   cases q:H b with
   | none=>rfl
   | some u =>
    have e':b=a:=hA b (by rw [q];simp)
    subst e'
    rw [ha] at e;cases e
    have d':Data.seq vs.toArray _=Data.dict es ep:=d
    cases d'
  have nsK:∀ {b:Addr}{m:Str→Option Value},s₁.heap.Ns b m→(hidT s₁.heap H).Ns b m:=fun {b m} ⟨o,es,ep,e,d,r⟩=>⟨o,es,ep,base_of e (noA e d),d,r⟩
  have hKb:K.In (hidT s₁.heap H):=fun b o e=>base_of (KX b o e) (by
   cases q:H b with
   | none=>rfl
   | some u =>
    have e':b=a:=hA b (by rw [q];simp)
    subst e'
    rw [hK (by rw [q];simp)] at e;cases e)
  have hM:Mod K mg (hidT s₁.heap H):=⟨hKb,nsK hns,⟨mb,nsK hb,hbb⟩,let ⟨mc,h1,h2⟩:=hlim;⟨mc,nsK h1,h2⟩⟩
  have e0:Env0 P w K mg (hidT s₁.heap H) callerA [] s₁ H:=⟨rfl,hM,fun b o e=>of_hidT e,Nat.le_of_eq (hidT_size _ _),trivial,fun b hb=>absurd (show b∈([]:List Addr) from hb) (by simp),hok,.of_eq hg⟩
  refine codeAny_mono ((F _ hKb (nsK hns)).run callerA [] s₁ H ⟨[.ref a],[]⟩ [.ref a] [.ref a] _ _ hr e0 (hbind s₁ (.ref a)) (.cons rfl .nil) (hsp H hO hS)) fun r s' h=>?_
  cases r with
  | error e=>exact (hCX H e s' h).elim
  | ok fl =>
   cases fl with
   | next=>exact False.elim h
   | brk=>exact False.elim h
   | cont=>exact False.elim h
   | ret u =>
    obtain ⟨v,H',os,bare,un,hok',r',q⟩:=h
    have q':v=.bl true:=q
    subst q'
    obtain rfl:u=Value.bool true:=r'
    refine ⟨rfl,OldK.of_keep fun b o e=>?_,os,bare⟩
    cases q:H b with
    | none=>exact un.keep b o e q (by intro z;exact absurd (show b∈([]:List Addr) from z) (by simp)) (by simp)
    | some u =>
     rcases hO b with z | ⟨ob,xs,z⟩
     ·rw [q] at z;cases z
     ·have z2:=un.frzs b ob _ z
      obtain ⟨e1,_⟩:=hok b _ z
      obtain ⟨e2,_⟩:=hok' b _ z2
      rw [e] at e1;cases e1
      exact e2
 cases hk:K.lookup a with
 | some o =>
  -- the script is one of the module's own objects
  have e:=KX a o hk
  rw [ha] at e
  cases e
  refine core (fun _=>none) (fun _=>.inl rfl) (.inr ⟨_,vs.toArray,_,hk,rfl,rfl,rfl,by rw [List.size_toArray,lenV];exact hl,by simpa using rv⟩) (fun b u z=>by have z':(none:Option HO)=some u:=z;cases z') (fun b z=>absurd rfl z) fun z=>absurd rfl z
 | none =>
  refine core (fun b=>if b=a then some (.frz { cls:=.type "list",data:=.seq vs.toArray } (.lst (ns.map V.int))) else none) (fun b=>?_) (.inl (.inr ⟨{ cls:=.type "list",data:=.seq vs.toArray },if_pos rfl⟩)) (fun b u z=>?_) (fun b z=>?_) fun _=>hk
  ·by_cases hb:b=a
   ·exact .inr ⟨_,_,if_pos hb⟩
   ·exact .inl (if_neg hb)
  ·by_cases hb:b=a
   ·have z':=(if_pos hb).symm.trans z
    cases z'
    subst hb
    exact ⟨ha,by rw [List.length_map];exact hl,vs,_,rv,ha⟩
   ·have z':=(if_neg hb).symm.trans z
    cases z'
  ·by_cases hb:b=a
   ·exact hb
   ·exact absurd (if_neg hb) z
abbrev KOf {K:PySem.W.Frag}{h:Heap} (_:K.In h):PySem.W.Frag:=K
theorem walk_of {l:PySem.W.OpenLaw}{n k:Nat}{q:Program}{loose:List Str}{XP:(Str→Option Value)→Heap→Prop}{YP:World→Heap→Prop}{d:DefRec}{K:Params→PySem.W.Frag}{CX:World→CXT}{sp:World→Sp}{x:Str}
  (hn:l.most=some n) (hn2:n≤sizeLine) (hdf:d.params.defaults=[]) (hr:Room k callerA)
  (hY:∀ (w:World) (h:Heap),YP w h→(K w.params).In h)
  (F:∀ (w:World) (mg:Str→Option Value) (fa:Addr) (h:Heap),(K w.params).In h→h.Ns mainGlobals mg→mg d.name=some (.ref fa) →
   ∃ fd:FuncData,(∀ (s:Shared) (u:Value),BindsTo s fd ⟨[u],[]⟩ [(x,u)]) ∧
    ∀ base:Heap,(K w.params).In base→base.Ns mainGlobals mg→FnOk l.prog w (K w.params) mg base (CX w) k fa fd [x] (sp w))
  (hsp:∀ (w:World) (H:Hp) (a:Addr) (ns:List Int),ns.length≤n→Only H→SqL (K w.params) H a (ns.map V.int)→sp w [.ref a] H (fun v _=>v=.bl true) fun _ _ _=>False)
  (hCX:∀ (w:World) (H:Hp) (s:Shared) (e:Value) (s':Shared),CX w [] H s (fun _ _ _=>False) e s'→False) :
  PySem.W.WalkO q loose XP YP l.row.toRowW d [] (fun f vs=>PySem.call f vs):=by
 refine Att.attach_call hn hdf fun w s₀ s₁ mg mb fa o pm cd doc a vs ns G Y ho hd hcd hmg hobj hints hlen hg=>?_
 have KX:=hY w _ Y
 obtain ⟨fd,hb,hF⟩:=F w mg fa _ KX G.T.g hmg
 exact law_call KX G.T.g G.T.b G.T.builtins G.T.nolimit hg hobj hints (Nat.le_trans hlen hn2) hr hF hb (fun H hO hS=>hsp w H a ns hlen hO hS) fun H e s'=>hCX w H s₁ e s'
end L2
/- THE LAST THEOREM (shape;LID,My.* are yours):
   My.Adr: a structure of the addresses that your layer names (classes,functions);My.Txt K t: a structure (Prop) of the equations over K;
   My.txt_mk:{K}{implicit addresses ..} (e1:nsIn K mainGlobals "law" = some (some (.ref f))) (e2:K.lookup f=some ⟨oc,od,.func (fnOf "law" "law" params body scope dV kV doc pm an cdv ct),sl⟩) (e3:codeIn K cdv "law" = true) .. : ∃ t,My.Txt K t
set_option maxRecDepth 100000 in
set_option maxHeartbeats 0 in
theorem PySem.Challenge.cw_LID_holds : PySem.Challenge.rw_LID.Holds := by
 w_on;o_law;k_head;(case hw=>w_witness2)
 k_fill
 refine L2.walk_of (l:=PySem.Challenge.rw_LID) (n:=63) (k:=40) (x:="script") (CX:=fun w=>..) (sp:=fun _=>My.sp_law) rfl (by decide) rfl ⟨rfl,by decide,by decide⟩ (fun w h Y=>PySem.W.kIn_of Y) ?F ?S ?C
 case F =>
  intro w mg fa h KX G hmg
  have T:∃ t,My.Txt (L2.KOf KX) t:=by
   dsimp only [L2.KOf]                          -- K must stand as «<heap const> w.params» for k_is
   refine' My.txt_mk ?e1 ?e2 ?e3 ..
   (case e1 => PySem.W.k_is)                    -- in the order: a name -> its address -> its object -> its parts
   (case e2=>PySem.W.k_is)
   ..
  obtain ⟨t,T⟩:=T
  have e0:=hmg.symm.trans (PySem.W.mg_of KX G T.law)
  cases e0                                       -- fa is the law's own address
  exact ⟨_, fun s u => .of_eq rfl, fun base kb nb => My.law_fn T kb nb⟩     -- if «.of_eq rfl» comes too early: refine' ⟨_, ?b, fun base kb nb => My.law_fn T kb nb⟩; exact fun s u => .of_eq rfl
 case S=>exact fun w H a ns hl hO hS=>..
 case C=>exact ..
(the tactic k_is has no namespace: write k_is) -/
namespace L2
open PySem PySem.Spec PyProof.Rows
def inClass (s:Stmt) (j:Nat):Stmt:=match s with
 | .ClassDef _ _ _ body _ _ _ _ _ _ _=>body.getD j (.Pass ⟨0,0,0,0⟩)
 | _=>.Pass ⟨0,0,0,0⟩
def defArgs (s:Stmt):Arguments:=match s with
 | .FunctionDef _ a _ _ _ _ _ _ _ _=>a
 | _=>{ posonlyargs:=[],args:=[],vararg:=none,kwonlyargs:=[],kw_defaults:=[],kwarg:=none,defaults:=[] }
def defBody (s:Stmt):List Stmt:=match s with
 | .FunctionDef _ _ b _ _ _ _ _ _ _=>b
 | _=>[]
def defScope (s:Stmt):Scope:=match s with
 | .FunctionDef _ _ _ _ _ _ sc _ _ _=>sc
 | _=>{ kind:=.function,names:=[],isGenerator:=false,isCoroutine:=false }
abbrev CX0:CXT:=fun _ _ _ _ _ _=>False
abbrev E0:XK:=fun _ _ _=>False
theorem pass0 {X:Cx}:Passes CX0 X E0:=fun _ _ _ _ _ _ _ h=>h.elim
structure Fun (K:PySem.W.Frag) (x qual:Str) (st:Stmt) (f:Addr) (fd:FuncData):Prop where
 ex:∃ (oc:Value) (od:Option Addr) (kV doc pm:Value) (an:Option Addr) (cdv ct:Value) (osl:Array (Option Value)),
  fd=PySem.W.fnOf x qual (defArgs st) (defBody st) (defScope st) .none kV doc pm an cdv ct∧K.lookup f=some ⟨oc,od,.func fd,osl⟩∧PySem.W.codeIn K cdv qual=true
 kp:PySem.W.keepIn K (.ref f)=true
section
variable {P:Program}{w:World}{K:PySem.W.Frag}{mg:Str→Option Value}{base:Heap}
theorem Fun.ok {x qual:Str}{st:Stmt}{f:Addr}{fd:FuncData}{N ps:List Str}{k:Nat}{sp:Sp} (F:Fun K x qual st f fd) (S:FnScope N ps (defScope st)) (len:∀ vs H Q E,sp vs H Q E→vs.length=ps.length)
  (hbody:∀ (cdv:Value) (A:Around) (outer:List Env) (s:Shared) (H:Hp) (vs:List V) (Q:VK) (E:XK),Room k (A.deeper (envOfC qual (defScope st) s.heap.objs.size f cdv))→sp vs H Q E →
   ∃ t,PSs (cxOf CX0 P w K mg base N qual (defScope st) f cdv A outer s H E).nox (defBody st) t∧t { nx:=fun _ H'=>Q .non H',rt:=Q } (start N vs) H):FnOk P w K mg base CX0 (k+1) f fd ps sp:=by
 obtain ⟨oc,od,kV,doc,pm,an,cdv,ct,osl,rfl,lk,hcd⟩:=F.ex
 refine fn_of lk hcd S len fun A outer s H vs Q E hr hsp=>?_
 obtain ⟨t,h,q⟩:=hbody cdv A outer s H vs Q E hr hsp
 exact ⟨t,h.nox,q⟩
theorem Fun.binds {x qual:Str}{st:Stmt}{f:Addr}{fd:FuncData}{ps:List Str} (F:Fun K x qual st f fd)
  (h:∀ (kV doc pm:Value) (an:Option Addr) (cdv ct:Value) (us:List Value),us.length=ps.length→bindArgs (PySem.W.fnOf x qual (defArgs st) (defBody st) (defScope st) .none kV doc pm an cdv ct) ⟨us,[]⟩=pure (ps.zip us)):Binds K fd ps []:=by
 obtain ⟨oc,od,kV,doc,pm,an,cdv,ct,osl,rfl,lk,hcd⟩:=F.ex
 exact .all (h kV doc pm an cdv ct)
theorem fun_mk {x qual:Str}{st:Stmt}{f:Addr}{oc:Value}{od an:Option Addr}{osl:Array (Option Value)}{kV doc pm cdv ct:Value} (l:K.lookup f=some ⟨oc,od,.func (PySem.W.fnOf x qual (defArgs st) (defBody st) (defScope st) .none kV doc pm an cdv ct),osl⟩)
  (c:PySem.W.codeIn K cdv qual=true) (k:PySem.W.keepIn K (.ref f)=true):Fun K x qual st f (PySem.W.fnOf x qual (defArgs st) (defBody st) (defScope st) .none kV doc pm an cdv ct):=⟨⟨oc,od,kV,doc,pm,an,cdv,ct,osl,rfl,l,c⟩,k⟩
end
theorem hu_of {A:Around}{k:Nat} (hr:Room k A):A.units+1<cLine:=Nat.lt_of_le_of_lt (Nat.add_le_add_left (by decide:1≤64) _) hr.units
section
variable {X:Cx}
theorem call_lenD:CallR X (.builtin "len") (fun xs H Q=>∃ a kvs,xs=[V.ref a]∧H a=some (.dK kvs)∧Q (.int kvs.length) H):=by
 intro pins s σ H xs us Q I r h
 obtain ⟨a,kvs,rfl,ha,q⟩:=h
 obtain ⟨u,rfl,ru⟩:=vals1 r
 cases ru
 exact d_len I (.inl ha) fun t s' I'=>⟨.int kvs.length,H,I',⟨t,rfl⟩,q⟩
end
def Same (H H':Hp):Prop:=∀ b o,H b=some o→H' b=some o
theorem Same.refl (H:Hp):Same H H:=fun _ _ h=>h
theorem Same.trans {H H1 H2:Hp} (a:Same H H1) (b:Same H1 H2):Same H H2:=fun c o h=>b c o (a c o h)
theorem Same.free {H H':Hp} (e:Same H H') {l:Addr} (h:H' l=Option.none):H l=Option.none:=by
 cases q:H l with
 | none=>rfl
 | some o =>
  rw [e l o q] at h
  cases h
theorem Same.seq {K:PySem.W.Frag}{H H':Hp}{a:Addr}{xs:List V} (e:Same H H') (h:SqL K H a xs):SqL K H' a xs:=by
 rcases h with (h | ⟨o,h⟩) | h
 ·exact .inl (.inl (e _ _ h))
 ·exact .inl (.inr ⟨o,e _ _ h⟩)
 ·exact .inr h
section
variable {κ:Type} [DecidableEq κ]
end
def clOf (env:Env):List (Str × NameKind)→List (Str × Addr)→List (Str × Addr)
 | [],acc=>acc
 | (n,k) :: r,acc=>if (k == NameKind.free)=true then clOf env r ((n,(env.cells.lookup n).getD 0) :: acc) else clOf env r acc
theorem cellOf_eq {env:Env}{n:Str}{c:Addr} (h:env.cells.lookup n=some c):cellOf env n=pure c:=by
 unfold cellOf
 rw [h]
theorem closure_go {env:Env}:∀ (names:List (Str × NameKind)) (acc:List (Str × Addr)),(∀ x∈names,x.2=.free→∃ c,env.cells.lookup x.1=some c) →
  (forIn names acc fun (x:Str × NameKind) (cs:List (Str × Addr))=>(match x with | (name,kind)=>if (kind == NameKind.free)=true then (do let __do_lift ← cellOf env name;pure PUnit.unit;pure (ForInStep.yield ((name,__do_lift) :: cs)):Sem _) else (do pure PUnit.unit;pure (ForInStep.yield cs)):Sem (ForInStep (List (Str × Addr)))))=pure (clOf env names acc)
 | [],acc,_=>rfl
 | (n,k) :: r,acc,h=>by
  have ih:=fun a=>closure_go r a fun x hx=>h x (List.mem_cons_of_mem _ hx)
  rw [List.forIn_cons]
  by_cases hk:(k == NameKind.free)=true
  ·obtain ⟨c,hc⟩:=h (n,k) List.mem_cons_self (by simpa using hk)
   simp only [hk,if_true,clOf,cellOf_eq hc,hc,Option.getD_some,pure_bind]
   exact ih _
  ·simp only [hk,if_false,clOf,pure_bind]
   exact ih _
theorem closure_of {scope:Scope}{env:Env} (h:∀ x∈scope.names,x.2=.free→∃ c,env.cells.lookup x.1=some c):closureFor scope env=pure (clOf env scope.names []):=by
 unfold closureFor
 have q:=closure_go scope.names [] h
 exact (congrArg (fun m=>m >>= pure) q).trans (pure_bind _ _)
theorem clOf_sub {env:Env}:∀ (names:List (Str × NameKind)) (acc:List (Str × Addr)),(∀ x∈names,x.2=.free→∃ c,env.cells.lookup x.1=some c)→(∀ p∈acc,env.cells.lookup p.1=some p.2) →
  ∀ p∈clOf env names acc,env.cells.lookup p.1=some p.2
 | [],acc,_,ha=>ha
 | (n,k) :: r,acc,h,ha=>by
  by_cases hk:(k == NameKind.free)=true
  ·obtain ⟨c,hc⟩:=h (n,k) List.mem_cons_self (by simpa using hk)
   simp only [clOf,hk,if_true]
   refine clOf_sub r _ (fun x hx=>h x (List.mem_cons_of_mem _ hx)) fun p hp=>?_
   rcases List.mem_cons.mp hp with rfl | hp
   ·show env.cells.lookup n=some _
    rw [hc];rfl
   ·exact ha p hp
  ·simp only [clOf,hk,if_false]
   exact clOf_sub r _ (fun x hx=>h x (List.mem_cons_of_mem _ hx)) ha
theorem clOf_acc {env:Env}:∀ (names:List (Str × NameKind)) (acc:List (Str × Addr)) (p:Str × Addr),p∈acc→p∈clOf env names acc
 | [],_,_,h=>h
 | (n,k) :: r,acc,p,h=>by
  by_cases hk:(k == NameKind.free)=true
  ·simp only [clOf,hk,if_true]
   exact clOf_acc r _ p (List.mem_cons_of_mem _ h)
  ·simp only [clOf,hk,if_false]
   exact clOf_acc r _ p h
theorem clOf_has {env:Env}:∀ (names:List (Str × NameKind)) (acc:List (Str × Addr)) (x:Str),(x,NameKind.free)∈names→∃ c,(x,c)∈clOf env names acc
 | (n,k) :: r,acc,x,h=>by
  rcases List.mem_cons.mp h with e | h
  ·injection e with e1 e2
   subst e1;subst e2
   simp only [clOf,beq_self_eq_true,if_true]
   exact ⟨_,clOf_acc r _ _ List.mem_cons_self⟩
  ·by_cases hk:(k == NameKind.free)=true
   ·simp only [clOf,hk,if_true]
    exact clOf_has r _ x h
   ·simp only [clOf,hk,if_false]
    exact clOf_has r _ x h
theorem lookup_some_of_mem:∀ {l:List (Str × Addr)}{x:Str}{c:Addr},(x,c)∈l→∃ d,l.lookup x=some d
 | (n,d) :: r,x,c,h=>by
  by_cases e:x == n
  ·exact ⟨d,by simp [List.lookup_cons,e]⟩
  ·rcases List.mem_cons.mp h with q | q
   ·injection q with q1 _
    subst q1
    simp at e
   ·obtain ⟨d',hd⟩:=lookup_some_of_mem q
    exact ⟨d',by simp [List.lookup_cons,e,hd]⟩
theorem relabel_look {env:Env}:∀ {names:List (Str × NameKind)}{x:Str}{k:NameKind},
  (names.map fun (n,k)=>if (k == NameKind.free && env.scope.kind == .function && env.kindOf n == some .cell) then (n,NameKind.cell) else (n,k)).lookup x=some k →
  ∃ k',names.lookup x=some k'∧(k=k'∨k'=.free)
 | [],_,_,h=>by simp at h
 | (n,j) :: r,x,k,h=>by
  have ih:=@relabel_look env r x k
  by_cases hc:(j == NameKind.free && env.scope.kind == .function && env.kindOf n == some .cell)=true
  ·simp only [List.map_cons,hc,if_true,List.lookup_cons] at h ⊢
   cases e:x == n with
   | true =>
    rw [e] at h
    refine ⟨j,rfl,.inr ?_⟩
    simp only [Bool.and_eq_true,beq_iff_eq] at hc
    exact hc.1.1
   | false =>
    rw [e] at h
    exact ih h
  ·rw [List.map_cons] at h
   dsimp only at h
   rw [if_neg hc,List.lookup_cons] at h
   rw [List.lookup_cons]
   cases e:x == n with
   | true =>
    rw [e] at h
    exact ⟨j,rfl,.inl (by injection h with h;exact h.symm)⟩
   | false =>
    rw [e] at h
    exact ih h
theorem relabel_free {env:Env}:∀ {names:List (Str × NameKind)}{x:Str},names.lookup x=some .free →
  (names.map fun (n,k)=>if (k == NameKind.free && env.scope.kind == .function && env.kindOf n == some .cell) then (n,NameKind.cell) else (n,k)).lookup x=some .cell ∨
  (names.map fun (n,k)=>if (k == NameKind.free && env.scope.kind == .function && env.kindOf n == some .cell) then (n,NameKind.cell) else (n,k)).lookup x=some .free
 | [],_,h=>by simp at h
 | (n,j) :: r,x,h=>by
  have ih:=@relabel_free env r x
  cases e:x == n with
  | true =>
   rw [List.lookup_cons,e] at h
   injection h with h
   subst h
   rw [List.map_cons]
   dsimp only
   split
   ·exact .inl (by simp [List.lookup_cons,e])
   ·exact .inr (by simp [List.lookup_cons,e])
  | false =>
   rw [List.lookup_cons,e] at h
   rcases ih h with q | q
   ·left
    rw [List.map_cons]
    dsimp only
    split <;> simp only [List.lookup_cons,e] <;> exact q
   ·right
    rw [List.map_cons]
    dsimp only
    split <;> simp only [List.lookup_cons,e] <;> exact q
def ccx (X:Cx) (scope:Scope) (N:List Str) (C:Addr) (s:Shared) (H:Hp) (fp:List Addr):Cx :=
 { X with N:=N,s₀:=s,H₀:=H,env:=compEnvC scope (clOf X.env scope.names []) C X.env,outer:=X.stack,stack:=X.stack,ex:=fp,fn:=fun _=>false,pn:=[],xe:=fun _ _=>False }
structure CScope (X:Cx) (scope:Scope):Prop where
 kind:scope.kind=.function
 nocell:∀ y∈scope.names,y.2≠.cell
 names:∀ y∈scope.names,y.2=.local→scope.names.lookup y.1=some .local
 free:∀ y∈scope.names,y.2=.free→X.env.kindOf y.1=some .cell∨X.env.kindOf y.1=some .free
section
variable {X:Cx}{pins:List (Addr × Obj)}{σ:St}{H:Hp}{s:Shared}
theorem CScope.has {scope:Scope} (S:CScope X scope) (ok:X.Ok):∀ x∈scope.names,x.2=.free→∃ c,X.env.cells.lookup x.1=some c:=fun x hx h=>ok.has _ (S.free x hx h)
theorem cl_sub {scope:Scope} (S:CScope X scope) (ok:X.Ok) {x:Str}{c:Addr} (h:(clOf X.env scope.names []).lookup x=some c):X.env.cells.lookup x=some c :=
 clOf_sub scope.names [] (S.has ok) (fun p hp=>absurd hp (by simp)) (x,c) (PySem.mem_of_lookup h)
theorem cl_free {scope:Scope} (S:CScope X scope) (ok:X.Ok) {x:Str} (h:scope.names.lookup x=some .free):∃ c,(clOf X.env scope.names []).lookup x=some c∧X.env.cells.lookup x=some c:=by
 obtain ⟨c,hc⟩:=clOf_has (env:=X.env) scope.names [] x (PySem.mem_of_lookup h)
 obtain ⟨d,hd⟩:=lookup_some_of_mem hc
 exact ⟨d,hd,cl_sub S ok hd⟩
structure CNames (X:Cx) (scope:Scope) (N:List Str) (k:Nat) (sel:List Nat):Prop where
 len:N.length=k+sel.length
 fr:∀ (i j:Nat) (x:Str),sel[i]? = some j→N[k+i]? = some x→X.N[j]? = some x∧scope.names.lookup x=some .free
def cst (σ:St) (k:Nat) (sel:List Nat):St:=List.replicate k none ++ sel.map fun j=>(σ[j]?).join
theorem cst_len {k:Nat}{sel:List Nat}:(cst σ k sel).length=k+sel.length:=by
 unfold cst;rw [List.length_append,List.length_replicate,List.length_map]
theorem ccx_ok {scope:Scope}{N:List Str}{fp:List Addr} (S:CScope X scope) (I:Inv X pins σ H s) (hf:∀ b∈fp,FpOk X pins H b) (hlt:∀ b∈fp,b<s.heap.objs.size):(ccx X scope N s.heap.objs.size s H fp).Ok where
 mod:=I.ok.mod
 kind:=S.kind
 glob:=I.ok.glob
 blt:=I.ok.blt
 above:=Nat.le_refl _
 inj:=fun x y c h1 h2=>I.ok.inj x y c (cl_sub S I.ok h1) (cl_sub S I.ok h2)
 has:=fun x h=>by
  have h':(relabel scope X.env).names.lookup x=some .cell∨(relabel scope X.env).names.lookup x=some .free:=h
  rcases h' with h' | h'
  ·obtain ⟨k',e,q⟩:=relabel_look h'
   rcases q with q | q
   ·subst q
    exact absurd rfl (S.nocell _ (PySem.mem_of_lookup e))
   ·subst q
    obtain ⟨c,hc,_⟩:=cl_free S I.ok e
    exact ⟨c,hc⟩
  ·obtain ⟨k',e,q⟩:=relabel_look h'
   have:k'=.free:=by rcases q with q | q;exact q.symm;exact q
   subst this
   obtain ⟨c,hc,_⟩:=cl_free S I.ok e
   exact ⟨c,hc⟩
 cab:=fun x c h=>absurd (show false=true from h) (by simp)
 hd:=I.ok.hd
 frames:=I.ok.frames
 stk:=.inl rfl
 exf:=fun b hb=>⟨Nat.ne_of_lt (hlt b hb),fun x c h=>(hf b hb).2.2.2.2.1 x c (cl_sub S I.ok h)⟩
 bs:=I.bs
 bsz:=Nat.le_trans I.ok.bsz I.sz
 noex:=fun b o e hb=>by
  rcases (hf b hb).2.2.2.1 with z | z
  ·exact I.ok.noex b o e z
  ·exact absurd (Nat.lt_of_lt_of_le (Heap.lt_size e) (Nat.le_trans I.ok.bsz z)) (Nat.lt_irrefl _)
 exfs:=fun b hb z=>by
  rcases List.mem_cons.mp (I.stkSub b z) with q | q
  ·exact (hf b hb).2.1 q
  ·exact (hf b hb).2.2.1 q
 funs:=I.stack
 frf:=I.stkFree
theorem ccx_inv {scope:Scope}{N:List Str}{fp:List Addr}{k:Nat}{sel:List Nat}{h₁:Heap}{m:Str→Option Value}{t':Nat} (S:CScope X scope) (M:CNames X scope N k sel) (I:Inv X pins σ H s) (hf:∀ b∈fp,FpOk X pins H b) (hlt:∀ b∈fp,b<s.heap.objs.size)
  (hn:h₁.Ns s.heap.objs.size m) (hk:∀ b o,s.heap.get? b=some o→h₁.get? b=some o):Inv (ccx X scope N s.heap.objs.size s H fp) [] (cst σ k sel) H { s with heap:=h₁,toks:=t' }:=by
 refine ⟨ccx_ok S I hf hlt,rfl,I.bare,Un.kept hk,⟨m,hn,fun i x v e1 e2 e3=>?_⟩,fun x c e=>?_,I.hok.fresh (Nat.le_refl _),fun x c e=>I.freeC x c (cl_sub S I.ok e),fun p hp=>absurd (show p∈([]:List (Addr × Obj)) from hp) (by simp),I.hok.kept hk,?_⟩
 ·have hi:k≤i:=by
   by_cases hi:k≤i
   ·exact hi
   ·unfold cst at e2
    rw [List.getElem?_append_left (by simp;omega),List.getElem?_replicate] at e2
    split at e2 <;> cases e2
  obtain ⟨d,rfl⟩:∃ d,i=k+d:=⟨i - k,by omega⟩
  unfold cst at e2
  rw [List.getElem?_append_right (by simp),List.length_replicate,Nat.add_sub_cancel_left,List.getElem?_map] at e2
  cases ej:sel[d]? with
  | none=>rw [ej] at e2;cases e2
  | some j =>
   rw [ej] at e2
   have e2':(σ[j]?).join=some v:=Option.some.inj e2
   have e4:σ[j]? = some (some v):=by
    cases q:σ[j]? with
    | none=>rw [q] at e2';cases e2'
    | some o=>rw [q] at e2';cases o with
     | none=>cases e2'
     | some w=>cases e2';rfl
   obtain ⟨hN,hfr⟩:=M.fr d j x ej e1
   obtain ⟨mo,hno,hlo⟩:=I.loc
   have hkind:=S.free _ (PySem.mem_of_lookup hfr) rfl
   obtain ⟨u,ru,lu⟩:=hlo j x v hN e4 (by rcases hkind with q | q;exact .inr (.inl q);exact .inr (.inr q))
   obtain ⟨c,hc,hc'⟩:=cl_free S I.ok hfr
   refine ⟨u,ru,.inr ⟨?_,c,hc,?_⟩⟩
   ·exact relabel_free hfr
   ·rcases lu with ⟨kl,_⟩ | ⟨_,c',e5,z⟩
    ·rcases hkind with q | q
     ·rw [kl] at q;cases q
     ·rw [kl] at q;cases q
    ·rw [hc'] at e5;cases e5
     obtain ⟨o,ho,hd⟩:=z
     exact ⟨o,hk _ _ ho,hd⟩
 ·obtain ⟨v,o,ho,hd⟩:=I.cell x c (cl_sub S I.ok e)
  exact ⟨v,o,hk _ _ ho,hd⟩
 ·rw [cst_len];exact M.len.symm
end
def PTs (X:Cx) (ifs:List Expr) (t:TT):Prop :=
 ∀ (pins:List (Addr × Obj)) (s:Shared) (σ:St) (H:Hp) (Q:Bool→Hp→Prop),Inv X pins σ H s→t σ H Q →
  wpAny (model X.prog X.w) X.A (forIn ifs true fun c r=>if r=true then do let ok ← isTrue c X.env (eval c X.env);pure (ForInStep.yield ok) else pure (ForInStep.yield r)) (TP X pins σ Q) X.xe s
def tTrue:TT:=fun _ H Q=>Q true H
theorem pts_nil {X:Cx}:PTs X [] tTrue:=fun pins s σ H Q I h=>wpAny_tests_nil ⟨H,I,h⟩
theorem pts_one {X:Cx}{c:Expr}{t:TT} (hc:PT X c t):PTs X [c] t:=fun pins s σ H Q I h=>wpAny_tests_one (hc pins s σ H Q I h)
def tComp (wi:TI) (k:Nat) (sel:List Nat) (g:TG) (tt:TT) (te:TE):TE:=fun σ H Q=>wi σ H fun J H1=>∀ p,H1 p=none →
 ∃ W:Nat→Nat→St→Hp→Prop,(∃ m,W 0 m (cst σ k sel) (upd H1 p (.lst [])))∧∀ i m σ2 H2,W i m σ2 H2 →
  (J.stop i H2∧Q (.ref p) H2)∨(J.go i H2∧∀ x H3,J.yld i H2 x H3→g x σ2 H3 fun σ4 H4=>tt σ4 H4 fun b H5 =>
   if b=true then te σ4 H5 fun v H6=>∃ ys,H6 p=some (.lst ys)∧ys.length<sizeLine∧∃ m',m'<m∧W (i+1) m' σ4 (upd H6 p (.lst (ys ++ [v]))) else ∃ m',m'<m∧W (i+1) m' σ4 H5)
theorem comp_loop {X:Cx}{elt tg iter:Expr}{ifs:List Expr}{scope:Scope}{pos:Pos}{it D:Addr}{fp:List Addr}{tn:Nat→Heap→Prop}{J:It}{g:TG}{tt:TT}{te:TE}{W:Nat→Nat→St→Hp→Prop}{R:Result→Shared→Prop}{QQ:Hp→Prop}
  (hx:X.xe=fun _ _=>False) (hc:X.calm=true) (T:Turn X.prog X.w X.K tg J fp it tn) (hg:PG X tg g) (ht:PTs X ifs tt) (he:PE X elt te)
  (hfp:∀ b∈fp,b≠X.env.locals∧b ∉ X.fs∧(b∈X.ex∨X.s₀.heap.objs.size≤b)∧(∀ x c,X.env.cells.lookup x=some c→c≠b)∧∀ p∈X.pn ++ [],p.1≠b)
  (turn:∀ i m σ2 H2,W i m σ2 H2 →
   (J.stop i H2∧QQ H2)∨(J.go i H2∧∀ x H3,J.yld i H2 x H3→g x σ2 H3 fun σ4 H4=>tt σ4 H4 fun b H5 =>
    if b=true then te σ4 H5 fun v H6=>∃ ys,H6 D=some (.lst ys)∧ys.length<sizeLine∧∃ m',m'<m∧W (i+1) m' σ4 (upd H6 D (.lst (ys ++ [v]))) else ∃ m',m'<m∧W (i+1) m' σ4 H5))
  (hR:∀ s' σ' H',Inv X [] σ' H' s'→QQ H'→R (.ok .next) s') {s:Shared} (m0:Nat) (h:∃ i σ' H',Inv X [] σ' H' s∧tn i s.heap∧(∀ b∈fp,H' b=none)∧W i m0 σ' H') :
  codeAny (model X.prog X.w) X.A (.compLoop (.ListComp elt [⟨tg,iter,ifs,0⟩] scope pos) 0 (.ref it) (.ref D) X.env) R s:=by
 have stat:∀ {H':Hp},(∀ b∈fp,H' b=none)→∀ b∈fp,FpOk X [] H' b:=fun hn b hb=>⟨hn b hb,hfp b hb⟩
 have noE:∀ {α:Type}{t:Sem α}{Q:α→Shared→Prop}{E:Value→Shared→Prop}{s:Shared},wpAny (model X.prog X.w) X.A t Q X.xe s→wpAny (model X.prog X.w) X.A t Q E s:=fun {α t Q E s} h=>by
  rw [hx] at h
  exact wpAny_noRaise h
 refine codeAny_loop rfl (fun n s'=>∃ i σ' H',Inv X [] σ' H' s'∧tn i s'.heap∧(∀ b∈fp,H' b=none)∧W i n σ' H') (fun n s3 hI=>?_) m0 h
 obtain ⟨i,σ3,H3,I3,st3,fr3,w3⟩:=hI
 show wpAny _ X.A ((compTurn (.ListComp elt [⟨tg,iter,ifs,0⟩] scope pos) 0 (.ref it) (.ref D) X.env).onRaise (fun x=>do noteFrame x X.env;theTreesLotGoes x)) _ _ s3
 refine wpAny_noted ?_
 rw [compTurn_list]
 rcases turn i n σ3 H3 w3 with ⟨stop,qn⟩ | ⟨go,step⟩
 ·refine wpAny_bind (wpAny_standAt (wpAny_bind (thn (noE (T.done X rfl rfl rfl hc i [] s3 σ3 H3 X.xe I3 (stat fr3) st3 stop)) fun r s4 ⟨hr,I4⟩=>?_)))
  subst hr
  exact wpAny_pure (hR s4 σ3 H3 I4 qn)
 ·refine wpAny_bind (wpAny_standAt (wpAny_bind (thn (noE (T.item X rfl rfl rfl hc i [] s3 σ3 H3 X.xe I3 (stat fr3) st3 go)) fun r s4 ⟨u,hr,h4⟩=>?_)))
  subst hr
  refine wpAny_bind (thn (noE h4) fun _ s5 ⟨x,H5,I5,r5,y5,st5,fr5⟩=>?_)
  have I5':=I5.pinned (stat fr5) (T.obj _ _ st5)
  refine wpAny_bind (thn (noE (hg _ s5 σ3 H5 x u _ I5' r5 (step x H5 y5))) fun _ s6 ⟨σ6,H6,I6,q6⟩=>?_)
  refine wpAny_bind (thn (noE (ht _ s6 σ6 H6 _ I6 q6)) fun ok s7 ⟨H7,I7,q7⟩=>?_)
  have again:∀ {s8:Shared}{H8:Hp},Inv X ([] ++ pinsAt fp s5.heap) σ6 H8 s8→(∃ m',m'<n∧W (i+1) m' σ6 H8)→∃ m,m<n∧∃ i σ' H',Inv X [] σ' H' s8∧tn i s8.heap∧(∀ b∈fp,H' b=none)∧W i m σ' H':=fun {s8 H8} I8 n8=>by
   obtain ⟨m',hm,w8⟩:=n8
   refine ⟨m',hm,i+1,σ6,H8,I8.unpinned,T.keep _ _ _ st5 fun b hb o e=>(I8.pin (b,o) (List.mem_append_right _ (List.mem_append_right _ (mem_pinsAt hb e)))).1,fun b hb=>?_,w8⟩
   obtain ⟨o,e,d⟩:=T.obj _ _ st5 b hb
   exact (I8.pin (b,o) (List.mem_append_right _ (List.mem_append_right _ (mem_pinsAt hb e)))).2.1
  cases ok with
  | false=>exact wpAny_pure ⟨rfl,again I7 q7⟩
  | true =>
   refine wpAny_bind (wpAny_bind (thn (noE (he _ s7 σ6 H7 _ I7 q7)) fun y s8 ⟨v,H8,I8,r8,ys,hys,hl,q8⟩=>?_))
   refine wpAny_bind (thn (noE (mt_append _ s8 σ6 H8 (.ref D) [v] (.ref D) [y] (fun _ H9=>∃ m',m'<n∧W (i+1) m' σ6 H9) I8 rfl (.cons r8 .nil) ⟨D,ys,v,rfl,rfl,hys,hl,q8⟩)) fun _ s9 ⟨_,H9,I9,_,q9⟩=>?_)
   exact wpAny_pure (wpAny_pure ⟨rfl,again I9 q9⟩)
structure CFree (X:Cx) (pins:List (Addr × Obj)) (H:Hp) (C:Addr) (s:Shared):Prop where
 none:H C=Option.none
 ne:C≠X.env.locals
 above:X.s₀.heap.objs.size≤C
 cells:∀ x c,X.env.cells.lookup x=some c→c≠C
 pins:∀ p∈X.pn ++ pins,p.1≠C
 ns:∃ m,s.heap.Ns C m
theorem comp_block {X:Cx}{pins:List (Addr × Obj)}{σ:St}{elt tg iter:Expr}{ifs:List Expr}{scope:Scope}{pos:Pos}{N:List Str}{k:Nat}{sel:List Nat}{g:TG}{tt:TT}{te:TE}{itv:Value}{s2:Shared}{QQ:VK}{use:Option (Value→Sem Unit)}{Qv:Value→Shared→Prop}
  (S:CScope X scope) (M:CNames X scope N k sel) (hc:X.calm=true)
  (hg:∀ C s H fp,PG (ccx X scope N C s H fp) tg g) (ht:∀ C s H fp,PTs (ccx X scope N C s H fp) ifs tt) (he:∀ C s H fp,PE (ccx X scope N C s H fp) elt te)
  (fin:∀ D C s' H',Inv X pins σ H' s'→CFree X pins H' C s'→QQ (.ref D) H'→compPost (model X.prog X.w) X.A X.xe use Qv (.ref D) C (.ok .next) s')
  (h2:PIE X pins σ tg (fun J H1=>∀ p,H1 p=none→∃ W:Nat→Nat→St→Hp→Prop,(∃ m,W 0 m (cst σ k sel) (upd H1 p (.lst [])))∧∀ i m σ2 H2,W i m σ2 H2 →
   (J.stop i H2∧QQ (.ref p) H2)∨(J.go i H2∧∀ x H3,J.yld i H2 x H3→g x σ2 H3 fun σ4 H4=>tt σ4 H4 fun b H5 =>
    if b=true then te σ4 H5 fun v H6=>∃ ys,H6 p=some (.lst ys)∧ys.length<sizeLine∧∃ m',m'<m∧W (i+1) m' σ4 (upd H6 p (.lst (ys ++ [v]))) else ∃ m',m'<m∧W (i+1) m' σ4 H5)) itv s2) :
  wpAny (model X.prog X.w) X.A (newList []) (fun acc s₃=>wpAny (model X.prog X.w) X.A (newFunctionEnv scope X.env.globals (clOf X.env scope.names []) [] X.env.qual none .none (some X.env)) (fun cenv s₄ =>
   codeAny (model X.prog X.w) X.A (.compStart (.ListComp elt [⟨tg,iter,ifs,0⟩] scope pos) 0 itv acc { cenv with scope:=relabel scope X.env }) (compPost (model X.prog X.w) X.A X.xe use Qv acc cenv.locals) s₄) X.xe s₃) X.xe s2:=by
 obtain ⟨it,fp,tn,J,H2,rfl,I2,T,st2,f2,R2⟩:=h2
 have hD:H2 s2.heap.objs.size=none:=I2.hok.fresh (Nat.le_refl _)
 obtain ⟨W,⟨m0,w0⟩,turn⟩:=R2 _ hD
 refine wpAny_newObj_type ?_
 have I3:=I2.lnew (its:=[]) (ys:=[]) (t':=s2.toks) .nil (Nat.zero_le _)
 generalize hs3:({ s2 with heap:=s2.heap.push { cls:=.type "list",data:=.seq ([]:List Value).toArray },toks:=s2.toks }:Shared)=s3 at I3
 have e3:({ s2 with heap:=s2.heap.push { cls:=.type "list",dict:=none,data:=.seq ([]:List Value).toArray } }:Shared)=s3:=by rw [← hs3]
 have up:∀ b o,s2.heap.get? b=some o→s3.heap.get? b=some o:=fun b o e=>by rw [← hs3];exact Heap.get?_push_of_some _ e
 have hsz:s2.heap.objs.size≤s3.heap.objs.size:=by rw [← hs3];show _≤(s2.heap.push _).objs.size;rw [Heap.size_push];exact Nat.le_succ _
 have hlt2:∀ b∈fp,b<s2.heap.objs.size:=fun b hb=>by
  obtain ⟨o,e,_⟩:=T.obj _ _ st2 b hb
  exact Heap.lt_size e
 have hlt:∀ b∈fp,b<s3.heap.objs.size:=fun b hb=>Nat.lt_of_lt_of_le (hlt2 b hb) hsz
 have f3:∀ b∈fp,FpOk X pins (upd H2 s2.heap.objs.size (.lst [])) b:=fun b hb=>⟨by rw [upd_ne (Nat.ne_of_lt (hlt2 b hb))];exact (f2 b hb).1,(f2 b hb).2⟩
 refine wpAny_newFunctionEnv S.nocell (by intro y hy;simp at hy) (fun h₁ hns₁ hsb₁=>?_) S.kind
 have up₁:∀ b o,s3.heap.get? b=some o→h₁.get? b=some o:=fun b o e=>hsb₁.extBut b o (Nat.ne_of_lt (Heap.lt_size e)) (Heap.get?_push_of_some _ e)
 have Ic:=ccx_inv (N:=N) (k:=k) (sel:=sel) (t':=s3.toks+([]:List (Str × Value)).length) S M I3 f3 hlt hns₁ up₁
 have st₁:tn 0 h₁:=T.keep _ _ _ st2 fun b hb o e=>up₁ b o (up b o e)
 have fr:∀ b∈fp,(upd H2 s2.heap.objs.size (.lst [])) b=none:=fun b hb=>(f3 b hb).1
 have loop:codeAny (model X.prog X.w) X.A (.compLoop (.ListComp elt [⟨tg,iter,ifs,0⟩] scope pos) 0 (.ref it) (.ref s2.heap.objs.size) (compEnvC scope (clOf X.env scope.names []) s3.heap.objs.size X.env))
   (compPost (model X.prog X.w) X.A X.xe use Qv (.ref s2.heap.objs.size) s3.heap.objs.size) { s3 with heap:=h₁,toks:=s3.toks+([]:List (Str × Value)).length }:=by
  refine comp_loop (X:=ccx X scope N s3.heap.objs.size s3 (upd H2 s2.heap.objs.size (.lst [])) fp) (QQ:=fun H'=>QQ (.ref s2.heap.objs.size) H') (W:=W) rfl hc T (hg _ _ _ _) (ht _ _ _ _) (he _ _ _ _) (fun b hb=>?_) turn (fun s' σ' H' I' q'=>?_) m0 ⟨0,cst σ k sel,_,Ic,st₁,fr,w0⟩
  ·refine ⟨Nat.ne_of_lt (hlt b hb),?_,.inl hb,fun x c h=>(f3 b hb).2.2.2.2.1 x c (cl_sub S I3.ok h),fun p hp=>absurd (show p∈([]:List (Addr × Obj)) from hp) (by simp)⟩
   exact (ccx_ok (N:=N) S I3 f3 hlt).exfs b hb
  ·have Ie:Inv X pins σ H' s':=I3.call' (ch:=fp) I'.os I'.base I'.hok I'.bare fun b hb=>⟨(f3 b hb).2.2.2.1,(f3 b hb).2.1,(f3 b hb).2.2.2.2.1,(f3 b hb).2.2.2.2.2⟩
   refine fin _ _ s' H' Ie ⟨I'.free,?_,Nat.le_trans I3.sz (Nat.le_refl _),fun x c e=>?_,fun p hp=>?_,?_⟩ q'
   ·exact Ne.symm (Nat.ne_of_lt I3.lt)
   ·obtain ⟨v,o,ho,_⟩:=I3.cell x c e
    exact Nat.ne_of_lt (Heap.lt_size ho)
   ·exact Nat.ne_of_lt (Heap.lt_size (I3.pin p hp).1)
   ·obtain ⟨m,hn,_⟩:=I'.loc
    exact ⟨m,hn⟩
 exact codeAny_compStart_list loop (T.self X.A 0 _ _ _ st₁ loop)
section
variable {X:Cx}{elt tg iter:Expr}{ifs:List Expr}{scope:Scope}{pos:Pos}{N:List Str}{k:Nat}{sel:List Nat}{wi:TI}{g:TG}{tt:TT}{te:TE}
theorem pe_comp (S:CScope X scope) (M:CNames X scope N k sel) (hc:X.calm=true) (hi:PI X tg iter wi)
  (hg:∀ C s H fp,PG (ccx X scope N C s H fp) tg g) (ht:∀ C s H fp,PTs (ccx X scope N C s H fp) ifs tt) (he:∀ C s H fp,PE (ccx X scope N C s H fp) elt te)
  (hs:∀ x,foldedSetIterable iter X.env x=pure x:=by intro _;rfl):PE X (.ListComp elt [⟨tg,iter,ifs,0⟩] scope pos) (tComp wi k sel g tt te):=by
 intro pins s σ H Q I h
 rw [eval_ListComp]
 refine wpAny_comprehension_free (use:=none) rfl hs (closure_of (S.has I.ok)) S.kind S.names (thn (hi pins s σ H _ I h) fun v s1 h1=>thn h1 fun itv s2 h2=>?_)
 refine comp_block (QQ:=Q) S M hc hg ht he (fun D C s' H' I' F q=>?_) h2
 obtain ⟨m,hn⟩:=F.ns
 exact ⟨m,hn,fun h' hsb=>⟨.ref D,H',I'.turned (t':=s'.toks) (fun b o hb e=>hsb.extBut b o hb e) F.none F.ne (.inr F.above) F.cells F.pins,rfl,q⟩⟩
theorem ps_setC {i:Nat}{y:Str}{py spos:Pos} (S:CScope X scope) (M:CNames X scope N k sel) (hc:X.calm=true) (hi:PI X tg iter wi)
  (hg:∀ C s H fp,PG (ccx X scope N C s H fp) tg g) (ht:∀ C s H fp,PTs (ccx X scope N C s H fp) ifs tt) (he:∀ C s H fp,PE (ccx X scope N C s H fp) elt te)
  (hN:X.N.Nodup) (hiy:X.N[i]? = some y) (hy:Loc X.env.scope y)
  (hsw:swapsWith (.ListComp elt [⟨tg,iter,ifs,0⟩] scope pos) (some (.Name y py)) spos.line X.env=pure true)
  (hs:∀ x,foldedSetIterable iter X.env x=pure x:=by intro _;rfl) (hf:X.fn y=true∨X.env.scope.names.lookup y=some .local:=by first | exact .inl rfl | exact .inr rfl | assumption) :
  PS X (.Assign [.Name y py] (.ListComp elt [⟨tg,iter,ifs,0⟩] scope pos) spos) (tAsg (tComp wi k sel g tt te) (gName i)):=by
 intro pins s σ H D I h
 rw [exec_Assign_Name_used _ _ _ _ hsw]
 refine wpAny_bind (wpAny_standAt (wpAny_bind ?_))
 show wpAny _ X.A (do let _ ← comprehension (.ListComp elt [⟨tg,iter,ifs,0⟩] scope pos) scope X.env _ (newList []) false (eval iter X.env) (some (assign (.Name y py) X.env))) _ _ s
 refine wpAny_bind (wpAny_mono (wpAny_comprehension_free (use:=some (assign (.Name y py) X.env)) (Q:=fun _ s'=>SP X pins D .next s') rfl hs (closure_of (S.has I.ok)) S.kind S.names
  (thn (hi pins s σ H _ I h) fun v s1 h1=>thn h1 fun itv s2 h2=>?_)) (fun _ s' hq=>wpAny_pure (wpAny_pure hq)) fun _ _ e=>e)
 refine comp_block (QQ:=fun v H1=>D.nx (σ.set i (some v)) H1) S M hc hg ht he (fun Da C s' H' I' F q=>?_) h2
 show wpAny _ X.A (assign (.Name y py) X.env (.ref Da)) _ _ _
 refine wpAny_assign_Name (store_ok2 I' hN hiy hy (v:=.ref Da) rfl (fun s'' I'' hch=>?_) hf)
 obtain ⟨m,hn⟩:=F.ns
 obtain ⟨a,hsb,ha⟩:=hch
 have haC:C≠a:=by
  rcases ha with ha | ha
  ·rw [ha];exact F.ne
  ·exact Ne.symm (F.cells _ _ ha)
 refine ⟨m,hn.sameBut hsb haC,fun h' hsb'=>⟨σ.set i (some (.ref Da)),H',I''.turned (t':=s''.toks) (fun b o hb e=>hsb'.extBut b o hb e) F.none F.ne (.inr F.above) F.cells F.pins,q⟩⟩
end
section
variable {X:Cx}
theorem PE.imp {e:Expr}{t t':TE} (h:PE X e t) (f:∀ σ H Q,t' σ H Q→t σ H Q):PE X e t':=fun pins s σ H Q I q=>h pins s σ H Q I (f σ H Q q)
theorem OpR.imp {g:Value→Value→Sem Value}{r r':R2} (h:OpR X g r) (f:∀ x y H Q,r' x y H Q→r x y H Q):OpR X g r':=fun pins s σ H x y v u Q I rx ry q=>h pins s σ H x y v u Q I rx ry (f x y H Q q)
theorem IxR.imp {r r':R2} (h:IxR X r) (f:∀ x y H Q,r' x y H Q→r x y H Q):IxR X r':=fun value slice pins s σ H x y v u Q I rx ry q=>h value slice pins s σ H x y v u Q I rx ry (f x y H Q q)
theorem SlR.imp {r r':V→Option Int→Option Int→Hp→VK→Prop} (h:SlR X r) (f:∀ x lo hi H Q,r' x lo hi H Q→r x lo hi H Q):SlR X r':=fun pins s σ H x v vl vu lo hi sl Q I rx hs pl pu q=>h pins s σ H x v vl vu lo hi sl Q I rx hs pl pu (f x lo hi H Q q)
def cVar (i:Nat):TE:=fun σ H Q=>match σ[i]? with | some (some v)=>Q v H | _=>False
theorem cVar_of {i:Nat}{σ:St}{H:Hp}{Q:VK} (h:cVar i σ H Q):tVar i σ H Q:=by
 unfold cVar at h
 split at h
 ·exact ⟨_,by assumption,h⟩
 ·exact h.elim
theorem cv (i:Nat) {x:Str}{pos:Pos} (hN:X.N[i]? = some x:=by rfl) (hv:Vis X.env.scope x:=by first | exact Or.inl rfl | exact Or.inr (Or.inl rfl) | exact Or.inr (Or.inr rfl)) (hd:(x == ("__debug__" : Str))=false:=by decide)
  (hcd:(x == ("__classdict__" : Str))=false:=by decide):PE X (.Name x pos) (cVar i):=(pe_var hN hv hd hcd).imp fun _ _ _ h=>cVar_of h
def cI2 (f:Int→Int→V):R2:=fun x y H Q=>match x,y with | .int i,.int j=>Q (f i j) H | _,_=>False
def cI2c (C:Int→Int→Prop) (f:Int→Int→V):R2:=fun x y H Q=>match x,y with | .int i,.int j=>C i j∧Q (f i j) H | _,_=>False
theorem cI2_of {f:Int→Int→V}{x y:V}{H:Hp}{Q:VK} (h:cI2 f x y H Q):rI0 f x y H Q:=by
 cases x <;> cases y <;> first | exact False.elim h | exact ⟨_,_,rfl,rfl,h⟩
theorem cI2c_of {C:Int→Int→Prop}{f:Int→Int→V}{x y:V}{H:Hp}{Q:VK} (h:cI2c C f x y H Q):rI C f x y H Q:=by
 cases x <;> cases y <;> first | exact False.elim h | exact ⟨_,_,rfl,rfl,h.1,h.2⟩
theorem o_sub:OpR X (binaryOp .Sub) (cI2 fun i j=>.int (i - j)):=op_sub.imp fun _ _ _ _ h=>cI2_of h
theorem o_fdiv:OpR X (binaryOp .FloorDiv) (cI2c CDiv fun i j=>.int (i / j)):=op_fdiv.imp fun _ _ _ _ h=>cI2c_of h
theorem o_mod:OpR X (binaryOp .Mod) (cI2c (fun _ j=>0<j) fun i j=>.int (i % j)):=op_mod.imp fun _ _ _ _ h=>cI2c_of h
theorem o_shl:OpR X (binaryOp .LShift) (cI2c CPow fun i j=>.int (i * 2 ^ j.toNat)):=op_shl.imp fun _ _ _ _ h=>cI2c_of h
theorem o_shr:OpR X (binaryOp .RShift) (cI2c (fun _ j=>0≤j) fun i j=>.int (i / 2 ^ j.toNat)):=op_shr.imp fun _ _ _ _ h=>cI2c_of h
theorem o_and:OpR X (binaryOp .BitAnd) (cI2 fun i j=>.int (Builtin.bitAnd i j)):=op_and.imp fun _ _ _ _ h=>cI2_of h
theorem o_or:OpR X (binaryOp .BitOr) (cI2 fun i j=>.int (Builtin.bitOr i j)):=op_or.imp fun _ _ _ _ h=>cI2_of h
theorem o_xor:OpR X (binaryOp .BitXor) (cI2 fun i j=>.int (Builtin.bitXor i j)):=op_xor.imp fun _ _ _ _ h=>cI2_of h
theorem o_lt:OpR X (compareOp .Lt) (cI2 fun i j=>.bl (decide (i<j))):=op_lt.imp fun _ _ _ _ h=>cI2_of h
theorem o_le:OpR X (compareOp .LtE) (cI2 fun i j=>.bl (decide (i≤j))):=op_le.imp fun _ _ _ _ h=>cI2_of h
theorem o_ge:OpR X (compareOp .GtE) (cI2 fun i j=>.bl (decide (j≤i))):=op_ge.imp fun _ _ _ _ h=>cI2_of h
def cAdd:R2:=fun x y H Q=>match x,y with
 | .int i,.int j=>Q (.int (i+j)) H
 | .str i,.str j=>i.length+j.length≤sizeLine∧Q (.str (i ++ j)) H
 | .ref l,.ref b=>∃ xs zs,H l=some (.lst xs)∧H b=some (.lst zs)∧xs.length+zs.length≤sizeLine∧∀ p,H p=none→Q (.ref p) (upd H p (.lst (xs ++ zs)))
 | _,_=>False
theorem o_add:OpR X (binaryOp .Add) cAdd:=by
 intro pins s σ H x y v u Q I rx ry h
 cases x <;> cases y <;> first
  | exact False.elim h
  | exact op_add pins s σ H _ _ v u Q I rx ry ⟨_,_,rfl,rfl,h⟩
  | exact op_add_str pins s σ H _ _ v u Q I rx ry ⟨_,_,rfl,rfl,h.1,h.2⟩
  | (obtain ⟨xs,zs,h1,h2,h3,h4⟩:=h;exact op_cat pins s σ H _ _ v u Q I rx ry ⟨_,_,xs,zs,rfl,rfl,h1,h2,h3,h4⟩)
inductive DeepEq (K:PySem.W.Frag) (H:Hp):Nat→V→V→Prop where
 | flat {n:Nat}{x:V} (f:flatV x=true):DeepEq K H n x x
 | lst {n:Nat}{a b:Addr}{xs ys:List V} (h1:SqL K H a xs) (h2:SqL K H b ys) (hl:xs.length=ys.length) (h:∀ (i:Nat) x y,xs[i]? = some x→ys[i]? = some y→DeepEq K H n x y):DeepEq K H (n+1) (.ref a) (.ref b)
 | tup {n:Nat}{a b:Addr}{xs ys:List V} (h1:SqT K H a xs) (h2:SqT K H b ys) (hl:xs.length=ys.length) (h:∀ (i:Nat) x y,xs[i]? = some x→ys[i]? = some y→DeepEq K H n x y):DeepEq K H (n+1) (.ref a) (.ref b)
theorem isListOf {pins:List (Addr × Obj)}{σ:St}{H:Hp}{s:Shared}{a:Addr}{xs:List V} (I:Inv X pins σ H s) (h:SqL X.K H a xs):∃ its:List Value,Vals xs its∧s.heap.IsList a its.toArray:=by
 obtain ⟨its,r,p,_⟩:=I.list h
 exact ⟨its,r,p.isList⟩
theorem units_in1 {A:Around}{n:Nat} (h:A.units+(n+1)<cLine):A.in1.units+n<cLine:=by
 have e:A.in1.units=A.units+1:=rfl
 omega
theorem deep_rc {pins:List (Addr × Obj)}{σ:St}{H:Hp}{s:Shared} (I:Inv X pins σ H s):∀ {n:Nat}{x y:V},DeepEq X.K H n x y→∀ (A:Around) {u v:Value},A.units+n<cLine→RelV x u→RelV y v→SeqAt.EqAt A s u v true
 | _,_,_,.flat f,A,u,v,hu,rx,ry=>by
  have e:=eqAt_V (A:=A) (s:=s) rx ry f f
  rename_i n x
  have q:eqV x x=true:=by cases x <;> first | rfl | (simp [eqV];done) | exact absurd f (by simp [flatV])
  rw [q] at e
  exact e
 | _,_,_,@DeepEq.lst _ _ n a b xs ys h1 h2 hl h,A,u,v,hu,rx,ry=>by
  cases rx;cases ry
  by_cases hab:a=b
  ·subst hab;exact SeqAt.EqAt.same _
  ·obtain ⟨its,r1,p1⟩:=isListOf I h1
   obtain ⟨its2,r2,p2⟩:=isListOf I h2
   have e1:=r1.length
   have e2:=r2.length
   have q:=SeqAt.RcAt.lists (A:=A) (e:=fun _=>true) p1 p2 (by simp;omega) (by omega) (fun j j1 j2=>by
    have j1':j<its.length:=by simpa using j1
    have j2':j<its2.length:=by simpa using j2
    obtain ⟨w1,q1,s1⟩:=r1.get (i:=j) (x:=xs[j]'(by omega)) (by simp)
    obtain ⟨w2,q2,s2⟩:=r2.get (i:=j) (x:=ys[j]'(by omega)) (by simp)
    have z1:its.toArray[j]=w1:=by
     have:=List.getElem?_eq_some_iff.mp q1
     obtain ⟨_,z⟩:=this
     simpa using z
    have z2:its2.toArray[j]=w2:=by
     have:=List.getElem?_eq_some_iff.mp q2
     obtain ⟨_,z⟩:=this
     simpa using z
    rw [z1,z2]
    exact deep_rc I (h j _ _ (by simp) (by simp)) A.in1 (units_in1 hu) s1 s2)
   have:((List.range its.toArray.size).all fun _=>true)=true:=by simp
   rw [this] at q
   exact SeqAt.EqAt.of_refs hab q
 | _,_,_,@DeepEq.tup _ _ n a b xs ys h1 h2 hl h,A,u,v,hu,rx,ry=>by
  cases rx;cases ry
  by_cases hab:a=b
  ·subst hab;exact SeqAt.EqAt.same _
  ·obtain ⟨its,r1,p1,_⟩:=I.tuple h1
   obtain ⟨its2,r2,p2,_⟩:=I.tuple h2
   have e1:=r1.length
   have e2:=r2.length
   have q:=SeqAt.RcAt.tuples (A:=A) (e:=fun _=>true) p1 p2 (by omega) (fun j j1 j2=>by
    have j1':j<its.length:=by simpa using j1
    have j2':j<its2.length:=by simpa using j2
    obtain ⟨w1,q1,s1⟩:=r1.get (i:=j) (x:=xs[j]'(by omega)) (by simp)
    obtain ⟨w2,q2,s2⟩:=r2.get (i:=j) (x:=ys[j]'(by omega)) (by simp)
    have z1:its.toArray[j]=w1:=by
     have:=List.getElem?_eq_some_iff.mp q1
     obtain ⟨_,z⟩:=this
     simpa using z
    have z2:its2.toArray[j]=w2:=by
     have:=List.getElem?_eq_some_iff.mp q2
     obtain ⟨_,z⟩:=this
     simpa using z
    rw [z1,z2]
    exact deep_rc I (h j _ _ (by simp) (by simp)) A.in1 (units_in1 hu) s1 s2)
   have:(((List.range (min its.toArray.size its2.toArray.size)).all fun _=>true) && its.toArray.size == its2.toArray.size)=true:=by simp;omega
   rw [this] at q
   exact SeqAt.EqAt.of_refs hab q
end
section
variable {X:Cx}{a b c:Expr}{ta tb tc:TE}{pos:Pos}
def eqVs (xs ys:List V):Bool:=xs.length == ys.length && (List.range xs.length).all fun i=>eqV (xs.getD i .non) (ys.getD i .non)
theorem eqVs_range {xs ys:List V}{us ws:List Value} (r1:Vals xs us) (r2:Vals ys ws) (f1:xs.all flatV=true) (f2:ys.all flatV=true) (A:Around) (s:Shared) :
  ∀ j (h1:j<us.toArray.size) (h2:j<ws.toArray.size),SeqAt.EqAt A s us.toArray[j] ws.toArray[j] (eqV (xs.getD j .non) (ys.getD j .non)):=fun j j1 j2=>by
 have e1:=r1.length
 have e2:=r2.length
 have j1':j<us.length:=by simpa using j1
 have j2':j<ws.length:=by simpa using j2
 have x1:j<xs.length:=by omega
 have y1:j<ys.length:=by omega
 obtain ⟨w1,q1,s1⟩:=r1.get (i:=j) (x:=xs[j]) (by simp)
 obtain ⟨w2,q2,s2⟩:=r2.get (i:=j) (x:=ys[j]) (by simp)
 have z1:us.toArray[j]=w1:=by
  obtain ⟨_,z⟩:=List.getElem?_eq_some_iff.mp q1
  simpa using z
 have z2:ws.toArray[j]=w2:=by
  obtain ⟨_,z⟩:=List.getElem?_eq_some_iff.mp q2
  simpa using z
 rw [z1,z2]
 have g1:xs.getD j .non=xs[j]:=by simp [List.getD,x1]
 have g2:ys.getD j .non=ys[j]:=by simp [List.getD,y1]
 rw [g1,g2]
 exact eqAt_V s1 s2 (List.all_eq_true.mp f1 _ (List.getElem_mem _)) (List.all_eq_true.mp f2 _ (List.getElem_mem _))
def EqRef (K:PySem.W.Frag) (H:Hp) (p q:Addr) (k:Bool):Prop :=
 (k=true∧DeepEq K H 4 (.ref p) (.ref q)) ∨
 (∃ xs ys,SqL K H p xs∧SqL K H q ys∧xs.all flatV=true∧ys.all flatV=true∧k=eqVs xs ys) ∨
 (k=false∧∃ xs ys,SqL K H p xs∧SqL K H q ys∧xs.length≠ys.length) ∨
 (∃ xs ys,SqT K H p xs∧SqT K H q ys∧xs.all flatV=true∧ys.all flatV=true∧k=eqVs xs ys)
theorem eqRef_rc {pins:List (Addr × Obj)}{σ:St}{H:Hp}{s:Shared}{p q:Addr}{k:Bool} (I:Inv X pins σ H s) (hu:X.A.units+8<cLine) (h:EqRef X.K H p q k) :
  SeqAt.RcAt X.A s (.ref p) (.ref q) k∧SeqAt.RcNeAt X.A s (.ref p) (.ref q) (!k):=by
 have deep:∀ {xs ys:List V}{n:Nat},n≤4→(SqL X.K H p xs∧SqL X.K H q ys∨SqT X.K H p xs∧SqT X.K H q ys)→xs.length=ys.length→(∀ (i:Nat) x y,xs[i]? = some x→ys[i]? = some y→DeepEq X.K H n x y) →
   SeqAt.RcAt X.A s (.ref p) (.ref q) true∧SeqAt.RcNeAt X.A s (.ref p) (.ref q) (!true):=fun {xs ys n} hn hq hl hd=>by
  have items:∀ {us ws:List Value},Vals xs us→Vals ys ws→∀ j (h1:j<us.toArray.size) (h2:j<ws.toArray.size),SeqAt.EqAt X.A.in1 s us.toArray[j] ws.toArray[j] true:=fun {us ws} r1 r2 j j1 j2=>by
   have e1:=r1.length
   have e2:=r2.length
   have j1':j<us.length:=by simpa using j1
   have j2':j<ws.length:=by simpa using j2
   obtain ⟨w1,q1,s1⟩:=r1.get (i:=j) (x:=xs[j]'(by omega)) (by simp)
   obtain ⟨w2,q2,s2⟩:=r2.get (i:=j) (x:=ys[j]'(by omega)) (by simp)
   have z1:us.toArray[j]=w1:=by
    obtain ⟨_,z⟩:=List.getElem?_eq_some_iff.mp q1
    simpa using z
   have z2:ws.toArray[j]=w2:=by
    obtain ⟨_,z⟩:=List.getElem?_eq_some_iff.mp q2
    simpa using z
   rw [z1,z2]
   exact deep_rc I (hd j _ _ (by simp) (by simp)) X.A.in1 (by have e:X.A.in1.units=X.A.units+1:=rfl;omega) s1 s2
  rcases hq with ⟨h1,h2⟩ | ⟨h1,h2⟩
  ·obtain ⟨its,r1,p1⟩:=isListOf I h1
   obtain ⟨its2,r2,p2⟩:=isListOf I h2
   have e1:=r1.length
   have e2:=r2.length
   have z:((List.range its.toArray.size).all fun _=>true)=true:=by simp
   have a1:=SeqAt.RcAt.lists (A:=X.A) (e:=fun _=>true) p1 p2 (by simp;omega) (by omega) (items r1 r2)
   have a2:=SeqAt.RcNeAt.lists (A:=X.A) (e:=fun _=>true) p1 p2 (by simp;omega) (by omega) (items r1 r2)
   rw [z] at a1 a2
   exact ⟨a1,a2⟩
  ·obtain ⟨its,r1,p1,_⟩:=I.tuple h1
   obtain ⟨its2,r2,p2,_⟩:=I.tuple h2
   have e1:=r1.length
   have e2:=r2.length
   have z:(((List.range (min its.toArray.size its2.toArray.size)).all fun _=>true) && its.toArray.size == its2.toArray.size)=true:=by simp;omega
   have a1:=SeqAt.RcAt.tuples (A:=X.A) (e:=fun _=>true) p1 p2 (by omega) (items r1 r2)
   have a2:=SeqAt.RcNeAt.tuples (A:=X.A) (e:=fun _=>true) p1 p2 (by omega) (items r1 r2)
   rw [z] at a1 a2
   exact ⟨a1,a2⟩
 have flatL:∀ {xs ys:List V},SqL X.K H p xs→SqL X.K H q ys→xs.length≠ys.length→SeqAt.RcAt X.A s (.ref p) (.ref q) false∧SeqAt.RcNeAt X.A s (.ref p) (.ref q) (!false):=fun {xs ys} h1 h2 hl=>by
  obtain ⟨its,r1,p1⟩:=isListOf I h1
  obtain ⟨its2,r2,p2⟩:=isListOf I h2
  have e1:=r1.length
  have e2:=r2.length
  have z:(its.toArray.size != its2.toArray.size)=true:=by simp;omega
  exact ⟨SeqAt.RcAt.lists_lengths p1 p2 z (by omega),SeqAt.RcNeAt.lists_lengths p1 p2 z (by omega)⟩
 rcases h with ⟨rfl,h⟩ | ⟨xs,ys,h1,h2,f1,f2,rfl⟩ | ⟨rfl,xs,ys,h1,h2,hl⟩ | ⟨xs,ys,h1,h2,f1,f2,rfl⟩
 ·cases h with
  | flat f=>simp [flatV] at f
  | lst h1 h2 hl hd=>exact deep (by decide) (.inl ⟨h1,h2⟩) hl hd
  | tup h1 h2 hl hd=>exact deep (by decide) (.inr ⟨h1,h2⟩) hl hd
 ·by_cases hl:xs.length=ys.length
  ·obtain ⟨its,r1,p1⟩:=isListOf I h1
   obtain ⟨its2,r2,p2⟩:=isListOf I h2
   have e1:=r1.length
   have e2:=r2.length
   have z:eqVs xs ys=(List.range its.toArray.size).all fun i=>eqV (xs.getD i .non) (ys.getD i .non):=by
    unfold eqVs
    rw [List.size_toArray,← e1,hl]
    simp
   rw [z]
   exact ⟨SeqAt.RcAt.lists p1 p2 (by simp;omega) (by omega) (eqVs_range r1 r2 f1 f2 _ _),SeqAt.RcNeAt.lists p1 p2 (by simp;omega) (by omega) (eqVs_range r1 r2 f1 f2 _ _)⟩
  ·have z:eqVs xs ys=false:=by unfold eqVs;simp [hl]
   rw [z]
   exact flatL h1 h2 hl
 ·exact flatL h1 h2 hl
 ·obtain ⟨its,r1,p1,_⟩:=I.tuple h1
  obtain ⟨its2,r2,p2,_⟩:=I.tuple h2
  have e1:=r1.length
  have e2:=r2.length
  by_cases hl:xs.length=ys.length
  ·have z:eqVs xs ys=((List.range (min its.toArray.size its2.toArray.size)).all (fun i=>eqV (xs.getD i .non) (ys.getD i .non)) && its.toArray.size == its2.toArray.size):=by
    unfold eqVs
    rw [List.size_toArray,List.size_toArray,← e1,← e2,hl]
    simp
   rw [z]
   exact ⟨SeqAt.RcAt.tuples p1 p2 (by omega) (eqVs_range r1 r2 f1 f2 _ _),SeqAt.RcNeAt.tuples p1 p2 (by omega) (eqVs_range r1 r2 f1 f2 _ _)⟩
  ·have z:eqVs xs ys=((List.range (min its.toArray.size its2.toArray.size)).all (fun i=>eqV (xs.getD i .non) (ys.getD i .non)) && its.toArray.size == its2.toArray.size):=by
    have z1:eqVs xs ys=false:=by unfold eqVs;simp [hl]
    have z2:(its.toArray.size == its2.toArray.size)=false:=by simp;omega
    rw [z1,z2,Bool.and_false]
   rw [z]
   exact ⟨SeqAt.RcAt.tuples p1 p2 (by omega) (eqVs_range r1 r2 f1 f2 _ _),SeqAt.RcNeAt.tuples p1 p2 (by omega) (eqVs_range r1 r2 f1 f2 _ _)⟩
def cEq (K:PySem.W.Frag):R2:=fun x y H Q=>match x,y with
 | .int i,.int j=>Q (.bl (decide (i=j))) H
 | .bl i,.bl j=>Q (.bl (decide (i=j))) H
 | .str i,.str j=>Q (.bl (decide (i=j))) H
 | .non,.non=>Q (.bl true) H
 | .non,.int _=>Q (.bl false) H
 | .int _,.non=>Q (.bl false) H
 | .non,.str _=>Q (.bl false) H
 | .str _,.non=>Q (.bl false) H
 | .non,.bl _=>Q (.bl false) H
 | .bl _,.non=>Q (.bl false) H
 | .ref p,.ref q=>∃ k,EqRef K H p q k∧Q (.bl k) H
 | _,_=>False
def cNe (K:PySem.W.Frag):R2:=fun x y H Q=>match x,y with
 | .int i,.int j=>Q (.bl (!decide (i=j))) H
 | .bl i,.bl j=>Q (.bl (!decide (i=j))) H
 | .str i,.str j=>Q (.bl (!decide (i=j))) H
 | .non,.non=>Q (.bl false) H
 | .non,.int _=>Q (.bl true) H
 | .int _,.non=>Q (.bl true) H
 | .non,.str _=>Q (.bl true) H
 | .str _,.non=>Q (.bl true) H
 | .non,.bl _=>Q (.bl true) H
 | .bl _,.non=>Q (.bl true) H
 | .ref p,.ref q=>∃ k,EqRef K H p q k∧Q (.bl (!k)) H
 | _,_=>False
theorem dcI {i j:Int}:decide (V.int i=V.int j)=decide (i=j):=by rw [decide_eq_decide];exact ⟨V.int.inj,congrArg _⟩
theorem dcB {i j:Bool}:decide (V.bl i=V.bl j)=decide (i=j):=by rw [decide_eq_decide];exact ⟨V.bl.inj,congrArg _⟩
theorem dcS {i j:Str}:decide (V.str i=V.str j)=decide (i=j):=by rw [decide_eq_decide];exact ⟨V.str.inj,congrArg _⟩
theorem o_eq (hu:X.A.units+8<cLine):OpR X (compareOp .Eq) (cEq X.K):=by
  intro pins s σ H x y v u Q I rx ry h
  have go:rEq x y H Q→wpAny (model X.prog X.w) X.A (compareOp .Eq v u) (EP X pins σ Q) X.xe s:=fun q=>op_eq pins s σ H _ _ v u Q I rx ry q
  cases x <;> cases y <;> first
    | exact False.elim h
    | exact go ⟨rfl,h⟩
    | exact go ⟨rfl,by rw [dcI];exact h⟩
    | exact go ⟨rfl,by rw [dcB];exact h⟩
    | exact go ⟨rfl,by rw [dcS];exact h⟩
    | (obtain ⟨k,e,q⟩:=h
       cases rx;cases ry
       exact (eqRef_rc I hu e).1 _ _ _ _ ⟨.bl k,H,I,rfl,q⟩)
theorem o_ne (hu:X.A.units+8<cLine):OpR X (compareOp .NotEq) (cNe X.K):=by
  intro pins s σ H x y v u Q I rx ry h
  have go:rNe x y H Q→wpAny (model X.prog X.w) X.A (compareOp .NotEq v u) (EP X pins σ Q) X.xe s:=fun q=>op_ne pins s σ H _ _ v u Q I rx ry q
  cases x <;> cases y <;> first
    | exact False.elim h
    | exact go ⟨rfl,h⟩
    | exact go ⟨rfl,by rw [dcI];exact h⟩
    | exact go ⟨rfl,by rw [dcB];exact h⟩
    | exact go ⟨rfl,by rw [dcS];exact h⟩
    | (obtain ⟨k,e,q⟩:=h
       cases rx;cases ry
       exact (eqRef_rc I hu e).2 _ _ _ _ ⟨.bl (!k),H,I,rfl,q⟩)
def cIs:R2:=fun x y H Q=>match x,y with
 | .bl i,.bl j=>Q (.bl (decide (i=j))) H
 | x,.non=>Q (.bl (decide (x=.non))) H
 | .non,.bl _=>Q (.bl false) H
 | .int _,.bl _=>Q (.bl false) H
 | .str _,.bl _=>Q (.bl false) H
 | .ref _,.bl _=>Q (.bl false) H
 | _,_=>False
def cIsNot:R2:=fun x y H Q=>match x,y with
 | .bl i,.bl j=>Q (.bl (!decide (i=j))) H
 | x,.non=>Q (.bl (!decide (x=.non))) H
 | _,_=>False
theorem o_isnot:OpR X (compareOp .IsNot) cIsNot:=by
 intro pins s σ H x y v u Q I rx ry h
 cases y with
 | non =>
  have q:Q (.bl (!decide (x=.non))) H:=by cases x <;> exact h
  exact op_notN pins s σ H _ _ v u Q I rx ry ⟨rfl,q⟩
 | bl j =>
  cases ry
  cases x with
  | bl i =>
   cases rx
   exact wpAny_isNot_plain rfl ⟨.bl (!decide (i=j)),H,I,(by cases i <;> cases j <;> rfl),h⟩
  | _=>exact False.elim h
 | _=>cases x <;> exact False.elim h
def strIn (i j:Str):Bool:=!(Builtin.Str.occurrences j i 0 j.length 1).isEmpty
def cIn (K:PySem.W.Frag) (neg:Bool):R2:=fun x y H Q=>match y with
 | .ref p=>∃ xs,(SqL K H p xs∨SqT K H p xs)∧flatV x=true∧xs.all flatV=true∧Q (.bl (if neg then !inV x xs else inV x xs)) H
 | .str j=>match x with | .str i=>Q (.bl (if neg then !strIn i j else strIn i j)) H | _=>False
 | _=>False
theorem o_in:OpR X (compareOp .In) (cIn X.K false):=by
 intro pins s σ H x y v u Q I rx ry h
 cases y with
 | ref p =>
  obtain ⟨xs,h1,h2,h3,q⟩:=h
  exact op_in_seq pins s σ H _ _ v u Q I rx ry ⟨p,xs,rfl,h1,h2,h3,q⟩
 | str j =>
  cases x with
  | str i=>exact op_in_str pins s σ H _ _ v u Q I rx ry ⟨i,j,rfl,rfl,h⟩
  | _=>exact False.elim h
 | _=>exact False.elim h
def cBool (x:V) (k:Bool→Prop):Prop:=match x with | .bl b=>k b | _=>False
theorem cBool_of {x:V}{k:Bool→Prop} (h:cBool x k):∃ b,x=.bl b∧k b:=by
 cases x <;> first | exact False.elim h | exact ⟨_,rfl,h⟩
def cTst (t:TE):TT:=fun σ H Q=>t σ H fun x H'=>cBool x fun k=>Q k H'
def cTru (K:PySem.W.Frag) (t:TE):TT:=fun σ H Q=>t σ H fun x H'=>match x with
 | .non=>Q false H'
 | .bl b=>Q b H'
 | .int i=>Q (decide (i≠0)) H'
 | .str y=>y.length≤sizeLine∧Q (decide (y.length≠0)) H'
 | .ref p=>∃ k,TruV K (.ref p) H' k∧Q k H'
 | .byt p=>∃ k,TruV K (.byt p) H' k∧Q k H'
 | _=>False
theorem pt_tru {t:TE} (ha:PE X a t) (he:∀ whole,isTrue a X.env whole=(do let v ← whole;standAt a.pos;holding [v] (truthy v)):=by intro _;rfl):PT X a (cTru X.K t):=by
 have h:=pt_truth ha he
 have e:cTru X.K t=(fun σ H Q=>t σ H fun x H'=>∃ k,TruV X.K x H' k∧Q k H'):=by
  funext σ H Q
  unfold cTru
  congr 1
  funext x H'
  apply propext
  cases x with
  | non=>exact ⟨fun q=>⟨false,rfl,q⟩,fun ⟨k,h1,h2⟩=>by have h1:k=false:=h1;subst h1;exact h2⟩
  | bl b=>exact ⟨fun q=>⟨b,rfl,q⟩,fun ⟨k,h1,h2⟩=>by have h1:k=b:=h1;subst h1;exact h2⟩
  | int i =>
   have z:decide (i≠0)=(i != 0):=by by_cases e:i=0 <;> simp [e]
   exact ⟨fun q=>⟨decide (i≠0),z,q⟩,fun ⟨k,h1,h2⟩=>by have h1:k=(i != 0):=h1;rw [← z] at h1;subst h1;exact h2⟩
  | str y =>
   have z:decide (y.length≠0)=((y.length:Int) != 0):=by
    by_cases e:y.length=0
    ·simp [e]
    ·have:(y.length:Int)≠0:=by omega
     simp [e,this]
   exact ⟨fun q=>⟨decide (y.length≠0),⟨q.1,z⟩,q.2⟩,fun ⟨k,h1,h2⟩=>by
    have h1:y.length≤sizeLine∧k=((y.length:Int) != 0):=h1
    obtain ⟨h0,h1⟩:=h1
    rw [← z] at h1;subst h1;exact ⟨h0,h2⟩⟩
  | ref p=>exact Iff.rfl
  | byt y=>exact Iff.rfl
  | flt y=>exact ⟨fun q=>q.elim,fun ⟨k,h1,h2⟩=>h1.elim⟩
  | ty y=>exact ⟨fun q=>q.elim,fun ⟨k,h1,h2⟩=>h1.elim⟩
 rw [e]
 exact h
theorem cBool_eq {x:V}{k:Bool→Prop}:cBool x k = ∃ b,x=.bl b∧k b:=propext ⟨cBool_of,fun ⟨b,e,q⟩=>by subst e;exact q⟩
theorem cTst_eq (t:TE):cTst t=tTest t:=by
 funext σ H Q
 unfold cTst tTest
 congr 1
 funext x H'
 exact cBool_eq
theorem t_cmp {op:CmpOp}{r:R2} (ho:OpR X (compareOp op) r) (ha:PE X a ta) (hb:PE X b tb) (hm:behindInMarks op b=false):PT X (.Compare a [op] [b] pos) (cTst (tOp r ta tb)):=by
 rw [cTst_eq]
 exact pt_cmpR ho ha hb hm
def cChain (r r':R2) (ta tb tc:TE):TE:=fun σ H Q=>ta σ H fun x H1=>tb σ H1 fun y H2=>r x y H2 fun z H3=>cBool z fun k =>
 (if k=true then tc σ H3 fun w' H4=>r' y w' H4 Q else Q (.bl false) H3)
theorem cChain_eq (r r':R2) (ta tb tc:TE):cChain r r' ta tb tc=tChain r r' ta tb tc:=by
 funext σ H Q
 unfold cChain tChain
 congr 1
 funext x H1
 congr 1
 funext y H2
 congr 1
 funext z H3
 exact cBool_eq
theorem e_chain {op op':CmpOp}{r r':R2} (ho:OpR X (compareOp op) r) (ho':OpR X (compareOp op') r') (ha:PE X a ta) (hb:PE X b tb) (hc:PE X c tc)
  (hm:lastMarks [op,op'] [b,c]=false:=by with_unfolding_all rfl):PE X (.Compare a [op,op'] [b,c] pos) (cChain r r' ta tb tc):=by
 rw [cChain_eq]
 exact pe_chain ho ho' ha hb hc hm
variable {rest:List Expr}
def cIx (K:PySem.W.Frag):R2:=fun x y H Q=>match x,y with
 | .ref p,.int i=>∃ xs v,(SqL K H p xs∨SqT K H p xs)∧atI xs i=some v∧Q v H
 | .str z,.int i=>z.length≤sizeLine∧∃ c,atI z.cps.toList i=some c∧Q (.str ⟨#[c]⟩) H
 | _,_=>False
theorem i_seq:IxR X (cIx X.K):=ix_seq.imp fun x y H Q h=>by
  cases x <;> cases y <;> first
    | exact False.elim h
    | (obtain ⟨xs,v,h1 | h1,h2,h3⟩:=h
       · exact .inl ⟨_,xs,_,v,rfl,rfl,h1,h2,h3⟩
       · exact .inr (.inl ⟨_,xs,_,v,rfl,rfl,h1,h2,h3⟩))
    | (obtain ⟨h1,c,h2,h3⟩:=h
       exact .inr (.inr ⟨_,_,c,rfl,rfl,h1,h2,h3⟩))
def cSlL (K:PySem.W.Frag):V→Option Int→Option Int→Hp→VK→Prop:=fun x lo hi H Q=>match x with
 | .ref p=>∃ xs,SqL K H p xs∧∀ q,H q=none→Q (.ref q) (upd H q (.lst (cutV xs lo hi)))
 | _=>False
theorem s_list:SlR X (cSlL X.K):=sl_list.imp fun x lo hi H Q h=>by
 cases x <;> first | exact False.elim h | (obtain ⟨xs,h1,h2⟩:=h;exact ⟨_,xs,rfl,h1,h2⟩)
def cLen (K:PySem.W.Frag):List V→Hp→VK→Prop:=fun vs H Q=>match vs with
 | [.str z]=>z.length≤sizeLine∧Q (.int z.length) H
 | [.ref p]=>(∃ ys,(SqL K H p ys∨SqT K H p ys)∧Q (.int ys.length) H)∨∃ kvs,H p=some (.dK kvs)∧Q (.int kvs.length) H
 | _=>False
theorem c_len:CallR X (.builtin "len") (cLen X.K):=by
 intro pins s σ H xs us Q I r h
 match xs,h with
 | [.str z],h=>exact call_len_str pins s σ H _ us Q I r ⟨z,rfl,h.1,h.2⟩
 | [.ref p],h =>
  rcases h with ⟨ys,h1,h2⟩ | ⟨kvs,h1,h2⟩
  ·exact call_len_seq pins s σ H _ us Q I r ⟨p,ys,rfl,h1,h2⟩
  ·exact call_lenD pins s σ H _ us Q I r ⟨p,kvs,rfl,h1,h2⟩
def cInt:List V→Hp→VK→Prop:=fun vs H Q=>match vs with
 | [.int i]=>Q (.int i) H
 | [.bl k]=>Q (.int (if k then 1 else 0)) H
 | _=>False
theorem c_int:CallR X (.type "int") cInt:=by
 intro pins s σ H xs us Q I r h
 match xs,h with
 | [.int i],h=>exact call_int1 pins s σ H _ us Q I r (.inl ⟨i,rfl,h⟩)
 | [.bl k],h=>exact call_int1 pins s σ H _ us Q I r (.inr ⟨k,rfl,h⟩)
def cList (K:PySem.W.Frag):List V→Hp→VK→Prop:=fun vs H Q=>match vs with
 | [.ref p]=>∃ ys,(SqL K H p ys∨SqT K H p ys)∧∀ l,H l=none→Q (.ref l) (upd H l (.lst ys))
 | _=>False
def cTuple (K:PySem.W.Frag):List V→Hp→VK→Prop:=fun vs H Q=>match vs with
 | [.ref p]=>∃ ys,((SqL K H p ys∧∀ l,H l=none→Q (.ref l) (upd H l (.tup ys)))∨(SqT K H p ys∧Q (.ref p) H))
 | _=>False
theorem c_tuple:CallR X (.type "tuple") (cTuple X.K):=by
 intro pins s σ H xs us Q I r h
 match xs,h with
 | [.ref p],h =>
  obtain ⟨ys,h1⟩:=h
  exact call_tuple_of pins s σ H _ us Q I r ⟨p,ys,rfl,h1⟩
def cMin:List V→Hp→VK→Prop:=fun vs H Q=>match vs with
 | [.int i,.int j]=>Q (.int (if j<i then j else i)) H
 | _=>False
theorem c_min (hc:X.calm=true):CallR X (.builtin "min") cMin:=by
 intro pins s σ H xs us Q I r h
 match xs,h with
 | [.int i,.int j],h=>exact call_min2 hc pins s σ H _ us Q I r ⟨i,j,rfl,h⟩
def cMax:List V→Hp→VK→Prop:=fun vs H Q=>match vs with
 | [.int i,.int j]=>Q (.int (if j > i then j else i)) H
 | _=>False
theorem c_max (hc:X.calm=true):CallR X (.builtin "max") cMax:=by
 intro pins s σ H xs us Q I r h
 match xs,h with
 | [.int i,.int j],h=>exact call_max2 hc pins s σ H _ us Q I r ⟨i,j,rfl,h⟩
def cIsinst (K:PySem.W.Frag):List V→Hp→VK→Prop:=fun vs H Q=>match vs with
 | [x,.ty T]=>∃ t b,TyOf K H x t∧PySem.W.kitOne K t (.type T)=some b∧Q (.bl b) H
 | [x,.ref C]=>∃ t b,TyOf K H x t∧PySem.W.kitOne K t (.ref C)=some b∧Q (.bl b) H
 | _=>False
theorem c_isinst:CallR X (.builtin "isinstance") (cIsinst X.K):=by
 intro pins s σ H xs us Q I r h
 match xs,h with
 | [x,.ty T],h =>
  obtain ⟨t,k,h1,h2,h3⟩:=h
  obtain ⟨u,w',rfl,r1,r2⟩:=vals2 r
  cases r2
  exact isinst_ok I r1 h1 h2 fun tk=>⟨.bl k,H,I.tok tk,rfl,h3⟩
 | [x,.ref C],h =>
  obtain ⟨t,k,h1,h2,h3⟩:=h
  obtain ⟨u,w',rfl,r1,r2⟩:=vals2 r
  cases r2
  exact isinst_ok I r1 h1 h2 fun tk=>⟨.bl k,H,I.tok tk,rfl,h3⟩
def csChk (onames:List (Str × NameKind)) (scope:Scope):Bool:=scope.names.all fun y=>decide (y.2≠.cell) && (decide (y.2≠.local) || decide (scope.names.lookup y.1=some .local)) && (decide (y.2≠.free) || decide (onames.lookup y.1=some .cell) || decide (onames.lookup y.1=some .free))
theorem CScope.of {scope:Scope} (onames:List (Str × NameKind)) (h:csChk onames scope=true) (k:scope.kind=.function:=by rfl) (e:X.env.scope.names=onames:=by rfl):CScope X scope:=by
 have q:=List.all_eq_true.mp h
 refine ⟨k,fun y hy=>?_,fun y hy hl=>?_,fun y hy hf=>?_⟩
 ·have z:=q y hy
  simp only [Bool.and_eq_true,decide_eq_true_eq] at z
  exact z.1.1
 ·have z:=q y hy
  simp only [Bool.and_eq_true,Bool.or_eq_true,decide_eq_true_eq] at z
  exact z.1.2.resolve_left fun w=>w hl
 ·have z:=q y hy
  simp only [Bool.and_eq_true,Bool.or_eq_true,decide_eq_true_eq] at z
  show X.env.scope.names.lookup y.1=_∨X.env.scope.names.lookup y.1=_
  rw [e]
  rcases z.2 with (w | w) | w
  ·exact absurd hf w
  ·exact .inl w
  ·exact .inr w
def cnChk (XN:List Str) (scope:Scope) (N:List Str) (k:Nat) (sel:List Nat):Bool:=decide (N.length=k+sel.length) && (List.range sel.length).all fun i=>match sel[i]?,N[k+i]? with
 | some j,some x=>decide (XN[j]? = some x) && decide (scope.names.lookup x=some .free)
 | _,_=>false
theorem CNames.of {scope:Scope}{N:List Str}{k:Nat}{sel:List Nat} (XN:List Str) (h:cnChk XN scope N k sel=true) (e:X.N=XN:=by rfl):CNames X scope N k sel:=by
 unfold cnChk at h
 simp only [Bool.and_eq_true,decide_eq_true_eq] at h
 refine ⟨h.1,fun i j x h1 h2=>?_⟩
 have hi:i<sel.length:=(List.getElem?_eq_some_iff.mp h1).1
 have q:=List.all_eq_true.mp h.2 i (List.mem_range.mpr hi)
 rw [h1,h2] at q
 simp only [Bool.and_eq_true,decide_eq_true_eq] at q
 rw [e]
 exact q
end
theorem hr8 {A:Around}{k:Nat} (hr:Room k A):A.units+8<cLine:=by have:=hr.units;omega
section
variable {X:Cx}{a b:Expr}{te:TE}
def cPart (t:TE):TO:=fun σ H Q=>t σ H fun x H1=>match x with | .int i=>Q (some i) H1 | _=>False
theorem cPart_eq (t:TE):cPart t=tPart t:=by
 funext σ H Q
 unfold cPart tPart
 congr 1
 funext x H'
 apply propext
 cases x <;> first
  | exact ⟨fun q=>⟨_,rfl,q⟩,fun ⟨i,e,q⟩=>by cases e;exact q⟩
  | exact ⟨fun q=>False.elim q,fun ⟨i,e,q⟩=>by cases e⟩
theorem e_part (h:PE X a te):PO X (some a) (cPart te):=by
 rw [cPart_eq]
 exact po_some h
def cNeg:V→Hp→VK→Prop:=fun x H Q=>match x with | .int i=>Q (.int (-i)) H | _=>False
theorem u_neg:UnR X (unaryOp .USub) cNeg:=fun pins s σ H x v Q I rx h=>by
 cases x <;> first | exact False.elim h | exact un_neg pins s σ H _ v Q I rx ⟨_,rfl,h⟩
theorem t_pc {op:CmpOp}{t:TE}{pos:Pos} (h:PC X op a b t) (h1:behindInMarks op b=false:=by first | exact nobehind _ (by decide) (by decide) | rfl | with_unfolding_all rfl):PT X (.Compare a [op] [b] pos) (cTst t):=by
 have e:cTst t=tB t:=by
  funext σ H Q
  unfold cTst tB
  congr 1
  funext x H'
  exact cBool_eq
 rw [e]
 exact pt_cmp h h1
end
section
variable {K:PySem.W.Frag}{σ:St}{sel:List Nat}{rest:St}{H:Hp}{p:Addr}{tt:TT}{te:TE}{Q:VK}
abbrev CompGoal (J:It) (σ:St) (k:Nat) (sel:List Nat) (g:TG) (tt:TT) (te:TE) (Q:VK) (H1:Hp) (p:Addr):Prop :=
 ∃ W:Nat→Nat→St→Hp→Prop,(∃ m,W 0 m (cst σ k sel) (upd H1 p (.lst [])))∧∀ i m σ2 H2,W i m σ2 H2 →
  (J.stop i H2∧Q (.ref p) H2)∨(J.go i H2∧∀ x H3,J.yld i H2 x H3→g x σ2 H3 fun σ4 H4=>tt σ4 H4 fun b H5 =>
   if b=true then te σ4 H5 fun v H6=>∃ ys,H6 p=some (.lst ys)∧ys.length<sizeLine∧∃ m',m'<m∧W (i+1) m' σ4 (upd H6 p (.lst (ys ++ [v]))) else ∃ m',m'<m∧W (i+1) m' σ4 H5)
theorem comp_inv {J:It}{n:Nat}{item:Nat→V} (Pv:Nat→Hp→Prop) (hr:sel.map (fun j=>(σ[j]?).join)=rest) (h0:Pv 0 (upd H p (.lst [])))
  (src:∀ i H2,i<n→Pv i H2→J.go i H2∧∀ x H3,J.yld i H2 x H3→H3=H2∧x=item i) (fin:∀ H2,Pv n H2→J.stop n H2)
  (step:∀ i H2 (R:Hp→Prop),i<n→Pv i H2→(∀ H',Pv (i+1) H'→R H')→tt (some (item i) :: rest) H2 fun b H5 =>
   if b=true then te (some (item i) :: rest) H5 fun v H6=>∃ ys,H6 p=some (.lst ys)∧ys.length<sizeLine∧R (upd H6 p (.lst (ys ++ [v]))) else R H5)
  (hQ:∀ H2,Pv n H2→Q (.ref p) H2):CompGoal J σ 1 sel (gName 0) tt te Q H p:=by
 refine ⟨fun i m σ2 H2=>i≤n∧m=n - i+1∧(∃ v,σ2=v :: rest)∧Pv i H2,⟨n+1,Nat.zero_le _,rfl,⟨none,?_⟩,h0⟩,?_⟩
 ·unfold cst;rw [hr];rfl
 ·rintro i m σ2 H2 ⟨hi,rfl,⟨v,rfl⟩,hP⟩
  by_cases hlt:i<n
  ·right
   obtain ⟨hg,hy⟩:=src i H2 hlt hP
   refine ⟨hg,fun x H3 hx=>?_⟩
   obtain ⟨rfl,rfl⟩:=hy x H3 hx
   exact step i H3 (fun H'=>∃ m',m'<n - i+1∧i+1≤n∧m'=n - (i+1)+1∧(∃ v,(some (item i) :: rest:St)=v :: rest)∧Pv (i+1) H') hlt hP fun H' h'=>⟨n - (i+1)+1,by omega,hlt,rfl,⟨_,rfl⟩,h'⟩
  ·left
   have e:i=n:=by omega
   subst e
   exact ⟨fin H2 hP,hQ H2 hP⟩
theorem src_list {a:Addr}{xs:List V}{Pv:Nat→Hp→Prop} (hl:∀ i H2,i≤xs.length→Pv i H2→SqL K H2 a xs):∀ i H2,i<xs.length→Pv i H2→(Itl K a).go i H2∧∀ x H3,(Itl K a).yld i H2 x H3→H3=H2∧x=xs.getD i .non:=fun i H2 hi hP=>by
 have q:=hl i H2 (Nat.le_of_lt hi) hP
 have e:xs[i]? = some (xs.getD i .non):=by simp [List.getD,hi]
 refine ⟨⟨xs,_,q,e⟩,fun x H3 ⟨h1,h2⟩=>⟨h1,?_⟩⟩
 have:=h2 xs q
 rw [e] at this
 exact (Option.some.inj this).symm
theorem src_tup {a:Addr}{xs:List V}{Pv:Nat→Hp→Prop} (hl:∀ i H2,i≤xs.length→Pv i H2→SqT K H2 a xs):∀ i H2,i<xs.length→Pv i H2→(Itt K a).go i H2∧∀ x H3,(Itt K a).yld i H2 x H3→H3=H2∧x=xs.getD i .non:=fun i H2 hi hP=>by
 have q:=hl i H2 (Nat.le_of_lt hi) hP
 have e:xs[i]? = some (xs.getD i .non):=by simp [List.getD,hi]
 refine ⟨⟨xs,_,q,e⟩,fun x H3 ⟨h1,h2⟩=>⟨h1,?_⟩⟩
 have:=h2 xs q
 rw [e] at this
 exact (Option.some.inj this).symm
theorem src_rng {lo:Int}{n:Nat}{Pv:Nat→Hp→Prop}:∀ i H2,i<n→Pv i H2→(Itr lo n).go i H2∧∀ x H3,(Itr lo n).yld i H2 x H3→H3=H2∧x=.int (lo+i):=fun i H2 hi hP=>⟨hi,fun x H3 h=>h⟩
theorem same_upd {H:Hp}{p:Addr}{o:HO} (hp:H p=none):Same H (upd H p o):=fun b u e=>by rw [upd_ne (ne_of_none e hp)];exact e
theorem take_map_snoc {xs:List V}{f:V→V}{i:Nat} (hi:i<xs.length):(xs.take i).map f ++ [f (xs.getD i .non)]=(xs.take (i+1)).map f:=by
 rw [List.take_add_one,List.map_append]
 congr 1
 simp [List.getD,hi]
theorem comp_list {a:Addr}{xs:List V} (f:V→V) (hl:SqL K H a xs) (hp:H p=none) (hr:sel.map (fun j=>(σ[j]?).join)=rest) (hz:xs.length≤sizeLine)
  (he:∀ x H' (Q':VK),x∈xs→Same H H'→Q' (f x) H'→te (some x :: rest) H' Q') (hQ:Q (.ref p) (upd H p (.lst (xs.map f)))):CompGoal (Itl K a) σ 1 sel (gName 0) tTrue te Q H p:=by
 refine comp_inv (n:=xs.length) (item:=fun i=>xs.getD i .non) (fun i H2=>H2=upd H p (.lst ((xs.take i).map f))) hr (by simp) (src_list ?_) ?_ ?_ ?_
 ·rintro i H2 hi rfl
  exact (same_upd hp).seq hl
 ·rintro H2 rfl
  exact ⟨xs,(same_upd hp).seq hl,Nat.le_refl _⟩
 ·rintro i H2 R hi rfl hR
  unfold tTrue
  dsimp only
  rw [if_pos rfl]
  refine he _ _ _ (by rw [show xs.getD i .non=xs[i] from by simp [List.getD,hi]];exact List.getElem_mem _) (same_upd hp) ⟨_,upd_same,?_,hR _ ?_⟩
  ·rw [List.length_map,List.length_take];omega
  ·rw [upd_upd,take_map_snoc hi]
 ·rintro H2 rfl
  rw [List.take_length]
  exact hQ
end
def cRef (x:V) (k:Addr→Prop):Prop:=match x with | .ref p=>k p | _=>False
theorem cRef_eq {x:V}{k:Addr→Prop}:(∃ p,x=.ref p∧k p)=cRef x k:=by
 apply propext
 cases x <;> first
  | exact ⟨fun ⟨p,e,q⟩=>by cases e;exact q,fun q=>⟨_,rfl,q⟩⟩
  | exact ⟨fun ⟨p,e,q⟩=>(by cases e),fun q=>False.elim q⟩
def cInt1 (vs:List V) (k:Int→Prop):Prop:=match vs with | [.int j]=>k j | _=>False
theorem cInt1_eq {vs:List V}{k:Int→Prop}:(∃ j,vs=[.int j]∧k j)=cInt1 vs k:=by
 apply propext
 constructor
 ·rintro ⟨j,rfl,q⟩;exact q
 ·intro h
  unfold cInt1 at h
  split at h
  ·exact ⟨_,rfl,h⟩
  ·exact h.elim
def cInt2 (vs:List V) (k:Int→Int→Prop):Prop:=match vs with | [.int i,.int j]=>k i j | _=>False
theorem cInt2_eq {vs:List V}{k:Int→Int→Prop}:(∃ i j,vs=[.int i,.int j]∧k i j)=cInt2 vs k:=by
 apply propext
 constructor
 ·rintro ⟨i,j,rfl,q⟩;exact q
 ·intro h
  unfold cInt2 at h
  split at h
  ·exact ⟨_,_,rfl,h⟩
  ·exact h.elim
def ForGoal (J:It) (g:TG) (tb:TS) (D:Ends) (σ:St) (H:Hp):Prop:=∃ W:Nat→Nat→St→Hp→Prop,(∃ m,W 0 m σ H)∧∀ i m σ H,W i m σ H →
 (J.stop i H∧D.nx σ H)∨(J.go i H∧∃ N:St→Hp→Prop,(∀ σ' H',N σ' H'→∃ m',m'<m∧W (i+1) m' σ' H')∧∀ x H',J.yld i H x H'→g x σ H' fun σ2 H2=>tb { D with nx:=N,ct:=N,bk:=D.nx } σ2 H2)
def CompG (J:It) (σ:St) (k:Nat) (sel:List Nat) (g:TG) (tt:TT) (te:TE) (Q:VK) (H1:Hp):Prop:=∀ p,H1 p=none→CompGoal J σ k sel g tt te Q H1 p
section
variable {K:PySem.W.Frag}{te:TE}{ta:TA}{g:TG}{tb:TS}{D:Ends}{σ:St}{H:Hp}{p:Addr}{xs:List V}{k:Nat}{sel:List Nat}{tt:TT}{el:TE}{Q:VK}
theorem tFor_list:tFor (iList K te) g tb D σ H=te σ H (fun x H1=>cRef x fun p=>(∃ xs,SqL K H1 p xs)∧ForGoal (Itl K p) g tb D σ H1):=by
 unfold tFor iList
 congr 1
 funext x H1
 exact cRef_eq
theorem tFor_tup:tFor (iTup K te) g tb D σ H=te σ H (fun x H1=>cRef x fun p=>(∃ xs,SqT K H1 p xs)∧ForGoal (Itt K p) g tb D σ H1):=by
 unfold tFor iTup
 congr 1
 funext x H1
 exact cRef_eq
theorem tFor_rng1:tFor (iRng1 ta) g tb D σ H=ta σ H (fun vs H1=>cInt1 vs fun j=>-(2 ^ 62)≤j∧j<2 ^ 62∧ForGoal (Itr 0 j.toNat) g tb D σ H1):=by
 unfold tFor iRng1
 congr 1
 funext x H1
 exact cInt1_eq
theorem tFor_rng2:tFor (iRng2 ta) g tb D σ H=ta σ H (fun vs H1=>cInt2 vs fun i j=>(-(2 ^ 62)≤i∧i<2 ^ 62 ∧ -(2 ^ 62)≤j∧j<2 ^ 62)∧ForGoal (Itr i (j - i).toNat) g tb D σ H1):=by
 unfold tFor iRng2
 congr 1
 funext x H1
 exact cInt2_eq
theorem tComp_list:tComp (iList K te) k sel g tt el σ H Q=te σ H (fun x H1=>cRef x fun p=>(∃ xs,SqL K H1 p xs)∧CompG (Itl K p) σ k sel g tt el Q H1):=by
 unfold tComp iList
 congr 1
 funext x H1
 exact cRef_eq
theorem tComp_tup:tComp (iTup K te) k sel g tt el σ H Q=te σ H (fun x H1=>cRef x fun p=>(∃ xs,SqT K H1 p xs)∧CompG (Itt K p) σ k sel g tt el Q H1):=by
 unfold tComp iTup
 congr 1
 funext x H1
 exact cRef_eq
theorem tComp_rng1:tComp (iRng1 ta) k sel g tt el σ H Q=ta σ H (fun vs H1=>cInt1 vs fun j=>-(2 ^ 62)≤j∧j<2 ^ 62∧CompG (Itr 0 j.toNat) σ k sel g tt el Q H1):=by
 unfold tComp iRng1
 congr 1
 funext x H1
 exact cInt1_eq
theorem for_listG (Pv:Nat→St→Hp→Prop) (h0:Pv 0 σ H) (hk:∀ i σ H,i≤xs.length→Pv i σ H→SqL K H p xs)
  (hs:∀ i x σ H,xs[i]? = some x→Pv i σ H→g x σ H fun σ2 H2=>tb { D with nx:=Pv (i+1),ct:=Pv (i+1),bk:=D.nx } σ2 H2) (hd:∀ σ H,Pv xs.length σ H→D.nx σ H):ForGoal (Itl K p) g tb D σ H:=for_list Pv h0 hk hs hd
theorem for_tupG (Pv:Nat→St→Hp→Prop) (h0:Pv 0 σ H) (hk:∀ i σ H,i≤xs.length→Pv i σ H→SqT K H p xs)
  (hs:∀ i x σ H,xs[i]? = some x→Pv i σ H→g x σ H fun σ2 H2=>tb { D with nx:=Pv (i+1),ct:=Pv (i+1),bk:=D.nx } σ2 H2) (hd:∀ σ H,Pv xs.length σ H→D.nx σ H):ForGoal (Itt K p) g tb D σ H:=for_tup Pv h0 hk hs hd
theorem for_rngG {lo:Int}{n:Nat} (Pv:Nat→St→Hp→Prop) (h0:Pv 0 σ H)
  (hs:∀ (i:Nat) σ H,i<n→Pv i σ H→g (.int (lo+i)) σ H fun σ2 H2=>tb { D with nx:=Pv (i+1),ct:=Pv (i+1),bk:=D.nx } σ2 H2) (hd:∀ σ H,Pv n σ H→D.nx σ H):ForGoal (Itr lo n) g tb D σ H:=for_range Pv h0 hs hd
end
theorem atI_ok {α:Type}{xs:List α}{i:Int} (d:α) (h0:0≤i) (h1:i<xs.length):atI xs i=some (xs.getD i.toNat d):=by
 obtain ⟨n,rfl⟩:=Int.eq_ofNat_of_zero_le h0
 have hn:n<xs.length:=by omega
 have e:xs[n]? = some (xs.getD n d):=by simp [List.getD,hn]
 exact atI_nat e
theorem getD_map {α β:Type} (f:α→β) (xs:List α) (n:Nat) (d:α):(xs.map f).getD n (f d)=f (xs.getD n d):=by
 simp [List.getD]
theorem atI_map {α β:Type}{f:α→β}{xs:List α}{i:Int} (d:α) (h0:0≤i) (h1:i<xs.length):atI (xs.map f) i=some (f (xs.getD i.toNat d)):=by
 rw [atI_ok (f d) h0 (by rw [List.length_map];exact h1),getD_map]
theorem get_map_of {α β:Type}{f:α→β}{xs:List α}{i:Nat}{y:β} (h:(xs.map f)[i]? = some y):∃ x,xs[i]? = some x∧y=f x:=by
 rw [List.getElem?_map] at h
 cases e:xs[i]? with
 | none=>rw [e] at h;cases h
 | some x=>rw [e] at h;exact ⟨x,rfl,(Option.some.inj h).symm⟩
theorem pe_globE {X:Cx}{x:Str}{v:V}{pos:Pos} (hg:Gl X x) (hm:∃ u,X.mg x=some u∧RelV v u) (hd:(x == ("__debug__" : Str))=false:=by decide):PE X (.Name x pos) (tC v):=by
 obtain ⟨u,h1,h2⟩:=hm
 exact pe_glob hg h1 h2 hd
def constV:Expr→Option V
 | .Constant (.int i) _ _=>some (.int i)
 | .Constant (.bool b) _ _=>some (.bl b)
 | .Constant .none _ _=>some .non
 | .Constant (.str x) _ _=>some (.str x)
 | _=>none
def constVs:List Expr→Option (List V)
 | []=>some []
 | e :: r=>match constV e,constVs r with | some v,some vs=>some (v :: vs) | _,_=>none
def tVals (vs:List V):TA:=fun _ H Q=>Q vs H
theorem pe_constV {X:Cx}{e:Expr}{v:V} (h:constV e=some v):PE X e (tC v):=by
 unfold constV at h
 split at h <;> first
  | (cases h;exact pe_int)
  | (cases h;exact pe_bl)
  | (cases h;exact pe_non)
  | (cases h;exact pe_str)
  | cases h
theorem star_const {e:Expr}{es:List Expr}{env:Env}{v:V} (h:constV e=some v):starEach (e :: es) env=(false,eval e env) :: starEach es env:=by
 unfold constV at h
 split at h <;> first | rfl | cases h
theorem pa_consts {X:Cx}:∀ {es:List Expr}{vs:List V},constVs es=some vs→PA X es (tVals vs)
 | [],vs,h=>by
  have e:vs=[]:=(Option.some.inj h).symm
  subst e
  exact fun pos pins s σ H Q I q=>pa_nil pos pins s σ H Q I q
 | e :: r,vs,h=>by
  unfold constVs at h
  cases h1:constV e with
  | none=>rw [h1] at h;cases h
  | some v =>
   cases h2:constVs r with
   | none=>rw [h1,h2] at h;cases h
   | some ws =>
    rw [h1,h2] at h
    have e':v :: ws=vs:=Option.some.inj h
    subst e'
    exact fun pos pins s σ H Q I q=>pa_cons (pe_constV h1) (pa_consts h2) (star_const h1) pos pins s σ H Q I q
def constKs:List (Option Expr)→List Expr→Option (List (Key × V))
 | [],[]=>some []
 | some k :: ks,v :: vs=>match constV k,constV v,constKs ks vs with
  | some (.int i),some y,some r=>some ((.inl i,y) :: r)
  | some (.str x),some y,some r=>some ((.inr x,y) :: r)
  | _,_,_=>none
 | _,_=>none
theorem constKs_all:∀ {ks:List (Option Expr)}{vs:List Expr}{kvs:List (Key × V)},constKs ks vs=some kvs→ks.all (·.isSome)=true∧ks.length=vs.length∧kvs.length=ks.length
 | [],[],kvs,h=>by
  have e:kvs=[]:=(Option.some.inj h).symm
  subst e
  exact ⟨rfl,rfl,rfl⟩
 | [],_ :: _,_,h=>by cases h
 | none :: _,_,_,h=>by simp [constKs] at h
 | some k :: ks,[],_,h=>by cases h
 | some k :: ks,v :: vs,kvs,h=>by
  unfold constKs at h
  cases h3:constKs ks vs with
  | none =>
   rw [h3] at h
   split at h <;> first | (rename_i e;cases e;done) | (cases h;done)
  | some r =>
   obtain ⟨q1,q2,q3⟩:=constKs_all h3
   rw [h3] at h
   split at h
   ·rename_i e;cases e;cases h;exact ⟨by simpa using q1,by simp [q2],by simp [q3]⟩
   ·rename_i e;cases e;cases h;exact ⟨by simpa using q1,by simp [q2],by simp [q3]⟩
   ·cases h
def constPs:List (Key × V)→List (TE × TE):=fun kvs=>kvs.map fun kv=>(tC (kV kv.1),tC kv.2)
theorem pps_consts {X:Cx}{pos:Pos}:∀ {ks:List (Option Expr)}{vs:List Expr}{kvs:List (Key × V)},constKs ks vs=some kvs→PPs X pos ks vs (constPs kvs)
 | [],[],kvs,h=>by
  have e:kvs=[]:=(Option.some.inj h).symm
  subst e
  exact pps_nil
 | [],_ :: _,_,h=>by cases h
 | none :: _,_,_,h=>by simp [constKs] at h
 | some k :: ks,[],_,h=>by cases h
 | some k :: ks,v :: vs,kvs,h=>by
  unfold constKs at h
  cases h3:constKs ks vs with
  | none =>
   rw [h3] at h
   split at h <;> first | (rename_i e;cases e;done) | (cases h;done)
  | some r =>
   have ih:=pps_consts (X:=X) (pos:=pos) h3
   rw [h3] at h
   split at h
   ·rename_i e1 e2 e;cases e;cases h;exact pps_cons (pe_constV e1) (pe_constV e2) ih
   ·rename_i e1 e2 e;cases e;cases h;exact pps_cons (pe_constV e1) (pe_constV e2) ih
   ·cases h
theorem tPairs_consts {σ:St}{H:Hp}:∀ (kvs:List (Key × V)) (Q:List (V × V)→Hp→Prop),Q (kvs.map fun kv=>(kV kv.1,kv.2)) H→tPairs (constPs kvs) σ H Q
 | [],Q,h=>h
 | kv :: r,Q,h=>tPairs_consts r (fun ps H3=>Q ((kV kv.1,kv.2) :: ps) H3) h
def tDispC (kvs:List (Key × V)):TE:=fun _ H Q=>∀ p,H p=none→Q (.ref p) (upd H p (.dK kvs))
theorem e_dispC {X:Cx}{pos:Pos}{keys:List (Option Expr)}{values:List Expr} (kvs:List (Key × V)) (h:constKs keys values=some kvs) (hm:mergeK [] kvs=kvs) (hk:keys≠[]) (hl:kvs.length≤15):PE X (.Dict keys values pos) (tDispC kvs):=by
 obtain ⟨q1,q2,q3⟩:=constKs_all h
 refine (pe_disp (pps_consts h) q1 q2 hk (by omega)).imp fun σ H Q q p hp=>tPairs_consts kvs _ ⟨upd_same,kvs,rfl,hl,?_⟩
 rw [hm,upd_upd]
 exact q p hp
section
variable {X:Cx}{tg:Expr}
def cSlS:V→Option Int→Option Int→Hp→VK→Prop:=fun x lo hi H Q=>match x with
 | .str z=>z.length≤sizeLine∧Q (.str (Txt.slice z lo hi)) H
 | _=>False
theorem s_str:SlR X cSlS:=by
 intro pins s σ H x v vl vu lo hi sl Q I rx hs pl pu h
 cases x with
 | str z =>
  obtain ⟨t,rfl⟩:=rx
  obtain ⟨hz,q⟩:=h
  refine ⟨"str",_,F.slot_str_getitem.lookup,typeIs_str _ _ _,?_⟩
  have fin:∀ t' k,EP X pins σ Q (.str (Txt.slice z lo hi) t') { s with toks:=k }:=fun t' k=>⟨.str (Txt.slice z lo hi),H,I.tok k,⟨t',rfl⟩,q⟩
  cases pl with
  | none=>cases pu with
   | none=>exact wpAny_getItem_str_slice (l:=none) (u:=none) (st:=none) hs rfl (post_val_or_str ⟨Nat.le_trans (Txt.slice_le z _ _) hz,fin⟩)
   | int j uj=>exact wpAny_getItem_str_slice (l:=none) (u:=some (j,uj)) (st:=none) hs rfl (post_val_or_str ⟨Nat.le_trans (Txt.slice_le z _ _) hz,fin⟩)
  | int i ui=>cases pu with
   | none=>exact wpAny_getItem_str_slice (l:=some (i,ui)) (u:=none) (st:=none) hs rfl (post_val_or_str ⟨Nat.le_trans (Txt.slice_le z _ _) hz,fin⟩)
   | int j uj=>exact wpAny_getItem_str_slice (l:=some (i,ui)) (u:=some (j,uj)) (st:=none) hs rfl (post_val_or_str ⟨Nat.le_trans (Txt.slice_le z _ _) hz,fin⟩)
 | _=>exact False.elim h
variable {te:TE}{g:TG}{tb:TS}{D:Ends}{σ:St}{H:Hp}{k:Nat}{sel:List Nat}{tt:TT}{el:TE}{Q:VK}
def cMul:R2:=fun x y H Q=>match x,y with
 | .int i,.int j=>CMul i j∧Q (.int (i * j)) H
 | .str z,.int n=>MulOk z n∧Q (.str (Txt.mul z n)) H
 | _,_=>False
theorem o_mul:OpR X (binaryOp .Mult) cMul:=by
  intro pins s σ H x y v u Q I rx ry h
  cases x <;> cases y <;> first
    | exact False.elim h
    | exact op_mul pins s σ H _ _ v u Q I rx ry ⟨_,_,rfl,rfl,h.1,h.2⟩
    | (obtain ⟨t,rfl⟩:=rx
       obtain ⟨t',rfl⟩:=ry
       exact SB.mul h.1 fun t'' k=>⟨.str _,H,I.tok k,⟨t'',rfl⟩,h.2⟩)
end
structure New (H:Hp) (p:Addr) (o:HO) (H':Hp):Prop where
 was:H p=none
 eq:H'=upd H p o
section
variable {H H':Hp}{p:Addr}{o:HO}
theorem New.same (n:New H p o H'):Same H H':=by rw [n.eq];exact same_upd n.was
theorem New.at_ (n:New H p o H'):H' p=some o:=by rw [n.eq];exact upd_same
theorem New.ne (n:New H p o H') {b:Addr} (h:b≠p):H' b=H b:=by rw [n.eq];exact upd_ne h
theorem New.sq {K:PySem.W.Frag}{xs:List V} (n:New H p (.lst xs) H'):SqL K H' p xs:=.of n.at_
theorem New.sqT {K:PySem.W.Frag}{xs:List V} (n:New H p (.tup xs) H'):SqT K H' p xs:=.of n.at_
theorem new_eq {F:Addr→Hp→Prop}{o:HO}:(∀ p,H p=none→F p (upd H p o)) = ∀ p H',New H p o H'→F p H' :=
 propext ⟨fun h p H' n=>by rw [n.eq];exact h p n.was,fun h p hp=>h p _ ⟨hp,rfl⟩⟩
end
section
variable {K:PySem.W.Frag}{t:TA}{σ:St}{H:Hp}{Q:VK}{x:V}{lo hi:Option Int}{vs:List V}{kvs:List (Key × V)}
theorem tLst_n:tLst t σ H Q=t σ H fun xs H1=>xs.length≤sizeLine∧∀ p H',New H1 p (.lst xs) H'→Q (.ref p) H':=by
 unfold tLst;congr 1;funext xs H1;rw [new_eq (F:=fun p H'=>Q (.ref p) H')]
theorem tTup_n:tTup t σ H Q=t σ H fun xs H1=>xs.length≤sizeLine∧∀ p H',New H1 p (.tup xs) H'→Q (.ref p) H':=by
 unfold tTup;congr 1;funext xs H1;rw [new_eq (F:=fun p H'=>Q (.ref p) H')]
theorem tDispC_n:tDispC kvs σ H Q = ∀ p H',New H p (.dK kvs) H'→Q (.ref p) H':=by
 unfold tDispC;rw [new_eq (F:=fun p H'=>Q (.ref p) H')]
theorem tDNewK_n:tDNewK σ H Q = ∀ p H',New H p (.dK []) H'→Q (.ref p) H':=by
 unfold tDNewK;rw [new_eq (F:=fun p H'=>Q (.ref p) H')]
theorem cSlL_n {p:Addr}:cSlL K (.ref p) lo hi H Q = ∃ xs,SqL K H p xs∧∀ q H',New H q (.lst (cutV xs lo hi)) H'→Q (.ref q) H':=by
 unfold cSlL
 dsimp only
 congr 1;funext xs;rw [new_eq (F:=fun p H'=>Q (.ref p) H')]
theorem cTuple_n {p:Addr}:cTuple K [.ref p] H Q = ∃ ys,((SqL K H p ys∧∀ l H',New H l (.tup ys) H'→Q (.ref l) H')∨(SqT K H p ys∧Q (.ref p) H)):=by
 unfold cTuple
 dsimp only
 congr 1;funext xs;rw [new_eq (F:=fun p H'=>Q (.ref p) H')]
end
section
variable {K:PySem.W.Frag}{σ:St}{sel:List Nat}{rest:St}{H:Hp}{tt:TT}{te:TE}{Q:VK}
theorem compG_list {a:Addr}{xs:List V} (f:V→V) (hl:SqL K H a xs) (hr:sel.map (fun j=>(σ[j]?).join)=rest) (hz:xs.length≤sizeLine)
  (he:∀ x H' (Q':VK),x∈xs→Same H H'→Q' (f x) H'→te (some x :: rest) H' Q') (hQ:∀ p H',New H p (.lst (xs.map f)) H'→Q (.ref p) H'):CompG (Itl K a) σ 1 sel (gName 0) tTrue te Q H :=
 fun p hp=>comp_list f hl hp hr hz he (hQ p _ ⟨hp,rfl⟩)
end
def cSlU (K:PySem.W.Frag):V→Option Int→Option Int→Hp→VK→Prop:=fun x lo hi H Q=>match x with
 | .ref p=>∃ xs,SqL K H p xs∧∀ q H',New H q (.lst (cutV xs lo hi)) H'→Q (.ref q) H'
 | .str z=>z.length≤sizeLine∧Q (.str (Txt.slice z lo hi)) H
 | _=>False
theorem s_u {X:Cx}:SlR X (cSlU X.K):=by
 intro pins s σ H x v vl vu lo hi sl Q I rx hs pl pu h
 cases x with
 | ref p=>exact s_list pins s σ H (.ref p) v vl vu lo hi sl Q I rx hs pl pu (by rw [cSlL_n];exact h)
 | str z=>exact s_str pins s σ H (.str z) v vl vu lo hi sl Q I rx hs pl pu h
 | _=>exact False.elim h
end L2
set_option maxHeartbeats 4000000
namespace DZ
open PySem
section
variable {prog:Program}{w:World}{A:Around}{E:Value→Shared→Prop}{s:Shared}
theorem nextT_item {it t:Addr}{i:Nat}{vs:Array Value}{x:Value}{Q:Value→Shared→Prop} (st:s.heap.IsTupleIter it t i) (tt:s.heap.IsTuple t vs) (hx:vs[i]? = some x)
  (q:∀ h',h'.IsTupleIter it t (i+1)→Heap.SameBut it s.heap h'→Q x { s with heap:=h' }):wpAny (model prog w) A (Builtin.SmallTypes.nextOf (.ref it)) Q E s:=by
 obtain ⟨o1,e1,c1,d1⟩:=id st
 obtain ⟨o2,e2,_,n2,d2⟩:=tt
 unfold Builtin.SmallTypes.nextOf
 refine wpAny_bind (wpAny_callSpecial?_slot (name:=Str.ofString "__next__") st.typeIs F.slot_tuple_iterator_next (wpAny_call_entry F.slot_tuple_iterator_next st.typeIs F.entry_tuple_iterator_next ?_ (F.args_tuple_iterator_next_1 _)))
 show wpAny _ _ (field (.ref it) 0 >>= _) _ _ s
 refine wpAny_bind (wpAny_field e1 d1 (x:=.ref t) rfl ?_)
 show wpAny _ _ (if (Value.ref t == Value.none)=true then _ else _) _ _ s
 rw [if_neg (show ¬ ((Value.ref t == Value.none)=true) from Bool.false_ne_true)]
 show wpAny _ _ (field (.ref it) 1 >>= _) _ _ s
 refine wpAny_bind (wpAny_field e1 d1 (x:=.int i 0) rfl ?_)
 show wpAny _ _ (seqItems? (.ref t) >>= _) _ _ s
 refine wpAny_bind (wpAny_seqItems e2 d2 ?_)
 simp only [Int.toNat_natCast,hx]
 refine wpAny_bind (wpAny_setField e1 d1 (by simp) (wpAny_pure ⟨x,rfl,wpAny_pure (q _ ?_ (Heap.SameBut.update ..))⟩))
 exact ⟨_,Heap.get?_update_self _ e1 (Obj.isFreed_of_fields (Obj.data_mapFields d1 _)),(Obj.cls_mapFields ..).trans c1,by rw [Obj.data_mapFields d1];simp [rawInt]⟩
theorem nextT_end {it t:Addr}{i:Nat}{vs:Array Value}{Q:Value→Shared→Prop} (hh:A.handled=none) (st:s.heap.IsTupleIter it t i) (tt:s.heap.IsTuple t vs) (hx:vs[i]? = none)
  (q:∀ h' e,Heap.ExtBut it s.heap h'→(∃ o,h'.get? e=some o∧o.cls=.type "StopIteration")→E (.ref e) { s with heap:=h' }):wpAny (model prog w) A (Builtin.SmallTypes.nextOf (.ref it)) Q E s:=by
 obtain ⟨o1,e1,c1,d1⟩:=id st
 obtain ⟨o2,e2,_,n2,d2⟩:=tt
 unfold Builtin.SmallTypes.nextOf
 refine wpAny_bind (wpAny_callSpecial?_slot (name:=Str.ofString "__next__") st.typeIs F.slot_tuple_iterator_next (wpAny_call_entry F.slot_tuple_iterator_next st.typeIs F.entry_tuple_iterator_next ?_ (F.args_tuple_iterator_next_1 _)))
 show wpAny _ _ (field (.ref it) 0 >>= _) _ _ s
 refine wpAny_bind (wpAny_field e1 d1 (x:=.ref t) rfl ?_)
 show wpAny _ _ (if (Value.ref t == Value.none)=true then _ else _) _ _ s
 rw [if_neg (show ¬ ((Value.ref t == Value.none)=true) from Bool.false_ne_true)]
 show wpAny _ _ (field (.ref it) 1 >>= _) _ _ s
 refine wpAny_bind (wpAny_field e1 d1 (x:=.int i 0) rfl ?_)
 show wpAny _ _ (seqItems? (.ref t) >>= _) _ _ s
 refine wpAny_bind (wpAny_seqItems e2 d2 ?_)
 simp only [Int.toNat_natCast,hx]
 refine wpAny_bind (wpAny_rule (wpAny_bind (wpAny_setField e1 d1 (by simp) ?_)))
 show wpAny _ _ (newExc (.type "StopIteration") [] >>= _) _ _ _
 refine wpAny_bind ?_
 simp only [newExc,newTuple]
 refine wpAny_bind (wpAny_newObj_type ?_ (by size_fits))
 refine wpAny_bind (m:=firstArgMember _ _) (wpAny_of_eq (a:=Value.none) (by first | rfl | (simp only [firstArgMember];rfl)) ?_)
 refine wpAny_newObj_type ?_ (by size_fits)
 simp only [raiseNew]
 refine wpAny_bind (wpAny_handled ?_)
 first | rw [show A.in1.handled=none from hh] | rw [hh]
 refine wpAny_bind (wpAny_pure (wpAny_throw ?_))
 exact q _ _ (((Heap.SameBut.update ..).extBut.push _).push _) ⟨_,Heap.get?_push_size _ rfl,rfl⟩
end
section
variable {M:Model}{A:Around}{E:Value→Shared→Prop}{s:Shared}
theorem alive {a:Addr}{o:Obj}{Q:Option Obj→Shared→Prop} (h:s.heap.get? a=some o) (q:Q (some o) s):wpAny M A (loadIfAlive a) Q E s:=fun Γ p _=>by
 unfold loadIfAlive
 rw [Sem.wp_loadIfAlive,h]
 exact q
end
abbrev zA (h:Heap) (t:Addr):Heap:=h.push { cls:=.type "tuple_iterator",data:=.fields #[.ref t,.int 0 0] }
abbrev zB (h:Heap) (t l:Addr):Heap:=(zA h t).push { cls:=.type "list_iterator",data:=.fields #[.ref l,.int 0 0] }
abbrev zC (h:Heap) (t l:Addr):Heap:=(zB h t l).push { cls:=.type "tuple",data:=.seq #[.ref h.objs.size,.ref (zA h t).objs.size] }
abbrev zD (h:Heap) (t l:Addr):Heap:=(zC h t l).push { cls:=.type "tuple",data:=.seq #[.none,.none] }
abbrev zE (h:Heap) (t l:Addr):Heap:=(zD h t l).push { cls:=.type "zip",data:=.fields #[.none,.bool false,.bool false,.ref (zB h t l).objs.size,.ref (zC h t l).objs.size] }
theorem zip_meets (t l:Addr) (xs ys:Array Value):Meets (Builtin.«zip.__new__» ⟨[.type "zip",.ref t,.ref l],[]⟩) (fun _ R s=>s.heap.IsTuple t xs∧s.heap.IsList l ys∧R (.ok (.ret (.ref (zD s.heap t l).objs.size))) { s with heap:=zE s.heap t l }) :=
 .of_wp fun prog w A R s h=>by
  obtain ⟨hp,g,d,tk,os⟩:=s
  obtain ⟨h1,h2,h⟩:=h
  have hsub:=sub_zip
  have q1:Heap.IsTuple (Shared.heap ⟨hp,g,d,tk,os⟩) t xs:=h1
  have q2:Heap.IsList (Shared.heap ⟨hp.push { cls:=.type "tuple_iterator",data:=.fields #[.ref t,.int 0 0] },g,d,tk,os⟩) l ys:=Heap.IsList.push h2 _
  wp_walk using wpAny_pyIter_tuple q1,wpAny_pyIter_list q2
  exact ⟨_,rfl,h⟩
structure ZSt (z TI TO i1 i2 t l:Addr) (xs ys:Array Value) (i:Nat) (h:Heap):Prop where
 zo:∃ f0 f1,h.get? z=some { cls:=.type "zip",dict:=none,data:=.fields #[f0,.bool f1,.bool false,.ref TI,.ref TO],slots:=#[] } ∧
  (f0=.none∨∃ (T:Addr) (o:Obj),f0=rawInt T∧h.get? T=some o∧T≠z∧T≠TO∧T≠i1∧T≠i2)
 ti:IsPair h TI (.ref i1) (.ref i2)
 to:∃ a b,IsPair h TO a b
 a1:h.IsTupleIter i1 t i
 a2:h.IsListIter i2 l i
 l1:h.IsTuple t xs
 l2:h.IsList l ys
section
variable {prog:Program}{w:World}{A:Around}{E:Value→Shared→Prop}{s:Shared}
theorem call_zip {t l:Addr}{xs ys:Array Value}{Q:Value→Shared→Prop} (h1:s.heap.IsTuple t xs) (h2:s.heap.IsList l ys)
  (h:∀ h' z TI TO i1 i2,ZSt z TI TO i1 i2 t l xs ys 0 h'→ZipApart z TI TO i1 i2 t l→s.heap.objs.size≤z→s.heap.objs.size≤TI→s.heap.objs.size≤TO→s.heap.objs.size≤i1→s.heap.objs.size≤i2 →
   (∀ c o,s.heap.get? c=some o→h'.get? c=some o)→Q (.ref z) { s with heap:=h' }) :
  wpAny (model prog w) A (call (.type "zip") [.ref t,.ref l]) Q E s:=by
 refine callType_new F.called_zip (by decide) (F.typeCall_zip_2 _ _) (F.newCall_zip_2 _ _) (fun obj=>F.args_object_init_3 obj _ _) F.entry_zip_new (zip_meets t l xs ys) ⟨h1,h2,?_⟩
 have z1:(zA s.heap t).objs.size=s.heap.objs.size+1:=Heap.size_push ..
 have z2:(zB s.heap t l).objs.size=s.heap.objs.size+2:=by rw [Heap.size_push,z1]
 have z3:(zC s.heap t l).objs.size=s.heap.objs.size+3:=by rw [Heap.size_push,z2]
 have z4:(zD s.heap t l).objs.size=s.heap.objs.size+4:=by rw [Heap.size_push,z3]
 have z5:(zE s.heap t l).objs.size=s.heap.objs.size+5:=by rw [Heap.size_push,z4]
 have g5:(zE s.heap t l).get? (zD s.heap t l).objs.size=some _:=Heap.get?_push_size _ rfl
 have g4:(zE s.heap t l).get? (zC s.heap t l).objs.size=some _:=Heap.get?_push_of_some _ (Heap.get?_push_size _ rfl)
 have g3:(zE s.heap t l).get? (zB s.heap t l).objs.size=some _:=Heap.get?_push_of_some _ (Heap.get?_push_of_some _ (Heap.get?_push_size _ rfl))
 have g2:(zE s.heap t l).get? (zA s.heap t).objs.size=some _:=Heap.get?_push_of_some _ (Heap.get?_push_of_some _ (Heap.get?_push_of_some _ (Heap.get?_push_size _ rfl)))
 have g1:(zE s.heap t l).get? s.heap.objs.size=some _:=Heap.get?_push_of_some _ (Heap.get?_push_of_some _ (Heap.get?_push_of_some _ (Heap.get?_push_of_some _ (Heap.get?_push_size _ rfl))))
 have up:∀ c o,s.heap.get? c=some o→(zE s.heap t l).get? c=some o:=fun c o x=>Heap.get?_push_of_some _ (Heap.get?_push_of_some _ (Heap.get?_push_of_some _ (Heap.get?_push_of_some _ (Heap.get?_push_of_some _ x))))
 have lt1:@LT.lt Nat _ t s.heap.objs.size:=by obtain ⟨_,e,_⟩:=h1;exact Heap.lt_size e
 have lt2:@LT.lt Nat _ l s.heap.objs.size:=by obtain ⟨_,e,_⟩:=h2;exact Heap.lt_size e
 show _∧_
 rw [z2,z3,z4] at g5
 rw [z1,z2] at g3
 rw [z3] at g4
 rw [z1] at g2
 rw [z4]
 refine ⟨⟨_,g5,rfl⟩,h _ _ _ _ _ _ ⟨⟨_,_,g5,.inl rfl⟩,g3,⟨_,_,g4⟩,⟨_,g1,rfl,rfl⟩,⟨_,g2,rfl,rfl⟩,h1.at fun o e=>up _ o e,h2.at fun o e=>up _ o e⟩ ?_ (by omega) (by omega) (by omega) (by omega) (by omega) up⟩
 constructor <;> first | exact Nat.ne_of_lt (by omega) | exact Nat.ne_of_gt (by omega)
theorem zip_item {z TI TO i1 i2 t l:Addr}{xs ys:Array Value}{i:Nat}{x y:Value}{Q:Value→Shared→Prop} (D:ZipApart z TI TO i1 i2 t l) (S:ZSt z TI TO i1 i2 t l xs ys i s.heap) (hx:xs[i]? = some x) (hy:ys[i]? = some y)
  (q:∀ h' T,ZSt z TI TO i1 i2 t l xs ys (i+1) h'→IsPair h' T x y→s.heap.objs.size≤T→(∀ c o,c≠z→c≠TO→c≠i1→c≠i2→s.heap.get? c=some o→h'.get? c=some o)→Q (.ref T) { s with heap:=h' }) :
  wpAny (model prog w) A (Builtin.«zip.__next__» ⟨[.ref z],[]⟩) (fun fin s'=>∃ v,fin=.done (.ret v)∧Q v s') E s:=by
 obtain ⟨⟨f0,f1,hz,hf⟩,hTI,⟨a,b,hTO⟩,h1,h2,hl1,hl2⟩:=S
 show wpAny _ _ (field (.ref z) 2 >>= _) _ _ _
 refine wpAny_bind (wpAny_field hz rfl (x:=.bool false) rfl ?_)
 show wpAny _ _ (field (.ref z) 3 >>= _) _ _ _
 refine wpAny_bind (wpAny_field hz rfl (x:=.ref TI) rfl ?_)
 refine wpAny_bind (wpAny_seqItems hTI rfl ?_)
 show wpAny _ _ (Builtin.SmallTypes.ownedTupleIsFree (.ref z) >>= _) _ _ _
 refine wpAny_bind ?_
 unfold Builtin.SmallTypes.ownedTupleIsFree
 refine wpAny_bind (wpAny_field hz rfl (x:=f0) rfl ?_)
 rcases hf with rfl | ⟨T0,oT,rfl,hT0,n1,n2,n3,n4⟩
 ·refine wpAny_pure ?_
  simp only [if_true]
  refine wpAny_bind (wpAny_rule ?_)
  refine wpAny_bind (wpAny_field hz rfl (x:=.ref TO) rfl ?_)
  refine wpAny_bind (wpAny_setField_rec hz (by simp) fun k1 hz1 s1=>?_)
  refine wpAny_bind ?_
  simp only [List.zipIdx_cons,List.zipIdx_nil,List.forIn_cons,List.forIn_nil]
  refine wpAny_bind (wpAny_bind (wpAny_onRaise ?_))
  show wpAny _ _ (Builtin.SmallTypes.nextOf (.ref i1) >>= _) _ _ _
  refine wpAny_bind (nextT_item (h1.extBut s1.extBut D.i1z) (hl1.extBut s1.extBut D.l1z) hx fun k2 j1 s2=>wpAny_pure ?_)
  have o2:IsPair k2 TO a b:=s2.extBut _ _ D.TOi1 (s1.extBut _ _ D.TOz hTO)
  refine wpAny_bind (wpAny_seqItems o2 rfl ?_)
  refine wpAny_bind (wpAny_updateSeq_pair o2 fun k3 o3 s3=>?_)
  replace o3:IsPair k3 TO x b:=o3
  refine wpAny_bind (wpAny_letGo (wpAny_pure ?_))
  refine wpAny_bind (wpAny_bind (wpAny_onRaise ?_))
  show wpAny _ _ (Builtin.SmallTypes.nextOf (.ref i2) >>= _) _ _ _
  refine wpAny_bind (wpAny_nextOf_list_item (((h2.extBut s1.extBut D.i2z).extBut s2.extBut D.i12.symm).extBut s3.extBut D.TOi2.symm) (((hl2.extBut s1.extBut D.l2z).extBut s2.extBut D.l2i1).extBut s3.extBut D.l2TO) hy fun k4 j2 s4=>wpAny_pure ?_)
  have o4:IsPair k4 TO x b:=s4.extBut _ _ D.TOi2 o3
  refine wpAny_bind (wpAny_seqItems o4 rfl ?_)
  refine wpAny_bind (wpAny_updateSeq_pair o4 fun k5 o5 s5=>?_)
  replace o5:IsPair k5 TO x y:=o5
  refine wpAny_bind (wpAny_letGo (wpAny_pure (wpAny_pure ?_)))
  refine wpAny_bind (wpAny_seqItems o5 rfl ?_)
  refine wpAny_bind (wpAny_newTuple ?_)
  have sz:k5.objs.size=s.heap.objs.size:=by rw [s5.1,s4.1,s3.1,s2.1,s1.1]
  have y5:=s5.extBut _ _ D.TOz.symm (s4.extBut _ _ D.i2z.symm (s3.extBut _ _ D.TOz.symm (s2.extBut _ _ D.i1z.symm hz1)))
  have up5:∀ c o,c≠z→c≠TO→c≠i1→c≠i2→s.heap.get? c=some o→k5.get? c=some o:=fun c o c1 c2 c3 c4 e =>
   s5.extBut _ _ c2 (s4.extBut _ _ c4 (s3.extBut _ _ c2 (s2.extBut _ _ c3 (s1.extBut _ _ c1 e))))
  have m1:k5.IsTupleIter i1 t (i+1):=((j1.extBut s3.extBut D.TOi1.symm).extBut s4.extBut D.i12).extBut s5.extBut D.TOi1.symm
  have m2:k5.IsListIter i2 l (i+1):=j2.extBut s5.extBut D.TOi2.symm
  have u1:z<k5.objs.size:=Heap.lt_size y5
  have u2:TO<k5.objs.size:=Heap.lt_size o5
  have u3:i1<k5.objs.size:=by obtain ⟨_,e,_⟩:=m1;exact Heap.lt_size e
  have u4:i2<k5.objs.size:=by obtain ⟨_,e,_⟩:=m2;exact Heap.lt_size e
  show wpAny _ _ (Builtin.SmallTypes.ownedTupleHandOut (.ref z) (.ref k5.objs.size) >>= _) _ _ _
  refine wpAny_bind ?_
  unfold Builtin.SmallTypes.ownedTupleHandOut
  have y6:=Heap.get?_push_of_some { cls:=.type "tuple",data:=.seq #[x,y] } y5
  refine wpAny_bind (wpAny_setField_rec y6 (by simp) fun k7 y7 s7=>?_)
  refine wpAny_setField_rec y7 (by simp) fun k8 y8 s8=>?_
  have up:∀ c o,c≠z→k5.get? c=some o→k8.get? c=some o:=fun c o c1 e=>s8.extBut _ _ c1 (s7.extBut _ _ c1 (Heap.get?_push_of_some _ e))
  have tp:IsPair k8 k5.objs.size x y:=s8.extBut _ _ (Nat.ne_of_gt u1) (s7.extBut _ _ (Nat.ne_of_gt u1) (Heap.get?_push_size _ rfl))
  refine wpAny_pure ⟨_,rfl,?_⟩
  refine q k8 k5.objs.size ⟨⟨rawInt k5.objs.size,false,y8,.inr ⟨_,_,rfl,tp,Nat.ne_of_gt u1,Nat.ne_of_gt u2,Nat.ne_of_gt u3,Nat.ne_of_gt u4⟩⟩,up _ _ D.TIz (up5 _ _ D.TIz D.TITO D.TIi1 D.TIi2 hTI),⟨_,_,up _ _ D.TOz o5⟩,
   m1.at fun o e=>up _ o D.i1z e,m2.at fun o e=>up _ o D.i2z e,hl1.at fun o e=>up _ o D.l1z (up5 _ _ D.l1z D.l1TO D.l1i1 D.l1i2 e),hl2.at fun o e=>up _ o D.l2z (up5 _ _ D.l2z D.l2TO D.l2i1 D.l2i2 e)⟩ tp (by rw [sz];exact Nat.le_refl _) fun c o c1 c2 c3 c4 e=>up c o c1 (up5 c o c1 c2 c3 c4 e)
 ·refine wpAny_mono (Q:=fun bb s1=>bb=false∧∃ k1,s1={ s with heap:=k1 }∧k1.get? z=some { cls:=.type "zip",dict:=none,data:=.fields #[rawInt T0,.bool true,.bool false,.ref TI,.ref TO],slots:=#[] } ∧
   (∀ c o,c≠z→s.heap.get? c=some o→k1.get? c=some o)∧k1.objs.size=s.heap.objs.size) ?_ (fun bb s1 hb=>?_) (fun _ _ e=>e)
  ·show wpAny _ _ (loadIfAlive (Int.toNat T0) >>= _) _ _ _
   refine wpAny_bind (alive (o:=oT) (by rw [Int.toNat_natCast];exact hT0) ?_)
   show wpAny _ _ (field (.ref z) 1 >>= _) _ _ _
   refine wpAny_bind (wpAny_field hz rfl (x:=.bool f1) rfl ?_)
   cases f1 with
   | true =>
    rw [if_neg (by decide)]
    exact wpAny_bind (wpAny_pure (wpAny_pure ⟨rfl,s.heap,rfl,hz,fun _ _ _ e=>e,rfl⟩))
   | false =>
    rw [if_pos (by decide)]
    exact wpAny_bind (wpAny_setField_rec hz (by simp) fun k1 y1 s1=>wpAny_pure ⟨rfl,k1,rfl,y1,fun c o hc e=>s1.extBut _ _ hc e,s1.1⟩)
  ·obtain ⟨rfl,k1,rfl,y1,up1,sz1⟩:=hb
   rw [if_neg (by decide)]
   dsimp only
   rw [← Array.forIn_toList]
   simp only [List.forIn_cons,List.forIn_nil]
   refine wpAny_bind (wpAny_bind (wpAny_bind (wpAny_holding ?_)))
   show wpAny _ _ (Builtin.SmallTypes.nextOf (.ref i1) >>= _) _ _ _
   have a1:k1.IsTupleIter i1 t i:=h1.at fun o e=>up1 _ o D.i1z e
   have a2:k1.IsListIter i2 l i:=h2.at fun o e=>up1 _ o D.i2z e
   have b1:k1.IsTuple t xs:=hl1.at fun o e=>up1 _ o D.l1z e
   have b2:k1.IsList l ys:=hl2.at fun o e=>up1 _ o D.l2z e
   refine wpAny_bind (nextT_item (s:={ s with heap:=k1 }) a1 b1 hx fun k2 j1 s2=>wpAny_pure (wpAny_pure ?_))
   refine wpAny_bind (wpAny_bind (wpAny_holding ?_))
   show wpAny _ _ (Builtin.SmallTypes.nextOf (.ref i2) >>= _) _ _ _
   refine wpAny_bind (wpAny_nextOf_list_item (s:={ s with heap:=k2 }) (a2.extBut s2.extBut D.i12.symm) (b2.extBut s2.extBut D.l2i1) hy fun k3 j2 s3=>wpAny_pure (wpAny_pure (wpAny_pure ?_)))
   refine wpAny_bind (wpAny_newTuple ?_ (by show 2≤sizeLine;decide))
   have up3:∀ c o,c≠z→c≠i1→c≠i2→s.heap.get? c=some o→k3.get? c=some o:=fun c o c1 c3 c4 e=>s3.extBut _ _ c4 (s2.extBut _ _ c3 (up1 _ _ c1 e))
   have up4:∀ c o,k3.get? c=some o→(k3.push { cls:=.type "tuple",data:=.seq #[x,y] }).get? c=some o:=fun c o e=>Heap.get?_push_of_some _ e
   have y3:=up4 _ _ (s3.extBut _ _ D.i2z.symm (s2.extBut _ _ D.i1z.symm y1))
   have sz3:k3.objs.size=s.heap.objs.size:=by rw [s3.1,s2.1];exact sz1
   refine wpAny_pure ⟨_,rfl,q _ k3.objs.size ⟨⟨_,_,y3,.inr ⟨T0,oT,rfl,up4 _ _ (up3 _ _ n1 n3 n4 hT0),n1,n2,n3,n4⟩⟩,up4 _ _ (up3 _ _ D.TIz D.TIi1 D.TIi2 hTI),⟨_,_,up4 _ _ (up3 _ _ D.TOz D.TOi1 D.TOi2 hTO)⟩,
    (j1.extBut s3.extBut D.i12).at fun o e=>up4 _ o e,j2.at fun o e=>up4 _ o e,hl1.at fun o e=>up4 _ o (up3 _ _ D.l1z D.l1i1 D.l1i2 e),hl2.at fun o e=>up4 _ o (up3 _ _ D.l2z D.l2i1 D.l2i2 e)⟩ (Heap.get?_push_size _ rfl) (by rw [sz3];exact Nat.le_refl _)
    fun c o c1 c2 c3 c4 e=>up4 _ _ (up3 _ _ c1 c3 c4 e)⟩
theorem zip_end {z TI TO i1 i2 t l:Addr}{xs ys:Array Value}{i:Nat}{Q:Fin→Shared→Prop} (hh:A.handled=none) (D:ZipApart z TI TO i1 i2 t l) (S:ZSt z TI TO i1 i2 t l xs ys i s.heap) (hx:xs[i]? = none)
  (q:∀ h' e,(∀ c o,c≠z→c≠TO→c≠i1→c≠i2→s.heap.get? c=some o→h'.get? c=some o)→(∃ o,h'.get? e=some o∧o.cls=.type "StopIteration")→E (.ref e) { s with heap:=h' }) :
  wpAny (model prog w) A (Builtin.«zip.__next__» ⟨[.ref z],[]⟩) Q E s:=by
 obtain ⟨⟨f0,f1,hz,hf⟩,hTI,⟨a,b,hTO⟩,h1,h2,hl1,hl2⟩:=S
 show wpAny _ _ (field (.ref z) 2 >>= _) _ _ _
 refine wpAny_bind (wpAny_field hz rfl (x:=.bool false) rfl ?_)
 show wpAny _ _ (field (.ref z) 3 >>= _) _ _ _
 refine wpAny_bind (wpAny_field hz rfl (x:=.ref TI) rfl ?_)
 refine wpAny_bind (wpAny_seqItems hTI rfl ?_)
 show wpAny _ _ (Builtin.SmallTypes.ownedTupleIsFree (.ref z) >>= _) _ _ _
 refine wpAny_bind ?_
 unfold Builtin.SmallTypes.ownedTupleIsFree
 refine wpAny_bind (wpAny_field hz rfl (x:=f0) rfl ?_)
 rcases hf with rfl | ⟨T0,oT,rfl,hT0,n1,n2,n3,n4⟩
 ·refine wpAny_pure ?_
  simp only [if_true]
  refine wpAny_bind (wpAny_rule ?_)
  refine wpAny_bind (wpAny_field hz rfl (x:=.ref TO) rfl ?_)
  refine wpAny_bind (wpAny_setField_rec hz (by simp) fun k1 hz1 s1=>?_)
  refine wpAny_bind ?_
  simp only [List.zipIdx_cons,List.zipIdx_nil,List.forIn_cons,List.forIn_nil]
  refine wpAny_bind (wpAny_bind (wpAny_onRaise ?_))
  show wpAny _ _ (Builtin.SmallTypes.nextOf (.ref i1) >>= _) _ _ _
  refine wpAny_bind (nextT_end hh (h1.extBut s1.extBut D.i1z) (hl1.extBut s1.extBut D.l1z) hx fun k2 e s2 he=>?_)
  obtain ⟨oe,hoe,hce⟩:=he
  have hz2:=s2 _ _ D.i1z.symm hz1
  have hez:e≠z:=fun x=>by subst x;rw [hz2] at hoe;cases hoe;simp at hce
  exact wpAny_setField_rec hz2 (by simp) fun k3 _ s3=>q k3 e (fun c o c1 _ c3 _ x=>s3.extBut _ _ c1 (s2 _ _ c3 (s1.extBut _ _ c1 x))) ⟨oe,s3.extBut _ _ hez hoe,hce⟩
 ·refine wpAny_mono (Q:=fun bb s1=>bb=false∧∃ k1,s1={ s with heap:=k1 }∧(∀ c o,c≠z→s.heap.get? c=some o→k1.get? c=some o)) ?_ (fun bb s1 hb=>?_) (fun _ _ e=>e)
  ·show wpAny _ _ (loadIfAlive (Int.toNat T0) >>= _) _ _ _
   refine wpAny_bind (alive (o:=oT) (by rw [Int.toNat_natCast];exact hT0) ?_)
   show wpAny _ _ (field (.ref z) 1 >>= _) _ _ _
   refine wpAny_bind (wpAny_field hz rfl (x:=.bool f1) rfl ?_)
   cases f1 with
   | true =>
    rw [if_neg (by decide)]
    exact wpAny_bind (wpAny_pure (wpAny_pure ⟨rfl,s.heap,rfl,fun _ _ _ e=>e⟩))
   | false =>
    rw [if_pos (by decide)]
    exact wpAny_bind (wpAny_setField_rec hz (by simp) fun k1 y1 s1=>wpAny_pure ⟨rfl,k1,rfl,fun c o hc e=>s1.extBut _ _ hc e⟩)
  ·obtain ⟨rfl,k1,rfl,up1⟩:=hb
   rw [if_neg (by decide)]
   dsimp only
   rw [← Array.forIn_toList]
   simp only [List.forIn_cons,List.forIn_nil]
   refine wpAny_bind (wpAny_bind (wpAny_bind (wpAny_holding ?_)))
   show wpAny _ _ (Builtin.SmallTypes.nextOf (.ref i1) >>= _) _ _ _
   refine wpAny_bind (nextT_end (s:={ s with heap:=k1 }) hh (h1.at fun o e=>up1 _ o D.i1z e) (hl1.at fun o e=>up1 _ o D.l1z e) hx fun k2 e s2 he=>?_)
   exact q k2 e (fun c o c1 _ c3 _ x=>s2 _ _ c3 (up1 _ _ c1 x)) he
theorem next_item {z TI TO i1 i2 t l:Addr}{xs ys:Array Value}{i:Nat}{x y:Value}{Q:Option Value→Shared→Prop} (D:ZipApart z TI TO i1 i2 t l) (S:ZSt z TI TO i1 i2 t l xs ys i s.heap) (hx:xs[i]? = some x) (hy:ys[i]? = some y)
  (q:∀ h' T,ZSt z TI TO i1 i2 t l xs ys (i+1) h'→IsPair h' T x y→s.heap.objs.size≤T→(∀ c o,c≠z→c≠TO→c≠i1→c≠i2→s.heap.get? c=some o→h'.get? c=some o)→Q (some (.ref T)) { s with heap:=h' }) :
  wpAny (model prog w) A (pyNext (.ref z)) Q E s:=by
 obtain ⟨f0,f1,hz,_⟩:=S.zo
 have hT:s.TypeIs (.ref z) "zip":=⟨_,hz,rfl⟩
 unfold pyNext
 exact wpAny_bind (wpAny_attempt (wpAny_callSpecial?_slot (name:=Str.ofString "__next__") hT F.slot_zip_next (wpAny_call_entry F.slot_zip_next hT F.entry_zip_next
  (zip_item D S hx hy fun h' T a1 a2 a3 a4=>wpAny_pure (q h' T a1 a2 a3 a4)) (F.args_zip_next_1 _))))
theorem next_end {z TI TO i1 i2 t l:Addr}{xs ys:Array Value}{i:Nat}{Q:Option Value→Shared→Prop} (hh:A.handled=none) (D:ZipApart z TI TO i1 i2 t l) (S:ZSt z TI TO i1 i2 t l xs ys i s.heap) (hx:xs[i]? = none)
  (q:∀ h',(∀ c o,c≠z→c≠TO→c≠i1→c≠i2→s.heap.get? c=some o→h'.get? c=some o)→Q none { s with heap:=h' }):wpAny (model prog w) A (pyNext (.ref z)) Q E s:=by
 obtain ⟨f0,f1,hz,_⟩:=S.zo
 have hT:s.TypeIs (.ref z) "zip":=⟨_,hz,rfl⟩
 unfold pyNext
 refine wpAny_bind (wpAny_attempt (wpAny_callSpecial?_slot (name:=Str.ofString "__next__") hT F.slot_zip_next (wpAny_call_entry F.slot_zip_next hT F.entry_zip_next (zip_end hh D S hx fun h' e hk he=>?_) (F.args_zip_next_1 _))))
 obtain ⟨o,ho,hc⟩:=he
 refine wpAny_bind (wpAny_isInstance (T:="StopIteration") (b:=true) ⟨o,ho,hc⟩ isSubtype_stop ?_)
 exact wpAny_pure (q _ hk)
end
end DZ
set_option maxHeartbeats 4000000
namespace DZ
open PySem
theorem entry_zip_ga:entryFor table "zip.__getattribute__" = some Builtin.«object.__getattribute__» :=
 entryFor_alias (id':="object.__getattribute__") (by kernel_rfl) (by first | rfl | decide +kernel) (by decide +kernel) (by kernel_rfl)
theorem lk_zip_keys:typeLookup (.type "zip") "keys" = pure none:=by rw [typeLookup_type,builtinLookup_eq_fast];kernel_rfl
section
variable {prog:Program}{w:World}{A:Around}{E:Value→Shared→Prop}{h:Heap}{g:Array GenState}{d:Drawn}{t:Nat}{os:OsState}{z:Addr}{vs:Array Value}
theorem keys_entry {tk:Tok}{Q:Fin→Shared→Prop} (hh:A.handled=none) (hz:h.get? z=some { cls:=.type "zip",dict:=none,data:=.fields vs,slots:=#[] })
  (hE:∀ h' e t',(∀ c o,h.get? c=some o→h'.get? c=some o)→(∃ o,h'.get? e=some o∧o.cls=.type "AttributeError")→E (.ref e) ⟨h',g,d,t',os⟩) :
  wpAny (model prog w) A (Builtin.«object.__getattribute__» ⟨[.ref z,.str "keys" tk],[]⟩) Q E ⟨h,g,d,t,os⟩:=by
 have hT:(⟨h,g,d,t,os⟩:Shared).TypeIs (.ref z) "zip":=⟨_,hz,rfl⟩
 have f4:=lk_zip_keys
 repeat (any_goals (first | assumption | wp_step))
 refine wpAny_raiseAttrError hh (fun h' tk' e x=>?_) (attrMsg_fits (by decide +kernel) (by decide +kernel))
 obtain ⟨t',u',he⟩:=x.there
 exact hE h' e tk' (fun c o q=>x.keeps c o q) ⟨_,he,rfl⟩
theorem keys_call {tk:Tok}{R:Result→Shared→Prop} (hh:A.handled=none) (hz:h.get? z=some { cls:=.type "zip",dict:=none,data:=.fields vs,slots:=#[] })
  (hE:∀ h' e t',(∀ c o,h.get? c=some o→h'.get? c=some o)→(∃ o,h'.get? e=some o∧o.cls=.type "AttributeError")→R (.error (.ref e)) ⟨h',g,d,t',os⟩) :
  codeAny (model prog w) A (.call (.builtin "zip.__getattribute__") ⟨[.ref z,.str "keys" tk],[]⟩) R ⟨h,g,d,t,os⟩ :=
 codeAny_call_builtin F.slot_zip_getattribute.plain entry_zip_ga (F.slot_zip_getattribute.check _ _ _ _ _ _ _ _ (show (⟨h,g,d,t,os⟩:Shared).TypeIs (.ref z) "zip" from ⟨_,hz,rfl⟩) (F.args_zip_getattribute_2 _ _) (keys_entry hh hz hE))
theorem keys_by {tk:Tok}{Q:Value→Shared→Prop} (hh:A.handled=none) (hz:h.get? z=some { cls:=.type "zip",dict:=none,data:=.fields vs,slots:=#[] })
  (hE:∀ h' e t',(∀ c o,h.get? c=some o→h'.get? c=some o)→(∃ o,h'.get? e=some o∧o.cls=.type "AttributeError")→E (.ref e) ⟨h',g,d,t',os⟩) :
  wpAny (model prog w) A (getAttrBy (.ref z) (.str "keys" tk) false) Q E ⟨h,g,d,t,os⟩:=by
 have hT:(⟨h,g,d,t,os⟩:Shared).TypeIs (.ref z) "zip":=⟨_,hz,rfl⟩
 have f2:=F.slot_zip_getattribute.lookup
 have f3:=F.slot_zip_getattribute.bind (.ref z)
 have f1:=sub_AttributeError
 repeat (any_goals (first | assumption | wp_step))
 refine keys_call hh hz fun h' e t' k he=>?_
 obtain ⟨o,ho,hc⟩:=he
 have hTe:(⟨h',g,d,t',os⟩:Shared).TypeIs (.ref e) "AttributeError":=⟨o,ho,hc⟩
 have fin:=hE h' e t' k ⟨o,ho,hc⟩
 have f5:typeLookup (.type "zip") "__getattr__" = pure none:=by rw [typeLookup_type,builtinLookup_eq_fast];kernel_rfl
 show wpAny _ _ (getattributeRaised _ _ _ _ _ _ _) _ _ _
 unfold getattributeRaised
 repeat (any_goals (first | assumption | wp_step))
theorem keys_none {Q:Option Value→Shared→Prop} (hh:A.handled=none) (hz:h.get? z=some { cls:=.type "zip",dict:=none,data:=.fields vs,slots:=#[] })
  (hq:∀ h' t',(∀ c o,h.get? c=some o→h'.get? c=some o)→Q none ⟨h',g,d,t',os⟩) :
  wpAny (model prog w) A (getAttr? (.ref z) "keys") Q E ⟨h,g,d,t,os⟩:=by
 unfold getAttr? getAttrBy?
 have f1:=sub_AttributeError
 refine wpAny_bind (wpAny_mkText ?_)
 refine wpAny_bind (wpAny_attempt (keys_by hh hz fun h' e t' k he=>?_))
 obtain ⟨o,ho,hc⟩:=he
 refine wpAny_bind (wpAny_isInstance (T:="AttributeError") (b:=true) ⟨o,ho,hc⟩ f1 ?_)
 exact wpAny_pure (hq _ _ k)
end
theorem mro_dict:mroOf (.type "dict")=pure [.type "dict",.type "object"]:=by rw [mroOf_type];kernel_rfl
theorem lk_dict_new:typeLookup (.type "dict") "__new__" = pure (some (.builtin "dict.__new__")):=by rw [typeLookup_type,builtinLookup_eq_fast];kernel_rfl
theorem called_dict:TypeCalled "dict" "dict.__new__" "dict.__init__" :=
 ⟨by decide +kernel,by decide +kernel,⟨_,_,mro_dict⟩,madeBy_type mro_dict lk_dict_new (by decide +kernel),by decide +kernel,by rw [isSubtype_type];kernel_rfl,F.slot_dict_init⟩
theorem typeCall_dict_1 (a:Value):checkTypeCall "dict" ⟨[a],[]⟩=pure ():=by kernel_rfl
theorem newCall_dict_1 (a:Value):checkBuiltinCall "dict.__new__" ⟨[.type "dict",a],[]⟩=pure ():=by kernel_rfl
theorem entry_dict_new:entryFor table "dict.__new__" = some Builtin.«dict.__new__»:=entryFor_of_tree (by kernel_rfl)
theorem entry_dict_loop:entryFor table "dict.update.loop" = some Builtin.«dict.update.loop»:=entryFor_of_tree (by kernel_rfl)
theorem plain_dict_new:plainId "dict.__new__" = true:=by decide +kernel
theorem plain_dict_loop:plainId "dict.update.loop" = true:=by decide +kernel
theorem sub_dict_self:isSubtype (.type "dict") (.type "dict")=pure true:=by rw [isSubtype_type];kernel_rfl
section
variable {prog:Program}{w:World}{A:Around}{E:Value→Shared→Prop}{s:Shared}
theorem dict_new (a:Value) {Q:Value→Shared→Prop} (h:Q (.ref s.heap.objs.size) { s with heap:=s.heap.push { cls:=.type "dict",data:=.dict #[] } }) :
  codeAny (model prog w) A (.call (.builtin "dict.__new__") ⟨[.type "dict",a],[]⟩) (wants Q E) s:=by
 refine codeAny_of_tree ?_
 show wpAny _ A.in1 (do checkBuiltinCall "dict.__new__" ⟨[.type "dict",a],[]⟩;again (.builtin "dict.__new__" ⟨[.type "dict",a],[]⟩)) _ _ s
 refine wpAny_bind (wpAny_of_eq (newCall_dict_1 a) (wpAny_pure ⟨plainId_quiet plain_dict_new _,codeAny_builtin entry_dict_new ?_⟩))
 rw [Around.under_plainId plain_dict_new _]
 have hsub:=sub_dict_self
 have hm:=mro_dict
 obtain ⟨hp,g,d,tk,os⟩:=s
 wp_walk
 exact h
end
end DZ
set_option maxHeartbeats 4000000
namespace DZ
open PySem
section
variable {prog:Program}{w:World}{A:Around}{E:Value→Shared→Prop}{s:Shared}
theorem iter_zip {z:Addr}{vs:Array Value}{Q:Value→Shared→Prop} (hz:s.heap.get? z=some { cls:=.type "zip",dict:=none,data:=.fields vs,slots:=#[] }) (h:Q (.ref z) s):wpAny (model prog w) A (pyIter (.ref z)) Q E s:=by
 have hT:s.TypeIs (.ref z) "zip":=⟨_,hz,rfl⟩
 refine wpAny_pyIter_slot hT F.slot_zip_iter (wpAny_call_entry F.slot_zip_iter hT F.entry_zip_iter ?_ (F.args_zip_iter_1 _))
 show wpAny _ _ (ret (.ref z)) _ _ s
 exact wpAny_pure ⟨_,rfl,"zip",_,hT,F.slot_zip_next.lookup,h⟩
theorem len_stored {κ:Type} [DecidableEq κ] (kvs:List (κ × Value)) (k:κ) (v:Value):(stored kvs k v).length≤kvs.length+1:=by
 unfold stored
 split
 ·rw [List.length_map];exact Nat.le_succ _
 ·rw [List.length_append];exact Nat.le_refl _
theorem ZSt.write {z TI TO i1 i2 t l d:Addr}{xs ys:Array Value}{i:Nat}{h h':Heap} (S:ZSt z TI TO i1 i2 t l xs ys i h) (k:∀ c o,c≠d→h.get? c=some o→h'.get? c=some o) (hd:∃ o,h'.get? d=some o)
  (n1:z≠d) (n2:TI≠d) (n3:TO≠d) (n4:i1≠d) (n5:i2≠d) (n6:t≠d) (n7:l≠d):ZSt z TI TO i1 i2 t l xs ys i h':=by
 obtain ⟨⟨f0,f1,hz,hf⟩,hTI,⟨a,b,hTO⟩,h1,h2,hl1,hl2⟩:=S
 refine ⟨⟨f0,f1,k _ _ n1 hz,?_⟩,k _ _ n2 hTI,⟨a,b,k _ _ n3 hTO⟩,h1.at fun o e=>k _ o n4 e,h2.at fun o e=>k _ o n5 e,hl1.at fun o e=>k _ o n6 e,hl2.at fun o e=>k _ o n7 e⟩
 rcases hf with rfl | ⟨T,o,rfl,hT,m⟩
 ·exact .inl rfl
 ·by_cases e:T=d
  ·subst e
   obtain ⟨o',ho'⟩:=hd
   exact .inr ⟨T,o',rfl,ho',m⟩
  ·exact .inr ⟨T,o,rfl,k _ _ e hT,m⟩
variable {κ:Type} [DecidableEq κ] {knd:KeyKind prog w κ}
theorem dict_loop {z TI TO i1 i2 t l d:Addr}{xs ys:Array Value}{ks:List κ}{R:Result→Shared→Prop} (D:ZipApart z TI TO i1 i2 t l) (hh:A.handled=none)
  (n1:z≠d) (n2:TI≠d) (n3:TO≠d) (n4:i1≠d) (n5:i2≠d) (n6:t≠d) (n7:l≠d) (hk:ks.length=xs.size) (hy:ys.size=xs.size) (hks:∀ (j:Nat) k x,ks[j]? = some k→xs[j]? = some x→knd.is k x=true) (hz:xs.size≤1000) :
  ∀ (m i:Nat) (s:Shared) (kvs:List (κ × Value)),i+m=xs.size→kvs.length≤i→ZSt z TI TO i1 i2 t l xs ys i s.heap→s.heap.DictOf knd d kvs →
   (∀ h' t',h'.DictOf knd d (((ks.drop i).zip (ys.toList.drop i)).foldl (fun e p=>stored e p.1 p.2) kvs)→(∀ c o,c≠d→c≠z→c≠TO→c≠i1→c≠i2→s.heap.get? c=some o→h'.get? c=some o)→R (.ok (.ret .none)) { s with heap:=h',toks:=t' }) →
   codeAny (model prog w) A (.builtin "dict.update.loop" ⟨[.ref d,.ref z,rawInt i,.none],[]⟩) R s
 | 0,i,s,kvs,hm,hl,S,hd,hR=>by
  refine codeAny_builtin entry_dict_loop ?_
  rw [Around.under_plainId plain_dict_loop _]
  unfold Builtin.«dict.update.loop»
  have hx:xs[i]? = none:=Array.getElem?_eq_none (by omega)
  refine wpAny_bind (next_end hh D S hx fun h' k=>?_)
  have e1:ks.drop i=[]:=List.drop_eq_nil_of_le (by omega)
  rw [e1] at hR
  have hd':h'.DictOf knd d kvs:=by
   obtain ⟨o,es,ep,ho,r⟩:=hd
   exact ⟨o,es,ep,k _ _ n1.symm n3.symm n4.symm n5.symm ho,r⟩
  exact wpAny_bind (wpAny_pure (wpAny_pure (hR h' s.toks hd' fun c o c0 c1 c2 c3 c4 e=>k c o c1 c2 c3 c4 e)))
 | m+1,i,s,kvs,hm,hl,S,hd,hR=>by
  refine codeAny_builtin entry_dict_loop ?_
  rw [Around.under_plainId plain_dict_loop _]
  unfold Builtin.«dict.update.loop»
  have hi:i<xs.size:=by omega
  have hx:xs[i]? = some xs[i]:=Array.getElem?_eq_getElem hi
  have hy':ys[i]? = some (ys[i]'(by omega)):=Array.getElem?_eq_getElem (by omega)
  have hki:ks[i]? = some (ks[i]'(by omega)):=List.getElem?_eq_getElem (by omega)
  refine wpAny_bind (next_item D S hx hy' fun h1 T S1 hp hT k1=>?_)
  refine wpAny_bind (wpAny_holding ?_)
  have hd1:h1.DictOf knd d kvs:=by
   obtain ⟨o,es,ep,ho,r⟩:=hd
   exact ⟨o,es,ep,k1 _ _ n1.symm n3.symm n4.symm n5.symm ho,r⟩
  refine wpAny_bind (wpAny_tryCatch ?_)
  unfold Builtin.Dict.pairItems
  refine wpAny_bind (wpAny_typeOf (T:="tuple") ⟨_,hp,rfl⟩ ?_)
  rw [if_pos (by decide)]
  refine wpAny_bind (wpAny_seqItems hp rfl (wpAny_pure ?_))
  refine wpAny_holding (wpAny_dictSet_pairs (knd:=knd) (s:={ s with heap:=h1 }) (hks i _ _ hki hx) hd1 (fun h2 d2 sb=>?_) (Nat.le_trans hl (Nat.le_trans (by omega) (show 1000≤sizeLine by decide))))
  have ex2:∃ o,h2.get? d=some o:=let ⟨o,_,_,ho,_⟩:=d2;⟨o,ho⟩
  have S2:=S1.write (d:=d) (fun c o hc e=>(sb.2 c hc).trans e) ex2 n1 n2 n3 n4 n5 n6 n7
  refine wpAny_pure ⟨plainId_quiet plain_dict_loop _,?_⟩
  have e1:ks.drop i=ks[i]'(by omega) :: ks.drop (i+1):=List.drop_eq_getElem_cons (by omega)
  have e2:ys.toList.drop i=ys[i]'(by omega) :: ys.toList.drop (i+1):=by
   rw [List.drop_eq_getElem_cons (by simp;omega)]
   simp
  refine dict_loop D hh n1 n2 n3 n4 n5 n6 n7 hk hy hks hz m (i+1) _ _ (by omega) ?_ S2 d2 ?_
  ·have:=len_stored kvs (ks[i]'(by omega)) (ys[i]'(by omega))
   omega
  ·intro h' t' d' k'
   rw [e1,e2] at hR
   exact hR h' t' d' fun c o c0 c1 c2 c3 c4 e=>k' c o c0 c1 c2 c3 c4 ((sb.2 c c0).trans (k1 c o c1 c2 c3 c4 e))
theorem call_dict {z TI TO i1 i2 t l:Addr}{xs ys:Array Value}{ks:List κ}{Q:Value→Shared→Prop} (D:ZipApart z TI TO i1 i2 t l) (hh:A.handled=none) (S:ZSt z TI TO i1 i2 t l xs ys 0 s.heap)
  (hk:ks.length=xs.size) (hy:ys.size=xs.size) (hks:∀ (j:Nat) k x,ks[j]? = some k→xs[j]? = some x→knd.is k x=true) (hz:xs.size≤1000)
  (q:∀ h' t',h'.DictOf knd s.heap.objs.size ((ks.zip ys.toList).foldl (fun e p=>stored e p.1 p.2) [])→(∀ c o,c≠z→c≠TO→c≠i1→c≠i2→s.heap.get? c=some o→h'.get? c=some o)→Q (.ref s.heap.objs.size) { s with heap:=h',toks:=t' }) :
  wpAny (model prog w) A (call (.type "dict") [.ref z]) Q E s:=by
 refine callType_codes (Q₁:=fun v s1=>v=.ref s.heap.objs.size∧s1={ s with heap:=s.heap.push { cls:=.type "dict",data:=.dict #[] } }) called_dict (typeCall_dict_1 _) F.entry_dict_init (dict_new _ ⟨rfl,rfl⟩) ?_
 rintro obj s1 ⟨rfl,rfl⟩
 refine ⟨⟨_,Heap.get?_push_size _ rfl,rfl⟩,F.args_dict_init_2 _ _,?_⟩
 obtain ⟨f0,f1,hz0,_⟩:=S.zo
 obtain ⟨hp,g,d0,tk,os⟩:=s
 dsimp only at *
 have hz':=Heap.get?_push_of_some { cls:=.type "dict",data:=.dict #[] } hz0
 have hTd:(⟨hp.push { cls:=.type "dict",data:=.dict #[] },g,d0,tk,os⟩:Shared).TypeIs (.ref hp.objs.size) "dict":=⟨_,Heap.get?_push_size _ rfl,rfl⟩
 have hTz:(⟨hp.push { cls:=.type "dict",data:=.dict #[] },g,d0,tk,os⟩:Shared).TypeIs (.ref z) "zip":=⟨_,hz',rfl⟩
 have hsub:=sub_dict_self
 unfold Builtin.«dict.__init__»
 repeat (any_goals (first | assumption | (with_reducible refine keys_none hh hz' fun h' t' k=>?_) | (with_reducible refine iter_zip (k _ _ hz') ?_) | wp_step))
 have lt:∀ {c:Addr}{o:Obj},hp.get? c=some o→c≠hp.objs.size:=fun e=>Nat.ne_of_lt (Heap.lt_size e)
 have up:∀ c o,hp.get? c=some o→h'.get? c=some o:=fun c o e=>k c o (Heap.get?_push_of_some _ e)
 obtain ⟨S1,S2,⟨Sa,Sb,S3⟩,S4,S5,S6,S7⟩:=id S
 refine ⟨plainId_quiet plain_dict_loop _,dict_loop (A:=A.in1) (knd:=knd) (ks:=ks) D (show A.in1.handled=none from hh) (lt hz0) (lt S2) (lt S3) (by obtain ⟨_,e,_⟩:=S4;exact lt e) (by obtain ⟨_,e,_⟩:=S5;exact lt e) (by obtain ⟨_,e,_⟩:=S6;exact lt e) (by obtain ⟨_,e,_⟩:=S7;exact lt e) hk hy hks hz xs.size 0 _ [] (by omega) (by simp) ?_ ?_ ?_⟩
 ·exact S.write (d:=hp.objs.size) (fun c o hc e=>up c o e) ⟨_,k _ _ (Heap.get?_push_size _ rfl)⟩ (lt hz0) (lt S2) (lt S3) (by obtain ⟨_,e,_⟩:=S4;exact lt e) (by obtain ⟨_,e,_⟩:=S5;exact lt e) (by obtain ⟨_,e,_⟩:=S6;exact lt e) (by obtain ⟨_,e,_⟩:=S7;exact lt e)
 ·obtain ⟨o,es,ep,ho,r⟩:=Heap.DictOf.new (knd:=knd) hp
  exact ⟨o,es,ep,k _ _ ho,r⟩
 ·intro h2 t2 d2 k2
  refine ⟨rfl,q h2 t2 ?_ fun c o c1 c2 c3 c4 e=>k2 c o (lt e) c1 c2 c3 c4 (up c o e)⟩
  simpa using d2
end
end DZ
set_option maxHeartbeats 4000000
namespace L2
open PySem PySem.Spec PyProof.Rows
section
variable {X:Cx}{pins:List (Addr × Obj)}{σ:St}{H:Hp}{s:Shared}{h':Heap}
theorem Inv.dz {t':Nat}{ch:List Addr}{d:Addr}{ob:HO} (I:Inv X pins σ H s) (hch:∀ b∈ch,FpOk X pins H b) (hd:s.heap.objs.size≤d) (k:∀ b o,b ∉ ch→s.heap.get? b=some o→h'.get? b=some o)
  (new:ObjOk X.prog X.w (upd H d ob) h' d ob):Inv X pins σ (upd H d ob) { s with heap:=h',toks:=t' }:=by
 have hn:H d=none:=I.hok.fresh hd
 have old:∀ {b o},s.heap.get? b=some o→b≠d:=fun e=>Nat.ne_of_lt (Nat.lt_of_lt_of_le (Heap.lt_size e) hd)
 have nch:∀ b u,H b=some u→b ∉ ch:=fun b u e z=>by rw [(hch b z).1] at e;cases e
 refine I.step (g':=s.gens) (d':=s.drawn) (ch:=ch) (fun b hb=>?_) (fun b o _ _ hc e _=>k b o hc e) (fun b o _ _ hc e _=>⟨o.slots,k b o hc e⟩) (fun b o _ e n=>by rw [upd_ne (old e)];exact n)
  (fun b o hc e=>⟨o,k b o hc e⟩) (fun b xs e=>by rw [upd_ne (ne_of_none e hn)];exact e) (fun b o u e=>by rw [upd_ne (ne_of_none e hn)];exact e) (fun b ps e=>⟨#[],by rw [upd_ne (ne_of_none e hn),e];simp⟩) (fun m hm=>?_) (fun b u e=>?_) I.bare
 ·obtain ⟨f0,f1,f2,f3,f4,f5⟩:=hch b hb
  exact ⟨f3,f1,f4,f5⟩
 ·obtain ⟨o,es,ep,ho,r⟩:=hm
  exact ⟨o,es,ep,k _ o (fun z=>(hch _ z).2.1 rfl) ho,r⟩
 ·by_cases hb:b=d
  ·subst hb
   rw [upd_same] at e
   cases e
   exact new
  ·rw [upd_ne hb] at e
   refine (I.hok b u e).stay (fun c v hc q=>k c v ?_ q) (fun c q=>by rw [upd_ne (ne_of_none q hn)];exact q) fun c xs q=>by rw [upd_ne (ne_of_none q hn)];exact q
   rcases hc with z | z
   ·rw [z];exact nch b u e
   ·exact nch c _ z
end
def cDictZip (K:PySem.W.Frag) (t:TA):TE:=fun σ H Q=>t σ H fun vs H1=>match vs with
 | [.ref a,.ref b]=>∃ (ns:List Str) (ys:List V),SqT K H1 a (ns.map V.str)∧SqL K H1 b ys∧ns.length=ys.length∧ns.length≤1000∧∀ p H',New H1 p (.dK (mergeK [] ((ns.map Sum.inr).zip ys))) H'→Q (.ref p) H'
 | _=>False
theorem foldKV:∀ {ns:List Str}{ys:List V}{us:List Value}{kvs:List (Key × V)}{ws:List (Key × Value)},Vals ys us→KV kvs ws →
  KV (((ns.map (Sum.inr:Str→Key)).zip ys).foldl (fun acc kv=>putK acc kv.1 kv.2) kvs) (((ns.map (Sum.inr:Str→Key)).zip us).foldl (fun e p=>stored e p.1 p.2) ws)
 | [],_,_,_,_,_,q=>q
 | n :: ns,_,_,kvs,ws,.nil,q=>q
 | n :: ns,_,_,kvs,ws,.cons r t,q=>foldKV (ns:=ns) t (q.put (Sum.inr n) r)
theorem e_dictzip {X:Cx}{ea eb:Expr}{t:TA}{p1 p2 p3 p4:Pos} (hc:X.calm=true) (hg1:Gl X "dict") (hg2:Gl X "zip") (hm1:X.mg "dict" = none) (hm2:X.mg "zip" = none) (ha:PA X [ea,eb] t)
  (he:starEach [ea,eb] X.env=(false,eval ea X.env) :: starEach [eb] X.env:=by rfl) (hpl:(backTo p3 (starEach [eb] X.env)).any (·.1)=false:=by rfl)
  (he2:starEach [Expr.Call (.Name "zip" p2) [ea,eb] [] p3] X.env=(false,eval (Expr.Call (.Name "zip" p2) [ea,eb] [] p3) X.env) :: starEach [] X.env:=by rfl) (hpl2:(backTo p4 (starEach [] X.env)).any (·.1)=false:=by rfl) :
  PE X (.Call (.Name "dict" p1) [.Call (.Name "zip" p2) [ea,eb] [] p3] [] p4) (cDictZip X.K t):=by
 intro pins s σ H Q I h
 refine wpAny_Call_Name_kw (ld_blt I hg1 hm1 PyProof.Rows.boot_dict ?_ (by decide) (by decide))
 refine PyProof.Rows.callWith_type1 ?_ he2 hpl2
 rw [he2]
 show wpAny _ _ (spliced ((false,eval (Expr.Call (.Name "zip" p2) [ea,eb] [] p3) X.env) :: backTo p4 (starEach [] X.env))) _ _ s
 refine Calls.spliced_cons ?_
 refine wpAny_Call_Name_kw (ld_blt I hg2 hm2 PyProof.Rows.boot_zip ?_ (by decide) (by decide))
 refine PyProof.Rows.callWith_type1 (thn (ha p3 pins s σ H _ I h) fun us s1 ⟨vs,H1,I1,r1,q1⟩=>?_) he hpl
 match vs,q1 with
 | [.ref a,.ref b],q1 =>
  obtain ⟨ns,ys,hT,hL,hl,hz,q⟩:=q1
  obtain ⟨u1,u2,rfl,e1,e2⟩:=vals2 r1
  cases e1;cases e2
  obtain ⟨its,rv,pt,_⟩:=I1.tuple hT
  obtain ⟨its2,rv2,pl⟩:=isListOf I1 hL
  have hl1:=rv.length
  have hl2:=rv2.length
  rw [List.length_map] at hl1
  refine DZ.call_zip pt pl fun h1 z TI TO i1 i2 S D g1 g2 g3 g4 g5 up=>?_
  refine Calls.spliced_nil ?_
  have I2:Inv X pins σ H1 { s1 with heap:=h1 }:=I1.kept (t':=s1.toks) up
  have fp:∀ b∈[z,TO,i1,i2],FpOk X pins H1 b:=fun b hb=>by
   have hge:s1.heap.objs.size≤b:=by
    simp only [List.mem_cons,List.not_mem_nil,or_false] at hb
    rcases hb with rfl | rfl | rfl | rfl
    ·exact g1
    ·exact g3
    ·exact g4
    ·exact g5
   exact I1.fpOk hge (I1.hok.fresh hge)
  refine DZ.call_dict (knd:=mixKind X.prog X.w) (ks:=ns.map Sum.inr) D (I.ok.hd hc) S (by rw [List.length_map,List.size_toArray];exact hl1) (by rw [List.size_toArray,List.size_toArray];omega) ?_ (by rw [List.size_toArray];omega) fun h2 t2 dd k2=>?_
  ·intro j k x hk hx
   rw [List.getElem?_map] at hk
   obtain ⟨n,hn,rfl⟩:=Option.map_eq_some_iff.mp hk
   obtain ⟨u,hu,ru⟩:=rv.get (i:=j) (x:=.str n) (by rw [List.getElem?_map,hn];rfl)
   have hx':its[j]? = some x:=by simpa using hx
   rw [hu] at hx'
   cases hx'
   exact kV_is (k:=Sum.inr n) ru
  ·have hd:s1.heap.objs.size≤h1.objs.size:=Nat.le_trans g1 (Nat.le_of_lt (by obtain ⟨_,_,e,_⟩:=S.zo;exact Heap.lt_size e))
   have hfree:H1 h1.objs.size=none:=I1.hok.fresh hd
   have rel:KV (mergeK [] ((ns.map Sum.inr).zip ys)) (((ns.map Sum.inr).zip its2).foldl (fun e p=>stored e p.1 p.2) []):=foldKV rv2 .nil
   have hlen:(mergeK [] ((ns.map (Sum.inr:Str→Key)).zip ys)).length≤sizeLine:=by
    have h1:=length_mergeK ((ns.map (Sum.inr:Str→Key)).zip ys) []
    rw [List.length_nil,List.length_zip,List.length_map] at h1
    rw [sizeLine_eq];omega
   have hsm:((h1.objs.size:Addr) == sysModules)=false:=beq_eq_false_iff_ne.mpr (Ne.symm (Nat.ne_of_lt I2.big))
   refine ⟨.ref h1.objs.size,upd H1 h1.objs.size (.dK (mergeK [] ((ns.map Sum.inr).zip ys))),?_,rfl,q _ _ ⟨hfree,rfl⟩⟩
   refine I2.dz (ch:=[z,TO,i1,i2]) (h':=h2) (t':=t2) (fun b hb=>fp b hb) (Nat.le_refl _) (fun b o hb e=>k2 b o (fun x=>hb (by simp [x])) (fun x=>hb (by simp [x])) (fun x=>hb (by simp [x])) (fun x=>hb (by simp [x])) e) ?_
   exact dk_new hlen hsm rel (by simpa using dd)
end L2
namespace NM
def okc (c:Nat):Prop:=97≤c∧c≤122
structure Nm (w:List Nat):Prop where
 pos:1≤w.length
 le:w.length≤8
 ok:∀ c∈w,okc c
def nx (p:List Nat) (c k:Nat):List Nat:=p ++ (c+1) :: List.replicate k 97
inductive Nx:List Nat→List Nat→Prop where
 | at (p:List Nat) (c k:Nat):c≠122→Nx (p ++ c :: List.replicate k 122) (nx p c k)
 | all (n:Nat):Nx (List.replicate n 122) (List.replicate (n % 8+1) 97)
inductive Nxs:Nat→List Nat→List Nat→Prop where
 | zero (w:List Nat):Nxs 0 w w
 | succ {k:Nat}{u v w:List Nat}:Nx u v→Nxs k v w→Nxs (k+1) u w
end NM
namespace ME
section
variable {κ:Type} [DecidableEq κ] {α β:Type}
def vS (e:List (κ × α)) (k:κ):Option α:=(e.find? fun p=>decide (p.1=k)).map (·.2)
def pS (e:List (κ × α)) (k:κ) (v:α):List (κ × α) :=
 if (e.any fun p=>decide (p.1=k))=true then e.map (fun p=>if p.1=k then (p.1,v) else p) else e ++ [(k,v)]
theorem vS_pos {p:κ × α}{r:List (κ × α)}{k:κ} (e:p.1=k):vS (p :: r) k=some p.2:=by simp [vS,List.find?_cons,e]
theorem vS_neg {p:κ × α}{r:List (κ × α)}{k:κ} (e:¬ p.1=k):vS (p :: r) k=vS r k:=by simp [vS,List.find?_cons,e]
theorem vS_any (k:κ):∀ e:List (κ × α),(e.any fun p=>decide (p.1=k))=(vS e k).isSome
 | []=>rfl
 | p :: r=>by
  rw [List.any_cons]
  by_cases e:p.1=k
  ·rw [vS_pos e];simp [e]
  ·rw [vS_neg e,decide_eq_false e,Bool.false_or,vS_any k r]
theorem vS_set (k j:κ) (y:α):∀ e:List (κ × α),vS (e.map fun p=>if p.1=k then (p.1,y) else p) j=(vS e j).map fun x=>if j=k then y else x
 | []=>rfl
 | p :: r=>by
  have ih:=vS_set k j y r
  rw [List.map_cons]
  by_cases h:p.1=k
  ·rw [if_pos h]
   by_cases e:p.1=j
   ·rw [vS_pos (p:=(p.1,y)) e,vS_pos e];simp [e.symm.trans h]
   ·rw [vS_neg (p:=(p.1,y)) e,vS_neg e,ih]
  ·rw [if_neg h]
   by_cases e:p.1=j
   ·rw [vS_pos e,vS_pos e];simp [show ¬ j=k from fun z=>h (e.trans z)]
   ·rw [vS_neg e,vS_neg e,ih]
theorem vS_end (k j:κ) (y:α):∀ e:List (κ × α),vS e k=none→vS (e ++ [(k,y)]) j=if j=k then some y else vS e j
 | [],_=>by
  by_cases e:k=j
  ·rw [if_pos e.symm];exact vS_pos (p:=(k,y)) e
  ·rw [if_neg (fun z=>e z.symm)];exact vS_neg (p:=(k,y)) e
 | p :: r,hn=>by
  rw [List.cons_append]
  have hk:¬ p.1=k:=fun z=>by rw [vS_pos z] at hn;cases hn
  rw [vS_neg hk] at hn
  have ih:=vS_end k j y r hn
  by_cases e:p.1=j
  ·rw [vS_pos e,vS_pos e,if_neg (fun z=>hk (e.trans z))]
  ·rw [vS_neg e,vS_neg e,ih]
theorem vS_pS (e:List (κ × α)) (k j:κ) (y:α):vS (pS e k y) j=if j=k then some y else vS e j:=by
 unfold pS
 cases a:(e.any fun p=>decide (p.1=k))
 ·rw [if_neg (by simp)]
  refine vS_end k j y e ?_
  rw [vS_any] at a
  cases q:vS e k with
  | none=>rfl
  | some x=>rw [q] at a;cases a
 ·rw [if_pos rfl,vS_set]
  rw [vS_any] at a
  by_cases h:j=k
  ·obtain ⟨x,hx⟩:=Option.isSome_iff_exists.mp a
   rw [if_pos h,h,hx];simp
  ·rw [if_neg h]
   cases vS e j with
   | none=>rfl
   | some x=>simp [h]
def m2 (f:α→β) (e:List (κ × α)):List (κ × β):=e.map fun p=>(p.1,f p.2)
theorem vS_m2 (f:α→β) (k:κ):∀ e:List (κ × α),vS (m2 f e) k=(vS e k).map f
 | []=>rfl
 | p :: r=>by
  have ih:=vS_m2 f k r
  unfold m2 at ih ⊢
  rw [List.map_cons]
  by_cases h:p.1=k
  ·rw [vS_pos (p:=(p.1,f p.2)) h,vS_pos h];rfl
  ·rw [vS_neg (p:=(p.1,f p.2)) h,vS_neg h,ih]
theorem pS_m2 (f:α→β) (e:List (κ × α)) (k:κ) (v:α):pS (m2 f e) k (f v)=m2 f (pS e k v):=by
 unfold pS
 have ha:((m2 f e).any fun p=>decide (p.1=k))=e.any fun p=>decide (p.1=k):=by
  rw [vS_any,vS_any,vS_m2]
  cases vS e k <;> rfl
 rw [ha]
 split
 ·unfold m2
  rw [List.map_map,List.map_map]
  refine List.map_congr_left fun p _=>?_
  simp only [Function.comp]
  split <;> rfl
 ·simp [m2]
theorem pS_len (e:List (κ × α)) (k:κ) (v:α):(pS e k v).length≤e.length+1:=by
 unfold pS
 split
 ·rw [List.length_map];omega
 ·simp
abbrev Gt (κ:Type):=κ × κ × List κ
def startS (ins:List κ) (vs:List α):List (κ × α):=(ins.zip vs).foldl (fun e p=>pS e p.1 p.2) []
def step (F:κ→List α→α) (d:α) (e:List (κ × α)) (g:Gt κ):List (κ × α):=pS e g.1 (F g.2.1 (g.2.2.map fun p=>(vS e p).getD d))
def carry (F:κ→List α→α) (d:α) (e:List (κ × α)) (gs:List (Gt κ)):List (κ × α):=gs.foldl (step F d) e
def outsOf (d:α) (e:List (κ × α)) (os:List κ):List α:=os.map fun o=>(vS e o).getD d
def WG (A:κ→Nat→Prop) (known:List κ):List (Gt κ)→Prop
 | []=>True
 | g :: r=>(∀ p∈g.2.2,p∈known)∧A g.2.1 g.2.2.length∧g.2.2.length≤6∧WG A (known ++ [g.1]) r
def Kn (e:List (κ × α)) (known:List κ):Prop:=∀ n∈known,∃ v,vS e n=some v
theorem Kn.put {e:List (κ × α)}{known:List κ} (h:Kn e known) (k:κ) (v:α):Kn (pS e k v) (known ++ [k]):=fun n hn=>by
 rw [vS_pS]
 by_cases e1:n=k
 ·rw [if_pos e1];exact ⟨v,rfl⟩
 ·rw [if_neg e1]
  rcases List.mem_append.mp hn with q | q
  ·exact h n q
  ·exact absurd (List.mem_singleton.mp q) e1
theorem WG_snoc {A:κ→Nat→Prop} (g:Gt κ):∀ (gs:List (Gt κ)) (known:List κ),WG A known gs→(∀ p∈g.2.2,p∈known ++ gs.map (·.1))→A g.2.1 g.2.2.length→g.2.2.length≤6→WG A known (gs ++ [g])
 | [],known,_,h1,h2,h3=>⟨by simpa using h1,h2,h3,True.intro⟩
 | x :: gs,known,⟨a,b,c,d⟩,h1,h2,h3=>⟨a,b,c,WG_snoc g gs _ d (by simpa using h1) h2 h3⟩
theorem WG.at {A:κ→Nat→Prop}:∀ {gs:List (Gt κ)}{known:List κ}{i:Nat}{g:Gt κ},WG A known gs→gs[i]? = some g →
  (∀ p∈g.2.2,p∈known ++ (gs.take i).map (·.1))∧A g.2.1 g.2.2.length∧g.2.2.length≤6
 | [],_,_,_,_,h=>by simp at h
 | x :: gs,known,0,g,⟨a,b,c,d⟩,h=>by
  simp at h;subst h
  exact ⟨by simpa using a,b,c⟩
 | x :: gs,known,i+1,g,⟨a,b,c,d⟩,h=>by
  have:=WG.at (i:=i) (g:=g) d (by simpa using h)
  simpa using this
theorem carry_kn {A:κ→Nat→Prop} (F:κ→List α→α) (d:α):∀ (gs:List (Gt κ)) (e:List (κ × α)) (known:List κ),Kn e known→Kn (carry F d e gs) (known ++ gs.map (·.1))
 | [],e,known,h=>by simpa [carry] using h
 | g :: gs,e,known,h=>by
  have:=carry_kn (A:=A) F d gs (step F d e g) (known ++ [g.1]) (h.put _ _)
  simpa [carry] using this
theorem fold_kn:∀ (ps:List (κ × α)) (e:List (κ × α)) (known:List κ),Kn e known→Kn (ps.foldl (fun e p=>pS e p.1 p.2) e) (known ++ ps.map (·.1))
 | [],e,known,h=>by simpa using h
 | p :: ps,e,known,h=>by
  have:=fold_kn ps (pS e p.1 p.2) (known ++ [p.1]) (h.put _ _)
  simpa using this
theorem start_kn (ins:List κ) (vs:List α) (hl:ins.length=vs.length):Kn (startS ins vs) ins:=by
 have:=fold_kn (ins.zip vs) [] [] (fun n h=>nomatch h)
 rw [List.nil_append] at this
 have e:(ins.zip vs).map (·.1)=ins:=by
  rw [List.map_fst_zip];omega
 rw [e] at this
 exact this
theorem start_m2 (f:α→β) (ins:List κ) (vs:List α):startS ins (vs.map f)=m2 f (startS ins vs):=by
 have go:∀ (ps:List (κ × α)) (e:List (κ × α)),(ps.map fun p=>(p.1,f p.2)).foldl (fun e p=>pS e p.1 p.2) (m2 f e)=m2 f (ps.foldl (fun e p=>pS e p.1 p.2) e):=by
  intro ps
  induction ps with
  | nil=>intro e;rfl
  | cons p ps ih =>
   intro e
   rw [List.map_cons,List.foldl_cons,List.foldl_cons,pS_m2,ih]
 have:=go (ins.zip vs) []
 unfold startS
 rw [← this]
 congr 1
 clear this go
 induction ins generalizing vs with
 | nil=>rfl
 | cons i ins ih =>
  cases vs with
  | nil=>rfl
  | cons v vs=>rw [List.map_cons,List.zip_cons_cons,List.zip_cons_cons,List.map_cons,ih]
theorem carry_m2 {A:κ→Nat→Prop} (f:α→β) (F:κ→List α→α) (G:κ→List β→β) (d:α) (hF:∀ w cs,A w cs.length→G w (cs.map f)=f (F w cs)) :
  ∀ (gs:List (Gt κ)) (e:List (κ × α)) (known:List κ),WG A known gs→carry G (f d) (m2 f e) gs=m2 f (carry F d e gs)
 | [],e,known,h=>rfl
 | g :: gs,e,known,⟨h1,h2,h3,h4⟩=>by
  show carry G (f d) (step G (f d) (m2 f e) g) gs=m2 f (carry F d (step F d e g) gs)
  rw [← carry_m2 f F G d hF gs (step F d e g) _ h4]
  congr 1
  unfold step
  rw [← pS_m2]
  congr 1
  rw [← hF _ _ (by rw [List.length_map];exact h2),List.map_map]
  congr 1
  refine List.map_congr_left fun p _=>?_
  simp only [Function.comp,vS_m2]
  cases vS e p <;> rfl
theorem outs_m2 (f:α→β) (d:α) (e:List (κ × α)) (os:List κ):outsOf (f d) (m2 f e) os=(outsOf d e os).map f:=by
 unfold outsOf
 rw [List.map_map]
 refine List.map_congr_left fun o _=>?_
 simp only [Function.comp,vS_m2]
 cases vS e o <;> rfl
end
end ME
namespace MC
def inC:Nat→List Nat × Nat × Nat
 | 0=>([],1,1)
 | n+1=>((inC n).1.map (fun c=>c ||| (c * 2 ^ (inC n).2.2)) ++ [(inC n).2.1 * 2 ^ (inC n).2.2],(inC n).2.1 ||| ((inC n).2.1 * 2 ^ (inC n).2.2),(inC n).2.2 * 2)
theorem tb_mul (c w j:Nat):(c * 2 ^ w).testBit j=(decide (w≤j) && c.testBit (j - w)):=by
 rw [← Nat.shiftLeft_eq,Nat.testBit_shiftLeft]
theorem inC_w:∀ n,(inC n).2.2=2 ^ n
 | 0=>rfl
 | n+1=>by show (inC n).2.2 * 2=_;rw [inC_w n,Nat.pow_succ]
theorem tb_lt {c w j:Nat} (h:c<2 ^ w) (hj:w≤j):c.testBit j=false:=Nat.testBit_lt_two_pow (Nat.lt_of_lt_of_le h (Nat.pow_le_pow_right (by decide) hj))
theorem inC_e:∀ n,(inC n).2.1=2 ^ (2 ^ n) - 1
 | 0=>rfl
 | n+1=>by
  show (inC n).2.1 ||| ((inC n).2.1 * 2 ^ (inC n).2.2)=_
  rw [inC_e n,inC_w n]
  apply Nat.eq_of_testBit_eq
  intro j
  rw [Nat.testBit_or,tb_mul,Nat.testBit_two_pow_sub_one,Nat.testBit_two_pow_sub_one,Nat.testBit_two_pow_sub_one,Nat.pow_succ]
  by_cases h1:j<2 ^ n
  ·simp [h1];omega
  ·by_cases h2:j<2 ^ n * 2
   ·simp [h1,h2];omega
   ·simp [h1,h2];omega
theorem inC_len:∀ n,(inC n).1.length=n
 | 0=>rfl
 | n+1=>by show (_ ++ [_]).length=_;simp [inC_len n]
theorem inC_lt:∀ n,∀ c∈(inC n).1,c<2 ^ (2 ^ n)
 | 0,c,h=>by simp [inC] at h
 | n+1,c,h=>by
  have h':c∈(inC n).1.map (fun c=>c ||| (c * 2 ^ (inC n).2.2)) ++ [(inC n).2.1 * 2 ^ (inC n).2.2]:=h
  rw [inC_w,inC_e] at h'
  have e2:2 ^ (2 ^ (n+1))=2 ^ (2 ^ n) * 2 ^ (2 ^ n):=by rw [← Nat.pow_add,Nat.pow_succ];congr 1;omega
  have hp:0<2 ^ (2 ^ n):=Nat.pow_pos (by decide)
  have up:∀ d,d<2 ^ (2 ^ n)→d * 2 ^ (2 ^ n)<2 ^ (2 ^ (n+1)):=fun d hd=>by rw [e2];exact Nat.mul_lt_mul_of_pos_right hd hp
  rcases List.mem_append.mp h' with q | q
  ·obtain ⟨d,hd,rfl⟩:=List.mem_map.mp q
   have:=inC_lt n d hd
   refine Nat.or_lt_two_pow (Nat.lt_of_lt_of_le this (Nat.pow_le_pow_right (by decide) (Nat.pow_le_pow_right (by decide) (Nat.le_succ _)))) (up d this)
  ·rw [List.mem_singleton.mp q]
   exact up _ (by omega)
theorem low_bit {n i j:Nat} (h1:2 ^ n≤j) (h2:j<2 ^ (n+1)) (hi:i<n):(j - 2 ^ n).testBit i=j.testBit i:=by
 have e:j=2 ^ n+(j - 2 ^ n):=by omega
 have h3:j - 2 ^ n<2 ^ n:=by rw [Nat.pow_succ] at h2;omega
 have:=Nat.testBit_two_pow_add_gt (i:=n) (j:=i) hi (j - 2 ^ n)
 rw [← e] at this
 exact this.symm
theorem top_bit {n j:Nat} (h2:j<2 ^ (n+1)):j.testBit n=decide (2 ^ n≤j):=by
 by_cases h:2 ^ n≤j
 ·rw [decide_eq_true h]
  have e:j=2 ^ n+(j - 2 ^ n):=by omega
  have h3:j - 2 ^ n<2 ^ n:=by rw [Nat.pow_succ] at h2;omega
  have:=Nat.testBit_two_pow_add_eq (j - 2 ^ n) n
  rw [← e] at this
  rw [this,Nat.testBit_lt_two_pow h3];rfl
 ·rw [decide_eq_false h]
  exact Nat.testBit_lt_two_pow (by omega)
theorem inC_bit:∀ (n i j:Nat),i<n→j<2 ^ n→((inC n).1.getD i 0).testBit j=j.testBit i
 | 0,i,j,h,_=>absurd h (by omega)
 | n+1,i,j,hi,hj=>by
  have hg:(inC (n+1)).1=(inC n).1.map (fun c=>c ||| (c * 2 ^ (2 ^ n))) ++ [(2 ^ (2 ^ n) - 1) * 2 ^ (2 ^ n)]:=by
   show (inC n).1.map (fun c=>c ||| (c * 2 ^ (inC n).2.2)) ++ [(inC n).2.1 * 2 ^ (inC n).2.2]=_
   rw [inC_w,inC_e]
  have hl:=inC_len n
  rw [hg]
  by_cases h:i<n
  ·have e:((inC n).1.map (fun c=>c ||| (c * 2 ^ (2 ^ n))) ++ [(2 ^ (2 ^ n) - 1) * 2 ^ (2 ^ n)]).getD i 0=((inC n).1.getD i 0) ||| (((inC n).1.getD i 0) * 2 ^ (2 ^ n)):=by
    simp [List.getD,List.getElem?_append,hl,h]
   have hc:(inC n).1.getD i 0<2 ^ (2 ^ n):=by
    have hm:(inC n).1.getD i 0∈(inC n).1:=by
     have:i<(inC n).1.length:=by omega
     simp [List.getD,this]
    exact inC_lt n _ hm
   rw [e,Nat.testBit_or,tb_mul]
   by_cases hj2:j<2 ^ n
   ·rw [inC_bit n i j h hj2,decide_eq_false (by omega)];simp
   ·rw [tb_lt hc (by omega),decide_eq_true (by omega),inC_bit n i (j - 2 ^ n) h (by rw [Nat.pow_succ] at hj;omega),low_bit (by omega) hj h];simp
  ·have hin:i=n:=by omega
   subst hin
   have e:((inC i).1.map (fun c=>c ||| (c * 2 ^ (2 ^ i))) ++ [(2 ^ (2 ^ i) - 1) * 2 ^ (2 ^ i)]).getD i 0=(2 ^ (2 ^ i) - 1) * 2 ^ (2 ^ i):=by
    simp [List.getD,List.getElem?_append,hl]
   rw [e,tb_mul,Nat.testBit_two_pow_sub_one,top_bit hj]
   have:j - 2 ^ i<2 ^ i:=by
    rw [Nat.pow_succ] at hj
    have:0<2 ^ i:=Nat.pow_pos (by decide)
    omega
   simp [this]
theorem xor_and:∀ (n a b:Nat),a<n→(a ^^^ b)+(a &&& b)=a ||| b
 | 0,_,_,h=>absurd h (by omega)
 | n+1,a,b,h=>by
  by_cases ha:a=0
  ·subst ha;simp
  have ih:=xor_and n (a / 2) (b / 2) (by omega)
  rw [← Nat.xor_div_two,← Nat.and_div_two,← Nat.or_div_two] at ih
  have e1:=Nat.div_add_mod (a ^^^ b) 2
  have e2:=Nat.div_add_mod (a &&& b) 2
  have e3:=Nat.div_add_mod (a ||| b) 2
  have t:∀ x:Nat,x % 2=(x.testBit 0).toNat:=fun x=>by
   rw [Nat.testBit_zero]
   rcases Nat.mod_two_eq_zero_or_one x with q | q <;> simp [q]
  have m1:=t (a ^^^ b)
  have m2:=t (a &&& b)
  have m3:=t (a ||| b)
  rw [Nat.testBit_xor] at m1
  rw [Nat.testBit_and] at m2
  rw [Nat.testBit_or] at m3
  have:(a ^^^ b) % 2+(a &&& b) % 2=(a ||| b) % 2:=by
   rw [m1,m2,m3]
   cases a.testBit 0 <;> cases b.testBit 0 <;> rfl
  omega
end MC
namespace GM
open PySem
def chosenC (cs:List Int) (e:Int):Int:=Builtin.bitOr (Builtin.bitAnd (cs.getD 0 0) (cs.getD 1 0)) (Builtin.bitAnd (Builtin.bitXor e (cs.getD 0 0)) (cs.getD 2 0))
def mostC (cs:List Int):Int:=Builtin.bitOr (Builtin.bitOr (Builtin.bitAnd (cs.getD 0 0) (cs.getD 1 0)) (Builtin.bitAnd (cs.getD 0 0) (cs.getD 2 0))) (Builtin.bitAnd (cs.getD 1 0) (cs.getD 2 0))
def colBy (w:Str) (cs:List Int) (e:Int):Int :=
 if w = "and" then cs.foldl Builtin.bitAnd e else if w = "or" then cs.foldl Builtin.bitOr 0 else if w = "either" then cs.foldl Builtin.bitXor 0 else
 if w = "not" then Builtin.bitXor e (cs.getD 0 0) else if w = "choose" then chosenC cs e else if w = "most" then mostC cs else if w = "yes" then e else 0
def Ar (w:Str) (n:Nat):Prop:=(w = "not" → n=1)∧(w = "choose" → n=3)∧(w = "most" → n=3)
end GM
set_option maxHeartbeats 4000000
namespace L2
open PySem PySem.Spec PyProof.Rows
def tMid (t u:TS):TS:=tSeq t u
theorem mid {t u:TS}{D:Ends}{σ:St}{H:Hp} (M:St→Hp→Prop) (h1:∀ N:St→Hp→Prop,(∀ σ' H',M σ' H'→N σ' H')→t { D with nx:=N } σ H) (h2:∀ σ' H',M σ' H'→u D σ' H'):tMid t u D σ H:=h1 _ h2
theorem pss_mid {X:Cx}{st:Stmt}{rest:List Stmt}{t u:TS} (h:PS X st t) (hr:PSs X rest u):PSs X (st :: rest) (tMid t u):=pss_cons h hr
theorem mtr {X:Cx}{id:String}{r:V→List V→Hp→VK→Prop} (h:MtM X id r):MtR X id r:=h
theorem comp_gen {J:It}{σ:St}{k:Nat}{sel:List Nat}{g:TG}{tt:TT}{te:TE}{Q:VK}{H:Hp}{p:Addr}{n:Nat}{item:Nat→V} (Sv:St→Prop) (Pv:Nat→Hp→Prop)
  (hS:Sv (cst σ k sel)) (h0:Pv 0 (upd H p (.lst [])))
  (src:∀ i H2,i<n→Pv i H2→J.go i H2∧∀ x H3,J.yld i H2 x H3→H3=H2∧x=item i) (fin:∀ H2,Pv n H2→J.stop n H2)
  (step:∀ i σ2 H2 (R:St→Hp→Prop),i<n→Sv σ2→Pv i H2→(∀ σ' H',Sv σ'→Pv (i+1) H'→R σ' H')→g (item i) σ2 H2 fun σ4 H4=>tt σ4 H4 fun b H5 =>
   if b=true then te σ4 H5 fun v H6=>∃ ys,H6 p=some (.lst ys)∧ys.length<sizeLine∧R σ4 (upd H6 p (.lst (ys ++ [v]))) else R σ4 H5)
  (hQ:∀ H2,Pv n H2→Q (.ref p) H2):CompGoal J σ k sel g tt te Q H p:=by
 refine ⟨fun i m σ2 H2=>i≤n∧m=n - i+1∧Sv σ2∧Pv i H2,⟨n+1,Nat.zero_le _,rfl,hS,h0⟩,?_⟩
 rintro i m σ2 H2 ⟨hi,rfl,hs,hP⟩
 by_cases hlt:i<n
 ·right
  obtain ⟨hg,hy⟩:=src i H2 hlt hP
  refine ⟨hg,fun x H3 hx=>?_⟩
  obtain ⟨rfl,rfl⟩:=hy x H3 hx
  exact step i σ2 H3 (fun σ' H'=>∃ m',m'<n - i+1∧i+1≤n∧m'=n - (i+1)+1∧Sv σ'∧Pv (i+1) H') hlt hs hP fun σ' H' s' h'=>⟨n - (i+1)+1,by omega,hlt,rfl,s',h'⟩
 ·left
  have e:i=n:=by omega
  subst e
  exact ⟨fin H2 hP,hQ H2 hP⟩
theorem compG_tup {K:PySem.W.Frag}{σ:St}{sel:List Nat}{rest:St}{H:Hp}{te:TE}{Q:VK}{a:Addr}{xs:List V} (f:V→V) (hl:SqT K H a xs) (hr:sel.map (fun j=>(σ[j]?).join)=rest) (hz:xs.length≤sizeLine)
  (he:∀ x H' (Q':VK),x∈xs→Same H H'→Q' (f x) H'→te (some x :: rest) H' Q') (hQ:∀ p H',New H p (.lst (xs.map f)) H'→Q (.ref p) H'):CompG (Itt K a) σ 1 sel (gName 0) tTrue te Q H:=by
 intro p hp
 have sT:∀ {o:HO},SqT K (upd H p o) a xs:=fun {o}=>by
  rcases hl with (h | ⟨u,h⟩) | h
  ·exact .inl (.inl (same_upd hp _ _ h))
  ·exact .inl (.inr ⟨u,same_upd hp _ _ h⟩)
  ·exact .inr h
 refine comp_inv (n:=xs.length) (item:=fun i=>xs.getD i .non) (fun i H2=>H2=upd H p (.lst ((xs.take i).map f))) hr (by simp) (src_tup ?_) ?_ ?_ ?_
 ·rintro i H2 hi rfl
  exact sT
 ·rintro H2 rfl
  exact ⟨xs,sT,Nat.le_refl _⟩
 ·rintro i H2 R hi rfl hR
  unfold tTrue
  dsimp only
  rw [if_pos rfl]
  refine he _ _ _ (by rw [show xs.getD i .non=xs[i] from by simp [List.getD,hi]];exact List.getElem_mem _) (same_upd hp) ⟨_,upd_same,?_,hR _ ?_⟩
  ·rw [List.length_map,List.length_take];omega
  ·rw [upd_upd,take_map_snoc hi]
 ·rintro H2 rfl
  rw [List.take_length]
  exact hQ p _ ⟨hp,rfl⟩
def SameN (H H':Hp):Prop:=∀ b o,H b=some o→(∀ xs,o≠.lst xs)→H' b=some o
section
variable {K:PySem.W.Frag}{H H' H0 H1:Hp}{l a:Addr}{xs ys:List V}{o:HO}
theorem Same.n (s:Same H H'):SameN H H':=fun b o e _=>s b o e
theorem SameN.clear (h:H l=some (.lst xs)):SameN H (upd H l (.lst ys)):=fun b o e n=>by rw [upd_ne (ne_of e h (n xs))];exact e
theorem Same.put (s:Same H0 H) (h:H0 l=none):Same H0 (upd H l o):=fun b u e=>by rw [upd_ne (ne_of_none e h)];exact s b u e
theorem Same.tup (e:Same H H') (h:SqT K H a xs):SqT K H' a xs:=by
 rcases h with (h | ⟨o,h⟩) | h
 ·exact .inl (.inl (e _ _ h))
 ·exact .inl (.inr ⟨o,e _ _ h⟩)
 ·exact .inr h
def Keep (N:Addr→Prop) (H H':Hp):Prop:=∀ b o,N b→H b=some o→H' b=some o
theorem Same.keep {N:Addr→Prop} (s:Same H H'):Keep N H H':=fun b o _ e=>s b o e
theorem Keep.seq {N:Addr→Prop} (e:Keep N H H') (n:N a) (h:SqL K H a xs):SqL K H' a xs:=by
 rcases h with (h | ⟨o,h⟩) | h
 ·exact .inl (.inl (e _ _ n h))
 ·exact .inl (.inr ⟨o,e _ _ n h⟩)
 ·exact .inr h
theorem Keep.tup {N:Addr→Prop} (e:Keep N H H') (n:N a) (h:SqT K H a xs):SqT K H' a xs:=by
 rcases h with (h | ⟨o,h⟩) | h
 ·exact .inl (.inl (e _ _ n h))
 ·exact .inl (.inr ⟨o,e _ _ n h⟩)
 ·exact .inr h
end
theorem cps_app (a b:Str):(a ++ b).cps.toList=a.cps.toList ++ b.cps.toList:=by
 show (a.cps ++ b.cps).toList=_
 simp
theorem len_cps (z:Str):z.cps.toList.length=z.length:=by
 show z.cps.toList.length=z.cps.size
 simp
theorem slice_to {z:Str}{j:Int} (h0:0≤j) (h1:j≤z.length):(Txt.slice z none (some j)).cps.toList=z.cps.toList.take j.toNat:=by
 have h:=slice_closes_to (x:=z) (j:=j) ⟨h0,by rw [len_cps];exact h1⟩
 rw [beq_iff_eq] at h
 rw [h]
 simp
theorem slice_from {z:Str}{i:Int} (h0:0≤i) (h1:i≤z.length):(Txt.slice z (some i) none).cps.toList=z.cps.toList.drop i.toNat:=by
 rw [slice_from_eq h0 h1 rfl]
 show ((z.cps.toList.drop i.toNat).take ((z.length:Int) - i).toNat)=_
 rw [List.take_of_length_le]
 rw [List.length_drop,len_cps]
 omega
theorem fold_rep (c:Nat):∀ (k:Nat) (acc:Array Nat),((List.replicate k (#[c]:Array Nat)).foldl (· ++ ·) acc).toList=acc.toList ++ List.replicate k c
 | 0,acc=>by simp
 | k+1,acc=>by
  rw [List.replicate_succ,List.foldl_cons,fold_rep c k,List.replicate_succ]
  simp
section
variable {K:PySem.W.Frag}{H:Hp}{p:Addr}{i:Int}{F:V→Prop}
theorem ixI {cs:List Int} (hS:SqL K H p (cs.map V.int)) (h0:0≤i) (h1:i<cs.length) (h:F (.int (cs.getD i.toNat 0))):∃ xs v,(SqL K H p xs∨SqT K H p xs)∧atI xs i=some v∧F v:=⟨_,_,.inl hS,atI_map 0 h0 h1,h⟩
end
def mE {α:Type} (f:α→V) (e:List (Str × α)):List (Key × V):=e.map fun p=>(Sum.inr p.1,f p.2)
theorem valV_mE {α:Type} (f:α→V) (n:Str):∀ e:List (Str × α),valV (mE f e) (Sum.inr n)=(ME.vS e n).map f
 | []=>rfl
 | p :: r=>by
  have ih:=valV_mE f n r
  show valV ((Sum.inr p.1,f p.2) :: mE f r) (Sum.inr n)=_
  by_cases h:p.1=n
  ·rw [valV_pos (p:=(Sum.inr p.1,f p.2)) (congrArg Sum.inr h),ME.vS_pos h];rfl
  ·rw [valV_neg (p:=(Sum.inr p.1,f p.2)) (fun z=>h (Sum.inr.inj z)),ME.vS_neg h,ih]
theorem putK_mE {α:Type} (f:α→V) (e:List (Str × α)) (n:Str) (v:α):putK (mE f e) (Sum.inr n) (f v)=mE f (ME.pS e n v):=by
 unfold putK ME.pS
 rw [valV_any,valV_mE,ME.vS_any]
 have hs:((ME.vS e n).map f).isSome=(ME.vS e n).isSome:=by cases ME.vS e n <;> rfl
 rw [hs]
 split
 ·unfold mE
  rw [List.map_map,List.map_map]
  refine List.map_congr_left fun p _=>?_
  simp only [Function.comp,Sum.inr.injEq]
  split <;> rfl
 ·simp [mE]
theorem merge_mE {α:Type} (f:α→V):∀ (ps:List (Str × α)) (e:List (Str × α)),mergeK (mE f e) (ps.map fun p=>(Sum.inr p.1,f p.2))=mE f (ps.foldl (fun e p=>ME.pS e p.1 p.2) e)
 | [],e=>rfl
 | p :: r,e=>by
  show mergeK (putK (mE f e) (Sum.inr p.1) (f p.2)) _=_
  rw [putK_mE,merge_mE f r]
  rfl
def CShl (i j:Int):Prop:=0≤j∧(Builtin.Int.intBits i:Int)+j≤2 ^ 27
theorem o_shlB {X:Cx}:OpR X (binaryOp .LShift) (cI2c CShl fun i j=>.int (i * 2 ^ j.toNat)):=(opI (C:=CShl) (g:=fun i j=>i * 2 ^ j.toNat) fun _ _ _ _ _ _ _ hc q=>lshift_int hc.1 hc.2 q).imp fun _ _ _ _ h=>cI2c_of h
theorem shl_nat {c k w:Nat} (h:c<2 ^ k) (hk:k+w≤2 ^ 27):CShl c w:=by
 have:=intBits_le (a:=(c:Int)) (k:=k) (by simpa using h)
 exact ⟨by omega,by omega⟩
theorem shl_val (c w:Nat):((c:Int) * 2 ^ ((w:Int)).toNat:Int)=((c * 2 ^ w:Nat):Int):=by simp
theorem and_nat (a b:Nat):Builtin.bitAnd (a:Int) (b:Int)=((a &&& b:Nat):Int):=by rw [bitAnd_pp (by omega) (by omega)];simp
theorem or_nat (a b:Nat):Builtin.bitOr (a:Int) (b:Int)=((a ||| b:Nat):Int):=by
 rw [bitOr_and,and_nat]
 have:=MC.xor_and (a+1) a b (Nat.lt_succ_self _)
 have h2:(a ||| b)+(a &&& b)=a+b:=by
  have e:∀ (n a b:Nat),a<n→(a ||| b)+(a &&& b)=a+b:=by
   intro n
   induction n with
   | zero=>intro a b h;omega
   | succ n ih =>
    intro a b h
    by_cases ha:a=0
    ·subst ha;simp
    have i1:=ih (a / 2) (b / 2) (by omega)
    rw [← Nat.and_div_two,← Nat.or_div_two] at i1
    have t:∀ x:Nat,x % 2=(x.testBit 0).toNat:=fun x=>by
     rw [Nat.testBit_zero]
     rcases Nat.mod_two_eq_zero_or_one x with q | q <;> simp [q]
    have m2:=t (a &&& b)
    have m3:=t (a ||| b)
    rw [Nat.testBit_and] at m2
    rw [Nat.testBit_or] at m3
    have ma:=t a
    have mb:=t b
    have:(a ||| b) % 2+(a &&& b) % 2=a % 2+b % 2:=by
     rw [m2,m3,ma,mb]
     cases a.testBit 0 <;> cases b.testBit 0 <;> rfl
    omega
  exact e (a+1) a b (Nat.lt_succ_self _)
 omega
theorem xor_nat (a b:Nat):Builtin.bitXor (a:Int) (b:Int)=((a ^^^ b:Nat):Int):=by
 unfold Builtin.bitXor
 rw [or_nat,and_nat]
 have:=MC.xor_and (a+1) a b (Nat.lt_succ_self _)
 omega
end L2
set_option maxHeartbeats 4000000
namespace GM
open PySem L2
def chosenN (cs:List Nat) (e:Nat):Nat:=((cs.getD 0 0) &&& (cs.getD 1 0)) ||| ((e ^^^ (cs.getD 0 0)) &&& (cs.getD 2 0))
def mostN (cs:List Nat):Nat:=(((cs.getD 0 0) &&& (cs.getD 1 0)) ||| ((cs.getD 0 0) &&& (cs.getD 2 0))) ||| ((cs.getD 1 0) &&& (cs.getD 2 0))
def colN (w:Str) (cs:List Nat) (e:Nat):Nat :=
 if w = "and" then cs.foldl (· &&& ·) e else if w = "or" then cs.foldl (· ||| ·) 0 else if w = "either" then cs.foldl (· ^^^ ·) 0 else
 if w = "not" then e ^^^ (cs.getD 0 0) else if w = "choose" then chosenN cs e else if w = "most" then mostN cs else if w = "yes" then e else 0
def nz (n:Nat):Int:=(n:Int)
theorem f_and:∀ (cs:List Nat) (e:Nat),(cs.map nz).foldl Builtin.bitAnd (nz e)=nz (cs.foldl (· &&& ·) e)
 | [],e=>rfl
 | c :: cs,e=>by rw [List.map_cons,List.foldl_cons,List.foldl_cons,show Builtin.bitAnd (nz e) (nz c)=nz (e &&& c) from and_nat e c,f_and cs]
theorem f_or:∀ (cs:List Nat) (e:Nat),(cs.map nz).foldl Builtin.bitOr (nz e)=nz (cs.foldl (· ||| ·) e)
 | [],e=>rfl
 | c :: cs,e=>by rw [List.map_cons,List.foldl_cons,List.foldl_cons,show Builtin.bitOr (nz e) (nz c)=nz (e ||| c) from or_nat e c,f_or cs]
theorem f_xor:∀ (cs:List Nat) (e:Nat),(cs.map nz).foldl Builtin.bitXor (nz e)=nz (cs.foldl (· ^^^ ·) e)
 | [],e=>rfl
 | c :: cs,e=>by rw [List.map_cons,List.foldl_cons,List.foldl_cons,show Builtin.bitXor (nz e) (nz c)=nz (e ^^^ c) from xor_nat e c,f_xor cs]
theorem g_nz (cs:List Nat) (i:Nat):(cs.map nz).getD i 0=nz (cs.getD i 0):=by
 rw [show (0:Int)=nz 0 from rfl]
 exact getD_map nz cs i 0
theorem col_nz (w:Str) (cs:List Nat) (e:Nat):colBy w (cs.map nz) (nz e)=nz (colN w cs e):=by
 unfold colBy colN
 by_cases h1:w = "and"
 ·rw [if_pos h1,if_pos h1];exact f_and cs e
 rw [if_neg h1,if_neg h1]
 by_cases h2:w = "or"
 ·rw [if_pos h2,if_pos h2];exact f_or cs 0
 rw [if_neg h2,if_neg h2]
 by_cases h3:w = "either"
 ·rw [if_pos h3,if_pos h3];exact f_xor cs 0
 rw [if_neg h3,if_neg h3]
 by_cases h4:w = "not"
 ·rw [if_pos h4,if_pos h4,g_nz];exact xor_nat _ _
 rw [if_neg h4,if_neg h4]
 by_cases h5:w = "choose"
 ·rw [if_pos h5,if_pos h5]
  unfold chosenC chosenN
  rw [g_nz,g_nz,g_nz]
  unfold nz
  rw [and_nat,xor_nat,and_nat,or_nat]
 rw [if_neg h5,if_neg h5]
 by_cases h6:w = "most"
 ·rw [if_pos h6,if_pos h6]
  unfold mostC mostN
  rw [g_nz,g_nz,g_nz]
  unfold nz
  rw [and_nat,and_nat,and_nat,or_nat,or_nat]
 rw [if_neg h6,if_neg h6]
 by_cases h7:w = "yes"
 ·rw [if_pos h7,if_pos h7]
 ·rw [if_neg h7,if_neg h7];rfl
def carN (ins:List Str) (cols:List Nat) (gs:List (ME.Gt Str)) (ev:Nat):List (Str × Nat):=ME.carry (fun w cs=>colN w cs ev) 0 (ME.startS ins cols) gs
theorem outs_nz (ins:List Str) (cols:List Nat) (gs:List (ME.Gt Str)) (outs:List Str) (ev:Nat) (hW:ME.WG Ar ins gs) :
  ME.outsOf 0 (ME.carry (fun w cs=>colBy w cs (nz ev)) 0 (ME.startS ins (cols.map nz)) gs) outs=(ME.outsOf 0 (carN ins cols gs ev) outs).map nz:=by
 rw [ME.start_m2]
 have:=ME.carry_m2 (A:=Ar) nz (fun w cs=>colN w cs ev) (fun w cs=>colBy w cs (nz ev)) 0 (fun w cs _=>col_nz w cs ev) gs (ME.startS ins cols) ins hW
 rw [show (0:Int)=nz 0 from rfl,this]
 exact ME.outs_m2 nz 0 _ outs
end GM
set_option maxHeartbeats 4000000
namespace L2
open PySem PySem.Spec PyProof.Rows
def tNo:TS:=fun _ _ _=>False
theorem ps_no {X:Cx}{st:Stmt}:PS X st tNo:=fun _ _ _ _ _ _ h=>h.elim
theorem o_pow {X:Cx}:OpR X (binaryOp .Pow) (cI2c CPow fun i j=>.int (i ^ j.toNat)):=op_pow.imp fun _ _ _ _ h=>cI2c_of h
theorem tDNewT_n {σ:St}{H:Hp}{Q:VK}:tDNewT σ H Q = ∀ p H',New H p (.dT []) H'→Q (.ref p) H':=by
 unfold tDNewT;rw [new_eq (F:=fun p H'=>Q (.ref p) H')]
section
open Builtin Builtin.Str
end
theorem Same.nil {H H':Hp}{p:Addr} (s:Same H H') (h:H' p=none):H p=none:=by
 cases e:H p with
 | none=>rfl
 | some o=>rw [s _ _ e] at h;cases h
structure Mad (H:Hp) (p:Addr) (o:HO) (H':Hp):Prop where
 was:H p=none
 at_:H' p=some o
 same:Same H H'
theorem Mad.pre {H H0 H':Hp}{p:Addr}{o:HO} (s:Same H0 H) (n:Mad H p o H'):Mad H0 p o H':=⟨s.nil n.was,n.at_,s.trans n.same⟩
theorem mul_one (c:Nat) (n:Int):(Txt.mul ⟨#[c]⟩ n).cps.toList=List.replicate n.toNat c:=by
 unfold Txt.mul
 by_cases h1:n<1
 ·rw [if_pos h1]
  have:n.toNat=0:=by omega
  rw [this]
  rfl
 ·rw [if_neg h1]
  by_cases h2:(n == 1 || Str.length ⟨#[c]⟩ == 0)=true
  ·rw [if_pos h2]
   have h3:n=1:=by
    rw [Bool.or_eq_true] at h2
    rcases h2 with q | q
    ·exact beq_iff_eq.mp q
    ·exact absurd (beq_iff_eq.mp q) (by show ¬ (1:Nat)=0;decide)
   subst h3
   rfl
  ·rw [if_neg h2]
   show ((List.replicate n.toNat (#[c]:Array Nat)).foldl (· ++ ·) #[]).toList=_
   rw [fold_rep]
   simp
end L2
namespace MF
abbrev Pr:=Int × Int
def tn (t:Int):Int:=if t % 2=0 then t+1 else t - 1
def lo (s t:Int):Int:=if t<s then t else s
def hi (s t:Int):Int:=if t > s then t else s
def fnd:Int→List Pr→Pr→Option Int
 | _,[],_=>none
 | n,q :: r,p=>if q=p then some n else fnd (n+1) r p
def sure (s t:Int):Option Int :=
 if lo s t=0 then some 0 else if lo s t=1∨lo s t=hi s t then some (hi s t) else if lo s t=tn (hi s t) then some 0 else none
def kn (m:Int) (ps:List Pr) (p:Pr):Int:=(fnd (m+1) ps p).getD (m+1+ps.length)
def kp (m:Int) (ps:List Pr) (p:Pr):List Pr:=if (fnd (m+1) ps p).isSome then ps else ps ++ [p]
def bt (m:Int) (ps:List Pr) (s t:Int):Int:=match sure s t with | some v=>v | none=>2 * kn m ps (lo s t,hi s t)
def bp (m:Int) (ps:List Pr) (s t:Int):List Pr:=match sure s t with | some _=>ps | none=>kp m ps (lo s t,hi s t)
theorem fnd_some:∀ {n:Int}{ps:List Pr}{p:Pr}{i:Int},fnd n ps p=some i→n≤i∧i<n+ps.length∧ps[(i - n).toNat]? = some p
 | n,[],p,i,h=>by simp [fnd] at h
 | n,q :: r,p,i,h=>by
  unfold fnd at h
  by_cases e:q=p
  ·rw [if_pos e] at h
   have:=Option.some.inj h
   subst this
   refine ⟨by omega,by simp only [List.length_cons];omega,?_⟩
   rw [show (n - n).toNat=0 by omega,List.getElem?_cons_zero,e]
  ·rw [if_neg e] at h
   obtain ⟨h1,h2,h3⟩:=fnd_some h
   refine ⟨by omega,by simp only [List.length_cons];omega,?_⟩
   rw [show (i - n).toNat=(i - (n+1)).toNat+1 by omega,List.getElem?_cons_succ]
   exact h3
theorem fnd_none:∀ {n:Int}{ps:List Pr}{p:Pr},fnd n ps p=none→p ∉ ps
 | n,[],p,h=>by simp
 | n,q :: r,p,h=>by
  unfold fnd at h
  by_cases e:q=p
  ·rw [if_pos e] at h;cases h
  ·rw [if_neg e] at h
   intro hm
   rcases List.mem_cons.mp hm with e' | e'
   ·exact e e'.symm
   ·exact fnd_none h e'
theorem fnd_snoc:∀ {n:Int}{ps:List Pr}{p:Pr},fnd n ps p=none→fnd n (ps ++ [p]) p=some (n+ps.length)
 | n,[],p,h=>by simp [fnd]
 | n,q :: r,p,h=>by
  have e:¬ q=p:=fun e=>by unfold fnd at h;rw [if_pos e] at h;cases h
  unfold fnd at h
  rw [if_neg e] at h
  show fnd n (q :: (r ++ [p])) p=_
  unfold fnd
  rw [if_neg e,fnd_snoc h]
  congr 1
  simp only [List.length_cons]
  omega
theorem kp_len (m:Int) (ps:List Pr) (p:Pr):ps.length≤(kp m ps p).length∧(kp m ps p).length≤ps.length+1:=by
 unfold kp;split <;> simp
theorem bp_len (m:Int) (ps:List Pr) (s t:Int):ps.length≤(bp m ps s t).length∧(bp m ps s t).length≤ps.length+1:=by
 unfold bp;split
 ·omega
 ·exact kp_len ..
theorem kn_bound (m:Int) (ps:List Pr) (p:Pr):m+1≤kn m ps p∧kn m ps p<m+1+(kp m ps p).length:=by
 unfold kn kp
 cases h:fnd (m+1) ps p with
 | none=>simp;omega
 | some i =>
  have:=fnd_some h
  simp;omega
def Ok (m:Int) (ps:List Pr):Prop:=∀ (i:Nat) (p:Pr),ps[i]? = some p→2≤p.1∧p.1<p.2∧p.1 / 2≠p.2 / 2∧p.2<2 * (m+1+i)
theorem tn_half {t:Int}:tn t / 2=t / 2:=by unfold tn;split <;> omega
theorem sure_none {s t:Int} (hs:0≤s) (ht:0≤t) (h:sure s t=none):2≤lo s t∧lo s t<hi s t∧lo s t / 2≠hi s t / 2:=by
 unfold sure at h
 have hlh:lo s t≤hi s t∧0≤lo s t:=by unfold lo hi;split <;> split <;> omega
 by_cases h1:lo s t=0
 ·rw [if_pos h1] at h;cases h
 rw [if_neg h1] at h
 by_cases h2:lo s t=1∨lo s t=hi s t
 ·rw [if_pos h2] at h;cases h
 rw [if_neg h2] at h
 by_cases h3:lo s t=tn (hi s t)
 ·rw [if_pos h3] at h;cases h
 refine ⟨by omega,by omega,fun e=>h3 ?_⟩
 unfold tn
 split <;> omega
theorem sure_some {s t T v:Int} (hs:0≤s) (ht:0≤t) (hs':s<T) (ht':t<T) (h:sure s t=some v):0≤v∧v<T:=by
 unfold sure at h
 have hlh:lo s t≤hi s t∧0≤lo s t∧hi s t<T:=by unfold lo hi;split <;> split <;> omega
 by_cases h1:lo s t=0
 ·rw [if_pos h1] at h;cases h;omega
 rw [if_neg h1] at h
 by_cases h2:lo s t=1∨lo s t=hi s t
 ·rw [if_pos h2] at h;cases h;omega
 rw [if_neg h2] at h
 by_cases h3:lo s t=tn (hi s t)
 ·rw [if_pos h3] at h;cases h;omega
 rw [if_neg h3] at h;cases h
theorem hi_lt {s t T:Int} (h1:s<T) (h2:t<T):hi s t<T:=by unfold hi;split <;> omega
theorem Ok.bp {m:Int}{ps:List Pr} (h:Ok m ps) {s t:Int} (hs:0≤s) (ht:0≤t) (hs':s<2 * (m+1+ps.length)) (ht':t<2 * (m+1+ps.length)):Ok m (bp m ps s t):=by
 unfold MF.bp
 cases e:sure s t with
 | some v=>exact h
 | none =>
  show Ok m (kp m ps (lo s t,hi s t))
  unfold kp
  split
  ·exact h
  ·intro i p hp
   rcases Nat.lt_or_ge i ps.length with hi' | hi'
   ·rw [List.getElem?_append_left hi'] at hp
    exact h i p hp
   ·rw [List.getElem?_append_right hi'] at hp
    have h0:i - ps.length=0:=by
     rcases Nat.eq_zero_or_pos (i - ps.length) with z | z
     ·exact z
     ·rw [List.getElem?_eq_none (by simp;omega)] at hp;cases hp
    rw [h0] at hp
    have:=Option.some.inj hp
    subst this
    have h3:=sure_none hs ht e
    have h4:=hi_lt hs' ht'
    refine ⟨h3.1,h3.2.1,h3.2.2,?_⟩
    show MF.hi s t<_
    have:i=ps.length:=by omega
    subst this
    exact h4
theorem bt_bound {m:Int} (hm:0≤m) {ps:List Pr}{s t:Int} (hs:0≤s) (ht:0≤t) (hs':s<2 * (m+1+ps.length)) (ht':t<2 * (m+1+ps.length)):0≤bt m ps s t∧bt m ps s t<2 * (m+1+(MF.bp m ps s t).length):=by
 unfold bt MF.bp
 cases e:sure s t with
 | some v=>exact sure_some hs ht hs' ht' e
 | none =>
  have:=kn_bound m ps (lo s t,hi s t)
  show 0≤2 * kn m ps (lo s t,hi s t)∧2 * kn m ps (lo s t,hi s t)<2 * (m+1+((kp m ps (lo s t,hi s t)).length:Int))
  omega
end MF
namespace MF
abbrev RS:=Int × List Pr
def InT (m:Int) (ps:List Pr) (t:Int):Prop:=0≤t∧t<2 * (m+1+ps.length)
structure St (m:Int) (ps:List Pr) (n:Nat) (r:RS):Prop where
 ok:Ok m ps→Ok m r.2
 inn:InT m r.2 r.1
 lo:ps.length≤r.2.length
 hi:r.2.length≤ps.length+n
 pre:∃ e,r.2=ps ++ e
 nd:ps.Nodup→r.2.Nodup
theorem InT.mono {m t:Int}{ps qs:List Pr} (h:InT m ps t) (l:ps.length≤qs.length):InT m qs t:=⟨h.1,by have:=h.2;omega⟩
theorem InT.tn {m t:Int}{ps:List Pr} (h:InT m ps t):InT m ps (tn t):=by
 have h1:=h.1
 have h2:=h.2
 unfold InT MF.tn
 split <;> omega
theorem bp_pre (m:Int) (ps:List Pr) (s t:Int):∃ e,bp m ps s t=ps ++ e:=by
 unfold bp
 split
 ·exact ⟨[],by simp⟩
 ·unfold kp
  split
  ·exact ⟨[],by simp⟩
  ·exact ⟨_,rfl⟩
theorem bp_nd {m s t:Int}{ps:List Pr} (h:ps.Nodup):(bp m ps s t).Nodup:=by
 unfold bp
 split
 ·exact h
 ·unfold kp
  cases e:fnd (m+1) ps (lo s t,hi s t) with
  | some i=>exact h
  | none =>
   have:=fnd_none e
   show (ps ++ [_]).Nodup
   rw [List.nodup_append]
   refine ⟨h,by simp,fun a ha b hb=>?_⟩
   rw [List.mem_singleton] at hb
   subst hb
   exact fun z=>this (z ▸ ha)
theorem fnd_idx:∀ {n:Int}{ps:List Pr}{p:Pr}{i:Nat},ps.Nodup→ps[i]? = some p→fnd n ps p=some (n+i)
 | n,[],p,i,_,h=>by simp at h
 | n,q :: r,p,0,hn,h=>by
  have:q=p:=by simpa using h
  unfold fnd
  rw [if_pos this]
  simp
 | n,q :: r,p,i+1,hn,h=>by
  have h':r[i]? = some p:=by simpa using h
  have hq:¬ q=p:=fun e=>(List.nodup_cons.mp hn).1 (e ▸ List.mem_of_getElem? h')
  unfold fnd
  rw [if_neg hq,fnd_idx (List.nodup_cons.mp hn).2 h']
  congr 1
  omega
def bo (m s t:Int) (ps:List Pr):RS:=(bt m ps s t,bp m ps s t)
theorem bo_st {m s t:Int}{ps:List Pr} (hm:0≤m) (hs:InT m ps s) (ht:InT m ps t):St m ps 1 (bo m s t ps) :=
 ⟨fun h=>h.bp hs.1 ht.1 hs.2 ht.2,bt_bound hm hs.1 ht.1 hs.2 ht.2,(bp_len m ps s t).1,(bp_len m ps s t).2,bp_pre m ps s t,fun h=>bp_nd h⟩
theorem St.trans {m:Int}{ps qs:List Pr}{n k:Nat}{t:Int}{r:RS} (h:St m ps n (t,qs)) (g:St m qs k r):St m ps (n+k) r :=
 ⟨fun o=>g.ok (h.ok o),g.inn,Nat.le_trans h.lo g.lo,by have h1:=h.hi;have h2:=g.hi;simp only at h1;omega,by
  obtain ⟨e1,h1⟩:=h.pre
  obtain ⟨e2,h2⟩:=g.pre
  simp only at h1
  exact ⟨e1 ++ e2,by rw [h2,h1,List.append_assoc]⟩,fun o=>g.nd (h.nd o)⟩
theorem St.weak {m:Int}{ps:List Pr}{n k:Nat}{r:RS} (h:St m ps n r) (l:n≤k):St m ps k r:=⟨h.ok,h.inn,h.lo,Nat.le_trans h.hi (by omega),h.pre,h.nd⟩
theorem St.tn {m:Int}{ps:List Pr}{n:Nat}{r:RS} (h:St m ps n r):St m ps n (tn r.1,r.2):=⟨h.ok,h.inn.tn,h.lo,h.hi,h.pre,h.nd⟩
theorem St.refl {m t:Int}{ps:List Pr} (h:InT m ps t):St m ps 0 (t,ps):=⟨fun o=>o,h,Nat.le_refl _,Nat.le_refl _,⟨[],by simp⟩,fun o=>o⟩
def andR (m:Int):Int→List Int→List Pr→RS
 | t,[],ps=>(t,ps)
 | t,u :: r,ps=>andR m (bt m ps t u) r (bp m ps t u)
theorem andR_snoc (m:Int):∀ (xs:List Int) (t x:Int) (ps:List Pr),andR m t (xs ++ [x]) ps=bo m (andR m t xs ps).1 x (andR m t xs ps).2
 | [],t,x,ps=>rfl
 | y :: r,t,x,ps=>andR_snoc m r _ x _
theorem andR_st {m:Int} (hm:0≤m):∀ (xs:List Int) (t:Int) (ps:List Pr),InT m ps t→(∀ x∈xs,InT m ps x)→St m ps xs.length (andR m t xs ps)
 | [],t,ps,h,_=>St.refl h
 | y :: r,t,ps,h,hx=>by
  have h1:=bo_st hm h (hx y (List.mem_cons_self ..))
  have h2:=andR_st hm r (bt m ps t y) (bp m ps t y) h1.inn fun x hx'=>(hx x (List.mem_cons_of_mem _ hx')).mono h1.lo
  exact (h1.trans h2).weak (by simp only [List.length_cons];omega)
def orR (m t:Int) (ts:List Int) (ps:List Pr):RS:=(tn (andR m (tn t) (ts.map tn) ps).1,(andR m (tn t) (ts.map tn) ps).2)
theorem orR_st {m:Int} (hm:0≤m) (ts:List Int) (t:Int) (ps:List Pr) (h:InT m ps t) (hx:∀ x∈ts,InT m ps x):St m ps ts.length (orR m t ts ps):=by
 have:=andR_st hm (ts.map tn) (tn t) ps h.tn fun x hx'=>by
  obtain ⟨y,hy,rfl⟩:=List.mem_map.mp hx'
  exact (hx y hy).tn
 rw [List.length_map] at this
 exact this.tn
def eoR (m s t:Int) (ps:List Pr):RS:=orR m (bt m ps s (tn t)) [bt m (bp m ps s (tn t)) (tn s) t] (bp m (bp m ps s (tn t)) (tn s) t)
theorem eoR_st {m s t:Int}{ps:List Pr} (hm:0≤m) (hs:InT m ps s) (ht:InT m ps t):St m ps 3 (eoR m s t ps):=by
 have h1:=bo_st hm hs ht.tn
 have h2:=bo_st hm (hs.tn.mono h1.lo) (ht.mono h1.lo)
 have h3:=orR_st hm [(bo m (tn s) t (bo m s (tn t) ps).2).1] (bo m s (tn t) ps).1 (bo m (tn s) t (bo m s (tn t) ps).2).2 (h1.inn.mono h2.lo) fun x hx=>by
  rw [List.mem_singleton] at hx
  subst hx
  exact h2.inn
 exact (h1.trans h2).trans h3
def eiR (m:Int):Int→List Int→List Pr→RS
 | t,[],ps=>(t,ps)
 | t,u :: r,ps=>eiR m (eoR m t u ps).1 r (eoR m t u ps).2
theorem eiR_snoc (m:Int):∀ (xs:List Int) (t x:Int) (ps:List Pr),eiR m t (xs ++ [x]) ps=eoR m (eiR m t xs ps).1 x (eiR m t xs ps).2
 | [],t,x,ps=>rfl
 | y :: r,t,x,ps=>eiR_snoc m r _ x _
theorem eiR_st {m:Int} (hm:0≤m):∀ (xs:List Int) (t:Int) (ps:List Pr),InT m ps t→(∀ x∈xs,InT m ps x)→St m ps (3 * xs.length) (eiR m t xs ps)
 | [],t,ps,h,_=>St.refl h
 | y :: r,t,ps,h,hx=>by
  have h1:=eoR_st hm h (hx y (List.mem_cons_self ..))
  have h2:=eiR_st hm r (eoR m t y ps).1 (eoR m t y ps).2 h1.inn fun x hx'=>(hx x (List.mem_cons_of_mem _ hx')).mono h1.lo
  exact (h1.trans h2).weak (by simp only [List.length_cons];omega)
def chR (m r s t:Int) (ps:List Pr):RS:=orR m (bt m ps r s) [bt m (bp m ps r s) (tn r) t] (bp m (bp m ps r s) (tn r) t)
theorem chR_st {m r s t:Int}{ps:List Pr} (hm:0≤m) (hr:InT m ps r) (hs:InT m ps s) (ht:InT m ps t):St m ps 3 (chR m r s t ps):=by
 have h1:=bo_st hm hr hs
 have h2:=bo_st hm (hr.tn.mono h1.lo) (ht.mono h1.lo)
 have h3:=orR_st hm [(bo m (tn r) t (bo m r s ps).2).1] (bo m r s ps).1 (bo m (tn r) t (bo m r s ps).2).2 (h1.inn.mono h2.lo) fun x hx=>by
  rw [List.mem_singleton] at hx
  subst hx
  exact h2.inn
 exact (h1.trans h2).trans h3
def moR (m r s t:Int) (ps:List Pr):RS :=
 let u:=bo m r s ps
 let v:=bo m r t u.2
 let w:=bo m s t v.2
 orR m u.1 [v.1,w.1] w.2
theorem moR_st {m r s t:Int}{ps:List Pr} (hm:0≤m) (hr:InT m ps r) (hs:InT m ps s) (ht:InT m ps t):St m ps 5 (moR m r s t ps):=by
 have h1:=bo_st hm hr hs
 have h2:=bo_st hm (hr.mono h1.lo) (ht.mono h1.lo)
 have h12:=h1.trans h2
 have h3:=bo_st hm (hs.mono h12.lo) (ht.mono h12.lo)
 have h4:=orR_st hm [(bo m r t (bo m r s ps).2).1,(bo m s t (bo m r t (bo m r s ps).2).2).1] (bo m r s ps).1 (bo m s t (bo m r t (bo m r s ps).2).2).2 ((h1.inn.mono h2.lo).mono h3.lo) fun x hx=>by
  rcases List.mem_cons.mp hx with rfl | hx
  ·exact h2.inn.mono h3.lo
  ·rw [List.mem_singleton] at hx
   subst hx
   exact h3.inn
 exact (h12.trans h3).trans h4
end MF
namespace MF
def Sub (F x:Nat):Prop:=∀ j,x.testBit j=true→F.testBit j=true
theorem sub_zero (F:Nat):Sub F 0:=fun j h=>by simp at h
theorem Sub.and {F x y:Nat} (h:Sub F x):Sub F (x &&& y):=fun j hj=>h j (by rw [Nat.testBit_and,Bool.and_eq_true] at hj;exact hj.1)
theorem Sub.or {F x y:Nat} (h:Sub F x) (g:Sub F y):Sub F (x ||| y):=fun j hj=>by
 rw [Nat.testBit_or,Bool.or_eq_true] at hj
 exact hj.elim (h j) (g j)
theorem Sub.neg {F x:Nat} (h:Sub F x):Sub F (F ^^^ x):=fun j hj=>by
 rw [Nat.testBit_xor] at hj
 cases hf:F.testBit j with
 | true=>rfl
 | false =>
  rw [hf] at hj
  have:=h j (by simpa using hj)
  rw [hf] at this
  exact this
theorem neg_neg (F x:Nat):F ^^^ (F ^^^ x)=x:=by rw [← Nat.xor_assoc,Nat.xor_self,Nat.zero_xor]
theorem and_full {F x:Nat} (h:Sub F x):F &&& x=x:=by
 apply Nat.eq_of_testBit_eq
 intro j
 rw [Nat.testBit_and]
 cases hx:x.testBit j with
 | true=>rw [h j hx];rfl
 | false=>rw [Bool.and_false]
theorem and_neg (F x:Nat) (h:Sub F x):(F ^^^ x) &&& x=0:=by
 apply Nat.eq_of_testBit_eq
 intro j
 rw [Nat.testBit_and,Nat.testBit_xor,Nat.zero_testBit]
 cases hx:x.testBit j with
 | true=>rw [h j hx];rfl
 | false=>rw [Bool.and_false]
theorem dem {F x y:Nat} (h:Sub F x) (g:Sub F y):(F ^^^ x) &&& (F ^^^ y)=F ^^^ (x ||| y):=by
 apply Nat.eq_of_testBit_eq
 intro j
 rw [Nat.testBit_and,Nat.testBit_xor,Nat.testBit_xor,Nat.testBit_xor,Nat.testBit_or]
 have h1:=h j
 have h2:=g j
 cases hf:F.testBit j <;> cases hx:x.testBit j <;> cases hy:y.testBit j <;> simp_all
theorem xor_or {F x y:Nat} (h:Sub F x) (g:Sub F y):(x &&& (F ^^^ y)) ||| ((F ^^^ x) &&& y)=x ^^^ y:=by
 apply Nat.eq_of_testBit_eq
 intro j
 rw [Nat.testBit_or,Nat.testBit_and,Nat.testBit_and,Nat.testBit_xor,Nat.testBit_xor,Nat.testBit_xor]
 have h1:=h j
 have h2:=g j
 cases hf:F.testBit j <;> cases hx:x.testBit j <;> cases hy:y.testBit j <;> simp_all
theorem foldOr {F:Nat}:∀ (xs:List Nat) (x:Nat),Sub F x→(∀ y∈xs,Sub F y)→F ^^^ ((xs.map fun y=>F ^^^ y).foldl (fun a b=>a &&& b) (F ^^^ x))=xs.foldl (fun a b=>a ||| b) x
 | [],x,_,_=>neg_neg F x
 | y :: r,x,hx,hy=>by
  show F ^^^ ((r.map fun y=>F ^^^ y).foldl (fun a b=>a &&& b) ((F ^^^ x) &&& (F ^^^ y)))=r.foldl (fun a b=>a ||| b) (x ||| y)
  have g:=hy y (List.mem_cons_self ..)
  rw [dem hx g]
  exact foldOr r (x ||| y) (hx.or g) fun z hz=>hy z (List.mem_cons_of_mem _ hz)
def litC (F:Nat) (cs:List Nat) (t:Int):Nat:=if t % 2=1 then F ^^^ cs.getD (t / 2).toNat 0 else cs.getD (t / 2).toNat 0
def growC (F:Nat):List Nat→List Pr→List Nat
 | cs,[]=>cs
 | cs,p :: r=>growC F (cs ++ [litC F cs p.1 &&& litC F cs p.2]) r
theorem growC_app (F:Nat):∀ (ps qs:List Pr) (cs:List Nat),growC F cs (ps ++ qs)=growC F (growC F cs ps) qs
 | [],qs,cs=>rfl
 | p :: r,qs,cs=>growC_app F r qs _
theorem growC_len (F:Nat):∀ (ps:List Pr) (cs:List Nat),(growC F cs ps).length=cs.length+ps.length
 | [],cs=>rfl
 | p :: r,cs=>by
  show (growC F (cs ++ [_]) r).length=_
  rw [growC_len F r]
  simp only [List.length_append,List.length_cons,List.length_nil]
  omega
theorem growC_pre (F:Nat):∀ (ps:List Pr) (cs:List Nat),∃ e,growC F cs ps=cs ++ e
 | [],cs=>⟨[],by simp [growC]⟩
 | p :: r,cs=>by
  obtain ⟨e,h⟩:=growC_pre F r (cs ++ [litC F cs p.1 &&& litC F cs p.2])
  exact ⟨[litC F cs p.1 &&& litC F cs p.2] ++ e,by show growC F (cs ++ [_]) r=_;rw [h,List.append_assoc]⟩
theorem litC_app {F:Nat}{cs e:List Nat}{t:Int} (h0:0≤t) (h:t<2 * cs.length):litC F (cs ++ e) t=litC F cs t:=by
 have hl:(t / 2).toNat<cs.length:=by omega
 unfold litC
 have:(cs ++ e).getD (t / 2).toNat 0=cs.getD (t / 2).toNat 0:=by
  simp [List.getD,List.getElem?_append_left hl]
 rw [this]
def AllSub (F:Nat) (cs:List Nat):Prop:=∀ c∈cs,Sub F c
theorem AllSub.getD {F:Nat}{cs:List Nat} (h:AllSub F cs) (i:Nat):Sub F (cs.getD i 0):=by
 rcases Nat.lt_or_ge i cs.length with hi | hi
 ·have:cs.getD i 0=cs[i]:=by simp [List.getD,hi]
  rw [this]
  exact h _ (List.getElem_mem hi)
 ·have:cs.getD i 0=0:=by simp [List.getD,hi]
  rw [this]
  exact sub_zero F
theorem AllSub.lit {F:Nat}{cs:List Nat} (h:AllSub F cs) (t:Int):Sub F (litC F cs t):=by
 unfold litC
 split
 ·exact (h.getD _).neg
 ·exact h.getD _
theorem AllSub.grow {F:Nat}:∀ (ps:List Pr) (cs:List Nat),AllSub F cs→AllSub F (growC F cs ps)
 | [],cs,h=>h
 | p :: r,cs,h=>by
  refine AllSub.grow r _ fun c hc=>?_
  rcases List.mem_append.mp hc with hc | hc
  ·exact h c hc
  ·rw [List.mem_singleton.mp hc]
   exact (h.lit p.1).and
structure Base (F:Nat) (m:Int) (b:List Nat):Prop where
 len:(b.length:Int)=m+1
 zero:b.getD 0 0=0
 sub:AllSub F b
section
variable {F:Nat}{m:Int}{b:List Nat}
abbrev L (F:Nat) (b:List Nat) (ps:List Pr) (t:Int):Nat:=litC F (growC F b ps) t
theorem L_ext (B:Base F m b) {ps e:List Pr}{t:Int} (h:InT m ps t):L F b (ps ++ e) t=L F b ps t:=by
 unfold L
 rw [growC_app]
 obtain ⟨x,hx⟩:=growC_pre F e (growC F b ps)
 rw [hx]
 refine litC_app h.1 ?_
 have h2:=h.2
 have h3:=growC_len F ps b
 have h4:=B.len
 omega
theorem L_sub (B:Base F m b) (ps:List Pr) (t:Int):Sub F (L F b ps t):=(B.sub.grow ps b).lit t
theorem L_tn {ps:List Pr}{t:Int} (h:0≤t):L F b ps (tn t)=F ^^^ L F b ps t:=by
 unfold L litC
 have e:tn t / 2=t / 2:=tn_half
 rw [e]
 by_cases h1:t % 2=1
 ·have h2:¬ tn t % 2=1:=by unfold tn;split <;> omega
  rw [if_neg h2,if_pos h1,neg_neg]
 ·have h2:tn t % 2=1:=by unfold tn;split <;> omega
  rw [if_pos h2,if_neg h1]
theorem L_zero (B:Base F m b) (ps:List Pr) (hm:0≤m):L F b ps 0=0:=by
 have h:=L_ext B (ps:=[]) (e:=ps) (t:=0) ⟨by omega,by show (0:Int)<2 * (m+1+0);omega⟩
 rw [List.nil_append] at h
 rw [h]
 show litC F b 0=0
 exact B.zero
theorem L_one (B:Base F m b) (ps:List Pr) (hm:0≤m):L F b ps 1=F:=by
 have h:=L_tn (F:=F) (b:=b) (ps:=ps) (t:=0) (by omega)
 rw [L_zero B ps hm,Nat.xor_zero] at h
 exact h
theorem growC_at (F:Nat) (b:List Nat) (ps:List Pr) (i:Nat) (p:Pr) (h:ps[i]? = some p):(growC F b ps).getD (b.length+i) 0=litC F (growC F b (ps.take i)) p.1 &&& litC F (growC F b (ps.take i)) p.2:=by
 have e:ps=ps.take i ++ (p :: ps.drop (i+1)):=by
  obtain ⟨hi,h2⟩:=List.getElem?_eq_some_iff.mp h
  rw [← h2,← List.drop_eq_getElem_cons hi,List.take_append_drop]
 have hi:i<ps.length:=(List.getElem?_eq_some_iff.mp h).1
 conv=>lhs;rw [e]
 rw [growC_app]
 show (growC F (growC F b (ps.take i) ++ [_]) (ps.drop (i+1))).getD _ 0=_
 obtain ⟨x,hx⟩:=growC_pre F (ps.drop (i+1)) (growC F b (ps.take i) ++ [litC F (growC F b (ps.take i)) p.1 &&& litC F (growC F b (ps.take i)) p.2])
 rw [hx]
 have hl:(growC F b (ps.take i)).length=b.length+i:=by rw [growC_len,List.length_take];omega
 simp [List.getD,← hl]
theorem L_knot (B:Base F m b) {ps:List Pr} (ho:Ok m ps) (hm:0≤m) {i:Nat}{p:Pr} (h:ps[i]? = some p):L F b ps (2 * (m+1+i))=L F b ps p.1 &&& L F b ps p.2:=by
 obtain ⟨o1,o2,o3,o4⟩:=ho i p h
 have hi:i<ps.length:=(List.getElem?_eq_some_iff.mp h).1
 have hlen:=B.len
 have e1:L F b ps (2 * (m+1+i))=(growC F b ps).getD (b.length+i) 0:=by
  unfold L litC
  rw [if_neg (by omega),show (2 * (m+1+(i:Int)) / 2).toNat=b.length+i by omega]
 rw [e1,growC_at F b ps i p h]
 have key:∀ t:Int,0≤t→t<2 * (m+1+i)→litC F (growC F b (ps.take i)) t=L F b ps t:=fun t h0 h1=>by
  have hl:((ps.take i).length:Int)=i:=by rw [List.length_take];omega
  have:=L_ext B (ps:=ps.take i) (e:=ps.drop i) (t:=t) ⟨h0,by rw [hl];exact h1⟩
  rw [List.take_append_drop] at this
  exact this.symm
 rw [key p.1 (by omega) (by omega),key p.2 (by omega) o4]
theorem L_bo (B:Base F m b) (hm:0≤m) {ps:List Pr} (ho:Ok m ps) {s t:Int} (hs:InT m ps s) (ht:InT m ps t):L F b (bp m ps s t) (bt m ps s t)=L F b ps s &&& L F b ps t:=by
 have comm:L F b ps s &&& L F b ps t=L F b ps (lo s t) &&& L F b ps (hi s t):=by
  unfold lo hi
  by_cases h:t<s
  ·rw [if_pos h,if_neg (by omega),Nat.and_comm]
  ·rw [if_neg h]
   by_cases h2:t > s
   ·rw [if_pos h2]
   ·rw [if_neg h2,show t=s by omega]
 rw [comm]
 have hst:=bo_st hm hs ht
 have hok2:=hst.ok ho
 simp only [bo] at hok2
 unfold bt bp
 have hhi:InT m ps (hi s t):=by unfold hi;split;exact ht;exact hs
 have hlo:InT m ps (lo s t):=by unfold lo;split;exact ht;exact hs
 cases e:sure s t with
 | some v =>
  show L F b ps v=_
  unfold sure at e
  by_cases h1:lo s t=0
  ·rw [if_pos h1] at e
   have:=Option.some.inj e
   rw [← this,h1,L_zero B ps hm,Nat.zero_and]
  rw [if_neg h1] at e
  by_cases h2:lo s t=1∨lo s t=hi s t
  ·rw [if_pos h2] at e
   have:=Option.some.inj e
   rw [← this]
   rcases h2 with h2 | h2
   ·rw [h2,L_one B ps hm,and_full (L_sub B ps _)]
   ·rw [h2,Nat.and_self]
  rw [if_neg h2] at e
  by_cases h3:lo s t=tn (hi s t)
  ·rw [if_pos h3] at e
   have:=Option.some.inj e
   rw [← this,h3,L_tn hhi.1,L_zero B ps hm,and_neg F _ (L_sub B ps _)]
  ·rw [if_neg h3] at e;cases e
 | none =>
  show L F b (kp m ps (lo s t,hi s t)) (2 * kn m ps (lo s t,hi s t))=_
  have hok3:Ok m (kp m ps (lo s t,hi s t)):=by
   have:=hok2
   unfold bp at this
   rw [e] at this
   exact this
  cases hf:fnd (m+1) ps (lo s t,hi s t) with
  | some i =>
   obtain ⟨f1,f2,f3⟩:=fnd_some hf
   have ek:kp m ps (lo s t,hi s t)=ps:=by unfold kp;rw [hf];rfl
   have en:kn m ps (lo s t,hi s t)=m+1+((i - (m+1)).toNat:Nat):=by unfold kn;rw [hf];show i=_;omega
   rw [ek,en]
   exact L_knot B ho hm f3
  | none =>
   have ek:kp m ps (lo s t,hi s t)=ps ++ [(lo s t,hi s t)]:=by unfold kp;rw [hf];rfl
   have en:kn m ps (lo s t,hi s t)=m+1+(ps.length:Nat):=by unfold kn;rw [hf];rfl
   rw [ek] at hok3 ⊢
   rw [en]
   have:=L_knot B hok3 hm (i:=ps.length) (p:=(lo s t,hi s t)) (by simp)
   rw [this,L_ext B hlo,L_ext B hhi]
theorem St.lit (B:Base F m b) {ps:List Pr}{n:Nat}{r:RS} (h:St m ps n r) {x:Int} (hx:InT m ps x):L F b r.2 x=L F b ps x:=by
 obtain ⟨e,he⟩:=h.pre
 rw [he]
 exact L_ext B hx
theorem andR_lit (B:Base F m b) (hm:0≤m):∀ (xs:List Int) (t:Int) (ps:List Pr),Ok m ps→InT m ps t→(∀ x∈xs,InT m ps x) →
  L F b (andR m t xs ps).2 (andR m t xs ps).1=(xs.map (L F b ps)).foldl (fun a c=>a &&& c) (L F b ps t)
 | [],t,ps,_,_,_=>rfl
 | y :: r,t,ps,ho,ht,hx=>by
  have hy:=hx y (List.mem_cons_self ..)
  have st:=bo_st hm ht hy
  have ih:=andR_lit B hm r (bt m ps t y) (bp m ps t y) (st.ok ho) st.inn fun x hx'=>(hx x (List.mem_cons_of_mem _ hx')).mono st.lo
  show L F b (andR m (bt m ps t y) r (bp m ps t y)).2 (andR m (bt m ps t y) r (bp m ps t y)).1=(r.map (L F b ps)).foldl (fun a c=>a &&& c) (L F b ps t &&& L F b ps y)
  rw [ih,L_bo B hm ho ht hy]
  congr 1
  refine List.map_congr_left fun x hx'=>?_
  exact st.lit B (hx x (List.mem_cons_of_mem _ hx'))
theorem orR_lit (B:Base F m b) (hm:0≤m) (xs:List Int) (t:Int) (ps:List Pr) (ho:Ok m ps) (ht:InT m ps t) (hx:∀ x∈xs,InT m ps x) :
  L F b (orR m t xs ps).2 (orR m t xs ps).1=(xs.map (L F b ps)).foldl (fun a c=>a ||| c) (L F b ps t):=by
 have hx':∀ x∈xs.map tn,InT m ps x:=fun x h=>by
  obtain ⟨y,hy,rfl⟩:=List.mem_map.mp h
  exact (hx y hy).tn
 have st:=andR_st hm (xs.map tn) (tn t) ps ht.tn hx'
 unfold orR
 rw [L_tn st.inn.1,andR_lit B hm (xs.map tn) (tn t) ps ho ht.tn hx',L_tn ht.1]
 have e:(xs.map tn).map (L F b ps)=(xs.map (L F b ps)).map fun y=>F ^^^ y:=by
  rw [List.map_map,List.map_map]
  exact List.map_congr_left fun x h=>L_tn (hx x h).1
 rw [e]
 refine foldOr _ _ (L_sub B ps t) fun y hy=>?_
 obtain ⟨x,_,rfl⟩:=List.mem_map.mp hy
 exact L_sub B ps x
theorem eoR_lit (B:Base F m b) (hm:0≤m) {s t:Int}{ps:List Pr} (ho:Ok m ps) (hs:InT m ps s) (ht:InT m ps t):L F b (eoR m s t ps).2 (eoR m s t ps).1=L F b ps s ^^^ L F b ps t:=by
 have h1:=bo_st hm hs ht.tn
 have o1:=h1.ok ho
 have h2:=bo_st hm (hs.tn.mono h1.lo) (ht.mono h1.lo)
 have o2:=h2.ok o1
 have:=orR_lit B hm [(bo m (tn s) t (bo m s (tn t) ps).2).1] (bo m s (tn t) ps).1 (bo m (tn s) t (bo m s (tn t) ps).2).2 o2 (h1.inn.mono h2.lo) fun x hx=>by
  rw [List.mem_singleton] at hx
  subst hx
  exact h2.inn
 refine Eq.trans this ?_
 show L F b (bo m (tn s) t (bo m s (tn t) ps).2).2 (bo m s (tn t) ps).1 ||| L F b (bo m (tn s) t (bo m s (tn t) ps).2).2 (bo m (tn s) t (bo m s (tn t) ps).2).1=_
 rw [h2.lit B h1.inn]
 have a1:L F b (bo m s (tn t) ps).2 (bo m s (tn t) ps).1=_:=L_bo B hm ho hs ht.tn
 have a2:L F b (bo m (tn s) t (bo m s (tn t) ps).2).2 (bo m (tn s) t (bo m s (tn t) ps).2).1=_:=L_bo B hm o1 (hs.tn.mono h1.lo) (ht.mono h1.lo)
 rw [a1,a2,h1.lit B hs.tn,h1.lit B ht,L_tn hs.1,L_tn ht.1]
 exact xor_or (L_sub B ps s) (L_sub B ps t)
theorem eiR_lit (B:Base F m b) (hm:0≤m):∀ (xs:List Int) (t:Int) (ps:List Pr),Ok m ps→InT m ps t→(∀ x∈xs,InT m ps x) →
  L F b (eiR m t xs ps).2 (eiR m t xs ps).1=(xs.map (L F b ps)).foldl (fun a c=>a ^^^ c) (L F b ps t)
 | [],t,ps,_,_,_=>rfl
 | y :: r,t,ps,ho,ht,hx=>by
  have hy:=hx y (List.mem_cons_self ..)
  have st:=eoR_st hm ht hy
  have ih:=eiR_lit B hm r (eoR m t y ps).1 (eoR m t y ps).2 (st.ok ho) st.inn fun x hx'=>(hx x (List.mem_cons_of_mem _ hx')).mono st.lo
  show L F b (eiR m (eoR m t y ps).1 r (eoR m t y ps).2).2 (eiR m (eoR m t y ps).1 r (eoR m t y ps).2).1=(r.map (L F b ps)).foldl (fun a c=>a ^^^ c) (L F b ps t ^^^ L F b ps y)
  rw [ih,eoR_lit B hm ho ht hy]
  congr 1
  refine List.map_congr_left fun x hx'=>?_
  exact st.lit B (hx x (List.mem_cons_of_mem _ hx'))
theorem chR_lit (B:Base F m b) (hm:0≤m) {r s t:Int}{ps:List Pr} (ho:Ok m ps) (hr:InT m ps r) (hs:InT m ps s) (ht:InT m ps t) :
  L F b (chR m r s t ps).2 (chR m r s t ps).1=(L F b ps r &&& L F b ps s) ||| ((F ^^^ L F b ps r) &&& L F b ps t):=by
 have h1:=bo_st hm hr hs
 have o1:=h1.ok ho
 have h2:=bo_st hm (hr.tn.mono h1.lo) (ht.mono h1.lo)
 have o2:=h2.ok o1
 have:=orR_lit B hm [(bo m (tn r) t (bo m r s ps).2).1] (bo m r s ps).1 (bo m (tn r) t (bo m r s ps).2).2 o2 (h1.inn.mono h2.lo) fun x hx=>by
  rw [List.mem_singleton] at hx
  subst hx
  exact h2.inn
 refine Eq.trans this ?_
 show L F b (bo m (tn r) t (bo m r s ps).2).2 (bo m r s ps).1 ||| L F b (bo m (tn r) t (bo m r s ps).2).2 (bo m (tn r) t (bo m r s ps).2).1=_
 rw [h2.lit B h1.inn]
 have a1:L F b (bo m r s ps).2 (bo m r s ps).1=_:=L_bo B hm ho hr hs
 have a2:L F b (bo m (tn r) t (bo m r s ps).2).2 (bo m (tn r) t (bo m r s ps).2).1=_:=L_bo B hm o1 (hr.tn.mono h1.lo) (ht.mono h1.lo)
 rw [a1,a2,h1.lit B hr.tn,h1.lit B ht,L_tn hr.1]
theorem moR_lit (B:Base F m b) (hm:0≤m) {r s t:Int}{ps:List Pr} (ho:Ok m ps) (hr:InT m ps r) (hs:InT m ps s) (ht:InT m ps t) :
  L F b (moR m r s t ps).2 (moR m r s t ps).1=(L F b ps r &&& L F b ps s) ||| (L F b ps r &&& L F b ps t) ||| (L F b ps s &&& L F b ps t):=by
 have h1:=bo_st hm hr hs
 have o1:=h1.ok ho
 have h2:=bo_st hm (hr.mono h1.lo) (ht.mono h1.lo)
 have o2:=h2.ok o1
 have h12:=h1.trans h2
 have h3:=bo_st hm (hs.mono h12.lo) (ht.mono h12.lo)
 have o3:=h3.ok o2
 have:=orR_lit B hm [(bo m r t (bo m r s ps).2).1,(bo m s t (bo m r t (bo m r s ps).2).2).1] (bo m r s ps).1 (bo m s t (bo m r t (bo m r s ps).2).2).2 o3 ((h1.inn.mono h2.lo).mono h3.lo) fun x hx=>by
  rcases List.mem_cons.mp hx with rfl | hx
  ·exact h2.inn.mono h3.lo
  ·rw [List.mem_singleton] at hx
   subst hx
   exact h3.inn
 refine Eq.trans this ?_
 show L F b (bo m s t (bo m r t (bo m r s ps).2).2).2 (bo m r s ps).1 ||| L F b (bo m s t (bo m r t (bo m r s ps).2).2).2 (bo m r t (bo m r s ps).2).1 ||| L F b (bo m s t (bo m r t (bo m r s ps).2).2).2 (bo m s t (bo m r t (bo m r s ps).2).2).1=_
 rw [h3.lit B (h1.inn.mono h2.lo),h3.lit B h2.inn,h2.lit B h1.inn]
 have a1:L F b (bo m r s ps).2 (bo m r s ps).1=_:=L_bo B hm ho hr hs
 have a2:L F b (bo m r t (bo m r s ps).2).2 (bo m r t (bo m r s ps).2).1=_:=L_bo B hm o1 (hr.mono h1.lo) (ht.mono h1.lo)
 have a3:L F b (bo m s t (bo m r t (bo m r s ps).2).2).2 (bo m s t (bo m r t (bo m r s ps).2).2).1=_:=L_bo B hm o2 (hs.mono h12.lo) (ht.mono h12.lo)
 rw [a1,a2,a3,h1.lit B hr,h1.lit B ht,h12.lit B hs,h12.lit B ht]
end
end MF
set_option maxHeartbeats 4000000
namespace L2
open PySem PySem.Spec PyProof.Rows
def knK (p:MF.Pr):List Key:=[.inl p.1,.inl p.2]
theorem knK_inj {p q:MF.Pr} (h:knK p=knK q):p=q:=by
 unfold knK at h
 injection h with h1 h2
 injection h2 with h3 _
 exact Prod.ext (Sum.inl.inj h1) (Sum.inl.inj h3)
def kvF:Int→List MF.Pr→List (List Key × V)
 | _,[]=>[]
 | n,p :: r=>(knK p,.int n) :: kvF (n+1) r
theorem val_kvF:∀ (n:Int) (ps:List MF.Pr) (p:MF.Pr),valV (kvF n ps) (knK p)=(MF.fnd n ps p).map V.int
 | _,[],_=>rfl
 | n,q :: r,p=>by
  show valV ((knK q,V.int n) :: kvF (n+1) r) (knK p)=_
  unfold MF.fnd
  by_cases e:q=p
  ·rw [if_pos e,valV_pos (p:=(knK q,V.int n)) (congrArg knK e)];rfl
  ·rw [if_neg e,valV_neg (p:=(knK q,V.int n)) (fun z=>e (knK_inj z)),val_kvF (n+1) r p]
theorem kvF_snoc:∀ (n:Int) (ps:List MF.Pr) (p:MF.Pr),kvF n (ps ++ [p])=kvF n ps ++ [(knK p,.int (n+ps.length))]
 | n,[],p=>by simp [kvF]
 | n,q :: r,p=>by
  show (knK q,V.int n) :: kvF (n+1) (r ++ [p])=(knK q,V.int n) :: (kvF (n+1) r ++ _)
  rw [kvF_snoc (n+1) r p]
  congr 5
  simp only [List.length_cons]
  omega
theorem len_kvF:∀ (n:Int) (ps:List MF.Pr),(kvF n ps).length=ps.length
 | _,[]=>rfl
 | n,q :: r=>by show (kvF (n+1) r).length+1=r.length+1;rw [len_kvF (n+1) r]
theorem put_kvF {n:Int}{ps:List MF.Pr}{p:MF.Pr} (h:MF.fnd n ps p=none):putK (kvF n ps) (knK p) (.int (n+ps.length))=kvF n (ps ++ [p]):=by
 unfold putK
 rw [valV_any,val_kvF,h,kvF_snoc]
 rfl
abbrev En:=Addr × MF.Pr
abbrev psOf (es:List En):List MF.Pr:=es.map (·.2)
structure PairsAt (H:Hp) (pl kl:Addr) (m:Int) (es:List En):Prop where
 lst:H pl=some (.lst (es.map fun e=>V.ref e.1))
 dct:H kl=some (.dT (kvF (m+1) (psOf es)))
 tup:∀ e∈es,H e.1=some (.tup [.int e.2.1,.int e.2.2])
def Un2 (pl kl:Addr) (H H':Hp):Prop:=∀ b o,b≠pl→b≠kl→H b=some o→H' b=some o
section
variable {H H' H1:Hp}{pl kl p2 k2 f dx C:Addr}{m:Int}{es:List En}{o:HO}
theorem Un2.refl:Un2 pl kl H H:=fun _ _ _ _ e=>e
theorem Un2.trans (u:Un2 pl kl H H') (v:Un2 pl kl H' H1):Un2 pl kl H H1:=fun b o n1 n2 e=>v b o n1 n2 (u b o n1 n2 e)
theorem Same.un (s:Same H H'):Un2 pl kl H H':=fun b o _ _ e=>s b o e
theorem un_l:Un2 pl kl H (upd H pl o):=fun b u n1 _ e=>by rw [upd_ne n1];exact e
theorem un_k:Un2 pl kl H (upd H kl o):=fun b u _ n2 e=>by rw [upd_ne n2];exact e
theorem PairsAt.same (h:PairsAt H pl kl m es) (s:Same H H'):PairsAt H' pl kl m es:=⟨s _ _ h.lst,s _ _ h.dct,fun e he=>s _ _ (h.tup e he)⟩
structure FoldAt (C:Addr) (H:Hp) (f:Addr) (m:Int) (es:List En) (dx pl kl:Addr):Prop where
 ins:H f=some (.ins C dx [("many",.int m),("pairs",.ref pl),("knots",.ref kl)])
 prs:PairsAt H pl kl m es
theorem FoldAt.same (h:FoldAt C H f m es dx pl kl) (s:Same H H'):FoldAt C H' f m es dx pl kl:=⟨s _ _ h.ins,h.prs.same s⟩
theorem PairsAt.nlk (h:PairsAt H pl kl m es):pl≠kl:=ne_of h.lst h.dct (fun z=>nomatch z)
theorem PairsAt.put (h:PairsAt H pl kl m es) {tp:Addr}{p:MF.Pr} (ht:H tp=some (.tup [.int p.1,.int p.2])) (hf:MF.fnd (m+1) (psOf es) p=none) :
  PairsAt (upd (upd H kl (.dT (kvF (m+1) (psOf es ++ [p])))) pl (.lst ((es.map fun e=>V.ref e.1) ++ [.ref tp]))) pl kl m (es ++ [(tp,p)]):=by
 have nt:∀ {b:Addr}{xs:List V},H b=some (.tup xs)→upd (upd H kl (.dT (kvF (m+1) (psOf es ++ [p])))) pl (.lst ((es.map fun e=>V.ref e.1) ++ [.ref tp])) b=some (.tup xs):=fun {b xs} e=>by
  rw [upd_ne (ne_of e h.lst (fun z=>nomatch z)),upd_ne (ne_of e h.dct (fun z=>nomatch z))];exact e
 refine ⟨?_,?_,fun e he=>?_⟩
 ·rw [upd_same,List.map_append];rfl
 ·rw [upd_ne h.nlk.symm,upd_same,psOf,psOf,List.map_append];rfl
 ·rcases List.mem_append.mp he with he | he
  ·exact nt (h.tup e he)
  ·rw [List.mem_singleton] at he
   subst he
   exact nt ht
end
theorem SqL.un2 {K:PySem.W.Frag}{H H':Hp}{pl kl tp:Addr}{xs ys:List V}{kv:List (List Key × V)} (h:SqL K H tp xs) (hp:H pl=some (.lst ys)) (hk:H kl=some (.dT kv)) (hne:xs≠ys) (u:Un2 pl kl H H'):SqL K H' tp xs:=by
 rcases h with (h | ⟨o,h⟩) | h
 ·exact .inl (.inl (u _ _ (ne_of h hp (fun z=>hne (HO.lst.inj z))) (ne_of h hk (fun z=>nomatch z)) h))
 ·exact .inl (.inr ⟨o,u _ _ (ne_of h hp (fun z=>nomatch z)) (ne_of h hk (fun z=>nomatch z)) h⟩)
 ·exact .inr h
theorem ints_ne {ts:List Int}{es:List En} (h:ts≠[]):ts.map V.int≠es.map fun e=>V.ref e.1:=by
 intro e
 cases ts with
 | nil=>exact h rfl
 | cons t r =>
  cases es with
  | nil=>cases e
  | cons x xs=>cases e
theorem cut_1 (xs:List V):cutV xs (some 1) none=xs.drop 1:=by
 unfold cutV
 have e1:HT.sIx xs.length 0 (some 1)=min 1 xs.length:=by
  have:=HT.sIx_nat xs.length 0 1
  rw [show ((1:Nat):Int)=1 from rfl] at this
  rw [this]
 have e2:HT.sIx xs.length xs.length none=xs.length:=rfl
 rw [e1,e2]
 cases xs with
 | nil=>rfl
 | cons a r =>
  have:min 1 (a :: r).length=1:=by simp only [List.length_cons];omega
  rw [this,List.take_of_length_le (by simp)]
theorem xor_one {t:Int} (h:0≤t):Builtin.bitXor t 1=MF.tn t:=by
 obtain ⟨a,rfl⟩:=Int.eq_ofNat_of_zero_le h
 have e:=xor_nat a 1
 rw [show ((1:Nat):Int)=1 from rfl] at e
 rw [e]
 have h1:(a ^^^ 1) / 2=a / 2:=by rw [Nat.xor_div_two];simp
 have h2:(a ^^^ 1) % 2=(a+1) % 2:=by
  have:=Nat.xor_mod_two_pow (a:=a) (b:=1) (n:=1)
  rw [show 2 ^ 1=2 from rfl] at this
  rw [this]
  rcases Nat.mod_two_eq_zero_or_one a with q | q
  ·rw [q,show 0 ^^^ 1 % 2=1 from rfl];omega
  ·rw [q,show 1 ^^^ 1 % 2=0 from rfl];omega
 unfold MF.tn
 split <;> omega
theorem cut_take (xs:List V) {j:Int} (h:0≤j):cutV xs none (some j)=xs.take j.toNat:=by
 obtain ⟨n,rfl⟩:=Int.eq_ofNat_of_zero_le h
 unfold cutV
 have e1:HT.sIx xs.length 0 none=0:=rfl
 have e2:HT.sIx xs.length xs.length (some (n:Int))=min n xs.length:=HT.sIx_nat ..
 rw [e1,e2,List.drop_zero,Nat.sub_zero,Int.toNat_natCast]
 rcases Nat.le_total n xs.length with h | h
 ·rw [Nat.min_eq_left h]
 ·rw [Nat.min_eq_right h,List.take_length,List.take_of_length_le h]
theorem getD_refs (es:List En) (n:Nat) (h:n<es.length):(es.map fun e=>V.ref e.1).getD n .non=V.ref (es[n]).1:=by simp [List.getD,h]
end L2
set_option maxHeartbeats 4000000
namespace DL
open PySem DZ
theorem entry_list_ga:entryFor table "list.__getattribute__" = some Builtin.«object.__getattribute__» :=
 entryFor_alias (id':="object.__getattribute__") (by kernel_rfl) (by first | rfl | decide +kernel) (by decide +kernel) (by kernel_rfl)
theorem lk_list_keys:typeLookup (.type "list") "keys" = pure none:=by rw [typeLookup_type,builtinLookup_eq_fast];kernel_rfl
section
variable {prog:Program}{w:World}{A:Around}{E:Value→Shared→Prop}{h:Heap}{g:Array GenState}{d:Drawn}{t:Nat}{os:OsState}{z:Addr}{vs:Array Value}{n:Nat}
theorem keys_entry {tk:Tok}{Q:Fin→Shared→Prop} (hh:A.handled=none) (hz:h.get? z=some { cls:=.type "list",dict:=none,data:=.seq vs n,slots:=#[] })
  (hE:∀ h' e t',(∀ c o,h.get? c=some o→h'.get? c=some o)→(∃ o,h'.get? e=some o∧o.cls=.type "AttributeError")→E (.ref e) ⟨h',g,d,t',os⟩) :
  wpAny (model prog w) A (Builtin.«object.__getattribute__» ⟨[.ref z,.str "keys" tk],[]⟩) Q E ⟨h,g,d,t,os⟩:=by
 have hT:(⟨h,g,d,t,os⟩:Shared).TypeIs (.ref z) "list":=⟨_,hz,rfl⟩
 have f4:=lk_list_keys
 repeat (any_goals (first | assumption | wp_step))
 refine wpAny_raiseAttrError hh (fun h' tk' e x=>?_) (attrMsg_fits (by decide +kernel) (by decide +kernel))
 obtain ⟨t',u',he⟩:=x.there
 exact hE h' e tk' (fun c o q=>x.keeps c o q) ⟨_,he,rfl⟩
theorem keys_call {tk:Tok}{R:Result→Shared→Prop} (hh:A.handled=none) (hz:h.get? z=some { cls:=.type "list",dict:=none,data:=.seq vs n,slots:=#[] })
  (hE:∀ h' e t',(∀ c o,h.get? c=some o→h'.get? c=some o)→(∃ o,h'.get? e=some o∧o.cls=.type "AttributeError")→R (.error (.ref e)) ⟨h',g,d,t',os⟩) :
  codeAny (model prog w) A (.call (.builtin "list.__getattribute__") ⟨[.ref z,.str "keys" tk],[]⟩) R ⟨h,g,d,t,os⟩ :=
 codeAny_call_builtin F.slot_list_getattribute.plain entry_list_ga (F.slot_list_getattribute.check _ _ _ _ _ _ _ _ (show (⟨h,g,d,t,os⟩:Shared).TypeIs (.ref z) "list" from ⟨_,hz,rfl⟩) (F.args_list_getattribute_2 _ _) (keys_entry hh hz hE))
theorem keys_by {tk:Tok}{Q:Value→Shared→Prop} (hh:A.handled=none) (hz:h.get? z=some { cls:=.type "list",dict:=none,data:=.seq vs n,slots:=#[] })
  (hE:∀ h' e t',(∀ c o,h.get? c=some o→h'.get? c=some o)→(∃ o,h'.get? e=some o∧o.cls=.type "AttributeError")→E (.ref e) ⟨h',g,d,t',os⟩) :
  wpAny (model prog w) A (getAttrBy (.ref z) (.str "keys" tk) false) Q E ⟨h,g,d,t,os⟩:=by
 have hT:(⟨h,g,d,t,os⟩:Shared).TypeIs (.ref z) "list":=⟨_,hz,rfl⟩
 have f2:=F.slot_list_getattribute.lookup
 have f3:=F.slot_list_getattribute.bind (.ref z)
 have f1:=sub_AttributeError
 repeat (any_goals (first | assumption | wp_step))
 refine keys_call hh hz fun h' e t' k he=>?_
 obtain ⟨o,ho,hc⟩:=he
 have hTe:(⟨h',g,d,t',os⟩:Shared).TypeIs (.ref e) "AttributeError":=⟨o,ho,hc⟩
 have fin:=hE h' e t' k ⟨o,ho,hc⟩
 have f5:typeLookup (.type "list") "__getattr__" = pure none:=by rw [typeLookup_type,builtinLookup_eq_fast];kernel_rfl
 show wpAny _ _ (getattributeRaised _ _ _ _ _ _ _) _ _ _
 unfold getattributeRaised
 repeat (any_goals (first | assumption | wp_step))
theorem keys_none {Q:Option Value→Shared→Prop} (hh:A.handled=none) (hz:h.get? z=some { cls:=.type "list",dict:=none,data:=.seq vs n,slots:=#[] })
  (hq:∀ h' t',(∀ c o,h.get? c=some o→h'.get? c=some o)→Q none ⟨h',g,d,t',os⟩) :
  wpAny (model prog w) A (getAttr? (.ref z) "keys") Q E ⟨h,g,d,t,os⟩:=by
 unfold getAttr? getAttrBy?
 have f1:=sub_AttributeError
 refine wpAny_bind (wpAny_mkText ?_)
 refine wpAny_bind (wpAny_attempt (keys_by hh hz fun h' e t' k he=>?_))
 obtain ⟨o,ho,hc⟩:=he
 refine wpAny_bind (wpAny_isInstance (T:="AttributeError") (b:=true) ⟨o,ho,hc⟩ f1 ?_)
 exact wpAny_pure (hq _ _ k)
end
section
variable {prog:Program}{w:World}{A:Around}{E:Value→Shared→Prop}{s:Shared}{κ:Type} [DecidableEq κ] {knd:KeyKind prog w κ}
def Prs (knd:KeyKind prog w κ) (d it:Addr) (xs:Array Value) (es:List (κ × Value)) (h:Heap):Prop :=
 ∀ (j:Nat) p,es[j]? = some p→∃ T kx o m,xs[j]? = some (.ref T)∧T≠d∧T≠it∧knd.is p.1 kx=true∧h.get? T=some o∧o.cls=.type "tuple" ∧ o.data=.seq #[kx,p.2] m
theorem dict_loop {it l d:Addr}{xs:Array Value}{es:List (κ × Value)}{R:Result→Shared→Prop} (hh:A.handled=none) (n1:it≠d) (n2:l≠d) (n3:l≠it) (hk:es.length=xs.size) (hz:xs.size≤2000) :
  ∀ (m i:Nat) (s:Shared) (kvs:List (κ × Value)),i+m=xs.size→kvs.length≤i→s.heap.IsListIter it l i→s.heap.IsList l xs→Prs knd d it xs es s.heap→s.heap.DictOf knd d kvs →
   (∀ h' t',h'.DictOf knd d ((es.drop i).foldl (fun e p=>stored e p.1 p.2) kvs)→(∀ c o,c≠d→c≠it→s.heap.get? c=some o→h'.get? c=some o)→R (.ok (.ret .none)) { s with heap:=h',toks:=t' }) →
   codeAny (model prog w) A (.builtin "dict.update.loop" ⟨[.ref d,.ref it,rawInt i,.none],[]⟩) R s
 | 0,i,s,kvs,hm,hl,S,L,P,hd,hR=>by
  refine codeAny_builtin entry_dict_loop ?_
  rw [Around.under_plainId plain_dict_loop _]
  unfold Builtin.«dict.update.loop»
  refine wpAny_bind (wpAny_pyNext_list_end hh S L (Array.getElem?_eq_none (by omega)) fun h' eb=>?_)
  have e1:es.drop i=[]:=List.drop_eq_nil_of_le (by omega)
  rw [e1] at hR
  have hd':h'.DictOf knd d kvs:=by
   obtain ⟨o,es,ep,ho,r⟩:=hd
   exact ⟨o,es,ep,eb _ _ n1.symm ho,r⟩
  exact wpAny_bind (wpAny_pure (wpAny_pure (hR h' s.toks hd' fun c o c0 c1 e=>eb c o c1 e)))
 | m+1,i,s,kvs,hm,hl,S,L,P,hd,hR=>by
  refine codeAny_builtin entry_dict_loop ?_
  rw [Around.under_plainId plain_dict_loop _]
  unfold Builtin.«dict.update.loop»
  have hi:i<es.length:=by omega
  have hei:es[i]? = some es[i]:=List.getElem?_eq_getElem hi
  obtain ⟨T,kx,o,mm,hx,nd,nit,hkx,ho,hcl,hda⟩:=P i _ hei
  refine wpAny_bind (wpAny_pyNext_list_item S L (x:=.ref T) hx fun h1 S1 sb1=>?_)
  have k1:∀ c o,c≠it→s.heap.get? c=some o→h1.get? c=some o:=fun c o hc e=>(sb1.2 c hc).trans e
  refine wpAny_bind (wpAny_holding ?_)
  have hd1:h1.DictOf knd d kvs:=by
   obtain ⟨o,es,ep,ho,r⟩:=hd
   exact ⟨o,es,ep,k1 _ _ n1.symm ho,r⟩
  refine wpAny_bind (wpAny_tryCatch ?_)
  unfold Builtin.Dict.pairItems
  refine wpAny_bind (wpAny_typeOf (T:="tuple") ⟨o,k1 _ _ nit ho,hcl⟩ ?_)
  rw [if_pos (by decide)]
  refine wpAny_bind (wpAny_seqItems (k1 _ _ nit ho) hda (wpAny_pure ?_))
  refine wpAny_holding (wpAny_dictSet_pairs (knd:=knd) (s:={ s with heap:=h1 }) hkx hd1 (fun h2 d2 sb=>?_) (Nat.le_trans hl (Nat.le_trans (by omega) (show 2000≤sizeLine by decide))))
  have k2:∀ c o,c≠d→h1.get? c=some o→h2.get? c=some o:=fun c o hc e=>(sb.2 c hc).trans e
  have S2:h2.IsListIter it l (i+1):=S1.at fun o e=>k2 it o n1 e
  have L2:h2.IsList l xs:=L.at fun o e=>k2 l o n2 (k1 l o n3 e)
  have P2:Prs knd d it xs es h2:=fun j p hj=>by
   obtain ⟨T',kx',o',m',q1,q2,q3,q4,q5,q6,q7⟩:=P j p hj
   exact ⟨T',kx',o',m',q1,q2,q3,q4,k2 _ _ q2 (k1 _ _ q3 q5),q6,q7⟩
  refine wpAny_pure ⟨plainId_quiet plain_dict_loop _,?_⟩
  have e1:es.drop i=es[i] :: es.drop (i+1):=List.drop_eq_getElem_cons hi
  refine dict_loop hh n1 n2 n3 hk hz m (i+1) _ _ (by omega) ?_ S2 L2 P2 d2 ?_
  ·have:=len_stored kvs es[i].1 es[i].2
   omega
  ·intro h' t' d' k'
   rw [e1] at hR
   exact hR h' t' d' fun c o c0 c1 e=>k' c o c0 c1 (k2 c o c0 (k1 c o c1 e))
theorem iter_l {l:Addr}{xs:Array Value}{n:Nat}{Q:Value→Shared→Prop} (hz:s.heap.get? l=some { cls:=.type "list",dict:=none,data:=.seq xs n,slots:=#[] })
  (h:Q (.ref s.heap.objs.size) { s with heap:=s.heap.push { cls:=.type "list_iterator",data:=.fields #[.ref l,.int 0 0] } }):wpAny (model prog w) A (pyIter (.ref l)) Q E s:=wpAny_pyIter_list (items:=xs) ⟨_,hz,rfl,n,rfl⟩ h
theorem call_dict {l:Addr}{xs:Array Value}{n:Nat}{es:List (κ × Value)}{Q:Value→Shared→Prop} (hh:A.handled=none) (hl:s.heap.get? l=some { cls:=.type "list",dict:=none,data:=.seq xs n,slots:=#[] })
  (hk:es.length=xs.size) (hz:xs.size≤2000) (P:∀ (j:Nat) p,es[j]? = some p→∃ T kx o m,xs[j]? = some (.ref T)∧knd.is p.1 kx=true∧s.heap.get? T=some o∧o.cls=.type "tuple" ∧ o.data=.seq #[kx,p.2] m)
  (q:∀ h' t',h'.DictOf knd s.heap.objs.size (es.foldl (fun e p=>stored e p.1 p.2) [])→(∀ c o,s.heap.get? c=some o→h'.get? c=some o)→Q (.ref s.heap.objs.size) { s with heap:=h',toks:=t' }) :
  wpAny (model prog w) A (call (.type "dict") [.ref l]) Q E s:=by
 refine callType_codes (Q₁:=fun v s1=>v=.ref s.heap.objs.size∧s1={ s with heap:=s.heap.push { cls:=.type "dict",data:=.dict #[] } }) called_dict (typeCall_dict_1 _) F.entry_dict_init (dict_new _ ⟨rfl,rfl⟩) ?_
 rintro obj s1 ⟨rfl,rfl⟩
 refine ⟨⟨_,Heap.get?_push_size _ rfl,rfl⟩,F.args_dict_init_2 _ _,?_⟩
 obtain ⟨hp,g,d0,tk,os⟩:=s
 dsimp only at *
 have hl':=Heap.get?_push_of_some { cls:=.type "dict",data:=.dict #[] } hl
 have hTd:(⟨hp.push { cls:=.type "dict",data:=.dict #[] },g,d0,tk,os⟩:Shared).TypeIs (.ref hp.objs.size) "dict":=⟨_,Heap.get?_push_size _ rfl,rfl⟩
 have hTz:(⟨hp.push { cls:=.type "dict",data:=.dict #[] },g,d0,tk,os⟩:Shared).TypeIs (.ref l) "list":=⟨_,hl',rfl⟩
 have hsub:=sub_dict_self
 unfold Builtin.«dict.__init__»
 repeat (any_goals (first | assumption | (with_reducible refine keys_none hh hl' fun h' t' k=>?_) | (with_reducible refine iter_l (k _ _ hl') ?_) | wp_step))
 have lt:∀ {c:Addr}{o:Obj},hp.get? c=some o→c≠hp.objs.size:=fun e=>Nat.ne_of_lt (Heap.lt_size e)
 have up:∀ c o,hp.get? c=some o→h'.get? c=some o:=fun c o e=>k c o (Heap.get?_push_of_some _ e)
 have up2:∀ c o,hp.get? c=some o→(h'.push { cls:=.type "list_iterator",data:=.fields #[.ref l,.int 0 0] }).get? c=some o:=fun c o e=>Heap.get?_push_of_some _ (up c o e)
 have lt2:∀ {c:Addr}{o:Obj},hp.get? c=some o→c≠h'.objs.size:=fun e=>Nat.ne_of_lt (Heap.lt_size (up _ _ e))
 have nd:h'.objs.size≠hp.objs.size:=(Nat.ne_of_lt (Heap.lt_size (k _ _ (Heap.get?_push_size _ rfl)))).symm
 refine ⟨plainId_quiet plain_dict_loop _,dict_loop (A:=A.in1) (knd:=knd) (es:=es) (show A.in1.handled=none from hh) nd (lt hl) (lt2 hl) hk hz xs.size 0 _ [] (by omega) (by simp) ⟨_,Heap.get?_push_size _ rfl,rfl,rfl⟩ ⟨_,up2 _ _ hl,rfl,n,rfl⟩ (fun j p hj=>?_) ?_ ?_⟩
 ·obtain ⟨T,kx,o,m,q1,q2,q3,q4,q5⟩:=P j p hj
  exact ⟨T,kx,o,m,q1,lt q3,lt2 q3,q2,up2 _ _ q3,q4,q5⟩
 ·obtain ⟨o,es,ep,ho,r⟩:=Heap.DictOf.new (knd:=knd) hp
  exact ⟨o,es,ep,Heap.get?_push_of_some _ (k _ _ ho),r⟩
 ·intro h2 t2 d2 k2
  refine ⟨rfl,q h2 t2 ?_ fun c o e=>k2 c o (lt e) (lt2 e) (up2 c o e)⟩
  simpa using d2
end
end DL
namespace L2
open PySem PySem.Spec PyProof.Rows
def cDictP (_:PySem.W.Frag):List V→Hp→VK→Prop:=fun vs H Q=>match vs with
 | [.ref a]=>∃ (ys:List V) (ps:List (Key × V)),H a=some (.lst ys)∧ys.length=ps.length∧ps.length≤2000∧(∀ (j:Nat) p,ps[j]? = some p→∃ T,ys[j]? = some (.ref T)∧H T=some (.tup [kV p.1,p.2]))∧∀ p H',New H p (.dK (mergeK [] ps)) H'→Q (.ref p) H'
 | _=>False
theorem pairsKV {F:Nat→Key × V→Key × Value→Prop}:∀ (ps:List (Key × V)) (m:Nat),(∀ (j:Nat) p,ps[j]? = some p→∃ u,RelV p.2 u∧F (m+j) p (p.1,u)) →
  ∃ es:List (Key × Value),es.length=ps.length∧(∀ (j:Nat) e,es[j]? = some e→∃ p,ps[j]? = some p∧F (m+j) p e)∧∀ (kvs:List (Key × V)) (ws:List (Key × Value)),KV kvs ws→KV (ps.foldl (fun acc kv=>putK acc kv.1 kv.2) kvs) (es.foldl (fun e p=>stored e p.1 p.2) ws)
 | [],m,_=>⟨[],rfl,fun j e h=>by simp at h,fun kvs ws r=>r⟩
 | p :: r,m,h=>by
  obtain ⟨u,ru,fu⟩:=h 0 p rfl
  obtain ⟨es,hl,he,hk⟩:=pairsKV r (m+1) fun j p' hj=>by
   obtain ⟨u',h1,h2⟩:=h (j+1) p' (by simpa using hj)
   exact ⟨u',h1,by rw [show m+1+j=m+(j+1) by omega];exact h2⟩
  refine ⟨(p.1,u) :: es,by simp [hl],fun j e hj=>?_,fun kvs ws rr=>hk _ _ (rr.put p.1 ru)⟩
  cases j with
  | zero =>
   have:(p.1,u)=e:=by simpa using hj
   subst this
   exact ⟨p,rfl,fu⟩
  | succ j =>
   obtain ⟨p',h1,h2⟩:=he j e (by simpa using hj)
   exact ⟨p',by simpa using h1,by rw [show m+(j+1)=m+1+j by omega];exact h2⟩
theorem c_dictP {X:Cx} (hc:X.calm=true):CallR X (.type "dict") (cDictP X.K):=by
 intro pins s σ H xs us Q I r h
 match xs,h with
 | [.ref a],h =>
  obtain ⟨ys,ps,hL,hl,hz,hp,q⟩:=h
  obtain ⟨u1,rfl,e1⟩:=vals1 r
  cases e1
  obtain ⟨z,its,n,rv,hlen,hget⟩:=I.lstM hL
  have item:∀ (j:Nat) p,ps[j]? = some p→∃ u,RelV p.2 u∧∃ T kx o m,its[j]? = some (.ref T)∧(mixKind X.prog X.w).is p.1 kx=true∧s.heap.get? T=some o∧o.cls=.type "tuple" ∧ o.data=.seq #[kx,u] m:=fun j p hj=>by
   obtain ⟨T,hT,hH⟩:=hp j p hj
   obtain ⟨uT,h1,h2⟩:=rv.get hT
   cases h2
   obtain ⟨itt,rt,⟨o,ho,hcl,m,hda⟩,_⟩:=I.tuple (SqT.of hH)
   obtain ⟨w1,w2,rfl,r1,r2⟩:=Vals.two rt
   exact ⟨w2,r2,T,w1,o,m,h1,kV_is r1,ho,hcl,hda⟩
  obtain ⟨es,hel,hes,hkv⟩:=pairsKV (F:=fun j p e=>∃ T kx o m,its[j]? = some (.ref T)∧(mixKind X.prog X.w).is e.1 kx=true∧s.heap.get? T=some o∧o.cls=.type "tuple" ∧ o.data=.seq #[kx,e.2] m) ps 0 fun j p hj=>by
   obtain ⟨u,h1,T,kx,o,m,h2⟩:=item j p hj
   exact ⟨u,h1,T,kx,o,m,by rw [Nat.zero_add];exact h2⟩
  refine DL.call_dict (knd:=mixKind X.prog X.w) (es:=es) (I.ok.hd hc) hget (by rw [List.size_toArray];omega) (by rw [List.size_toArray];omega) (fun j p hj=>?_) fun h2 t2 dd k2=>?_
  ·obtain ⟨p',_,T,kx,o,m,q1,q2,q3,q4,q5⟩:=hes j p hj
   exact ⟨T,kx,o,m,by rw [Nat.zero_add] at q1;simpa using q1,q2,q3,q4,q5⟩
  ·have hfree:H s.heap.objs.size=none:=I.hok.fresh (Nat.le_refl _)
   have rel:KV (mergeK [] ps) (es.foldl (fun e p=>stored e p.1 p.2) []):=hkv [] [] .nil
   have hlen2:(mergeK [] ps).length≤sizeLine:=by
    have h1:=length_mergeK ps []
    rw [List.length_nil] at h1
    rw [sizeLine_eq];omega
   have hsm:((s.heap.objs.size:Addr) == sysModules)=false:=beq_eq_false_iff_ne.mpr (Ne.symm (Nat.ne_of_lt I.big))
   refine ⟨.ref s.heap.objs.size,upd H s.heap.objs.size (.dK (mergeK [] ps)),?_,rfl,q _ _ ⟨hfree,rfl⟩⟩
   exact I.dz (ch:=[]) (h':=h2) (t':=t2) (fun b hb=>nomatch hb) (Nat.le_refl _) (fun b o _ e=>k2 b o e) (dk_new hlen2 hsm rel dd)
end L2
set_option maxHeartbeats 4000000
namespace EX
open PySem
structure Lv (S:List Addr) (e:Addr) (old:List Addr) (cls:Value) (h h':Heap) (T:Addr):Prop where
 ge:h.objs.size≤T
 exc:∃ oe vs,h'.get? e=some oe∧oe.cls=cls∧oe.data=.fields vs∧vs[1]? = some (.ref T)∧oe.dict=none
 tb:∃ oT ts,h'.get? T=some oT∧oT.data=.fields ts∧ts[3]? = some .none
 keep:∀ b o,b ∉ S→b≠e→b ∉ old→h.get? b=some o→h'.get? b=some o
 slot:∀ b o,b∈S→h.get? b=some o→∃ sl,h'.get? b=some { o with slots:=sl }
section
variable {M:Model}{A:Around}{E:Value→Shared→Prop}{s:Shared}
def Trc (h:Heap) (e:Addr) (vs:Array Value) (old:List Addr):Prop :=
 (vs[1]? = some .none∧old=[])∨∃ T0 oT ts,old=[T0]∧vs[1]? = some (.ref T0)∧T0≠e∧h.get? T0=some oT∧oT.data=.fields ts∧ts[3]? = some .none
end
end EX
set_option maxHeartbeats 4000000
namespace L2
open PySem PySem.Spec PyProof.Rows
theorem ObjOk.has {P:Program}{w:World}{H:Hp}{h:Heap}{a:Addr}{o:HO} (x:ObjOk P w H h a o):∃ u,h.get? a=some u:=by
 cases o with
 | lst xs=>obtain ⟨_,_,_,_,e⟩:=x;exact ⟨_,e⟩
 | tup xs=>obtain ⟨_,_,_,_,e,_⟩:=x;exact ⟨_,e⟩
 | dK kvs=>obtain ⟨_,_,_,_,o,_,_,e,_⟩:=x;exact ⟨_,e⟩
 | dT kvs=>obtain ⟨_,_,_,_,o,_,_,e,_⟩:=x;exact ⟨_,e⟩
 | set S n=>obtain ⟨o,_,_,_,e,_⟩:=x;exact ⟨_,e⟩
 | ins C dx fs=>obtain ⟨_,_,_,e,_⟩:=x;exact ⟨_,e⟩
 | own y=>exact x
 | xd fs=>obtain ⟨_,⟨_,_,_,e,_⟩,_⟩:=x;exact ⟨_,e⟩
 | rng lo hi=>obtain ⟨_,_,_,e⟩:=x;exact ⟨_,e⟩
 | frz ob u=>obtain ⟨e,_⟩:=x;exact ⟨_,e⟩
 | tbl ps=>exact ⟨_,(show h.get? a=some _ from x)⟩
 | met f y=>exact ⟨_,(show h.get? a=some _ from x)⟩
 | ext φ=>obtain ⟨_,e,_⟩:=x;exact e
theorem HOk.unseen {P:Program}{w:World}{H:Hp}{h:Heap}{a:Addr} (x:HOk P w H h) (e:h.get? a=none):H a=none:=by
 cases q:H a with
 | none=>rfl
 | some u =>
  obtain ⟨o,z⟩:=(x a u q).has
  rw [e] at z;cases z
def FlOk (X:Cx) (pins:List (Addr × Obj)) (H:Hp) (b:Addr):Prop :=
 H b=none∧b≠X.env.locals∧b ∉ X.fs∧(b∈X.ex∨X.s₀.heap.get? b=none)∧(∀ x c,X.env.cells.lookup x=some c→c≠b)∧∀ p∈X.pn ++ pins,p.1≠b
structure Fly (X:Cx) (pins:List (Addr × Obj)) (H:Hp) (e C:Addr) (s:Shared):Prop where
 fe:FlOk X pins H e
 obj:∃ oe vs old,s.heap.get? e=some oe∧oe.cls=.ref C∧oe.data=.fields vs∧EX.Trc s.heap e vs old∧oe.dict=none∧∀ b∈old,FlOk X pins H b
section
variable {P:Program}{w:World}{K:PySem.W.Frag}{mg:Str→Option Value}{base:Heap}
end
section
open PySem.W
end
def Cx.plus (X:Cx) (l:List Addr):Cx:={ X with ex:=l ++ X.ex }
section
variable {X:Cx}{pins:List (Addr × Obj)}{σ:St}{H:Hp}{s:Shared}{l:List Addr}
theorem unseen_base (I:Inv X pins σ H s) {b:Addr} (hb:X.s₀.heap.get? b=none) (o:Obj):X.base.get? b≠some o:=fun z=>by
 have:=(I.ok.bs b o z).1
 rw [hb] at this;cases this
theorem Inv.plus (I:Inv X pins σ H s) (h:∀ b∈l,FlOk X pins H b):Inv (X.plus l) pins σ H s:=by
 have K:=I.ok
 refine ⟨⟨K.mod,K.kind,K.glob,K.blt,K.above,K.inj,K.has,K.cab,K.hd,K.frames,K.stk,fun b hb=>?_,K.bs,K.bsz,fun b o e hb=>?_,fun b hb=>?_,K.funs,K.frf⟩,I.os,I.bare,?_,I.loc,I.cell,I.free,I.freeC,I.pin,I.hok,I.len⟩
 ·rcases List.mem_append.mp hb with z | z
  ·exact ⟨(h b z).2.1,(h b z).2.2.2.2.1⟩
  ·exact K.exf b z
 ·rcases List.mem_append.mp hb with z | z
  ·rcases (h b z).2.2.2.1 with y | y
   ·exact K.noex b o e y
   ·exact unseen_base I y o e
  ·exact K.noex b o e z
 ·rcases List.mem_append.mp hb with z | z
  ·exact (h b z).2.2.1
  ·exact K.exfs b z
 ·have no:∀ {b:Addr},b ∉ l ++ X.ex→b ∉ X.ex:=fun hb z=>hb (List.mem_append_right _ z)
  exact ⟨fun b o e n hb hx=>I.base.keep b o e n hb (no hx),fun b o e n hb hx=>I.base.slot b o e n hb (no hx),fun b o e n hx=>I.base.free b o e n (no hx),fun b o e hx=>I.base.there b o e (no hx),I.base.tups,I.base.frzs,I.base.tbls⟩
theorem Inv.minus (I:Inv (X.plus l) pins σ H s) (K:X.Ok) (h:∀ b∈l,b∈X.ex∨X.s₀.heap.get? b=none):Inv X pins σ H s:=by
 have no:∀ {b:Addr}{o:Obj},X.s₀.heap.get? b=some o→b ∉ X.ex→b ∉ l ++ X.ex:=fun {b o} e hb z=>by
  rcases List.mem_append.mp z with y | y
  ·rcases h b y with u | u
   ·exact hb u
   ·rw [u] at e;cases e
  ·exact hb y
 exact ⟨K,I.os,I.bare,⟨fun b o e n hb hx=>I.base.keep b o e n hb (no e hx),fun b o e n hb hx=>I.base.slot b o e n hb (no e hx),fun b o e n hx=>I.base.free b o e n (no e hx),fun b o e hx=>I.base.there b o e (no e hx),I.base.tups,I.base.frzs,I.base.tbls⟩,
  I.loc,I.cell,I.free,I.freeC,I.pin,I.hok,I.len⟩
theorem Inv.turn {h':Heap} (I:Inv X pins σ H s) (h:∀ b∈l,FlOk X pins H b)
  (keep:∀ b o,b ∉ frs X.stack→b ∉ l→s.heap.get? b=some o→h'.get? b=some o) (slot:∀ b o,b∈frs X.stack→s.heap.get? b=some o→∃ sl,h'.get? b=some { o with slots:=sl }):Inv X pins σ H { s with heap:=h' }:=by
 have I1:=I.plus h
 have st:∀ b,H b≠none→b ∉ frs X.stack∧b ∉ l:=fun b n=>⟨fun z=>n (I.stkFree b z),fun z=>n (h b z).1⟩
 have u:Un (frs X.stack) l H H s.heap h':=by
  refine ⟨fun b o e n hb hx=>keep b o hb hx e,fun b o e n hb hx=>slot b o hb e,fun b o e n hx=>n,fun b o e hx=>?_,fun _ _ e=>e,fun _ _ _ e=>e,fun b ps e=>⟨#[],by rw [e];simp⟩⟩
  by_cases hb:b∈frs X.stack
  ·obtain ⟨sl,q⟩:=slot b o hb e
   exact ⟨_,q⟩
  ·exact ⟨o,keep b o hb hx e⟩
 have hok:HOk X.prog X.w H h':=fun b u e1=>by
  refine (I.hok b u e1).stay (fun c v hc hv=>?_) (fun _ z=>z) fun _ _ z=>z
  have n:H c≠none:=fun z=>by
   rcases hc with y | y
   ·rw [y,e1] at z;cases z
   ·rw [y] at z;cases z
  exact keep c v (st c n).1 (st c n).2 hv
 exact Inv.minus (l:=l) (I1.call (g':=s.gens) (d':=s.drawn) (t':=s.toks) (ch:=l) u hok I.bare fun b hb=>⟨.inl (List.mem_append_left _ hb),(h b hb).2.1,(h b hb).2.2.2.2.1,(h b hb).2.2.2.2.2⟩) I.ok fun b hb=>(h b hb).2.2.2.1
structure Held (X:Cx) (pins:List (Addr × Obj)) (H:Hp) (e C T:Addr) (s:Shared):Prop where
 fe:FlOk X pins H e
 fT:FlOk X pins H T
 ne:T≠e
 exc:∃ oe vs,s.heap.get? e=some oe∧oe.cls=.ref C∧oe.data=.fields vs∧vs[1]? = some (.ref T)∧oe.dict=none
 tb:∃ oT ts,s.heap.get? T=some oT∧oT.data=.fields ts∧ts[3]? = some .none
theorem again {e C T:Addr}{Q:Unit→Shared→Prop}{A:Around} (I:Inv X pins σ H s) (hd:Held X pins H e C T s)
  (q:∀ h',Inv X pins σ H { s with heap:=h' }→Held X pins H e C T { s with heap:=h' }→Q () { s with heap:=h' }) {E:Value→Shared→Prop} :
  wpAny (model X.prog X.w) A (setFlight (.ref e) none) Q E s:=by
 obtain ⟨fe,fT,ne,⟨oe,vs,h1,h2,h3,h4,h5⟩,⟨oT,ts,t1,t2,t3⟩⟩:=hd
 unfold setFlight
 refine wpAny_bind (wpAny_field h1 h3 h4 ?_)
 rw [if_pos (show (Value.ref T != Value.none)=true by simp)]
 refine wpAny_setField t1 t2 (Array.getElem?_eq_some_iff.mp t3).1 ?_
 have d4:=Obj.data_mapFields t2 (·.setIfInBounds 3 ((none:Option Addr).elim Value.none fun f=>rawInt f))
 have ot:∀ b,b≠T→(s.heap.update T (Obj.mapFields (·.setIfInBounds 3 ((none:Option Addr).elim Value.none fun f=>rawInt f)))).get? b=s.heap.get? b:=fun b hb=>Heap.get?_update_other _ _ (Ne.symm hb)
 have notT:∀ b,b∈frs X.stack→b≠T:=fun b hb z=>by
  obtain ⟨_,o,ho,nf⟩:=I.stack.mem hb
  rw [z,t1] at ho;cases ho
  exact nf ts t2
 refine q _ (I.turn (l:=[T]) (fun b hb=>?_) (fun b o hb hl ho=>?_) fun b o hb ho=>?_) ⟨fe,fT,ne,⟨oe,vs,(ot e (Ne.symm ne)).trans h1,h2,h3,h4,h5⟩,⟨_,_,Heap.get?_update_self _ t1 (Obj.isFreed_of_fields d4),d4,?_⟩⟩
 ·rw [List.mem_singleton.mp hb];exact fT
 ·exact (ot b (fun z=>hl (by simp [z]))).trans ho
 ·exact ⟨o.slots,(ot b (notT b hb)).trans ho⟩
 ·simp [(Array.getElem?_eq_some_iff.mp t3).1]
end
def mroIn (K:PySem.W.Frag) (C:Addr):List Value:=match K.lookup C with
 | some ⟨_,_,.cls cd,_⟩=>cd.mro
 | _=>[]
section
open PySem.W
end
def Cx.tr (X:Cx) (pins:List (Addr × Obj)) (Ex:St→XK):Cx :=
 { X with pn:=X.pn ++ pins,xe:=fun er s=>∃ σ e C H,er=.ref e∧Inv X pins σ H s∧Fly X pins H e C s∧Ex σ (.ref e) (some C) H }
section
variable {X:Cx}{pins:List (Addr × Obj)}{σ:St}{H:Hp}{s:Shared}{e C T:Addr}{D:Ends}{f:Flow}{Ex:St→XK}
theorem Inv.tr (I:Inv X pins σ H s) (Ex:St→XK):Inv (X.tr pins Ex) [] σ H s :=
 ⟨⟨I.ok.mod,I.ok.kind,I.ok.glob,I.ok.blt,I.ok.above,I.ok.inj,I.ok.has,I.ok.cab,I.ok.hd,I.ok.frames,I.ok.stk,I.ok.exf,I.ok.bs,I.ok.bsz,I.ok.noex,I.ok.exfs,I.ok.funs,I.ok.frf⟩,I.os,I.bare,I.base,I.loc,I.cell,I.free,I.freeC,fun p hp=>I.pin p (by rw [List.append_nil] at hp;exact hp),I.hok,I.len⟩
end
section
variable {X:Cx}{x:Str}{np pos:Pos}{Dc:Addr}{b₀:Stmt}{body:List Stmt}{rest:List ExceptHandler}{hd:Addr→Addr→TS}{ts:TS}
end
section
variable {X:Cx}{k:Nat}{f C:Addr}{fd:FuncData}{ps:List Str}{sp:Sp}{dvs:List V}{ds:List Value}{Ex:St→XK}{x m:Str}{p pos apos:Pos}{e o:Expr}{es:List Expr}{ta:TE}{t:TA}
end
def excAt (a C:Addr):Heap→Prop:=fun h=>∃ o vs,h.get? a=some o∧o.cls=.ref C∧o.data=.fields vs∧o.dict=none
def xo (a C:Addr):HO:=.ext (excAt a C)
section
variable {X:Cx}{pins:List (Addr × Obj)}{σ:St}{H:Hp}{s:Shared}{e C T:Addr}
theorem Inv.seen {oe:Obj} (I:Inv X pins σ H s) (fe:FlOk X pins H e) (ho:s.heap.get? e=some oe) (hc:oe.cls=.ref C) {vs:Array Value} (hf:oe.data=.fields vs) (hdn:oe.dict=none):Inv X pins σ (upd H e (xo e C)) s:=by
 have ne:∀ {b u},H b=some u→b≠e:=fun {b u} h z=>by rw [z,fe.1] at h;cases h
 have up:∀ {b u},H b=some u→upd H e (xo e C) b=some u:=fun {b u} h=>(upd_ne (ne h)).trans h
 refine ⟨I.ok,I.os,I.bare,⟨I.base.keep,I.base.slot,fun b o e1 n hx=>?_,I.base.there,fun b xs h=>up (I.base.tups b xs h),fun b o u h=>up (I.base.frzs b o u h),fun b ps h=>?_⟩,I.loc,I.cell,(upd_ne (Ne.symm fe.2.1)).trans I.free,fun x c h=>(upd_ne (fe.2.2.2.2.1 x c h)).trans (I.freeC x c h),fun p hp=>?_,fun b u h=>?_,I.len⟩
 ·refine (upd_ne fun z=>?_).trans (I.base.free b o e1 n hx)
  rcases fe.2.2.2.1 with y | y
  ·exact hx (z ▸ y)
  ·rw [z,y] at e1;cases e1
 ·obtain ⟨more,q⟩:=I.base.tbls b ps h
  exact ⟨more,up q⟩
 ·obtain ⟨a1,a2,a3⟩:=I.pin p hp
  exact ⟨a1,(upd_ne (fe.2.2.2.2.2 p hp)).trans a2,a3⟩
 ·by_cases hb:b=e
  ·rw [hb,upd_same] at h
   cases h
   rw [hb]
   exact ⟨⟨oe,vs,ho,hc,hf,hdn⟩,⟨oe,ho⟩,fun h1 h2 ⟨o,vs,p1,p2⟩ k=>⟨o,vs,k o p1,p2⟩⟩
  ·rw [upd_ne hb] at h
   exact (I.hok b u h).stay (fun c v _ q=>q) (fun c q=>up q) fun c xs q=>up q
end
section
open PySem.W PySem.Calls
variable {prog:Program}{w:World}{A:Around}{E:Value→Shared→Prop}{s:Shared}{K:Frag}{a C:Addr}
end
structure RoomM (k:Nat) (A:Around):Prop where
 dp:A.depth+3 * k+5<recursionLimit
 un:A.units+16 * k+200<cLine
theorem Room.m {k:Nat}{A:Around} (r:Room k A):RoomM k A:=⟨r.dp,r.un⟩
structure FnOkM (P:Program) (w:World) (K:PySem.W.Frag) (mg:Str→Option Value) (base:Heap) (CX:CXT) (k:Nat) (f:Addr) (fd:FuncData) (ps:List Str) (sp:Sp):Prop where
 len:∀ vs H Q E,sp vs H Q E→vs.length=ps.length
 run:∀ (A:Around) (outer:List Env) (s:Shared) (H:Hp) (args:Args) (us:List Value) (vs:List V) (Q:VK) (E:XK),RoomM k A→Env0 P w K mg base A outer s H→BindsTo s fd args (ps.zip us)→Vals vs us→sp vs H Q E →
  codeAny (model P w) A (.call (.ref f) args) (CR CX outer P w H s Q E) s
section
variable {X:Cx}{CX:CXT}{k:Nat}{f C:Addr}{fd:FuncData}{ps:List Str}{sp:Sp}{dvs:List V}{ds:List Value}{E:XK}{x m:Str}{p pos apos:Pos}{e o:Expr}{es:List Expr}{ta:TE}{t:TA}
end
end L2
set_option maxHeartbeats 4000000
namespace DT
open PySem
section
variable {prog:Program}{w:World}{A:Around}{E:Value→Shared→Prop}{s:Shared}{d it:Addr}{od:Obj}{es:Array DictEntry}{ep i:Nat}
end
end DT
namespace L2
open PySem PySem.Spec PyProof.Rows
section
variable {X:Cx}{pins:List (Addr × Obj)}{σ:St}{H:Hp}{s:Shared}{d:Addr}{kvs:List (List Key × V)}{o:Obj}
theorem Inv.dT (I:Inv X pins σ H s) (e:Rd H d (.dT kvs)):kvs.length≤sizeLine∧(d == sysModules)=false∧∃ (xs:List (List Key × Addr × Value)) (od:Obj) (es:Array DictEntry) (ep:Nat),KT H kvs xs∧s.heap.get? d=some od∧od.ExactDict∧od.data=.dict es ep∧es.size=kvs.length ∧
  ∀ (i:Nat) p,kvs[i]? = some p→∃ (b:Addr) (h:Int) (v:Value),es[i]? = some ⟨h,.ref b,v⟩∧H b=some (.tup (p.1.map kV)):=by
 obtain ⟨z,y,xs,r,od,es,ep,h1,h2,h3,h4,h5⟩:=(show ObjOk X.prog X.w H s.heap d (.dT kvs) from rd_of I.hok e)
 have hl:kvs.length=xs.length:=Paired.length r
 have hs:es.size=kvs.length:=by rw [hl,← Array.length_toList,h4,List.length_map]
 refine ⟨z,y,xs,od,es,ep,r,h1,h2,h3,hs,fun i p hp=>?_⟩
 have at_:∀ {l:List (List Key × V)}{m:List (List Key × Addr × Value)}{j:Nat}{q:List Key × V},KT H l m→l[j]? = some q→∃ x,m[j]? = some x∧H x.2.1=some (.tup (q.1.map kV)):=by
  intro l m j q t
  induction t generalizing j with
  | nil=>intro z;simp at z
  | @cons a b as bs hq _ ih =>
   intro z
   cases j with
   | zero =>
    have:a=q:=by simpa using z
    subst this
    exact ⟨b,rfl,hq.2.1⟩
   | succ j=>exact ih (by simpa using z)
 obtain ⟨x,hx,hH⟩:=at_ r hp
 have:es[i]? = some (entryOfKey (tupleKind (mixKind X.prog X.w)) x):=by rw [← Array.getElem?_toList,h4,List.getElem?_map,hx];rfl
 exact ⟨x.2.1,_,_,this,hH⟩
end
section
variable {X:Cx}{pins:List (Addr × Obj)}{σ:St}{H:Hp}{s:Shared}
theorem FpOk.fl {b:Addr} (h:FpOk X pins H b):FlOk X pins H b:=⟨h.1,h.2.1,h.2.2.1,h.2.2.2.1.imp id fun z=>by
 cases e:X.s₀.heap.get? b with
 | none=>rfl
 | some o=>exact absurd (Heap.lt_size e) (Nat.not_lt.mpr z),h.2.2.2.2.1,h.2.2.2.2.2⟩
theorem Inv.adopt {e:Addr}{o:HO} (I:Inv X pins σ H s) (fe:FlOk X pins H e) (ok:ObjOk X.prog X.w (upd H e o) s.heap e o):Inv X pins σ (upd H e o) s:=by
 have ne:∀ {b u},H b=some u→b≠e:=fun {b u} h z=>by rw [z,fe.1] at h;cases h
 have up:∀ {b u},H b=some u→upd H e o b=some u:=fun {b u} h=>(upd_ne (ne h)).trans h
 refine ⟨I.ok,I.os,I.bare,⟨I.base.keep,I.base.slot,fun b o e1 n hx=>?_,I.base.there,fun b xs h=>up (I.base.tups b xs h),fun b o u h=>up (I.base.frzs b o u h),fun b ps h=>?_⟩,I.loc,I.cell,(upd_ne (Ne.symm fe.2.1)).trans I.free,fun x c h=>(upd_ne (fe.2.2.2.2.1 x c h)).trans (I.freeC x c h),fun p hp=>?_,fun b u h=>?_,I.len⟩
 ·refine (upd_ne fun z=>?_).trans (I.base.free b o e1 n hx)
  rcases fe.2.2.2.1 with y | y
  ·exact hx (z ▸ y)
  ·rw [z,y] at e1;cases e1
 ·obtain ⟨more,q⟩:=I.base.tbls b ps h
  exact ⟨more,up q⟩
 ·obtain ⟨a1,a2,a3⟩:=I.pin p hp
  exact ⟨a1,(upd_ne (fe.2.2.2.2.2 p hp)).trans a2,a3⟩
 ·by_cases hb:b=e
  ·rw [hb,upd_same] at h
   cases h
   rw [hb]
   exact ok
  ·rw [upd_ne hb] at h
   exact (I.hok b u h).stay (fun c v _ q=>q) (fun c q=>up q) fun c xs q=>up q
theorem Inv.turnedL {h':Heap}{t':Nat}{l:List Addr} (I:Inv X pins σ H s) (hl:∀ b∈l,FpOk X pins H b) (k:∀ b o,b ∉ l→s.heap.get? b=some o→h'.get? b=some o):Inv X pins σ H { s with heap:=h',toks:=t' }:=by
 have nit:∀ b u,H b=some u→b ∉ l:=fun b u e z=>by rw [(hl b z).1] at e;cases e
 refine I.step (g':=s.gens) (d':=s.drawn) (ch:=l) (fun b hb=>?_) (fun b o _ _ hc e _=>k b o hc e) (fun b o _ _ hc e _=>⟨o.slots,k b o hc e⟩) (fun _ _ _ _ n=>n)
  (fun b o hc e=>⟨o,k b o hc e⟩) (fun _ _ e=>e) (fun _ _ _ e=>e) (fun b ps e=>⟨#[],by rw [e];simp⟩) (fun m hm=>?_) (fun b u e=>?_) I.bare
 ·obtain ⟨f0,f1,f2,f3,f4,f5⟩:=hl b hb
  exact ⟨f3,f1,f4,f5⟩
 ·obtain ⟨o,es,ep,ho,r⟩:=hm
  exact ⟨o,es,ep,k _ o (fun z=>(hl _ z).2.1 rfl) ho,r⟩
 ·refine (I.hok b u e).stay (fun c v hc q=>k c v ?_ q) (fun _ q=>q) fun _ _ q=>q
  rcases hc with z | z
  ·rw [z];exact nit b u e
  ·exact nit c _ z
end
def Itdn (hi:Int) (n:Nat):It:=⟨fun i _=>i<n,fun i H x H'=>H'=H∧x=.int (hi - i),fun i _=>n≤i⟩
theorem turn_down {P:Program}{w:World}{K:PySem.W.Frag}{tg:Expr} (it:Addr) (hi:Int) (n:Nat):Turn P w K tg (Itdn hi n) [it] it (fun i h=>IsRangeIter h it (hi+(i:Nat) * (-1)) ((n:Int) - (i:Nat)) (-1)) where
 mem:=by simp
 obj:=fun i h st b hb=>by
  have e:b=it:=by simpa using hb
  subst e
  exact ⟨_,st,fun v z=>by
   have z':Data.fields _=Data.cell v:=z
   cases z'⟩
 keep:=fun i h h' st k=>k it (by simp) _ st
 item:=by
  intro X hP hw hK hc i pins s σ H E I hf st hg
  subst hP hw hK
  obtain ⟨f0,f1,f2,f3,f4,f5⟩:=hf it (by simp)
  have W:=Walks.range (prog:=X.prog) (w:=X.w) (I.ok.hd hc) it hi (-1) n
  refine W.item i s _ _ hg st fun v h' tk hv st' kk=>?_
  obtain ⟨t,rfl⟩:=hv
  have I1:Inv X pins σ H { s with heap:=h',toks:=tk }:=I.turned (fun b o hb e=>kk b o (by simpa using hb) e) f0 f1 f3 f4 f5
  refine ⟨_,rfl,go_of (s:={ s with heap:=h',toks:=tk }) (n:="range_iterator") st' rfl rfl (by decide) ⟨.int (hi - i),H,I1,⟨t,?_⟩,⟨rfl,rfl⟩,st',fun b hb=>(hf b hb).1⟩⟩
  congr 1
  omega
 done:=by
  intro X hP hw hK hc i pins s σ H E I hf st hg
  subst hP hw hK
  obtain ⟨f0,f1,f2,f3,f4,f5⟩:=hf it (by simp)
  exact wpAny_pyNext_range_end (I.ok.hd hc) st (by have:n≤i:=hg;omega) fun h' eb=>⟨rfl,I.turned (t':=s.toks) (fun b o hb e=>eb b o hb e) f0 f1 f3 f4 f5⟩
 self:=fun _ _ _ _ _ st h=>wpAny_pyIter_rangeiter st h
theorem fitsL {a:Int} (h1 : -(2 ^ 63)≤a) (h2:a<2 ^ 63):Builtin.Range.rangeFitsLong a=true:=by
 unfold Builtin.Range.rangeFitsLong
 simp
 omega
theorem small_down {a b:Int} (h1 : -(2 ^ 62)≤a) (h2:a<2 ^ 62) (h3 : -(2 ^ 62)≤b) (h4:b<2 ^ 62):Builtin.Range.small a b (-1)=true:=by
 unfold Builtin.Range.small
 rw [PySem.W.rangeSize_downNat,fitsL (by omega) (by omega),fitsL (by omega) (by omega),fitsL (by decide) (by decide),fitsL (a:=((a - b).toNat:Int)) (by omega) (by omega),if_neg (by decide),fitsL (a:=b+(-1+1)) (by omega) (by omega)]
 simp
section
variable {X:Cx}{tg:Expr}
def iRngD (ta:TA):TI:=fun σ H R=>ta σ H fun vs H1=>∃ i j:Int,vs=[.int i,.int j,.int (-1)]∧(-(2 ^ 62)≤i∧i<2 ^ 62 ∧ -(2 ^ 62)≤j∧j<2 ^ 62)∧R (Itdn i (i - j).toNat) H1
theorem pi_rangeD {a b c:Expr}{ta:TA}{p pos:Pos} (hg:Gl X "range") (hm:X.mg "range" = none) (ha:PA X [a,b,c] ta) (hs:starEach [a,b,c] X.env=[(false,eval a X.env),(false,eval b X.env),(false,eval c X.env)]:=by rfl) (hs2:starEach [b,c] X.env=[(false,eval b X.env),(false,eval c X.env)]:=by rfl) :
  PI X tg (.Call (.Name "range" p) [a,b,c] [] pos) (iRngD ta):=by
 intro pins s σ H R I h
 refine Call_ (ld_blt I hg hm boot_range (PyProof.Rows.callWith_type1 (thn (ha pos pins s σ H _ I h) fun us s1 ⟨vs,H1,I1,r1,q1⟩=>?_) (by rw [hs,hs2]) (by rw [hs2];rfl)))
 obtain ⟨lo,hi,e,⟨q1,q2,q3,q4⟩,q⟩:=q1
 subst e
 cases r1 with
 | cons r rr =>
 cases rr with
 | cons r' rr =>
 cases rr with
 | cons r'' rr =>
 cases rr
 obtain ⟨t,rfl⟩:=r
 obtain ⟨u,rfl⟩:=r'
 obtain ⟨v,rfl⟩:=r''
 refine call_range_3 (by decide) ?_ (.inl (by unfold Builtin.divisionGoesByPylong;simp;intro z;exact absurd z (by decide)))
 refine wpAny_pyIter_range (IsRange.new ..) (small_down q1 q2 q3 q4) ?_
 have I2:Inv X pins σ H1 { s1 with heap:=s1.heap.push { cls:=.type "range",data:=.fields #[.int lo t,.int hi u,.int (-1) v] },toks:=s1.toks }:=I1.kept fun b o e=>Heap.get?_push_of_some _ e
 refine ⟨(s1.heap.push { cls:=.type "range",data:=.fields #[.int lo t,.int hi u,.int (-1) v] }).objs.size,[(s1.heap.push { cls:=.type "range",data:=.fields #[.int lo t,.int hi u,.int (-1) v] }).objs.size],_,_,H1,rfl,
  I2.kept (t':=s1.toks) fun b o e=>Heap.get?_push_of_some _ e,turn_down _ lo (lo - hi).toNat,?_,fun b hb=>?_,q⟩
 ·show IsRangeIter _ _ (lo+((0:Nat):Int) * (-1)) ((((lo - hi).toNat:Nat):Int) - ((0:Nat):Int)) (-1)
  rw [PySem.W.rangeSize_downNat,show lo+((0:Nat):Int) * (-1)=lo by omega,show ((((lo - hi).toNat:Nat):Int) - ((0:Nat):Int))=((lo - hi).toNat:Int) by omega]
  exact Heap.get?_push_size _ rfl
 ·have e:b=(s1.heap.push { cls:=.type "range",data:=.fields #[.int lo t,.int hi u,.int (-1) v] }).objs.size:=by simpa using hb
  subst e
  exact I2.fpOk (Nat.le_refl _) (I2.hok.fresh (Nat.le_refl _))
end
end L2
set_option maxHeartbeats 4000000
namespace RR
open PySem
section
variable {prog:Program}{w:World}{A:Around}{E:Value→Shared→Prop}{s:Shared}
end
end RR
namespace L2
open PySem PySem.Spec PyProof.Rows
section
variable {X:Cx}{tg:Expr}
end
section
variable {K:PySem.W.Frag}{ta:TA}{g:TG}{tb:TS}{D:Ends}{σ:St}{H:Hp}
theorem tFor_rngD:tFor (iRngD ta) g tb D σ H=ta σ H (fun vs H1=>∃ i j:Int,vs=[.int i,.int j,.int (-1)]∧(-(2 ^ 62)≤i∧i<2 ^ 62 ∧ -(2 ^ 62)≤j∧j<2 ^ 62)∧ForGoal (Itdn i (i - j).toNat) g tb D σ H1):=rfl
theorem for_dnG {hi:Int}{n:Nat} (Pv:Nat→St→Hp→Prop) (h0:Pv 0 σ H) (hs:∀ (i:Nat) σ H,i<n→Pv i σ H→g (.int (hi - i)) σ H fun σ2 H2=>tb { D with nx:=Pv (i+1),ct:=Pv (i+1),bk:=D.nx } σ2 H2) (hd:∀ σ H,Pv n σ H→D.nx σ H):ForGoal (Itdn hi n) g tb D σ H:=by
 refine ⟨fun i m σ H=>i+m=n∧Pv i σ H,⟨n,by omega,h0⟩,fun i m σ H ⟨hm,hp⟩=>?_⟩
 by_cases hi':i<n
 ·refine .inr ⟨hi',Pv (i+1),fun σ' H' h=>⟨m - 1,by omega,by omega,h⟩,fun x H' ⟨e1,e2⟩=>?_⟩
  subst e1 e2
  exact hs i σ _ hi' hp
 ·have:i=n:=by omega
  subst this
  exact .inl ⟨Nat.le_refl _,hd σ H hp⟩
end
def cMulL:R2:=fun x y H Q=>match x,y with
 | .ref l,.int k=>∃ xs,H l=some (.lst xs) ∧ -(2 ^ 63)≤k∧k<2 ^ 63∧xs.length * k.toNat≤sizeLine∧∀ p H',New H p (.lst (List.replicate k.toNat xs).flatten) H'→Q (.ref p) H'
 | _,_=>False
theorem o_mulL {X:Cx}:OpR X (binaryOp .Mult) cMulL:=op_rep.imp fun x y H Q h=>by
  cases x <;> cases y <;> first
    | exact False.elim h
    | (obtain ⟨xs,h1,h2,h3,h4,q⟩:=h
       exact ⟨_,_,xs,rfl,rfl,h1,h2,h3,h4,fun p hp=>q p _ ⟨hp,rfl⟩⟩)
theorem rep_one (v:V) (n:Nat):(List.replicate n [v]).flatten=List.replicate n v:=by
 induction n with
 | zero=>rfl
 | succ n ih=>rw [List.replicate_succ,List.flatten_cons,ih,List.replicate_succ];rfl
end L2
set_option maxHeartbeats 4000000
namespace RV
open PySem
section
variable {prog:Program}{w:World}{A:Around}{E:Value→Shared→Prop}{s:Shared}
end
end RV
namespace L2
open PySem PySem.Spec PyProof.Rows
end L2
set_option maxHeartbeats 4000000
namespace L2
open PySem PySem.Spec PyProof.Rows PySem.W
end L2
set_option maxRecDepth 20000
namespace L2
open PySem PySem.Spec PyProof.Rows
variable {X:Cx}
structure PL (H:Hp) (p:Addr) (es:List En):Prop where
 lst:H p=some (.lst (es.map fun e=>V.ref e.1))
 tup:∀ e∈es,H e.1=some (.tup [.int e.2.1,.int e.2.2])
end L2
set_option maxHeartbeats 4000000
namespace DT
open PySem
end DT
namespace L2
open PySem PySem.Spec PyProof.Rows
theorem compG_rngF {σ:St}{sel:List Nat}{rest:St}{H:Hp}{tt:TT}{te:TE}{Q:VK}{lo:Int}{n:Nat} (q:Nat→Bool) (f:Nat→V) (hr:sel.map (fun j=>(σ[j]?).join)=rest) (hz:n≤sizeLine)
  (ht:∀ (i:Nat) H' (Q':Bool→Hp→Prop),i<n→Same H H'→Q' (q i) H'→tt (some (.int (lo+i)) :: rest) H' Q')
  (he:∀ (i:Nat) H' (Q':VK),i<n→q i=true→Same H H'→Q' (f i) H'→te (some (.int (lo+i)) :: rest) H' Q') (hQ:∀ p H',New H p (.lst (((List.range n).filter q).map f)) H'→Q (.ref p) H'):CompG (Itr lo n) σ 1 sel (gName 0) tt te Q H:=by
 intro p hp
 refine comp_inv (n:=n) (item:=fun i=>.int (lo+i)) (fun i H2=>H2=upd H p (.lst (((List.range i).filter q).map f))) hr (by simp) src_rng ?_ ?_ ?_
 ·rintro H2 rfl
  exact Nat.le_refl _
 ·rintro i H2 R hi rfl hR
  refine ht i _ _ hi (same_upd hp) ?_
  cases hq:q i with
  | true =>
   rw [if_pos rfl]
   refine he i _ _ hi hq (same_upd hp) ⟨_,upd_same,?_,hR _ ?_⟩
   ·rw [List.length_map]
    have:=List.length_filter_le q (List.range i)
    rw [List.length_range] at this
    omega
   ·rw [upd_upd,List.range_succ,List.filter_append,List.map_append,List.filter_cons,if_pos hq]
    rfl
  | false =>
   rw [if_neg (by simp)]
   refine hR _ ?_
   rw [List.range_succ,List.filter_append,List.map_append,List.filter_cons,if_neg (by rw [hq];simp),List.filter_nil,List.map_nil,List.append_nil]
 ·rintro H2 rfl
  exact hQ p _ ⟨hp,rfl⟩
theorem filter_get {q:Nat→Bool}{n N i:Nat} (h:((List.range n).filter q).length=i) (hn:n<N) (hq:q n=true):((List.range N).filter q)[i]? = some n:=by
 have e:List.range N=List.range n ++ (List.range (N - n)).map (n + ·):=by rw [← List.range_add,show n+(N - n)=N by omega]
 rw [e,List.filter_append,List.getElem?_append_right (by omega),h,Nat.sub_self]
 obtain ⟨k,hk⟩:∃ k,N - n=k+1:=⟨N - n - 1,by omega⟩
 rw [hk,List.range_succ_eq_map,List.map_cons,List.filter_cons,if_pos (by simpa using hq)]
 simp
theorem for_filterG {K:PySem.W.Frag}{p:Addr}{N:Nat}{q:Nat→Bool}{f:Nat→V}{g:TG}{tb:TS}{D:Ends}{σ:St}{H:Hp} (Pv:Nat→St→Hp→Prop) (h0:Pv 0 σ H) (hk:∀ n σ H,n≤N→Pv n σ H→SqL K H p (((List.range N).filter q).map f))
  (hn:∀ n σ H,n<N→q n=false→Pv n σ H→Pv (n+1) σ H)
  (hs:∀ n σ H (M:St→Hp→Prop),n<N→q n=true→Pv n σ H→(∀ σ' H',Pv (n+1) σ' H'→M σ' H')→g (f n) σ H fun σ2 H2=>tb { D with nx:=M,ct:=M,bk:=D.nx } σ2 H2) (hd:∀ σ H,Pv N σ H→D.nx σ H):ForGoal (Itl K p) g tb D σ H:=by
 have up:∀ (d n:Nat) (σ:St) (H:Hp) (i:Nat),N - n=d→n≤N→((List.range n).filter q).length=i→Pv n σ H→(∃ n',n'<N∧q n'=true∧((List.range n').filter q).length=i∧Pv n' σ H)∨(((List.range N).filter q).length=i∧Pv N σ H):=by
  intro d
  induction d with
  | zero =>
   intro n σ H i e hl hf hP
   have:n=N:=by omega
   subst this
   exact .inr ⟨hf,hP⟩
  | succ d ih =>
   intro n σ H i e hl hf hP
   cases hq:q n with
   | true=>exact .inl ⟨n,by omega,hq,hf,hP⟩
   | false =>
    refine ih (n+1) σ H i (by omega) (by omega) ?_ (hn n σ H (by omega) hq hP)
    rw [List.range_succ,List.filter_append,List.filter_cons,if_neg (by rw [hq];simp),List.filter_nil,List.append_nil]
    exact hf
 refine for_listG (xs:=((List.range N).filter q).map f) (fun i σ H=>∃ n,n≤N∧((List.range n).filter q).length=i∧Pv n σ H) ⟨0,Nat.zero_le _,rfl,h0⟩ ?_ ?_ ?_
 ·rintro i σ H _ ⟨n,hl,_,hP⟩
  exact hk n σ H hl hP
 ·rintro i x σ H hx ⟨n,hl,hf,hP⟩
  rcases up _ n σ H i rfl hl hf hP with ⟨n',l',q',f',P'⟩ | ⟨f',_⟩
  ·rw [List.getElem?_map,filter_get f' l' q'] at hx
   cases hx
   refine hs n' σ H _ l' q' P' fun σ' H' h'=>⟨n'+1,l',?_,h'⟩
   rw [List.range_succ,List.filter_append,List.filter_cons,if_pos q',List.length_append,f']
   rfl
  ·rw [List.getElem?_map,List.getElem?_eq_none (by omega)] at hx
   cases hx
 ·rintro σ H ⟨n,hl,hf,hP⟩
  rw [List.length_map] at hf
  rcases up _ n σ H _ rfl hl hf hP with ⟨n',l',q',f',P'⟩ | ⟨_,P'⟩
  ·have:=filter_get f' l' q'
   rw [List.getElem?_eq_none (Nat.le_refl _)] at this
   cases this
  ·exact hd σ H P'
end L2
namespace EN
open PySem PyProof.Rows
open AutoSeq1 (wpAny_loadPart')
section
variable {prog:Program}{w:World}{A:Around}{E:Value→Shared→Prop}{s:Shared}
theorem nx_tup {it t:Addr}{i:Nat}{its:Array Value}{x:Value}{Q:Value→Shared→Prop} (a:s.heap.IsTupleIter it t i) (b:s.heap.IsTuple t its) (hx:its[i]? = some x)
  (q:∀ h',h'.IsTupleIter it t (i+1)→Heap.SameBut it s.heap h'→Q x { s with heap:=h' }):wpAny (model prog w) A (Builtin.SmallTypes.nextOf (.ref it)) Q E s:=by
 obtain ⟨o,ho,hc,hd⟩:=id a
 obtain ⟨ol,hl,_,nl,el⟩:=b
 unfold Builtin.SmallTypes.nextOf
 refine wpAny_bind (wpAny_callSpecial?_slot (name:=Str.ofString "__next__") a.typeIs F.slot_tuple_iterator_next (wpAny_call_entry F.slot_tuple_iterator_next a.typeIs F.entry_tuple_iterator_next ?_ (F.args_tuple_iterator_next_1 _)))
 show wpAny _ _ (field (.ref it) 0 >>= fun _=>_) _ _ s
 refine wpAny_bind (wpAny_field (x:=.ref t) ho hd rfl ?_)
 show wpAny _ _ (if (Value.ref t == Value.none)=true then _ else _) _ _ _
 rw [if_neg (show ¬ (Value.ref t == Value.none)=true from Bool.false_ne_true)]
 show wpAny _ _ (field (.ref it) 1 >>= fun _=>_) _ _ s
 refine wpAny_bind (wpAny_field (x:=.int i 0) ho hd rfl ?_)
 show wpAny _ _ (seqItems? (.ref t) >>= fun _=>_) _ _ s
 refine wpAny_bind (wpAny_seqItems hl el ?_)
 simp only [hx,Int.toNat_natCast]
 refine wpAny_bind (wpAny_setField ho hd (by simp) (wpAny_pure ⟨x,rfl,wpAny_pure (q _ ⟨_,Heap.get?_update_self _ ho (Obj.isFreed_of_fields (Obj.data_mapFields hd _)),(Obj.cls_mapFields ..).trans hc,?_⟩ (Heap.SameBut.update ..))⟩))
 rw [Obj.data_mapFields hd];simp [rawInt]
theorem nx_end {it t:Addr}{i:Nat}{its:Array Value}{Q:Value→Shared→Prop} (hh:A.handled=none) (a:s.heap.IsTupleIter it t i) (b:s.heap.IsTuple t its) (hx:its[i]? = none)
  (q:∀ h' e,Heap.ExtBut it s.heap h'→(∃ o,h'.get? e=some o∧o.cls=.type "StopIteration")→E (.ref e) { s with heap:=h' }):wpAny (model prog w) A (Builtin.SmallTypes.nextOf (.ref it)) Q E s:=by
 obtain ⟨o,ho,hc,hd⟩:=id a
 obtain ⟨ol,hl,_,nl,el⟩:=b
 unfold Builtin.SmallTypes.nextOf
 refine wpAny_bind (wpAny_callSpecial?_slot (name:=Str.ofString "__next__") a.typeIs F.slot_tuple_iterator_next (wpAny_call_entry F.slot_tuple_iterator_next a.typeIs F.entry_tuple_iterator_next ?_ (F.args_tuple_iterator_next_1 _)))
 show wpAny _ _ (field (.ref it) 0 >>= fun _=>_) _ _ s
 refine wpAny_bind (wpAny_field (x:=.ref t) ho hd rfl ?_)
 show wpAny _ _ (if (Value.ref t == Value.none)=true then _ else _) _ _ _
 rw [if_neg (show ¬ (Value.ref t == Value.none)=true from Bool.false_ne_true)]
 show wpAny _ _ (field (.ref it) 1 >>= fun _=>_) _ _ s
 refine wpAny_bind (wpAny_field (x:=.int i 0) ho hd rfl ?_)
 show wpAny _ _ (seqItems? (.ref t) >>= fun _=>_) _ _ s
 refine wpAny_bind (wpAny_seqItems hl el ?_)
 simp only [hx,Int.toNat_natCast]
 refine wpAny_bind (wpAny_rule (wpAny_bind (wpAny_setField ho hd (by simp) ?_)))
 show wpAny _ _ (newExc (.type "StopIteration") [] >>= fun _=>_) _ _ _
 refine wpAny_bind ?_
 simp only [newTuple,newExc]
 refine wpAny_bind (wpAny_newObj_type ?_ (by size_fits))
 refine wpAny_bind (m:=firstArgMember _ _) (wpAny_of_eq (a:=Value.none) (by first | rfl | (simp only [firstArgMember];rfl)) (wpAny_newObj_type ?_ (by size_fits)))
 simp only [raiseNew]
 refine wpAny_bind (wpAny_handled ?_)
 first | rw [show A.in1.handled=none from hh] | rw [hh]
 refine wpAny_bind (wpAny_pure (wpAny_throw (q _ _ (((Heap.SameBut.update ..).extBut.push _).push _) ⟨_,Heap.get?_push_size _ rfl,rfl⟩)))
end
theorem drawsT {prog:Program}{w:World}{A:Around} (hh:A.handled=none) (it t:Addr) (hne:t≠it) (its:Array Value) :
  Draws prog w A it [it,t] (its.size+1) (fun i v=>∃ j,i=j+1∧its[j]? = some v) (fun i h=>∃ j,i=j+1∧h.IsTupleIter it t j∧h.IsTuple t its) where
 live:=fun i h ⟨j,_,⟨o,ho,_⟩,_⟩=>⟨o,ho⟩
 frame:=fun i h h' ⟨j,e,⟨o,ho,r⟩,⟨o2,ho2,r2⟩⟩ k=>⟨j,e,⟨o,k it (by simp) o ho,r⟩,⟨o2,k t (by simp) o2 ho2,r2⟩⟩
 item:=fun i s Q E hi ⟨j,e,a,b⟩ q=>by
  subst e
  have hj:j<its.size:=by omega
  refine nx_tup a b (x:=its[j]) (by simp [hj]) fun h' a' k=>q _ h' s.toks ⟨j,rfl,by simp [hj]⟩ ⟨j+1,rfl,a',b.extBut k.extBut hne⟩ k
 done:=fun s Q E ⟨j,e,a,b⟩ q=>by
  have hj:j=its.size:=by omega
  subst hj
  exact nx_end hh a b (by simp) q
section
variable {prog:Program}{w:World}{A:Around}{E:Value→Shared→Prop}{s:Shared}
theorem meets_new (l:Addr) (its:Array Value) (n:Int) (tk:Tok) (hn:Builtin.SmallTypes.fitsIndex n=true) :
  Meets (Builtin.«enumerate.__new__» ⟨[.type "enumerate",.ref l],[("start",.int n tk)]⟩) (fun _ R s=>s.heap.IsTuple l its ∧
   R (.ok (.ret (.ref (s.heap.push { cls:=.type "tuple_iterator",data:=.fields #[.ref l,.int 0 0] }).objs.size)))
    { s with heap:=(s.heap.push { cls:=.type "tuple_iterator",data:=.fields #[.ref l,.int 0 0] }).push { cls:=.type "enumerate",data:=.fields #[.none,.bool false,.ref s.heap.objs.size,rawInt n,.none,.none] } }):=by
 refine .of_wp fun prog w A R s h=>?_
 obtain ⟨hp,g,d,tk',os⟩:=s;obtain ⟨hL,h⟩:=h
 have hsub:=sub_enumerate
 wp_walk using wpAny_pyIter_tuple hL
 refine wpAny_stack_any fun st=>wpAny_pure ?_
 split
 ·rename_i c _ _ _ _ _
  cases (c == Value.type "enumerate")
  ·simp only [Bool.false_eq_true,if_false]
   refine wpAny_bind (wpAny_of_eq (a:=(Value.ref l,some (Value.int n tk))) (by first | rfl | kernel_rfl) ?_)
   wp_walk using wpAny_pyIter_tuple hL
   exact ⟨_,rfl,h⟩
  ·simp only [if_true]
   refine wpAny_bind (wpAny_of_eq (a:=(Value.ref l,some (Value.int n tk))) (by first | rfl | kernel_rfl) ?_)
   wp_walk using wpAny_pyIter_tuple hL
   exact ⟨_,rfl,h⟩
 ·simp only [Bool.false_eq_true,if_false]
  refine wpAny_bind (wpAny_of_eq (a:=(Value.ref l,some (Value.int n tk))) (by first | rfl | kernel_rfl) ?_)
  wp_walk using wpAny_pyIter_tuple hL
  exact ⟨_,rfl,h⟩
theorem init_kw {T newId:String}{self:Value}{rest:List Value}{kw:List (Str × Value)} (hl:typeLookup (.type T) "__init__" = pure (some (.builtin "object.__init__")))
  (hm:Bind.madeBy (.type T)=pure (some newId)) (hne:(some newId != some "object.__new__")=true):Meets (Builtin.«object.__init__» ⟨self :: rest,kw⟩) (fun _ R s=>s.TypeIs self T∧R (.ok (.ret .none)) s):=by
 refine Meets.of_wp fun prog w A R s ⟨hT,hq⟩=>?_
 cases rest with
 | nil =>
  cases kw with
  | nil=>exact wpAny_pure ⟨_,rfl,hq⟩
  | cons k r =>
   repeat (any_goals (first | assumption | wp_step))
   exact ⟨_,rfl,hq⟩
 | cons a rest =>
  repeat (any_goals (first | assumption | wp_step))
  exact ⟨_,rfl,hq⟩
theorem callType_kw {T newId:String}{Bn:Builtin}{args:List Value}{kw:List (Str × Value)}{S:PySem.Spec}{Q:Value→Shared→Prop} (ft:TypeCalled T newId "object.__init__") (hne:(some newId != some "object.__new__")=true)
  (c1:checkTypeCall T ⟨args,kw⟩=pure ()) (c2:checkBuiltinCall newId ⟨.type T :: args,kw⟩=pure ()) (ok:∀ obj,argsOk "object.__init__" ⟨obj :: args,kw⟩) (en:entryFor table newId=some Bn) (g:Meets (Bn ⟨.type T :: args,kw⟩) S)
  (h:S A.in1 (wants (fun obj s₁=>s₁.TypeIs obj T∧Q obj s₁) E) s):wpAny (model prog w) A (call (.type T) args kw) Q E s:=by
 obtain ⟨c,tl,m0⟩:=ft.mro
 have m1:=ft.made
 have m2:=ft.sub
 refine wpAny_call (codeAny_of_tree ?_)
 show wpAny _ _ (callAny (.type T) ⟨args,kw⟩) _ _ _
 refine wpAny_pure ⟨Code.quiet_builtin _ (by decide +kernel),codeAny_builtin F.entry_type_call ?_⟩
 rw [Around.under_plain (weight_type_call_type T args kw) (units_type_call_type T args kw)]
 have m3:=ft.notType
 have m4:=ft.canCreate
 repeat (any_goals (first | assumption | wp_step))
 refine codeAny_mono (codeAny_call_builtin ft.plain en (wpAny_of_eq c2 (g prog w A.in1 _ s h))) fun r s1 hr=>?_
 cases r with
 | error e=>exact hr
 | ok fl =>
  cases fl with
  | ret obj =>
   obtain ⟨hT,hq⟩:=hr
   have li:=ft.init.lookup
   have bi:=ft.init.bind obj
   repeat (any_goals (first | assumption | wp_step))
   refine codeAny_mono (codeAny_call_builtin ft.init.plain F.entry_object_init (ft.init.check _ _ _ _ _ _ _ _ hT (ok obj) (init_kw (newId:=newId) li m1 hne prog w A.in1 (wants (fun r s2=>r=.none∧Q obj s2) E) s1 ⟨hT,rfl,hq⟩))) fun r2 s2 hr2=>?_
   cases r2 with
   | error e=>exact hr2
   | ok fl2 =>
    cases fl2 with
    | ret r =>
     obtain ⟨rfl,hq2⟩:=hr2
     repeat (any_goals (first | assumption | wp_step))
    | _=>exact hr2.elim
  | _=>exact hr.elim
theorem tc_kw (a b:Value):checkTypeCall "enumerate" ⟨[a],[("start",b)]⟩=pure ():=by kernel_rfl
theorem nc_kw (a b:Value):checkBuiltinCall "enumerate.__new__" ⟨[.type "enumerate",a],[("start",b)]⟩=pure ():=by kernel_rfl
theorem oi_kw (o a b:Value):argsOk "object.__init__" ⟨[o,a],[("start",b)]⟩:=by first | kernel_rfl | (unfold argsOk;kernel_rfl)
theorem call_enum {l:Addr}{its:Array Value}{n:Int}{tk:Tok}{Q:Value→Shared→Prop} (hn:Builtin.SmallTypes.fitsIndex n=true) (hl:s.heap.IsTuple l its)
  (h:∀ h',IsEnum h' (s.heap.objs.size+1) s.heap.objs.size n .none→h'.IsTupleIter s.heap.objs.size l 0→h'.objs.size=s.heap.objs.size+2→(∀ b o,s.heap.get? b=some o→h'.get? b=some o)→Q (.ref (s.heap.objs.size+1)) { s with heap:=h' }) :
  wpAny (model prog w) A (call (.type "enumerate") [.ref l] [("start",.int n tk)]) Q E s:=by
 refine callType_kw F.called_enumerate (by decide) (tc_kw _ _) (nc_kw _ _) (fun obj=>oi_kw obj _ _) F.entry_enumerate_new (meets_new l its n tk hn) ⟨hl,?_⟩
 have hz:(s.heap.push { cls:=.type "tuple_iterator",data:=.fields #[.ref l,.int 0 0] }).objs.size=s.heap.objs.size+1:=Heap.size_push ..
 show _∧_
 have he:=Heap.get?_push_size (s.heap.push { cls:=.type "tuple_iterator",data:=.fields #[.ref l,.int 0 0] }) (o:={ cls:=.type "enumerate",data:=.fields #[.none,.bool false,.ref s.heap.objs.size,rawInt n,.none,.none] }) rfl
 rw [hz] at he ⊢
 exact ⟨⟨_,he,rfl⟩,h _ he ⟨_,Heap.get?_push_of_some _ (Heap.get?_push_size _ rfl),rfl,rfl⟩ (by rw [Heap.size_push,hz]) fun b o x=>Heap.get?_push_of_some _ (Heap.get?_push_of_some _ x)⟩
end
end EN
set_option maxHeartbeats 4000000
namespace L2
open PySem PySem.Spec PyProof.Rows
def Ite (K:PySem.W.Frag) (l:Addr):It :=
  ⟨fun i H=>∃ xs x,SqT K H l xs∧xs[i]? = some x,
   fun i H v H'=>∃ T x,v=.ref T∧H T=none∧H'=upd H T (.tup [.int ((i+1:Nat):Int),x])∧(∀ xs,SqT K H l xs→xs[i]? = some x),
   fun i H=>∃ xs,SqT K H l xs∧xs.length=i⟩
theorem turn_enum {P:Program}{w:World}{K:PySem.W.Frag}{elts:List Expr}{k:Nat}{pos:Pos} (l e it:Addr) (n1:e≠it) (n2:e≠l) (n3:l≠it) :
    Turn P w K (.Tuple elts k pos) (Ite K l) [e,it] e (fun i h=>(∃ old,IsEnum h e it ((i+1:Nat):Int) old)∧h.IsTupleIter it l i) where
  mem:=by simp
  obj:=fun i h ⟨⟨old,a1⟩,a2⟩ b hb=>by
    simp only [List.mem_cons,List.not_mem_nil,or_false] at hb
    rcases hb with rfl | rfl
    · exact ⟨_,a1,fun v z=>nomatch z⟩
    · obtain ⟨o,e,c,d⟩:=a2
      exact ⟨o,e,fun v z=>by rw [d] at z;cases z⟩
  keep:=fun i h h' ⟨⟨old,a1⟩,⟨o,a2,r⟩⟩ k=>⟨⟨old,k _ (by simp) _ a1⟩,⟨o,k _ (by simp) _ a2,r⟩⟩
  item:=by
    intro X hP hw hK hc i pins s σ H E I hf st hg
    subst hP hw hK
    obtain ⟨xs,x,hq1,hx⟩:=hg
    obtain ⟨its1,rv1,p1,hz1⟩:=I.tuple hq1
    obtain ⟨u1,hu1,ru1⟩:=rv1.get hx
    obtain ⟨⟨old,sa⟩,sb⟩:=st
    have W:=WalksT.enumerateD (prog:=X.prog) (w:=X.w) (A:=X.A) (EN.drawsT (A:=X.A.in1) (I.ok.hd hc) it l n3 its1.toArray) e n1 (by simp [n1,n2]) (by simp)
    have n1':i<its1.length:=(List.getElem?_eq_some_iff.mp hu1).1
    have hw:∀ b∈[e,it],FpOk X pins H b:=hf
    refine W.item (i+1) s _ _ (by simp;omega) ⟨⟨old,sa⟩,i,rfl,sb,p1⟩ fun T vals h' tk hv hT itt mid kp=>?_
    obtain ⟨t0,x',⟨j,ej,e1⟩,rfl⟩:=hv
    have ej':j=i:=by omega
    subst ej'
    have q1 : x' = u1 := by have : its1[j]? = some x' := by simpa using e1
                            rw [hu1] at this;cases this;rfl
    subst q1
    have aT:=W.apart (j+1) T h' mid
    refine ⟨.ref T,rfl,W.go elts k pos (j+1) T _ _ _ mid fun h'' st'' kp''=>?_⟩
    have I1:Inv X pins σ H { s with heap:=h'',toks:=tk }:=I.turnedL hw fun b o hb e=>kp'' b o hb (kp b o hb e)
    have fT:H T=none:=I.hok.fresh hT
    obtain ⟨oT,gT,cT,dT⟩:=itt
    have ok:ObjOk X.prog X.w (upd H T (.tup [.int ((j+1:Nat):Int),x])) h'' T (.tup [.int ((j+1:Nat):Int),x]):=⟨by show 2≤sizeLine;decide,[.int ((j+1:Nat):Int) t0,x'],.cons ⟨_,rfl⟩ (.cons ru1 .nil),show h''.IsTuple T #[.int ((j+1:Nat):Int) t0,x'] from ⟨oT,kp'' T oT aT gT,cT,dT⟩⟩
    obtain ⟨⟨old2,b1⟩,j2,ej2,b2,b3⟩:=st''
    have ej3:j2=j+1:=by omega
    subst ej3
    refine ⟨.ref T,_,I1.adopt (s:={ s with heap:=h'',toks:=tk }) (I.fpOk hT fT).fl ok,rfl,⟨T,x,rfl,fT,rfl,fun zs hz=>by rw [I.tuple_inj hz hq1];exact hx⟩,⟨⟨old2,b1⟩,b2⟩,fun b hb=>?_⟩
    have hbT:b≠T:=fun ee=>by
      obtain ⟨o4,s4,_⟩:=sb
      have:∃ o,s.heap.get? b=some o:=by
        simp only [List.mem_cons,List.not_mem_nil,or_false] at hb
        rcases hb with rfl | rfl
        · exact ⟨_,sa⟩
        · exact ⟨_,s4⟩
      obtain ⟨o,ho⟩:=this
      have:=Heap.lt_size ho
      rw [ee] at this
      exact absurd this (Nat.not_lt.mpr hT)
    rw [upd_ne hbT]
    exact (hf b hb).1
  done:=by
    intro X hP hw hK hc i pins s σ H E I hf st hg
    subst hP hw hK
    obtain ⟨xs,hq1,hlen⟩:=hg
    obtain ⟨its1,rv1,p1,hz1⟩:=I.tuple hq1
    obtain ⟨⟨old,sa⟩,sb⟩:=st
    have l1:=rv1.length
    have W:=WalksT.enumerateD (prog:=X.prog) (w:=X.w) (A:=X.A) (EN.drawsT (A:=X.A.in1) (I.ok.hd hc) it l n3 its1.toArray) e n1 (by simp [n1,n2]) (by simp)
    have hi:i=its1.toArray.size:=by simp;omega
    subst hi
    refine W.done s _ _ ⟨⟨old,sa⟩,_,rfl,sb,p1⟩ fun h' tk kp=>⟨rfl,I.turnedL (t':=tk) hf fun b o hb e=>kp b o hb e⟩
  self:=fun _ _ _ _ _ st h=>wpAny_pyIter_enum st.1.choose_spec h
theorem callWith_type_kw {M:Model}{A:Around}{E:Value→Shared→Prop}{s:Shared}{env:Env}{pos:Pos}{T:String}{e:Expr}{kws:List Keyword}{Q:Value→Shared→Prop}
  (h:wpAny M A (spliced (backTo pos (starEach [e] env))) (fun vs s1=>wpAny M A (evalAll ((backToKw pos (keywordEach kws env)).map (·.2))) (fun kvs s2=>wpAny M A (call (.type T) vs (((backToKw pos (keywordEach kws env)).filterMap (·.1)).zip kvs)) Q E s2) E s1) E s)
  (he:backTo pos (starEach [e] env)=[(false,eval e env >>= fun v=>standAt pos >>= fun _=>pure v)]∨(backTo pos (starEach [e] env)).any (·.1)=false) (hx:∃ x rest,backTo pos (starEach [e] env)=(false,x) :: rest)
  (hp:(backTo pos (starEach [e] env)).any (·.1)=false:=by rfl) (ha:(backToKw pos (keywordEach kws env)).all (·.1.isSome)=true:=by rfl) (hk:(backToKw pos (keywordEach kws env)).any (·.1.isNone)=false:=by rfl) :
  wpAny M A (callWith pos (.type T) [] (backTo pos (starEach [e] env)) (backToKw pos (keywordEach kws env))) Q E s:=by
 obtain ⟨x,rest,ex⟩:=hx
 have g:wpAny M A (evalArgs (.type T) true (backTo pos (starEach [e] env)) (backToKw pos (keywordEach kws env))) (fun a s1=>wpAny M A (call (.type T) ([] ++ a.pos) a.kw) Q E s1) E s:=by
  rw [ex] at h ⊢
  exact evalArgs_kwB ha h
 unfold callWith
 refine wpAny_bind (wpAny_holding (wpAny_mono g (fun a s1 h1=>wpAny_bind (wpAny_standAt ?_)) fun _ _ x=>x))
 simp only [hp,hk,Bool.or_false]
 refine wpAny_bind (wpAny_pure (wpAny_bind (wpAny_mono h1 (fun r s2 hr=>wpAny_bind (wpAny_holding (wpAny_point (wpAny_pure hr)))) fun _ _ x=>x)))
def iEnum (K:PySem.W.Frag) (ta:TA) (tv:TE):TI:=fun σ H R=>ta σ H fun vs H1=>tv σ H1 fun v H2=>∃ l:Addr,vs=[.ref l]∧v=.int 1∧(∃ xs,SqT K H2 l xs)∧R (Ite K l) H2
theorem pi_enum {X:Cx}{elts:List Expr}{k:Nat}{tp:Pos}{a v:Expr}{ta:TA}{tv:TE}{p kp pos:Pos} (hg:Gl X "enumerate") (hm:X.mg "enumerate" = none) (ha:PA X [a] ta) (hv:PE X v tv) (hs:starEach [a] X.env=[(false,eval a X.env)]:=by rfl) :
  PI X (.Tuple elts k tp) (.Call (.Name "enumerate" p) [a] [⟨some "start",v,kp⟩] pos) (iEnum X.K ta tv):=by
 intro pins s σ H R I h
 refine wpAny_bind (ld_blt I hg hm PyProof.Rows.boot_enumerate (callWith_type_kw (thn (ha pos pins s σ H _ I h) fun us s1 ⟨vs,H1,I1,r1,q1⟩=>kws_cons (thn (hv pins s1 σ H1 _ I1 q1) fun u s2 ⟨x,H2,I2,r2,q2⟩=>kws_nil ?_)) (.inr (by rw [hs];rfl)) (by rw [hs];exact ⟨_,_,rfl⟩) (by rw [hs];rfl)))
 obtain ⟨l,e,e2,⟨xs,h1⟩,q⟩:=q2
 subst e e2
 obtain ⟨u1,rfl,e1⟩:=vals1 r1
 cases e1
 obtain ⟨t,rfl⟩:=r2
 obtain ⟨its1,rv1,p1,hz1⟩:=I2.tuple h1
 show wpAny _ _ (call (.type "enumerate") [.ref l] [("start",.int 1 t)]) _ _ _
 refine EN.call_enum (by decide) p1 fun h' a1 a2 hsz kp=>?_
 have n1:l<s2.heap.objs.size:=by obtain ⟨o,e,_⟩:=p1;exact Heap.lt_size e
 refine wpAny_pyIter_enum a1 ?_
 generalize hn:s2.heap.objs.size=n at *
 refine ⟨n+1,[n+1,n],_,_,H2,rfl,I2.kept (t':=s2.toks) kp,turn_enum l (n+1) n (Nat.ne_of_gt (Nat.lt_succ_self n)) (Nat.ne_of_gt (Nat.lt_succ_of_lt n1)) (Nat.ne_of_lt n1),⟨⟨_,a1⟩,a2⟩,fun b hb=>?_,q⟩
 have hb':n≤b:=by
  simp only [List.mem_cons,List.not_mem_nil,or_false] at hb
  rcases hb with rfl | rfl
  ·exact Nat.le_add_right n 1
  ·exact Nat.le_refl _
 exact I2.fpOk (by rw [hn];exact hb') (I2.hok.fresh (by rw [hn];exact hb'))
theorem tFor_enum {K:PySem.W.Frag}{ta:TA}{tv:TE}{g:TG}{tb:TS}{D:Ends}{σ:St}{H:Hp}:tFor (iEnum K ta tv) g tb D σ H=ta σ H (fun vs H1=>tv σ H1 fun v H2=>∃ l:Addr,vs=[.ref l]∧v=.int 1∧(∃ xs,SqT K H2 l xs)∧ForGoal (Ite K l) g tb D σ H2):=rfl
theorem for_eG {K:PySem.W.Frag}{g:TG}{tb:TS}{D:Ends}{σ:St}{H:Hp}{a:Addr}{xs:List V} (Pv:Nat→St→Hp→Prop) (h0:Pv 0 σ H) (hk:∀ i σ H,i≤xs.length→Pv i σ H→SqT K H a xs)
  (hs:∀ i x t σ H,xs[i]? = some x→H t=none→Pv i σ H→g (.ref t) σ (upd H t (.tup [.int ((i+1:Nat):Int),x])) fun σ2 H2=>tb { D with nx:=Pv (i+1),ct:=Pv (i+1),bk:=D.nx } σ2 H2) (hd:∀ σ H,Pv xs.length σ H→D.nx σ H):ForGoal (Ite K a) g tb D σ H:=by
 refine ⟨fun i m σ H=>i+m=xs.length∧Pv i σ H,⟨xs.length,by omega,h0⟩,fun i m σ H ⟨hm,hp⟩=>?_⟩
 have s1:=hk i σ H (by omega) hp
 by_cases hi:i<xs.length
 ·refine .inr ⟨⟨xs,xs[i],s1,List.getElem?_eq_getElem hi⟩,Pv (i+1),fun σ' H' h=>⟨m - 1,by omega,by omega,h⟩,fun x H' ⟨T,x1,e1,e2,e3,e4⟩=>?_⟩
  subst e1 e3
  exact hs i x1 T σ H (e4 xs s1) e2 hp
 ·have:i=xs.length:=by omega
  subst this
  exact .inl ⟨⟨xs,s1,rfl⟩,hd σ H hp⟩
end L2
namespace MF
section sw
variable (m:Nat) (nd:Nat→Bool)
def cnt:Nat→Nat
 | 0=>0
 | i+1=>cnt i+(if nd (m+1+i) then 1 else 0)
def bec (k:Nat):Nat:=if k≤m then k else 1+m+cnt m nd (k - m - 1)
def mt (t:Int):Int:=2 * (bec m nd (t / 2).toNat:Nat)+t % 2
def mp (p:Pr):Pr:=(mt m nd p.1,mt m nd p.2)
def kept (P:List Pr):Nat→List Pr
 | 0=>[]
 | i+1=>if nd (m+1+i) then kept P i ++ [mp m nd (P.getD i (0,0))] else kept P i
variable {m nd}
theorem cnt_le:∀ i,cnt m nd i≤i
 | 0=>Nat.le_refl _
 | i+1=>by have:=cnt_le i;unfold cnt;split <;> omega
theorem cnt_mono {i:Nat}:∀ {j:Nat},i≤j→cnt m nd i≤cnt m nd j
  | 0, h => by have : i = 0 := by omega
               subst this;exact Nat.le_refl _
  | j+1,h=>by
    rcases Nat.lt_or_ge i (j+1) with h1 | h1
    · have:=cnt_mono (i:=i) (j:=j) (by omega)
      show _≤cnt m nd j+_
      omega
    · have:i=j+1:=by omega
      subst this;exact Nat.le_refl _
theorem cnt_lt {i j:Nat} (h:i<j) (hn:nd (m+1+i)=true):cnt m nd i<cnt m nd j:=by
 have:=cnt_mono (m:=m) (nd:=nd) (i:=i+1) (j:=j) h
 have e:cnt m nd (i+1)=cnt m nd i+1:=by show cnt m nd i+_=_;rw [if_pos hn]
 omega
theorem bec_low {k:Nat} (h:k≤m):bec m nd k=k:=if_pos h
theorem bec_high {i:Nat}:bec m nd (m+1+i)=1+m+cnt m nd i:=by
 unfold bec;rw [if_neg (by omega),show m+1+i - m - 1=i by omega]
theorem bec_lt {k k':Nat} (h:k<k') (hk:k≤m∨nd k=true):bec m nd k<bec m nd k':=by
 rcases Nat.lt_or_ge m k with h1 | h1
 ·obtain ⟨i,rfl⟩:∃ i,k=m+1+i:=⟨k - m - 1,by omega⟩
  obtain ⟨j,rfl⟩:∃ j,k'=m+1+j:=⟨k' - m - 1,by omega⟩
  rw [bec_high,bec_high]
  have hk':nd (m+1+i)=true:=hk.resolve_left (by omega)
  have:=cnt_lt (m:=m) (nd:=nd) (i:=i) (j:=j) (by omega) hk'
  omega
 ·rw [bec_low h1]
  rcases Nat.lt_or_ge m k' with h2 | h2
  ·obtain ⟨j,rfl⟩:∃ j,k'=m+1+j:=⟨k' - m - 1,by omega⟩
   rw [bec_high];omega
  ·rw [bec_low h2];exact h
def Sty (m:Nat) (nd:Nat→Bool) (k:Nat):Prop:=k≤m∨nd k=true
theorem bec_inj {k k':Nat} (h:Sty m nd k) (h':Sty m nd k') (e:bec m nd k=bec m nd k'):k=k':=by
 rcases Nat.lt_trichotomy k k' with l | l | l
 ·have:=bec_lt l h;omega
 ·exact l
 ·have:=bec_lt l h';omega
theorem mt_half {t:Int}:mt m nd t / 2=(bec m nd (t / 2).toNat:Nat):=by unfold mt;omega
theorem mt_odd {t:Int}:mt m nd t % 2=t % 2:=by unfold mt;omega
theorem mt_inj {t t':Int} (p:0≤t) (p':0≤t') (h:Sty m nd (t / 2).toNat) (h':Sty m nd (t' / 2).toNat) (e:mt m nd t=mt m nd t'):t=t':=by
 have e1:=congrArg (· / 2) e
 have e2:=congrArg (· % 2) e
 simp only [mt_half,mt_odd] at e1 e2
 have e3:=bec_inj h h' (by omega)
 omega
theorem kept_len (P:List Pr):∀ i,(kept m nd P i).length=cnt m nd i
 | 0=>rfl
 | i+1=>by
  have:=kept_len P i
  unfold kept cnt
  split
  ·rw [List.length_append,this];rfl
  ·rw [this];rfl
theorem kept_get {P:List Pr}{j:Nat} (hn:nd (m+1+j)=true) {p:Pr} (hp:P[j]? = some p):∀ {i},j<i→(kept m nd P i)[cnt m nd j]? = some (mp m nd p)
 | 0,h=>by omega
 | i+1,h=>by
  unfold kept
  rcases Nat.lt_or_ge j i with h1 | h1
  ·have:=kept_get hn hp h1
   split
   ·rw [List.getElem?_append_left (by rw [kept_len];exact cnt_lt h1 hn)];exact this
   ·exact this
  ·have:j=i:=by omega
   subst this
   rw [if_pos hn,List.getElem?_append_right (by rw [kept_len];exact Nat.le_refl _),kept_len,Nat.sub_self,List.getElem?_cons_zero,List.getD_eq_getElem?_getD,hp]
   rfl
theorem kept_of {P:List Pr}{r:Nat}{q:Pr}:∀ {i},i≤P.length→(kept m nd P i)[r]? = some q→∃ j p,j<i∧nd (m+1+j)=true∧cnt m nd j=r∧P[j]? = some p∧q=mp m nd p
 | 0,_,h=>by simp [kept] at h
 | i+1,hl,h=>by
  unfold kept at h
  split at h
  ·rename_i hn
   rcases Nat.lt_or_ge r (kept m nd P i).length with h1 | h1
   ·rw [List.getElem?_append_left h1] at h
    obtain ⟨j,p,a,b⟩:=kept_of (by omega) h
    exact ⟨j,p,by omega,b⟩
   ·rw [List.getElem?_append_right h1] at h
    have h0:r - (kept m nd P i).length=0:=by
     rcases Nat.eq_zero_or_pos (r - (kept m nd P i).length) with z | z
     ·exact z
     ·rw [List.getElem?_eq_none (by simp;omega)] at h;cases h
    rw [h0,List.getElem?_cons_zero] at h
    have hlt:i<P.length:=by omega
    refine ⟨i,P[i],by omega,hn,by have:=kept_len (m:=m) (nd:=nd) P i;omega,List.getElem?_eq_getElem hlt,?_⟩
    rw [List.getD_eq_getElem?_getD,List.getElem?_eq_getElem hlt] at h
    exact (Option.some.inj h).symm
  ·obtain ⟨j,p,a,b⟩:=kept_of (by omega) h
   exact ⟨j,p,by omega,b⟩
def Clo (m:Nat) (nd:Nat→Bool) (P:List Pr):Prop:=∀ j p,P[j]? = some p→nd (m+1+j)=true→nd (p.1 / 2).toNat=true∧nd (p.2 / 2).toNat=true
theorem mt_pair {P:List Pr} (ho:Ok m P) (hc:Clo m nd P) {j:Nat}{p:Pr} (hp:P[j]? = some p) (hn:nd (m+1+j)=true) :
  2≤mt m nd p.1∧mt m nd p.1<mt m nd p.2∧mt m nd p.1 / 2≠mt m nd p.2 / 2∧mt m nd p.2<2 * (m+1+(cnt m nd j:Nat)):=by
 obtain ⟨h1,h2,h3,h4⟩:=ho j p hp
 obtain ⟨c1,c2⟩:=hc j p hp hn
 have a1:=bec_lt (m:=m) (nd:=nd) (k:=(p.1 / 2).toNat) (k':=(p.2 / 2).toNat) (by omega) (.inr c1)
 have a2:=bec_lt (m:=m) (nd:=nd) (k:=0) (k':=(p.1 / 2).toNat) (by omega) (.inl (Nat.zero_le _))
 have a3:=bec_lt (m:=m) (nd:=nd) (k:=(p.2 / 2).toNat) (k':=m+1+j) (by omega) (.inr c2)
 rw [bec_high] at a3
 have e1:=mt_half (m:=m) (nd:=nd) (t:=p.1)
 have e2:=mt_half (m:=m) (nd:=nd) (t:=p.2)
 refine ⟨?_,?_,?_,?_⟩ <;> omega
theorem lohi {s t:Int} (h:s<t):lo s t=s∧hi s t=t:=by
 unfold lo hi;rw [if_neg (by omega),if_pos (by omega)];exact ⟨rfl,rfl⟩
theorem sure_lt {s t:Int} (h0:2≤s) (h:s<t) (h2:s / 2≠t / 2):sure s t=none:=by
 unfold sure
 rw [(lohi h).1,(lohi h).2,if_neg (by omega),if_neg (by omega),if_neg]
 intro z
 have:=congrArg (· / 2) z
 simp only [tn_half] at this
 exact h2 this
theorem fnd_not:∀ {n:Int}{ps:List Pr}{p:Pr},p ∉ ps→fnd n ps p=none
 | n,[],p,_=>rfl
 | n,q :: r,p,h=>by
  unfold fnd
  rw [if_neg (fun e:q=p=>h (e ▸ List.mem_cons_self ..))]
  exact fnd_not fun z=>h (List.mem_cons_of_mem _ z)
theorem both_new {M:Int}{ps:List Pr}{s t:Int} (h0:2≤s) (h:s<t) (h2:s / 2≠t / 2) (hn:(s,t) ∉ ps):bt M ps s t=2 * (M+1+ps.length)∧bp M ps s t=ps ++ [(s,t)]:=by
 unfold bt bp kn kp
 rw [sure_lt h0 h h2]
 simp only [(lohi h).1,(lohi h).2,fnd_not hn]
 exact ⟨rfl,rfl⟩
theorem nodup_get {P:List Pr} (h:P.Nodup) {i j:Nat}{p:Pr} (hi:P[i]? = some p) (hj:P[j]? = some p):i=j:=by
 have a:=fnd_idx (n:=0) h hi
 have b:=fnd_idx (n:=0) h hj
 rw [a] at b
 have:=Option.some.inj b
 omega
theorem mp_inj {P:List Pr} (ho:Ok m P) (hc:Clo m nd P) (hd:P.Nodup) {i j:Nat}{p q:Pr} (hp:P[i]? = some p) (hq:P[j]? = some q) (hi:nd (m+1+i)=true) (hj:nd (m+1+j)=true) (e:mp m nd p=mp m nd q):i=j:=by
 obtain ⟨p1,p2⟩:=hc i p hp hi
 obtain ⟨q1,q2⟩:=hc j q hq hj
 have h1:=ho i p hp
 have h2:=ho j q hq
 have e1:=mt_inj (by omega) (by omega) (.inr p1) (.inr q1) (congrArg Prod.fst e)
 have e2:=mt_inj (by omega) (by omega) (.inr p2) (.inr q2) (congrArg Prod.snd e)
 have:p=q:=Prod.ext e1 e2
 subst this
 exact nodup_get hd hp hq
theorem kept_new {P:List Pr} (ho:Ok m P) (hc:Clo m nd P) (hd:P.Nodup) {i:Nat}{p:Pr} (hp:P[i]? = some p) (hi:nd (m+1+i)=true):mp m nd p ∉ kept m nd P i:=by
 intro h
 obtain ⟨r,hr⟩:=List.mem_iff_getElem?.mp h
 have hlt:i<P.length:=by
  rcases Nat.lt_or_ge i P.length with z | z
  ·exact z
  ·rw [List.getElem?_eq_none z] at hp;cases hp
 obtain ⟨j,q,h1,h2,h3,h4,h5⟩:=kept_of (by omega) hr
 have:=mp_inj ho hc hd hp h4 hi h2 h5
 omega
theorem both_kept {P:List Pr} (ho:Ok m P) (hc:Clo m nd P) (hd:P.Nodup) {i:Nat}{p:Pr} (hp:P[i]? = some p) (hi:nd (m+1+i)=true) :
  bt m (kept m nd P i) (mt m nd p.1) (mt m nd p.2)=2 * (bec m nd (m+1+i):Nat)∧bp m (kept m nd P i) (mt m nd p.1) (mt m nd p.2)=kept m nd P (i+1):=by
 obtain ⟨a,b,c,d⟩:=mt_pair ho hc hp hi
 obtain ⟨e1,e2⟩:=both_new (M:=m) a b c (kept_new ho hc hd hp hi)
 rw [e1,e2,kept_len,bec_high]
 refine ⟨by omega,?_⟩
 show _=if _ then _ else _
 rw [if_pos hi,List.getD_eq_getElem?_getD,hp]
 rfl
theorem kept_ok {P:List Pr} (ho:Ok m P) (hc:Clo m nd P) {i:Nat} (h:i≤P.length):Ok m (kept m nd P i):=by
 intro r q hq
 obtain ⟨j,p,h1,h2,h3,h4,rfl⟩:=kept_of h hq
 have:=mt_pair ho hc h4 h2
 subst h3
 exact this
theorem mt_in {P:List Pr}{t:Int} (h0:0≤t) (h:t<2 * (m+1+P.length)) (hs:Sty m nd (t / 2).toNat):0≤mt m nd t∧mt m nd t<2 * (m+1+(kept m nd P P.length).length):=by
 rw [kept_len]
 have:=bec_lt (m:=m) (nd:=nd) (k:=(t / 2).toNat) (k':=m+1+P.length) (by omega) hs
 rw [bec_high] at this
 have e:=mt_half (m:=m) (nd:=nd) (t:=t)
 omega
theorem mt_nn {t:Int} (h0:0≤t):0≤mt m nd t:=by
 have e:=mt_half (m:=m) (nd:=nd) (t:=t)
 omega
end sw
def mark (L:List Bool) (t:Int):List Bool:=L.set (t / 2).toNat true
def marks (L:List Bool) (ts:List Int):List Bool:=ts.foldl mark L
def look (m:Nat) (P:List Pr) (L:List Bool) (j:Nat):List Bool :=
 if L.getD (m+1+j) false then mark (mark L (P.getD j (0,0)).1) (P.getD j (0,0)).2 else L
def down (m:Nat) (P:List Pr) (L:List Bool):Nat→List Bool
 | 0=>L
 | i+1=>look m P (down m P L i) (P.length - 1 - i)
def needL (m:Nat) (P:List Pr) (ts:List Int):List Bool:=down m P (marks (List.replicate (1+m+P.length) false) ts) P.length
def need (m:Nat) (P:List Pr) (ts:List Int) (k:Nat):Bool:=(needL m P ts).getD k false
theorem mark_len (L:List Bool) (t:Int):(mark L t).length=L.length:=List.length_set ..
theorem marks_len:∀ (ts:List Int) (L:List Bool),(marks L ts).length=L.length
 | [],L=>rfl
 | t :: r,L=>(marks_len r (mark L t)).trans (mark_len L t)
theorem look_len (m:Nat) (P:List Pr) (L:List Bool) (j:Nat):(look m P L j).length=L.length:=by
 unfold look;split
 ·rw [mark_len,mark_len]
 ·rfl
theorem down_len (m:Nat) (P:List Pr) (L:List Bool):∀ i,(down m P L i).length=L.length
 | 0=>rfl
 | i+1=>by unfold down;rw [look_len,down_len m P L i]
theorem mark_get (L:List Bool) (t:Int) (k:Nat):(mark L t).getD k false=true ↔ L.getD k false=true∨(k=(t / 2).toNat∧k<L.length):=by
 unfold mark
 rw [List.getD_eq_getElem?_getD,List.getD_eq_getElem?_getD,List.getElem?_set]
 by_cases e:(t / 2).toNat=k
 ·rw [if_pos e]
  subst e
  by_cases l:(t / 2).toNat<L.length
  ·rw [if_pos l];simp [l]
  ·rw [if_neg l];simp [l]
 ·rw [if_neg e]
  constructor
  ·exact .inl
  ·rintro (h | ⟨h,_⟩)
   ·exact h
   ·exact absurd h.symm e
theorem marks_get:∀ (ts:List Int) (L:List Bool) (k:Nat),(marks L ts).getD k false=true ↔ L.getD k false=true∨((∃ t∈ts,k=(t / 2).toNat)∧k<L.length)
 | [],L,k=>by simp [marks]
 | t :: r,L,k=>by
  show (marks (mark L t) r).getD k false=true ↔ _
  rw [marks_get r (mark L t) k,mark_get,mark_len]
  simp only [List.mem_cons,exists_eq_or_imp]
  constructor
  ·rintro ((h | ⟨h,l⟩) | ⟨h,l⟩)
   ·exact .inl h
   ·exact .inr ⟨.inl h,l⟩
   ·exact .inr ⟨.inr h,l⟩
  ·rintro (h | ⟨h | h,l⟩)
   ·exact .inl (.inl h)
   ·exact .inl (.inr ⟨h,l⟩)
   ·exact .inr ⟨h,l⟩
theorem look_get (m:Nat) (P:List Pr) (L:List Bool) (j k:Nat):(look m P L j).getD k false=true ↔
  L.getD k false=true∨(L.getD (m+1+j) false=true∧(k=((P.getD j (0,0)).1 / 2).toNat∨k=((P.getD j (0,0)).2 / 2).toNat)∧k<L.length):=by
 unfold look
 split
 ·rename_i h
  rw [mark_get,mark_get,mark_len]
  constructor
  ·rintro ((a | ⟨a,b⟩) | ⟨a,b⟩)
   ·exact .inl a
   ·exact .inr ⟨h,.inl a,b⟩
   ·exact .inr ⟨h,.inr a,b⟩
  ·rintro (a | ⟨_,a | a,b⟩)
   ·exact .inl (.inl a)
   ·exact .inl (.inr ⟨a,b⟩)
   ·exact .inr ⟨a,b⟩
 ·rename_i h
  constructor
  ·exact .inl
  ·rintro (a | ⟨a,_⟩)
   ·exact a
   ·exact absurd a h
theorem down_keep (m:Nat) (P:List Pr) (L:List Bool) (k:Nat) {i:Nat}:∀ {i'},i≤i'→(down m P L i).getD k false=true→(down m P L i').getD k false=true
  | 0, h, a => by have : i = 0 := by omega
                  subst this;exact a
  | j+1,h,a=>by
    rcases Nat.lt_or_ge i (j+1) with l | l
    · exact (look_get ..).mpr (.inl (down_keep m P L k (i':=j) (by omega) a))
    · have:i=j+1:=by omega
      subst this;exact a
theorem down_high {m:Nat}{P:List Pr} (ho:Ok m P) (L:List Bool) {j:Nat} (hj:j<P.length):∀ {i},P.length - j≤i→i≤P.length→(down m P L i).getD (m+1+j) false=true→(down m P L (P.length - 1 - j)).getD (m+1+j) false=true
 | 0,h,_,a=>by omega
 | i+1,h,hi,a=>by
  have hp:P[P.length - 1 - i]? = some P[P.length - 1 - i]:=List.getElem?_eq_getElem (by omega)
  have o:=ho _ _ hp
  have e:P.getD (P.length - 1 - i) (0,0)=P[P.length - 1 - i]:=by rw [List.getD_eq_getElem?_getD,hp];rfl
  rcases (look_get ..).mp a with a | ⟨a,b,_⟩
  ·rcases Nat.lt_or_ge i (P.length - j) with l | l
   ·have:i=P.length - 1 - j:=by omega
    subst this;exact a
   ·exact down_high ho L hj l (by omega) a
  ·rw [e] at b
   omega
theorem need_ts {m:Nat}{P:List Pr}{ts:List Int}{t:Int} (ht:t∈ts) (h:0≤t∧t<2 * ((m:Int)+1+P.length)):need m P ts (t / 2).toNat=true :=
 down_keep m P _ _ (i:=0) (Nat.zero_le _) ((marks_get ..).mpr (.inr ⟨⟨t,ht,rfl⟩,by rw [List.length_replicate];omega⟩))
theorem need_clo {m:Nat}{P:List Pr} (ho:Ok m P) (ts:List Int):Clo m (need m P ts) P:=by
 intro j p hp hn
 have hlt:j<P.length:=by
  rcases Nat.lt_or_ge j P.length with z | z
  ·exact z
  ·rw [List.getElem?_eq_none z] at hp;cases hp
 have a:=down_high ho _ hlt (i:=P.length) (by omega) (Nat.le_refl _) hn
 have o:=ho _ _ hp
 have e:P.getD (P.length - 1 - (P.length - 1 - j)) (0,0)=p:=by rw [show P.length - 1 - (P.length - 1 - j)=j by omega,List.getD_eq_getElem?_getD,hp];rfl
 have key:∀ k,(k=(p.1 / 2).toNat∨k=(p.2 / 2).toNat)→need m P ts k=true:=by
  intro k hk
  refine down_keep m P _ _ (i:=P.length - 1 - j+1) (by omega) ((look_get ..).mpr (.inr ⟨?_,?_,?_⟩))
  ·rw [show P.length - 1 - (P.length - 1 - j)=j by omega];exact a
  ·rw [e];exact hk
  ·rw [down_len,marks_len,List.length_replicate];omega
 exact ⟨key _ (.inl rfl),key _ (.inr rfl)⟩
def swP (m:Nat) (P:List Pr) (ts:List Int):List Pr:=kept m (need m P ts) P P.length
def swT (m:Nat) (P:List Pr) (ts:List Int):List Int:=ts.map (mt m (need m P ts))
def Tis (m:Nat) (P:List Pr) (ts:List Int):Prop:=∀ t∈ts,0≤t∧t<2 * ((m:Int)+1+P.length)
theorem swP_ok {m:Nat}{P:List Pr} (ho:Ok m P) (ts:List Int):Ok m (swP m P ts):=kept_ok ho (need_clo ho ts) (Nat.le_refl _)
theorem swT_in {m:Nat}{P:List Pr}{ts:List Int} (ht:Tis m P ts):Tis m (swP m P ts) (swT m P ts):=by
 intro t' h'
 obtain ⟨t,h,rfl⟩:=List.mem_map.mp h'
 exact mt_in (ht t h).1 (ht t h).2 (.inr (need_ts h (ht t h)))
theorem swP_len (m:Nat) (P:List Pr) (ts:List Int):(swP m P ts).length≤P.length:=by
 unfold swP;rw [kept_len];exact cnt_le _
end MF
namespace MF
section rs
variable (st:Nat→Bool)
def lookS (m:Nat) (P:List Pr) (L:List Bool) (j:Nat):List Bool :=
 if L.getD (m+1+j) false && !(st (m+1+j)) then mark (mark L (P.getD j (0,0)).1) (P.getD j (0,0)).2 else L
def downS (m:Nat) (P:List Pr) (L:List Bool):Nat→List Bool
 | 0=>L
 | i+1=>lookS st m P (downS m P L i) (P.length - 1 - i)
def reachL (m:Nat) (P:List Pr) (ts:List Int):List Bool:=downS st m P (marks (List.replicate (1+m+P.length) false) ts) P.length
def reach (m:Nat) (P:List Pr) (ts:List Int) (k:Nat):Bool:=(reachL st m P ts).getD k false
def reached (m:Nat) (P:List Pr) (ts:List Int):List Nat:=(List.range (1+m+P.length)).filter (reach st m P ts)
variable {st}
theorem lookS_len (m:Nat) (P:List Pr) (L:List Bool) (j:Nat):(lookS st m P L j).length=L.length:=by
 unfold lookS;split
 ·rw [mark_len,mark_len]
 ·rfl
theorem downS_len (m:Nat) (P:List Pr) (L:List Bool):∀ i,(downS st m P L i).length=L.length
 | 0=>rfl
 | i+1=>by unfold downS;rw [lookS_len,downS_len m P L i]
theorem lookS_get (m:Nat) (P:List Pr) (L:List Bool) (j k:Nat):(lookS st m P L j).getD k false=true ↔
  L.getD k false=true∨((L.getD (m+1+j) false=true∧st (m+1+j)=false)∧(k=((P.getD j (0,0)).1 / 2).toNat∨k=((P.getD j (0,0)).2 / 2).toNat)∧k<L.length):=by
 unfold lookS
 split
 ·rename_i h
  have h':L.getD (m+1+j) false=true∧st (m+1+j)=false:=by simpa using h
  rw [mark_get,mark_get,mark_len]
  constructor
  ·rintro ((a | ⟨a,b⟩) | ⟨a,b⟩)
   ·exact .inl a
   ·exact .inr ⟨h',.inl a,b⟩
   ·exact .inr ⟨h',.inr a,b⟩
  ·rintro (a | ⟨_,a | a,b⟩)
   ·exact .inl (.inl a)
   ·exact .inl (.inr ⟨a,b⟩)
   ·exact .inr ⟨a,b⟩
 ·rename_i h
  constructor
  ·exact .inl
  ·rintro (a | ⟨a,_⟩)
   ·exact a
   ·exact absurd (by simpa using a) h
theorem downS_keep (m:Nat) (P:List Pr) (L:List Bool) (k:Nat) {i:Nat}:∀ {i'},i≤i'→(downS st m P L i).getD k false=true→(downS st m P L i').getD k false=true
  | 0, h, a => by have : i = 0 := by omega
                  subst this;exact a
  | j+1,h,a=>by
    rcases Nat.lt_or_ge i (j+1) with l | l
    · exact (lookS_get ..).mpr (.inl (downS_keep m P L k (i':=j) (by omega) a))
    · have:i=j+1:=by omega
      subst this;exact a
theorem reach_ts {m:Nat}{P:List Pr}{ts:List Int}{t:Int} (ht:t∈ts) (h:0≤t∧t<2 * ((m:Int)+1+P.length)):reach st m P ts (t / 2).toNat=true :=
 downS_keep m P _ _ (i:=0) (Nat.zero_le _) ((marks_get ..).mpr (.inr ⟨⟨t,ht,rfl⟩,by rw [List.length_replicate];omega⟩))
theorem lookS_none (m:Nat) (P:List Pr) (L:List Bool) (j:Nat):lookS (fun _=>false) m P L j=look m P L j:=by
 unfold lookS look
 simp
theorem downS_none (m:Nat) (P:List Pr) (L:List Bool):∀ i,downS (fun _=>false) m P L i=down m P L i
 | 0=>rfl
 | i+1=>by unfold downS down;rw [downS_none m P L i,lookS_none]
theorem reach_none (m:Nat) (P:List Pr) (ts:List Int):reach (fun _=>false) m P ts=need m P ts:=by
 funext k
 unfold reach reachL need needL
 rw [downS_none]
end rs
theorem tie2 (k:Nat):(2 * (k:Int) / 2).toNat=k:=by omega
theorem reach_self {st:Nat→Bool}{m:Nat}{P:List Pr}{n:Nat} (h:n<1+m+P.length):reach st m P [2 * (n:Int)] n=true:=by
 have:=reach_ts (st:=st) (m:=m) (P:=P) (ts:=[2 * (n:Int)]) (List.mem_singleton.mpr rfl) (by omega)
 rwa [tie2] at this
structure HungAt (st:Nat→Bool) (m:Nat) (P:List Pr) (n i:Nat) (S:Nat→Prop):Prop where
 self:S n
 low:∀ k,S k→reach st m P [2 * (n:Int)] k=true
 clo:∀ j p,P[j]? = some p→m+1+j≤n→n - (m+1+j)<i→S (m+1+j)→st (m+1+j)=false→S (p.1 / 2).toNat∧S (p.2 / 2).toNat
theorem HungAt.new {st:Nat→Bool}{m:Nat}{P:List Pr}{n:Nat}{S:Nat→Prop} (h:∀ k,S k ↔ k=n) (hn:n<1+m+P.length):HungAt st m P n 0 S :=
 ⟨(h n).mpr rfl,fun k hk=>by rw [(h k).mp hk];exact reach_self hn,fun j p _ _ hi=>absurd hi (Nat.not_lt_zero _)⟩
end MF
namespace MF
theorem sw_lit {F m:Nat}{b:List Nat} (B:Base F m b) {P:List Pr} (ho:Ok m P) (ts:List Int):∀ (n:Nat) (t:Int),(t / 2).toNat=n→0≤t→t<2 * ((m:Int)+1+P.length)→Sty m (need m P ts) (t / 2).toNat→L F b (swP m P ts) (mt m (need m P ts) t)=L F b P t:=by
 have hc:=need_clo ho ts
 intro n
 induction n using Nat.strongRecOn with
 | ind n ih =>
  have even:∀ t:Int,(t / 2).toNat=n→t % 2=0→0≤t→t<2 * ((m:Int)+1+P.length)→Sty m (need m P ts) (t / 2).toNat→L F b (swP m P ts) (mt m (need m P ts) t)=L F b P t:=by
   intro t hn he h0 h1 hs
   rcases Nat.lt_or_ge m n with l | l
   ·obtain ⟨i,rfl⟩:∃ i,n=m+1+i:=⟨n - m - 1,by omega⟩
    rw [hn] at hs
    have hnd:need m P ts (m+1+i)=true:=hs.resolve_left (by omega)
    have hi:i<P.length:=by omega
    have hp:P[i]? = some P[i]:=List.getElem?_eq_getElem hi
    obtain ⟨c1,c2⟩:=hc i _ hp hnd
    obtain ⟨o1,o2,o3,o4⟩:=ho i _ hp
    have et:t=2 * ((m:Int)+1+i):=by omega
    have em:mt m (need m P ts) t=2 * ((m:Int)+1+(cnt m (need m P ts) i:Nat)):=by
     unfold mt
     rw [hn,bec_high,he]
     omega
    have hk:(swP m P ts)[cnt m (need m P ts) i]? = some (mp m (need m P ts) P[i]):=kept_get hnd hp hi
    rw [em,et,L_knot B ho (by omega) hp,L_knot B (swP_ok ho ts) (by omega) hk]
    show L F b (swP m P ts) (mt m (need m P ts) P[i].1) &&& L F b (swP m P ts) (mt m (need m P ts) P[i].2)=_
    rw [ih (P[i].1 / 2).toNat (by omega) P[i].1 rfl (by omega) (by omega) (.inr c1),ih (P[i].2 / 2).toNat (by omega) P[i].2 rfl (by omega) (by omega) (.inr c2)]
   ·have em:mt m (need m P ts) t=t:=by
     unfold mt
     rw [hn,bec_low l]
     omega
    have hin:InT m [] t:=⟨h0,by simp only [List.length_nil];omega⟩
    rw [em]
    have e1:=L_ext B (ps:=[]) (e:=swP m P ts) hin
    have e2:=L_ext B (ps:=[]) (e:=P) hin
    rw [List.nil_append] at e1 e2
    rw [e1,e2]
  intro t hn h0 h1 hs
  by_cases he:t % 2=0
  ·exact even t hn he h0 h1 hs
  ·have e:=even (t - 1) (by omega) (by omega) (by omega) (by omega) (by rw [show (t - 1) / 2=t / 2 by omega];exact hs)
   have e1:mt m (need m P ts) t=tn (mt m (need m P ts) (t - 1)):=by
    unfold tn mt
    rw [if_pos (by omega),show (t - 1) / 2=t / 2 by omega]
    omega
   have e2:t=tn (t - 1):=by unfold tn;rw [if_pos (by omega)];omega
   rw [e1,L_tn (mt_nn (by omega)),e]
   conv=>rhs;rw [e2,L_tn (by omega)]
theorem swT_lit {F m:Nat}{b:List Nat} (B:Base F m b) {P:List Pr} (ho:Ok m P) {ts:List Int} (ht:Tis m P ts):(swT m P ts).map (L F b (swP m P ts))=ts.map (L F b P):=by
 unfold swT
 rw [List.map_map]
 refine List.map_congr_left fun t hm=>?_
 exact sw_lit B ho ts _ t rfl (ht t hm).1 (ht t hm).2 (.inr (need_ts hm (ht t hm)))
end MF
set_option maxHeartbeats 4000000
namespace K20
open PySem PySem.Spec PyProof.Rows L2
def top (i:Nat):Stmt:=PySem.Challenge.pw_gatefold_k20_folded_as_the_net.main.body.getD i (.Pass ⟨0,0,0,0⟩)
abbrev s_full_column:Stmt:=top 1
abbrev N_full_column:List Str:=["many"]
theorem sc_full_column:FnScope N_full_column ["many"] (defScope s_full_column):=⟨rfl,rfl,rfl,by decide +kernel,rfl,by decide +kernel,by decide +kernel⟩
abbrev s_input_columns:Stmt:=top 2
abbrev N_input_columns:List Str:=["many","columns","every","width","place"]
theorem sc_input_columns:FnScope N_input_columns ["many"] (defScope s_input_columns):=⟨rfl,rfl,rfl,by decide +kernel,rfl,by decide +kernel,by decide +kernel⟩
abbrev s_lit_knots:Stmt:=top 8
abbrev N_lit_knots:List Str:=["fold","top","inputs","every","lit","knot"]
theorem sc_lit_knots:FnScope N_lit_knots ["fold","top","inputs","every"] (defScope s_lit_knots):=⟨rfl,rfl,rfl,by decide +kernel,rfl,by decide +kernel,by decide +kernel⟩
abbrev s_lit_pair:Stmt:=top 9
abbrev N_lit_pair:List Str:=["lit","pair","every"]
theorem sc_lit_pair:FnScope N_lit_pair ["lit","pair","every"] (defScope s_lit_pair):=⟨rfl,rfl,rfl,by decide +kernel,rfl,by decide +kernel,by decide +kernel⟩
abbrev s_lit_tie:Stmt:=top 10
abbrev N_lit_tie:List Str:=["lit","tie","every"]
theorem sc_lit_tie:FnScope N_lit_tie ["lit","tie","every"] (defScope s_lit_tie):=⟨rfl,rfl,rfl,by decide +kernel,rfl,by decide +kernel,by decide +kernel⟩
abbrev s_need_tie:Stmt:=top 11
abbrev N_need_tie:List Str:=["fold","tie"]
theorem sc_need_tie:FnScope N_need_tie ["fold","tie"] (defScope s_need_tie):=⟨rfl,rfl,rfl,by decide +kernel,rfl,by decide +kernel,by decide +kernel⟩
abbrev s_column:Stmt:=top 12
abbrev N_column:List Str:=["fold","tie","every"]
theorem sc_column:FnScope N_column ["fold","tie"] (defScope s_column):=⟨rfl,rfl,rfl,by decide +kernel,rfl,by decide +kernel,by decide +kernel⟩
abbrev s_knot_columns:Stmt:=top 13
abbrev N_knot_columns:List Str:=["fold"]
theorem sc_knot_columns:FnScope N_knot_columns ["fold"] (defScope s_knot_columns):=⟨rfl,rfl,rfl,by decide +kernel,rfl,by decide +kernel,by decide +kernel⟩
abbrev s_reached:Stmt:=top 15
abbrev N_reached:List Str:=["fold","knots","stops","seen","knot","tie"]
theorem sc_reached:FnScope N_reached ["fold","knots","stops"] (defScope s_reached):=⟨rfl,rfl,rfl,by decide +kernel,rfl,by decide +kernel,by decide +kernel⟩
abbrev s_turned:Stmt:=top 19
abbrev N_turned:List Str:=["tie"]
theorem sc_turned:FnScope N_turned ["tie"] (defScope s_turned):=⟨rfl,rfl,rfl,by decide +kernel,rfl,by decide +kernel,by decide +kernel⟩
abbrev s_Fold___init__:Stmt:=inClass (top 20) 0
abbrev N_Fold___init__:List Str:=["self","many"]
theorem sc_Fold___init__:FnScope N_Fold___init__ ["self","many"] (defScope s_Fold___init__):=⟨rfl,rfl,rfl,by decide +kernel,rfl,by decide +kernel,by decide +kernel⟩
abbrev s_Fold_total:Stmt:=inClass (top 20) 1
abbrev N_Fold_total:List Str:=["self"]
theorem sc_Fold_total:FnScope N_Fold_total ["self"] (defScope s_Fold_total):=⟨rfl,rfl,rfl,by decide +kernel,rfl,by decide +kernel,by decide +kernel⟩
abbrev s_Fold_has_tie:Stmt:=inClass (top 20) 2
abbrev N_Fold_has_tie:List Str:=["self","tie"]
theorem sc_Fold_has_tie:FnScope N_Fold_has_tie ["self","tie"] (defScope s_Fold_has_tie):=⟨rfl,rfl,rfl,by decide +kernel,rfl,by decide +kernel,by decide +kernel⟩
abbrev s_Fold_pair:Stmt:=inClass (top 20) 3
abbrev N_Fold_pair:List Str:=["self","knot"]
theorem sc_Fold_pair:FnScope N_Fold_pair ["self","knot"] (defScope s_Fold_pair):=⟨rfl,rfl,rfl,by decide +kernel,rfl,by decide +kernel,by decide +kernel⟩
abbrev s_Fold_both:Stmt:=inClass (top 20) 4
abbrev N_Fold_both:List Str:=["self","one","other","first","second"]
theorem sc_Fold_both:FnScope N_Fold_both ["self","one","other"] (defScope s_Fold_both):=⟨rfl,rfl,rfl,by decide +kernel,rfl,by decide +kernel,by decide +kernel⟩
abbrev s_Fold_and_knot:Stmt:=inClass (top 20) 5
abbrev N_Fold_and_knot:List Str:=["self","ties"]
theorem sc_Fold_and_knot:FnScope N_Fold_and_knot ["self","ties"] (defScope s_Fold_and_knot):=⟨rfl,rfl,rfl,by decide +kernel,rfl,by decide +kernel,by decide +kernel⟩
abbrev s_and_tie:Stmt:=top 22
abbrev N_and_tie:List Str:=["fold","ties","told","tie"]
theorem sc_and_tie:FnScope N_and_tie ["fold","ties"] (defScope s_and_tie):=⟨rfl,rfl,rfl,by decide +kernel,rfl,by decide +kernel,by decide +kernel⟩
abbrev s_or_tie:Stmt:=top 23
abbrev N_or_tie:List Str:=["fold","ties"]
theorem sc_or_tie:FnScope N_or_tie ["fold","ties"] (defScope s_or_tie):=⟨rfl,rfl,rfl,by decide +kernel,rfl,by decide +kernel,by decide +kernel⟩
abbrev s_either_of_two:Stmt:=top 24
abbrev N_either_of_two:List Str:=["fold","one","other","first","second"]
theorem sc_either_of_two:FnScope N_either_of_two ["fold","one","other"] (defScope s_either_of_two):=⟨rfl,rfl,rfl,by decide +kernel,rfl,by decide +kernel,by decide +kernel⟩
abbrev s_either_tie:Stmt:=top 25
abbrev N_either_tie:List Str:=["fold","ties","told","tie"]
theorem sc_either_tie:FnScope N_either_tie ["fold","ties"] (defScope s_either_tie):=⟨rfl,rfl,rfl,by decide +kernel,rfl,by decide +kernel,by decide +kernel⟩
abbrev s_choose_tie:Stmt:=top 26
abbrev N_choose_tie:List Str:=["fold","ties","first","second"]
theorem sc_choose_tie:FnScope N_choose_tie ["fold","ties"] (defScope s_choose_tie):=⟨rfl,rfl,rfl,by decide +kernel,rfl,by decide +kernel,by decide +kernel⟩
abbrev s_most_tie:Stmt:=top 27
abbrev N_most_tie:List Str:=["fold","ties","first","second","third"]
theorem sc_most_tie:FnScope N_most_tie ["fold","ties"] (defScope s_most_tie):=⟨rfl,rfl,rfl,by decide +kernel,rfl,by decide +kernel,by decide +kernel⟩
abbrev s_gate_tie:Stmt:=top 28
abbrev N_gate_tie:List Str:=["fold","word","ties"]
theorem sc_gate_tie:FnScope N_gate_tie ["fold","word","ties"] (defScope s_gate_tie):=⟨rfl,rfl,rfl,by decide +kernel,rfl,by decide +kernel,by decide +kernel⟩
abbrev s_moved_tie:Stmt:=top 29
abbrev N_moved_tie:List Str:=["moved","tie"]
theorem sc_moved_tie:FnScope N_moved_tie ["moved","tie"] (defScope s_moved_tie):=⟨rfl,rfl,rfl,by decide +kernel,rfl,by decide +kernel,by decide +kernel⟩
abbrev s_swept:Stmt:=top 30
abbrev N_swept:List Str:=["fold","ties","clean","moved","knot","pair"]
theorem sc_swept:FnScope N_swept ["fold","ties"] (defScope s_swept):=⟨rfl,rfl,rfl,by decide +kernel,rfl,by decide +kernel,by decide +kernel⟩
abbrev s_folded:Stmt:=top 31
abbrev N_folded:List Str:=["net","fold","known","knot","name","word","parts"]
theorem sc_folded:FnScope N_folded ["net"] (defScope s_folded):=⟨rfl,rfl,rfl,by decide +kernel,rfl,by decide +kernel,by decide +kernel⟩
abbrev s_all_lit:Stmt:=top 33
abbrev N_all_lit:List Str:=["columns","every","lit","column"]
theorem sc_all_lit:FnScope N_all_lit ["columns","every"] (defScope s_all_lit):=⟨rfl,rfl,rfl,by decide +kernel,rfl,by decide +kernel,by decide +kernel⟩
abbrev s_some_lit:Stmt:=top 34
abbrev N_some_lit:List Str:=["columns","lit","column"]
theorem sc_some_lit:FnScope N_some_lit ["columns"] (defScope s_some_lit):=⟨rfl,rfl,rfl,by decide +kernel,rfl,by decide +kernel,by decide +kernel⟩
abbrev s_odd_lit:Stmt:=top 35
abbrev N_odd_lit:List Str:=["columns","lit","column"]
theorem sc_odd_lit:FnScope N_odd_lit ["columns"] (defScope s_odd_lit):=⟨rfl,rfl,rfl,by decide +kernel,rfl,by decide +kernel,by decide +kernel⟩
abbrev s_chosen_lit:Stmt:=top 36
abbrev N_chosen_lit:List Str:=["columns","every","first"]
theorem sc_chosen_lit:FnScope N_chosen_lit ["columns","every"] (defScope s_chosen_lit):=⟨rfl,rfl,rfl,by decide +kernel,rfl,by decide +kernel,by decide +kernel⟩
abbrev s_most_lit:Stmt:=top 37
abbrev N_most_lit:List Str:=["columns"]
theorem sc_most_lit:FnScope N_most_lit ["columns"] (defScope s_most_lit):=⟨rfl,rfl,rfl,by decide +kernel,rfl,by decide +kernel,by decide +kernel⟩
abbrev s_column_by:Stmt:=top 38
abbrev N_column_by:List Str:=["word","columns","every"]
theorem sc_column_by:FnScope N_column_by ["word","columns","every"] (defScope s_column_by):=⟨rfl,rfl,rfl,by decide +kernel,rfl,by decide +kernel,by decide +kernel⟩
abbrev s_Net___init__:Stmt:=inClass (top 41) 0
abbrev N_Net___init__:List Str:=["self","inputs","gates","outputs"]
theorem sc_Net___init__:FnScope N_Net___init__ ["self","inputs","gates","outputs"] (defScope s_Net___init__):=⟨rfl,rfl,rfl,by decide +kernel,rfl,by decide +kernel,by decide +kernel⟩
abbrev s_Net_columns:Stmt:=inClass (top 41) 2
abbrev N_Net_columns:List Str:=["self","many"]
theorem sc_Net_columns:FnScope N_Net_columns ["self"] (defScope s_Net_columns):=⟨rfl,rfl,rfl,by decide +kernel,rfl,by decide +kernel,by decide +kernel⟩
abbrev s_Net_carried:Stmt:=inClass (top 41) 3
abbrev N_Net_carried:List Str:=["self","columns","every","known","name","word","parts"]
theorem sc_Net_carried:FnScope N_Net_carried ["self","columns","every"] (defScope s_Net_carried):=⟨rfl,rfl,rfl,by decide +kernel,rfl,by decide +kernel,by decide +kernel⟩
abbrev s_law_cell_at:Stmt:=top 43
abbrev N_law_cell_at:List Str:=["_law_script","_law_k"]
theorem sc_law_cell_at:FnScope N_law_cell_at ["_law_script","_law_k"] (defScope s_law_cell_at):=⟨rfl,rfl,rfl,by decide +kernel,rfl,by decide +kernel,by decide +kernel⟩
abbrev s_law_name:Stmt:=top 44
abbrev N_law_name:List Str:=["_law_cell","_law_k","_law_letters","_law_word","_law_rest","_law_j","_law_at","_law_number","_law_sign","_law_name_here"]
theorem sc_law_name:FnScope N_law_name ["_law_cell","_law_k"] (defScope s_law_name):=⟨rfl,rfl,rfl,by decide +kernel,rfl,by decide +kernel,by decide +kernel⟩
abbrev s_law_input:Stmt:=top 45
abbrev N_law_input:List Str:=["_law_many","_law_at","_law_found","_law_lighting"]
theorem sc_law_input:FnScope N_law_input ["_law_many","_law_at"] (defScope s_law_input):=⟨rfl,rfl,rfl,by decide +kernel,rfl,by decide +kernel,by decide +kernel⟩
abbrev s_law_gate_column:Stmt:=top 46
abbrev N_law_gate_column:List Str:=["_law_word","_law_some","_law_full","_law_found","_law_one"]
theorem sc_law_gate_column:FnScope N_law_gate_column ["_law_word","_law_some","_law_full"] (defScope s_law_gate_column):=⟨rfl,rfl,rfl,by decide +kernel,rfl,by decide +kernel,by decide +kernel⟩
abbrev s_law_picked:Stmt:=top 47
abbrev N_law_picked:List Str:=["_law_cell","_law_count","_law_k"]
theorem sc_law_picked:FnScope N_law_picked ["_law_cell","_law_count","_law_k"] (defScope s_law_picked):=⟨rfl,rfl,rfl,by decide +kernel,rfl,by decide +kernel,by decide +kernel⟩
abbrev s_law_gate_by:Stmt:=top 48
abbrev N_law_gate_by:List Str:=["_law_cell","_law_count","_law_most","_law_word","_law_many","_law_spots","_law_k"]
theorem sc_law_gate_by:FnScope N_law_gate_by ["_law_cell","_law_count","_law_most"] (defScope s_law_gate_by):=⟨rfl,rfl,rfl,by decide +kernel,rfl,by decide +kernel,by decide +kernel⟩
abbrev s_law_gate:Stmt:=top 49
abbrev N_law_gate:List Str:=["_law_cell","_law_count","_law_word","_law_rest","_law_many"]
theorem sc_law_gate:FnScope N_law_gate ["_law_cell","_law_count"] (defScope s_law_gate):=⟨rfl,rfl,rfl,by decide +kernel,rfl,by decide +kernel,by decide +kernel⟩
abbrev s_law:Stmt:=top 50
abbrev N_law:List Str:=["_law_script","_law_many","_law_names","_law_full","_law_columns","_law_gates","_law_cell","_law_word","_law_spots","_law_parts","_law_net","_law_due","_law_fold","_law_ties","_law_found","_law_knots","_law_k"]
theorem sc_law:FnScope N_law ["_law_script"] (defScope s_law):=⟨rfl,rfl,rfl,by decide +kernel,rfl,by decide +kernel,by decide +kernel⟩
structure Adr where
 f_full_column:Addr
 d_full_column:FuncData
 f_input_columns:Addr
 d_input_columns:FuncData
 f_lit_knots:Addr
 d_lit_knots:FuncData
 f_lit_pair:Addr
 d_lit_pair:FuncData
 f_lit_tie:Addr
 d_lit_tie:FuncData
 f_need_tie:Addr
 d_need_tie:FuncData
 f_column:Addr
 d_column:FuncData
 f_knot_columns:Addr
 d_knot_columns:FuncData
 f_reached:Addr
 d_reached:FuncData
 f_turned:Addr
 d_turned:FuncData
 f_Fold___init__:Addr
 d_Fold___init__:FuncData
 f_Fold_total:Addr
 d_Fold_total:FuncData
 f_Fold_has_tie:Addr
 d_Fold_has_tie:FuncData
 f_Fold_pair:Addr
 d_Fold_pair:FuncData
 f_Fold_both:Addr
 d_Fold_both:FuncData
 f_Fold_and_knot:Addr
 d_Fold_and_knot:FuncData
 f_and_tie:Addr
 d_and_tie:FuncData
 f_or_tie:Addr
 d_or_tie:FuncData
 f_either_of_two:Addr
 d_either_of_two:FuncData
 f_either_tie:Addr
 d_either_tie:FuncData
 f_choose_tie:Addr
 d_choose_tie:FuncData
 f_most_tie:Addr
 d_most_tie:FuncData
 f_gate_tie:Addr
 d_gate_tie:FuncData
 f_moved_tie:Addr
 d_moved_tie:FuncData
 f_swept:Addr
 d_swept:FuncData
 f_folded:Addr
 d_folded:FuncData
 f_all_lit:Addr
 d_all_lit:FuncData
 f_some_lit:Addr
 d_some_lit:FuncData
 f_odd_lit:Addr
 d_odd_lit:FuncData
 f_chosen_lit:Addr
 d_chosen_lit:FuncData
 f_most_lit:Addr
 d_most_lit:FuncData
 f_column_by:Addr
 d_column_by:FuncData
 f_Net___init__:Addr
 d_Net___init__:FuncData
 f_Net_columns:Addr
 d_Net_columns:FuncData
 f_Net_carried:Addr
 d_Net_carried:FuncData
 f_law_cell_at:Addr
 d_law_cell_at:FuncData
 f_law_name:Addr
 d_law_name:FuncData
 f_law_input:Addr
 d_law_input:FuncData
 f_law_gate_column:Addr
 d_law_gate_column:FuncData
 f_law_picked:Addr
 d_law_picked:FuncData
 f_law_gate_by:Addr
 d_law_gate_by:FuncData
 f_law_gate:Addr
 d_law_gate:FuncData
 f_law:Addr
 d_law:FuncData
 c_Fold:Addr
 c_Net:Addr
def gv_ALWAYS (_:Adr):V:=.int 1
def gv_NEVER (_:Adr):V:=.int 0
structure Txt (K:PySem.W.Frag) (mg:Str→Option Value) (a:Adr):Prop where
 mg_full_column:mg "full_column" = some (.ref a.f_full_column)
 fn_full_column:Fun K "full_column" "full_column" s_full_column a.f_full_column a.d_full_column
 bi_full_column:Binds K a.d_full_column ["many"] []
 mg_input_columns:mg "input_columns" = some (.ref a.f_input_columns)
 fn_input_columns:Fun K "input_columns" "input_columns" s_input_columns a.f_input_columns a.d_input_columns
 bi_input_columns:Binds K a.d_input_columns ["many"] []
 mg_lit_knots:mg "lit_knots" = some (.ref a.f_lit_knots)
 fn_lit_knots:Fun K "lit_knots" "lit_knots" s_lit_knots a.f_lit_knots a.d_lit_knots
 bi_lit_knots:Binds K a.d_lit_knots ["fold","top","inputs","every"] []
 mg_lit_pair:mg "lit_pair" = some (.ref a.f_lit_pair)
 fn_lit_pair:Fun K "lit_pair" "lit_pair" s_lit_pair a.f_lit_pair a.d_lit_pair
 bi_lit_pair:Binds K a.d_lit_pair ["lit","pair","every"] []
 mg_lit_tie:mg "lit_tie" = some (.ref a.f_lit_tie)
 fn_lit_tie:Fun K "lit_tie" "lit_tie" s_lit_tie a.f_lit_tie a.d_lit_tie
 bi_lit_tie:Binds K a.d_lit_tie ["lit","tie","every"] []
 mg_need_tie:mg "need_tie" = some (.ref a.f_need_tie)
 fn_need_tie:Fun K "need_tie" "need_tie" s_need_tie a.f_need_tie a.d_need_tie
 bi_need_tie:Binds K a.d_need_tie ["fold","tie"] []
 mg_column:mg "column" = some (.ref a.f_column)
 fn_column:Fun K "column" "column" s_column a.f_column a.d_column
 bi_column:Binds K a.d_column ["fold","tie"] []
 mg_knot_columns:mg "knot_columns" = some (.ref a.f_knot_columns)
 fn_knot_columns:Fun K "knot_columns" "knot_columns" s_knot_columns a.f_knot_columns a.d_knot_columns
 bi_knot_columns:Binds K a.d_knot_columns ["fold"] []
 mg_reached:mg "reached" = some (.ref a.f_reached)
 fn_reached:Fun K "reached" "reached" s_reached a.f_reached a.d_reached
 bi_reached:Binds K a.d_reached ["fold","knots","stops"] []
 mg_turned:mg "turned" = some (.ref a.f_turned)
 fn_turned:Fun K "turned" "turned" s_turned a.f_turned a.d_turned
 bi_turned:Binds K a.d_turned ["tie"] []
 fn_Fold___init__:Fun K "__init__" "Fold.__init__" s_Fold___init__ a.f_Fold___init__ a.d_Fold___init__
 bi_Fold___init__:Binds K a.d_Fold___init__ ["self","many"] []
 fn_Fold_total:Fun K "total" "Fold.total" s_Fold_total a.f_Fold_total a.d_Fold_total
 bi_Fold_total:Binds K a.d_Fold_total ["self"] []
 me_Fold_total:Meth K a.c_Fold "total" a.f_Fold_total
 fn_Fold_has_tie:Fun K "has_tie" "Fold.has_tie" s_Fold_has_tie a.f_Fold_has_tie a.d_Fold_has_tie
 bi_Fold_has_tie:Binds K a.d_Fold_has_tie ["self","tie"] []
 me_Fold_has_tie:Meth K a.c_Fold "has_tie" a.f_Fold_has_tie
 fn_Fold_pair:Fun K "pair" "Fold.pair" s_Fold_pair a.f_Fold_pair a.d_Fold_pair
 bi_Fold_pair:Binds K a.d_Fold_pair ["self","knot"] []
 me_Fold_pair:Meth K a.c_Fold "pair" a.f_Fold_pair
 fn_Fold_both:Fun K "both" "Fold.both" s_Fold_both a.f_Fold_both a.d_Fold_both
 bi_Fold_both:Binds K a.d_Fold_both ["self","one","other"] []
 me_Fold_both:Meth K a.c_Fold "both" a.f_Fold_both
 fn_Fold_and_knot:Fun K "and_knot" "Fold.and_knot" s_Fold_and_knot a.f_Fold_and_knot a.d_Fold_and_knot
 bi_Fold_and_knot:Binds K a.d_Fold_and_knot ["self","ties"] []
 me_Fold_and_knot:Meth K a.c_Fold "and_knot" a.f_Fold_and_knot
 mg_and_tie:mg "and_tie" = some (.ref a.f_and_tie)
 fn_and_tie:Fun K "and_tie" "and_tie" s_and_tie a.f_and_tie a.d_and_tie
 bi_and_tie:Binds K a.d_and_tie ["fold","ties"] []
 mg_or_tie:mg "or_tie" = some (.ref a.f_or_tie)
 fn_or_tie:Fun K "or_tie" "or_tie" s_or_tie a.f_or_tie a.d_or_tie
 bi_or_tie:Binds K a.d_or_tie ["fold","ties"] []
 mg_either_of_two:mg "either_of_two" = some (.ref a.f_either_of_two)
 fn_either_of_two:Fun K "either_of_two" "either_of_two" s_either_of_two a.f_either_of_two a.d_either_of_two
 bi_either_of_two:Binds K a.d_either_of_two ["fold","one","other"] []
 mg_either_tie:mg "either_tie" = some (.ref a.f_either_tie)
 fn_either_tie:Fun K "either_tie" "either_tie" s_either_tie a.f_either_tie a.d_either_tie
 bi_either_tie:Binds K a.d_either_tie ["fold","ties"] []
 mg_choose_tie:mg "choose_tie" = some (.ref a.f_choose_tie)
 fn_choose_tie:Fun K "choose_tie" "choose_tie" s_choose_tie a.f_choose_tie a.d_choose_tie
 bi_choose_tie:Binds K a.d_choose_tie ["fold","ties"] []
 mg_most_tie:mg "most_tie" = some (.ref a.f_most_tie)
 fn_most_tie:Fun K "most_tie" "most_tie" s_most_tie a.f_most_tie a.d_most_tie
 bi_most_tie:Binds K a.d_most_tie ["fold","ties"] []
 mg_gate_tie:mg "gate_tie" = some (.ref a.f_gate_tie)
 fn_gate_tie:Fun K "gate_tie" "gate_tie" s_gate_tie a.f_gate_tie a.d_gate_tie
 bi_gate_tie:Binds K a.d_gate_tie ["fold","word","ties"] []
 mg_moved_tie:mg "moved_tie" = some (.ref a.f_moved_tie)
 fn_moved_tie:Fun K "moved_tie" "moved_tie" s_moved_tie a.f_moved_tie a.d_moved_tie
 bi_moved_tie:Binds K a.d_moved_tie ["moved","tie"] []
 mg_swept:mg "swept" = some (.ref a.f_swept)
 fn_swept:Fun K "swept" "swept" s_swept a.f_swept a.d_swept
 bi_swept:Binds K a.d_swept ["fold","ties"] []
 mg_folded:mg "folded" = some (.ref a.f_folded)
 fn_folded:Fun K "folded" "folded" s_folded a.f_folded a.d_folded
 bi_folded:Binds K a.d_folded ["net"] []
 mg_all_lit:mg "all_lit" = some (.ref a.f_all_lit)
 fn_all_lit:Fun K "all_lit" "all_lit" s_all_lit a.f_all_lit a.d_all_lit
 bi_all_lit:Binds K a.d_all_lit ["columns","every"] []
 mg_some_lit:mg "some_lit" = some (.ref a.f_some_lit)
 fn_some_lit:Fun K "some_lit" "some_lit" s_some_lit a.f_some_lit a.d_some_lit
 bi_some_lit:Binds K a.d_some_lit ["columns"] []
 mg_odd_lit:mg "odd_lit" = some (.ref a.f_odd_lit)
 fn_odd_lit:Fun K "odd_lit" "odd_lit" s_odd_lit a.f_odd_lit a.d_odd_lit
 bi_odd_lit:Binds K a.d_odd_lit ["columns"] []
 mg_chosen_lit:mg "chosen_lit" = some (.ref a.f_chosen_lit)
 fn_chosen_lit:Fun K "chosen_lit" "chosen_lit" s_chosen_lit a.f_chosen_lit a.d_chosen_lit
 bi_chosen_lit:Binds K a.d_chosen_lit ["columns","every"] []
 mg_most_lit:mg "most_lit" = some (.ref a.f_most_lit)
 fn_most_lit:Fun K "most_lit" "most_lit" s_most_lit a.f_most_lit a.d_most_lit
 bi_most_lit:Binds K a.d_most_lit ["columns"] []
 mg_column_by:mg "column_by" = some (.ref a.f_column_by)
 fn_column_by:Fun K "column_by" "column_by" s_column_by a.f_column_by a.d_column_by
 bi_column_by:Binds K a.d_column_by ["word","columns","every"] []
 fn_Net___init__:Fun K "__init__" "Net.__init__" s_Net___init__ a.f_Net___init__ a.d_Net___init__
 bi_Net___init__:Binds K a.d_Net___init__ ["self","inputs","gates","outputs"] []
 fn_Net_columns:Fun K "columns" "Net.columns" s_Net_columns a.f_Net_columns a.d_Net_columns
 bi_Net_columns:Binds K a.d_Net_columns ["self"] []
 me_Net_columns:Meth K a.c_Net "columns" a.f_Net_columns
 fn_Net_carried:Fun K "carried" "Net.carried" s_Net_carried a.f_Net_carried a.d_Net_carried
 bi_Net_carried:Binds K a.d_Net_carried ["self","columns","every"] []
 me_Net_carried:Meth K a.c_Net "carried" a.f_Net_carried
 mg_law_cell_at:mg "_law_cell_at" = some (.ref a.f_law_cell_at)
 fn_law_cell_at:Fun K "_law_cell_at" "_law_cell_at" s_law_cell_at a.f_law_cell_at a.d_law_cell_at
 bi_law_cell_at:Binds K a.d_law_cell_at ["_law_script","_law_k"] []
 mg_law_name:mg "_law_name" = some (.ref a.f_law_name)
 fn_law_name:Fun K "_law_name" "_law_name" s_law_name a.f_law_name a.d_law_name
 bi_law_name:Binds K a.d_law_name ["_law_cell","_law_k"] []
 mg_law_input:mg "_law_input" = some (.ref a.f_law_input)
 fn_law_input:Fun K "_law_input" "_law_input" s_law_input a.f_law_input a.d_law_input
 bi_law_input:Binds K a.d_law_input ["_law_many","_law_at"] []
 mg_law_gate_column:mg "_law_gate_column" = some (.ref a.f_law_gate_column)
 fn_law_gate_column:Fun K "_law_gate_column" "_law_gate_column" s_law_gate_column a.f_law_gate_column a.d_law_gate_column
 bi_law_gate_column:Binds K a.d_law_gate_column ["_law_word","_law_some","_law_full"] []
 mg_law_picked:mg "_law_picked" = some (.ref a.f_law_picked)
 fn_law_picked:Fun K "_law_picked" "_law_picked" s_law_picked a.f_law_picked a.d_law_picked
 bi_law_picked:Binds K a.d_law_picked ["_law_cell","_law_count","_law_k"] []
 mg_law_gate_by:mg "_law_gate_by" = some (.ref a.f_law_gate_by)
 fn_law_gate_by:Fun K "_law_gate_by" "_law_gate_by" s_law_gate_by a.f_law_gate_by a.d_law_gate_by
 bi_law_gate_by:Binds K a.d_law_gate_by ["_law_cell","_law_count","_law_most"] []
 mg_law_gate:mg "_law_gate" = some (.ref a.f_law_gate)
 fn_law_gate:Fun K "_law_gate" "_law_gate" s_law_gate a.f_law_gate a.d_law_gate
 bi_law_gate:Binds K a.d_law_gate ["_law_cell","_law_count"] []
 mg_law:mg "law" = some (.ref a.f_law)
 fn_law:Fun K "law" "law" s_law a.f_law a.d_law
 bi_law:Binds K a.d_law ["_law_script"] []
 mg_Fold:mg "Fold" = some (.ref a.c_Fold)
 cl_Fold:Cls K a.c_Fold
 mk_Fold:Mk K a.c_Fold a.f_Fold___init__
 na_Fold_many:NoAttr K a.c_Fold "many"
 na_Fold_pairs:NoAttr K a.c_Fold "pairs"
 na_Fold_knots:NoAttr K a.c_Fold "knots"
 mg_Net:mg "Net" = some (.ref a.c_Net)
 cl_Net:Cls K a.c_Net
 mk_Net:Mk K a.c_Net a.f_Net___init__
 na_Net_inputs:NoAttr K a.c_Net "inputs"
 na_Net_gates:NoAttr K a.c_Net "gates"
 na_Net_outputs:NoAttr K a.c_Net "outputs"
 gx_ALWAYS:∃ u,mg "ALWAYS" = some u∧RelV (gv_ALWAYS a) u
 gx_NEVER:∃ u,mg "NEVER" = some u∧RelV (gv_NEVER a) u
 no_bool:mg "bool" = none
 no_dict:mg "dict" = none
 no_enumerate:mg "enumerate" = none
 no_int:mg "int" = none
 no_isinstance:mg "isinstance" = none
 no_len:mg "len" = none
 no_max:mg "max" = none
 no_min:mg "min" = none
 no_range:mg "range" = none
 no_tuple:mg "tuple" = none
 no_zip:mg "zip" = none
seal PE PT PS PSs PA PG PGs PI PO PW PTs PPs PK PC PSet PIp OpR UnR CallR IxR SlR MtR MtM tMid
local macro_rules | `(tactic| walk_at "go")=>`(tactic| try simp only [tSeq,tAsg,gName,gTup,gCons,gNil,gSub,tOp,tC,cVar,cI2,cI2c,cAdd,cMul,cEq,cNe,cIsNot,cIn,cBool,cTst,cTru,cChain,tRet,tDrop,tIfS,tIf,tCall,tCons,tNil,tNext,tCB,cLen,cInt,cIsinst,cMin,cMax,tNot,tOr,tAnd,tUn,cNeg,tFor_list,tFor_tup,tFor_rng1,tFor_rng2,tComp_list,tComp_tup,tComp_rng1,cRef,cInt1,cInt2,cIx,tSl,cSlU,cPart,tNoPart,tVals,tLst_n,tTup_n,tDispC_n,tDNewK_n,cTuple_n,tDGet2,tDGet,tDNotIn,sDPut,tBM,tMake,tMeth,tFld,sFld,cDictZip,tyV,tNo,cDictP,tFor_rngD,cMulL,tFor_enum,tDNewT_n,List.append_nil,List.cons_append,List.nil_append,List.getElem?_cons_zero,List.getElem?_cons_succ,List.set_cons_zero,List.set_cons_succ,decide_eq_true_eq,if_true,if_false,Bool.false_eq_true,eq_self,decide_true,decide_false,Bool.not_true,Bool.not_false,Bool.not_eq_true',decide_eq_false_iff_not,Bool.and_true,Bool.true_and])
local macro_rules | `(tactic| walk_at "sd")=>`(tactic| first | exact And.intro (by decide) (by decide) | decide | omega | exact Or.inl (And.intro (by omega) (by omega)) | exact Or.inr (And.intro (by omega) (by omega)) | exact And.intro (by omega) (And.intro (by omega) (by decide)) | exact And.intro (by omega) (by omega))
local macro_rules | `(tactic| walk_at "gs")=>`(tactic| (walk_at "go";repeat (first | (refine And.intro (by walk_at "sd") ?_;walk_at "go"))))
local macro_rules | `(tactic| walk_at "o")=>`(tactic| first | exact Or.inl rfl | exact Or.inr rfl)
variable {P:Program}{w:World}{K:PySem.W.Frag}{mg:Str→Option Value}{base:Heap}{a:Adr}
def sp_turned (_:PySem.W.Frag):Sp:=fun vs H Q _=>∃ t:Int,vs=[.int t]∧0≤t∧Q (.int (MF.tn t)) H
def rd_turned (K:PySem.W.Frag):TS:=(tRet (tOp (cI2 fun i j=>.int (Builtin.bitXor i j)) (cVar 0) (tC (.int 1))))
theorem tm_turned (T:Txt K mg a) {cdv:Value}{A:Around}{outer:List Env}{s:Shared}{H:Hp}{E:XK} (hr:Room 0 (A.deeper (envOfC "turned" (defScope s_turned) s.heap.objs.size a.f_turned cdv))) :
  PSs (cxOf CX0 P w K mg base N_turned "turned" (defScope s_turned) a.f_turned cdv A outer s H E).nox (defBody s_turned) (rd_turned K) :=
 (pss_one (ps_ret (pe_op o_xor (cv 0) pe_int)))
theorem ok_turned (T:Txt K mg a):FnOk P w K mg base CX0 1 a.f_turned a.d_turned ["tie"] (sp_turned K):=by
 refine T.fn_turned.ok sc_turned (fun vs H Q E h=>?_) (fun cdv A outer s H vs Q E hr h=>⟨_,tm_turned T hr,?_⟩)
 ·obtain ⟨t,rfl,_⟩:=h;rfl
 ·obtain ⟨t,rfl,h0,q⟩:=h
  show rd_turned K _ [some (.int t)] H
  unfold rd_turned
  walk_at "go"
  rw [xor_one h0]
  exact q
def sp_Fold___init__ (a:Adr) (K:PySem.W.Frag):Sp:=fun vs H Q _=>∃ (x dx:Addr) (m:Int),vs=[.ref x,.int m]∧H x=some (.ins a.c_Fold dx []) ∧
 ∀ H' pl kl,(∀ b o,b≠x→H b=some o→H' b=some o)→H pl=none→H kl=none→FoldAt a.c_Fold H' x m [] dx pl kl→Q .non H'
def rd_Fold___init__ (K:PySem.W.Frag):TS:=(tSeq (sFld K (cVar 0) (cVar 1) "many")
  (tSeq (sFld K (cVar 0) (tLst tNil) "pairs")
  (sFld K (cVar 0) tDNewT "knots")))
theorem tm_Fold___init__ (T:Txt K mg a) {cdv:Value}{A:Around}{outer:List Env}{s:Shared}{H:Hp}{E:XK} (hr:Room 0 (A.deeper (envOfC "Fold.__init__" (defScope s_Fold___init__) s.heap.objs.size a.f_Fold___init__ cdv))) :
  PSs (cxOf CX0 P w K mg base N_Fold___init__ "Fold.__init__" (defScope s_Fold___init__) a.f_Fold___init__ cdv A outer s H E).nox (defBody s_Fold___init__) (rd_Fold___init__ K) :=
 (pss_cons (ps_fld (cv 0) (cv 1) rfl)
   (pss_cons (ps_fld (cv 0) (pe_lst pa_nil) rfl)
   (pss_one (ps_fld (cv 0) pe_dnewT rfl))))
theorem ok_Fold___init__ (T:Txt K mg a):FnOk P w K mg base CX0 1 a.f_Fold___init__ a.d_Fold___init__ ["self","many"] (sp_Fold___init__ a K):=by
 refine T.fn_Fold___init__.ok sc_Fold___init__ (fun vs H Q E h=>?_) (fun cdv A outer s H vs Q E hr h=>⟨_,tm_Fold___init__ T hr,?_⟩)
 ·obtain ⟨x,dx,m,rfl,_⟩:=h;rfl
 ·obtain ⟨x,dx,m,rfl,hx,q⟩:=h
  show rd_Fold___init__ K _ [some (.ref x),some (.int m)] H
  unfold rd_Fold___init__
  walk_at "go"
  refine ⟨x,a.c_Fold,dx,[],rfl,hx,T.cl_Fold,T.na_Fold_many,by decide,?_⟩
  walk_at "go"
  refine ⟨by decide,fun pl H2 n2=>?_⟩
  have x2:=n2.same _ _ (upd_same (H:=H) (a:=x) (o:=.ins a.c_Fold dx (putF "many" (.int m) [])))
  refine ⟨x,a.c_Fold,dx,_,rfl,x2,T.cl_Fold,T.na_Fold_pairs,by have:=length_putF "many" (.int m) [];simp only [List.length_nil] at this;omega,?_⟩
  walk_at "go"
  intro kl H4 n4
  have x4:=n4.same _ _ (upd_same (H:=H2) (a:=x) (o:=.ins a.c_Fold dx (putF "pairs" (.ref pl) (putF "many" (.int m) []))))
  refine ⟨x,a.c_Fold,dx,_,rfl,x4,T.cl_Fold,T.na_Fold_knots,by have h7:=length_putF "many" (.int m) [];have h8:=length_putF "pairs" (.ref pl) (putF "many" (.int m) []);simp only [List.length_nil] at h7;omega,?_⟩
  have hpx:pl≠x:=fun e=>by have:=n2.was;rw [e,upd_same] at this;cases this
  have hkx:kl≠x:=fun e=>by have:=n4.was;rw [e,upd_same] at this;cases this
  have hp4:H4 pl=some (.lst []):=n4.same _ _ (by rw [upd_ne hpx];exact n2.at_)
  have hk4:H4 kl=some (.dT []):=n4.at_
  have st:∀ b o,b≠x→H b=some o→H4 b=some o:=fun b o nb e=>n4.same _ _ (by rw [upd_ne nb];exact n2.same _ _ (by rw [upd_ne nb];exact e))
  have nop:H pl=none:=by
   have:=n2.was
   rw [upd_ne hpx] at this
   exact this
  have nok:H kl=none:=by
   have h1:=n4.was
   rw [upd_ne hkx] at h1
   have h2:=n2.same.nil h1
   rw [upd_ne hkx] at h2
   exact h2
  refine q _ pl kl (fun b o nb e=>by rw [upd_ne nb];exact st b o nb e) nop nok ⟨?_,?_,?_,fun e he=>nomatch he⟩
  ·rw [upd_same]
   have e1:putF "knots" (.ref kl) (putF "pairs" (.ref pl) (putF "many" (.int m) []))=([("many",V.int m),("pairs",V.ref pl),("knots",V.ref kl)]:List (Str × V)):=by
    have z1:¬ ("many" : Str) = "pairs":=by decide +kernel
    have z2:¬ ("many" : Str) = "knots":=by decide +kernel
    have z3:¬ ("pairs" : Str) = "knots":=by decide +kernel
    simp [putF,z1,z2,z3]
   rw [e1]
  ·rw [upd_ne hpx];exact hp4
  ·rw [upd_ne hkx];exact hk4
def sp_Fold_total (a:Adr) (_:PySem.W.Frag):Sp:=fun vs H Q _=>∃ (f dx pl kl:Addr) (m:Int) (es:List En),vs=[.ref f]∧FoldAt a.c_Fold H f m es dx pl kl∧Q (.int (1+m+es.length)) H
def rd_Fold_total (K:PySem.W.Frag):TS:=(tRet (tOp cAdd (tOp cAdd (tC (.int 1)) (tFld K (cVar 0) "many")) (tCB (cLen K) (tCons (tFld K (cVar 0) "pairs") tNil))))
theorem tm_Fold_total (T:Txt K mg a) {cdv:Value}{A:Around}{outer:List Env}{s:Shared}{H:Hp}{E:XK} (hr:Room 0 (A.deeper (envOfC "Fold.total" (defScope s_Fold_total) s.heap.objs.size a.f_Fold_total cdv))) :
  PSs (cxOf CX0 P w K mg base N_Fold_total "Fold.total" (defScope s_Fold_total) a.f_Fold_total cdv A outer s H E).nox (defBody s_Fold_total) (rd_Fold_total K) :=
 (pss_one (ps_ret (pe_op o_add (pe_op o_add pe_int (pe_fld (cv 0) rfl)) (pe_callB c_len (by rfl) T.no_len PySem.boot_len (pa_cons (pe_fld (cv 0) rfl) pa_nil)))))
theorem ok_Fold_total (T:Txt K mg a):FnOk P w K mg base CX0 1 a.f_Fold_total a.d_Fold_total ["self"] (sp_Fold_total a K):=by
 refine T.fn_Fold_total.ok sc_Fold_total (fun vs H Q E h=>?_) (fun cdv A outer s H vs Q E hr h=>⟨_,tm_Fold_total T hr,?_⟩)
 ·obtain ⟨f,dx,pl,kl,m,es,rfl,_⟩:=h;rfl
 ·obtain ⟨f,dx,pl,kl,m,es,rfl,hf,q⟩:=h
  show rd_Fold_total K _ [some (.ref f)] H
  unfold rd_Fold_total
  walk_at "go"
  refine ⟨f,a.c_Fold,dx,_,_,rfl,hf.ins,T.cl_Fold,T.na_Fold_many,rfl,?_⟩
  walk_at "go"
  refine ⟨f,a.c_Fold,dx,_,_,rfl,hf.ins,T.cl_Fold,T.na_Fold_pairs,rfl,?_⟩
  walk_at "go"
  refine .inl ⟨_,.inl (.of hf.prs.lst),?_⟩
  rw [List.length_map]
  exact q
def sp_Fold_has_tie (a:Adr) (_:PySem.W.Frag):Sp:=fun vs H Q _=>∃ (f dx pl kl:Addr) (m t:Int) (es:List En),vs=[.ref f,.int t]∧FoldAt a.c_Fold H f m es dx pl kl∧Q (.bl (decide (0≤t∧t<2 * (1+m+es.length)))) H
def rd_Fold_has_tie (a:Adr) (K:PySem.W.Frag):TS:=(tRet (cChain (cI2 fun i j=>.bl (decide (i≤j))) (cI2 fun i j=>.bl (decide (i<j))) (tC (.int 0)) (cVar 1) (tOp cMul (tC (.int 2)) (tMeth a.c_Fold "total" (sp_Fold_total a K) [] E0 (cVar 0) tNil))))
theorem tm_Fold_has_tie (T:Txt K mg a) {cdv:Value}{A:Around}{outer:List Env}{s:Shared}{H:Hp}{E:XK} (hr:Room 1 (A.deeper (envOfC "Fold.has_tie" (defScope s_Fold_has_tie) s.heap.objs.size a.f_Fold_has_tie cdv))) :
  PSs (cxOf CX0 P w K mg base N_Fold_has_tie "Fold.has_tie" (defScope s_Fold_has_tie) a.f_Fold_has_tie cdv A outer s H E).nox (defBody s_Fold_has_tie) (rd_Fold_has_tie a K) :=
 (pss_one (ps_ret (e_chain o_le o_lt pe_int (cv 1) (pe_op o_mul pe_int (pe_meth0 (cv 0) T.cl_Fold T.me_Fold_total (ok_Fold_total T) (hr.mono (by decide)) T.bi_Fold_total .nil pass0)))))
theorem ok_Fold_has_tie (T:Txt K mg a):FnOk P w K mg base CX0 2 a.f_Fold_has_tie a.d_Fold_has_tie ["self","tie"] (sp_Fold_has_tie a K):=by
 refine T.fn_Fold_has_tie.ok sc_Fold_has_tie (fun vs H Q E h=>?_) (fun cdv A outer s H vs Q E hr h=>⟨_,tm_Fold_has_tie T hr,?_⟩)
 ·obtain ⟨f,dx,pl,kl,m,t,es,rfl,_⟩:=h;rfl
 ·obtain ⟨f,dx,pl,kl,m,t,es,rfl,hf,q⟩:=h
  show rd_Fold_has_tie a K _ [some (.ref f),some (.int t)] H
  unfold rd_Fold_has_tie
  walk_at "go"
  by_cases h0:0≤t
  ·rw [if_pos h0]
   refine ⟨f,dx,_,rfl,hf.ins,rfl,f,dx,pl,kl,m,es,rfl,hf,?_⟩
   walk_at "go"
   refine ⟨.inl ⟨by decide,by decide⟩,?_⟩
   have e:decide (t<2 * (1+m+(es.length:Int)))=decide (0≤t∧t<2 * (1+m+es.length)):=by rw [decide_eq_decide];omega
   rw [e]
   exact q
  ·rw [if_neg h0]
   have e:false=decide (0≤t∧t<2 * (1+m+(es.length:Int))):=by rw [decide_eq_false (by omega)]
   rw [e]
   exact q
def sp_Fold_pair (a:Adr) (_:PySem.W.Frag):Sp:=fun vs H Q _=>∃ (f dx pl kl:Addr) (m k:Int) (es:List En),vs=[.ref f,.int k]∧FoldAt a.c_Fold H f m es dx pl kl∧0≤k∧k<1+m+es.length ∧
 (k≤m→Q .non H)∧(∀ e,m<k→es[(k - m - 1).toNat]? = some e→Q (.ref e.1) H)
def rd_Fold_pair (a:Adr) (K:PySem.W.Frag):TS:=(tSeq (tIfS (tOr (cTst (tOp (cI2 fun i j=>.bl (decide (i<j))) (cVar 1) (tC (.int 0)))) (cTst (tOp (cI2 fun i j=>.bl (decide (j≤i))) (cVar 1) (tMeth a.c_Fold "total" (sp_Fold_total a K) [] E0 (cVar 0) tNil)))) tNo tNext)
  (tSeq (tIfS (cTst (tOp (cI2 fun i j=>.bl (decide (i≤j))) (cVar 1) (tFld K (cVar 0) "many"))) (tRet (tC .non)) tNext)
  (tRet (tOp (cIx K) (tFld K (cVar 0) "pairs") (tOp (cI2 fun i j=>.int (i - j)) (tOp (cI2 fun i j=>.int (i - j)) (cVar 1) (tFld K (cVar 0) "many")) (tC (.int 1)))))))
theorem tm_Fold_pair (T:Txt K mg a) {cdv:Value}{A:Around}{outer:List Env}{s:Shared}{H:Hp}{E:XK} (hr:Room 1 (A.deeper (envOfC "Fold.pair" (defScope s_Fold_pair) s.heap.objs.size a.f_Fold_pair cdv))) :
  PSs (cxOf CX0 P w K mg base N_Fold_pair "Fold.pair" (defScope s_Fold_pair) a.f_Fold_pair cdv A outer s H E).nox (defBody s_Fold_pair) (rd_Fold_pair a K) :=
 (pss_cons (ps_if (PW.pt (pw_or (t_cmp o_lt (cv 1) pe_int (nomark _)) (pw_or1 (t_cmp o_ge (cv 1) (pe_meth0 (cv 0) T.cl_Fold T.me_Fold_total (ok_Fold_total T) (hr.mono (by decide)) T.bi_Fold_total .nil pass0) (nomark _))))) (pss_one ps_no) pss_nil)
   (pss_cons (ps_if (t_cmp o_le (cv 1) (pe_fld (cv 0) rfl) (nomark _)) (pss_one (ps_ret pe_non)) pss_nil)
   (pss_one (ps_ret (pe_ix i_seq (pe_fld (cv 0) rfl) (pe_op o_sub (pe_op o_sub (cv 1) (pe_fld (cv 0) rfl)) pe_int) (fun _ _=>rfl))))))
theorem ok_Fold_pair (T:Txt K mg a):FnOk P w K mg base CX0 2 a.f_Fold_pair a.d_Fold_pair ["self","knot"] (sp_Fold_pair a K):=by
 refine T.fn_Fold_pair.ok sc_Fold_pair (fun vs H Q E h=>?_) (fun cdv A outer s H vs Q E hr h=>⟨_,tm_Fold_pair T hr,?_⟩)
 ·obtain ⟨f,dx,pl,kl,m,k,es,rfl,_⟩:=h;rfl
 ·obtain ⟨f,dx,pl,kl,m,k,es,rfl,hf,h0,h1,q1,q2⟩:=h
  show rd_Fold_pair a K _ [some (.ref f),some (.int k)] H
  unfold rd_Fold_pair
  walk_at "go"
  rw [if_neg (by omega)]
  refine ⟨f,dx,_,rfl,hf.ins,rfl,f,dx,pl,kl,m,es,rfl,hf,?_⟩
  walk_at "go"
  rw [if_neg (by omega)]
  refine ⟨f,a.c_Fold,dx,_,_,rfl,hf.ins,T.cl_Fold,T.na_Fold_many,rfl,?_⟩
  walk_at "go"
  by_cases hk:k≤m
  ·rw [if_pos hk]
   exact q1 hk
  ·rw [if_neg hk]
   refine ⟨f,a.c_Fold,dx,_,_,rfl,hf.ins,T.cl_Fold,T.na_Fold_pairs,rfl,f,a.c_Fold,dx,_,_,rfl,hf.ins,T.cl_Fold,T.na_Fold_many,rfl,?_⟩
   walk_at "go"
   have hlt:(k - m - 1).toNat<es.length:=by omega
   refine ⟨_,_,.inl (.of hf.prs.lst),atI_ok .non (by omega) (by rw [List.length_map];omega),?_⟩
   rw [getD_refs es _ hlt]
   exact q2 _ (by omega) (List.getElem?_eq_getElem hlt)
def sp_Fold_and_knot (a:Adr) (_:PySem.W.Frag):Sp:=fun vs H Q _=>∃ (f dx pl kl tp:Addr) (m:Int) (p:MF.Pr) (es:List En),vs=[.ref f,.ref tp]∧FoldAt a.c_Fold H f m es dx pl kl∧H tp=some (.tup [.int p.1,.int p.2])∧es.length≤5000 ∧
 ∀ H' es',Un2 pl kl H H'→FoldAt a.c_Fold H' f m es' dx pl kl→psOf es'=MF.kp m (psOf es) p→Q (.int (MF.kn m (psOf es) p)) H'
def rd_Fold_and_knot (a:Adr) (K:PySem.W.Frag):TS:=(tMid (tIfS (cTst (tDNotIn (cVar 1) (tFld K (cVar 0) "knots"))) (tSeq (sDPut (tFld K (cVar 0) "knots") (cVar 1) (tMeth a.c_Fold "total" (sp_Fold_total a K) [] E0 (cVar 0) tNil))
  (tDrop (tBM K "list" rAppend (tFld K (cVar 0) "pairs") (tCons (cVar 1) tNil)))) tNext)
  (tRet (tDGet (tFld K (cVar 0) "knots") (cVar 1))))
theorem tm_Fold_and_knot (T:Txt K mg a) {cdv:Value}{A:Around}{outer:List Env}{s:Shared}{H:Hp}{E:XK} (hr:Room 1 (A.deeper (envOfC "Fold.and_knot" (defScope s_Fold_and_knot) s.heap.objs.size a.f_Fold_and_knot cdv))) :
  PSs (cxOf CX0 P w K mg base N_Fold_and_knot "Fold.and_knot" (defScope s_Fold_and_knot) a.f_Fold_and_knot cdv A outer s H E).nox (defBody s_Fold_and_knot) (rd_Fold_and_knot a K) :=
 (pss_mid (ps_if (t_pc (pc_dnotin (hu_of hr) (cv 1) (pe_fld (cv 0) rfl))) (pss_cons (ps_dput (hu_of hr) (pe_fld (cv 0) rfl) (cv 1) (pe_meth0 (cv 0) T.cl_Fold T.me_Fold_total (ok_Fold_total T) (hr.mono (by decide)) T.bi_Fold_total .nil pass0) rfl)
   (pss_one (ps_expr (pe_bm PySem.F.plainAttrs_list PySem.F.slot_list_append PySem.F.type_list_append (mtr mt_append) (pe_fld (cv 0) rfl) (pa_cons (cv 1) pa_nil))))) pss_nil)
   (pss_one (ps_ret (pe_dget (hu_of hr) (pe_fld (cv 0) rfl) (cv 1) (fun _ _=>rfl)))))
theorem ok_Fold_and_knot (T:Txt K mg a):FnOk P w K mg base CX0 2 a.f_Fold_and_knot a.d_Fold_and_knot ["self","ties"] (sp_Fold_and_knot a K):=by
 refine T.fn_Fold_and_knot.ok sc_Fold_and_knot (fun vs H Q E h=>?_) (fun cdv A outer s H vs Q E hr h=>⟨_,tm_Fold_and_knot T hr,?_⟩)
 ·obtain ⟨f,dx,pl,kl,tp,m,p,es,rfl,_⟩:=h;rfl
 ·obtain ⟨f,dx,pl,kl,tp,m,p,es,rfl,hf,ht,hz,q⟩:=h
  show rd_Fold_and_knot a K _ [some (.ref f),some (.ref tp)] H
  unfold rd_Fold_and_knot
  have big:(5001:Nat)≤sizeLine:=by decide
  refine mid (fun σ' H'=>σ'=[some (.ref f),some (.ref tp)]∧Un2 pl kl H H'∧∃ es',FoldAt a.c_Fold H' f m es' dx pl kl∧psOf es'=MF.kp m (psOf es) p∧MF.fnd (m+1) (psOf es') p=some (MF.kn m (psOf es) p)∧H' tp=some (.tup [.int p.1,.int p.2])) ?_ ?_
  ·intro N hN
   walk_at "go"
   refine ⟨f,a.c_Fold,dx,_,_,rfl,hf.ins,T.cl_Fold,T.na_Fold_knots,rfl,kl,_,rfl,DGet.t (k:=knK p) hf.prs.dct ht,?_⟩
   rw [val_kvF]
   cases hfd:MF.fnd (m+1) (psOf es) p with
   | some i =>
    walk_at "go"
    refine hN _ _ ⟨rfl,Un2.refl,es,hf,?_,?_,ht⟩
    ·unfold MF.kp;rw [hfd];rfl
    ·unfold MF.kn;rw [hfd];rfl
   | none =>
    walk_at "go"
    refine ⟨f,dx,_,rfl,hf.ins,rfl,f,dx,pl,kl,m,es,rfl,hf,?_⟩
    walk_at "go"
    refine ⟨f,a.c_Fold,dx,_,_,rfl,hf.ins,T.cl_Fold,T.na_Fold_knots,rfl,?_⟩
    walk_at "go"
    refine ⟨kl,_,rfl,DPut.t (k:=knK p) hf.prs.dct ht (by rw [len_kvF,List.length_map];omega),?_⟩
    have e0:(1+m+(es.length:Int))=(m+1)+((psOf es).length:Nat):=by rw [List.length_map];omega
    rw [e0,put_kvF hfd]
    have nfk:f≠kl:=ne_of hf.ins hf.prs.dct (fun z=>nomatch z)
    have nfl:f≠pl:=ne_of hf.ins hf.prs.lst (fun z=>nomatch z)
    have i2:upd H kl (.dT (kvF (m+1) (psOf es ++ [p]))) f=some (.ins a.c_Fold dx [("many",.int m),("pairs",.ref pl),("knots",.ref kl)]):=by rw [upd_ne nfk];exact hf.ins
    have l2:upd H kl (.dT (kvF (m+1) (psOf es ++ [p]))) pl=some (.lst (es.map fun e=>V.ref e.1)):=by rw [upd_ne hf.prs.nlk];exact hf.prs.lst
    walk_at "go"
    refine ⟨f,a.c_Fold,dx,_,_,rfl,i2,T.cl_Fold,T.na_Fold_pairs,rfl,?_⟩
    walk_at "go"
    refine ⟨.inl ⟨by trivial,_,.of l2⟩,pl,_,_,rfl,rfl,l2,by rw [List.length_map];omega,?_⟩
    refine hN _ _ ⟨rfl,un_k.trans un_l,es ++ [(tp,p)],⟨?_,hf.prs.put ht hfd⟩,?_,?_,?_⟩
    ·rw [upd_ne nfl];exact i2
    ·unfold MF.kp;rw [hfd,psOf,List.map_append];rfl
    ·unfold MF.kn;rw [hfd,psOf,List.map_append];exact MF.fnd_snoc hfd
    ·rw [upd_ne (ne_of ht hf.prs.lst (fun z=>nomatch z)),upd_ne (ne_of ht hf.prs.dct (fun z=>nomatch z))];exact ht
  ·rintro σ' H' ⟨rfl,u,es',hf',hp',hfd,ht'⟩
   walk_at "go"
   refine ⟨f,a.c_Fold,dx,_,_,rfl,hf'.ins,T.cl_Fold,T.na_Fold_knots,rfl,kl,.int (MF.kn m (psOf es) p),rfl,?_,q _ es' u hf' hp'⟩
   have:=DGet.t (k:=knK p) hf'.prs.dct ht'
   rw [val_kvF,hfd] at this
   exact this
def sp_Fold_both (a:Adr) (_:PySem.W.Frag):Sp:=fun vs H Q _=>∃ (f dx pl kl:Addr) (m s t:Int) (es:List En),vs=[.ref f,.int s,.int t]∧FoldAt a.c_Fold H f m es dx pl kl∧0≤s∧0≤t∧s<2 * (1+m+es.length)∧t<2 * (1+m+es.length)∧es.length≤5000 ∧
 ∀ H' es',Un2 pl kl H H'→FoldAt a.c_Fold H' f m es' dx pl kl→psOf es'=MF.bp m (psOf es) s t→Q (.int (MF.bt m (psOf es) s t)) H'
def rd_Fold_both (a:Adr) (K:PySem.W.Frag):TS:=(tSeq (tIfS (tOr (tNot (cTru K (tMeth a.c_Fold "has_tie" (sp_Fold_has_tie a K) [] E0 (cVar 0) (tCons (cVar 1) tNil)))) (tNot (cTru K (tMeth a.c_Fold "has_tie" (sp_Fold_has_tie a K) [] E0 (cVar 0) (tCons (cVar 2) tNil))))) tNo tNext)
  (tSeq (tAsg (tCB cMin (tCons (cVar 1) (tCons (cVar 2) tNil))) (gName 3))
  (tSeq (tAsg (tCB cMax (tCons (cVar 1) (tCons (cVar 2) tNil))) (gName 4))
  (tSeq (tIfS (cTst (tOp (cEq K) (cVar 3) (tC (gv_NEVER a)))) (tRet (tC (gv_NEVER a))) tNext)
  (tSeq (tIfS (tOr (cTst (tOp (cEq K) (cVar 3) (tC (gv_ALWAYS a)))) (cTst (tOp (cEq K) (cVar 3) (cVar 4)))) (tRet (cVar 4)) tNext)
  (tSeq (tIfS (cTst (tOp (cEq K) (cVar 3) (tCall (sp_turned K) [] E0 (tCons (cVar 4) tNil)))) (tRet (tC (gv_NEVER a))) tNext)
  (tRet (tOp cMul (tC (.int 2)) (tMeth a.c_Fold "and_knot" (sp_Fold_and_knot a K) [] E0 (cVar 0) (tCons (tTup (tCons (cVar 3) (tCons (cVar 4) tNil))) tNil))))))))))
theorem tm_Fold_both (T:Txt K mg a) {cdv:Value}{A:Around}{outer:List Env}{s:Shared}{H:Hp}{E:XK} (hr:Room 2 (A.deeper (envOfC "Fold.both" (defScope s_Fold_both) s.heap.objs.size a.f_Fold_both cdv))) :
  PSs (cxOf CX0 P w K mg base N_Fold_both "Fold.both" (defScope s_Fold_both) a.f_Fold_both cdv A outer s H E).nox (defBody s_Fold_both) (rd_Fold_both a K) :=
 (pss_cons (ps_if (PW.pt (pw_or (pt_not (pt_tru (pe_meth (cv 0) T.cl_Fold T.me_Fold_has_tie (ok_Fold_has_tie T) (hr.mono (by decide)) T.bi_Fold_has_tie .nil pass0 (pa_cons (cv 1) pa_nil)))) (pw_or1 (pt_not (pt_tru (pe_meth (cv 0) T.cl_Fold T.me_Fold_has_tie (ok_Fold_has_tie T) (hr.mono (by decide)) T.bi_Fold_has_tie .nil pass0 (pa_cons (cv 2) pa_nil))))))) (pss_one ps_no) pss_nil)
   (pss_cons (ps_set (i:=3) sc_Fold_both.nd rfl (by walk_at "o") (pe_callB (c_min rfl) (by rfl) T.no_min PyProof.Rows.boot_min (pa_cons (cv 1) (pa_cons (cv 2) pa_nil))))
   (pss_cons (ps_set (i:=4) sc_Fold_both.nd rfl (by walk_at "o") (pe_callB (c_max rfl) (by rfl) T.no_max PyProof.Rows.boot_max (pa_cons (cv 1) (pa_cons (cv 2) pa_nil))))
   (pss_cons (ps_if (t_cmp (o_eq (hr8 hr)) (cv 3) (pe_globE rfl T.gx_NEVER) (nomark _)) (pss_one (ps_ret (pe_globE rfl T.gx_NEVER))) pss_nil)
   (pss_cons (ps_if (PW.pt (pw_or (t_cmp (o_eq (hr8 hr)) (cv 3) (pe_globE rfl T.gx_ALWAYS) (nomark _)) (pw_or1 (t_cmp (o_eq (hr8 hr)) (cv 3) (cv 4) (nomark _))))) (pss_one (ps_ret (cv 4))) pss_nil)
   (pss_cons (ps_if (t_cmp (o_eq (hr8 hr)) (cv 3) (pe_call (ok_turned T) (hr.mono (by decide)) rfl T.mg_turned T.fn_turned.kp T.bi_turned .nil pass0 (pa_cons (cv 4) pa_nil)) (nomark _)) (pss_one (ps_ret (pe_globE rfl T.gx_NEVER))) pss_nil)
   (pss_one (ps_ret (pe_op o_mul pe_int (pe_meth (cv 0) T.cl_Fold T.me_Fold_and_knot (ok_Fold_and_knot T) (hr.mono (by decide)) T.bi_Fold_and_knot .nil pass0 (pa_cons (pe_tup (pa_cons (cv 3) (pa_cons (cv 4) pa_nil))) pa_nil)))))))))))
theorem ok_Fold_both (T:Txt K mg a):FnOk P w K mg base CX0 3 a.f_Fold_both a.d_Fold_both ["self","one","other"] (sp_Fold_both a K):=by
 refine T.fn_Fold_both.ok sc_Fold_both (fun vs H Q E h=>?_) (fun cdv A outer s H vs Q E hr h=>⟨_,tm_Fold_both T hr,?_⟩)
 ·obtain ⟨f,dx,pl,kl,m,s,t,es,rfl,_⟩:=h;rfl
 ·obtain ⟨f,dx,pl,kl,m,x,y,es,rfl,hf,hx,hy,hx',hy',hz,q⟩:=h
  show rd_Fold_both a K _ [some (.ref f),some (.int x),some (.int y),none,none] H
  unfold rd_Fold_both gv_NEVER gv_ALWAYS
  walk_at "go"
  refine ⟨f,dx,_,rfl,hf.ins,rfl,f,dx,pl,kl,m,x,es,rfl,hf,?_⟩
  rw [decide_eq_true (by omega)]
  walk_at "go"
  refine ⟨f,dx,_,rfl,hf.ins,rfl,f,dx,pl,kl,m,y,es,rfl,hf,?_⟩
  rw [decide_eq_true (by omega)]
  walk_at "go"
  have q':=q
  unfold MF.bt MF.bp MF.sure at q'
  have e1:(if y<x then y else x)=MF.lo x y:=rfl
  have e2:(if y > x then y else x)=MF.hi x y:=rfl
  rw [e1,e2]
  by_cases h1:MF.lo x y=0
  ·rw [if_pos h1] at q' ⊢
   exact q' H es Un2.refl hf rfl
  rw [if_neg h1] at q' ⊢
  by_cases h2:MF.lo x y=1∨MF.lo x y=MF.hi x y
  ·rw [if_pos h2] at q'
   have fin:=q' H es Un2.refl hf rfl
   rcases h2 with h2 | h2
   ·rw [if_pos h2];exact fin
   ·by_cases h3:MF.lo x y=1
    ·rw [if_pos h3];exact fin
    ·rw [if_neg h3,if_pos h2];exact fin
  rw [if_neg h2] at q'
  rw [if_neg (fun z=>h2 (.inl z)),if_neg (fun z=>h2 (.inr z))]
  have hhi:0≤MF.hi x y:=by unfold MF.hi;split <;> omega
  refine ⟨MF.hi x y,rfl,hhi,?_⟩
  walk_at "go"
  by_cases h3:MF.lo x y=MF.tn (MF.hi x y)
  ·rw [if_pos h3] at q' ⊢
   exact q' H es Un2.refl hf rfl
  rw [if_neg h3] at q' ⊢
  refine ⟨f,dx,_,rfl,hf.ins,rfl,by show 2≤sizeLine;decide,fun tp H2 n2=>?_⟩
  have hf2:=hf.same n2.same
  refine ⟨f,dx,pl,kl,tp,m,(MF.lo x y,MF.hi x y),es,rfl,hf2,n2.at_,hz,fun H' es' u hf' hp'=>?_⟩
  walk_at "go"
  refine ⟨.inl ⟨by decide,by decide⟩,q' H' es' (n2.same.un.trans u) hf' hp'⟩
theorem mk_Fold {a:Adr}{K:PySem.W.Frag}{H:Hp}{m:Int}{F:Addr→Hp→Prop}{E:XK} (q:∀ x dx pl kl H',Same H H'→H x=none→H pl=none→H kl=none→FoldAt a.c_Fold H' x m [] dx pl kl→F x H') :
  ∀ x dx,H x=none→H dx=none→dx≠x→sp_Fold___init__ a K [.ref x,.int m] (upd (upd H dx (.own x)) x (.ins a.c_Fold dx [])) (fun v H2=>v=.non∧F x H2) E:=by
 intro x dx hx hd hne
 refine ⟨x,dx,m,rfl,upd_same,fun H' pl kl st hp hk hf=>⟨rfl,q x dx pl kl H' (fun b o e=>?_) hx ?_ ?_ hf⟩⟩
 ·have n1:b≠x:=ne_of_none e hx
  have n2:b≠dx:=ne_of_none e hd
  exact st b o n1 (by rw [upd_ne n1,upd_ne n2];exact e)
 ·cases e:H pl with
  | none=>rfl
  | some o =>
   rw [upd_ne (ne_of_none e hx),upd_ne (ne_of_none e hd),e] at hp
   cases hp
 ·cases e:H kl with
  | none=>rfl
  | some o =>
   rw [upd_ne (ne_of_none e hx),upd_ne (ne_of_none e hd),e] at hk
   cases hk
def Scr (K:PySem.W.Frag) (H:Hp) (p:Addr) (xs:List V) (L:Addr→Prop):Prop:=(SqL K H p xs∧¬ L p)∨∀ H',SqL K H' p xs
theorem Scr.sq {K:PySem.W.Frag}{H:Hp}{p:Addr}{xs:List V}{L:Addr→Prop} (h:Scr K H p xs L):SqL K H p xs:=h.elim (fun h=>h.1) fun h=>h H
theorem Scr.keep {K:PySem.W.Frag}{H H':Hp}{p:Addr}{xs:List V}{L:Addr→Prop} (h:Scr K H p xs L) (k:Keep (fun b=>¬ L b) H H'):Scr K H' p xs L :=
 h.elim (fun h=>.inl ⟨k.seq h.2 h.1,h.2⟩) fun h=>.inr h
theorem Scr.of {K:PySem.W.Frag}{H:Hp}{p:Addr}{xs:List V}{L:Addr→Prop} (h:SqL K H p xs) (hL:∀ b,L b→H b=none):Scr K H p xs L:=by
 by_cases n:L p
 ·rcases h with (h | ⟨o,h⟩) | h
  ·rw [hL p n] at h;cases h
  ·rw [hL p n] at h;cases h
  ·exact .inr fun H'=>.inr h
 ·exact .inl ⟨h,n⟩
def sp_and_tie (a:Adr) (K:PySem.W.Frag):Sp:=fun vs H Q _=>∃ (f dx pl kl tp:Addr) (m t0:Int) (ts:List Int) (es:List En),vs=[.ref f,.ref tp]∧FoldAt a.c_Fold H f m es dx pl kl∧SqL K H tp ((t0 :: ts).map V.int)∧0≤m∧(∀ t∈t0 :: ts,MF.InT m (psOf es) t)∧es.length≤4000∧ts.length≤100 ∧
 ∀ H' es',Un2 pl kl H H'→FoldAt a.c_Fold H' f m es' dx pl kl→psOf es'=(MF.andR m t0 ts (psOf es)).2→Q (.int (MF.andR m t0 ts (psOf es)).1) H'
theorem inT_of {m t:Int}{es:List En} (h:MF.InT m (psOf es) t):0≤t∧t<2 * (1+m+es.length):=⟨h.1,by have:=h.2;rw [List.length_map] at this;omega⟩
theorem len_ps (es:List En):(psOf es).length=es.length:=List.length_map ..
theorem at0 (t:Int) (ts:List Int):atI ((t :: ts).map V.int) 0=some (.int t):=by rw [atI_ok .non (by omega) (by simp)];rfl
def rd_and_tie (a:Adr) (K:PySem.W.Frag):TS:=(tSeq (tAsg (tOp (cIx K) (cVar 1) (tC (.int 0))) (gName 2))
  (tSeq (tFor (iList K (tSl (cSlU K) (cVar 1) (cPart (tC (.int 1))) tNoPart)) (gName 3) (tAsg (tMeth a.c_Fold "both" (sp_Fold_both a K) [] E0 (cVar 0) (tCons (cVar 2) (tCons (cVar 3) tNil))) (gName 2)))
  (tRet (cVar 2))))
theorem tm_and_tie (T:Txt K mg a) {cdv:Value}{A:Around}{outer:List Env}{s:Shared}{H:Hp}{E:XK} (hr:Room 3 (A.deeper (envOfC "and_tie" (defScope s_and_tie) s.heap.objs.size a.f_and_tie cdv))) :
  PSs (cxOf CX0 P w K mg base N_and_tie "and_tie" (defScope s_and_tie) a.f_and_tie cdv A outer s H E).nox (defBody s_and_tie) (rd_and_tie a K) :=
 (pss_cons (ps_set (i:=2) sc_and_tie.nd rfl (by walk_at "o") (pe_ix i_seq (cv 1) pe_int (fun _ _=>rfl)))
   (pss_cons (ps_for PassesOwn.never rfl (pi_list (pe_slice s_u (cv 1) (e_part pe_int) po_none)) (pg_name (i:=3) sc_and_tie.nd rfl (by walk_at "o")) (pss_one (ps_set (i:=2) sc_and_tie.nd rfl (by walk_at "o") (pe_meth (cv 0) T.cl_Fold T.me_Fold_both (ok_Fold_both T) (hr.mono (by decide)) T.bi_Fold_both .nil pass0 (pa_cons (cv 2) (pa_cons (cv 3) pa_nil))))))
   (pss_one (ps_ret (cv 2)))))
theorem ok_and_tie (T:Txt K mg a):FnOk P w K mg base CX0 4 a.f_and_tie a.d_and_tie ["fold","ties"] (sp_and_tie a K):=by
 refine T.fn_and_tie.ok sc_and_tie (fun vs H Q E h=>?_) (fun cdv A outer s H vs Q E hr h=>⟨_,tm_and_tie T hr,?_⟩)
 ·obtain ⟨f,dx,pl,kl,tp,m,t0,ts,es,rfl,_⟩:=h;rfl
 ·obtain ⟨f,dx,pl,kl,tp,m,t0,ts,es,rfl,hf,hT,hm,hin,hz,hz2,q⟩:=h
  show rd_and_tie a K _ [some (.ref f),some (.ref tp),none,none] H
  unfold rd_and_tie
  walk_at "gs"
  refine ⟨_,V.int t0,.inl hT,at0 t0 _,?_⟩
  walk_at "gs"
  refine ⟨_,hT,fun r H1 n1=>?_⟩
  rw [cut_1] at n1
  have n1':New H r (.lst (ts.map V.int)) H1:=n1
  have f1:=hf.same n1.same
  have nrp:r≠pl:=(ne_of_none hf.prs.lst n1.was).symm
  have nrk:r≠kl:=(ne_of_none hf.prs.dct n1.was).symm
  refine ⟨⟨_,n1'.sq⟩,for_listG (xs:=ts.map V.int) (fun i σ H2=>∃ es2 v,Un2 pl kl H1 H2∧FoldAt a.c_Fold H2 f m es2 dx pl kl∧psOf es2=(MF.andR m t0 (ts.take i) (psOf es)).2∧σ=[some (.ref f),some (.ref tp),some (.int (MF.andR m t0 (ts.take i) (psOf es)).1),v]) ⟨es,_,Un2.refl,f1,rfl,rfl⟩ ?_ ?_ ?_⟩
  ·rintro i σ H2 _ ⟨es2,v,u2,_⟩
   exact .of (u2 _ _ nrp nrk n1'.at_)
  ·rintro i x σ H2 hx ⟨es2,v,u2,f2,q2,rfl⟩
   obtain ⟨t,ht,rfl⟩:=get_map_of hx
   have hi:i<ts.length:=(List.getElem?_eq_some_iff.mp ht).1
   have st:=MF.andR_st hm (ts.take i) t0 (psOf es) (hin t0 (List.mem_cons_self ..)) fun x hx=>hin x (List.mem_cons_of_mem _ (List.mem_of_mem_take hx))
   have i1:=st.inn
   have i2:=(hin t (List.mem_cons_of_mem _ (List.mem_of_getElem? ht))).mono st.lo
   have l2:=st.hi
   rw [← q2] at i1 i2 l2
   rw [len_ps,len_ps,List.length_take] at l2
   have j1:=inT_of i1
   have j2:=inT_of i2
   walk_at "gs"
   refine ⟨f,dx,_,rfl,f2.ins,rfl,f,dx,pl,kl,m,_,t,es2,rfl,f2,j1.1,j2.1,j1.2,j2.2,by omega,fun H3 es3 u3 f3 q3=>?_⟩
   walk_at "gs"
   have e:MF.andR m t0 (ts.take (i+1)) (psOf es)=MF.bo m (MF.andR m t0 (ts.take i) (psOf es)).1 t (MF.andR m t0 (ts.take i) (psOf es)).2:=by
    rw [List.take_add_one,ht]
    exact MF.andR_snoc m (ts.take i) t0 t (psOf es)
   refine ⟨es3,some (.int t),u2.trans u3,f3,?_,?_⟩
   ·rw [q3,q2,e];rfl
   ·rw [q2,e];rfl
  ·rintro σ H2 ⟨es2,v,u2,f2,q2,rfl⟩
   rw [List.length_map,List.take_length] at q2 ⊢
   walk_at "gs"
   exact q H2 es2 (n1.same.un.trans u2) f2 q2
def tnV:V→V | .int i=>.int (MF.tn i) | v=>v
theorem tnV_map (ts:List Int):(ts.map V.int).map tnV=(ts.map MF.tn).map V.int:=by rw [List.map_map,List.map_map];rfl
def sp_or_tie (a:Adr) (K:PySem.W.Frag):Sp:=fun vs H Q _=>∃ (f dx pl kl tp:Addr) (m t0:Int) (ts:List Int) (es:List En),vs=[.ref f,.ref tp]∧FoldAt a.c_Fold H f m es dx pl kl∧SqL K H tp ((t0 :: ts).map V.int)∧0≤m∧(∀ t∈t0 :: ts,MF.InT m (psOf es) t)∧es.length≤4000∧ts.length≤100 ∧
 ∀ H' es',Un2 pl kl H H'→FoldAt a.c_Fold H' f m es' dx pl kl→psOf es'=(MF.orR m t0 ts (psOf es)).2→Q (.int (MF.orR m t0 ts (psOf es)).1) H'
def rd_or_tie (a:Adr) (K:PySem.W.Frag):TS:=(tRet (tCall (sp_turned K) [] E0 (tCons (tCall (sp_and_tie a K) [] E0 (tCons (cVar 0) (tCons (tComp (iList K (cVar 1)) 1 [] (gName 0) tTrue (tCall (sp_turned K) [] E0 (tCons (cVar 0) tNil))) tNil))) tNil)))
theorem tm_or_tie (T:Txt K mg a) {cdv:Value}{A:Around}{outer:List Env}{s:Shared}{H:Hp}{E:XK} (hr:Room 4 (A.deeper (envOfC "or_tie" (defScope s_or_tie) s.heap.objs.size a.f_or_tie cdv))) :
  PSs (cxOf CX0 P w K mg base N_or_tie "or_tie" (defScope s_or_tie) a.f_or_tie cdv A outer s H E).nox (defBody s_or_tie) (rd_or_tie a K) :=
 (pss_one (ps_ret (pe_call (ok_turned T) (hr.mono (by decide)) rfl T.mg_turned T.fn_turned.kp T.bi_turned .nil pass0 (pa_cons (pe_call (ok_and_tie T) (hr.mono (by decide)) rfl T.mg_and_tie T.fn_and_tie.kp T.bi_and_tie .nil pass0 (pa_cons (cv 0) (pa_cons (pe_comp (N:=["tie"]) (k:=1) (sel:=[]) (CScope.of (defScope s_or_tie).names (by decide +kernel)) (CNames.of N_or_tie (by decide +kernel)) rfl (pi_list (cv 1)) (fun _ _ _ _=>(pg_name (i:=0) (show List.Nodup (["tie"]:List Str) by decide +kernel) rfl (by walk_at "o"))) (fun _ _ _ _=>pts_nil) (fun _ _ _ _=>(pe_call (ok_turned T) (hr.mono (by decide)) rfl T.mg_turned T.fn_turned.kp T.bi_turned .nil pass0 (pa_cons (cv 0) pa_nil)))) pa_nil))) pa_nil))))
theorem ok_or_tie (T:Txt K mg a):FnOk P w K mg base CX0 5 a.f_or_tie a.d_or_tie ["fold","ties"] (sp_or_tie a K):=by
 refine T.fn_or_tie.ok sc_or_tie (fun vs H Q E h=>?_) (fun cdv A outer s H vs Q E hr h=>⟨_,tm_or_tie T hr,?_⟩)
 ·obtain ⟨f,dx,pl,kl,tp,m,t0,ts,es,rfl,_⟩:=h;rfl
 ·obtain ⟨f,dx,pl,kl,tp,m,t0,ts,es,rfl,hf,hT,hm,hin,hz,hz2,q⟩:=h
  show rd_or_tie a K _ [some (.ref f),some (.ref tp)] H
  unfold rd_or_tie
  have big:(1000:Nat)≤sizeLine:=by decide
  walk_at "gs"
  refine ⟨⟨_,hT⟩,compG_list tnV hT rfl (by rw [List.length_map,List.length_cons];omega) ?_ ?_⟩
  ·intro x H' Q' hx _ q'
   obtain ⟨t,ht,rfl⟩:=List.mem_map.mp hx
   walk_at "gs"
   exact ⟨t,rfl,(hin t ht).1,q'⟩
  ·intro r H1 n1
   rw [tnV_map] at n1
   walk_at "gs"
   refine ⟨f,dx,pl,kl,r,m,MF.tn t0,ts.map MF.tn,es,rfl,hf.same n1.same,n1.sq,hm,fun t ht=>?_,hz,by rw [List.length_map];exact hz2,fun H2 es2 u2 f2 q2=>?_⟩
   ·obtain ⟨y,hy,rfl⟩:=List.mem_map.mp (show t∈(t0 :: ts).map MF.tn from ht)
    exact (hin y hy).tn
   walk_at "gs"
   have st:=MF.andR_st hm (ts.map MF.tn) (MF.tn t0) (psOf es) (hin t0 (List.mem_cons_self ..)).tn fun x hx=>by
    obtain ⟨y,hy,rfl⟩:=List.mem_map.mp hx
    exact (hin y (List.mem_cons_of_mem _ hy)).tn
   refine ⟨_,rfl,st.inn.1,?_⟩
   walk_at "gs"
   exact q H2 es2 (n1.same.un.trans u2) f2 q2
def sp_either_of_two (a:Adr) (_:PySem.W.Frag):Sp:=fun vs H Q _=>∃ (f dx pl kl:Addr) (m s t:Int) (es:List En),vs=[.ref f,.int s,.int t]∧FoldAt a.c_Fold H f m es dx pl kl∧0≤m∧MF.InT m (psOf es) s∧MF.InT m (psOf es) t∧es.length≤3900 ∧
 ∀ H' es',Un2 pl kl H H'→FoldAt a.c_Fold H' f m es' dx pl kl→psOf es'=(MF.eoR m s t (psOf es)).2→Q (.int (MF.eoR m s t (psOf es)).1) H'
def rd_either_of_two (a:Adr) (K:PySem.W.Frag):TS:=(tSeq (tAsg (tMeth a.c_Fold "both" (sp_Fold_both a K) [] E0 (cVar 0) (tCons (cVar 1) (tCons (tCall (sp_turned K) [] E0 (tCons (cVar 2) tNil)) tNil))) (gName 3))
  (tSeq (tAsg (tMeth a.c_Fold "both" (sp_Fold_both a K) [] E0 (cVar 0) (tCons (tCall (sp_turned K) [] E0 (tCons (cVar 1) tNil)) (tCons (cVar 2) tNil))) (gName 4))
  (tRet (tCall (sp_or_tie a K) [] E0 (tCons (cVar 0) (tCons (tLst (tCons (cVar 3) (tCons (cVar 4) tNil))) tNil))))))
theorem tm_either_of_two (T:Txt K mg a) {cdv:Value}{A:Around}{outer:List Env}{s:Shared}{H:Hp}{E:XK} (hr:Room 5 (A.deeper (envOfC "either_of_two" (defScope s_either_of_two) s.heap.objs.size a.f_either_of_two cdv))) :
  PSs (cxOf CX0 P w K mg base N_either_of_two "either_of_two" (defScope s_either_of_two) a.f_either_of_two cdv A outer s H E).nox (defBody s_either_of_two) (rd_either_of_two a K) :=
 (pss_cons (ps_set (i:=3) sc_either_of_two.nd rfl (by walk_at "o") (pe_meth (cv 0) T.cl_Fold T.me_Fold_both (ok_Fold_both T) (hr.mono (by decide)) T.bi_Fold_both .nil pass0 (pa_cons (cv 1) (pa_cons (pe_call (ok_turned T) (hr.mono (by decide)) rfl T.mg_turned T.fn_turned.kp T.bi_turned .nil pass0 (pa_cons (cv 2) pa_nil)) pa_nil))))
   (pss_cons (ps_set (i:=4) sc_either_of_two.nd rfl (by walk_at "o") (pe_meth (cv 0) T.cl_Fold T.me_Fold_both (ok_Fold_both T) (hr.mono (by decide)) T.bi_Fold_both .nil pass0 (pa_cons (pe_call (ok_turned T) (hr.mono (by decide)) rfl T.mg_turned T.fn_turned.kp T.bi_turned .nil pass0 (pa_cons (cv 1) pa_nil)) (pa_cons (cv 2) pa_nil))))
   (pss_one (ps_ret (pe_call (ok_or_tie T) (hr.mono (by decide)) rfl T.mg_or_tie T.fn_or_tie.kp T.bi_or_tie .nil pass0 (pa_cons (cv 0) (pa_cons (pe_lst (pa_cons (cv 3) (pa_cons (cv 4) pa_nil))) pa_nil)))))))
theorem ok_either_of_two (T:Txt K mg a):FnOk P w K mg base CX0 6 a.f_either_of_two a.d_either_of_two ["fold","one","other"] (sp_either_of_two a K):=by
 refine T.fn_either_of_two.ok sc_either_of_two (fun vs H Q E h=>?_) (fun cdv A outer s H vs Q E hr h=>⟨_,tm_either_of_two T hr,?_⟩)
 ·obtain ⟨f,dx,pl,kl,m,s,t,es,rfl,_⟩:=h;rfl
 ·obtain ⟨f,dx,pl,kl,m,x,y,es,rfl,hf,hm,hx,hy,hz,q⟩:=h
  show rd_either_of_two a K _ [some (.ref f),some (.int x),some (.int y),none,none] H
  unfold rd_either_of_two
  walk_at "gs"
  have j1:=inT_of hx
  have j2:=inT_of hy.tn
  refine ⟨f,dx,_,rfl,hf.ins,rfl,y,rfl,hy.1,?_⟩
  walk_at "gs"
  refine ⟨f,dx,pl,kl,m,x,MF.tn y,es,rfl,hf,j1.1,j2.1,j1.2,j2.2,by omega,fun H1 es1 u1 f1 q1=>?_⟩
  walk_at "gs"
  have s1:=MF.bo_st hm hx hy.tn
  have l1:=s1.hi
  have i1:=hx.tn.mono s1.lo
  have i2:=hy.mono s1.lo
  have i3:=s1.inn
  simp only [MF.bo] at l1 i1 i2 i3
  rw [← q1] at l1 i1 i2 i3
  rw [len_ps,len_ps] at l1
  have k1:=inT_of i1
  have k2:=inT_of i2
  refine ⟨f,dx,_,rfl,f1.ins,rfl,x,rfl,hx.1,?_⟩
  walk_at "gs"
  refine ⟨f,dx,pl,kl,m,MF.tn x,y,es1,rfl,f1,k1.1,k2.1,k1.2,k2.2,by omega,fun H2 es2 u2 f2 q2=>?_⟩
  walk_at "gs"
  have s2:=MF.bo_st hm i1 i2
  have l2:=s2.hi
  have i4:=i3.mono s2.lo
  have i5:=s2.inn
  simp only [MF.bo] at l2 i4 i5
  rw [← q2] at l2 i4 i5
  rw [len_ps,len_ps] at l2
  refine ⟨by show 2≤sizeLine;decide,fun r H3 n3=>?_⟩
  refine ⟨f,dx,pl,kl,r,m,_,[_],es2,rfl,f2.same n3.same,n3.sq,hm,fun z hz'=>?_,by omega,by show 1≤100;decide,fun H4 es4 u4 f4 q4=>?_⟩
  ·rcases List.mem_cons.mp hz' with rfl | hz'
   ·exact i4
   ·rw [List.mem_singleton] at hz'
    subst hz'
    exact i5
  walk_at "gs"
  rw [q2,q1] at q4 ⊢
  exact q H4 es4 ((u1.trans u2).trans (n3.same.un.trans u4)) f4 q4
def sp_either_tie (a:Adr) (K:PySem.W.Frag):Sp:=fun vs H Q _=>∃ (f dx pl kl tp:Addr) (m t0:Int) (ts:List Int) (es:List En),vs=[.ref f,.ref tp]∧FoldAt a.c_Fold H f m es dx pl kl∧SqL K H tp ((t0 :: ts).map V.int)∧0≤m∧(∀ t∈t0 :: ts,MF.InT m (psOf es) t)∧es.length≤3500∧ts.length≤100 ∧
 ∀ H' es',Un2 pl kl H H'→FoldAt a.c_Fold H' f m es' dx pl kl→psOf es'=(MF.eiR m t0 ts (psOf es)).2→Q (.int (MF.eiR m t0 ts (psOf es)).1) H'
def rd_either_tie (a:Adr) (K:PySem.W.Frag):TS:=(tSeq (tAsg (tOp (cIx K) (cVar 1) (tC (.int 0))) (gName 2))
  (tSeq (tFor (iList K (tSl (cSlU K) (cVar 1) (cPart (tC (.int 1))) tNoPart)) (gName 3) (tAsg (tCall (sp_either_of_two a K) [] E0 (tCons (cVar 0) (tCons (cVar 2) (tCons (cVar 3) tNil)))) (gName 2)))
  (tRet (cVar 2))))
theorem tm_either_tie (T:Txt K mg a) {cdv:Value}{A:Around}{outer:List Env}{s:Shared}{H:Hp}{E:XK} (hr:Room 6 (A.deeper (envOfC "either_tie" (defScope s_either_tie) s.heap.objs.size a.f_either_tie cdv))) :
  PSs (cxOf CX0 P w K mg base N_either_tie "either_tie" (defScope s_either_tie) a.f_either_tie cdv A outer s H E).nox (defBody s_either_tie) (rd_either_tie a K) :=
 (pss_cons (ps_set (i:=2) sc_either_tie.nd rfl (by walk_at "o") (pe_ix i_seq (cv 1) pe_int (fun _ _=>rfl)))
   (pss_cons (ps_for PassesOwn.never rfl (pi_list (pe_slice s_u (cv 1) (e_part pe_int) po_none)) (pg_name (i:=3) sc_either_tie.nd rfl (by walk_at "o")) (pss_one (ps_set (i:=2) sc_either_tie.nd rfl (by walk_at "o") (pe_call (ok_either_of_two T) (hr.mono (by decide)) rfl T.mg_either_of_two T.fn_either_of_two.kp T.bi_either_of_two .nil pass0 (pa_cons (cv 0) (pa_cons (cv 2) (pa_cons (cv 3) pa_nil)))))))
   (pss_one (ps_ret (cv 2)))))
theorem ok_either_tie (T:Txt K mg a):FnOk P w K mg base CX0 7 a.f_either_tie a.d_either_tie ["fold","ties"] (sp_either_tie a K):=by
 refine T.fn_either_tie.ok sc_either_tie (fun vs H Q E h=>?_) (fun cdv A outer s H vs Q E hr h=>⟨_,tm_either_tie T hr,?_⟩)
 ·obtain ⟨f,dx,pl,kl,tp,m,t0,ts,es,rfl,_⟩:=h;rfl
 ·obtain ⟨f,dx,pl,kl,tp,m,t0,ts,es,rfl,hf,hT,hm,hin,hz,hz2,q⟩:=h
  show rd_either_tie a K _ [some (.ref f),some (.ref tp),none,none] H
  unfold rd_either_tie
  walk_at "gs"
  refine ⟨_,V.int t0,.inl hT,at0 t0 _,?_⟩
  walk_at "gs"
  refine ⟨_,hT,fun r H1 n1=>?_⟩
  rw [cut_1] at n1
  have n1':New H r (.lst (ts.map V.int)) H1:=n1
  have f1:=hf.same n1.same
  have nrp:r≠pl:=(ne_of_none hf.prs.lst n1.was).symm
  have nrk:r≠kl:=(ne_of_none hf.prs.dct n1.was).symm
  refine ⟨⟨_,n1'.sq⟩,for_listG (xs:=ts.map V.int) (fun i σ H2=>∃ es2 v,Un2 pl kl H1 H2∧FoldAt a.c_Fold H2 f m es2 dx pl kl∧psOf es2=(MF.eiR m t0 (ts.take i) (psOf es)).2∧σ=[some (.ref f),some (.ref tp),some (.int (MF.eiR m t0 (ts.take i) (psOf es)).1),v]) ⟨es,_,Un2.refl,f1,rfl,rfl⟩ ?_ ?_ ?_⟩
  ·rintro i σ H2 _ ⟨es2,v,u2,_⟩
   exact .of (u2 _ _ nrp nrk n1'.at_)
  ·rintro i x σ H2 hx ⟨es2,v,u2,f2,q2,rfl⟩
   obtain ⟨t,ht,rfl⟩:=get_map_of hx
   have hi:i<ts.length:=(List.getElem?_eq_some_iff.mp ht).1
   have st:=MF.eiR_st hm (ts.take i) t0 (psOf es) (hin t0 (List.mem_cons_self ..)) fun x hx=>hin x (List.mem_cons_of_mem _ (List.mem_of_mem_take hx))
   have i1:=st.inn
   have i2:=(hin t (List.mem_cons_of_mem _ (List.mem_of_getElem? ht))).mono st.lo
   have l2:=st.hi
   rw [← q2] at i1 i2 l2
   rw [len_ps,len_ps,List.length_take] at l2
   walk_at "gs"
   refine ⟨f,dx,pl,kl,m,_,t,es2,rfl,f2,hm,i1,i2,by omega,fun H3 es3 u3 f3 q3=>?_⟩
   walk_at "gs"
   have e:MF.eiR m t0 (ts.take (i+1)) (psOf es)=MF.eoR m (MF.eiR m t0 (ts.take i) (psOf es)).1 t (MF.eiR m t0 (ts.take i) (psOf es)).2:=by
    rw [List.take_add_one,ht]
    exact MF.eiR_snoc m (ts.take i) t0 t (psOf es)
   refine ⟨es3,some (.int t),u2.trans u3,f3,?_,?_⟩
   ·rw [q3,q2,e]
   ·rw [q2,e]
  ·rintro σ H2 ⟨es2,v,u2,f2,q2,rfl⟩
   rw [List.length_map,List.take_length] at q2 ⊢
   walk_at "gs"
   exact q H2 es2 (n1.same.un.trans u2) f2 q2
def sp_choose_tie (a:Adr) (K:PySem.W.Frag):Sp:=fun vs H Q _=>∃ (f dx pl kl tp:Addr) (m r s t:Int) (es:List En),vs=[.ref f,.ref tp]∧FoldAt a.c_Fold H f m es dx pl kl∧SqL K H tp ([r,s,t].map V.int)∧0≤m∧(∀ x∈[r,s,t],MF.InT m (psOf es) x)∧es.length≤3500 ∧
 ∀ H' es',Un2 pl kl H H'→FoldAt a.c_Fold H' f m es' dx pl kl→psOf es'=(MF.chR m r s t (psOf es)).2→Q (.int (MF.chR m r s t (psOf es)).1) H'
def rd_choose_tie (a:Adr) (K:PySem.W.Frag):TS:=(tSeq (tAsg (tMeth a.c_Fold "both" (sp_Fold_both a K) [] E0 (cVar 0) (tCons (tOp (cIx K) (cVar 1) (tC (.int 0))) (tCons (tOp (cIx K) (cVar 1) (tC (.int 1))) tNil))) (gName 2))
  (tSeq (tAsg (tMeth a.c_Fold "both" (sp_Fold_both a K) [] E0 (cVar 0) (tCons (tCall (sp_turned K) [] E0 (tCons (tOp (cIx K) (cVar 1) (tC (.int 0))) tNil)) (tCons (tOp (cIx K) (cVar 1) (tC (.int 2))) tNil))) (gName 3))
  (tRet (tCall (sp_or_tie a K) [] E0 (tCons (cVar 0) (tCons (tLst (tCons (cVar 2) (tCons (cVar 3) tNil))) tNil))))))
theorem tm_choose_tie (T:Txt K mg a) {cdv:Value}{A:Around}{outer:List Env}{s:Shared}{H:Hp}{E:XK} (hr:Room 5 (A.deeper (envOfC "choose_tie" (defScope s_choose_tie) s.heap.objs.size a.f_choose_tie cdv))) :
  PSs (cxOf CX0 P w K mg base N_choose_tie "choose_tie" (defScope s_choose_tie) a.f_choose_tie cdv A outer s H E).nox (defBody s_choose_tie) (rd_choose_tie a K) :=
 (pss_cons (ps_set (i:=2) sc_choose_tie.nd rfl (by walk_at "o") (pe_meth (cv 0) T.cl_Fold T.me_Fold_both (ok_Fold_both T) (hr.mono (by decide)) T.bi_Fold_both .nil pass0 (pa_cons (pe_ix i_seq (cv 1) pe_int (fun _ _=>rfl)) (pa_cons (pe_ix i_seq (cv 1) pe_int (fun _ _=>rfl)) pa_nil))))
   (pss_cons (ps_set (i:=3) sc_choose_tie.nd rfl (by walk_at "o") (pe_meth (cv 0) T.cl_Fold T.me_Fold_both (ok_Fold_both T) (hr.mono (by decide)) T.bi_Fold_both .nil pass0 (pa_cons (pe_call (ok_turned T) (hr.mono (by decide)) rfl T.mg_turned T.fn_turned.kp T.bi_turned .nil pass0 (pa_cons (pe_ix i_seq (cv 1) pe_int (fun _ _=>rfl)) pa_nil)) (pa_cons (pe_ix i_seq (cv 1) pe_int (fun _ _=>rfl)) pa_nil))))
   (pss_one (ps_ret (pe_call (ok_or_tie T) (hr.mono (by decide)) rfl T.mg_or_tie T.fn_or_tie.kp T.bi_or_tie .nil pass0 (pa_cons (cv 0) (pa_cons (pe_lst (pa_cons (cv 2) (pa_cons (cv 3) pa_nil))) pa_nil)))))))
theorem ok_choose_tie (T:Txt K mg a):FnOk P w K mg base CX0 6 a.f_choose_tie a.d_choose_tie ["fold","ties"] (sp_choose_tie a K):=by
 refine T.fn_choose_tie.ok sc_choose_tie (fun vs H Q E h=>?_) (fun cdv A outer s H vs Q E hr h=>⟨_,tm_choose_tie T hr,?_⟩)
 ·obtain ⟨f,dx,pl,kl,tp,m,r,s,t,es,rfl,_⟩:=h;rfl
 ·obtain ⟨f,dx,pl,kl,tp,m,x,y,z,es,rfl,hf,hT,hm,hin,hz,q⟩:=h
  show rd_choose_tie a K _ [some (.ref f),some (.ref tp),none,none] H
  unfold rd_choose_tie
  have hx:=hin x (by simp)
  have hy:=hin y (by simp)
  have hw:=hin z (by simp)
  have j1:=inT_of hx
  have j2:=inT_of hy
  walk_at "gs"
  refine ⟨f,dx,_,rfl,hf.ins,rfl,_,_,.inl hT,rfl,_,_,.inl hT,rfl,f,dx,pl,kl,m,x,y,es,rfl,hf,j1.1,j2.1,j1.2,j2.2,by omega,fun H1 es1 u1 f1 q1=>?_⟩
  walk_at "gs"
  have hT1:=hT.un2 hf.prs.lst hf.prs.dct (ints_ne (by simp)) u1
  have s1:=MF.bo_st hm hx hy
  have l1:=s1.hi
  have i1:=hx.tn.mono s1.lo
  have i2:=hw.mono s1.lo
  have i3:=s1.inn
  simp only [MF.bo] at l1 i1 i2 i3
  rw [← q1] at l1 i1 i2 i3
  rw [len_ps,len_ps] at l1
  have k1:=inT_of i1
  have k2:=inT_of i2
  refine ⟨f,dx,_,rfl,f1.ins,rfl,_,_,.inl hT1,rfl,x,rfl,hx.1,?_⟩
  walk_at "gs"
  refine ⟨_,_,.inl hT1,rfl,f,dx,pl,kl,m,MF.tn x,z,es1,rfl,f1,k1.1,k2.1,k1.2,k2.2,by omega,fun H2 es2 u2 f2 q2=>?_⟩
  walk_at "gs"
  have s2:=MF.bo_st hm i1 i2
  have l2:=s2.hi
  have i4:=i3.mono s2.lo
  have i5:=s2.inn
  simp only [MF.bo] at l2 i4 i5
  rw [← q2] at l2 i4 i5
  rw [len_ps,len_ps] at l2
  refine ⟨by show 2≤sizeLine;decide,fun rr H3 n3=>?_⟩
  refine ⟨f,dx,pl,kl,rr,m,_,[_],es2,rfl,f2.same n3.same,n3.sq,hm,fun z hz'=>?_,by omega,by show 1≤100;decide,fun H4 es4 u4 f4 q4=>?_⟩
  ·rcases List.mem_cons.mp hz' with rfl | hz'
   ·exact i4
   ·rw [List.mem_singleton] at hz'
    subst hz'
    exact i5
  walk_at "gs"
  rw [q2,q1] at q4 ⊢
  exact q H4 es4 ((u1.trans u2).trans (n3.same.un.trans u4)) f4 q4
def sp_most_tie (a:Adr) (K:PySem.W.Frag):Sp:=fun vs H Q _=>∃ (f dx pl kl tp:Addr) (m r s t:Int) (es:List En),vs=[.ref f,.ref tp]∧FoldAt a.c_Fold H f m es dx pl kl∧SqL K H tp ([r,s,t].map V.int)∧0≤m∧(∀ x∈[r,s,t],MF.InT m (psOf es) x)∧es.length≤3500 ∧
 ∀ H' es',Un2 pl kl H H'→FoldAt a.c_Fold H' f m es' dx pl kl→psOf es'=(MF.moR m r s t (psOf es)).2→Q (.int (MF.moR m r s t (psOf es)).1) H'
def rd_most_tie (a:Adr) (K:PySem.W.Frag):TS:=(tSeq (tAsg (tMeth a.c_Fold "both" (sp_Fold_both a K) [] E0 (cVar 0) (tCons (tOp (cIx K) (cVar 1) (tC (.int 0))) (tCons (tOp (cIx K) (cVar 1) (tC (.int 1))) tNil))) (gName 2))
  (tSeq (tAsg (tMeth a.c_Fold "both" (sp_Fold_both a K) [] E0 (cVar 0) (tCons (tOp (cIx K) (cVar 1) (tC (.int 0))) (tCons (tOp (cIx K) (cVar 1) (tC (.int 2))) tNil))) (gName 3))
  (tSeq (tAsg (tMeth a.c_Fold "both" (sp_Fold_both a K) [] E0 (cVar 0) (tCons (tOp (cIx K) (cVar 1) (tC (.int 1))) (tCons (tOp (cIx K) (cVar 1) (tC (.int 2))) tNil))) (gName 4))
  (tRet (tCall (sp_or_tie a K) [] E0 (tCons (cVar 0) (tCons (tLst (tCons (cVar 2) (tCons (cVar 3) (tCons (cVar 4) tNil)))) tNil)))))))
theorem tm_most_tie (T:Txt K mg a) {cdv:Value}{A:Around}{outer:List Env}{s:Shared}{H:Hp}{E:XK} (hr:Room 5 (A.deeper (envOfC "most_tie" (defScope s_most_tie) s.heap.objs.size a.f_most_tie cdv))) :
  PSs (cxOf CX0 P w K mg base N_most_tie "most_tie" (defScope s_most_tie) a.f_most_tie cdv A outer s H E).nox (defBody s_most_tie) (rd_most_tie a K) :=
 (pss_cons (ps_set (i:=2) sc_most_tie.nd rfl (by walk_at "o") (pe_meth (cv 0) T.cl_Fold T.me_Fold_both (ok_Fold_both T) (hr.mono (by decide)) T.bi_Fold_both .nil pass0 (pa_cons (pe_ix i_seq (cv 1) pe_int (fun _ _=>rfl)) (pa_cons (pe_ix i_seq (cv 1) pe_int (fun _ _=>rfl)) pa_nil))))
   (pss_cons (ps_set (i:=3) sc_most_tie.nd rfl (by walk_at "o") (pe_meth (cv 0) T.cl_Fold T.me_Fold_both (ok_Fold_both T) (hr.mono (by decide)) T.bi_Fold_both .nil pass0 (pa_cons (pe_ix i_seq (cv 1) pe_int (fun _ _=>rfl)) (pa_cons (pe_ix i_seq (cv 1) pe_int (fun _ _=>rfl)) pa_nil))))
   (pss_cons (ps_set (i:=4) sc_most_tie.nd rfl (by walk_at "o") (pe_meth (cv 0) T.cl_Fold T.me_Fold_both (ok_Fold_both T) (hr.mono (by decide)) T.bi_Fold_both .nil pass0 (pa_cons (pe_ix i_seq (cv 1) pe_int (fun _ _=>rfl)) (pa_cons (pe_ix i_seq (cv 1) pe_int (fun _ _=>rfl)) pa_nil))))
   (pss_one (ps_ret (pe_call (ok_or_tie T) (hr.mono (by decide)) rfl T.mg_or_tie T.fn_or_tie.kp T.bi_or_tie .nil pass0 (pa_cons (cv 0) (pa_cons (pe_lst (pa_cons (cv 2) (pa_cons (cv 3) (pa_cons (cv 4) pa_nil)))) pa_nil))))))))
theorem ok_most_tie (T:Txt K mg a):FnOk P w K mg base CX0 6 a.f_most_tie a.d_most_tie ["fold","ties"] (sp_most_tie a K):=by
 refine T.fn_most_tie.ok sc_most_tie (fun vs H Q E h=>?_) (fun cdv A outer s H vs Q E hr h=>⟨_,tm_most_tie T hr,?_⟩)
 ·obtain ⟨f,dx,pl,kl,tp,m,r,s,t,es,rfl,_⟩:=h;rfl
 ·obtain ⟨f,dx,pl,kl,tp,m,x,y,z,es,rfl,hf,hT,hm,hin,hz,q⟩:=h
  show rd_most_tie a K _ [some (.ref f),some (.ref tp),none,none,none] H
  unfold rd_most_tie
  have hx:=hin x (by simp)
  have hy:=hin y (by simp)
  have hw:=hin z (by simp)
  have j1:=inT_of hx
  have j2:=inT_of hy
  walk_at "gs"
  refine ⟨f,dx,_,rfl,hf.ins,rfl,_,_,.inl hT,rfl,_,_,.inl hT,rfl,f,dx,pl,kl,m,x,y,es,rfl,hf,j1.1,j2.1,j1.2,j2.2,by omega,fun H1 es1 u1 f1 q1=>?_⟩
  walk_at "gs"
  have hT1:=hT.un2 hf.prs.lst hf.prs.dct (ints_ne (by simp)) u1
  have s1:=MF.bo_st hm hx hy
  have l1:=s1.hi
  have i1:=hx.mono s1.lo
  have i2:=hw.mono s1.lo
  have i3:=s1.inn
  have i2y:=hy.mono s1.lo
  simp only [MF.bo] at l1 i1 i2 i3 i2y
  rw [← q1] at l1 i1 i2 i3 i2y
  rw [len_ps,len_ps] at l1
  have k1:=inT_of i1
  have k2:=inT_of i2
  refine ⟨f,dx,_,rfl,f1.ins,rfl,_,_,.inl hT1,rfl,_,_,.inl hT1,rfl,f,dx,pl,kl,m,x,z,es1,rfl,f1,k1.1,k2.1,k1.2,k2.2,by omega,fun H2 es2 u2 f2 q2=>?_⟩
  walk_at "gs"
  have hT2:=hT1.un2 f1.prs.lst f1.prs.dct (ints_ne (by simp)) u2
  have s2:=MF.bo_st hm i1 i2
  have l2:=s2.hi
  have i4:=i3.mono s2.lo
  have i5:=s2.inn
  have i6:=i2y.mono s2.lo
  have i7:=i2.mono s2.lo
  simp only [MF.bo] at l2 i4 i5 i6 i7
  rw [← q2] at l2 i4 i5 i6 i7
  rw [len_ps,len_ps] at l2
  have k3:=inT_of i6
  have k4:=inT_of i7
  refine ⟨f,dx,_,rfl,f2.ins,rfl,_,_,.inl hT2,rfl,_,_,.inl hT2,rfl,f,dx,pl,kl,m,y,z,es2,rfl,f2,k3.1,k4.1,k3.2,k4.2,by omega,fun H3 es3 u3 f3 q3=>?_⟩
  walk_at "gs"
  have s3:=MF.bo_st hm i6 i7
  have l3:=s3.hi
  have i8:=i4.mono s3.lo
  have i9:=i5.mono s3.lo
  have i10:=s3.inn
  simp only [MF.bo] at l3 i8 i9 i10
  rw [← q3] at l3 i8 i9 i10
  rw [len_ps,len_ps] at l3
  refine ⟨by show 3≤sizeLine;decide,fun rr H4 n4=>?_⟩
  refine ⟨f,dx,pl,kl,rr,m,_,[_,_],es3,rfl,f3.same n4.same,n4.sq,hm,fun z hz'=>?_,by omega,by show 2≤100;decide,fun H5 es5 u5 f5 q5=>?_⟩
  ·rcases List.mem_cons.mp hz' with rfl | hz'
   ·exact i8
   rcases List.mem_cons.mp hz' with rfl | hz'
   ·exact i9
   ·rw [List.mem_singleton] at hz'
    subst hz'
    exact i10
  walk_at "gs"
  rw [q3,q2,q1] at q5 ⊢
  exact q H5 es5 (((u1.trans u2).trans u3).trans (n4.same.un.trans u5)) f5 q5
def WdOk (w:Str) (ts:List Int):Prop:=((w = "and" ∨ w = "or" ∨ w = "either" ∨ w = "not")→ts≠[])∧((w = "choose" ∨ w = "most")→ts.length=3)∧ts.length≤6
def gtR (m:Int) (w:Str) (ts:List Int) (ps:List MF.Pr):MF.RS :=
 if w = "and" then MF.andR m (ts.headD 0) ts.tail ps else if w = "or" then MF.orR m (ts.headD 0) ts.tail ps else if w = "either" then MF.eiR m (ts.headD 0) ts.tail ps else
 if w = "not" then (MF.tn (ts.headD 0),ps) else if w = "choose" then MF.chR m (ts.getD 0 0) (ts.getD 1 0) (ts.getD 2 0) ps else if w = "most" then MF.moR m (ts.getD 0 0) (ts.getD 1 0) (ts.getD 2 0) ps else
 ((if w = "yes" then 1 else 0),ps)
theorem gtR_st {m:Int} (hm:0≤m) {w:Str}{ts:List Int}{ps:List MF.Pr} (hw:WdOk w ts) (h:∀ t∈ts,MF.InT m ps t):MF.St m ps 15 (gtR m w ts ps):=by
 have hd:ts≠[]→MF.InT m ps (ts.headD 0)∧∀ x∈ts.tail,MF.InT m ps x:=fun hn=>by
  cases ts with
  | nil=>exact absurd rfl hn
  | cons t r=>exact ⟨h t (List.mem_cons_self ..),fun x hx=>h x (List.mem_cons_of_mem _ hx)⟩
 have h3:ts.length=3→MF.InT m ps (ts.getD 0 0)∧MF.InT m ps (ts.getD 1 0)∧MF.InT m ps (ts.getD 2 0):=fun hn=>by
  match ts,hn with
  | [x,y,z],_=>exact ⟨h x (by simp),h y (by simp),h z (by simp)⟩
 have hl:=hw.2.2
 have htl:ts.tail.length≤5:=by rw [List.length_tail];omega
 unfold gtR
 by_cases h1:w = "and"
 ·rw [if_pos h1]
  obtain ⟨a1,a2⟩:=hd (hw.1 (.inl h1))
  exact (MF.andR_st hm _ _ ps a1 a2).weak (by omega)
 rw [if_neg h1]
 by_cases h2:w = "or"
 ·rw [if_pos h2]
  obtain ⟨a1,a2⟩:=hd (hw.1 (.inr (.inl h2)))
  exact (MF.orR_st hm _ _ ps a1 a2).weak (by omega)
 rw [if_neg h2]
 by_cases h4:w = "either"
 ·rw [if_pos h4]
  obtain ⟨a1,a2⟩:=hd (hw.1 (.inr (.inr (.inl h4))))
  exact (MF.eiR_st hm _ _ ps a1 a2).weak (by omega)
 rw [if_neg h4]
 by_cases h5:w = "not"
 ·rw [if_pos h5]
  obtain ⟨a1,a2⟩:=hd (hw.1 (.inr (.inr (.inr h5))))
  exact (MF.St.refl a1).tn.weak (by omega)
 rw [if_neg h5]
 by_cases h6:w = "choose"
 ·rw [if_pos h6]
  obtain ⟨a1,a2,a3⟩:=h3 (hw.2.1 (.inl h6))
  exact (MF.chR_st hm a1 a2 a3).weak (by omega)
 rw [if_neg h6]
 by_cases h7:w = "most"
 ·rw [if_pos h7]
  obtain ⟨a1,a2,a3⟩:=h3 (hw.2.1 (.inr h7))
  exact (MF.moR_st hm a1 a2 a3).weak (by omega)
 rw [if_neg h7]
 refine (MF.St.refl ⟨?_,?_⟩).weak (by omega)
 ·split <;> omega
 ·split <;> omega
def sp_gate_tie (a:Adr) (K:PySem.W.Frag):Sp:=fun vs H Q _=>∃ (f dx pl kl tp:Addr) (w:Str) (m:Int) (ts:List Int) (es:List En),vs=[.ref f,.str w,.ref tp]∧FoldAt a.c_Fold H f m es dx pl kl∧SqL K H tp (ts.map V.int)∧WdOk w ts∧0≤m∧(∀ t∈ts,MF.InT m (psOf es) t)∧es.length≤3500 ∧
 ∀ H' es',Un2 pl kl H H'→FoldAt a.c_Fold H' f m es' dx pl kl→psOf es'=(gtR m w ts (psOf es)).2→Q (.int (gtR m w ts (psOf es)).1) H'
def rd_gate_tie (a:Adr) (K:PySem.W.Frag):TS:=(tSeq (tIfS (cTst (tOp (cEq K) (cVar 1) (tC (.str "and")))) (tRet (tCall (sp_and_tie a K) [] E0 (tCons (cVar 0) (tCons (cVar 2) tNil)))) tNext)
  (tSeq (tIfS (cTst (tOp (cEq K) (cVar 1) (tC (.str "or")))) (tRet (tCall (sp_or_tie a K) [] E0 (tCons (cVar 0) (tCons (cVar 2) tNil)))) tNext)
  (tSeq (tIfS (cTst (tOp (cEq K) (cVar 1) (tC (.str "either")))) (tRet (tCall (sp_either_tie a K) [] E0 (tCons (cVar 0) (tCons (cVar 2) tNil)))) tNext)
  (tSeq (tIfS (cTst (tOp (cEq K) (cVar 1) (tC (.str "not")))) (tRet (tCall (sp_turned K) [] E0 (tCons (tOp (cIx K) (cVar 2) (tC (.int 0))) tNil))) tNext)
  (tSeq (tIfS (cTst (tOp (cEq K) (cVar 1) (tC (.str "choose")))) (tRet (tCall (sp_choose_tie a K) [] E0 (tCons (cVar 0) (tCons (cVar 2) tNil)))) tNext)
  (tSeq (tIfS (cTst (tOp (cEq K) (cVar 1) (tC (.str "most")))) (tRet (tCall (sp_most_tie a K) [] E0 (tCons (cVar 0) (tCons (cVar 2) tNil)))) tNext)
  (tRet (tIf (cTst (tOp (cEq K) (cVar 1) (tC (.str "yes")))) (tC (gv_ALWAYS a)) (tC (gv_NEVER a))))))))))
theorem tm_gate_tie (T:Txt K mg a) {cdv:Value}{A:Around}{outer:List Env}{s:Shared}{H:Hp}{E:XK} (hr:Room 7 (A.deeper (envOfC "gate_tie" (defScope s_gate_tie) s.heap.objs.size a.f_gate_tie cdv))) :
  PSs (cxOf CX0 P w K mg base N_gate_tie "gate_tie" (defScope s_gate_tie) a.f_gate_tie cdv A outer s H E).nox (defBody s_gate_tie) (rd_gate_tie a K) :=
 (pss_cons (ps_if (t_cmp (o_eq (hr8 hr)) (cv 1) pe_str (nomark _)) (pss_one (ps_ret (pe_call (ok_and_tie T) (hr.mono (by decide)) rfl T.mg_and_tie T.fn_and_tie.kp T.bi_and_tie .nil pass0 (pa_cons (cv 0) (pa_cons (cv 2) pa_nil))))) pss_nil)
   (pss_cons (ps_if (t_cmp (o_eq (hr8 hr)) (cv 1) pe_str (nomark _)) (pss_one (ps_ret (pe_call (ok_or_tie T) (hr.mono (by decide)) rfl T.mg_or_tie T.fn_or_tie.kp T.bi_or_tie .nil pass0 (pa_cons (cv 0) (pa_cons (cv 2) pa_nil))))) pss_nil)
   (pss_cons (ps_if (t_cmp (o_eq (hr8 hr)) (cv 1) pe_str (nomark _)) (pss_one (ps_ret (pe_call (ok_either_tie T) (hr.mono (by decide)) rfl T.mg_either_tie T.fn_either_tie.kp T.bi_either_tie .nil pass0 (pa_cons (cv 0) (pa_cons (cv 2) pa_nil))))) pss_nil)
   (pss_cons (ps_if (t_cmp (o_eq (hr8 hr)) (cv 1) pe_str (nomark _)) (pss_one (ps_ret (pe_call (ok_turned T) (hr.mono (by decide)) rfl T.mg_turned T.fn_turned.kp T.bi_turned .nil pass0 (pa_cons (pe_ix i_seq (cv 2) pe_int (fun _ _=>rfl)) pa_nil)))) pss_nil)
   (pss_cons (ps_if (t_cmp (o_eq (hr8 hr)) (cv 1) pe_str (nomark _)) (pss_one (ps_ret (pe_call (ok_choose_tie T) (hr.mono (by decide)) rfl T.mg_choose_tie T.fn_choose_tie.kp T.bi_choose_tie .nil pass0 (pa_cons (cv 0) (pa_cons (cv 2) pa_nil))))) pss_nil)
   (pss_cons (ps_if (t_cmp (o_eq (hr8 hr)) (cv 1) pe_str (nomark _)) (pss_one (ps_ret (pe_call (ok_most_tie T) (hr.mono (by decide)) rfl T.mg_most_tie T.fn_most_tie.kp T.bi_most_tie .nil pass0 (pa_cons (cv 0) (pa_cons (cv 2) pa_nil))))) pss_nil)
   (pss_one (ps_ret (pe_ifExp (t_cmp (o_eq (hr8 hr)) (cv 1) pe_str (nomark _)) (pe_globE rfl T.gx_ALWAYS) (pe_globE rfl T.gx_NEVER))))))))))
theorem ok_gate_tie (T:Txt K mg a):FnOk P w K mg base CX0 8 a.f_gate_tie a.d_gate_tie ["fold","word","ties"] (sp_gate_tie a K):=by
 refine T.fn_gate_tie.ok sc_gate_tie (fun vs H Q E h=>?_) (fun cdv A outer s H vs Q E hr h=>⟨_,tm_gate_tie T hr,?_⟩)
 ·obtain ⟨f,dx,pl,kl,tp,w,m,ts,es,rfl,_⟩:=h;rfl
 ·obtain ⟨f,dx,pl,kl,tp,w,m,ts,es,rfl,hf,hT,hw,hm,hin,hz,q⟩:=h
  show rd_gate_tie a K _ [some (.ref f),some (.str w),some (.ref tp)] H
  unfold rd_gate_tie gv_ALWAYS gv_NEVER
  have hl:=hw.2.2
  unfold gtR at q
  walk_at "gs"
  by_cases h1:w = "and"
  ·rw [if_pos h1] at q ⊢
   obtain ⟨t0,tr,rfl⟩:=List.exists_cons_of_ne_nil (hw.1 (.inl h1))
   rw [List.length_cons] at hl
   walk_at "gs"
   exact ⟨f,dx,pl,kl,tp,m,t0,tr,es,rfl,hf,hT,hm,hin,by omega,by omega,q⟩
  rw [if_neg h1] at q ⊢
  by_cases h2:w = "or"
  ·rw [if_pos h2] at q ⊢
   obtain ⟨t0,tr,rfl⟩:=List.exists_cons_of_ne_nil (hw.1 (.inr (.inl h2)))
   rw [List.length_cons] at hl
   walk_at "gs"
   exact ⟨f,dx,pl,kl,tp,m,t0,tr,es,rfl,hf,hT,hm,hin,by omega,by omega,q⟩
  rw [if_neg h2] at q ⊢
  by_cases h4:w = "either"
  ·rw [if_pos h4] at q ⊢
   obtain ⟨t0,tr,rfl⟩:=List.exists_cons_of_ne_nil (hw.1 (.inr (.inr (.inl h4))))
   rw [List.length_cons] at hl
   walk_at "gs"
   exact ⟨f,dx,pl,kl,tp,m,t0,tr,es,rfl,hf,hT,hm,hin,by omega,by omega,q⟩
  rw [if_neg h4] at q ⊢
  by_cases h5:w = "not"
  ·rw [if_pos h5] at q ⊢
   obtain ⟨t0,tr,rfl⟩:=List.exists_cons_of_ne_nil (hw.1 (.inr (.inr (.inr h5))))
   walk_at "gs"
   refine ⟨_,V.int t0,.inl hT,at0 t0 _,t0,rfl,(hin t0 (List.mem_cons_self ..)).1,?_⟩
   exact q H es Un2.refl hf rfl
  rw [if_neg h5] at q ⊢
  by_cases h6:w = "choose"
  ·rw [if_pos h6] at q ⊢
   match ts,hw.2.1 (.inl h6),hT,hin,q with
   | [x,y,z],_,hT,hin,q =>
    walk_at "gs"
    exact ⟨f,dx,pl,kl,tp,m,x,y,z,es,rfl,hf,hT,hm,hin,by omega,q⟩
  rw [if_neg h6] at q ⊢
  by_cases h7:w = "most"
  ·rw [if_pos h7] at q ⊢
   match ts,hw.2.1 (.inr h7),hT,hin,q with
   | [x,y,z],_,hT,hin,q =>
    walk_at "gs"
    exact ⟨f,dx,pl,kl,tp,m,x,y,z,es,rfl,hf,hT,hm,hin,by omega,q⟩
  rw [if_neg h7] at q ⊢
  have fin:=q H es Un2.refl hf rfl
  by_cases h8:w = "yes"
  ·rw [if_pos h8] at fin ⊢
   exact fin
  ·rw [if_neg h8] at fin ⊢
   exact fin
theorem at_bl {L:List Bool}{i:Int} (h0:0≤i) (h1:i<L.length):atI (L.map V.bl) i=some (.bl (L.getD i.toNat false)):=by
 rw [atI_ok .non h0 (by rw [List.length_map];exact h1)]
 have:i.toNat<L.length:=by omega
 simp [List.getD,this]
theorem ixN_ok {n:Nat}{k:Int} (h0:0≤k) (h1:k<n):ixN n k=some k.toNat:=by
 unfold ixN
 simp [h0,h1]
theorem set_bl (L:List Bool) (t:Int):(L.map V.bl).set (t / 2).toNat (.bl true)=(MF.mark L t).map V.bl:=(List.map_set ..).symm
theorem marks_take {L:List Bool}{ts:List Int}{i:Nat}{t:Int} (h:ts[i]? = some t):MF.marks L (ts.take (i+1))=MF.mark (MF.marks L (ts.take i)) t:=by
 unfold MF.marks
 rw [List.take_add_one,h,List.foldl_append]
 rfl
theorem get_int {ts:List Int}{i:Nat}{x:V} (h:(ts.map V.int)[i]? = some x):∃ t:Int,x=.int t∧ts[i]? = some t∧t∈ts:=by
 rw [List.getElem?_map] at h
 cases e:ts[i]? with
 | none=>rw [e] at h;cases h
 | some t =>
  rw [e] at h
  cases h
  exact ⟨t,rfl,rfl,List.mem_of_getElem? e⟩
theorem marks_two (L:List Bool) (p:MF.Pr):MF.marks L [p.1,p.2]=MF.mark (MF.mark L p.1) p.2:=rfl
theorem get_half {ts:List Int}{i:Nat}{x:V} (h:(ts.map fun t=>V.int (t / 2))[i]? = some x):∃ t:Int,x=.int (t / 2)∧ts[i]? = some t∧t∈ts:=by
 rw [List.getElem?_map] at h
 cases e:ts[i]? with
 | none=>rw [e] at h;cases h
 | some t =>
  rw [e] at h
  cases h
  exact ⟨t,rfl,rfl,List.mem_of_getElem? e⟩
def stp (kvs:List (Key × V)) (k:Nat):Bool:=(valV kvs (.inl (k:Int))).isSome
theorem stp_nil:stp []=fun _=>false:=rfl
def nzI (k:Nat):V:=.int (k:Int)
def sp_reached (a:Adr) (K:PySem.W.Frag):Sp:=fun vs H Q _=>∃ (f dx pl kl p sd:Addr) (m:Nat) (ts:List Int) (kvs:List (Key × V)) (es:List En),vs=[.ref f,.ref p,.ref sd]∧FoldAt a.c_Fold H f m es dx pl kl∧SqL K H p (ts.map fun t=>V.int (t / 2))∧H sd=some (.dK kvs)∧MF.Ok m (psOf es)∧MF.Tis m (psOf es) ts∧m≤10∧es.length≤4000∧ts.length≤4000 ∧
 ∀ q H',Mad H q (.lst ((MF.reached (stp kvs) m (psOf es) ts).map nzI)) H'→Q (.ref q) H'
def rd_reached (a:Adr) (K:PySem.W.Frag):TS:=(tSeq (tAsg (tOp cMulL (tLst (tCons (tC (.bl false)) tNil)) (tMeth a.c_Fold "total" (sp_Fold_total a K) [] E0 (cVar 0) tNil)) (gName 3))
  (tSeq (tFor (iList K (cVar 1)) (gName 4) (tAsg (tC (.bl true)) (gSub (cVar 3) (cVar 4) rSetL)))
  (tSeq (tFor (iRngD (tCons (tOp (cI2 fun i j=>.int (i - j)) (tMeth a.c_Fold "total" (sp_Fold_total a K) [] E0 (cVar 0) tNil) (tC (.int 1))) (tCons (tFld K (cVar 0) "many") (tCons (tUn cNeg (tC (.int 1))) tNil)))) (gName 4) (tIfS (tAnd (cTru K (tOp (cIx K) (cVar 3) (cVar 4))) (cTst (tDNotIn (cVar 4) (cVar 2)))) (tFor (iTup K (tMeth a.c_Fold "pair" (sp_Fold_pair a K) [] E0 (cVar 0) (tCons (cVar 4) tNil))) (gName 5) (tAsg (tC (.bl true)) (gSub (cVar 3) (tOp (cI2c CDiv fun i j=>.int (i / j)) (cVar 5) (tC (.int 2))) rSetL))) tNext))
  (tRet (tComp (iRng1 (tCons (tMeth a.c_Fold "total" (sp_Fold_total a K) [] E0 (cVar 0) tNil) tNil)) 1 [3] (gName 0) (cTru K (tOp (cIx K) (cVar 1) (cVar 0))) (cVar 0))))))
theorem tm_reached (T:Txt K mg a) {cdv:Value}{A:Around}{outer:List Env}{s:Shared}{H:Hp}{E:XK} (hr:Room 2 (A.deeper (envOfC "reached" (defScope s_reached) s.heap.objs.size a.f_reached cdv))) :
  PSs (cxOf CX0 P w K mg base N_reached "reached" (defScope s_reached) a.f_reached cdv A outer s H E).nox (defBody s_reached) (rd_reached a K) :=
 (pss_cons (ps_set (i:=3) sc_reached.nd rfl (by walk_at "o") (pe_op o_mulL (pe_lst (pa_cons pe_bl pa_nil)) (pe_meth0 (cv 0) T.cl_Fold T.me_Fold_total (ok_Fold_total T) (hr.mono (by decide)) T.bi_Fold_total .nil pass0)))
   (pss_cons (ps_for PassesOwn.never rfl (pi_list (cv 1)) (pg_name (i:=4) sc_reached.nd rfl (by walk_at "o")) (pss_one (ps_asg pe_bl (pg_sub (cv 3) (cv 4) set_list))))
   (pss_cons (ps_for PassesOwn.never rfl (pi_rangeD rfl T.no_range (pa_cons (pe_op o_sub (pe_meth0 (cv 0) T.cl_Fold T.me_Fold_total (ok_Fold_total T) (hr.mono (by decide)) T.bi_Fold_total .nil pass0) pe_int) (pa_cons (pe_fld (cv 0) rfl) (pa_cons (pe_un u_neg pe_int) pa_nil)))) (pg_name (i:=4) sc_reached.nd rfl (by walk_at "o")) (pss_one (ps_if (PW.pt (pw_and (pt_tru (pe_ix i_seq (cv 3) (cv 4) (fun _ _=>rfl))) (pw_and1 (t_pc (pc_dnotin (hu_of hr) (cv 4) (cv 2)))))) (pss_one (ps_for PassesOwn.never rfl (pi_tup (pe_meth (cv 0) T.cl_Fold T.me_Fold_pair (ok_Fold_pair T) (hr.mono (by decide)) T.bi_Fold_pair .nil pass0 (pa_cons (cv 4) pa_nil))) (pg_name (i:=5) sc_reached.nd rfl (by walk_at "o")) (pss_one (ps_asg pe_bl (pg_sub (cv 3) (pe_op o_fdiv (cv 5) pe_int) set_list))))) pss_nil)))
   (pss_one (ps_ret (pe_comp (N:=["knot","seen"]) (k:=1) (sel:=[3]) (CScope.of (defScope s_reached).names (by decide +kernel)) (CNames.of N_reached (by decide +kernel)) rfl (pi_range1 rfl T.no_range (pa_cons (pe_meth0 (cv 0) T.cl_Fold T.me_Fold_total (ok_Fold_total T) (hr.mono (by decide)) T.bi_Fold_total .nil pass0) pa_nil)) (fun _ _ _ _=>(pg_name (i:=0) (show List.Nodup (["knot","seen"]:List Str) by decide +kernel) rfl (by walk_at "o"))) (fun _ _ _ _=>(pts_one (pt_tru (pe_ix i_seq (cv 1) (cv 0) (fun _ _=>rfl))))) (fun _ _ _ _=>(cv 0))))))))
theorem ok_reached (T:Txt K mg a):FnOk P w K mg base CX0 3 a.f_reached a.d_reached ["fold","knots","stops"] (sp_reached a K):=by
 refine T.fn_reached.ok sc_reached (fun vs H Q E h=>?_) (fun cdv A outer s H vs Q E hr h=>⟨_,tm_reached T hr,?_⟩)
 ·obtain ⟨f,dx,pl,kl,p,sd,m,ts,kvs,es,rfl,_⟩:=h;rfl
 ·obtain ⟨f,dx,pl,kl,p,sd,m,ts,kvs,es,rfl,hf,hT,hS,ok,hin,hm,hz,htz,q⟩:=h
  show rd_reached a K _ [some (.ref f),some (.ref p),some (.ref sd),none,none,none] H
  unfold rd_reached
  have big:(20000:Nat)≤sizeLine:=by decide
  have epl:((psOf es).length:Int)=es.length:=by rw [List.length_map]
  walk_at "gs"
  intro r1 H1 n1
  refine ⟨f,dx,_,rfl,n1.same _ _ hf.ins,rfl,f,dx,pl,kl,m,es,rfl,hf.same n1.same,?_⟩
  walk_at "gs"
  refine ⟨_,n1.at_,by omega,by omega,by simp only [List.length_singleton];omega,fun nq H2 n2=>?_⟩
  have hw:H nq=none:=n1.same.nil n2.was
  have e0:(List.replicate (1+(m:Int)+(es.length:Int)).toNat [V.bl false]).flatten=(MF.marks (List.replicate (1+m+(psOf es).length) false) (ts.take 0)).map V.bl:=by
   rw [rep_one,show (1+(m:Int)+(es.length:Int)).toNat=1+m+(psOf es).length by omega]
   show _=(List.replicate (1+m+(psOf es).length) false).map V.bl
   rw [List.map_replicate]
  rw [e0] at n2
  have hlen:∀ xs:List Int,(MF.marks (List.replicate (1+m+(psOf es).length) false) xs).length=1+m+(psOf es).length:=fun xs=>by rw [MF.marks_len,List.length_replicate]
  generalize hL0:List.replicate (1+m+(psOf es).length) false=L0 at *
  walk_at "gs"
  have s2:=n1.same.trans n2.same
  refine ⟨⟨_,s2.seq hT⟩,for_listG (xs:=ts.map fun t=>V.int (t / 2)) (fun i σ H3=>Same H H3∧H3 nq=some (.lst ((MF.marks L0 (ts.take i)).map V.bl))∧∃ v4,σ=[some (.ref f),some (.ref p),some (.ref sd),some (.ref nq),v4,none]) ⟨s2,n2.at_,_,rfl⟩ ?_ ?_ ?_⟩
  ·rintro i σ H3 _ ⟨s3,_⟩
   exact s3.seq hT
  ·rintro i x σ H3 hx ⟨s3,a3,v4,rfl⟩
   obtain ⟨t,rfl,ht,htm⟩:=get_half hx
   have hb:=hin t htm
   walk_at "gs"
   refine ⟨nq,_,_,_,rfl,rfl,a3,ixN_ok (by omega) (by rw [List.length_map,hlen];omega),s3.put hw,?_,_,rfl⟩
   rw [upd_same,set_bl,marks_take ht]
  ·rintro σ H3 ⟨s3,a3,v4,rfl⟩
   have f3:=hf.same s3
   rw [List.length_map,List.take_length] at a3
   walk_at "gs"
   refine ⟨f,dx,_,rfl,f3.ins,rfl,f,dx,pl,kl,m,es,rfl,f3,?_⟩
   walk_at "gs"
   refine ⟨f,a.c_Fold,dx,_,_,rfl,f3.ins,T.cl_Fold,T.na_Fold_many,rfl,?_⟩
   walk_at "gs"
   refine ⟨_,_,rfl,⟨by omega,by omega,by omega,by omega⟩,?_⟩
   rw [show (1+(m:Int)+(es.length:Int) - 1 - (m:Int)).toNat=(psOf es).length by omega]
   have dlen:∀ i,(MF.downS (stp kvs) m (psOf es) (MF.marks L0 ts) i).length=1+m+(psOf es).length:=fun i=>by rw [MF.downS_len,hlen]
   refine for_dnG (fun i σ H4=>Same H H4∧H4 nq=some (.lst ((MF.downS (stp kvs) m (psOf es) (MF.marks L0 ts) i).map V.bl))∧∃ v4 v5,σ=[some (.ref f),some (.ref p),some (.ref sd),some (.ref nq),v4,v5]) ⟨s3,a3,_,_,rfl⟩ ?_ ?_
   ·rintro i σ H4 hi ⟨s4,a4,v4,v5,rfl⟩
    have f4:=hf.same s4
    have hie:(psOf es).length - 1 - i<es.length:=by omega
    have hee:es[(psOf es).length - 1 - i]? = some es[(psOf es).length - 1 - i]:=List.getElem?_eq_getElem hie
    have hpe:(psOf es)[(psOf es).length - 1 - i]? = some (es[(psOf es).length - 1 - i]).2:=by rw [List.getElem?_map,hee];rfl
    obtain ⟨o1,o2,o3,o4⟩:=ok _ _ hpe
    have te:=f4.prs.tup _ (List.getElem_mem hie)
    have kn:1+(m:Int)+(es.length:Int) - 1 - (i:Int)=((m+1+((psOf es).length - 1 - i):Nat):Int):=by omega
    have hlk:MF.downS (stp kvs) m (psOf es) (MF.marks L0 ts) (i+1)=MF.lookS (stp kvs) m (psOf es) (MF.downS (stp kvs) m (psOf es) (MF.marks L0 ts) i) ((psOf es).length - 1 - i):=rfl
    unfold MF.lookS at hlk
    rw [List.getD_eq_getElem?_getD (l:=psOf es),hpe,Option.getD_some] at hlk
    generalize hE:es[(psOf es).length - 1 - i]=e at *
    have hjb:m+1+((psOf es).length - 1 - i)<1+m+(psOf es).length:=by omega
    rw [kn]
    walk_at "gs"
    refine ⟨_,_,.inl (.of a4),at_bl (by omega) (by rw [dlen];omega),?_⟩
    rw [Int.toNat_natCast]
    cases hnd:(MF.downS (stp kvs) m (psOf es) (MF.marks L0 ts) i).getD (m+1+((psOf es).length - 1 - i)) false with
    | false =>
     rw [hnd,Bool.false_and,if_neg (by simp)] at hlk
     walk_at "go"
     exact ⟨s4,by rw [hlk];exact a4,_,_,rfl⟩
    | true =>
     rw [hnd,Bool.true_and] at hlk
     walk_at "gs"
     refine ⟨sd,_,rfl,DGet.k (k:=.inl ((m+1+((psOf es).length - 1 - i):Nat):Int)) (s4 _ _ hS),?_⟩
     have hst:(valV kvs (.inl ((m+1+((psOf es).length - 1 - i):Nat):Int))).isSome=stp kvs (m+1+((psOf es).length - 1 - i)):=rfl
     rw [hst]
     cases hsx:stp kvs (m+1+((psOf es).length - 1 - i)) with
     | true =>
      rw [hsx,if_neg (by simp)] at hlk
      walk_at "go"
      exact ⟨s4,by rw [hlk];exact a4,_,_,rfl⟩
     | false =>
      rw [hsx,Bool.not_false,if_pos rfl] at hlk
      walk_at "gs"
      refine ⟨f,dx,_,rfl,f4.ins,rfl,f,dx,pl,kl,m,_,es,rfl,f4,by omega,by omega,fun z=>absurd z (by omega),fun e' _ he'=>?_⟩
      rw [show (((m+1+((psOf es).length - 1 - i):Nat):Int) - (m:Int) - 1).toNat=(psOf es).length - 1 - i by omega,hee] at he'
      cases he'
      walk_at "gs"
      refine ⟨⟨_,.of te⟩,for_tupG (xs:=[.int e.2.1,.int e.2.2]) (fun j σ H5=>Same H H5∧H5 nq=some (.lst ((MF.marks (MF.downS (stp kvs) m (psOf es) (MF.marks L0 ts) i) ([e.2.1,e.2.2].take j)).map V.bl))∧∃ v4 v5,σ=[some (.ref f),some (.ref p),some (.ref sd),some (.ref nq),v4,v5]) ⟨s4,a4,_,_,rfl⟩ ?_ ?_ ?_⟩
      ·rintro j σ H5 _ ⟨s5,_⟩
       exact .of ((hf.same s5).prs.tup _ (List.mem_of_getElem? hee))
      ·rintro j x σ H5 hx ⟨s5,a5,v4,v5,rfl⟩
       obtain ⟨t,rfl,ht,htm⟩:=get_int (ts:=[e.2.1,e.2.2]) hx
       have hb:0≤t∧t<2 * (1+(m:Int)+es.length):=by
        rcases List.mem_cons.mp htm with rfl | htm
        ·omega
        ·rw [List.mem_singleton] at htm
         subst htm
         omega
       walk_at "gs"
       refine ⟨nq,_,_,_,rfl,rfl,a5,ixN_ok (by omega) (by rw [List.length_map,MF.marks_len,dlen];omega),s5.put hw,?_,_,_,rfl⟩
       rw [upd_same,set_bl,marks_take ht]
      ·rintro σ H5 ⟨s5,a5,v4,v5,rfl⟩
       refine ⟨s5,?_,_,_,rfl⟩
       rw [hlk,← marks_two]
       exact a5
   ·rintro σ H4 ⟨s4,a4,v4,v5,rfl⟩
    have f4:=hf.same s4
    walk_at "gs"
    refine ⟨f,dx,_,rfl,f4.ins,rfl,f,dx,pl,kl,m,es,rfl,f4,?_⟩
    walk_at "gs"
    rw [show (1+(m:Int)+(es.length:Int)).toNat=1+m+(psOf es).length by omega]
    refine compG_rngF (MF.reach (stp kvs) m (psOf es) ts) nzI rfl (by omega) ?_ ?_ ?_
    ·intro i H' Q' hi s' q'
     walk_at "gs"
     refine ⟨_,_,.inl (.of (s' _ _ a4)),at_bl (by omega) (by rw [dlen];omega),?_⟩
     rw [show ((0:Int)+(i:Int)).toNat=i by omega]
     have e9:(MF.downS (stp kvs) m (psOf es) (MF.marks L0 ts) (psOf es).length).getD i false=MF.reach (stp kvs) m (psOf es) ts i:=by rw [← hL0];rfl
     rw [e9]
     walk_at "go"
     exact q'
    ·intro i H' Q' hi _ s' q'
     walk_at "gs"
     rw [show (0:Int)+(i:Int)=(i:Int) by omega]
     exact q'
    ·intro pq H5 n5
     exact q pq H5 ⟨s4.nil n5.was,n5.at_,s4.trans n5.same⟩
theorem Same.un2 {H H1 H2:Hp}{gl gk:Addr} (s:Same H H1) (u:Un2 gl gk H1 H2) (h1:H gl=none) (h2:H gk=none):Same H H2:=fun b o e=>u b o (ne_of_none e h1) (ne_of_none e h2) (s b o e)
def sp_moved_tie (_:PySem.W.Frag):Sp:=fun vs H Q _=>∃ (d:Addr) (t z:Int) (kvs:List (Key × V)),vs=[.ref d,.int t]∧H d=some (.dK kvs)∧valV kvs (.inl (t / 2))=some (.int z)∧Q (.int (z+t % 2)) H
def rd_moved_tie (K:PySem.W.Frag):TS:=(tRet (tOp cAdd (tDGet (cVar 0) (tOp (cI2c CDiv fun i j=>.int (i / j)) (cVar 1) (tC (.int 2)))) (tOp (cI2c (fun _ j=>0<j) fun i j=>.int (i % j)) (cVar 1) (tC (.int 2)))))
theorem tm_moved_tie (T:Txt K mg a) {cdv:Value}{A:Around}{outer:List Env}{s:Shared}{H:Hp}{E:XK} (hr:Room 0 (A.deeper (envOfC "moved_tie" (defScope s_moved_tie) s.heap.objs.size a.f_moved_tie cdv))) :
  PSs (cxOf CX0 P w K mg base N_moved_tie "moved_tie" (defScope s_moved_tie) a.f_moved_tie cdv A outer s H E).nox (defBody s_moved_tie) (rd_moved_tie K) :=
 (pss_one (ps_ret (pe_op o_add (pe_dget (hu_of hr) (cv 0) (pe_op o_fdiv (cv 1) pe_int) (fun _ _=>rfl)) (pe_op o_mod (cv 1) pe_int))))
theorem ok_moved_tie (T:Txt K mg a):FnOk P w K mg base CX0 1 a.f_moved_tie a.d_moved_tie ["moved","tie"] (sp_moved_tie K):=by
 refine T.fn_moved_tie.ok sc_moved_tie (fun vs H Q E h=>?_) (fun cdv A outer s H vs Q E hr h=>⟨_,tm_moved_tie T hr,?_⟩)
 ·obtain ⟨d,t,z,kvs,rfl,_⟩:=h;rfl
 ·obtain ⟨d,t,z,kvs,rfl,hd,hv,q⟩:=h
  show rd_moved_tie K _ [some (.ref d),some (.int t)] H
  unfold rd_moved_tie
  walk_at "gs"
  refine ⟨d,.int z,rfl,?_,?_⟩
  ·have:=DGet.k (k:=.inl (t / 2)) hd
   rw [hv] at this
   exact this
  walk_at "gs"
  exact q
structure Mvd (m:Nat) (nd:Nat→Bool) (n:Nat) (kvs:List (Key × V)):Prop where
 len:kvs.length≤m+1+n
 val:∀ k:Nat,k<m+1+n→MF.Sty m nd k→valV kvs (.inl (k:Int))=some (.int (2 * (MF.bec m nd k:Nat)))
theorem Mvd.tie {m:Nat}{nd:Nat→Bool}{n:Nat}{kvs:List (Key × V)} (h:Mvd m nd n kvs) {t:Int} (h0:0≤t) (h1:t<2 * ((m:Int)+1+n)) (hs:MF.Sty m nd (t / 2).toNat):valV kvs (.inl (t / 2))=some (.int (2 * (MF.bec m nd (t / 2).toNat:Nat))):=by
 have:=h.val (t / 2).toNat (by omega) hs
 rw [show (((t / 2).toNat:Nat):Int)=t / 2 by omega] at this
 exact this
theorem putK_len {κ:Type} [DecidableEq κ] (kvs:List (κ × V)) (k:κ) (v:V):(putK kvs k v).length≤kvs.length+1:=by
 unfold putK
 split
 ·rw [List.length_map];omega
 ·rw [List.length_append];exact Nat.le_refl _
theorem Mvd.skip {m:Nat}{nd:Nat→Bool}{n:Nat}{kvs:List (Key × V)} (h:Mvd m nd n kvs) (hn:nd (m+1+n)=false):Mvd m nd (n+1) kvs:=by
 refine ⟨by have:=h.len;omega,fun k hk hs=>?_⟩
 rcases Nat.lt_or_ge k (m+1+n) with l | l
 ·exact h.val k l hs
 ·have:k=m+1+n:=by omega
  subst this
  rcases hs with z | z
  ·omega
  ·rw [hn] at z;cases z
theorem Mvd.put {m:Nat}{nd:Nat→Bool}{n:Nat}{kvs:List (Key × V)} (h:Mvd m nd n kvs):Mvd m nd (n+1) (putK kvs (.inl ((m:Int)+1+n)) (.int (2 * (MF.bec m nd (m+1+n):Nat)))):=by
 refine ⟨by have:=h.len;have:=putK_len kvs (.inl ((m:Int)+1+n)) (.int (2 * (MF.bec m nd (m+1+n):Nat)));omega,fun k hk hs=>?_⟩
 rw [valV_put]
 by_cases e:k=m+1+n
 ·subst e
  rw [if_pos (by congr 1)]
 ·rw [if_neg (fun z=>e (by have:=Sum.inl.inj z;omega))]
  exact h.val k (by omega) hs
theorem merge_val:∀ (n:Nat),(mergeK [] ((List.range n).map fun k:Nat=>((.inl (k:Int):Key),V.int (2 * (k:Int))))).length≤n∧∀ k:Nat,k<n→valV (mergeK [] ((List.range n).map fun k:Nat=>((.inl (k:Int):Key),V.int (2 * (k:Int))))) (.inl (k:Int))=some (.int (2 * (k:Int)))
 | 0=>⟨by simp [mergeK],fun k h=>by omega⟩
 | n+1=>by
  obtain ⟨h1,h2⟩:=merge_val n
  unfold mergeK at h1 h2 ⊢
  rw [List.range_succ,List.map_append,List.foldl_append]
  generalize List.foldl (fun acc kv=>putK acc kv.1 kv.2) ([]:List (Key × V)) ((List.range n).map fun k:Nat=>((.inl (k:Int):Key),V.int (2 * (k:Int))))=A at h1 h2
  show (putK A (.inl (n:Int)) (.int (2 * (n:Int)))).length≤n+1∧∀ k:Nat,k<n+1→valV (putK A (.inl (n:Int)) (.int (2 * (n:Int)))) (.inl (k:Int))=_
  refine ⟨by have:=putK_len A (.inl (n:Int)) (.int (2 * (n:Int)));omega,fun k hk=>?_⟩
  rw [valV_put]
  by_cases e:k=n
  ·subst e
   rw [if_pos rfl]
  ·rw [if_neg (fun z=>e (by have:=Sum.inl.inj z;omega))]
   exact h2 k (by omega)
def sp_swept (a:Adr) (K:PySem.W.Frag):Sp:=fun vs H Q _=>∃ (f dx pl kl p:Addr) (m:Nat) (ts:List Int) (es:List En),vs=[.ref f,.ref p]∧FoldAt a.c_Fold H f m es dx pl kl∧SqL K H p (ts.map V.int)∧MF.Ok m (psOf es)∧(psOf es).Nodup∧MF.Tis m (psOf es) ts∧m≤10∧es.length≤4000∧ts.length≤4000 ∧
 ∀ H' r g gx gl gk q es',Same H H'→H g=none→H gl=none→H gk=none→H q=none→FoldAt a.c_Fold H' g m es' gx gl gk→psOf es'=MF.swP m (psOf es) ts→H' q=some (.lst ((MF.swT m (psOf es) ts).map V.int))→H' r=some (.tup [.ref g,.ref q])→Q (.ref r) H'
def rd_swept (a:Adr) (K:PySem.W.Frag):TS:=(tSeq (tAsg (tMake a.c_Fold (sp_Fold___init__ a K) [] E0 (tCons (tFld K (cVar 0) "many") tNil)) (gName 2))
  (tMid (tAsg (tCB (cDictP K) (tCons (tComp (iRng1 (tCons (tOp cAdd (tFld K (cVar 0) "many") (tC (.int 1))) tNil)) 1 [] (gName 0) tTrue (tTup (tCons (cVar 0) (tCons (tOp cMul (tC (.int 2)) (cVar 0)) tNil)))) tNil)) (gName 3))
  (tMid (tFor (iList K (tCall (sp_reached a K) [] E0 (tCons (cVar 0) (tCons (tComp (iList K (cVar 1)) 1 [] (gName 0) tTrue (tOp (cI2c CDiv fun i j=>.int (i / j)) (cVar 0) (tC (.int 2)))) (tCons tDNewK tNil))))) (gName 4) (tSeq (tAsg (tMeth a.c_Fold "pair" (sp_Fold_pair a K) [] E0 (cVar 0) (tCons (cVar 4) tNil)) (gName 5))
  (tIfS (cTst (tOp cIsNot (cVar 5) (tC .non))) (sDPut (cVar 3) (cVar 4) (tMeth a.c_Fold "both" (sp_Fold_both a K) [] E0 (cVar 2) (tCons (tCall (sp_moved_tie K) [] E0 (tCons (cVar 3) (tCons (tOp (cIx K) (cVar 5) (tC (.int 0))) tNil))) (tCons (tCall (sp_moved_tie K) [] E0 (tCons (cVar 3) (tCons (tOp (cIx K) (cVar 5) (tC (.int 1))) tNil))) tNil)))) tNext)))
  (tRet (tTup (tCons (cVar 2) (tCons (tComp (iList K (cVar 1)) 1 [3] (gName 0) tTrue (tCall (sp_moved_tie K) [] E0 (tCons (cVar 1) (tCons (cVar 0) tNil)))) tNil)))))))
theorem tm_swept (T:Txt K mg a) {cdv:Value}{A:Around}{outer:List Env}{s:Shared}{H:Hp}{E:XK} (hr:Room 3 (A.deeper (envOfC "swept" (defScope s_swept) s.heap.objs.size a.f_swept cdv))) :
  PSs (cxOf CX0 P w K mg base N_swept "swept" (defScope s_swept) a.f_swept cdv A outer s H E).nox (defBody s_swept) (rd_swept a K) :=
 (pss_cons (ps_set (i:=2) sc_swept.nd rfl (by walk_at "o") (pe_make T.mk_Fold (ok_Fold___init__ T) (hr.mono (by decide)) rfl T.mg_Fold T.bi_Fold___init__ .nil pass0 (pa_cons (pe_fld (cv 0) rfl) pa_nil)))
   (pss_mid (ps_set (i:=3) sc_swept.nd rfl (by walk_at "o") (pe_callTy (c_dictP rfl) (by rfl) T.no_dict PyProof.Rows.boot_dict (pa_cons (pe_comp (N:=["knot"]) (k:=1) (sel:=[]) (CScope.of (defScope s_swept).names (by decide +kernel)) (CNames.of N_swept (by decide +kernel)) rfl (pi_range1 rfl T.no_range (pa_cons (pe_op o_add (pe_fld (cv 0) rfl) pe_int) pa_nil)) (fun _ _ _ _=>(pg_name (i:=0) (show List.Nodup (["knot"]:List Str) by decide +kernel) rfl (by walk_at "o"))) (fun _ _ _ _=>pts_nil) (fun _ _ _ _=>(pe_tup (pa_cons (cv 0) (pa_cons (pe_op o_mul pe_int (cv 0)) pa_nil))))) pa_nil)))
   (pss_mid (ps_for PassesOwn.never rfl (pi_list (pe_call (ok_reached T) (hr.mono (by decide)) rfl T.mg_reached T.fn_reached.kp T.bi_reached .nil pass0 (pa_cons (cv 0) (pa_cons (pe_comp (N:=["tie"]) (k:=1) (sel:=[]) (CScope.of (defScope s_swept).names (by decide +kernel)) (CNames.of N_swept (by decide +kernel)) rfl (pi_list (cv 1)) (fun _ _ _ _=>(pg_name (i:=0) (show List.Nodup (["tie"]:List Str) by decide +kernel) rfl (by walk_at "o"))) (fun _ _ _ _=>pts_nil) (fun _ _ _ _=>(pe_op o_fdiv (cv 0) pe_int))) (pa_cons pe_dnewK pa_nil))))) (pg_name (i:=4) sc_swept.nd rfl (by walk_at "o")) (pss_cons (ps_set (i:=5) sc_swept.nd rfl (by walk_at "o") (pe_meth (cv 0) T.cl_Fold T.me_Fold_pair (ok_Fold_pair T) (hr.mono (by decide)) T.bi_Fold_pair .nil pass0 (pa_cons (cv 4) pa_nil)))
   (pss_one (ps_if (t_cmp o_isnot (cv 5) pe_non (nomark _)) (pss_one (ps_dput (hu_of hr) (cv 3) (cv 4) (pe_meth (cv 2) T.cl_Fold T.me_Fold_both (ok_Fold_both T) (hr.mono (by decide)) T.bi_Fold_both .nil pass0 (pa_cons (pe_call (ok_moved_tie T) (hr.mono (by decide)) rfl T.mg_moved_tie T.fn_moved_tie.kp T.bi_moved_tie .nil pass0 (pa_cons (cv 3) (pa_cons (pe_ix i_seq (cv 5) pe_int (fun _ _=>rfl)) pa_nil))) (pa_cons (pe_call (ok_moved_tie T) (hr.mono (by decide)) rfl T.mg_moved_tie T.fn_moved_tie.kp T.bi_moved_tie .nil pass0 (pa_cons (cv 3) (pa_cons (pe_ix i_seq (cv 5) pe_int (fun _ _=>rfl)) pa_nil))) pa_nil))) rfl)) pss_nil))))
   (pss_one (ps_ret (pe_tup (pa_cons (cv 2) (pa_cons (pe_comp (N:=["tie","moved"]) (k:=1) (sel:=[3]) (CScope.of (defScope s_swept).names (by decide +kernel)) (CNames.of N_swept (by decide +kernel)) rfl (pi_list (cv 1)) (fun _ _ _ _=>(pg_name (i:=0) (show List.Nodup (["tie","moved"]:List Str) by decide +kernel) rfl (by walk_at "o"))) (fun _ _ _ _=>pts_nil) (fun _ _ _ _=>(pe_call (ok_moved_tie T) (hr.mono (by decide)) rfl T.mg_moved_tie T.fn_moved_tie.kp T.bi_moved_tie .nil pass0 (pa_cons (cv 1) (pa_cons (cv 0) pa_nil))))) pa_nil))))))))
theorem ok_swept (T:Txt K mg a):FnOk P w K mg base CX0 4 a.f_swept a.d_swept ["fold","ties"] (sp_swept a K):=by
 refine T.fn_swept.ok sc_swept (fun vs H Q E h=>?_) (fun cdv A outer s H vs Q E hr h=>⟨_,tm_swept T hr,?_⟩)
 ·obtain ⟨f,dx,pl,kl,p,m,ts,es,rfl,_⟩:=h;rfl
 ·obtain ⟨f,dx,pl,kl,p,m,ts,es,rfl,hf,hT,ok,hnd,hin,hm,hz,htz,q⟩:=h
  show rd_swept a K _ [some (.ref f),some (.ref p),none,none,none,none] H
  unfold rd_swept
  have big:(20000:Nat)≤sizeLine:=by decide
  have epl:((psOf es).length:Int)=es.length:=by rw [List.length_map]
  have hclo:=MF.need_clo ok ts
  walk_at "gs"
  refine ⟨f,a.c_Fold,dx,_,_,rfl,hf.ins,T.cl_Fold,T.na_Fold_many,rfl,?_⟩
  walk_at "gs"
  refine mk_Fold fun g gx gl gk H2 s02 hg0 hgl0 hgk0 F2=>?_
  have f2:=hf.same s02
  walk_at "gs"
  refine mid (fun σ' H'=>∃ d kvs,Same H2 H'∧H2 d=none∧H' d=some (.dK kvs)∧Mvd m (MF.need m (psOf es) ts) 0 kvs∧σ'=[some (.ref f),some (.ref p),some (.ref g),some (.ref d),none,none]) ?_ ?_
  ·intro N hN
   walk_at "gs"
   refine ⟨f,a.c_Fold,dx,_,_,rfl,f2.ins,T.cl_Fold,T.na_Fold_many,rfl,?_⟩
   walk_at "gs"
   rw [show ((m:Int)+1).toNat=m+1 by omega]
   refine fun pc hpc=>comp_gen (n:=m+1) (item:=fun i=>.int ((0:Int)+(i:Nat))) (fun σ=>σ.length=1) (fun i H3=>∃ us,H3 pc=some (.lst us)∧us.length=i∧Same H2 H3∧∀ j:Nat,j<i→∃ t,us[j]? = some (.ref t)∧H3 t=some (.tup [.int (j:Int),.int (2 * (j:Int))])) rfl ⟨[],upd_same,rfl,same_upd hpc,fun j hj=>absurd hj (by omega)⟩ ?_ ?_ ?_ ?_
   ·intro i H3 hi _
    exact ⟨hi,fun x H4 hy=>hy⟩
   ·intro H3 _
    exact Nat.le_refl _
   ·rintro i σ2 H3 R hi hσ ⟨us,h1,h2,s3,h4⟩ hR
    obtain ⟨w1,rfl⟩:∃ w1,σ2=[w1]:=by
     match σ2,hσ with
     | [w1],_=>exact ⟨w1,rfl⟩
    walk_at "gs"
    refine ⟨by show 2≤sizeLine;decide,fun t5 H5 n5=>?_⟩
    have hp5:=n5.same _ _ h1
    have npt:t5≠pc:=(ne_of_none h1 n5.was).symm
    refine ⟨us,hp5,by omega,hR _ _ rfl ⟨us ++ [.ref t5],upd_same,by rw [List.length_append,h2];rfl,(s3.trans n5.same).put hpc,fun j hj=>?_⟩⟩
    by_cases hji:j<i
    ·obtain ⟨t',g1,g2⟩:=h4 j hji
     exact ⟨t',by rw [List.getElem?_append_left (by omega)];exact g1,by rw [upd_ne (ne_of g2 h1 (fun z=>nomatch z))];exact n5.same _ _ g2⟩
    ·have hj':j=i:=by omega
     subst hj'
     refine ⟨t5,by rw [← h2];simp,?_⟩
     rw [upd_ne npt,n5.at_]
     simp
   rintro H3 ⟨us,h1,h2,s3,h4⟩
   walk_at "gs"
   refine ⟨us,(List.range (m+1)).map fun k:Nat=>((.inl (k:Int):Key),V.int (2 * (k:Int))),h1,by rw [h2,List.length_map,List.length_range],by rw [List.length_map,List.length_range];omega,fun j pr hj=>?_,fun d H4 n4=>?_⟩
   ·rw [List.getElem?_map] at hj
    by_cases hlt:j<m+1
    ·rw [List.getElem?_range hlt] at hj
     cases hj
     exact h4 j hlt
    ·rw [List.getElem?_eq_none (by rw [List.length_range];omega)] at hj
     cases hj
   obtain ⟨mv1,mv2⟩:=merge_val (m+1)
   have mv0:Mvd m (MF.need m (psOf es) ts) 0 (mergeK [] ((List.range (m+1)).map fun k:Nat=>((.inl (k:Int):Key),V.int (2 * (k:Int))))):=⟨mv1,fun k hk _=>by rw [mv2 k hk,MF.bec_low (by omega)]⟩
   generalize mergeK [] ((List.range (m+1)).map fun k:Nat=>((.inl (k:Int):Key),V.int (2 * (k:Int))))=kvs0 at mv0 n4
   clear mv1 mv2
   walk_at "gs"
   exact hN _ _ ⟨d,kvs0,s3.trans n4.same,s3.nil n4.was,n4.at_,mv0,rfl⟩
  rintro σ4 H4 ⟨d,kvs0,s24,hd2,d4,mv0,rfl⟩
  have s04:=s02.trans s24
  have F4:=F2.same s24
  have ndk:d≠gk:=(ne_of_none F2.prs.dct hd2).symm
  have ndl:d≠gl:=(ne_of_none F2.prs.lst hd2).symm
  have hd0:H d=none:=s02.nil hd2
  walk_at "gs"
  refine mid (fun σ' H'=>Same H H'∧∃ (es':List En) (kvs:List (Key × V)),FoldAt a.c_Fold H' g m es' gx gl gk∧psOf es'=MF.kept m (MF.need m (psOf es) ts) (psOf es) (psOf es).length∧H' d=some (.dK kvs)∧Mvd m (MF.need m (psOf es) ts) (psOf es).length kvs∧∃ v5 v6,σ'=[some (.ref f),some (.ref p),some (.ref g),some (.ref d),v5,v6]) ?_ ?_
  ·intro N hN
   walk_at "gs"
   have f4:=hf.same s04
   refine ⟨⟨_,s04.seq hT⟩,compG_list (fun x=>match x with | .int t=>.int (t / 2) | v=>v) (s04.seq hT) rfl (by rw [List.length_map];omega) ?_ ?_⟩
   ·intro x H' Q' hx s' q'
    obtain ⟨t,htm,rfl⟩:=List.mem_map.mp hx
    walk_at "gs"
    exact q'
   intro hq H5 n5
   have eq5:(ts.map V.int).map (fun x=>match x with | .int t=>.int (t / 2) | v=>v)=ts.map fun t=>V.int (t / 2):=by
    rw [List.map_map]
    rfl
   rw [eq5] at n5
   walk_at "gs"
   intro sd H6 n6
   have s46:=n5.same.trans n6.same
   have s06:=s04.trans s46
   refine ⟨f,dx,pl,kl,hq,sd,m,ts,[],es,rfl,hf.same s06,.of (n6.same _ _ n5.at_),n6.at_,ok,hin,hm,hz,htz,fun rq H7 n7=>?_⟩
   have s47:=s46.trans n7.same
   have s07:=s04.trans s47
   have hrl:rq≠gl:=(ne_of_none ((F4.same s46).prs.lst) n7.was).symm
   have hrk:rq≠gk:=(ne_of_none ((F4.same s46).prs.dct) n7.was).symm
   have hrd:rq≠d:=(ne_of_none (s46 _ _ d4) n7.was).symm
   have a7:=n7.at_
   rw [stp_nil] at a7
   unfold MF.reached at a7
   rw [MF.reach_none] at a7
   walk_at "gs"
   refine ⟨⟨_,.of a7⟩,for_filterG (N:=1+m+(psOf es).length) (q:=MF.need m (psOf es) ts) (f:=nzI) (fun n σ H5=>Same H H5∧H5 rq=some (.lst (((List.range (1+m+(psOf es).length)).filter (MF.need m (psOf es) ts)).map nzI))∧∃ (es':List En) (kvs:List (Key × V)),FoldAt a.c_Fold H5 g m es' gx gl gk∧psOf es'=MF.kept m (MF.need m (psOf es) ts) (psOf es) (n - (m+1))∧H5 d=some (.dK kvs)∧Mvd m (MF.need m (psOf es) ts) (n - (m+1)) kvs∧∃ v5 v6,σ=[some (.ref f),some (.ref p),some (.ref g),some (.ref d),v5,v6]) ⟨s07,a7,[],kvs0,F4.same s47,by rw [Nat.zero_sub];rfl,s47 _ _ d4,by rw [Nat.zero_sub];exact mv0,_,_,rfl⟩ ?_ ?_ ?_ ?_⟩
   ·rintro n σ H5 _ ⟨_,q5,_⟩
    exact .of q5
   ·rintro n σ H5 hn hqn ⟨s5,q5,es5,kvs,F5,hp5,d5,mv,v5,v6,rfl⟩
    rcases Nat.lt_or_ge n (m+1) with l | l
    ·exact ⟨s5,q5,es5,kvs,F5,by rw [show n+1 - (m+1)=n - (m+1) by omega];exact hp5,d5,by rw [show n+1 - (m+1)=n - (m+1) by omega];exact mv,_,_,rfl⟩
    ·obtain ⟨i,rfl⟩:∃ i,n=m+1+i:=⟨n - (m+1),by omega⟩
     rw [show m+1+i - (m+1)=i by omega] at hp5 mv
     rw [show m+1+i+1 - (m+1)=i+1 by omega]
     refine ⟨s5,q5,es5,kvs,F5,?_,d5,mv.skip hqn,_,_,rfl⟩
     unfold MF.kept
     rw [hqn]
     exact hp5
   ·rintro n σ H5 M hn hqn ⟨s5,q5,es5,kvs,F5,hp5,d5,mv,v5,v6,rfl⟩ hM
    have f5:=hf.same s5
    rcases Nat.lt_or_ge n (m+1) with l | l
    ·show (gName 4) (V.int (n:Int)) _ _ _
     walk_at "gs"
     refine ⟨f,dx,_,rfl,f5.ins,rfl,f,dx,pl,kl,m,_,es,rfl,f5,by omega,by omega,fun _=>?_,fun e' z _=>absurd z (by omega)⟩
     walk_at "gs"
     exact hM _ _ ⟨s5,q5,es5,kvs,F5,by rw [show n+1 - (m+1)=n - (m+1) by omega];exact hp5,d5,by rw [show n+1 - (m+1)=n - (m+1) by omega];exact mv,_,_,rfl⟩
    obtain ⟨i,rfl⟩:∃ i,n=m+1+i:=⟨n - (m+1),by omega⟩
    rw [show m+1+i - (m+1)=i by omega] at hp5 mv
    rw [show m+1+i+1 - (m+1)=i+1 by omega] at hM
    have hie:i<es.length:=by omega
    have hee:es[i]? = some es[i]:=List.getElem?_eq_getElem hie
    have hpe:(psOf es)[i]? = some (es[i]).2:=by rw [List.getElem?_map,hee];rfl
    obtain ⟨o1,o2,o3,o4⟩:=ok _ _ hpe
    have te:=f5.prs.tup _ (List.getElem_mem hie)
    have kl5:es5.length=MF.cnt m (MF.need m (psOf es) ts) i:=by have:=congrArg List.length hp5;rw [List.length_map,MF.kept_len] at this;exact this
    have kle:=MF.cnt_le (m:=m) (nd:=MF.need m (psOf es) ts) i
    generalize hE:es[i]=e at *
    show (gName 4) (V.int ((m+1+i:Nat):Int)) _ _ _
    rw [show ((m+1+i:Nat):Int)=(m:Int)+1+(i:Int) by omega]
    walk_at "gs"
    refine ⟨f,dx,_,rfl,f5.ins,rfl,f,dx,pl,kl,m,_,es,rfl,f5,by omega,by omega,fun z=>absurd z (by omega),fun e' _ he'=>?_⟩
    rw [show ((m:Int)+1+(i:Int) - (m:Int) - 1).toNat=i by omega,hee] at he'
    cases he'
    obtain ⟨c1,c2⟩:=hclo i _ hpe hqn
    obtain ⟨p1,p2,p3,p4⟩:=MF.mt_pair ok hclo hpe hqn
    obtain ⟨b1,b2⟩:=MF.both_kept ok hclo hnd hpe hqn
    walk_at "gs"
    refine ⟨g,gx,_,rfl,F5.ins,rfl,_,_,.inr (.of te),rfl,d,e.2.1,_,kvs,rfl,d5,mv.tie (by omega) (by omega) (.inr c1),?_⟩
    walk_at "gs"
    refine ⟨_,_,.inr (.of te),rfl,d,e.2.2,_,kvs,rfl,d5,mv.tie (by omega) (by omega) (.inr c2),?_⟩
    walk_at "gs"
    refine ⟨g,gx,gl,gk,m,MF.mt m (MF.need m (psOf es) ts) e.2.1,MF.mt m (MF.need m (psOf es) ts) e.2.2,es5,rfl,F5,by omega,by omega,by omega,by omega,by omega,fun H6 es6 u6 F6 q6=>?_⟩
    rw [hp5] at q6 ⊢
    rw [b2] at q6
    rw [b1]
    have d6:H6 d=some (.dK kvs):=u6 _ _ ndl ndk d5
    have nq6:=u6 _ _ hrl hrk q5
    have s6:Same H H6:=Same.un2 s5 u6 hgl0 hgk0
    walk_at "gs"
    refine ⟨d,_,rfl,DPut.k (k:=.inl ((m:Int)+1+(i:Int))) d6 (by have:=mv.len;omega),hM _ _ ⟨s6.put hd0,?_,es6,_,?_,q6,upd_same,mv.put,_,_,rfl⟩⟩
    ·rw [upd_ne hrd];exact nq6
    ·refine ⟨?_,?_,?_,fun e he=>?_⟩
     ·rw [upd_ne (ne_of F6.ins d6 (fun z=>nomatch z))];exact F6.ins
     ·rw [upd_ne (ne_of F6.prs.lst d6 (fun z=>nomatch z))];exact F6.prs.lst
     ·rw [upd_ne ndk.symm];exact F6.prs.dct
     ·rw [upd_ne (ne_of (F6.prs.tup e he) d6 (fun z=>nomatch z))];exact F6.prs.tup e he
   ·rintro σ H5 ⟨s5,q5,es5,kvs,F5,hp5,d5,mv,v5,v6,rfl⟩
    rw [show 1+m+(psOf es).length - (m+1)=(psOf es).length by omega] at hp5 mv
    exact hN _ _ ⟨s5,es5,kvs,F5,hp5,d5,mv,_,_,rfl⟩
  rintro σ H5 ⟨s5,es5,kvs,F5,hp5,d5,mv,v5,v6,rfl⟩
  walk_at "gs"
  refine ⟨⟨_,s5.seq hT⟩,compG_list (fun x=>match x with | .int t=>.int (MF.mt m (MF.need m (psOf es) ts) t) | v=>v) (s5.seq hT) rfl (by rw [List.length_map];omega) ?_ ?_⟩
  ·intro x H' Q' hx s' q'
   obtain ⟨t,htm,rfl⟩:=List.mem_map.mp hx
   have hb:=hin t htm
   walk_at "gs"
   exact ⟨d,t,_,kvs,rfl,s' _ _ d5,mv.tie (by omega) (by omega) (.inr (MF.need_ts htm hb)),q'⟩
  ·intro tq H6 n6
   have eq6:(ts.map V.int).map (fun x=>match x with | .int t=>.int (MF.mt m (MF.need m (psOf es) ts) t) | v=>v)=(MF.swT m (psOf es) ts).map V.int:=by
    unfold MF.swT
    rw [List.map_map,List.map_map]
    rfl
   rw [eq6] at n6
   walk_at "gs"
   refine ⟨by show 2≤sizeLine;decide,fun r H7 n7=>?_⟩
   have s57:=n6.same.trans n7.same
   exact q H7 r g gx gl gk tq es5 (s5.trans s57) hg0 hgl0 hgk0 (s5.nil n6.was) (F5.same s57) hp5 (n7.same _ _ n6.at_) n7.at_
theorem size_big:(1000:Nat)≤sizeLine:=by decide
abbrev Gt:=ME.Gt Str
def GtsAt (N:Addr→Prop) (K:PySem.W.Frag) (H:Hp) (ts:List V) (gs:List Gt):Prop:=ts.length=gs.length∧∀ (i:Nat) (g:Gt),gs[i]? = some g→∃ t q,ts[i]? = some (.ref t)∧N t∧N q∧SqT K H t [.str g.1,.str g.2.1,.ref q]∧SqL K H q (g.2.2.map V.str)
section
variable {N N':Addr→Prop}{K:PySem.W.Frag}{H H':Hp}{ts:List V}{gs:List Gt}
theorem GtsAt.keep (k:Keep N H H') (h:GtsAt N K H ts gs):GtsAt N K H' ts gs:=⟨h.1,fun i g e=>let ⟨t,q,a,b,c,d,f⟩:=h.2 i g e;⟨t,q,a,b,c,k.tup b d,k.seq c f⟩⟩
theorem GtsAt.same (k:Same H H') (h:GtsAt N K H ts gs):GtsAt N K H' ts gs:=h.keep k.keep
theorem GtsAt.weak (w:∀ b,N b→N' b) (h:GtsAt N K H ts gs):GtsAt N' K H ts gs:=⟨h.1,fun i g e=>let ⟨t,q,a,b,c,d,f⟩:=h.2 i g e;⟨t,q,a,w _ b,w _ c,d,f⟩⟩
theorem GtsAt.nil:GtsAt N K H [] []:=⟨rfl,fun i g e=>by simp at e⟩
theorem GtsAt.snoc (h:GtsAt N K H ts gs) {t q:Addr}{g:Gt} (nt:N t) (nq:N q) (ht:SqT K H t [.str g.1,.str g.2.1,.ref q]) (hq:SqL K H q (g.2.2.map V.str)):GtsAt N K H (ts ++ [.ref t]) (gs ++ [g]):=by
 refine ⟨by rw [List.length_append,List.length_append,h.1];rfl,fun i g' e=>?_⟩
 by_cases hi:i<gs.length
 ·rw [List.getElem?_append_left hi] at e
  obtain ⟨t',q',a,r⟩:=h.2 i g' e
  exact ⟨t',q',by rw [List.getElem?_append_left (by rw [h.1];exact hi)];exact a,r⟩
 ·have hi':i=gs.length:=by
   have:=(List.getElem?_eq_some_iff.mp e).1
   rw [List.length_append] at this
   simp at this
   omega
  subst hi'
  have e':g=g':=by simpa using e
  subst e'
  exact ⟨t,q,by rw [← h.1];simp,nt,nq,ht,hq⟩
end
def GtT (H:Hp) (ts:List V) (gs:List Gt):Prop:=ts.length=gs.length∧∀ (i:Nat) (g:Gt),gs[i]? = some g→∃ t q,ts[i]? = some (.ref t)∧H t=some (.tup [.str g.1,.str g.2.1,.ref q])∧H q=some (.tup (g.2.2.map V.str))
def NetO (a:Adr) (H:Hp) (x:Addr) (ins:List Str) (gs:List Gt) (outs:List Str):Prop:=∃ dx t1 t2 t3 ts,H x=some (.ins a.c_Net dx [("inputs",.ref t1),("gates",.ref t2),("outputs",.ref t3)])∧H t1=some (.tup (ins.map V.str))∧H t2=some (.tup ts)∧GtT H ts gs∧H t3=some (.tup (outs.map V.str))
theorem NetO.sameN {a:Adr}{H H':Hp}{x:Addr}{ins:List Str}{gs:List Gt}{outs:List Str} (s:SameN H H') (h:NetO a H x ins gs outs):NetO a H' x ins gs outs:=by
 obtain ⟨dx,t1,t2,t3,ts,h0,h1,h2,h3,h4⟩:=h
 refine ⟨dx,t1,t2,t3,ts,s _ _ h0 (fun _ z=>nomatch z),s _ _ h1 (fun _ z=>nomatch z),s _ _ h2 (fun _ z=>nomatch z),⟨h3.1,fun i g e=>?_⟩,s _ _ h4 (fun _ z=>nomatch z)⟩
 obtain ⟨t,q,e1,e2,e3⟩:=h3.2 i g e
 exact ⟨t,q,e1,s _ _ e2 (fun _ z=>nomatch z),s _ _ e3 (fun _ z=>nomatch z)⟩
def sp_Net___init__ (a:Adr) (K:PySem.W.Frag):Sp:=fun vs H Q _=>∃ (x dx pi pg po:Addr) (ins:List Str) (gs:List Gt) (outs:List Str) (ts:List V),vs=[.ref x,.ref pi,.ref pg,.ref po]∧H x=some (.ins a.c_Net dx []) ∧
 SqL K H pi (ins.map V.str)∧SqL K H pg ts∧GtsAt (fun _=>True) K H ts gs∧SqL K H po (outs.map V.str)∧ins.length≤1000∧gs.length≤1000∧outs.length≤1000 ∧
 ∀ H',(∀ b o,b≠x→H b=some o→H' b=some o)→NetO a H' x ins gs outs→Q .non H'
def fromGate (g:Gt) (q:Addr):List V:=[.str g.1,.str g.2.1,.ref q]
def rd_Net___init__ (K:PySem.W.Frag):TS:=(tSeq (sFld K (cVar 0) (tCB (cTuple K) (tCons (cVar 1) tNil)) "inputs")
  (tSeq (sFld K (cVar 0) (tCB (cTuple K) (tCons (tComp (iList K (cVar 2)) 3 [] (gTup K 3 (gCons (gName 0) (gCons (gName 1) (gCons (gName 2) gNil)))) tTrue (tTup (tCons (cVar 0) (tCons (cVar 1) (tCons (tCB (cTuple K) (tCons (cVar 2) tNil)) tNil))))) tNil)) "gates")
  (sFld K (cVar 0) (tCB (cTuple K) (tCons (cVar 3) tNil)) "outputs")))
theorem tm_Net___init__ (T:Txt K mg a) {cdv:Value}{A:Around}{outer:List Env}{s:Shared}{H:Hp}{E:XK} (hr:Room 0 (A.deeper (envOfC "Net.__init__" (defScope s_Net___init__) s.heap.objs.size a.f_Net___init__ cdv))) :
  PSs (cxOf CX0 P w K mg base N_Net___init__ "Net.__init__" (defScope s_Net___init__) a.f_Net___init__ cdv A outer s H E).nox (defBody s_Net___init__) (rd_Net___init__ K) :=
 (pss_cons (ps_fld (cv 0) (pe_callTy c_tuple (by rfl) T.no_tuple PyProof.Rows.boot_tuple (pa_cons (cv 1) pa_nil)) rfl)
   (pss_cons (ps_fld (cv 0) (pe_callTy c_tuple (by rfl) T.no_tuple PyProof.Rows.boot_tuple (pa_cons (pe_comp (N:=["name","word","parts"]) (k:=3) (sel:=[]) (CScope.of (defScope s_Net___init__).names (by decide +kernel)) (CNames.of N_Net___init__ (by decide +kernel)) rfl (pi_list (cv 2)) (fun _ _ _ _=>(pg_tup rfl (pgs_cons (pg_name (i:=0) (show List.Nodup (["name","word","parts"]:List Str) by decide +kernel) rfl (by walk_at "o")) (pgs_cons (pg_name (i:=1) (show List.Nodup (["name","word","parts"]:List Str) by decide +kernel) rfl (by walk_at "o")) (pgs_cons (pg_name (i:=2) (show List.Nodup (["name","word","parts"]:List Str) by decide +kernel) rfl (by walk_at "o")) pgs_nil))))) (fun _ _ _ _=>pts_nil) (fun _ _ _ _=>(pe_tup (pa_cons (cv 0) (pa_cons (cv 1) (pa_cons (pe_callTy c_tuple (by rfl) T.no_tuple PyProof.Rows.boot_tuple (pa_cons (cv 2) pa_nil)) pa_nil)))))) pa_nil)) rfl)
   (pss_one (ps_fld (cv 0) (pe_callTy c_tuple (by rfl) T.no_tuple PyProof.Rows.boot_tuple (pa_cons (cv 3) pa_nil)) rfl))))
theorem ok_Net___init__ (T:Txt K mg a):FnOk P w K mg base CX0 1 a.f_Net___init__ a.d_Net___init__ ["self","inputs","gates","outputs"] (sp_Net___init__ a K):=by
 refine T.fn_Net___init__.ok sc_Net___init__ (fun vs H Q E h=>?_) (fun cdv A outer s H vs Q E hr h=>⟨_,tm_Net___init__ T hr,?_⟩)
 ·obtain ⟨x,dx,pi,pg,po,ins,gs,outs,ts,rfl,_⟩:=h;rfl
 ·obtain ⟨x,dx,pi,pg,po,ins,gs,outs,ts,rfl,hx,hI,hG,hGs,hO,l1,l2,l3,q⟩:=h
  show rd_Net___init__ K _ [some (.ref x),some (.ref pi),some (.ref pg),some (.ref po)] H
  unfold rd_Net___init__
  have hbig:=size_big
  have notS:∀ {b:Addr}{o:HO}{H':Hp}{fs:List (Str × V)},H' x=some (.ins a.c_Net dx fs)→H' b=some o→(∀ fs,o≠.ins a.c_Net dx fs)→b≠x:=fun e1 e2 n e=>by subst e;rw [e1] at e2;exact n _ (Option.some.inj e2).symm
  have keepX:∀ {H':Hp}{fs:List (Str × V)}{o:HO},H' x=some (.ins a.c_Net dx fs)→∀ {p:Addr}{xs:List V},SqL K H' p xs→SqL K (upd H' x o) p xs:=fun {H' fs o} e1 {p xs} hs=>by
   rcases hs with (hs | ⟨u,hs⟩) | hs
   ·exact .inl (.inl (by rw [upd_ne (notS e1 hs (fun _ z=>nomatch z))];exact hs))
   ·exact .inl (.inr ⟨u,by rw [upd_ne (notS e1 hs (fun _ z=>nomatch z))];exact hs⟩)
   ·exact .inr hs
  have keepT:∀ {H':Hp}{fs:List (Str × V)}{o:HO},H' x=some (.ins a.c_Net dx fs)→∀ {p:Addr}{xs:List V},SqT K H' p xs→SqT K (upd H' x o) p xs:=fun {H' fs o} e1 {p xs} hs=>by
   rcases hs with (hs | ⟨u,hs⟩) | hs
   ·exact .inl (.inl (by rw [upd_ne (notS e1 hs (fun _ z=>nomatch z))];exact hs))
   ·exact .inl (.inr ⟨u,by rw [upd_ne (notS e1 hs (fun _ z=>nomatch z))];exact hs⟩)
   ·exact .inr hs
  walk_at "gs"
  refine ⟨_,.inl ⟨hI,fun t1 H1 n1=>?_⟩⟩
  have hx1:=n1.same _ _ hx
  walk_at "gs"
  refine ⟨x,a.c_Net,dx,[],rfl,hx1,T.cl_Net,T.na_Net_inputs,by decide,?_⟩
  have hx2:upd H1 x (.ins a.c_Net dx (putF "inputs" (.ref t1) [])) x=some _:=upd_same
  have at2:upd H1 x (.ins a.c_Net dx (putF "inputs" (.ref t1) [])) t1=some (.tup (ins.map V.str)):=by rw [upd_ne (notS hx1 n1.at_ (fun _ z=>nomatch z))];exact n1.at_
  have hG2:SqL K (upd H1 x (.ins a.c_Net dx (putF "inputs" (.ref t1) []))) pg ts:=keepX hx1 (n1.same.seq hG)
  have hO2:SqL K (upd H1 x (.ins a.c_Net dx (putF "inputs" (.ref t1) []))) po (outs.map V.str):=keepX hx1 (n1.same.seq hO)
  have hGs2:GtsAt (fun _=>True) K (upd H1 x (.ins a.c_Net dx (putF "inputs" (.ref t1) []))) ts gs:=⟨hGs.1,fun i g e=>by
   obtain ⟨t,qq,e1,_,_,e2,e3⟩:=hGs.2 i g e
   exact ⟨t,qq,e1,True.intro,True.intro,keepT hx1 (n1.same.tup e2),keepX hx1 (n1.same.seq e3)⟩⟩
  have out2:∀ b o,b≠x→H b=some o→upd H1 x (.ins a.c_Net dx (putF "inputs" (.ref t1) [])) b=some o:=fun b o nb e=>by rw [upd_ne nb];exact n1.same _ _ e
  generalize upd H1 x (.ins a.c_Net dx (putF "inputs" (.ref t1) []))=H2 at hx2 at2 hG2 hO2 hGs2 out2
  walk_at "gs"
  refine ⟨⟨_,hG2⟩,fun p hp=>comp_gen (n:=ts.length) (item:=fun i=>ts.getD i .non) (fun σ=>σ.length=3) (fun i H3=>∃ us,H3 p=some (.lst us)∧us.length=i∧Same H2 H3∧∀ j g,j<i→gs[j]? = some g→∃ t q,us[j]? = some (.ref t)∧H3 t=some (.tup (fromGate g q))∧H3 q=some (.tup (g.2.2.map V.str))) rfl ⟨[],upd_same,rfl,same_upd hp,fun j g hj=>absurd hj (by omega)⟩ (src_list ?_) ?_ ?_ ?_⟩
  ·rintro i H3 hi ⟨us,h1,h2,s3,h4⟩
   exact s3.seq hG2
  ·rintro H3 ⟨us,h1,h2,s3,h4⟩
   exact ⟨ts,s3.seq hG2,Nat.le_refl _⟩
  ·rintro i σ2 H3 R hi hσ ⟨us,h1,h2,s3,h4⟩ hR
   have hi':i<gs.length:=by rw [← hGs2.1];exact hi
   obtain ⟨t,qq,e1,_,_,e2,e3⟩:=hGs2.2 i gs[i] (by simp [hi'])
   have et:ts.getD i .non=.ref t:=by simp [List.getD,e1]
   obtain ⟨w1,w2,w3,rfl⟩:∃ w1 w2 w3,σ2=[w1,w2,w3]:=by
    match σ2,hσ with
    | [w1,w2,w3],_=>exact ⟨w1,w2,w3,rfl⟩
   rw [et]
   walk_at "gs"
   refine ⟨t,_,rfl,s3.tup e2,rfl,_,_,rfl,_,_,rfl,_,_,rfl,rfl,?_⟩
   unfold tTrue
   walk_at "gs"
   refine ⟨_,.inl ⟨s3.seq e3,fun q4 H4 n4=>?_⟩⟩
   walk_at "gs"
   refine ⟨by show 3≤sizeLine;decide,fun t5 H5 n5=>?_⟩
   have hp5:=n5.same _ _ (n4.same _ _ h1)
   have npt:p≠t5:=fun e=>by have:=n5.was;rw [← e,n4.same _ _ h1] at this;cases this
   have npq:p≠q4:=fun e=>by have:=n4.was;rw [← e,h1] at this;cases this
   refine ⟨us,hp5,Nat.lt_of_lt_of_le (by omega) hbig,hR _ _ rfl ⟨us ++ [.ref t5],upd_same,by rw [List.length_append,h2];rfl,((s3.trans n4.same).trans n5.same).put hp,fun j g hj hg=>?_⟩⟩
   by_cases hji:j<i
   ·obtain ⟨t',q',f1,f2,f3⟩:=h4 j g hji hg
    have np:∀ {b:Addr}{ys:List V},H3 b=some (.tup ys)→b≠p:=fun e z=>by rw [z,h1] at e;cases e
    refine ⟨t',q',by rw [List.getElem?_append_left (by omega)];exact f1,?_,?_⟩
    ·rw [upd_ne (np f2)];exact n5.same _ _ (n4.same _ _ f2)
    ·rw [upd_ne (np f3)];exact n5.same _ _ (n4.same _ _ f3)
   ·have hj':j=i:=by omega
    subst hj'
    have eg:g=gs[j]:=by simpa [hi'] using hg.symm
    subst eg
    refine ⟨t5,q4,by rw [← h2];simp,?_,?_⟩
    ·rw [upd_ne (Ne.symm npt)];exact n5.at_
    ·rw [upd_ne (Ne.symm npq)];exact n5.same _ _ n4.at_
  ·rintro H3 ⟨us,h1,h2,s3,h4⟩
   walk_at "gs"
   refine ⟨_,.inl ⟨.of h1,fun t2 H4 n4=>?_⟩⟩
   walk_at "gs"
   have s4:=s3.trans n4.same
   refine ⟨x,a.c_Net,dx,_,rfl,s4 _ _ hx2,T.cl_Net,T.na_Net_gates,by have:=length_putF "inputs" (.ref t1) [];simp only [List.length_nil] at this;omega,?_⟩
   walk_at "gs"
   refine ⟨_,.inl ⟨keepX (s4 _ _ hx2) (s4.seq hO2),fun t3 H5 n5=>?_⟩⟩
   walk_at "gs"
   refine ⟨x,a.c_Net,dx,_,rfl,n5.same _ _ upd_same,T.cl_Net,T.na_Net_outputs,by have h7:=length_putF "inputs" (.ref t1) [];have h8:=length_putF "gates" (.ref t2) (putF "inputs" (.ref t1) []);simp only [List.length_nil] at h7;omega,?_⟩
   have ex:∀ b o,b≠x→H4 b=some o→upd H5 x (.ins a.c_Net dx (putF "outputs" (.ref t3) (putF "gates" (.ref t2) (putF "inputs" (.ref t1) [])))) b=some o:=fun b o nb e=>by
    rw [upd_ne nb]
    exact n5.same _ _ (by rw [upd_ne nb];exact e)
   have hx4:=s4 _ _ hx2
   refine q _ (fun b o nb e=>ex b o nb (s4 _ _ (out2 b o nb e))) ⟨dx,t1,t2,t3,us,?_,?_,?_,⟨?_,fun j g hg=>?_⟩,?_⟩
   ·rw [upd_same]
    have e1:putF "outputs" (.ref t3) (putF "gates" (.ref t2) (putF "inputs" (.ref t1) []))=([("inputs",V.ref t1),("gates",V.ref t2),("outputs",V.ref t3)]:List (Str × V)):=by
     have z1:¬ ("inputs" : Str) = "gates":=by decide +kernel
     have z2:¬ ("inputs" : Str) = "outputs":=by decide +kernel
     have z3:¬ ("gates" : Str) = "outputs":=by decide +kernel
     simp [putF,z1,z2,z3]
    rw [e1]
   ·exact ex _ _ (notS hx4 (s4 _ _ at2) (fun _ z=>nomatch z)) (s4 _ _ at2)
   ·exact ex _ _ (notS hx4 n4.at_ (fun _ z=>nomatch z)) n4.at_
   ·rw [h2];exact hGs2.1
   ·obtain ⟨t,qq,f1,f2,f3⟩:=h4 j g (by rw [hGs2.1];exact (List.getElem?_eq_some_iff.mp hg).1) hg
    exact ⟨t,qq,f1,ex _ _ (notS hx4 (n4.same _ _ f2) (fun _ z=>nomatch z)) (n4.same _ _ f2),ex _ _ (notS hx4 (n4.same _ _ f3) (fun _ z=>nomatch z)) (n4.same _ _ f3)⟩
   ·have nt3:t3≠x:=fun e=>by
     have:=n5.was
     rw [e,upd_same] at this;cases this
    rw [upd_ne nt3];exact n5.at_
def WdA (w:Str) (n:Nat):Prop:=((w = "and" ∨ w = "or" ∨ w = "either" ∨ w = "not")→n≠0)∧((w = "choose" ∨ w = "most")→n=3)
theorem wd_of {w:Str}{ts:List Int} (h:WdA w ts.length) (h6:ts.length≤6):WdOk w ts:=⟨fun z e=>h.1 z (by rw [e];rfl),h.2,h6⟩
abbrev FdT:=List (Str × Int) × List MF.Pr
def fdR (m:Int) (st:FdT) (g:Gt):MF.RS:=gtR m g.2.1 (g.2.2.map fun p=>(ME.vS st.1 p).getD 0) st.2
def fdS (m:Int) (st:FdT) (g:Gt):FdT:=(ME.pS st.1 g.1 (fdR m st g).1,(fdR m st g).2)
def tiesI (n:Nat):List Int:=(List.range n).map fun k=>2 * ((k+1:Nat):Int)
def fdI (ps:List (Str × Int)):List (Str × Int):=ps.foldl (fun e p=>ME.pS e p.1 p.2) []
def fd0 (ins:List Str):List (Str × Int):=fdI (ins.zip (tiesI ins.length))
def fdC (m:Int) (ins:List Str) (gs:List Gt):FdT:=gs.foldl (fdS m) (fd0 ins,[])
structure FdOk (m:Int) (n:Nat) (known:List Str) (st:FdT):Prop where
 ok:MF.Ok m st.2
 nd:st.2.Nodup
 len:st.2.length≤15 * n
 inn:∀ k v,ME.vS st.1 k=some v→MF.InT m st.2 v
 kn:ME.Kn st.1 known
theorem FdOk.args {m:Int}{n:Nat}{known:List Str}{st:FdT} (h:FdOk m n known st) {ps:List Str} (hp:∀ p∈ps,p∈known):∀ t∈ps.map (fun p=>(ME.vS st.1 p).getD 0),MF.InT m st.2 t:=by
 intro t ht
 obtain ⟨p,hm,rfl⟩:=List.mem_map.mp ht
 obtain ⟨v,hv⟩:=h.kn p (hp p hm)
 rw [hv]
 exact h.inn p v hv
theorem FdOk.step {m:Int} (hm:0≤m) {n:Nat}{known:List Str}{st:FdT} (h:FdOk m n known st) {g:Gt} (hp:∀ p∈g.2.2,p∈known) (hw:WdA g.2.1 g.2.2.length) (h6:g.2.2.length≤6):FdOk m (n+1) (known ++ [g.1]) (fdS m st g):=by
 have hst:MF.St m st.2 15 (fdR m st g):=gtR_st hm (wd_of (by rw [List.length_map];exact hw) (by rw [List.length_map];exact h6)) (h.args hp)
 refine ⟨hst.ok h.ok,hst.nd h.nd,?_,fun k v hv=>?_,h.kn.put _ _⟩
 ·have h1:=hst.hi
  have h2:=h.len
  show (fdR m st g).2.length≤_
  omega
 ·change ME.vS (ME.pS st.1 g.1 (fdR m st g).1) k=some v at hv
  rw [ME.vS_pS] at hv
  split at hv
  ·cases hv
   exact hst.inn
  ·exact (h.inn k v hv).mono hst.lo
theorem WG_take {A:Str→Nat→Prop}:∀ {gs:List Gt}{known:List Str},ME.WG A known gs→∀ i,ME.WG A known (gs.take i)
 | [],known,h,i=>by rw [List.take_nil];exact h
 | g :: gs,known,h,0=>by rw [List.take_zero];trivial
 | g :: gs,known,h,i+1=>by rw [List.take_succ_cons];exact ⟨h.1,h.2.1,h.2.2.1,WG_take h.2.2.2 i⟩
theorem fd_all {m:Int} (hm:0≤m):∀ (gs:List Gt) (n:Nat) (known:List Str) (st:FdT),ME.WG WdA known gs→FdOk m n known st→FdOk m (n+gs.length) (known ++ gs.map (·.1)) (gs.foldl (fdS m) st)
 | [],n,known,st,_,h=>by simpa using h
 | g :: gs,n,known,st,hW,h=>by
  obtain ⟨p1,p2,p3⟩:=ME.WG.at hW (i:=0) (g:=g) rfl
  have p1':∀ p∈g.2.2,p∈known:=fun p hp=>by have:=p1 p hp;simpa using this
  have:=fd_all hm gs (n+1) (known ++ [g.1]) (fdS m st g) hW.2.2.2 (h.step hm p1' p2 p3)
  rw [List.length_cons,List.foldl_cons,List.map_cons,show n+(gs.length+1)=n+1+gs.length by omega]
  simpa using this
theorem fd0_ok (ins:List Str):FdOk ins.length 0 ins (fd0 ins,[]):=by
 have hl:(ins.zip (tiesI ins.length)).map (·.1)=ins:=by
  rw [List.map_fst_zip]
  unfold tiesI
  rw [List.length_map,List.length_range]
  exact Nat.le_refl _
 have key:∀ (ps e:List (Str × Int)),(∀ k v,ME.vS e k=some v→MF.InT ins.length [] v)→(∀ p∈ps,MF.InT ins.length [] p.2)→∀ k v,ME.vS (ps.foldl (fun e p=>ME.pS e p.1 p.2) e) k=some v→MF.InT ins.length [] v:=by
  intro ps
  induction ps with
  | nil=>intro e he _;exact he
  | cons p r ih =>
   intro e he hp
   refine ih _ (fun k v hv=>?_) fun q hq=>hp q (List.mem_cons_of_mem _ hq)
   rw [ME.vS_pS] at hv
   split at hv
   ·cases hv;exact hp p (List.mem_cons_self ..)
   ·exact he k v hv
 refine ⟨fun i p hp=>by simp at hp,List.nodup_nil,Nat.zero_le _,?_,?_⟩
 ·refine key _ [] (fun k v hv=>by simp [ME.vS] at hv) fun p hp=>?_
  have:p.2∈tiesI ins.length:=(List.of_mem_zip (show (p.1,p.2)∈ins.zip (tiesI ins.length) from hp)).2
  unfold tiesI at this
  obtain ⟨k,hk,e⟩:=List.mem_map.mp this
  rw [List.mem_range] at hk
  rw [← e]
  exact ⟨by omega,by simp only [List.length_nil];omega⟩
 ·have:=ME.fold_kn (ins.zip (tiesI ins.length)) ([]:List (Str × Int)) [] (fun n hn=>by simp at hn)
  rw [hl,List.nil_append] at this
  exact this
theorem fdI_len (ps:List (Str × Int)):(fdI ps).length≤ps.length:=by
 have:∀ (ps e:List (Str × Int)),(ps.foldl (fun e p=>ME.pS e p.1 p.2) e).length≤e.length+ps.length:=by
  intro ps
  induction ps with
  | nil=>intro e;exact Nat.le_refl _
  | cons p r ih =>
   intro e
   have h1:=ih (ME.pS e p.1 p.2)
   have h2:=ME.pS_len e p.1 p.2
   rw [List.foldl_cons,List.length_cons]
   omega
 have:=this ps []
 simpa [fdI] using this
theorem fdC_len (m:Int):∀ (gs:List Gt) (st:FdT),(gs.foldl (fdS m) st).1.length≤st.1.length+gs.length
 | [],st=>Nat.le_refl _
 | g :: gs,st=>by
  have h1:=fdC_len m gs (fdS m st g)
  have h2:(fdS m st g).1.length≤st.1.length+1:=ME.pS_len _ _ _
  rw [List.foldl_cons,List.length_cons]
  omega
def lookT (e:List (Str × Int)):V→V | .str n=>.int ((ME.vS e n).getD 0) | _=>.non
theorem mE_len (e:List (Str × Int)):(mE V.int e).length=e.length:=List.length_map ..
def sp_folded (a:Adr) (K:PySem.W.Frag):Sp:=fun vs H Q _=>∃ (x:Addr) (ins:List Str) (gs:List Gt) (outs:List Str),vs=[.ref x]∧NetO a H x ins gs outs∧ME.WG WdA ins gs∧(∀ o∈outs,o∈ins ++ gs.map (·.1))∧ins.length≤10∧gs.length≤100∧outs.length≤100 ∧
 ∀ H' r g gx gl gk q es',Same H H'→H g=none→H gl=none→H gk=none→H q=none→FoldAt a.c_Fold H' g ins.length es' gx gl gk→psOf es'=MF.swP ins.length (fdC ins.length ins gs).2 (ME.outsOf 0 (fdC ins.length ins gs).1 outs) →
  H' q=some (.lst ((MF.swT ins.length (fdC ins.length ins gs).2 (ME.outsOf 0 (fdC ins.length ins gs).1 outs)).map V.int))→H' r=some (.tup [.ref g,.ref q])→Q (.ref r) H'
def rd_folded (a:Adr) (K:PySem.W.Frag):TS:=(tSeq (tAsg (tMake a.c_Fold (sp_Fold___init__ a K) [] E0 (tCons (tCB (cLen K) (tCons (tFld K (cVar 0) "inputs") tNil)) tNil)) (gName 1))
  (tSeq (tAsg tDNewK (gName 2))
  (tSeq (tFor (iEnum K (tCons (tFld K (cVar 0) "inputs") tNil) (tC (.int 1))) (gTup K 2 (gCons (gName 3) (gCons (gName 4) gNil))) (sDPut (cVar 2) (cVar 4) (tOp cMul (tC (.int 2)) (cVar 3))))
  (tSeq (tFor (iTup K (tFld K (cVar 0) "gates")) (gTup K 3 (gCons (gName 4) (gCons (gName 5) (gCons (gName 6) gNil)))) (sDPut (cVar 2) (cVar 4) (tCall (sp_gate_tie a K) [] E0 (tCons (cVar 1) (tCons (cVar 5) (tCons (tComp (iTup K (cVar 6)) 1 [2] (gName 0) tTrue (tDGet (cVar 1) (cVar 0))) tNil))))))
  (tRet (tCall (sp_swept a K) [] E0 (tCons (cVar 1) (tCons (tComp (iTup K (tFld K (cVar 0) "outputs")) 1 [2] (gName 0) tTrue (tDGet (cVar 1) (cVar 0))) tNil))))))))
theorem tm_folded (T:Txt K mg a) {cdv:Value}{A:Around}{outer:List Env}{s:Shared}{H:Hp}{E:XK} (hr:Room 8 (A.deeper (envOfC "folded" (defScope s_folded) s.heap.objs.size a.f_folded cdv))) :
  PSs (cxOf CX0 P w K mg base N_folded "folded" (defScope s_folded) a.f_folded cdv A outer s H E).nox (defBody s_folded) (rd_folded a K) :=
 (pss_cons (ps_set (i:=1) sc_folded.nd rfl (by walk_at "o") (pe_make T.mk_Fold (ok_Fold___init__ T) (hr.mono (by decide)) rfl T.mg_Fold T.bi_Fold___init__ .nil pass0 (pa_cons (pe_callB c_len (by rfl) T.no_len PySem.boot_len (pa_cons (pe_fld (cv 0) rfl) pa_nil)) pa_nil)))
   (pss_cons (ps_set (i:=2) sc_folded.nd rfl (by walk_at "o") pe_dnewK)
   (pss_cons (ps_for PassesOwn.never rfl (pi_enum rfl T.no_enumerate (pa_cons (pe_fld (cv 0) rfl) pa_nil) pe_int) (pg_tup rfl (pgs_cons (pg_name (i:=3) sc_folded.nd rfl (by walk_at "o")) (pgs_cons (pg_name (i:=4) sc_folded.nd rfl (by walk_at "o")) pgs_nil))) (pss_one (ps_dput (hu_of hr) (cv 2) (cv 4) (pe_op o_mul pe_int (cv 3)) rfl)))
   (pss_cons (ps_for PassesOwn.never rfl (pi_tup (pe_fld (cv 0) rfl)) (pg_tup rfl (pgs_cons (pg_name (i:=4) sc_folded.nd rfl (by walk_at "o")) (pgs_cons (pg_name (i:=5) sc_folded.nd rfl (by walk_at "o")) (pgs_cons (pg_name (i:=6) sc_folded.nd rfl (by walk_at "o")) pgs_nil)))) (pss_one (ps_dput (hu_of hr) (cv 2) (cv 4) (pe_call (ok_gate_tie T) (hr.mono (by decide)) rfl T.mg_gate_tie T.fn_gate_tie.kp T.bi_gate_tie .nil pass0 (pa_cons (cv 1) (pa_cons (cv 5) (pa_cons (pe_comp (N:=["part","known"]) (k:=1) (sel:=[2]) (CScope.of (defScope s_folded).names (by decide +kernel)) (CNames.of N_folded (by decide +kernel)) rfl (pi_tup (cv 6)) (fun _ _ _ _=>(pg_name (i:=0) (show List.Nodup (["part","known"]:List Str) by decide +kernel) rfl (by walk_at "o"))) (fun _ _ _ _=>pts_nil) (fun _ _ _ _=>(pe_dget (hu_of hr) (cv 1) (cv 0) (fun _ _=>rfl)))) pa_nil)))) rfl)))
   (pss_one (ps_ret (pe_call (ok_swept T) (hr.mono (by decide)) rfl T.mg_swept T.fn_swept.kp T.bi_swept .nil pass0 (pa_cons (cv 1) (pa_cons (pe_comp (N:=["name","known"]) (k:=1) (sel:=[2]) (CScope.of (defScope s_folded).names (by decide +kernel)) (CNames.of N_folded (by decide +kernel)) rfl (pi_tup (pe_fld (cv 0) rfl)) (fun _ _ _ _=>(pg_name (i:=0) (show List.Nodup (["name","known"]:List Str) by decide +kernel) rfl (by walk_at "o"))) (fun _ _ _ _=>pts_nil) (fun _ _ _ _=>(pe_dget (hu_of hr) (cv 1) (cv 0) (fun _ _=>rfl)))) pa_nil)))))))))
theorem ok_folded (T:Txt K mg a):FnOk P w K mg base CX0 9 a.f_folded a.d_folded ["net"] (sp_folded a K):=by
 refine T.fn_folded.ok sc_folded (fun vs H Q E h=>?_) (fun cdv A outer s H vs Q E hr h=>⟨_,tm_folded T hr,?_⟩)
 ·obtain ⟨x,ins,gs,outs,rfl,_⟩:=h;rfl
 ·obtain ⟨x,ins,gs,outs,rfl,hN,hW,hwo,l1,l2,l3,q⟩:=h
  show rd_folded a K _ [some (.ref x),none,none,none,none,none,none] H
  unfold rd_folded
  obtain ⟨dx,t1,t2,t3,ts,hx,h1,h2,h3,h4⟩:=hN
  have big:(20000:Nat)≤sizeLine:=by decide
  obtain ⟨m,hm⟩:∃ m:Nat,m=ins.length:=⟨_,rfl⟩
  rw [← hm] at q
  walk_at "gs"
  refine ⟨x,a.c_Net,dx,_,_,rfl,hx,T.cl_Net,T.na_Net_inputs,rfl,?_⟩
  walk_at "gs"
  refine .inl ⟨_,.inr (.of h1),?_⟩
  rw [List.length_map,← hm]
  walk_at "gs"
  refine mk_Fold fun g gx gl gk H1 s1 hg hgl hgk G1=>?_
  walk_at "gs"
  intro d H2 n2
  have s2:=s1.trans n2.same
  have G2:=G1.same n2.same
  have hd0:H d=none:=s1.nil n2.was
  walk_at "gs"
  refine ⟨x,a.c_Net,dx,_,_,rfl,s2 _ _ hx,T.cl_Net,T.na_Net_inputs,rfl,?_⟩
  walk_at "gs"
  have lz:(ins.zip (tiesI ins.length)).length=ins.length:=by rw [List.length_zip];unfold tiesI;rw [List.length_map,List.length_range,Nat.min_self]
  refine ⟨t1,rfl,trivial,⟨_,.of (s2 _ _ h1)⟩,for_eG (xs:=ins.map V.str) (fun i σ H3=>Same H H3∧FoldAt a.c_Fold H3 g m [] gx gl gk∧H3 d=some (.dK (mE V.int (fdI ((ins.zip (tiesI ins.length)).take i))))∧∃ v3 v4,σ=[some (.ref x),some (.ref g),some (.ref d),v3,v4,none,none]) ⟨s2,G2,n2.at_,_,_,rfl⟩ ?_ ?_ ?_⟩
  ·rintro i σ H3 _ ⟨s3,_⟩
   exact .of (s3 _ _ h1)
  ·rintro i y tt σ H3 hy htt ⟨s3,G3,d3,v3,v4,rfl⟩
   have hi:i<ins.length:=by rw [← List.length_map (f:=V.str)];exact (List.getElem?_eq_some_iff.mp hy).1
   rw [List.getElem?_map,List.getElem?_eq_getElem hi] at hy
   cases hy
   have hz:(ins.zip (tiesI ins.length))[i]? = some (ins[i],2 * ((i+1:Nat):Int)):=by
    rw [List.getElem?_zip_eq_some]
    exact ⟨List.getElem?_eq_getElem hi,by unfold tiesI;simp [hi]⟩
   have s4:Same H3 (upd H3 tt (.tup [.int ((i+1:Nat):Int),.str ins[i]])):=same_upd htt
   walk_at "gs"
   refine ⟨tt,_,rfl,.of upd_same,rfl,_,_,rfl,_,_,rfl,rfl,?_⟩
   walk_at "gs"
   have d4:=s4 _ _ d3
   refine ⟨d,_,rfl,DPut.k (k:=.inr ins[i]) d4 (by rw [mE_len];have:=fdI_len ((ins.zip (tiesI ins.length)).take i);rw [List.length_take] at this;omega),(s3.trans s4).put hd0,?_,?_,_,_,rfl⟩
   ·have G4:=G3.same s4
    exact ⟨by rw [upd_ne (ne_of G4.ins d4 (fun z=>nomatch z))];exact G4.ins,by rw [upd_ne (ne_of G4.prs.lst d4 (fun z=>nomatch z))];exact G4.prs.lst,by rw [upd_ne (ne_of G4.prs.dct d4 (fun z=>nomatch z))];exact G4.prs.dct,fun e he=>nomatch he⟩
   ·rw [upd_same,putK_mE,List.take_add_one,hz]
    unfold fdI
    rw [List.foldl_append]
    rfl
  rintro σ H3 ⟨s3,G3,d3,v3,v4,rfl⟩
  have hst0:=fd0_ok ins
  have e0:fdI ((ins.zip (tiesI ins.length)).take (ins.map V.str).length)=fd0 ins:=by
   rw [List.length_map,List.take_of_length_le (by rw [lz];exact Nat.le_refl _)]
   rfl
  rw [e0] at d3
  walk_at "gs"
  refine ⟨x,a.c_Net,dx,_,_,rfl,s3 _ _ hx,T.cl_Net,T.na_Net_gates,rfl,?_⟩
  walk_at "gs"
  refine ⟨⟨_,.of (s3 _ _ h2)⟩,for_tupG (xs:=ts) (fun i σ H4=>Same H H4∧∃ es4,FoldAt a.c_Fold H4 g m es4 gx gl gk∧psOf es4=(fdC m ins (gs.take i)).2∧H4 d=some (.dK (mE V.int (fdC m ins (gs.take i)).1))∧∃ v3 v4 v5 v6,σ=[some (.ref x),some (.ref g),some (.ref d),v3,v4,v5,v6]) ⟨s3,[],G3,rfl,d3,_,_,_,_,rfl⟩ ?_ ?_ ?_⟩
  ·rintro i σ H4 _ ⟨s4,_⟩
   exact .of (s4 _ _ h2)
  ·rintro i v σ H4 hv ⟨s4,es4,G4,p4,d4,v3,v4,v5,v6,rfl⟩
   have hi:i<gs.length:=by rw [← h3.1];exact (List.getElem?_eq_some_iff.mp hv).1
   have hgi:gs[i]? = some gs[i]:=by simp [hi]
   obtain ⟨t,qq,f1,f2,f3⟩:=h3.2 i gs[i] hgi
   rw [f1] at hv
   cases hv
   obtain ⟨p1,p2,p3⟩:=ME.WG.at hW hgi
   generalize gs[i]=gt at hgi f2 f3 p1 p2 p3
   have fok:FdOk m (0+(gs.take i).length) (ins ++ (gs.take i).map (·.1)) (fdC m ins (gs.take i)):=by
    rw [hm]
    exact fd_all (by omega) (gs.take i) 0 ins _ (WG_take hW i) hst0
   have fle:=fok.len
   rw [List.length_take] at fle
   have elen:(fdC m ins (gs.take i)).1.length≤10+100:=by
    have h5:=fdC_len m (gs.take i) (fd0 ins,[])
    have h6:=fdI_len (ins.zip (tiesI ins.length))
    rw [lz] at h6
    rw [List.length_take] at h5
    have:(fd0 ins).length≤10:=Nat.le_trans h6 l1
    show (List.foldl (fdS m) (fd0 ins,[]) (gs.take i)).1.length≤_
    simp only at h5
    omega
   have es9:fdC m ins (gs.take (i+1))=fdS m (fdC m ins (gs.take i)) gt:=by
    unfold fdC
    rw [List.take_add_one,hgi,List.foldl_append]
    rfl
   rw [es9]
   have hkn:=fok.kn
   have harg:=fok.args p1
   generalize fdC m ins (gs.take i)=st at *
   walk_at "gs"
   refine ⟨t,_,rfl,.of (s4 _ _ f2),rfl,_,_,rfl,_,_,rfl,_,_,rfl,rfl,?_⟩
   walk_at "gs"
   refine ⟨⟨_,.of (s4 _ _ f3)⟩,compG_tup (lookT st.1) (.of (s4 _ _ f3)) rfl (by rw [List.length_map];omega) ?_ ?_⟩
   ·intro y H' Q' hy s' q'
    obtain ⟨n,hn,rfl⟩:=List.mem_map.mp hy
    walk_at "gs"
    obtain ⟨c,hc⟩:=hkn n (p1 n hn)
    refine ⟨d,.int c,rfl,?_,?_⟩
    ·have:=DGet.k (k:=.inr n) (s' _ _ d4)
     rw [valV_mE,hc] at this
     exact this
    ·have:lookT st.1 (.str n)=.int c:=by simp [lookT,hc]
     rw [this] at q'
     exact q'
   ·intro r H5 n5
    walk_at "gs"
    have el:(gt.2.2.map V.str).map (lookT st.1)=(gt.2.2.map fun p=>(ME.vS st.1 p).getD 0).map V.int:=by rw [List.map_map,List.map_map];rfl
    rw [el] at n5
    have hl4:es4.length=st.2.length:=by rw [← p4,List.length_map]
    refine ⟨g,gx,gl,gk,r,gt.2.1,m,_,es4,rfl,G4.same n5.same,n5.sq,wd_of (by rw [List.length_map];exact p2) (by rw [List.length_map];exact p3),by omega,by rw [p4];exact harg,by omega,fun H6 es6 u6 G6 p6=>?_⟩
    rw [p4] at p6 ⊢
    have d5:=n5.same _ _ d4
    have G5:=G4.same n5.same
    have d6:=u6 _ _ (ne_of d5 G5.prs.lst (fun z=>nomatch z)) (ne_of d5 G5.prs.dct (fun z=>nomatch z)) d5
    walk_at "gs"
    refine ⟨d,_,rfl,DPut.k (k:=.inr gt.1) d6 (by rw [mE_len];omega),(Same.un2 (s4.trans n5.same) u6 hgl hgk).put hd0,es6,?_,p6,?_,_,_,_,_,rfl⟩
    ·exact ⟨by rw [upd_ne (ne_of G6.ins d6 (fun z=>nomatch z))];exact G6.ins,by rw [upd_ne (ne_of G6.prs.lst d6 (fun z=>nomatch z))];exact G6.prs.lst,by rw [upd_ne (ne_of G6.prs.dct d6 (fun z=>nomatch z))];exact G6.prs.dct,fun e he=>by rw [upd_ne (ne_of (G6.prs.tup e he) d6 (fun z=>nomatch z))];exact G6.prs.tup e he⟩
    ·rw [upd_same,putK_mE]
     rfl
  ·rintro σ H4 ⟨s4,es4,G4,p4,d4,v3,v4,v5,v6,rfl⟩
   have egs:gs.take ts.length=gs:=by rw [h3.1,List.take_length]
   rw [egs] at p4 d4
   have fok:FdOk m (0+gs.length) (ins ++ gs.map (·.1)) (fdC m ins gs):=by
    rw [hm]
    exact fd_all (by omega) gs 0 ins _ hW hst0
   have fle:=fok.len
   have hkn:=fok.kn
   have hok:=fok.ok
   have hnd:=fok.nd
   have harg:=fok.args hwo
   generalize fdC m ins gs=st at *
   have hl4:es4.length=st.2.length:=by rw [← p4,List.length_map]
   walk_at "gs"
   refine ⟨x,a.c_Net,dx,_,_,rfl,s4 _ _ hx,T.cl_Net,T.na_Net_outputs,rfl,?_⟩
   walk_at "gs"
   refine ⟨⟨_,.of (s4 _ _ h4)⟩,compG_tup (lookT st.1) (.of (s4 _ _ h4)) rfl (by rw [List.length_map];omega) ?_ ?_⟩
   ·intro y H' Q' hy s' q'
    obtain ⟨n,hn,rfl⟩:=List.mem_map.mp hy
    walk_at "gs"
    obtain ⟨c,hc⟩:=hkn n (hwo n hn)
    refine ⟨d,.int c,rfl,?_,?_⟩
    ·have:=DGet.k (k:=.inr n) (s' _ _ d4)
     rw [valV_mE,hc] at this
     exact this
    ·have:lookT st.1 (.str n)=.int c:=by simp [lookT,hc]
     rw [this] at q'
     exact q'
   ·intro r H5 n5
    walk_at "gs"
    have el:(outs.map V.str).map (lookT st.1)=(ME.outsOf 0 st.1 outs).map V.int:=by unfold ME.outsOf;rw [List.map_map,List.map_map];rfl
    rw [el] at n5
    have tis:MF.Tis m (psOf es4) (ME.outsOf 0 st.1 outs):=by rw [p4];exact harg
    refine ⟨g,gx,gl,gk,r,m,_,es4,rfl,G4.same n5.same,n5.sq,by rw [p4];exact hok,by rw [p4];exact hnd,tis,by omega,by omega,by unfold ME.outsOf;rw [List.length_map];omega,fun H6 r6 g6 x6 gl6 gk6 q6 es6 s6 a1 a2 a3 a4 G6 p6 q6' t6=>?_⟩
    rw [p4] at p6 q6'
    have s5:=s4.trans n5.same
    exact q H6 r6 g6 x6 gl6 gk6 q6 es6 (s5.trans s6) (s5.nil a1) (s5.nil a2) (s5.nil a3) (s5.nil a4) G6 p6 q6' t6
def nz (n:Nat):V:=.int (n:Int)
theorem at_nz {cs:List Nat}{i:Int} (h0:0≤i) (h1:i<cs.length):atI (cs.map nz) i=some (.int (cs.getD i.toNat 0:Nat)):=by
 rw [atI_ok .non h0 (by rw [List.length_map];exact h1)]
 have:i.toNat<cs.length:=by omega
 simp [List.getD,this,nz]
def fullN (m:Nat):Nat:=2 ^ 2 ^ m - 1
def sp_full_column (_:PySem.W.Frag):Sp:=fun vs H Q _=>∃ m:Nat,vs=[.int m]∧m≤10∧Q (.int (fullN m:Nat)) H
def rd_full_column (K:PySem.W.Frag):TS:=(tRet (tOp (cI2 fun i j=>.int (i - j)) (tOp (cI2c CPow fun i j=>.int (i * 2 ^ j.toNat)) (tC (.int 1)) (tOp (cI2c CPow fun i j=>.int (i * 2 ^ j.toNat)) (tC (.int 1)) (cVar 0))) (tC (.int 1))))
theorem tm_full_column (T:Txt K mg a) {cdv:Value}{A:Around}{outer:List Env}{s:Shared}{H:Hp}{E:XK} (hr:Room 0 (A.deeper (envOfC "full_column" (defScope s_full_column) s.heap.objs.size a.f_full_column cdv))) :
  PSs (cxOf CX0 P w K mg base N_full_column "full_column" (defScope s_full_column) a.f_full_column cdv A outer s H E).nox (defBody s_full_column) (rd_full_column K) :=
 (pss_one (ps_ret (pe_op o_sub (pe_op o_shl pe_int (pe_op o_shl pe_int (cv 0))) pe_int)))
theorem ok_full_column (T:Txt K mg a):FnOk P w K mg base CX0 1 a.f_full_column a.d_full_column ["many"] (sp_full_column K):=by
 refine T.fn_full_column.ok sc_full_column (fun vs H Q E h=>?_) (fun cdv A outer s H vs Q E hr h=>⟨_,tm_full_column T hr,?_⟩)
 ·obtain ⟨m,rfl,_⟩:=h;rfl
 ·obtain ⟨m,rfl,m10,q⟩:=h
  show rd_full_column K _ [some (.int m)] H
  unfold rd_full_column
  have hp10:(2:Nat) ^ m≤2 ^ 10:=Nat.pow_le_pow_right (by decide) m10
  have ec:(1 * 2 ^ ((m:Int)).toNat:Int)=((2 ^ m:Nat):Int):=by simp
  have ef:(1 * 2 ^ (((2 ^ m:Nat):Int)).toNat - 1:Int)=((fullN m:Nat):Int):=by
   have:=shl_val 1 (2 ^ m)
   rw [show ((1:Nat):Int)=1 from rfl] at this
   rw [this,Nat.one_mul]
   have h1:1≤2 ^ 2 ^ m:=Nat.one_le_two_pow
   unfold fullN
   omega
  walk_at "gs"
  rw [ec]
  have cp:CPow 1 ((2 ^ m:Nat):Int):=by
   generalize 2 ^ m=N at hp10
   exact ⟨by omega,by omega,by decide⟩
  refine ⟨cp,?_⟩
  rw [ef]
  exact q
def sp_lit_tie (K:PySem.W.Frag):Sp:=fun vs H Q _=>∃ (pc:Addr) (cs:List Nat) (t:Int) (F:Nat),vs=[.ref pc,.int t,.int F]∧SqL K H pc (cs.map nz)∧0≤t∧t<2 * cs.length∧Q (.int (MF.litC F cs t:Nat)) H
def rd_lit_tie (K:PySem.W.Frag):TS:=(tRet (tIf (cTst (tOp (cEq K) (tOp (cI2c (fun _ j=>0<j) fun i j=>.int (i % j)) (cVar 1) (tC (.int 2))) (tC (.int 1)))) (tOp (cI2 fun i j=>.int (Builtin.bitXor i j)) (tOp (cIx K) (cVar 0) (tOp (cI2c CDiv fun i j=>.int (i / j)) (cVar 1) (tC (.int 2)))) (cVar 2)) (tOp (cIx K) (cVar 0) (tOp (cI2c CDiv fun i j=>.int (i / j)) (cVar 1) (tC (.int 2))))))
theorem tm_lit_tie (T:Txt K mg a) {cdv:Value}{A:Around}{outer:List Env}{s:Shared}{H:Hp}{E:XK} (hr:Room 0 (A.deeper (envOfC "lit_tie" (defScope s_lit_tie) s.heap.objs.size a.f_lit_tie cdv))) :
  PSs (cxOf CX0 P w K mg base N_lit_tie "lit_tie" (defScope s_lit_tie) a.f_lit_tie cdv A outer s H E).nox (defBody s_lit_tie) (rd_lit_tie K) :=
 (pss_one (ps_ret (pe_ifExp (t_cmp (o_eq (hr8 hr)) (pe_op o_mod (cv 1) pe_int) pe_int (nomark _)) (pe_op o_xor (pe_ix i_seq (cv 0) (pe_op o_fdiv (cv 1) pe_int) (fun _ _=>rfl)) (cv 2)) (pe_ix i_seq (cv 0) (pe_op o_fdiv (cv 1) pe_int) (fun _ _=>rfl)))))
theorem ok_lit_tie (T:Txt K mg a):FnOk P w K mg base CX0 1 a.f_lit_tie a.d_lit_tie ["lit","tie","every"] (sp_lit_tie K):=by
 refine T.fn_lit_tie.ok sc_lit_tie (fun vs H Q E h=>?_) (fun cdv A outer s H vs Q E hr h=>⟨_,tm_lit_tie T hr,?_⟩)
 ·obtain ⟨pc,cs,t,F,rfl,_⟩:=h;rfl
 ·obtain ⟨pc,cs,t,F,rfl,hC,h0,h1,q⟩:=h
  show rd_lit_tie K _ [some (.ref pc),some (.int t),some (.int F)] H
  unfold rd_lit_tie
  unfold MF.litC at q
  walk_at "gs"
  by_cases h:t % 2=1
  ·rw [if_pos h] at q ⊢
   walk_at "gs"
   refine ⟨_,_,.inl hC,at_nz (by omega) (by omega),?_⟩
   walk_at "gs"
   rw [xor_nat,Nat.xor_comm]
   exact q
  ·rw [if_neg h] at q ⊢
   walk_at "gs"
   exact ⟨_,_,.inl hC,at_nz (by omega) (by omega),q⟩
def sp_lit_pair (K:PySem.W.Frag):Sp:=fun vs H Q _=>∃ (pc tp:Addr) (cs:List Nat) (x y:Int) (F:Nat),vs=[.ref pc,.ref tp,.int F]∧SqL K H pc (cs.map nz)∧H tp=some (.tup [.int x,.int y])∧0≤x∧x<2 * cs.length∧0≤y∧y<2 * cs.length∧Q (.int ((MF.litC F cs x &&& MF.litC F cs y:Nat))) H
def rd_lit_pair (K:PySem.W.Frag):TS:=(tRet (tOp (cI2 fun i j=>.int (Builtin.bitAnd i j)) (tCall (sp_lit_tie K) [] E0 (tCons (cVar 0) (tCons (tOp (cIx K) (cVar 1) (tC (.int 0))) (tCons (cVar 2) tNil)))) (tCall (sp_lit_tie K) [] E0 (tCons (cVar 0) (tCons (tOp (cIx K) (cVar 1) (tC (.int 1))) (tCons (cVar 2) tNil))))))
theorem tm_lit_pair (T:Txt K mg a) {cdv:Value}{A:Around}{outer:List Env}{s:Shared}{H:Hp}{E:XK} (hr:Room 1 (A.deeper (envOfC "lit_pair" (defScope s_lit_pair) s.heap.objs.size a.f_lit_pair cdv))) :
  PSs (cxOf CX0 P w K mg base N_lit_pair "lit_pair" (defScope s_lit_pair) a.f_lit_pair cdv A outer s H E).nox (defBody s_lit_pair) (rd_lit_pair K) :=
 (pss_one (ps_ret (pe_op o_and (pe_call (ok_lit_tie T) (hr.mono (by decide)) rfl T.mg_lit_tie T.fn_lit_tie.kp T.bi_lit_tie .nil pass0 (pa_cons (cv 0) (pa_cons (pe_ix i_seq (cv 1) pe_int (fun _ _=>rfl)) (pa_cons (cv 2) pa_nil)))) (pe_call (ok_lit_tie T) (hr.mono (by decide)) rfl T.mg_lit_tie T.fn_lit_tie.kp T.bi_lit_tie .nil pass0 (pa_cons (cv 0) (pa_cons (pe_ix i_seq (cv 1) pe_int (fun _ _=>rfl)) (pa_cons (cv 2) pa_nil)))))))
theorem ok_lit_pair (T:Txt K mg a):FnOk P w K mg base CX0 2 a.f_lit_pair a.d_lit_pair ["lit","pair","every"] (sp_lit_pair K):=by
 refine T.fn_lit_pair.ok sc_lit_pair (fun vs H Q E h=>?_) (fun cdv A outer s H vs Q E hr h=>⟨_,tm_lit_pair T hr,?_⟩)
 ·obtain ⟨pc,tp,cs,x,y,F,rfl,_⟩:=h;rfl
 ·obtain ⟨pc,tp,cs,x,y,F,rfl,hC,ht,x0,x1,y0,y1,q⟩:=h
  show rd_lit_pair K _ [some (.ref pc),some (.ref tp),some (.int F)] H
  unfold rd_lit_pair
  walk_at "gs"
  refine ⟨_,_,.inr (.of ht),rfl,pc,_,x,F,rfl,hC,x0,x1,?_⟩
  walk_at "gs"
  refine ⟨_,_,.inr (.of ht),rfl,pc,_,y,F,rfl,hC,y0,y1,?_⟩
  walk_at "gs"
  rw [and_nat]
  exact q
def sp_lit_knots (a:Adr) (_:PySem.W.Frag):Sp:=fun vs H Q _=>∃ (f dx pl kl pin:Addr) (m:Nat) (top:Int) (F:Nat) (ins:List Nat) (es:List En),vs=[.ref f,.int top,.ref pin,.int F]∧FoldAt a.c_Fold H f m es dx pl kl∧H pin=some (.lst (ins.map nz))∧ins.length=m∧0≤top∧top≤m+es.length∧es.length≤5000∧m≤10∧MF.Ok m (psOf es) ∧
 ∀ p H',Mad H p (.lst ((MF.growC F (0 :: ins) ((psOf es).take (top - m).toNat)).map nz)) H'→Q (.ref p) H'
def rd_lit_knots (a:Adr) (K:PySem.W.Frag):TS:=(tSeq (tAsg (tOp cAdd (tLst (tCons (tC (.int 0)) tNil)) (cVar 2)) (gName 4))
  (tSeq (tFor (iRng2 (tCons (tOp cAdd (tFld K (cVar 0) "many") (tC (.int 1))) (tCons (tOp cAdd (cVar 1) (tC (.int 1))) tNil))) (gName 5) (tDrop (tBM K "list" rAppend (cVar 4) (tCons (tCall (sp_lit_pair K) [] E0 (tCons (cVar 4) (tCons (tMeth a.c_Fold "pair" (sp_Fold_pair a K) [] E0 (cVar 0) (tCons (cVar 5) tNil)) (tCons (cVar 3) tNil)))) tNil))))
  (tRet (cVar 4))))
theorem tm_lit_knots (T:Txt K mg a) {cdv:Value}{A:Around}{outer:List Env}{s:Shared}{H:Hp}{E:XK} (hr:Room 2 (A.deeper (envOfC "lit_knots" (defScope s_lit_knots) s.heap.objs.size a.f_lit_knots cdv))) :
  PSs (cxOf CX0 P w K mg base N_lit_knots "lit_knots" (defScope s_lit_knots) a.f_lit_knots cdv A outer s H E).nox (defBody s_lit_knots) (rd_lit_knots a K) :=
 (pss_cons (ps_set (i:=4) sc_lit_knots.nd rfl (by walk_at "o") (pe_op o_add (pe_lst (pa_cons pe_int pa_nil)) (cv 2)))
   (pss_cons (ps_for PassesOwn.never rfl (pi_range2 rfl T.no_range (pa_cons (pe_op o_add (pe_fld (cv 0) rfl) pe_int) (pa_cons (pe_op o_add (cv 1) pe_int) pa_nil))) (pg_name (i:=5) sc_lit_knots.nd rfl (by walk_at "o")) (pss_one (ps_expr (pe_bm PySem.F.plainAttrs_list PySem.F.slot_list_append PySem.F.type_list_append (mtr mt_append) (cv 4) (pa_cons (pe_call (ok_lit_pair T) (hr.mono (by decide)) rfl T.mg_lit_pair T.fn_lit_pair.kp T.bi_lit_pair .nil pass0 (pa_cons (cv 4) (pa_cons (pe_meth (cv 0) T.cl_Fold T.me_Fold_pair (ok_Fold_pair T) (hr.mono (by decide)) T.bi_Fold_pair .nil pass0 (pa_cons (cv 5) pa_nil)) (pa_cons (cv 3) pa_nil)))) pa_nil)))))
   (pss_one (ps_ret (cv 4)))))
theorem ok_lit_knots (T:Txt K mg a):FnOk P w K mg base CX0 3 a.f_lit_knots a.d_lit_knots ["fold","top","inputs","every"] (sp_lit_knots a K):=by
 refine T.fn_lit_knots.ok sc_lit_knots (fun vs H Q E h=>?_) (fun cdv A outer s H vs Q E hr h=>⟨_,tm_lit_knots T hr,?_⟩)
 ·obtain ⟨f,dx,pl,kl,pin,m,top,F,ins,es,rfl,_⟩:=h;rfl
 ·obtain ⟨f,dx,pl,kl,pin,m,top,F,ins,es,rfl,hf,hI,hil,ht0,ht1,hz,hm,hok,q⟩:=h
  show rd_lit_knots a K _ [some (.ref f),some (.int top),some (.ref pin),some (.int F),none,none] H
  unfold rd_lit_knots
  have big:(10000:Nat)≤sizeLine:=by decide
  walk_at "gs"
  intro r1 H1 n1
  refine ⟨_,_,n1.at_,n1.same _ _ hI,by simp only [List.length_map,List.length_cons,List.length_nil];omega,fun p hp=>?_⟩
  have sp:Same H (upd H1 p (.lst (V.int 0 :: ins.map nz))):=n1.same.trans (same_upd hp)
  have ap:upd H1 p (.lst (V.int 0 :: ins.map nz)) p=some (.lst ((MF.growC F (0 :: ins) ((psOf es).take 0)).map nz)):=upd_same
  have hpf:H p=none:=n1.same.nil hp
  walk_at "gs"
  generalize upd H1 p (.lst (V.int 0 :: ins.map nz))=H2 at sp ap ⊢
  refine ⟨f,a.c_Fold,dx,_,_,rfl,sp _ _ hf.ins,T.cl_Fold,T.na_Fold_many,rfl,?_⟩
  walk_at "gs"
  rw [show (top+1 - ((m:Int)+1)).toNat=(top - m).toNat by omega]
  refine for_rngG (fun i σ H3=>Same H H3∧H3 p=some (.lst ((MF.growC F (0 :: ins) ((psOf es).take i)).map nz))∧∃ v5,σ=[some (.ref f),some (.int top),some (.ref pin),some (.int F),some (.ref p),v5]) ⟨sp,ap,_,rfl⟩ ?_ ?_
  ·rintro i σ H3 hi ⟨s3,a3,v5,rfl⟩
   have f3:=hf.same s3
   have hie:i<es.length:=by omega
   have hee:es[i]? = some es[i]:=List.getElem?_eq_getElem hie
   have hpe:(psOf es)[i]? = some (es[i]).2:=by rw [List.getElem?_map,hee];rfl
   obtain ⟨o1,o2,o3,o4⟩:=hok _ _ hpe
   have te:=f3.prs.tup _ (List.getElem_mem hie)
   have hlk:(MF.growC F (0 :: ins) ((psOf es).take i)).length=m+1+i:=by
    rw [MF.growC_len,List.length_take,List.length_map,List.length_cons];omega
   generalize hE:es[i]=e at *
   walk_at "gs"
   refine ⟨.inl ⟨by trivial,_,.of a3⟩,f,dx,_,rfl,f3.ins,rfl,f,dx,pl,kl,m,_,es,rfl,f3,by omega,by omega,fun z=>absurd z (by omega),fun e' _ he'=>?_⟩
   rw [show ((m:Int)+1+(i:Int) - (m:Int) - 1).toNat=i by omega,hee] at he'
   cases he'
   walk_at "gs"
   refine ⟨p,e.1,_,e.2.1,e.2.2,F,rfl,.of a3,te,by omega,by omega,by omega,by omega,?_⟩
   walk_at "gs"
   refine ⟨p,_,_,rfl,rfl,a3,by rw [List.length_map];omega,s3.put hpf,?_,_,rfl⟩
   rw [upd_same,List.take_add_one,hpe]
   have hmap:∀ (xs:List Nat) (y:Nat),xs.map nz ++ [V.int (y:Nat)]=(xs ++ [y]).map nz:=fun xs y=>by rw [List.map_append];rfl
   rw [hmap]
   show _=some (HO.lst ((MF.growC F (0 :: ins) ((psOf es).take i ++ [e.2])).map nz))
   rw [MF.growC_app]
   rfl
  ·rintro σ H3 ⟨s3,a3,v5,rfl⟩
   walk_at "gs"
   exact q p H3 ⟨hpf,a3,s3⟩
def sp_need_tie (a:Adr) (_:PySem.W.Frag):Sp:=fun vs H Q _=>∃ (f dx pl kl:Addr) (m t:Int) (es:List En),vs=[.ref f,.int t]∧FoldAt a.c_Fold H f m es dx pl kl∧0≤t∧t<2 * (1+m+es.length)∧Q .non H
def rd_need_tie (a:Adr) (K:PySem.W.Frag):TS:=(tIfS (tNot (cTru K (tMeth a.c_Fold "has_tie" (sp_Fold_has_tie a K) [] E0 (cVar 0) (tCons (cVar 1) tNil)))) tNo tNext)
theorem tm_need_tie (T:Txt K mg a) {cdv:Value}{A:Around}{outer:List Env}{s:Shared}{H:Hp}{E:XK} (hr:Room 2 (A.deeper (envOfC "need_tie" (defScope s_need_tie) s.heap.objs.size a.f_need_tie cdv))) :
  PSs (cxOf CX0 P w K mg base N_need_tie "need_tie" (defScope s_need_tie) a.f_need_tie cdv A outer s H E).nox (defBody s_need_tie) (rd_need_tie a K) :=
 (pss_one (ps_if (pt_not (pt_tru (pe_meth (cv 0) T.cl_Fold T.me_Fold_has_tie (ok_Fold_has_tie T) (hr.mono (by decide)) T.bi_Fold_has_tie .nil pass0 (pa_cons (cv 1) pa_nil)))) (pss_one ps_no) pss_nil))
theorem ok_need_tie (T:Txt K mg a):FnOk P w K mg base CX0 3 a.f_need_tie a.d_need_tie ["fold","tie"] (sp_need_tie a K):=by
 refine T.fn_need_tie.ok sc_need_tie (fun vs H Q E h=>?_) (fun cdv A outer s H vs Q E hr h=>⟨_,tm_need_tie T hr,?_⟩)
 ·obtain ⟨f,dx,pl,kl,m,t,es,rfl,_⟩:=h;rfl
 ·obtain ⟨f,dx,pl,kl,m,t,es,rfl,hf,h0,h1,q⟩:=h
  show rd_need_tie a K _ [some (.ref f),some (.int t)] H
  unfold rd_need_tie
  walk_at "gs"
  refine ⟨f,dx,_,rfl,hf.ins,rfl,f,dx,pl,kl,m,t,es,rfl,hf,?_⟩
  rw [decide_eq_true (show 0≤t∧t<2 * (1+m+(es.length:Int)) from ⟨h0,h1⟩)]
  walk_at "gs"
  exact q
theorem lit_pre {F:Nat}{b:List Nat}{ps:List MF.Pr}{t:Int}{n:Nat} (h0:0≤t) (h:t<2 * (b.length+min n ps.length)):MF.litC F (MF.growC F b (ps.take n)) t=MF.L F b ps t:=by
 unfold MF.L
 have e:MF.growC F b ps=MF.growC F (MF.growC F b (ps.take n)) (ps.drop n):=by rw [← MF.growC_app,List.take_append_drop]
 rw [e]
 obtain ⟨x,hx⟩:=MF.growC_pre F (ps.drop n) (MF.growC F b (ps.take n))
 rw [hx,MF.litC_app h0]
 rw [MF.growC_len,List.length_take]
 omega
def sp_input_columns (K:PySem.W.Frag):Sp:=fun vs H Q _=>∃ m:Nat,vs=[.int m]∧m≤10∧∀ q H',Same H H'→H q=none→H' q=some (.lst (((MC.inC m).1.map GM.nz).map V.int))→Q (.ref q) H'
def shOr (w:Nat):V→V | .int c=>.int (Builtin.bitOr c (c * 2 ^ (GM.nz w).toNat)) | _=>.non
theorem two2 {i:Nat} (h:i≤10):2 ^ i≤1024:=by
 have:(2:Nat) ^ i≤2 ^ 10:=Nat.pow_le_pow_right (by decide) h
 omega
def rd_input_columns (K:PySem.W.Frag):TS:=(tSeq (tAsg (tLst tNil) (gName 1))
  (tSeq (tAsg (tC (.int 1)) (gName 2))
  (tSeq (tAsg (tC (.int 1)) (gName 3))
  (tSeq (tFor (iRng1 (tCons (cVar 0) tNil)) (gName 4) (tSeq (tAsg (tComp (iList K (cVar 1)) 1 [3] (gName 0) tTrue (tOp (cI2 fun i j=>.int (Builtin.bitOr i j)) (cVar 0) (tOp (cI2c CShl fun i j=>.int (i * 2 ^ j.toNat)) (cVar 0) (cVar 1)))) (gName 1))
  (tSeq (tDrop (tBM K "list" rAppend (cVar 1) (tCons (tOp (cI2c CShl fun i j=>.int (i * 2 ^ j.toNat)) (cVar 2) (cVar 3)) tNil)))
  (tSeq (tAsg (tOp (cI2 fun i j=>.int (Builtin.bitOr i j)) (cVar 2) (tOp (cI2c CShl fun i j=>.int (i * 2 ^ j.toNat)) (cVar 2) (cVar 3))) (gName 2))
  (tAsg (tOp cMul (cVar 3) (tC (.int 2))) (gName 3))))))
  (tRet (cVar 1))))))
theorem tm_input_columns (T:Txt K mg a) {cdv:Value}{A:Around}{outer:List Env}{s:Shared}{H:Hp}{E:XK} (hr:Room 0 (A.deeper (envOfC "input_columns" (defScope s_input_columns) s.heap.objs.size a.f_input_columns cdv))) :
  PSs (cxOf CX0 P w K mg base N_input_columns "input_columns" (defScope s_input_columns) a.f_input_columns cdv A outer s H E).nox (defBody s_input_columns) (rd_input_columns K) :=
 (pss_cons (ps_set (i:=1) sc_input_columns.nd rfl (by walk_at "o") (pe_lst pa_nil))
   (pss_cons (ps_set (i:=2) sc_input_columns.nd rfl (by walk_at "o") pe_int)
   (pss_cons (ps_set (i:=3) sc_input_columns.nd rfl (by walk_at "o") pe_int)
   (pss_cons (ps_for PassesOwn.never rfl (pi_range1 rfl T.no_range (pa_cons (cv 0) pa_nil)) (pg_name (i:=4) sc_input_columns.nd rfl (by walk_at "o")) (pss_cons (ps_setC (i:=1) (N:=["column","width"]) (k:=1) (sel:=[3]) (CScope.of (defScope s_input_columns).names (by decide +kernel)) (CNames.of N_input_columns (by decide +kernel)) rfl (pi_list (cv 1)) (fun _ _ _ _=>(pg_name (i:=0) (show List.Nodup (["column","width"]:List Str) by decide +kernel) rfl (by walk_at "o"))) (fun _ _ _ _=>pts_nil) (fun _ _ _ _=>(pe_op o_or (cv 0) (pe_op o_shlB (cv 0) (cv 1)))) sc_input_columns.nd rfl (by walk_at "o") rfl)
   (pss_cons (ps_expr (pe_bm PySem.F.plainAttrs_list PySem.F.slot_list_append PySem.F.type_list_append (mtr mt_append) (cv 1) (pa_cons (pe_op o_shlB (cv 2) (cv 3)) pa_nil)))
   (pss_cons (ps_set (i:=2) sc_input_columns.nd rfl (by walk_at "o") (pe_op o_or (cv 2) (pe_op o_shlB (cv 2) (cv 3))))
   (pss_one (ps_set (i:=3) sc_input_columns.nd rfl (by walk_at "o") (pe_op o_mul (cv 3) pe_int)))))))
   (pss_one (ps_ret (cv 1)))))))
theorem ok_input_columns (T:Txt K mg a):FnOk P w K mg base CX0 1 a.f_input_columns a.d_input_columns ["many"] (sp_input_columns K):=by
 refine T.fn_input_columns.ok sc_input_columns (fun vs H Q E h=>?_) (fun cdv A outer s H vs Q E hr h=>⟨_,tm_input_columns T hr,?_⟩)
 ·obtain ⟨m,rfl,_⟩:=h;rfl
 ·obtain ⟨m,rfl,hm,q⟩:=h
  show rd_input_columns K _ [some (.int m),none,none,none,none] H
  unfold rd_input_columns
  have hbig:=size_big
  walk_at "gs"
  intro r0 H0 n0
  walk_at "gs"
  rw [Int.toNat_natCast]
  refine for_rngG (fun i σ H2=>∃ r,Same H H2∧H r=none∧H2 r=some (.lst (((MC.inC i).1.map GM.nz).map V.int))∧∃ v,σ=[some (.int m),some (.ref r),some (.int (GM.nz (MC.inC i).2.1)),some (.int (GM.nz (MC.inC i).2.2)),v])
   ⟨r0,n0.same,n0.was,n0.at_,_,rfl⟩ ?_ ?_
  ·rintro i σ H2 hi ⟨r,s2,fr,at2,v,rfl⟩
   have hw:=MC.inC_w i
   have he:=MC.inC_e i
   have hln:=MC.inC_len i
   have h2i:=two2 (show i≤10 by omega)
   have hpos:0<2 ^ i:=Nat.pow_pos (by decide)
   walk_at "gs"
   refine ⟨⟨_,.of at2⟩,compG_list (shOr (MC.inC i).2.2) (.of at2) rfl (by rw [List.length_map,List.length_map];omega) ?_ ?_⟩
   ·intro x H' Q' hx _ q'
    obtain ⟨y,hy,rfl⟩:=List.mem_map.mp hx
    obtain ⟨c,hc,rfl⟩:=List.mem_map.mp hy
    walk_at "go"
    exact ⟨shl_nat (k:=2 ^ i) (MC.inC_lt i c hc) (by rw [hw];omega),q'⟩
   ·intro r2 H3 n3
    have hev:(MC.inC i).2.1<2 ^ (2 ^ i):=by rw [he];have:0<2 ^ (2 ^ i):=Nat.pow_pos (by decide);omega
    have hsh:CShl (GM.nz (MC.inC i).2.1) (GM.nz (MC.inC i).2.2):=shl_nat (k:=2 ^ i) hev (by rw [hw];omega)
    walk_at "go"
    refine ⟨.inl ⟨by trivial,_,n3.sq⟩,hsh,r2,_,_,rfl,rfl,n3.at_,by rw [List.length_map,List.length_map,List.length_map];omega,?_⟩
    walk_at "go"
    refine ⟨hsh,.inr ⟨by decide,by decide⟩,r2,(s2.trans n3.same).put (s2.free n3.was),s2.free n3.was,?_,some (.int (0+(i:Int))),?_⟩
    ·rw [upd_same]
     congr 2
     show _=(((MC.inC i).1.map (fun c=>c ||| (c * 2 ^ (MC.inC i).2.2)) ++ [(MC.inC i).2.1 * 2 ^ (MC.inC i).2.2]).map GM.nz).map V.int
     rw [List.map_append,List.map_append,List.map_map,List.map_map,List.map_map,List.map_map]
     have z1:∀ c∈(MC.inC i).1,shOr (MC.inC i).2.2 (V.int (GM.nz c))=V.int (GM.nz (c ||| (c * 2 ^ (MC.inC i).2.2))):=fun c _=>by
      show V.int (Builtin.bitOr (GM.nz c) (GM.nz c * 2 ^ (GM.nz (MC.inC i).2.2).toNat))=V.int (GM.nz (c ||| (c * 2 ^ (MC.inC i).2.2)))
      unfold GM.nz
      rw [shl_val,or_nat]
     have z2:GM.nz (MC.inC i).2.1 * 2 ^ (GM.nz (MC.inC i).2.2).toNat=GM.nz ((MC.inC i).2.1 * 2 ^ (MC.inC i).2.2):=by
      unfold GM.nz
      rw [shl_val]
     have z3:=List.map_congr_left z1
     rw [z2]
     exact congrArg (· ++ [V.int (GM.nz ((MC.inC i).2.1 * 2 ^ (MC.inC i).2.2))]) z3
    ·have e1:Builtin.bitOr (GM.nz (MC.inC i).2.1) (GM.nz (MC.inC i).2.1 * 2 ^ (GM.nz (MC.inC i).2.2).toNat)=GM.nz (MC.inC (i+1)).2.1:=by
      show _=GM.nz ((MC.inC i).2.1 ||| ((MC.inC i).2.1 * 2 ^ (MC.inC i).2.2))
      unfold GM.nz
      rw [shl_val,or_nat]
     have e2:GM.nz (MC.inC i).2.2 * 2=GM.nz (MC.inC (i+1)).2.2:=by
      show _=GM.nz ((MC.inC i).2.2 * 2)
      unfold GM.nz
      omega
     rw [e1,e2]
  ·rintro σ H2 ⟨r,s2,fr,at2,v,rfl⟩
   walk_at "gs"
   exact q r H2 s2 fr at2
abbrev bC (m:Nat):List Nat:=0 :: (MC.inC m).1
theorem len_bC (m:Nat):(bC m).length=m+1:=by show ((MC.inC m).1.length)+1=m+1;rw [MC.inC_len]
theorem sub_full {m c:Nat} (h:c<2 ^ 2 ^ m):MF.Sub (fullN m) c:=fun j hj=>by
 unfold fullN
 rw [Nat.testBit_two_pow_sub_one]
 refine decide_eq_true (Decidable.byContradiction fun hn=>?_)
 have:=Nat.testBit_lt_two_pow (Nat.lt_of_lt_of_le h (Nat.pow_le_pow_right (by decide) (show 2 ^ m≤j by omega)))
 rw [this] at hj
 cases hj
theorem baseC (m:Nat):MF.Base (fullN m) m (bC m):=by
 refine ⟨by rw [len_bC];omega,rfl,fun c hc=>?_⟩
 rcases List.mem_cons.mp hc with rfl | hc
 ·exact MF.sub_zero _
 ·exact sub_full (MC.inC_lt m c hc)
theorem nz_GM (cs:List Nat):(cs.map GM.nz).map V.int=cs.map nz:=by rw [List.map_map];rfl
def sp_column (a:Adr) (_:PySem.W.Frag):Sp:=fun vs H Q _=>∃ (f dx pl kl:Addr) (m:Nat) (t:Int) (es:List En),vs=[.ref f,.int t]∧FoldAt a.c_Fold H f m es dx pl kl∧es.length≤5000∧m≤10∧MF.Ok m (psOf es)∧(0≤t∧t<2 * (1+m+es.length))∧∀ H',Same H H'→Q (.int (MF.L (fullN m) (bC m) (psOf es) t:Nat)) H'
def rd_column (a:Adr) (K:PySem.W.Frag):TS:=(tSeq (tDrop (tCall (sp_need_tie a K) [] E0 (tCons (cVar 0) (tCons (cVar 1) tNil))))
  (tSeq (tAsg (tCall (sp_full_column K) [] E0 (tCons (tFld K (cVar 0) "many") tNil)) (gName 2))
  (tRet (tCall (sp_lit_tie K) [] E0 (tCons (tCall (sp_lit_knots a K) [] E0 (tCons (cVar 0) (tCons (tOp (cI2c CDiv fun i j=>.int (i / j)) (cVar 1) (tC (.int 2))) (tCons (tCall (sp_input_columns K) [] E0 (tCons (tFld K (cVar 0) "many") tNil)) (tCons (cVar 2) tNil))))) (tCons (cVar 1) (tCons (cVar 2) tNil)))))))
theorem tm_column (T:Txt K mg a) {cdv:Value}{A:Around}{outer:List Env}{s:Shared}{H:Hp}{E:XK} (hr:Room 3 (A.deeper (envOfC "column" (defScope s_column) s.heap.objs.size a.f_column cdv))) :
  PSs (cxOf CX0 P w K mg base N_column "column" (defScope s_column) a.f_column cdv A outer s H E).nox (defBody s_column) (rd_column a K) :=
 (pss_cons (ps_expr (pe_call (ok_need_tie T) (hr.mono (by decide)) rfl T.mg_need_tie T.fn_need_tie.kp T.bi_need_tie .nil pass0 (pa_cons (cv 0) (pa_cons (cv 1) pa_nil))))
   (pss_cons (ps_set (i:=2) sc_column.nd rfl (by walk_at "o") (pe_call (ok_full_column T) (hr.mono (by decide)) rfl T.mg_full_column T.fn_full_column.kp T.bi_full_column .nil pass0 (pa_cons (pe_fld (cv 0) rfl) pa_nil)))
   (pss_one (ps_ret (pe_call (ok_lit_tie T) (hr.mono (by decide)) rfl T.mg_lit_tie T.fn_lit_tie.kp T.bi_lit_tie .nil pass0 (pa_cons (pe_call (ok_lit_knots T) (hr.mono (by decide)) rfl T.mg_lit_knots T.fn_lit_knots.kp T.bi_lit_knots .nil pass0 (pa_cons (cv 0) (pa_cons (pe_op o_fdiv (cv 1) pe_int) (pa_cons (pe_call (ok_input_columns T) (hr.mono (by decide)) rfl T.mg_input_columns T.fn_input_columns.kp T.bi_input_columns .nil pass0 (pa_cons (pe_fld (cv 0) rfl) pa_nil)) (pa_cons (cv 2) pa_nil))))) (pa_cons (cv 1) (pa_cons (cv 2) pa_nil))))))))
theorem ok_column (T:Txt K mg a):FnOk P w K mg base CX0 4 a.f_column a.d_column ["fold","tie"] (sp_column a K):=by
 refine T.fn_column.ok sc_column (fun vs H Q E h=>?_) (fun cdv A outer s H vs Q E hr h=>⟨_,tm_column T hr,?_⟩)
 ·obtain ⟨f,dx,pl,kl,m,t,es,rfl,_⟩:=h;rfl
 ·obtain ⟨f,dx,pl,kl,m,t,es,rfl,hf,hz,hm,hok,g,q⟩:=h
  show rd_column a K _ [some (.ref f),some (.int t),none] H
  unfold rd_column
  walk_at "gs"
  refine ⟨f,dx,pl,kl,m,t,es,rfl,hf,g.1,g.2,?_⟩
  walk_at "gs"
  refine ⟨f,a.c_Fold,dx,_,_,rfl,hf.ins,T.cl_Fold,T.na_Fold_many,rfl,?_⟩
  walk_at "gs"
  refine ⟨m,rfl,hm,?_⟩
  walk_at "gs"
  refine ⟨f,a.c_Fold,dx,_,_,rfl,hf.ins,T.cl_Fold,T.na_Fold_many,rfl,?_⟩
  walk_at "gs"
  refine ⟨m,rfl,hm,fun pin H1 s1 f1 a1=>?_⟩
  rw [nz_GM] at a1
  walk_at "gs"
  refine ⟨f,dx,pl,kl,pin,m,_,fullN m,(MC.inC m).1,es,rfl,hf.same s1,a1,MC.inC_len m,by omega,by omega,hz,hm,hok,fun p H2 n2=>?_⟩
  have hL:MF.litC (fullN m) (MF.growC (fullN m) (bC m) ((psOf es).take (t / 2 - m).toNat)) t=MF.L (fullN m) (bC m) (psOf es) t:=lit_pre g.1 (by rw [len_bC,List.length_map];omega)
  walk_at "gs"
  refine ⟨p,_,t,fullN m,rfl,.of n2.at_,g.1,?_,?_⟩
  ·rw [MF.growC_len,len_bC,List.length_take,List.length_map];omega
  rw [hL]
  exact q H2 (s1.trans n2.same)
def sp_knot_columns (a:Adr) (_:PySem.W.Frag):Sp:=fun vs H Q _=>∃ (f dx pl kl:Addr) (m:Nat) (es:List En),vs=[.ref f]∧FoldAt a.c_Fold H f m es dx pl kl∧es.length≤5000∧m≤10∧MF.Ok m (psOf es) ∧
 ∀ p H',Mad H p (.lst ((MF.growC (fullN m) (bC m) (psOf es)).map nz)) H'→Q (.ref p) H'
def rd_knot_columns (a:Adr) (K:PySem.W.Frag):TS:=(tRet (tCall (sp_lit_knots a K) [] E0 (tCons (cVar 0) (tCons (tOp (cI2 fun i j=>.int (i - j)) (tMeth a.c_Fold "total" (sp_Fold_total a K) [] E0 (cVar 0) tNil) (tC (.int 1))) (tCons (tCall (sp_input_columns K) [] E0 (tCons (tFld K (cVar 0) "many") tNil)) (tCons (tCall (sp_full_column K) [] E0 (tCons (tFld K (cVar 0) "many") tNil)) tNil))))))
theorem tm_knot_columns (T:Txt K mg a) {cdv:Value}{A:Around}{outer:List Env}{s:Shared}{H:Hp}{E:XK} (hr:Room 3 (A.deeper (envOfC "knot_columns" (defScope s_knot_columns) s.heap.objs.size a.f_knot_columns cdv))) :
  PSs (cxOf CX0 P w K mg base N_knot_columns "knot_columns" (defScope s_knot_columns) a.f_knot_columns cdv A outer s H E).nox (defBody s_knot_columns) (rd_knot_columns a K) :=
 (pss_one (ps_ret (pe_call (ok_lit_knots T) (hr.mono (by decide)) rfl T.mg_lit_knots T.fn_lit_knots.kp T.bi_lit_knots .nil pass0 (pa_cons (cv 0) (pa_cons (pe_op o_sub (pe_meth0 (cv 0) T.cl_Fold T.me_Fold_total (ok_Fold_total T) (hr.mono (by decide)) T.bi_Fold_total .nil pass0) pe_int) (pa_cons (pe_call (ok_input_columns T) (hr.mono (by decide)) rfl T.mg_input_columns T.fn_input_columns.kp T.bi_input_columns .nil pass0 (pa_cons (pe_fld (cv 0) rfl) pa_nil)) (pa_cons (pe_call (ok_full_column T) (hr.mono (by decide)) rfl T.mg_full_column T.fn_full_column.kp T.bi_full_column .nil pass0 (pa_cons (pe_fld (cv 0) rfl) pa_nil)) pa_nil)))))))
theorem ok_knot_columns (T:Txt K mg a):FnOk P w K mg base CX0 4 a.f_knot_columns a.d_knot_columns ["fold"] (sp_knot_columns a K):=by
 refine T.fn_knot_columns.ok sc_knot_columns (fun vs H Q E h=>?_) (fun cdv A outer s H vs Q E hr h=>⟨_,tm_knot_columns T hr,?_⟩)
 ·obtain ⟨f,dx,pl,kl,m,es,rfl,_⟩:=h;rfl
 ·obtain ⟨f,dx,pl,kl,m,es,rfl,hf,hz,hm,hok,q⟩:=h
  show rd_knot_columns a K _ [some (.ref f)] H
  unfold rd_knot_columns
  walk_at "gs"
  refine ⟨f,dx,_,rfl,hf.ins,rfl,f,dx,pl,kl,m,es,rfl,hf,?_⟩
  walk_at "gs"
  refine ⟨f,a.c_Fold,dx,_,_,rfl,hf.ins,T.cl_Fold,T.na_Fold_many,rfl,?_⟩
  walk_at "gs"
  refine ⟨m,rfl,hm,fun pin H1 s1 f1 a1=>?_⟩
  rw [nz_GM] at a1
  walk_at "gs"
  refine ⟨f,a.c_Fold,dx,_,_,rfl,s1 _ _ hf.ins,T.cl_Fold,T.na_Fold_many,rfl,?_⟩
  walk_at "gs"
  refine ⟨m,rfl,hm,?_⟩
  walk_at "gs"
  refine ⟨f,dx,pl,kl,pin,m,_,fullN m,(MC.inC m).1,es,rfl,hf.same s1,a1,MC.inC_len m,by omega,by omega,hz,hm,hok,fun p H2 n2=>?_⟩
  rw [show (1+(m:Int)+(es.length:Int) - 1 - m).toNat=(psOf es).length by rw [List.length_map];omega,List.take_length] at n2
  exact q p H2 ⟨s1.nil n2.was,n2.at_,s1.trans n2.same⟩
open GM
def sp_all_lit (K:PySem.W.Frag):Sp:=fun vs H Q _=>∃ (p:Addr) (cs:List Int) (e:Int),vs=[.ref p,.int e]∧SqL K H p (cs.map V.int)∧Q (.int (cs.foldl Builtin.bitAnd e)) H
def sp_some_lit (K:PySem.W.Frag):Sp:=fun vs H Q _=>∃ (p:Addr) (cs:List Int),vs=[.ref p]∧SqL K H p (cs.map V.int)∧Q (.int (cs.foldl Builtin.bitOr 0)) H
def sp_odd_lit (K:PySem.W.Frag):Sp:=fun vs H Q _=>∃ (p:Addr) (cs:List Int),vs=[.ref p]∧SqL K H p (cs.map V.int)∧Q (.int (cs.foldl Builtin.bitXor 0)) H
def sp_chosen_lit (K:PySem.W.Frag):Sp:=fun vs H Q _=>∃ (p:Addr) (cs:List Int) (e:Int),vs=[.ref p,.int e]∧SqL K H p (cs.map V.int)∧3≤cs.length∧Q (.int (chosenC cs e)) H
def sp_most_lit (K:PySem.W.Frag):Sp:=fun vs H Q _=>∃ (p:Addr) (cs:List Int),vs=[.ref p]∧SqL K H p (cs.map V.int)∧3≤cs.length∧Q (.int (mostC cs)) H
def sp_column_by (K:PySem.W.Frag):Sp:=fun vs H Q _=>∃ (wd:Str) (p:Addr) (cs:List Int) (e:Int),vs=[.str wd,.ref p,.int e]∧SqL K H p (cs.map V.int)∧Ar wd cs.length∧Q (.int (colBy wd cs e)) H
def rd_all_lit (K:PySem.W.Frag):TS:=(tSeq (tAsg (cVar 1) (gName 2))
  (tSeq (tFor (iList K (cVar 0)) (gName 3) (tAsg (tOp (cI2 fun i j=>.int (Builtin.bitAnd i j)) (cVar 2) (cVar 3)) (gName 2)))
  (tRet (cVar 2))))
theorem tm_all_lit (T:Txt K mg a) {cdv:Value}{A:Around}{outer:List Env}{s:Shared}{H:Hp}{E:XK} (hr:Room 0 (A.deeper (envOfC "all_lit" (defScope s_all_lit) s.heap.objs.size a.f_all_lit cdv))) :
  PSs (cxOf CX0 P w K mg base N_all_lit "all_lit" (defScope s_all_lit) a.f_all_lit cdv A outer s H E).nox (defBody s_all_lit) (rd_all_lit K) :=
 (pss_cons (ps_set (i:=2) sc_all_lit.nd rfl (by walk_at "o") (cv 1))
   (pss_cons (ps_for PassesOwn.never rfl (pi_list (cv 0)) (pg_name (i:=3) sc_all_lit.nd rfl (by walk_at "o")) (pss_one (ps_set (i:=2) sc_all_lit.nd rfl (by walk_at "o") (pe_op o_and (cv 2) (cv 3)))))
   (pss_one (ps_ret (cv 2)))))
theorem ok_all_lit (T:Txt K mg a):FnOk P w K mg base CX0 1 a.f_all_lit a.d_all_lit ["columns","every"] (sp_all_lit K):=by
 refine T.fn_all_lit.ok sc_all_lit (fun vs H Q E h=>?_) (fun cdv A outer s H vs Q E hr h=>⟨_,tm_all_lit T hr,?_⟩)
 ·obtain ⟨p,cs,e,rfl,_⟩:=h;rfl
 ·obtain ⟨p,cs,e,rfl,hS,q⟩:=h
  show rd_all_lit K _ [some (.ref p),some (.int e),none,none] H
  unfold rd_all_lit
  walk_at "go"
  refine ⟨⟨_,hS⟩,for_listG (xs:=cs.map V.int) (fun i σ H2=>H2=H∧∃ v,σ=[some (.ref p),some (.int e),some (.int ((cs.take i).foldl Builtin.bitAnd e)),v]) ⟨rfl,none,rfl⟩ ?_ ?_ ?_⟩
  ·rintro i σ H2 _ ⟨rfl,_⟩;exact hS
  ·rintro i x σ H2 hx ⟨rfl,v,rfl⟩
   obtain ⟨c,hc,rfl⟩:=get_map_of hx
   walk_at "go"
   refine ⟨trivial,some (.int c),?_⟩
   rw [List.take_add_one,hc,List.foldl_append]
   rfl
  ·rintro σ H2 ⟨rfl,v,rfl⟩
   walk_at "go"
   rw [List.length_map,List.take_length]
   exact q
def rd_some_lit (K:PySem.W.Frag):TS:=(tSeq (tAsg (tC (.int 0)) (gName 1))
  (tSeq (tFor (iList K (cVar 0)) (gName 2) (tAsg (tOp (cI2 fun i j=>.int (Builtin.bitOr i j)) (cVar 1) (cVar 2)) (gName 1)))
  (tRet (cVar 1))))
theorem tm_some_lit (T:Txt K mg a) {cdv:Value}{A:Around}{outer:List Env}{s:Shared}{H:Hp}{E:XK} (hr:Room 0 (A.deeper (envOfC "some_lit" (defScope s_some_lit) s.heap.objs.size a.f_some_lit cdv))) :
  PSs (cxOf CX0 P w K mg base N_some_lit "some_lit" (defScope s_some_lit) a.f_some_lit cdv A outer s H E).nox (defBody s_some_lit) (rd_some_lit K) :=
 (pss_cons (ps_set (i:=1) sc_some_lit.nd rfl (by walk_at "o") pe_int)
   (pss_cons (ps_for PassesOwn.never rfl (pi_list (cv 0)) (pg_name (i:=2) sc_some_lit.nd rfl (by walk_at "o")) (pss_one (ps_set (i:=1) sc_some_lit.nd rfl (by walk_at "o") (pe_op o_or (cv 1) (cv 2)))))
   (pss_one (ps_ret (cv 1)))))
theorem ok_some_lit (T:Txt K mg a):FnOk P w K mg base CX0 1 a.f_some_lit a.d_some_lit ["columns"] (sp_some_lit K):=by
 refine T.fn_some_lit.ok sc_some_lit (fun vs H Q E h=>?_) (fun cdv A outer s H vs Q E hr h=>⟨_,tm_some_lit T hr,?_⟩)
 ·obtain ⟨p,cs,rfl,_⟩:=h;rfl
 ·obtain ⟨p,cs,rfl,hS,q⟩:=h
  show rd_some_lit K _ [some (.ref p),none,none] H
  unfold rd_some_lit
  walk_at "go"
  refine ⟨⟨_,hS⟩,for_listG (xs:=cs.map V.int) (fun i σ H2=>H2=H∧∃ v,σ=[some (.ref p),some (.int ((cs.take i).foldl Builtin.bitOr 0)),v]) ⟨rfl,none,rfl⟩ ?_ ?_ ?_⟩
  ·rintro i σ H2 _ ⟨rfl,_⟩;exact hS
  ·rintro i x σ H2 hx ⟨rfl,v,rfl⟩
   obtain ⟨c,hc,rfl⟩:=get_map_of hx
   walk_at "go"
   refine ⟨trivial,some (.int c),?_⟩
   rw [List.take_add_one,hc,List.foldl_append]
   rfl
  ·rintro σ H2 ⟨rfl,v,rfl⟩
   walk_at "go"
   rw [List.length_map,List.take_length]
   exact q
def rd_odd_lit (K:PySem.W.Frag):TS:=(tSeq (tAsg (tC (.int 0)) (gName 1))
  (tSeq (tFor (iList K (cVar 0)) (gName 2) (tAsg (tOp (cI2 fun i j=>.int (Builtin.bitXor i j)) (cVar 1) (cVar 2)) (gName 1)))
  (tRet (cVar 1))))
theorem tm_odd_lit (T:Txt K mg a) {cdv:Value}{A:Around}{outer:List Env}{s:Shared}{H:Hp}{E:XK} (hr:Room 0 (A.deeper (envOfC "odd_lit" (defScope s_odd_lit) s.heap.objs.size a.f_odd_lit cdv))) :
  PSs (cxOf CX0 P w K mg base N_odd_lit "odd_lit" (defScope s_odd_lit) a.f_odd_lit cdv A outer s H E).nox (defBody s_odd_lit) (rd_odd_lit K) :=
 (pss_cons (ps_set (i:=1) sc_odd_lit.nd rfl (by walk_at "o") pe_int)
   (pss_cons (ps_for PassesOwn.never rfl (pi_list (cv 0)) (pg_name (i:=2) sc_odd_lit.nd rfl (by walk_at "o")) (pss_one (ps_set (i:=1) sc_odd_lit.nd rfl (by walk_at "o") (pe_op o_xor (cv 1) (cv 2)))))
   (pss_one (ps_ret (cv 1)))))
theorem ok_odd_lit (T:Txt K mg a):FnOk P w K mg base CX0 1 a.f_odd_lit a.d_odd_lit ["columns"] (sp_odd_lit K):=by
 refine T.fn_odd_lit.ok sc_odd_lit (fun vs H Q E h=>?_) (fun cdv A outer s H vs Q E hr h=>⟨_,tm_odd_lit T hr,?_⟩)
 ·obtain ⟨p,cs,rfl,_⟩:=h;rfl
 ·obtain ⟨p,cs,rfl,hS,q⟩:=h
  show rd_odd_lit K _ [some (.ref p),none,none] H
  unfold rd_odd_lit
  walk_at "go"
  refine ⟨⟨_,hS⟩,for_listG (xs:=cs.map V.int) (fun i σ H2=>H2=H∧∃ v,σ=[some (.ref p),some (.int ((cs.take i).foldl Builtin.bitXor 0)),v]) ⟨rfl,none,rfl⟩ ?_ ?_ ?_⟩
  ·rintro i σ H2 _ ⟨rfl,_⟩;exact hS
  ·rintro i x σ H2 hx ⟨rfl,v,rfl⟩
   obtain ⟨c,hc,rfl⟩:=get_map_of hx
   walk_at "go"
   refine ⟨trivial,some (.int c),?_⟩
   rw [List.take_add_one,hc,List.foldl_append]
   rfl
  ·rintro σ H2 ⟨rfl,v,rfl⟩
   walk_at "go"
   rw [List.length_map,List.take_length]
   exact q
def rd_chosen_lit (K:PySem.W.Frag):TS:=(tSeq (tAsg (tOp (cIx K) (cVar 0) (tC (.int 0))) (gName 2))
  (tRet (tOp (cI2 fun i j=>.int (Builtin.bitOr i j)) (tOp (cI2 fun i j=>.int (Builtin.bitAnd i j)) (cVar 2) (tOp (cIx K) (cVar 0) (tC (.int 1)))) (tOp (cI2 fun i j=>.int (Builtin.bitAnd i j)) (tOp (cI2 fun i j=>.int (Builtin.bitXor i j)) (cVar 1) (cVar 2)) (tOp (cIx K) (cVar 0) (tC (.int 2)))))))
theorem tm_chosen_lit (T:Txt K mg a) {cdv:Value}{A:Around}{outer:List Env}{s:Shared}{H:Hp}{E:XK} (hr:Room 0 (A.deeper (envOfC "chosen_lit" (defScope s_chosen_lit) s.heap.objs.size a.f_chosen_lit cdv))) :
  PSs (cxOf CX0 P w K mg base N_chosen_lit "chosen_lit" (defScope s_chosen_lit) a.f_chosen_lit cdv A outer s H E).nox (defBody s_chosen_lit) (rd_chosen_lit K) :=
 (pss_cons (ps_set (i:=2) sc_chosen_lit.nd rfl (by walk_at "o") (pe_ix i_seq (cv 0) pe_int (fun _ _=>rfl)))
   (pss_one (ps_ret (pe_op o_or (pe_op o_and (cv 2) (pe_ix i_seq (cv 0) pe_int (fun _ _=>rfl))) (pe_op o_and (pe_op o_xor (cv 1) (cv 2)) (pe_ix i_seq (cv 0) pe_int (fun _ _=>rfl)))))))
theorem ok_chosen_lit (T:Txt K mg a):FnOk P w K mg base CX0 1 a.f_chosen_lit a.d_chosen_lit ["columns","every"] (sp_chosen_lit K):=by
 refine T.fn_chosen_lit.ok sc_chosen_lit (fun vs H Q E h=>?_) (fun cdv A outer s H vs Q E hr h=>⟨_,tm_chosen_lit T hr,?_⟩)
 ·obtain ⟨p,cs,e,rfl,_⟩:=h;rfl
 ·obtain ⟨p,cs,e,rfl,hS,hl,q⟩:=h
  show rd_chosen_lit K _ [some (.ref p),some (.int e),none] H
  unfold rd_chosen_lit
  walk_at "go"
  refine ixI hS (by decide) (by omega) ?_
  walk_at "go"
  refine ixI hS (by decide) (by omega) ?_
  walk_at "go"
  refine ixI hS (by decide) (by omega) ?_
  walk_at "go"
  exact q
def rd_most_lit (K:PySem.W.Frag):TS:=(tRet (tOp (cI2 fun i j=>.int (Builtin.bitOr i j)) (tOp (cI2 fun i j=>.int (Builtin.bitOr i j)) (tOp (cI2 fun i j=>.int (Builtin.bitAnd i j)) (tOp (cIx K) (cVar 0) (tC (.int 0))) (tOp (cIx K) (cVar 0) (tC (.int 1)))) (tOp (cI2 fun i j=>.int (Builtin.bitAnd i j)) (tOp (cIx K) (cVar 0) (tC (.int 0))) (tOp (cIx K) (cVar 0) (tC (.int 2))))) (tOp (cI2 fun i j=>.int (Builtin.bitAnd i j)) (tOp (cIx K) (cVar 0) (tC (.int 1))) (tOp (cIx K) (cVar 0) (tC (.int 2))))))
theorem tm_most_lit (T:Txt K mg a) {cdv:Value}{A:Around}{outer:List Env}{s:Shared}{H:Hp}{E:XK} (hr:Room 0 (A.deeper (envOfC "most_lit" (defScope s_most_lit) s.heap.objs.size a.f_most_lit cdv))) :
  PSs (cxOf CX0 P w K mg base N_most_lit "most_lit" (defScope s_most_lit) a.f_most_lit cdv A outer s H E).nox (defBody s_most_lit) (rd_most_lit K) :=
 (pss_one (ps_ret (pe_op o_or (pe_op o_or (pe_op o_and (pe_ix i_seq (cv 0) pe_int (fun _ _=>rfl)) (pe_ix i_seq (cv 0) pe_int (fun _ _=>rfl))) (pe_op o_and (pe_ix i_seq (cv 0) pe_int (fun _ _=>rfl)) (pe_ix i_seq (cv 0) pe_int (fun _ _=>rfl)))) (pe_op o_and (pe_ix i_seq (cv 0) pe_int (fun _ _=>rfl)) (pe_ix i_seq (cv 0) pe_int (fun _ _=>rfl))))))
theorem ok_most_lit (T:Txt K mg a):FnOk P w K mg base CX0 1 a.f_most_lit a.d_most_lit ["columns"] (sp_most_lit K):=by
 refine T.fn_most_lit.ok sc_most_lit (fun vs H Q E h=>?_) (fun cdv A outer s H vs Q E hr h=>⟨_,tm_most_lit T hr,?_⟩)
 ·obtain ⟨p,cs,rfl,_⟩:=h;rfl
 ·obtain ⟨p,cs,rfl,hS,hl,q⟩:=h
  show rd_most_lit K _ [some (.ref p)] H
  unfold rd_most_lit
  walk_at "go"
  refine ixI hS (by decide) (by omega) ?_
  refine ixI hS (by decide) (by omega) ?_
  walk_at "go"
  refine ixI hS (by decide) (by omega) ?_
  refine ixI hS (by decide) (by omega) ?_
  walk_at "go"
  refine ixI hS (by decide) (by omega) ?_
  refine ixI hS (by decide) (by omega) ?_
  walk_at "go"
  exact q
def rd_column_by (K:PySem.W.Frag):TS:=(tSeq (tIfS (cTst (tOp (cEq K) (cVar 0) (tC (.str "and")))) (tRet (tCall (sp_all_lit K) [] E0 (tCons (cVar 1) (tCons (cVar 2) tNil)))) tNext)
  (tSeq (tIfS (cTst (tOp (cEq K) (cVar 0) (tC (.str "or")))) (tRet (tCall (sp_some_lit K) [] E0 (tCons (cVar 1) tNil))) tNext)
  (tSeq (tIfS (cTst (tOp (cEq K) (cVar 0) (tC (.str "either")))) (tRet (tCall (sp_odd_lit K) [] E0 (tCons (cVar 1) tNil))) tNext)
  (tSeq (tIfS (cTst (tOp (cEq K) (cVar 0) (tC (.str "not")))) (tRet (tOp (cI2 fun i j=>.int (Builtin.bitXor i j)) (cVar 2) (tOp (cIx K) (cVar 1) (tC (.int 0))))) tNext)
  (tSeq (tIfS (cTst (tOp (cEq K) (cVar 0) (tC (.str "choose")))) (tRet (tCall (sp_chosen_lit K) [] E0 (tCons (cVar 1) (tCons (cVar 2) tNil)))) tNext)
  (tSeq (tIfS (cTst (tOp (cEq K) (cVar 0) (tC (.str "most")))) (tRet (tCall (sp_most_lit K) [] E0 (tCons (cVar 1) tNil))) tNext)
  (tRet (tIf (cTst (tOp (cEq K) (cVar 0) (tC (.str "yes")))) (cVar 2) (tC (.int 0))))))))))
theorem tm_column_by (T:Txt K mg a) {cdv:Value}{A:Around}{outer:List Env}{s:Shared}{H:Hp}{E:XK} (hr:Room 1 (A.deeper (envOfC "column_by" (defScope s_column_by) s.heap.objs.size a.f_column_by cdv))) :
  PSs (cxOf CX0 P w K mg base N_column_by "column_by" (defScope s_column_by) a.f_column_by cdv A outer s H E).nox (defBody s_column_by) (rd_column_by K) :=
 (pss_cons (ps_if (t_cmp (o_eq (hr8 hr)) (cv 0) pe_str (nomark _)) (pss_one (ps_ret (pe_call (ok_all_lit T) (hr.mono (by decide)) rfl T.mg_all_lit T.fn_all_lit.kp T.bi_all_lit .nil pass0 (pa_cons (cv 1) (pa_cons (cv 2) pa_nil))))) pss_nil)
   (pss_cons (ps_if (t_cmp (o_eq (hr8 hr)) (cv 0) pe_str (nomark _)) (pss_one (ps_ret (pe_call (ok_some_lit T) (hr.mono (by decide)) rfl T.mg_some_lit T.fn_some_lit.kp T.bi_some_lit .nil pass0 (pa_cons (cv 1) pa_nil)))) pss_nil)
   (pss_cons (ps_if (t_cmp (o_eq (hr8 hr)) (cv 0) pe_str (nomark _)) (pss_one (ps_ret (pe_call (ok_odd_lit T) (hr.mono (by decide)) rfl T.mg_odd_lit T.fn_odd_lit.kp T.bi_odd_lit .nil pass0 (pa_cons (cv 1) pa_nil)))) pss_nil)
   (pss_cons (ps_if (t_cmp (o_eq (hr8 hr)) (cv 0) pe_str (nomark _)) (pss_one (ps_ret (pe_op o_xor (cv 2) (pe_ix i_seq (cv 1) pe_int (fun _ _=>rfl))))) pss_nil)
   (pss_cons (ps_if (t_cmp (o_eq (hr8 hr)) (cv 0) pe_str (nomark _)) (pss_one (ps_ret (pe_call (ok_chosen_lit T) (hr.mono (by decide)) rfl T.mg_chosen_lit T.fn_chosen_lit.kp T.bi_chosen_lit .nil pass0 (pa_cons (cv 1) (pa_cons (cv 2) pa_nil))))) pss_nil)
   (pss_cons (ps_if (t_cmp (o_eq (hr8 hr)) (cv 0) pe_str (nomark _)) (pss_one (ps_ret (pe_call (ok_most_lit T) (hr.mono (by decide)) rfl T.mg_most_lit T.fn_most_lit.kp T.bi_most_lit .nil pass0 (pa_cons (cv 1) pa_nil)))) pss_nil)
   (pss_one (ps_ret (pe_ifExp (t_cmp (o_eq (hr8 hr)) (cv 0) pe_str (nomark _)) (cv 2) pe_int)))))))))
theorem ok_column_by (T:Txt K mg a):FnOk P w K mg base CX0 2 a.f_column_by a.d_column_by ["word","columns","every"] (sp_column_by K):=by
 refine T.fn_column_by.ok sc_column_by (fun vs H Q E h=>?_) (fun cdv A outer s H vs Q E hr h=>⟨_,tm_column_by T hr,?_⟩)
 ·obtain ⟨wd,p,cs,e,rfl,_⟩:=h;rfl
 ·obtain ⟨wd,p,cs,e,rfl,hS,ar,q⟩:=h
  show rd_column_by K _ [some (.str wd),some (.ref p),some (.int e)] H
  unfold rd_column_by
  walk_at "go"
  unfold colBy at q
  by_cases h1:wd = "and"
  ·rw [if_pos h1] at q ⊢
   exact ⟨p,cs,e,rfl,hS,q⟩
  rw [if_neg h1] at q ⊢
  by_cases h2:wd = "or"
  ·rw [if_pos h2] at q ⊢
   exact ⟨p,cs,rfl,hS,q⟩
  rw [if_neg h2] at q ⊢
  by_cases h3:wd = "either"
  ·rw [if_pos h3] at q ⊢
   exact ⟨p,cs,rfl,hS,q⟩
  rw [if_neg h3] at q ⊢
  by_cases h4:wd = "not"
  ·rw [if_pos h4] at q ⊢
   have:=ar.1 h4
   refine ixI hS (by decide) (by omega) ?_
   exact q
  rw [if_neg h4] at q ⊢
  by_cases h5:wd = "choose"
  ·rw [if_pos h5] at q ⊢
   have:=ar.2.1 h5
   exact ⟨p,cs,e,rfl,hS,by omega,q⟩
  rw [if_neg h5] at q ⊢
  by_cases h6:wd = "most"
  ·rw [if_pos h6] at q ⊢
   have:=ar.2.2 h6
   exact ⟨p,cs,rfl,hS,by omega,q⟩
  rw [if_neg h6] at q ⊢
  by_cases h7:wd = "yes"
  ·rw [if_pos h7] at q ⊢
   exact q
  rw [if_neg h7] at q ⊢
  exact q
def carI (ins:List Str) (cols:List Int) (gs:List Gt) (e:Int):List (Str × Int):=ME.carry (fun w cs=>colBy w cs e) 0 (ME.startS ins cols) gs
def sp_Net_carried (a:Adr) (K:PySem.W.Frag):Sp:=fun vs H Q _=>∃ (x pc:Addr) (e:Int) (cols:List Int) (ins:List Str) (gs:List Gt) (outs:List Str),vs=[.ref x,.ref pc,.int e]∧NetO a H x ins gs outs∧SqL K H pc (cols.map V.int)∧cols.length=ins.length ∧
 ME.WG Ar ins gs∧(∀ o∈outs,o∈ins ++ gs.map (·.1))∧ins.length≤100∧gs.length≤100∧outs.length≤100∧∀ q H',Same H H'→H q=none→H' q=some (.lst ((ME.outsOf 0 (carI ins cols gs e) outs).map V.int))→Q (.ref q) H'
theorem zip_inr (ins:List Str) (cols:List Int):(ins.map (Sum.inr:Str→Key)).zip (cols.map V.int)=(ins.zip cols).map fun p=>(Sum.inr p.1,V.int p.2):=by
 induction ins generalizing cols with
 | nil=>rfl
 | cons i r ih=>cases cols with
  | nil=>rfl
  | cons c cs=>simp [ih]
def lookI (e:List (Str × Int)):V→V | .str n=>.int ((ME.vS e n).getD 0) | _=>.non
def rd_Net_carried (K:PySem.W.Frag):TS:=(tSeq (tAsg (cDictZip K (tCons (tFld K (cVar 0) "inputs") (tCons (cVar 1) tNil))) (gName 3))
  (tSeq (tFor (iTup K (tFld K (cVar 0) "gates")) (gTup K 3 (gCons (gName 4) (gCons (gName 5) (gCons (gName 6) gNil)))) (sDPut (cVar 3) (cVar 4) (tCall (sp_column_by K) [] E0 (tCons (cVar 5) (tCons (tComp (iTup K (cVar 6)) 1 [3] (gName 0) tTrue (tDGet (cVar 1) (cVar 0))) (tCons (cVar 2) tNil))))))
  (tRet (tComp (iTup K (tFld K (cVar 0) "outputs")) 1 [3] (gName 0) tTrue (tDGet (cVar 1) (cVar 0))))))
theorem tm_Net_carried (T:Txt K mg a) {cdv:Value}{A:Around}{outer:List Env}{s:Shared}{H:Hp}{E:XK} (hr:Room 2 (A.deeper (envOfC "Net.carried" (defScope s_Net_carried) s.heap.objs.size a.f_Net_carried cdv))) :
  PSs (cxOf CX0 P w K mg base N_Net_carried "Net.carried" (defScope s_Net_carried) a.f_Net_carried cdv A outer s H E).nox (defBody s_Net_carried) (rd_Net_carried K) :=
 (pss_cons (ps_set (i:=3) sc_Net_carried.nd rfl (by walk_at "o") (e_dictzip rfl rfl rfl T.no_dict T.no_zip (pa_cons (pe_fld (cv 0) rfl) (pa_cons (cv 1) pa_nil))))
   (pss_cons (ps_for PassesOwn.never rfl (pi_tup (pe_fld (cv 0) rfl)) (pg_tup rfl (pgs_cons (pg_name (i:=4) sc_Net_carried.nd rfl (by walk_at "o")) (pgs_cons (pg_name (i:=5) sc_Net_carried.nd rfl (by walk_at "o")) (pgs_cons (pg_name (i:=6) sc_Net_carried.nd rfl (by walk_at "o")) pgs_nil)))) (pss_one (ps_dput (hu_of hr) (cv 3) (cv 4) (pe_call (ok_column_by T) (hr.mono (by decide)) rfl T.mg_column_by T.fn_column_by.kp T.bi_column_by .nil pass0 (pa_cons (cv 5) (pa_cons (pe_comp (N:=["part","known"]) (k:=1) (sel:=[3]) (CScope.of (defScope s_Net_carried).names (by decide +kernel)) (CNames.of N_Net_carried (by decide +kernel)) rfl (pi_tup (cv 6)) (fun _ _ _ _=>(pg_name (i:=0) (show List.Nodup (["part","known"]:List Str) by decide +kernel) rfl (by walk_at "o"))) (fun _ _ _ _=>pts_nil) (fun _ _ _ _=>(pe_dget (hu_of hr) (cv 1) (cv 0) (fun _ _=>rfl)))) (pa_cons (cv 2) pa_nil)))) rfl)))
   (pss_one (ps_ret (pe_comp (N:=["name","known"]) (k:=1) (sel:=[3]) (CScope.of (defScope s_Net_carried).names (by decide +kernel)) (CNames.of N_Net_carried (by decide +kernel)) rfl (pi_tup (pe_fld (cv 0) rfl)) (fun _ _ _ _=>(pg_name (i:=0) (show List.Nodup (["name","known"]:List Str) by decide +kernel) rfl (by walk_at "o"))) (fun _ _ _ _=>pts_nil) (fun _ _ _ _=>(pe_dget (hu_of hr) (cv 1) (cv 0) (fun _ _=>rfl))))))))
theorem ok_Net_carried (T:Txt K mg a):FnOk P w K mg base CX0 3 a.f_Net_carried a.d_Net_carried ["self","columns","every"] (sp_Net_carried a K):=by
 refine T.fn_Net_carried.ok sc_Net_carried (fun vs H Q E h=>?_) (fun cdv A outer s H vs Q E hr h=>⟨_,tm_Net_carried T hr,?_⟩)
 ·obtain ⟨x,pc,e,cols,ins,gs,outs,rfl,_⟩:=h;rfl
 ·obtain ⟨x,pc,e,cols,ins,gs,outs,rfl,hN,hC,hcl,hW,hwo,l1,l2,l3,q⟩:=h
  show rd_Net_carried K _ [some (.ref x),some (.ref pc),some (.int e),none,none,none,none] H
  unfold rd_Net_carried
  obtain ⟨dx,t1,t2,t3,ts,hx,h1,h2,h3,h4⟩:=hN
  have hbig:=size_big
  walk_at "gs"
  refine ⟨x,a.c_Net,dx,_,_,rfl,hx,T.cl_Net,T.na_Net_inputs,rfl,?_⟩
  walk_at "gs"
  refine ⟨ins,cols.map V.int,.of h1,hC,by rw [List.length_map,hcl],by omega,fun d H1 n1=>?_⟩
  have e0:mergeK [] ((ins.map (Sum.inr:Str→Key)).zip (cols.map V.int))=mE V.int (ME.startS ins cols):=by
   rw [zip_inr]
   exact merge_mE V.int (ins.zip cols) []
  rw [e0] at n1
  walk_at "gs"
  refine ⟨x,a.c_Net,dx,_,_,rfl,n1.same _ _ hx,T.cl_Net,T.na_Net_gates,rfl,?_⟩
  walk_at "gs"
  refine ⟨⟨_,.of (n1.same _ _ h2)⟩,for_tupG (xs:=ts) (fun i σ H2=>Same H H2∧H2 d=some (.dK (mE V.int (ME.carry (fun w cs=>colBy w cs e) 0 (ME.startS ins cols) (gs.take i))))∧∃ v4 v5 v6,σ=[some (.ref x),some (.ref pc),some (.int e),some (.ref d),v4,v5,v6])
   ⟨n1.same,n1.at_,_,_,_,rfl⟩ ?_ ?_ ?_⟩
  ·rintro i σ H2 _ ⟨s2,_⟩
   exact .of (s2 _ _ h2)
  ·rintro i v σ H2 hv ⟨s2,hd,v4,v5,v6,rfl⟩
   have hi:i<gs.length:=by rw [← h3.1];exact (List.getElem?_eq_some_iff.mp hv).1
   have hgi:gs[i]? = some gs[i]:=by simp [hi]
   obtain ⟨t,qq,f1,f2,f3⟩:=h3.2 i gs[i] hgi
   rw [f1] at hv
   cases hv
   obtain ⟨p1,p2,p3⟩:=ME.WG.at hW hgi
   generalize gs[i]=g at hgi f2 f3 p1 p2 p3
   have kn:=ME.carry_kn (A:=Ar) (fun w cs=>colBy w cs e) 0 (gs.take i) (ME.startS ins cols) ins (ME.start_kn ins cols hcl.symm)
   generalize hE:ME.carry (fun w cs=>colBy w cs e) 0 (ME.startS ins cols) (gs.take i)=env at hd kn
   walk_at "gs"
   refine ⟨t,_,rfl,.of (s2 _ _ f2),rfl,_,_,rfl,_,_,rfl,_,_,rfl,rfl,?_⟩
   walk_at "gs"
   refine ⟨⟨_,.of (s2 _ _ f3)⟩,compG_tup (lookI env) (.of (s2 _ _ f3)) rfl (by rw [List.length_map];omega) ?_ ?_⟩
   ·intro y H' Q' hy s' q'
    obtain ⟨n,hn,rfl⟩:=List.mem_map.mp hy
    walk_at "gs"
    obtain ⟨c,hc⟩:=kn n (p1 n hn)
    refine ⟨d,.int c,rfl,?_,?_⟩
    ·have:=DGet.k (k:=.inr n) (s' _ _ hd)
     rw [valV_mE,hc] at this
     exact this
    ·have:lookI env (.str n)=.int c:=by simp [lookI,hc]
     rw [this] at q'
     exact q'
   ·intro r H3 n3
    walk_at "gs"
    have el:(g.2.2.map V.str).map (lookI env)=(g.2.2.map fun p=>(ME.vS env p).getD 0).map V.int:=by rw [List.map_map,List.map_map];rfl
    rw [el] at n3
    refine ⟨g.2.1,r,_,e,rfl,n3.sq,by rw [List.length_map];exact p2,?_⟩
    walk_at "gs"
    have hd3:=n3.same _ _ hd
    refine ⟨d,_,rfl,DPut.k (k:=.inr g.1) hd3 ?_,?_,?_,_,_,_,rfl⟩
    ·have:∀ (gs:List Gt) (e0:List (Str × Int)),(ME.carry (fun w cs=>colBy w cs e) 0 e0 gs).length≤e0.length+gs.length:=by
      intro gs
      induction gs with
      | nil=>intro e0;exact Nat.le_refl _
      | cons g gs ih =>
       intro e0
       have h1:=ih (ME.step (fun w cs=>colBy w cs e) 0 e0 g)
       have h2:=ME.pS_len e0 g.1 ((fun w cs=>colBy w cs e) g.2.1 (g.2.2.map fun p=>(ME.vS e0 p).getD 0))
       show (ME.carry (fun w cs=>colBy w cs e) 0 (ME.step (fun w cs=>colBy w cs e) 0 e0 g) gs).length≤_
       rw [List.length_cons]
       have h3:(ME.step (fun w cs=>colBy w cs e) 0 e0 g).length≤e0.length+1:=h2
       omega
     have b1:=this (gs.take i) (ME.startS ins cols)
     have b0:(ME.startS ins cols).length≤(ins.zip cols).length:=by
      have:∀ (ps e0:List (Str × Int)),(ps.foldl (fun e p=>ME.pS e p.1 p.2) e0).length≤e0.length+ps.length:=by
       intro ps
       induction ps with
       | nil=>intro e0;exact Nat.le_refl _
       | cons p ps ih =>
        intro e0
        have h1:=ih (ME.pS e0 p.1 p.2)
        have h2:=ME.pS_len e0 p.1 p.2
        rw [List.foldl_cons,List.length_cons]
        omega
      have:=this (ins.zip cols) []
      simpa [ME.startS] using this
     rw [hE,List.length_take] at b1
     rw [List.length_zip] at b0
     show (mE V.int env).length<sizeLine
     unfold mE
     rw [List.length_map]
     omega
    ·exact ((s2.trans n3.same)).put n1.was
    ·rw [upd_same]
     have e9:ME.carry (fun w cs=>colBy w cs e) 0 (ME.startS ins cols) (gs.take (i+1))=ME.step (fun w cs=>colBy w cs e) 0 env g:=by
      rw [List.take_add_one,hgi]
      unfold ME.carry at hE ⊢
      rw [List.foldl_append,hE]
      rfl
     rw [e9,putK_mE]
     rfl
  ·rintro σ H2 ⟨s2,hd,v4,v5,v6,rfl⟩
   have egs:gs.take ts.length=gs:=by rw [h3.1,List.take_length]
   rw [egs] at hd
   have kn:=ME.carry_kn (A:=Ar) (fun w cs=>colBy w cs e) 0 gs (ME.startS ins cols) ins (ME.start_kn ins cols hcl.symm)
   have hE:ME.carry (fun w cs=>colBy w cs e) 0 (ME.startS ins cols) gs=carI ins cols gs e:=rfl
   rw [hE] at hd kn
   generalize carI ins cols gs e=env at hd kn q
   walk_at "gs"
   refine ⟨x,a.c_Net,dx,_,_,rfl,s2 _ _ hx,T.cl_Net,T.na_Net_outputs,rfl,?_⟩
   walk_at "gs"
   refine ⟨⟨_,.of (s2 _ _ h4)⟩,compG_tup (lookI env) (.of (s2 _ _ h4)) rfl (by rw [List.length_map];omega) ?_ ?_⟩
   ·intro y H' Q' hy s' q'
    obtain ⟨n,hn,rfl⟩:=List.mem_map.mp hy
    walk_at "gs"
    obtain ⟨c,hc⟩:=kn n (hwo n hn)
    refine ⟨d,.int c,rfl,?_,?_⟩
    ·have:=DGet.k (k:=.inr n) (s' _ _ hd)
     rw [valV_mE,hc] at this
     exact this
    ·have:lookI env (.str n)=.int c:=by simp [lookI,hc]
     rw [this] at q'
     exact q'
   ·intro r H3 n3
    have el:(outs.map V.str).map (lookI env)=(ME.outsOf 0 env outs).map V.int:=by unfold ME.outsOf;rw [List.map_map,List.map_map];rfl
    rw [el] at n3
    exact q r H3 (s2.trans n3.same) (s2.free n3.was) n3.at_
theorem fs_car (x y z:V):List.lookup ("carried" : Str) [("inputs",x),("gates",y),("outputs",z)]=none:=by
 have z1:(("carried" : Str) == "inputs")=false:=by decide +kernel
 have z2:(("carried" : Str) == "gates")=false:=by decide +kernel
 have z3:(("carried" : Str) == "outputs")=false:=by decide +kernel
 simp [List.lookup,z1,z2,z3]
def colsN (ins:List Str) (gs:List Gt) (outs:List Str):List Nat:=ME.outsOf 0 (GM.carN ins (MC.inC ins.length).1 gs (fullN ins.length)) outs
def sp_Net_columns (a:Adr) (K:PySem.W.Frag):Sp:=fun vs H Q _=>∃ (x:Addr) (ins:List Str) (gs:List Gt) (outs:List Str),vs=[.ref x]∧NetO a H x ins gs outs∧ME.WG GM.Ar ins gs∧(∀ o∈outs,o∈ins ++ gs.map (·.1))∧ins.length≤10∧gs.length≤100∧outs.length≤100 ∧
 ∀ q H',Same H H'→H q=none→H' q=some (.lst ((colsN ins gs outs).map nz))→Q (.ref q) H'
def rd_Net_columns (a:Adr) (K:PySem.W.Frag):TS:=(tSeq (tAsg (tCB (cLen K) (tCons (tFld K (cVar 0) "inputs") tNil)) (gName 1))
  (tRet (tMeth a.c_Net "carried" (sp_Net_carried a K) [] E0 (cVar 0) (tCons (tCall (sp_input_columns K) [] E0 (tCons (cVar 1) tNil)) (tCons (tCall (sp_full_column K) [] E0 (tCons (cVar 1) tNil)) tNil)))))
theorem tm_Net_columns (T:Txt K mg a) {cdv:Value}{A:Around}{outer:List Env}{s:Shared}{H:Hp}{E:XK} (hr:Room 3 (A.deeper (envOfC "Net.columns" (defScope s_Net_columns) s.heap.objs.size a.f_Net_columns cdv))) :
  PSs (cxOf CX0 P w K mg base N_Net_columns "Net.columns" (defScope s_Net_columns) a.f_Net_columns cdv A outer s H E).nox (defBody s_Net_columns) (rd_Net_columns a K) :=
 (pss_cons (ps_set (i:=1) sc_Net_columns.nd rfl (by walk_at "o") (pe_callB c_len (by rfl) T.no_len PySem.boot_len (pa_cons (pe_fld (cv 0) rfl) pa_nil)))
   (pss_one (ps_ret (pe_meth (cv 0) T.cl_Net T.me_Net_carried (ok_Net_carried T) (hr.mono (by decide)) T.bi_Net_carried .nil pass0 (pa_cons (pe_call (ok_input_columns T) (hr.mono (by decide)) rfl T.mg_input_columns T.fn_input_columns.kp T.bi_input_columns .nil pass0 (pa_cons (cv 1) pa_nil)) (pa_cons (pe_call (ok_full_column T) (hr.mono (by decide)) rfl T.mg_full_column T.fn_full_column.kp T.bi_full_column .nil pass0 (pa_cons (cv 1) pa_nil)) pa_nil))))))
theorem ok_Net_columns (T:Txt K mg a):FnOk P w K mg base CX0 4 a.f_Net_columns a.d_Net_columns ["self"] (sp_Net_columns a K):=by
 refine T.fn_Net_columns.ok sc_Net_columns (fun vs H Q E h=>?_) (fun cdv A outer s H vs Q E hr h=>⟨_,tm_Net_columns T hr,?_⟩)
 ·obtain ⟨x,ins,gs,outs,rfl,_⟩:=h;rfl
 ·obtain ⟨x,ins,gs,outs,rfl,hN,wg,wo,i1,gl,o1,q⟩:=h
  show rd_Net_columns a K _ [some (.ref x),none] H
  unfold rd_Net_columns
  obtain ⟨dx,t1,t2,t3,ts,hx,h1,r0⟩:=id hN
  walk_at "gs"
  refine ⟨x,a.c_Net,dx,_,_,rfl,hx,T.cl_Net,T.na_Net_inputs,rfl,?_⟩
  walk_at "gs"
  refine .inl ⟨_,.inr (.of h1),?_⟩
  rw [List.length_map]
  walk_at "gs"
  refine ⟨x,dx,_,rfl,hx,fs_car _ _ _,?_⟩
  walk_at "gs"
  refine ⟨ins.length,rfl,i1,fun r H1 s1 f1 a1=>?_⟩
  walk_at "gs"
  refine ⟨ins.length,rfl,i1,?_⟩
  walk_at "gs"
  refine ⟨x,r,_,(MC.inC ins.length).1.map GM.nz,ins,gs,outs,rfl,hN.sameN s1.n,.of a1,by rw [List.length_map,MC.inC_len],wg,wo,by omega,by omega,by omega,fun r2 H2 s2 f2 a2=>?_⟩
  have e:ME.outsOf 0 (carI ins ((MC.inC ins.length).1.map GM.nz) gs (GM.nz (fullN ins.length))) outs=(colsN ins gs outs).map GM.nz:=GM.outs_nz ins _ gs outs _ wg
  have e':ME.outsOf 0 (carI ins ((MC.inC ins.length).1.map GM.nz) gs ((fullN ins.length:Nat):Int)) outs=(colsN ins gs outs).map GM.nz:=e
  rw [e',nz_GM] at a2
  exact q r2 H2 (s1.trans s2) (s1.free f2) a2
def lettersS:Str:="abcdefghijklmnopqrstuvwxyz"
theorem letters_cps:lettersS.cps.toList=(List.range 26).map (97 + ·):=by decide +kernel
theorem letters_at {i:Int} (h0:0≤i) (h1:i<26):atI lettersS.cps.toList i=some (97+i.toNat):=by
 rw [letters_cps,atI_map 0 h0 (by rw [List.length_range];exact h1)]
 congr 2
 have:i.toNat<26:=by omega
 simp [List.getD,this]
def celF (ns:List Int) (k:Nat):Int:=if (k:Int)<ns.length then ns.getD k 0 else 0
def sp_law_cell_at (K:PySem.W.Frag):Sp:=fun vs H Q _=>∃ (p:Addr) (ns:List Int) (k:Nat),vs=[.ref p,.int k]∧SqL K H p (ns.map V.int)∧Q (.int (celF ns k)) H
def rd_law_cell_at (K:PySem.W.Frag):TS:=(tSeq (tIfS (cTst (tOp (cI2 fun i j=>.bl (decide (i<j))) (cVar 1) (tCB (cLen K) (tCons (cVar 0) tNil)))) (tRet (tOp (cIx K) (cVar 0) (cVar 1))) tNext)
  (tRet (tC (.int 0))))
theorem tm_law_cell_at (T:Txt K mg a) {cdv:Value}{A:Around}{outer:List Env}{s:Shared}{H:Hp}{E:XK} (hr:Room 0 (A.deeper (envOfC "_law_cell_at" (defScope s_law_cell_at) s.heap.objs.size a.f_law_cell_at cdv))) :
  PSs (cxOf CX0 P w K mg base N_law_cell_at "_law_cell_at" (defScope s_law_cell_at) a.f_law_cell_at cdv A outer s H E).nox (defBody s_law_cell_at) (rd_law_cell_at K) :=
 (pss_cons (ps_if (t_cmp o_lt (cv 1) (pe_callB c_len (by rfl) T.no_len PySem.boot_len (pa_cons (cv 0) pa_nil)) (nomark _)) (pss_one (ps_ret (pe_ix i_seq (cv 0) (cv 1) (fun _ _=>rfl)))) pss_nil)
   (pss_one (ps_ret pe_int)))
theorem ok_law_cell_at (T:Txt K mg a):FnOk P w K mg base CX0 1 a.f_law_cell_at a.d_law_cell_at ["_law_script","_law_k"] (sp_law_cell_at K):=by
 refine T.fn_law_cell_at.ok sc_law_cell_at (fun vs H Q E h=>?_) (fun cdv A outer s H vs Q E hr h=>⟨_,tm_law_cell_at T hr,?_⟩)
 ·obtain ⟨p,ns,k,rfl,_⟩:=h;rfl
 ·obtain ⟨p,ns,k,rfl,hS,q⟩:=h
  show rd_law_cell_at K _ [some (.ref p),some (.int k)] H
  unfold rd_law_cell_at
  unfold celF at q
  walk_at "go"
  refine .inl ⟨_,.inl hS,?_⟩
  rw [List.length_map]
  by_cases h:(k:Int)<ns.length
  ·rw [if_pos h] at q ⊢
   refine ixI hS (by omega) h ?_
   rw [Int.toNat_natCast]
   exact q
  ·rw [if_neg h] at q ⊢
   exact q
def rsI (r:Int):Nat→Int | 0=>r | i+1=>rsI r i / 26
def wdL (r:Int):Nat→List Nat | 0=>[] | i+1=>wdL r i ++ [97+(rsI r i % 26).toNat]
theorem wdL_len (r:Int):∀ n,(wdL r n).length=n
 | 0=>rfl
 | n+1=>by show (wdL r n ++ [_]).length=_;rw [List.length_append,wdL_len r n];rfl
def numF (c:Int) (k:Nat):Int:=if c / 343 % 300 % 13=6 then (k:Int) else ((k:Int) * (2 * (c / 343 % 300)+1)+c / 11) % 676
theorem num_tab:∀ m:Fin 300,∀ d:Fin 64,m.val % 13≠6→d.val≠0→(d.val * (2 * m.val+1)) % 676≠0:=by decide +kernel
theorem numF_lt {c:Int}{k:Nat} (hk:k<64):0≤numF c k∧numF c k<676:=by
 unfold numF
 split <;> omega
theorem numF_no {c:Int}{j k:Nat} (hj:j<k) (hk:k<64) (h:numF c j=numF c k):False:=by
 unfold numF at h
 split at h
 ·omega
 ·rename_i h6
  have m0:0≤c / 343 % 300:=by omega
  have m1:c / 343 % 300<300:=by omega
  obtain ⟨m,hm⟩:=Int.eq_ofNat_of_zero_le m0
  rw [hm] at h h6 m1
  have:=num_tab ⟨m,by omega⟩ ⟨k - j,by omega⟩ (by show m % 13≠6;omega) (by show k - j≠0;omega)
  have e:(((k - j) * (2 * m+1):Nat):Int)=(k:Int) * (2 * m+1) - (j:Int) * (2 * m+1):=by
   rw [← Int.sub_mul,Int.natCast_mul,Int.natCast_sub (by omega)]
   rfl
  simp only at this
  generalize (k:Int) * (2 * (m:Int)+1)=p1 at h e
  generalize (j:Int) * (2 * (m:Int)+1)=p2 at h e
  omega
theorem numF_inj {c:Int}{j k:Nat} (hj:j<64) (hk:k<64) (h:numF c j=numF c k):j=k:=by
 rcases Nat.lt_trichotomy j k with z | z | z
 ·exact (numF_no z hk h).elim
 ·exact z
 ·exact (numF_no z hj h.symm).elim
def nearV:List V:=[.str "in",.str "out",.str "is",.str "and",.str "or",.str "either",.str "not",.str "choose",.str "most",.str "yes",.str "no"]
def wrdF (c:Int):List Nat:=wdL (c / 7 % 10 ^ 12) (c % 7).toNat
def nm0L (c:Int) (k:Nat):List Nat:=(wrdF c).take (c / 49 % (c % 7+1)).toNat ++ ([97+(numF c k % 26).toNat,97+(numF c k / 26).toNat] ++ (wrdF c).drop (c / 49 % (c % 7+1)).toNat)
def nm0 (c:Int) (k:Nat):Str:=⟨(nm0L c k).toArray⟩
theorem str_of {z:Str}{l:List Nat} (h:z.cps.toList=l):z=⟨l.toArray⟩:=by
 subst h
 cases z
 simp
def nmF (c:Int) (k:Nat):Str:=if inV (.str (nm0 c k)) nearV then nm0 c k ++ "z" else nm0 c k
theorem nm0_len (c:Int) (k:Nat):(nm0L c k).length=(c % 7).toNat+2:=by
 unfold nm0L wrdF
 simp only [List.length_append,List.length_take,List.length_drop,List.length_cons,List.length_nil,wdL_len]
 omega
theorem nm0_slen (c:Int) (k:Nat):(nm0 c k).length=(c % 7).toNat+2:=by rw [← len_cps];exact nm0_len c k
theorem nm0_inj {c:Int}{j k:Nat} (hj:j<64) (hk:k<64) (h:nm0 c j=nm0 c k):j=k:=by
 have e:nm0L c j=nm0L c k:=congrArg (fun z:Str=>z.cps.toList) h
 unfold nm0L at e
 have e2:=List.append_cancel_right (List.append_cancel_left e)
 simp only [List.cons.injEq,and_true] at e2
 have a:=numF_lt (c:=c) hj
 have b:=numF_lt (c:=c) hk
 exact numF_inj (c:=c) hj hk (by omega)
theorem nmF_inj {c:Int}{j k:Nat} (hj:j<64) (hk:k<64) (h:nmF c j=nmF c k):j=k:=by
 have l1:=nm0_slen c j
 have l2:=nm0_slen c k
 have lz:("z" : Str).length=1:=by decide +kernel
 unfold nmF at h
 split at h <;> split at h
 ·have e:=congrArg (fun z:Str=>z.cps.toList) h
  simp only [cps_app] at e
  refine nm0_inj hj hk (?_:nm0 c j=nm0 c k)
  exact congrArg (fun z:List Nat=>(⟨z.toArray⟩:Str)) (List.append_cancel_right e)
 ·have:=congrArg PySem.Str.length h
  rw [PySem.Str.length_append] at this
  omega
 ·have:=congrArg PySem.Str.length h
  rw [PySem.Str.length_append] at this
  omega
 ·exact nm0_inj hj hk h
def sp_law_name (_:PySem.W.Frag):Sp:=fun vs H Q _=>∃ (c:Int) (k:Nat),vs=[.int c,.int k]∧k<64∧∀ H',Same H H'→Q (.str (nmF c k)) H'
def rd_law_name (K:PySem.W.Frag):TS:=(tSeq (tAsg (tC (.str "abcdefghijklmnopqrstuvwxyz")) (gName 2))
  (tSeq (tAsg (tC (.str "")) (gName 3))
  (tSeq (tAsg (tOp (cI2c (fun _ j=>0<j) fun i j=>.int (i % j)) (tOp (cI2c CDiv fun i j=>.int (i / j)) (cVar 0) (tC (.int 7))) (tOp (cI2c CPow fun i j=>.int (i ^ j.toNat)) (tC (.int 10)) (tC (.int 12)))) (gName 4))
  (tSeq (tFor (iRng1 (tCons (tOp (cI2c (fun _ j=>0<j) fun i j=>.int (i % j)) (cVar 0) (tC (.int 7))) tNil)) (gName 5) (tSeq (tAsg (tOp cAdd (cVar 3) (tOp (cIx K) (cVar 2) (tOp (cI2c (fun _ j=>0<j) fun i j=>.int (i % j)) (cVar 4) (tC (.int 26))))) (gName 3))
  (tAsg (tOp (cI2c CDiv fun i j=>.int (i / j)) (cVar 4) (tC (.int 26))) (gName 4))))
  (tSeq (tAsg (tOp (cI2c (fun _ j=>0<j) fun i j=>.int (i % j)) (tOp (cI2c CDiv fun i j=>.int (i / j)) (cVar 0) (tC (.int 49))) (tOp cAdd (tOp (cI2c (fun _ j=>0<j) fun i j=>.int (i % j)) (cVar 0) (tC (.int 7))) (tC (.int 1)))) (gName 6))
  (tSeq (tAsg (tOp (cI2c (fun _ j=>0<j) fun i j=>.int (i % j)) (tOp cAdd (tOp cMul (cVar 1) (tOp cAdd (tOp cMul (tC (.int 2)) (tOp (cI2c (fun _ j=>0<j) fun i j=>.int (i % j)) (tOp (cI2c CDiv fun i j=>.int (i / j)) (cVar 0) (tC (.int 343))) (tC (.int 300)))) (tC (.int 1)))) (tOp (cI2c CDiv fun i j=>.int (i / j)) (cVar 0) (tC (.int 11)))) (tC (.int 676))) (gName 7))
  (tMid (tIfS (cTst (tOp (cEq K) (tOp (cI2c (fun _ j=>0<j) fun i j=>.int (i % j)) (tOp (cI2c (fun _ j=>0<j) fun i j=>.int (i % j)) (tOp (cI2c CDiv fun i j=>.int (i / j)) (cVar 0) (tC (.int 343))) (tC (.int 300))) (tC (.int 13))) (tC (.int 6)))) (tAsg (cVar 1) (gName 7)) tNext)
  (tSeq (tAsg (tOp cAdd (tOp (cIx K) (cVar 2) (tOp (cI2c (fun _ j=>0<j) fun i j=>.int (i % j)) (cVar 7) (tC (.int 26)))) (tOp (cIx K) (cVar 2) (tOp (cI2c CDiv fun i j=>.int (i / j)) (cVar 7) (tC (.int 26))))) (gName 8))
  (tSeq (tAsg (tOp cAdd (tOp cAdd (tSl (cSlU K) (cVar 3) tNoPart (cPart (cVar 6))) (cVar 8)) (tSl (cSlU K) (cVar 3) (cPart (cVar 6)) tNoPart)) (gName 9))
  (tSeq (tIfS (cTst (tOp (cIn K false) (cVar 9) (tTup (tVals [(.str "in"),(.str "out"),(.str "is"),(.str "and"),(.str "or"),(.str "either"),(.str "not"),(.str "choose"),(.str "most"),(.str "yes"),(.str "no")])))) (tRet (tOp cAdd (cVar 9) (tC (.str "z")))) tNext)
  (tRet (cVar 9))))))))))))
theorem tm_law_name (T:Txt K mg a) {cdv:Value}{A:Around}{outer:List Env}{s:Shared}{H:Hp}{E:XK} (hr:Room 0 (A.deeper (envOfC "_law_name" (defScope s_law_name) s.heap.objs.size a.f_law_name cdv))) :
  PSs (cxOf CX0 P w K mg base N_law_name "_law_name" (defScope s_law_name) a.f_law_name cdv A outer s H E).nox (defBody s_law_name) (rd_law_name K) :=
 (pss_cons (ps_set (i:=2) sc_law_name.nd rfl (by walk_at "o") pe_str)
   (pss_cons (ps_set (i:=3) sc_law_name.nd rfl (by walk_at "o") pe_str)
   (pss_cons (ps_set (i:=4) sc_law_name.nd rfl (by walk_at "o") (pe_op o_mod (pe_op o_fdiv (cv 0) pe_int) (pe_op o_pow pe_int pe_int)))
   (pss_cons (ps_for PassesOwn.never rfl (pi_range1 rfl T.no_range (pa_cons (pe_op o_mod (cv 0) pe_int) pa_nil)) (pg_name (i:=5) sc_law_name.nd rfl (by walk_at "o")) (pss_cons (ps_set (i:=3) sc_law_name.nd rfl (by walk_at "o") (pe_op o_add (cv 3) (pe_ix i_seq (cv 2) (pe_op o_mod (cv 4) pe_int) (fun _ _=>rfl))))
   (pss_one (ps_set (i:=4) sc_law_name.nd rfl (by walk_at "o") (pe_op o_fdiv (cv 4) pe_int)))))
   (pss_cons (ps_set (i:=6) sc_law_name.nd rfl (by walk_at "o") (pe_op o_mod (pe_op o_fdiv (cv 0) pe_int) (pe_op o_add (pe_op o_mod (cv 0) pe_int) pe_int)))
   (pss_cons (ps_set (i:=7) sc_law_name.nd rfl (by walk_at "o") (pe_op o_mod (pe_op o_add (pe_op o_mul (cv 1) (pe_op o_add (pe_op o_mul pe_int (pe_op o_mod (pe_op o_fdiv (cv 0) pe_int) pe_int)) pe_int)) (pe_op o_fdiv (cv 0) pe_int)) pe_int))
   (pss_mid (ps_if (t_cmp (o_eq (hr8 hr)) (pe_op o_mod (pe_op o_mod (pe_op o_fdiv (cv 0) pe_int) pe_int) pe_int) pe_int (nomark _)) (pss_one (ps_set (i:=7) sc_law_name.nd rfl (by walk_at "o") (cv 1))) pss_nil)
   (pss_cons (ps_set (i:=8) sc_law_name.nd rfl (by walk_at "o") (pe_op o_add (pe_ix i_seq (cv 2) (pe_op o_mod (cv 7) pe_int) (fun _ _=>rfl)) (pe_ix i_seq (cv 2) (pe_op o_fdiv (cv 7) pe_int) (fun _ _=>rfl))))
   (pss_cons (ps_set (i:=9) sc_law_name.nd rfl (by walk_at "o") (pe_op o_add (pe_op o_add (pe_slice s_u (cv 3) po_none (e_part (cv 6))) (cv 8)) (pe_slice s_u (cv 3) (e_part (cv 6)) po_none)))
   (pss_cons (ps_if (t_cmp o_in (cv 9) (pe_tup (pa_consts (vs:=[(.str "in"),(.str "out"),(.str "is"),(.str "and"),(.str "or"),(.str "either"),(.str "not"),(.str "choose"),(.str "most"),(.str "yes"),(.str "no")]) rfl)) (by with_unfolding_all rfl)) (pss_one (ps_ret (pe_op o_add (cv 9) pe_str))) pss_nil)
   (pss_one (ps_ret (cv 9)))))))))))))
theorem ok_law_name (T:Txt K mg a):FnOk P w K mg base CX0 1 a.f_law_name a.d_law_name ["_law_cell","_law_k"] (sp_law_name K):=by
 refine T.fn_law_name.ok sc_law_name (fun vs H Q E h=>?_) (fun cdv A outer s H vs Q E hr h=>⟨_,tm_law_name T hr,?_⟩)
 ·obtain ⟨c,k,rfl,_⟩:=h;rfl
 ·obtain ⟨c,k,rfl,hk,q⟩:=h
  show rd_law_name K _ [some (.int c),some (.int k),none,none,none,none,none,none,none,none] H
  unfold rd_law_name
  have big:(1000:Nat)≤sizeLine:=by decide
  obtain ⟨n7,hn7⟩:=Int.eq_ofNat_of_zero_le (by omega:0≤c % 7)
  have h7:n7<7:=by omega
  walk_at "gs"
  rw [hn7]
  walk_at "gs"
  rw [Int.toNat_natCast]
  refine for_rngG (fun i σ H2=>H2=H∧∃ (z:Str) (v:Option V),z.cps.toList=wdL (c / 7 % 10 ^ 12) i∧σ=[some (.int c),some (.int k),some (.str lettersS),some (.str z),some (.int (rsI (c / 7 % 10 ^ 12) i)),v,none,none,none,none]) ⟨rfl,"",none,show ("" : Str).cps.toList=[] by decide +kernel,rfl⟩ ?_ ?_
  ·rintro i σ H2 hi ⟨rfl,z,v,hz,rfl⟩
   have hzl:z.length=i:=by rw [← len_cps,hz,wdL_len]
   have hd:=letters_at (i:=rsI (c / 7 % 10 ^ 12) i % 26) (by omega) (by omega)
   walk_at "gs"
   refine ⟨_,hd,?_⟩
   walk_at "gs"
   refine ⟨by show z.length+1≤sizeLine;omega,?_⟩
   walk_at "gs"
   refine ⟨z ++ ⟨#[_]⟩,_,?_,rfl⟩
   rw [cps_app,hz]
   rfl
  ·rintro σ H2 ⟨rfl,z,v,hz,rfl⟩
   have hzl:z.length=n7:=by rw [← len_cps,hz,wdL_len]
   have zw:z.cps.toList=wrdF c:=by unfold wrdF;rw [hn7,Int.toNat_natCast];exact hz
   obtain ⟨at7,ha7⟩:=Int.eq_ofNat_of_zero_le (Int.emod_nonneg (c / 49) (show c % 7+1≠0 by omega))
   have ha8:(at7:Int)≤n7:=by
    have:=Int.emod_lt_of_pos (c / 49) (show 0<c % 7+1 by omega)
    omega
   walk_at "gs"
   refine mid (fun σ' H'=>H2=H'∧∃ v,σ'=[some (.int c),some (.int k),some (.str lettersS),some (.str z),some (.int (rsI (c / 7 % 10 ^ 12) n7)),v,some (.int (c / 49 % (c % 7+1))),some (.int (numF c k)),none,none]) ?_ ?_
   ·intro N hN
    unfold numF at hN
    walk_at "gs"
    split
    ·rename_i g
     rw [if_pos g] at hN
     exact hN _ _ ⟨rfl,_,rfl⟩
    ·rename_i g
     rw [if_neg g] at hN
     exact hN _ _ ⟨rfl,_,rfl⟩
   rintro σ3 H3 ⟨rfl,v3,rfl⟩
   obtain ⟨b0,b1⟩:=numF_lt (c:=c) hk
   have hd1:=letters_at (i:=numF c k % 26) (by omega) (by omega)
   have hd2:=letters_at (i:=numF c k / 26) (by omega) (by omega)
   rw [ha7]
   walk_at "gs"
   refine ⟨_,hd1,?_⟩
   walk_at "gs"
   refine ⟨_,hd2,?_⟩
   walk_at "gs"
   have l1:=Txt.slice_le z none (some (at7:Int))
   have l2:=Txt.slice_le z (some (at7:Int)) none
   have lz:("z" : Str).length=1:=by decide +kernel
   have en:Txt.slice z none (some (at7:Int)) ++ ((⟨#[97+(numF c k % 26).toNat]⟩:Str) ++ ⟨#[97+(numF c k / 26).toNat]⟩) ++ Txt.slice z (some (at7:Int)) none=nm0 c k:=by
    refine str_of ?_
    rw [cps_app,cps_app,cps_app,slice_to (by omega) (by omega),slice_from (by omega) (by omega),zw]
    unfold nm0L
    rw [ha7,Int.toNat_natCast,List.append_assoc]
    rfl
   refine ⟨by show 1+1≤sizeLine;omega,by omega,by rw [PySem.Str.length_append];show _+(1+1)≤sizeLine;omega,by omega,by rw [PySem.Str.length_append,PySem.Str.length_append];show _+(1+1)+_≤sizeLine;omega,by show 11≤sizeLine;omega,fun p H4 n4=>?_⟩
   rw [en]
   refine ⟨_,.inr n4.sqT,rfl,by decide +kernel,?_⟩
   unfold nmF at q
   show (if inV (V.str (nm0 c k)) nearV=true then _ else _)
   have hl:=nm0_slen c k
   by_cases g:inV (.str (nm0 c k)) nearV=true
   ·rw [if_pos g] at q ⊢
    walk_at "gs"
    exact q H4 n4.same
   ·rw [if_neg g] at q ⊢
    walk_at "gs"
    exact q H4 n4.same
def words8:List Str:=["and","or","either","not","choose","most","yes","no"]
def Wd8 (w:Str) (ts:List Int):Prop:=WdOk w ts∧w∈words8
def opC (w:Str) (a c:Nat):Nat:=if w = "and" then a &&& c else if w = "or" then a ||| c else a ^^^ c
def dueC (F:Nat) (w:Str) (xs:List Nat):Nat :=
 if w = "yes" ∨ w = "no" then (if w = "yes" then F else 0) else if w = "not" then F ^^^ xs.getD 0 0 else
 if w = "choose" then (xs.getD 0 0 &&& xs.getD 1 0) ||| ((F ^^^ xs.getD 0 0) &&& xs.getD 2 0) else
 if w = "most" then (xs.getD 0 0 &&& xs.getD 1 0) ||| (xs.getD 0 0 &&& xs.getD 2 0) ||| (xs.getD 1 0 &&& xs.getD 2 0) else
 xs.tail.foldl (opC w) (xs.headD 0)
theorem gtR_lit {F m:Nat}{b:List Nat} (B:MF.Base F m b) {w:Str}{ts:List Int}{ps:List MF.Pr} (ho:MF.Ok m ps) (hw:Wd8 w ts) (h:∀ t∈ts,MF.InT m ps t) :
  MF.L F b (gtR m w ts ps).2 (gtR m w ts ps).1=dueC F w (ts.map (MF.L F b ps)):=by
 have hm:(0:Int)≤m:=by omega
 have hd:ts≠[]→∃ t0 tr,ts=t0 :: tr∧MF.InT m ps t0∧∀ x∈tr,MF.InT m ps x:=fun hn=>by
  cases ts with
  | nil=>exact absurd rfl hn
  | cons t r=>exact ⟨t,r,rfl,h t (List.mem_cons_self ..),fun x hx=>h x (List.mem_cons_of_mem _ hx)⟩
 have h8:=hw.2
 unfold words8 at h8
 simp only [List.mem_cons,List.not_mem_nil,or_false] at h8
 unfold gtR dueC
 rcases h8 with rfl | rfl | rfl | rfl | rfl | rfl | rfl | rfl
 ·obtain ⟨t0,tr,rfl,i0,ir⟩:=hd (hw.1.1 (.inl rfl))
  rw [if_pos rfl,if_neg (by decide +kernel),if_neg (by decide +kernel),if_neg (by decide +kernel),if_neg (by decide +kernel)]
  have e:opC "and" = fun a c=>a &&& c:=by funext a c;unfold opC;rw [if_pos rfl]
  rw [e]
  exact MF.andR_lit B hm tr t0 ps ho i0 ir
 ·obtain ⟨t0,tr,rfl,i0,ir⟩:=hd (hw.1.1 (.inr (.inl rfl)))
  rw [if_neg (by decide +kernel),if_pos rfl,if_neg (by decide +kernel),if_neg (by decide +kernel),if_neg (by decide +kernel),if_neg (by decide +kernel)]
  have e:opC "or" = fun a c=>a ||| c:=by funext a c;unfold opC;rw [if_neg (by decide +kernel),if_pos rfl]
  rw [e]
  exact MF.orR_lit B hm tr t0 ps ho i0 ir
 ·obtain ⟨t0,tr,rfl,i0,ir⟩:=hd (hw.1.1 (.inr (.inr (.inl rfl))))
  rw [if_neg (by decide +kernel),if_neg (by decide +kernel),if_pos rfl,if_neg (by decide +kernel),if_neg (by decide +kernel),if_neg (by decide +kernel),if_neg (by decide +kernel)]
  have e:opC "either" = fun a c=>a ^^^ c:=by funext a c;unfold opC;rw [if_neg (by decide +kernel),if_neg (by decide +kernel)]
  rw [e]
  exact MF.eiR_lit B hm tr t0 ps ho i0 ir
 ·obtain ⟨t0,tr,rfl,i0,ir⟩:=hd (hw.1.1 (.inr (.inr (.inr rfl))))
  rw [if_neg (by decide +kernel),if_neg (by decide +kernel),if_neg (by decide +kernel),if_pos rfl,if_neg (by decide +kernel),if_pos rfl]
  exact MF.L_tn i0.1
 ·have h3:=hw.1.2.1 (.inl rfl)
  match ts,h3,h with
  | [x,y,z],_,h =>
   rw [if_neg (by decide +kernel),if_neg (by decide +kernel),if_neg (by decide +kernel),if_neg (by decide +kernel),if_pos rfl,if_neg (by decide +kernel),if_neg (by decide +kernel),if_pos rfl]
   exact MF.chR_lit B hm ho (h x (by simp)) (h y (by simp)) (h z (by simp))
 ·have h3:=hw.1.2.1 (.inr rfl)
  match ts,h3,h with
  | [x,y,z],_,h =>
   rw [if_neg (by decide +kernel),if_neg (by decide +kernel),if_neg (by decide +kernel),if_neg (by decide +kernel),if_neg (by decide +kernel),if_pos rfl,if_neg (by decide +kernel),if_neg (by decide +kernel),if_neg (by decide +kernel),if_pos rfl]
   exact MF.moR_lit B hm ho (h x (by simp)) (h y (by simp)) (h z (by simp))
 ·rw [if_neg (by decide +kernel),if_neg (by decide +kernel),if_neg (by decide +kernel),if_neg (by decide +kernel),if_neg (by decide +kernel),if_neg (by decide +kernel),if_pos (by decide +kernel),if_pos rfl]
  exact MF.L_one B ps hm
 ·rw [if_neg (by decide +kernel),if_neg (by decide +kernel),if_neg (by decide +kernel),if_neg (by decide +kernel),if_neg (by decide +kernel),if_neg (by decide +kernel),if_neg (by decide +kernel),if_pos (by decide +kernel),if_neg (by decide +kernel)]
  exact MF.L_zero B ps hm
def sp_law_gate_column (K:PySem.W.Frag):Sp:=fun vs H Q _=>∃ (pc:Addr) (w:Str) (F:Nat) (xs:List Nat) (ts:List Int),vs=[.str w,.ref pc,.int F]∧SqL K H pc (xs.map nz)∧Wd8 w ts∧xs.length=ts.length∧∀ H',Same H H'→Q (.int (dueC F w xs:Nat)) H'
def rd_law_gate_column (K:PySem.W.Frag):TS:=(tSeq (tIfS (cTst (tOp (cEq K) (cVar 0) (tC (.str "not")))) (tRet (tOp (cI2 fun i j=>.int (Builtin.bitXor i j)) (cVar 2) (tOp (cIx K) (cVar 1) (tC (.int 0))))) tNext)
  (tSeq (tIfS (tOr (cTst (tOp (cEq K) (cVar 0) (tC (.str "yes")))) (cTst (tOp (cEq K) (cVar 0) (tC (.str "no"))))) (tRet (tOp cMul (cVar 2) (tCB cInt (tCons (tOp (cEq K) (cVar 0) (tC (.str "yes"))) tNil)))) tNext)
  (tSeq (tIfS (cTst (tOp (cEq K) (cVar 0) (tC (.str "choose")))) (tRet (tOp (cI2 fun i j=>.int (Builtin.bitOr i j)) (tOp (cI2 fun i j=>.int (Builtin.bitAnd i j)) (tOp (cIx K) (cVar 1) (tC (.int 0))) (tOp (cIx K) (cVar 1) (tC (.int 1)))) (tOp (cI2 fun i j=>.int (Builtin.bitAnd i j)) (tOp (cI2 fun i j=>.int (Builtin.bitXor i j)) (cVar 2) (tOp (cIx K) (cVar 1) (tC (.int 0)))) (tOp (cIx K) (cVar 1) (tC (.int 2)))))) tNext)
  (tSeq (tIfS (cTst (tOp (cEq K) (cVar 0) (tC (.str "most")))) (tRet (tOp (cI2 fun i j=>.int (Builtin.bitOr i j)) (tOp (cI2 fun i j=>.int (Builtin.bitOr i j)) (tOp (cI2 fun i j=>.int (Builtin.bitAnd i j)) (tOp (cIx K) (cVar 1) (tC (.int 0))) (tOp (cIx K) (cVar 1) (tC (.int 1)))) (tOp (cI2 fun i j=>.int (Builtin.bitAnd i j)) (tOp (cIx K) (cVar 1) (tC (.int 0))) (tOp (cIx K) (cVar 1) (tC (.int 2))))) (tOp (cI2 fun i j=>.int (Builtin.bitAnd i j)) (tOp (cIx K) (cVar 1) (tC (.int 1))) (tOp (cIx K) (cVar 1) (tC (.int 2)))))) tNext)
  (tSeq (tAsg (tOp (cIx K) (cVar 1) (tC (.int 0))) (gName 3))
  (tSeq (tFor (iList K (tSl (cSlU K) (cVar 1) (cPart (tC (.int 1))) tNoPart)) (gName 4) (tIfS (cTst (tOp (cEq K) (cVar 0) (tC (.str "and")))) (tAsg (tOp (cI2 fun i j=>.int (Builtin.bitAnd i j)) (cVar 3) (cVar 4)) (gName 3)) (tIfS (cTst (tOp (cEq K) (cVar 0) (tC (.str "or")))) (tAsg (tOp (cI2 fun i j=>.int (Builtin.bitOr i j)) (cVar 3) (cVar 4)) (gName 3)) (tAsg (tOp (cI2 fun i j=>.int (Builtin.bitXor i j)) (cVar 3) (cVar 4)) (gName 3)))))
  (tRet (cVar 3))))))))
theorem tm_law_gate_column (T:Txt K mg a) {cdv:Value}{A:Around}{outer:List Env}{s:Shared}{H:Hp}{E:XK} (hr:Room 0 (A.deeper (envOfC "_law_gate_column" (defScope s_law_gate_column) s.heap.objs.size a.f_law_gate_column cdv))) :
  PSs (cxOf CX0 P w K mg base N_law_gate_column "_law_gate_column" (defScope s_law_gate_column) a.f_law_gate_column cdv A outer s H E).nox (defBody s_law_gate_column) (rd_law_gate_column K) :=
 (pss_cons (ps_if (t_cmp (o_eq (hr8 hr)) (cv 0) pe_str (nomark _)) (pss_one (ps_ret (pe_op o_xor (cv 2) (pe_ix i_seq (cv 1) pe_int (fun _ _=>rfl))))) pss_nil)
   (pss_cons (ps_if (PW.pt (pw_or (t_cmp (o_eq (hr8 hr)) (cv 0) pe_str (nomark _)) (pw_or1 (t_cmp (o_eq (hr8 hr)) (cv 0) pe_str (nomark _))))) (pss_one (ps_ret (pe_op o_mul (cv 2) (pe_callTy c_int (by rfl) T.no_int PyProof.Rows.boot_int (pa_cons (pe_cmpR (o_eq (hr8 hr)) (cv 0) pe_str (nomark _)) pa_nil))))) pss_nil)
   (pss_cons (ps_if (t_cmp (o_eq (hr8 hr)) (cv 0) pe_str (nomark _)) (pss_one (ps_ret (pe_op o_or (pe_op o_and (pe_ix i_seq (cv 1) pe_int (fun _ _=>rfl)) (pe_ix i_seq (cv 1) pe_int (fun _ _=>rfl))) (pe_op o_and (pe_op o_xor (cv 2) (pe_ix i_seq (cv 1) pe_int (fun _ _=>rfl))) (pe_ix i_seq (cv 1) pe_int (fun _ _=>rfl)))))) pss_nil)
   (pss_cons (ps_if (t_cmp (o_eq (hr8 hr)) (cv 0) pe_str (nomark _)) (pss_one (ps_ret (pe_op o_or (pe_op o_or (pe_op o_and (pe_ix i_seq (cv 1) pe_int (fun _ _=>rfl)) (pe_ix i_seq (cv 1) pe_int (fun _ _=>rfl))) (pe_op o_and (pe_ix i_seq (cv 1) pe_int (fun _ _=>rfl)) (pe_ix i_seq (cv 1) pe_int (fun _ _=>rfl)))) (pe_op o_and (pe_ix i_seq (cv 1) pe_int (fun _ _=>rfl)) (pe_ix i_seq (cv 1) pe_int (fun _ _=>rfl)))))) pss_nil)
   (pss_cons (ps_set (i:=3) sc_law_gate_column.nd rfl (by walk_at "o") (pe_ix i_seq (cv 1) pe_int (fun _ _=>rfl)))
   (pss_cons (ps_for PassesOwn.never rfl (pi_list (pe_slice s_u (cv 1) (e_part pe_int) po_none)) (pg_name (i:=4) sc_law_gate_column.nd rfl (by walk_at "o")) (pss_one (ps_if (t_cmp (o_eq (hr8 hr)) (cv 0) pe_str (nomark _)) (pss_one (ps_set (i:=3) sc_law_gate_column.nd rfl (by walk_at "o") (pe_op o_and (cv 3) (cv 4)))) (pss_one (ps_if (t_cmp (o_eq (hr8 hr)) (cv 0) pe_str (nomark _)) (pss_one (ps_set (i:=3) sc_law_gate_column.nd rfl (by walk_at "o") (pe_op o_or (cv 3) (cv 4)))) (pss_one (ps_set (i:=3) sc_law_gate_column.nd rfl (by walk_at "o") (pe_op o_xor (cv 3) (cv 4)))))))))
   (pss_one (ps_ret (cv 3)))))))))
theorem ok_law_gate_column (T:Txt K mg a):FnOk P w K mg base CX0 1 a.f_law_gate_column a.d_law_gate_column ["_law_word","_law_some","_law_full"] (sp_law_gate_column K):=by
 refine T.fn_law_gate_column.ok sc_law_gate_column (fun vs H Q E h=>?_) (fun cdv A outer s H vs Q E hr h=>⟨_,tm_law_gate_column T hr,?_⟩)
 ·obtain ⟨pc,w,F,xs,ts,rfl,_⟩:=h;rfl
 ·obtain ⟨pc,w,F,xs,ts,rfl,hX,hw,hl,q⟩:=h
  show rd_law_gate_column K _ [some (.str w),some (.ref pc),some (.int F),none,none] H
  unfold rd_law_gate_column
  unfold dueC at q
  have ix:∀ i:Nat,i<xs.length→atI (xs.map nz) (i:Int)=some (.int (xs.getD i 0:Nat)):=fun i hi=>by
   have:=at_nz (cs:=xs) (i:=(i:Int)) (by omega) (by omega)
   rw [Int.toNat_natCast] at this
   exact this
  have h8:=hw.2
  unfold words8 at h8
  simp only [List.mem_cons,List.not_mem_nil,or_false] at h8
  walk_at "gs"
  by_cases h3:w = "not"
  ·have hyn:¬ (w = "yes" ∨ w = "no"):=by rw [h3];decide +kernel
   rw [if_neg hyn] at q
   rw [if_pos h3] at q ⊢
   have hn:=hw.1.1 (.inr (.inr (.inr h3)))
   have hp:0<xs.length:=by rw [hl];exact List.length_pos_iff.mpr hn
   walk_at "gs"
   refine ⟨_,_,.inl hX,ix 0 hp,?_⟩
   walk_at "gs"
   rw [xor_nat]
   exact q H (Same.refl _)
  rw [if_neg h3]
  by_cases h1:w = "yes"
  ·rw [if_pos h1]
   rw [if_pos (.inl h1),if_pos h1] at q
   walk_at "gs"
   rw [if_pos h1,Int.mul_one]
   exact q H (Same.refl _)
  rw [if_neg h1]
  by_cases h2:w = "no"
  ·rw [if_pos h2]
   rw [if_pos (.inr h2),if_neg h1] at q
   walk_at "gs"
   rw [if_neg h1,Int.mul_zero]
   exact q H (Same.refl _)
  rw [if_neg h2]
  rw [if_neg (fun z=>z.elim h1 h2),if_neg h3] at q
  by_cases h4:w = "choose"
  ·rw [if_pos h4] at q ⊢
   have hp:xs.length=3:=by rw [hl];exact hw.1.2.1 (.inl h4)
   walk_at "gs"
   refine ⟨_,_,.inl hX,ix 0 (by omega),_,_,.inl hX,ix 1 (by omega),?_⟩
   walk_at "gs"
   refine ⟨_,_,.inl hX,ix 0 (by omega),?_⟩
   walk_at "gs"
   refine ⟨_,_,.inl hX,ix 2 (by omega),?_⟩
   walk_at "gs"
   rw [and_nat,xor_nat,and_nat,or_nat]
   exact q H (Same.refl _)
  rw [if_neg h4] at q ⊢
  by_cases h5:w = "most"
  ·rw [if_pos h5] at q ⊢
   have hp:xs.length=3:=by rw [hl];exact hw.1.2.1 (.inr h5)
   walk_at "gs"
   refine ⟨_,_,.inl hX,ix 0 (by omega),_,_,.inl hX,ix 1 (by omega),?_⟩
   walk_at "gs"
   refine ⟨_,_,.inl hX,ix 0 (by omega),_,_,.inl hX,ix 2 (by omega),?_⟩
   walk_at "gs"
   refine ⟨_,_,.inl hX,ix 1 (by omega),_,_,.inl hX,ix 2 (by omega),?_⟩
   walk_at "gs"
   rw [and_nat,and_nat,and_nat,or_nat,or_nat]
   exact q H (Same.refl _)
  rw [if_neg h5] at q ⊢
  have hw4:w = "and" ∨ w = "or" ∨ w = "either":=by
   rcases h8 with h | h | h | h | h | h | h | h
   ·exact .inl h
   ·exact .inr (.inl h)
   ·exact .inr (.inr h)
   ·exact absurd h h3
   ·exact absurd h h4
   ·exact absurd h h5
   ·exact absurd h h1
   ·exact absurd h h2
  have hn:ts≠[]:=hw.1.1 (by rcases hw4 with h | h | h;exact .inl h;exact .inr (.inl h);exact .inr (.inr (.inl h)))
  have hp:0<xs.length:=by rw [hl];exact List.length_pos_iff.mpr hn
  walk_at "gs"
  refine ⟨_,_,.inl hX,ix 0 hp,?_⟩
  walk_at "gs"
  refine ⟨_,hX,fun r H1 n1=>?_⟩
  rw [cut_1,← List.map_drop] at n1
  cases xs with
  | nil=>simp at hp
  | cons x0 xr =>
   have n1':New H r (.lst (xr.map nz)) H1:=n1
   refine ⟨⟨_,n1'.sq⟩,for_listG (xs:=xr.map nz) (fun i σ H2=>H2=H1∧∃ v,σ=[some (.str w),some (.ref pc),some (.int F),some (.int ((xr.take i).foldl (opC w) x0:Nat)),v]) ⟨rfl,_,rfl⟩ ?_ ?_ ?_⟩
   ·rintro i σ H2 _ ⟨rfl,_⟩
    exact n1'.sq
   ·rintro i x σ H2 hx ⟨rfl,v,rfl⟩
    obtain ⟨y,hy,rfl⟩:=get_map_of hx
    have e:(xr.take (i+1)).foldl (opC w) x0=opC w ((xr.take i).foldl (opC w) x0) y:=by
     rw [List.take_add_one,hy,List.foldl_append];rfl
    rw [e]
    unfold opC nz
    walk_at "gs"
    by_cases g1:w = "and"
    ·rw [if_pos g1]
     walk_at "gs"
     rw [and_nat,if_pos g1]
     exact ⟨_,rfl⟩
    rw [if_neg g1]
    by_cases g2:w = "or"
    ·rw [if_pos g2]
     walk_at "gs"
     rw [or_nat,if_neg g1,if_pos g2]
     exact ⟨_,rfl⟩
    ·rw [if_neg g2]
     walk_at "gs"
     rw [xor_nat,if_neg g1,if_neg g2]
     exact ⟨_,rfl⟩
   ·rintro σ H2 ⟨rfl,v,rfl⟩
    rw [List.length_map,List.take_length]
    walk_at "gs"
    exact q H2 n1.same
def icol (i:Nat):Nat→Nat
 | 0=>0
 | j+1=>if j / 2 ^ i % 2=1 then icol i j ||| 2 ^ j else icol i j
theorem icol_bit (i l:Nat):∀ j,(icol i j).testBit l=(decide (l<j) && l.testBit i)
 | 0=>by show (0:Nat).testBit l=_;simp
 | j+1=>by
  have ih:=icol_bit i l j
  have hb:l.testBit i=decide (l / 2 ^ i % 2=1):=Nat.testBit_eq_decide_div_mod_eq
  unfold icol
  split
  ·rename_i h
   rw [Nat.testBit_or,ih,Nat.testBit_two_pow]
   by_cases e:l=j
   ·subst e;rw [hb];simp [h]
   ·have e1:decide (j=l)=false:=decide_eq_false fun z=>e z.symm
    have e2:decide (l<j+1)=decide (l<j):=decide_eq_decide.mpr (by omega)
    rw [e1,e2,Bool.or_false]
  ·rename_i h
   rw [ih]
   by_cases e:l=j
   ·subst e;rw [hb];simp [h]
   ·have e2:decide (l<j+1)=decide (l<j):=decide_eq_decide.mpr (by omega)
    rw [e2]
theorem icol_in {m i:Nat} (h:i<m):icol i (2 ^ m)=(MC.inC m).1.getD i 0:=by
 refine Nat.eq_of_testBit_eq fun l=>?_
 rw [icol_bit]
 by_cases hl:l<2 ^ m
 ·rw [MC.inC_bit m i l h hl,decide_eq_true hl,Bool.true_and]
 ·rw [decide_eq_false hl,Bool.false_and]
  have hm:(MC.inC m).1.getD i 0∈(MC.inC m).1:=by
   have:i<(MC.inC m).1.length:=by rw [MC.inC_len];exact h
   simp [List.getD,this]
  exact (MC.tb_lt (MC.inC_lt m _ hm) (by omega)).symm
def sp_law_input (_:PySem.W.Frag):Sp:=fun vs H Q _=>∃ m i:Nat,vs=[.int m,.int i]∧m≤10∧i<m∧Q (.int ((MC.inC m).1.getD i 0:Nat)) H
def rd_law_input (K:PySem.W.Frag):TS:=(tSeq (tAsg (tC (.int 0)) (gName 2))
  (tSeq (tFor (iRng1 (tCons (tOp (cI2c CPow fun i j=>.int (i * 2 ^ j.toNat)) (tC (.int 1)) (cVar 0)) tNil)) (gName 3) (tIfS (cTst (tOp (cEq K) (tOp (cI2 fun i j=>.int (Builtin.bitAnd i j)) (tOp (cI2c (fun _ j=>0≤j) fun i j=>.int (i / 2 ^ j.toNat)) (cVar 3) (cVar 1)) (tC (.int 1))) (tC (.int 1)))) (tAsg (tOp (cI2 fun i j=>.int (Builtin.bitOr i j)) (cVar 2) (tOp (cI2c CPow fun i j=>.int (i * 2 ^ j.toNat)) (tC (.int 1)) (cVar 3))) (gName 2)) tNext))
  (tRet (cVar 2))))
theorem tm_law_input (T:Txt K mg a) {cdv:Value}{A:Around}{outer:List Env}{s:Shared}{H:Hp}{E:XK} (hr:Room 0 (A.deeper (envOfC "_law_input" (defScope s_law_input) s.heap.objs.size a.f_law_input cdv))) :
  PSs (cxOf CX0 P w K mg base N_law_input "_law_input" (defScope s_law_input) a.f_law_input cdv A outer s H E).nox (defBody s_law_input) (rd_law_input K) :=
 (pss_cons (ps_set (i:=2) sc_law_input.nd rfl (by walk_at "o") pe_int)
   (pss_cons (ps_for PassesOwn.never rfl (pi_range1 rfl T.no_range (pa_cons (pe_op o_shl pe_int (cv 0)) pa_nil)) (pg_name (i:=3) sc_law_input.nd rfl (by walk_at "o")) (pss_one (ps_if (t_cmp (o_eq (hr8 hr)) (pe_op o_and (pe_op o_shr (cv 3) (cv 1)) pe_int) pe_int (nomark _)) (pss_one (ps_set (i:=2) sc_law_input.nd rfl (by walk_at "o") (pe_op o_or (cv 2) (pe_op o_shl pe_int (cv 3))))) pss_nil)))
   (pss_one (ps_ret (cv 2)))))
theorem ok_law_input (T:Txt K mg a):FnOk P w K mg base CX0 1 a.f_law_input a.d_law_input ["_law_many","_law_at"] (sp_law_input K):=by
 refine T.fn_law_input.ok sc_law_input (fun vs H Q E h=>?_) (fun cdv A outer s H vs Q E hr h=>⟨_,tm_law_input T hr,?_⟩)
 ·obtain ⟨m,i,rfl,_⟩:=h;rfl
 ·obtain ⟨m,i,rfl,hm,hi,q⟩:=h
  show rd_law_input K _ [some (.int m),some (.int i),none,none] H
  unfold rd_law_input
  rw [← icol_in hi] at q
  have big:(5000:Nat)≤sizeLine:=by decide
  have hp10:(2:Nat) ^ m≤2 ^ 10:=Nat.pow_le_pow_right (by decide) hm
  have ec:(1 * 2 ^ ((m:Int)).toNat:Int)=((2 ^ m:Nat):Int):=by simp
  walk_at "gs"
  rw [ec]
  generalize hN:2 ^ m=N at *
  walk_at "gs"
  rw [Int.toNat_natCast]
  refine for_rngG (fun j σ H3=>H3=H∧∃ (v5:Option V),σ=[some (.int m),some (.int i),some (.int (icol i j:Nat)),v5]) ⟨rfl,_,rfl⟩ ?_ ?_
  ·rintro j σ H3 hj ⟨rfl,v5,rfl⟩
   have cond:(Builtin.bitAnd ((0+(j:Int)) / 2 ^ ((i:Int)).toNat) 1=1) ↔ j / 2 ^ i % 2=1:=by
    have e1:((0:Int)+(j:Int)) / 2 ^ ((i:Int)).toNat=((j / 2 ^ i:Nat):Int):=by
     rw [Int.zero_add,Int.toNat_natCast]
     simp
    rw [e1]
    have e2:=and_nat (j / 2 ^ i) 1
    rw [show ((1:Nat):Int)=1 from rfl] at e2
    rw [e2,Nat.and_one_is_mod]
    omega
   walk_at "gs"
   by_cases hc:j / 2 ^ i % 2=1
   ·have ie:icol i (j+1)=icol i j ||| 2 ^ j:=by show (if _ then _ else _)=_;rw [if_pos hc]
    rw [if_pos (cond.mpr hc),ie]
    walk_at "gs"
    have e:((1:Int) * 2 ^ ((0:Int)+(j:Int)).toNat)=((2 ^ j:Nat):Int):=by rw [Int.zero_add,Int.toNat_natCast];simp
    rw [e,or_nat]
    first | exact ⟨rfl,_,rfl⟩ | exact ⟨trivial,_,rfl⟩ | exact ⟨_,rfl⟩
   ·have ie:icol i (j+1)=icol i j:=by show (if _ then _ else _)=_;rw [if_neg hc]
    rw [if_neg (fun z=>hc (cond.mp z)),ie]
    first | exact ⟨rfl,_,rfl⟩ | exact ⟨trivial,_,rfl⟩ | exact ⟨_,rfl⟩
  ·rintro σ H3 ⟨rfl,v5,rfl⟩
   walk_at "gs"
   exact q
def sp_law_picked (_:PySem.W.Frag):Sp:=fun vs H Q _=>∃ (c k:Int) (n:Nat),vs=[.int c,.int n,.int k]∧1≤n∧∀ x:Nat,x<n→Q (.int x) H
def rd_law_picked (K:PySem.W.Frag):TS:=(tSeq (tIfS (cTst (tOp (cEq K) (tOp (cI2c (fun _ j=>0<j) fun i j=>.int (i % j)) (cVar 0) (tC (.int 4))) (tC (.int 3)))) (tRet (tOp (cI2c (fun _ j=>0<j) fun i j=>.int (i % j)) (tOp (cI2c CDiv fun i j=>.int (i / j)) (cVar 0) (tC (.int 4))) (cVar 1))) tNext)
  (tRet (tOp (cI2 fun i j=>.int (i - j)) (tOp (cI2 fun i j=>.int (i - j)) (cVar 1) (tC (.int 1))) (tOp (cI2c (fun _ j=>0<j) fun i j=>.int (i % j)) (tOp cAdd (tOp (cI2c CDiv fun i j=>.int (i / j)) (cVar 0) (tC (.int 4))) (tOp cMul (cVar 2) (tOp cAdd (tC (.int 1)) (tOp (cI2c (fun _ j=>0<j) fun i j=>.int (i % j)) (tOp (cI2c CDiv fun i j=>.int (i / j)) (cVar 0) (tC (.int 24))) (tC (.int 3)))))) (tCB cMin (tCons (cVar 1) (tCons (tC (.int 6)) tNil)))))))
theorem tm_law_picked (T:Txt K mg a) {cdv:Value}{A:Around}{outer:List Env}{s:Shared}{H:Hp}{E:XK} (hr:Room 0 (A.deeper (envOfC "_law_picked" (defScope s_law_picked) s.heap.objs.size a.f_law_picked cdv))) :
  PSs (cxOf CX0 P w K mg base N_law_picked "_law_picked" (defScope s_law_picked) a.f_law_picked cdv A outer s H E).nox (defBody s_law_picked) (rd_law_picked K) :=
 (pss_cons (ps_if (t_cmp (o_eq (hr8 hr)) (pe_op o_mod (cv 0) pe_int) pe_int (nomark _)) (pss_one (ps_ret (pe_op o_mod (pe_op o_fdiv (cv 0) pe_int) (cv 1)))) pss_nil)
   (pss_one (ps_ret (pe_op o_sub (pe_op o_sub (cv 1) pe_int) (pe_op o_mod (pe_op o_add (pe_op o_fdiv (cv 0) pe_int) (pe_op o_mul (cv 2) (pe_op o_add pe_int (pe_op o_mod (pe_op o_fdiv (cv 0) pe_int) pe_int)))) (pe_callB (c_min rfl) (by rfl) T.no_min PyProof.Rows.boot_min (pa_cons (cv 1) (pa_cons pe_int pa_nil))))))))
theorem ok_law_picked (T:Txt K mg a):FnOk P w K mg base CX0 1 a.f_law_picked a.d_law_picked ["_law_cell","_law_count","_law_k"] (sp_law_picked K):=by
 refine T.fn_law_picked.ok sc_law_picked (fun vs H Q E h=>?_) (fun cdv A outer s H vs Q E hr h=>⟨_,tm_law_picked T hr,?_⟩)
 ·obtain ⟨c,k,n,rfl,_⟩:=h;rfl
 ·obtain ⟨c,k,n,rfl,hn,q⟩:=h
  show rd_law_picked K _ [some (.int c),some (.int n),some (.int k)] H
  unfold rd_law_picked
  walk_at "gs"
  by_cases h:c % 4=3
  ·rw [if_pos h]
   walk_at "gs"
   have b0:=Int.emod_nonneg (c / 4) (show (n:Int)≠0 by omega)
   have b1:=Int.emod_lt_of_pos (c / 4) (show 0<(n:Int) by omega)
   obtain ⟨x,hx⟩:=Int.eq_ofNat_of_zero_le b0
   rw [hx] at b1 ⊢
   exact q x (by omega)
  ·rw [if_neg h]
   walk_at "gs"
   generalize hA:(if (6:Int)<n then (6:Int) else (n:Int))=A
   have a1:1≤A∧A≤n:=by rw [← hA];split <;> omega
   walk_at "gs"
   generalize c / 4+k * (1+c / 24 % 3)=B
   have b0:=Int.emod_nonneg B (show A≠0 by omega)
   have b1:=Int.emod_lt_of_pos B (show 0<A by omega)
   obtain ⟨x,hx⟩:=Int.eq_ofNat_of_zero_le (show 0≤(n:Int) - 1 - B % A by omega)
   rw [hx]
   exact q x (by omega)
def arsK:List (Key × V):=[(.inr "not",.int 1),(.inr "choose",.int 3),(.inr "most",.int 3),(.inr "yes",.int 0),(.inr "no",.int 0)]
theorem ar_of {wd:Str} (h:wd∈words8) (d:Int) (h0:2≤d) (h1:d≤6):∃ n:Nat,(valV arsK (Sum.inr wd)).getD (.int d)=.int n∧n≤6∧GM.Ar wd n∧WdA wd n:=by
  unfold words8 at h
  simp only [List.mem_cons,List.not_mem_nil,or_false] at h
  obtain ⟨k,rfl⟩:=Int.eq_ofNat_of_zero_le (show 0≤d by omega)
  have nn:∀ {w:Str}{n:Nat},w ≠ "not" → w ≠ "choose" → w ≠ "most" → GM.Ar w n:=fun a b c=>⟨fun z=>absurd z a,fun z=>absurd z b,fun z=>absurd z c⟩
  have n2:∀ {w:Str}{n:Nat},n≠0→¬ (w = "choose" ∨ w = "most")→WdA w n:=fun a b=>⟨fun _=>a,fun z=>absurd z b⟩
  rcases h with rfl | rfl | rfl | rfl | rfl | rfl | rfl | rfl
  · exact ⟨k, (by have z : valV arsK (Sum.inr ("and" : Str)) = none := by decide +kernel
                  rw [z];rfl),by omega,nn (by decide +kernel) (by decide +kernel) (by decide +kernel),n2 (by omega) (by decide +kernel)⟩
  · exact ⟨k, (by have z : valV arsK (Sum.inr ("or" : Str)) = none := by decide +kernel
                  rw [z];rfl),by omega,nn (by decide +kernel) (by decide +kernel) (by decide +kernel),n2 (by omega) (by decide +kernel)⟩
  · exact ⟨k, (by have z : valV arsK (Sum.inr ("either" : Str)) = none := by decide +kernel
                  rw [z];rfl),by omega,nn (by decide +kernel) (by decide +kernel) (by decide +kernel),n2 (by omega) (by decide +kernel)⟩
  · exact ⟨1, (by have z : valV arsK (Sum.inr ("not" : Str)) = some (.int 1) := by decide +kernel
                  rw [z];rfl),by omega,⟨fun _=>rfl,fun z=>absurd z (by decide +kernel),fun z=>absurd z (by decide +kernel)⟩,n2 (by omega) (by decide +kernel)⟩
  · exact ⟨3, (by have z : valV arsK (Sum.inr ("choose" : Str)) = some (.int 3) := by decide +kernel
                  rw [z];rfl),by omega,⟨fun z=>absurd z (by decide +kernel),fun _=>rfl,fun _=>rfl⟩,⟨fun _=>by omega,fun _=>rfl⟩⟩
  · exact ⟨3, (by have z : valV arsK (Sum.inr ("most" : Str)) = some (.int 3) := by decide +kernel
                  rw [z];rfl),by omega,⟨fun z=>absurd z (by decide +kernel),fun _=>rfl,fun _=>rfl⟩,⟨fun _=>by omega,fun _=>rfl⟩⟩
  · exact ⟨0, (by have z : valV arsK (Sum.inr ("yes" : Str)) = some (.int 0) := by decide +kernel
                  rw [z];rfl),by omega,nn (by decide +kernel) (by decide +kernel) (by decide +kernel),⟨fun z=>absurd z (by decide +kernel),fun z=>absurd z (by decide +kernel)⟩⟩
  · exact ⟨0, (by have z : valV arsK (Sum.inr ("no" : Str)) = some (.int 0) := by decide +kernel
                  rw [z];rfl),by omega,nn (by decide +kernel) (by decide +kernel) (by decide +kernel),⟨fun z=>absurd z (by decide +kernel),fun z=>absurd z (by decide +kernel)⟩⟩
theorem tabW (ws:List Str) (hm:∀ w∈ws,w∈words8) {i:Int} (h0:0≤i) (h1:i<ws.length):∃ wd,atI (ws.map V.str) i=some (.str wd)∧wd∈words8:=by
 refine ⟨_,atI_map ("" : Str) h0 h1,hm _ ?_⟩
 have:i.toNat<ws.length:=by omega
 simp [List.getD,this]
def GtQ (Q:VK) (H:Hp) (n:Nat):Prop:=∀ r lp H' (w:Str) (ps:List Nat),Same H H'→H r=none→H lp=none→H' lp=some (.lst (ps.map nz))→H' r=some (.tup [.str w,.ref lp])→WdA w ps.length→GM.Ar w ps.length→ps.length≤6→w∈words8→(∀ p∈ps,p<n)→Q (.ref r) H'
def sp_law_gate_by (_:PySem.W.Frag):Sp:=fun vs H Q _=>∃ (c:Int) (n:Nat),vs=[.int c,.int n,.int 4]∧1≤n∧n≤1000∧GtQ Q H n
def rd_law_gate_by (K:PySem.W.Frag):TS:=(tSeq (tAsg (tOp (cIx K) (tLst (tVals [(.str "and"),(.str "or"),(.str "either"),(.str "not"),(.str "choose"),(.str "most"),(.str "yes"),(.str "no")])) (tOp (cI2c (fun _ j=>0<j) fun i j=>.int (i % j)) (cVar 0) (tC (.int 8)))) (gName 3))
  (tSeq (tAsg (tOp (cI2c CDiv fun i j=>.int (i / j)) (cVar 0) (tC (.int 8))) (gName 0))
  (tSeq (tAsg (tDGet2 (tDispC [(.inr "not",(.int 1)),(.inr "choose",(.int 3)),(.inr "most",(.int 3)),(.inr "yes",(.int 0)),(.inr "no",(.int 0))]) (cVar 3) (tOp cAdd (tC (.int 2)) (tOp (cI2c (fun _ j=>0<j) fun i j=>.int (i % j)) (cVar 0) (tOp (cI2 fun i j=>.int (i - j)) (cVar 2) (tC (.int 1)))))) (gName 4))
  (tSeq (tAsg (tOp (cI2c CDiv fun i j=>.int (i / j)) (cVar 0) (tOp (cI2 fun i j=>.int (i - j)) (cVar 2) (tC (.int 1)))) (gName 0))
  (tSeq (tAsg (tLst tNil) (gName 5))
  (tSeq (tFor (iRng1 (tCons (cVar 4) tNil)) (gName 6) (tSeq (tDrop (tBM K "list" rAppend (cVar 5) (tCons (tOp (cI2c (fun _ j=>0<j) fun i j=>.int (i % j)) (cVar 0) (cVar 1)) tNil)))
  (tAsg (tOp (cI2c CDiv fun i j=>.int (i / j)) (cVar 0) (cVar 1)) (gName 0))))
  (tRet (tTup (tCons (cVar 3) (tCons (cVar 5) tNil))))))))))
theorem tm_law_gate_by (T:Txt K mg a) {cdv:Value}{A:Around}{outer:List Env}{s:Shared}{H:Hp}{E:XK} (hr:Room 0 (A.deeper (envOfC "_law_gate_by" (defScope s_law_gate_by) s.heap.objs.size a.f_law_gate_by cdv))) :
  PSs (cxOf CX0 P w K mg base N_law_gate_by "_law_gate_by" (defScope s_law_gate_by) a.f_law_gate_by cdv A outer s H E).nox (defBody s_law_gate_by) (rd_law_gate_by K) :=
 (pss_cons (ps_set (i:=3) sc_law_gate_by.nd rfl (by walk_at "o") (pe_ix i_seq (pe_lst (pa_consts (vs:=[(.str "and"),(.str "or"),(.str "either"),(.str "not"),(.str "choose"),(.str "most"),(.str "yes"),(.str "no")]) rfl)) (pe_op o_mod (cv 0) pe_int) (fun _ _=>rfl)))
   (pss_cons (ps_set (i:=0) sc_law_gate_by.nd rfl (by walk_at "o") (pe_op o_fdiv (cv 0) pe_int))
   (pss_cons (ps_set (i:=4) sc_law_gate_by.nd rfl (by walk_at "o") (pe_dget2 (hu_of hr) (e_dispC [(.inr "not",(.int 1)),(.inr "choose",(.int 3)),(.inr "most",(.int 3)),(.inr "yes",(.int 0)),(.inr "no",(.int 0))] rfl (by decide +kernel) (by simp) (by decide)) (cv 3) (pe_op o_add pe_int (pe_op o_mod (cv 0) (pe_op o_sub (cv 2) pe_int))) ⟨rfl,rfl,rfl,rfl⟩))
   (pss_cons (ps_set (i:=0) sc_law_gate_by.nd rfl (by walk_at "o") (pe_op o_fdiv (cv 0) (pe_op o_sub (cv 2) pe_int)))
   (pss_cons (ps_set (i:=5) sc_law_gate_by.nd rfl (by walk_at "o") (pe_lst pa_nil))
   (pss_cons (ps_for PassesOwn.never rfl (pi_range1 rfl T.no_range (pa_cons (cv 4) pa_nil)) (pg_name (i:=6) sc_law_gate_by.nd rfl (by walk_at "o")) (pss_cons (ps_expr (pe_bm PySem.F.plainAttrs_list PySem.F.slot_list_append PySem.F.type_list_append (mtr mt_append) (cv 5) (pa_cons (pe_op o_mod (cv 0) (cv 1)) pa_nil)))
   (pss_one (ps_set (i:=0) sc_law_gate_by.nd rfl (by walk_at "o") (pe_op o_fdiv (cv 0) (cv 1))))))
   (pss_one (ps_ret (pe_tup (pa_cons (cv 3) (pa_cons (cv 5) pa_nil)))))))))))
theorem ok_law_gate_by (T:Txt K mg a):FnOk P w K mg base CX0 1 a.f_law_gate_by a.d_law_gate_by ["_law_cell","_law_count","_law_most"] (sp_law_gate_by K):=by
 refine T.fn_law_gate_by.ok sc_law_gate_by (fun vs H Q E h=>?_) (fun cdv A outer s H vs Q E hr h=>⟨_,tm_law_gate_by T hr,?_⟩)
 ·obtain ⟨c,n,rfl,_⟩:=h;rfl
 ·obtain ⟨c,n,rfl,hn,hn2,q⟩:=h
  show rd_law_gate_by K _ [some (.int c),some (.int n),some (.int 4),none,none,none,none] H
  unfold rd_law_gate_by
  have big:(1000:Nat)≤sizeLine:=by decide
  walk_at "gs"
  intro r1 H1 n1
  obtain ⟨w,hw,hw8⟩:=tabW ["and","or","either","not","choose","most","yes","no"] (by decide +kernel) (i:=c % 8) (by omega) (by simp only [List.length_cons,List.length_nil];omega)
  walk_at "gs"
  refine ⟨_,_,.inl n1.sq,hw,?_⟩
  walk_at "gs"
  intro rb Hb nb
  obtain ⟨k,hk,k6,har,hwd⟩:=ar_of hw8 (2+c / 8 % 3) (by omega) (by omega)
  refine ⟨rb,rfl,.inl ⟨_,.inl nb.at_⟩,?_⟩
  walk_at "gs"
  refine ⟨_,DGet.k (k:=.inr w) nb.at_,?_⟩
  unfold arsK at hk
  have hk':(valV [(Sum.inr ("not" : Str),V.int 1),(.inr "choose",.int 3),(.inr "most",.int 3),(.inr "yes",.int 0),(.inr "no",.int 0)] (Sum.inr w)).getD (.int (2+c / 8 % 3))=.int k:=hk
  rw [show (4:Int) - 1=3 from rfl,hk']
  walk_at "gs"
  intro lp Hc nc
  walk_at "gs"
  rw [Int.toNat_natCast]
  have s1:=n1.same.trans nb.same
  refine for_rngG (fun i σ H2=>∃ (ps:List Nat) (d:Int) (v:Option V),Same H H2∧H2 lp=some (.lst (ps.map nz))∧ps.length=i∧(∀ p∈ps,p<n)∧σ=[some (.int d),some (.int n),some (.int 4),some (.str w),some (.int k),some (.ref lp),v]) ⟨[],_,none,s1.trans nc.same,nc.at_,rfl,(fun t ht=>absurd ht (by simp)),rfl⟩ ?_ ?_
  ·rintro i σ H2 hi ⟨ps,d,v,s2,hl,hlen,hin,rfl⟩
   have b0:=Int.emod_nonneg d (show (n:Int)≠0 by omega)
   have b1:=Int.emod_lt_of_pos d (show 0<(n:Int) by omega)
   obtain ⟨x,hx⟩:=Int.eq_ofNat_of_zero_le b0
   walk_at "gs"
   refine ⟨.inl ⟨by trivial,_,.of hl⟩,?_⟩
   rw [hx] at b1 ⊢
   refine ⟨by omega,lp,_,_,rfl,rfl,hl,by rw [List.length_map];omega,?_⟩
   walk_at "gs"
   refine ⟨ps ++ [x],_,_,s2.put (s1.nil nc.was),by rw [upd_same,List.map_append];rfl,by rw [List.length_append,hlen];rfl,fun p hp=>?_,rfl⟩
   rcases List.mem_append.mp hp with hp | hp
   ·exact hin p hp
   ·rw [List.mem_singleton.mp hp];omega
  ·rintro σ H2 ⟨ps,d,v,s2,hl,hlen,hin,rfl⟩
   walk_at "gs"
   refine ⟨by show 2≤sizeLine;decide,fun r H3 n3=>?_⟩
   exact q r lp H3 w ps (s2.trans n3.same) (s2.nil n3.was) (s1.nil nc.was) (n3.same _ _ hl) n3.at_ (by rw [hlen];exact hwd) (by rw [hlen];exact har) (by omega) hw8 hin
def sp_law_gate (_:PySem.W.Frag):Sp:=fun vs H Q _=>∃ (c:Int) (n:Nat),vs=[.int c,.int n]∧1≤n∧n≤1000∧GtQ Q H n
def rd_law_gate (K:PySem.W.Frag):TS:=(tSeq (tIfS (cTst (tOp (cEq K) (tOp (cI2c (fun _ j=>0<j) fun i j=>.int (i % j)) (cVar 0) (tC (.int 2))) (tC (.int 1)))) (tRet (tCall (sp_law_gate_by K) [] E0 (tCons (tOp (cI2c CDiv fun i j=>.int (i / j)) (cVar 0) (tC (.int 2))) (tCons (cVar 1) (tCons (tC (.int 4)) tNil))))) tNext)
  (tSeq (tAsg (tOp (cI2c CDiv fun i j=>.int (i / j)) (cVar 0) (tC (.int 2))) (gName 0))
  (tSeq (tAsg (tOp (cIx K) (tLst (tVals [(.str "and"),(.str "either"),(.str "or"),(.str "choose"),(.str "most"),(.str "not"),(.str "and"),(.str "or"),(.str "yes"),(.str "no"),(.str "either"),(.str "and")])) (tOp (cI2c (fun _ j=>0<j) fun i j=>.int (i % j)) (cVar 0) (tC (.int 12)))) (gName 2))
  (tSeq (tAsg (tOp (cI2c CDiv fun i j=>.int (i / j)) (cVar 0) (tC (.int 12))) (gName 3))
  (tSeq (tAsg (tDGet2 (tDispC [(.inr "not",(.int 1)),(.inr "choose",(.int 3)),(.inr "most",(.int 3)),(.inr "yes",(.int 0)),(.inr "no",(.int 0))]) (cVar 2) (tOp cAdd (tOp cAdd (tC (.int 2)) (tOp (cI2c CDiv fun i j=>.int (i / j)) (tOp (cI2c (fun _ j=>0<j) fun i j=>.int (i % j)) (cVar 3) (tC (.int 6))) (tC (.int 4)))) (tOp (cI2c CDiv fun i j=>.int (i / j)) (tOp (cI2c (fun _ j=>0<j) fun i j=>.int (i % j)) (cVar 3) (tC (.int 6))) (tC (.int 5))))) (gName 4))
  (tRet (tTup (tCons (cVar 2) (tCons (tComp (iRng1 (tCons (cVar 4) tNil)) 1 [3,1] (gName 0) tTrue (tCall (sp_law_picked K) [] E0 (tCons (tOp cAdd (tOp (cI2c CDiv fun i j=>.int (i / j)) (cVar 1) (tC (.int 6))) (tOp cMul (tC (.int 7)) (cVar 0))) (tCons (cVar 2) (tCons (cVar 0) tNil))))) tNil)))))))))
theorem tm_law_gate (T:Txt K mg a) {cdv:Value}{A:Around}{outer:List Env}{s:Shared}{H:Hp}{E:XK} (hr:Room 1 (A.deeper (envOfC "_law_gate" (defScope s_law_gate) s.heap.objs.size a.f_law_gate cdv))) :
  PSs (cxOf CX0 P w K mg base N_law_gate "_law_gate" (defScope s_law_gate) a.f_law_gate cdv A outer s H E).nox (defBody s_law_gate) (rd_law_gate K) :=
 (pss_cons (ps_if (t_cmp (o_eq (hr8 hr)) (pe_op o_mod (cv 0) pe_int) pe_int (nomark _)) (pss_one (ps_ret (pe_call (ok_law_gate_by T) (hr.mono (by decide)) rfl T.mg_law_gate_by T.fn_law_gate_by.kp T.bi_law_gate_by .nil pass0 (pa_cons (pe_op o_fdiv (cv 0) pe_int) (pa_cons (cv 1) (pa_cons pe_int pa_nil)))))) pss_nil)
   (pss_cons (ps_set (i:=0) sc_law_gate.nd rfl (by walk_at "o") (pe_op o_fdiv (cv 0) pe_int))
   (pss_cons (ps_set (i:=2) sc_law_gate.nd rfl (by walk_at "o") (pe_ix i_seq (pe_lst (pa_consts (vs:=[(.str "and"),(.str "either"),(.str "or"),(.str "choose"),(.str "most"),(.str "not"),(.str "and"),(.str "or"),(.str "yes"),(.str "no"),(.str "either"),(.str "and")]) rfl)) (pe_op o_mod (cv 0) pe_int) (fun _ _=>rfl)))
   (pss_cons (ps_set (i:=3) sc_law_gate.nd rfl (by walk_at "o") (pe_op o_fdiv (cv 0) pe_int))
   (pss_cons (ps_set (i:=4) sc_law_gate.nd rfl (by walk_at "o") (pe_dget2 (hu_of hr) (e_dispC [(.inr "not",(.int 1)),(.inr "choose",(.int 3)),(.inr "most",(.int 3)),(.inr "yes",(.int 0)),(.inr "no",(.int 0))] rfl (by decide +kernel) (by simp) (by decide)) (cv 2) (pe_op o_add (pe_op o_add pe_int (pe_op o_fdiv (pe_op o_mod (cv 3) pe_int) pe_int)) (pe_op o_fdiv (pe_op o_mod (cv 3) pe_int) pe_int)) ⟨rfl,rfl,rfl,rfl⟩))
   (pss_one (ps_ret (pe_tup (pa_cons (cv 2) (pa_cons (pe_comp (N:=["_law_k","_law_rest","_law_count"]) (k:=1) (sel:=[3,1]) (CScope.of (defScope s_law_gate).names (by decide +kernel)) (CNames.of N_law_gate (by decide +kernel)) rfl (pi_range1 rfl T.no_range (pa_cons (cv 4) pa_nil)) (fun _ _ _ _=>(pg_name (i:=0) (show List.Nodup (["_law_k","_law_rest","_law_count"]:List Str) by decide +kernel) rfl (by walk_at "o"))) (fun _ _ _ _=>pts_nil) (fun _ _ _ _=>(pe_call (ok_law_picked T) (hr.mono (by decide)) rfl T.mg_law_picked T.fn_law_picked.kp T.bi_law_picked .nil pass0 (pa_cons (pe_op o_add (pe_op o_fdiv (cv 1) pe_int) (pe_op o_mul pe_int (cv 0))) (pa_cons (cv 2) (pa_cons (cv 0) pa_nil)))))) pa_nil))))))))))
theorem ok_law_gate (T:Txt K mg a):FnOk P w K mg base CX0 2 a.f_law_gate a.d_law_gate ["_law_cell","_law_count"] (sp_law_gate K):=by
 refine T.fn_law_gate.ok sc_law_gate (fun vs H Q E h=>?_) (fun cdv A outer s H vs Q E hr h=>⟨_,tm_law_gate T hr,?_⟩)
 ·obtain ⟨c,n,rfl,_⟩:=h;rfl
 ·obtain ⟨c,n,rfl,hn,hn2,q⟩:=h
  show rd_law_gate K _ [some (.int c),some (.int n),none,none,none] H
  unfold rd_law_gate
  have big:(1000:Nat)≤sizeLine:=by decide
  walk_at "gs"
  by_cases h:c % 2=1
  ·rw [if_pos h]
   walk_at "gs"
   exact ⟨_,n,rfl,hn,hn2,q⟩
  rw [if_neg h]
  walk_at "gs"
  intro r1 H1 n1
  obtain ⟨w,hw,hw8⟩:=tabW ["and","either","or","choose","most","not","and","or","yes","no","either","and"] (by decide +kernel) (i:=c / 2 % 12) (by omega) (by simp only [List.length_cons,List.length_nil];omega)
  walk_at "gs"
  refine ⟨_,_,.inl n1.sq,hw,?_⟩
  walk_at "gs"
  intro rb Hb nb
  obtain ⟨k,hk,k6,har,hwd⟩:=ar_of hw8 (2+c / 2 / 12 % 6 / 4+c / 2 / 12 % 6 / 5) (by omega) (by omega)
  refine ⟨rb,rfl,.inl ⟨_,.inl nb.at_⟩,?_⟩
  walk_at "gs"
  refine ⟨_,DGet.k (k:=.inr w) nb.at_,?_⟩
  unfold arsK at hk
  have hk':(valV [(Sum.inr ("not" : Str),V.int 1),(.inr "choose",.int 3),(.inr "most",.int 3),(.inr "yes",.int 0),(.inr "no",.int 0)] (Sum.inr w)).getD (.int (2+c / 2 / 12 % 6 / 4+c / 2 / 12 % 6 / 5))=.int k:=hk
  rw [hk']
  walk_at "gs"
  rw [Int.toNat_natCast]
  have s1:=n1.same.trans nb.same
  refine fun lp hlp=>comp_gen (n:=k) (item:=fun i=>.int ((0:Int)+(i:Nat))) (fun σ=>∃ v,σ=[v,some (.int (c / 2 / 12)),some (.int n)]) (fun i H3=>∃ ps:List Nat,H3 lp=some (.lst (ps.map nz))∧ps.length=i∧(∀ p∈ps,p<n)∧Same Hb H3) ⟨_,rfl⟩ ⟨[],upd_same,rfl,(fun t ht=>absurd ht (by simp)),same_upd hlp⟩ ?_ ?_ ?_ ?_
  ·intro i H3 hi _
   exact ⟨hi,fun x H4 hy=>hy⟩
  ·intro H3 _
   exact Nat.le_refl _
  ·rintro i σ2 H3 R hi ⟨v,rfl⟩ ⟨ps,h1,h2,h3,s3⟩ hR
   walk_at "gs"
   refine ⟨_,_,n,rfl,hn,fun x hx=>?_⟩
   refine ⟨_,h1,by rw [List.length_map];omega,hR _ _ ⟨_,rfl⟩ ⟨ps ++ [x],by rw [upd_same,List.map_append];rfl,by rw [List.length_append,h2];rfl,fun p hp=>?_,s3.put hlp⟩⟩
   rcases List.mem_append.mp hp with hp | hp
   ·exact h3 p hp
   ·rw [List.mem_singleton.mp hp];exact hx
  ·rintro H3 ⟨ps,h1,h2,h3,s3⟩
   walk_at "gs"
   refine ⟨by show 2≤sizeLine;decide,fun r H4 n4=>?_⟩
   have s13:=s1.trans s3
   exact q r lp H4 w ps (s13.trans n4.same) (s13.nil n4.was) (s1.nil hlp) (n4.same _ _ h1) n4.at_ (by rw [h2];exact hwd) (by rw [h2];exact har) (by omega) hw8 h3
theorem nd_inj {α:Type}:∀ {xs:List α}{i j:Nat}{x:α},xs.Nodup→xs[i]? = some x→xs[j]? = some x→i=j
 | [],_,_,_,_,h,_=>by simp at h
 | a :: r,0,0,_,_,_,_=>rfl
 | a :: r,0,j+1,x,hn,h,g=>by
  have e:a=x:=by simpa using h
  have g':r[j]? = some x:=by simpa using g
  exact absurd (e ▸ List.mem_of_getElem? g') (List.nodup_cons.mp hn).1
 | a :: r,i+1,0,x,hn,h,g=>by
  have e:a=x:=by simpa using g
  have g':r[i]? = some x:=by simpa using h
  exact absurd (e ▸ List.mem_of_getElem? g') (List.nodup_cons.mp hn).1
 | a :: r,i+1,j+1,x,hn,h,g=>by
  have:=nd_inj (List.nodup_cons.mp hn).2 (show r[i]? = some x by simpa using h) (show r[j]? = some x by simpa using g)
  omega
theorem put_get {α:Type}{ps:List (Str × α)} (hn:(ps.map (·.1)).Nodup) {i:Nat}{n:Str}{v:α} (h:ps[i]? = some (n,v)):∀ j,i<j→j≤ps.length→ME.vS ((ps.take j).foldl (fun e p=>ME.pS e p.1 p.2) []) n=some v
 | 0,hi,_=>by omega
 | j+1,hi,hj=>by
  have hp:ps[j]? = some ps[j]:=List.getElem?_eq_getElem (by omega)
  have e:(ps.take (j+1)).foldl (fun e p=>ME.pS e p.1 p.2) []=ME.pS ((ps.take j).foldl (fun e p=>ME.pS e p.1 p.2) []) ps[j].1 ps[j].2:=by
   rw [List.take_add_one,hp,List.foldl_append]
   rfl
  rw [e,ME.vS_pS]
  by_cases e1:n=ps[j].1
  ·have e2:i=j:=by
    have a1:(ps.map (·.1))[i]? = some n:=by rw [List.getElem?_map,h];rfl
    have a2:(ps.map (·.1))[j]? = some n:=by rw [List.getElem?_map,hp,e1];rfl
    exact nd_inj hn a1 a2
   subst e2
   rw [if_pos e1]
   rw [hp] at h
   rw [Option.some.inj h]
  ·rw [if_neg e1]
   refine put_get hn h j ?_ (by omega)
   rcases Nat.lt_or_ge i j with z | z
   ·exact z
   ·have:i=j:=by omega
    subst this
    rw [hp] at h
    exact absurd (congrArg Prod.fst (Option.some.inj h)).symm e1
theorem zip_get {α:Type}{ins:List Str}{vs:List α} (hl:vs.length=ins.length) (hn:ins.Nodup) {k:Nat}{n:Str}{v:α} (hk:ins[k]? = some n) (hv:vs[k]? = some v):ME.vS ((ins.zip vs).foldl (fun e p=>ME.pS e p.1 p.2) []) n=some v:=by
 have h1:(ins.zip vs).map (·.1)=ins:=by rw [List.map_fst_zip];omega
 have lz:(ins.zip vs).length=ins.length:=by rw [List.length_zip];omega
 have hz:(ins.zip vs)[k]? = some (n,v):=by rw [List.getElem?_zip_eq_some];exact ⟨hk,hv⟩
 have:=put_get (by rw [h1];exact hn) hz _ (show k<(ins.zip vs).length by rw [lz];exact (List.getElem?_eq_some_iff.mp hk).1) (Nat.le_refl _)
 rw [List.take_length] at this
 exact this
theorem col_due {F:Nat}{w:Str}{xs:List Nat} (h8:w∈words8) (hw:WdA w xs.length) (hs:∀ x∈xs,MF.Sub F x):GM.colN w xs F=dueC F w xs:=by
 have hd:xs.length≠0→∃ t0 tr,xs=t0 :: tr∧MF.Sub F t0:=fun hn=>by
  cases xs with
  | nil=>exact absurd rfl hn
  | cons t r=>exact ⟨t,r,rfl,hs t (List.mem_cons_self ..)⟩
 unfold words8 at h8
 simp only [List.mem_cons,List.not_mem_nil,or_false] at h8
 unfold GM.colN dueC
 rcases h8 with rfl | rfl | rfl | rfl | rfl | rfl | rfl | rfl
 ·obtain ⟨t0,tr,rfl,i0⟩:=hd (hw.1 (.inl rfl))
  rw [if_pos rfl,if_neg (by decide +kernel),if_neg (by decide +kernel),if_neg (by decide +kernel),if_neg (by decide +kernel)]
  have e:opC "and" = fun a c=>a &&& c:=by funext a c;unfold opC;rw [if_pos rfl]
  rw [e,List.foldl_cons,MF.and_full i0]
  rfl
 ·obtain ⟨t0,tr,rfl,i0⟩:=hd (hw.1 (.inr (.inl rfl)))
  rw [if_neg (by decide +kernel),if_pos rfl,if_neg (by decide +kernel),if_neg (by decide +kernel),if_neg (by decide +kernel),if_neg (by decide +kernel)]
  have e:opC "or" = fun a c=>a ||| c:=by funext a c;unfold opC;rw [if_neg (by decide +kernel),if_pos rfl]
  rw [e,List.foldl_cons,Nat.zero_or]
  rfl
 ·obtain ⟨t0,tr,rfl,i0⟩:=hd (hw.1 (.inr (.inr (.inl rfl))))
  rw [if_neg (by decide +kernel),if_neg (by decide +kernel),if_pos rfl,if_neg (by decide +kernel),if_neg (by decide +kernel),if_neg (by decide +kernel),if_neg (by decide +kernel)]
  have e:opC "either" = fun a c=>a ^^^ c:=by funext a c;unfold opC;rw [if_neg (by decide +kernel),if_neg (by decide +kernel)]
  rw [e,List.foldl_cons,Nat.zero_xor]
  rfl
 ·rw [if_neg (by decide +kernel),if_neg (by decide +kernel),if_neg (by decide +kernel),if_pos rfl,if_neg (by decide +kernel),if_pos rfl]
 ·rw [if_neg (by decide +kernel),if_neg (by decide +kernel),if_neg (by decide +kernel),if_neg (by decide +kernel),if_pos rfl,if_neg (by decide +kernel),if_neg (by decide +kernel),if_pos rfl]
  rfl
 ·rw [if_neg (by decide +kernel),if_neg (by decide +kernel),if_neg (by decide +kernel),if_neg (by decide +kernel),if_neg (by decide +kernel),if_pos rfl,if_neg (by decide +kernel),if_neg (by decide +kernel),if_neg (by decide +kernel),if_pos rfl]
  rfl
 ·rw [if_neg (by decide +kernel),if_neg (by decide +kernel),if_neg (by decide +kernel),if_neg (by decide +kernel),if_neg (by decide +kernel),if_neg (by decide +kernel),if_pos rfl,if_pos (by decide +kernel)]
 ·rw [if_neg (by decide +kernel),if_neg (by decide +kernel),if_neg (by decide +kernel),if_neg (by decide +kernel),if_neg (by decide +kernel),if_neg (by decide +kernel),if_neg (by decide +kernel),if_pos (by decide +kernel)]
abbrev nmO (names:List Str) (i:Nat):Str:=names.getD i ""
abbrev cO (cs:List Nat) (i:Nat):Nat:=cs.getD i 0
theorem nmO_get {names:List Str}{i:Nat} (h:i<names.length):names[i]? = some (nmO names i):=by simp [nmO,List.getD,h]
theorem nmO_mem {names:List Str}{i:Nat} (h:i<names.length):nmO names i∈names:=List.mem_of_getElem? (nmO_get h)
structure Rel (m:Nat) (ins:List Str) (gs:List Gt) (names:List Str) (cs:List Nat):Prop where
 len:cs.length=names.length
 nm:names=ins ++ gs.map (·.1)
 wg:ME.WG WdA ins gs
 wa:ME.WG GM.Ar ins gs
 nd:names.Nodup
 val:∀ k n,names[k]? = some n→∃ t,ME.vS (fdC m ins gs).1 n=some t∧MF.L (fullN m) (bC m) (fdC m ins gs).2 t=cs.getD k 0
 car:∀ k n,names[k]? = some n→ME.vS (GM.carN ins (MC.inC m).1 gs (fullN m)) n=some (cs.getD k 0)
theorem Rel.start {m:Nat}{ins:List Str} (hm:ins.length=m) (hn:ins.Nodup):Rel m ins [] ins (MC.inC m).1:=by
 have hcl:=MC.inC_len m
 refine ⟨by omega,by simp,trivial,trivial,hn,fun k n hk=>⟨2 * ((k+1:Nat):Int),?_,?_⟩,fun k n hk=>?_⟩
 ·have hi:k<ins.length:=(List.getElem?_eq_some_iff.mp hk).1
  exact zip_get (vs:=tiesI ins.length) (by unfold tiesI;rw [List.length_map,List.length_range]) hn hk (by unfold tiesI;simp [hi])
 ·show MF.litC (fullN m) (bC m) _=_
  unfold MF.litC
  rw [if_neg (by omega),show (2 * ((k+1:Nat):Int) / 2).toNat=k+1 by omega]
  rfl
 ·have hi:k<(MC.inC m).1.length:=by have:=(List.getElem?_eq_some_iff.mp hk).1;omega
  exact zip_get (vs:=(MC.inC m).1) (by omega) hn hk (by simp [List.getD,hi])
theorem Rel.ok {m:Nat}{ins:List Str}{gs:List Gt}{names:List Str}{cs:List Nat} (hm:ins.length=m) (R:Rel m ins gs names cs):FdOk m (0+gs.length) names (fdC m ins gs):=by
 rw [R.nm,← hm]
 exact fd_all (by omega) gs 0 ins _ R.wg (fd0_ok ins)
theorem Rel.ties {m:Nat}{ins:List Str}{gs:List Gt}{names:List Str}{cs:List Nat} (R:Rel m ins gs names cs) {ps:List Nat} (h:∀ p∈ps,p<names.length) :
  ((ps.map (nmO names)).map fun p=>(ME.vS (fdC m ins gs).1 p).getD 0).map (MF.L (fullN m) (bC m) (fdC m ins gs).2)=ps.map (cO cs):=by
 rw [List.map_map,List.map_map]
 refine List.map_congr_left fun p hp=>?_
 obtain ⟨t,h1,h2⟩:=R.val p _ (nmO_get (h p hp))
 show MF.L (fullN m) (bC m) (fdC m ins gs).2 ((ME.vS (fdC m ins gs).1 (nmO names p)).getD 0)=_
 rw [h1]
 exact h2
theorem Rel.cars {m:Nat}{ins:List Str}{gs:List Gt}{names:List Str}{cs:List Nat} (R:Rel m ins gs names cs) {ps:List Nat} (h:∀ p∈ps,p<names.length) :
  ((ps.map (nmO names)).map fun p=>(ME.vS (GM.carN ins (MC.inC m).1 gs (fullN m)) p).getD 0)=ps.map (cO cs):=by
 rw [List.map_map]
 refine List.map_congr_left fun p hp=>?_
 show (ME.vS (GM.carN ins (MC.inC m).1 gs (fullN m)) (nmO names p)).getD 0=_
 rw [R.car p _ (nmO_get (h p hp))]
 rfl
theorem Rel.sub {m:Nat}{ins:List Str}{gs:List Gt}{names:List Str}{cs:List Nat} (R:Rel m ins gs names cs) {i:Nat} (h:i<names.length):MF.Sub (fullN m) (cO cs i):=by
 obtain ⟨t,_,h2⟩:=R.val i _ (nmO_get h)
 show MF.Sub (fullN m) (cs.getD i 0)
 rw [← h2]
 exact MF.L_sub (baseC m) _ _
theorem Rel.mem {names:List Str}{ps:List Nat} (h:∀ p∈ps,p<names.length):∀ n∈ps.map (nmO names),n∈names:=fun n hn=>by
 obtain ⟨p,hp,rfl⟩:=List.mem_map.mp hn
 exact nmO_mem (h p hp)
theorem Rel.snoc {m:Nat}{ins:List Str}{gs:List Gt}{names:List Str}{cs:List Nat} (hm:ins.length=m) (R:Rel m ins gs names cs) {n w:Str}{ps:List Nat} (hn:n ∉ names) (hp:∀ p∈ps,p<names.length)
  (hw:WdA w ps.length) (ha:GM.Ar w ps.length) (h6:ps.length≤6) (h8:w∈words8):Rel m ins (gs ++ [(n,w,ps.map (nmO names))]) (names ++ [n]) (cs ++ [dueC (fullN m) w (ps.map (cO cs))]):=by
 have B:=baseC m
 have fok:=R.ok hm
 have hpm:=Rel.mem hp
 have hargs:=fok.args hpm
 have hm0:(0:Int)≤m:=by omega
 have hwd:WdOk w ((ps.map (nmO names)).map fun p=>(ME.vS (fdC m ins gs).1 p).getD 0):=wd_of (by rw [List.length_map,List.length_map];exact hw) (by rw [List.length_map,List.length_map];exact h6)
 have hlit:=gtR_lit B fok.ok ⟨hwd,h8⟩ hargs
 rw [R.ties hp] at hlit
 have hst:=gtR_st hm0 hwd hargs
 have e:fdC m ins (gs ++ [(n,w,ps.map (nmO names))])=fdS m (fdC m ins gs) (n,w,ps.map (nmO names)):=by unfold fdC;rw [List.foldl_append];rfl
 have ek0:∀ {k:Nat},k<names.length→(cs ++ [dueC (fullN m) w (ps.map (cO cs))]).getD k 0=cs.getD k 0:=fun hk'=>by
  rw [List.getD_eq_getElem?_getD,List.getD_eq_getElem?_getD,List.getElem?_append_left (by rw [R.len];exact hk')]
 have ek1:(cs ++ [dueC (fullN m) w (ps.map (cO cs))]).getD names.length 0=dueC (fullN m) w (ps.map (cO cs)):=by
  rw [← R.len,List.getD_eq_getElem?_getD,List.getElem?_append_right (Nat.le_refl _),Nat.sub_self]
  rfl
 have sp:∀ {k:Nat}{x:Str},(names ++ [n])[k]? = some x→(k<names.length∧names[k]? = some x∧x≠n)∨(k=names.length∧x=n):=fun {k x} hk=>by
  rcases Nat.lt_or_ge k names.length with hk' | hk'
  ·rw [List.getElem?_append_left hk'] at hk
   exact .inl ⟨hk',hk,fun z=>hn (z ▸ List.mem_of_getElem? hk)⟩
  ·rw [List.getElem?_append_right hk'] at hk
   have h0:k - names.length=0:=by
    rcases Nat.eq_zero_or_pos (k - names.length) with z | z
    ·exact z
    ·rw [List.getElem?_eq_none (by simp;omega)] at hk;cases hk
   rw [h0,List.getElem?_cons_zero] at hk
   exact .inr ⟨by omega,(Option.some.inj hk).symm⟩
 refine ⟨by rw [List.length_append,List.length_append,R.len];rfl,by rw [List.map_append,← List.append_assoc,← R.nm];rfl,ME.WG_snoc _ _ _ R.wg (by rw [← R.nm];exact hpm) (by show WdA w _;rw [List.length_map];exact hw) (by show (ps.map _).length≤6;rw [List.length_map];exact h6),
  ME.WG_snoc _ _ _ R.wa (by rw [← R.nm];exact hpm) (by show GM.Ar w _;rw [List.length_map];exact ha) (by show (ps.map _).length≤6;rw [List.length_map];exact h6),?_,fun k x hk=>?_,fun k x hk=>?_⟩
 ·rw [List.nodup_append]
  refine ⟨R.nd,by simp,fun a ha c hc=>?_⟩
  rw [List.mem_singleton] at hc
  subst hc
  exact fun z=>hn (z ▸ ha)
 ·rw [e]
  show ∃ t,ME.vS (ME.pS (fdC m ins gs).1 n (fdR m (fdC m ins gs) (n,w,ps.map (nmO names))).1) x=some t∧MF.L (fullN m) (bC m) (fdR m (fdC m ins gs) (n,w,ps.map (nmO names))).2 t=_
  rw [ME.vS_pS]
  rcases sp hk with ⟨hk',hk,hx⟩ | ⟨rfl,rfl⟩
  ·obtain ⟨t,h1,h2⟩:=R.val k x hk
   refine ⟨t,by rw [if_neg hx];exact h1,?_⟩
   rw [ek0 hk',← h2]
   exact hst.lit B (fok.inn x t h1)
  ·refine ⟨_,if_pos rfl,?_⟩
   rw [ek1]
   exact hlit
 ·have ec:GM.carN ins (MC.inC m).1 (gs ++ [(n,w,ps.map (nmO names))]) (fullN m)=ME.pS (GM.carN ins (MC.inC m).1 gs (fullN m)) n (GM.colN w ((ps.map (nmO names)).map fun p=>(ME.vS (GM.carN ins (MC.inC m).1 gs (fullN m)) p).getD 0) (fullN m)):=by
   unfold GM.carN ME.carry
   rw [List.foldl_append]
   rfl
  rw [ec,R.cars hp,col_due h8 (by rw [List.length_map];exact hw) (fun x hx=>by obtain ⟨p,hp',rfl⟩:=List.mem_map.mp hx;exact R.sub (hp p hp')),ME.vS_pS]
  rcases sp hk with ⟨hk',hk,hx⟩ | ⟨rfl,rfl⟩
  ·rw [if_neg hx,ek0 hk']
   exact R.car k x hk
  ·rw [if_pos rfl,ek1]
theorem eq_nz {K:PySem.W.Frag}{H:Hp}{p q:Addr}{cs:List Nat} (h1:SqL K H p (cs.map nz)) (h2:SqL K H q (cs.map nz)):EqRef K H p q true:=by
 have hf:(cs.map nz).all flatV=true:=by simp [nz,flatV]
 refine .inr (.inl ⟨_,_,h1,h2,hf,hf,?_⟩)
 unfold eqVs
 rw [beq_self_eq_true,Bool.true_and,eq_comm,List.all_eq_true]
 intro i hi
 have hi':i<cs.length:=by simpa using hi
 have:(cs.map nz).getD i .non=nz cs[i]:=by simp [List.getD,hi']
 rw [this]
 simp [nz,eqV]
theorem cutN (ns:List Int) (a b:Nat):∃ cs:List Int,cutV (ns.map V.int) (some (a:Int)) (some (b:Int))=cs.map V.int∧cs.length≤b - a:=by
 unfold cutV
 refine ⟨_,by rw [← List.map_drop,← List.map_take],?_⟩
 rw [List.length_take,List.length_drop,HT.sIx_nat,HT.sIx_nat,List.length_map]
 omega
def nms (c:Int) (n:Nat):List Str:=(List.range n).map (nmF c)
theorem nms_len (c:Int) (n:Nat):(nms c n).length=n:=by unfold nms;rw [List.length_map,List.length_range]
theorem nms_succ (c:Int) (n:Nat):nms c (n+1)=nms c n ++ [nmF c n]:=by unfold nms;rw [List.range_succ,List.map_append];rfl
theorem nms_not {c:Int}{n:Nat} (hn:n<64):nmF c n ∉ nms c n:=by
 unfold nms
 intro h
 obtain ⟨k,hk,e⟩:=List.mem_map.mp h
 rw [List.mem_range] at hk
 have:=nmF_inj (by omega) hn e
 omega
theorem nms_nodup (c:Int):∀ n,n≤64→(nms c n).Nodup
 | 0,_=>by unfold nms;simp
 | n+1,h=>by
  rw [nms_succ,List.nodup_append]
  refine ⟨nms_nodup c n (by omega),by simp,fun x hx y hy=>?_⟩
  rw [List.mem_singleton] at hy
  subst hy
  exact fun z=>nms_not (by omega) (z ▸ hx)
theorem nms_take (c:Int) {m n:Nat} (h:m≤n):(nms c n).take m=nms c m:=by
 unfold nms
 rw [← List.map_take,List.take_range]
 congr 2
 omega
theorem at_neg1 {xs:List Str}{y:Str}:atI ((xs ++ [y]).map V.str) (-1)=some (.str y):=by
 have hl:((xs ++ [y]).map V.str).length=xs.length+1:=by rw [List.length_map,List.length_append];rfl
 unfold atI ixN
 rw [hl,if_neg (by decide),if_pos (by omega)]
 show ((xs ++ [y]).map V.str)[((-1:Int)+((xs.length+1:Nat):Int)).toNat]? = _
 rw [show ((-1:Int)+((xs.length+1:Nat):Int)).toNat=xs.length by omega,List.getElem?_map,List.getElem?_append_right (Nat.le_refl _),Nat.sub_self]
 rfl
def nameV (names:List Str):V→V | .int i=>.str (nmO names i.toNat) | v=>v
def colV (cs:List Nat):V→V | .int i=>nz (cO cs i.toNat) | v=>v
theorem nameV_map (names:List Str) (ps:List Nat):(ps.map nz).map (nameV names)=(ps.map (nmO names)).map V.str:=by rw [List.map_map,List.map_map];rfl
theorem colV_map (cs:List Nat) (ps:List Nat):(ps.map nz).map (colV cs)=(ps.map (cO cs)).map nz:=by rw [List.map_map,List.map_map];rfl
theorem at_nm {names:List Str}{i:Nat} (h:i<names.length):atI (names.map V.str) (i:Int)=some (.str (nmO names i)):=atI_map ("" : Str) (by omega) (by omega)
theorem fs_cols (x y z:V):List.lookup ("columns" : Str) [("inputs",x),("gates",y),("outputs",z)]=none:=by
 have z1:(("columns" : Str) == "inputs")=false:=by decide +kernel
 have z2:(("columns" : Str) == "gates")=false:=by decide +kernel
 have z3:(("columns" : Str) == "outputs")=false:=by decide +kernel
 simp [List.lookup,z1,z2,z3]
def sp_law (K:PySem.W.Frag):Sp:=fun vs H Q _=>∃ (p:Addr) (ns:List Int),vs=[.ref p]∧SqL K H p (ns.map V.int)∧ns.length≤63∧∀ H',Q (.bl true) H'
def rd_law (a:Adr) (K:PySem.W.Frag):TS:=(tSeq (tAsg (tOp cAdd (tC (.int 1)) (tOp (cI2c (fun _ j=>0<j) fun i j=>.int (i % j)) (tCall (sp_law_cell_at K) [] E0 (tCons (cVar 0) (tCons (tC (.int 0)) tNil))) (tC (.int 10)))) (gName 1))
  (tSeq (tAsg (tComp (iRng1 (tCons (cVar 1) tNil)) 1 [0] (gName 0) tTrue (tCall (sp_law_name K) [] E0 (tCons (tOp (cI2c (fun _ j=>0<j) fun i j=>.int (i % j)) (tCall (sp_law_cell_at K) [] E0 (tCons (cVar 1) (tCons (tC (.int 1)) tNil))) (tOp (cI2c CPow fun i j=>.int (i ^ j.toNat)) (tC (.int 10)) (tC (.int 30)))) (tCons (cVar 0) tNil)))) (gName 2))
  (tSeq (tAsg (tOp (cI2 fun i j=>.int (i - j)) (tOp (cI2c CPow fun i j=>.int (i * 2 ^ j.toNat)) (tC (.int 1)) (tOp (cI2c CPow fun i j=>.int (i * 2 ^ j.toNat)) (tC (.int 1)) (cVar 1))) (tC (.int 1))) (gName 3))
  (tSeq (tAsg (tComp (iRng1 (tCons (cVar 1) tNil)) 1 [1] (gName 0) tTrue (tCall (sp_law_input K) [] E0 (tCons (cVar 1) (tCons (cVar 0) tNil)))) (gName 4))
  (tSeq (tAsg (tLst tNil) (gName 5))
  (tMid (tFor (iList K (tSl (cSlU K) (cVar 0) (cPart (tC (.int 3))) (cPart (tC (.int 33))))) (gName 6) (tSeq (tAsg (tCall (sp_law_gate K) [] E0 (tCons (cVar 6) (tCons (tCB (cLen K) (tCons (cVar 4) tNil)) tNil))) (gTup K 2 (gCons (gName 7) (gCons (gName 8) gNil))))
  (tSeq (tDrop (tBM K "list" rAppend (cVar 4) (tCons (tCall (sp_law_gate_column K) [] E0 (tCons (cVar 7) (tCons (tComp (iList K (cVar 8)) 1 [4] (gName 0) tTrue (tOp (cIx K) (cVar 1) (cVar 0))) (tCons (cVar 3) tNil)))) tNil)))
  (tSeq (tAsg (tComp (iList K (cVar 8)) 1 [2] (gName 0) tTrue (tOp (cIx K) (cVar 1) (cVar 0))) (gName 9))
  (tSeq (tDrop (tBM K "list" rAppend (cVar 2) (tCons (tCall (sp_law_name K) [] E0 (tCons (tOp (cI2c (fun _ j=>0<j) fun i j=>.int (i % j)) (tCall (sp_law_cell_at K) [] E0 (tCons (cVar 0) (tCons (tC (.int 1)) tNil))) (tOp (cI2c CPow fun i j=>.int (i ^ j.toNat)) (tC (.int 10)) (tC (.int 30)))) (tCons (tCB (cLen K) (tCons (cVar 2) tNil)) tNil))) tNil)))
  (tDrop (tBM K "list" rAppend (cVar 5) (tCons (tTup (tCons (tOp (cIx K) (cVar 2) (tUn cNeg (tC (.int 1)))) (tCons (cVar 7) (tCons (cVar 9) tNil)))) tNil))))))))
  (tSeq (tAsg (tCall (sp_law_cell_at K) [] E0 (tCons (cVar 0) (tCons (tC (.int 2)) tNil))) (gName 6))
  (tSeq (tAsg (tComp (iRng1 (tCons (tOp cAdd (tC (.int 1)) (tOp (cI2c (fun _ j=>0<j) fun i j=>.int (i % j)) (cVar 6) (tC (.int 16)))) tNil)) 1 [6,4] (gName 0) tTrue (tCall (sp_law_picked K) [] E0 (tCons (tOp cAdd (tOp (cI2c CDiv fun i j=>.int (i / j)) (cVar 1) (tC (.int 16))) (tOp cMul (tC (.int 5)) (cVar 0))) (tCons (tCB (cLen K) (tCons (cVar 2) tNil)) (tCons (cVar 0) tNil))))) (gName 8))
  (tSeq (tAsg (tMake a.c_Net (sp_Net___init__ a K) [] E0 (tCons (tSl (cSlU K) (cVar 2) tNoPart (cPart (cVar 1))) (tCons (cVar 5) (tCons (tComp (iList K (cVar 8)) 1 [2] (gName 0) tTrue (tOp (cIx K) (cVar 1) (cVar 0))) tNil)))) (gName 10))
  (tSeq (tAsg (tComp (iList K (cVar 8)) 1 [4] (gName 0) tTrue (tOp (cIx K) (cVar 1) (cVar 0))) (gName 11))
  (tSeq (tAsg (tCall (sp_folded a K) [] E0 (tCons (cVar 10) tNil)) (gTup K 2 (gCons (gName 12) (gCons (gName 13) gNil))))
  (tSeq (tAsg (tComp (iList K (cVar 13)) 1 [12] (gName 0) tTrue (tCall (sp_column a K) [] E0 (tCons (cVar 1) (tCons (cVar 0) tNil)))) (gName 14))
  (tSeq (tAsg (tCall (sp_knot_columns a K) [] E0 (tCons (cVar 12) tNil)) (gName 15))
  (tSeq (tIfS (tOr (cTst (tOp (cNe K) (cVar 14) (cVar 11))) (tOr (cTst (tOp (cNe K) (tMeth a.c_Net "columns" (sp_Net_columns a K) [] E0 (cVar 10) tNil) (cVar 11))) (cTst (tOp (cNe K) (tCB (cLen K) (tCons (cVar 15) tNil)) (tMeth a.c_Fold "total" (sp_Fold_total a K) [] E0 (cVar 12) tNil))))) (tRet (tC (.bl false))) tNext)
  (tSeq (tFor (iRng1 (tCons (tCB (cLen K) (tCons (cVar 11) tNil)) tNil)) (gName 16) (tIfS (tOr (cTru K (tCB (cIsinst K) (tCons (tOp (cIx K) (cVar 14) (cVar 16)) (tCons (tC (.ty "bool")) tNil)))) (cTst (tOp (cNe K) (tOp (cI2 fun i j=>.int (Builtin.bitXor i j)) (tOp (cIx K) (cVar 15) (tOp (cI2c CDiv fun i j=>.int (i / j)) (tOp (cIx K) (cVar 13) (cVar 16)) (tC (.int 2)))) (tOp cMul (cVar 3) (tOp (cI2c (fun _ j=>0<j) fun i j=>.int (i % j)) (tOp (cIx K) (cVar 13) (cVar 16)) (tC (.int 2))))) (tOp (cIx K) (cVar 11) (cVar 16))))) (tRet (tC (.bl false))) tNext))
  (tRet (tC (.bl true))))))))))))))))))
theorem tm_law (T:Txt K mg a) {cdv:Value}{A:Around}{outer:List Env}{s:Shared}{H:Hp}{E:XK} (hr:Room 9 (A.deeper (envOfC "law" (defScope s_law) s.heap.objs.size a.f_law cdv))) :
  PSs (cxOf CX0 P w K mg base N_law "law" (defScope s_law) a.f_law cdv A outer s H E).nox (defBody s_law) (rd_law a K) :=
 (pss_cons (ps_set (i:=1) sc_law.nd rfl (by walk_at "o") (pe_op o_add pe_int (pe_op o_mod (pe_call (ok_law_cell_at T) (hr.mono (by decide)) rfl T.mg_law_cell_at T.fn_law_cell_at.kp T.bi_law_cell_at .nil pass0 (pa_cons (cv 0) (pa_cons pe_int pa_nil))) pe_int)))
   (pss_cons (ps_set (i:=2) sc_law.nd rfl (by walk_at "o") (pe_comp (N:=["_law_k","_law_script"]) (k:=1) (sel:=[0]) (CScope.of (defScope s_law).names (by decide +kernel)) (CNames.of N_law (by decide +kernel)) rfl (pi_range1 rfl T.no_range (pa_cons (cv 1) pa_nil)) (fun _ _ _ _=>(pg_name (i:=0) (show List.Nodup (["_law_k","_law_script"]:List Str) by decide +kernel) rfl (by walk_at "o"))) (fun _ _ _ _=>pts_nil) (fun _ _ _ _=>(pe_call (ok_law_name T) (hr.mono (by decide)) rfl T.mg_law_name T.fn_law_name.kp T.bi_law_name .nil pass0 (pa_cons (pe_op o_mod (pe_call (ok_law_cell_at T) (hr.mono (by decide)) rfl T.mg_law_cell_at T.fn_law_cell_at.kp T.bi_law_cell_at .nil pass0 (pa_cons (cv 1) (pa_cons pe_int pa_nil))) (pe_op o_pow pe_int pe_int)) (pa_cons (cv 0) pa_nil))))))
   (pss_cons (ps_set (i:=3) sc_law.nd rfl (by walk_at "o") (pe_op o_sub (pe_op o_shl pe_int (pe_op o_shl pe_int (cv 1))) pe_int))
   (pss_cons (ps_set (i:=4) sc_law.nd rfl (by walk_at "o") (pe_comp (N:=["_law_at","_law_many"]) (k:=1) (sel:=[1]) (CScope.of (defScope s_law).names (by decide +kernel)) (CNames.of N_law (by decide +kernel)) rfl (pi_range1 rfl T.no_range (pa_cons (cv 1) pa_nil)) (fun _ _ _ _=>(pg_name (i:=0) (show List.Nodup (["_law_at","_law_many"]:List Str) by decide +kernel) rfl (by walk_at "o"))) (fun _ _ _ _=>pts_nil) (fun _ _ _ _=>(pe_call (ok_law_input T) (hr.mono (by decide)) rfl T.mg_law_input T.fn_law_input.kp T.bi_law_input .nil pass0 (pa_cons (cv 1) (pa_cons (cv 0) pa_nil))))))
   (pss_cons (ps_set (i:=5) sc_law.nd rfl (by walk_at "o") (pe_lst pa_nil))
   (pss_mid (ps_for PassesOwn.never rfl (pi_list (pe_slice s_u (cv 0) (e_part pe_int) (e_part pe_int))) (pg_name (i:=6) sc_law.nd rfl (by walk_at "o")) (pss_cons (ps_asg (pe_call (ok_law_gate T) (hr.mono (by decide)) rfl T.mg_law_gate T.fn_law_gate.kp T.bi_law_gate .nil pass0 (pa_cons (cv 6) (pa_cons (pe_callB c_len (by rfl) T.no_len PySem.boot_len (pa_cons (cv 4) pa_nil)) pa_nil))) (pg_tup rfl (pgs_cons (pg_name (i:=7) sc_law.nd rfl (by walk_at "o")) (pgs_cons (pg_name (i:=8) sc_law.nd rfl (by walk_at "o")) pgs_nil))))
   (pss_cons (ps_expr (pe_bm PySem.F.plainAttrs_list PySem.F.slot_list_append PySem.F.type_list_append (mtr mt_append) (cv 4) (pa_cons (pe_call (ok_law_gate_column T) (hr.mono (by decide)) rfl T.mg_law_gate_column T.fn_law_gate_column.kp T.bi_law_gate_column .nil pass0 (pa_cons (cv 7) (pa_cons (pe_comp (N:=["_law_spot","_law_columns"]) (k:=1) (sel:=[4]) (CScope.of (defScope s_law).names (by decide +kernel)) (CNames.of N_law (by decide +kernel)) rfl (pi_list (cv 8)) (fun _ _ _ _=>(pg_name (i:=0) (show List.Nodup (["_law_spot","_law_columns"]:List Str) by decide +kernel) rfl (by walk_at "o"))) (fun _ _ _ _=>pts_nil) (fun _ _ _ _=>(pe_ix i_seq (cv 1) (cv 0) (fun _ _=>rfl)))) (pa_cons (cv 3) pa_nil)))) pa_nil)))
   (pss_cons (ps_setC (i:=9) (N:=["_law_spot","_law_names"]) (k:=1) (sel:=[2]) (CScope.of (defScope s_law).names (by decide +kernel)) (CNames.of N_law (by decide +kernel)) rfl (pi_list (cv 8)) (fun _ _ _ _=>(pg_name (i:=0) (show List.Nodup (["_law_spot","_law_names"]:List Str) by decide +kernel) rfl (by walk_at "o"))) (fun _ _ _ _=>pts_nil) (fun _ _ _ _=>(pe_ix i_seq (cv 1) (cv 0) (fun _ _=>rfl))) sc_law.nd rfl (by walk_at "o") rfl)
   (pss_cons (ps_expr (pe_bm PySem.F.plainAttrs_list PySem.F.slot_list_append PySem.F.type_list_append (mtr mt_append) (cv 2) (pa_cons (pe_call (ok_law_name T) (hr.mono (by decide)) rfl T.mg_law_name T.fn_law_name.kp T.bi_law_name .nil pass0 (pa_cons (pe_op o_mod (pe_call (ok_law_cell_at T) (hr.mono (by decide)) rfl T.mg_law_cell_at T.fn_law_cell_at.kp T.bi_law_cell_at .nil pass0 (pa_cons (cv 0) (pa_cons pe_int pa_nil))) (pe_op o_pow pe_int pe_int)) (pa_cons (pe_callB c_len (by rfl) T.no_len PySem.boot_len (pa_cons (cv 2) pa_nil)) pa_nil))) pa_nil)))
   (pss_one (ps_expr (pe_bm PySem.F.plainAttrs_list PySem.F.slot_list_append PySem.F.type_list_append (mtr mt_append) (cv 5) (pa_cons (pe_tup (pa_cons (pe_ix i_seq (cv 2) (pe_un u_neg pe_int) (fun _ _=>rfl)) (pa_cons (cv 7) (pa_cons (cv 9) pa_nil)))) pa_nil)))))))))
   (pss_cons (ps_set (i:=6) sc_law.nd rfl (by walk_at "o") (pe_call (ok_law_cell_at T) (hr.mono (by decide)) rfl T.mg_law_cell_at T.fn_law_cell_at.kp T.bi_law_cell_at .nil pass0 (pa_cons (cv 0) (pa_cons pe_int pa_nil))))
   (pss_cons (ps_setC (i:=8) (N:=["_law_k","_law_cell","_law_columns"]) (k:=1) (sel:=[6,4]) (CScope.of (defScope s_law).names (by decide +kernel)) (CNames.of N_law (by decide +kernel)) rfl (pi_range1 rfl T.no_range (pa_cons (pe_op o_add pe_int (pe_op o_mod (cv 6) pe_int)) pa_nil)) (fun _ _ _ _=>(pg_name (i:=0) (show List.Nodup (["_law_k","_law_cell","_law_columns"]:List Str) by decide +kernel) rfl (by walk_at "o"))) (fun _ _ _ _=>pts_nil) (fun _ _ _ _=>(pe_call (ok_law_picked T) (hr.mono (by decide)) rfl T.mg_law_picked T.fn_law_picked.kp T.bi_law_picked .nil pass0 (pa_cons (pe_op o_add (pe_op o_fdiv (cv 1) pe_int) (pe_op o_mul pe_int (cv 0))) (pa_cons (pe_callB c_len (by rfl) T.no_len PySem.boot_len (pa_cons (cv 2) pa_nil)) (pa_cons (cv 0) pa_nil))))) sc_law.nd rfl (by walk_at "o") rfl)
   (pss_cons (ps_set (i:=10) sc_law.nd rfl (by walk_at "o") (pe_make T.mk_Net (ok_Net___init__ T) (hr.mono (by decide)) rfl T.mg_Net T.bi_Net___init__ .nil pass0 (pa_cons (pe_slice s_u (cv 2) po_none (e_part (cv 1))) (pa_cons (cv 5) (pa_cons (pe_comp (N:=["_law_spot","_law_names"]) (k:=1) (sel:=[2]) (CScope.of (defScope s_law).names (by decide +kernel)) (CNames.of N_law (by decide +kernel)) rfl (pi_list (cv 8)) (fun _ _ _ _=>(pg_name (i:=0) (show List.Nodup (["_law_spot","_law_names"]:List Str) by decide +kernel) rfl (by walk_at "o"))) (fun _ _ _ _=>pts_nil) (fun _ _ _ _=>(pe_ix i_seq (cv 1) (cv 0) (fun _ _=>rfl)))) pa_nil)))))
   (pss_cons (ps_setC (i:=11) (N:=["_law_spot","_law_columns"]) (k:=1) (sel:=[4]) (CScope.of (defScope s_law).names (by decide +kernel)) (CNames.of N_law (by decide +kernel)) rfl (pi_list (cv 8)) (fun _ _ _ _=>(pg_name (i:=0) (show List.Nodup (["_law_spot","_law_columns"]:List Str) by decide +kernel) rfl (by walk_at "o"))) (fun _ _ _ _=>pts_nil) (fun _ _ _ _=>(pe_ix i_seq (cv 1) (cv 0) (fun _ _=>rfl))) sc_law.nd rfl (by walk_at "o") rfl)
   (pss_cons (ps_asg (pe_call (ok_folded T) (hr.mono (by decide)) rfl T.mg_folded T.fn_folded.kp T.bi_folded .nil pass0 (pa_cons (cv 10) pa_nil)) (pg_tup rfl (pgs_cons (pg_name (i:=12) sc_law.nd rfl (by walk_at "o")) (pgs_cons (pg_name (i:=13) sc_law.nd rfl (by walk_at "o")) pgs_nil))))
   (pss_cons (ps_setC (i:=14) (N:=["_law_tie","_law_fold"]) (k:=1) (sel:=[12]) (CScope.of (defScope s_law).names (by decide +kernel)) (CNames.of N_law (by decide +kernel)) rfl (pi_list (cv 13)) (fun _ _ _ _=>(pg_name (i:=0) (show List.Nodup (["_law_tie","_law_fold"]:List Str) by decide +kernel) rfl (by walk_at "o"))) (fun _ _ _ _=>pts_nil) (fun _ _ _ _=>(pe_call (ok_column T) (hr.mono (by decide)) rfl T.mg_column T.fn_column.kp T.bi_column .nil pass0 (pa_cons (cv 1) (pa_cons (cv 0) pa_nil)))) sc_law.nd rfl (by walk_at "o") rfl)
   (pss_cons (ps_set (i:=15) sc_law.nd rfl (by walk_at "o") (pe_call (ok_knot_columns T) (hr.mono (by decide)) rfl T.mg_knot_columns T.fn_knot_columns.kp T.bi_knot_columns .nil pass0 (pa_cons (cv 12) pa_nil)))
   (pss_cons (ps_if (PW.pt (pw_or (t_cmp (o_ne (hr8 hr)) (cv 14) (cv 11) (nomark _)) (pw_or (t_cmp (o_ne (hr8 hr)) (pe_meth0 (cv 10) T.cl_Net T.me_Net_columns (ok_Net_columns T) (hr.mono (by decide)) T.bi_Net_columns .nil pass0) (cv 11) (nomark _)) (pw_or1 (t_cmp (o_ne (hr8 hr)) (pe_callB c_len (by rfl) T.no_len PySem.boot_len (pa_cons (cv 15) pa_nil)) (pe_meth0 (cv 12) T.cl_Fold T.me_Fold_total (ok_Fold_total T) (hr.mono (by decide)) T.bi_Fold_total .nil pass0) (nomark _)))))) (pss_one (ps_ret pe_bl)) pss_nil)
   (pss_cons (ps_for PassesOwn.never rfl (pi_range1 rfl T.no_range (pa_cons (pe_callB c_len (by rfl) T.no_len PySem.boot_len (pa_cons (cv 11) pa_nil)) pa_nil)) (pg_name (i:=16) sc_law.nd rfl (by walk_at "o")) (pss_one (ps_if (PW.pt (pw_or (pt_tru (pe_callB c_isinst (by rfl) T.no_isinstance PyProof.Rows.boot_isinstance (pa_cons (pe_ix i_seq (cv 14) (cv 16) (fun _ _=>rfl)) (pa_cons (pe_bltn (v:=.ty "bool") rfl T.no_bool PyProof.Rows.boot_bool rfl) pa_nil)))) (pw_or1 (t_cmp (o_ne (hr8 hr)) (pe_op o_xor (pe_ix i_seq (cv 15) (pe_op o_fdiv (pe_ix i_seq (cv 13) (cv 16) (fun _ _=>rfl)) pe_int) (fun _ _=>rfl)) (pe_op o_mul (cv 3) (pe_op o_mod (pe_ix i_seq (cv 13) (cv 16) (fun _ _=>rfl)) pe_int))) (pe_ix i_seq (cv 11) (cv 16) (fun _ _=>rfl)) (nomark _))))) (pss_one (ps_ret pe_bl)) pss_nil)))
   (pss_one (ps_ret pe_bl)))))))))))))))))
theorem ok_law (T:Txt K mg a):FnOk P w K mg base CX0 10 a.f_law a.d_law ["_law_script"] (sp_law K):=by
 refine T.fn_law.ok sc_law (fun vs H Q E h=>?_) (fun cdv A outer s H vs Q E hr h=>⟨_,tm_law T hr,?_⟩)
 ·obtain ⟨p,ns,rfl,_⟩:=h;rfl
 ·obtain ⟨p,ns,rfl,hS,hl,k⟩:=h
  show rd_law a K _ [some (.ref p),none,none,none,none,none,none,none,none,none,none,none,none,none,none,none,none] H
  unfold rd_law
  have big:(20000:Nat)≤sizeLine:=by decide
  walk_at "gs"
  refine ⟨p,ns,0,rfl,hS,?_⟩
  generalize celF ns 0=c0
  walk_at "gs"
  obtain ⟨m,hm⟩:=Int.eq_ofNat_of_zero_le (by omega:0≤1+c0 % 10)
  have m1:1≤m:=by omega
  have m10:m≤10:=by omega
  rw [hm]
  clear hm
  walk_at "gs"
  rw [Int.toNat_natCast]
  have hp10:(2:Nat) ^ m≤2 ^ 10:=Nat.pow_le_pow_right (by decide) m10
  have ec:(1 * 2 ^ m:Int)=((2 ^ m:Nat):Int):=by simp
  have ef:(1 * 2 ^ (((2 ^ m:Nat):Int)).toNat - 1:Int)=((fullN m:Nat):Int):=by
   have:=shl_val 1 (2 ^ m)
   rw [show ((1:Nat):Int)=1 from rfl] at this
   rw [this,Nat.one_mul]
   have h1:1≤2 ^ 2 ^ m:=Nat.one_le_two_pow
   unfold fullN
   omega
  have cp:CPow 1 ((2 ^ m:Nat):Int):=by
   generalize 2 ^ m=N at hp10
   exact ⟨by omega,by omega,by decide⟩
  obtain ⟨sh,hsh⟩:∃ sh,sh=celF ns 1 % 10 ^ 30:=⟨_,rfl⟩
  refine fun np hnp=>comp_gen (n:=m) (item:=fun i=>.int ((0:Int)+(i:Nat))) (fun σ=>∃ v,σ=[v,some (.ref p)]) (fun i H3=>H3 np=some (.lst ((nms sh i).map V.str))∧Same H H3) ⟨_,rfl⟩ ⟨upd_same,same_upd hnp⟩ ?_ ?_ ?_ ?_
  ·intro i H3 hi _
   exact ⟨hi,fun x H4 hy=>hy⟩
  ·intro H3 _
   exact Nat.le_refl _
  ·rintro i σ2 H3 R hi ⟨v,rfl⟩ ⟨h1,s3⟩ hR
   walk_at "gs"
   refine ⟨p,ns,1,rfl,s3.seq hS,?_⟩
   walk_at "gs"
   refine ⟨sh,i,by simp [hsh],by omega,fun H4 s4=>?_⟩
   refine ⟨_,s4 _ _ h1,by rw [List.length_map,nms_len];omega,hR _ _ ⟨_,rfl⟩ ⟨?_,(s3.trans s4).put hnp⟩⟩
   rw [upd_same,nms_succ,List.map_append]
   rfl
  rintro H3 ⟨h3,s3⟩
  walk_at "gs"
  rw [ec]
  refine ⟨cp,?_⟩
  rw [ef]
  clear ef ec cp hp10
  walk_at "gs"
  refine fun pc hpc=>comp_gen (n:=m) (item:=fun i=>.int ((0:Int)+(i:Nat))) (fun σ=>∃ v,σ=[v,some (.int m)]) (fun i H4=>H4 pc=some (.lst (((MC.inC m).1.take i).map nz))∧Same H3 H4) ⟨_,rfl⟩ ⟨upd_same,same_upd hpc⟩ ?_ ?_ ?_ ?_
  ·intro i H4 hi _
   exact ⟨hi,fun x H4 hy=>hy⟩
  ·intro H4 _
   exact Nat.le_refl _
  ·rintro i σ2 H4 R hi ⟨v,rfl⟩ ⟨h1,s4⟩ hR
   have hcl:=MC.inC_len m
   walk_at "gs"
   refine ⟨m,i,by simp,m10,hi,_,h1,by rw [List.length_map,List.length_take];omega,hR _ _ ⟨_,rfl⟩ ⟨?_,s4.put hpc⟩⟩
   rw [upd_same,List.take_add_one,List.getElem?_eq_getElem (show i<(MC.inC m).1.length by omega),List.map_append]
   have:(MC.inC m).1.getD i 0=(MC.inC m).1[i]'(by omega):=by simp [List.getD,show i<(MC.inC m).1.length by omega]
   rw [this]
   rfl
  rintro H4 ⟨h4,s4⟩
  rw [List.take_of_length_le (by rw [MC.inC_len];exact Nat.le_refl _)] at h4
  walk_at "gs"
  intro gp H6 n6
  have s06:Same H H6:=(s3.trans s4).trans n6.same
  have np6:=n6.same _ _ (s4 _ _ h3)
  have pc6:=n6.same _ _ h4
  have d1:np≠pc:=ne_of_none h3 hpc
  have d3:np≠gp:=ne_of_none (s4 _ _ h3) n6.was
  have d5:pc≠gp:=ne_of_none h4 n6.was
  have f1:H pc=none:=s3.nil hpc
  have f3:H gp=none:=s3.nil (s4.nil n6.was)
  have sc:Scr K H6 p (ns.map V.int) (fun b=>b=np∨b=pc∨b=gp):=by
   refine (Scr.of hS ?_).keep s06.keep
   rintro b (rfl | rfl | rfl)
   ·exact hnp
   ·exact f1
   ·exact f3
  have rel0:Rel m (nms sh m) [] (nms sh m) (MC.inC m).1:=Rel.start (nms_len sh m) (nms_nodup sh m (by omega))
  walk_at "gs"
  refine mid (fun σ' H'=>∃ (n:Nat) (gs:List Gt) (cs:List Nat) (gv:List V) (v6 v7 v8 v9:Option V),m≤n∧n≤40∧H' np=some (.lst ((nms sh n).map V.str))∧H' pc=some (.lst (cs.map nz))∧H' gp=some (.lst gv)∧GtsAt (fun b=>b≠np∧b≠pc∧b≠gp) K H' gv gs∧gs.length≤30∧Rel m (nms sh m) gs (nms sh n) cs∧Scr K H' p (ns.map V.int) (fun b=>b=np∨b=pc∨b=gp)∧σ'=[some (.ref p),some (.int m),some (.ref np),some (.int (fullN m:Nat)),some (.ref pc),some (.ref gp),v6,v7,v8,v9,none,none,none,none,none,none,none]) ?_ ?_
  ·intro N hN
   walk_at "gs"
   refine ⟨_,sc.sq,fun qs H7 n7=>?_⟩
   obtain ⟨ls,hls,hll⟩:=cutN ns 3 33
   rw [show cutV (ns.map V.int) (some 3) (some 33)=ls.map V.int from hls] at n7
   have dq1:qs≠np:=(ne_of_none np6 n7.was).symm
   have dq2:qs≠pc:=(ne_of_none pc6 n7.was).symm
   have dq3:qs≠gp:=(ne_of_none n6.at_ n7.was).symm
   refine ⟨⟨_,n7.sq⟩,for_listG (xs:=ls.map V.int) (fun i σ H8=>∃ (gs:List Gt) (cs:List Nat) (gv:List V) (v6 v7 v8 v9:Option V),H8 qs=some (.lst (ls.map V.int))∧H8 np=some (.lst ((nms sh (m+i)).map V.str))∧H8 pc=some (.lst (cs.map nz))∧H8 gp=some (.lst gv)∧GtsAt (fun b=>b≠np∧b≠pc∧b≠gp) K H8 gv gs∧gs.length=i ∧
    Rel m (nms sh m) gs (nms sh (m+i)) cs∧Scr K H8 p (ns.map V.int) (fun b=>b=np∨b=pc∨b=gp) ∧
    σ=[some (.ref p),some (.int m),some (.ref np),some (.int (fullN m:Nat)),some (.ref pc),some (.ref gp),v6,v7,v8,v9,none,none,none,none,none,none,none])
    ⟨[],(MC.inC m).1,[],none,none,none,none,n7.at_,n7.same _ _ np6,n7.same _ _ pc6,n7.same _ _ n6.at_,GtsAt.nil,rfl,rel0,sc.keep n7.same.keep,rfl⟩ ?_ ?_ ?_⟩
   ·rintro i σ H8 _ ⟨gs,cs,gv,v6,v7,v8,v9,q8,_⟩
    exact .of q8
   ·rintro i x σ H8 hx ⟨gs,cs,gv,v6,v7,v8,v9,q8,np8,pc8,gp8,G8,hgl,R8,sc8,rfl⟩
    have hi:i<30:=by have:=(List.getElem?_eq_some_iff.mp hx).1;rw [List.length_map] at this;omega
    obtain ⟨c,hc,rfl⟩:=get_map_of hx
    have hcl:cs.length=m+i:=by rw [R8.len,nms_len]
    walk_at "gs"
    refine .inl ⟨_,.inl (.of pc8),?_⟩
    rw [List.length_map,hcl]
    walk_at "gs"
    refine ⟨c,m+i,by simp,by omega,by omega,fun r lp H9 w ps s9 fr fl al ar hw ha h6 h8 hin=>?_⟩
    walk_at "gs"
    refine ⟨r,_,rfl,.of ar,rfl,_,_,rfl,_,_,rfl,rfl,?_⟩
    have np9:=s9 _ _ np8
    have pc9:=s9 _ _ pc8
    have gp9:=s9 _ _ gp8
    have e1:lp≠np:=(ne_of_none np8 fl).symm
    have e2:lp≠pc:=(ne_of_none pc8 fl).symm
    have e3:lp≠gp:=(ne_of_none gp8 fl).symm
    have hin':∀ p∈ps,p<(nms sh (m+i)).length:=fun p hp=>by rw [nms_len];exact hin p hp
    walk_at "gs"
    refine ⟨.inl ⟨by trivial,_,.of pc9⟩,⟨_,.of al⟩,compG_list (colV cs) (.of al) rfl (by rw [List.length_map];omega) ?_ ?_⟩
    ·intro y H' Q' hy s' q'
     obtain ⟨j,hj,rfl⟩:=List.mem_map.mp hy
     have hlt:=hin j hj
     walk_at "gs"
     refine ⟨_,_,.inl (.of (s' _ _ pc9)),at_nz (cs:=cs) (by omega) (by omega),?_⟩
     exact q'
    intro xq H10 n10
    rw [colV_map] at n10
    walk_at "gs"
    refine ⟨xq,w,fullN m,_,List.replicate ps.length 0,rfl,n10.sq,⟨⟨fun z e=>hw.1 z ?_,fun z=>?_,?_⟩,h8⟩,by rw [List.length_map,List.length_replicate],fun H11 s11=>?_⟩
    ·have:=congrArg List.length e;rw [List.length_replicate] at this;exact this
    ·rw [List.length_replicate];exact hw.2 z
    ·rw [List.length_replicate];exact h6
    have s911:=n10.same.trans s11
    have pc11:=s911 _ _ pc9
    have np11:=s911 _ _ np9
    have gp11:=s911 _ _ gp9
    refine ⟨pc,_,_,rfl,rfl,pc11,by rw [List.length_map];omega,?_⟩
    have ecs:cs.map nz ++ [V.int (dueC (fullN m) w (ps.map (cO cs)):Nat)]=(cs ++ [dueC (fullN m) w (ps.map (cO cs))]).map nz:=by rw [List.map_append];rfl
    rw [ecs]
    have R9:=R8.snoc (nms_len sh m) (nms_not (c:=sh) (n:=m+i) (by omega)) hin' hw ha h6 h8
    rw [← nms_succ] at R9
    generalize cs ++ [dueC (fullN m) w (ps.map (cO cs))]=cs' at R9 ⊢
    have k1:∀ {b:Addr}{o:HO},b≠pc→H11 b=some o→upd H11 pc (.lst (cs'.map nz)) b=some o:=fun n e=>by rw [upd_ne n];exact e
    have pc12:upd H11 pc (.lst (cs'.map nz)) pc=some (.lst (cs'.map nz)):=upd_same
    have np12:=k1 d1 np11
    have gp12:=k1 d5.symm gp11
    have al12:=k1 e2 (s911 _ _ al)
    have q12:=k1 dq2 (s911 _ _ (s9 _ _ q8))
    have K12:Keep (fun b=>b≠np∧b≠pc∧b≠gp) H8 (upd H11 pc (.lst (cs'.map nz))):=fun b o nb e=>k1 nb.2.1 (s911 _ _ (s9 _ _ e))
    generalize upd H11 pc (.lst (cs'.map nz))=H12 at pc12 np12 gp12 al12 q12 K12 ⊢
    walk_at "gs"
    refine ⟨⟨_,.of al12⟩,compG_list (nameV (nms sh (m+i))) (.of al12) rfl (by rw [List.length_map];omega) ?_ ?_⟩
    ·intro y H' Q' hy s' q'
     obtain ⟨j,hj,rfl⟩:=List.mem_map.mp hy
     have hlt:=hin' j hj
     walk_at "gs"
     exact ⟨_,_,.inl (.of (s' _ _ np12)),at_nm hlt,q'⟩
    intro yq H13 n13
    rw [nameV_map] at n13
    have np13:=n13.same _ _ np12
    have pc13:=n13.same _ _ pc12
    have gp13:=n13.same _ _ gp12
    have q13:=n13.same _ _ q12
    have y1:yq≠np:=(ne_of_none np12 n13.was).symm
    have y2:yq≠pc:=(ne_of_none pc12 n13.was).symm
    have y3:yq≠gp:=(ne_of_none gp12 n13.was).symm
    have K13:Keep (fun b=>b≠np∧b≠pc∧b≠gp) H8 H13:=fun b o nb e=>n13.same _ _ (K12 b o nb e)
    have sc13:Scr K H13 p (ns.map V.int) (fun b=>b=np∨b=pc∨b=gp):=sc8.keep fun b o nb e=>K13 b o ⟨fun z=>nb (.inl z),fun z=>nb (.inr (.inl z)),fun z=>nb (.inr (.inr z))⟩ e
    walk_at "gs"
    refine ⟨.inl ⟨by trivial,_,.of np13⟩,p,ns,1,rfl,sc13.sq,?_⟩
    walk_at "gs"
    refine .inl ⟨_,.inl (.of np13),?_⟩
    rw [List.length_map,nms_len]
    walk_at "gs"
    refine ⟨sh,m+i,by simp [hsh],by omega,fun H14 s14=>?_⟩
    refine ⟨np,_,_,rfl,rfl,s14 _ _ np13,by rw [List.length_map,nms_len];omega,?_⟩
    have ens:(nms sh (m+i)).map V.str ++ [V.str (nmF sh (m+i))]=(nms sh (m+i+1)).map V.str:=by rw [nms_succ,List.map_append];rfl
    rw [ens]
    have k2:∀ {b:Addr}{o:HO},b≠np→H13 b=some o→upd H14 np (.lst ((nms sh (m+i+1)).map V.str)) b=some o:=fun n e=>by rw [upd_ne n];exact s14 _ _ e
    have np15:upd H14 np (.lst ((nms sh (m+i+1)).map V.str)) np=some (.lst ((nms sh (m+i+1)).map V.str)):=upd_same
    have pc15:=k2 d1.symm pc13
    have gp15:=k2 d3.symm gp13
    have y15:=k2 y1 n13.at_
    have q15:=k2 dq1 q13
    have K15:Keep (fun b=>b≠np∧b≠pc∧b≠gp) H8 (upd H14 np (.lst ((nms sh (m+i+1)).map V.str))):=fun b o nb e=>k2 nb.1 (K13 b o nb e)
    generalize upd H14 np (.lst ((nms sh (m+i+1)).map V.str))=H15 at np15 pc15 gp15 y15 q15 K15 ⊢
    have ga:atI ((nms sh (m+i+1)).map V.str) (-1)=some (.str (nmF sh (m+i))):=by rw [nms_succ];exact at_neg1
    walk_at "gs"
    refine ⟨.inl ⟨by trivial,_,.of gp15⟩,_,_,.inl (.of np15),ga,?_⟩
    refine ⟨by show 3≤sizeLine;decide,fun tg H16 n16=>?_⟩
    have hgv:gv.length=i:=by rw [G8.1,hgl]
    refine ⟨gp,_,_,rfl,rfl,n16.same _ _ gp15,by omega,?_⟩
    have k3:∀ {b:Addr}{o:HO},b≠gp→H16 b=some o→upd H16 gp (.lst (gv ++ [.ref tg])) b=some o:=fun n e=>by rw [upd_ne n];exact e
    have t1:tg≠np:=(ne_of_none np15 n16.was).symm
    have t2:tg≠pc:=(ne_of_none pc15 n16.was).symm
    have t3:tg≠gp:=(ne_of_none gp15 n16.was).symm
    have K17:Keep (fun b=>b≠np∧b≠pc∧b≠gp) H8 (upd H16 gp (.lst (gv ++ [.ref tg]))):=fun b o nb e=>k3 nb.2.2 (n16.same _ _ (K15 b o nb e))
    refine ⟨gs ++ [(nmF sh (m+i),w,ps.map (nmO (nms sh (m+i))))],cs',gv ++ [.ref tg],_,_,_,_,k3 dq3 (n16.same _ _ q15),k3 d3 (n16.same _ _ np15),k3 d5 (n16.same _ _ pc15),upd_same,?_,by rw [List.length_append,hgl];rfl,R9,sc8.keep fun b o nb e=>K17 b o ⟨fun z=>nb (.inl z),fun z=>nb (.inr (.inl z)),fun z=>nb (.inr (.inr z))⟩ e,rfl⟩
    exact (G8.keep K17).snoc (g:=(nmF sh (m+i),w,ps.map (nmO (nms sh (m+i))))) ⟨t1,t2,t3⟩ ⟨y1,y2,y3⟩ (.of (k3 t3 n16.at_)) (.of (k3 y3 (n16.same _ _ y15)))
   ·rintro σ H8 ⟨gs,cs,gv,v6,v7,v8,v9,q8,np8,pc8,gp8,G8,hgl,R8,sc8,rfl⟩
    rw [List.length_map] at *
    exact hN _ _ ⟨_,gs,cs,gv,_,_,_,_,by omega,by omega,np8,pc8,gp8,G8,by omega,R8,sc8,rfl⟩
  rintro σ H7 ⟨n,gs,cs,gv,v6,v7,v8,v9,hn1,hn2,np7,pc7,gp7,G7,hgl,R7,sc7,rfl⟩
  have hcl:cs.length=n:=by rw [R7.len,nms_len]
  have hins:(nms sh m).length=m:=nms_len sh m
  walk_at "gs"
  refine ⟨p,ns,2,rfl,sc7.sq,?_⟩
  generalize celF ns 2=c
  walk_at "gs"
  obtain ⟨no,hno⟩:=Int.eq_ofNat_of_zero_le (by omega:0≤1+c % 16)
  rw [hno]
  walk_at "gs"
  rw [Int.toNat_natCast]
  refine fun op hop=>comp_gen (n:=no) (item:=fun i=>.int ((0:Int)+(i:Nat))) (fun σ=>∃ v,σ=[v,some (.int c),some (.ref pc)]) (fun i H8=>∃ os:List Nat,H8 op=some (.lst (os.map nz))∧os.length=i∧(∀ x∈os,x<n)∧Same H7 H8) ⟨_,rfl⟩ ⟨[],upd_same,rfl,(fun t ht=>absurd ht (by simp)),same_upd hop⟩ ?_ ?_ ?_ ?_
  ·intro i H8 hi _
   exact ⟨hi,fun x H4 hy=>hy⟩
  ·intro H8 _
   exact Nat.le_refl _
  ·rintro i σ2 H8 R hi ⟨v,rfl⟩ ⟨os,h1,h2,h3,s8⟩ hR
   walk_at "gs"
   refine .inl ⟨_,.inl (.of (s8 _ _ pc7)),?_⟩
   rw [List.length_map,hcl]
   walk_at "gs"
   refine ⟨_,_,n,rfl,by omega,fun x hx=>?_⟩
   refine ⟨_,h1,by rw [List.length_map];omega,hR _ _ ⟨_,rfl⟩ ⟨os ++ [x],by rw [upd_same,List.map_append];rfl,by rw [List.length_append,h2];rfl,fun y hy=>?_,s8.put hop⟩⟩
   rcases List.mem_append.mp hy with hy | hy
   ·exact h3 y hy
   ·rw [List.mem_singleton.mp hy];exact hx
  rintro H8 ⟨os,op8,hol,hin,s8⟩
  have hin':∀ x∈os,x<(nms sh n).length:=fun x hx=>by rw [nms_len];exact hin x hx
  have np8:=s8 _ _ np7
  have pc8:=s8 _ _ pc7
  have gp8:=s8 _ _ gp7
  walk_at "gs"
  refine ⟨_,.of np8,fun ip H9 n9=>?_⟩
  rw [cut_take _ (by omega),← List.map_take,Int.toNat_natCast,nms_take sh hn1] at n9
  walk_at "gs"
  refine ⟨⟨_,.of (n9.same _ _ op8)⟩,compG_list (nameV (nms sh n)) (.of (n9.same _ _ op8)) rfl (by rw [List.length_map];omega) ?_ ?_⟩
  ·intro y H' Q' hy s' q'
   obtain ⟨j,hj,rfl⟩:=List.mem_map.mp hy
   walk_at "gs"
   exact ⟨_,_,.inl (.of (s' _ _ (n9.same _ _ np8))),at_nm (hin' j hj),q'⟩
  intro yq H10 n10
  rw [nameV_map] at n10
  have s710:=(s8.trans n9.same).trans n10.same
  have G10:=(G7.same s710).weak (N':=fun _=>True) fun _ _=>trivial
  have ip10:=n10.same _ _ n9.at_
  have gp10:=s710 _ _ gp7
  walk_at "gs"
  intro x dx hx hdx hne
  have s11:Same H10 (upd (upd H10 dx (.own x)) x (.ins a.c_Net dx [])):=fun b o e=>by
   rw [upd_ne (ne_of_none e hx),upd_ne (ne_of_none e hdx)];exact e
  refine ⟨x,dx,ip,gp,yq,nms sh m,gs,os.map (nmO (nms sh n)),gv,rfl,upd_same,.of (s11 _ _ ip10),.of (s11 _ _ gp10),G10.same s11,.of (s11 _ _ n10.at_),by rw [nms_len];omega,by omega,by rw [List.length_map];omega,fun H12 k12 N12=>⟨rfl,?_⟩⟩
  have s12:Same H10 H12:=fun b o e=>k12 b o (ne_of_none e hx) (s11 b o e)
  have op12:=s12 _ _ (n10.same _ _ (n9.same _ _ op8))
  have pc12:=s12 _ _ (s710 _ _ pc7)
  walk_at "gs"
  refine ⟨⟨_,.of op12⟩,compG_list (colV cs) (.of op12) rfl (by rw [List.length_map];omega) ?_ ?_⟩
  ·intro y H' Q' hy s' q'
   obtain ⟨j,hj,rfl⟩:=List.mem_map.mp hy
   have hlt:=hin j hj
   walk_at "gs"
   exact ⟨_,_,.inl (.of (s' _ _ pc12)),at_nz (cs:=cs) (by omega) (by omega),q'⟩
  intro dq H13 n13
  rw [colV_map] at n13
  have N13:=N12.sameN n13.same.n
  have mem:=Rel.mem hin'
  have hwo:∀ o∈os.map (nmO (nms sh n)),o∈nms sh m ++ gs.map (·.1):=by rw [← R7.nm];exact mem
  have fok:=R7.ok hins
  have tis:MF.Tis m (fdC m (nms sh m) gs).2 (ME.outsOf 0 (fdC m (nms sh m) gs).1 (os.map (nmO (nms sh n)))):=fok.args mem
  have hlit:(MF.swT m (fdC m (nms sh m) gs).2 (ME.outsOf 0 (fdC m (nms sh m) gs).1 (os.map (nmO (nms sh n))))).map (MF.L (fullN m) (bC m) (MF.swP m (fdC m (nms sh m) gs).2 (ME.outsOf 0 (fdC m (nms sh m) gs).1 (os.map (nmO (nms sh n))))))=os.map (cO cs):=by
   rw [MF.swT_lit (baseC m) fok.ok tis]
   exact R7.ties hin'
  have hcar:colsN (nms sh m) gs (os.map (nmO (nms sh n)))=os.map (cO cs):=by
   unfold colsN
   rw [hins]
   exact R7.cars hin'
  walk_at "gs"
  refine ⟨x,nms sh m,gs,_,rfl,N13,R7.wg,hwo,by omega,by omega,by rw [List.length_map];omega,fun H16 r16 g gx gl gk q16 es s16 _ _ _ _ G16 p16 a16 t16=>?_⟩
  rw [hins] at G16 p16 a16
  have hlen:es.length≤3000:=by
   have h1:=congrArg List.length p16
   have h2:=MF.swP_len m (fdC m (nms sh m) gs).2 (ME.outsOf 0 (fdC m (nms sh m) gs).1 (os.map (nmO (nms sh n))))
   have h3:=fok.len
   rw [List.length_map] at h1
   omega
  have hok:MF.Ok m (psOf es):=by rw [p16];exact MF.swP_ok fok.ok _
  have hti:=MF.swT_in tis
  have htl:(MF.swT m (fdC m (nms sh m) gs).2 (ME.outsOf 0 (fdC m (nms sh m) gs).1 (os.map (nmO (nms sh n))))).length=no:=by unfold MF.swT ME.outsOf;rw [List.length_map,List.length_map,List.length_map,hol]
  rw [← p16] at hlit hti
  generalize MF.swT m (fdC m (nms sh m) gs).2 (ME.outsOf 0 (fdC m (nms sh m) gs).1 (os.map (nmO (nms sh n))))=ts at hlit hti htl a16
  have N16:=N13.sameN s16.n
  have dq16:=s16 _ _ n13.at_
  clear p16 fok tis
  walk_at "gs"
  refine ⟨r16,_,rfl,.of t16,rfl,_,_,rfl,_,_,rfl,rfl,?_⟩
  walk_at "gs"
  refine ⟨⟨_,.of a16⟩,fun fq hfq=>comp_gen (n:=(ts.map V.int).length) (item:=fun i=>(ts.map V.int).getD i .non) (fun σ=>∃ v,σ=[v,some (.ref g)]) (fun i H17=>H17 fq=some (.lst (((ts.take i).map (MF.L (fullN m) (bC m) (psOf es))).map nz))∧Same H16 H17) ⟨_,rfl⟩ ⟨upd_same,same_upd hfq⟩ (src_list ?_) ?_ ?_ ?_⟩
  ·rintro i H17 hi ⟨_,s17⟩
   exact s17.seq (.of a16)
  ·rintro H17 ⟨_,s17⟩
   exact ⟨_,s17.seq (.of a16),Nat.le_refl _⟩
  ·rintro i σ2 H17 R hi ⟨v,rfl⟩ ⟨h1,s17⟩ hR
   have hi':i<ts.length:=by simpa using hi
   have et:(ts.map V.int).getD i .non=.int ts[i]:=by simp [List.getD,hi']
   obtain ⟨b0,b1⟩:=hti ts[i] (List.getElem_mem hi')
   rw [List.length_map] at b1
   rw [et]
   walk_at "gs"
   refine ⟨g,gx,gl,gk,m,_,es,rfl,G16.same s17,by omega,m10,hok,⟨b0,by omega⟩,fun H18 s18=>?_⟩
   refine ⟨_,s18 _ _ h1,by rw [List.length_map,List.length_map,List.length_take];omega,hR _ _ ⟨_,rfl⟩ ⟨?_,(s17.trans s18).put hfq⟩⟩
   rw [upd_same,List.take_add_one,List.getElem?_eq_getElem hi',List.map_append,List.map_append]
   rfl
  rintro H17 ⟨fq17,s17⟩
  rw [List.length_map,List.take_length,hlit] at fq17
  have G17:=G16.same s17
  have dq17:=s17 _ _ dq16
  walk_at "gs"
  refine ⟨g,gx,gl,gk,m,es,rfl,G17,by omega,m10,hok,fun kq H18 n18=>?_⟩
  have N18:=(N16.sameN s17.n).sameN n18.same.n
  have fq18:=n18.same _ _ fq17
  have dq18:=n18.same _ _ dq17
  obtain ⟨dx',t1,t2,t3,ts',hx',r1⟩:=id N18
  walk_at "gs"
  refine ⟨true,eq_nz (.of fq18) (.of dq18),?_⟩
  walk_at "gs"
  refine ⟨x,dx',_,rfl,hx',fs_cols _ _ _,?_⟩
  walk_at "gs"
  refine ⟨x,_,gs,_,rfl,N18,R7.wa,hwo,by omega,by omega,by rw [List.length_map];omega,fun cq H19 s19 f19 a19=>?_⟩
  rw [hcar] at a19
  walk_at "gs"
  refine ⟨true,eq_nz (.of a19) (.of (s19 _ _ dq18)),?_⟩
  have G19:=(G17.same n18.same).same s19
  have kq19:=s19 _ _ n18.at_
  have hkl:(MF.growC (fullN m) (bC m) (psOf es)).length=1+m+es.length:=by rw [MF.growC_len,len_bC,List.length_map];omega
  walk_at "gs"
  refine .inl ⟨_,.inl (.of kq19),?_⟩
  rw [List.length_map,hkl]
  walk_at "gs"
  refine ⟨g,gx,_,rfl,G19.ins,rfl,g,gx,gl,gk,m,es,rfl,G19,?_⟩
  walk_at "gs"
  rw [if_neg (by omega)]
  have dq19:=s19 _ _ dq18
  have fq19:=s19 _ _ fq18
  have tq19:=s19 _ _ (n18.same _ _ (s17 _ _ a16))
  refine .inl ⟨_,.inl (.of dq19),?_⟩
  have hdl:(os.map (cO cs)).length=no:=by rw [List.length_map,hol]
  rw [List.length_map,hdl]
  walk_at "gs"
  refine for_rngG (fun i σ H20=>H20=H19∧∃ v,σ=[some (.ref p),some (.int m),some (.ref np),some (.int (fullN m:Nat)),some (.ref pc),some (.ref gp),some (.int c),v7,some (.ref op),v9,some (.ref x),some (.ref dq),some (.ref g),some (.ref q16),some (.ref fq),some (.ref kq),v]) ⟨rfl,_,rfl⟩ ?_ ?_
  ·rintro i σ H20 hi ⟨rfl,v,rfl⟩
   have hi1:i<ts.length:=by omega
   have hL:MF.L (fullN m) (bC m) (psOf es) (ts.getD i 0)=(os.map (cO cs)).getD i 0:=by
    rw [← hlit]
    simp [List.getD,hi1]
   have ht:ts.getD i 0∈ts:=by simp [List.getD,hi1]
   obtain ⟨b0,b1⟩:=hti _ ht
   rw [List.length_map] at b1
   have hat:atI (ts.map V.int) (i:Int)=some (.int (ts.getD i 0)):=atI_map (0:Int) (by omega) (by omega)
   generalize ts.getD i 0=t at hL b0 b1 hat
   have had:atI ((os.map (cO cs)).map nz) (i:Int)=some (.int ((os.map (cO cs)).getD i 0:Nat)):=at_nz (by omega) (by omega)
   generalize (os.map (cO cs)).getD i 0=y at hL had
   walk_at "gs"
   rw [Int.zero_add]
   refine ⟨_,_,.inl (.of fq19),had,?_⟩
   walk_at "gs"
   refine ⟨_,false,.int _,rfl,?_⟩
   walk_at "gs"
   refine ⟨_,_,.inl (.of tq19),hat,?_⟩
   walk_at "gs"
   refine ⟨_,_,.inl (.of kq19),at_nz (by omega) (by omega),?_⟩
   walk_at "gs"
   refine ⟨_,_,.inl (.of tq19),hat,?_⟩
   walk_at "gs"
   refine ⟨_,_,.inl (.of dq19),had,?_⟩
   have hv:Builtin.bitXor (((MF.growC (fullN m) (bC m) (psOf es)).getD (t / 2).toNat 0:Nat):Int) (((fullN m:Nat):Int) * (t % 2))=(y:Int):=by
    rw [← hL]
    unfold MF.L MF.litC
    have:t % 2=1∨t % 2=0:=by omega
    rcases this with h | h
    ·rw [if_pos h,h,Int.mul_one,xor_nat,Nat.xor_comm]
    ·rw [if_neg (by omega),h,Int.mul_zero]
     have:=xor_nat ((MF.growC (fullN m) (bC m) (psOf es)).getD (t / 2).toNat 0) 0
     rw [Nat.xor_zero] at this
     exact this
   walk_at "gs"
   rw [hv,if_neg (fun z=>z rfl)]
   exact ⟨trivial,_,rfl⟩
  ·rintro σ H20 ⟨rfl,v,rfl⟩
   walk_at "gs"
   exact k _
theorem lenN1 {us:List Value} (h:us.length=1):∃ a,us=[a]:=List.length_eq_one_iff.mp h
theorem lenN2 {us:List Value} (h:us.length=2):∃ a b,us=[a,b]:=by
 obtain _ | ⟨a,t⟩:=us
 ·cases h
 ·obtain ⟨b,rfl⟩:=lenN1 (Nat.succ.inj h)
  exact ⟨a,b,rfl⟩
theorem lenN3 {us:List Value} (h:us.length=3):∃ a b c,us=[a,b,c]:=by
 obtain _ | ⟨a,t⟩:=us
 ·cases h
 ·obtain ⟨b,c,rfl⟩:=lenN2 (Nat.succ.inj h)
  exact ⟨a,b,c,rfl⟩
theorem lenN4 {us:List Value} (h:us.length=4):∃ a b c d,us=[a,b,c,d]:=by
 obtain _ | ⟨a,t⟩:=us
 ·cases h
 ·obtain ⟨b,c,d,rfl⟩:=lenN3 (Nat.succ.inj h)
  exact ⟨a,b,c,d,rfl⟩
theorem all_mk {l:PySem.W.OpenLaw}{w:World}{K:PySem.W.Frag}{h:Heap}{mg:Str→Option Value}{fa:Addr} (X:K.In h) (G:h.Ns mainGlobals mg) (hfa:mg "law" = some (.ref fa))
  {f0:Addr}{od0 an0:Option Addr}{sl0:Array (Option Value)}{oc0 kV0 dc0 pm0 cd0 ct0:Value}{f1:Addr}{od1 an1:Option Addr}{sl1:Array (Option Value)}{oc1 kV1 dc1 pm1 cd1 ct1:Value}{f2:Addr}{od2 an2:Option Addr}{sl2:Array (Option Value)}{oc2 kV2 dc2 pm2 cd2 ct2:Value}{f3:Addr}{od3 an3:Option Addr}{sl3:Array (Option Value)}{oc3 kV3 dc3 pm3 cd3 ct3:Value}{f4:Addr}{od4 an4:Option Addr}{sl4:Array (Option Value)}{oc4 kV4 dc4 pm4 cd4 ct4:Value}{f5:Addr}{od5 an5:Option Addr}{sl5:Array (Option Value)}{oc5 kV5 dc5 pm5 cd5 ct5:Value}{f6:Addr}{od6 an6:Option Addr}{sl6:Array (Option Value)}{oc6 kV6 dc6 pm6 cd6 ct6:Value}{f7:Addr}{od7 an7:Option Addr}{sl7:Array (Option Value)}{oc7 kV7 dc7 pm7 cd7 ct7:Value}{f8:Addr}{od8 an8:Option Addr}{sl8:Array (Option Value)}{oc8 kV8 dc8 pm8 cd8 ct8:Value}{f9:Addr}{od9 an9:Option Addr}{sl9:Array (Option Value)}{oc9 kV9 dc9 pm9 cd9 ct9:Value}{f10:Addr}{od10 an10:Option Addr}{sl10:Array (Option Value)}{oc10 kV10 dc10 pm10 cd10 ct10:Value}{f11:Addr}{od11 an11:Option Addr}{sl11:Array (Option Value)}{oc11 kV11 dc11 pm11 cd11 ct11:Value}{f12:Addr}{od12 an12:Option Addr}{sl12:Array (Option Value)}{oc12 kV12 dc12 pm12 cd12 ct12:Value}{f13:Addr}{od13 an13:Option Addr}{sl13:Array (Option Value)}{oc13 kV13 dc13 pm13 cd13 ct13:Value}{f14:Addr}{od14 an14:Option Addr}{sl14:Array (Option Value)}{oc14 kV14 dc14 pm14 cd14 ct14:Value}{f15:Addr}{od15 an15:Option Addr}{sl15:Array (Option Value)}{oc15 kV15 dc15 pm15 cd15 ct15:Value}{f16:Addr}{od16 an16:Option Addr}{sl16:Array (Option Value)}{oc16 kV16 dc16 pm16 cd16 ct16:Value}{f17:Addr}{od17 an17:Option Addr}{sl17:Array (Option Value)}{oc17 kV17 dc17 pm17 cd17 ct17:Value}{f18:Addr}{od18 an18:Option Addr}{sl18:Array (Option Value)}{oc18 kV18 dc18 pm18 cd18 ct18:Value}{f19:Addr}{od19 an19:Option Addr}{sl19:Array (Option Value)}{oc19 kV19 dc19 pm19 cd19 ct19:Value}{f20:Addr}{od20 an20:Option Addr}{sl20:Array (Option Value)}{oc20 kV20 dc20 pm20 cd20 ct20:Value}{f21:Addr}{od21 an21:Option Addr}{sl21:Array (Option Value)}{oc21 kV21 dc21 pm21 cd21 ct21:Value}{f22:Addr}{od22 an22:Option Addr}{sl22:Array (Option Value)}{oc22 kV22 dc22 pm22 cd22 ct22:Value}{f23:Addr}{od23 an23:Option Addr}{sl23:Array (Option Value)}{oc23 kV23 dc23 pm23 cd23 ct23:Value}{f24:Addr}{od24 an24:Option Addr}{sl24:Array (Option Value)}{oc24 kV24 dc24 pm24 cd24 ct24:Value}{f25:Addr}{od25 an25:Option Addr}{sl25:Array (Option Value)}{oc25 kV25 dc25 pm25 cd25 ct25:Value}{f26:Addr}{od26 an26:Option Addr}{sl26:Array (Option Value)}{oc26 kV26 dc26 pm26 cd26 ct26:Value}{f27:Addr}{od27 an27:Option Addr}{sl27:Array (Option Value)}{oc27 kV27 dc27 pm27 cd27 ct27:Value}{f28:Addr}{od28 an28:Option Addr}{sl28:Array (Option Value)}{oc28 kV28 dc28 pm28 cd28 ct28:Value}{f29:Addr}{od29 an29:Option Addr}{sl29:Array (Option Value)}{oc29 kV29 dc29 pm29 cd29 ct29:Value}{f30:Addr}{od30 an30:Option Addr}{sl30:Array (Option Value)}{oc30 kV30 dc30 pm30 cd30 ct30:Value}{f31:Addr}{od31 an31:Option Addr}{sl31:Array (Option Value)}{oc31 kV31 dc31 pm31 cd31 ct31:Value}{f32:Addr}{od32 an32:Option Addr}{sl32:Array (Option Value)}{oc32 kV32 dc32 pm32 cd32 ct32:Value}{f33:Addr}{od33 an33:Option Addr}{sl33:Array (Option Value)}{oc33 kV33 dc33 pm33 cd33 ct33:Value}{f34:Addr}{od34 an34:Option Addr}{sl34:Array (Option Value)}{oc34 kV34 dc34 pm34 cd34 ct34:Value}{f35:Addr}{od35 an35:Option Addr}{sl35:Array (Option Value)}{oc35 kV35 dc35 pm35 cd35 ct35:Value}{f36:Addr}{od36 an36:Option Addr}{sl36:Array (Option Value)}{oc36 kV36 dc36 pm36 cd36 ct36:Value}{f37:Addr}{od37 an37:Option Addr}{sl37:Array (Option Value)}{oc37 kV37 dc37 pm37 cd37 ct37:Value}{f38:Addr}{od38 an38:Option Addr}{sl38:Array (Option Value)}{oc38 kV38 dc38 pm38 cd38 ct38:Value}{f39:Addr}{od39 an39:Option Addr}{sl39:Array (Option Value)}{oc39 kV39 dc39 pm39 cd39 ct39:Value}{f40:Addr}{od40 an40:Option Addr}{sl40:Array (Option Value)}{oc40 kV40 dc40 pm40 cd40 ct40:Value}{f41:Addr}{od41 an41:Option Addr}{sl41:Array (Option Value)}{oc41 kV41 dc41 pm41 cd41 ct41:Value}{f42:Addr}{od42 an42:Option Addr}{sl42:Array (Option Value)}{oc42 kV42 dc42 pm42 cd42 ct42:Value}{C_Fold:Addr}{C_Net:Addr}{ug_ALWAYS:Tok}{ug_NEVER:Tok}
  (aC_Fold:PySem.W.nsIn K mainGlobals "Fold" = some (some (.ref C_Fold)))
  (aC_Net:PySem.W.nsIn K mainGlobals "Net" = some (some (.ref C_Net)))
  (a0:PySem.W.nsIn K mainGlobals "full_column" = some (some (.ref f0)))
  (l0:K.lookup f0=some ⟨oc0,od0,.func (PySem.W.fnOf "full_column" "full_column" (defArgs s_full_column) (defBody s_full_column) (defScope s_full_column) .none kV0 dc0 pm0 an0 cd0 ct0),sl0⟩)
  (c0:PySem.W.codeIn K cd0 "full_column" = true)
  (k0:PySem.W.keepIn K (.ref f0)=true)
  (a1:PySem.W.nsIn K mainGlobals "input_columns" = some (some (.ref f1)))
  (l1:K.lookup f1=some ⟨oc1,od1,.func (PySem.W.fnOf "input_columns" "input_columns" (defArgs s_input_columns) (defBody s_input_columns) (defScope s_input_columns) .none kV1 dc1 pm1 an1 cd1 ct1),sl1⟩)
  (c1:PySem.W.codeIn K cd1 "input_columns" = true)
  (k1:PySem.W.keepIn K (.ref f1)=true)
  (a2:PySem.W.nsIn K mainGlobals "lit_knots" = some (some (.ref f2)))
  (l2:K.lookup f2=some ⟨oc2,od2,.func (PySem.W.fnOf "lit_knots" "lit_knots" (defArgs s_lit_knots) (defBody s_lit_knots) (defScope s_lit_knots) .none kV2 dc2 pm2 an2 cd2 ct2),sl2⟩)
  (c2:PySem.W.codeIn K cd2 "lit_knots" = true)
  (k2:PySem.W.keepIn K (.ref f2)=true)
  (a3:PySem.W.nsIn K mainGlobals "lit_pair" = some (some (.ref f3)))
  (l3:K.lookup f3=some ⟨oc3,od3,.func (PySem.W.fnOf "lit_pair" "lit_pair" (defArgs s_lit_pair) (defBody s_lit_pair) (defScope s_lit_pair) .none kV3 dc3 pm3 an3 cd3 ct3),sl3⟩)
  (c3:PySem.W.codeIn K cd3 "lit_pair" = true)
  (k3:PySem.W.keepIn K (.ref f3)=true)
  (a4:PySem.W.nsIn K mainGlobals "lit_tie" = some (some (.ref f4)))
  (l4:K.lookup f4=some ⟨oc4,od4,.func (PySem.W.fnOf "lit_tie" "lit_tie" (defArgs s_lit_tie) (defBody s_lit_tie) (defScope s_lit_tie) .none kV4 dc4 pm4 an4 cd4 ct4),sl4⟩)
  (c4:PySem.W.codeIn K cd4 "lit_tie" = true)
  (k4:PySem.W.keepIn K (.ref f4)=true)
  (a5:PySem.W.nsIn K mainGlobals "need_tie" = some (some (.ref f5)))
  (l5:K.lookup f5=some ⟨oc5,od5,.func (PySem.W.fnOf "need_tie" "need_tie" (defArgs s_need_tie) (defBody s_need_tie) (defScope s_need_tie) .none kV5 dc5 pm5 an5 cd5 ct5),sl5⟩)
  (c5:PySem.W.codeIn K cd5 "need_tie" = true)
  (k5:PySem.W.keepIn K (.ref f5)=true)
  (a6:PySem.W.nsIn K mainGlobals "column" = some (some (.ref f6)))
  (l6:K.lookup f6=some ⟨oc6,od6,.func (PySem.W.fnOf "column" "column" (defArgs s_column) (defBody s_column) (defScope s_column) .none kV6 dc6 pm6 an6 cd6 ct6),sl6⟩)
  (c6:PySem.W.codeIn K cd6 "column" = true)
  (k6:PySem.W.keepIn K (.ref f6)=true)
  (a7:PySem.W.nsIn K mainGlobals "knot_columns" = some (some (.ref f7)))
  (l7:K.lookup f7=some ⟨oc7,od7,.func (PySem.W.fnOf "knot_columns" "knot_columns" (defArgs s_knot_columns) (defBody s_knot_columns) (defScope s_knot_columns) .none kV7 dc7 pm7 an7 cd7 ct7),sl7⟩)
  (c7:PySem.W.codeIn K cd7 "knot_columns" = true)
  (k7:PySem.W.keepIn K (.ref f7)=true)
  (a8:PySem.W.nsIn K mainGlobals "reached" = some (some (.ref f8)))
  (l8:K.lookup f8=some ⟨oc8,od8,.func (PySem.W.fnOf "reached" "reached" (defArgs s_reached) (defBody s_reached) (defScope s_reached) .none kV8 dc8 pm8 an8 cd8 ct8),sl8⟩)
  (c8:PySem.W.codeIn K cd8 "reached" = true)
  (k8:PySem.W.keepIn K (.ref f8)=true)
  (a9:PySem.W.nsIn K mainGlobals "turned" = some (some (.ref f9)))
  (l9:K.lookup f9=some ⟨oc9,od9,.func (PySem.W.fnOf "turned" "turned" (defArgs s_turned) (defBody s_turned) (defScope s_turned) .none kV9 dc9 pm9 an9 cd9 ct9),sl9⟩)
  (c9:PySem.W.codeIn K cd9 "turned" = true)
  (k9:PySem.W.keepIn K (.ref f9)=true)
  (a10:PySem.W.findIn K (.ref C_Fold) "__init__" = some (some (.ref f10)))
  (i10:PySem.W.isFn K (.ref f10)=true)
  (l10:K.lookup f10=some ⟨oc10,od10,.func (PySem.W.fnOf "__init__" "Fold.__init__" (defArgs s_Fold___init__) (defBody s_Fold___init__) (defScope s_Fold___init__) .none kV10 dc10 pm10 an10 cd10 ct10),sl10⟩)
  (c10:PySem.W.codeIn K cd10 "Fold.__init__" = true)
  (k10:PySem.W.keepIn K (.ref f10)=true)
  (a11:PySem.W.findIn K (.ref C_Fold) "total" = some (some (.ref f11)))
  (i11:PySem.W.isFn K (.ref f11)=true)
  (l11:K.lookup f11=some ⟨oc11,od11,.func (PySem.W.fnOf "total" "Fold.total" (defArgs s_Fold_total) (defBody s_Fold_total) (defScope s_Fold_total) .none kV11 dc11 pm11 an11 cd11 ct11),sl11⟩)
  (c11:PySem.W.codeIn K cd11 "Fold.total" = true)
  (k11:PySem.W.keepIn K (.ref f11)=true)
  (a12:PySem.W.findIn K (.ref C_Fold) "has_tie" = some (some (.ref f12)))
  (i12:PySem.W.isFn K (.ref f12)=true)
  (l12:K.lookup f12=some ⟨oc12,od12,.func (PySem.W.fnOf "has_tie" "Fold.has_tie" (defArgs s_Fold_has_tie) (defBody s_Fold_has_tie) (defScope s_Fold_has_tie) .none kV12 dc12 pm12 an12 cd12 ct12),sl12⟩)
  (c12:PySem.W.codeIn K cd12 "Fold.has_tie" = true)
  (k12:PySem.W.keepIn K (.ref f12)=true)
  (a13:PySem.W.findIn K (.ref C_Fold) "pair" = some (some (.ref f13)))
  (i13:PySem.W.isFn K (.ref f13)=true)
  (l13:K.lookup f13=some ⟨oc13,od13,.func (PySem.W.fnOf "pair" "Fold.pair" (defArgs s_Fold_pair) (defBody s_Fold_pair) (defScope s_Fold_pair) .none kV13 dc13 pm13 an13 cd13 ct13),sl13⟩)
  (c13:PySem.W.codeIn K cd13 "Fold.pair" = true)
  (k13:PySem.W.keepIn K (.ref f13)=true)
  (a14:PySem.W.findIn K (.ref C_Fold) "both" = some (some (.ref f14)))
  (i14:PySem.W.isFn K (.ref f14)=true)
  (l14:K.lookup f14=some ⟨oc14,od14,.func (PySem.W.fnOf "both" "Fold.both" (defArgs s_Fold_both) (defBody s_Fold_both) (defScope s_Fold_both) .none kV14 dc14 pm14 an14 cd14 ct14),sl14⟩)
  (c14:PySem.W.codeIn K cd14 "Fold.both" = true)
  (k14:PySem.W.keepIn K (.ref f14)=true)
  (a15:PySem.W.findIn K (.ref C_Fold) "and_knot" = some (some (.ref f15)))
  (i15:PySem.W.isFn K (.ref f15)=true)
  (l15:K.lookup f15=some ⟨oc15,od15,.func (PySem.W.fnOf "and_knot" "Fold.and_knot" (defArgs s_Fold_and_knot) (defBody s_Fold_and_knot) (defScope s_Fold_and_knot) .none kV15 dc15 pm15 an15 cd15 ct15),sl15⟩)
  (c15:PySem.W.codeIn K cd15 "Fold.and_knot" = true)
  (k15:PySem.W.keepIn K (.ref f15)=true)
  (a16:PySem.W.nsIn K mainGlobals "and_tie" = some (some (.ref f16)))
  (l16:K.lookup f16=some ⟨oc16,od16,.func (PySem.W.fnOf "and_tie" "and_tie" (defArgs s_and_tie) (defBody s_and_tie) (defScope s_and_tie) .none kV16 dc16 pm16 an16 cd16 ct16),sl16⟩)
  (c16:PySem.W.codeIn K cd16 "and_tie" = true)
  (k16:PySem.W.keepIn K (.ref f16)=true)
  (a17:PySem.W.nsIn K mainGlobals "or_tie" = some (some (.ref f17)))
  (l17:K.lookup f17=some ⟨oc17,od17,.func (PySem.W.fnOf "or_tie" "or_tie" (defArgs s_or_tie) (defBody s_or_tie) (defScope s_or_tie) .none kV17 dc17 pm17 an17 cd17 ct17),sl17⟩)
  (c17:PySem.W.codeIn K cd17 "or_tie" = true)
  (k17:PySem.W.keepIn K (.ref f17)=true)
  (a18:PySem.W.nsIn K mainGlobals "either_of_two" = some (some (.ref f18)))
  (l18:K.lookup f18=some ⟨oc18,od18,.func (PySem.W.fnOf "either_of_two" "either_of_two" (defArgs s_either_of_two) (defBody s_either_of_two) (defScope s_either_of_two) .none kV18 dc18 pm18 an18 cd18 ct18),sl18⟩)
  (c18:PySem.W.codeIn K cd18 "either_of_two" = true)
  (k18:PySem.W.keepIn K (.ref f18)=true)
  (a19:PySem.W.nsIn K mainGlobals "either_tie" = some (some (.ref f19)))
  (l19:K.lookup f19=some ⟨oc19,od19,.func (PySem.W.fnOf "either_tie" "either_tie" (defArgs s_either_tie) (defBody s_either_tie) (defScope s_either_tie) .none kV19 dc19 pm19 an19 cd19 ct19),sl19⟩)
  (c19:PySem.W.codeIn K cd19 "either_tie" = true)
  (k19:PySem.W.keepIn K (.ref f19)=true)
  (a20:PySem.W.nsIn K mainGlobals "choose_tie" = some (some (.ref f20)))
  (l20:K.lookup f20=some ⟨oc20,od20,.func (PySem.W.fnOf "choose_tie" "choose_tie" (defArgs s_choose_tie) (defBody s_choose_tie) (defScope s_choose_tie) .none kV20 dc20 pm20 an20 cd20 ct20),sl20⟩)
  (c20:PySem.W.codeIn K cd20 "choose_tie" = true)
  (k20:PySem.W.keepIn K (.ref f20)=true)
  (a21:PySem.W.nsIn K mainGlobals "most_tie" = some (some (.ref f21)))
  (l21:K.lookup f21=some ⟨oc21,od21,.func (PySem.W.fnOf "most_tie" "most_tie" (defArgs s_most_tie) (defBody s_most_tie) (defScope s_most_tie) .none kV21 dc21 pm21 an21 cd21 ct21),sl21⟩)
  (c21:PySem.W.codeIn K cd21 "most_tie" = true)
  (k21:PySem.W.keepIn K (.ref f21)=true)
  (a22:PySem.W.nsIn K mainGlobals "gate_tie" = some (some (.ref f22)))
  (l22:K.lookup f22=some ⟨oc22,od22,.func (PySem.W.fnOf "gate_tie" "gate_tie" (defArgs s_gate_tie) (defBody s_gate_tie) (defScope s_gate_tie) .none kV22 dc22 pm22 an22 cd22 ct22),sl22⟩)
  (c22:PySem.W.codeIn K cd22 "gate_tie" = true)
  (k22:PySem.W.keepIn K (.ref f22)=true)
  (a23:PySem.W.nsIn K mainGlobals "moved_tie" = some (some (.ref f23)))
  (l23:K.lookup f23=some ⟨oc23,od23,.func (PySem.W.fnOf "moved_tie" "moved_tie" (defArgs s_moved_tie) (defBody s_moved_tie) (defScope s_moved_tie) .none kV23 dc23 pm23 an23 cd23 ct23),sl23⟩)
  (c23:PySem.W.codeIn K cd23 "moved_tie" = true)
  (k23:PySem.W.keepIn K (.ref f23)=true)
  (a24:PySem.W.nsIn K mainGlobals "swept" = some (some (.ref f24)))
  (l24:K.lookup f24=some ⟨oc24,od24,.func (PySem.W.fnOf "swept" "swept" (defArgs s_swept) (defBody s_swept) (defScope s_swept) .none kV24 dc24 pm24 an24 cd24 ct24),sl24⟩)
  (c24:PySem.W.codeIn K cd24 "swept" = true)
  (k24:PySem.W.keepIn K (.ref f24)=true)
  (a25:PySem.W.nsIn K mainGlobals "folded" = some (some (.ref f25)))
  (l25:K.lookup f25=some ⟨oc25,od25,.func (PySem.W.fnOf "folded" "folded" (defArgs s_folded) (defBody s_folded) (defScope s_folded) .none kV25 dc25 pm25 an25 cd25 ct25),sl25⟩)
  (c25:PySem.W.codeIn K cd25 "folded" = true)
  (k25:PySem.W.keepIn K (.ref f25)=true)
  (a26:PySem.W.nsIn K mainGlobals "all_lit" = some (some (.ref f26)))
  (l26:K.lookup f26=some ⟨oc26,od26,.func (PySem.W.fnOf "all_lit" "all_lit" (defArgs s_all_lit) (defBody s_all_lit) (defScope s_all_lit) .none kV26 dc26 pm26 an26 cd26 ct26),sl26⟩)
  (c26:PySem.W.codeIn K cd26 "all_lit" = true)
  (k26:PySem.W.keepIn K (.ref f26)=true)
  (a27:PySem.W.nsIn K mainGlobals "some_lit" = some (some (.ref f27)))
  (l27:K.lookup f27=some ⟨oc27,od27,.func (PySem.W.fnOf "some_lit" "some_lit" (defArgs s_some_lit) (defBody s_some_lit) (defScope s_some_lit) .none kV27 dc27 pm27 an27 cd27 ct27),sl27⟩)
  (c27:PySem.W.codeIn K cd27 "some_lit" = true)
  (k27:PySem.W.keepIn K (.ref f27)=true)
  (a28:PySem.W.nsIn K mainGlobals "odd_lit" = some (some (.ref f28)))
  (l28:K.lookup f28=some ⟨oc28,od28,.func (PySem.W.fnOf "odd_lit" "odd_lit" (defArgs s_odd_lit) (defBody s_odd_lit) (defScope s_odd_lit) .none kV28 dc28 pm28 an28 cd28 ct28),sl28⟩)
  (c28:PySem.W.codeIn K cd28 "odd_lit" = true)
  (k28:PySem.W.keepIn K (.ref f28)=true)
  (a29:PySem.W.nsIn K mainGlobals "chosen_lit" = some (some (.ref f29)))
  (l29:K.lookup f29=some ⟨oc29,od29,.func (PySem.W.fnOf "chosen_lit" "chosen_lit" (defArgs s_chosen_lit) (defBody s_chosen_lit) (defScope s_chosen_lit) .none kV29 dc29 pm29 an29 cd29 ct29),sl29⟩)
  (c29:PySem.W.codeIn K cd29 "chosen_lit" = true)
  (k29:PySem.W.keepIn K (.ref f29)=true)
  (a30:PySem.W.nsIn K mainGlobals "most_lit" = some (some (.ref f30)))
  (l30:K.lookup f30=some ⟨oc30,od30,.func (PySem.W.fnOf "most_lit" "most_lit" (defArgs s_most_lit) (defBody s_most_lit) (defScope s_most_lit) .none kV30 dc30 pm30 an30 cd30 ct30),sl30⟩)
  (c30:PySem.W.codeIn K cd30 "most_lit" = true)
  (k30:PySem.W.keepIn K (.ref f30)=true)
  (a31:PySem.W.nsIn K mainGlobals "column_by" = some (some (.ref f31)))
  (l31:K.lookup f31=some ⟨oc31,od31,.func (PySem.W.fnOf "column_by" "column_by" (defArgs s_column_by) (defBody s_column_by) (defScope s_column_by) .none kV31 dc31 pm31 an31 cd31 ct31),sl31⟩)
  (c31:PySem.W.codeIn K cd31 "column_by" = true)
  (k31:PySem.W.keepIn K (.ref f31)=true)
  (a32:PySem.W.findIn K (.ref C_Net) "__init__" = some (some (.ref f32)))
  (i32:PySem.W.isFn K (.ref f32)=true)
  (l32:K.lookup f32=some ⟨oc32,od32,.func (PySem.W.fnOf "__init__" "Net.__init__" (defArgs s_Net___init__) (defBody s_Net___init__) (defScope s_Net___init__) .none kV32 dc32 pm32 an32 cd32 ct32),sl32⟩)
  (c32:PySem.W.codeIn K cd32 "Net.__init__" = true)
  (k32:PySem.W.keepIn K (.ref f32)=true)
  (a33:PySem.W.findIn K (.ref C_Net) "columns" = some (some (.ref f33)))
  (i33:PySem.W.isFn K (.ref f33)=true)
  (l33:K.lookup f33=some ⟨oc33,od33,.func (PySem.W.fnOf "columns" "Net.columns" (defArgs s_Net_columns) (defBody s_Net_columns) (defScope s_Net_columns) .none kV33 dc33 pm33 an33 cd33 ct33),sl33⟩)
  (c33:PySem.W.codeIn K cd33 "Net.columns" = true)
  (k33:PySem.W.keepIn K (.ref f33)=true)
  (a34:PySem.W.findIn K (.ref C_Net) "carried" = some (some (.ref f34)))
  (i34:PySem.W.isFn K (.ref f34)=true)
  (l34:K.lookup f34=some ⟨oc34,od34,.func (PySem.W.fnOf "carried" "Net.carried" (defArgs s_Net_carried) (defBody s_Net_carried) (defScope s_Net_carried) .none kV34 dc34 pm34 an34 cd34 ct34),sl34⟩)
  (c34:PySem.W.codeIn K cd34 "Net.carried" = true)
  (k34:PySem.W.keepIn K (.ref f34)=true)
  (a35:PySem.W.nsIn K mainGlobals "_law_cell_at" = some (some (.ref f35)))
  (l35:K.lookup f35=some ⟨oc35,od35,.func (PySem.W.fnOf "_law_cell_at" "_law_cell_at" (defArgs s_law_cell_at) (defBody s_law_cell_at) (defScope s_law_cell_at) .none kV35 dc35 pm35 an35 cd35 ct35),sl35⟩)
  (c35:PySem.W.codeIn K cd35 "_law_cell_at" = true)
  (k35:PySem.W.keepIn K (.ref f35)=true)
  (a36:PySem.W.nsIn K mainGlobals "_law_name" = some (some (.ref f36)))
  (l36:K.lookup f36=some ⟨oc36,od36,.func (PySem.W.fnOf "_law_name" "_law_name" (defArgs s_law_name) (defBody s_law_name) (defScope s_law_name) .none kV36 dc36 pm36 an36 cd36 ct36),sl36⟩)
  (c36:PySem.W.codeIn K cd36 "_law_name" = true)
  (k36:PySem.W.keepIn K (.ref f36)=true)
  (a37:PySem.W.nsIn K mainGlobals "_law_input" = some (some (.ref f37)))
  (l37:K.lookup f37=some ⟨oc37,od37,.func (PySem.W.fnOf "_law_input" "_law_input" (defArgs s_law_input) (defBody s_law_input) (defScope s_law_input) .none kV37 dc37 pm37 an37 cd37 ct37),sl37⟩)
  (c37:PySem.W.codeIn K cd37 "_law_input" = true)
  (k37:PySem.W.keepIn K (.ref f37)=true)
  (a38:PySem.W.nsIn K mainGlobals "_law_gate_column" = some (some (.ref f38)))
  (l38:K.lookup f38=some ⟨oc38,od38,.func (PySem.W.fnOf "_law_gate_column" "_law_gate_column" (defArgs s_law_gate_column) (defBody s_law_gate_column) (defScope s_law_gate_column) .none kV38 dc38 pm38 an38 cd38 ct38),sl38⟩)
  (c38:PySem.W.codeIn K cd38 "_law_gate_column" = true)
  (k38:PySem.W.keepIn K (.ref f38)=true)
  (a39:PySem.W.nsIn K mainGlobals "_law_picked" = some (some (.ref f39)))
  (l39:K.lookup f39=some ⟨oc39,od39,.func (PySem.W.fnOf "_law_picked" "_law_picked" (defArgs s_law_picked) (defBody s_law_picked) (defScope s_law_picked) .none kV39 dc39 pm39 an39 cd39 ct39),sl39⟩)
  (c39:PySem.W.codeIn K cd39 "_law_picked" = true)
  (k39:PySem.W.keepIn K (.ref f39)=true)
  (a40:PySem.W.nsIn K mainGlobals "_law_gate_by" = some (some (.ref f40)))
  (l40:K.lookup f40=some ⟨oc40,od40,.func (PySem.W.fnOf "_law_gate_by" "_law_gate_by" (defArgs s_law_gate_by) (defBody s_law_gate_by) (defScope s_law_gate_by) .none kV40 dc40 pm40 an40 cd40 ct40),sl40⟩)
  (c40:PySem.W.codeIn K cd40 "_law_gate_by" = true)
  (k40:PySem.W.keepIn K (.ref f40)=true)
  (a41:PySem.W.nsIn K mainGlobals "_law_gate" = some (some (.ref f41)))
  (l41:K.lookup f41=some ⟨oc41,od41,.func (PySem.W.fnOf "_law_gate" "_law_gate" (defArgs s_law_gate) (defBody s_law_gate) (defScope s_law_gate) .none kV41 dc41 pm41 an41 cd41 ct41),sl41⟩)
  (c41:PySem.W.codeIn K cd41 "_law_gate" = true)
  (k41:PySem.W.keepIn K (.ref f41)=true)
  (a42:PySem.W.nsIn K mainGlobals "law" = some (some (.ref f42)))
  (l42:K.lookup f42=some ⟨oc42,od42,.func (PySem.W.fnOf "law" "law" (defArgs s_law) (defBody s_law) (defScope s_law) .none kV42 dc42 pm42 an42 cd42 ct42),sl42⟩)
  (c42:PySem.W.codeIn K cd42 "law" = true)
  (k42:PySem.W.keepIn K (.ref f42)=true)
  (pg_Fold:PySem.W.plainGet K C_Fold Str.empty=true)
  (hd_Fold:PySem.W.hasDictIn K C_Fold=true)
  (po_Fold:PySem.W.plainOver K C_Fold=true)
  (sa_Fold:PySem.W.findIn K (.ref C_Fold) "__setattr__" = some (some (.builtin "object.__setattr__")))
  (mk_Fold:PySem.W.makesIn K C_Fold=true)
  (kc_Fold:PySem.W.keepIn K (.ref C_Fold)=true)
  (n_Fold_many:PySem.W.findIn K (.ref C_Fold) "many" = some none)
  (n_Fold_pairs:PySem.W.findIn K (.ref C_Fold) "pairs" = some none)
  (n_Fold_knots:PySem.W.findIn K (.ref C_Fold) "knots" = some none)
  (pg_Net:PySem.W.plainGet K C_Net Str.empty=true)
  (hd_Net:PySem.W.hasDictIn K C_Net=true)
  (po_Net:PySem.W.plainOver K C_Net=true)
  (sa_Net:PySem.W.findIn K (.ref C_Net) "__setattr__" = some (some (.builtin "object.__setattr__")))
  (mk_Net:PySem.W.makesIn K C_Net=true)
  (kc_Net:PySem.W.keepIn K (.ref C_Net)=true)
  (n_Net_inputs:PySem.W.findIn K (.ref C_Net) "inputs" = some none)
  (n_Net_gates:PySem.W.findIn K (.ref C_Net) "gates" = some none)
  (n_Net_outputs:PySem.W.findIn K (.ref C_Net) "outputs" = some none)
  (g_ALWAYS:PySem.W.nsIn K mainGlobals "ALWAYS" = some (some (.int 1 ug_ALWAYS)))
  (g_NEVER:PySem.W.nsIn K mainGlobals "NEVER" = some (some (.int 0 ug_NEVER)))
  (z_bool:PySem.W.nsIn K mainGlobals "bool" = some none)
  (z_dict:PySem.W.nsIn K mainGlobals "dict" = some none)
  (z_enumerate:PySem.W.nsIn K mainGlobals "enumerate" = some none)
  (z_int:PySem.W.nsIn K mainGlobals "int" = some none)
  (z_isinstance:PySem.W.nsIn K mainGlobals "isinstance" = some none)
  (z_len:PySem.W.nsIn K mainGlobals "len" = some none)
  (z_max:PySem.W.nsIn K mainGlobals "max" = some none)
  (z_min:PySem.W.nsIn K mainGlobals "min" = some none)
  (z_range:PySem.W.nsIn K mainGlobals "range" = some none)
  (z_tuple:PySem.W.nsIn K mainGlobals "tuple" = some none)
  (z_zip:PySem.W.nsIn K mainGlobals "zip" = some none) :
  ∃ fd:FuncData,(∀ (s:Shared) (v:Value),BindsTo s fd ⟨[v],[]⟩ [("_law_script",v)])∧∀ base:Heap,K.In base→base.Ns mainGlobals mg→FnOk l.prog w K mg base CX0 10 fa fd ["_law_script"] (sp_law K):=by
 have e:=hfa.symm.trans (PySem.W.mg_of X G a42)
 cases e
 have F0:=fun_mk (st:=s_full_column) l0 c0 k0
 have B0:=F0.binds (ps:=["many"]) fun _ _ _ _ _ _ us hl=>by obtain ⟨_,rfl⟩:=lenN1 hl;rfl
 have F1:=fun_mk (st:=s_input_columns) l1 c1 k1
 have B1:=F1.binds (ps:=["many"]) fun _ _ _ _ _ _ us hl=>by obtain ⟨_,rfl⟩:=lenN1 hl;rfl
 have F2:=fun_mk (st:=s_lit_knots) l2 c2 k2
 have B2:=F2.binds (ps:=["fold","top","inputs","every"]) fun _ _ _ _ _ _ us hl=>by obtain ⟨_,_,_,_,rfl⟩:=lenN4 hl;rfl
 have F3:=fun_mk (st:=s_lit_pair) l3 c3 k3
 have B3:=F3.binds (ps:=["lit","pair","every"]) fun _ _ _ _ _ _ us hl=>by obtain ⟨_,_,_,rfl⟩:=lenN3 hl;rfl
 have F4:=fun_mk (st:=s_lit_tie) l4 c4 k4
 have B4:=F4.binds (ps:=["lit","tie","every"]) fun _ _ _ _ _ _ us hl=>by obtain ⟨_,_,_,rfl⟩:=lenN3 hl;rfl
 have F5:=fun_mk (st:=s_need_tie) l5 c5 k5
 have B5:=F5.binds (ps:=["fold","tie"]) fun _ _ _ _ _ _ us hl=>by obtain ⟨_,_,rfl⟩:=lenN2 hl;rfl
 have F6:=fun_mk (st:=s_column) l6 c6 k6
 have B6:=F6.binds (ps:=["fold","tie"]) fun _ _ _ _ _ _ us hl=>by obtain ⟨_,_,rfl⟩:=lenN2 hl;rfl
 have F7:=fun_mk (st:=s_knot_columns) l7 c7 k7
 have B7:=F7.binds (ps:=["fold"]) fun _ _ _ _ _ _ us hl=>by obtain ⟨_,rfl⟩:=lenN1 hl;rfl
 have F8:=fun_mk (st:=s_reached) l8 c8 k8
 have B8:=F8.binds (ps:=["fold","knots","stops"]) fun _ _ _ _ _ _ us hl=>by obtain ⟨_,_,_,rfl⟩:=lenN3 hl;rfl
 have F9:=fun_mk (st:=s_turned) l9 c9 k9
 have B9:=F9.binds (ps:=["tie"]) fun _ _ _ _ _ _ us hl=>by obtain ⟨_,rfl⟩:=lenN1 hl;rfl
 have F10:=fun_mk (st:=s_Fold___init__) l10 c10 k10
 have B10:=F10.binds (ps:=["self","many"]) fun _ _ _ _ _ _ us hl=>by obtain ⟨_,_,rfl⟩:=lenN2 hl;rfl
 have F11:=fun_mk (st:=s_Fold_total) l11 c11 k11
 have B11:=F11.binds (ps:=["self"]) fun _ _ _ _ _ _ us hl=>by obtain ⟨_,rfl⟩:=lenN1 hl;rfl
 have F12:=fun_mk (st:=s_Fold_has_tie) l12 c12 k12
 have B12:=F12.binds (ps:=["self","tie"]) fun _ _ _ _ _ _ us hl=>by obtain ⟨_,_,rfl⟩:=lenN2 hl;rfl
 have F13:=fun_mk (st:=s_Fold_pair) l13 c13 k13
 have B13:=F13.binds (ps:=["self","knot"]) fun _ _ _ _ _ _ us hl=>by obtain ⟨_,_,rfl⟩:=lenN2 hl;rfl
 have F14:=fun_mk (st:=s_Fold_both) l14 c14 k14
 have B14:=F14.binds (ps:=["self","one","other"]) fun _ _ _ _ _ _ us hl=>by obtain ⟨_,_,_,rfl⟩:=lenN3 hl;rfl
 have F15:=fun_mk (st:=s_Fold_and_knot) l15 c15 k15
 have B15:=F15.binds (ps:=["self","ties"]) fun _ _ _ _ _ _ us hl=>by obtain ⟨_,_,rfl⟩:=lenN2 hl;rfl
 have F16:=fun_mk (st:=s_and_tie) l16 c16 k16
 have B16:=F16.binds (ps:=["fold","ties"]) fun _ _ _ _ _ _ us hl=>by obtain ⟨_,_,rfl⟩:=lenN2 hl;rfl
 have F17:=fun_mk (st:=s_or_tie) l17 c17 k17
 have B17:=F17.binds (ps:=["fold","ties"]) fun _ _ _ _ _ _ us hl=>by obtain ⟨_,_,rfl⟩:=lenN2 hl;rfl
 have F18:=fun_mk (st:=s_either_of_two) l18 c18 k18
 have B18:=F18.binds (ps:=["fold","one","other"]) fun _ _ _ _ _ _ us hl=>by obtain ⟨_,_,_,rfl⟩:=lenN3 hl;rfl
 have F19:=fun_mk (st:=s_either_tie) l19 c19 k19
 have B19:=F19.binds (ps:=["fold","ties"]) fun _ _ _ _ _ _ us hl=>by obtain ⟨_,_,rfl⟩:=lenN2 hl;rfl
 have F20:=fun_mk (st:=s_choose_tie) l20 c20 k20
 have B20:=F20.binds (ps:=["fold","ties"]) fun _ _ _ _ _ _ us hl=>by obtain ⟨_,_,rfl⟩:=lenN2 hl;rfl
 have F21:=fun_mk (st:=s_most_tie) l21 c21 k21
 have B21:=F21.binds (ps:=["fold","ties"]) fun _ _ _ _ _ _ us hl=>by obtain ⟨_,_,rfl⟩:=lenN2 hl;rfl
 have F22:=fun_mk (st:=s_gate_tie) l22 c22 k22
 have B22:=F22.binds (ps:=["fold","word","ties"]) fun _ _ _ _ _ _ us hl=>by obtain ⟨_,_,_,rfl⟩:=lenN3 hl;rfl
 have F23:=fun_mk (st:=s_moved_tie) l23 c23 k23
 have B23:=F23.binds (ps:=["moved","tie"]) fun _ _ _ _ _ _ us hl=>by obtain ⟨_,_,rfl⟩:=lenN2 hl;rfl
 have F24:=fun_mk (st:=s_swept) l24 c24 k24
 have B24:=F24.binds (ps:=["fold","ties"]) fun _ _ _ _ _ _ us hl=>by obtain ⟨_,_,rfl⟩:=lenN2 hl;rfl
 have F25:=fun_mk (st:=s_folded) l25 c25 k25
 have B25:=F25.binds (ps:=["net"]) fun _ _ _ _ _ _ us hl=>by obtain ⟨_,rfl⟩:=lenN1 hl;rfl
 have F26:=fun_mk (st:=s_all_lit) l26 c26 k26
 have B26:=F26.binds (ps:=["columns","every"]) fun _ _ _ _ _ _ us hl=>by obtain ⟨_,_,rfl⟩:=lenN2 hl;rfl
 have F27:=fun_mk (st:=s_some_lit) l27 c27 k27
 have B27:=F27.binds (ps:=["columns"]) fun _ _ _ _ _ _ us hl=>by obtain ⟨_,rfl⟩:=lenN1 hl;rfl
 have F28:=fun_mk (st:=s_odd_lit) l28 c28 k28
 have B28:=F28.binds (ps:=["columns"]) fun _ _ _ _ _ _ us hl=>by obtain ⟨_,rfl⟩:=lenN1 hl;rfl
 have F29:=fun_mk (st:=s_chosen_lit) l29 c29 k29
 have B29:=F29.binds (ps:=["columns","every"]) fun _ _ _ _ _ _ us hl=>by obtain ⟨_,_,rfl⟩:=lenN2 hl;rfl
 have F30:=fun_mk (st:=s_most_lit) l30 c30 k30
 have B30:=F30.binds (ps:=["columns"]) fun _ _ _ _ _ _ us hl=>by obtain ⟨_,rfl⟩:=lenN1 hl;rfl
 have F31:=fun_mk (st:=s_column_by) l31 c31 k31
 have B31:=F31.binds (ps:=["word","columns","every"]) fun _ _ _ _ _ _ us hl=>by obtain ⟨_,_,_,rfl⟩:=lenN3 hl;rfl
 have F32:=fun_mk (st:=s_Net___init__) l32 c32 k32
 have B32:=F32.binds (ps:=["self","inputs","gates","outputs"]) fun _ _ _ _ _ _ us hl=>by obtain ⟨_,_,_,_,rfl⟩:=lenN4 hl;rfl
 have F33:=fun_mk (st:=s_Net_columns) l33 c33 k33
 have B33:=F33.binds (ps:=["self"]) fun _ _ _ _ _ _ us hl=>by obtain ⟨_,rfl⟩:=lenN1 hl;rfl
 have F34:=fun_mk (st:=s_Net_carried) l34 c34 k34
 have B34:=F34.binds (ps:=["self","columns","every"]) fun _ _ _ _ _ _ us hl=>by obtain ⟨_,_,_,rfl⟩:=lenN3 hl;rfl
 have F35:=fun_mk (st:=s_law_cell_at) l35 c35 k35
 have B35:=F35.binds (ps:=["_law_script","_law_k"]) fun _ _ _ _ _ _ us hl=>by obtain ⟨_,_,rfl⟩:=lenN2 hl;rfl
 have F36:=fun_mk (st:=s_law_name) l36 c36 k36
 have B36:=F36.binds (ps:=["_law_cell","_law_k"]) fun _ _ _ _ _ _ us hl=>by obtain ⟨_,_,rfl⟩:=lenN2 hl;rfl
 have F37:=fun_mk (st:=s_law_input) l37 c37 k37
 have B37:=F37.binds (ps:=["_law_many","_law_at"]) fun _ _ _ _ _ _ us hl=>by obtain ⟨_,_,rfl⟩:=lenN2 hl;rfl
 have F38:=fun_mk (st:=s_law_gate_column) l38 c38 k38
 have B38:=F38.binds (ps:=["_law_word","_law_some","_law_full"]) fun _ _ _ _ _ _ us hl=>by obtain ⟨_,_,_,rfl⟩:=lenN3 hl;rfl
 have F39:=fun_mk (st:=s_law_picked) l39 c39 k39
 have B39:=F39.binds (ps:=["_law_cell","_law_count","_law_k"]) fun _ _ _ _ _ _ us hl=>by obtain ⟨_,_,_,rfl⟩:=lenN3 hl;rfl
 have F40:=fun_mk (st:=s_law_gate_by) l40 c40 k40
 have B40:=F40.binds (ps:=["_law_cell","_law_count","_law_most"]) fun _ _ _ _ _ _ us hl=>by obtain ⟨_,_,_,rfl⟩:=lenN3 hl;rfl
 have F41:=fun_mk (st:=s_law_gate) l41 c41 k41
 have B41:=F41.binds (ps:=["_law_cell","_law_count"]) fun _ _ _ _ _ _ us hl=>by obtain ⟨_,_,rfl⟩:=lenN2 hl;rfl
 have F42:=fun_mk (st:=s_law) l42 c42 k42
 have B42:=F42.binds (ps:=["_law_script"]) fun _ _ _ _ _ _ us hl=>by obtain ⟨_,rfl⟩:=lenN1 hl;rfl
 have T:Txt K mg ⟨f0,_,f1,_,f2,_,f3,_,f4,_,f5,_,f6,_,f7,_,f8,_,f9,_,f10,_,f11,_,f12,_,f13,_,f14,_,f15,_,f16,_,f17,_,f18,_,f19,_,f20,_,f21,_,f22,_,f23,_,f24,_,f25,_,f26,_,f27,_,f28,_,f29,_,f30,_,f31,_,f32,_,f33,_,f34,_,f35,_,f36,_,f37,_,f38,_,f39,_,f40,_,f41,_,_,_,C_Fold,C_Net⟩:=⟨PySem.W.mg_of X G a0,F0,B0,PySem.W.mg_of X G a1,F1,B1,PySem.W.mg_of X G a2,F2,B2,PySem.W.mg_of X G a3,F3,B3,PySem.W.mg_of X G a4,F4,B4,PySem.W.mg_of X G a5,F5,B5,PySem.W.mg_of X G a6,F6,B6,PySem.W.mg_of X G a7,F7,B7,PySem.W.mg_of X G a8,F8,B8,PySem.W.mg_of X G a9,F9,B9,F10,B10,F11,B11,⟨a11,i11,k11⟩,F12,B12,⟨a12,i12,k12⟩,F13,B13,⟨a13,i13,k13⟩,F14,B14,⟨a14,i14,k14⟩,F15,B15,⟨a15,i15,k15⟩,PySem.W.mg_of X G a16,F16,B16,PySem.W.mg_of X G a17,F17,B17,PySem.W.mg_of X G a18,F18,B18,PySem.W.mg_of X G a19,F19,B19,PySem.W.mg_of X G a20,F20,B20,PySem.W.mg_of X G a21,F21,B21,PySem.W.mg_of X G a22,F22,B22,PySem.W.mg_of X G a23,F23,B23,PySem.W.mg_of X G a24,F24,B24,PySem.W.mg_of X G a25,F25,B25,PySem.W.mg_of X G a26,F26,B26,PySem.W.mg_of X G a27,F27,B27,PySem.W.mg_of X G a28,F28,B28,PySem.W.mg_of X G a29,F29,B29,PySem.W.mg_of X G a30,F30,B30,PySem.W.mg_of X G a31,F31,B31,F32,B32,F33,B33,⟨a33,i33,k33⟩,F34,B34,⟨a34,i34,k34⟩,PySem.W.mg_of X G a35,F35,B35,PySem.W.mg_of X G a36,F36,B36,PySem.W.mg_of X G a37,F37,B37,PySem.W.mg_of X G a38,F38,B38,PySem.W.mg_of X G a39,F39,B39,PySem.W.mg_of X G a40,F40,B40,PySem.W.mg_of X G a41,F41,B41,PySem.W.mg_of X G a42,F42,B42,PySem.W.mg_of X G aC_Fold,⟨pg_Fold,hd_Fold,po_Fold,sa_Fold⟩,⟨mk_Fold,a10,i10,kc_Fold⟩,n_Fold_many,n_Fold_pairs,n_Fold_knots,PySem.W.mg_of X G aC_Net,⟨pg_Net,hd_Net,po_Net,sa_Net⟩,⟨mk_Net,a32,i32,kc_Net⟩,n_Net_inputs,n_Net_gates,n_Net_outputs,⟨_,PySem.W.mg_of X G g_ALWAYS,⟨_,rfl⟩⟩,⟨_,PySem.W.mg_of X G g_NEVER,⟨_,rfl⟩⟩,PySem.W.mg_none_of X G z_bool,PySem.W.mg_none_of X G z_dict,PySem.W.mg_none_of X G z_enumerate,PySem.W.mg_none_of X G z_int,PySem.W.mg_none_of X G z_isinstance,PySem.W.mg_none_of X G z_len,PySem.W.mg_none_of X G z_max,PySem.W.mg_none_of X G z_min,PySem.W.mg_none_of X G z_range,PySem.W.mg_none_of X G z_tuple,PySem.W.mg_none_of X G z_zip⟩
 exact ⟨_,fun s v=>.of_eq rfl,fun base _ _=>ok_law T⟩
theorem walk {l:PySem.W.OpenLaw}{q:Program}{loose:List Str}{XP:(Str→Option Value)→Heap→Prop}{YP:World→Heap→Prop}{d:DefRec}{K:Params→PySem.W.Frag} (hn:l.most=some 63) (hdf:d.params.defaults=[])
  (hY:∀ (w:World) (h:Heap),YP w h→(K w.params).In h)
  (F:∀ (w:World) (mg:Str→Option Value) (fa:Addr) (h:Heap),(K w.params).In h→h.Ns mainGlobals mg→mg d.name=some (.ref fa) →
   ∃ fd:FuncData,(∀ (s:Shared) (u:Value),BindsTo s fd ⟨[u],[]⟩ [("_law_script",u)])∧∀ base:Heap,(K w.params).In base→base.Ns mainGlobals mg→FnOk l.prog w (K w.params) mg base CX0 10 fa fd ["_law_script"] (sp_law (K w.params))) :
  PySem.W.WalkO q loose XP YP l.row.toRowW d [] (fun f vs=>PySem.call f vs) :=
 L2.walk_of (n:=63) (k:=10) (x:="_law_script") (CX:=fun _=>CX0) (sp:=fun w=>sp_law (K w.params)) hn (by decide) hdf ⟨rfl,by decide,by decide⟩ hY F (fun _ _ a ns hl _ hS=>⟨a,ns,rfl,hS,hl,fun _=>rfl⟩) fun _ _ _ _ _ z=>z
end K20
lay_quick PySem.Challenge.pw_gatefold_k20_folded_as_the_net
namespace OT
open PySem PySem.W PySem.Spec PyProof.Rows L2
abbrev PM:=Params
abbrev OB:=Obj
noncomputable abbrev TP:Program:=PySem.W.Fast.tw15391285397024872807
noncomputable def tT (i:Nat):Stmt:=TP.main.body.getD i (.Pass ⟨0,0,0,0⟩)
abbrev vs (s:Str) (t:Nat):Value:=.str s t
abbrev vr (a:Nat):Value:=.ref a
abbrev vi (a:Int) (t:Nat):Value:=.int a t
abbrev vn:Value:=.none
abbrev df (a:Array Value):Data:=.fields a
abbrev dq (a:Array Value) (n:Nat):Data:=.seq a n
abbrev dd (a:Array DictEntry) (n:Nat):Data:=.dict a n
noncomputable abbrev de (P:Params) (s:Str) (t:Nat) (v:Value):DictEntry:=.mk (PyData.keyHash P s) (.str s t) v
abbrev ob (t:String) (d:Data) (sl:Array (Option Value)):Obj:=⟨.type t,none,d,sl⟩
abbrev nd:=BT.node
abbrev nl:=BT.nil
noncomputable abbrev y0:String:=PySem.W.SL.s2766695959194262286x5
noncomputable abbrev y1:String:=PySem.W.SL.s5856160107412720595x4
noncomputable abbrev y2:String:=PySem.W.SL.s658472552662922059x5
noncomputable abbrev y3:String:=PySem.W.SL.s14018661285674007319x4
noncomputable abbrev y4:String:=PySem.W.SL.s7097527257260152453x26
noncomputable abbrev y5:String:=PySem.W.SL.s7174869446012820540x8
noncomputable abbrev y6:String:=PySem.W.SL.s6070975301684473832x10
noncomputable abbrev y7:String:=PySem.W.SL.s11030030927630378310x26
noncomputable abbrev y8:String:=PySem.W.SL.s10062305145149207511x16
noncomputable abbrev y9:String:=PySem.W.SL.s17162191345867700912x4
noncomputable abbrev y10:String:=PySem.W.SL.s5946037652744460706x9
noncomputable abbrev y11:String:=PySem.W.SL.s4278001404047624695x13
noncomputable abbrev y12:String:=PySem.W.SL.s2742458400755230247x6
noncomputable abbrev y13:String:=PySem.W.SL.s4209523147560561109x18
noncomputable abbrev y14:String:=PySem.W.SL.s14755015743595814543x17
noncomputable abbrev y15:String:=PySem.W.SL.s10220274742760427390x26
noncomputable abbrev y16:String:=PySem.W.SL.s4290257624100764138x5
noncomputable abbrev y17:String:=PySem.W.SL.s4860613602091757760x24
noncomputable abbrev y18:String:=PySem.W.SL.s11443829558043349243x14
noncomputable abbrev y19:String:=PySem.W.SL.s6511155373996960695x17
noncomputable abbrev y20:String:=PySem.W.SL.s12411053484034534018x21
noncomputable abbrev b0 (P:PM):OB:=PySem.W.boot_o_0 P
noncomputable abbrev b1 (P:PM):OB:=PySem.W.boot_o_1 P
noncomputable abbrev b2 (P:PM):OB:=PySem.W.boot_o_2 P
noncomputable abbrev b3 (P:PM):OB:=PySem.W.boot_o_3 P
noncomputable abbrev b4 (P:PM):OB:=PySem.W.boot_o_4 P
noncomputable abbrev b5 (P:PM):OB:=PySem.W.boot_o_5 P
noncomputable abbrev b6 (P:PM):OB:=PySem.W.boot_o_6 P
noncomputable abbrev b7 (P:PM):OB:=PySem.W.boot_o_7 P
noncomputable abbrev b8 (P:PM):OB:=PySem.W.boot_o_8 P
noncomputable abbrev b9 (P:PM):OB:=PySem.W.boot_o_9 P
noncomputable abbrev b10 (P:PM):OB:=PySem.W.boot_o_10 P
noncomputable abbrev j0 (a b:Str) (s:Stmt):OB:=⟨vn,none,.func (.mk a b (defArgs s) (.stmts (defBody s)) (defScope s) 0 [] vn vn vn vn none vn vn 0),⟨[]⟩⟩
noncomputable abbrev j1 (a b:Str) (s:Stmt) (q:Str) (t n:Nat):OB:=⟨(Value.type y5),none,.func (.mk a b (defArgs s) (.stmts (defBody s)) (defScope s) 3 [] vn vn vn (vs q t) none (vr n) vn 0),⟨[]⟩⟩
abbrev q0:Str:=⟨⟨[115,111,109,101,95,108,105,116]⟩⟩
abbrev q1:Str:=⟨⟨[47,99,108,97,105,109,47,99,117,116,46,112,121]⟩⟩
abbrev q2:Str:=⟨⟨[95,95,100,105,99,116,95,95]⟩⟩
abbrev q3:Str:=⟨⟨[95,108,97,119,95,99,101,108,108]⟩⟩
abbrev q4:Str:=⟨⟨[95,108,97,119,95,107]⟩⟩
abbrev q5:Str:=⟨⟨[95,108,97,119,95,108,101,116,116,101,114,115]⟩⟩
abbrev q6:Str:=⟨⟨[95,108,97,119,95,119,111,114,100]⟩⟩
abbrev q7:Str:=⟨⟨[95,108,97,119,95,114,101,115,116]⟩⟩
abbrev q8:Str:=⟨⟨[95,108,97,119,95,106]⟩⟩
abbrev q9:Str:=⟨⟨[95,108,97,119,95,97,116]⟩⟩
abbrev q10:Str:=⟨⟨[95,108,97,119,95,110,117,109,98,101,114]⟩⟩
abbrev q11:Str:=⟨⟨[95,108,97,119,95,115,105,103,110]⟩⟩
abbrev q12:Str:=⟨⟨[95,108,97,119,95,110,97,109,101,95,104,101,114,101]⟩⟩
abbrev q13:Str:=⟨⟨[97,108,108,95,108,105,116]⟩⟩
abbrev q14:Str:=⟨⟨[99,111,108,117,109,110,115]⟩⟩
abbrev q15:Str:=⟨⟨[101,118,101,114,121]⟩⟩
abbrev q16:Str:=⟨⟨[108,105,116]⟩⟩
abbrev q17:Str:=⟨⟨[99,111,108,117,109,110]⟩⟩
abbrev q18:Str:=⟨⟨[103,97,116,101,102,111,108,100,46,103,97,116,101,115]⟩⟩
abbrev q19:Str:=⟨⟨[78,111,75,110,111,116]⟩⟩
abbrev q20:Str:=⟨⟨[95,95,119,101,97,107,114,101,102,95,95]⟩⟩
abbrev q21:Str:=⟨⟨[99,104,111,115,101,110,95,108,105,116]⟩⟩
abbrev q22:Str:=⟨⟨[102,105,114,115,116]⟩⟩
abbrev q23:Str:=⟨⟨[115,101,108,102]⟩⟩
abbrev q24:Str:=⟨⟨[109,97,110,121]⟩⟩
abbrev q25:Str:=⟨⟨[112,97,105,114]⟩⟩
abbrev q26:Str:=⟨⟨[70,111,108,100,46,112,97,105,114]⟩⟩
abbrev q27:Str:=⟨⟨[107,110,111,116]⟩⟩
abbrev q28:Str:=⟨⟨[116,111,116,97,108]⟩⟩
abbrev q30:Str:=⟨⟨[112,97,105,114,115]⟩⟩
abbrev q31:Str:=⟨⟨[103,97,116,101,102,111,108,100,46,102,111,108,100,115]⟩⟩
abbrev q32:Str:=⟨⟨[95,108,97,119,95,103,97,116,101,95,98,121]⟩⟩
abbrev q33:Str:=⟨⟨[114,101,97,99,104,101,100]⟩⟩
abbrev q34:Str:=⟨⟨[102,111,108,100]⟩⟩
abbrev q35:Str:=⟨⟨[107,110,111,116,115]⟩⟩
abbrev q39:Str:=⟨⟨[116,105,101]⟩⟩
abbrev q42:Str:=⟨⟨[95,108,97,119,95,110,97,109,101]⟩⟩
abbrev q57:Str:=⟨⟨[107,110,111,116,95,99,111,108,117,109,110,115]⟩⟩
abbrev q58:Str:=⟨⟨[108,105,116,95,107,110,111,116,115]⟩⟩
abbrev q59:Str:=⟨⟨[105,110,112,117,116,95,99,111,108,117,109,110,115]⟩⟩
abbrev q60:Str:=⟨⟨[102,117,108,108,95,99,111,108,117,109,110]⟩⟩
abbrev q61:Str:=⟨⟨[103,97,116,101,102,111,108,100,46,108,105,103,104,116,105,110,103]⟩⟩
abbrev q62:Str:=⟨⟨[108,105,116,95,116,105,101]⟩⟩
abbrev q63:Str:=⟨⟨[95,108,97,119,95,109,97,110,121]⟩⟩
abbrev q64:Str:=⟨⟨[95,108,97,119,95,102,111,117,110,100]⟩⟩
abbrev q65:Str:=⟨⟨[95,108,97,119,95,108,105,103,104,116,105,110,103]⟩⟩
abbrev q66:Str:=⟨⟨[111,100,100,95,108,105,116]⟩⟩
abbrev q67:Str:=⟨⟨[95,95,110,97,109,101,95,95]⟩⟩
abbrev q68:Str:=⟨⟨[103,97,116,101,102,111,108,100,46,101,114,114,111,114,115]⟩⟩
abbrev q69:Str:=⟨⟨[95,95,100,111,99,95,95]⟩⟩
abbrev q70:Str:=⟨⟨[95,95,112,97,99,107,97,103,101,95,95]⟩⟩
abbrev q71:Str:=⟨⟨[95,95,108,111,97,100,101,114,95,95]⟩⟩
abbrev q72:Str:=⟨⟨[95,95,115,112,101,99,95,95]⟩⟩
abbrev q73:Str:=⟨⟨[95,95,97,110,110,111,116,97,116,105,111,110,115,95,95]⟩⟩
abbrev q74:Str:=⟨⟨[95,95,98,117,105,108,116,105,110,115,95,95]⟩⟩
abbrev q75:Str:=⟨⟨[95,95,102,105,108,101,95,95]⟩⟩
abbrev q76:Str:=⟨⟨[95,95,99,97,99,104,101,100,95,95]⟩⟩
abbrev q77:Str:=⟨⟨[70,111,108,100,69,114,114,111,114]⟩⟩
abbrev q78:Str:=⟨⟨[78,111,84,105,101]⟩⟩
abbrev q79:Str:=⟨⟨[70,111,108,100,46,116,111,116,97,108]⟩⟩
abbrev q80:Str:=⟨⟨[108,97,119,95,103,97,116,101,102,111,108,100,95,107,50,48,95,102,111,108,100,101,100,95,97,115,95,116,104,101,95,110,101,116]⟩⟩
abbrev q81:Str:=⟨⟨[95,95,105,110,105,116,95,95]⟩⟩
abbrev q82:Str:=⟨⟨[70,111,108,100,46,95,95,105,110,105,116,95,95]⟩⟩
abbrev q83:Str:=⟨⟨[103,97,116,101,102,111,108,100,46,110,101,116,115]⟩⟩
abbrev q84:Str:=⟨⟨[97,110,100,95,116,105,101]⟩⟩
abbrev q85:Str:=⟨⟨[116,111,108,100]⟩⟩
abbrev q86:Str:=⟨⟨[78,101,116,46,116,111,108,100]⟩⟩
abbrev q88:Str:=⟨⟨[99,97,114,114,105,101,100]⟩⟩
abbrev q89:Str:=⟨⟨[116,114,117,116,104,95,99,111,108,117,109,110,115]⟩⟩
abbrev q90:Str:=⟨⟨[108,105,116,95,112,97,105,114]⟩⟩
abbrev q91:Str:=⟨⟨[110,101,101,100,95,116,105,101]⟩⟩
abbrev q92:Str:=⟨⟨[78,69,86,69,82]⟩⟩
abbrev q93:Str:=⟨⟨[65,76,87,65,89,83]⟩⟩
abbrev q94:Str:=⟨⟨[116,117,114,110,101,100]⟩⟩
abbrev q95:Str:=⟨⟨[95,108,97,119,95,99,111,117,110,116]⟩⟩
abbrev q96:Str:=⟨⟨[95,108,97,119,95,109,111,115,116]⟩⟩
abbrev q97:Str:=⟨⟨[95,108,97,119,95,115,112,111,116,115]⟩⟩
abbrev q98:Str:=⟨⟨[111,114,95,116,105,101]⟩⟩
abbrev q99:Str:=⟨⟨[116,105,101,115]⟩⟩
abbrev q100:Str:=⟨⟨[103,97,116,101,102,111,108,100,46,102,111,108,100,105,110,103]⟩⟩
abbrev q101:Str:=⟨⟨[101,105,116,104,101,114,95,116,105,101]⟩⟩
abbrev q102:Str:=⟨⟨[95,108,97,119,95,103,97,116,101]⟩⟩
abbrev q104:Str:=⟨⟨[95,108,97,119,95,112,105,99,107,101,100]⟩⟩
abbrev q105:Str:=⟨⟨[95,95,109,111,100,117,108,101,95,95]⟩⟩
abbrev q106:Str:=⟨⟨[95,95,102,105,114,115,116,108,105,110,101,110,111,95,95]⟩⟩
abbrev q107:Str:=⟨⟨[95,95,115,116,97,116,105,99,95,97,116,116,114,105,98,117,116,101,115,95,95]⟩⟩
abbrev q108:Str:=⟨⟨[109,111,118,101,100,95,116,105,101]⟩⟩
abbrev q109:Str:=⟨⟨[109,111,118,101,100]⟩⟩
abbrev q110:Str:=⟨⟨[115,119,101,112,116]⟩⟩
abbrev q112:Str:=⟨⟨[70,111,108,100]⟩⟩
abbrev q114:Str:=⟨⟨[98,111,116,104]⟩⟩
abbrev q115:Str:=⟨⟨[97,110,100,95,107,110,111,116]⟩⟩
abbrev q116:Str:=⟨⟨[70,111,108,100,46,97,110,100,95,107,110,111,116]⟩⟩
abbrev q120:Str:=⟨⟨[103,97,116,101,102,111,108,100,46,98,105,116,115]⟩⟩
abbrev q121:Str:=⟨⟨[103,97,116,101,102,111,108,100,46,99,111,110,101,115]⟩⟩
abbrev q122:Str:=⟨⟨[95,108,97,119,95,103,97,116,101,95,99,111,108,117,109,110]⟩⟩
abbrev q123:Str:=⟨⟨[95,108,97,119,95,115,111,109,101]⟩⟩
abbrev q124:Str:=⟨⟨[95,108,97,119,95,102,117,108,108]⟩⟩
abbrev q126:Str:=⟨⟨[95,108,97,119,95,111,110,101]⟩⟩
abbrev q127:Str:=⟨⟨[109,111,115,116,95,116,105,101]⟩⟩
abbrev q128:Str:=⟨⟨[115,101,99,111,110,100]⟩⟩
abbrev q129:Str:=⟨⟨[116,104,105,114,100]⟩⟩
abbrev q130:Str:=⟨⟨[103,97,116,101,115]⟩⟩
abbrev q131:Str:=⟨⟨[105,110,112,117,116,115]⟩⟩
abbrev q132:Str:=⟨⟨[111,117,116,112,117,116,115]⟩⟩
abbrev q133:Str:=⟨⟨[104,97,115,95,116,105,101]⟩⟩
abbrev q134:Str:=⟨⟨[70,111,108,100,46,104,97,115,95,116,105,101]⟩⟩
abbrev q135:Str:=⟨⟨[95,95,113,117,97,108,110,97,109,101,95,95]⟩⟩
abbrev q136:Str:=⟨⟨[78,101,116]⟩⟩
abbrev q137:Str:=⟨⟨[95,95,109,97,105,110,95,95]⟩⟩
abbrev q139:Str:=⟨⟨[101,105,116,104,101,114,95,111,102,95,116,119,111]⟩⟩
abbrev q140:Str:=⟨⟨[99,104,111,111,115,101,95,116,105,101]⟩⟩
abbrev q141:Str:=⟨⟨[103,97,116,101,95,116,105,101]⟩⟩
abbrev q142:Str:=⟨⟨[102,111,108,100,101,100]⟩⟩
abbrev q143:Str:=⟨⟨[109,111,115,116,95,108,105,116]⟩⟩
abbrev q144:Str:=⟨⟨[99,111,108,117,109,110,95,98,121]⟩⟩
abbrev q145:Str:=⟨⟨[95,108,97,119,95,99,101,108,108,95,97,116]⟩⟩
abbrev q146:Str:=⟨⟨[95,108,97,119,95,105,110,112,117,116]⟩⟩
abbrev q147:Str:=⟨⟨[108,97,119]⟩⟩
abbrev q148:Str:=⟨⟨[78,101,116,46,99,97,114,114,105,101,100]⟩⟩
abbrev q152:Str:=⟨⟨[119,111,114,100]⟩⟩
abbrev q155:Str:=⟨⟨[78,101,116,46,99,111,108,117,109,110,115]⟩⟩
abbrev q156:Str:=⟨⟨[95,108,97,119,95,115,99,114,105,112,116]⟩⟩
abbrev q171:Str:=⟨⟨[60,109,111,100,117,108,101,62]⟩⟩
abbrev q172:Str:=⟨⟨[78,101,116,46,95,95,105,110,105,116,95,95]⟩⟩
abbrev q174:Str:=⟨⟨[116,111,112]⟩⟩
abbrev q175:Str:=⟨⟨[70,111,108,100,46,98,111,116,104]⟩⟩
abbrev q176:Str:=⟨⟨[111,110,101]⟩⟩
abbrev q177:Str:=⟨⟨[111,116,104,101,114]⟩⟩
noncomputable def o43 (P:PM):OB:=(ob y0 (dq ⟨[]⟩ 0) ⟨[]⟩)
noncomputable def o44 (P:PM):OB:=(Obj.mk vn none (df ⟨[]⟩) ⟨[]⟩)
noncomputable def o45 (P:PM):OB:=(ob y1 (df ⟨[vs q171 182,vs q171 183,vs q1 184,vi 1 0,vi 0 0,vi 0 0,vi 0 0,vi 0 0,vr 11,(Value.bool false),vi 181 0,vr 12,vn,vn,vn,vn,vi 185 0,vi 1 0,vs q1 186]⟩) ⟨[]⟩)
noncomputable def o46 (P:PM):OB:=(ob y2 Data.plain ⟨[(some (vr 13)),(some (vr 3)),(some (vr 3)),none,(some (vs q137 164)),none,(some (vr 0))]⟩)
noncomputable def o49 (P:PM):OB:=(ob y3 (dd ⟨[de P q67 165 (vs q68 202),de P q69 166 vn,de P q70 167 vn,de P q71 168 (Value.builtin y4),de P q72 169 vn,de P q73 170 (vr 6),de P q74 171 (vr 4),de P q75 173 (vs q1 172),de P q76 174 vn,de P q60 195 (vr 21),de P q59 201 (vr 26),de P q77 221 (vr 36)]⟩ 12) ⟨[]⟩)
noncomputable def o50 (P:PM):OB:=(Obj.mk vn none (df ⟨[vi 2 0,vi 0 0,vr 20,vi 4 0,vi 0 0,vr 25,vi 15 0,vi 0 0,vr 32]⟩) ⟨[]⟩)
noncomputable def o53 (P:PM):OB:=(ob y0 (dq ⟨[vs q24 192]⟩ 0) ⟨[]⟩)
noncomputable def o55 (P:PM):OB:=j0 q60 q60 (tT 1)
noncomputable def o56 (P:PM):OB:=(ob y1 (df ⟨[vs q60 189,vs q60 190,vs q1 191,vi 2 0,vi 1 0,vi 0 0,vi 0 0,vi 3 0,vr 15,(Value.bool true),vi 181 0,vr 16,vn,vr 17,vr 18,vr 19,vi 193 0,vi 2 0,vs q1 194]⟩) ⟨[]⟩)
noncomputable def o57 (P:PM):OB:=j1 q60 q60 (tT 1) q120 187 20
noncomputable def o60 (P:PM):OB:=j0 q59 q59 (tT 2)
noncomputable def o61 (P:PM):OB:=(ob y1 (df ⟨[vs q59 196,vs q59 197,vs q1 198,vi 4 0,vi 1 0,vi 0 0,vi 0 0,vi 3 0,vr 22,(Value.bool true),vi 181 0,vr 23,vn,vn,vn,vr 24,vi 199 0,vi 4 0,vs q1 200]⟩) ⟨[]⟩)
noncomputable def o62 (P:PM):OB:=j1 q59 q59 (tT 2) q120 187 25
noncomputable def o63 (P:PM):OB:=(ob y0 (dq ⟨[(Value.type y6)]⟩ 0) ⟨[]⟩)
noncomputable def o64 (P:PM):OB:=(ob y7 (df ⟨[(Value.builtin y8),(Value.type y9)]⟩) ⟨[]⟩)
noncomputable def o65 (P:PM):OB:=(ob y3 (dd ⟨[de P q105 211 (vs q68 202),de P q135 213 (vs q77 212),de P q106 215 (vi 15 214),de P q107 216 (vr 34)]⟩ 4) ⟨[]⟩)
noncomputable def o68 (P:PM):OB:=(ob y1 (df ⟨[vs q77 206,vs q77 207,vs q1 208,vi 15 0,vi 0 0,vi 0 0,vi 0 0,vi 0 0,vr 30,(Value.bool false),vi 181 0,vr 31,vn,vn,vn,vn,vi 209 0,vi 15 0,vs q1 210]⟩) ⟨[]⟩)
noncomputable def o69 (P:PM):OB:=(ob y2 Data.plain ⟨[(some (vr 32)),(some (vr 3)),(some (vr 29)),none,(some (vs q68 202)),none,(some (vr 0))]⟩)
noncomputable def o71 (P:PM):OB:=(ob y3 (dd ⟨[de P q105 211 (vs q68 202),de P q106 215 (vi 15 214),de P q107 216 (vr 34),de P q20 218 (vr 37),de P q69 219 vn]⟩ 3) ⟨[]⟩)
noncomputable def o72 (P:PM):OB:=(ob y9 (Data.cls (ClassData.mk q77 [(Value.type y6)] [vr 36,(Value.type y6),(Value.type y10),(Value.type y11),(Value.type y12)] 35 q77 true [] [] false none false)) ⟨[(some (vr 27)),none,(some (vs q77 204)),(some (vs q77 212)),(some (Value.builtin y13)),(some (Value.bool true))]⟩)
noncomputable def o73 (P:PM):OB:=(ob y14 (df ⟨[vs q20 217,vr 36,(Value.builtin y15),vn]⟩) ⟨[]⟩)
noncomputable def o74 (P:PM):OB:=(ob y16 (df ⟨[vr 36,vr 36,vr 36]⟩) ⟨[]⟩)
noncomputable def o75 (P:PM):OB:=(ob y7 (df ⟨[(Value.builtin y17),vr 36]⟩) ⟨[]⟩)
noncomputable def o76 (P:PM):OB:=(ob y3 (dd ⟨[de P q67 165 (vs q68 202),de P q69 166 vn,de P q70 167 vn,de P q71 168 (Value.builtin y4),de P q72 169 vn,de P q73 170 (vr 6),de P q74 171 (vr 4),de P q75 173 (vs q1 172),de P q76 174 vn,de P q60 195 (vr 21),de P q59 201 (vr 26),de P q77 221 (vr 36),de P q78 237 (vr 49)]⟩ 13) ⟨[]⟩)
noncomputable def o77 (P:PM):OB:=(Obj.mk vn none (df ⟨[vi 2 0,vi 0 0,vr 20,vi 4 0,vi 0 0,vr 25,vi 15 0,vi 0 0,vr 32,vi 17 0,vi 0 0,vr 45]⟩) ⟨[]⟩)
noncomputable def o78 (P:PM):OB:=(ob y9 (Data.cls (ClassData.mk q77 [(Value.type y6)] [vr 36,(Value.type y6),(Value.type y10),(Value.type y11),(Value.type y12)] 35 q77 true [] [vr 49] false none false)) ⟨[(some (vr 27)),none,(some (vs q77 204)),(some (vs q77 212)),(some (Value.builtin y13)),(some (Value.bool true))]⟩)
noncomputable def o79 (P:PM):OB:=(ob y0 (dq ⟨[vr 36]⟩ 0) ⟨[]⟩)
noncomputable def o81 (P:PM):OB:=(ob y3 (dd ⟨[de P q105 229 (vs q68 202),de P q135 231 (vs q78 230),de P q106 233 (vi 17 232),de P q107 234 (vr 47)]⟩ 4) ⟨[]⟩)
noncomputable def o84 (P:PM):OB:=(ob y1 (df ⟨[vs q78 224,vs q78 225,vs q1 226,vi 17 0,vi 0 0,vi 0 0,vi 0 0,vi 0 0,vr 43,(Value.bool false),vi 181 0,vr 44,vn,vn,vn,vn,vi 227 0,vi 17 0,vs q1 228]⟩) ⟨[]⟩)
noncomputable def o85 (P:PM):OB:=(ob y2 Data.plain ⟨[(some (vr 45)),(some (vr 3)),(some (vr 42)),none,(some (vs q68 202)),none,(some (vr 0))]⟩)
noncomputable def o87 (P:PM):OB:=(ob y3 (dd ⟨[de P q105 229 (vs q68 202),de P q106 233 (vi 17 232),de P q107 234 (vr 47),de P q69 235 vn]⟩ 2) ⟨[]⟩)
noncomputable def o88 (P:PM):OB:=(ob y9 (Data.cls (ClassData.mk q78 [vr 36] [vr 49,vr 36,(Value.type y6),(Value.type y10),(Value.type y11),(Value.type y12)] 48 q78 true [] [] false none false)) ⟨[(some (vr 40)),none,(some (vs q78 222)),(some (vs q78 230)),(some (Value.builtin y13)),(some (Value.bool true))]⟩)
noncomputable def o89 (P:PM):OB:=(ob y16 (df ⟨[vr 49,vr 49,vr 49]⟩) ⟨[]⟩)
noncomputable def o90 (P:PM):OB:=(ob y7 (df ⟨[(Value.builtin y17),vr 49]⟩) ⟨[]⟩)
noncomputable def o91 (P:PM):OB:=(ob y3 (dd ⟨[de P q67 165 (vs q61 254),de P q69 166 vn,de P q70 167 vn,de P q71 168 (Value.builtin y4),de P q72 169 vn,de P q73 170 (vr 6),de P q74 171 (vr 4),de P q75 173 (vs q1 172),de P q76 174 vn,de P q60 195 (vr 21),de P q59 201 (vr 26),de P q77 221 (vr 36),de P q78 237 (vr 49),de P q19 253 (vr 61),de P q58 267 (vr 70),de P q90 276 (vr 77),de P q62 285 (vr 84),de P q91 293 (vr 91),de P q17 302 (vr 98)]⟩ 19) ⟨[]⟩)
noncomputable def o92 (P:PM):OB:=(Obj.mk vn none (df ⟨[vi 2 0,vi 0 0,vr 20,vi 4 0,vi 0 0,vr 25,vi 15 0,vi 0 0,vr 32,vi 17 0,vi 0 0,vr 45,vi 19 0,vi 0 0,vr 57,vi 22 0,vi 0 0,vr 69,vi 27 0,vi 0 0,vr 76,vi 29 0,vi 0 0,vr 83,vi 31 0,vi 0 0,vr 90,vi 34 0,vi 0 0,vr 97]⟩) ⟨[]⟩)
noncomputable def o93 (P:PM):OB:=(ob y9 (Data.cls (ClassData.mk q77 [(Value.type y6)] [vr 36,(Value.type y6),(Value.type y10),(Value.type y11),(Value.type y12)] 35 q77 true [] [vr 49,vr 61] false none false)) ⟨[(some (vr 27)),none,(some (vs q77 204)),(some (vs q77 212)),(some (Value.builtin y13)),(some (Value.bool true))]⟩)
noncomputable def o96 (P:PM):OB:=(ob y3 (dd ⟨[de P q105 245 (vs q68 202),de P q135 247 (vs q19 246),de P q106 249 (vi 19 248),de P q107 250 (vr 59)]⟩ 4) ⟨[]⟩)
noncomputable def o99 (P:PM):OB:=(ob y1 (df ⟨[vs q19 240,vs q19 241,vs q1 242,vi 19 0,vi 0 0,vi 0 0,vi 0 0,vi 0 0,vr 55,(Value.bool false),vi 181 0,vr 56,vn,vn,vn,vn,vi 243 0,vi 19 0,vs q1 244]⟩) ⟨[]⟩)
noncomputable def o100 (P:PM):OB:=(ob y2 Data.plain ⟨[(some (vr 57)),(some (vr 3)),(some (vr 54)),none,(some (vs q68 202)),none,(some (vr 0))]⟩)
noncomputable def o102 (P:PM):OB:=(ob y3 (dd ⟨[de P q105 245 (vs q68 202),de P q106 249 (vi 19 248),de P q107 250 (vr 59),de P q69 251 vn]⟩ 2) ⟨[]⟩)
noncomputable def o103 (P:PM):OB:=(ob y9 (Data.cls (ClassData.mk q19 [vr 36] [vr 61,vr 36,(Value.type y6),(Value.type y10),(Value.type y11),(Value.type y12)] 60 q19 true [] [] false none false)) ⟨[(some (vr 52)),none,(some (vs q19 238)),(some (vs q19 246)),(some (Value.builtin y13)),(some (Value.bool true))]⟩)
noncomputable def o104 (P:PM):OB:=(ob y16 (df ⟨[vr 61,vr 61,vr 61]⟩) ⟨[]⟩)
noncomputable def o105 (P:PM):OB:=(ob y7 (df ⟨[(Value.builtin y17),vr 61]⟩) ⟨[]⟩)
noncomputable def o108 (P:PM):OB:=(ob y0 (dq ⟨[vs q34 259,vs q174 260,vs q131 261,vs q15 262,vs q16 263,vs q27 264]⟩ 0) ⟨[]⟩)
noncomputable def o110 (P:PM):OB:=j0 q58 q58 (tT 8)
noncomputable def o111 (P:PM):OB:=(ob y1 (df ⟨[vs q58 256,vs q58 257,vs q1 258,vi 22 0,vi 4 0,vi 0 0,vi 0 0,vi 3 0,vr 64,(Value.bool true),vi 181 0,vr 65,vn,vr 66,vr 67,vr 68,vi 265 0,vi 22 0,vs q1 266]⟩) ⟨[]⟩)
noncomputable def o112 (P:PM):OB:=j1 q58 q58 (tT 8) q61 254 69
noncomputable def o115 (P:PM):OB:=(ob y0 (dq ⟨[vs q16 271,vs q25 272,vs q15 273]⟩ 0) ⟨[]⟩)
noncomputable def o117 (P:PM):OB:=j0 q90 q90 (tT 9)
noncomputable def o118 (P:PM):OB:=(ob y1 (df ⟨[vs q90 268,vs q90 269,vs q1 270,vi 27 0,vi 3 0,vi 0 0,vi 0 0,vi 3 0,vr 71,(Value.bool true),vi 181 0,vr 72,vn,vr 73,vr 74,vr 75,vi 274 0,vi 27 0,vs q1 275]⟩) ⟨[]⟩)
noncomputable def o119 (P:PM):OB:=j1 q90 q90 (tT 9) q61 254 76
noncomputable def o122 (P:PM):OB:=(ob y0 (dq ⟨[vs q16 280,vs q39 281,vs q15 282]⟩ 0) ⟨[]⟩)
noncomputable def o124 (P:PM):OB:=j0 q62 q62 (tT 10)
noncomputable def o125 (P:PM):OB:=(ob y1 (df ⟨[vs q62 277,vs q62 278,vs q1 279,vi 29 0,vi 3 0,vi 0 0,vi 0 0,vi 3 0,vr 78,(Value.bool true),vi 181 0,vr 79,vn,vr 80,vr 81,vr 82,vi 283 0,vi 29 0,vs q1 284]⟩) ⟨[]⟩)
noncomputable def o126 (P:PM):OB:=j1 q62 q62 (tT 10) q61 254 83
noncomputable def o129 (P:PM):OB:=(ob y0 (dq ⟨[vs q34 289,vs q39 290]⟩ 0) ⟨[]⟩)
noncomputable def o131 (P:PM):OB:=j0 q91 q91 (tT 11)
noncomputable def o132 (P:PM):OB:=(ob y1 (df ⟨[vs q91 286,vs q91 287,vs q1 288,vi 31 0,vi 2 0,vi 0 0,vi 0 0,vi 3 0,vr 85,(Value.bool true),vi 181 0,vr 86,vn,vr 87,vr 88,vr 89,vi 291 0,vi 31 0,vs q1 292]⟩) ⟨[]⟩)
noncomputable def o133 (P:PM):OB:=j1 q91 q91 (tT 11) q61 254 90
noncomputable def o136 (P:PM):OB:=(ob y0 (dq ⟨[vs q34 297,vs q39 298,vs q15 299]⟩ 0) ⟨[]⟩)
noncomputable def o138 (P:PM):OB:=j0 q17 q17 (tT 12)
noncomputable def o139 (P:PM):OB:=(ob y1 (df ⟨[vs q17 294,vs q17 295,vs q1 296,vi 34 0,vi 2 0,vi 0 0,vi 0 0,vi 3 0,vr 92,(Value.bool true),vi 181 0,vr 93,vn,vr 94,vr 95,vr 96,vi 300 0,vi 34 0,vs q1 301]⟩) ⟨[]⟩)
noncomputable def o140 (P:PM):OB:=j1 q17 q17 (tT 12) q61 254 97
noncomputable def o141 (P:PM):OB:=(ob y3 (dd ⟨[de P q67 165 (vs q31 318),de P q69 166 vn,de P q70 167 vn,de P q71 168 (Value.builtin y4),de P q72 169 vn,de P q73 170 (vr 6),de P q74 171 (vr 4),de P q75 173 (vs q1 172),de P q76 174 vn,de P q60 195 (vr 21),de P q59 201 (vr 26),de P q77 221 (vr 36),de P q78 237 (vr 49),de P q19 253 (vr 61),de P q58 267 (vr 70),de P q90 276 (vr 77),de P q62 285 (vr 84),de P q91 293 (vr 91),de P q17 302 (vr 98),de P q57 309 (vr 105),de P q33 317 (vr 110),de P q92 321 (vi 0 320),de P q93 323 (vi 1 322),de P q94 330 (vr 117)]⟩ 24) ⟨[]⟩)
noncomputable def o142 (P:PM):OB:=(Obj.mk vn none (df ⟨[vi 2 0,vi 0 0,vr 20,vi 4 0,vi 0 0,vr 25,vi 15 0,vi 0 0,vr 32,vi 17 0,vi 0 0,vr 45,vi 19 0,vi 0 0,vr 57,vi 22 0,vi 0 0,vr 69,vi 27 0,vi 0 0,vr 76,vi 29 0,vi 0 0,vr 83,vi 31 0,vi 0 0,vr 90,vi 34 0,vi 0 0,vr 97,vi 38 0,vi 0 0,vr 104,vi 41 0,vi 0 0,vr 109,vi 53 0,vi 0 0,vr 116]⟩) ⟨[]⟩)
noncomputable def o145 (P:PM):OB:=(ob y0 (dq ⟨[vs q34 306]⟩ 0) ⟨[]⟩)
noncomputable def o147 (P:PM):OB:=j0 q57 q57 (tT 13)
noncomputable def o148 (P:PM):OB:=(ob y1 (df ⟨[vs q57 303,vs q57 304,vs q1 305,vi 38 0,vi 1 0,vi 0 0,vi 0 0,vi 3 0,vr 99,(Value.bool true),vi 181 0,vr 100,vn,vr 101,vr 102,vr 103,vi 307 0,vi 38 0,vs q1 308]⟩) ⟨[]⟩)
noncomputable def o149 (P:PM):OB:=j1 q57 q57 (tT 13) q61 254 104
noncomputable def o152 (P:PM):OB:=j0 q33 q33 (tT 15)
noncomputable def o153 (P:PM):OB:=(ob y1 (df ⟨[vs q33 312,vs q33 313,vs q1 314,vi 41 0,vi 3 0,vi 0 0,vi 0 0,vi 3 0,vr 106,(Value.bool true),vi 181 0,vr 107,vn,vn,vn,vr 108,vi 315 0,vi 41 0,vs q1 316]⟩) ⟨[]⟩)
noncomputable def o154 (P:PM):OB:=j1 q33 q33 (tT 15) q121 310 109
noncomputable def o157 (P:PM):OB:=(ob y0 (dq ⟨[vs q39 327]⟩ 0) ⟨[]⟩)
noncomputable def o159 (P:PM):OB:=j0 q94 q94 (tT 19)
noncomputable def o160 (P:PM):OB:=(ob y1 (df ⟨[vs q94 324,vs q94 325,vs q1 326,vi 53 0,vi 1 0,vi 0 0,vi 0 0,vi 3 0,vr 111,(Value.bool true),vi 181 0,vr 112,vn,vr 113,vr 114,vr 115,vi 328 0,vi 53 0,vs q1 329]⟩) ⟨[]⟩)
noncomputable def o161 (P:PM):OB:=j1 q94 q94 (tT 19) q31 318 116
noncomputable def o162 (P:PM):OB:=(ob y3 (dd ⟨[de P q67 165 (vs q100 404),de P q69 166 vn,de P q70 167 vn,de P q71 168 (Value.builtin y4),de P q72 169 vn,de P q73 170 (vr 6),de P q74 171 (vr 4),de P q75 173 (vs q1 172),de P q76 174 vn,de P q60 195 (vr 21),de P q59 201 (vr 26),de P q77 221 (vr 36),de P q78 237 (vr 49),de P q19 253 (vr 61),de P q58 267 (vr 70),de P q90 276 (vr 77),de P q62 285 (vr 84),de P q91 293 (vr 91),de P q17 302 (vr 98),de P q57 309 (vr 105),de P q33 317 (vr 110),de P q92 321 (vi 0 320),de P q93 323 (vi 1 322),de P q94 330 (vr 117),de P q112 403 (vr 169)]⟩ 25) ⟨[]⟩)
noncomputable def o163 (P:PM):OB:=(Obj.mk vn none (df ⟨[vi 2 0,vi 0 0,vr 20,vi 4 0,vi 0 0,vr 25,vi 15 0,vi 0 0,vr 32,vi 17 0,vi 0 0,vr 45,vi 19 0,vi 0 0,vr 57,vi 22 0,vi 0 0,vr 69,vi 27 0,vi 0 0,vr 76,vi 29 0,vi 0 0,vr 83,vi 31 0,vi 0 0,vr 90,vi 34 0,vi 0 0,vr 97,vi 38 0,vi 0 0,vr 104,vi 41 0,vi 0 0,vr 109,vi 53 0,vi 0 0,vr 116,vi 55 0,vi 0 0,vr 123]⟩) ⟨[]⟩)
noncomputable def o166 (P:PM):OB:=(ob y3 (dd ⟨[de P q105 338 (vs q31 318),de P q135 340 (vs q112 339),de P q106 342 (vi 55 341),de P q81 350 (vr 131),de P q28 357 (vr 138),de P q133 365 (vr 145),de P q25 373 (vr 152),de P q114 384 (vr 159),de P q115 392 (vr 166),de P q107 396 (vr 167)]⟩ 10) ⟨[]⟩)
noncomputable def o168 (P:PM):OB:=(Obj.mk vn none (df ⟨[vi 57 0,vi 4 0,vr 130,vi 62 0,vi 4 0,vr 137,vi 65 0,vi 4 0,vr 144,vi 68 0,vi 4 0,vr 151,vi 75 0,vi 4 0,vr 158,vi 88 0,vi 4 0,vr 165]⟩) ⟨[]⟩)
noncomputable def o169 (P:PM):OB:=(ob y1 (df ⟨[vs q112 333,vs q112 334,vs q1 335,vi 55 0,vi 0 0,vi 0 0,vi 0 0,vi 0 0,vr 121,(Value.bool false),vi 181 0,vr 122,vn,vn,vn,vn,vi 336 0,vi 55 0,vs q1 337]⟩) ⟨[]⟩)
noncomputable def o170 (P:PM):OB:=(ob y2 Data.plain ⟨[(some (vr 123)),(some (vr 3)),(some (vr 120)),none,(some (vs q31 318)),none,(some (vr 0))]⟩)
noncomputable def o173 (P:PM):OB:=(ob y0 (dq ⟨[vs q23 346,vs q24 347]⟩ 0) ⟨[]⟩)
noncomputable def o175 (P:PM):OB:=j0 q81 q82 (inClass (tT 20) 0)
noncomputable def o176 (P:PM):OB:=(ob y1 (df ⟨[vs q81 343,vs q82 344,vs q1 345,vi 57 0,vi 2 0,vi 0 0,vi 0 0,vi 3 0,vr 125,(Value.bool true),vi 181 0,vr 126,vn,vr 127,vr 128,vr 129,vi 348 0,vi 57 0,vs q1 349]⟩) ⟨[]⟩)
noncomputable def o177 (P:PM):OB:=j1 q81 q82 (inClass (tT 20) 0) q31 318 130
noncomputable def o180 (P:PM):OB:=(ob y0 (dq ⟨[vs q23 354]⟩ 0) ⟨[]⟩)
noncomputable def o182 (P:PM):OB:=j0 q28 q79 (inClass (tT 20) 1)
noncomputable def o183 (P:PM):OB:=(ob y1 (df ⟨[vs q28 351,vs q79 352,vs q1 353,vi 62 0,vi 1 0,vi 0 0,vi 0 0,vi 3 0,vr 132,(Value.bool true),vi 181 0,vr 133,vn,vr 134,vr 135,vr 136,vi 355 0,vi 62 0,vs q1 356]⟩) ⟨[]⟩)
noncomputable def o184 (P:PM):OB:=j1 q28 q79 (inClass (tT 20) 1) q31 318 137
noncomputable def o187 (P:PM):OB:=(ob y0 (dq ⟨[vs q23 361,vs q39 362]⟩ 0) ⟨[]⟩)
noncomputable def o189 (P:PM):OB:=j0 q133 q134 (inClass (tT 20) 2)
noncomputable def o190 (P:PM):OB:=(ob y1 (df ⟨[vs q133 358,vs q134 359,vs q1 360,vi 65 0,vi 2 0,vi 0 0,vi 0 0,vi 3 0,vr 139,(Value.bool true),vi 181 0,vr 140,vn,vr 141,vr 142,vr 143,vi 363 0,vi 65 0,vs q1 364]⟩) ⟨[]⟩)
noncomputable def o191 (P:PM):OB:=j1 q133 q134 (inClass (tT 20) 2) q31 318 144
noncomputable def o194 (P:PM):OB:=(ob y0 (dq ⟨[vs q23 369,vs q27 370]⟩ 0) ⟨[]⟩)
noncomputable def o196 (P:PM):OB:=j0 q25 q26 (inClass (tT 20) 3)
noncomputable def o197 (P:PM):OB:=(ob y1 (df ⟨[vs q25 366,vs q26 367,vs q1 368,vi 68 0,vi 2 0,vi 0 0,vi 0 0,vi 3 0,vr 146,(Value.bool true),vi 181 0,vr 147,vn,vr 148,vr 149,vr 150,vi 371 0,vi 68 0,vs q1 372]⟩) ⟨[]⟩)
noncomputable def o198 (P:PM):OB:=j1 q25 q26 (inClass (tT 20) 3) q31 318 151
noncomputable def o201 (P:PM):OB:=(ob y0 (dq ⟨[vs q23 377,vs q176 378,vs q177 379,vs q22 380,vs q128 381]⟩ 0) ⟨[]⟩)
noncomputable def o203 (P:PM):OB:=j0 q114 q175 (inClass (tT 20) 4)
noncomputable def o204 (P:PM):OB:=(ob y1 (df ⟨[vs q114 374,vs q175 375,vs q1 376,vi 75 0,vi 3 0,vi 0 0,vi 0 0,vi 3 0,vr 153,(Value.bool true),vi 181 0,vr 154,vn,vr 155,vr 156,vr 157,vi 382 0,vi 75 0,vs q1 383]⟩) ⟨[]⟩)
noncomputable def o205 (P:PM):OB:=j1 q114 q175 (inClass (tT 20) 4) q31 318 158
noncomputable def o208 (P:PM):OB:=(ob y0 (dq ⟨[vs q23 388,vs q99 389]⟩ 0) ⟨[]⟩)
noncomputable def o210 (P:PM):OB:=j0 q115 q116 (inClass (tT 20) 5)
noncomputable def o211 (P:PM):OB:=(ob y1 (df ⟨[vs q115 385,vs q116 386,vs q1 387,vi 88 0,vi 2 0,vi 0 0,vi 0 0,vi 3 0,vr 160,(Value.bool true),vi 181 0,vr 161,vn,vr 162,vr 163,vr 164,vi 390 0,vi 88 0,vs q1 391]⟩) ⟨[]⟩)
noncomputable def o212 (P:PM):OB:=j1 q115 q116 (inClass (tT 20) 5) q31 318 165
noncomputable def o213 (P:PM):OB:=(ob y0 (dq ⟨[vs q35 393,vs q24 394,vs q30 395]⟩ 0) ⟨[]⟩)
noncomputable def o214 (P:PM):OB:=(ob y3 (dd ⟨[de P q105 338 (vs q31 318),de P q106 342 (vi 55 341),de P q81 350 (vr 131),de P q28 357 (vr 138),de P q133 365 (vr 145),de P q25 373 (vr 152),de P q114 384 (vr 159),de P q115 392 (vr 166),de P q107 396 (vr 167),de P q2 398 (vr 170),de P q20 400 (vr 171),de P q69 401 vn]⟩ 4) ⟨[]⟩)
noncomputable def o215 (P:PM):OB:=(ob y9 (Data.cls (ClassData.mk q112 [(Value.type y12)] [vr 169,(Value.type y12)] 168 q112 true [] [] false none false)) ⟨[none,none,(some (vs q112 331)),(some (vs q112 339)),(some (Value.builtin y18)),(some (Value.bool true))]⟩)
noncomputable def o216 (P:PM):OB:=(ob y14 (df ⟨[vs q2 397,vr 169,(Value.builtin y19),(Value.builtin y20)]⟩) ⟨[]⟩)
noncomputable def o217 (P:PM):OB:=(ob y14 (df ⟨[vs q20 399,vr 169,(Value.builtin y15),vn]⟩) ⟨[]⟩)
noncomputable def o218 (P:PM):OB:=(ob y16 (df ⟨[vr 169,vr 169,vr 169]⟩) ⟨[]⟩)
noncomputable def o219 (P:PM):OB:=(ob y7 (df ⟨[(Value.builtin y17),vr 169]⟩) ⟨[]⟩)
noncomputable def o220 (P:PM):OB:=(ob y3 (dd ⟨[de P q67 165 (vs q18 493),de P q69 166 vn,de P q70 167 vn,de P q71 168 (Value.builtin y4),de P q72 169 vn,de P q73 170 (vr 6),de P q74 171 (vr 4),de P q75 173 (vs q1 172),de P q76 174 vn,de P q60 195 (vr 21),de P q59 201 (vr 26),de P q77 221 (vr 36),de P q78 237 (vr 49),de P q19 253 (vr 61),de P q58 267 (vr 70),de P q90 276 (vr 77),de P q62 285 (vr 84),de P q91 293 (vr 91),de P q17 302 (vr 98),de P q57 309 (vr 105),de P q33 317 (vr 110),de P q92 321 (vi 0 320),de P q93 323 (vi 1 322),de P q94 330 (vr 117),de P q112 403 (vr 169),de P q84 415 (vr 180),de P q98 421 (vr 185),de P q139 432 (vr 192),de P q101 442 (vr 199),de P q140 452 (vr 206),de P q127 463 (vr 213),de P q141 472 (vr 220),de P q108 480 (vr 227),de P q110 486 (vr 232),de P q142 492 (vr 237),de P q13 504 (vr 244),de P q0 513 (vr 251)]⟩ 37) ⟨[]⟩)
noncomputable def o221 (P:PM):OB:=(Obj.mk vn none (df ⟨[vi 2 0,vi 0 0,vr 20,vi 4 0,vi 0 0,vr 25,vi 15 0,vi 0 0,vr 32,vi 17 0,vi 0 0,vr 45,vi 19 0,vi 0 0,vr 57,vi 22 0,vi 0 0,vr 69,vi 27 0,vi 0 0,vr 76,vi 29 0,vi 0 0,vr 83,vi 31 0,vi 0 0,vr 90,vi 34 0,vi 0 0,vr 97,vi 38 0,vi 0 0,vr 104,vi 41 0,vi 0 0,vr 109,vi 53 0,vi 0 0,vr 116,vi 55 0,vi 0 0,vr 123,vi 94 0,vi 0 0,vr 179,vi 99 0,vi 0 0,vr 184,vi 101 0,vi 0 0,vr 191,vi 105 0,vi 0 0,vr 198,vi 110 0,vi 0 0,vr 205,vi 114 0,vi 0 0,vr 212,vi 119 0,vi 0 0,vr 219,vi 133 0,vi 0 0,vr 226,vi 135 0,vi 0 0,vr 231,vi 143 0,vi 0 0,vr 236,vi 152 0,vi 0 0,vr 243,vi 157 0,vi 0 0,vr 250]⟩) ⟨[]⟩)
noncomputable def o224 (P:PM):OB:=(ob y0 (dq ⟨[vs q34 409,vs q99 410,vs q85 411,vs q39 412]⟩ 0) ⟨[]⟩)
noncomputable def o226 (P:PM):OB:=j0 q84 q84 (tT 22)
noncomputable def o227 (P:PM):OB:=(ob y1 (df ⟨[vs q84 406,vs q84 407,vs q1 408,vi 94 0,vi 2 0,vi 0 0,vi 0 0,vi 3 0,vr 174,(Value.bool true),vi 181 0,vr 175,vn,vr 176,vr 177,vr 178,vi 413 0,vi 94 0,vs q1 414]⟩) ⟨[]⟩)
noncomputable def o228 (P:PM):OB:=j1 q84 q84 (tT 22) q100 404 179
noncomputable def o231 (P:PM):OB:=j0 q98 q98 (tT 23)
noncomputable def o232 (P:PM):OB:=(ob y1 (df ⟨[vs q98 416,vs q98 417,vs q1 418,vi 99 0,vi 2 0,vi 0 0,vi 0 0,vi 3 0,vr 181,(Value.bool true),vi 181 0,vr 182,vn,vn,vn,vr 183,vi 419 0,vi 99 0,vs q1 420]⟩) ⟨[]⟩)
noncomputable def o233 (P:PM):OB:=j1 q98 q98 (tT 23) q100 404 184
noncomputable def o236 (P:PM):OB:=(ob y0 (dq ⟨[vs q34 425,vs q176 426,vs q177 427,vs q22 428,vs q128 429]⟩ 0) ⟨[]⟩)
noncomputable def o238 (P:PM):OB:=j0 q139 q139 (tT 24)
noncomputable def o239 (P:PM):OB:=(ob y1 (df ⟨[vs q139 422,vs q139 423,vs q1 424,vi 101 0,vi 3 0,vi 0 0,vi 0 0,vi 3 0,vr 186,(Value.bool true),vi 181 0,vr 187,vn,vr 188,vr 189,vr 190,vi 430 0,vi 101 0,vs q1 431]⟩) ⟨[]⟩)
noncomputable def o240 (P:PM):OB:=j1 q139 q139 (tT 24) q100 404 191
noncomputable def o243 (P:PM):OB:=(ob y0 (dq ⟨[vs q34 436,vs q99 437,vs q85 438,vs q39 439]⟩ 0) ⟨[]⟩)
noncomputable def o245 (P:PM):OB:=j0 q101 q101 (tT 25)
noncomputable def o246 (P:PM):OB:=(ob y1 (df ⟨[vs q101 433,vs q101 434,vs q1 435,vi 105 0,vi 2 0,vi 0 0,vi 0 0,vi 3 0,vr 193,(Value.bool true),vi 181 0,vr 194,vn,vr 195,vr 196,vr 197,vi 440 0,vi 105 0,vs q1 441]⟩) ⟨[]⟩)
noncomputable def o247 (P:PM):OB:=j1 q101 q101 (tT 25) q100 404 198
noncomputable def o250 (P:PM):OB:=(ob y0 (dq ⟨[vs q34 446,vs q99 447,vs q22 448,vs q128 449]⟩ 0) ⟨[]⟩)
noncomputable def o252 (P:PM):OB:=j0 q140 q140 (tT 26)
noncomputable def o253 (P:PM):OB:=(ob y1 (df ⟨[vs q140 443,vs q140 444,vs q1 445,vi 110 0,vi 2 0,vi 0 0,vi 0 0,vi 3 0,vr 200,(Value.bool true),vi 181 0,vr 201,vn,vr 202,vr 203,vr 204,vi 450 0,vi 110 0,vs q1 451]⟩) ⟨[]⟩)
noncomputable def o254 (P:PM):OB:=j1 q140 q140 (tT 26) q100 404 205
noncomputable def o257 (P:PM):OB:=(ob y0 (dq ⟨[vs q34 456,vs q99 457,vs q22 458,vs q128 459,vs q129 460]⟩ 0) ⟨[]⟩)
noncomputable def o259 (P:PM):OB:=j0 q127 q127 (tT 27)
noncomputable def o260 (P:PM):OB:=(ob y1 (df ⟨[vs q127 453,vs q127 454,vs q1 455,vi 114 0,vi 2 0,vi 0 0,vi 0 0,vi 3 0,vr 207,(Value.bool true),vi 181 0,vr 208,vn,vr 209,vr 210,vr 211,vi 461 0,vi 114 0,vs q1 462]⟩) ⟨[]⟩)
noncomputable def o261 (P:PM):OB:=j1 q127 q127 (tT 27) q100 404 212
noncomputable def o264 (P:PM):OB:=(ob y0 (dq ⟨[vs q34 467,vs q152 468,vs q99 469]⟩ 0) ⟨[]⟩)
noncomputable def o266 (P:PM):OB:=j0 q141 q141 (tT 28)
noncomputable def o267 (P:PM):OB:=(ob y1 (df ⟨[vs q141 464,vs q141 465,vs q1 466,vi 119 0,vi 3 0,vi 0 0,vi 0 0,vi 3 0,vr 214,(Value.bool true),vi 181 0,vr 215,vn,vr 216,vr 217,vr 218,vi 470 0,vi 119 0,vs q1 471]⟩) ⟨[]⟩)
noncomputable def o268 (P:PM):OB:=j1 q141 q141 (tT 28) q100 404 219
noncomputable def o271 (P:PM):OB:=(ob y0 (dq ⟨[vs q109 476,vs q39 477]⟩ 0) ⟨[]⟩)
noncomputable def o273 (P:PM):OB:=j0 q108 q108 (tT 29)
noncomputable def o274 (P:PM):OB:=(ob y1 (df ⟨[vs q108 473,vs q108 474,vs q1 475,vi 133 0,vi 2 0,vi 0 0,vi 0 0,vi 3 0,vr 221,(Value.bool true),vi 181 0,vr 222,vn,vr 223,vr 224,vr 225,vi 478 0,vi 133 0,vs q1 479]⟩) ⟨[]⟩)
noncomputable def o275 (P:PM):OB:=j1 q108 q108 (tT 29) q100 404 226
noncomputable def o278 (P:PM):OB:=j0 q110 q110 (tT 30)
noncomputable def o279 (P:PM):OB:=(ob y1 (df ⟨[vs q110 481,vs q110 482,vs q1 483,vi 135 0,vi 2 0,vi 0 0,vi 0 0,vi 3 0,vr 228,(Value.bool true),vi 181 0,vr 229,vn,vn,vn,vr 230,vi 484 0,vi 135 0,vs q1 485]⟩) ⟨[]⟩)
noncomputable def o280 (P:PM):OB:=j1 q110 q110 (tT 30) q100 404 231
noncomputable def o283 (P:PM):OB:=j0 q142 q142 (tT 31)
noncomputable def o284 (P:PM):OB:=(ob y1 (df ⟨[vs q142 487,vs q142 488,vs q1 489,vi 143 0,vi 1 0,vi 0 0,vi 0 0,vi 3 0,vr 233,(Value.bool true),vi 181 0,vr 234,vn,vn,vn,vr 235,vi 490 0,vi 143 0,vs q1 491]⟩) ⟨[]⟩)
noncomputable def o285 (P:PM):OB:=j1 q142 q142 (tT 31) q100 404 236
noncomputable def o288 (P:PM):OB:=(ob y0 (dq ⟨[vs q14 498,vs q15 499,vs q16 500,vs q17 501]⟩ 0) ⟨[]⟩)
noncomputable def o290 (P:PM):OB:=j0 q13 q13 (tT 33)
noncomputable def o291 (P:PM):OB:=(ob y1 (df ⟨[vs q13 495,vs q13 496,vs q1 497,vi 152 0,vi 2 0,vi 0 0,vi 0 0,vi 3 0,vr 238,(Value.bool true),vi 181 0,vr 239,vn,vr 240,vr 241,vr 242,vi 502 0,vi 152 0,vs q1 503]⟩) ⟨[]⟩)
noncomputable def o292 (P:PM):OB:=j1 q13 q13 (tT 33) q18 493 243
noncomputable def o295 (P:PM):OB:=(ob y0 (dq ⟨[vs q14 508,vs q16 509,vs q17 510]⟩ 0) ⟨[]⟩)
noncomputable def o297 (P:PM):OB:=j0 q0 q0 (tT 34)
noncomputable def o298 (P:PM):OB:=(ob y1 (df ⟨[vs q0 505,vs q0 506,vs q1 507,vi 157 0,vi 1 0,vi 0 0,vi 0 0,vi 3 0,vr 245,(Value.bool true),vi 181 0,vr 246,vn,vr 247,vr 248,vr 249,vi 511 0,vi 157 0,vs q1 512]⟩) ⟨[]⟩)
noncomputable def o299 (P:PM):OB:=j1 q0 q0 (tT 34) q18 493 250
noncomputable def o300 (P:PM):OB:=(ob y3 (dd ⟨[de P q67 165 (vs q83 554),de P q69 166 vn,de P q70 167 vn,de P q71 168 (Value.builtin y4),de P q72 169 vn,de P q73 170 (vr 6),de P q74 171 (vr 4),de P q75 173 (vs q1 172),de P q76 174 vn,de P q60 195 (vr 21),de P q59 201 (vr 26),de P q77 221 (vr 36),de P q78 237 (vr 49),de P q19 253 (vr 61),de P q58 267 (vr 70),de P q90 276 (vr 77),de P q62 285 (vr 84),de P q91 293 (vr 91),de P q17 302 (vr 98),de P q57 309 (vr 105),de P q33 317 (vr 110),de P q92 321 (vi 0 320),de P q93 323 (vi 1 322),de P q94 330 (vr 117),de P q112 403 (vr 169),de P q84 415 (vr 180),de P q98 421 (vr 185),de P q139 432 (vr 192),de P q101 442 (vr 199),de P q140 452 (vr 206),de P q127 463 (vr 213),de P q141 472 (vr 220),de P q108 480 (vr 227),de P q110 486 (vr 232),de P q142 492 (vr 237),de P q13 504 (vr 244),de P q0 513 (vr 251),de P q66 522 (vr 258),de P q21 531 (vr 265),de P q143 538 (vr 272),de P q144 547 (vr 279),de P q89 553 (vr 284)]⟩ 42) ⟨[]⟩)
noncomputable def o301 (P:PM):OB:=(Obj.mk vn none (df ⟨[vi 2 0,vi 0 0,vr 20,vi 4 0,vi 0 0,vr 25,vi 15 0,vi 0 0,vr 32,vi 17 0,vi 0 0,vr 45,vi 19 0,vi 0 0,vr 57,vi 22 0,vi 0 0,vr 69,vi 27 0,vi 0 0,vr 76,vi 29 0,vi 0 0,vr 83,vi 31 0,vi 0 0,vr 90,vi 34 0,vi 0 0,vr 97,vi 38 0,vi 0 0,vr 104,vi 41 0,vi 0 0,vr 109,vi 53 0,vi 0 0,vr 116,vi 55 0,vi 0 0,vr 123,vi 94 0,vi 0 0,vr 179,vi 99 0,vi 0 0,vr 184,vi 101 0,vi 0 0,vr 191,vi 105 0,vi 0 0,vr 198,vi 110 0,vi 0 0,vr 205,vi 114 0,vi 0 0,vr 212,vi 119 0,vi 0 0,vr 219,vi 133 0,vi 0 0,vr 226,vi 135 0,vi 0 0,vr 231,vi 143 0,vi 0 0,vr 236,vi 152 0,vi 0 0,vr 243,vi 157 0,vi 0 0,vr 250,vi 162 0,vi 0 0,vr 257,vi 167 0,vi 0 0,vr 264,vi 170 0,vi 0 0,vr 271,vi 172 0,vi 0 0,vr 278,vi 186 0,vi 0 0,vr 283]⟩) ⟨[]⟩)
noncomputable def o304 (P:PM):OB:=(ob y0 (dq ⟨[vs q14 517,vs q16 518,vs q17 519]⟩ 0) ⟨[]⟩)
noncomputable def o306 (P:PM):OB:=j0 q66 q66 (tT 35)
noncomputable def o307 (P:PM):OB:=(ob y1 (df ⟨[vs q66 514,vs q66 515,vs q1 516,vi 162 0,vi 1 0,vi 0 0,vi 0 0,vi 3 0,vr 252,(Value.bool true),vi 181 0,vr 253,vn,vr 254,vr 255,vr 256,vi 520 0,vi 162 0,vs q1 521]⟩) ⟨[]⟩)
noncomputable def o308 (P:PM):OB:=j1 q66 q66 (tT 35) q18 493 257
noncomputable def o311 (P:PM):OB:=(ob y0 (dq ⟨[vs q14 526,vs q15 527,vs q22 528]⟩ 0) ⟨[]⟩)
noncomputable def o313 (P:PM):OB:=j0 q21 q21 (tT 36)
noncomputable def o314 (P:PM):OB:=(ob y1 (df ⟨[vs q21 523,vs q21 524,vs q1 525,vi 167 0,vi 2 0,vi 0 0,vi 0 0,vi 3 0,vr 259,(Value.bool true),vi 181 0,vr 260,vn,vr 261,vr 262,vr 263,vi 529 0,vi 167 0,vs q1 530]⟩) ⟨[]⟩)
noncomputable def o315 (P:PM):OB:=j1 q21 q21 (tT 36) q18 493 264
noncomputable def o318 (P:PM):OB:=(ob y0 (dq ⟨[vs q14 535]⟩ 0) ⟨[]⟩)
noncomputable def o320 (P:PM):OB:=j0 q143 q143 (tT 37)
noncomputable def o321 (P:PM):OB:=(ob y1 (df ⟨[vs q143 532,vs q143 533,vs q1 534,vi 170 0,vi 1 0,vi 0 0,vi 0 0,vi 3 0,vr 266,(Value.bool true),vi 181 0,vr 267,vn,vr 268,vr 269,vr 270,vi 536 0,vi 170 0,vs q1 537]⟩) ⟨[]⟩)
noncomputable def o322 (P:PM):OB:=j1 q143 q143 (tT 37) q18 493 271
noncomputable def o325 (P:PM):OB:=(ob y0 (dq ⟨[vs q152 542,vs q14 543,vs q15 544]⟩ 0) ⟨[]⟩)
noncomputable def o327 (P:PM):OB:=j0 q144 q144 (tT 38)
noncomputable def o328 (P:PM):OB:=(ob y1 (df ⟨[vs q144 539,vs q144 540,vs q1 541,vi 172 0,vi 3 0,vi 0 0,vi 0 0,vi 3 0,vr 273,(Value.bool true),vi 181 0,vr 274,vn,vr 275,vr 276,vr 277,vi 545 0,vi 172 0,vs q1 546]⟩) ⟨[]⟩)
noncomputable def o329 (P:PM):OB:=j1 q144 q144 (tT 38) q18 493 278
noncomputable def o332 (P:PM):OB:=j0 q89 q89 (tT 39)
noncomputable def o333 (P:PM):OB:=(ob y1 (df ⟨[vs q89 548,vs q89 549,vs q1 550,vi 186 0,vi 1 0,vi 0 0,vi 0 0,vi 3 0,vr 280,(Value.bool true),vi 181 0,vr 281,vn,vn,vn,vr 282,vi 551 0,vi 186 0,vs q1 552]⟩) ⟨[]⟩)
noncomputable def o334 (P:PM):OB:=j1 q89 q89 (tT 39) q18 493 283
noncomputable def o335 (P:PM):OB:=(ob y3 (dd ⟨[de P q67 165 (vs q80 605),de P q69 166 vn,de P q70 167 vn,de P q71 168 (Value.builtin y4),de P q72 169 vn,de P q73 170 (vr 6),de P q74 171 (vr 4),de P q75 173 (vs q1 172),de P q76 174 vn,de P q60 195 (vr 21),de P q59 201 (vr 26),de P q77 221 (vr 36),de P q78 237 (vr 49),de P q19 253 (vr 61),de P q58 267 (vr 70),de P q90 276 (vr 77),de P q62 285 (vr 84),de P q91 293 (vr 91),de P q17 302 (vr 98),de P q57 309 (vr 105),de P q33 317 (vr 110),de P q92 321 (vi 0 320),de P q93 323 (vi 1 322),de P q94 330 (vr 117),de P q112 403 (vr 169),de P q84 415 (vr 180),de P q98 421 (vr 185),de P q139 432 (vr 192),de P q101 442 (vr 199),de P q140 452 (vr 206),de P q127 463 (vr 213),de P q141 472 (vr 220),de P q108 480 (vr 227),de P q110 486 (vr 232),de P q142 492 (vr 237),de P q13 504 (vr 244),de P q0 513 (vr 251),de P q66 522 (vr 258),de P q21 531 (vr 265),de P q143 538 (vr 272),de P q144 547 (vr 279),de P q89 553 (vr 284),de P q136 604 (vr 316),de P q145 614 (vr 327),de P q42 630 (vr 334)]⟩ 45) ⟨[]⟩)
noncomputable def o336 (P:PM):OB:=(Obj.mk vn none (df ⟨[vi 2 0,vi 0 0,vr 20,vi 4 0,vi 0 0,vr 25,vi 15 0,vi 0 0,vr 32,vi 17 0,vi 0 0,vr 45,vi 19 0,vi 0 0,vr 57,vi 22 0,vi 0 0,vr 69,vi 27 0,vi 0 0,vr 76,vi 29 0,vi 0 0,vr 83,vi 31 0,vi 0 0,vr 90,vi 34 0,vi 0 0,vr 97,vi 38 0,vi 0 0,vr 104,vi 41 0,vi 0 0,vr 109,vi 53 0,vi 0 0,vr 116,vi 55 0,vi 0 0,vr 123,vi 94 0,vi 0 0,vr 179,vi 99 0,vi 0 0,vr 184,vi 101 0,vi 0 0,vr 191,vi 105 0,vi 0 0,vr 198,vi 110 0,vi 0 0,vr 205,vi 114 0,vi 0 0,vr 212,vi 119 0,vi 0 0,vr 219,vi 133 0,vi 0 0,vr 226,vi 135 0,vi 0 0,vr 231,vi 143 0,vi 0 0,vr 236,vi 152 0,vi 0 0,vr 243,vi 157 0,vi 0 0,vr 250,vi 162 0,vi 0 0,vr 257,vi 167 0,vi 0 0,vr 264,vi 170 0,vi 0 0,vr 271,vi 172 0,vi 0 0,vr 278,vi 186 0,vi 0 0,vr 283,vi 189 0,vi 0 0,vr 290,vi 210 0,vi 0 0,vr 326,vi 214 0,vi 0 0,vr 333]⟩) ⟨[]⟩)
noncomputable def o339 (P:PM):OB:=(ob y3 (dd ⟨[de P q105 563 (vs q83 554),de P q135 565 (vs q136 564),de P q106 567 (vi 189 566),de P q81 573 (vr 296),de P q85 579 (vr 301),de P q14 587 (vr 308),de P q88 593 (vr 313),de P q107 597 (vr 314)]⟩ 8) ⟨[]⟩)
noncomputable def o341 (P:PM):OB:=(Obj.mk vn none (df ⟨[vi 191 0,vi 4 0,vr 295,vi 196 0,vi 4 0,vr 300,vi 200 0,vi 4 0,vr 307,vi 204 0,vi 4 0,vr 312]⟩) ⟨[]⟩)
noncomputable def o342 (P:PM):OB:=(ob y1 (df ⟨[vs q136 558,vs q136 559,vs q1 560,vi 189 0,vi 0 0,vi 0 0,vi 0 0,vi 0 0,vr 288,(Value.bool false),vi 181 0,vr 289,vn,vn,vn,vn,vi 561 0,vi 189 0,vs q1 562]⟩) ⟨[]⟩)
noncomputable def o343 (P:PM):OB:=(ob y2 Data.plain ⟨[(some (vr 290)),(some (vr 3)),(some (vr 287)),none,(some (vs q83 554)),none,(some (vr 0))]⟩)
noncomputable def o346 (P:PM):OB:=j0 q81 q172 (inClass (tT 41) 0)
noncomputable def o347 (P:PM):OB:=(ob y1 (df ⟨[vs q81 568,vs q172 569,vs q1 570,vi 191 0,vi 4 0,vi 0 0,vi 0 0,vi 3 0,vr 292,(Value.bool true),vi 181 0,vr 293,vn,vn,vn,vr 294,vi 571 0,vi 191 0,vs q1 572]⟩) ⟨[]⟩)
noncomputable def o348 (P:PM):OB:=j1 q81 q172 (inClass (tT 41) 0) q83 554 295
noncomputable def o351 (P:PM):OB:=j0 q85 q86 (inClass (tT 41) 1)
noncomputable def o352 (P:PM):OB:=(ob y1 (df ⟨[vs q85 574,vs q86 575,vs q1 576,vi 196 0,vi 2 0,vi 0 0,vi 0 0,vi 3 0,vr 297,(Value.bool true),vi 181 0,vr 298,vn,vn,vn,vr 299,vi 577 0,vi 196 0,vs q1 578]⟩) ⟨[]⟩)
noncomputable def o353 (P:PM):OB:=j1 q85 q86 (inClass (tT 41) 1) q83 554 300
noncomputable def o356 (P:PM):OB:=(ob y0 (dq ⟨[vs q23 583,vs q24 584]⟩ 0) ⟨[]⟩)
noncomputable def o358 (P:PM):OB:=j0 q14 q155 (inClass (tT 41) 2)
noncomputable def o359 (P:PM):OB:=(ob y1 (df ⟨[vs q14 580,vs q155 581,vs q1 582,vi 200 0,vi 1 0,vi 0 0,vi 0 0,vi 3 0,vr 302,(Value.bool true),vi 181 0,vr 303,vn,vr 304,vr 305,vr 306,vi 585 0,vi 200 0,vs q1 586]⟩) ⟨[]⟩)
noncomputable def o360 (P:PM):OB:=j1 q14 q155 (inClass (tT 41) 2) q83 554 307
noncomputable def o363 (P:PM):OB:=j0 q88 q148 (inClass (tT 41) 3)
noncomputable def o364 (P:PM):OB:=(ob y1 (df ⟨[vs q88 588,vs q148 589,vs q1 590,vi 204 0,vi 3 0,vi 0 0,vi 0 0,vi 3 0,vr 309,(Value.bool true),vi 181 0,vr 310,vn,vn,vn,vr 311,vi 591 0,vi 204 0,vs q1 592]⟩) ⟨[]⟩)
noncomputable def o365 (P:PM):OB:=j1 q88 q148 (inClass (tT 41) 3) q83 554 312
noncomputable def o366 (P:PM):OB:=(ob y0 (dq ⟨[vs q130 594,vs q131 595,vs q132 596]⟩ 0) ⟨[]⟩)
noncomputable def o367 (P:PM):OB:=(ob y3 (dd ⟨[de P q105 563 (vs q83 554),de P q106 567 (vi 189 566),de P q81 573 (vr 296),de P q85 579 (vr 301),de P q14 587 (vr 308),de P q88 593 (vr 313),de P q107 597 (vr 314),de P q2 599 (vr 317),de P q20 601 (vr 318),de P q69 602 vn]⟩ 4) ⟨[]⟩)
noncomputable def o368 (P:PM):OB:=(ob y9 (Data.cls (ClassData.mk q136 [(Value.type y12)] [vr 316,(Value.type y12)] 315 q136 true [] [] false none false)) ⟨[none,none,(some (vs q136 556)),(some (vs q136 564)),(some (Value.builtin y18)),(some (Value.bool true))]⟩)
noncomputable def o369 (P:PM):OB:=(ob y14 (df ⟨[vs q2 598,vr 316,(Value.builtin y19),(Value.builtin y20)]⟩) ⟨[]⟩)
noncomputable def o370 (P:PM):OB:=(ob y14 (df ⟨[vs q20 600,vr 316,(Value.builtin y15),vn]⟩) ⟨[]⟩)
noncomputable def o371 (P:PM):OB:=(ob y16 (df ⟨[vr 316,vr 316,vr 316]⟩) ⟨[]⟩)
noncomputable def o372 (P:PM):OB:=(ob y7 (df ⟨[(Value.builtin y17),vr 316]⟩) ⟨[]⟩)
noncomputable def o375 (P:PM):OB:=(ob y0 (dq ⟨[vs q156 610,vs q4 611]⟩ 0) ⟨[]⟩)
noncomputable def o377 (P:PM):OB:=j0 q145 q145 (tT 43)
noncomputable def o378 (P:PM):OB:=(ob y1 (df ⟨[vs q145 607,vs q145 608,vs q1 609,vi 210 0,vi 2 0,vi 0 0,vi 0 0,vi 3 0,vr 321,(Value.bool true),vi 181 0,vr 322,vn,vr 323,vr 324,vr 325,vi 612 0,vi 210 0,vs q1 613]⟩) ⟨[]⟩)
noncomputable def o379 (P:PM):OB:=j1 q145 q145 (tT 43) q80 605 326
noncomputable def o382 (P:PM):OB:=(ob y0 (dq ⟨[vs q3 618,vs q4 619,vs q5 620,vs q6 621,vs q7 622,vs q8 623,vs q9 624,vs q10 625,vs q11 626,vs q12 627]⟩ 0) ⟨[]⟩)
noncomputable def o384 (P:PM):OB:=j0 q42 q42 (tT 44)
noncomputable def o385 (P:PM):OB:=(ob y1 (df ⟨[vs q42 615,vs q42 616,vs q1 617,vi 214 0,vi 2 0,vi 0 0,vi 0 0,vi 3 0,vr 328,(Value.bool true),vi 181 0,vr 329,vn,vr 330,vr 331,vr 332,vi 628 0,vi 214 0,vs q1 629]⟩) ⟨[]⟩)
noncomputable def o386 (P:PM):OB:=j1 q42 q42 (tT 44) q80 605 333
noncomputable def o387 (P:PM):OB:=(ob y3 (dd ⟨[de P q67 165 (vs q80 605),de P q69 166 vn,de P q70 167 vn,de P q71 168 (Value.builtin y4),de P q72 169 vn,de P q73 170 (vr 6),de P q74 171 (vr 4),de P q75 173 (vs q1 172),de P q76 174 vn,de P q60 195 (vr 21),de P q59 201 (vr 26),de P q77 221 (vr 36),de P q78 237 (vr 49),de P q19 253 (vr 61),de P q58 267 (vr 70),de P q90 276 (vr 77),de P q62 285 (vr 84),de P q91 293 (vr 91),de P q17 302 (vr 98),de P q57 309 (vr 105),de P q33 317 (vr 110),de P q92 321 (vi 0 320),de P q93 323 (vi 1 322),de P q94 330 (vr 117),de P q112 403 (vr 169),de P q84 415 (vr 180),de P q98 421 (vr 185),de P q139 432 (vr 192),de P q101 442 (vr 199),de P q140 452 (vr 206),de P q127 463 (vr 213),de P q141 472 (vr 220),de P q108 480 (vr 227),de P q110 486 (vr 232),de P q142 492 (vr 237),de P q13 504 (vr 244),de P q0 513 (vr 251),de P q66 522 (vr 258),de P q21 531 (vr 265),de P q143 538 (vr 272),de P q144 547 (vr 279),de P q89 553 (vr 284),de P q136 604 (vr 316),de P q145 614 (vr 327),de P q42 630 (vr 334),de P q146 640 (vr 341),de P q122 651 (vr 348),de P q104 660 (vr 355),de P q32 673 (vr 362),de P q102 679 (vr 367),de P q147 685 (vr 372)]⟩ 51) ⟨[]⟩)
noncomputable def o388 (P:PM):OB:=(Obj.mk vn none (df ⟨[vi 2 0,vi 0 0,vr 20,vi 4 0,vi 0 0,vr 25,vi 15 0,vi 0 0,vr 32,vi 17 0,vi 0 0,vr 45,vi 19 0,vi 0 0,vr 57,vi 22 0,vi 0 0,vr 69,vi 27 0,vi 0 0,vr 76,vi 29 0,vi 0 0,vr 83,vi 31 0,vi 0 0,vr 90,vi 34 0,vi 0 0,vr 97,vi 38 0,vi 0 0,vr 104,vi 41 0,vi 0 0,vr 109,vi 53 0,vi 0 0,vr 116,vi 55 0,vi 0 0,vr 123,vi 94 0,vi 0 0,vr 179,vi 99 0,vi 0 0,vr 184,vi 101 0,vi 0 0,vr 191,vi 105 0,vi 0 0,vr 198,vi 110 0,vi 0 0,vr 205,vi 114 0,vi 0 0,vr 212,vi 119 0,vi 0 0,vr 219,vi 133 0,vi 0 0,vr 226,vi 135 0,vi 0 0,vr 231,vi 143 0,vi 0 0,vr 236,vi 152 0,vi 0 0,vr 243,vi 157 0,vi 0 0,vr 250,vi 162 0,vi 0 0,vr 257,vi 167 0,vi 0 0,vr 264,vi 170 0,vi 0 0,vr 271,vi 172 0,vi 0 0,vr 278,vi 186 0,vi 0 0,vr 283,vi 189 0,vi 0 0,vr 290,vi 210 0,vi 0 0,vr 326,vi 214 0,vi 0 0,vr 333,vi 230 0,vi 0 0,vr 340,vi 236 0,vi 0 0,vr 347,vi 254 0,vi 0 0,vr 354,vi 258 0,vi 0 0,vr 361,vi 268 0,vi 0 0,vr 366,vi 276 0,vi 0 0,vr 371]⟩) ⟨[]⟩)
noncomputable def o391 (P:PM):OB:=(ob y0 (dq ⟨[vs q63 634,vs q9 635,vs q64 636,vs q65 637]⟩ 0) ⟨[]⟩)
noncomputable def o393 (P:PM):OB:=j0 q146 q146 (tT 45)
noncomputable def o394 (P:PM):OB:=(ob y1 (df ⟨[vs q146 631,vs q146 632,vs q1 633,vi 230 0,vi 2 0,vi 0 0,vi 0 0,vi 3 0,vr 335,(Value.bool true),vi 181 0,vr 336,vn,vr 337,vr 338,vr 339,vi 638 0,vi 230 0,vs q1 639]⟩) ⟨[]⟩)
noncomputable def o395 (P:PM):OB:=j1 q146 q146 (tT 45) q80 605 340
noncomputable def o398 (P:PM):OB:=(ob y0 (dq ⟨[vs q6 644,vs q123 645,vs q124 646,vs q64 647,vs q126 648]⟩ 0) ⟨[]⟩)
noncomputable def o400 (P:PM):OB:=j0 q122 q122 (tT 46)
noncomputable def o401 (P:PM):OB:=(ob y1 (df ⟨[vs q122 641,vs q122 642,vs q1 643,vi 236 0,vi 3 0,vi 0 0,vi 0 0,vi 3 0,vr 342,(Value.bool true),vi 181 0,vr 343,vn,vr 344,vr 345,vr 346,vi 649 0,vi 236 0,vs q1 650]⟩) ⟨[]⟩)
noncomputable def o402 (P:PM):OB:=j1 q122 q122 (tT 46) q80 605 347
noncomputable def o405 (P:PM):OB:=(ob y0 (dq ⟨[vs q3 655,vs q95 656,vs q4 657]⟩ 0) ⟨[]⟩)
noncomputable def o407 (P:PM):OB:=j0 q104 q104 (tT 47)
noncomputable def o408 (P:PM):OB:=(ob y1 (df ⟨[vs q104 652,vs q104 653,vs q1 654,vi 254 0,vi 3 0,vi 0 0,vi 0 0,vi 3 0,vr 349,(Value.bool true),vi 181 0,vr 350,vn,vr 351,vr 352,vr 353,vi 658 0,vi 254 0,vs q1 659]⟩) ⟨[]⟩)
noncomputable def o409 (P:PM):OB:=j1 q104 q104 (tT 47) q80 605 354
noncomputable def o412 (P:PM):OB:=(ob y0 (dq ⟨[vs q3 664,vs q95 665,vs q96 666,vs q6 667,vs q63 668,vs q97 669,vs q4 670]⟩ 0) ⟨[]⟩)
noncomputable def o414 (P:PM):OB:=j0 q32 q32 (tT 48)
noncomputable def o415 (P:PM):OB:=(ob y1 (df ⟨[vs q32 661,vs q32 662,vs q1 663,vi 258 0,vi 3 0,vi 0 0,vi 0 0,vi 3 0,vr 356,(Value.bool true),vi 181 0,vr 357,vn,vr 358,vr 359,vr 360,vi 671 0,vi 258 0,vs q1 672]⟩) ⟨[]⟩)
noncomputable def o416 (P:PM):OB:=j1 q32 q32 (tT 48) q80 605 361
noncomputable def o419 (P:PM):OB:=j0 q102 q102 (tT 49)
noncomputable def o420 (P:PM):OB:=(ob y1 (df ⟨[vs q102 674,vs q102 675,vs q1 676,vi 268 0,vi 2 0,vi 0 0,vi 0 0,vi 3 0,vr 363,(Value.bool true),vi 181 0,vr 364,vn,vn,vn,vr 365,vi 677 0,vi 268 0,vs q1 678]⟩) ⟨[]⟩)
noncomputable def o421 (P:PM):OB:=j1 q102 q102 (tT 49) q80 605 366
noncomputable def o424 (P:PM):OB:=j0 q147 q147 (tT 50)
noncomputable def o425 (P:PM):OB:=(ob y1 (df ⟨[vs q147 680,vs q147 681,vs q1 682,vi 276 0,vi 1 0,vi 0 0,vi 0 0,vi 3 0,vr 368,(Value.bool true),vi 181 0,vr 369,vn,vn,vn,vr 370,vi 683 0,vi 276 0,vs q1 684]⟩) ⟨[]⟩)
noncomputable def o426 (P:PM):OB:=j1 q147 q147 (tT 50) q80 605 371
noncomputable def heap_46 (P:Params):Heap:=(Heap.mk ⟨[b0 P,b1 P,b2 P,b3 P,b4 P,b5 P,b6 P,b7 P,b8 P,b9 P,b10 P,o43 P,o44 P,o45 P,o46 P]⟩ (PySem.Life.mk [] [] [] 0 [] [] false ⟨[]⟩ [] 0 false false false 0 [2000,10,10] false 0 true [] [] 0 false))
noncomputable def tree_47 (P:PM):BT:=(nd (b0 P) (nd (b1 P) (nd (b3 P) (nd (b7 P) nl nl) (nd (o43 P) nl nl)) (nd (b5 P) (nd (b9 P) nl nl) (nd (o45 P) nl nl))) (nd (b2 P) (nd (b4 P) (nd (b8 P) nl nl) (nd (o44 P) nl nl)) (nd (b6 P) (nd (b10 P) nl nl) (nd (o46 P) nl nl))))
noncomputable def tree_75 (P:PM):BT:=(nd (b0 P) (nd (b1 P) (nd (o49 P) (nd (b7 P) (nd (o43 P) (nd (o44 P) nl nl) nl) (nd (o44 P) (nd (o75 P) nl nl) nl)) (nd (o43 P) (nd (o55 P) (nd (o71 P) nl nl) nl) (nd (o63 P) nl nl))) (nd (b5 P) (nd (b9 P) (nd (o53 P) (nd (o69 P) nl nl) nl) (nd (o61 P) nl nl)) (nd (o45 P) (nd (o57 P) (nd (o73 P) nl nl) nl) (nd (o65 P) nl nl)))) (nd (b2 P) (nd (b4 P) (nd (b8 P) (nd (o44 P) (nd (o68 P) nl nl) nl) (nd (o60 P) nl nl)) (nd (o50 P) (nd (o56 P) (nd (o72 P) nl nl) nl) (nd (o64 P) nl nl))) (nd (b6 P) (nd (b10 P) (nd (o43 P) (nd (o43 P) nl nl) nl) (nd (o62 P) nl nl)) (nd (o46 P) (nd (o43 P) (nd (o74 P) nl nl) nl) (nd (o43 P) nl nl)))))
noncomputable def tree_90 (P:PM):BT:=(nd (b0 P) (nd (b1 P) (nd (o76 P) (nd (b7 P) (nd (o43 P) (nd (o44 P) nl nl) (nd (o43 P) nl nl)) (nd (o44 P) (nd (o75 P) nl nl) nl)) (nd (o43 P) (nd (o55 P) (nd (o71 P) nl nl) (nd (o90 P) nl nl)) (nd (o63 P) (nd (o43 P) nl nl) nl))) (nd (b5 P) (nd (b9 P) (nd (o53 P) (nd (o69 P) nl nl) (nd (o88 P) nl nl)) (nd (o61 P) (nd (o64 P) nl nl) nl)) (nd (o45 P) (nd (o57 P) (nd (o73 P) nl nl) nl) (nd (o65 P) (nd (o84 P) nl nl) nl)))) (nd (b2 P) (nd (b4 P) (nd (b8 P) (nd (o44 P) (nd (o68 P) nl nl) (nd (o87 P) nl nl)) (nd (o60 P) (nd (o79 P) nl nl) nl)) (nd (o77 P) (nd (o56 P) (nd (o78 P) nl nl) nl) (nd (o64 P) (nd (o44 P) nl nl) nl))) (nd (b6 P) (nd (b10 P) (nd (o43 P) (nd (o43 P) nl nl) (nd (o89 P) nl nl)) (nd (o62 P) (nd (o81 P) nl nl) nl)) (nd (o46 P) (nd (o43 P) (nd (o74 P) nl nl) nl) (nd (o43 P) (nd (o85 P) nl nl) nl)))))
noncomputable def tree_140 (P:PM):BT:=(nd (b0 P) (nd (b1 P) (nd (o91 P) (nd (b7 P) (nd (o43 P) (nd (o44 P) (nd (o105 P) nl nl) (nd (o43 P) nl nl)) (nd (o43 P) (nd (o44 P) nl nl) nl)) (nd (o44 P) (nd (o75 P) (nd (o43 P) nl nl) nl) (nd (o43 P) (nd (o129 P) nl nl) nl))) (nd (o43 P) (nd (o55 P) (nd (o71 P) (nd (o43 P) nl nl) nl) (nd (o90 P) (nd (o125 P) nl nl) nl)) (nd (o63 P) (nd (o43 P) (nd (o117 P) nl nl) nl) (nd (o43 P) (nd (o133 P) nl nl) nl)))) (nd (b5 P) (nd (b9 P) (nd (o53 P) (nd (o69 P) (nd (o44 P) nl nl) (nd (o139 P) nl nl)) (nd (o88 P) (nd (o43 P) nl nl) nl)) (nd (o61 P) (nd (o64 P) (nd (o115 P) nl nl) nl) (nd (o99 P) (nd (o131 P) nl nl) nl))) (nd (o45 P) (nd (o57 P) (nd (o73 P) (nd (o111 P) nl nl) nl) (nd (o64 P) (nd (o43 P) nl nl) nl)) (nd (o65 P) (nd (o84 P) (nd (o119 P) nl nl) nl) (nd (o103 P) (nd (o44 P) nl nl) nl))))) (nd (b2 P) (nd (b4 P) (nd (b8 P) (nd (o44 P) (nd (o68 P) (nd (o43 P) nl nl) (nd (o138 P) nl nl)) (nd (o87 P) (nd (o122 P) nl nl) nl)) (nd (o60 P) (nd (o79 P) (nd (o44 P) nl nl) nl) (nd (o44 P) (nd (o43 P) nl nl) nl))) (nd (o92 P) (nd (o56 P) (nd (o93 P) (nd (o110 P) nl nl) nl) (nd (o79 P) (nd (o126 P) nl nl) nl)) (nd (o64 P) (nd (o44 P) (nd (o118 P) nl nl) nl) (nd (o102 P) (nd (o43 P) nl nl) nl)))) (nd (b6 P) (nd (b10 P) (nd (o43 P) (nd (o43 P) (nd (o108 P) nl nl) (nd (o140 P) nl nl)) (nd (o89 P) (nd (o124 P) nl nl) nl)) (nd (o62 P) (nd (o81 P) (nd (o43 P) nl nl) nl) (nd (o100 P) (nd (o132 P) nl nl) nl))) (nd (o46 P) (nd (o43 P) (nd (o74 P) (nd (o112 P) nl nl) nl) (nd (o96 P) (nd (o44 P) nl nl) nl)) (nd (o43 P) (nd (o85 P) (nd (o43 P) nl nl) nl) (nd (o104 P) (nd (o136 P) nl nl) nl))))))
noncomputable def tree_161 (P:PM):BT:=(nd (b0 P) (nd (b1 P) (nd (o141 P) (nd (b7 P) (nd (o43 P) (nd (o44 P) (nd (o105 P) nl nl) (nd (o43 P) nl nl)) (nd (o43 P) (nd (o44 P) nl nl) (nd (o43 P) nl nl))) (nd (o44 P) (nd (o75 P) (nd (o43 P) nl nl) (nd (o147 P) nl nl)) (nd (o43 P) (nd (o129 P) nl nl) nl))) (nd (o43 P) (nd (o55 P) (nd (o71 P) (nd (o43 P) nl nl) (nd (o43 P) nl nl)) (nd (o90 P) (nd (o125 P) nl nl) (nd (o159 P) nl nl))) (nd (o63 P) (nd (o43 P) (nd (o117 P) nl nl) (nd (o44 P) nl nl)) (nd (o43 P) (nd (o133 P) nl nl) nl)))) (nd (b5 P) (nd (b9 P) (nd (o53 P) (nd (o69 P) (nd (o44 P) nl nl) (nd (o139 P) nl nl)) (nd (o88 P) (nd (o43 P) nl nl) (nd (o157 P) nl nl))) (nd (o61 P) (nd (o64 P) (nd (o115 P) nl nl) (nd (o149 P) nl nl)) (nd (o99 P) (nd (o131 P) nl nl) nl))) (nd (o45 P) (nd (o57 P) (nd (o73 P) (nd (o111 P) nl nl) (nd (o145 P) nl nl)) (nd (o64 P) (nd (o43 P) nl nl) (nd (o161 P) nl nl))) (nd (o65 P) (nd (o84 P) (nd (o119 P) nl nl) (nd (o153 P) nl nl)) (nd (o103 P) (nd (o44 P) nl nl) nl))))) (nd (b2 P) (nd (b4 P) (nd (b8 P) (nd (o44 P) (nd (o68 P) (nd (o43 P) nl nl) (nd (o138 P) nl nl)) (nd (o87 P) (nd (o122 P) nl nl) (nd (o44 P) nl nl))) (nd (o60 P) (nd (o79 P) (nd (o44 P) nl nl) (nd (o148 P) nl nl)) (nd (o44 P) (nd (o43 P) nl nl) nl))) (nd (o142 P) (nd (o56 P) (nd (o93 P) (nd (o110 P) nl nl) (nd (o44 P) nl nl)) (nd (o79 P) (nd (o126 P) nl nl) (nd (o160 P) nl nl))) (nd (o64 P) (nd (o44 P) (nd (o118 P) nl nl) (nd (o152 P) nl nl)) (nd (o102 P) (nd (o43 P) nl nl) nl)))) (nd (b6 P) (nd (b10 P) (nd (o43 P) (nd (o43 P) (nd (o108 P) nl nl) (nd (o140 P) nl nl)) (nd (o89 P) (nd (o124 P) nl nl) (nd (o43 P) nl nl))) (nd (o62 P) (nd (o81 P) (nd (o43 P) nl nl) (nd (o43 P) nl nl)) (nd (o100 P) (nd (o132 P) nl nl) nl))) (nd (o46 P) (nd (o43 P) (nd (o74 P) (nd (o112 P) nl nl) (nd (o43 P) nl nl)) (nd (o96 P) (nd (o44 P) nl nl) nl)) (nd (o43 P) (nd (o85 P) (nd (o43 P) nl nl) (nd (o154 P) nl nl)) (nd (o104 P) (nd (o136 P) nl nl) nl))))))
noncomputable def tree_219 (P:PM):BT:=(nd (b0 P) (nd (b1 P) (nd (o162 P) (nd (b7 P) (nd (o43 P) (nd (o44 P) (nd (o105 P) (nd (o173 P) nl nl) nl) (nd (o43 P) (nd (o205 P) nl nl) nl)) (nd (o43 P) (nd (o44 P) (nd (o189 P) nl nl) nl) (nd (o43 P) nl nl))) (nd (o44 P) (nd (o75 P) (nd (o43 P) (nd (o43 P) nl nl) nl) (nd (o147 P) (nd (o213 P) nl nl) nl)) (nd (o43 P) (nd (o129 P) (nd (o197 P) nl nl) nl) (nd (o64 P) nl nl)))) (nd (o43 P) (nd (o55 P) (nd (o71 P) (nd (o43 P) (nd (o177 P) nl nl) nl) (nd (o43 P) (nd (o43 P) nl nl) nl)) (nd (o90 P) (nd (o125 P) (nd (o44 P) nl nl) nl) (nd (o159 P) nl nl))) (nd (o63 P) (nd (o43 P) (nd (o117 P) (nd (o43 P) nl nl) nl) (nd (o44 P) (nd (o217 P) nl nl) nl)) (nd (o43 P) (nd (o133 P) (nd (o201 P) nl nl) nl) (nd (o169 P) nl nl))))) (nd (b5 P) (nd (b9 P) (nd (o53 P) (nd (o69 P) (nd (o44 P) (nd (o175 P) nl nl) nl) (nd (o139 P) (nd (o44 P) nl nl) nl)) (nd (o88 P) (nd (o43 P) (nd (o191 P) nl nl) nl) (nd (o157 P) nl nl))) (nd (o61 P) (nd (o64 P) (nd (o115 P) (nd (o183 P) nl nl) nl) (nd (o149 P) (nd (o215 P) nl nl) nl)) (nd (o99 P) (nd (o131 P) (nd (o43 P) nl nl) nl) (nd (o43 P) nl nl)))) (nd (o45 P) (nd (o57 P) (nd (o73 P) (nd (o111 P) (nd (o44 P) nl nl) nl) (nd (o145 P) (nd (o211 P) nl nl) nl)) (nd (o64 P) (nd (o43 P) (nd (o43 P) nl nl) nl) (nd (o161 P) nl nl))) (nd (o65 P) (nd (o84 P) (nd (o119 P) (nd (o187 P) nl nl) nl) (nd (o153 P) (nd (o219 P) nl nl) nl)) (nd (o103 P) (nd (o44 P) (nd (o203 P) nl nl) nl) (nd (o43 P) nl nl)))))) (nd (b2 P) (nd (b4 P) (nd (b8 P) (nd (o44 P) (nd (o68 P) (nd (o43 P) (nd (o43 P) nl nl) nl) (nd (o138 P) (nd (o43 P) nl nl) nl)) (nd (o87 P) (nd (o122 P) (nd (o190 P) nl nl) nl) (nd (o44 P) nl nl))) (nd (o60 P) (nd (o79 P) (nd (o44 P) (nd (o182 P) nl nl) nl) (nd (o148 P) (nd (o214 P) nl nl) nl)) (nd (o44 P) (nd (o43 P) (nd (o198 P) nl nl) nl) (nd (o166 P) nl nl)))) (nd (o163 P) (nd (o56 P) (nd (o93 P) (nd (o110 P) (nd (o43 P) nl nl) nl) (nd (o44 P) (nd (o210 P) nl nl) nl)) (nd (o79 P) (nd (o126 P) (nd (o194 P) nl nl) nl) (nd (o160 P) nl nl))) (nd (o64 P) (nd (o44 P) (nd (o118 P) (nd (o44 P) nl nl) nl) (nd (o152 P) (nd (o218 P) nl nl) nl)) (nd (o102 P) (nd (o43 P) (nd (o43 P) nl nl) nl) (nd (o170 P) nl nl))))) (nd (b6 P) (nd (b10 P) (nd (o43 P) (nd (o43 P) (nd (o108 P) (nd (o176 P) nl nl) nl) (nd (o140 P) (nd (o208 P) nl nl) nl)) (nd (o89 P) (nd (o124 P) (nd (o43 P) nl nl) nl) (nd (o43 P) nl nl))) (nd (o62 P) (nd (o81 P) (nd (o43 P) (nd (o184 P) nl nl) nl) (nd (o43 P) (nd (o216 P) nl nl) nl)) (nd (o100 P) (nd (o132 P) (nd (o44 P) nl nl) nl) (nd (o168 P) nl nl)))) (nd (o46 P) (nd (o43 P) (nd (o74 P) (nd (o112 P) (nd (o180 P) nl nl) nl) (nd (o43 P) (nd (o212 P) nl nl) nl)) (nd (o96 P) (nd (o44 P) (nd (o196 P) nl nl) nl) (nd (o43 P) nl nl))) (nd (o43 P) (nd (o85 P) (nd (o43 P) (nd (o43 P) nl nl) nl) (nd (o154 P) nl nl)) (nd (o104 P) (nd (o136 P) (nd (o204 P) nl nl) nl) (nd (o44 P) nl nl)))))))
noncomputable def tree_299 (P:PM):BT:=(nd (b0 P) (nd (b1 P) (nd (o220 P) (nd (b7 P) (nd (o43 P) (nd (o44 P) (nd (o105 P) (nd (o173 P) nl nl) (nd (o239 P) nl nl)) (nd (o43 P) (nd (o205 P) nl nl) (nd (o271 P) nl nl))) (nd (o43 P) (nd (o44 P) (nd (o189 P) nl nl) (nd (o43 P) nl nl)) (nd (o43 P) (nd (o44 P) nl nl) (nd (o44 P) nl nl)))) (nd (o44 P) (nd (o75 P) (nd (o43 P) (nd (o43 P) nl nl) (nd (o247 P) nl nl)) (nd (o147 P) (nd (o213 P) nl nl) (nd (o279 P) nl nl))) (nd (o43 P) (nd (o129 P) (nd (o197 P) nl nl) (nd (o44 P) nl nl)) (nd (o64 P) (nd (o231 P) nl nl) (nd (o295 P) nl nl))))) (nd (o43 P) (nd (o55 P) (nd (o71 P) (nd (o43 P) (nd (o177 P) nl nl) (nd (o243 P) nl nl)) (nd (o43 P) (nd (o43 P) nl nl) (nd (o275 P) nl nl))) (nd (o90 P) (nd (o125 P) (nd (o44 P) nl nl) (nd (o259 P) nl nl)) (nd (o159 P) (nd (o227 P) nl nl) (nd (o291 P) nl nl)))) (nd (o63 P) (nd (o43 P) (nd (o117 P) (nd (o43 P) nl nl) (nd (o43 P) nl nl)) (nd (o44 P) (nd (o217 P) nl nl) (nd (o283 P) nl nl))) (nd (o43 P) (nd (o133 P) (nd (o201 P) nl nl) (nd (o267 P) nl nl)) (nd (o169 P) (nd (o44 P) nl nl) (nd (o299 P) nl nl)))))) (nd (b5 P) (nd (b9 P) (nd (o53 P) (nd (o69 P) (nd (o44 P) (nd (o175 P) nl nl) (nd (o43 P) nl nl)) (nd (o139 P) (nd (o44 P) nl nl) (nd (o273 P) nl nl))) (nd (o88 P) (nd (o43 P) (nd (o191 P) nl nl) (nd (o257 P) nl nl)) (nd (o157 P) (nd (o43 P) nl nl) (nd (o43 P) nl nl)))) (nd (o61 P) (nd (o64 P) (nd (o115 P) (nd (o183 P) nl nl) (nd (o44 P) nl nl)) (nd (o149 P) (nd (o215 P) nl nl) (nd (o43 P) nl nl))) (nd (o99 P) (nd (o131 P) (nd (o43 P) nl nl) (nd (o43 P) nl nl)) (nd (o43 P) (nd (o233 P) nl nl) (nd (o297 P) nl nl))))) (nd (o45 P) (nd (o57 P) (nd (o73 P) (nd (o111 P) (nd (o44 P) nl nl) (nd (o245 P) nl nl)) (nd (o145 P) (nd (o211 P) nl nl) (nd (o44 P) nl nl))) (nd (o64 P) (nd (o43 P) (nd (o43 P) nl nl) (nd (o261 P) nl nl)) (nd (o161 P) (nd (o43 P) nl nl) (nd (o43 P) nl nl)))) (nd (o65 P) (nd (o84 P) (nd (o119 P) (nd (o187 P) nl nl) (nd (o253 P) nl nl)) (nd (o153 P) (nd (o219 P) nl nl) (nd (o285 P) nl nl))) (nd (o103 P) (nd (o44 P) (nd (o203 P) nl nl) (nd (o43 P) nl nl)) (nd (o43 P) (nd (o43 P) nl nl) nl)))))) (nd (b2 P) (nd (b4 P) (nd (b8 P) (nd (o44 P) (nd (o68 P) (nd (o43 P) (nd (o43 P) nl nl) (nd (o240 P) nl nl)) (nd (o138 P) (nd (o43 P) nl nl) (nd (o43 P) nl nl))) (nd (o87 P) (nd (o122 P) (nd (o190 P) nl nl) (nd (o44 P) nl nl)) (nd (o44 P) (nd (o224 P) nl nl) (nd (o288 P) nl nl)))) (nd (o60 P) (nd (o79 P) (nd (o44 P) (nd (o182 P) nl nl) (nd (o43 P) nl nl)) (nd (o148 P) (nd (o214 P) nl nl) (nd (o280 P) nl nl))) (nd (o44 P) (nd (o43 P) (nd (o198 P) nl nl) (nd (o264 P) nl nl)) (nd (o166 P) (nd (o232 P) nl nl) (nd (o43 P) nl nl))))) (nd (o221 P) (nd (o56 P) (nd (o93 P) (nd (o110 P) (nd (o43 P) nl nl) (nd (o43 P) nl nl)) (nd (o44 P) (nd (o210 P) nl nl) (nd (o43 P) nl nl))) (nd (o79 P) (nd (o126 P) (nd (o194 P) nl nl) (nd (o260 P) nl nl)) (nd (o160 P) (nd (o228 P) nl nl) (nd (o292 P) nl nl)))) (nd (o64 P) (nd (o44 P) (nd (o118 P) (nd (o44 P) nl nl) (nd (o252 P) nl nl)) (nd (o152 P) (nd (o218 P) nl nl) (nd (o284 P) nl nl))) (nd (o102 P) (nd (o43 P) (nd (o43 P) nl nl) (nd (o268 P) nl nl)) (nd (o170 P) (nd (o236 P) nl nl) nl))))) (nd (b6 P) (nd (b10 P) (nd (o43 P) (nd (o43 P) (nd (o108 P) (nd (o176 P) nl nl) (nd (o44 P) nl nl)) (nd (o140 P) (nd (o208 P) nl nl) (nd (o274 P) nl nl))) (nd (o89 P) (nd (o124 P) (nd (o43 P) nl nl) (nd (o43 P) nl nl)) (nd (o43 P) (nd (o226 P) nl nl) (nd (o290 P) nl nl)))) (nd (o62 P) (nd (o81 P) (nd (o43 P) (nd (o184 P) nl nl) (nd (o250 P) nl nl)) (nd (o43 P) (nd (o216 P) nl nl) (nd (o44 P) nl nl))) (nd (o100 P) (nd (o132 P) (nd (o44 P) nl nl) (nd (o266 P) nl nl)) (nd (o168 P) (nd (o43 P) nl nl) (nd (o298 P) nl nl))))) (nd (o46 P) (nd (o43 P) (nd (o74 P) (nd (o112 P) (nd (o180 P) nl nl) (nd (o246 P) nl nl)) (nd (o43 P) (nd (o212 P) nl nl) (nd (o278 P) nl nl))) (nd (o96 P) (nd (o44 P) (nd (o196 P) nl nl) (nd (o43 P) nl nl)) (nd (o43 P) (nd (o44 P) nl nl) (nd (o44 P) nl nl)))) (nd (o43 P) (nd (o85 P) (nd (o43 P) (nd (o43 P) nl nl) (nd (o254 P) nl nl)) (nd (o154 P) (nd (o43 P) nl nl) (nd (o43 P) nl nl))) (nd (o104 P) (nd (o136 P) (nd (o204 P) nl nl) (nd (o44 P) nl nl)) (nd (o44 P) (nd (o238 P) nl nl) nl)))))))
noncomputable def tree_334 (P:PM):BT:=(nd (b0 P) (nd (b1 P) (nd (o300 P) (nd (b7 P) (nd (o43 P) (nd (o44 P) (nd (o105 P) (nd (o173 P) (nd (o43 P) nl nl) nl) (nd (o239 P) nl nl)) (nd (o43 P) (nd (o205 P) nl nl) (nd (o271 P) nl nl))) (nd (o43 P) (nd (o44 P) (nd (o189 P) (nd (o321 P) nl nl) nl) (nd (o43 P) nl nl)) (nd (o43 P) (nd (o44 P) nl nl) (nd (o44 P) nl nl)))) (nd (o44 P) (nd (o75 P) (nd (o43 P) (nd (o43 P) (nd (o313 P) nl nl) nl) (nd (o247 P) nl nl)) (nd (o147 P) (nd (o213 P) nl nl) (nd (o279 P) nl nl))) (nd (o43 P) (nd (o129 P) (nd (o197 P) (nd (o329 P) nl nl) nl) (nd (o44 P) nl nl)) (nd (o64 P) (nd (o231 P) nl nl) (nd (o295 P) nl nl))))) (nd (o43 P) (nd (o55 P) (nd (o71 P) (nd (o43 P) (nd (o177 P) (nd (o43 P) nl nl) nl) (nd (o243 P) nl nl)) (nd (o43 P) (nd (o43 P) nl nl) (nd (o275 P) nl nl))) (nd (o90 P) (nd (o125 P) (nd (o44 P) (nd (o325 P) nl nl) nl) (nd (o259 P) nl nl)) (nd (o159 P) (nd (o227 P) nl nl) (nd (o291 P) nl nl)))) (nd (o63 P) (nd (o43 P) (nd (o117 P) (nd (o43 P) (nd (o44 P) nl nl) nl) (nd (o43 P) nl nl)) (nd (o44 P) (nd (o217 P) nl nl) (nd (o283 P) nl nl))) (nd (o43 P) (nd (o133 P) (nd (o201 P) (nd (o333 P) nl nl) nl) (nd (o267 P) nl nl)) (nd (o169 P) (nd (o44 P) nl nl) (nd (o299 P) nl nl)))))) (nd (b5 P) (nd (b9 P) (nd (o53 P) (nd (o69 P) (nd (o44 P) (nd (o175 P) (nd (o307 P) nl nl) nl) (nd (o43 P) nl nl)) (nd (o139 P) (nd (o44 P) nl nl) (nd (o273 P) nl nl))) (nd (o88 P) (nd (o43 P) (nd (o191 P) (nd (o43 P) nl nl) nl) (nd (o257 P) nl nl)) (nd (o157 P) (nd (o43 P) nl nl) (nd (o43 P) nl nl)))) (nd (o61 P) (nd (o64 P) (nd (o115 P) (nd (o183 P) (nd (o315 P) nl nl) nl) (nd (o44 P) nl nl)) (nd (o149 P) (nd (o215 P) nl nl) (nd (o43 P) nl nl))) (nd (o99 P) (nd (o131 P) (nd (o43 P) (nd (o44 P) nl nl) nl) (nd (o43 P) nl nl)) (nd (o43 P) (nd (o233 P) nl nl) (nd (o297 P) nl nl))))) (nd (o45 P) (nd (o57 P) (nd (o73 P) (nd (o111 P) (nd (o44 P) (nd (o311 P) nl nl) nl) (nd (o245 P) nl nl)) (nd (o145 P) (nd (o211 P) nl nl) (nd (o44 P) nl nl))) (nd (o64 P) (nd (o43 P) (nd (o43 P) (nd (o327 P) nl nl) nl) (nd (o261 P) nl nl)) (nd (o161 P) (nd (o43 P) nl nl) (nd (o43 P) nl nl)))) (nd (o65 P) (nd (o84 P) (nd (o119 P) (nd (o187 P) (nd (o43 P) nl nl) nl) (nd (o253 P) nl nl)) (nd (o153 P) (nd (o219 P) nl nl) (nd (o285 P) nl nl))) (nd (o103 P) (nd (o44 P) (nd (o203 P) nl nl) (nd (o43 P) nl nl)) (nd (o43 P) (nd (o43 P) nl nl) (nd (o44 P) nl nl))))))) (nd (b2 P) (nd (b4 P) (nd (b8 P) (nd (o44 P) (nd (o68 P) (nd (o43 P) (nd (o43 P) (nd (o306 P) nl nl) nl) (nd (o240 P) nl nl)) (nd (o138 P) (nd (o43 P) nl nl) (nd (o43 P) nl nl))) (nd (o87 P) (nd (o122 P) (nd (o190 P) (nd (o322 P) nl nl) nl) (nd (o44 P) nl nl)) (nd (o44 P) (nd (o224 P) nl nl) (nd (o288 P) nl nl)))) (nd (o60 P) (nd (o79 P) (nd (o44 P) (nd (o182 P) (nd (o314 P) nl nl) nl) (nd (o43 P) nl nl)) (nd (o148 P) (nd (o214 P) nl nl) (nd (o280 P) nl nl))) (nd (o44 P) (nd (o43 P) (nd (o198 P) (nd (o43 P) nl nl) nl) (nd (o264 P) nl nl)) (nd (o166 P) (nd (o232 P) nl nl) (nd (o43 P) nl nl))))) (nd (o301 P) (nd (o56 P) (nd (o93 P) (nd (o110 P) (nd (o43 P) (nd (o44 P) nl nl) nl) (nd (o43 P) nl nl)) (nd (o44 P) (nd (o210 P) nl nl) (nd (o43 P) nl nl))) (nd (o79 P) (nd (o126 P) (nd (o194 P) (nd (o43 P) nl nl) nl) (nd (o260 P) nl nl)) (nd (o160 P) (nd (o228 P) nl nl) (nd (o292 P) nl nl)))) (nd (o64 P) (nd (o44 P) (nd (o118 P) (nd (o44 P) (nd (o318 P) nl nl) nl) (nd (o252 P) nl nl)) (nd (o152 P) (nd (o218 P) nl nl) (nd (o284 P) nl nl))) (nd (o102 P) (nd (o43 P) (nd (o43 P) (nd (o334 P) nl nl) nl) (nd (o268 P) nl nl)) (nd (o170 P) (nd (o236 P) nl nl) (nd (o43 P) nl nl)))))) (nd (b6 P) (nd (b10 P) (nd (o43 P) (nd (o43 P) (nd (o108 P) (nd (o176 P) (nd (o308 P) nl nl) nl) (nd (o44 P) nl nl)) (nd (o140 P) (nd (o208 P) nl nl) (nd (o274 P) nl nl))) (nd (o89 P) (nd (o124 P) (nd (o43 P) (nd (o44 P) nl nl) nl) (nd (o43 P) nl nl)) (nd (o43 P) (nd (o226 P) nl nl) (nd (o290 P) nl nl)))) (nd (o62 P) (nd (o81 P) (nd (o43 P) (nd (o184 P) (nd (o43 P) nl nl) nl) (nd (o250 P) nl nl)) (nd (o43 P) (nd (o216 P) nl nl) (nd (o44 P) nl nl))) (nd (o100 P) (nd (o132 P) (nd (o44 P) (nd (o332 P) nl nl) nl) (nd (o266 P) nl nl)) (nd (o168 P) (nd (o43 P) nl nl) (nd (o298 P) nl nl))))) (nd (o46 P) (nd (o43 P) (nd (o74 P) (nd (o112 P) (nd (o180 P) (nd (o43 P) nl nl) nl) (nd (o246 P) nl nl)) (nd (o43 P) (nd (o212 P) nl nl) (nd (o278 P) nl nl))) (nd (o96 P) (nd (o44 P) (nd (o196 P) (nd (o328 P) nl nl) nl) (nd (o43 P) nl nl)) (nd (o43 P) (nd (o44 P) nl nl) (nd (o44 P) nl nl)))) (nd (o43 P) (nd (o85 P) (nd (o43 P) (nd (o43 P) (nd (o320 P) nl nl) nl) (nd (o254 P) nl nl)) (nd (o154 P) (nd (o43 P) nl nl) (nd (o43 P) nl nl))) (nd (o104 P) (nd (o136 P) (nd (o204 P) nl nl) (nd (o44 P) nl nl)) (nd (o44 P) (nd (o238 P) nl nl) (nd (o304 P) nl nl))))))))
noncomputable def tree_386 (P:PM):BT:=(nd (b0 P) (nd (b1 P) (nd (o335 P) (nd (b7 P) (nd (o43 P) (nd (o44 P) (nd (o105 P) (nd (o173 P) (nd (o43 P) nl nl) nl) (nd (o239 P) (nd (o371 P) nl nl) nl)) (nd (o43 P) (nd (o205 P) (nd (o339 P) nl nl) nl) (nd (o271 P) nl nl))) (nd (o43 P) (nd (o44 P) (nd (o189 P) (nd (o321 P) nl nl) nl) (nd (o43 P) nl nl)) (nd (o43 P) (nd (o44 P) (nd (o44 P) nl nl) nl) (nd (o44 P) nl nl)))) (nd (o44 P) (nd (o75 P) (nd (o43 P) (nd (o43 P) (nd (o313 P) nl nl) nl) (nd (o247 P) (nd (o379 P) nl nl) nl)) (nd (o147 P) (nd (o213 P) (nd (o347 P) nl nl) nl) (nd (o279 P) nl nl))) (nd (o43 P) (nd (o129 P) (nd (o197 P) (nd (o329 P) nl nl) nl) (nd (o44 P) nl nl)) (nd (o64 P) (nd (o231 P) (nd (o363 P) nl nl) nl) (nd (o295 P) nl nl))))) (nd (o43 P) (nd (o55 P) (nd (o71 P) (nd (o43 P) (nd (o177 P) (nd (o43 P) nl nl) nl) (nd (o243 P) (nd (o375 P) nl nl) nl)) (nd (o43 P) (nd (o43 P) (nd (o343 P) nl nl) nl) (nd (o275 P) nl nl))) (nd (o90 P) (nd (o125 P) (nd (o44 P) (nd (o325 P) nl nl) nl) (nd (o259 P) nl nl)) (nd (o159 P) (nd (o227 P) (nd (o359 P) nl nl) nl) (nd (o291 P) nl nl)))) (nd (o63 P) (nd (o43 P) (nd (o117 P) (nd (o43 P) (nd (o44 P) nl nl) nl) (nd (o43 P) (nd (o43 P) nl nl) nl)) (nd (o44 P) (nd (o217 P) (nd (o351 P) nl nl) nl) (nd (o283 P) nl nl))) (nd (o43 P) (nd (o133 P) (nd (o201 P) (nd (o333 P) nl nl) nl) (nd (o267 P) nl nl)) (nd (o169 P) (nd (o44 P) (nd (o367 P) nl nl) nl) (nd (o299 P) nl nl)))))) (nd (b5 P) (nd (b9 P) (nd (o53 P) (nd (o69 P) (nd (o44 P) (nd (o175 P) (nd (o307 P) nl nl) nl) (nd (o43 P) (nd (o43 P) nl nl) nl)) (nd (o139 P) (nd (o44 P) (nd (o341 P) nl nl) nl) (nd (o273 P) nl nl))) (nd (o88 P) (nd (o43 P) (nd (o191 P) (nd (o43 P) nl nl) nl) (nd (o257 P) nl nl)) (nd (o157 P) (nd (o43 P) (nd (o43 P) nl nl) nl) (nd (o43 P) nl nl)))) (nd (o61 P) (nd (o64 P) (nd (o115 P) (nd (o183 P) (nd (o315 P) nl nl) nl) (nd (o44 P) (nd (o44 P) nl nl) nl)) (nd (o149 P) (nd (o215 P) (nd (o43 P) nl nl) nl) (nd (o43 P) nl nl))) (nd (o99 P) (nd (o131 P) (nd (o43 P) (nd (o44 P) nl nl) nl) (nd (o43 P) nl nl)) (nd (o43 P) (nd (o233 P) (nd (o365 P) nl nl) nl) (nd (o297 P) nl nl))))) (nd (o45 P) (nd (o57 P) (nd (o73 P) (nd (o111 P) (nd (o44 P) (nd (o311 P) nl nl) nl) (nd (o245 P) (nd (o377 P) nl nl) nl)) (nd (o145 P) (nd (o211 P) (nd (o44 P) nl nl) nl) (nd (o44 P) nl nl))) (nd (o64 P) (nd (o43 P) (nd (o43 P) (nd (o327 P) nl nl) nl) (nd (o261 P) nl nl)) (nd (o161 P) (nd (o43 P) (nd (o43 P) nl nl) nl) (nd (o43 P) nl nl)))) (nd (o65 P) (nd (o84 P) (nd (o119 P) (nd (o187 P) (nd (o43 P) nl nl) nl) (nd (o253 P) (nd (o385 P) nl nl) nl)) (nd (o153 P) (nd (o219 P) (nd (o353 P) nl nl) nl) (nd (o285 P) nl nl))) (nd (o103 P) (nd (o44 P) (nd (o203 P) (nd (o43 P) nl nl) nl) (nd (o43 P) nl nl)) (nd (o43 P) (nd (o43 P) (nd (o369 P) nl nl) nl) (nd (o44 P) nl nl))))))) (nd (b2 P) (nd (b4 P) (nd (b8 P) (nd (o44 P) (nd (o68 P) (nd (o43 P) (nd (o43 P) (nd (o306 P) nl nl) nl) (nd (o240 P) (nd (o372 P) nl nl) nl)) (nd (o138 P) (nd (o43 P) (nd (o43 P) nl nl) nl) (nd (o43 P) nl nl))) (nd (o87 P) (nd (o122 P) (nd (o190 P) (nd (o322 P) nl nl) nl) (nd (o44 P) nl nl)) (nd (o44 P) (nd (o224 P) (nd (o356 P) nl nl) nl) (nd (o288 P) nl nl)))) (nd (o60 P) (nd (o79 P) (nd (o44 P) (nd (o182 P) (nd (o314 P) nl nl) nl) (nd (o43 P) (nd (o43 P) nl nl) nl)) (nd (o148 P) (nd (o214 P) (nd (o348 P) nl nl) nl) (nd (o280 P) nl nl))) (nd (o44 P) (nd (o43 P) (nd (o198 P) (nd (o43 P) nl nl) nl) (nd (o264 P) nl nl)) (nd (o166 P) (nd (o232 P) (nd (o364 P) nl nl) nl) (nd (o43 P) nl nl))))) (nd (o336 P) (nd (o56 P) (nd (o93 P) (nd (o110 P) (nd (o43 P) (nd (o44 P) nl nl) nl) (nd (o43 P) (nd (o43 P) nl nl) nl)) (nd (o44 P) (nd (o210 P) (nd (o43 P) nl nl) nl) (nd (o43 P) nl nl))) (nd (o79 P) (nd (o126 P) (nd (o194 P) (nd (o43 P) nl nl) nl) (nd (o260 P) nl nl)) (nd (o160 P) (nd (o228 P) (nd (o360 P) nl nl) nl) (nd (o292 P) nl nl)))) (nd (o64 P) (nd (o44 P) (nd (o118 P) (nd (o44 P) (nd (o318 P) nl nl) nl) (nd (o252 P) (nd (o384 P) nl nl) nl)) (nd (o152 P) (nd (o218 P) (nd (o352 P) nl nl) nl) (nd (o284 P) nl nl))) (nd (o102 P) (nd (o43 P) (nd (o43 P) (nd (o334 P) nl nl) nl) (nd (o268 P) nl nl)) (nd (o170 P) (nd (o236 P) (nd (o368 P) nl nl) nl) (nd (o43 P) nl nl)))))) (nd (b6 P) (nd (b10 P) (nd (o43 P) (nd (o43 P) (nd (o108 P) (nd (o176 P) (nd (o308 P) nl nl) nl) (nd (o44 P) (nd (o44 P) nl nl) nl)) (nd (o140 P) (nd (o208 P) (nd (o342 P) nl nl) nl) (nd (o274 P) nl nl))) (nd (o89 P) (nd (o124 P) (nd (o43 P) (nd (o44 P) nl nl) nl) (nd (o43 P) nl nl)) (nd (o43 P) (nd (o226 P) (nd (o358 P) nl nl) nl) (nd (o290 P) nl nl)))) (nd (o62 P) (nd (o81 P) (nd (o43 P) (nd (o184 P) (nd (o43 P) nl nl) nl) (nd (o250 P) (nd (o382 P) nl nl) nl)) (nd (o43 P) (nd (o216 P) (nd (o44 P) nl nl) nl) (nd (o44 P) nl nl))) (nd (o100 P) (nd (o132 P) (nd (o44 P) (nd (o332 P) nl nl) nl) (nd (o266 P) nl nl)) (nd (o168 P) (nd (o43 P) (nd (o366 P) nl nl) nl) (nd (o298 P) nl nl))))) (nd (o46 P) (nd (o43 P) (nd (o74 P) (nd (o112 P) (nd (o180 P) (nd (o43 P) nl nl) nl) (nd (o246 P) (nd (o378 P) nl nl) nl)) (nd (o43 P) (nd (o212 P) (nd (o346 P) nl nl) nl) (nd (o278 P) nl nl))) (nd (o96 P) (nd (o44 P) (nd (o196 P) (nd (o328 P) nl nl) nl) (nd (o43 P) nl nl)) (nd (o43 P) (nd (o44 P) (nd (o44 P) nl nl) nl) (nd (o44 P) nl nl)))) (nd (o43 P) (nd (o85 P) (nd (o43 P) (nd (o43 P) (nd (o320 P) nl nl) nl) (nd (o254 P) (nd (o386 P) nl nl) nl)) (nd (o154 P) (nd (o43 P) (nd (o43 P) nl nl) nl) (nd (o43 P) nl nl))) (nd (o104 P) (nd (o136 P) (nd (o204 P) (nd (o64 P) nl nl) nl) (nd (o44 P) nl nl)) (nd (o44 P) (nd (o238 P) (nd (o370 P) nl nl) nl) (nd (o304 P) nl nl))))))))
noncomputable def tree_426 (P:PM):BT:=(nd (b0 P) (nd (b1 P) (nd (o387 P) (nd (b7 P) (nd (o43 P) (nd (o44 P) (nd (o105 P) (nd (o173 P) (nd (o43 P) nl nl) nl) (nd (o239 P) (nd (o371 P) nl nl) nl)) (nd (o43 P) (nd (o205 P) (nd (o339 P) nl nl) nl) (nd (o271 P) (nd (o405 P) nl nl) nl))) (nd (o43 P) (nd (o44 P) (nd (o189 P) (nd (o321 P) nl nl) nl) (nd (o43 P) (nd (o43 P) nl nl) nl)) (nd (o43 P) (nd (o44 P) (nd (o44 P) nl nl) nl) (nd (o44 P) (nd (o421 P) nl nl) nl)))) (nd (o44 P) (nd (o75 P) (nd (o43 P) (nd (o43 P) (nd (o313 P) nl nl) nl) (nd (o247 P) (nd (o379 P) nl nl) nl)) (nd (o147 P) (nd (o213 P) (nd (o347 P) nl nl) nl) (nd (o279 P) (nd (o43 P) nl nl) nl))) (nd (o43 P) (nd (o129 P) (nd (o197 P) (nd (o329 P) nl nl) nl) (nd (o44 P) (nd (o44 P) nl nl) nl)) (nd (o64 P) (nd (o231 P) (nd (o363 P) nl nl) nl) (nd (o295 P) nl nl))))) (nd (o43 P) (nd (o55 P) (nd (o71 P) (nd (o43 P) (nd (o177 P) (nd (o43 P) nl nl) nl) (nd (o243 P) (nd (o375 P) nl nl) nl)) (nd (o43 P) (nd (o43 P) (nd (o343 P) nl nl) nl) (nd (o275 P) (nd (o409 P) nl nl) nl))) (nd (o90 P) (nd (o125 P) (nd (o44 P) (nd (o325 P) nl nl) nl) (nd (o259 P) (nd (o393 P) nl nl) nl)) (nd (o159 P) (nd (o227 P) (nd (o359 P) nl nl) nl) (nd (o291 P) (nd (o425 P) nl nl) nl)))) (nd (o63 P) (nd (o43 P) (nd (o117 P) (nd (o43 P) (nd (o44 P) nl nl) nl) (nd (o43 P) (nd (o43 P) nl nl) nl)) (nd (o44 P) (nd (o217 P) (nd (o351 P) nl nl) nl) (nd (o283 P) (nd (o43 P) nl nl) nl))) (nd (o43 P) (nd (o133 P) (nd (o201 P) (nd (o333 P) nl nl) nl) (nd (o267 P) (nd (o401 P) nl nl) nl)) (nd (o169 P) (nd (o44 P) (nd (o367 P) nl nl) nl) (nd (o299 P) nl nl)))))) (nd (b5 P) (nd (b9 P) (nd (o53 P) (nd (o69 P) (nd (o44 P) (nd (o175 P) (nd (o307 P) nl nl) nl) (nd (o43 P) (nd (o43 P) nl nl) nl)) (nd (o139 P) (nd (o44 P) (nd (o341 P) nl nl) nl) (nd (o273 P) (nd (o407 P) nl nl) nl))) (nd (o88 P) (nd (o43 P) (nd (o191 P) (nd (o43 P) nl nl) nl) (nd (o257 P) (nd (o391 P) nl nl) nl)) (nd (o157 P) (nd (o43 P) (nd (o43 P) nl nl) nl) (nd (o43 P) (nd (o44 P) nl nl) nl)))) (nd (o61 P) (nd (o64 P) (nd (o115 P) (nd (o183 P) (nd (o315 P) nl nl) nl) (nd (o44 P) (nd (o44 P) nl nl) nl)) (nd (o149 P) (nd (o215 P) (nd (o43 P) nl nl) nl) (nd (o43 P) (nd (o415 P) nl nl) nl))) (nd (o99 P) (nd (o131 P) (nd (o43 P) (nd (o44 P) nl nl) nl) (nd (o43 P) (nd (o43 P) nl nl) nl)) (nd (o43 P) (nd (o233 P) (nd (o365 P) nl nl) nl) (nd (o297 P) nl nl))))) (nd (o45 P) (nd (o57 P) (nd (o73 P) (nd (o111 P) (nd (o44 P) (nd (o311 P) nl nl) nl) (nd (o245 P) (nd (o377 P) nl nl) nl)) (nd (o145 P) (nd (o211 P) (nd (o44 P) nl nl) nl) (nd (o44 P) (nd (o44 P) nl nl) nl))) (nd (o64 P) (nd (o43 P) (nd (o43 P) (nd (o327 P) nl nl) nl) (nd (o261 P) (nd (o395 P) nl nl) nl)) (nd (o161 P) (nd (o43 P) (nd (o43 P) nl nl) nl) (nd (o43 P) nl nl)))) (nd (o65 P) (nd (o84 P) (nd (o119 P) (nd (o187 P) (nd (o43 P) nl nl) nl) (nd (o253 P) (nd (o385 P) nl nl) nl)) (nd (o153 P) (nd (o219 P) (nd (o353 P) nl nl) nl) (nd (o285 P) (nd (o419 P) nl nl) nl))) (nd (o103 P) (nd (o44 P) (nd (o203 P) (nd (o43 P) nl nl) nl) (nd (o43 P) (nd (o43 P) nl nl) nl)) (nd (o43 P) (nd (o43 P) (nd (o369 P) nl nl) nl) (nd (o44 P) nl nl))))))) (nd (b2 P) (nd (b4 P) (nd (b8 P) (nd (o44 P) (nd (o68 P) (nd (o43 P) (nd (o43 P) (nd (o306 P) nl nl) nl) (nd (o240 P) (nd (o372 P) nl nl) nl)) (nd (o138 P) (nd (o43 P) (nd (o43 P) nl nl) nl) (nd (o43 P) (nd (o43 P) nl nl) nl))) (nd (o87 P) (nd (o122 P) (nd (o190 P) (nd (o322 P) nl nl) nl) (nd (o44 P) (nd (o44 P) nl nl) nl)) (nd (o44 P) (nd (o224 P) (nd (o356 P) nl nl) nl) (nd (o288 P) (nd (o43 P) nl nl) nl)))) (nd (o60 P) (nd (o79 P) (nd (o44 P) (nd (o182 P) (nd (o314 P) nl nl) nl) (nd (o43 P) (nd (o43 P) nl nl) nl)) (nd (o148 P) (nd (o214 P) (nd (o348 P) nl nl) nl) (nd (o280 P) (nd (o414 P) nl nl) nl))) (nd (o44 P) (nd (o43 P) (nd (o198 P) (nd (o43 P) nl nl) nl) (nd (o264 P) (nd (o398 P) nl nl) nl)) (nd (o166 P) (nd (o232 P) (nd (o364 P) nl nl) nl) (nd (o43 P) nl nl))))) (nd (o388 P) (nd (o56 P) (nd (o93 P) (nd (o110 P) (nd (o43 P) (nd (o44 P) nl nl) nl) (nd (o43 P) (nd (o43 P) nl nl) nl)) (nd (o44 P) (nd (o210 P) (nd (o43 P) nl nl) nl) (nd (o43 P) (nd (o43 P) nl nl) nl))) (nd (o79 P) (nd (o126 P) (nd (o194 P) (nd (o43 P) nl nl) nl) (nd (o260 P) (nd (o394 P) nl nl) nl)) (nd (o160 P) (nd (o228 P) (nd (o360 P) nl nl) nl) (nd (o292 P) (nd (o426 P) nl nl) nl)))) (nd (o64 P) (nd (o44 P) (nd (o118 P) (nd (o44 P) (nd (o318 P) nl nl) nl) (nd (o252 P) (nd (o384 P) nl nl) nl)) (nd (o152 P) (nd (o218 P) (nd (o352 P) nl nl) nl) (nd (o284 P) (nd (o44 P) nl nl) nl))) (nd (o102 P) (nd (o43 P) (nd (o43 P) (nd (o334 P) nl nl) nl) (nd (o268 P) (nd (o402 P) nl nl) nl)) (nd (o170 P) (nd (o236 P) (nd (o368 P) nl nl) nl) (nd (o43 P) nl nl)))))) (nd (b6 P) (nd (b10 P) (nd (o43 P) (nd (o43 P) (nd (o108 P) (nd (o176 P) (nd (o308 P) nl nl) nl) (nd (o44 P) (nd (o44 P) nl nl) nl)) (nd (o140 P) (nd (o208 P) (nd (o342 P) nl nl) nl) (nd (o274 P) (nd (o408 P) nl nl) nl))) (nd (o89 P) (nd (o124 P) (nd (o43 P) (nd (o44 P) nl nl) nl) (nd (o43 P) (nd (o43 P) nl nl) nl)) (nd (o43 P) (nd (o226 P) (nd (o358 P) nl nl) nl) (nd (o290 P) (nd (o424 P) nl nl) nl)))) (nd (o62 P) (nd (o81 P) (nd (o43 P) (nd (o184 P) (nd (o43 P) nl nl) nl) (nd (o250 P) (nd (o382 P) nl nl) nl)) (nd (o43 P) (nd (o216 P) (nd (o44 P) nl nl) nl) (nd (o44 P) (nd (o416 P) nl nl) nl))) (nd (o100 P) (nd (o132 P) (nd (o44 P) (nd (o332 P) nl nl) nl) (nd (o266 P) (nd (o400 P) nl nl) nl)) (nd (o168 P) (nd (o43 P) (nd (o366 P) nl nl) nl) (nd (o298 P) nl nl))))) (nd (o46 P) (nd (o43 P) (nd (o74 P) (nd (o112 P) (nd (o180 P) (nd (o43 P) nl nl) nl) (nd (o246 P) (nd (o378 P) nl nl) nl)) (nd (o43 P) (nd (o212 P) (nd (o346 P) nl nl) nl) (nd (o278 P) (nd (o412 P) nl nl) nl))) (nd (o96 P) (nd (o44 P) (nd (o196 P) (nd (o328 P) nl nl) nl) (nd (o43 P) (nd (o43 P) nl nl) nl)) (nd (o43 P) (nd (o44 P) (nd (o44 P) nl nl) nl) (nd (o44 P) nl nl)))) (nd (o43 P) (nd (o85 P) (nd (o43 P) (nd (o43 P) (nd (o320 P) nl nl) nl) (nd (o254 P) (nd (o386 P) nl nl) nl)) (nd (o154 P) (nd (o43 P) (nd (o43 P) nl nl) nl) (nd (o43 P) (nd (o420 P) nl nl) nl))) (nd (o104 P) (nd (o136 P) (nd (o204 P) (nd (o64 P) nl nl) nl) (nd (o44 P) (nd (o44 P) nl nl) nl)) (nd (o44 P) (nd (o238 P) (nd (o370 P) nl nl) nl) (nd (o304 P) nl nl))))))))
noncomputable def heap_427 (P:Params):Heap:=(Heap.mk ⟨[b0 P,b1 P,b2 P,o387 P,b4 P,b5 P,b6 P,b7 P,b8 P,b9 P,b10 P,o43 P,o388 P,o45 P,o46 P,o43 P,o44 P,o53 P,o43 P,o55 P,o56 P,o57 P,o43 P,o44 P,o60 P,o61 P,o62 P,o63 P,o64 P,o65 P,o43 P,o44 P,o68 P,o69 P,o43 P,o71 P,o93 P,o73 P,o74 P,o75 P,o79 P,o64 P,o81 P,o43 P,o44 P,o84 P,o85 P,o43 P,o87 P,o88 P,o89 P,o90 P,o79 P,o64 P,o96 P,o43 P,o44 P,o99 P,o100 P,o43 P,o102 P,o103 P,o104 P,o105 P,o43 P,o44 P,o108 P,o43 P,o110 P,o111 P,o112 P,o43 P,o44 P,o115 P,o43 P,o117 P,o118 P,o119 P,o43 P,o44 P,o122 P,o43 P,o124 P,o125 P,o126 P,o43 P,o44 P,o129 P,o43 P,o131 P,o132 P,o133 P,o43 P,o44 P,o136 P,o43 P,o138 P,o139 P,o140 P,o43 P,o44 P,o145 P,o43 P,o147 P,o148 P,o149 P,o43 P,o44 P,o152 P,o153 P,o154 P,o43 P,o44 P,o157 P,o43 P,o159 P,o160 P,o161 P,o43 P,o64 P,o166 P,o43 P,o168 P,o169 P,o170 P,o43 P,o44 P,o173 P,o43 P,o175 P,o176 P,o177 P,o43 P,o44 P,o180 P,o43 P,o182 P,o183 P,o184 P,o43 P,o44 P,o187 P,o43 P,o189 P,o190 P,o191 P,o43 P,o44 P,o194 P,o43 P,o196 P,o197 P,o198 P,o43 P,o44 P,o201 P,o43 P,o203 P,o204 P,o205 P,o43 P,o44 P,o208 P,o43 P,o210 P,o211 P,o212 P,o213 P,o214 P,o215 P,o216 P,o217 P,o218 P,o219 P,o43 P,o44 P,o224 P,o43 P,o226 P,o227 P,o228 P,o43 P,o44 P,o231 P,o232 P,o233 P,o43 P,o44 P,o236 P,o43 P,o238 P,o239 P,o240 P,o43 P,o44 P,o243 P,o43 P,o245 P,o246 P,o247 P,o43 P,o44 P,o250 P,o43 P,o252 P,o253 P,o254 P,o43 P,o44 P,o257 P,o43 P,o259 P,o260 P,o261 P,o43 P,o44 P,o264 P,o43 P,o266 P,o267 P,o268 P,o43 P,o44 P,o271 P,o43 P,o273 P,o274 P,o275 P,o43 P,o44 P,o278 P,o279 P,o280 P,o43 P,o44 P,o283 P,o284 P,o285 P,o43 P,o44 P,o288 P,o43 P,o290 P,o291 P,o292 P,o43 P,o44 P,o295 P,o43 P,o297 P,o298 P,o299 P,o43 P,o44 P,o304 P,o43 P,o306 P,o307 P,o308 P,o43 P,o44 P,o311 P,o43 P,o313 P,o314 P,o315 P,o43 P,o44 P,o318 P,o43 P,o320 P,o321 P,o322 P,o43 P,o44 P,o325 P,o43 P,o327 P,o328 P,o329 P,o43 P,o44 P,o332 P,o333 P,o334 P,o43 P,o64 P,o339 P,o43 P,o341 P,o342 P,o343 P,o43 P,o44 P,o346 P,o347 P,o348 P,o43 P,o44 P,o351 P,o352 P,o353 P,o43 P,o44 P,o356 P,o43 P,o358 P,o359 P,o360 P,o43 P,o44 P,o363 P,o364 P,o365 P,o366 P,o367 P,o368 P,o369 P,o370 P,o371 P,o372 P,o43 P,o44 P,o375 P,o43 P,o377 P,o378 P,o379 P,o43 P,o44 P,o382 P,o43 P,o384 P,o385 P,o386 P,o43 P,o44 P,o391 P,o43 P,o393 P,o394 P,o395 P,o43 P,o44 P,o398 P,o43 P,o400 P,o401 P,o402 P,o43 P,o44 P,o405 P,o43 P,o407 P,o408 P,o409 P,o43 P,o44 P,o412 P,o43 P,o414 P,o415 P,o416 P,o43 P,o44 P,o419 P,o420 P,o421 P,o43 P,o44 P,o424 P,o425 P,o426 P]⟩ (PySem.Life.mk [] [] [] 0 [] [] false ⟨[]⟩ [] 0 false false false 0 [2000,10,10] false 0 true [] [] 0 false))
noncomputable def ev (p:Program):Env:=Env.mk p.main.scope mainNs mainNs [] Str.empty none (.ref 13) (some 14) 0
noncomputable def cE (p:Program):Code:=.body (behindTheImports p) (ev p)
noncomputable def st (p:Program) (i k:Nat):List Stmt:=((behindTheImports p).drop i).take k
noncomputable def LF:Life:=Life.mk [] [] [] 0 [] [] false #[] [] 0 false false false 0 [2000,10,10] false 0 true [] [] 0 false
noncomputable def SS (T:Params→BT) (n k:Nat) (w:World) (os:OsState):SharedT:=⟨T w.params,n,LF,⟨[]⟩,⟨0,0,0,0⟩,k,os⟩
def Pc (f:(String→Option Builtin)→Program→World→Nat→Option Value→Nat→Nat→SharedT→Thread→Option (Flow × SharedT × Code × Pos)) (tb:String→Option Builtin) (p:Program) (N i k:Nat) (pos pos':Pos) (T T':Params→BT) (n t n' t':Nat):Prop :=
 ∀ (w:World) (os:OsState),f tb p w 11 (some (.ref 6)) 1 N (SS T n t w os) (piecesOf (st p i k) (ev p) (cE p) pos [topFrame ⟨0,0,0,0⟩])=some (.next,SS T' n' t' w os,cE p,pos')
theorem Pc.plain {N i k:Nat}{pos pos':Pos}{T T':Params→BT}{n t n' t':Nat} (h:Pc PySem.W.Fast.tw10110043849684766642 PySem.W.Fast.tw14364793385576792824 TP N i k pos pos' T T' n t n' t'):Pc segRunT treeTable PySem.Challenge.pw_gatefold_k20_folded_as_the_net N i k pos pos' T T' n t n' t':=by
 rw [PySem.W.Fast.te10110043849684766642,PySem.W.Fast.te14364793385576792824,PySem.W.Fast.te15391285397024872807]
 exact h
theorem c0:Pc segRunT treeTable PySem.Challenge.pw_gatefold_k20_folded_as_the_net 260 0 5 ⟨0,0,0,0⟩ ⟨15,0,16,8⟩ tree_47 tree_75 15 187 40 222:=Pc.plain (fun w os=>by kernel_rfl)
theorem c1:Pc segRunT treeTable PySem.Challenge.pw_gatefold_k20_folded_as_the_net 214 5 1 ⟨15,0,16,8⟩ ⟨17,0,18,8⟩ tree_75 tree_90 40 222 52 238:=Pc.plain (fun w os=>by kernel_rfl)
theorem c2:Pc segRunT treeTable PySem.Challenge.pw_gatefold_k20_folded_as_the_net 380 6 7 ⟨17,0,18,8⟩ ⟨34,0,37,90⟩ tree_90 tree_140 52 238 99 303:=Pc.plain (fun w os=>by kernel_rfl)
theorem c3:Pc segRunT treeTable PySem.Challenge.pw_gatefold_k20_folded_as_the_net 121 13 7 ⟨34,0,37,90⟩ ⟨53,0,54,18⟩ tree_140 tree_161 99 303 118 331:=Pc.plain (fun w os=>by kernel_rfl)
theorem c4:Pc segRunT treeTable PySem.Challenge.pw_gatefold_k20_folded_as_the_net 396 20 2 ⟨53,0,54,18⟩ ⟨93,0,93,8⟩ tree_161 tree_219 118 331 174 406:=Pc.plain (fun w os=>by kernel_rfl)
theorem c5:Pc segRunT treeTable PySem.Challenge.pw_gatefold_k20_folded_as_the_net 374 22 13 ⟨93,0,93,8⟩ ⟨157,0,161,14⟩ tree_219 tree_299 174 406 252 514:=Pc.plain (fun w os=>by kernel_rfl)
theorem c6:Pc segRunT treeTable PySem.Challenge.pw_gatefold_k20_folded_as_the_net 158 35 6 ⟨157,0,161,14⟩ ⟨188,0,188,8⟩ tree_299 tree_334 252 514 285 556:=Pc.plain (fun w os=>by kernel_rfl)
theorem c7:Pc segRunT treeTable PySem.Challenge.pw_gatefold_k20_folded_as_the_net 386 41 4 ⟨188,0,188,8⟩ ⟨214,0,229,25⟩ tree_334 tree_386 285 556 335 631:=Pc.plain (fun w os=>by kernel_rfl)
theorem c8:Pc segRunT treeTable PySem.Challenge.pw_gatefold_k20_folded_as_the_net 184 45 6 ⟨214,0,229,25⟩ ⟨276,0,300,15⟩ tree_386 tree_426 335 631 373 686:=Pc.plain (fun w os=>by kernel_rfl)
noncomputable abbrev PW:Program:=PySem.Challenge.pw_gatefold_k20_folded_as_the_net
noncomputable abbrev B0:List Frame:=[topFrame ⟨0,0,0,0⟩]
theorem step {p:Program}{N i k:Nat}{pos pos':Pos}{T T':Params→BT}{n t n' t':Nat} (c:Pc segRunT treeTable p N i k pos pos' T T' n t n' t') {M:Nat}{r:Shared}{w:World}{os:OsState}
  (h:topRun treeTable p w 11 (some (.ref 6)) M (SS T' n' t' w os).abs (restOf ((behindTheImports p).drop (i+k)) (ev p) (cE p) pos' [topFrame ⟨0,0,0,0⟩])=some r) :
  topRun treeTable p w 11 (some (.ref 6)) (N+M) (SS T n t w os).abs (restOf ((behindTheImports p).drop i) (ev p) (cE p) pos [topFrame ⟨0,0,0,0⟩])=some r:=by
 have e:(behindTheImports p).drop i=st p i k ++ (behindTheImports p).drop (i+k):=by
  unfold st
  rw [← List.drop_drop]
  exact (List.take_append_drop _ _).symm
 rw [e]
 exact piece_app (segRun_of (c w os)) h
def Fn (f:(String→Option Builtin)→Program→World→Nat→Option Value→Nat→Shared→Thread→Option Shared) (tb:String→Option Builtin) (p:Program):Prop :=
 ∀ (w:World) (os:OsState),f tb p w 11 (some (.ref 6)) 2 (SS tree_426 373 686 w os).abs ⟨doneF .next,cE p,⟨276,0,300,15⟩,[topFrame ⟨0,0,0,0⟩]⟩=some ⟨heap_427 w.params,⟨[]⟩,⟨0,0,0,0⟩,686,os⟩
theorem fin:Fn topRun treeTable PW:=by
 rw [PySem.W.Fast.te14082659384304107361,PySem.W.Fast.te14364793385576792824,show PW=TP from PySem.W.Fast.te15391285397024872807]
 exact fun w os=>by kernel_rfl
def Pr (f:(String→Option Builtin)→Program→World→Nat→Option Value→Nat→Shared→Thread→Option (Shared × Thread)) (d:(String→Option Builtin)→Code→Sem Fin) (tb:String→Option Builtin) (p:Program):Prop :=
 ∀ (w:World) (os:OsState),f tb p w 11 (some (.ref 6)) 12 ⟨boot_heap w.params,⟨[]⟩,boot_drawn,boot_toks,os⟩ (topStub p)=some (⟨heap_46 w.params,⟨[]⟩,⟨0,0,0,0⟩,187,os⟩,⟨d tb (cE p),cE p,⟨0,0,0,0⟩,[topFrame ⟨0,0,0,0⟩]⟩)
theorem preT:Pr topGo denote treeTable PW:=by
 rw [PySem.W.Fast.te15667345088766844465,PySem.W.Fast.te11892475500146522536,PySem.W.Fast.te14364793385576792824,show PW=TP from PySem.W.Fast.te15391285397024872807]
 exact fun w os=>by kernel_rfl
def Bl (f:(String→Option Builtin)→Program→World→Nat→Option Value→Nat→Nat→Shared→Thread→Option (Flow × Shared × Code × Pos)) (tb:String→Option Builtin) (p:Program):Prop :=
 ∀ (w:World) (os:OsState),f tb p w 11 (some (.ref 6)) 1 1 ⟨heap_46 w.params,⟨[]⟩,⟨0,0,0,0⟩,187,os⟩ (blockOf (behindTheImports p) (ev p) (cE p) ⟨0,0,0,0⟩ [topFrame ⟨0,0,0,0⟩])=some (.next,(SS tree_47 15 187 w os).abs,cE p,⟨0,0,0,0⟩)
theorem blk:Bl segRun treeTable PW:=by
 rw [PySem.W.Fast.te14374325043358763698,PySem.W.Fast.te14364793385576792824,show PW=TP from PySem.W.Fast.te15391285397024872807]
 exact fun w os=>by kernel_rfl
theorem d44:(behindTheImports PW).drop 51=[]:=by kernel_rfl
theorem run (w:World) (os:OsState):topRun treeTable PW w 11 (some (.ref 6)) (12+(1+(260+(214+(380+(121+(396+(374+(158+(386+(184+2))))))))))) ⟨boot_heap w.params,⟨[]⟩,boot_drawn,boot_toks,os⟩ (topStub PW)=some ⟨heap_427 w.params,⟨[]⟩,⟨0,0,0,0⟩,686,os⟩:=by
 refine go_top (preT w os) ?_
 refine piece_block (blk w os) ?_
 refine step c0 (step c1 (step c2 (step c3 (step c4 (step c5 (step c6 (step c7 (step c8 ?_))))))))
 rw [d44]
 exact fin w os
theorem size (w:World):((boot_heap w.params).isNs mainGlobals && (Array.mk ([]:List GenState)).size == 0,(boot_heap w.params).objs.size,(boot_heap w.params).nsMap mainGlobals "__annotations__")=(true,11,some (.ref 6)):=by kernel_rfl
theorem op:∀ w:World,(fencedOpening treeTable PW w 5056).map (fun s=>(s.heap,s.gens,s.drawn,s.toks))=some (boot_heap w.params,Array.mk [],boot_drawn,boot_toks) :=
 boot_open (by kernel_rfl) (by decide) (fun s=>by kernel_rfl)
def KP:List Nat:=[1,2,4,5,6,8,9,10,11,12,13,15,17,18,19,20,22,23,24,25,26,27,28,29,30,31,33,34,35,36,37,38,39,41,43,44,45,46,47,48,49,50]
noncomputable def VW (p:Program):Program:={ p with main:={ p.main with body:=KP.filterMap fun i=>p.main.body[i]? } }
noncomputable abbrev S9 (w:World) (os:OsState):Shared:=⟨heap_427 w.params,⟨[]⟩,⟨0,0,0,0⟩,686,os⟩
def LA (im:List Stmt→List Str) (p:Program):Prop :=
 ∀ (w:World) (os:OsState),(staticsOk (im p.main.body) (boot_heap w.params) (heap_427 w.params) && namesBound p (heap_427 w.params) && gensDone (S9 w os) && laidKept (boot_heap w.params) (heap_427 w.params))=true
theorem la:LA importedModules PW:=by
 rw [PySem.W.Fast.te5923862056798008813,show PW=TP from PySem.W.Fast.te15391285397024872807]
 exact fun w os=>by kernel_rfl
noncomputable abbrev XT (q:Program):Shared→Bool:=fun s=>xlAt q [] s && recOk [] s
theorem lb0 (w:World) (os:OsState):PySem.W.Fast.tw4187177175401517315 (VW TP) [] (PySem.W.Fast.tw5923862056798008813 TP.main.body) (XT (VW TP)) true (S9 w os)=openGood (VW TP) []:=by kernel_rfl
end OT
namespace K20
open PySem PySem.Spec PyProof.Rows L2
noncomputable abbrev Q (l:List Nat):Str:=⟨⟨l⟩⟩
noncomputable abbrev fq (b c:Str) (s:Stmt) (q:Str) (t n:Nat):Obj:=⟨(Value.type "function"),none,.func (PySem.W.fnOf b c (defArgs s) (defBody s) (defScope s) Value.none Value.none Value.none (Value.str q t) none (Value.ref n) Value.none),⟨[]⟩⟩
set_option maxRecDepth 100000 in
noncomputable def KF:Params→PySem.W.Frag:=fun P =>
 (nat_lit 21,fq "full_column" "full_column" s_full_column OT.q120 187 20) ::
 (nat_lit 26,fq "input_columns" "input_columns" s_input_columns OT.q120 187 25) ::
 (nat_lit 70,fq "lit_knots" "lit_knots" s_lit_knots OT.q61 254 69) ::
 (nat_lit 77,fq "lit_pair" "lit_pair" s_lit_pair OT.q61 254 76) ::
 (nat_lit 84,fq "lit_tie" "lit_tie" s_lit_tie OT.q61 254 83) ::
 (nat_lit 91,fq "need_tie" "need_tie" s_need_tie OT.q61 254 90) ::
 (nat_lit 98,fq "column" "column" s_column OT.q61 254 97) ::
 (nat_lit 105,fq "knot_columns" "knot_columns" s_knot_columns OT.q61 254 104) ::
 (nat_lit 110,fq "reached" "reached" s_reached OT.q121 310 109) ::
 (nat_lit 117,fq "turned" "turned" s_turned OT.q31 318 116) ::
 (nat_lit 131,fq "__init__" "Fold.__init__" s_Fold___init__ OT.q31 318 130) ::
 (nat_lit 138,fq "total" "Fold.total" s_Fold_total OT.q31 318 137) ::
 (nat_lit 145,fq "has_tie" "Fold.has_tie" s_Fold_has_tie OT.q31 318 144) ::
 (nat_lit 152,fq "pair" "Fold.pair" s_Fold_pair OT.q31 318 151) ::
 (nat_lit 159,fq "both" "Fold.both" s_Fold_both OT.q31 318 158) ::
 (nat_lit 166,fq "and_knot" "Fold.and_knot" s_Fold_and_knot OT.q31 318 165) ::
 (nat_lit 180,fq "and_tie" "and_tie" s_and_tie OT.q100 404 179) ::
 (nat_lit 185,fq "or_tie" "or_tie" s_or_tie OT.q100 404 184) ::
 (nat_lit 192,fq "either_of_two" "either_of_two" s_either_of_two OT.q100 404 191) ::
 (nat_lit 199,fq "either_tie" "either_tie" s_either_tie OT.q100 404 198) ::
 (nat_lit 206,fq "choose_tie" "choose_tie" s_choose_tie OT.q100 404 205) ::
 (nat_lit 213,fq "most_tie" "most_tie" s_most_tie OT.q100 404 212) ::
 (nat_lit 220,fq "gate_tie" "gate_tie" s_gate_tie OT.q100 404 219) ::
 (nat_lit 227,fq "moved_tie" "moved_tie" s_moved_tie OT.q100 404 226) ::
 (nat_lit 232,fq "swept" "swept" s_swept OT.q100 404 231) ::
 (nat_lit 237,fq "folded" "folded" s_folded OT.q100 404 236) ::
 (nat_lit 244,fq "all_lit" "all_lit" s_all_lit OT.q18 493 243) ::
 (nat_lit 251,fq "some_lit" "some_lit" s_some_lit OT.q18 493 250) ::
 (nat_lit 258,fq "odd_lit" "odd_lit" s_odd_lit OT.q18 493 257) ::
 (nat_lit 265,fq "chosen_lit" "chosen_lit" s_chosen_lit OT.q18 493 264) ::
 (nat_lit 272,fq "most_lit" "most_lit" s_most_lit OT.q18 493 271) ::
 (nat_lit 279,fq "column_by" "column_by" s_column_by OT.q18 493 278) ::
 (nat_lit 296,fq "__init__" "Net.__init__" s_Net___init__ OT.q83 554 295) ::
 (nat_lit 308,fq "columns" "Net.columns" s_Net_columns OT.q83 554 307) ::
 (nat_lit 313,fq "carried" "Net.carried" s_Net_carried OT.q83 554 312) ::
 (nat_lit 327,fq "_law_cell_at" "_law_cell_at" s_law_cell_at OT.q80 605 326) ::
 (nat_lit 334,fq "_law_name" "_law_name" s_law_name OT.q80 605 333) ::
 (nat_lit 341,fq "_law_input" "_law_input" s_law_input OT.q80 605 340) ::
 (nat_lit 348,fq "_law_gate_column" "_law_gate_column" s_law_gate_column OT.q80 605 347) ::
 (nat_lit 355,fq "_law_picked" "_law_picked" s_law_picked OT.q80 605 354) ::
 (nat_lit 362,fq "_law_gate_by" "_law_gate_by" s_law_gate_by OT.q80 605 361) ::
 (nat_lit 367,fq "_law_gate" "_law_gate" s_law_gate OT.q80 605 366) ::
 (nat_lit 372,fq "law" "law" s_law OT.q80 605 371) ::
 (nat_lit 20,OT.o56 P) ::
 (nat_lit 25,OT.o61 P) ::
 (nat_lit 69,OT.o111 P) ::
 (nat_lit 76,OT.o118 P) ::
 (nat_lit 83,OT.o125 P) ::
 (nat_lit 90,OT.o132 P) ::
 (nat_lit 97,OT.o139 P) ::
 (nat_lit 104,OT.o148 P) ::
 (nat_lit 109,OT.o153 P) ::
 (nat_lit 116,OT.o160 P) ::
 (nat_lit 130,OT.o176 P) ::
 (nat_lit 137,OT.o183 P) ::
 (nat_lit 144,OT.o190 P) ::
 (nat_lit 151,OT.o197 P) ::
 (nat_lit 158,OT.o204 P) ::
 (nat_lit 165,OT.o211 P) ::
 (nat_lit 179,OT.o227 P) ::
 (nat_lit 184,OT.o232 P) ::
 (nat_lit 191,OT.o239 P) ::
 (nat_lit 198,OT.o246 P) ::
 (nat_lit 205,OT.o253 P) ::
 (nat_lit 212,OT.o260 P) ::
 (nat_lit 219,OT.o267 P) ::
 (nat_lit 226,OT.o274 P) ::
 (nat_lit 231,OT.o279 P) ::
 (nat_lit 236,OT.o284 P) ::
 (nat_lit 243,OT.o291 P) ::
 (nat_lit 250,OT.o298 P) ::
 (nat_lit 257,OT.o307 P) ::
 (nat_lit 264,OT.o314 P) ::
 (nat_lit 271,OT.o321 P) ::
 (nat_lit 278,OT.o328 P) ::
 (nat_lit 295,OT.o347 P) ::
 (nat_lit 307,OT.o359 P) ::
 (nat_lit 312,OT.o364 P) ::
 (nat_lit 326,OT.o378 P) ::
 (nat_lit 333,OT.o385 P) ::
 (nat_lit 340,OT.o394 P) ::
 (nat_lit 347,OT.o401 P) ::
 (nat_lit 354,OT.o408 P) ::
 (nat_lit 361,OT.o415 P) ::
 (nat_lit 366,OT.o420 P) ::
 (nat_lit 371,OT.o425 P) ::
 (nat_lit 2,OT.b2 P) ::
 (nat_lit 3,OT.o387 P) ::
 (nat_lit 36,OT.o93 P) ::
 (nat_lit 35,OT.o71 P) ::
 (nat_lit 49,OT.o88 P) ::
 (nat_lit 48,OT.o87 P) ::
 (nat_lit 61,OT.o103 P) ::
 (nat_lit 60,OT.o102 P) ::
 (nat_lit 169,OT.o215 P) ::
 (nat_lit 168,OT.o214 P) ::
 (nat_lit 316,OT.o368 P) ::
 (nat_lit 315,OT.o367 P) :: []
end K20
namespace OT
open PySem PySem.W PySem.Spec
noncomputable abbrev AS:List Addr:=(nat_lit 21 :: nat_lit 26 :: nat_lit 70 :: nat_lit 77 :: nat_lit 84 :: nat_lit 91 :: nat_lit 98 :: nat_lit 105 :: nat_lit 110 :: nat_lit 117 :: nat_lit 131 :: nat_lit 138 :: nat_lit 145 :: nat_lit 152 :: nat_lit 159 :: nat_lit 166 :: nat_lit 180 :: nat_lit 185 :: nat_lit 192 :: nat_lit 199 :: nat_lit 206 :: nat_lit 213 :: nat_lit 220 :: nat_lit 227 :: nat_lit 232 :: nat_lit 237 :: nat_lit 244 :: nat_lit 251 :: nat_lit 258 :: nat_lit 265 :: nat_lit 272 :: nat_lit 279 :: nat_lit 296 :: nat_lit 308 :: nat_lit 313 :: nat_lit 327 :: nat_lit 334 :: nat_lit 341 :: nat_lit 348 :: nat_lit 355 :: nat_lit 362 :: nat_lit 367 :: nat_lit 372 :: nat_lit 20 :: nat_lit 25 :: nat_lit 69 :: nat_lit 76 :: nat_lit 83 :: nat_lit 90 :: nat_lit 97 :: nat_lit 104 :: nat_lit 109 :: nat_lit 116 :: nat_lit 130 :: nat_lit 137 :: nat_lit 144 :: nat_lit 151 :: nat_lit 158 :: nat_lit 165 :: nat_lit 179 :: nat_lit 184 :: nat_lit 191 :: nat_lit 198 :: nat_lit 205 :: nat_lit 212 :: nat_lit 219 :: nat_lit 226 :: nat_lit 231 :: nat_lit 236 :: nat_lit 243 :: nat_lit 250 :: nat_lit 257 :: nat_lit 264 :: nat_lit 271 :: nat_lit 278 :: nat_lit 295 :: nat_lit 307 :: nat_lit 312 :: nat_lit 326 :: nat_lit 333 :: nat_lit 340 :: nat_lit 347 :: nat_lit 354 :: nat_lit 361 :: nat_lit 366 :: nat_lit 371 :: nat_lit 2 :: nat_lit 3 :: nat_lit 36 :: nat_lit 35 :: nat_lit 49 :: nat_lit 48 :: nat_lit 61 :: nat_lit 60 :: nat_lit 169 :: nat_lit 168 :: nat_lit 316 :: nat_lit 315 :: [])
noncomputable abbrev HK:Hook:=kHook K20.KF AS (fun _=>by kernel_rfl)
theorem lb (w:World) (os:OsState):openSeen (VW PW) [] (importedModules PW.main.body) (XT (VW PW)) true (S9 w os)=openGood (VW PW) []:=by
 rw [PySem.W.Fast.te4187177175401517315,PySem.W.Fast.te5923862056798008813,show PW=TP from PySem.W.Fast.te15391285397024872807]
 exact lb0 w os
theorem lc (w:World) (os:OsState):HK.obs (S9 w os)=HK.val w:=by kernel_rfl
theorem left:LeftO PW (VW PW) [] (XT (VW PW)) HK.obs HK.val 5056 :=
 LeftO.of_pieces op size run (by decide) fun w=>funext fun os=>by
  rw [la w os,lb w os,lc w os]
end OT
open PySem PySem.W PyProof.Rows
set_option maxRecDepth 100000 in
set_option maxHeartbeats 0 in
theorem PySem.Challenge.cw_gatefold_k20_folded_as_the_net_holds : PySem.Challenge.rw_gatefold_k20_folded_as_the_net.Holds := by
 w_on;o_law
 refine holds_open (q:=OT.VW OT.PW) (loose:=[]) (Xt:=OT.XT (OT.VW OT.PW)) (XP:=XL (OT.VW OT.PW) []) (Yf:=OT.HK.obs) (Ya:=OT.HK.val) (YP:=OT.HK.says) (N:=5056) OT.left OT.HK.of OT.HK.keeps
  (fun s e=>xl_of s (Bool.and_eq_true_iff.mp e).1) XL.keeps (by rfl) (by rfl) (by rfl)
  (fun s e=>recFacts_of (Bool.and_eq_true_iff.mp e).2) (by rfl) (by first | assumption | decide +kernel)
  (by decide +kernel)
  ⟨rfl,rfl,rfl,rfl,rfl,by decide +kernel⟩ ?hw ?hc
 case hw=>w_witness2
 refine K20.walk (l:=PySem.Challenge.rw_gatefold_k20_folded_as_the_net) (K:=K20.KF) rfl rfl (fun w h Y=>PySem.W.kIn_of Y) ?F
 case F =>
  intro w mg fa h KX G hmg
  k_fill
  refine' K20.all_mk KX G hmg ?aC_Fold ?aC_Net ?a0 ?l0 ?c0 ?k0 ?a1 ?l1 ?c1 ?k1 ?a2 ?l2 ?c2 ?k2 ?a3 ?l3 ?c3 ?k3 ?a4 ?l4 ?c4 ?k4 ?a5 ?l5 ?c5 ?k5 ?a6 ?l6 ?c6 ?k6 ?a7 ?l7 ?c7 ?k7 ?a8 ?l8 ?c8 ?k8 ?a9 ?l9 ?c9 ?k9 ?a10 ?i10 ?l10 ?c10 ?k10 ?a11 ?i11 ?l11 ?c11 ?k11 ?a12 ?i12 ?l12 ?c12 ?k12 ?a13 ?i13 ?l13 ?c13 ?k13 ?a14 ?i14 ?l14 ?c14 ?k14 ?a15 ?i15 ?l15 ?c15 ?k15 ?a16 ?l16 ?c16 ?k16 ?a17 ?l17 ?c17 ?k17 ?a18 ?l18 ?c18 ?k18 ?a19 ?l19 ?c19 ?k19 ?a20 ?l20 ?c20 ?k20 ?a21 ?l21 ?c21 ?k21 ?a22 ?l22 ?c22 ?k22 ?a23 ?l23 ?c23 ?k23 ?a24 ?l24 ?c24 ?k24 ?a25 ?l25 ?c25 ?k25 ?a26 ?l26 ?c26 ?k26 ?a27 ?l27 ?c27 ?k27 ?a28 ?l28 ?c28 ?k28 ?a29 ?l29 ?c29 ?k29 ?a30 ?l30 ?c30 ?k30 ?a31 ?l31 ?c31 ?k31 ?a32 ?i32 ?l32 ?c32 ?k32 ?a33 ?i33 ?l33 ?c33 ?k33 ?a34 ?i34 ?l34 ?c34 ?k34 ?a35 ?l35 ?c35 ?k35 ?a36 ?l36 ?c36 ?k36 ?a37 ?l37 ?c37 ?k37 ?a38 ?l38 ?c38 ?k38 ?a39 ?l39 ?c39 ?k39 ?a40 ?l40 ?c40 ?k40 ?a41 ?l41 ?c41 ?k41 ?a42 ?l42 ?c42 ?k42 ?pg_Fold ?hd_Fold ?po_Fold ?sa_Fold ?mk_Fold ?kc_Fold ?n_Fold_many ?n_Fold_pairs ?n_Fold_knots ?pg_Net ?hd_Net ?po_Net ?sa_Net ?mk_Net ?kc_Net ?n_Net_inputs ?n_Net_gates ?n_Net_outputs ?g_ALWAYS ?g_NEVER ?z_bool ?z_dict ?z_enumerate ?z_int ?z_isinstance ?z_len ?z_max ?z_min ?z_range ?z_tuple ?z_zip
  (case aC_Fold | aC_Net | a0 | l0 | c0 | k0 | a1 | l1 | c1 | k1 | a2 | l2 | c2 | k2 | a3 | l3 | c3 | k3 | a4 | l4 | c4 | k4 | a5 | l5 | c5 | k5 | a6 | l6 | c6 | k6 | a7 | l7 | c7 | k7 | a8 | l8 | c8 | k8 | a9 | l9 | c9 | k9 | a10 | i10 | l10 | c10 | k10 | a11 | i11 | l11 | c11 | k11 | a12 | i12 | l12 | c12 | k12 | a13 | i13 | l13 | c13 | k13 | a14 | i14 | l14 | c14 | k14 | a15 | i15 | l15 | c15 | k15 | a16 | l16 | c16 | k16 | a17 | l17 | c17 | k17 | a18 | l18 | c18 | k18 | a19 | l19 | c19 | k19 | a20 | l20 | c20 | k20 | a21 | l21 | c21 | k21 | a22 | l22 | c22 | k22 | a23 | l23 | c23 | k23 | a24 | l24 | c24 | k24 | a25 | l25 | c25 | k25 | a26 | l26 | c26 | k26 | a27 | l27 | c27 | k27 | a28 | l28 | c28 | k28 | a29 | l29 | c29 | k29 | a30 | l30 | c30 | k30 | a31 | l31 | c31 | k31 | a32 | i32 | l32 | c32 | k32 | a33 | i33 | l33 | c33 | k33 | a34 | i34 | l34 | c34 | k34 | a35 | l35 | c35 | k35 | a36 | l36 | c36 | k36 | a37 | l37 | c37 | k37 | a38 | l38 | c38 | k38 | a39 | l39 | c39 | k39 | a40 | l40 | c40 | k40 | a41 | l41 | c41 | k41 | a42 | l42 | c42 | k42 | pg_Fold | hd_Fold | po_Fold | sa_Fold | mk_Fold | kc_Fold | n_Fold_many | n_Fold_pairs | n_Fold_knots | pg_Net | hd_Net | po_Net | sa_Net | mk_Net | kc_Net | n_Net_inputs | n_Net_gates | n_Net_outputs | g_ALWAYS | g_NEVER | z_bool | z_dict | z_enumerate | z_int | z_isinstance | z_len | z_max | z_min | z_range | z_tuple | z_zip=>k_is)

