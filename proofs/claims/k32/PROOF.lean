import PyProof.Rows.All
import Wide.All
import OpenK.AllK
import Wide.FinOn
import Lean
import PyProof.EqAt
import PyProof.EqKinds
import PyProof.TupleCall
import PyProof.ZipIter
import PyProof.WalksMore
import PyProof.ListNew
import PyProof.IsiBase
import PyProof.DictList
import PyProof.AttrMiss
import PyProof.FactsAll.dict
import PyProof.ListRange
import PyProof.StrLawsWords
import PyProof.StationsW
import KE.KIsAll
import PyProof.PassesOwn
import PyProof.DictIter
import KE.KRevIter
import KE.KRangeStep
import KE.RegMulBits
import KE.KDictList
import PyProof.EnumStmt
import PySem.Challenge.RW_gatefold_k32_labels_by_all_cuts
set_option Elab.async false
set_option linter.all false
set_option maxRecDepth 100000
namespace L2
open PySem PySem.Spec PyProof.Rows
abbrev Key:=Sum Int Str
def keyIs:Key→Value→Bool
 | .inl k,v=>Value.isInt k v
 | .inr x,v=>Value.isStrOf x v
def keyH (w:World):Key→Int
 | .inl k=>hashInt k
 | .inr x=>hashStr w x
theorem keyIs_shape:∀ {k:Key}{v:Value},keyIs k v=true→(∃ i t,k=Sum.inl i∧v=Value.int i t)∨(∃ x t,k=Sum.inr x∧v=Value.str x t)
 | .inl i,v,h=>by
  obtain ⟨t,e⟩:=Value.isInt_shape (k:=i) (v:=v) h
  exact .inl ⟨i,t,rfl,e⟩
 | .inr x,v,h=>by
  obtain ⟨t,e⟩:=Value.isStrOf_shape (x:=x) (v:=v) h
  exact .inr ⟨x,t,rfl,e⟩
theorem keyIs_int (i:Int) (t:Tok):keyIs (.inl i) (.int i t)=true:=by simp [keyIs,Value.isInt]
theorem keyIs_str (x:Str) (t:Tok):keyIs (.inr x) (.str x t)=true:=by simp [keyIs,Value.isStrOf]
theorem key_ll (a b:Int):decide ((Sum.inl a:Key)=Sum.inl b)=(a == b):=by
 by_cases e:a=b
 ·subst e;simp
 ·have h:¬ (Sum.inl a:Key)=Sum.inl b:=fun q=>e (Sum.inl.inj q)
  rw [decide_eq_false h]
  exact (beq_eq_false_iff_ne.mpr e).symm
theorem key_rr (a b:Str):decide ((Sum.inr a:Key)=Sum.inr b)=decide (a=b):=by
 by_cases e:a=b
 ·subst e;simp
 ·have h:¬ (Sum.inr a:Key)=Sum.inr b:=fun q=>e (Sum.inr.inj q)
  rw [decide_eq_false h,decide_eq_false e]
theorem key_lr (a:Int) (b:Str):decide ((Sum.inl a:Key)=Sum.inr b)=false:=decide_eq_false (fun q=>nomatch q)
theorem key_rl (a:Str) (b:Int):decide ((Sum.inr a:Key)=Sum.inl b)=false:=decide_eq_false (fun q=>nomatch q)
def mixKind (prog:Program) (w:World):PySem.KeyKind prog w Key where
 is:=keyIs
 hash:=keyH w
 inj:=fun v a b ha hb=>by
  rcases keyIs_shape ha with ⟨i,t,rfl,rfl⟩ | ⟨x,t,rfl,rfl⟩
  ·rcases keyIs_shape hb with ⟨j,u,rfl,e⟩ | ⟨y,u,rfl,e⟩
   ·injection e with e1 _;rw [e1]
   ·exact nomatch e
  ·rcases keyIs_shape hb with ⟨j,u,rfl,e⟩ | ⟨y,u,rfl,e⟩
   ·exact nomatch e
   ·injection e with e1 _;rw [e1]
 byValue:=fun k v h=>by
  rcases keyIs_shape h with ⟨i,t,rfl,rfl⟩ | ⟨x,t,rfl,rfl⟩ <;> rfl
 pyHash:=fun hv h=>by
  rcases keyIs_shape hv with ⟨i,t,rfl,rfl⟩ | ⟨x,t,rfl,rfl⟩
  ·exact wpAny_pyHash_int h
  ·exact wpAny_pyHash_str h
 eqBool:=fun hu hv h=>by
  rcases keyIs_shape hu with ⟨i,t,rfl,rfl⟩ | ⟨x,t,rfl,rfl⟩
  ·rcases keyIs_shape hv with ⟨j,u,rfl,rfl⟩ | ⟨y,u,rfl,rfl⟩
   ·rw [key_ll] at h;exact wpAny_eqBool_int h
   ·rw [key_lr] at h;exact SeqAt.EqAt.int_str i t y u _ _ _ _ h
  ·rcases keyIs_shape hv with ⟨j,u,rfl,rfl⟩ | ⟨y,u,rfl,rfl⟩
   ·rw [key_rl] at h;exact SeqAt.EqAt.str_int x t j u _ _ _ _ h
   ·rw [key_rr] at h;exact wpAny_eqBool_str h
 «strs»:=fun k x t v h=>by
  rcases keyIs_shape h with ⟨i,u,rfl,e⟩ | ⟨y,u,rfl,e⟩
  ·exact nomatch e
  ·injection e with e1 _
   subst e1
   cases v <;> rfl
theorem mixKind_int (prog:Program) (w:World) (i:Int) (t:Tok):(mixKind prog w).is (.inl i) (.int i t)=true:=keyIs_int i t
theorem mixKind_str (prog:Program) (w:World) (x:Str) (t:Tok):(mixKind prog w).is (.inr x) (.str x t)=true:=keyIs_str x t
inductive V where
 | non | bl (b:Bool) | int (i:Int) | str (x:Str) | byt (b:Array UInt8) | flt (b:UInt64) | ref (a:Addr) | ty (n:String)
 deriving DecidableEq
def RelV:V→Value→Prop
 | .non,u=>u=Value.none
 | .bl b,u=>u=Value.bool b
 | .int i,u=>∃ t,u=Value.int i t
 | .str x,u=>∃ t,u=Value.str x t
 | .byt b,u=>∃ t,u=Value.bytes b t
 | .flt b,u=>∃ t,u=Value.float b t
 | .ref a,u=>u=Value.ref a
 | .ty n,u=>u=Value.type n
abbrev Vals:List V→List Value→Prop:=Paired RelV
theorem Vals.length {xs:List V}{us:List Value} (r:Vals xs us):xs.length=us.length:=Paired.length r
theorem Vals.get:∀ {xs:List V}{us:List Value}{i:Nat}{x:V},Vals xs us→xs[i]? = some x→∃ u,us[i]? = some u∧RelV x u
 | _,_,_,_,.nil,e=>by simp at e
 | _,_,0,_,.cons r _,e=>by simp at e;subst e;exact ⟨_,rfl,r⟩
 | _,_,i+1,x,.cons _ t,e=>by
  obtain ⟨u,h1,h2⟩:=Vals.get (i:=i) (x:=x) t (by simpa using e)
  exact ⟨u,by simpa using h1,h2⟩
theorem Vals.set {x:V}{u:Value} (r:RelV x u):∀ {xs:List V}{us:List Value} (i:Nat),Vals xs us→Vals (xs.set i x) (us.set i u)
 | _,_,_,.nil=>.nil
 | _,_,0,.cons _ t=>.cons r t
 | _,_,i+1,.cons q t=>.cons q (Vals.set r i t)
theorem Vals.append:∀ {xs ys:List V}{us ws:List Value},Vals xs us→Vals ys ws→Vals (xs ++ ys) (us ++ ws)
 | _,_,_,_,.nil,s=>s
 | _,_,_,_,.cons r t,s=>.cons r (Vals.append t s)
theorem Vals.take:∀ {xs:List V}{us:List Value} (n:Nat),Vals xs us→Vals (xs.take n) (us.take n)
 | _,_,0,_=>.nil
 | _,_,_+1,.nil=>.nil
 | _,_,n+1,.cons r t=>.cons r (Vals.take n t)
def RelO:Option V→Option Value→Prop
 | some v,some u=>RelV v u
 | none,none=>True
 | _,_=>False
def KV {κ:Type}:List (κ × V)→List (κ × Value)→Prop:=Paired fun (p:κ × V) (q:κ × Value)=>p.1=q.1∧RelV p.2 q.2
def kV:Key→V
 | .inl i=>.int i
 | .inr x=>.str x
inductive HO where
  | lst (xs:List V)
  | tup (xs:List V)
  | dK (kvs:List (Key × V)) | dT (kvs:List (List Key × V))
  | set (S:Int→Bool) (n:Nat)
  | ins (C dx:Addr) (fs:List (Str × V))
  | own (x:Addr)
  | xd (fs:List (Str × V))
  | met (f x:Addr)
  | rng (lo hi:Int)
  | frz (o:Obj) (u:HO)
  | tbl (ps:Array Value)
  | ext (φ:Heap→Prop)
abbrev Hp:=Addr→Option HO
def upd (H:Hp) (a:Addr) (o:HO):Hp:=fun b=>if b=a then some o else H b
theorem upd_same {H:Hp}{a:Addr}{o:HO}:upd H a o a=some o:=by unfold upd;rw [if_pos rfl]
theorem upd_ne {H:Hp}{a b:Addr}{o:HO} (h:b≠a):upd H a o b=H b:=by unfold upd;rw [if_neg h]
theorem upd_upd {H:Hp}{a:Addr}{o u:HO}:upd (upd H a o) a u=upd H a u:=by
 funext b;unfold upd;split <;> rfl
theorem ne_of {H:Hp}{a b:Addr}{o u:HO} (h:H a=some o) (h':H b=some u) (d:o≠u):a≠b:=by
 intro e;subst e;rw [h] at h';exact d (Option.some.inj h')
theorem ne_of_none {H:Hp}{a b:Addr}{o:HO} (h:H a=some o) (h':H b=none):a≠b:=by
 intro e;subst e;rw [h] at h';cases h'
section
variable (P:Program) (w:World)
def ObjOk (H:Hp) (h:Heap) (a:Addr):HO→Prop
 | .lst xs=>xs.length≤sizeLine∧∃ (its:List Value) (n:Nat),Vals xs its∧h.get? a=some { cls:=.type "list",data:=.seq its.toArray n }
 | .tup xs=>xs.length≤sizeLine∧∃ its:List Value,Vals xs its∧IsTup h a its.toArray
 | .dK kvs=>kvs.length≤sizeLine∧(a == sysModules)=false∧∃ vs,KV kvs vs∧h.DictOf (mixKind P w) a vs
 | .dT kvs=>kvs.length≤sizeLine∧(a == sysModules)=false∧∃ xs:List (List Key × Addr × Value),
   Paired (fun (p:List Key × V) (q:List Key × Addr × Value)=>p.1=q.1∧H q.2.1=some (.tup (p.1.map kV))∧RelV p.2 q.2.2) kvs xs ∧
   ∃ o es ep,h.get? a=some o∧o.ExactDict∧o.data=.dict es ep∧es.toList=xs.map (entryOfKey (tupleKind (mixKind P w)))∧(xs.map (·.1)).Nodup
 | .set S n=>h.SetOf (intKind P w) a S n
 | .ins C dx fs=>H dx=some (.own a)∧fs.length≤1000∧dx≠a∧h.get? a=some (PySem.W.instObj C dx) ∧
   ∃ mA,h.Ns1 dx mA∧(∀ f,RelO (fs.lookup f) (mA f))∧PySem.Within mA (fs.map (·.1))
 | .own _=>∃ o,h.get? a=some o
 | .xd fs=>∃ mA,h.Ns1 a mA∧∀ f,RelO (fs.lookup f) (mA f)
 | .rng lo hi=>∃ t u v,h.get? a=some { cls:=.type "range",data:=.fields #[.int lo t,.int hi u,.int 1 v] }
 | .frz o u=>h.get? a=some o∧ObjOk H h a u
 | .tbl ps=>h.get? a=some { cls:=.none,data:=.fields ps }
 | .met f x=>h.get? a=some (PySem.W.methodObj (.ref f) (.ref x))
 | .ext φ=>φ h∧(∃ o,h.get? a=some o)∧∀ h1 h2:Heap,φ h1→(∀ o,h1.get? a=some o→h2.get? a=some o)→φ h2
def HOk (H:Hp) (h:Heap):Prop:=∀ a o,H a=some o→ObjOk P w H h a o
end
section
variable {P:Program}{w:World}{H H':Hp}{h h':Heap}{a:Addr}{o:HO}
theorem ObjOk.lt (x:ObjOk P w H h a o):a<h.objs.size:=by
 cases o with
 | lst xs=>obtain ⟨_,_,_,_,e⟩:=x;exact Heap.lt_size e
 | tup xs=>obtain ⟨_,_,_,p⟩:=x;exact p.lt
 | dK kvs=>obtain ⟨_,_,_,_,o,_,_,e,_⟩:=x;exact Heap.lt_size e
 | dT kvs=>obtain ⟨_,_,_,_,o,_,_,e,_⟩:=x;exact Heap.lt_size e
 | set S n=>obtain ⟨o,_,_,_,e,_⟩:=x;exact Heap.lt_size e
 | ins C dx fs=>obtain ⟨_,_,_,e,_⟩:=x;exact Heap.lt_size e
 | own y=>obtain ⟨_,e⟩:=x;exact Heap.lt_size e
 | xd fs=>obtain ⟨_,⟨_,_,_,e,_⟩,_⟩:=x;exact Heap.lt_size e
 | rng lo hi=>obtain ⟨_,_,_,e⟩:=x;exact Heap.lt_size e
 | frz ob u=>obtain ⟨e,_⟩:=x;exact Heap.lt_size e
 | tbl ps=>exact Heap.lt_size (show h.get? a=some _ from x)
 | met f y=>exact Heap.lt_size (show h.get? a=some _ from x)
 | ext φ=>obtain ⟨_,⟨_,e⟩,_⟩:=x;exact Heap.lt_size e
theorem Paired.mapP {α β:Type}{F G:α→β→Prop}:∀ {l₁:List α}{l₂:List β},Paired F l₁ l₂→(∀ a b,F a b→G a b)→Paired G l₁ l₂
 | _,_,.nil,_=>.nil
 | _,_,.cons r t,f=>.cons (f _ _ r) (Paired.mapP t f)
theorem ObjOk.stay (x:ObjOk P w H h a o) (k:∀ b u,(b=a∨H b=some (.own a))→h.get? b=some u→h'.get? b=some u)
  (ho:∀ b,H b=some (.own a)→H' b=some (.own a)) (ht:∀ b xs,H b=some (.tup xs)→H' b=some (.tup xs)):ObjOk P w H' h' a o:=by
 induction o with
 | lst xs=>obtain ⟨z,its,n,r,e⟩:=x;exact ⟨z,its,n,r,k _ _ (.inl rfl) e⟩
 | tup xs=>obtain ⟨z,its,r,ob,e,c⟩:=x;exact ⟨z,its,r,ob,k _ _ (.inl rfl) e,c⟩
 | dK kvs=>obtain ⟨z,y,vs,r,ob,es,ep,e,c⟩:=x;exact ⟨z,y,vs,r,ob,es,ep,k _ _ (.inl rfl) e,c⟩
 | dT kvs =>
  obtain ⟨z,y,xs,r,ob,es,ep,e,c⟩:=x
  exact ⟨z,y,xs,Paired.mapP r fun p q z=>⟨z.1,ht _ _ z.2.1,z.2.2⟩,ob,es,ep,k _ _ (.inl rfl) e,c⟩
 | set S n=>obtain ⟨ob,es,ep,t,e,c⟩:=x;exact ⟨ob,es,ep,t,k _ _ (.inl rfl) e,c⟩
 | ins C dx fs =>
  obtain ⟨d,z,ne,e,mA,⟨od,es,ep,e2,c⟩,r⟩:=x
  exact ⟨ho _ d,z,ne,k _ _ (.inl rfl) e,mA,⟨od,es,ep,k _ _ (.inr d) e2,c⟩,r⟩
 | own y=>obtain ⟨ob,e⟩:=x;exact ⟨ob,k _ _ (.inl rfl) e⟩
 | xd fs=>obtain ⟨mA,⟨od,es,ep,e,c⟩,r⟩:=x;exact ⟨mA,⟨od,es,ep,k _ _ (.inl rfl) e,c⟩,r⟩
 | rng lo hi=>obtain ⟨t,u,v,e⟩:=x;exact ⟨t,u,v,k _ _ (.inl rfl) e⟩
 | frz ob u ih=>obtain ⟨e,q⟩:=x;exact ⟨k _ _ (.inl rfl) e,ih q⟩
 | tbl ps =>
  have e:h.get? a=some { cls:=.none,data:=.fields ps }:=x
  show h'.get? a=some { cls:=.none,data:=.fields ps }
  exact k a _ (.inl rfl) e
 | met f y =>
  have e:h.get? a=some (PySem.W.methodObj (.ref f) (.ref y)):=x
  show h'.get? a=some (PySem.W.methodObj (.ref f) (.ref y))
  exact k a _ (.inl rfl) e
 | ext φ=>obtain ⟨p,⟨o,e⟩,st⟩:=x;exact ⟨st _ _ p fun o q=>k _ _ (.inl rfl) q,⟨o,k _ _ (.inl rfl) e⟩,st⟩
theorem HOk.lt (x:HOk P w H h) (e:H a=some o):a<h.objs.size:=(x a o e).lt
theorem HOk.fresh (x:HOk P w H h) (e:h.objs.size≤a):H a=none:=by
 cases q:H a with
 | none=>rfl
 | some u=>exact absurd (Nat.lt_of_lt_of_le (x.lt q) e) (Nat.lt_irrefl _)
theorem HOk.kept (x:HOk P w H h) (k:∀ b u,h.get? b=some u→h'.get? b=some u):HOk P w H h':=fun a o e =>
 (x a o e).stay (fun b u _ q=>k b u q) (fun _ q=>q) fun _ _ q=>q
theorem HOk.laid (x:HOk P w H h) (k:∀ b u,h.get? b=some u→h'.get? b=some u) (hp:h.objs.size≤a) (new:ObjOk P w (upd H a o) h' a o):HOk P w (upd H a o) h':=fun b u e=>by
 have hn:=x.fresh hp
 by_cases hb:b=a
 ·subst hb;rw [upd_same] at e;cases e;exact new
 ·rw [upd_ne hb] at e
  exact (x b u e).stay (fun c v _ q=>k c v q) (fun c q=>by rw [upd_ne (ne_of_none q hn)];exact q) fun c xs q=>by rw [upd_ne (ne_of_none q hn)];exact q
end
def Rd (H:Hp) (a:Addr) (u:HO):Prop:=H a=some u∨∃ o,H a=some (.frz o u)
theorem Rd.ok {P:Program}{w:World}{H:Hp}{h:Heap}{a:Addr}{u:HO} (r:Rd H a u) (x:HOk P w H h):ObjOk P w H h a u:=by
 rcases r with r | ⟨o,r⟩
 ·exact x a u r
 ·obtain ⟨_,q⟩:=x a _ r
  exact q
def Mut:Option HO→Prop
 | some (.lst _)=>True
 | some (.dK _)=>True
 | some (.dT _)=>True
 | some (.set _ _)=>True
 | some (.ins _ _ _)=>True
 | some (.ext _)=>True
 | _=>False
section
variable {P:Program}{w:World}{H:Hp}{h h':Heap}{x e:Addr}{o':HO}
theorem HOk.write (ok:HOk P w H h) (mu:Mut (H x)) (he:e=x∨H e=some (.own x)) (k:∀ b u,b≠e→h.get? b=some u→h'.get? b=some u) (heo:∃ u,h'.get? e=some u)
  (new:ObjOk P w (upd H x o') h' x o'):HOk P w (upd H x o') h':=fun b u q=>by
 have nown:∀ c y,H c=some (.own y)→c≠x:=fun c y r z=>by subst z;rw [r] at mu;exact mu
 have ntup:∀ c xs,H c=some (.tup xs)→c≠x:=fun c xs r z=>by subst z;rw [r] at mu;exact mu
 by_cases hb:b=x
 ·subst hb;rw [upd_same] at q;cases q;exact new
 ·rw [upd_ne hb] at q
  by_cases hbe:b=e
  ·have q':H b=some (.own x):=by
    rcases he with z | z
    ·exact absurd (hbe.trans z) hb
    ·rw [hbe];exact z
   rw [q] at q';cases q'
   obtain ⟨v,hv⟩:=heo
   exact ⟨v,by rw [hbe];exact hv⟩
  ·refine (ok b u q).stay (fun c v hc r=>k c v ?_ r) (fun c r=>by rw [upd_ne (nown c b r)];exact r) fun c xs r=>by rw [upd_ne (ntup c xs r)];exact r
   rcases hc with rfl | hc
   ·exact hbe
   ·rintro rfl
    rcases he with z | z
    ·exact nown c b hc z
    ·rw [hc] at z;cases z;exact hb rfl
end
structure Un (fs ex:List Addr) (H H':Hp) (h h':Heap):Prop where
 keep:∀ b o,h.get? b=some o→H b=none→b ∉ fs→b ∉ ex→h'.get? b=some o
 slot:∀ b o,h.get? b=some o→H b=none→b∈fs→b ∉ ex→∃ sl,h'.get? b=some { o with slots:=sl }
 free:∀ b o,h.get? b=some o→H b=none→b ∉ ex→H' b=none
 there:∀ b o,h.get? b=some o→b ∉ ex→∃ o',h'.get? b=some o'
 tups:∀ b xs,H b=some (.tup xs)→H' b=some (.tup xs)
 frzs:∀ b o u,H b=some (.frz o u)→H' b=some (.frz o u)
 tbls:∀ b ps,H b=some (.tbl ps)→∃ more,H' b=some (.tbl (ps ++ more))
section
variable {fs fs' ex ex':List Addr}{H H1 H2:Hp}{h h1 h2 h':Heap}{a x e:Addr}{o:HO}
theorem Un.any (u:Un fs ex H H1 h h1) {b:Addr}{ob:Obj} (q:h.get? b=some ob) (n:H b=none) (hx:b ∉ ex):∃ sl,h1.get? b=some { ob with slots:=sl }:=by
 by_cases hb:b∈fs
 ·exact u.slot b ob q n hb hx
 ·exact ⟨ob.slots,u.keep b ob q n hb hx⟩
theorem Un.kept (k:∀ b u,h.get? b=some u→h'.get? b=some u):Un fs ex H H h h' :=
 ⟨fun b ob q _ _ _=>k b ob q,fun b ob q _ _ _=>⟨ob.slots,k b ob q⟩,fun _ _ _ n _=>n,fun b ob q _=>⟨ob,k b ob q⟩,fun _ _ q=>q,fun _ _ _ q=>q,fun _ ps q=>⟨#[],by rw [q];simp⟩⟩
theorem Un.refl:Un fs ex H H h h:=Un.kept fun _ _ q=>q
theorem Un.laid (k:∀ b u,h.get? b=some u→h'.get? b=some u) (hp:h.objs.size≤a) (hn:H a=none):Un fs ex H (upd H a o) h h' where
 keep:=fun b u q _ _ _=>k b u q
 slot:=fun b u q _ _ _=>⟨u.slots,k b u q⟩
 free:=fun b u q n _=>by rw [upd_ne (Nat.ne_of_lt (Nat.lt_of_lt_of_le (Heap.lt_size q) hp))];exact n
 there:=fun b u q _=>⟨u,k b u q⟩
 tups:=fun b xs q=>by rw [upd_ne (ne_of_none q hn)];exact q
 frzs:=fun b u xs q=>by rw [upd_ne (ne_of_none q hn)];exact q
 tbls:=fun b ps q=>⟨#[],by rw [upd_ne (ne_of_none q hn),q];simp⟩
theorem Un.write (mu:Mut (H x)) (he:e=x∨H e=some (.own x)) (k:∀ b u,b≠e→h.get? b=some u→h'.get? b=some u) (heo:∃ u,h'.get? e=some u):Un fs ex H (upd H x o) h h':=by
 have hx:∀ b,H b=none→b≠x:=fun b n z=>by subst z;rw [n] at mu;exact mu
 have hb:∀ b,H b=none→b≠e:=fun b n z=>by
  subst z
  rcases he with r | r
  ·exact hx b n r
  ·rw [n] at r;cases r
 have hm:∀ b u,H b=some u→¬ Mut (some u)→b≠x:=fun b u q nm z=>by subst z;rw [q] at mu;exact nm mu
 refine ⟨fun b u q n _ _=>k b u (hb b n) q,fun b u q n _ _=>⟨u.slots,k b u (hb b n) q⟩,fun b u q n _=>by rw [upd_ne (hx b n)];exact n,fun b u q _=>?_,
  fun b xs q=>by rw [upd_ne (hm b _ q fun z=>z)];exact q,fun b u xs q=>by rw [upd_ne (hm b _ q fun z=>z)];exact q,fun b ps q=>⟨#[],by rw [upd_ne (hm b _ q fun z=>z),q];simp⟩⟩
 by_cases hbe:b=e
 ·subst hbe;exact heo
 ·exact ⟨u,k b u hbe q⟩
end
def trk (h:Heap) (H:Hp):List Addr:=(List.range h.objs.size).filter fun a=>(H a).isSome
def hidT (h:Heap) (H:Hp):Heap:=PySem.W.hideAll h (trk h H)
theorem hidT_size (h:Heap) (H:Hp):(hidT h H).objs.size=h.objs.size:=PySem.W.hideAll_size _ _
theorem hidT_get {h:Heap}{H:Hp}{b:Addr}{o:Obj} (e:h.get? b=some o) (n:H b=none):(hidT h H).get? b=some o :=
 PySem.W.hideAll_get _ e fun hm=>by
  have q:(H b).isSome=true:=(List.mem_filter.mp hm).2
  rw [n] at q;simp at q
theorem of_hidT {h:Heap}{H:Hp}{b:Addr}{o:Obj} (e:(hidT h H).get? b=some o):h.get? b=some o∧H b=none:=by
 have e':h.get? b=some o:=PySem.W.of_hideAll (trk h H) e
 refine ⟨e',?_⟩
 cases q:H b with
 | none=>rfl
 | some x =>
  have hm:b∈trk h H:=List.mem_filter.mpr ⟨List.mem_range.mpr (Heap.lt_size e'),by simp [q]⟩
  have z:(hidT h H).get? b=none:=PySem.W.hideAll_none (trk h H) hm
  rw [z] at e;cases e
def allNews (g h:Heap) (L:Addr):List (Addr × Obj):=(List.range h.objs.size).filterMap fun a=>if a=L∨(g.get? a).isSome=true then none else (h.get? a).map fun o=>(a,o)
def rest (g h:Heap) (L d:Addr):List (Addr × Obj):=(allNews g h L).filter fun p=>decide (p.1≠d)
structure Mod (K:PySem.W.Frag) (mg:Str→Option Value) (base:Heap):Prop where
 kin:K.In base
 glob:base.Ns mainGlobals mg
 blt:∃ mb,base.Ns builtinsNs mb∧∀ x:Str,x ≠ "__name__" → mb x=bootBuiltins x
 nolimit:base.NoLimit
structure Cx where
 prog:Program
 w:World
 K:PySem.W.Frag
 mg:Str→Option Value
 base:Heap
 A:Around
 N:List Str
 s₀:Shared
 H₀:Hp
 env:Env
 outer:List Env
 stack:List Env
 ex:List Addr
 fn:Str→Bool
 calm:Bool
 pn:List (Addr × Obj)
 xe:Value→Shared→Prop
def frs (l:List Env):List Addr:=l.filterMap (·.frame)
abbrev Cx.fs (X:Cx):List Addr:=frs X.outer
def Vis (sc:Scope) (x:Str):Prop:=sc.names.lookup x=some .local∨sc.names.lookup x=some .cell∨sc.names.lookup x=some .free
def Loc (sc:Scope) (x:Str):Prop:=sc.names.lookup x=some .local∨sc.names.lookup x=some .cell
def Look (env:Env) (h:Heap) (m:Str→Option Value) (x:Str) (u:Value):Prop :=
 (env.kindOf x=some .local∧m x=some u)∨((env.kindOf x=some .cell∨env.kindOf x=some .free)∧∃ c,env.cells.lookup x=some c∧h.IsCell c (some u))
structure Cx.Ok (X:Cx):Prop where
 mod:Mod X.K X.mg X.base
 kind:X.env.scope.kind=.function
 glob:X.env.globals=mainGlobals
 blt:X.env.builtins=builtinsNs
 above:X.s₀.heap.objs.size≤X.env.locals
 inj:∀ x y c,X.env.cells.lookup x=some c→X.env.cells.lookup y=some c→x=y
 has:∀ x,(X.env.kindOf x=some .cell∨X.env.kindOf x=some .free)→∃ c,X.env.cells.lookup x=some c
 cab:∀ x c,X.fn x=true→X.env.cells.lookup x=some c→X.s₀.heap.objs.size≤c
 hd:X.calm=true→X.A.handled=none
 frames:X.A.frames=some X.stack
 stk:X.stack=X.outer∨(X.stack=X.env :: X.outer∧X.env.frame=some X.env.locals)
 exf:∀ b∈X.ex,b≠X.env.locals∧∀ x c,X.env.cells.lookup x=some c→c≠b
 bs:∀ b o,X.base.get? b=some o→X.s₀.heap.get? b=some o∧X.H₀ b=none
 bsz:X.base.objs.size≤X.s₀.heap.objs.size
 noex:∀ b o,X.base.get? b=some o→b ∉ X.ex
 exfs:∀ b∈X.ex,b ∉ X.fs
 funs:X.s₀.heap.FunFrames X.base X.outer
 frf:∀ b∈X.fs,X.H₀ b=none
structure Inv (X:Cx) (pins:List (Addr × Obj)) (σ:List (Option V)) (H:Hp) (s:Shared):Prop where
 ok:X.Ok
 os:s.os=X.s₀.os
 bare:AllBare s.gens
 base:Un X.fs X.ex X.H₀ H X.s₀.heap s.heap
 loc:∃ m,s.heap.Ns X.env.locals m∧∀ (i:Nat) (x:Str) (v:V),X.N[i]? = some x→σ[i]? = some (some v)→Vis X.env.scope x→∃ u,RelV v u∧Look X.env s.heap m x u
 cell:∀ x c,X.env.cells.lookup x=some c→∃ v,s.heap.IsCell c v
 free:H X.env.locals=none
 freeC:∀ x c,X.env.cells.lookup x=some c→H c=none
 pin:∀ p∈X.pn ++ pins,s.heap.get? p.1=some p.2∧H p.1=none∧p.1≠X.env.locals∧p.1 ∉ X.fs∧∀ v,p.2.data≠.cell v
 hok:HOk X.prog X.w H s.heap
 len:σ.length=X.N.length
section
variable {X:Cx}{pins:List (Addr × Obj)}{σ:List (Option V)}{H H':Hp}{s:Shared}{h':Heap}
theorem Cx.Ok.nofr (ok:X.Ok) {b:Addr}{o:Obj} (e:X.base.get? b=some o):b ∉ X.fs:=fun hb=>by
 have:=(ok.funs.mem hb).1
 rw [e] at this;cases this
theorem Inv.bs (I:Inv X pins σ H s):∀ b o,X.base.get? b=some o→s.heap.get? b=some o∧H b=none:=fun b o e =>
 ⟨I.base.keep b o (I.ok.bs b o e).1 (I.ok.bs b o e).2 (I.ok.nofr e) (I.ok.noex b o e),I.base.free b o (I.ok.bs b o e).1 (I.ok.bs b o e).2 (I.ok.noex b o e)⟩
theorem Inv.bk (I:Inv X pins σ H s):∀ b o,X.base.get? b=some o→s.heap.get? b=some o:=fun b o e=>(I.bs b o e).1
theorem Inv.mod (I:Inv X pins σ H s):Mod X.K X.mg X.base:=I.ok.mod
theorem Inv.kIn (I:Inv X pins σ H s):X.K.In s.heap:=I.ok.mod.kin.keeps I.bk
theorem Inv.nolimit (I:Inv X pins σ H s):s.heap.NoLimit:=I.ok.mod.nolimit.keeps I.bk
theorem Inv.fr (I:Inv X pins σ H s):∃ m,Fr X.base X.env.locals s.heap m :=
 let ⟨m,hn,_⟩:=I.loc
 ⟨m,hn,I.bk,Nat.le_trans I.ok.bsz I.ok.above⟩
theorem Inv.lt (I:Inv X pins σ H s):X.env.locals<s.heap.objs.size:=let ⟨_,hn,_⟩:=I.loc;hn.lt
theorem Inv.sz (I:Inv X pins σ H s):X.s₀.heap.objs.size≤s.heap.objs.size:=Nat.le_trans I.ok.above (Nat.le_of_lt I.lt)
theorem Inv.nofs (I:Inv X pins σ H s) {a:Addr} (h:s.heap.objs.size≤a):a ∉ X.fs:=fun hb=>by
 obtain ⟨_,o,ho,_⟩:=I.ok.funs.mem hb
 exact absurd (Nat.lt_of_lt_of_le (Heap.lt_size ho) (Nat.le_trans I.sz h)) (Nat.lt_irrefl _)
theorem Inv.cne (I:Inv X pins σ H s):∀ x c,X.env.cells.lookup x=some c→c≠X.env.locals:=fun x c e z=>by
 obtain ⟨v,o,ho,hd⟩:=I.cell x c e
 obtain ⟨m,⟨o',es,ep,ho',hd',_⟩,_⟩:=I.loc
 rw [z,ho'] at ho;cases ho;rw [hd'] at hd;cases hd
theorem Inv.funs (I:Inv X pins σ H s):s.heap.FunFrames X.base X.outer:=by
 have all:∀ (l:List Env),(∀ b∈frs l,b∈X.fs)→X.s₀.heap.FunFrames X.base l→s.heap.FunFrames X.base l:=by
  intro l
  induction l with
  | nil=>intro _ _;trivial
  | cons env r ih =>
   intro hs hl
   obtain ⟨hk,⟨L,o,hf,hn,ho,hd⟩,hr⟩:=hl
   have hL:L∈X.fs:=hs L (by unfold frs;rw [List.filterMap_cons,hf];exact List.mem_cons_self)
   obtain ⟨sl,e⟩:=I.base.slot L o ho (I.ok.frf L hL) hL fun z=>I.ok.exfs L z hL
   exact ⟨hk,⟨L,_,hf,hn,e,hd⟩,ih (fun b hb=>hs b (by unfold frs;rw [List.filterMap_cons,hf];exact List.mem_cons_of_mem _ hb)) hr⟩
 exact all X.outer (fun _ hb=>hb) I.ok.funs
theorem Inv.stack (I:Inv X pins σ H s):s.heap.FunFrames X.base X.stack:=by
 rcases I.ok.stk with e | ⟨e,hf⟩
 ·rw [e];exact I.funs
 ·rw [e]
  obtain ⟨m,hn,_⟩:=I.loc
  refine .cons (by rw [I.ok.kind];decide) hf hn ?_ I.funs
  exact Heap.get?_none_of_le (Nat.le_trans I.ok.bsz I.ok.above)
theorem Inv.stkSub (I:Inv X pins σ H s):∀ b∈frs X.stack,b∈X.env.locals :: X.fs:=fun b hb=>by
 rcases I.ok.stk with e | ⟨e,hf⟩
 ·rw [e] at hb;exact List.mem_cons_of_mem _ hb
 ·rw [e] at hb
  unfold frs at hb
  rw [List.filterMap_cons,hf] at hb
  exact hb
theorem Inv.stkFree (I:Inv X pins σ H s):∀ b∈frs X.stack,H b=none:=fun b hb=>by
 rcases List.mem_cons.mp (I.stkSub b hb) with e | hb
 ·rw [e];exact I.free
 ·obtain ⟨_,o,ho,_⟩:=I.ok.funs.mem hb
  exact I.base.free b o ho (I.ok.frf b hb) fun z=>I.ok.exfs b z hb
theorem Inv.step {g':Array GenState}{t':Nat}{d':Drawn}{ch:List Addr} (I:Inv X pins σ H s)
  (hch:∀ b∈ch,(b∈X.ex∨X.s₀.heap.objs.size≤b)∧b≠X.env.locals∧(∀ x c,X.env.cells.lookup x=some c→c≠b)∧∀ p∈X.pn ++ pins,p.1≠b)
  (keep:∀ b o,b≠X.env.locals→b ∉ X.fs→b ∉ ch→s.heap.get? b=some o→H b=none→h'.get? b=some o)
  (slot:∀ b o,b≠X.env.locals→b∈X.fs→b ∉ ch→s.heap.get? b=some o→H b=none→∃ sl,h'.get? b=some { o with slots:=sl }) (free:∀ b o,b ∉ ch→s.heap.get? b=some o→H b=none→H' b=none)
  (there:∀ b o,b ∉ ch→s.heap.get? b=some o→∃ o',h'.get? b=some o')
  (tups:∀ b xs,H b=some (.tup xs)→H' b=some (.tup xs)) (frzs:∀ b o u,H b=some (.frz o u)→H' b=some (.frz o u)) (tbls:∀ b ps,H b=some (.tbl ps)→∃ more,H' b=some (.tbl (ps ++ more)))
  (ns:∀ m,s.heap.Ns X.env.locals m→h'.Ns X.env.locals m) (hok:HOk X.prog X.w H' h') (hg:AllBare g') :
  Inv X pins σ H' { s with heap:=h',gens:=g',drawn:=d',toks:=t' }:=by
 have neL:∀ b o,X.s₀.heap.get? b=some o→b≠X.env.locals:=fun b o e=>Nat.ne_of_lt (Nat.lt_of_lt_of_le (Heap.lt_size e) I.ok.above)
 have neC:∀ b o,X.s₀.heap.get? b=some o→b ∉ X.ex→b ∉ ch:=fun b o e hx hb=>by
  rcases (hch b hb).1 with z | z
  ·exact hx z
  ·exact absurd (Nat.lt_of_lt_of_le (Heap.lt_size e) z) (Nat.lt_irrefl _)
 have cellK:∀ x c,X.env.cells.lookup x=some c→∀ v,s.heap.IsCell c v→h'.IsCell c v:=fun x c e v ⟨o,ho,hd⟩=>by
  have nch:c ∉ ch:=fun z=>(hch c z).2.2.1 x c e rfl
  by_cases hc:c∈X.fs
  ·obtain ⟨sl,q⟩:=slot c o (I.cne x c e) hc nch ho (I.freeC x c e)
   exact ⟨_,q,hd⟩
  ·exact ⟨o,keep c o (I.cne x c e) hc nch ho (I.freeC x c e),hd⟩
 refine ⟨I.ok,I.os,hg,⟨fun b o e n hb hx=>?_,fun b o e n hb hx=>?_,fun b o e n hx=>?_,fun b o e hx=>?_,fun b xs e=>tups b xs (I.base.tups b xs e),fun b o xs e=>frzs b o xs (I.base.frzs b o xs e),fun b ps e=>?_⟩,?_,fun x c e=>?_,?_,fun x c e=>?_,fun p hp=>?_,hok,I.len⟩
 ·exact keep b o (neL b o e) hb (neC b o e hx) (I.base.keep b o e n hb hx) (I.base.free b o e n hx)
 ·obtain ⟨sl,e1⟩:=I.base.slot b o e n hb hx
  obtain ⟨sl',e2⟩:=slot b _ (neL b o e) hb (neC b o e hx) e1 (I.base.free b o e n hx)
  exact ⟨sl',e2⟩
 ·obtain ⟨o',e1⟩:=I.base.there b o e hx
  exact free b o' (neC b o e hx) e1 (I.base.free b o e n hx)
 ·obtain ⟨o',e1⟩:=I.base.there b o e hx
  exact there b o' (neC b o e hx) e1
 ·obtain ⟨m1,e1⟩:=I.base.tbls b ps e
  obtain ⟨m2,e2⟩:=tbls b _ e1
  exact ⟨m1 ++ m2,by rw [e2,Array.append_assoc]⟩
 ·obtain ⟨m,hn,hl⟩:=I.loc
  refine ⟨m,ns m hn,fun i x v e1 e2 e3=>?_⟩
  obtain ⟨u,r,l⟩:=hl i x v e1 e2 e3
  refine ⟨u,r,?_⟩
  rcases l with l | ⟨k,c,e,z⟩
  ·exact .inl l
  ·exact .inr ⟨k,c,e,cellK x c e _ z⟩
 ·obtain ⟨v,z⟩:=I.cell x c e
  exact ⟨v,cellK x c e v z⟩
 ·obtain ⟨m,⟨o,_,_,ho,_⟩,_⟩:=I.loc
  exact free _ o (fun z=>(hch _ z).2.1 rfl) ho I.free
 ·obtain ⟨v,o,ho,hd⟩:=I.cell x c e
  exact free c o (fun z=>(hch c z).2.2.1 x c e rfl) ho (I.freeC x c e)
 ·obtain ⟨e,n,ne,nf,d⟩:=I.pin p hp
  have nch:p.1 ∉ ch:=fun z=>(hch p.1 z).2.2.2 p hp rfl
  exact ⟨keep p.1 p.2 ne nf nch e n,free p.1 p.2 nch e n,ne,nf,d⟩
theorem Inv.un {t':Nat} (I:Inv X pins σ H s) (u:Un X.fs [] H H' s.heap h') (hok:HOk X.prog X.w H' h'):Inv X pins σ H' { s with heap:=h',toks:=t' }:=by
 obtain ⟨m,⟨o,es,ep,ho,r⟩,_⟩:=id I.loc
 obtain ⟨sl,hL⟩:=u.any ho I.free (by simp)
 exact I.step (g':=s.gens) (d':=s.drawn) (ch:=[]) (fun _ z=>nomatch z) (fun b o _ hb _ e n=>u.keep b o e n hb (by simp)) (fun b o _ hb _ e n=>u.slot b o e n hb (by simp)) (fun b o _ e n=>u.free b o e n (by simp)) (fun b o _ e=>u.there b o e (by simp)) u.tups u.frzs u.tbls (fun m' hm=>by
  obtain ⟨o',es',ep',ho',r'⟩:=hm
  rw [ho] at ho';cases ho'
  exact ⟨_,es',ep',hL,r'⟩) hok I.bare
theorem Inv.call {g':Array GenState}{t':Nat}{d':Drawn}{ch:List Addr} (I:Inv X pins σ H s) (u:Un (frs X.stack) ch H H' s.heap h') (hok:HOk X.prog X.w H' h') (hg:AllBare g')
  (hch:∀ b∈ch,(b∈X.ex∨X.s₀.heap.objs.size≤b)∧b≠X.env.locals∧(∀ x c,X.env.cells.lookup x=some c→c≠b)∧∀ p∈X.pn ++ pins,p.1≠b) :
  Inv X pins σ H' { s with heap:=h',gens:=g',drawn:=d',toks:=t' }:=by
 obtain ⟨m,⟨o,es,ep,ho,r⟩,_⟩:=id I.loc
 obtain ⟨sl,hL⟩:=u.any ho I.free fun z=>(hch _ z).2.1 rfl
 exact I.step (ch:=ch) hch (fun b o hL hb hc e n=>u.keep b o e n (fun z=>(List.mem_cons.mp (I.stkSub b z)).elim hL hb) hc) (fun b o _ _ hc e n=>u.any e n hc) (fun b o hc e n=>u.free b o e n hc) (fun b o hc e=>u.there b o e hc) u.tups u.frzs u.tbls (fun m' hm=>by
  obtain ⟨o',es',ep',ho',r'⟩:=hm
  rw [ho] at ho';cases ho'
  exact ⟨_,es',ep',hL,r'⟩) hok hg
theorem Inv.turned {t':Nat}{it:Addr} (I:Inv X pins σ H s) (k:∀ b o,b≠it→s.heap.get? b=some o→h'.get? b=some o) (hn:H it=none) (hL:it≠X.env.locals)
  (h1:it∈X.ex∨X.s₀.heap.objs.size≤it) (h2:∀ x c,X.env.cells.lookup x=some c→c≠it) (h3:∀ p∈X.pn ++ pins,p.1≠it):Inv X pins σ H { s with heap:=h',toks:=t' }:=by
 have nit:∀ b u,H b=some u→b≠it:=fun b u e z=>by rw [z,hn] at e;cases e
 refine I.step (g':=s.gens) (d':=s.drawn) (ch:=[it]) (fun b hb=>?_) (fun b o _ _ hc e _=>k b o (fun z=>hc (by simp [z])) e) (fun b o _ _ hc e _=>⟨o.slots,k b o (fun z=>hc (by simp [z])) e⟩) (fun _ _ _ _ n=>n)
  (fun b o hc e=>⟨o,k b o (fun z=>hc (by simp [z])) e⟩) (fun _ _ e=>e) (fun _ _ _ e=>e) (fun b ps e=>⟨#[],by rw [e];simp⟩) (fun m hm=>?_) (fun b u e=>?_) I.bare
 ·have e:b=it:=by simpa using hb
  subst e
  exact ⟨h1,hL,h2,h3⟩
 ·obtain ⟨o,es,ep,ho,r⟩:=hm
  exact ⟨o,es,ep,k _ o (Ne.symm hL) ho,r⟩
 ·refine (I.hok b u e).stay (fun c v hc q=>k c v ?_ q) (fun _ q=>q) fun _ _ q=>q
  rcases hc with z | z
  ·rw [z];exact nit b u e
  ·exact nit c _ z
theorem Inv.tok (I:Inv X pins σ H s) (t:Nat):Inv X pins σ H { s with toks:=t }:=I.un (h':=s.heap) (t':=t) Un.refl I.hok
theorem Inv.kept {t':Nat} (I:Inv X pins σ H s) (k:∀ b u,s.heap.get? b=some u→h'.get? b=some u):Inv X pins σ H { s with heap:=h',toks:=t' }:=I.un (Un.kept k) (I.hok.kept k)
theorem Inv.laid {a:Addr}{o:HO}{t':Nat} (I:Inv X pins σ H s) (k:∀ b u,s.heap.get? b=some u→h'.get? b=some u) (hp:s.heap.objs.size≤a) (new:ObjOk X.prog X.w (upd H a o) h' a o) :
  Inv X pins σ (upd H a o) { s with heap:=h',toks:=t' }:=I.un (Un.laid k hp (I.hok.fresh hp)) (I.hok.laid k hp new)
theorem Inv.write {x e:Addr}{o:HO}{t':Nat} (I:Inv X pins σ H s) (mu:Mut (H x)) (he:e=x∨H e=some (.own x)) (k:∀ b u,b≠e→s.heap.get? b=some u→h'.get? b=some u) (heo:∃ u,h'.get? e=some u)
  (new:ObjOk X.prog X.w (upd H x o) h' x o):Inv X pins σ (upd H x o) { s with heap:=h',toks:=t' }:=I.un (Un.write mu he k heo) (I.hok.write mu he k heo new)
theorem Inv.pins_of {pins':List (Addr × Obj)} (I:Inv X pins σ H s) (h:∀ p∈pins',s.heap.get? p.1=some p.2∧H p.1=none∧p.1≠X.env.locals∧p.1 ∉ X.fs∧∀ v,p.2.data≠.cell v):Inv X pins' σ H s :=
 ⟨I.ok,I.os,I.bare,I.base,I.loc,I.cell,I.free,I.freeC,fun p hp=>(List.mem_append.mp hp).elim (fun z=>I.pin p (List.mem_append_left _ z)) (h p),I.hok,I.len⟩
theorem nodup_ix {N:List Str} (hN:N.Nodup) {i j:Nat}{x:Str} (a:N[i]? = some x) (b:N[j]? = some x):i=j:=by
 obtain ⟨h1,e1⟩:=List.getElem?_eq_some_iff.mp a
 obtain ⟨h2,e2⟩:=List.getElem?_eq_some_iff.mp b
 exact (List.getElem_inj hN).mp (e1.trans e2.symm)
theorem store_ok2 {M:Model}{A:Around}{E:Value→Shared→Prop}{i:Nat}{x:Str}{v:V}{u:Value}{Q:Unit→Shared→Prop} (I:Inv X pins σ H s) (hN:X.N.Nodup) (hi:X.N[i]? = some x) (hx:Loc X.env.scope x) (r:RelV v u)
  (h:∀ s',Inv X pins (σ.set i (some v)) H s'→(∃ a,Heap.SameBut a s.heap s'.heap∧(a=X.env.locals∨X.env.cells.lookup x=some a))→Q () s') (hf:X.fn x=true∨X.env.scope.names.lookup x=some .local:=by first | exact .inl rfl | exact .inr rfl | assumption):wpAny M A (storeName X.env x u) Q E s:=by
 obtain ⟨m,hn,hl⟩:=id I.loc
 have hcls:(X.env.scope.kind == .class || (X.env.scope.kind == .module && X.env.locals != X.env.globals))=false:=by rw [I.ok.kind];rfl
 have hiσ:i<σ.length:=by rw [I.len];exact (List.getElem?_eq_some_iff.mp hi).1
 have cne:=I.cne
 have tracked:∀ {a:Addr}{h':Heap},(∃ o,s.heap.get? a=some o∧H a=none)→Heap.SameBut a s.heap h'→HOk X.prog X.w H h':=fun {a h'} ha hs b ob e=>by
  obtain ⟨_,_,hfree⟩:=ha
  refine (I.hok b ob e).stay (fun c w' hc q=>(hs.2 c ?_).trans q) (fun _ q=>q) fun _ _ q=>q
  rintro rfl
  rcases hc with rfl | hc
  ·rw [hfree] at e;cases e
  ·rw [hfree] at hc;cases hc
 rcases hx with hk | hk
 ·refine wpAny_storeName_local hk hn (fun h' hn' hs=>?_) hcls
  obtain ⟨oL,_,_,hoL,_⟩:=id hn
  refine h _ ⟨I.ok,I.os,I.bare,⟨fun b o e n hb hx=>?_,fun b o e n hb hx=>?_,I.base.free,fun b o e hx=>?_,I.base.tups,I.base.frzs,I.base.tbls⟩,⟨_,hn',fun j y v' e1 e2 e3=>?_⟩,fun y c e=>?_,I.free,I.freeC,fun p hp=>?_,tracked ⟨oL,hoL,I.free⟩ hs,by simpa using I.len⟩ ⟨_,hs,.inl rfl⟩
  ·exact (hs.2 b (Nat.ne_of_lt (Nat.lt_of_lt_of_le (Heap.lt_size e) I.ok.above))).trans (I.base.keep b o e n hb hx)
  ·obtain ⟨sl,e1⟩:=I.base.slot b o e n hb hx
   exact ⟨sl,(hs.2 b (Nat.ne_of_lt (Nat.lt_of_lt_of_le (Heap.lt_size e) I.ok.above))).trans e1⟩
  ·obtain ⟨o',e1⟩:=I.base.there b o e hx
   exact ⟨o',(hs.2 b (Nat.ne_of_lt (Nat.lt_of_lt_of_le (Heap.lt_size e) I.ok.above))).trans e1⟩
  ·by_cases hj:j=i
   ·subst hj
    rw [hi] at e1;cases e1
    rw [List.getElem?_set_self hiσ] at e2
    cases e2
    exact ⟨u,r,.inl ⟨hk,by simp⟩⟩
   ·rw [List.getElem?_set_ne (Ne.symm hj)] at e2
    obtain ⟨u',r',q⟩:=hl j y v' e1 e2 e3
    refine ⟨u',r',?_⟩
    rcases q with ⟨k,e⟩ | ⟨k,c,e,z⟩
    ·refine .inl ⟨k,?_⟩
     have:y≠x:=fun e=>hj (nodup_ix hN e1 (e ▸ hi))
     simp [this,e]
    ·exact .inr ⟨k,c,e,z.sameBut hs (cne y c e)⟩
  ·obtain ⟨w',z⟩:=I.cell y c e
   exact ⟨w',z.sameBut hs (cne y c e)⟩
  ·obtain ⟨e,n,ne,nf,d⟩:=I.pin p hp
   exact ⟨(hs.2 p.1 ne).trans e,n,ne,nf,d⟩
 ·have hfn:X.fn x=true:=by
   rcases hf with z | z
   ·exact z
   ·rw [z] at hk;cases hk
  obtain ⟨c,hc⟩:=I.ok.has x (.inl hk)
  obtain ⟨w',z⟩:=I.cell x c hc
  refine wpAny_storeName_cell I.ok.kind hk hc z (fun h' hc' hs=>?_)
  obtain ⟨oc,hoc,hocd⟩:=id z
  refine h { s with heap:=h' } ⟨I.ok,I.os,I.bare,⟨fun b o e n hb hx=>?_,fun b o e n hb hx=>?_,I.base.free,fun b o e hx=>?_,I.base.tups,I.base.frzs,I.base.tbls⟩,⟨m,hn.sameBut hs (Ne.symm (cne x c hc)),fun j y v' e1 e2 e3=>?_⟩,fun y c' e=>?_,I.free,I.freeC,fun p hp=>?_,tracked ⟨oc,hoc,I.freeC x c hc⟩ hs,by simpa using I.len⟩ ⟨c,hs,.inr hc⟩
  ·exact (hs.2 b (Nat.ne_of_lt (Nat.lt_of_lt_of_le (Heap.lt_size e) (I.ok.cab x c hfn hc)))).trans (I.base.keep b o e n hb hx)
  ·obtain ⟨sl,e1⟩:=I.base.slot b o e n hb hx
   exact ⟨sl,(hs.2 b (Nat.ne_of_lt (Nat.lt_of_lt_of_le (Heap.lt_size e) (I.ok.cab x c hfn hc)))).trans e1⟩
  ·obtain ⟨o',e1⟩:=I.base.there b o e hx
   exact ⟨o',(hs.2 b (Nat.ne_of_lt (Nat.lt_of_lt_of_le (Heap.lt_size e) (I.ok.cab x c hfn hc)))).trans e1⟩
  ·by_cases hj:j=i
   ·subst hj
    rw [hi] at e1;cases e1
    rw [List.getElem?_set_self hiσ] at e2
    cases e2
    exact ⟨u,r,.inr ⟨.inl hk,c,hc,hc'⟩⟩
   ·rw [List.getElem?_set_ne (Ne.symm hj)] at e2
    obtain ⟨u',r',q⟩:=hl j y v' e1 e2 e3
    refine ⟨u',r',?_⟩
    rcases q with q | ⟨k,c',e,z'⟩
    ·exact .inl q
    ·refine .inr ⟨k,c',e,z'.sameBut hs ?_⟩
     rintro rfl
     exact hj (nodup_ix hN e1 (I.ok.inj _ _ _ e hc ▸ hi))
  ·by_cases hcc:c'=c
   ·subst hcc;exact ⟨_,hc'⟩
   ·obtain ⟨w2,z2⟩:=I.cell y c' e
    exact ⟨w2,z2.sameBut hs hcc⟩
  ·obtain ⟨e,n,ne,nf,d⟩:=I.pin p hp
   refine ⟨(hs.2 p.1 ?_).trans e,n,ne,nf,d⟩
   intro q
   rw [q,hoc] at e
   have q':oc=p.2:=Option.some.inj e
   exact d w' (by rw [← q'];exact hocd)
theorem store_ok {M:Model}{A:Around}{E:Value→Shared→Prop}{i:Nat}{x:Str}{v:V}{u:Value}{Q:Unit→Shared→Prop} (I:Inv X pins σ H s) (hN:X.N.Nodup) (hi:X.N[i]? = some x) (hx:Loc X.env.scope x) (r:RelV v u)
  (h:∀ s',Inv X pins (σ.set i (some v)) H s'→Q () s') (hf:X.fn x=true∨X.env.scope.names.lookup x=some .local:=by first | exact .inl rfl | exact .inr rfl | assumption):wpAny M A (storeName X.env x u) Q E s :=
 store_ok2 I hN hi hx r (fun s' I' _=>h s' I') hf
theorem Inv.call' {s':Shared}{ch:List Addr} (I:Inv X pins σ H s) (ho:s'.os=s.os) (u:Un (frs X.stack) ch H H' s.heap s'.heap) (hok:HOk X.prog X.w H' s'.heap) (hg:AllBare s'.gens)
  (hch:∀ b∈ch,(b∈X.ex∨X.s₀.heap.objs.size≤b)∧b≠X.env.locals∧(∀ x c,X.env.cells.lookup x=some c→c≠b)∧∀ p∈X.pn ++ pins,p.1≠b):Inv X pins σ H' s':=by
 obtain ⟨h',g',d',t',o'⟩:=s'
 have e:o'=s.os:=ho
 subst e
 exact I.call (g':=g') (t':=t') (d':=d') u hok hg hch
end
abbrev XK:=Value→Option Addr→Hp→Prop
abbrev St:=List (Option V)
abbrev VK:=V→Hp→Prop
abbrev TE:=St→Hp→VK→Prop
abbrev TT:=St→Hp→(Bool→Hp→Prop)→Prop
abbrev TA:=St→Hp→(List V→Hp→Prop)→Prop
structure Ends where
 nx:St→Hp→Prop
 rt:VK
 bk:St→Hp→Prop:=fun _ _=>False
 ct:St→Hp→Prop:=fun _ _=>False
abbrev TS:=Ends→St→Hp→Prop
def EP (X:Cx) (pins:List (Addr × Obj)) (σ:St) (Q:VK) (u:Value) (s':Shared):Prop:=∃ v H',Inv X pins σ H' s'∧RelV v u∧Q v H'
def TP (X:Cx) (pins:List (Addr × Obj)) (σ:St) (Q:Bool→Hp→Prop) (b:Bool) (s':Shared):Prop:=∃ H',Inv X pins σ H' s'∧Q b H'
def AP (X:Cx) (pins:List (Addr × Obj)) (σ:St) (Q:List V→Hp→Prop) (us:List Value) (s':Shared):Prop:=∃ vs H',Inv X pins σ H' s'∧Vals vs us∧Q vs H'
def SP (X:Cx) (pins:List (Addr × Obj)) (D:Ends) (f:Flow) (s':Shared):Prop :=
 match f with
 | .next=>∃ σ' H',Inv X pins σ' H' s'∧D.nx σ' H'
 | .brk=>∃ σ' H',Inv X pins σ' H' s'∧D.bk σ' H'
 | .cont=>∃ σ' H',Inv X pins σ' H' s'∧D.ct σ' H'
 | .ret u=>∃ v σ' H',Inv X pins σ' H' s'∧RelV v u∧D.rt v H'
def PE (X:Cx) (e:Expr) (t:TE):Prop :=
 ∀ (pins:List (Addr × Obj)) (s:Shared) (σ:St) (H:Hp) (Q:VK),Inv X pins σ H s→t σ H Q→wpAny (model X.prog X.w) X.A (eval e X.env) (EP X pins σ Q) X.xe s
def PT (X:Cx) (e:Expr) (t:TT):Prop :=
 ∀ (pins:List (Addr × Obj)) (s:Shared) (σ:St) (H:Hp) (Q:Bool→Hp→Prop),Inv X pins σ H s→t σ H Q→wpAny (model X.prog X.w) X.A (isTrue e X.env (eval e X.env)) (TP X pins σ Q) X.xe s
def PW (X:Cx) (e:Expr) (t:TT):Prop :=
 ∀ (whole:Sem Value) (pins:List (Addr × Obj)) (s:Shared) (σ:St) (H:Hp) (Q:Bool→Hp→Prop),Inv X pins σ H s→t σ H Q→wpAny (model X.prog X.w) X.A (isTrue e X.env whole) (TP X pins σ Q) X.xe s
theorem PW.pt {X:Cx}{e:Expr}{t:TT} (h:PW X e t):PT X e t:=h _
def PA (X:Cx) (es:List Expr) (t:TA):Prop :=
 ∀ (pos:Pos) (pins:List (Addr × Obj)) (s:Shared) (σ:St) (H:Hp) (Q:List V→Hp→Prop),Inv X pins σ H s→t σ H Q→wpAny (model X.prog X.w) X.A (spliced (backTo pos (starEach es X.env))) (AP X pins σ Q) X.xe s
def PS (X:Cx) (st:Stmt) (t:TS):Prop :=
 ∀ (pins:List (Addr × Obj)) (s:Shared) (σ:St) (H:Hp) (D:Ends),Inv X pins σ H s→t D σ H→wpAny (model X.prog X.w) X.A (exec st X.env) (SP X pins D) X.xe s
def PSs (X:Cx) (st:List Stmt) (t:TS):Prop :=
 ∀ (pins:List (Addr × Obj)) (s:Shared) (σ:St) (H:Hp) (D:Ends),Inv X pins σ H s→t D σ H→wpAny (model X.prog X.w) X.A (execs st X.env) (SP X pins D) X.xe s
theorem thn {α:Type}{t:Sem α}{Q Q':α→Shared→Prop}{M:Model}{A:Around}{E:Value→Shared→Prop}{s:Shared} (h:wpAny M A t Q E s) (hQ:∀ a s,Q a s→Q' a s):wpAny M A t Q' E s:=wpAny_mono h hQ fun _ _ x=>x
section
variable {X:Cx}
theorem bin {a b:Expr}{ta tb:TE} (ha:PE X a ta) (hb:PE X b tb) {pins:List (Addr × Obj)}{s:Shared}{σ:St}{H:Hp}{R:V→V→Hp→Prop} (I:Inv X pins σ H s) (h:ta σ H fun x H1=>tb σ H1 fun y H2=>R x y H2)
  {α:Type}{Q:α→Shared→Prop}{f:Value→Value→Sem α}
  (hf:∀ v u s2 x y H2,Inv X pins σ H2 s2→RelV x v→RelV y u→R x y H2→wpAny (model X.prog X.w) X.A (f v u) Q X.xe s2) :
  wpAny (model X.prog X.w) X.A (eval a X.env) (fun v s₁=>wpAny (model X.prog X.w) X.A (eval b X.env) (fun u s₂=>wpAny (model X.prog X.w) X.A (f v u) Q X.xe s₂) X.xe s₁) X.xe s:=by
 refine thn (ha pins s σ H _ I h) fun v s1 ⟨x,H1,I1,r1,q1⟩=>?_
 refine thn (hb pins s1 σ H1 _ I1 q1) fun u s2 ⟨y,H2,I2,r2,q2⟩=>?_
 exact hf v u s2 x y H2 I2 r1 r2 q2
def tVar (i:Nat):TE:=fun σ H Q=>∃ v,σ[i]? = some (some v)∧Q v H
def tC (v:V):TE:=fun _ H Q=>Q v H
theorem pe_var {i:Nat}{x:Str}{pos:Pos} (hN:X.N[i]? = some x) (hv:Vis X.env.scope x) (hd:(x == ("__debug__" : Str))=false:=by decide) (hcd:(x == ("__classdict__" : Str))=false:=by decide):PE X (.Name x pos) (tVar i):=by
 intro pins s σ H Q I h
 obtain ⟨v,e,h⟩:=h
 obtain ⟨m,hn,hl⟩:=I.loc
 obtain ⟨u,r,l⟩:=hl i x v hN e hv
 have fin:EP X pins σ Q u s:=⟨v,H,I,r,h⟩
 rcases l with ⟨hk,hm⟩ | ⟨hk,c,hc,hcell⟩
 ·exact wpAny_Name (wpAny_loadName_local I.ok.kind hk hn hm fin) hd
 ·rcases hk with hk | hk
  ·exact wpAny_Name (wpAny_loadName_cell I.ok.kind hk hc hcell fin) hd
  ·exact wpAny_Name (wpAny_loadName_free I.ok.kind hk hc hcell fin hcd) hd
theorem pe_int {i j pos}:PE X (.Constant (.int i) j pos) (tC (.int i)):=fun _ _ _ H _ I h=>wpAny_Constant_int ⟨.int i,H,I.tok _,⟨_,rfl⟩,h⟩
theorem pe_bl {b j pos}:PE X (.Constant (.bool b) j pos) (tC (.bl b)):=fun _ _ _ H _ I h=>Constant_bool ⟨.bl b,H,I,rfl,h⟩
theorem pe_non {j pos}:PE X (.Constant .none j pos) (tC .non):=fun _ _ _ H _ I h=>Constant_none ⟨.non,H,I,rfl,h⟩
theorem pe_str {x j pos}:PE X (.Constant (.str x) j pos) (tC (.str x)):=fun _ _ _ H _ I h=>Calls.Constant_str ⟨.str x,H,I.tok _,⟨_,rfl⟩,h⟩
def Gl (X:Cx) (x:Str):Prop:=X.env.kindOf x=some .globalImplicit
theorem ld_glob {E:Value→Shared→Prop}{pins:List (Addr × Obj)}{s:Shared}{σ:St}{H:Hp}{x:Str}{u:Value}{pos:Pos}{Q:Value→Shared→Prop} (I:Inv X pins σ H s) (hg:Gl X x) (hm:X.mg x=some u) (h:Q u s)
  (hd:(x == ("__debug__" : Str))=false:=by decide):wpAny (model X.prog X.w) X.A (eval (.Name x pos) X.env) Q E s :=
 Calls.Name_function_global I.ok.kind hg (Calls.loadGlobal_global (by rw [I.ok.glob];exact I.mod.glob.keeps I.bk) hm h) hd
theorem ld_blt {E:Value→Shared→Prop}{pins:List (Addr × Obj)}{s:Shared}{σ:St}{H:Hp}{x:Str}{u:Value}{pos:Pos}{Q:Value→Shared→Prop} (I:Inv X pins σ H s) (hg:Gl X x) (hm:X.mg x=none) (hv:bootBuiltins x=some u) (h:Q u s)
  (hn:x ≠ "__name__":=by decide) (hd:(x == ("__debug__" : Str))=false:=by decide):wpAny (model X.prog X.w) X.A (eval (.Name x pos) X.env) Q E s:=by
 obtain ⟨mb,h1,h2⟩:=I.mod.blt
 exact Calls.Name_function_global I.ok.kind hg (Calls.loadGlobal_builtin (by rw [I.ok.glob];exact I.mod.glob.keeps I.bk) hm (by rw [I.ok.blt];exact h1.keeps I.bk) ((h2 x hn).trans hv) h) hd
theorem pe_glob {x:Str}{v:V}{u:Value}{pos:Pos} (hg:Gl X x) (hm:X.mg x=some u) (r:RelV v u) (hd:(x == ("__debug__" : Str))=false:=by decide):PE X (.Name x pos) (tC v) :=
 fun _ _ _ H _ I h=>ld_glob I hg hm ⟨v,H,I,r,h⟩ hd
theorem pe_bltn {x:Str}{v:V}{u:Value}{pos:Pos} (hg:Gl X x) (hm:X.mg x=none) (hv:bootBuiltins x=some u) (r:RelV v u) (hn:x ≠ "__name__":=by decide) (hd:(x == ("__debug__" : Str))=false:=by decide):PE X (.Name x pos) (tC v) :=
 fun _ _ _ H _ I h=>ld_blt I hg hm hv ⟨v,H,I,r,h⟩ hn hd
variable {a b:Expr}{ta tb:TE}{pos:Pos}
def PC (X:Cx) (op:CmpOp) (a b:Expr) (t:TE):Prop :=
 ∀ (pins:List (Addr × Obj)) (s:Shared) (σ:St) (H:Hp) (Q:VK),Inv X pins σ H s→t σ H Q →
  wpAny (model X.prog X.w) X.A (eval a X.env) (fun v s₁=>wpAny (model X.prog X.w) X.A (eval b X.env) (fun u s₂=>wpAny (model X.prog X.w) X.A (compareOp op v u) (EP X pins σ Q) X.xe s₂) X.xe s₁) X.xe s
theorem nobehind (b:Expr) {op:CmpOp} (h:op≠.In) (h2:op≠.NotIn):behindInMarks op b=false:=by
 have e1:(op == CmpOp.In)=false:=by cases op <;> first | rfl | exact absurd rfl h
 have e2:(op == CmpOp.NotIn)=false:=by cases op <;> first | rfl | exact absurd rfl h2
 cases b <;> simp [behindInMarks,e1,e2]
def tB (t:TE):TT:=fun σ H Q=>t σ H fun x H1=>∃ c,x=.bl c∧Q c H1
theorem pt_cmp {op:CmpOp}{t:TE} (h:PC X op a b t) (h1:behindInMarks op b=false:=by first | exact nobehind _ (by decide) (by decide) | rfl):PT X (.Compare a [op] [b] pos) (tB t):=by
 intro pins s σ H Q I hw
 refine wpAny_isTrue_Compare1 (thn (h pins s σ H _ I hw) fun v s1 h1=>thn h1 fun u s2 h2=>thn h2 fun c s3 ⟨x,H1,I1,r1,q1⟩=>?_) h1
 obtain ⟨d,rfl,q⟩:=q1
 cases r1
 exact wpAny_truthy_bool ⟨H1,I1,q⟩
variable {tA tB':TT}{rest:List Expr}
def tAnd (t u:TT):TT:=fun σ H Q=>t σ H fun c H1=>if c=true then u σ H1 Q else Q false H1
def tOr (t u:TT):TT:=fun σ H Q=>t σ H fun c H1=>if c=true then Q true H1 else u σ H1 Q
def tNot (t:TT):TT:=fun σ H Q=>t σ H fun c H1=>Q (!c) H1
theorem pw_and1 (ha:PT X a tA):PW X (.BoolOp .And [a] pos) tA:=by
 intro wh pins s σ H Q I h
 refine isTrue_and (thn (ha pins s σ H Q I h) fun c s1 e=>?_)
 cases c with
 | true=>exact isTrue_and_nil e
 | false=>exact e
theorem pw_or1 (ha:PT X a tA):PW X (.BoolOp .Or [a] pos) tA:=by
 intro wh pins s σ H Q I h
 refine isTrue_or (thn (ha pins s σ H Q I h) fun c s1 e=>?_)
 cases c with
 | false=>exact isTrue_or_nil e
 | true=>exact e
theorem pw_and (ha:PT X a tA) (hb:PW X (.BoolOp .And (b :: rest) pos) tB'):PW X (.BoolOp .And (a :: b :: rest) pos) (tAnd tA tB'):=by
 intro wh pins s σ H Q I h
 refine isTrue_and (thn (ha pins s σ H _ I h) fun c s1 ⟨H1,I1,q1⟩=>?_)
 cases c with
 | true=>exact hb wh pins s1 σ H1 Q I1 q1
 | false=>exact ⟨H1,I1,q1⟩
theorem pw_or (ha:PT X a tA) (hb:PW X (.BoolOp .Or (b :: rest) pos) tB'):PW X (.BoolOp .Or (a :: b :: rest) pos) (tOr tA tB'):=by
 intro wh pins s σ H Q I h
 refine isTrue_or (thn (ha pins s σ H _ I h) fun c s1 ⟨H1,I1,q1⟩=>?_)
 cases c with
 | true=>exact ⟨H1,I1,q1⟩
 | false=>exact hb wh pins s1 σ H1 Q I1 q1
theorem pt_not (ha:PT X a tA):PT X (.UnaryOp .Not a pos) (tNot tA):=by
 intro pins s σ H Q I h
 exact isTrue_not (ha pins s σ H (fun c H1=>Q (!c) H1) I h)
def tAndV (ta tb:TE):TE:=fun σ H Q=>ta σ H fun x H1=>∃ c,x=.bl c∧if c=true then tb σ H1 Q else Q (.bl false) H1
def tNotV (ta:TE):TE:=fun σ H Q=>ta σ H fun x H1=>∃ c,x=.bl c∧Q (.bl (!c)) H1
theorem pe_one {op}{t:TE} (h:PE X a t):PE X (.BoolOp op [a] pos) t:=fun pins s σ H Q I hw=>BoolOp_one (h pins s σ H Q I hw)
theorem pe_and (ha:PE X a ta) (hb:PE X (.BoolOp .And (b :: rest) pos) tb):PE X (.BoolOp .And (a :: b :: rest) pos) (tAndV ta tb):=by
 intro pins s σ H Q I h
 refine BoolOp_and (thn (ha pins s σ H _ I h) fun v s1 ⟨x,H1,I1,r1,q1⟩=>?_)
 obtain ⟨c,rfl,q1⟩:=q1
 cases r1
 refine wpAny_truthy_bool ?_
 cases c with
 | true=>exact hb pins s1 σ H1 Q I1 q1
 | false=>exact ⟨.bl false,H1,I1,rfl,q1⟩
theorem pe_not (ha:PE X a ta):PE X (.UnaryOp .Not a pos) (tNotV ta):=by
 intro pins s σ H Q I h
 refine UnaryOp_ (thn (ha pins s σ H _ I h) fun v s1 ⟨x,H1,I1,r1,q1⟩=>?_)
 obtain ⟨c,rfl,q1⟩:=q1
 cases r1
 exact not_of (wpAny_truthy_bool ⟨.bl (!c),H1,I1,rfl,q1⟩)
def tIf (t:TT) (ta tb:TE):TE:=fun σ H Q=>t σ H fun c H1=>if c=true then ta σ H1 Q else tb σ H1 Q
theorem pe_ifExp {c:Expr} (hc:PT X c tA) (ha:PE X a ta) (hb:PE X b tb):PE X (.IfExp c a b pos) (tIf tA ta tb):=by
 intro pins s σ H Q I h
 refine wpAny_IfExp (thn (hc pins s σ H _ I h) fun d s1 ⟨H1,I1,q1⟩=>?_)
 cases d with
 | true=>exact ha pins s1 σ H1 Q I1 q1
 | false=>exact hb pins s1 σ H1 Q I1 q1
end
def SqL (K:PySem.W.Frag) (H:Hp) (a:Addr) (xs:List V):Prop :=
 Rd H a (.lst xs) ∨
  ∃ (o:Obj) (its:Array Value) (n:Nat),K.lookup a=some o∧o.cls=.type "list" ∧ o.dict=none∧o.data=.seq its n∧its.size≤sizeLine∧Vals xs its.toList
def SqT (K:PySem.W.Frag) (H:Hp) (a:Addr) (xs:List V):Prop :=
 Rd H a (.tup xs) ∨
  ∃ (o:Obj) (its:Array Value) (n:Nat),K.lookup a=some o∧o.cls=.type "tuple" ∧ o.data=.seq its n∧its.size≤sizeLine∧Vals xs its.toList
def absV:Value→Option V
 | .none=>some .non
 | .bool b=>some (.bl b)
 | .int i _=>some (.int i)
 | .str x _=>some (.str x)
 | .bytes b _=>some (.byt b)
 | .float b _=>some (.flt b)
 | .ref a=>some (.ref a)
 | .type n=>some (.ty n)
 | _=>none
theorem RelV.abs {x:V}{u:Value} (r:RelV x u):absV u=some x:=by
 cases x with
 | non=>cases r;rfl
 | bl _=>cases r;rfl
 | int _=>obtain ⟨t,rfl⟩:=r;rfl
 | str _=>obtain ⟨t,rfl⟩:=r;rfl
 | byt _=>obtain ⟨t,rfl⟩:=r;rfl
 | flt _=>obtain ⟨t,rfl⟩:=r;rfl
 | ref _=>cases r;rfl
 | ty _=>cases r;rfl
theorem RelV.inj {x y:V}{u:Value} (r:RelV x u) (q:RelV y u):x=y:=Option.some.inj (r.abs.symm.trans q.abs)
theorem Vals.inj:∀ {xs ys:List V}{us:List Value},Vals xs us→Vals ys us→xs=ys
 | _,_,_,.nil,.nil=>rfl
 | _,_,_,.cons r t,.cons r' t'=>by rw [r.inj r',Vals.inj t t']
section
variable {X:Cx}{pins:List (Addr × Obj)}{σ:St}{H:Hp}{s:Shared}{a:Addr}{xs ys:List V}
theorem SqL.of {K:PySem.W.Frag} (h:H a=some (.lst xs)):SqL K H a xs:=.inl (.inl h)
theorem SqT.of {K:PySem.W.Frag} (h:H a=some (.tup xs)):SqT K H a xs:=.inl (.inl h)
theorem Inv.list (I:Inv X pins σ H s) (h:SqL X.K H a xs):∃ its:List Value,Vals xs its∧PlainL s.heap a its.toArray∧xs.length≤sizeLine:=by
 rcases h with h | ⟨o,its,n,hk,hc,hd,hs,hz,r⟩
 ·obtain ⟨z,its,n,r,e⟩:=h.ok I.hok
  exact ⟨its,r,⟨_,n,e,rfl,rfl,rfl⟩,z⟩
 ·refine ⟨its.toList,r,⟨o,n,I.kIn a o hk,hc,hd,by simpa using hs⟩,?_⟩
  have e:=r.length
  simp only [Array.length_toList] at e
  omega
theorem Inv.tuple (I:Inv X pins σ H s) (h:SqT X.K H a xs):∃ its:List Value,Vals xs its∧IsTup s.heap a its.toArray∧xs.length≤sizeLine:=by
 rcases h with h | ⟨o,its,n,hk,hc,hs,hz,r⟩
 ·obtain ⟨z,its,r,p⟩:=h.ok I.hok
  exact ⟨its,r,p,z⟩
 ·refine ⟨its.toList,r,⟨o,I.kIn a o hk,hc,n,by simpa using hs⟩,?_⟩
  have e:=r.length
  simp only [Array.length_toList] at e
  omega
theorem Inv.list_inj (I:Inv X pins σ H s) (h:SqL X.K H a xs) (h':SqL X.K H a ys):xs=ys:=by
 obtain ⟨its,r,⟨o,n,e,_,_,d⟩,_⟩:=I.list h
 obtain ⟨its',r',⟨o',n',e',_,_,d'⟩,_⟩:=I.list h'
 rw [e] at e';cases e'
 rw [d] at d'
 injection d' with d1 _
 have:its=its':=by simpa using congrArg Array.toList d1
 subst this
 exact r.inj r'
theorem Inv.tuple_inj (I:Inv X pins σ H s) (h:SqT X.K H a xs) (h':SqT X.K H a ys):xs=ys:=by
 obtain ⟨its,r,⟨o,e,_,n,d⟩,_⟩:=I.tuple h
 obtain ⟨its',r',⟨o',e',_,n',d'⟩,_⟩:=I.tuple h'
 rw [e] at e';cases e'
 rw [d] at d'
 injection d' with d1 _
 have:its=its':=by simpa using congrArg Array.toList d1
 subst this
 exact r.inj r'
end
abbrev Cx.wish (X:Cx) (E:Value→Shared→Prop):Cx:={ X with xe:=E }
abbrev Cx.nox (X:Cx):Cx:=X.wish fun _ _=>False
theorem Cx.Ok.wish {X:Cx} (ok:X.Ok) (E:Value→Shared→Prop):(X.wish E).Ok :=
 ⟨ok.mod,ok.kind,ok.glob,ok.blt,ok.above,ok.inj,ok.has,ok.cab,ok.hd,ok.frames,ok.stk,ok.exf,ok.bs,ok.bsz,ok.noex,ok.exfs,ok.funs,ok.frf⟩
theorem Cx.Ok.unwish {X:Cx}{E:Value→Shared→Prop} (ok:(X.wish E).Ok):X.Ok :=
 ⟨ok.mod,ok.kind,ok.glob,ok.blt,ok.above,ok.inj,ok.has,ok.cab,ok.hd,ok.frames,ok.stk,ok.exf,ok.bs,ok.bsz,ok.noex,ok.exfs,ok.funs,ok.frf⟩
section
variable {X:Cx}{pins:List (Addr × Obj)}{σ:St}{H:Hp}{s:Shared}{E:Value→Shared→Prop}
theorem Inv.wish (I:Inv X pins σ H s) (E:Value→Shared→Prop):Inv (X.wish E) pins σ H s:=⟨I.ok.wish E,I.os,I.bare,I.base,I.loc,I.cell,I.free,I.freeC,I.pin,I.hok,I.len⟩
theorem Inv.unwish (I:Inv (X.wish E) pins σ H s):Inv X pins σ H s:=⟨I.ok.unwish,I.os,I.bare,I.base,I.loc,I.cell,I.free,I.freeC,I.pin,I.hok,I.len⟩
theorem SP.unwish {D:Ends}{f:Flow}{s':Shared} (h:SP (X.wish E) pins D f s'):SP X pins D f s':=by
 cases f with
 | next=>obtain ⟨σ',H',I,q⟩:=h;exact ⟨σ',H',I.unwish,q⟩
 | brk=>obtain ⟨σ',H',I,q⟩:=h;exact ⟨σ',H',I.unwish,q⟩
 | cont=>obtain ⟨σ',H',I,q⟩:=h;exact ⟨σ',H',I.unwish,q⟩
 | ret u=>obtain ⟨v,σ',H',I,r,q⟩:=h;exact ⟨v,σ',H',I.unwish,r,q⟩
theorem PSs.nox {st:List Stmt}{t:TS} (h:PSs X.nox st t):PSs X st t:=fun pins s σ H D I hw =>
 wpAny_mono (h pins s σ H D (I.wish _) hw) (fun _ _ q=>q.unwish) fun _ _ z=>False.elim z
end
section
variable {X:Cx}{st:Stmt}{rest:List Stmt}{t u:TS}{e:Expr}{te:TE}{pos:Pos}
def tNext:TS:=fun D σ H=>D.nx σ H
def tSeq (t u:TS):TS:=fun D σ H=>t { D with nx:=u D } σ H
theorem pss_nil:PSs X [] tNext:=fun _ _ σ H _ I h=>wpAny_execs_nil ⟨σ,H,I,h⟩
theorem pss_cons (h1:PS X st t) (h2:PSs X rest u):PSs X (st :: rest) (tSeq t u):=by
 intro pins s σ H D I h
 refine wpAny_execs_cons (thn (h1 pins s σ H { D with nx:=u D } I h) fun f s1 q=>?_)
 cases f with
 | next =>
  obtain ⟨σ',H',I',q⟩:=q
  exact h2 pins s1 σ' H' D I' q
 | ret v=>exact q
 | brk=>exact q
 | cont=>exact q
theorem pss_one (h1:PS X st t):PSs X [st] t:=by
 intro pins s σ H D I h
 refine wpAny_execs_cons (thn (h1 pins s σ H D I h) fun f s1 q=>?_)
 cases f with
 | next=>exact wpAny_execs_nil q
 | ret v=>exact q
 | brk=>exact q
 | cont=>exact q
theorem Inv.quiet {pins:List (Addr × Obj)}{σ:St}{H:Hp}{s:Shared} (I:Inv X pins σ H s):interactive X.env=false:=by simp [interactive,I.ok.kind]
def tDrop (te:TE):TS:=fun D σ H=>te σ H fun _ H1=>D.nx σ H1
theorem ps_expr (he:PE X e te) (hs:swapsWith e none pos.line X.env=pure false:=by rfl):PS X (.Expr e pos) (tDrop te):=by
 intro pins s σ H D I h
 exact wpAny_Expr_any (thn (he pins s σ H _ I h) fun v s1 ⟨x,H1,I1,r1,q1⟩=>⟨σ,H1,I1,q1⟩) I.quiet hs
def tRet (te:TE):TS:=fun D σ H=>te σ H D.rt
theorem ps_ret (he:PE X e te):PS X (.Return (some e) pos) (tRet te):=by
 intro pins s σ H D I h
 exact wpAny_Return_some (thn (he pins s σ H _ I h) fun v s1 ⟨x,H1,I1,r1,q1⟩=>⟨x,σ,H1,I1,r1,q1⟩)
def tRetN:TS:=fun D _ H=>D.rt .non H
theorem ps_retN:PS X (.Return none pos) tRetN:=fun _ _ σ H _ I h=>wpAny_Return_none ⟨.non,σ,H,I,rfl,h⟩
def tIfS (c:TT) (t u:TS):TS:=fun D σ H=>c σ H fun b H1=>if b=true then t D σ H1 else u D σ H1
theorem ps_if {c:Expr}{a b:List Stmt}{tc:TT} (hc:PT X c tc) (ha:PSs X a t) (hb:PSs X b u):PS X (.If c a b pos) (tIfS tc t u):=by
 intro pins s σ H D I h
 refine wpAny_If (thn (hc pins s σ H _ I h) fun d s1 ⟨H1,I1,q1⟩=>?_)
 cases d with
 | true=>exact ha pins s1 σ H1 D I1 q1
 | false=>exact hb pins s1 σ H1 D I1 q1
end
abbrev TG:=V→St→Hp→(St→Hp→Prop)→Prop
abbrev TGs:=List V→St→Hp→(St→Hp→Prop)→Prop
def PG (X:Cx) (target:Expr) (t:TG):Prop :=
 ∀ (pins:List (Addr × Obj)) (s:Shared) (σ:St) (H:Hp) (v:V) (u:Value) (Q:St→Hp→Prop),Inv X pins σ H s→RelV v u→t v σ H Q →
  wpAny (model X.prog X.w) X.A (assign target X.env u) (fun _ s'=>∃ σ' H',Inv X pins σ' H' s'∧Q σ' H') X.xe s
def PGs (X:Cx) (ts:List Expr) (t:TGs):Prop :=
 ∀ (pins:List (Addr × Obj)) (s:Shared) (σ:St) (H:Hp) (vs:List V) (us:List Value) (Q:St→Hp→Prop),Inv X pins σ H s→Vals vs us→t vs σ H Q →
  wpAny (model X.prog X.w) X.A (assignInOrder ((assignEach ts X.env).map (·.2)) us) (fun _ s'=>∃ σ' H',Inv X pins σ' H' s'∧Q σ' H') X.xe s
abbrev TSet:=V→V→V→Hp→(Hp→Prop)→Prop
def PSet (X:Cx) (t:TSet):Prop :=
 ∀ (pins:List (Addr × Obj)) (s:Shared) (σ:St) (H:Hp) (o i v:V) (ov iv u:Value) (Q:Hp→Prop),Inv X pins σ H s→RelV o ov→RelV i iv→RelV v u→t o i v H Q →
  wpAny (model X.prog X.w) X.A (setItem ov iv u) (fun _ s'=>∃ H',Inv X pins σ H' s'∧Q H') X.xe s
abbrev TIp:=V→V→Hp→VK→Prop
def PIp (X:Cx) (op:Operator) (t:TIp):Prop :=
 ∀ (pins:List (Addr × Obj)) (s:Shared) (σ:St) (H:Hp) (x y:V) (v u:Value) (Q:VK),Inv X pins σ H s→RelV x v→RelV y u→t x y H Q →
  wpAny (model X.prog X.w) X.A (inplaceOp op v u) (EP X pins σ Q) X.xe s
section
variable {X:Cx}{pos:Pos}
def gName (i:Nat):TG:=fun v σ H Q=>Q (σ.set i (some v)) H
theorem pg_name {i:Nat}{x:Str} (hN:X.N.Nodup) (hi:X.N[i]? = some x) (hx:Loc X.env.scope x) (hf:X.fn x=true∨X.env.scope.names.lookup x=some .local:=by first | exact .inl rfl | exact .inr rfl | assumption):PG X (.Name x pos) (gName i):=by
 intro pins s σ H v u Q I r h
 exact wpAny_assign_Name (store_ok I hN hi hx r (fun s' I'=>⟨_,H,I',h⟩) hf)
def gNil:TGs:=fun vs σ H Q=>vs=[]∧Q σ H
def gCons (t:TG) (u:TGs):TGs:=fun vs σ H Q=>∃ v r,vs=v :: r∧t v σ H fun σ' H'=>u r σ' H' Q
theorem pgs_nil:PGs X [] gNil:=by
 intro pins s σ H vs us Q I r h
 obtain ⟨e,h⟩:=h
 subst e
 cases r
 exact assignInOrder_nil ⟨σ,H,I,h⟩
theorem pgs_cons {e:Expr}{es:List Expr}{t:TG}{u:TGs} (h1:PG X e t) (h2:PGs X es u)
  (hs:(assignEach (e :: es) X.env).map (·.2)=assign e X.env :: (assignEach es X.env).map (·.2):=by rfl):PGs X (e :: es) (gCons t u):=by
 intro pins s σ H vs us Q I r h
 obtain ⟨v,vr,e1,h⟩:=h
 subst e1
 cases r with
 | cons r rr =>
  rw [hs]
  refine assignInOrder_cons (thn (h1 pins s σ H _ _ _ I r h) fun _ s1 ⟨σ1,H1,I1,q1⟩=>?_)
  exact h2 pins s1 σ1 H1 _ _ Q I1 rr q1
def gTup (K:PySem.W.Frag) (n:Nat) (t:TGs):TG:=fun v σ H Q=>∃ a xs,v=.ref a∧SqT K H a xs∧xs.length=n∧t xs σ H Q
theorem pg_tup {es:List Expr}{k:Nat}{t:TGs}{n:Nat} (hc:X.calm=true) (h:PGs X es t)
  (hn:(assignEach es X.env).length=n:=by rfl) (hst:(assignEach es X.env).findIdx? (·.1)=none:=by rfl):PG X (.Tuple es k pos) (gTup X.K n t):=by
 intro pins s σ H v u Q I r hw
 obtain ⟨a,xs,e1,hq,hl,hw⟩:=hw
 subst e1
 cases r
 obtain ⟨its,rv,ht,hz⟩:=I.tuple hq
 refine assign_Tuple_tuple (I.ok.hd hc) ht (by simp [hn,← hl,rv.length]) hst fun h' hx=>?_
 have I1:Inv X pins σ H { s with heap:=h' }:=I.kept (t':=s.toks) fun b o e=>hx b o (Nat.ne_of_lt (Heap.lt_size e)) e
 exact h pins _ σ H xs _ Q I1 (by simpa using rv) hw
def gSub (to ti:TE) (t:TSet):TG:=fun v σ H Q=>to σ H fun o H1=>ti σ H1 fun i H2=>t o i v H2 fun H3=>Q σ H3
theorem pg_sub {o i:Expr}{to ti:TE}{t:TSet} (ho:PE X o to) (hi:PE X i ti) (hs:PSet X t)
  (ha:∀ v,assign (.Subscript o i pos) X.env v=(do
   let ov ← holding [v] (eval o X.env)
   let iv ← holding [v,ov] (eval i X.env)
   standAt pos
   holding [v,ov,iv] (setItem ov iv v)
   release [v,ov,iv] []):=by intro _;rfl):PG X (.Subscript o i pos) (gSub to ti t):=by
 intro pins s σ H v u Q I r h
 rw [ha]
 refine wpAny_bind (wpAny_holding (thn (ho pins s σ H _ I h) fun ov s1 ⟨x,H1,I1,r1,q1⟩=>?_))
 refine wpAny_bind (wpAny_holding (thn (hi pins s1 σ H1 _ I1 q1) fun iv s2 ⟨y,H2,I2,r2,q2⟩=>?_))
 refine wpAny_bind (wpAny_standAt (wpAny_bind (wpAny_holding (thn (hs pins s2 σ H2 x y v ov iv u _ I2 r1 r2 r q2) fun _ s3 ⟨H3,I3,q3⟩=>?_))))
 exact wpAny_release ⟨σ,H3,I3,q3⟩
def tAsg (te:TE) (g:TG):TS:=fun D σ H=>te σ H fun x H1=>g x σ H1 D.nx
theorem ps_asg {tg e:Expr}{te:TE}{g:TG} (he:PE X e te) (hg:PG X tg g) (hs:swapsWithSole [tg] e pos.line X.env=pure false:=by rfl) (hw:swappedStores [tg] e X.env=pure none:=by rfl)
  (h1:(assignEach [tg] X.env).map (·.2)=[assign tg X.env]:=by rfl):PS X (.Assign [tg] e pos) (tAsg te g):=by
 intro pins s σ H D I h
 refine wpAny_Assign_stores (thn (he pins s σ H _ I h) fun v s1 ⟨x,H1,I1,r1,q1⟩=>?_) hs hw
 rw [h1]
 exact thn (hg pins s1 σ H1 x v _ I1 r1 q1) fun _ s2 q=>q
theorem ps_set {i:Nat}{x:Str}{e:Expr}{te:TE}{pos':Pos} (hN:X.N.Nodup) (hi:X.N[i]? = some x) (hx:Loc X.env.scope x) (he:PE X e te) (hs:swapsWith e (some (.Name x pos')) pos.line X.env=pure false:=by rfl) (hf:X.fn x=true∨X.env.scope.names.lookup x=some .local:=by first | exact .inl rfl | exact .inr rfl | assumption) :
  PS X (.Assign [.Name x pos'] e pos) (tAsg te (gName i)):=by
 intro pins s σ H D I h
 refine wpAny_Assign_Name (thn (he pins s σ H _ I h) fun v s1 ⟨y,H1,I1,r1,q1⟩=>?_) hs
 exact store_ok I1 hN hi hx r1 (fun s2 I2=>⟨_,H1,I2,q1⟩) hf
end
section
variable {X:Cx}{pos:Pos}
def tWhile (c:TT) (tb:TS):TS:=fun D σ H=>∃ W:Nat→St→Hp→Prop,(∃ m,W m σ H)∧∀ m σ H,W m σ H →
 c σ H fun b H1=>if b=true then ∃ N:St→Hp→Prop,(∀ σ' H',N σ' H'→∃ m',m'<m∧W m' σ' H')∧tb { D with nx:=N,ct:=N,bk:=D.nx } σ H1 else D.nx σ H1
theorem ps_while {c:Expr}{body:List Stmt}{tc:TT}{tb:TS} (hp:PassesOwn (model X.prog X.w) X.A X.env X.xe) (hc:PT X c tc) (hb:PSs X body tb):PS X (.While c body [] pos) (tWhile tc tb):=by
 intro pins s σ H D I h
 obtain ⟨W,⟨m0,w0⟩,turn⟩:=h
 refine wpAny_While (codeAny_whileLoop (fun n s'=>∃ σ' H',Inv X pins σ' H' s'∧W n σ' H') ?_ m0 ⟨σ,H,I,w0⟩)
 rintro n s1 ⟨σ1,H1,I1,w1⟩
 refine wpAny_passesOwn hp (thn (hc pins s1 σ1 H1 _ I1 (turn n σ1 H1 w1)) fun b s2 ⟨H2,I2,q2⟩=>?_)
 cases b with
 | true =>
  obtain ⟨N,hN,q2⟩:=q2
  rw [if_pos rfl]
  refine wpAny_passesOwn hp (thn (hb pins s2 σ1 H2 _ I2 q2) fun f s3 q3=>?_)
  cases f with
  | next =>
   obtain ⟨σ3,H3,I3,n3⟩:=q3
   obtain ⟨m',hm,w3⟩:=hN σ3 H3 n3
   exact ⟨m',hm,σ3,H3,I3,w3⟩
  | cont =>
   obtain ⟨σ3,H3,I3,n3⟩:=q3
   obtain ⟨m',hm,w3⟩:=hN σ3 H3 n3
   exact ⟨m',hm,σ3,H3,I3,w3⟩
  | brk=>exact q3
  | ret v=>exact q3
 | false =>
  rw [if_neg Bool.false_ne_true]
  exact wpAny_execs_nil ⟨σ1,H2,I2,q2⟩
end
structure It where
 go:Nat→Hp→Prop
 yld:Nat→Hp→V→Hp→Prop
 stop:Nat→Hp→Prop
def FpOk (X:Cx) (pins:List (Addr × Obj)) (H:Hp) (b:Addr):Prop :=
 H b=none∧b≠X.env.locals∧b ∉ X.fs∧(b∈X.ex∨X.s₀.heap.objs.size≤b)∧(∀ x c,X.env.cells.lookup x=some c→c≠b)∧∀ p∈X.pn ++ pins,p.1≠b
theorem Inv.fpOk {X:Cx}{pins:List (Addr × Obj)}{σ:St}{H H':Hp}{s:Shared}{b:Addr} (I:Inv X pins σ H s) (hb:s.heap.objs.size≤b) (hn:H' b=none):FpOk X pins H' b:=by
 refine ⟨hn,Nat.ne_of_gt (Nat.lt_of_lt_of_le I.lt hb),I.nofs hb,.inr (Nat.le_trans I.sz hb),fun x c e z=>?_,fun p hp z=>?_⟩
 ·obtain ⟨v,q⟩:=I.cell x c e
  exact absurd (Nat.lt_of_lt_of_le q.lt (by rw [z];exact hb)) (Nat.lt_irrefl _)
 ·exact absurd (Nat.lt_of_lt_of_le (Heap.lt_size (I.pin p hp).1) (by rw [z];exact hb)) (Nat.lt_irrefl _)
structure Turn (P:Program) (w:World) (K:PySem.W.Frag) (tg:Expr) (J:It) (fp:List Addr) (it:Addr) (tn:Nat→Heap→Prop):Prop where
 mem:it∈fp
 obj:∀ i h,tn i h→∀ b∈fp,∃ o,h.get? b=some o∧∀ v,o.data≠.cell v
 keep:∀ i h h',tn i h→(∀ b∈fp,∀ o,h.get? b=some o→h'.get? b=some o)→tn i h'
 item:∀ (X:Cx),X.prog=P→X.w=w→X.K=K→X.calm=true→∀ (i:Nat) (pins:List (Addr × Obj)) (s:Shared) (σ:St) (H:Hp) (E:Value→Shared→Prop),Inv X pins σ H s→(∀ b∈fp,FpOk X pins H b)→tn i s.heap→J.go i H →
  wpAny (model P w) X.A (pyNext (.ref it)) (fun r s1=>∃ u,r=some u ∧
   wpAny (model P w) X.A (letOwnedTupleGo tg (.ref it) u) (fun _ s2=>∃ x H',Inv X pins σ H' s2∧RelV x u∧J.yld i H x H'∧tn (i+1) s2.heap∧∀ b∈fp,H' b=none) E s1) E s
 done:∀ (X:Cx),X.prog=P→X.w=w→X.K=K→X.calm=true→∀ (i:Nat) (pins:List (Addr × Obj)) (s:Shared) (σ:St) (H:Hp) (E:Value→Shared→Prop),Inv X pins σ H s→(∀ b∈fp,FpOk X pins H b)→tn i s.heap→J.stop i H →
  wpAny (model P w) X.A (pyNext (.ref it)) (fun r s1=>r=none∧Inv X pins σ H s1) E s
 self:∀ (A:Around) (i:Nat) (s:Shared) (Q:Value→Shared→Prop) (E:Value→Shared→Prop),tn i s.heap→Q (.ref it) s→wpAny (model P w) A (pyIter (.ref it)) Q E s
abbrev TI:=St→Hp→(It→Hp→Prop)→Prop
def PIE (X:Cx) (pins:List (Addr × Obj)) (σ:St) (tg:Expr) (R:It→Hp→Prop) (itv:Value) (s2:Shared):Prop :=
 ∃ (it:Addr) (fp:List Addr) (tn:Nat→Heap→Prop) (J:It) (H':Hp),itv=.ref it∧Inv X pins σ H' s2∧Turn X.prog X.w X.K tg J fp it tn∧tn 0 s2.heap∧(∀ b∈fp,FpOk X pins H' b)∧R J H'
def PI (X:Cx) (tg iter:Expr) (wi:TI):Prop :=
 ∀ (pins:List (Addr × Obj)) (s:Shared) (σ:St) (H:Hp) (R:It→Hp→Prop),Inv X pins σ H s→wi σ H R →
  wpAny (model X.prog X.w) X.A (eval iter X.env) (fun v s1=>wpAny (model X.prog X.w) X.A (pyIter v) (PIE X pins σ tg R) X.xe s1) X.xe s
theorem go_of {M:Model}{A:Around}{E:Value→Shared→Prop}{s:Shared}{tg:Expr}{it:Addr}{u:Value}{o:Obj}{n:String}{vs:Array Value}{Q:Unit→Shared→Prop} (ho:s.heap.get? it=some o) (hc:o.cls=.type n) (hd:o.data=.fields vs)
    (hn:["enumerate","zip","dict_itemiterator","dict_reverseitemiterator","odict_iterator","itertools.zip_longest","itertools.pairwise"].contains n=false) (hQ:Q () s):wpAny M A (letOwnedTupleGo tg (.ref it) u) Q E s:=by
  unfold letOwnedTupleGo
  cases tg <;> first
    | exact wpAny_pure hQ
    | (cases u <;> first
        | exact wpAny_pure hQ
        | (refine wpAny_bind (wpAny_load ho ?_)
           rw [hc,hd]
           show wpAny M A (if (["enumerate","zip","dict_itemiterator","dict_reverseitemiterator","odict_iterator","itertools.zip_longest","itertools.pairwise"].contains n && vs[0]? == some (rawInt _))=true then _ else _) Q E s
           rw [if_neg (by intro h;rw [hn,Bool.false_and] at h;cases h)]
           exact wpAny_pure hQ))
def Itl (K:PySem.W.Frag) (a:Addr):It :=
 ⟨fun i H=>∃ xs x,SqL K H a xs∧xs[i]? = some x,fun i H x H'=>H'=H∧∀ xs,SqL K H a xs→xs[i]? = some x,fun i H=>∃ xs,SqL K H a xs∧xs.length≤i⟩
def Itt (K:PySem.W.Frag) (a:Addr):It :=
 ⟨fun i H=>∃ xs x,SqT K H a xs∧xs[i]? = some x,fun i H x H'=>H'=H∧∀ xs,SqT K H a xs→xs[i]? = some x,fun i H=>∃ xs,SqT K H a xs∧xs.length≤i⟩
def Itr (lo:Int) (n:Nat):It:=⟨fun i _=>i<n,fun i H x H'=>H'=H∧x=.int (lo+i),fun i _=>n≤i⟩
theorem turn_list {P:Program}{w:World}{K:PySem.W.Frag}{tg:Expr} (a it:Addr):Turn P w K tg (Itl K a) [it] it (fun i h=>h.IsListIter it a i) where
 mem:=by simp
 obj:=fun i h st b hb=>by
  have e:b=it:=by simpa using hb
  subst e
  obtain ⟨o,e,c,d⟩:=st
  exact ⟨o,e,fun v z=>by rw [d] at z;cases z⟩
 keep:=fun i h h' st k=>st.at fun o e=>k it (by simp) o e
 item:=by
  intro X hP hw hK hc i pins s σ H E I hf st hg
  subst hP hw hK
  obtain ⟨xs,x,hq,hx⟩:=hg
  obtain ⟨its,rv,p,hz⟩:=I.list hq
  obtain ⟨u,hu,ru⟩:=rv.get hx
  obtain ⟨f0,f1,f2,f3,f4,f5⟩:=hf it (by simp)
  refine wpAny_pyNext_list_item st p.isList (x:=u) (by simpa using hu) fun h' st' sb=>?_
  have I1:Inv X pins σ H { s with heap:=h' }:=I.turned (t':=s.toks) (fun b o hb e=>(sb.2 b hb).trans e) f0 f1 f3 f4 f5
  obtain ⟨o,e,c,d⟩:=id st'
  exact ⟨u,rfl,go_of (s:={ s with heap:=h' }) e c d (by decide) ⟨x,H,I1,ru,⟨rfl,fun ys hy=>by rw [I.list_inj hy hq];exact hx⟩,st',fun b hb=>(hf b hb).1⟩⟩
 done:=by
  intro X hP hw hK hc i pins s σ H E I hf st hg
  subst hP hw hK
  obtain ⟨xs,hq,hx⟩:=hg
  obtain ⟨its,rv,p,hz⟩:=I.list hq
  obtain ⟨f0,f1,f2,f3,f4,f5⟩:=hf it (by simp)
  have hl:=rv.length
  exact wpAny_pyNext_list_end (I.ok.hd hc) st p.isList (by simp;omega) fun h' eb=>⟨rfl,I.turned (t':=s.toks) (fun b o hb e=>eb b o hb e) f0 f1 f3 f4 f5⟩
 self:=fun _ _ _ _ _ st h=>wpAny_pyIter_listiter st h
theorem turn_tuple {P:Program}{w:World}{K:PySem.W.Frag}{tg:Expr} (a it:Addr):Turn P w K tg (Itt K a) [it] it (fun i h=>h.IsTupleIter it a i) where
 mem:=by simp
 obj:=fun i h st b hb=>by
  have e:b=it:=by simpa using hb
  subst e
  obtain ⟨o,e,c,d⟩:=st
  exact ⟨o,e,fun v z=>by rw [d] at z;cases z⟩
 keep:=fun i h h' st k=>st.at fun o e=>k it (by simp) o e
 item:=by
  intro X hP hw hK hc i pins s σ H E I hf st hg
  subst hP hw hK
  obtain ⟨xs,x,hq,hx⟩:=hg
  obtain ⟨its,rv,p,hz⟩:=I.tuple hq
  obtain ⟨u,hu,ru⟩:=rv.get hx
  obtain ⟨f0,f1,f2,f3,f4,f5⟩:=hf it (by simp)
  refine wpAny_pyNext_tuple_item st (show s.heap.IsTuple a its.toArray from p) (x:=u) (by simpa using hu) fun h' st' sb=>?_
  have I1:Inv X pins σ H { s with heap:=h' }:=I.turned (t':=s.toks) (fun b o hb e=>(sb.2 b hb).trans e) f0 f1 f3 f4 f5
  obtain ⟨o,e,c,d⟩:=id st'
  exact ⟨u,rfl,go_of (s:={ s with heap:=h' }) e c d (by decide) ⟨x,H,I1,ru,⟨rfl,fun ys hy=>by rw [I.tuple_inj hy hq];exact hx⟩,st',fun b hb=>(hf b hb).1⟩⟩
 done:=by
  intro X hP hw hK hc i pins s σ H E I hf st hg
  subst hP hw hK
  obtain ⟨xs,hq,hx⟩:=hg
  obtain ⟨its,rv,p,hz⟩:=I.tuple hq
  obtain ⟨f0,f1,f2,f3,f4,f5⟩:=hf it (by simp)
  have hl:=rv.length
  exact wpAny_pyNext_tuple_end (I.ok.hd hc) st (show s.heap.IsTuple a its.toArray from p) (by simp;omega) fun h' eb=>⟨rfl,I.turned (t':=s.toks) (fun b o hb e=>eb b o hb e) f0 f1 f3 f4 f5⟩
 self:=fun _ _ _ _ _ st h=>wpAny_pyIter_tupleiter st h
theorem turn_range {P:Program}{w:World}{K:PySem.W.Frag}{tg:Expr} (it:Addr) (lo:Int) (n:Nat):Turn P w K tg (Itr lo n) [it] it (fun i h=>IsRangeIter h it (lo+(i:Nat) * 1) ((n:Int) - (i:Nat)) 1) where
 mem:=by simp
 obj:=fun i h st b hb=>by
  have e:b=it:=by simpa using hb
  subst e
  exact ⟨_,st,fun v z=>by
   have z':Data.fields _=Data.cell v:=z
   cases z'⟩
 keep:=fun i h h' st k=>k it (by simp) _ st
 item:=by
  intro X hP hw hK hc i pins s σ H E I hf st hg
  subst hP hw hK
  obtain ⟨f0,f1,f2,f3,f4,f5⟩:=hf it (by simp)
  have W:=Walks.range (prog:=X.prog) (w:=X.w) (I.ok.hd hc) it lo 1 n
  refine W.item i s _ _ hg st fun v h' tk hv st' kk=>?_
  obtain ⟨t,rfl⟩:=hv
  have I1:Inv X pins σ H { s with heap:=h',toks:=tk }:=I.turned (fun b o hb e=>kk b o (by simpa using hb) e) f0 f1 f3 f4 f5
  refine ⟨_,rfl,go_of (s:={ s with heap:=h',toks:=tk }) (n:="range_iterator") st' rfl rfl (by decide) ⟨.int (lo+i),H,I1,⟨t,?_⟩,⟨rfl,rfl⟩,st',fun b hb=>(hf b hb).1⟩⟩
  rw [Int.mul_one]
 done:=by
  intro X hP hw hK hc i pins s σ H E I hf st hg
  subst hP hw hK
  obtain ⟨f0,f1,f2,f3,f4,f5⟩:=hf it (by simp)
  exact wpAny_pyNext_range_end (I.ok.hd hc) st (by have:n≤i:=hg;omega) fun h' eb=>⟨rfl,I.turned (t':=s.toks) (fun b o hb e=>eb b o hb e) f0 f1 f3 f4 f5⟩
 self:=fun _ _ _ _ _ st h=>wpAny_pyIter_rangeiter st h
section
variable {X:Cx}{tg:Expr}
def iList (K:PySem.W.Frag) (tl:TE):TI:=fun σ H R=>tl σ H fun x H1=>∃ a,x=.ref a∧(∃ xs,SqL K H1 a xs)∧R (Itl K a) H1
def iTup (K:PySem.W.Frag) (tl:TE):TI:=fun σ H R=>tl σ H fun x H1=>∃ a,x=.ref a∧(∃ xs,SqT K H1 a xs)∧R (Itt K a) H1
theorem pi_list {l:Expr}{tl:TE} (hl:PE X l tl):PI X tg l (iList X.K tl):=by
 intro pins s σ H R I h
 refine thn (hl pins s σ H _ I h) fun v s1 ⟨x,H1,I1,r1,q1⟩=>?_
 obtain ⟨a,e,⟨xs,hq⟩,q⟩:=q1
 subst e
 cases r1
 obtain ⟨its,rv,p,hz⟩:=I1.list hq
 refine wpAny_pyIter_list p.isList ?_
 refine ⟨s1.heap.objs.size,[s1.heap.objs.size],_,_,H1,rfl,I1.kept (t':=s1.toks) fun b o e=>Heap.get?_push_of_some _ e,turn_list a _,⟨_,Heap.get?_push_size _ rfl,rfl,rfl⟩,fun b hb=>?_,q⟩
 have e:b=s1.heap.objs.size:=by simpa using hb
 subst e
 exact I1.fpOk (Nat.le_refl _) (I1.hok.fresh (Nat.le_refl _))
theorem pi_tup {l:Expr}{tl:TE} (hl:PE X l tl):PI X tg l (iTup X.K tl):=by
 intro pins s σ H R I h
 refine thn (hl pins s σ H _ I h) fun v s1 ⟨x,H1,I1,r1,q1⟩=>?_
 obtain ⟨a,e,⟨xs,hq⟩,q⟩:=q1
 subst e
 cases r1
 obtain ⟨its,rv,p,hz⟩:=I1.tuple hq
 refine wpAny_pyIter_tuple (show s1.heap.IsTuple a its.toArray from p) ?_
 refine ⟨s1.heap.objs.size,[s1.heap.objs.size],_,_,H1,rfl,I1.kept (t':=s1.toks) fun b o e=>Heap.get?_push_of_some _ e,turn_tuple a _,⟨_,Heap.get?_push_size _ rfl,rfl,rfl⟩,fun b hb=>?_,q⟩
 have e:b=s1.heap.objs.size:=by simpa using hb
 subst e
 exact I1.fpOk (Nat.le_refl _) (I1.hok.fresh (Nat.le_refl _))
theorem range_it {pins:List (Addr × Obj)}{σ:St}{H:Hp}{s:Shared}{R:It→Hp→Prop}{E:Value→Shared→Prop}{lo hi:Int}{t u v:Tok}{tk:Nat} (I:Inv X pins σ H s) (h1 : -(2 ^ 62)≤lo) (h2:lo<2 ^ 62) (h3 : -(2 ^ 62)≤hi) (h4:hi<2 ^ 62)
  (q:R (Itr lo (hi - lo).toNat) H):wpAny (model X.prog X.w) X.A (pyIter (.ref s.heap.objs.size)) (PIE X pins σ tg R) E { s with heap:=s.heap.push { cls:=.type "range",data:=.fields #[.int lo t,.int hi u,.int 1 v] },toks:=tk }:=by
 refine wpAny_pyIter_range (IsRange.new ..) (small_one h1 h2 h3 h4) ?_
 have I1:Inv X pins σ H { s with heap:=s.heap.push { cls:=.type "range",data:=.fields #[.int lo t,.int hi u,.int 1 v] },toks:=tk }:=I.kept fun b o e=>Heap.get?_push_of_some _ e
 refine ⟨(s.heap.push { cls:=.type "range",data:=.fields #[.int lo t,.int hi u,.int 1 v] }).objs.size,[(s.heap.push { cls:=.type "range",data:=.fields #[.int lo t,.int hi u,.int 1 v] }).objs.size],_,_,H,rfl,
  I1.kept (t':=tk) fun b o e=>Heap.get?_push_of_some _ e,turn_range _ lo (hi - lo).toNat,?_,fun b hb=>?_,q⟩
 ·have e1:lo+((0:Nat):Int) * 1=lo:=by simp
  have e2:(((hi - lo).toNat:Nat):Int) - ((0:Nat):Int)=Builtin.Range.rangeSize lo hi 1:=by rw [rangeSize_one];split <;> omega
  show IsRangeIter _ _ (lo+((0:Nat):Int) * 1) ((((hi - lo).toNat:Nat):Int) - ((0:Nat):Int)) 1
  rw [e1,e2]
  exact Heap.get?_push_size _ rfl
 ·have e:b=(s.heap.push { cls:=.type "range",data:=.fields #[.int lo t,.int hi u,.int 1 v] }).objs.size:=by simpa using hb
  subst e
  exact I1.fpOk (Nat.le_refl _) (I1.hok.fresh (Nat.le_refl _))
def iRng1 (ta:TA):TI:=fun σ H R=>ta σ H fun vs H1=>∃ j:Int,vs=[.int j] ∧ -(2 ^ 62)≤j∧j<2 ^ 62∧R (Itr 0 j.toNat) H1
def iRng2 (ta:TA):TI:=fun σ H R=>ta σ H fun vs H1=>∃ i j:Int,vs=[.int i,.int j]∧(-(2 ^ 62)≤i∧i<2 ^ 62 ∧ -(2 ^ 62)≤j∧j<2 ^ 62)∧R (Itr i (j - i).toNat) H1
theorem pi_range1 {a:Expr}{ta:TA}{p pos:Pos} (hg:Gl X "range") (hm:X.mg "range" = none) (ha:PA X [a] ta) (hs:starEach [a] X.env=[(false,eval a X.env)]:=by rfl):PI X tg (.Call (.Name "range" p) [a] [] pos) (iRng1 ta):=by
 intro pins s σ H R I h
 refine Call_ (ld_blt I hg hm boot_range (PyProof.Rows.callWith_type1 (thn (ha pos pins s σ H _ I h) fun us s1 ⟨vs,H1,I1,r1,q1⟩=>?_) hs rfl))
 obtain ⟨j,e,q1,q2,q⟩:=q1
 subst e
 cases r1 with
 | cons r rr =>
  cases rr
  obtain ⟨t,rfl⟩:=r
  exact call_range_1 (range_it I1 (by omega) (by omega) q1 q2 (by simpa using q))
theorem pi_range2 {a b:Expr}{ta:TA}{p pos:Pos} (hg:Gl X "range") (hm:X.mg "range" = none) (ha:PA X [a,b] ta) (hs:starEach [a,b] X.env=[(false,eval a X.env),(false,eval b X.env)]:=by rfl) (hs2:starEach [b] X.env=[(false,eval b X.env)]:=by rfl) :
  PI X tg (.Call (.Name "range" p) [a,b] [] pos) (iRng2 ta):=by
 intro pins s σ H R I h
 refine Call_ (ld_blt I hg hm boot_range (PyProof.Rows.callWith_type1 (thn (ha pos pins s σ H _ I h) fun us s1 ⟨vs,H1,I1,r1,q1⟩=>?_) (by rw [hs,hs2]) (by rw [hs2];rfl)))
 obtain ⟨i,j,e,⟨q1,q2,q3,q4⟩,q⟩:=q1
 subst e
 cases r1 with
 | cons r rr =>
  cases rr with
  | cons r' rr =>
   cases rr
   obtain ⟨t,rfl⟩:=r
   obtain ⟨t',rfl⟩:=r'
   exact call_range_2 (range_it I1 q1 q2 q3 q4 q)
def tFor (wi:TI) (g:TG) (tb:TS):TS:=fun D σ H=>wi σ H fun J H1=>∃ W:Nat→Nat→St→Hp→Prop,(∃ m,W 0 m σ H1)∧∀ i m σ H,W i m σ H →
 (J.stop i H∧D.nx σ H)∨(J.go i H∧∃ N:St→Hp→Prop,(∀ σ' H',N σ' H'→∃ m',m'<m∧W (i+1) m' σ' H')∧∀ x H',J.yld i H x H'→g x σ H' fun σ2 H2=>tb { D with nx:=N,ct:=N,bk:=D.nx } σ2 H2)
def pinsAt (fp:List Addr) (h:Heap):List (Addr × Obj):=fp.filterMap fun b=>(h.get? b).map fun o=>(b,o)
theorem mem_pinsAt {fp:List Addr}{h:Heap}{b:Addr}{o:Obj} (hb:b∈fp) (e:h.get? b=some o):(b,o)∈pinsAt fp h:=List.mem_filterMap.mpr ⟨b,hb,by rw [e];rfl⟩
theorem of_pinsAt {fp:List Addr}{h:Heap}{p:Addr × Obj} (hp:p∈pinsAt fp h):p.1∈fp∧h.get? p.1=some p.2:=by
 obtain ⟨b,hb,e⟩:=List.mem_filterMap.mp hp
 cases q:h.get? b with
 | none=>rw [q] at e;cases e
 | some o =>
  rw [q] at e
  have e':(b,o)=p:=Option.some.inj e
  subst e'
  exact ⟨hb,q⟩
theorem Inv.pinned {pins:List (Addr × Obj)}{σ:St}{H:Hp}{s:Shared}{fp:List Addr} (I:Inv X pins σ H s) (hf:∀ b∈fp,FpOk X pins H b) (ho:∀ b∈fp,∃ o,s.heap.get? b=some o∧∀ v,o.data≠.cell v):Inv X (pins ++ pinsAt fp s.heap) σ H s :=
 I.pins_of fun p hp=>(List.mem_append.mp hp).elim (fun z=>I.pin p (List.mem_append_right _ z)) fun z=>by
  obtain ⟨hb,e⟩:=of_pinsAt z
  obtain ⟨f0,f1,f2,_⟩:=hf p.1 hb
  obtain ⟨o,e',d⟩:=ho p.1 hb
  rw [e] at e';cases e'
  exact ⟨e,f0,f1,f2,d⟩
theorem Inv.unpinned {pins pl:List (Addr × Obj)}{σ:St}{H:Hp}{s:Shared} (I:Inv X (pins ++ pl) σ H s):Inv X pins σ H s:=I.pins_of fun p hp=>I.pin p (List.mem_append_right _ (List.mem_append_left _ hp))
theorem ps_for {iter:Expr}{body:List Stmt}{wi:TI}{g:TG}{tb:TS}{pos:Pos} (hp:PassesOwn (model X.prog X.w) X.A X.env X.xe) (hc:X.calm=true) (hi:PI X tg iter wi) (hg:PG X tg g) (hb:PSs X body tb)
  (hs:∀ x,foldedSetIterable iter X.env x=pure x:=by intro _;rfl):PS X (.For tg iter body [] pos) (tFor wi g tb):=by
 intro pins s σ H D I h
 refine wpAny_For (thn (hi pins s σ H _ I h) fun v s1 h1=>thn h1 fun itv s2 h2=>?_) hs
 obtain ⟨it,fp,tn,J,H2,e,I2,T,st2,f2,W,⟨m0,w0⟩,turn⟩:=h2
 subst e
 -- what stays true of the iterator's objects through the loop
 have stat:∀ {H':Hp},(∀ b∈fp,H' b=none)→∀ b∈fp,FpOk X pins H' b:=fun hn b hb=>⟨hn b hb,(f2 b hb).2⟩
 refine codeAny_forLoop_any (fun n s'=>∃ i σ' H',Inv X pins σ' H' s'∧tn i s'.heap∧(∀ b∈fp,H' b=none)∧W i n σ' H') ?_ m0 ⟨0,σ,H2,I2,st2,fun b hb=>(f2 b hb).1,w0⟩
 rintro n s3 ⟨i,σ3,H3,I3,st3,fr3,w3⟩
 rcases turn i n σ3 H3 w3 with ⟨stop,qn⟩ | ⟨go,N,hN,step⟩
 ·refine wpAny_passesOwn hp (thn (T.done X rfl rfl rfl hc i pins s3 σ3 H3 X.xe I3 (stat fr3) st3 stop) fun r s4 ⟨hr,I4⟩=>?_)
  subst hr
  exact wpAny_execs_nil ⟨σ3,H3,I4,qn⟩
 ·refine wpAny_passesOwn hp (thn (T.item X rfl rfl rfl hc i pins s3 σ3 H3 X.xe I3 (stat fr3) st3 go) fun r s4 ⟨u,hr,h4⟩=>?_)
  subst hr
  refine wpAny_passesOwn hp (thn h4 fun _ s5 ⟨x,H5,I5,r5,y5,st5,fr5⟩=>?_)
  have I5':=I5.pinned (stat fr5) (T.obj _ _ st5)
  refine wpAny_passesOwn hp (thn (hg _ s5 σ3 H5 x u _ I5' r5 (step x H5 y5)) fun _ s6 ⟨σ6,H6,I6,q6⟩=>?_)
  refine wpAny_passesOwn hp (thn (hb _ s6 σ6 H6 _ I6 q6) fun f s7 q7=>?_)
  have again:∀ {σ7:St}{H7:Hp},Inv X (pins ++ pinsAt fp s5.heap) σ7 H7 s7→N σ7 H7→∃ m,m<n∧∃ i σ' H',Inv X pins σ' H' s7∧tn i s7.heap∧(∀ b∈fp,H' b=none)∧W i m σ' H':=fun {σ7 H7} I7 n7=>by
   obtain ⟨m',hm,w7⟩:=hN σ7 H7 n7
   refine ⟨m',hm,i+1,σ7,H7,I7.unpinned,T.keep _ _ _ st5 fun b hb o e=>(I7.pin (b,o) (List.mem_append_right _ (List.mem_append_right _ (mem_pinsAt hb e)))).1,fun b hb=>?_,w7⟩
   obtain ⟨o,e,d⟩:=T.obj _ _ st5 b hb
   exact (I7.pin (b,o) (List.mem_append_right _ (List.mem_append_right _ (mem_pinsAt hb e)))).2.1
  cases f with
  | next=>obtain ⟨σ7,H7,I7,n7⟩:=q7;exact again I7 n7
  | cont=>obtain ⟨σ7,H7,I7,n7⟩:=q7;exact again I7 n7
  | brk=>obtain ⟨σ7,H7,I7,q7⟩:=q7;exact ⟨σ7,H7,I7.unpinned,q7⟩
  | ret v=>obtain ⟨x7,σ7,H7,I7,r7,q7⟩:=q7;exact ⟨x7,σ7,H7,I7.unpinned,r7,q7⟩
end
theorem for_list {K:PySem.W.Frag}{a:Addr}{xs:List V}{g:TG}{tb:TS}{D:Ends}{σ:St}{H:Hp} (Pv:Nat→St→Hp→Prop) (h0:Pv 0 σ H) (hl:∀ i σ H,i≤xs.length→Pv i σ H→SqL K H a xs)
  (hs:∀ i x σ H,xs[i]? = some x→Pv i σ H→g x σ H fun σ2 H2=>tb { D with nx:=Pv (i+1),ct:=Pv (i+1),bk:=D.nx } σ2 H2) (hd:∀ σ H,Pv xs.length σ H→D.nx σ H) :
  ∃ W:Nat→Nat→St→Hp→Prop,(∃ m,W 0 m σ H)∧∀ i m σ H,W i m σ H →
   ((Itl K a).stop i H∧D.nx σ H)∨((Itl K a).go i H∧∃ N:St→Hp→Prop,(∀ σ' H',N σ' H'→∃ m',m'<m∧W (i+1) m' σ' H')∧∀ x H',(Itl K a).yld i H x H'→g x σ H' fun σ2 H2=>tb { D with nx:=N,ct:=N,bk:=D.nx } σ2 H2):=by
 refine ⟨fun i m σ H=>m=xs.length - i∧i≤xs.length∧Pv i σ H,⟨xs.length,by simp,Nat.zero_le _,h0⟩,?_⟩
 rintro i m σ H ⟨rfl,hi,p⟩
 have q:=hl i σ H hi p
 by_cases hlt:i<xs.length
 ·refine .inr ⟨⟨xs,xs[i],q,by simp [hlt]⟩,Pv (i+1),fun σ' H' p'=>⟨xs.length - (i+1),by omega,rfl,hlt,p'⟩,fun x H' y=>?_⟩
  obtain ⟨e,y⟩:=y
  subst e
  exact hs i x σ _ (y xs q) p
 ·have e:i=xs.length:=by omega
  subst e
  exact .inl ⟨⟨xs,q,Nat.le_refl _⟩,hd σ H p⟩
theorem for_tup {K:PySem.W.Frag}{a:Addr}{xs:List V}{g:TG}{tb:TS}{D:Ends}{σ:St}{H:Hp} (Pv:Nat→St→Hp→Prop) (h0:Pv 0 σ H) (hl:∀ i σ H,i≤xs.length→Pv i σ H→SqT K H a xs)
  (hs:∀ i x σ H,xs[i]? = some x→Pv i σ H→g x σ H fun σ2 H2=>tb { D with nx:=Pv (i+1),ct:=Pv (i+1),bk:=D.nx } σ2 H2) (hd:∀ σ H,Pv xs.length σ H→D.nx σ H) :
  ∃ W:Nat→Nat→St→Hp→Prop,(∃ m,W 0 m σ H)∧∀ i m σ H,W i m σ H →
   ((Itt K a).stop i H∧D.nx σ H)∨((Itt K a).go i H∧∃ N:St→Hp→Prop,(∀ σ' H',N σ' H'→∃ m',m'<m∧W (i+1) m' σ' H')∧∀ x H',(Itt K a).yld i H x H'→g x σ H' fun σ2 H2=>tb { D with nx:=N,ct:=N,bk:=D.nx } σ2 H2):=by
 refine ⟨fun i m σ H=>m=xs.length - i∧i≤xs.length∧Pv i σ H,⟨xs.length,by simp,Nat.zero_le _,h0⟩,?_⟩
 rintro i m σ H ⟨rfl,hi,p⟩
 have q:=hl i σ H hi p
 by_cases hlt:i<xs.length
 ·refine .inr ⟨⟨xs,xs[i],q,by simp [hlt]⟩,Pv (i+1),fun σ' H' p'=>⟨xs.length - (i+1),by omega,rfl,hlt,p'⟩,fun x H' y=>?_⟩
  obtain ⟨e,y⟩:=y
  subst e
  exact hs i x σ _ (y xs q) p
 ·have e:i=xs.length:=by omega
  subst e
  exact .inl ⟨⟨xs,q,Nat.le_refl _⟩,hd σ H p⟩
theorem for_range {lo:Int}{n:Nat}{g:TG}{tb:TS}{D:Ends}{σ:St}{H:Hp} (Pv:Nat→St→Hp→Prop) (h0:Pv 0 σ H)
  (hs:∀ i σ H,i<n→Pv i σ H→g (.int (lo+i)) σ H fun σ2 H2=>tb { D with nx:=Pv (i+1),ct:=Pv (i+1),bk:=D.nx } σ2 H2) (hd:∀ σ H,Pv n σ H→D.nx σ H) :
  ∃ W:Nat→Nat→St→Hp→Prop,(∃ m,W 0 m σ H)∧∀ i m σ H,W i m σ H →
   ((Itr lo n).stop i H∧D.nx σ H)∨((Itr lo n).go i H∧∃ N:St→Hp→Prop,(∀ σ' H',N σ' H'→∃ m',m'<m∧W (i+1) m' σ' H')∧∀ x H',(Itr lo n).yld i H x H'→g x σ H' fun σ2 H2=>tb { D with nx:=N,ct:=N,bk:=D.nx } σ2 H2):=by
 refine ⟨fun i m σ H=>m=n - i∧i≤n∧Pv i σ H,⟨n,by simp,Nat.zero_le _,h0⟩,?_⟩
 rintro i m σ H ⟨rfl,hi,p⟩
 by_cases hlt:i<n
 ·refine .inr ⟨hlt,Pv (i+1),fun σ' H' p'=>⟨n - (i+1),by omega,rfl,hlt,p'⟩,fun x H' y=>?_⟩
  obtain ⟨e,y⟩:=y
  subst e y
  exact hs i σ _ hlt p
 ·have e:i=n:=by omega
  subst e
  exact .inl ⟨Nat.le_refl _,hd σ H p⟩
abbrev R2:=V→V→Hp→VK→Prop
def OpR (X:Cx) (f:Value→Value→Sem Value) (r:R2):Prop :=
 ∀ (pins:List (Addr × Obj)) (s:Shared) (σ:St) (H:Hp) (x y:V) (v u:Value) (Q:VK),Inv X pins σ H s→RelV x v→RelV y u→r x y H Q →
  wpAny (model X.prog X.w) X.A (f v u) (EP X pins σ Q) X.xe s
def UnR (X:Cx) (f:Value→Sem Value) (r:V→Hp→VK→Prop):Prop :=
 ∀ (pins:List (Addr × Obj)) (s:Shared) (σ:St) (H:Hp) (x:V) (v:Value) (Q:VK),Inv X pins σ H s→RelV x v→r x H Q →
  wpAny (model X.prog X.w) X.A (f v) (EP X pins σ Q) X.xe s
def CallR (X:Cx) (f:Value) (r:List V→Hp→VK→Prop):Prop :=
 ∀ (pins:List (Addr × Obj)) (s:Shared) (σ:St) (H:Hp) (xs:List V) (us:List Value) (Q:VK),Inv X pins σ H s→Vals xs us→r xs H Q →
  wpAny (model X.prog X.w) X.A (call f us) (EP X pins σ Q) X.xe s
def TruR (X:Cx) (r:V→Hp→(Bool→Hp→Prop)→Prop):Prop :=
 ∀ (pins:List (Addr × Obj)) (s:Shared) (σ:St) (H:Hp) (x:V) (v:Value) (Q:Bool→Hp→Prop),Inv X pins σ H s→RelV x v→r x H Q →
  wpAny (model X.prog X.w) X.A (truthy v) (TP X pins σ Q) X.xe s
def tOp (r:R2) (ta tb:TE):TE:=fun σ H Q=>ta σ H fun x H1=>tb σ H1 fun y H2=>r x y H2 Q
def tUn (r:V→Hp→VK→Prop) (ta:TE):TE:=fun σ H Q=>ta σ H fun x H1=>r x H1 Q
def rI (C:Int→Int→Prop) (g:Int→Int→V):R2:=fun x y H Q=>∃ i j,x=.int i∧y=.int j∧C i j∧Q (g i j) H
def rI0 (g:Int→Int→V):R2:=fun x y H Q=>∃ i j,x=.int i∧y=.int j∧Q (g i j) H
def rU (g:Int→V):V→Hp→VK→Prop:=fun x H Q=>∃ i,x=.int i∧Q (g i) H
section
variable {X:Cx}{a b c:Expr}{ta tb tc:TE}{pos:Pos}
theorem binT (ha:PE X a ta) (hb:PE X b tb) {pins:List (Addr × Obj)}{s:Shared}{σ:St}{H:Hp}{R:V→V→Hp→Prop} (I:Inv X pins σ H s)
  (h:ta σ H fun x H1=>tb σ H1 fun y H2=>R x y H2) {Q:Value→Shared→Prop}{f:Value→Value→Sem Value}
  (hf:∀ v u s2 x y H2,Inv X pins σ H2 s2→RelV x v→RelV y u→R x y H2→wpAny (model X.prog X.w) X.A (f v u) Q X.xe s2) :
  wpAny (model X.prog X.w) X.A (eval a X.env) (fun v s₁=>wpAny (model X.prog X.w) X.A (eval b X.env) (fun u s₂=>wpAny (model X.prog X.w) X.A (f v u) Q X.xe s₂) X.xe s₁) X.xe s:=by
 refine thn (ha pins s σ H _ I h) fun v s1 ⟨x,H1,I1,r1,q1⟩=>?_
 refine thn (hb pins s1 σ H1 _ I1 q1) fun u s2 ⟨y,H2,I2,r2,q2⟩=>?_
 exact hf v u s2 x y H2 I2 r1 r2 q2
theorem pe_op {op:Operator}{r:R2} (ho:OpR X (binaryOp op) r) (ha:PE X a ta) (hb:PE X b tb):PE X (.BinOp a op b pos) (tOp r ta tb):=by
 intro pins s σ H Q I h
 exact wpAny_BinOp (binT ha hb I h fun v u s2 x y H2 I2 rx ry q=>ho pins s2 σ H2 x y v u Q I2 rx ry q)
theorem pe_un {op:UnaryOp}{r:V→Hp→VK→Prop} (ho:UnR X (unaryOp op) r) (ha:PE X a ta):PE X (.UnaryOp op a pos) (tUn r ta):=by
 intro pins s σ H Q I h
 exact UnaryOp_ (thn (ha pins s σ H _ I h) fun v s1 ⟨x,H1,I1,r1,q1⟩=>ho pins s1 σ H1 x v Q I1 r1 q1)
theorem opI {f:Value→Value→Sem Value}{C:Int→Int→Prop}{g:Int→Int→Int}
  (rule:∀ (i j:Int) (t u:Tok) (s:Shared) (Q:Value→Shared→Prop) (E:Value→Shared→Prop),C i j→Q (.int (g i j) s.toks) { s with toks:=s.toks+1 }→wpAny (model X.prog X.w) X.A (f (.int i t) (.int j u)) Q E s) :
  OpR X f (rI C fun i j=>.int (g i j)):=by
 intro pins s σ H x y v u Q I rx ry h
 obtain ⟨i,j,rfl,rfl,hc,q⟩:=h
 obtain ⟨t,rfl⟩:=rx
 obtain ⟨t',rfl⟩:=ry
 exact rule i j t t' s _ _ hc ⟨.int (g i j),H,I.tok _,⟨_,rfl⟩,q⟩
theorem opI0 {f:Value→Value→Sem Value}{g:Int→Int→Int}
  (rule:∀ (i j:Int) (t u:Tok) (s:Shared) (Q:Value→Shared→Prop) (E:Value→Shared→Prop),Q (.int (g i j) s.toks) { s with toks:=s.toks+1 }→wpAny (model X.prog X.w) X.A (f (.int i t) (.int j u)) Q E s) :
  OpR X f (rI0 fun i j=>.int (g i j)):=by
 intro pins s σ H x y v u Q I rx ry h
 obtain ⟨i,j,rfl,rfl,q⟩:=h
 obtain ⟨t,rfl⟩:=rx
 obtain ⟨t',rfl⟩:=ry
 exact rule i j t t' s _ _ ⟨.int (g i j),H,I.tok _,⟨_,rfl⟩,q⟩
theorem opB0 {f:Value→Value→Sem Value}{g:Int→Int→Bool}
  (rule:∀ (i j:Int) (t u:Tok) (s:Shared) (Q:Value→Shared→Prop) (E:Value→Shared→Prop),Q (.bool (g i j)) s→wpAny (model X.prog X.w) X.A (f (.int i t) (.int j u)) Q E s) :
  OpR X f (rI0 fun i j=>.bl (g i j)):=by
 intro pins s σ H x y v u Q I rx ry h
 obtain ⟨i,j,rfl,rfl,q⟩:=h
 obtain ⟨t,rfl⟩:=rx
 obtain ⟨t',rfl⟩:=ry
 exact rule i j t t' s _ _ ⟨.bl (g i j),H,I,rfl,q⟩
def CDiv (i j:Int):Prop:=0<j∧j<1073741824
def CMul (i j:Int):Prop:=(-(2 ^ 64)<i∧i<2 ^ 64)∨(-(2 ^ 64)<j∧j<2 ^ 64)
theorem CMul.ok {i j:Int} (h:CMul i j):IntMulOk i j:=by
 rcases h with ⟨h1,h2⟩ | ⟨h1,h2⟩
 ·exact .of_left (intBits_le_64 h1 h2)
 ·exact .of_right (intBits_le_64 h1 h2)
theorem two_pow_nn (k:Nat):(0:Int)≤2 ^ k:=by
 rw [two_pow_cast]
 exact Int.natCast_nonneg _
theorem op_add:OpR X (binaryOp .Add) (rI0 fun i j=>.int (i+j)):=opI0 fun _ _ _ _ _ _ _ q=>add_int q
theorem op_sub:OpR X (binaryOp .Sub) (rI0 fun i j=>.int (i - j)):=opI0 fun _ _ _ _ _ _ _ q=>sub_int q
theorem op_mul:OpR X (binaryOp .Mult) (rI CMul fun i j=>.int (i * j)):=opI fun _ _ _ _ _ _ _ hc q=>mul_int q hc.ok
theorem op_fdiv:OpR X (binaryOp .FloorDiv) (rI CDiv fun i j=>.int (i / j)):=opI fun i j _ _ _ _ _ hc q=>by
 have h1:(0:Int)<j:=hc.1
 have h2:j<1073741824:=hc.2
 exact floordiv_int (by omega) (by rw [Int.fdiv_eq_ediv_of_nonneg i (by omega)];exact q) (.inl (PyProof.noPylong_small (by omega)))
theorem op_mod:OpR X (binaryOp .Mod) (rI (fun _ j=>0<j) fun i j=>.int (i % j)):=opI fun i j _ _ _ _ _ hc q=>by
 have h1:(0:Int)<j:=hc
 exact mod_int' (by omega) (by rw [Int.fmod_eq_emod_of_nonneg i (by omega)];exact q)
theorem op_shr:OpR X (binaryOp .RShift) (rI (fun _ j=>0≤j) fun i j=>.int (i / 2 ^ j.toNat)):=opI fun i j _ _ _ _ _ hc q =>
 rshift_int hc (by rw [Int.fdiv_eq_ediv_of_nonneg i (two_pow_nn _)];exact q)
theorem op_and:OpR X (binaryOp .BitAnd) (rI0 fun i j=>.int (Builtin.bitAnd i j)):=opI0 fun _ _ _ _ _ _ _ q=>and_int q
theorem op_or:OpR X (binaryOp .BitOr) (rI0 fun i j=>.int (Builtin.bitOr i j)):=opI0 fun _ _ _ _ _ _ _ q=>or_int q
theorem op_xor:OpR X (binaryOp .BitXor) (rI0 fun i j=>.int (Builtin.bitXor i j)):=opI0 fun _ _ _ _ _ _ _ q=>xor_int q
theorem unI {f:Value→Sem Value}{g:Int→Int}
  (rule:∀ (i:Int) (t:Tok) (s:Shared) (Q:Value→Shared→Prop) (E:Value→Shared→Prop),Q (.int (g i) s.toks) { s with toks:=s.toks+1 }→wpAny (model X.prog X.w) X.A (f (.int i t)) Q E s) :
  UnR X f (rU fun i=>.int (g i)):=by
 intro pins s σ H x v Q I rx h
 obtain ⟨i,rfl,q⟩:=h
 obtain ⟨t,rfl⟩:=rx
 exact rule i t s _ _ ⟨.int (g i),H,I.tok _,⟨_,rfl⟩,q⟩
theorem un_neg:UnR X (unaryOp .USub) (rU fun i=>.int (-i)):=unI fun _ _ _ _ _ q=>neg_int q
end
def scal:V→V→Bool
 | .non,.non=>true | .non,.int _=>true | .int _,.non=>true | .non,.bl _=>true | .bl _,.non=>true | .non,.str _=>true | .str _,.non=>true
 | .int _,.int _=>true | .bl _,.bl _=>true | .str _,.str _=>true | .byt _,.byt _=>true
 | .int _,.str _=>true | .str _,.int _=>true | .bl _,.str _=>true | .str _,.bl _=>true
 | _,_=>false
def rEq:R2:=fun x y H Q=>scal x y=true∧Q (.bl (decide (x=y))) H
def rNe:R2:=fun x y H Q=>scal x y=true∧Q (.bl (!decide (x=y))) H
theorem dec_int {i j:Int}:decide (V.int i=V.int j)=(i == j):=by
 rw [Bool.eq_iff_iff]
 simp
theorem dec_bl {i j:Bool}:decide (V.bl i=V.bl j)=(i == j):=by
 rw [Bool.eq_iff_iff]
 simp
theorem dec_str {i j:Str}:decide (V.str i=V.str j)=(i == j):=by
 rw [Bool.eq_iff_iff]
 simp
theorem dec_byt {i j:Array UInt8}:decide (V.byt i=V.byt j)=(i.toList == j.toList):=by
 rw [Bool.eq_iff_iff]
 cases i
 cases j
 simp
section
variable {X:Cx}{a b c:Expr}{ta tb tc:TE}{pos:Pos}
theorem fin_bl {pins:List (Addr × Obj)}{σ:St}{H:Hp}{s:Shared}{Q:VK}{k k':Bool} (I:Inv X pins σ H s) (q:Q (.bl k) H) (e:k=k'):EP X pins σ Q (.bool k') s:=by
 subst e
 exact ⟨.bl k,H,I,rfl,q⟩
theorem op_eq:OpR X (compareOp .Eq) rEq:=by
 intro pins s σ H x y v u Q I rx ry h
 obtain ⟨hs,q⟩:=h
 cases x with
 | non =>
  cases rx
  cases y with
  | non=>cases ry;exact PySem.EqNone.eq_none_none (fin_bl I q (by simp))
  | bl j=>cases ry;exact PySem.EqNone.eq_none_bool (fin_bl I q (by simp))
  | int j=>obtain ⟨t',rfl⟩:=ry;exact PySem.EqNone.eq_none_int (fin_bl I q (by simp))
  | str j=>obtain ⟨t',rfl⟩:=ry;exact PySem.EqNone.eq_none_str (fin_bl I q (by simp))
  | _=>exact absurd (show false=true from hs) Bool.false_ne_true
 | bl i =>
  cases rx
  cases y with
  | non=>cases ry;exact PySem.EqNone.eq_bool_none (fin_bl I q (by simp))
  | bl j=>cases ry;exact eq_bool (fin_bl I q dec_bl)
  | str j=>obtain ⟨t',rfl⟩:=ry;exact PySem.EqMixed.eq_bool_str (fin_bl I q (by simp))
  | _=>exact absurd (show false=true from hs) Bool.false_ne_true
 | int i =>
  obtain ⟨t,rfl⟩:=rx
  cases y with
  | non=>cases ry;exact PySem.EqNone.eq_int_none (fin_bl I q (by simp))
  | int j=>obtain ⟨t',rfl⟩:=ry;exact eq_int (fin_bl I q dec_int)
  | str j=>obtain ⟨t',rfl⟩:=ry;exact PySem.EqMixed.eq_int_str (fin_bl I q (by simp))
  | _=>exact absurd (show false=true from hs) Bool.false_ne_true
 | str i =>
  obtain ⟨t,rfl⟩:=rx
  cases y with
  | non=>cases ry;exact PySem.EqNone.eq_str_none (fin_bl I q (by simp))
  | bl j=>cases ry;exact PySem.EqMixed.eq_str_bool (fin_bl I q (by simp))
  | int j=>obtain ⟨t',rfl⟩:=ry;exact PySem.EqMixed.eq_str_int (fin_bl I q (by simp))
  | str j=>obtain ⟨t',rfl⟩:=ry;exact eq_str (fin_bl I q dec_str)
  | _=>exact absurd (show false=true from hs) Bool.false_ne_true
 | byt i =>
  obtain ⟨t,rfl⟩:=rx
  cases y with
  | byt j=>obtain ⟨t',rfl⟩:=ry;exact PySem.W.eq_bytes (fin_bl I q dec_byt)
  | _=>exact absurd (show false=true from hs) Bool.false_ne_true
 | _=>cases y <;> exact absurd (show false=true from hs) Bool.false_ne_true
theorem op_ne:OpR X (compareOp .NotEq) rNe:=by
 intro pins s σ H x y v u Q I rx ry h
 obtain ⟨hs,q⟩:=h
 cases x with
 | non =>
  cases rx
  cases y with
  | non=>cases ry;exact PySem.EqNone.ne_none_none (fin_bl I q (by simp))
  | bl j=>cases ry;exact PySem.EqNone.ne_none_bool (fin_bl I q (by simp))
  | int j=>obtain ⟨t',rfl⟩:=ry;exact PySem.EqNone.ne_none_int (fin_bl I q (by simp))
  | str j=>obtain ⟨t',rfl⟩:=ry;exact PySem.EqNone.ne_none_str (fin_bl I q (by simp))
  | _=>exact absurd (show false=true from hs) Bool.false_ne_true
 | bl i =>
  cases rx
  cases y with
  | non=>cases ry;exact PySem.EqNone.ne_bool_none (fin_bl I q (by simp))
  | bl j=>cases ry;exact ne_bool (fin_bl I q (congrArg not dec_bl))
  | str j=>obtain ⟨t',rfl⟩:=ry;exact PySem.EqMixed.ne_bool_str (fin_bl I q (by simp))
  | _=>exact absurd (show false=true from hs) Bool.false_ne_true
 | int i =>
  obtain ⟨t,rfl⟩:=rx
  cases y with
  | non=>cases ry;exact PySem.EqNone.ne_int_none (fin_bl I q (by simp))
  | int j=>obtain ⟨t',rfl⟩:=ry;exact ne_int (fin_bl I q (congrArg not dec_int))
  | str j=>obtain ⟨t',rfl⟩:=ry;exact PySem.EqMixed.ne_int_str (fin_bl I q (by simp))
  | _=>exact absurd (show false=true from hs) Bool.false_ne_true
 | str i =>
  obtain ⟨t,rfl⟩:=rx
  cases y with
  | non=>cases ry;exact PySem.EqNone.ne_str_none (fin_bl I q (by simp))
  | bl j=>cases ry;exact PySem.EqMixed.ne_str_bool (fin_bl I q (by simp))
  | int j=>obtain ⟨t',rfl⟩:=ry;exact PySem.EqMixed.ne_str_int (fin_bl I q (by simp))
  | str j=>obtain ⟨t',rfl⟩:=ry;exact ne_str (fin_bl I q (congrArg not dec_str))
  | _=>exact absurd (show false=true from hs) Bool.false_ne_true
 | byt i =>
  obtain ⟨t,rfl⟩:=rx
  cases y with
  | byt j=>obtain ⟨t',rfl⟩:=ry;exact PySem.W.ne_bytes (fin_bl I q (congrArg not dec_byt))
  | _=>exact absurd (show false=true from hs) Bool.false_ne_true
 | _=>cases y <;> exact absurd (show false=true from hs) Bool.false_ne_true
theorem op_lt:OpR X (compareOp .Lt) (rI0 fun i j=>.bl (decide (i<j))):=opB0 fun _ _ _ _ _ _ _ q=>lt_int q
theorem op_le:OpR X (compareOp .LtE) (rI0 fun i j=>.bl (decide (i≤j))):=opB0 fun _ _ _ _ _ _ _ q=>le_int q
theorem op_gt:OpR X (compareOp .Gt) (rI0 fun i j=>.bl (decide (j<i))):=opB0 fun _ _ _ _ _ _ _ q=>gt_int q
theorem op_ge:OpR X (compareOp .GtE) (rI0 fun i j=>.bl (decide (j≤i))):=opB0 fun _ _ _ _ _ _ _ q=>ge_int q
theorem op_isN:OpR X (compareOp .Is) (fun x y H Q=>y=.non∧Q (.bl (decide (x=.non))) H):=by
 intro pins s σ H x y v u Q I rx ry h
 obtain ⟨rfl,q⟩:=h
 cases ry
 refine is_none_gen (fin_bl I q ?_)
 cases x <;> first
  | (cases rx;rfl)
  | (obtain ⟨t,rfl⟩:=rx;rfl)
theorem op_notN:OpR X (compareOp .IsNot) (fun x y H Q=>y=.non∧Q (.bl (!decide (x=.non))) H):=by
 intro pins s σ H x y v u Q I rx ry h
 obtain ⟨rfl,q⟩:=h
 cases ry
 refine isnot_none_gen (fin_bl I q ?_)
 cases x <;> first
  | (cases rx;rfl)
  | (obtain ⟨t,rfl⟩:=rx;rfl)
theorem nomark (b:Expr) {op:CmpOp} (h:op≠.In:=by decide) (h2:op≠.NotIn:=by decide):behindInMarks op b=false:=by
 have e1:(op == CmpOp.In)=false:=by cases op <;> first | rfl | exact absurd rfl h
 have e2:(op == CmpOp.NotIn)=false:=by cases op <;> first | rfl | exact absurd rfl h2
 cases b <;> simp [behindInMarks,e1,e2]
theorem pe_cmpR {op:CmpOp}{r:R2} (ho:OpR X (compareOp op) r) (ha:PE X a ta) (hb:PE X b tb) (hm:behindInMarks op b=false):PE X (.Compare a [op] [b] pos) (tOp r ta tb):=by
 intro pins s σ H Q I h
 exact wpAny_Compare1 (binT ha hb I h fun v u s2 x y H2 I2 rx ry q=>ho pins s2 σ H2 x y v u Q I2 rx ry q) hm
def tTest (t:TE):TT:=fun σ H Q=>t σ H fun x H'=>∃ k,x=.bl k∧Q k H'
theorem pt_cmpR {op:CmpOp}{r:R2} (ho:OpR X (compareOp op) r) (ha:PE X a ta) (hb:PE X b tb) (hm:behindInMarks op b=false):PT X (.Compare a [op] [b] pos) (tTest (tOp r ta tb)):=by
 intro pins s σ H Q I h
 refine wpAny_isTrue_Compare1 (thn (ha pins s σ H _ I h) fun v s1 ⟨x,H1,I1,r1,q1⟩=>thn (hb pins s1 σ H1 _ I1 q1) fun u s2 ⟨y,H2,I2,r2,q2⟩ =>
  thn (ho pins s2 σ H2 x y v u _ I2 r1 r2 q2) fun c s3 ⟨z,H3,I3,r3,k,e,q3⟩=>?_) hm
 subst e
 cases r3
 exact wpAny_truthy_bool ⟨H3,I3,q3⟩
def tChain (r r':R2) (ta tb tc:TE):TE:=fun σ H Q=>ta σ H fun x H1=>tb σ H1 fun y H2=>r x y H2 fun z H3=>∃ k,z=.bl k ∧
 (if k=true then tc σ H3 fun w' H4=>r' y w' H4 Q else Q (.bl false) H3)
theorem pe_chain {op op':CmpOp}{r r':R2} (ho:OpR X (compareOp op) r) (ho':OpR X (compareOp op') r') (ha:PE X a ta) (hb:PE X b tb) (hc:PE X c tc)
  (hm:lastMarks [op,op'] [b,c]=false:=by with_unfolding_all rfl):PE X (.Compare a [op,op'] [b,c] pos) (tChain r r' ta tb tc):=by
 intro pins s σ H Q I h
 refine Compare_chain (thn (ha pins s σ H _ I h) fun v s1 ⟨x,H1,I1,r1,q1⟩=>chain_link (thn (hb pins s1 σ H1 _ I1 q1) fun u s2 ⟨y,H2,I2,r2,q2⟩ =>
  thn (ho pins s2 σ H2 x y v u _ I2 r1 r2 q2) fun d s3 ⟨z,H3,I3,r3,k,e,q3⟩=>?_)) hm
 subst e
 cases r3
 refine wpAny_truthy_bool ?_
 cases k with
 | false=>exact ite_ff ⟨.bl false,H3,I3,rfl,q3⟩
 | true=>exact ite_tt (chain_last (thn (hc pins s3 σ H3 _ I3 q3) fun w' s4 ⟨z',H4,I4,r4,q4⟩=>ho' pins s4 σ H4 y z' u w' Q I4 r2 r4 q4))
def TruV (K:PySem.W.Frag) (x:V) (H:Hp) (k:Bool):Prop :=
 match x with
 | .non=>k=false
 | .bl b=>k=b
 | .int i=>k=(i != 0)
 | .str y=>y.length≤sizeLine∧k=((y.length:Int) != 0)
 | .byt y=>y.size≤sizeLine∧k=((y.size:Int) != 0)
 | .ref p=>(∃ xs,SqL K H p xs∧k = !xs.isEmpty)∨(∃ xs,SqT K H p xs∧k = !xs.isEmpty)∨∃ kvs,H p=some (.dK kvs)∧k = !kvs.isEmpty
 | _=>False
theorem isEmpty_kv {κ:Type}{kvs:List (κ × V)}{vs:List (κ × Value)} (r:KV kvs vs):(!vs.isEmpty) = !kvs.isEmpty:=by
 cases r <;> rfl
theorem isEmpty_of {xs:List V}{its:List Value} (r:Vals xs its):(!its.toArray.isEmpty) = !xs.isEmpty:=by
 cases r <;> simp
theorem line63:(sizeLine:Nat)<2 ^ 63:=by rw [sizeLine_eq];decide
theorem tru_ok:TruR X (fun x H Q=>∃ k,TruV X.K x H k∧Q k H):=by
 intro pins s σ H x v Q I rx h
 obtain ⟨k,e,q⟩:=h
 have hl:=line63
 have hs:sizeLine=16777216:=sizeLine_eq
 cases x with
 | non =>
  cases rx
  have e':k=false:=e
  subst e'
  exact truthy_none ⟨H,I,q⟩
 | bl b =>
  cases rx
  have e':k=b:=e
  subst e'
  exact wpAny_truthy_bool ⟨H,I,q⟩
 | int i =>
  obtain ⟨t,rfl⟩:=rx
  have e':k=(i != 0):=e
  subst e'
  exact PySem.P.truthy_int ⟨H,I,q⟩
 | str y =>
  obtain ⟨t,rfl⟩:=rx
  obtain ⟨hy,e'⟩:y.length≤sizeLine∧k=((y.length:Int) != 0):=e
  subst e'
  exact PySem.P.truthy_str (by omega) ⟨H,I.tok _,q⟩
 | byt y =>
  obtain ⟨t,rfl⟩:=rx
  obtain ⟨hy,e'⟩:y.size≤sizeLine∧k=((y.size:Int) != 0):=e
  subst e'
  exact PySem.W.truthy_bytes (by omega) ⟨H,I.tok _,q⟩
 | ref p =>
  cases rx
  have e':(∃ xs,SqL X.K H p xs∧k = !xs.isEmpty)∨(∃ xs,SqT X.K H p xs∧k = !xs.isEmpty)∨∃ kvs,H p=some (.dK kvs)∧k = !kvs.isEmpty:=e
  rcases e' with ⟨xs,hx,e'⟩ | ⟨xs,hx,e'⟩ | ⟨kvs,hx,e'⟩
  ·subst e'
   obtain ⟨its,r,pl,hz⟩:=I.list hx
   have hlen:=r.length
   exact wpAny_truthy_list pl.isList (by simp only [List.size_toArray];omega) ⟨H,I.tok _,by rw [isEmpty_of r];exact q⟩
  ·subst e'
   obtain ⟨its,r,pl,hz⟩:=I.tuple hx
   have hlen:=r.length
   exact truthy_tuple pl (by simp only [List.size_toArray];omega) ⟨H,I.tok _,by rw [isEmpty_of r];exact q⟩
  ·subst e'
   obtain ⟨hz,hS,vs,r,m⟩:kvs.length≤sizeLine∧(p == sysModules)=false∧∃ vs,KV kvs vs∧s.heap.DictOf (mixKind X.prog X.w) p vs:=I.hok p _ hx
   have hlen:kvs.length=vs.length:=Paired.length r
   exact wpAny_truthy_dict hS m (by omega) ⟨H,I.tok _,by rw [isEmpty_kv r];exact q⟩
 | _=>exact (show False from e).elim
theorem pt_truth (ha:PE X a ta) (he:∀ whole,isTrue a X.env whole=(do let v ← whole;standAt a.pos;holding [v] (truthy v))) :
  PT X a (fun σ H Q=>ta σ H fun x H'=>∃ k,TruV X.K x H' k∧Q k H'):=by
 intro pins s σ H Q I h
 exact isTrue_plain (thn (ha pins s σ H _ I h) fun v s1 ⟨x,H1,I1,r1,q1⟩=>tru_ok pins s1 σ H1 x v Q I1 r1 q1) (he _)
theorem op_add_str:OpR X (binaryOp .Add) (fun x y H Q=>∃ i j,x=.str i∧y=.str j∧i.length+j.length≤sizeLine∧Q (.str (i ++ j)) H):=by
 intro pins s σ H x y v u Q I rx ry h
 obtain ⟨i,j,rfl,rfl,hz,q⟩:=h
 obtain ⟨t,rfl⟩:=rx
 obtain ⟨t',rfl⟩:=ry
 exact add_str (fun t' tk=>⟨.str (i ++ j),H,I.tok _,⟨_,rfl⟩,q⟩) hz
theorem vals1 {x:V}{us:List Value} (r:Vals [x] us):∃ u,us=[u]∧RelV x u:=by
 cases r with
 | cons r1 r2=>cases r2;exact ⟨_,rfl,r1⟩
theorem vals2 {x y:V}{us:List Value} (r:Vals [x,y] us):∃ u w',us=[u,w']∧RelV x u∧RelV y w':=by
 cases r with
 | cons r1 r2 =>
  cases r2 with
  | cons r3 r4=>cases r4;exact ⟨_,_,rfl,r1,r3⟩
theorem call_max2 (hc:X.calm=true):CallR X (.builtin "max") (fun xs H Q=>∃ i j,xs=[.int i,.int j]∧Q (.int (if j > i then j else i)) H):=by
 intro pins s σ H xs us Q I r h
 obtain ⟨i,j,rfl,q⟩:=h
 obtain ⟨u,w',rfl,⟨t,rfl⟩,⟨t',rfl⟩⟩:=vals2 r
 refine max_two_ints (I.ok.hd hc) fun h' tk k=>⟨_,H,I.kept k,?_,q⟩
 by_cases hj:j > i
 ·rw [if_pos hj,if_pos hj];exact ⟨_,rfl⟩
 ·rw [if_neg hj,if_neg hj];exact ⟨_,rfl⟩
theorem call_min2 (hc:X.calm=true):CallR X (.builtin "min") (fun xs H Q=>∃ i j,xs=[.int i,.int j]∧Q (.int (if j<i then j else i)) H):=by
 intro pins s σ H xs us Q I r h
 obtain ⟨i,j,rfl,q⟩:=h
 obtain ⟨u,w',rfl,⟨t,rfl⟩,⟨t',rfl⟩⟩:=vals2 r
 refine min_two_ints (I.ok.hd hc) fun h' tk k=>⟨_,H,I.kept k,?_,q⟩
 by_cases hj:j<i
 ·rw [if_pos hj,if_pos hj];exact ⟨_,rfl⟩
 ·rw [if_neg hj,if_neg hj];exact ⟨_,rfl⟩
end
structure ObjM (h:Heap) (x dx C:Addr) (mA:Str→Option Value):Prop where
 obj:h.get? x=some (PySem.W.instObj C dx)
 ns:h.Ns1 dx mA
 ne:dx≠x
theorem lookIn_ns {h:Heap}{dx:Addr}{mA:Str→Option Value} (n:h.Ns1 dx mA):∃ od,h.get? dx=some od∧∀ name,PySem.W.lookIn name od=some (mA name):=by
 obtain ⟨o,es,ep,ho,hd,hk,_,hm⟩:=n
 refine ⟨o,ho,fun name=>?_⟩
 have e:=hm name
 unfold nsFind findBy at e
 rw [← Array.find?_toList] at e
 unfold PySem.W.lookIn
 rw [hd]
 dsimp only
 split
 ·rename_i y q
  rw [q] at e
  exact congrArg some e
 ·rename_i q
  rw [q] at e
  have a:es.toList.any (·.refKey)=false:=by
   rw [List.any_eq_false]
   intro y hy
   obtain ⟨z,t,hkey⟩:=hk y (Array.mem_toList_iff.mp hy)
   simp [DictEntry.refKey,hkey]
  have a':¬ es.toList.any (·.refKey)=true:=by rw [a];exact Bool.false_ne_true
  rw [if_neg a']
  exact congrArg some e
theorem ObjM.look {h:Heap}{x dx C:Addr}{mA:Str→Option Value} (I:ObjM h x dx C mA):∃ od,PySem.W.InstAt h x (PySem.W.instObj C dx) C (some od)∧∀ name,PySem.W.lookIn name od=some (mA name) :=
 let ⟨od,ho,hl⟩:=lookIn_ns I.ns
 ⟨od,⟨I.obj,rfl,rfl,ho⟩,hl⟩
section
variable {prog:Program}{w:World}{A:Around}{E:Value→Shared→Prop}{s:Shared}{K:PySem.W.Frag}{x dx C f:Addr}{mA:Str→Option Value}{name:Str}{v:Value}
theorem get_map {expr:Bool}{Q:Value→Shared→Prop} (X:K.In s.heap) (I:ObjM s.heap x dx C mA) (hg:PySem.W.plainGet K C name=true) (hh:PySem.W.hasDictIn K C=true)
  (ha:PySem.W.findIn K (.ref C) name=some none) (hv:mA name=some v) (hv':PySem.W.handedIn v=true) (h:Q v { s with toks:=s.toks+1 }) :
  wpAny (model prog w) A (getAttr (.ref x) name expr) Q E s:=by
 obtain ⟨od,J,hl⟩:=I.look
 exact PySem.W.get_value X J (PySem.W.plainGet_of hg).1 (PySem.W.findObj_own hh ha rfl (by rw [hl,hv])) hv' h
theorem get_meth {pl:Sem Bool}{Q:Value × List Value→Shared→Prop} (X:K.In s.heap) (I:ObjM s.heap x dx C mA) (hg:PySem.W.plainGet K C name=true)
  (hf:PySem.W.findIn K (.ref C) name=some (some (.ref f))) (ht:PySem.W.isFn K (.ref f)=true) (hv:mA name=none) (h:Q (.ref f,[.ref x]) s) :
  wpAny (model prog w) A (getMethod (.ref x) name pl) Q E s:=by
 obtain ⟨od,J,hl⟩:=I.look
 exact PySem.W.method_fn X J (PySem.W.plainGet_of hg).1 (PySem.W.plainGet_of hg).2 hf (beq_iff_eq.mp ht) (by show (PySem.W.lookIn name od).map (·.isSome)=some false;rw [hl,hv];rfl) h
theorem set_map {ns:List Str}{Q:Unit→Shared→Prop} (X:K.In s.heap) (I:ObjM s.heap x dx C mA)
  (hs:PySem.W.findIn K (.ref C) "__setattr__" = some (some (.builtin "object.__setattr__"))) (hp:PySem.W.plainOver K C=true) (ht:PySem.W.takerIn K C name=some none) (hh:PySem.W.hasDictIn K C=true)
  (hw:PySem.Within mA ns) (hsz:ns.length≤sizeLine)
  (h:∀ h',ObjM h' x dx C (fun y=>if y=name then some v else mA y)→Heap.SameBut dx s.heap h'→Q () { s with heap:=h',toks:=s.toks+2 }) :
  wpAny (model prog w) A (setAttr (.ref x) name v) Q E s:=by
 obtain ⟨od,J,hl⟩:=I.look
 refine PySem.W.set_plain X J hs (PySem.W.osa_open (s:={ s with toks:=s.toks+1 }) (r:=none) X J hp ht fun b=>?_)
 obtain ⟨cd,hc,hd'⟩:=PySem.W.any_some hh
 have hx:s.heap.get? x=some ⟨.ref C,some dx,.plain,#[]⟩:=I.obj
 refine wpAny_bind (wpAny_pure (wpAny_bind (wpAny_bind (wpAny_loadPart hx (wpAny_bind (PySem.W.Looks.here (s:={ s with toks:=s.toks+1 }) (PySem.W.looks_clsIn X hc) ?_))))))
 rw [hd']
 refine wpAny_pure (a:=some dx) (wpAny_bind (wpAny_pure (wpAny_bind ?_)))
 refine wpAny_nsSet1 (s:={ s with toks:=s.toks+1 }) I.ns fun h' hn2 hs2=>?_
 obtain ⟨oD,esD,epD,hoD,hdD,hcD⟩:=hn2.count (PySem.Within.cons name v hw)
 refine wpAny_bind (wpAny_lookBehind hoD (by rw [hdD];exact pastItsLine_dict (Nat.le_trans hcD (by rw [List.length_cons];omega))) ?_)
 exact wpAny_pure (h _ ⟨(hs2.2 _ (Ne.symm I.ne)).trans I.obj,hn2,I.ne⟩ hs2)
theorem make_map {R:Result→Shared→Prop}{vs:List Value}{kw:List (Str × Value)} (X:K.In s.heap) (hm:PySem.W.makesIn K C=true)
  (hi:PySem.W.findIn K (.ref C) "__init__" = some (some (.ref f))) (hf:PySem.W.typeIn K (.ref f)=some (.type "function"))
  (h:codeAny (model prog w) (A.under (.builtin "type.__call__" ⟨.ref C :: vs,kw⟩)) (.call (.ref f) ⟨.ref (s.heap.objs.size+1) :: vs,kw⟩) (PySem.W.InitBack (s.heap.objs.size+1) R)
   { s with heap:=(s.heap.push PySem.W.emptyDict).push (PySem.W.instObj C s.heap.objs.size) }) :
  codeAny (model prog w) A (.call (.ref C) ⟨vs,kw⟩) R s:=by
 obtain ⟨hh,g,d,t,os⟩:=s
 exact PySem.W.make_core (PySem.W.makes_of X hm) (PySem.W.looks_findIn X hi) (fun self=>PySem.W.bind_fn X self hf) (.inl rfl) h
end
def putF (f:Str) (v:V):List (Str × V)→List (Str × V)
 | []=>[(f,v)]
 | (g,x) :: r=>if g=f then (g,v) :: r else (g,x) :: putF f v r
theorem lookup_putF (f g:Str) (v:V):∀ fs:List (Str × V),(putF f v fs).lookup g=if g=f then some v else fs.lookup g
 | []=>by
  show List.lookup g [(f,v)]=_
  by_cases h:g=f
  ·have hb:(g == f)=true:=beq_iff_eq.mpr h
   simp only [List.lookup,hb,if_pos h]
  ·have hb:(g == f)=false:=beq_eq_false_iff_ne.mpr h
   simp only [List.lookup,hb,if_neg h]
 | (k,x) :: r=>by
  have ih:=lookup_putF f g v r
  rw [show putF f v ((k,x) :: r)=(if k=f then (k,v) :: r else (k,x) :: putF f v r) from rfl]
  by_cases hk:k=f
  ·rw [if_pos hk]
   by_cases h:g=k
   ·have hb:(g == k)=true:=beq_iff_eq.mpr h
    simp only [List.lookup,hb,if_pos (h.trans hk)]
   ·have hb:(g == k)=false:=beq_eq_false_iff_ne.mpr h
    simp only [List.lookup,hb,if_neg (fun e:g=f=>h (e.trans hk.symm))]
  ·rw [if_neg hk]
   by_cases h:g=k
   ·have hb:(g == k)=true:=beq_iff_eq.mpr h
    simp only [List.lookup,hb,if_neg (fun e:g=f=>hk (h.symm.trans e))]
   ·have hb:(g == k)=false:=beq_eq_false_iff_ne.mpr h
    simp only [List.lookup,hb]
    exact ih
theorem keys_putF (f:Str) (v:V):∀ fs:List (Str × V),f∈(putF f v fs).map (·.1)∧∀ g,g∈fs.map (·.1)→g∈(putF f v fs).map (·.1)
 | []=>⟨by simp [putF],fun g h=>by simp at h⟩
 | (k,x) :: r=>by
  obtain ⟨i1,i2⟩:=keys_putF f v r
  rw [show putF f v ((k,x) :: r)=(if k=f then (k,v) :: r else (k,x) :: putF f v r) from rfl]
  by_cases hk:k=f
  ·rw [if_pos hk]
   subst hk
   exact ⟨by simp,fun g h=>by simpa using h⟩
  ·rw [if_neg hk]
   refine ⟨?_,fun g h=>?_⟩
   ·rw [List.map_cons]
    exact List.mem_cons_of_mem _ i1
   ·rw [List.map_cons] at h ⊢
    rcases List.mem_cons.mp h with e | e
    ·exact List.mem_cons.mpr (.inl e)
    ·exact List.mem_cons_of_mem _ (i2 g e)
theorem length_putF (f:Str) (v:V):∀ fs:List (Str × V),(putF f v fs).length≤fs.length+1
 | []=>by simp [putF]
 | (k,x) :: r=>by
  have ih:=length_putF f v r
  rw [show putF f v ((k,x) :: r)=(if k=f then (k,v) :: r else (k,x) :: putF f v r) from rfl]
  by_cases hk:k=f
  ·rw [if_pos hk,List.length_cons,List.length_cons];omega
  ·rw [if_neg hk,List.length_cons,List.length_cons];omega
theorem RelO.some_of {v:V}{o:Option Value} (r:RelO (some v) o):∃ u,o=some u∧RelV v u:=by
 cases o with
 | none=>exact (show False from r).elim
 | some u=>exact ⟨u,rfl,r⟩
theorem RelO.none_of {o:Option Value} (r:RelO none o):o=none:=by
 cases o with
 | none=>rfl
 | some u=>exact (show False from r).elim
theorem handed_of {v:V}{u:Value} (r:RelV v u):PySem.W.handedIn u=true:=by
 cases v with
 | non=>cases (show u=Value.none from r);rfl
 | bl b=>cases (show u=Value.bool b from r);rfl
 | int i=>obtain ⟨t,e⟩:=(show ∃ t,u=Value.int i t from r);cases e;rfl
 | str x=>obtain ⟨t,e⟩:=(show ∃ t,u=Value.str x t from r);cases e;rfl
 | byt b=>obtain ⟨t,e⟩:=(show ∃ t,u=Value.bytes b t from r);cases e;rfl
 | flt b=>obtain ⟨t,e⟩:=(show ∃ t,u=Value.float b t from r);cases e;rfl
 | ref a=>cases (show u=Value.ref a from r);rfl
 | ty n=>cases (show u=Value.type n from r);rfl
section
variable {P:Program}{w:World}{H H':Hp}{h h':Heap}{a C dx:Addr}{fs fs':List (Str × V)}
theorem ins_get (hok:HOk P w H h) (e:H a=some (.ins C dx fs)):∃ mA,ObjM h a dx C mA∧(∀ f,RelO (fs.lookup f) (mA f))∧PySem.Within mA (fs.map (·.1))∧fs.length≤1000∧H dx=some (.own a):=by
 obtain ⟨d,z,ne,ob,mA,n,r,q⟩:=(show ObjOk P w H h a (.ins C dx fs) from hok a _ e)
 exact ⟨mA,⟨ob,n,ne⟩,r,q,z,d⟩
end
structure Cls (K:PySem.W.Frag) (C:Addr):Prop where
 pg:PySem.W.plainGet K C Str.empty=true
 hd:PySem.W.hasDictIn K C=true
 po:PySem.W.plainOver K C=true
 sa:PySem.W.findIn K (.ref C) "__setattr__" = some (some (.builtin "object.__setattr__"))
theorem Cls.get {K:PySem.W.Frag}{C:Addr} (c:Cls K C) (f:Str):PySem.W.plainGet K C f=true:=c.pg
def NoAttr (K:PySem.W.Frag) (C:Addr) (f:Str):Prop:=PySem.W.findIn K (.ref C) f=some none
theorem NoAttr.taker {K:PySem.W.Frag}{C:Addr}{f:Str} (n:NoAttr K C f):PySem.W.takerIn K C f=some none:=by
 unfold PySem.W.takerIn
 rw [show PySem.W.findIn K (.ref C) f=some none from n]
 rfl
structure Con (K:PySem.W.Frag) (C:Addr) (f:Str) (v:V) (u:Value):Prop where
 at_:PySem.W.findIn K (.ref C) f=some (some u)
 rel:RelV v u
 get:PySem.W.specialIn K u "__get__" = some none
 cp:PySem.W.copiedNames.contains f=false
structure Meth (K:PySem.W.Frag) (C:Addr) (m:Str) (f:Addr):Prop where
 at_:PySem.W.findIn K (.ref C) m=some (some (.ref f))
 fn:PySem.W.isFn K (.ref f)=true
 kp:PySem.W.keepIn K (.ref f)=true
section
variable {X:Cx}{pins:List (Addr × Obj)}{σ:St}{H:Hp}{s:Shared}{a C dx:Addr}{fs:List (Str × V)}{f:Str}{v:V}{A:Around}{E:Value→Shared→Prop}
theorem getattr_ok {b:Bool}{Q:Value→Shared→Prop} (I:Inv X pins σ H s) (e:H a=some (.ins C dx fs)) (c:Cls X.K C) (n:NoAttr X.K C f) (l:fs.lookup f=some v)
  (h:∀ u s',Inv X pins σ H s'→RelV v u→Q u s'):wpAny (model X.prog X.w) A (getAttr (.ref a) f b) Q E s:=by
 obtain ⟨mA,O,r,_,_,_⟩:=ins_get I.hok e
 obtain ⟨u,hu,ru⟩:=RelO.some_of (v:=v) (o:=mA f) (by rw [← l];exact r f)
 exact get_map I.kIn O (c.get f) c.hd n hu (handed_of ru) (h u _ (I.tok _) ru)
theorem getmeth_ok {m:Str}{g:Addr}{pl:Sem Bool}{Q:Value × List Value→Shared→Prop} (I:Inv X pins σ H s) (e:H a=some (.ins C dx fs)) (c:Cls X.K C) (k:Meth X.K C m g) (l:fs.lookup m=none)
  (h:Q (.ref g,[.ref a]) s):wpAny (model X.prog X.w) A (getMethod (.ref a) m pl) Q E s:=by
 obtain ⟨mA,O,r,_,_,_⟩:=ins_get I.hok e
 have hn:mA m=none:=RelO.none_of (by rw [← l];exact r m)
 exact get_meth I.kIn O (c.get m) k.at_ k.fn hn h
theorem setattr_ok {y:V}{u:Value}{Q:Unit→Shared→Prop} (I:Inv X pins σ H s) (e:H a=some (.ins C dx fs)) (c:Cls X.K C) (n:NoAttr X.K C f) (hl:fs.length<1000) (ry:RelV y u)
  (h:∀ s',Inv X pins σ (upd H a (.ins C dx (putF f y fs))) s'→Q () s'):wpAny (model X.prog X.w) A (setAttr (.ref a) f u) Q E s:=by
 obtain ⟨mA,O,r,wi,_,ho⟩:=ins_get I.hok e
 have hz:(fs.map (·.1)).length≤sizeLine:=by rw [List.length_map,sizeLine_eq];omega
 refine set_map I.kIn O c.sa c.po n.taker c.hd wi hz fun h' O' sb=>h _ ?_
 have hd:∃ o,h'.get? dx=some o:=let ⟨o,_,_,e',_⟩:=O'.ns;⟨o,e'⟩
 refine I.write (x:=a) (e:=dx) (by rw [e];exact True.intro) (.inr ho) (fun b q hb z=>(sb.2 b hb).trans z) hd ?_
 refine ⟨by rw [upd_ne O.ne];exact ho,?_,O.ne,O'.obj,_,O'.ns,fun g=>?_,fun g hg=>?_⟩
 ·have:=length_putF f y fs;omega
 ·show RelO ((putF f y fs).lookup g) (if g=f then some u else mA g)
  rw [lookup_putF]
  by_cases q:g=f
  ·rw [if_pos q,if_pos q];exact ry
  ·rw [if_neg q,if_neg q];exact r g
 ·by_cases q:g=f
  ·rw [q];exact (keys_putF f y fs).1
  ·refine (keys_putF f y fs).2 g (wi g fun z=>hg ?_)
   show (if g=f then some u else mA g)=none
   rw [if_neg q];exact z
theorem Inv.made (I:Inv X pins σ H s):Inv X pins σ (upd (upd H s.heap.objs.size (.own (s.heap.objs.size+1))) (s.heap.objs.size+1) (.ins C s.heap.objs.size []))
  { s with heap:=(s.heap.push PySem.W.emptyDict).push (PySem.W.instObj C s.heap.objs.size) }:=by
 have e1:(s.heap.push PySem.W.emptyDict).get? s.heap.objs.size=some PySem.W.emptyDict:=Heap.get?_push_size s.heap rfl
 have e2:((s.heap.push PySem.W.emptyDict).push (PySem.W.instObj C s.heap.objs.size)).get? (s.heap.objs.size+1)=some (PySem.W.instObj C s.heap.objs.size):=by
  have:=Heap.get?_push_size (s.heap.push PySem.W.emptyDict) (o:=PySem.W.instObj C s.heap.objs.size) rfl
  rwa [Heap.size_push] at this
 have e3:(s.heap.push PySem.W.emptyDict).Ns s.heap.objs.size (fun _=>none):=⟨PySem.W.emptyDict,#[],_,e1,rfl,(fun e he=>absurd he (by simp)),fun _=>rfl⟩
 have I1:=I.laid (a:=s.heap.objs.size) (o:=.own (s.heap.objs.size+1)) (h':=s.heap.push PySem.W.emptyDict) (t':=s.toks) (fun b u q=>Heap.get?_push_of_some _ q) (Nat.le_refl _) ⟨_,e1⟩
 refine I1.laid (a:=s.heap.objs.size+1) (o:=.ins C s.heap.objs.size []) (t':=s.toks) (fun b u q=>Heap.get?_push_of_some _ q) (Nat.le_of_eq (Heap.size_push _ _)) ?_
 have ne:s.heap.objs.size≠s.heap.objs.size+1:=Nat.ne_of_lt (Nat.lt_succ_self _)
 refine ⟨by rw [upd_ne ne,upd_same],Nat.zero_le _,ne,e2,fun _=>none,(Heap.Ns1.of_empty e3).at fun o q=>Heap.get?_push_of_some _ q,fun _=>True.intro,fun y hy=>absurd rfl hy⟩
theorem attr_of {prog:Program}{w:World}{env:Env}{e:Expr}{f:Str}{pos:Pos}{s:Shared}{Q:Value→Shared→Prop} (hb:attributeBase e f env (eval e env)=eval e env)
  (h:wpAny (model prog w) A (eval e env) (fun o s₁=>wpAny (model prog w) A (getAttr o f true) Q E s₁) E s):wpAny (model prog w) A (eval (.Attribute e f pos) env) Q E s :=
 Attribute_any_ h (by rw [arm_eval_Attribute,hb])
end
def tFld (K:PySem.W.Frag) (ta:TE) (f:Str):TE:=fun σ H Q=>ta σ H fun x H1=>∃ a C dx fs v,x=.ref a∧H1 a=some (.ins C dx fs)∧Cls K C∧NoAttr K C f∧fs.lookup f=some v∧Q v H1
def sFld (K:PySem.W.Frag) (ta tv:TE) (f:Str):TS:=fun D σ H=>tv σ H fun y H1=>ta σ H1 fun x H2=>∃ a C dx fs,x=.ref a∧H2 a=some (.ins C dx fs)∧Cls K C∧NoAttr K C f∧fs.length<1000 ∧
 D.nx σ (upd H2 a (.ins C dx (putF f y fs)))
section
variable {X:Cx}{o e value:Expr}{f:Str}{pos pos' tpos:Pos}{ta tv:TE}
theorem pe_fld (he:PE X e ta) (hb:attributeBase e f X.env (eval e X.env)=eval e X.env):PE X (.Attribute e f pos) (tFld X.K ta f):=by
 intro pins s σ H Q I h
 refine attr_of hb (thn (he pins s σ H _ I h) fun u s1 ⟨x,H1,I1,rx,a,C,dx,fs,v,ex,ea,c,n,l,q⟩=>?_)
 subst ex
 obtain rfl:u=Value.ref a:=rx
 exact getattr_ok I1 ea c n l fun u' s2 I2 ru=>⟨v,H1,I2,ru,q⟩
theorem ps_fld (ha:PE X o ta) (hv:PE X value tv) (hs:swapsWith value (some (.Attribute o f pos')) pos.line X.env=pure false):PS X (.Assign [.Attribute o f pos'] value pos) (sFld X.K ta tv f):=by
 intro pins s σ H D I h
 refine plainObj_wpAny_Assign_Attribute (thn (hv pins s σ H _ I h) fun u s1 ⟨y,H1,I1,ry,q⟩=>thn (ha pins s1 σ H1 _ I1 q) fun ov s2 ⟨x,H2,I2,rx,a,C,dx,fs,ex,ea,c,n,l,q2⟩=>?_) hs
 subst ex
 obtain rfl:ov=Value.ref a:=rx
 exact setattr_ok I2 ea c n l ry fun s3 I3=>⟨σ,_,I3,q2⟩
theorem methcall_of {pl:Sem Bool}{m:Str}{apos:Pos}{args:List Expr}{pins:List (Addr × Obj)}{s:Shared}{σ:St}{H:Hp}{Q:Value→Shared→Prop}{te:TE} (he:PE X e te) (I:Inv X pins σ H s)
  (h:te σ H fun x H1=>∃ a C dx fs g,x=.ref a∧H1 a=some (.ins C dx fs)∧Cls X.K C∧Meth X.K C m g∧fs.lookup m=none ∧
   ∀ s1,Inv X pins σ H1 s1→wpAny (model X.prog X.w) X.A (callWith pos (.ref g) [.ref a] (backTo pos (starEach args X.env)) (backToKw pos (keywordEach [] X.env))) Q X.xe s1)
  (ht:eval (.Call (.Attribute e m apos) args [] pos) X.env=(do
   let ov ← eval e X.env
   standAt apos.atName
   let (f,first) ← holding [ov] (getMethod ov m pl)
   callWith pos f first (backTo pos (starEach args X.env)) (backToKw pos (keywordEach [] X.env)))) :
  wpAny (model X.prog X.w) X.A (eval (.Call (.Attribute e m apos) args [] pos) X.env) Q X.xe s:=by
 refine PySem.W.methodCall_KW (pl:=pl) (thn (he pins s σ H _ I h) fun u s1 ⟨x,H1,I1,rx,a,C,dx,fs,g,ex,ea,c,k,l,q⟩=>?_) ht
 subst ex
 obtain rfl:u=Value.ref a:=rx
 exact getmeth_ok I1 ea c k l (q s1 I1)
end
section
variable {X:Cx}{pins:List (Addr × Obj)}{σ:St}{H:Hp}{s:Shared}{A:Around}{E:Value→Shared→Prop}{Q:Value→Shared→Prop}{c:Value}{b:Bool}
inductive TyOf (K:PySem.W.Frag) (H:Hp):V→Value→Prop where
 | non:TyOf K H .non (.type "NoneType")
 | bl (x:Bool):TyOf K H (.bl x) (.type "bool")
 | int (i:Int):TyOf K H (.int i) (.type "int")
 | str (x:Str):TyOf K H (.str x) (.type "str")
 | flt (x:UInt64):TyOf K H (.flt x) (.type "float")
 | lst {a:Addr}{xs:List V} (e:H a=some (.lst xs)):TyOf K H (.ref a) (.type "list")
 | frz {a:Addr}{o:Obj}{xs:List V} (e:H a=some (.frz o (.lst xs))):TyOf K H (.ref a) (.type "list")
 | tup {a:Addr}{xs:List V} (e:H a=some (.tup xs)):TyOf K H (.ref a) (.type "tuple")
 | dK {a:Addr}{kvs:List (Key × V)} (e:H a=some (.dK kvs)):TyOf K H (.ref a) (.type "dict")
 | dT {a:Addr}{kvs:List (List Key × V)} (e:H a=some (.dT kvs)):TyOf K H (.ref a) (.type "dict")
 | ins {a C dx:Addr}{fs:List (Str × V)} (e:H a=some (.ins C dx fs)) (cl:Cls K C) (ha:PySem.W.findIn K (.ref C) "__class__" = some (some (.builtin "object.__class__")))
   (hn:PySem.W.specialIn K (.builtin "object.__class__") "__get__" = some (some (.builtin "getset_descriptor.__get__"))) (htk:PySem.W.takesIn K (.builtin "object.__class__")=some true)
   (hm:PySem.W.mroIn K C (.type "object")=some true):TyOf K H (.ref a) (.ref C)
theorem isinst_ok {x:V}{u t:Value} (I:Inv X pins σ H s) (rx:RelV x u) (ty:TyOf X.K H x t) (e:PySem.W.kitOne X.K t c=some b) (h:∀ tk,Q (.bool b) { s with toks:=tk }) :
  wpAny (model X.prog X.w) A (call (.builtin "isinstance") [u,c]) Q E s:=by
 cases ty with
 | non=>cases (show u=Value.none from rx);exact PySem.W.kia_one PySem.W.kitx_none I.kIn True.intro e (fun z=>nomatch z) h
 | bl y=>cases (show u=Value.bool y from rx);exact PySem.W.kia_one PySem.W.kitx_bool I.kIn True.intro e (fun z=>nomatch z) h
 | int i=>obtain ⟨t,q⟩:=(show ∃ t,u=Value.int i t from rx);cases q;exact PySem.W.kia_one PySem.W.kitx_int I.kIn True.intro e (fun z=>nomatch z) h
 | str y=>obtain ⟨t,q⟩:=(show ∃ t,u=Value.str y t from rx);cases q;exact PySem.W.kia_one PySem.W.kitx_str I.kIn True.intro e (fun z=>nomatch z) h
 | flt y=>obtain ⟨t,q⟩:=(show ∃ t,u=Value.float y t from rx);cases q;exact PySem.W.kia_one PySem.W.kitx_float I.kIn True.intro e (fun z=>nomatch z) h
 | @lst a xs ea =>
  cases (show u=Value.ref a from rx)
  obtain ⟨_,_,n,_,h1⟩:=(show ObjOk X.prog X.w H s.heap a (.lst xs) from I.hok a _ ea)
  exact PySem.W.kia_one PySem.W.kitx_list I.kIn ⟨_,h1,rfl⟩ e (fun z=>nomatch z) h
 | @frz a ob xs ea =>
  cases (show u=Value.ref a from rx)
  obtain ⟨_,_,_,n,_,h1⟩:=(show ObjOk X.prog X.w H s.heap a (.frz ob (.lst xs)) from I.hok a _ ea)
  exact PySem.W.kia_one PySem.W.kitx_list I.kIn ⟨_,h1,rfl⟩ e (fun z=>nomatch z) h
 | @tup a xs ea =>
  cases (show u=Value.ref a from rx)
  obtain ⟨_,_,_,p⟩:=(show ObjOk X.prog X.w H s.heap a (.tup xs) from I.hok a _ ea)
  obtain ⟨o,h1,h2,_⟩:=p
  exact PySem.W.kia_one PySem.W.kitx_tuple I.kIn ⟨o,h1,h2⟩ e (fun z=>nomatch z) h
 | @dK a kvs ea =>
  cases (show u=Value.ref a from rx)
  obtain ⟨_,_,vs,_,p⟩:=(show ObjOk X.prog X.w H s.heap a (.dK kvs) from I.hok a _ ea)
  obtain ⟨o,es,ep,h1,h2,_⟩:=p
  exact PySem.W.kia_one PySem.W.kitx_dict I.kIn ⟨o,h1,h2.1⟩ e (fun z=>nomatch z) h
 | @dT a kvs ea =>
  cases (show u=Value.ref a from rx)
  obtain ⟨_,_,xs,_,o,es,ep,h1,h2,_⟩:=(show ObjOk X.prog X.w H s.heap a (.dT kvs) from I.hok a _ ea)
  exact PySem.W.kia_one PySem.W.kitx_dict I.kIn ⟨o,h1,h2.1⟩ e (fun z=>nomatch z) h
 | @ins a C dx fs ea cl ha hn htk hm =>
  cases (show u=Value.ref a from rx)
  obtain ⟨mA,O,_⟩:=ins_get I.hok ea
  obtain ⟨od,J,_⟩:=O.look
  exact PySem.W.kia_one (PySem.W.kitx_own (cl.get _) cl.hd ha hn htk hm) I.kIn J e (fun z=>nomatch z) h
end
structure Room (k:Nat) (A:Around):Prop where
 hd:A.handled=none
 dp:A.depth+3 * k+5<recursionLimit
 un:A.units+16 * k+200<cLine
theorem Room.mono {j k:Nat}{A:Around} (r:Room k A) (h:j≤k):Room j A:=⟨r.hd,by have:=r.dp;omega,by have:=r.un;omega⟩
theorem Room.deeper {k:Nat}{A:Around} (r:Room (k+1) A) (env:Env):Room k (A.deeper env) :=
 ⟨r.hd,by have:=r.dp;show A.depth+1+3 * k+5<_;omega,by have:=r.un;show A.units+3+16 * k+200<_;omega⟩
theorem Room.in1 {k:Nat}{A:Around} (r:Room (k+1) A):Room k A.in1 :=
 ⟨r.hd,by have:=r.dp;show A.depth+3 * k+5<_;omega,by have:=r.un;show A.units+1+16 * k+200<_;omega⟩
theorem make_depth {A:Around}{C:Addr}{us:List Value}{kw:List (Str × Value)}:(A.under (.builtin "type.__call__" ⟨.ref C :: us,kw⟩)).depth=A.depth+1:=by
 first | rfl | simp [Around.under,Code.weight,Code.isCreation,Code.isGuard,Code.isCaller,Code.frames,Code.isFrame,guardIds]
theorem make_units {A:Around}{C:Addr}{us:List Value}{kw:List (Str × Value)}:(A.under (.builtin "type.__call__" ⟨.ref C :: us,kw⟩)).units=A.units+1:=by
 first | rfl | simp [Around.under,Code.cUnits,Code.frames,Code.isFrame]
theorem Room.make {k:Nat}{A:Around} (r:Room (k+1) A) (C:Addr) (us:List Value) (kw:List (Str × Value)):Room k (A.under (.builtin "type.__call__" ⟨.ref C :: us,kw⟩)) :=
 ⟨r.hd,by have:=r.dp;rw [make_depth];omega,by have:=r.un;rw [make_units];omega⟩
theorem Room.depth {k:Nat}{A:Around} (r:Room k A):A.depth<recursionLimit:=by have:=r.dp;omega
theorem Room.units {k:Nat}{A:Around} (r:Room k A):A.units+64<cLine:=by have:=r.un;omega
def tNil:TA:=fun _ H Q=>Q [] H
def tCons (ta:TE) (tr:TA):TA:=fun σ H Q=>ta σ H fun x H1=>tr σ H1 fun xs H2=>Q (x :: xs) H2
section
variable {X:Cx}{e:Expr}{es:List Expr}{te:TE}{t:TA}{pos:Pos}
theorem pa_nil:PA X [] tNil:=fun _ _ _ _ H Q I h=>Calls.spliced_nil ⟨[],H,I,.nil,h⟩
theorem pa_cons (ha:PE X e te) (hr:PA X es t) (hs:starEach (e :: es) X.env=(false,eval e X.env) :: starEach es X.env:=by rfl):PA X (e :: es) (tCons te t):=by
 intro pos pins s σ H Q I h
 rw [hs]
 show wpAny _ _ (spliced ((false,eval e X.env) :: backTo pos (starEach es X.env))) _ _ s
 refine Calls.spliced_cons (thn (ha pins s σ H _ I h) fun u s1 ⟨x,H1,I1,r1,q1⟩=>?_)
 exact thn (hr pos pins s1 σ H1 _ I1 q1) fun us s2 ⟨xs,H2,I2,r2,q2⟩=>⟨x :: xs,H2,I2,.cons r1 r2,q2⟩
def tTup (t:TA):TE:=fun σ H Q=>t σ H fun xs H1=>xs.length≤sizeLine∧∀ p,H1 p=none→Q (.ref p) (upd H1 p (.tup xs))
def tLst (t:TA):TE:=fun σ H Q=>t σ H fun xs H1=>xs.length≤sizeLine∧∀ p,H1 p=none→Q (.ref p) (upd H1 p (.lst xs))
theorem pe_tup {x1} (h:PA X es t):PE X (.Tuple es x1 pos) (tTup t):=by
 intro pins s σ H Q I hq
 refine wpAny_Tuple_spliced (thn (h pos pins s σ H _ I hq) fun us s1 ⟨xs,H1,I1,r,z,q⟩=>⟨by rw [← r.length];exact z,?_⟩)
 have hf:H1 s1.heap.objs.size=none:=I1.hok.fresh (Nat.le_refl _)
 refine ⟨.ref s1.heap.objs.size,upd H1 s1.heap.objs.size (.tup xs),I1.laid (t':=s1.toks) (fun b u e=>Heap.get?_push_of_some _ e) (Nat.le_refl _) ?_,rfl,q _ hf⟩
 exact ⟨z,us,r,⟨_,Heap.get?_push_size _ rfl,rfl,_,rfl⟩⟩
theorem pe_lst (h:PA X es t):PE X (.List es pos) (tLst t):=by
 intro pins s σ H Q I hq
 refine wpAny_List_spliced (thn (h pos pins s σ H _ I hq) fun us s1 ⟨xs,H1,I1,r,z,q⟩=>⟨by rw [← r.length];exact z,?_⟩)
 have hf:H1 s1.heap.objs.size=none:=I1.hok.fresh (Nat.le_refl _)
 refine ⟨.ref s1.heap.objs.size,upd H1 s1.heap.objs.size (.lst xs),I1.laid (t':=s1.toks) (fun b u e=>Heap.get?_push_of_some _ e) (Nat.le_refl _) ?_,rfl,q _ hf⟩
 exact ⟨z,us,0,r,Heap.get?_push_size _ rfl⟩
end
abbrev Sp:=List V→Hp→VK→XK→Prop
abbrev CXT:=List Env→Hp→Shared→XK→Value→Shared→Prop
structure Env0 (P:Program) (w:World) (K:PySem.W.Frag) (mg:Str→Option Value) (base:Heap) (A:Around) (outer:List Env) (s:Shared) (H:Hp):Prop where
 frames:A.frames=some outer
 mod:Mod K mg base
 bs:∀ b o,base.get? b=some o→s.heap.get? b=some o∧H b=none
 bsz:base.objs.size≤s.heap.objs.size
 funs:s.heap.FunFrames base outer
 frf:∀ b∈frs outer,H b=none
 hok:HOk P w H s.heap
 bare:AllBare s.gens
def CE (outer:List Env) (P:Program) (w:World) (H:Hp) (s:Shared) (Q:VK) (u:Value) (s':Shared):Prop :=
 ∃ v H',s'.os=s.os∧AllBare s'.gens∧Un (frs outer) [] H H' s.heap s'.heap∧HOk P w H' s'.heap∧RelV v u∧Q v H'
def CR (CX:CXT) (outer:List Env) (P:Program) (w:World) (H:Hp) (s:Shared) (Q:VK) (E:XK) (r:Result) (s':Shared):Prop :=
 match r with
 | .ok (.ret u)=>CE outer P w H s Q u s'
 | .ok _=>False
 | .error e=>CX outer H s E e s'
structure FnOk (P:Program) (w:World) (K:PySem.W.Frag) (mg:Str→Option Value) (base:Heap) (CX:CXT) (k:Nat) (f:Addr) (fd:FuncData) (ps:List Str) (sp:Sp):Prop where
 len:∀ vs H Q E,sp vs H Q E→vs.length=ps.length
 run:∀ (A:Around) (outer:List Env) (s:Shared) (H:Hp) (args:Args) (us:List Value) (vs:List V) (Q:VK) (E:XK),Room k A→Env0 P w K mg base A outer s H→BindsTo s fd args (ps.zip us)→Vals vs us→sp vs H Q E →
  codeAny (model P w) A (.call (.ref f) args) (CR CX outer P w H s Q E) s
theorem Env0.make {P:Program}{w:World}{K:PySem.W.Frag}{mg:Str→Option Value}{base:Heap}{A:Around}{outer:List Env}{s:Shared}{H:Hp} (e:Env0 P w K mg base A outer s H) (C:Addr) (us:List Value) (kw:List (Str × Value)) :
  Env0 P w K mg base (A.under (.builtin "type.__call__" ⟨.ref C :: us,kw⟩)) outer s H:=⟨by first | exact e.frames | (simpa [Around.under,Code.envs,Code.isFrame,pushEnvs] using e.frames),e.mod,e.bs,e.bsz,e.funs,e.frf,e.hok,e.bare⟩
theorem Env0.in1 {P:Program}{w:World}{K:PySem.W.Frag}{mg:Str→Option Value}{base:Heap}{A:Around}{outer:List Env}{s:Shared}{H:Hp} (e:Env0 P w K mg base A outer s H) :
  Env0 P w K mg base A.in1 outer s H:=⟨e.frames,e.mod,e.bs,e.bsz,e.funs,e.frf,e.hok,e.bare⟩
section
variable {X:Cx}{pins:List (Addr × Obj)}{σ:St}{H:Hp}{s s':Shared}
theorem Inv.env0 (I:Inv X pins σ H s):Env0 X.prog X.w X.K X.mg X.base X.A X.stack s H :=
 ⟨I.ok.frames,I.ok.mod,I.bs,Nat.le_trans I.ok.bsz I.sz,I.stack,I.stkFree,I.hok,I.bare⟩
theorem Inv.after {Q:VK}{u:Value} (I:Inv X pins σ H s) (h:CE X.stack X.prog X.w H s Q u s'):EP X pins σ Q u s':=by
 obtain ⟨v,H',os,bare,un,hok,r,q⟩:=h
 obtain ⟨hh,g,d,t,os'⟩:=s'
 obtain rfl:os'=s.os:=os
 exact ⟨v,H',I.call (h':=hh) (g':=g) (d':=d) (t':=t) (ch:=[]) un hok bare (fun b z=>absurd z (by simp)),r,q⟩
end
def tCall (sp:Sp) (dvs:List V) (E:XK) (t:TA):TE:=fun σ H Q=>t σ H fun vs H1=>sp (vs ++ dvs) H1 Q E
def tMeth (C:Addr) (m:Str) (sp:Sp) (dvs:List V) (E:XK) (ta:TE) (t:TA):TE:=fun σ H Q=>ta σ H fun x H1=>∃ a dx fs,x=.ref a∧H1 a=some (.ins C dx fs)∧fs.lookup m=none ∧
 t σ H1 fun vs H2=>sp (x :: (vs ++ dvs)) H2 Q E
def tMake (C:Addr) (sp:Sp) (dvs:List V) (E:XK) (t:TA):TE:=fun σ H Q=>t σ H fun vs H1=>∀ x dx,H1 x=none→H1 dx=none→dx≠x →
 sp (.ref x :: (vs ++ dvs)) (upd (upd H1 dx (.own x)) x (.ins C dx [])) (fun v H2=>v=.non∧Q (.ref x) H2) E
def Binds (K:PySem.W.Frag) (fd:FuncData) (ps:List Str) (ds:List Value):Prop :=
 ∀ (s:Shared) (us:List Value),K.In s.heap→(us ++ ds).length=ps.length→BindsTo s fd ⟨us,[]⟩ (ps.zip (us ++ ds))
theorem Binds.all {K:PySem.W.Frag}{fd:FuncData}{ps:List Str} (h:∀ us:List Value,us.length=ps.length→bindArgs fd ⟨us,[]⟩=pure (ps.zip us)):Binds K fd ps []:=fun s us _ hl=>by
 rw [List.append_nil] at hl ⊢
 exact .of_eq (h us hl)
def Passes (CX:CXT) (X:Cx) (E:XK):Prop:=∀ (pins:List (Addr × Obj)) (σ:St) (H:Hp) (s:Shared) (e:Value) (s':Shared),Inv X pins σ H s→CX X.stack H s E e s'→X.xe e s'
section
variable {X:Cx}{CX:CXT}{k:Nat}{f C:Addr}{fd:FuncData}{ps:List Str}{sp:Sp}{dvs:List V}{ds:List Value}{E:XK}{x m:Str}{p pos apos:Pos}{e o:Expr}{es:List Expr}{ta:TE}{t:TA}
theorem run_fn {pins:List (Addr × Obj)}{σ:St}{H:Hp}{s:Shared}{Q:VK}{us:List Value}{vs:List V} (F:FnOk X.prog X.w X.K X.mg X.base CX k f fd ps sp) (hr:Room k X.A) (hb:Binds X.K fd ps ds) (hd:Vals dvs ds) (hx:Passes CX X E)
  (I:Inv X pins σ H s) (r:Vals vs us) (h:sp (vs ++ dvs) H Q E):wpAny (model X.prog X.w) X.A (call (.ref f) us) (EP X pins σ Q) X.xe s:=by
 have r2:Vals (vs ++ dvs) (us ++ ds):=r.append hd
 have hl:(us ++ ds).length=ps.length:=by rw [← r2.length];exact F.len _ _ _ _ h
 refine wpAny_call (codeAny_mono (F.run X.A X.stack s H ⟨us,[]⟩ (us ++ ds) (vs ++ dvs) Q E hr I.env0 (hb s us I.kIn hl) r2 h) fun r s' hq=>?_)
 cases r with
 | error e=>exact hx pins σ H s e s' I hq
 | ok fl =>
  cases fl with
  | ret u=>exact I.after hq
  | next=>exact False.elim hq
  | brk=>exact False.elim hq
  | cont=>exact False.elim hq
theorem pe_call (F:FnOk X.prog X.w X.K X.mg X.base CX k f fd ps sp) (hr:Room k X.A) (hg:Gl X x) (hm:X.mg x=some (.ref f)) (hk:PySem.W.keepIn X.K (.ref f)=true) (hb:Binds X.K fd ps ds) (hd:Vals dvs ds) (hx:Passes CX X E)
  (ha:PA X (e :: es) t) (hdb:(x == ("__debug__" : Str))=false:=by decide) (he:starEach (e :: es) X.env=(false,eval e X.env) :: starEach es X.env:=by rfl) (hpl:(backTo pos (starEach es X.env)).any (·.1)=false:=by rfl) :
  PE X (.Call (.Name x p) (e :: es) [] pos) (tCall sp dvs E t):=by
 intro pins s σ H Q I h
 refine wpAny_Call_Name_kw (ld_glob I hg hm ?_ hdb)
 refine PySem.W.callWith_K (h₀:=X.base) I.ok.mod.kin hk (thn (ha pos pins s σ H _ I h) fun us s1 ⟨vs,H1,I1,r,q⟩=>⟨I1.kIn,?_⟩) he hpl
 exact run_fn F hr hb hd hx I1 r q
theorem pe_meth {pl:Sem Bool} (he:PE X o ta) (c:Cls X.K C) (hm:Meth X.K C m f) (F:FnOk X.prog X.w X.K X.mg X.base CX k f fd ps sp) (hr:Room k X.A) (hb:Binds X.K fd ps ds) (hd:Vals dvs ds) (hx:Passes CX X E) (ha:PA X (e :: es) t)
  (hst:starEach (e :: es) X.env=(false,eval e X.env) :: starEach es X.env:=by rfl) (hpl:(backTo pos (starEach es X.env)).any (·.1)=false:=by rfl)
  (ht:eval (.Call (.Attribute o m apos) (e :: es) [] pos) X.env=(do
   let ov ← eval o X.env
   standAt apos.atName
   let (f,first) ← holding [ov] (getMethod ov m pl)
   callWith pos f first (backTo pos (starEach (e :: es) X.env)) (backToKw pos (keywordEach [] X.env))):=by rfl) :
  PE X (.Call (.Attribute o m apos) (e :: es) [] pos) (tMeth C m sp dvs E ta t):=by
 intro pins s σ H Q I h
 refine PySem.W.methodCall_KW (pl:=pl) (thn (he pins s σ H _ I h) fun u s1 ⟨x,H1,I1,rx,a,dx,fs,ex,ea,l,q⟩=>?_) ht
 subst ex
 obtain rfl:u=Value.ref a:=rx
 refine getmeth_ok I1 ea c hm l ?_
 refine PySem.W.callWith_K (first:=[.ref a]) (h₀:=X.base) I.ok.mod.kin hm.kp (thn (ha pos pins s1 σ H1 _ I1 q) fun us s2 ⟨vs,H2,I2,r,q2⟩=>⟨I2.kIn,?_⟩) hst hpl
 exact run_fn (us:=.ref a :: us) (vs:=.ref a :: vs) F hr hb hd hx I2 (.cons rfl r) q2
theorem pe_meth0 {pl:Sem Bool} (he:PE X o ta) (c:Cls X.K C) (hm:Meth X.K C m f) (F:FnOk X.prog X.w X.K X.mg X.base CX k f fd ps sp) (hr:Room k X.A) (hb:Binds X.K fd ps ds) (hd:Vals dvs ds) (hx:Passes CX X E)
  (ht:eval (.Call (.Attribute o m apos) [] [] pos) X.env=(do
   let ov ← eval o X.env
   standAt apos.atName
   let (f,first) ← holding [ov] (getMethod ov m pl)
   callWith pos f first (backTo pos (starEach [] X.env)) (backToKw pos (keywordEach [] X.env))):=by rfl) :
  PE X (.Call (.Attribute o m apos) [] [] pos) (tMeth C m sp dvs E ta tNil):=by
 intro pins s σ H Q I h
 refine PySem.W.methodCall_KW (pl:=pl) (thn (he pins s σ H _ I h) fun u s1 ⟨x,H1,I1,rx,a,dx,fs,ex,ea,l,q⟩=>?_) ht
 subst ex
 obtain rfl:u=Value.ref a:=rx
 refine getmeth_ok I1 ea c hm l ?_
 exact PySem.W.callWith_K0 (first:=[.ref a]) I1.kIn hm.kp (run_fn (us:=[.ref a]) (vs:=[.ref a]) F hr hb hd hx I1 (.cons rfl .nil) q)
structure Mk (K:PySem.W.Frag) (C f:Addr):Prop where
 makes:PySem.W.makesIn K C=true
 init:PySem.W.findIn K (.ref C) "__init__" = some (some (.ref f))
 fn:PySem.W.isFn K (.ref f)=true
 kp:PySem.W.keepIn K (.ref C)=true
theorem run_make {pins:List (Addr × Obj)}{σ:St}{H:Hp}{s:Shared}{Q:VK}{us:List Value}{vs:List V} (M:Mk X.K C f) (F:FnOk X.prog X.w X.K X.mg X.base CX k f fd ps sp) (hr:Room (k+1) X.A) (hb:Binds X.K fd ps ds) (hd:Vals dvs ds)
  (hx:Passes CX X E) (I:Inv X pins σ H s) (r:Vals vs us)
  (h:∀ x dx,H x=none→H dx=none→dx≠x→sp (.ref x :: (vs ++ dvs)) (upd (upd H dx (.own x)) x (.ins C dx [])) (fun v H2=>v=.non∧Q (.ref x) H2) E) :
  wpAny (model X.prog X.w) X.A (call (.ref C) us) (EP X pins σ Q) X.xe s:=by
 have hq:=h (s.heap.objs.size+1) s.heap.objs.size (I.hok.fresh (Nat.le_succ _)) (I.hok.fresh (Nat.le_refl _)) (Nat.ne_of_lt (Nat.lt_succ_self _))
 have I2:=Inv.made (C:=C) I
 have r2:Vals (V.ref (s.heap.objs.size+1) :: (vs ++ dvs)) (Value.ref (s.heap.objs.size+1) :: (us ++ ds)):=.cons rfl (r.append hd)
 have hl:(Value.ref (s.heap.objs.size+1) :: us ++ ds).length=ps.length:=by
  have e:=r2.length
  rw [F.len _ _ _ _ hq] at e
  exact e.symm
 refine wpAny_call (make_map (f:=f) I.kIn M.makes M.init (beq_iff_eq.mp M.fn) (codeAny_mono (F.run _ X.stack _ _ ⟨Value.ref (s.heap.objs.size+1) :: us,[]⟩ (Value.ref (s.heap.objs.size+1) :: (us ++ ds)) _ _ E (hr.make C us [])
  (I2.env0.make C us []) (hb _ (Value.ref (s.heap.objs.size+1) :: us) I2.kIn hl) r2 hq) fun r s' hq'=>?_))
 cases r with
 | error e=>exact hx pins σ _ _ e s' I2 hq'
 | ok fl =>
  cases fl with
  | ret u =>
   obtain ⟨v,H',I3,rv,ev,q3⟩:=I2.after hq'
   subst ev
   exact ⟨rv,⟨V.ref (s.heap.objs.size+1),H',I3,rfl,q3⟩⟩
  | next=>exact False.elim hq'
  | brk=>exact False.elim hq'
  | cont=>exact False.elim hq'
theorem pe_make (M:Mk X.K C f) (F:FnOk X.prog X.w X.K X.mg X.base CX k f fd ps sp) (hr:Room (k+1) X.A) (hg:Gl X x) (hm:X.mg x=some (.ref C)) (hb:Binds X.K fd ps ds) (hd:Vals dvs ds) (hx:Passes CX X E)
  (ha:PA X (e :: es) t) (hdb:(x == ("__debug__" : Str))=false:=by decide) (he:starEach (e :: es) X.env=(false,eval e X.env) :: starEach es X.env:=by rfl) (hpl:(backTo pos (starEach es X.env)).any (·.1)=false:=by rfl) :
  PE X (.Call (.Name x p) (e :: es) [] pos) (tMake C sp dvs E t):=by
 intro pins s σ H Q I h
 refine wpAny_Call_Name_kw (ld_glob I hg hm ?_ hdb)
 refine PySem.W.callWith_K (h₀:=X.base) I.ok.mod.kin M.kp (thn (ha pos pins s σ H _ I h) fun us s1 ⟨vs,H1,I1,r,q⟩=>⟨I1.kIn,?_⟩) he hpl
 exact run_make M F hr hb hd hx I1 r q
end
def PK (X:Cx) (kws:List Keyword) (t:TA):Prop :=
 ∀ (pos:Pos) (pins:List (Addr × Obj)) (s:Shared) (σ:St) (H:Hp) (Q:List V→Hp→Prop),Inv X pins σ H s→t σ H Q→wpAny (model X.prog X.w) X.A (evalAll ((backToKw pos (keywordEach kws X.env)).map (·.2))) (AP X pins σ Q) X.xe s
section
variable {X:Cx}{CX:CXT}{k:Nat}{f C:Addr}{fd:FuncData}{ps ks:List Str}{sp:Sp}{E:XK}{x m:Str}{p pos apos kpos:Pos}{e o:Expr}{es:List Expr}{kws:List Keyword}{te ta:TE}{t tk:TA}{nm:Option Str}
structure KBinds (K:PySem.W.Frag) (fd:FuncData) (ps ks:List Str) (g:List Value→List Value→List Value) (gV:List V→List V→List V):Prop where
 to:∀ (s:Shared) (us ws:List Value),K.In s.heap→(g us ws).length=ps.length→BindsTo s fd ⟨us,ks.zip ws⟩ (ps.zip (g us ws))
 rel:∀ {vs:List V}{us:List Value}{zs:List V}{ws:List Value},Vals vs us→Vals zs ws→Vals (gV vs zs) (g us ws)
variable {g:List Value→List Value→List Value}{gV:List V→List V→List V}
end
structure FnScope (N P:List Str) (sc:Scope):Prop where
 kind:sc.kind=.function
 co:sc.isCoroutine=false
 gen:sc.isGenerator=false
 nd:N.Nodup
 pre:N.take P.length=P
 par:∀ x∈P,sc.names.lookup x=some .local∨sc.names.lookup x=some .cell
 nofree:∀ y∈sc.names,y.2≠.free
theorem bindL_out {kindOf:Str→Option NameKind}{x:Str}:∀ {binds:List (Str × Value)}{m:Str→Option Value},(∀ v,(x,v) ∉ binds)→bindL kindOf binds m x=m x
 | [],_,_=>rfl
 | (n,v) :: r,m,h=>by
  unfold bindL
  rw [bindL_out fun w hw=>h w (List.mem_cons_of_mem _ hw)]
  split
  ·have:x≠n:=by rintro rfl;exact h v List.mem_cons_self
   simp [this]
  ·rfl
theorem bindC_out {kindOf:Str→Option NameKind}{x:Str}:∀ {binds:List (Str × Value)}{m:Str→Option Value},(∀ v,(x,v) ∉ binds)→bindC kindOf binds m x=m x
 | [],_,_=>rfl
 | (n,v) :: r,m,h=>by
  unfold bindC
  rw [bindC_out fun w hw=>h w (List.mem_cons_of_mem _ hw)]
  split
  ·rfl
  ·have:x≠n:=by rintro rfl;exact h v List.mem_cons_self
   simp [this]
theorem bindL_get {kindOf:Str→Option NameKind}{x:Str}{v:Value}:∀ {P:List Str}{vs:List Value}{i:Nat}{m:Str→Option Value},P.Nodup→P[i]? = some x→vs[i]? = some v→kindOf x=some .local →
  bindL kindOf (P.zip vs) m x=some v
 | [],_,_,_,_,h,_,_=>by simp at h
 | _ :: _,[],_,_,_,_,h,_=>by simp at h
 | p :: P,w :: vs,0,m,nd,h1,h2,hk=>by
  simp at h1 h2;subst h1;subst h2
  show bindL kindOf ((p,w) :: P.zip vs) m p=_
  unfold bindL
  rw [bindL_out fun v hv=>(List.nodup_cons.mp nd).1 (List.of_mem_zip hv).1,if_pos hk]
  simp
 | p :: P,w :: vs,i+1,m,nd,h1,h2,hk=>by
  show bindL kindOf ((p,w) :: P.zip vs) m x=_
  unfold bindL
  exact bindL_get (i:=i) (List.nodup_cons.mp nd).2 (by simpa using h1) (by simpa using h2) hk
theorem bindC_get {kindOf:Str→Option NameKind}{x:Str}{v:Value}:∀ {P:List Str}{vs:List Value}{i:Nat}{m:Str→Option Value},P.Nodup→P[i]? = some x→vs[i]? = some v→kindOf x≠some .local →
  bindC kindOf (P.zip vs) m x=some v
 | [],_,_,_,_,h,_,_=>by simp at h
 | _ :: _,[],_,_,_,_,h,_=>by simp at h
 | p :: P,w :: vs,0,m,nd,h1,h2,hk=>by
  simp at h1 h2;subst h1;subst h2
  show bindC kindOf ((p,w) :: P.zip vs) m p=_
  unfold bindC
  rw [bindC_out fun v hv=>(List.nodup_cons.mp nd).1 (List.of_mem_zip hv).1,if_neg hk]
  simp
 | p :: P,w :: vs,i+1,m,nd,h1,h2,hk=>by
  show bindC kindOf ((p,w) :: P.zip vs) m x=_
  unfold bindC
  exact bindC_get (i:=i) (List.nodup_cons.mp nd).2 (by simpa using h1) (by simpa using h2) hk
def start (N:List Str) (vs:List V):St:=vs.map some ++ List.replicate (N.length - vs.length) none
def cxOf (CX:CXT) (P:Program) (w:World) (K:PySem.W.Frag) (mg:Str→Option Value) (base:Heap) (N:List Str) (qual:Str) (scope:Scope) (f:Addr) (cd:Value) (A:Around) (outer:List Env) (s:Shared) (H:Hp) (E:XK):Cx where
 prog:=P
 w:=w
 K:=K
 mg:=mg
 base:=base
 A:=A.deeper (envOfC qual scope s.heap.objs.size f cd)
 N:=N
 s₀:=s
 H₀:=H
 env:=envOfC qual scope s.heap.objs.size f cd
 outer:=outer
 stack:=envOfC qual scope s.heap.objs.size f cd :: outer
 ex:=[]
 calm:=true
 fn:=fun _=>true
 pn:=[]
 xe:=fun e s'=>wpAny (model P w) (A.deeper (envOfC qual scope s.heap.objs.size f cd)) (leaving (envOfC qual scope s.heap.objs.size f cd) e) (fun _ s''=>CX outer H s E e s'') (fun e' s''=>CX outer H s E e' s'') s'
theorem cell_has {sc:Scope}{n:Nat}{x:Str} (h:sc.names.lookup x=some .cell):∃ c,(cellsFrom n sc.names []).lookup x=some c:=by
 have q:=PySem.W.cellsFrom_some sc.names n [] (.inl h)
 exact Option.isSome_iff_exists.mp q
theorem inv_start {CX:CXT}{P:Program}{w:World}{K:PySem.W.Frag}{mg:Str→Option Value}{base:Heap}{N ps:List Str}{qual:Str}{scope:Scope}{f:Addr}{cd:Value}{A:Around}{outer:List Env}{s s1:Shared}{H:Hp}{E:XK}{us:List Value}{vs:List V}
  (S:FnScope N ps scope) (hd:A.handled=none) (e0:Env0 P w K mg base A outer s H) (hl:vs.length=ps.length) (r:Vals vs us)
  (x:InCallC s s.heap.objs.size (bindL (envOfC qual scope s.heap.objs.size f cd).kindOf (ps.zip us) fun _=>none) (cellsFrom (s.heap.objs.size+1) scope.names []) (bindC (envOfC qual scope s.heap.objs.size f cd).kindOf (ps.zip us) fun _=>none) s1) :
  Inv (cxOf CX P w K mg base N qual scope f cd A outer s H E) [] (start N vs) H s1:=by
 have hpl:ps.length≤N.length:=by have:=congrArg List.length S.pre;rw [List.length_take] at this;omega
 obtain ⟨h1,tk,rfl,hk⟩:=x.done
 have noA:∀ b:Addr,b ∉ (cxOf CX P w K mg base N qual scope f cd A outer s H E).ex:=fun b z=>absurd (show b∈([]:List Addr) from z) (by simp)
 refine ⟨⟨e0.mod,S.kind,rfl,rfl,Nat.le_refl _,fun y z c h1 h2=>?_,fun y hy=>?_,fun y c _ h=>?_,fun _=>hd,Around.frames_deeper e0.frames,.inr ⟨rfl,rfl⟩,fun b z=>absurd z (noA b),e0.bs,e0.bsz,fun b _ _=>noA b,fun b z=>absurd z (noA b),e0.funs,e0.frf⟩,
  rfl,e0.bare,Un.kept hk,⟨_,x.toInCall.ns,fun i y v h1 h2 h3=>?_⟩,fun y c h=>⟨_,x.cell y c h⟩,e0.hok.fresh (Nat.le_refl _),fun y c h=>?_,fun p hp=>absurd (show p∈([]:List (Addr × Obj)) from hp) (by simp),e0.hok.kept hk,?_⟩
 ·exact name_of_addr x.apart (PySem.mem_of_lookup h1) (PySem.mem_of_lookup h2)
 ·have hy:scope.names.lookup y=some .cell∨scope.names.lookup y=some .free:=hy
  rcases hy with hy | hy
  ·exact cell_has hy
  ·exact absurd rfl (S.nofree _ (PySem.mem_of_lookup hy))
 ·exact Nat.le_of_lt (x.above y c (PySem.mem_of_lookup h))
 ·have hi:i<vs.length:=by
   unfold start at h2
   by_cases hi:i<vs.length
   ·exact hi
   ·rw [List.getElem?_append_right (by simpa using hi)] at h2
    rw [List.getElem?_replicate] at h2
    split at h2 <;> cases h2
  have ha:vs[i]? = some v:=by
   unfold start at h2
   rw [List.getElem?_append_left (by simpa using hi),List.getElem?_map] at h2
   cases e:vs[i]? with
   | none=>rw [e] at h2;cases h2
   | some a=>rw [e] at h2;cases h2;rfl
  obtain ⟨u,hu,rv⟩:=r.get ha
  have hp:ps[i]? = some y:=by
   rw [← S.pre,List.getElem?_take_of_lt (by omega)];exact h1
  have ndP:ps.Nodup:=by rw [← S.pre];exact S.nd.sublist (List.take_sublist _ _)
  refine ⟨u,rv,?_⟩
  rcases S.par y (List.mem_of_getElem? hp) with k | k
  ·exact .inl ⟨k,bindL_get ndP hp hu k⟩
  ·obtain ⟨c,e⟩:=cell_has (n:=s.heap.objs.size+1) k
   refine .inr ⟨.inl k,c,e,?_⟩
   have q:=x.cell y c e
   rw [bindC_get ndP hp hu (by show scope.names.lookup y≠_;rw [k];decide)] at q
   exact q
 ·exact e0.hok.fresh (Nat.le_of_lt (x.above y c (PySem.mem_of_lookup h)))
 ·unfold start
  show _=N.length
  rw [List.length_append,List.length_map,List.length_replicate]
  omega
theorem fn_of {CX:CXT}{P:Program}{w:World}{K:PySem.W.Frag}{mg:Str→Option Value}{base:Heap}{k:Nat}{f:Addr}{name qual:Str}{params:Arguments}{body:List Stmt}{scope:Scope}{dV kV doc pm cdv ct oc:Value}{an od:Option Addr}
  {osl:Array (Option Value)}{N ps:List Str}{sp:Sp} (lk:K.lookup f=some ⟨oc,od,.func (PySem.W.fnOf name qual params body scope dV kV doc pm an cdv ct),osl⟩) (hcd:PySem.W.codeIn K cdv qual=true) (S:FnScope N ps scope)
  (len:∀ vs H Q E,sp vs H Q E→vs.length=ps.length)
  (hbody:∀ (A:Around) (outer:List Env) (s:Shared) (H:Hp) (vs:List V) (Q:VK) (E:XK),Room k (A.deeper (envOfC qual scope s.heap.objs.size f cdv))→sp vs H Q E →
   ∃ t,PSs (cxOf CX P w K mg base N qual scope f cdv A outer s H E) body t∧t { nx:=fun _ H'=>Q .non H',rt:=Q } (start N vs) H) :
  FnOk P w K mg base CX (k+1) f (PySem.W.fnOf name qual params body scope dV kV doc pm an cdv ct) ps sp:=by
 refine ⟨len,fun A outer s H args us vs Q E hr e0 hb r hsp=>?_⟩
 have hl:=len _ _ _ _ hsp
 have KX:K.In s.heap:=e0.mod.kin.keeps fun b o e=>(e0.bs b o e).1
 have lim:s.heap.NoLimit:=e0.mod.nolimit.keeps fun b o e=>(e0.bs b o e).1
 have hkind:∀ y∈ps.zip us,scope.names.lookup y.1=some .local∨(scope.names.lookup y.1=some .cell∧((cellsFrom (s.heap.objs.size+1) scope.names []).lookup y.1).isSome=true):=fun ⟨n,v⟩ hy=>by
  rcases S.par n (List.of_mem_zip hy).1 with q | q
  ·exact .inl q
  ·exact .inr ⟨q,PySem.W.cellsFrom_some _ _ _ (.inl q)⟩
 refine codeAny_call_function hr.depth (KX _ _ lk) rfl S.co S.gen rfl (PySem.W.codeRec_of KX hcd) (hb _ _ _ _ ?_)
 refine wpAny_newFunctionEnv_cells S.kind hkind fun env he s1 x=>?_
 subst he
 refine ⟨lim.keeps x.toInCall.keep,codeAny_func ?_⟩
 obtain ⟨t,ht,hq⟩:=hbody A outer s H vs Q E (hr.deeper _) hsp
 have I:Inv (cxOf CX P w K mg base N qual scope f cdv A outer s H E) [] (start N vs) H s1:=inv_start S hr.hd e0 hl r x
 refine wpAny_mono (ht [] s1 (start N vs) H _ I hq) (fun fl s' hs=>?_) fun e s' hs=>hs
 have fin:∀ {σ':St}{H':Hp}{v:V}{u:Value},Inv (cxOf CX P w K mg base N qual scope f cdv A outer s H E) [] σ' H' s'→RelV v u→Q v H'→CE outer P w H s Q u s' :=
  fun {σ' H' v u} J rv q=>⟨v,H',J.os,J.bare,J.base,J.hok,rv,q⟩
 cases fl with
 | ret u =>
  obtain ⟨v,σ',H',J,rv,q⟩:=hs
  exact fin J rv q
 | next =>
  obtain ⟨σ',H',J,q⟩:=hs
  exact fin (v:=V.non) (u:=Value.none) J rfl q
 | brk =>
  obtain ⟨_,_,_,q⟩:=hs
  exact False.elim q
 | cont =>
  obtain ⟨_,_,_,q⟩:=hs
  exact False.elim q
section
variable {X:Cx}{x:Str}{p pos:Pos}{e:Expr}{es:List Expr}{t:TA}{id T:String}{r:List V→Hp→VK→Prop}
def tCB (r:List V→Hp→VK→Prop) (t:TA):TE:=fun σ H Q=>t σ H fun vs H1=>r vs H1 Q
theorem pe_callB (hc:CallR X (.builtin id) r) (hg:Gl X x) (hm:X.mg x=none) (hv:bootBuiltins x=some (.builtin id)) (ha:PA X (e :: es) t) (hn:x ≠ "__name__":=by decide) (hdb:(x == ("__debug__" : Str))=false:=by decide)
  (he:starEach (e :: es) X.env=(false,eval e X.env) :: starEach es X.env:=by rfl) (hpl:(backTo pos (starEach es X.env)).any (·.1)=false:=by rfl):PE X (.Call (.Name x p) (e :: es) [] pos) (tCB r t):=by
 intro pins s σ H Q I h
 refine wpAny_Call_Name_kw (ld_blt I hg hm hv ?_ hn hdb)
 exact PyProof.Rows.callWith_builtin1 (thn (ha pos pins s σ H _ I h) fun us s1 ⟨vs,H1,I1,r1,q1⟩=>hc pins s1 σ H1 vs us Q I1 r1 q1) he hpl
theorem pe_callTy (hc:CallR X (.type T) r) (hg:Gl X x) (hm:X.mg x=none) (hv:bootBuiltins x=some (.type T)) (ha:PA X (e :: es) t) (hn:x ≠ "__name__":=by decide) (hdb:(x == ("__debug__" : Str))=false:=by decide)
  (he:starEach (e :: es) X.env=(false,eval e X.env) :: starEach es X.env:=by rfl) (hpl:(backTo pos (starEach es X.env)).any (·.1)=false:=by rfl):PE X (.Call (.Name x p) (e :: es) [] pos) (tCB r t):=by
 intro pins s σ H Q I h
 refine wpAny_Call_Name_kw (ld_blt I hg hm hv ?_ hn hdb)
 exact PyProof.Rows.callWith_type1 (thn (ha pos pins s σ H _ I h) fun us s1 ⟨vs,H1,I1,r1,q1⟩=>hc pins s1 σ H1 vs us Q I1 r1 q1) he hpl
end
end L2
namespace HT
open PySem PyProof.Rows
section
open PySem.SeqAt
open PySem.AutoSeq1 (wpAny_loadPart')
open PySem.MeetsSeq PySem.MeetsSeq2 PySem.MeetsSeq3
end
section
variable {prog:Program}{w:World}{A:Around}{E:Value→Shared→Prop}{s:Shared}
end
end HT
namespace L2
open PySem PySem.Spec PyProof.Rows
abbrev TO:=St→Hp→(Option Int→Hp→Prop)→Prop
def PO (X:Cx) (e:Option Expr) (t:TO):Prop :=
 ∀ (pins:List (Addr × Obj)) (s:Shared) (σ:St) (H:Hp) (Q:Option Int→Hp→Prop),Inv X pins σ H s→t σ H Q →
  wpAny (model X.prog X.w) X.A (evalPart e X.env) (fun u s'=>∃ o H',Inv X pins σ H' s'∧IsPart u o∧Q o H') X.xe s
theorem intsAre_of {ns:List Int}:∀ {us:List Value},Vals (ns.map V.int) us→IntsAre us ns:=by
 induction ns with
 | nil=>intro us r;rw [List.map_nil] at r;cases r;exact .nil
 | cons n ns ih =>
  intro us r
  rw [List.map_cons] at r
  cases r with
  | cons r1 r2 =>
   obtain ⟨t,e⟩:=r1
   subst e
   exact .cons n t (ih r2)
section
variable {X:Cx}{e:Expr}{te:TE}{lo hi:Option Expr}{tl th:TO}{pos p2:Pos}
def SlR (X:Cx) (r:V→Option Int→Option Int→Hp→VK→Prop):Prop :=
 ∀ (pins:List (Addr × Obj)) (s:Shared) (σ:St) (H:Hp) (x:V) (v vl vu:Value) (lo hi:Option Int) (sl:Addr) (Q:VK),Inv X pins σ H s→RelV x v→s.heap.IsSliceOf sl vl vu .none→IsPart vl lo→IsPart vu hi→r x lo hi H Q →
  ∃ T id,typeLookup (.type T) "__getitem__" = pure (some (.builtin id))∧s.TypeIs v T∧wpAny (model X.prog X.w) X.A (getItem v (.ref sl)) (EP X pins σ Q) X.xe s
end
def ixN (n:Nat) (i:Int):Option Nat:=if 0≤i then (if i<n then some i.toNat else none) else if -(n:Int)≤i then some (i+n).toNat else none
def atI {α:Type} (xs:List α) (i:Int):Option α:=(ixN xs.length i).bind fun j=>xs[j]?
theorem ixN_seq {n:Nat}{i:Int}{j:Nat} (h:ixN n i=some j):seqIndex? i n=some j∧j<n ∧ -(n:Int)≤i∧i<n:=by
 unfold ixN at h
 by_cases h0:0≤i
 ·rw [if_pos h0] at h
  by_cases h1:i<n
  ·rw [if_pos h1] at h
   have e:i.toNat=j:=Option.some.inj h
   exact ⟨by rw [seqIndex_of h0 h1,e],by omega,by omega,h1⟩
  ·rw [if_neg h1] at h;cases h
 ·rw [if_neg h0] at h
  by_cases h1 : -(n:Int)≤i
  ·rw [if_pos h1] at h
   have e:(i+n).toNat=j:=Option.some.inj h
   exact ⟨by rw [seqIndex_neg (by omega) h1,e],by omega,h1,by omega⟩
  ·rw [if_neg h1] at h;cases h
theorem atI_get {α:Type}{xs:List α}{i:Int}{v:α} (h:atI xs i=some v):∃ j,seqIndex? i xs.length=some j∧xs[j]? = some v∧j<xs.length ∧ -(xs.length:Int)≤i∧i<xs.length:=by
 unfold atI at h
 cases e:ixN xs.length i with
 | none=>rw [e] at h;cases h
 | some j =>
  rw [e] at h
  obtain ⟨h1,h2,h3,h4⟩:=ixN_seq e
  exact ⟨j,h1,h,h2,h3,h4⟩
theorem atI_nat {α:Type}{xs:List α}{j:Nat}{v:α} (h:xs[j]? = some v):atI xs (j:Int)=some v:=by
 have hj:j<xs.length:=(List.getElem?_eq_some_iff.mp h).1
 have e:ixN xs.length (j:Int)=some j:=by
  unfold ixN
  rw [if_pos (by omega),if_pos (by omega)];simp
 unfold atI;rw [e];exact h
def PlainIx (b:Expr):Prop:=∀ o i,subscripted b false o i=operate [o,i] (getItem o i)
def IxR (X:Cx) (r:R2):Prop :=
 ∀ (value slice:Expr) (pins:List (Addr × Obj)) (s:Shared) (σ:St) (H:Hp) (x y:V) (v u:Value) (Q:VK),Inv X pins σ H s→RelV x v→RelV y u→r x y H Q →
  subscripted slice false v u=operate [v,u] (getItem v u)→wpAny (model X.prog X.w) X.A (subscriptTail value slice v u) (EP X pins σ Q) X.xe s
def MtR (X:Cx) (id:String) (r:V→List V→Hp→VK→Prop):Prop :=
 ∀ (pins:List (Addr × Obj)) (s:Shared) (σ:St) (H:Hp) (x:V) (xs:List V) (v:Value) (us:List Value) (Q:VK),Inv X pins σ H s→RelV x v→Vals xs us→r x xs H Q →
  wpAny (model X.prog X.w) X.A (call (.builtin id) (v :: us)) (EP X pins σ Q) X.xe s
section
variable {X:Cx}{a b:Expr}{ta tb:TE}{pos:Pos}
theorem IxR.or {r r':R2} (h:IxR X r) (h':IxR X r'):IxR X (fun x y H Q=>r x y H Q∨r' x y H Q):=by
 intro value slice pins s σ H x y v u Q I rx ry q hs
 rcases q with q | q
 ·exact h value slice pins s σ H x y v u Q I rx ry q hs
 ·exact h' value slice pins s σ H x y v u Q I rx ry q hs
theorem pe_ix {r:R2} (hr:IxR X r) (ha:PE X a ta) (hb:PE X b tb) (hs:PlainIx b):PE X (.Subscript a b pos) (tOp r ta tb):=by
 intro pins s σ H Q I h
 exact Subscript_ (binT ha hb I h fun v u s2 x y H2 I2 rx ry q=>hr a b pins s2 σ H2 x y v u Q I2 rx ry q (hs _ _))
def rIxL (K:PySem.W.Frag):R2:=fun x y H Q=>∃ p xs i v,x=.ref p∧y=.int i∧SqL K H p xs∧atI xs i=some v∧Q v H
def rIxT (K:PySem.W.Frag):R2:=fun x y H Q=>∃ p xs i v,x=.ref p∧y=.int i∧SqT K H p xs∧atI xs i=some v∧Q v H
def rIxS:R2:=fun x y H Q=>∃ z i c,x=.str z∧y=.int i∧z.length≤sizeLine∧atI z.cps.toList i=some c∧Q (.str ⟨#[c]⟩) H
theorem ix_list:IxR X (rIxL X.K):=by
 intro value slice pins s σ H x y v u Q I rx ry h hs
 obtain ⟨p,xs,i,z,rfl,rfl,hq,he,q⟩:=h
 cases rx
 obtain ⟨t,rfl⟩:=ry
 obtain ⟨its,r,pl,hz⟩:=I.list hq
 obtain ⟨j,h1,h2,h3,h4,h5⟩:=atI_get he
 obtain ⟨w,ew,rw'⟩:=r.get h2
 have hl:=r.length
 have hn:=line63
 have fin:EP X pins σ Q w s:=⟨z,H,I,rw',q⟩
 by_cases h0:0≤i
 ·have hj:i.toNat=j:=by
   rw [seqIndex_of h0 h5] at h1
   exact Option.some.inj h1
  exact item_listR pl.isList h0 (by omega) (by rw [hj];simpa using ew) fin hs
 ·have hj:(i+(its.toArray.size:Int)).toNat=j:=by
   rw [seqIndex_neg (by omega) h4] at h1
   rw [List.size_toArray,← hl]
   exact Option.some.inj h1
  exact subscriptTail_builtinR (x:=w) pl.isList.typeIs slot_list_getitem.lookup
   (wpAny_getItem_list_neg (Q:=fun r s'=>r=w∧EP X pins σ Q r s') pl.isList (by omega) (by rw [List.size_toArray] <;> omega) (by omega) (by rw [hj];simpa using ew) ⟨rfl,fin⟩) hs
theorem ix_tup:IxR X (rIxT X.K):=by
 intro value slice pins s σ H x y v u Q I rx ry h hs
 obtain ⟨p,xs,i,z,rfl,rfl,hq,he,q⟩:=h
 cases rx
 obtain ⟨t,rfl⟩:=ry
 obtain ⟨its,r,pl,hz⟩:=I.tuple hq
 obtain ⟨j,h1,h2,h3,h4,h5⟩:=atI_get he
 obtain ⟨w,ew,rw'⟩:=r.get h2
 have hl:=r.length
 have hn:=line63
 have fin:EP X pins σ Q w s:=⟨z,H,I,rw',q⟩
 exact subscriptTail_builtinR (x:=w) pl.typeIs slot_tuple_getitem.lookup
  (getItem_tuple (j:=j) (Q:=fun r s'=>r=w∧EP X pins σ Q r s') pl (by omega) (by omega) (by rw [List.size_toArray,← hl];exact h1) (by simpa using ew) ⟨rfl,fin⟩) hs
theorem ix_str:IxR X rIxS:=by
 intro value slice pins s σ H x y v u Q I rx ry h hs
 obtain ⟨z,i,c,rfl,rfl,hz,he,q⟩:=h
 obtain ⟨t,rfl⟩:=rx
 obtain ⟨t',rfl⟩:=ry
 obtain ⟨j,h1,h2,h3,h4,h5⟩:=atI_get he
 have hl:z.cps.toList.length=z.length:=by simp [Str.length]
 rw [hl] at h1 h4 h5
 have hn:=line63
 exact tail_any (typeIs_str s z t) slot_str_getitem.lookup (getItem_str (c:=c) (by
  have e1:decide (i < -(2 ^ 63:Int))=false:=decide_eq_false (by omega)
  have e2:decide (i ≥ 2 ^ 63)=false:=decide_eq_false (by omega)
  rw [e1,e2,Bool.or_false]) (by rw [h1];simpa using h2) ⟨.str ⟨#[c]⟩,H,I.tok _,⟨_,rfl⟩,q⟩) hs
def rIx (K:PySem.W.Frag):R2:=fun x y H Q=>rIxL K x y H Q∨rIxT K x y H Q∨rIxS x y H Q
theorem ix_seq:IxR X (rIx X.K):=ix_list.or (ix_tup.or ix_str)
theorem mapSeq_set (its:List Value) (n j:Nat) (u:Value):Obj.mapSeq (·.setIfInBounds j u) { cls:=.type "list",data:=.seq its.toArray n }={ cls:=.type "list",data:=.seq (its.set j u).toArray n }:=by
 simp [Obj.mapSeq]
theorem Inv.lst {pins:List (Addr × Obj)}{σ:St}{H:Hp}{s:Shared}{p:Addr}{xs:List V} (I:Inv X pins σ H s) (h:H p=some (.lst xs)) :
  ∃ (its:List Value) (n:Nat),Vals xs its∧s.heap.get? p=some { cls:=.type "list",data:=.seq its.toArray n }∧xs.length≤sizeLine:=by
 obtain ⟨z,its,n,r,e⟩:=I.hok p _ h
 exact ⟨its,n,r,e,z⟩
theorem Inv.lstUpd {pins:List (Addr × Obj)}{σ:St}{H:Hp}{s:Shared}{p:Addr}{xs ys:List V}{its its':List Value}{n n':Nat}{f:Obj→Obj} (I:Inv X pins σ H s) (h:H p=some (.lst xs))
  (ho:s.heap.get? p=some { cls:=.type "list",data:=.seq its.toArray n }) (hf:f { cls:=.type "list",data:=.seq its.toArray n }={ cls:=.type "list",data:=.seq its'.toArray n' }) (r:Vals ys its') (hz:ys.length≤sizeLine) (t:Nat) :
  Inv X pins σ (upd H p (.lst ys)) { s with heap:=s.heap.update p f,toks:=t }:=by
 have e:(s.heap.update p f).get? p=some { cls:=.type "list",data:=.seq its'.toArray n' }:=by
  rw [Heap.get?_update_self f ho (by rw [hf] <;> rfl),hf]
 refine I.write (x:=p) (e:=p) (by rw [h];trivial) (.inl rfl) (fun b u hb q=>(Heap.get?_update_other _ _ (Ne.symm hb)).trans q) ⟨_,e⟩ ?_
 exact ⟨hz,its',n',r,e⟩
def rSetL:V→V→V→Hp→(Hp→Prop)→Prop:=fun o i v H Q=>∃ p xs k j,o=.ref p∧i=.int k∧H p=some (.lst xs)∧ixN xs.length k=some j∧Q (upd H p (.lst (xs.set j v)))
theorem set_list:PSet X rSetL:=by
 intro pins s σ H o i v ov iv u Q I ro ri rv h
 obtain ⟨p,xs,k,j,rfl,rfl,hp,hj,q⟩:=h
 cases ro
 obtain ⟨t,rfl⟩:=ri
 obtain ⟨its,n,r,ho,hz⟩:=I.lst hp
 obtain ⟨h1,h2,h3,h4⟩:=ixN_seq hj
 have hl:=r.length
 have hn:=line63
 have I':Inv X pins σ (upd H p (.lst (xs.set j v))) { s with heap:=s.heap.update p (Obj.mapSeq (·.setIfInBounds j u)) } :=
  I.lstUpd hp ho (mapSeq_set its n j u) (r.set rv j) (by rw [List.length_set];exact hz) s.toks
 by_cases h0:0≤k
 ·have hk:k.toNat=j:=by
   rw [seqIndex_of h0 h4] at h1
   exact Option.some.inj h1
  exact PySem.W.ki_setAt ho h0 (by omega) (by rw [List.size_toArray,← hl];exact h4) (by rw [hk];exact ⟨_,I',q⟩)
 ·have hk:(k+(its.toArray.size:Int)).toNat=j:=by
   rw [seqIndex_neg (by omega) h3] at h1
   rw [List.size_toArray,← hl]
   exact Option.some.inj h1
  exact PySem.W.ki_setBack ho (by omega) (by rw [List.size_toArray,← hl];exact h3) (by omega) (by rw [hk];exact ⟨_,I',q⟩)
def flatV:V→Bool
 | .non=>true
 | .bl _=>true
 | .int _=>true
 | .str _=>true
 | _=>false
def eqV:V→V→Bool
 | .non,.non=>true
 | .bl a,.bl b=>a == b
 | .bl a,.int b=>(if a then 1 else 0) == b
 | .int a,.bl b=>a == (if b then 1 else 0)
 | .int a,.int b=>a == b
 | .str a,.str b=>a == b
 | _,_=>false
theorem eqAt_V {A:Around}{s:Shared}{y x:V}{u v:Value} (ry:RelV y u) (rx:RelV x v) (fy:flatV y=true) (fx:flatV x=true):SeqAt.EqAt A s u v (eqV y x):=by
 cases y with
 | non =>
  cases ry
  cases x with
  | non=>cases rx;exact SeqAt.EqAt.same _
  | bl b=>cases rx;exact SeqAt.EqAt.none_bool b
  | int b=>obtain ⟨t,rfl⟩:=rx;exact SeqAt.EqAt.none_int b t
  | str b=>obtain ⟨t,rfl⟩:=rx;exact SeqAt.EqAt.none_str b t
  | _=>exact absurd (show false=true from fx) Bool.false_ne_true
 | bl a =>
  cases ry
  cases x with
  | non=>cases rx;exact SeqAt.EqAt.bool_none a
  | bl b=>cases rx;exact SeqAt.EqAt.bool_bool a b
  | int b=>obtain ⟨t,rfl⟩:=rx;exact SeqAt.EqAt.bool_int a b t
  | str b=>obtain ⟨t,rfl⟩:=rx;exact SeqAt.EqAt.bool_str a b t
  | _=>exact absurd (show false=true from fx) Bool.false_ne_true
 | int a =>
  obtain ⟨t',rfl⟩:=ry
  cases x with
  | non=>cases rx;exact SeqAt.EqAt.int_none a t'
  | bl b=>cases rx;exact SeqAt.EqAt.int_bool a t' b
  | int b=>obtain ⟨t,rfl⟩:=rx;exact SeqAt.EqAt.int_int a t' b t
  | str b=>obtain ⟨t,rfl⟩:=rx;exact SeqAt.EqAt.int_str a t' b t
  | _=>exact absurd (show false=true from fx) Bool.false_ne_true
 | str a =>
  obtain ⟨t',rfl⟩:=ry
  cases x with
  | non=>cases rx;exact SeqAt.EqAt.str_none a t'
  | bl b=>cases rx;exact SeqAt.EqAt.str_bool a t' b
  | int b=>obtain ⟨t,rfl⟩:=rx;exact SeqAt.EqAt.str_int a t' b t
  | str b=>obtain ⟨t,rfl⟩:=rx;exact SeqAt.EqAt.str_str a t' b t
  | _=>exact absurd (show false=true from fx) Bool.false_ne_true
 | _=>exact absurd (show false=true from fy) Bool.false_ne_true
def inV (x:V) (xs:List V):Bool:=xs.any fun y=>eqV y x
theorem call_len_seq:CallR X (.builtin "len") (fun xs H Q=>∃ p ys,xs=[.ref p]∧(SqL X.K H p ys∨SqT X.K H p ys)∧Q (.int ys.length) H):=by
 intro pins s σ H xs us Q I r h
 obtain ⟨p,ys,rfl,hq,q⟩:=h
 obtain ⟨u,rfl,rx⟩:=vals1 r
 cases rx
 have hn:=line63
 rcases hq with hq | hq
 ·obtain ⟨its,r',pl,hz⟩:=I.list hq
  have hlen:=r'.length
  exact Calls.call_len_list pl.isList (by simp only [List.size_toArray] <;> omega) ⟨.int ys.length,H,I.tok _,⟨s.toks+1,by rw [List.size_toArray,hlen]⟩,q⟩
 ·obtain ⟨its,r',pl,hz⟩:=I.tuple hq
  have hlen:=r'.length
  exact len_tuple pl (by simp only [List.size_toArray] <;> omega) ⟨.int ys.length,H,I.tok _,⟨s.toks+1,by rw [List.size_toArray,hlen]⟩,q⟩
theorem call_len_str:CallR X (.builtin "len") (fun xs H Q=>∃ z,xs=[.str z]∧z.length≤sizeLine∧Q (.int z.length) H):=by
 intro pins s σ H xs us Q I r h
 obtain ⟨z,rfl,hz,q⟩:=h
 obtain ⟨u,rfl,t,rfl⟩:=vals1 r
 have hn:=line63
 exact len_str (by omega) ⟨.int z.length,H,I.tok _,⟨_,rfl⟩,q⟩
def tyV (K:PySem.W.Frag) (T:String) (x:V) (H:Hp):Prop:=match x with
 | .str _=>T = "str"
 | .int _=>T = "int"
 | .ref p=>(T = "list" ∧ ∃ xs,SqL K H p xs)∨(T = "tuple" ∧ ∃ o,K.lookup p=some o∧o.cls=.type "tuple" ∧ o.dict=none) ∨
   (T = "dict" ∧ ((∃ kvs,H p=some (.dK kvs))∨∃ kvs,H p=some (.dT kvs)))∨(T = "set" ∧ ∃ S n,H p=some (.set S n))
 | _=>False
theorem tyV_is {pins:List (Addr × Obj)}{σ:St}{H:Hp}{s:Shared}{T:String}{x:V}{v:Value} (I:Inv X pins σ H s) (r:RelV x v) (ty:tyV X.K T x H) :
  s.TypeIs v T∧∀ a,v=.ref a→∃ ob,s.heap.get? a=some ob∧ob.dict=none:=by
 cases x with
 | str z =>
  obtain ⟨t,rfl⟩:=r
  cases (show T = "str" from ty)
  exact ⟨typeIs_str s z t,fun _ e=>nomatch e⟩
 | int i =>
  obtain ⟨t,rfl⟩:=r
  cases (show T = "int" from ty)
  exact ⟨typeIs_int s i t,fun _ e=>nomatch e⟩
 | ref p =>
  cases r
  rcases ty with ⟨rfl,xs,hq⟩ | ⟨rfl,o,hk,hc,hd⟩ | ⟨rfl,hk⟩ | ⟨rfl,S,n,hk⟩
  ·obtain ⟨its,_,pl,_⟩:=I.list hq
   refine ⟨pl.isList.typeIs,fun a e=>?_⟩
   cases e
   obtain ⟨o,n,e,c,hd,_⟩:=pl
   exact ⟨o,e,hd⟩
  ·refine ⟨⟨o,I.kIn p o hk,hc⟩,fun a e=>?_⟩
   cases e
   exact ⟨o,I.kIn _ o hk,hd⟩
  ·have z:∃ o,s.heap.get? p=some o∧o.ExactDict:=by
    rcases hk with ⟨kvs,hk⟩ | ⟨kvs,hk⟩
    ·obtain ⟨_,_,_,_,o,_,_,e,ex,_⟩:=I.hok p _ hk
     exact ⟨o,e,ex⟩
    ·obtain ⟨_,_,_,_,o,_,_,e,ex,_⟩:=I.hok p _ hk
     exact ⟨o,e,ex⟩
   obtain ⟨o,e,ex⟩:=z
   refine ⟨⟨o,e,ex.1⟩,fun a e2=>?_⟩
   cases e2
   exact ⟨o,e,ex.2.1⟩
  ·obtain ⟨o,_,_,_,e,ex,_⟩:=I.hok p _ hk
   refine ⟨⟨o,e,ex.1⟩,fun a e2=>?_⟩
   cases e2
   exact ⟨o,e,ex.2.1⟩
 | _=>exact False.elim ty
def tBM0 (K:PySem.W.Frag) (T:String) (r:V→List V→Hp→VK→Prop) (to:TE):TE:=fun σ H Q=>to σ H fun x H1=>tyV K T x H1∧r x [] H1 Q
def tBM (K:PySem.W.Frag) (T:String) (r:V→List V→Hp→VK→Prop) (to:TE) (t:TA):TE:=fun σ H Q=>to σ H fun x H1=>tyV K T x H1∧t σ H1 fun xs H2=>r x xs H2 Q
variable {o e:Expr}{es:List Expr}{to:TE}{t:TA}{name:Str}{apos cpos:Pos}{T id:String}{r:V→List V→Hp→VK→Prop}
theorem pe_bm0 (pa:PlainAttrs T) (slot:Slot T name id) (hty:typeOf (.builtin id)=pure (.type "method_descriptor")) (hm:MtR X id r) (ho:PE X o to)
  (hbase:attributeBase o name X.env (eval o X.env)=eval o X.env:=by rfl) (hline:(apos.endLine == cpos.line)=true:=by rfl):PE X (.Call (.Attribute o name apos) [] [] cpos) (tBM0 X.K T r to):=by
 intro pins s σ H Q I h
 refine wpAny_Call_method0_late hbase hline (thn (ho pins s σ H _ I h) fun v s1 ⟨x,H1,I1,r1,ty,q1⟩=>?_)
 obtain ⟨h1,h2⟩:=tyV_is I1 r1 ty
 exact ⟨T,id,pa,slot,hty,h1,h2,Calls.callWith_builtin rfl (PySem.evalArgs_none (hm pins s1 σ H1 x [] v [] Q I1 r1 .nil q1))⟩
theorem pe_bm (pa:PlainAttrs T) (slot:Slot T name id) (hty:typeOf (.builtin id)=pure (.type "method_descriptor")) (hm:MtR X id r) (ho:PE X o to) (ha:PA X (e :: es) t)
  (hbase:attributeBase o name X.env (eval o X.env)=eval o X.env:=by rfl)
  (hfew:((backTo cpos (starEach (e :: es) X.env)).all (fun x=>!x.1) && (backToKw cpos (keywordEach [] X.env)).all (fun x=>x.1.isSome)
   && decide ((e :: es).length+([]:List Keyword).length+(if ([]:List Keyword).isEmpty then 0 else 1)<30))=true:=by rfl)
  (hline:(apos.endLine == cpos.line)=true:=by rfl) (hs:starEach (e :: es) X.env=(false,eval e X.env) :: starEach es X.env:=by rfl) (hplain:(backTo cpos (starEach es X.env)).any (·.1)=false:=by rfl) :
  PE X (.Call (.Attribute o name apos) (e :: es) [] cpos) (tBM X.K T r to t):=by
 intro pins s σ H Q I h
 refine wpAny_Call_method_late hbase hfew hline rfl (thn (ho pins s σ H _ I h) fun v s1 ⟨x,H1,I1,r1,ty,q1⟩=>?_)
 obtain ⟨h1,h2⟩:=tyV_is I1 r1 ty
 refine ⟨T,id,pa,slot,hty,h1,h2,?_⟩
 have hA:=ha cpos pins s1 σ H1 _ I1 q1
 rw [hs] at hA ⊢
 refine Calls.callWith_builtin (by show (false || (backTo cpos (starEach es X.env)).any (·.1))=false;rw [hplain] <;> rfl) (Calls.evalArgs_plain ?_)
 exact thn hA fun us s2 ⟨vs,H2,I2,r2,q2⟩=>hm pins s2 σ H2 x vs v us Q I2 r1 r2 q2
/- xs.append(e),list.index on a module's tuple .. are MtR facts of 06m -/
end
def MtM (X:Cx) (id:String) (r:V→List V→Hp→VK→Prop):Prop :=
 ∀ (pins:List (Addr × Obj)) (s:Shared) (σ:St) (H:Hp) (x:V) (xs:List V) (v:Value) (us:List Value) (Q:VK),Inv X pins σ H s→RelV x v→Vals xs us→r x xs H Q →
  wpAny (model X.prog X.w) X.A (call (.builtin id) (v :: us)) (EP X pins σ Q) X.xe s
theorem Vals.one:∀ {x:V}{us:List Value},Vals [x] us→∃ u,us=[u]∧RelV x u
 | _,_,.cons r .nil=>⟨_,rfl,r⟩
theorem Vals.two:∀ {x y:V}{us:List Value},Vals [x,y] us→∃ u v,us=[u,v]∧RelV x u∧RelV y v
 | _,_,_,.cons r (.cons q .nil)=>⟨_,_,rfl,r,q⟩
theorem Vals.zero:∀ {us:List Value},Vals [] us→us=[]
 | _,.nil=>rfl
theorem Vals.dropLast {xs:List V}{us:List Value} (h:Vals xs us):Vals xs.dropLast us.dropLast:=by
 induction h with
 | nil=>exact .nil
 | cons r t ih =>
  cases t with
  | nil=>exact .nil
  | cons q t'=>exact .cons r ih
theorem Vals.eraseIdx:∀ {xs:List V}{us:List Value} (i:Nat),Vals xs us→Vals (xs.eraseIdx i) (us.eraseIdx i)
 | _,_,_,.nil=>.nil
 | _,_,0,.cons _ t=>t
 | _,_,i+1,.cons r t=>.cons r (Vals.eraseIdx i t)
theorem Vals.rep {xs:List V}{us:List Value} (h:Vals xs us):∀ k:Nat,Vals (List.replicate k xs).flatten (List.replicate k us).flatten
 | 0=>.nil
 | k+1=>by
  rw [List.replicate_succ,List.replicate_succ,List.flatten_cons,List.flatten_cons]
  exact Vals.append h (Vals.rep h k)
theorem erase_last {α:Type} (l:List α):l.eraseIdx (l.length - 1)=l.dropLast:=by
 induction l with
 | nil=>rfl
 | cons a r ih =>
  cases r with
  | nil=>rfl
  | cons b r =>
   have e:(a :: b :: r).length - 1=((b :: r).length - 1)+1:=by
    have h1:(a :: b :: r).length=r.length+2:=rfl
    have h2:(b :: r).length=r.length+1:=rfl
    omega
   rw [e,List.eraseIdx_cons_succ,ih]
   all_goals rfl
theorem foldl_rep (its:List Value):∀ (k:Nat) (acc:List Value),
  List.foldl (fun x1 x2=>x1 ++ x2) acc.toArray (List.replicate k its.toArray)=(acc ++ (List.replicate k its).flatten).toArray
 | 0,acc=>by simp
 | k+1,acc=>by
  have e:acc.toArray ++ its.toArray=(acc ++ its).toArray:=by simp
  have e2:(acc ++ its) ++ (List.replicate k its).flatten=acc ++ (List.replicate (k+1) its).flatten:=by
   rw [List.replicate_succ,List.flatten_cons,List.append_assoc]
  rw [← e2,← foldl_rep its k (acc ++ its),← e,List.replicate_succ,List.foldl_cons]
section
variable {X:Cx}{pins:List (Addr × Obj)}{σ:St}{H:Hp}{s:Shared}{l b:Addr}{xs ys zs:List V}
theorem Inv.lset {its its':List Value}{n:Nat}{f:Array Value→Array Value}{t':Nat} (I:Inv X pins σ H s) (hH:H l=some (.lst xs))
  (e:s.heap.get? l=some { cls:=.type "list",data:=.seq its.toArray n }) (hf:f its.toArray=its'.toArray) (hv:Vals ys its') (hz:ys.length≤sizeLine) :
  Inv X pins σ (upd H l (.lst ys)) { s with heap:=s.heap.update l (Obj.mapSeq f),toks:=t' }:=by
 have q:=PySem.IsL.update e f
 rw [hf] at q
 refine I.write (x:=l) (e:=l) (by rw [hH];exact trivial) (.inl rfl) (fun b' u hb hu=>(Heap.get?_update_other s.heap (Obj.mapSeq f) (Ne.symm hb)).trans hu) ⟨_,q⟩ ?_
 exact ⟨hz,its',_,hv,q⟩
theorem Inv.lnew {its:List Value}{t':Nat} (I:Inv X pins σ H s) (hv:Vals ys its) (hz:ys.length≤sizeLine) :
  Inv X pins σ (upd H s.heap.objs.size (.lst ys)) { s with heap:=s.heap.push { cls:=.type "list",data:=.seq its.toArray },toks:=t' } :=
 I.laid (fun _ _ q=>Heap.get?_push_of_some _ q) (Nat.le_refl _) ⟨hz,its,0,hv,Heap.get?_push_size _ rfl⟩
theorem Inv.fresh (I:Inv X pins σ H s):H s.heap.objs.size=none:=I.hok.fresh (Nat.le_refl _)
theorem Inv.lstM (I:Inv X pins σ H s) (hH:H l=some (.lst xs)):xs.length≤sizeLine∧∃ (its:List Value) (n:Nat),Vals xs its∧xs.length=its.length∧s.heap.get? l=some { cls:=.type "list",data:=.seq its.toArray n }:=by
 obtain ⟨z,its,n,r,e⟩:=I.hok l _ hH
 exact ⟨z,its,n,r,r.length,e⟩
theorem notLongL {n:Nat} (h:n≤sizeLine):Builtin.List.listTooLong n=false:=by
 unfold Builtin.List.listTooLong
 exact decide_eq_false (by omega)
end
section
variable {X:Cx}
def rAppend:V→List V→Hp→VK→Prop:=fun x vs H Q=>∃ l xs y,x=.ref l∧vs=[y]∧H l=some (.lst xs)∧xs.length<sizeLine∧Q .non (upd H l (.lst (xs ++ [y])))
theorem mt_append:MtM X "list.append" rAppend:=by
 intro pins s σ H x vs v us Q I rx rv h
 obtain ⟨l,xs,y,rfl,rfl,hH,hz,q⟩:=h
 cases rx
 obtain ⟨u,rfl,ru⟩:=rv.one
 obtain ⟨z,its,n,r,hl,e⟩:=I.lstM hH
 refine call_meets F.slot_list_append ⟨_,e,rfl⟩ F.entry_list_append (F.args_list_append_2 _ _) (PySem.list_append l its.toArray n u (by rw [List.size_toArray];omega)) ⟨e,?_⟩
 refine ⟨.non,_,I.lset (its':=its ++ [u]) hH e (by simp) (r.append (.cons ru .nil)) ?_,rfl,q⟩
 rw [List.length_append,List.length_singleton]
 omega
def rExtend:V→List V→Hp→VK→Prop:=fun x vs H Q=>∃ l b xs zs,x=.ref l∧vs=[.ref b]∧H l=some (.lst xs)∧H b=some (.lst zs)∧xs.length+zs.length≤sizeLine∧Q .non (upd H l (.lst (xs ++ zs)))
theorem mt_extend:MtM X "list.extend" rExtend:=by
 intro pins s σ H x vs v us Q I rx rv h
 obtain ⟨l,b,xs,zs,rfl,rfl,hH,hB,hz,q⟩:=h
 cases rx
 obtain ⟨u,rfl,ru⟩:=rv.one
 cases ru
 obtain ⟨z,its,n,r,hl,e⟩:=I.lstM hH
 obtain ⟨z2,its2,n2,r2,hl2,e2⟩:=I.lstM hB
 have hsz:its.toArray.size+its2.toArray.size≤sizeLine:=by rw [List.size_toArray,List.size_toArray];omega
 have hlong:¬ (!its.toArray.isEmpty && Builtin.List.listTooLong (its.toArray.size+its2.toArray.size))=true:=by
  rw [notLongL hsz,Bool.and_false]
  exact Bool.false_ne_true
 refine call_meets F.slot_list_extend ⟨_,e,rfl⟩ F.entry_list_extend (F.args_list_extend_2 _ _)
  (AutoSeq1.list_extend_list_list_0 l its.toArray n b its2.toArray n2 hlong (by rw [List.size_toArray];omega) (by omega)) ⟨e,e2,?_⟩
 refine ⟨.non,_,I.lset (its':=its ++ its2) hH e (by simp) (r.append r2) ?_,rfl,q⟩
 rw [List.length_append]
 omega
def rPop:V→List V→Hp→VK→Prop:=fun x vs H Q=>∃ l xs y,x=.ref l∧vs=[]∧H l=some (.lst xs)∧xs[xs.length - 1]? = some y∧Q y (upd H l (.lst xs.dropLast))
theorem mt_pop:MtM X "list.pop" rPop:=by
 intro pins s σ H x vs v us Q I rx rv h
 obtain ⟨l,xs,y,rfl,rfl,hH,hy,q⟩:=h
 cases rx
 have hus:=rv.zero
 subst hus
 obtain ⟨z,its,n,r,hl,e⟩:=I.lstM hH
 obtain ⟨u,hu,ru⟩:=r.get hy
 have hy':its.toArray[its.toArray.size - 1]? = some u:=by
  show its.toArray[its.length - 1]? = some u
  rw [← Array.getElem?_toList,← hl]
  exact hu
 refine call_meets F.slot_list_pop ⟨_,e,rfl⟩ F.entry_list_pop (F.args_list_pop_1 _) (MeetsSeq.list_pop_last l its.toArray n u hy' (by rw [List.size_toArray];omega)) ⟨e,?_⟩
 refine ⟨y,_,I.lset (its':=its.dropLast) hH e ?_ r.dropLast ?_,ru,q⟩
 ·show its.toArray.eraseIdxIfInBounds (its.toArray.size - 1)=its.dropLast.toArray
  rw [List.size_toArray,List.eraseIdxIfInBounds_toArray,erase_last]
 ·rw [List.length_dropLast]
  omega
def rCat:R2:=fun x y H Q=>∃ l b xs zs,x=.ref l∧y=.ref b∧H l=some (.lst xs)∧H b=some (.lst zs)∧xs.length+zs.length≤sizeLine∧∀ p,H p=none→Q (.ref p) (upd H p (.lst (xs ++ zs)))
theorem op_cat:OpR X (binaryOp .Add) rCat:=by
 intro pins s σ H x y v u Q I rx ry h
 obtain ⟨l,b,xs,zs,rfl,rfl,hH,hB,hz,q⟩:=h
 cases rx
 cases ry
 obtain ⟨z,its,n,r,hl,e⟩:=I.lstM hH
 obtain ⟨z2,its2,n2,r2,hl2,e2⟩:=I.lstM hB
 refine PySem.P.add_list e e2 ?_ (by rw [List.size_toArray,List.size_toArray];omega)
 have ea:its.toArray ++ its2.toArray=(its ++ its2).toArray:=by simp
 rw [ea]
 exact ⟨.ref _,_,I.lnew (t':=s.toks) (r.append r2) (by rw [List.length_append];omega),rfl,q _ I.fresh⟩
def rRep:R2:=fun x y H Q=>∃ l k xs,x=.ref l∧y=.int k∧H l=some (.lst xs) ∧ -(2 ^ 63)≤k∧k<2 ^ 63∧xs.length * k.toNat≤sizeLine ∧
 ∀ p,H p=none→Q (.ref p) (upd H p (.lst (List.replicate k.toNat xs).flatten))
theorem len_rep {α:Type} (xs:List α) (k:Nat):(List.replicate k xs).flatten.length=k * xs.length:=by
 induction k with
 | zero=>simp
 | succ k ih=>rw [List.replicate_succ,List.flatten_cons,List.length_append,ih,Nat.succ_mul,Nat.add_comm]
theorem op_rep:OpR X (binaryOp .Mult) rRep:=by
 intro pins s σ H x y v u Q I rx ry h
 obtain ⟨l,k,xs,rfl,rfl,hH,h1,h2,hz,q⟩:=h
 cases rx
 obtain ⟨t,rfl⟩:=ry
 obtain ⟨z,its,n,r,hl,e⟩:=I.lstM hH
 have hlen:its.toArray.size * k.toNat≤sizeLine:=by rw [List.size_toArray,← hl];exact hz
 have hcap:¬ its.toArray.size * k.toNat > (2 ^ 63 - 1) / 8:=by
  have:(sizeLine:Nat)≤(2 ^ 63 - 1) / 8:=by decide
  omega
 have hfit:¬ (!Builtin.List.listFitsIndex k)=true:=by
  rw [fitsIndex_both h1 h2]
  exact Bool.false_ne_true
 have hlong:¬ Builtin.List.listTooLong (its.toArray.size * k.toNat)=true:=by
  rw [notLongL hlen]
  exact Bool.false_ne_true
 have hnew:List.foldl (fun x1 x2=>x1 ++ x2) #[] (List.replicate (if its.toArray.isEmpty=true then 0 else k.toNat) its.toArray)=(List.replicate k.toNat its).flatten.toArray:=by
  have f0:∀ m:Nat,List.foldl (fun x1 x2=>x1 ++ x2) #[] (List.replicate m its.toArray)=(List.replicate m its).flatten.toArray:=fun m=>by
   have:=foldl_rep its m []
   rw [List.nil_append] at this
   exact this
  rw [f0]
  cases its with
  | nil=>simp
  | cons a r'=>rw [if_neg (by simp)]
 refine wpAny_binaryOp_repeat_ref (T:="list") (U:="int") (by decide) ⟨_,e,rfl⟩ (fun s'=>typeIs_int s' k t) noFill_list_mul F.fills_int_mul F.slot_int_rmul repeat_list F.slot_int_index.lookup
  (call_meets F.slot_int_rmul (typeIs_int s k t) F.entry_int_rmul (F.args_int_rmul_2 _ _) (int___rmul___int_list k t l its.toArray n)
   ⟨e,rfl,⟨_,e,rfl⟩,call_meets F.slot_list_mul ⟨_,e,rfl⟩ F.entry_list_mul (F.args_list_mul_2 _ _) (AutoListH.list___mul___list_int_3 l its.toArray n k t hfit hcap hlong) ⟨e,?_⟩⟩)
 rw [hnew]
 exact ⟨.ref _,_,I.lnew (t':=s.toks) (r.rep k.toNat) (by rw [len_rep,Nat.mul_comm];exact hz),rfl,q _ I.fresh⟩
end
section
variable {prog:Program}{w:World}{A:Around}{E:Value→Shared→Prop}{s:Shared}
end
section
variable {X:Cx}
end
section
variable {κ:Type} [DecidableEq κ]
def valV (kvs:List (κ × V)) (k:κ):Option V:=(kvs.find? fun kv=>decide (kv.1=k)).map (·.2)
def putK (kvs:List (κ × V)) (k:κ) (v:V):List (κ × V) :=
 if (kvs.any fun kv=>decide (kv.1=k))=true then kvs.map (fun kv=>if kv.1=k then (kv.1,v) else kv) else kvs ++ [(k,v)]
def dropK (kvs:List (κ × V)) (k:κ):List (κ × V):=kvs.filter fun kv=>decide (kv.1≠k)
theorem valV_pos {p:κ × V}{r:List (κ × V)}{k:κ} (e:p.1=k):valV (p :: r) k=some p.2:=by simp [valV,List.find?_cons,e]
theorem valV_neg {p:κ × V}{r:List (κ × V)}{k:κ} (e:¬ p.1=k):valV (p :: r) k=valV r k:=by simp [valV,List.find?_cons,e]
theorem valV_any (k:κ):∀ kvs:List (κ × V),(kvs.any fun kv=>decide (kv.1=k))=(valV kvs k).isSome
 | []=>rfl
 | p :: r=>by
  rw [List.any_cons]
  by_cases e:p.1=k
  ·simp only [valV_pos e,decide_eq_true e,Bool.true_or,Option.isSome_some]
  ·rw [valV_neg e,decide_eq_false e,Bool.false_or];exact valV_any k r
theorem length_putK (kvs:List (κ × V)) (k:κ) (v:V):(putK kvs k v).length≤kvs.length+1:=by
 unfold putK
 split
 ·rw [List.length_map];omega
 ·rw [List.length_append,List.length_cons,List.length_nil];omega
theorem RelO.isSome_eq {o:Option V}{u:Option Value} (r:RelO o u):o.isSome=u.isSome:=by
 cases o with
 | none=>cases u with
  | none=>rfl
  | some _=>exact (show False from r).elim
 | some _=>cases u with
  | none=>exact (show False from r).elim
  | some _=>rfl
theorem RelO.getD {o:Option V}{u:Option Value}{d:V}{d':Value} (r:RelO o u) (rd:RelV d d'):RelV (o.getD d) (u.getD d'):=by
 cases o with
 | none=>cases u with
  | none=>exact rd
  | some _=>exact (show False from r).elim
 | some _=>cases u with
  | none=>exact (show False from r).elim
  | some _=>exact r
theorem KV.val {kvs:List (κ × V)}{vs:List (κ × Value)} (r:KV kvs vs) (k:κ):RelO (valV kvs k) (valueAt vs k):=by
 unfold KV at r
 induction r with
 | nil=>exact True.intro
 | @cons p q ps qs h t ih =>
  obtain ⟨h1,h2⟩:=h
  by_cases e:p.1=k
  ·have e':q.1=k:=h1.symm.trans e
   have b:valueAt (q :: qs) k=some q.2:=by simp [valueAt,List.find?_cons,e']
   rw [valV_pos e,b];exact h2
  ·have e':¬ q.1=k:=fun z=>e (h1.trans z)
   have b:valueAt (q :: qs) k=valueAt qs k:=by simp [valueAt,List.find?_cons,e']
   rw [valV_neg e,b];exact ih
theorem KV.any {kvs:List (κ × V)}{vs:List (κ × Value)} (r:KV kvs vs) (k:κ):(kvs.any fun kv=>decide (kv.1=k))=vs.any fun kv=>decide (kv.1=k):=by
 unfold KV at r
 induction r with
 | nil=>rfl
 | cons h t ih=>rw [List.any_cons,List.any_cons,ih,h.1]
theorem KV.repl {kvs:List (κ × V)}{vs:List (κ × Value)} (r:KV kvs vs) (k:κ) {y:V}{u:Value} (ry:RelV y u) :
  KV (kvs.map fun kv=>if kv.1=k then (kv.1,y) else kv) (vs.map fun kv=>if kv.1=k then (kv.1,u) else kv):=by
 unfold KV at r ⊢
 induction r with
 | nil=>exact .nil
 | @cons p q ps qs h t ih =>
  rw [List.map_cons,List.map_cons]
  refine .cons ?_ ih
  obtain ⟨h1,h2⟩:=h
  by_cases e:p.1=k
  ·rw [if_pos e,if_pos (h1.symm.trans e)];exact ⟨h1,ry⟩
  ·rw [if_neg e,if_neg (fun z=>e (h1.trans z))];exact ⟨h1,h2⟩
theorem KV.put {kvs:List (κ × V)}{vs:List (κ × Value)} (r:KV kvs vs) (k:κ) {y:V}{u:Value} (ry:RelV y u):KV (putK kvs k y) (stored vs k u):=by
 unfold putK stored
 rw [r.any k]
 by_cases e:(vs.any fun kv=>decide (kv.1=k))=true
 ·rw [if_pos e,if_pos e];exact r.repl k ry
 ·rw [if_neg e,if_neg e];exact Paired.snoc r ⟨rfl,ry⟩
theorem KV.drop {kvs:List (κ × V)}{vs:List (κ × Value)} (r:KV kvs vs) (k:κ):KV (dropK kvs k) (without vs k):=by
 unfold KV at r ⊢
 unfold dropK without
 induction r with
 | nil=>exact .nil
 | @cons p q ps qs h t ih =>
  obtain ⟨h1,h2⟩:=h
  rw [List.filter_cons,List.filter_cons]
  by_cases e:p.1=k
  ·have a:¬ decide (p.1≠k)=true:=by simp [e]
   have b:¬ decide (q.1≠k)=true:=by simp [h1.symm.trans e]
   rw [if_neg a,if_neg b];exact ih
  ·have e':¬ q.1=k:=fun z=>e (h1.trans z)
   have a:decide (p.1≠k)=true:=by simp [e]
   have b:decide (q.1≠k)=true:=by simp [e']
   rw [if_pos a,if_pos b];exact .cons ⟨h1,h2⟩ ih
theorem KV.length {kvs:List (κ × V)}{vs:List (κ × Value)} (r:KV kvs vs):kvs.length=vs.length:=Paired.length r
theorem dropK_le (kvs:List (κ × V)) (k:κ):(dropK kvs k).length≤kvs.length:=List.length_filter_le _ _
end
theorem kV_is {P:Program}{w:World}{k:Key}{u:Value} (r:RelV (kV k) u):(mixKind P w).is k u=true:=by
 cases k with
 | inl i=>obtain ⟨t,e⟩:=(show ∃ t,u=Value.int i t from r);subst e;exact mixKind_int P w i t
 | inr x=>obtain ⟨t,e⟩:=(show ∃ t,u=Value.str x t from r);subst e;exact mixKind_str P w x t
theorem items_are {P:Program}{w:World}:∀ {ks:List Key}{us:List Value},Vals (ks.map kV) us→ItemsAre (mixKind P w) ks us
 | [],_,r=>by rw [List.map_nil] at r;cases r;exact .nil
 | k :: ks,_,r=>by
  rw [List.map_cons] at r
  cases r with
  | cons h t=>exact .cons (kV_is h) (items_are t)
abbrev KT (H:Hp):List (List Key × V)→List (List Key × Addr × Value)→Prop:=Paired fun p q=>p.1=q.1∧H q.2.1=some (.tup (p.1.map kV))∧RelV p.2 q.2.2
theorem KT.val {H:Hp}{kvs:List (List Key × V)}{xs:List (List Key × Addr × Value)} (r:KT H kvs xs) (k:List Key):RelO (valV kvs k) ((atKey xs k).map (·.2)):=by
 induction r with
 | nil=>exact True.intro
 | @cons p q ps qs h t ih =>
  obtain ⟨h1,_,h2⟩:=h
  by_cases e:p.1=k
  ·have e':q.1=k:=h1.symm.trans e
   have b:atKey (q :: qs) k=some q.2:=by simp [atKey,List.find?_cons,e']
   rw [valV_pos e,b];exact h2
  ·have e':¬ q.1=k:=fun z=>e (h1.trans z)
   have b:atKey (q :: qs) k=atKey qs k:=by simp [atKey,List.find?_cons,e']
   rw [valV_neg e,b];exact ih
theorem KT.repl {H:Hp}{kvs:List (List Key × V)}{xs:List (List Key × Addr × Value)} (r:KT H kvs xs) (k:List Key) {y:V}{u:Value} (ry:RelV y u) :
  KT H (kvs.map fun kv=>if kv.1=k then (kv.1,y) else kv) (xs.map (putAt k u)):=by
 induction r with
 | nil=>exact .nil
 | @cons p q ps qs h t ih =>
  rw [List.map_cons,List.map_cons]
  refine .cons ?_ ih
  obtain ⟨h1,h2,h3⟩:=h
  unfold putAt
  by_cases e:p.1=k
  ·rw [if_pos e,if_pos (h1.symm.trans e)];exact ⟨h1,h2,ry⟩
  ·rw [if_neg e,if_neg (fun z=>e (h1.trans z))];exact ⟨h1,h2,h3⟩
theorem KT.put {H:Hp}{kvs:List (List Key × V)}{xs:List (List Key × Addr × Value)} (r:KT H kvs xs) (k:List Key) {b:Addr}{y:V}{u:Value} (hb:H b=some (.tup (k.map kV))) (ry:RelV y u) :
  KT H (putK kvs k y) (storedH xs k b u):=by
 have e:(kvs.any fun kv=>decide (kv.1=k))=(atKey xs k).isSome:=by
  rw [valV_any,(r.val k).isSome_eq,Option.isSome_map]
 unfold putK storedH
 rw [e]
 by_cases q:(atKey xs k).isSome=true
 ·rw [if_pos q,if_pos q];exact r.repl k ry
 ·rw [if_neg q,if_neg q];exact Paired.snoc r ⟨rfl,hb,ry⟩
theorem KT.keeps {H H':Hp}{kvs:List (List Key × V)}{xs:List (List Key × Addr × Value)} (r:KT H kvs xs) (ht:∀ b ys,H b=some (.tup ys)→H' b=some (.tup ys)):KT H' kvs xs :=
 Paired.mapP r fun _ _ z=>⟨z.1,ht _ _ z.2.1,z.2.2⟩
section
variable {P:Program}{w:World}{H:Hp}{h:Heap}{a:Addr}
theorem rd_of {u:HO} (ok:HOk P w H h) (e:Rd H a u):ObjOk P w H h a u:=e.ok ok
theorem dk_rd {kvs:List (Key × V)} (ok:HOk P w H h) (e:Rd H a (.dK kvs)):kvs.length≤sizeLine∧(a == sysModules)=false∧∃ vs,KV kvs vs∧h.DictOf (mixKind P w) a vs :=
 show ObjOk P w H h a (.dK kvs) from rd_of ok e
theorem dk_of {kvs:List (Key × V)} (ok:HOk P w H h) (e:H a=some (.dK kvs)):kvs.length≤sizeLine∧(a == sysModules)=false∧∃ vs,KV kvs vs∧h.DictOf (mixKind P w) a vs:=dk_rd ok (.inl e)
theorem key_of {ks:List Key} (ok:HOk P w H h) (e:H a=some (.tup (ks.map kV))):(tupleKind (mixKind P w)).is h ks a:=by
 obtain ⟨_,its,r,o,h1,h2,n,h3⟩:=(show ObjOk P w H h a (.tup (ks.map kV)) from ok a _ e)
 exact ⟨o,its.toArray,n,h1,h2,h3,by simpa using items_are r⟩
theorem dt_rd {kvs:List (List Key × V)} (ok:HOk P w H h) (e:Rd H a (.dT kvs)):kvs.length≤sizeLine∧(a == sysModules)=false ∧
  ∃ xs,KT H kvs xs∧h.DictOfH (tupleKind (mixKind P w)) a xs:=by
 obtain ⟨z,y,xs,r,o,es,ep,h1,h2,h3,h4,h5⟩:=(show ObjOk P w H h a (.dT kvs) from rd_of ok e)
 refine ⟨z,y,xs,r,o,es,ep,h1,h2,h3,h4,fun x hx=>?_,h5⟩
 have all:∀ {l:List (List Key × V)}{m:List (List Key × Addr × Value)},KT H l m→∀ x∈m,(tupleKind (mixKind P w)).is h x.1 x.2.1:=by
  intro l m q
  induction q with
  | nil=>intro x hx;exact nomatch hx
  | @cons p q ps qs hq t ih =>
   intro x hx
   rcases List.mem_cons.mp hx with e | hx
   ·subst e
    exact key_of ok (by rw [← hq.1];exact hq.2.1)
   ·exact ih x hx
 exact all r x hx
theorem dt_of {kvs:List (List Key × V)} (ok:HOk P w H h) (e:H a=some (.dT kvs)):kvs.length≤sizeLine∧(a == sysModules)=false ∧
  ∃ xs,KT H kvs xs∧h.DictOfH (tupleKind (mixKind P w)) a xs:=dt_rd ok (.inl e)
end
def DGet (H:Hp) (a:Addr) (y:V) (r:Option V):Prop :=
 (∃ kvs k,Rd H a (.dK kvs)∧y=kV k∧r=valV kvs k)∨∃ kvs k b,Rd H a (.dT kvs)∧y=.ref b∧H b=some (.tup (k.map kV))∧r=valV kvs k
def DPut (H:Hp) (a:Addr) (y v:V) (H':Hp):Prop :=
 (∃ kvs k,H a=some (.dK kvs)∧y=kV k∧kvs.length<sizeLine∧H'=upd H a (.dK (putK kvs k v))) ∨
 ∃ kvs k b,H a=some (.dT kvs)∧y=.ref b∧H b=some (.tup (k.map kV))∧kvs.length<sizeLine∧H'=upd H a (.dT (putK kvs k v))
theorem DGet.k {H:Hp}{a:Addr}{kvs:List (Key × V)}{k:Key} (e:H a=some (.dK kvs)):DGet H a (kV k) (valV kvs k):=.inl ⟨kvs,k,.inl e,rfl,rfl⟩
theorem DGet.t {H:Hp}{a b:Addr}{kvs:List (List Key × V)}{k:List Key} (e:H a=some (.dT kvs)) (eb:H b=some (.tup (k.map kV))):DGet H a (.ref b) (valV kvs k):=.inr ⟨kvs,k,b,.inl e,rfl,eb,rfl⟩
theorem DPut.k {H:Hp}{a:Addr}{kvs:List (Key × V)}{k:Key}{v:V} (e:H a=some (.dK kvs)) (hl:kvs.length<sizeLine):DPut H a (kV k) v (upd H a (.dK (putK kvs k v))):=.inl ⟨kvs,k,e,rfl,hl,rfl⟩
theorem DPut.t {H:Hp}{a b:Addr}{kvs:List (List Key × V)}{k:List Key}{v:V} (e:H a=some (.dT kvs)) (eb:H b=some (.tup (k.map kV))) (hl:kvs.length<sizeLine) :
  DPut H a (.ref b) v (upd H a (.dT (putK kvs k v))):=.inr ⟨kvs,k,b,e,rfl,eb,hl,rfl⟩
section
variable {X:Cx}{pins:List (Addr × Obj)}{σ:St}{H:Hp}{s:Shared}{a:Addr}{y v:V}{u r:Value}{o:Option V}{A:Around}{E:Value→Shared→Prop}
theorem Inv.big (I:Inv X pins σ H s):sysModules<s.heap.objs.size:=by
 have h:mainGlobals<s.heap.objs.size:=(I.mod.glob.keeps I.bk).lt
 exact Nat.lt_trans (by decide) h
theorem d_getItem {Q:Value→Shared→Prop} (hu:A.units+1<cLine) (I:Inv X pins σ H s) (g:DGet H a y (some v)) (ry:RelV y u) (h:∀ w' s',Inv X pins σ H s'→RelV v w'→Q w' s') :
  wpAny (model X.prog X.w) A (getItem (.ref a) u) Q E s:=by
 rcases g with ⟨kvs,k,e,ey,l⟩ | ⟨kvs,k,b,e,ey,eb,l⟩
 ·subst ey
  obtain ⟨z,hd,vs,rel,dd⟩:=dk_rd I.hok e
  obtain ⟨w',hw,rw'⟩:=RelO.some_of (v:=v) (o:=valueAt vs k) (by rw [l];exact rel.val k)
  exact wpAny_getItem_of (kV_is ry) dd.mapOf hw (h w' _ (I.tok _) rw')
 ·subst ey
  cases (show u=Value.ref b from ry)
  obtain ⟨z,hd,xs,rel,dd⟩:=dt_rd I.hok e
  obtain ⟨w',hw,rw'⟩:=RelO.some_of (v:=v) (o:=(atKey xs k).map (·.2)) (by rw [l];exact rel.val k)
  obtain ⟨p,hp,hp2⟩:=Option.map_eq_some_iff.mp hw
  refine wpAny_getItem_heap (tupleKind_room_in1 hu) (key_of I.hok eb) dd hp ?_
  rw [hp2]
  exact h w' _ (I.tok _) rw'
theorem d_notIn {Q:Value→Shared→Prop} (hu:A.units+1<cLine) (I:Inv X pins σ H s) (g:DGet H a y o) (ry:RelV y u) (h:∀ s',Inv X pins σ H s'→Q (.bool (!o.isSome)) s') :
  wpAny (model X.prog X.w) A (compareOp .NotIn u (.ref a)) Q E s:=by
 rcases g with ⟨kvs,k,e,ey,l⟩ | ⟨kvs,k,b,e,ey,eb,l⟩
 ·subst ey
  obtain ⟨z,hd,vs,rel,dd⟩:=dk_rd I.hok e
  refine wpAny_notIn_of (kV_is ry) hd dd.mapOf ?_
  rw [← (rel.val k).isSome_eq,← l]
  exact h _ (I.tok _)
 ·subst ey
  cases (show u=Value.ref b from ry)
  obtain ⟨z,hd,xs,rel,dd⟩:=dt_rd I.hok e
  refine wpAny_notIn_heap (tupleKind_room_in1 hu) (key_of I.hok eb) hd dd ?_
  have q:=(rel.val k).isSome_eq
  rw [Option.isSome_map] at q
  rw [← q,← l]
  exact h _ (I.tok _)
theorem d_write {h':Heap}{t':Nat}{ob:HO} (I:Inv X pins σ H s) (mu:Mut (H a)) (hs:Heap.SameBut a s.heap h') (he:∃ q,h'.get? a=some q) (new:ObjOk X.prog X.w (upd H a ob) h' a ob) :
  Inv X pins σ (upd H a ob) { s with heap:=h',toks:=t' } :=
 I.write (x:=a) (e:=a) mu (.inl rfl) (fun b q hb z=>(hs.2 b hb).trans z) he new
theorem dk_new {P:Program}{w:World}{H':Hp}{h':Heap}{kvs:List (Key × V)}{vs:List (Key × Value)} (z:kvs.length≤sizeLine) (hd:(a == sysModules)=false) (rel:KV kvs vs) (dd:h'.DictOf (mixKind P w) a vs) :
  ObjOk P w H' h' a (.dK kvs):=⟨z,hd,vs,rel,dd⟩
theorem d_setItem {H':Hp}{Q:Unit→Shared→Prop} (hu:A.units+1<cLine) (I:Inv X pins σ H s) (g:DPut H a y v H') (ry:RelV y u) (rv:RelV v r) (h:∀ s',Inv X pins σ H' s'→Q () s') :
  wpAny (model X.prog X.w) A (setItem (.ref a) u r) Q E s:=by
 rcases g with ⟨kvs,k,e,ey,l,eH⟩ | ⟨kvs,k,b,e,ey,eb,l,eH⟩
 ·subst ey eH
  obtain ⟨z,hd,vs,rel,dd⟩:=dk_of I.hok e
  have hz:vs.length≤sizeLine:=by rw [← rel.length];exact z
  have hl:(putK kvs k v).length≤sizeLine:=by have:=length_putK kvs k v;omega
  refine wpAny_setItem_pairs (hsz:=hz) (kV_is ry) dd fun h' dd' hs=>h _ ?_
  have he:∃ q,h'.get? a=some q:=let ⟨q,_,_,hq,_⟩:=dd';⟨q,hq⟩
  exact d_write I (by rw [e];exact True.intro) hs he (dk_new hl hd (rel.put k rv) dd')
 ·subst ey eH
  cases (show u=Value.ref b from ry)
  obtain ⟨z,hd,xs,rel,dd⟩:=dt_of I.hok e
  have hz:xs.length≤sizeLine:=by rw [← Paired.length rel];exact z
  have hl:(putK kvs k v).length≤sizeLine:=by have:=length_putK kvs k v;omega
  refine wpAny_setItem_heap (hsz:=hz) (tupleKind_room_in1 hu) (key_of I.hok eb) dd fun h' dd' hs=>h _ ?_
  obtain ⟨q,es,ep,hq,h2,h3,h4,_,h5⟩:=dd'
  refine d_write I (by rw [e];exact True.intro) hs ⟨q,hq⟩ ⟨hl,hd,_,(rel.put k eb rv).keeps fun c ys ec=>?_,q,es,ep,hq,h2,h3,h4,h5⟩
  rw [upd_ne (ne_of ec e (fun z=>nomatch z))]
  exact ec
end
section
variable {X:Cx}{pins:List (Addr × Obj)}{σ:St}{H:Hp}{s:Shared}{a:Addr}{kvs:List (Key × V)}{k:Key}{u:Value}{A:Around}{E:Value→Shared→Prop}
theorem d_delItem {Q:Unit→Shared→Prop} (I:Inv X pins σ H s) (e:H a=some (.dK kvs)) (ry:RelV (kV k) u) (l:(valV kvs k).isSome=true) (h:∀ s',Inv X pins σ (upd H a (.dK (dropK kvs k))) s'→Q () s') :
  wpAny (model X.prog X.w) A (delItem (.ref a) u) Q E s:=by
 obtain ⟨z,hd,vs,rel,dd⟩:=dk_of I.hok e
 refine wpAny_delItem_slot dd.typeIs (by decide) PySem.F.slot_dict_delitem
  (call_meetsIn PySem.F.slot_dict_delitem dd.typeIs PySem.F.entry_dict_delitem (PySem.F.args_dict_delitem_2 _ _) (meets_dict_delitem_pairs (mixKind X.prog X.w) a (kV_is ry)) ⟨vs,dd,by rw [← rel.length];exact z,by rw [← (rel.val k).isSome_eq];exact l,fun h' dd' hs=>h _ ?_⟩)
 have he:∃ q,h'.get? a=some q:=let ⟨q,_,_,hq,_⟩:=dd';⟨q,hq⟩
 exact d_write I (by rw [e];exact True.intro) hs he (dk_new (Nat.le_trans (dropK_le kvs k) z) hd (rel.drop k) dd')
theorem d_pop {v:V}{more:List Value}{Q:Value→Shared→Prop} (I:Inv X pins σ H s) (e:H a=some (.dK kvs)) (ry:RelV (kV k) u) (l:valV kvs k=some v) (hm:more=[]∨∃ x,more=[x])
  (h:∀ w' s',Inv X pins σ (upd H a (.dK (dropK kvs k))) s'→RelV v w'→Q w' s'):wpAny (model X.prog X.w) A (call (.builtin "dict.pop") (.ref a :: u :: more)) Q E s:=by
 obtain ⟨z,hd,vs,rel,dd⟩:=dk_of I.hok e
 obtain ⟨w',hw,rw'⟩:=RelO.some_of (v:=v) (o:=valueAt vs k) (by rw [← l];exact rel.val k)
 have hp:(keyPart u).isSome=true:=by
  cases k with
  | inl i=>obtain ⟨t,q⟩:=(show ∃ t,u=Value.int i t from ry);subst q;rfl
  | inr x=>obtain ⟨t,q⟩:=(show ∃ t,u=Value.str x t from ry);subst q;rfl
 have ha:argsOk "dict.pop" ⟨.ref a :: u :: more,[]⟩:=by
  rcases hm with q | ⟨x,q⟩
  ·subst q;exact PySem.F.args_dict_pop_2 _ _
  ·subst q;exact PySem.F.args_dict_pop_3 _ _ _
 refine call_meetsIn PySem.F.slot_dict_pop dd.typeIs PySem.F.entry_dict_pop ha (meets_dict_pop_there (mixKind X.prog X.w) a (kV_is ry) more hm hp)
  ⟨vs,w',dd,by rw [← rel.length];exact z,hw,fun h' dd' hs=>h w' _ ?_ rw'⟩
 have he:∃ q,h'.get? a=some q:=let ⟨q,_,_,hq,_⟩:=dd';⟨q,hq⟩
 exact d_write I (by rw [e];exact True.intro) hs he (dk_new (Nat.le_trans (dropK_le kvs k) z) hd (rel.drop k) dd')
theorem d_len {Q:Value→Shared→Prop} (I:Inv X pins σ H s) (e:Rd H a (.dK kvs)) (h:∀ t s',Inv X pins σ H s'→Q (.int kvs.length t) s'):wpAny (model X.prog X.w) A (call (.builtin "len") [.ref a]) Q E s:=by
 obtain ⟨z,hd,vs,rel,dd⟩:=dk_rd I.hok e
 refine call_len_dict hd dd (by rw [← rel.length];rw [sizeLine_eq] at z;omega) ?_
 rw [← rel.length]
 exact h _ _ (I.tok _)
end
def NoSl (i:Expr):Prop:=∀ ov iv,subscripted i false ov iv=operate [ov,iv] (getItem ov iv)
theorem subD_of {prog:Program}{w:World}{A:Around}{E:Value→Shared→Prop}{s:Shared}{env:Env}{value slice:Expr}{pos:Pos}{T id:String}{Q:Value→Shared→Prop}
  (hl:typeLookup (.type T) "__getitem__" = pure (some (.builtin id))) (hs:NoSl slice)
  (h:wpAny (model prog w) A (eval value env) (fun o s₁=>wpAny (model prog w) A (eval slice env) (fun i s₂=>s₂.TypeIs o T∧wpAny (model prog w) A (getItem o i) Q E s₂) E s₁) E s) :
  wpAny (model prog w) A (eval (.Subscript value slice pos) env) Q E s:=by
 refine Subscript_ (wpAny_mono h (fun o s₁ h₁=>wpAny_mono h₁ (fun i s₂ h₂=>?_) fun _ _ x=>x) fun _ _ x=>x)
 obtain ⟨hT,h₂⟩:=h₂
 unfold subscriptTail
 refine wpAny_bind ?_
 rw [getitemInPython_of_ne hT.not_modules]
 refine wpAny_bind (wpAny_specialOf hT hl ?_)
 have fin:wpAny (model prog w) A (subscripted slice false o i) (fun r s₃=>wpAny (model prog w) A (letTemporaryGo value o r >>= fun _=>pure r) Q E s₃) E s₂:=by
  rw [hs o i]
  exact wpAny_operating (wpAny_mono h₂ (fun r s₃ h₃=>wpAny_bind (wpAny_letTemporaryGo (wpAny_pure h₃))) fun _ _ x=>x)
 first
  | exact wpAny_pure (wpAny_bind fin)
  | exact wpAny_bind (wpAny_pure (wpAny_bind fin))
  | exact wpAny_bind fin
theorem dict_typeIs {X:Cx}{pins:List (Addr × Obj)}{σ:St}{H:Hp}{s:Shared}{a:Addr}{y:V}{o:Option V} (I:Inv X pins σ H s) (g:DGet H a y o):s.TypeIs (.ref a) "dict":=by
 rcases g with ⟨kvs,k,e,_,_⟩ | ⟨kvs,k,b,e,_,_,_⟩
 ·obtain ⟨_,_,vs,_,dd⟩:=dk_rd I.hok e
  exact dd.typeIs
 ·obtain ⟨_,_,xs,_,dd⟩:=dt_rd I.hok e
  exact dd.typeIs
def tDGet (td ty:TE):TE:=fun σ H Q=>td σ H fun x H1=>ty σ H1 fun y H2=>∃ a v,x=.ref a∧DGet H2 a y (some v)∧Q v H2
def tDNotIn (ty td:TE):TE:=fun σ H Q=>ty σ H fun y H1=>td σ H1 fun x H2=>∃ a o,x=.ref a∧DGet H2 a y o∧Q (.bl (!o.isSome)) H2
def sDPut (td ty tv:TE):TS:=fun D σ H=>tv σ H fun v H1=>td σ H1 fun x H2=>ty σ H2 fun y H3=>∃ a H4,x=.ref a∧DPut H3 a y v H4∧D.nx σ H4
section
variable {X:Cx}{o i e value:Expr}{pos pos' tpos:Pos}{td ty tv:TE}
theorem pe_dget (hu:X.A.units+1<cLine) (ho:PE X o td) (hi:PE X i ty) (hs:NoSl i):PE X (.Subscript o i pos) (tDGet td ty):=by
 intro pins s σ H Q I h
 refine subD_of PySem.F.slot_dict_getitem.lookup hs (thn (ho pins s σ H _ I h) fun u s1 ⟨x,H1,I1,rx,q1⟩=>thn (hi pins s1 σ H1 _ I1 q1) fun iv s2 ⟨y,H2,I2,ry,a,v,ex,g,q2⟩=>?_)
 subst ex
 obtain rfl:u=Value.ref a:=rx
 exact ⟨dict_typeIs I2 g,d_getItem hu I2 g ry fun w' s3 I3 rw'=>⟨v,H2,I3,rw',q2⟩⟩
theorem pc_dnotin (hu:X.A.units+1<cLine) (hi:PE X i ty) (ho:PE X o td):PC X .NotIn i o (tDNotIn ty td):=by
 intro pins s σ H Q I h
 refine thn (hi pins s σ H _ I h) fun iv s1 ⟨y,H1,I1,ry,q1⟩=>thn (ho pins s1 σ H1 _ I1 q1) fun u s2 ⟨x,H2,I2,rx,a,ov,ex,g,q2⟩=>?_
 subst ex
 obtain rfl:u=Value.ref a:=rx
 exact d_notIn hu I2 g ry fun s3 I3=>⟨.bl (!ov.isSome),H2,I3,rfl,q2⟩
theorem ps_dput (hu:X.A.units+1<cLine) (ho:PE X o td) (hi:PE X i ty) (hv:PE X value tv) (hs:swapsWith value (some (.Subscript o i pos')) pos.line X.env=pure false) :
  PS X (.Assign [.Subscript o i pos'] value pos) (sDPut td ty tv):=by
 intro pins s σ H D I h
 refine wpAny_Assign_Subscript (thn (hv pins s σ H _ I h) fun r s1 ⟨v,H1,I1,rv,q1⟩=>thn (ho pins s1 σ H1 _ I1 q1) fun u s2 ⟨x,H2,I2,rx,q2⟩=>thn (hi pins s2 σ H2 _ I2 q2) fun iv s3 ⟨y,H3,I3,ry,a,H4,ex,g,q3⟩=>?_) hs
 subst ex
 obtain rfl:u=Value.ref a:=rx
 exact d_setItem hu I3 g ry rv fun s4 I4=>⟨σ,H4,I4,q3⟩
end
theorem dk_empty {P:Program}{w:World}{H:Hp} (h:Heap) (hb:sysModules<h.objs.size):ObjOk P w H (h.push { cls:=.type "dict",data:=.dict #[] }) h.objs.size (.dK []) :=
 ⟨Nat.zero_le _,beq_eq_false_iff_ne.mpr (Ne.symm (Nat.ne_of_lt hb)),[],.nil,Heap.DictOf.new h⟩
theorem dt_empty {P:Program}{w:World}{H:Hp} (h:Heap) (hb:sysModules<h.objs.size):ObjOk P w H (h.push { cls:=.type "dict",data:=.dict #[] }) h.objs.size (.dT []) :=
 ⟨Nat.zero_le _,beq_eq_false_iff_ne.mpr (Ne.symm (Nat.ne_of_lt hb)),[],.nil,_,#[],0,Heap.get?_push_size _ rfl,⟨rfl,rfl,rfl⟩,rfl,rfl,List.nodup_nil⟩
def tDNewK:TE:=fun _ H Q=>∀ p,H p=none→Q (.ref p) (upd H p (.dK []))
def tDNewT:TE:=fun _ H Q=>∀ p,H p=none→Q (.ref p) (upd H p (.dT []))
section
variable {X:Cx}{pos:Pos}
theorem pe_dnewK:PE X (.Dict [] [] pos) tDNewK:=fun pins s σ H Q I h =>
 wpAny_Dict_empty ⟨.ref s.heap.objs.size,_,I.laid (a:=s.heap.objs.size) (o:=.dK []) (t':=s.toks) (fun _ _ q=>Heap.get?_push_of_some _ q) (Nat.le_refl _) (dk_empty s.heap I.big),rfl,h _ (I.hok.fresh (Nat.le_refl _))⟩
theorem pe_dnewT:PE X (.Dict [] [] pos) tDNewT:=fun pins s σ H Q I h =>
 wpAny_Dict_empty ⟨.ref s.heap.objs.size,_,I.laid (a:=s.heap.objs.size) (o:=.dT []) (t':=s.toks) (fun _ _ q=>Heap.get?_push_of_some _ q) (Nat.le_refl _) (dt_empty s.heap I.big),rfl,h _ (I.hok.fresh (Nat.le_refl _))⟩
end
def tPairs:List (TE × TE)→St→Hp→(List (V × V)→Hp→Prop)→Prop
 | [],_,H,Q=>Q [] H
 | (tk,tv) :: r,σ,H,Q=>tk σ H fun x H1=>tv σ H1 fun y H2=>tPairs r σ H2 fun ps H3=>Q ((x,y) :: ps) H3
abbrev VV:List (V × V)→List (Value × Value)→Prop:=Paired fun p q=>RelV p.1 q.1∧RelV p.2 q.2
def PPs (X:Cx) (pos:Pos) (keys:List (Option Expr)) (values:List Expr) (trs:List (TE × TE)):Prop :=
 ∀ (pins:List (Addr × Obj)) (s:Shared) (σ:St) (H:Hp) (Q:List (V × V)→Hp→Prop),Inv X pins σ H s→tPairs trs σ H Q →
  wpAny (model X.prog X.w) X.A (evalPairs (pairTrees keys values X.env pos)) (fun vs s'=>∃ ps H',Inv X pins σ H' s'∧VV ps vs∧Q ps H') X.xe s
def mergeK (kvs more:List (Key × V)):List (Key × V):=more.foldl (fun acc kv=>putK acc kv.1 kv.2) kvs
structure M1 (X:Cx) (o:Expr) (m:Str) (apos:Pos) (e:Expr) (cpos:Pos):Prop where
 base:attributeBase o m X.env (eval o X.env)=eval o X.env
 few:((backTo cpos (starEach [e] X.env)).all (fun x=>!x.1) && (backToKw cpos (keywordEach [] X.env)).all (fun x=>x.1.isSome)
  && decide (([e]:List Expr).length+([]:List Keyword).length+(if ([]:List Keyword).isEmpty then 0 else 1)<30))=true
 line:(apos.endLine == cpos.line)=true
 trees:backTo cpos (starEach [e] X.env)=[(false,eval e X.env)]
structure M2 (X:Cx) (o:Expr) (m:Str) (apos:Pos) (e f:Expr) (cpos:Pos):Prop where
 base:attributeBase o m X.env (eval o X.env)=eval o X.env
 few:((backTo cpos (starEach [e,f] X.env)).all (fun x=>!x.1) && (backToKw cpos (keywordEach [] X.env)).all (fun x=>x.1.isSome)
  && decide (([e,f]:List Expr).length+([]:List Keyword).length+(if ([]:List Keyword).isEmpty then 0 else 1)<30))=true
 line:(apos.endLine == cpos.line)=true
 trees:backTo cpos (starEach [e,f] X.env)=[(false,eval e X.env),(false,eval f X.env)]
def IsD (H:Hp) (a:Addr):Prop:=(∃ kvs,Rd H a (.dK kvs))∨∃ kvs,Rd H a (.dT kvs)
theorem isD_at {X:Cx}{pins:List (Addr × Obj)}{σ:St}{H:Hp}{s:Shared}{a:Addr} (I:Inv X pins σ H s) (d:IsD H a) :
  s.TypeIs (.ref a) "dict" ∧ (∀ b,Value.ref a=.ref b→∃ ob,s.heap.get? b=some ob∧ob.dict=none)∧(a == sysModules)=false:=by
 rcases d with ⟨kvs,e⟩ | ⟨kvs,e⟩
 ·obtain ⟨_,hd,vs,_,dd⟩:=dk_rd I.hok e
  refine ⟨dd.typeIs,fun b q=>?_,hd⟩
  cases q
  obtain ⟨ob,_,_,h1,h2,_⟩:=dd
  exact ⟨ob,h1,h2.2.1⟩
 ·obtain ⟨_,hd,xs,_,dd⟩:=dt_rd I.hok e
  refine ⟨dd.typeIs,fun b q=>?_,hd⟩
  cases q
  obtain ⟨ob,_,_,h1,h2,_⟩:=dd
  exact ⟨ob,h1,h2.2.1⟩
section
variable {X:Cx}{pins:List (Addr × Obj)}{σ:St}{H:Hp}{s:Shared}{a:Addr}{y d:V}{u r:Value}{o:Option V}{A:Around}{E:Value→Shared→Prop}
end
def tDPop1 (td ty:TE):TE:=fun σ H Q=>td σ H fun x H1=>∃ a,x=.ref a∧IsD H1 a∧ty σ H1 fun y H2=>∃ kvs k v,H2 a=some (.dK kvs)∧y=kV k∧valV kvs k=some v∧Q v (upd H2 a (.dK (dropK kvs k)))
section
variable {X:Cx}{o e f:Expr}{apos cpos:Pos}{td ty tx:TE}
theorem pe_dpop1 (ho:PE X o td) (he:PE X e ty) (m:M1 X o "pop" apos e cpos):PE X (.Call (.Attribute o "pop" apos) [e] [] cpos) (tDPop1 td ty):=by
 intro pins s σ H Q I h
 refine wpAny_Call_method m.base m.few m.line PySem.F.plainAttrs_dict PySem.F.slot_dict_pop PySem.F.type_dict_pop (thn (ho pins s σ H _ I h) fun u s1 ⟨x,H1,I1,rx,a,ex,d,q1⟩=>?_)
 subst ex
 obtain rfl:u=Value.ref a:=rx
 obtain ⟨t1,t2,_⟩:=isD_at I1 d
 refine ⟨t1,t2,?_⟩
 rw [m.trees]
 refine Calls.callWith_builtin rfl (Calls.evalArgs_plain (Calls.spliced_cons (thn (he pins s1 σ H1 _ I1 q1) fun iv s2 ⟨y,H2,I2,ry,kvs,k,v,ea,ey,l,q2⟩=>Calls.spliced_nil ?_)))
 subst ey
 exact d_pop I2 ea ry l (.inl rfl) fun w' s3 I3 rw'=>⟨v,_,I3,rw',q2⟩
end
section
variable {X:Cx}{pins:List (Addr × Obj)}{σ:St}{H:Hp}{s:Shared}{a:Addr}{kvs:List (Key × V)}{A:Around}{E:Value→Shared→Prop}
end
section
variable {X:Cx}{pins:List (Addr × Obj)}{σ:St}{H:Hp}{s:Shared}{a:Addr}{y:V}{u:Value}{A:Around}{E:Value→Shared→Prop}
end
end L2
namespace Att
open PySem PySem.W PySem.Calls PyProof.Rows
theorem ints_of_wellAll {P:Params}{h:Heap}:∀ (ns:List Int) (vs:List Value),WellAll P h vs (ns.map WData.int)→IntsAre vs ns:=by
 intro ns
 induction ns with
 | nil =>
  intro vs w
  rw [List.map_nil] at w
  cases w
  exact .nil
 | cons n ns ih =>
  intro vs w
  rw [List.map_cons] at w
  cases w with
  | cons a b =>
   cases a
   exact .cons _ _ (ih _ b)
theorem script_of {l:OpenLaw}{n:Nat} (hn:l.most=some n) {P:Params}{h:Heap}{args:List WData}{vals:List Value}
  (hpre:l.row.toRowW.claim.pre args=true) (hwl:WellAll P h vals args) :
  ∃ a vs ns,vals=[Value.ref a]∧args=[WData.list (ns.map WData.int)]∧h.get? a=some { cls:=.type "list",data:=.seq vs.toArray }∧IntsAre vs ns∧ns.length≤n:=by
 have hsh:WShape.hasAll [] args [.list .int]=true:=(pre_splitW hpre).1
 have hc:l.pre.holds [] { args:=args }=true:=(pre_splitW hpre).2
 obtain ⟨d,r,rfl,h1,h2⟩:=hasAllW_cons hsh
 obtain rfl:=hasAllW_nil h2
 obtain ⟨xs,rfl,h3⟩:=hasW_list h1
 obtain ⟨ns,rfl⟩:=items_int h3
 have hlen:ns.length≤n:=by
  unfold OpenLaw.pre at hc
  have h4:(WTm.not (.lt (.lit (.int (n:Int))) (.len (.arg 0)))).holds [] { args:=[.list (ns.map .int)] }=true:=by
   have h4:=(holds_andW hc).1
   rw [hn] at h4
   exact h4
  have h5:=condW_of h4 (w_not (w_lt w_lit (w_len_list (w_arg rfl))))
  rw [List.length_map] at h5
  refine Nat.le_of_not_lt fun q=>?_
  have q':(n:Int)<((ns.length:Nat):Int):=by omega
  first
   | (rw [decide_eq_true q'] at h5;exact absurd h5 (by decide))
   | (simp at h5;omega)
 cases hwl with
 | cons w1 w2 =>
  cases w2
  cases w1 with
  | list ho hall=>exact ⟨_,_,ns,rfl,rfl,ho,ints_of_wellAll ns _ hall,hlen⟩
theorem post_true (l:OpenLaw) (args:List WData):l.row.toRowW.claim.post args (.bool true) args=true :=
 postW_of (r:=l.row.toRowW) (X:=(true == true))
  (show WShape.has [] (.bool true) .bool=true by first | rfl | decide | simp [WShape.has,WShape.arms,WShape.armsAll])
  (show (WTm.eq .res (.lit (.bool true))).value [] { args:=args,res:=some (.bool true),after:=args }=some (.bool (true == true)) from w_eq_bool (w_res rfl) w_lit) rfl
theorem attach_call {l:OpenLaw}{n:Nat}{q:Program}{loose:List Str}{XP:(Str→Option Value)→Heap→Prop}{YP:World→Heap→Prop}{d:DefRec}
  (hn:l.most=some n) (hdf:d.params.defaults=[])
  (call:∀ (w:World) (s₀ s₁:Shared) (mg mb:Str→Option Value) (fa:Addr) (o:Obj) (pm cd doc:Value) (a:Addr) (vs:List Value) (ns:List Int),
   Ground q loose [] XP w s₀ mg mb s₁.heap→YP w s₁.heap →
   s₁.heap.get? fa=some o→o.data=.func (docDef d.name d.params d.body d.scope pm cd doc)→s₁.heap.CodeRec cd d.name→mg d.name=some (.ref fa) →
   s₁.heap.get? a=some { cls:=.type "list",data:=.seq vs.toArray }→IntsAre vs ns→ns.length≤n→s₁.gens = #[] →
   codeAny (model l.prog w) callerA (.call (.ref fa) ⟨[.ref a],[]⟩) (fun r s'=>r=.ok (.ret (.bool true))∧OldK s₁.heap s'.heap∧s'.os=s₁.os∧AllBare s'.gens) s₁) :
  WalkO q loose XP YP l.row.toRowW d [] (fun f vs=>PySem.call f vs):=by
 intro w s₀ s₁ mg mb G Y fa o pm cd doc dV kV ho hd hcd hD hmg hg args vals as hpre hlay hrd hwl hlo
 obtain rfl:dV=.none:=Dflts.none hD hdf
 obtain rfl:kV=.none:=Dflts.noKw hD
 obtain ⟨a,vs,ns,rfl,rfl,hobj,hints,hlen⟩:=script_of hn hpre hwl
 refine enter_call (codeAny_mono (call w s₀ s₁ mg mb fa o pm cd doc a vs ns G Y ho (fd_plain hd) hcd hmg hobj hints hlen hg) fun r s' hq=>?_)
 obtain ⟨rfl,h2,h3,h4⟩:=hq
 exact ⟨.inl ⟨.bool true,.bool true,[],rfl,fun _=>rfl,.bool true,post_true l _,fun _=>⟨List.Pairwise.nil,fun _ hm=>(nomatch hm)⟩⟩,h2,h3,h4⟩
section
variable {prog:Program}{w:World}{A:Around}{E:Value→Shared→Prop}{s:Shared}{K:Frag}
def ledger (h:Heap) (L d:Addr):List (Addr × Obj):=(List.range h.objs.size).filterMap fun a=>if a=L∨a=d then none else (h.get? a).map fun o=>(a,o)
end
end Att
namespace L2
open PySem PySem.Spec PyProof.Rows
theorem vals_ints:∀ {vs:List Value}{ns:List Int},IntsAre vs ns→Vals (ns.map V.int) vs
 | _,_,.nil=>.nil
 | _,_,.cons n t h=>.cons ⟨t,rfl⟩ (vals_ints h)
def Only (H:Hp):Prop:=∀ b,H b=none∨∃ o xs,H b=some (.frz o (.lst xs))
theorem law_call {P:Program}{w:World}{K:PySem.W.Frag}{mg mb:Str→Option Value}{CX:CXT}{k:Nat}{fa a:Addr}{fd:FuncData}{x:Str}{sp:Sp}{s₁:Shared}{vs:List Value}{ns:List Int}
  (KX:K.In s₁.heap) (hns:s₁.heap.Ns mainGlobals mg) (hb:s₁.heap.Ns builtinsNs mb) (hbb:∀ x:Str,x ≠ "__name__" → mb x=bootBuiltins x) (hlim:s₁.heap.NoLimit) (hg:s₁.gens = #[])
  (ha:s₁.heap.get? a=some { cls:=.type "list",data:=.seq vs.toArray }) (hi:IntsAre vs ns) (hl:ns.length≤sizeLine) (hr:Room k callerA)
  (F:∀ base:Heap,K.In base→base.Ns mainGlobals mg→FnOk P w K mg base CX k fa fd [x] sp) (hbind:∀ (s:Shared) (u:Value),BindsTo s fd ⟨[u],[]⟩ [(x,u)])
  (hsp:∀ H:Hp,Only H→SqL K H a (ns.map V.int)→sp [.ref a] H (fun v _=>v=.bl true) fun _ _ _=>False)
  (hCX:∀ H e s',CX [] H s₁ (fun _ _ _=>False) e s'→False) :
  codeAny (model P w) callerA (.call (.ref fa) ⟨[.ref a],[]⟩) (fun r s'=>r=.ok (.ret (.bool true))∧OldK s₁.heap s'.heap∧s'.os=s₁.os∧AllBare s'.gens) s₁:=by
 have rv:=vals_ints hi
 have lenV:=hi.length
 -- from an abstract heap in which nothing but the script may be tracked
 have core:∀ H:Hp,Only H→SqL K H a (ns.map V.int)→HOk P w H s₁.heap→(∀ b,H b≠none→b=a)→(H a≠none→K.lookup a=none) →
   codeAny (model P w) callerA (.call (.ref fa) ⟨[.ref a],[]⟩) (fun r s'=>r=.ok (.ret (.bool true))∧OldK s₁.heap s'.heap∧s'.os=s₁.os∧AllBare s'.gens) s₁:=by
  intro H hO hS hok hA hK
  have base_of:∀ {b:Addr}{o:Obj},s₁.heap.get? b=some o→H b=none→(hidT s₁.heap H).get? b=some o:=fun e n=>hidT_get e n
  have noA:∀ {b:Addr}{o:Obj}{es:Array DictEntry}{ep:Nat},s₁.heap.get? b=some o→o.data=.dict es ep→H b=none:=fun {b o es ep} e d=>by
   cases q:H b with
   | none=>rfl
   | some u =>
    have e':b=a:=hA b (by rw [q];simp)
    subst e'
    rw [ha] at e;cases e
    have d':Data.seq vs.toArray _=Data.dict es ep:=d
    cases d'
  have nsK:∀ {b:Addr}{m:Str→Option Value},s₁.heap.Ns b m→(hidT s₁.heap H).Ns b m:=fun {b m} ⟨o,es,ep,e,d,r⟩=>⟨o,es,ep,base_of e (noA e d),d,r⟩
  have hKb:K.In (hidT s₁.heap H):=fun b o e=>base_of (KX b o e) (by
   cases q:H b with
   | none=>rfl
   | some u =>
    have e':b=a:=hA b (by rw [q];simp)
    subst e'
    rw [hK (by rw [q];simp)] at e;cases e)
  have hM:Mod K mg (hidT s₁.heap H):=⟨hKb,nsK hns,⟨mb,nsK hb,hbb⟩,let ⟨mc,h1,h2⟩:=hlim;⟨mc,nsK h1,h2⟩⟩
  have e0:Env0 P w K mg (hidT s₁.heap H) callerA [] s₁ H:=⟨rfl,hM,fun b o e=>of_hidT e,Nat.le_of_eq (hidT_size _ _),trivial,fun b hb=>absurd (show b∈([]:List Addr) from hb) (by simp),hok,.of_eq hg⟩
  refine codeAny_mono ((F _ hKb (nsK hns)).run callerA [] s₁ H ⟨[.ref a],[]⟩ [.ref a] [.ref a] _ _ hr e0 (hbind s₁ (.ref a)) (.cons rfl .nil) (hsp H hO hS)) fun r s' h=>?_
  cases r with
  | error e=>exact (hCX H e s' h).elim
  | ok fl =>
   cases fl with
   | next=>exact False.elim h
   | brk=>exact False.elim h
   | cont=>exact False.elim h
   | ret u =>
    obtain ⟨v,H',os,bare,un,hok',r',q⟩:=h
    have q':v=.bl true:=q
    subst q'
    obtain rfl:u=Value.bool true:=r'
    refine ⟨rfl,OldK.of_keep fun b o e=>?_,os,bare⟩
    cases q:H b with
    | none=>exact un.keep b o e q (by intro z;exact absurd (show b∈([]:List Addr) from z) (by simp)) (by simp)
    | some u =>
     rcases hO b with z | ⟨ob,xs,z⟩
     ·rw [q] at z;cases z
     ·have z2:=un.frzs b ob _ z
      obtain ⟨e1,_⟩:=hok b _ z
      obtain ⟨e2,_⟩:=hok' b _ z2
      rw [e] at e1;cases e1
      exact e2
 cases hk:K.lookup a with
 | some o =>
  -- the script is one of the module's own objects
  have e:=KX a o hk
  rw [ha] at e
  cases e
  refine core (fun _=>none) (fun _=>.inl rfl) (.inr ⟨_,vs.toArray,_,hk,rfl,rfl,rfl,by rw [List.size_toArray,lenV];exact hl,by simpa using rv⟩) (fun b u z=>by have z':(none:Option HO)=some u:=z;cases z') (fun b z=>absurd rfl z) fun z=>absurd rfl z
 | none =>
  refine core (fun b=>if b=a then some (.frz { cls:=.type "list",data:=.seq vs.toArray } (.lst (ns.map V.int))) else none) (fun b=>?_) (.inl (.inr ⟨{ cls:=.type "list",data:=.seq vs.toArray },if_pos rfl⟩)) (fun b u z=>?_) (fun b z=>?_) fun _=>hk
  ·by_cases hb:b=a
   ·exact .inr ⟨_,_,if_pos hb⟩
   ·exact .inl (if_neg hb)
  ·by_cases hb:b=a
   ·have z':=(if_pos hb).symm.trans z
    cases z'
    subst hb
    exact ⟨ha,by rw [List.length_map];exact hl,vs,_,rv,ha⟩
   ·have z':=(if_neg hb).symm.trans z
    cases z'
  ·by_cases hb:b=a
   ·exact hb
   ·exact absurd (if_neg hb) z
abbrev KOf {K:PySem.W.Frag}{h:Heap} (_:K.In h):PySem.W.Frag:=K
theorem walk_of {l:PySem.W.OpenLaw}{n k:Nat}{q:Program}{loose:List Str}{XP:(Str→Option Value)→Heap→Prop}{YP:World→Heap→Prop}{d:DefRec}{K:Params→PySem.W.Frag}{CX:World→CXT}{sp:World→Sp}{x:Str}
  (hn:l.most=some n) (hn2:n≤sizeLine) (hdf:d.params.defaults=[]) (hr:Room k callerA)
  (hY:∀ (w:World) (h:Heap),YP w h→(K w.params).In h)
  (F:∀ (w:World) (mg:Str→Option Value) (fa:Addr) (h:Heap),(K w.params).In h→h.Ns mainGlobals mg→mg d.name=some (.ref fa) →
   ∃ fd:FuncData,(∀ (s:Shared) (u:Value),BindsTo s fd ⟨[u],[]⟩ [(x,u)]) ∧
    ∀ base:Heap,(K w.params).In base→base.Ns mainGlobals mg→FnOk l.prog w (K w.params) mg base (CX w) k fa fd [x] (sp w))
  (hsp:∀ (w:World) (H:Hp) (a:Addr) (ns:List Int),ns.length≤n→Only H→SqL (K w.params) H a (ns.map V.int)→sp w [.ref a] H (fun v _=>v=.bl true) fun _ _ _=>False)
  (hCX:∀ (w:World) (H:Hp) (s:Shared) (e:Value) (s':Shared),CX w [] H s (fun _ _ _=>False) e s'→False) :
  PySem.W.WalkO q loose XP YP l.row.toRowW d [] (fun f vs=>PySem.call f vs):=by
 refine Att.attach_call hn hdf fun w s₀ s₁ mg mb fa o pm cd doc a vs ns G Y ho hd hcd hmg hobj hints hlen hg=>?_
 have KX:=hY w _ Y
 obtain ⟨fd,hb,hF⟩:=F w mg fa _ KX G.T.g hmg
 exact law_call KX G.T.g G.T.b G.T.builtins G.T.nolimit hg hobj hints (Nat.le_trans hlen hn2) hr hF hb (fun H hO hS=>hsp w H a ns hlen hO hS) fun H e s'=>hCX w H s₁ e s'
end L2
/- THE LAST THEOREM (shape;LID,My.* are yours):
   My.Adr: a structure of the addresses that your layer names (classes,functions);My.Txt K t: a structure (Prop) of the equations over K;
   My.txt_mk:{K}{implicit addresses ..} (e1:nsIn K mainGlobals "law" = some (some (.ref f))) (e2:K.lookup f=some ⟨oc,od,.func (fnOf "law" "law" params body scope dV kV doc pm an cdv ct),sl⟩) (e3:codeIn K cdv "law" = true) .. : ∃ t,My.Txt K t
set_option maxRecDepth 100000 in
set_option maxHeartbeats 0 in
theorem PySem.Challenge.cw_LID_holds : PySem.Challenge.rw_LID.Holds := by
 w_on;o_law;k_head;(case hw=>w_witness2)
 k_fill
 refine L2.walk_of (l:=PySem.Challenge.rw_LID) (n:=63) (k:=40) (x:="script") (CX:=fun w=>..) (sp:=fun _=>My.sp_law) rfl (by decide) rfl ⟨rfl,by decide,by decide⟩ (fun w h Y=>PySem.W.kIn_of Y) ?F ?S ?C
 case F =>
  intro w mg fa h KX G hmg
  have T:∃ t,My.Txt (L2.KOf KX) t:=by
   dsimp only [L2.KOf]                          -- K must stand as «<heap const> w.params» for k_is
   refine' My.txt_mk ?e1 ?e2 ?e3 ..
   (case e1 => PySem.W.k_is)                    -- in the order: a name -> its address -> its object -> its parts
   (case e2=>PySem.W.k_is)
   ..
  obtain ⟨t,T⟩:=T
  have e0:=hmg.symm.trans (PySem.W.mg_of KX G T.law)
  cases e0                                       -- fa is the law's own address
  exact ⟨_, fun s u => .of_eq rfl, fun base kb nb => My.law_fn T kb nb⟩     -- if «.of_eq rfl» comes too early: refine' ⟨_, ?b, fun base kb nb => My.law_fn T kb nb⟩; exact fun s u => .of_eq rfl
 case S=>exact fun w H a ns hl hO hS=>..
 case C=>exact ..
(the tactic k_is has no namespace: write k_is) -/
namespace L2
open PySem PySem.Spec PyProof.Rows
def inClass (s:Stmt) (j:Nat):Stmt:=match s with
 | .ClassDef _ _ _ body _ _ _ _ _ _ _=>body.getD j (.Pass ⟨0,0,0,0⟩)
 | _=>.Pass ⟨0,0,0,0⟩
def defArgs (s:Stmt):Arguments:=match s with
 | .FunctionDef _ a _ _ _ _ _ _ _ _=>a
 | _=>{ posonlyargs:=[],args:=[],vararg:=none,kwonlyargs:=[],kw_defaults:=[],kwarg:=none,defaults:=[] }
def defBody (s:Stmt):List Stmt:=match s with
 | .FunctionDef _ _ b _ _ _ _ _ _ _=>b
 | _=>[]
def defScope (s:Stmt):Scope:=match s with
 | .FunctionDef _ _ _ _ _ _ sc _ _ _=>sc
 | _=>{ kind:=.function,names:=[],isGenerator:=false,isCoroutine:=false }
abbrev CX0:CXT:=fun _ _ _ _ _ _=>False
abbrev E0:XK:=fun _ _ _=>False
theorem pass0 {X:Cx}:Passes CX0 X E0:=fun _ _ _ _ _ _ _ h=>h.elim
structure Fun (K:PySem.W.Frag) (x qual:Str) (st:Stmt) (f:Addr) (fd:FuncData):Prop where
 ex:∃ (oc:Value) (od:Option Addr) (kV doc pm:Value) (an:Option Addr) (cdv ct:Value) (osl:Array (Option Value)),
  fd=PySem.W.fnOf x qual (defArgs st) (defBody st) (defScope st) .none kV doc pm an cdv ct∧K.lookup f=some ⟨oc,od,.func fd,osl⟩∧PySem.W.codeIn K cdv qual=true
 kp:PySem.W.keepIn K (.ref f)=true
section
variable {P:Program}{w:World}{K:PySem.W.Frag}{mg:Str→Option Value}{base:Heap}
theorem Fun.ok {x qual:Str}{st:Stmt}{f:Addr}{fd:FuncData}{N ps:List Str}{k:Nat}{sp:Sp} (F:Fun K x qual st f fd) (S:FnScope N ps (defScope st)) (len:∀ vs H Q E,sp vs H Q E→vs.length=ps.length)
  (hbody:∀ (cdv:Value) (A:Around) (outer:List Env) (s:Shared) (H:Hp) (vs:List V) (Q:VK) (E:XK),Room k (A.deeper (envOfC qual (defScope st) s.heap.objs.size f cdv))→sp vs H Q E →
   ∃ t,PSs (cxOf CX0 P w K mg base N qual (defScope st) f cdv A outer s H E).nox (defBody st) t∧t { nx:=fun _ H'=>Q .non H',rt:=Q } (start N vs) H):FnOk P w K mg base CX0 (k+1) f fd ps sp:=by
 obtain ⟨oc,od,kV,doc,pm,an,cdv,ct,osl,rfl,lk,hcd⟩:=F.ex
 refine fn_of lk hcd S len fun A outer s H vs Q E hr hsp=>?_
 obtain ⟨t,h,q⟩:=hbody cdv A outer s H vs Q E hr hsp
 exact ⟨t,h.nox,q⟩
theorem Fun.binds {x qual:Str}{st:Stmt}{f:Addr}{fd:FuncData}{ps:List Str} (F:Fun K x qual st f fd)
  (h:∀ (kV doc pm:Value) (an:Option Addr) (cdv ct:Value) (us:List Value),us.length=ps.length→bindArgs (PySem.W.fnOf x qual (defArgs st) (defBody st) (defScope st) .none kV doc pm an cdv ct) ⟨us,[]⟩=pure (ps.zip us)):Binds K fd ps []:=by
 obtain ⟨oc,od,kV,doc,pm,an,cdv,ct,osl,rfl,lk,hcd⟩:=F.ex
 exact .all (h kV doc pm an cdv ct)
theorem fun_mk {x qual:Str}{st:Stmt}{f:Addr}{oc:Value}{od an:Option Addr}{osl:Array (Option Value)}{kV doc pm cdv ct:Value} (l:K.lookup f=some ⟨oc,od,.func (PySem.W.fnOf x qual (defArgs st) (defBody st) (defScope st) .none kV doc pm an cdv ct),osl⟩)
  (c:PySem.W.codeIn K cdv qual=true) (k:PySem.W.keepIn K (.ref f)=true):Fun K x qual st f (PySem.W.fnOf x qual (defArgs st) (defBody st) (defScope st) .none kV doc pm an cdv ct):=⟨⟨oc,od,kV,doc,pm,an,cdv,ct,osl,rfl,l,c⟩,k⟩
end
theorem hu_of {A:Around}{k:Nat} (hr:Room k A):A.units+1<cLine:=Nat.lt_of_le_of_lt (Nat.add_le_add_left (by decide:1≤64) _) hr.units
section
variable {X:Cx}
theorem call_lenD:CallR X (.builtin "len") (fun xs H Q=>∃ a kvs,xs=[V.ref a]∧H a=some (.dK kvs)∧Q (.int kvs.length) H):=by
 intro pins s σ H xs us Q I r h
 obtain ⟨a,kvs,rfl,ha,q⟩:=h
 obtain ⟨u,rfl,ru⟩:=vals1 r
 cases ru
 exact d_len I (.inl ha) fun t s' I'=>⟨.int kvs.length,H,I',⟨t,rfl⟩,q⟩
end
def Same (H H':Hp):Prop:=∀ b o,H b=some o→H' b=some o
theorem Same.refl (H:Hp):Same H H:=fun _ _ h=>h
theorem Same.trans {H H1 H2:Hp} (a:Same H H1) (b:Same H1 H2):Same H H2:=fun c o h=>b c o (a c o h)
theorem Same.seq {K:PySem.W.Frag}{H H':Hp}{a:Addr}{xs:List V} (e:Same H H') (h:SqL K H a xs):SqL K H' a xs:=by
 rcases h with (h | ⟨o,h⟩) | h
 ·exact .inl (.inl (e _ _ h))
 ·exact .inl (.inr ⟨o,e _ _ h⟩)
 ·exact .inr h
section
variable {κ:Type} [DecidableEq κ]
end
def clOf (env:Env):List (Str × NameKind)→List (Str × Addr)→List (Str × Addr)
 | [],acc=>acc
 | (n,k) :: r,acc=>if (k == NameKind.free)=true then clOf env r ((n,(env.cells.lookup n).getD 0) :: acc) else clOf env r acc
theorem cellOf_eq {env:Env}{n:Str}{c:Addr} (h:env.cells.lookup n=some c):cellOf env n=pure c:=by
 unfold cellOf
 rw [h]
theorem closure_go {env:Env}:∀ (names:List (Str × NameKind)) (acc:List (Str × Addr)),(∀ x∈names,x.2=.free→∃ c,env.cells.lookup x.1=some c) →
  (forIn names acc fun (x:Str × NameKind) (cs:List (Str × Addr))=>(match x with | (name,kind)=>if (kind == NameKind.free)=true then (do let __do_lift ← cellOf env name;pure PUnit.unit;pure (ForInStep.yield ((name,__do_lift) :: cs)):Sem _) else (do pure PUnit.unit;pure (ForInStep.yield cs)):Sem (ForInStep (List (Str × Addr)))))=pure (clOf env names acc)
 | [],acc,_=>rfl
 | (n,k) :: r,acc,h=>by
  have ih:=fun a=>closure_go r a fun x hx=>h x (List.mem_cons_of_mem _ hx)
  rw [List.forIn_cons]
  by_cases hk:(k == NameKind.free)=true
  ·obtain ⟨c,hc⟩:=h (n,k) List.mem_cons_self (by simpa using hk)
   simp only [hk,if_true,clOf,cellOf_eq hc,hc,Option.getD_some,pure_bind]
   exact ih _
  ·simp only [hk,if_false,clOf,pure_bind]
   exact ih _
theorem closure_of {scope:Scope}{env:Env} (h:∀ x∈scope.names,x.2=.free→∃ c,env.cells.lookup x.1=some c):closureFor scope env=pure (clOf env scope.names []):=by
 unfold closureFor
 have q:=closure_go scope.names [] h
 exact (congrArg (fun m=>m >>= pure) q).trans (pure_bind _ _)
theorem clOf_sub {env:Env}:∀ (names:List (Str × NameKind)) (acc:List (Str × Addr)),(∀ x∈names,x.2=.free→∃ c,env.cells.lookup x.1=some c)→(∀ p∈acc,env.cells.lookup p.1=some p.2) →
  ∀ p∈clOf env names acc,env.cells.lookup p.1=some p.2
 | [],acc,_,ha=>ha
 | (n,k) :: r,acc,h,ha=>by
  by_cases hk:(k == NameKind.free)=true
  ·obtain ⟨c,hc⟩:=h (n,k) List.mem_cons_self (by simpa using hk)
   simp only [clOf,hk,if_true]
   refine clOf_sub r _ (fun x hx=>h x (List.mem_cons_of_mem _ hx)) fun p hp=>?_
   rcases List.mem_cons.mp hp with rfl | hp
   ·show env.cells.lookup n=some _
    rw [hc];rfl
   ·exact ha p hp
  ·simp only [clOf,hk,if_false]
   exact clOf_sub r _ (fun x hx=>h x (List.mem_cons_of_mem _ hx)) ha
theorem clOf_acc {env:Env}:∀ (names:List (Str × NameKind)) (acc:List (Str × Addr)) (p:Str × Addr),p∈acc→p∈clOf env names acc
 | [],_,_,h=>h
 | (n,k) :: r,acc,p,h=>by
  by_cases hk:(k == NameKind.free)=true
  ·simp only [clOf,hk,if_true]
   exact clOf_acc r _ p (List.mem_cons_of_mem _ h)
  ·simp only [clOf,hk,if_false]
   exact clOf_acc r _ p h
theorem clOf_has {env:Env}:∀ (names:List (Str × NameKind)) (acc:List (Str × Addr)) (x:Str),(x,NameKind.free)∈names→∃ c,(x,c)∈clOf env names acc
 | (n,k) :: r,acc,x,h=>by
  rcases List.mem_cons.mp h with e | h
  ·injection e with e1 e2
   subst e1;subst e2
   simp only [clOf,beq_self_eq_true,if_true]
   exact ⟨_,clOf_acc r _ _ List.mem_cons_self⟩
  ·by_cases hk:(k == NameKind.free)=true
   ·simp only [clOf,hk,if_true]
    exact clOf_has r _ x h
   ·simp only [clOf,hk,if_false]
    exact clOf_has r _ x h
theorem lookup_some_of_mem:∀ {l:List (Str × Addr)}{x:Str}{c:Addr},(x,c)∈l→∃ d,l.lookup x=some d
 | (n,d) :: r,x,c,h=>by
  by_cases e:x == n
  ·exact ⟨d,by simp [List.lookup_cons,e]⟩
  ·rcases List.mem_cons.mp h with q | q
   ·injection q with q1 _
    subst q1
    simp at e
   ·obtain ⟨d',hd⟩:=lookup_some_of_mem q
    exact ⟨d',by simp [List.lookup_cons,e,hd]⟩
theorem relabel_look {env:Env}:∀ {names:List (Str × NameKind)}{x:Str}{k:NameKind},
  (names.map fun (n,k)=>if (k == NameKind.free && env.scope.kind == .function && env.kindOf n == some .cell) then (n,NameKind.cell) else (n,k)).lookup x=some k →
  ∃ k',names.lookup x=some k'∧(k=k'∨k'=.free)
 | [],_,_,h=>by simp at h
 | (n,j) :: r,x,k,h=>by
  have ih:=@relabel_look env r x k
  by_cases hc:(j == NameKind.free && env.scope.kind == .function && env.kindOf n == some .cell)=true
  ·simp only [List.map_cons,hc,if_true,List.lookup_cons] at h ⊢
   cases e:x == n with
   | true =>
    rw [e] at h
    refine ⟨j,rfl,.inr ?_⟩
    simp only [Bool.and_eq_true,beq_iff_eq] at hc
    exact hc.1.1
   | false =>
    rw [e] at h
    exact ih h
  ·rw [List.map_cons] at h
   dsimp only at h
   rw [if_neg hc,List.lookup_cons] at h
   rw [List.lookup_cons]
   cases e:x == n with
   | true =>
    rw [e] at h
    exact ⟨j,rfl,.inl (by injection h with h;exact h.symm)⟩
   | false =>
    rw [e] at h
    exact ih h
theorem relabel_free {env:Env}:∀ {names:List (Str × NameKind)}{x:Str},names.lookup x=some .free →
  (names.map fun (n,k)=>if (k == NameKind.free && env.scope.kind == .function && env.kindOf n == some .cell) then (n,NameKind.cell) else (n,k)).lookup x=some .cell ∨
  (names.map fun (n,k)=>if (k == NameKind.free && env.scope.kind == .function && env.kindOf n == some .cell) then (n,NameKind.cell) else (n,k)).lookup x=some .free
 | [],_,h=>by simp at h
 | (n,j) :: r,x,h=>by
  have ih:=@relabel_free env r x
  cases e:x == n with
  | true =>
   rw [List.lookup_cons,e] at h
   injection h with h
   subst h
   rw [List.map_cons]
   dsimp only
   split
   ·exact .inl (by simp [List.lookup_cons,e])
   ·exact .inr (by simp [List.lookup_cons,e])
  | false =>
   rw [List.lookup_cons,e] at h
   rcases ih h with q | q
   ·left
    rw [List.map_cons]
    dsimp only
    split <;> simp only [List.lookup_cons,e] <;> exact q
   ·right
    rw [List.map_cons]
    dsimp only
    split <;> simp only [List.lookup_cons,e] <;> exact q
def ccx (X:Cx) (scope:Scope) (N:List Str) (C:Addr) (s:Shared) (H:Hp) (fp:List Addr):Cx :=
 { X with N:=N,s₀:=s,H₀:=H,env:=compEnvC scope (clOf X.env scope.names []) C X.env,outer:=X.stack,stack:=X.stack,ex:=fp,fn:=fun _=>false,pn:=[],xe:=fun _ _=>False }
structure CScope (X:Cx) (scope:Scope):Prop where
 kind:scope.kind=.function
 nocell:∀ y∈scope.names,y.2≠.cell
 names:∀ y∈scope.names,y.2=.local→scope.names.lookup y.1=some .local
 free:∀ y∈scope.names,y.2=.free→X.env.kindOf y.1=some .cell∨X.env.kindOf y.1=some .free
section
variable {X:Cx}{pins:List (Addr × Obj)}{σ:St}{H:Hp}{s:Shared}
theorem CScope.has {scope:Scope} (S:CScope X scope) (ok:X.Ok):∀ x∈scope.names,x.2=.free→∃ c,X.env.cells.lookup x.1=some c:=fun x hx h=>ok.has _ (S.free x hx h)
theorem cl_sub {scope:Scope} (S:CScope X scope) (ok:X.Ok) {x:Str}{c:Addr} (h:(clOf X.env scope.names []).lookup x=some c):X.env.cells.lookup x=some c :=
 clOf_sub scope.names [] (S.has ok) (fun p hp=>absurd hp (by simp)) (x,c) (PySem.mem_of_lookup h)
theorem cl_free {scope:Scope} (S:CScope X scope) (ok:X.Ok) {x:Str} (h:scope.names.lookup x=some .free):∃ c,(clOf X.env scope.names []).lookup x=some c∧X.env.cells.lookup x=some c:=by
 obtain ⟨c,hc⟩:=clOf_has (env:=X.env) scope.names [] x (PySem.mem_of_lookup h)
 obtain ⟨d,hd⟩:=lookup_some_of_mem hc
 exact ⟨d,hd,cl_sub S ok hd⟩
structure CNames (X:Cx) (scope:Scope) (N:List Str) (k:Nat) (sel:List Nat):Prop where
 len:N.length=k+sel.length
 fr:∀ (i j:Nat) (x:Str),sel[i]? = some j→N[k+i]? = some x→X.N[j]? = some x∧scope.names.lookup x=some .free
def cst (σ:St) (k:Nat) (sel:List Nat):St:=List.replicate k none ++ sel.map fun j=>(σ[j]?).join
theorem cst_len {k:Nat}{sel:List Nat}:(cst σ k sel).length=k+sel.length:=by
 unfold cst;rw [List.length_append,List.length_replicate,List.length_map]
theorem ccx_ok {scope:Scope}{N:List Str}{fp:List Addr} (S:CScope X scope) (I:Inv X pins σ H s) (hf:∀ b∈fp,FpOk X pins H b) (hlt:∀ b∈fp,b<s.heap.objs.size):(ccx X scope N s.heap.objs.size s H fp).Ok where
 mod:=I.ok.mod
 kind:=S.kind
 glob:=I.ok.glob
 blt:=I.ok.blt
 above:=Nat.le_refl _
 inj:=fun x y c h1 h2=>I.ok.inj x y c (cl_sub S I.ok h1) (cl_sub S I.ok h2)
 has:=fun x h=>by
  have h':(relabel scope X.env).names.lookup x=some .cell∨(relabel scope X.env).names.lookup x=some .free:=h
  rcases h' with h' | h'
  ·obtain ⟨k',e,q⟩:=relabel_look h'
   rcases q with q | q
   ·subst q
    exact absurd rfl (S.nocell _ (PySem.mem_of_lookup e))
   ·subst q
    obtain ⟨c,hc,_⟩:=cl_free S I.ok e
    exact ⟨c,hc⟩
  ·obtain ⟨k',e,q⟩:=relabel_look h'
   have:k'=.free:=by rcases q with q | q;exact q.symm;exact q
   subst this
   obtain ⟨c,hc,_⟩:=cl_free S I.ok e
   exact ⟨c,hc⟩
 cab:=fun x c h=>absurd (show false=true from h) (by simp)
 hd:=I.ok.hd
 frames:=I.ok.frames
 stk:=.inl rfl
 exf:=fun b hb=>⟨Nat.ne_of_lt (hlt b hb),fun x c h=>(hf b hb).2.2.2.2.1 x c (cl_sub S I.ok h)⟩
 bs:=I.bs
 bsz:=Nat.le_trans I.ok.bsz I.sz
 noex:=fun b o e hb=>by
  rcases (hf b hb).2.2.2.1 with z | z
  ·exact I.ok.noex b o e z
  ·exact absurd (Nat.lt_of_lt_of_le (Heap.lt_size e) (Nat.le_trans I.ok.bsz z)) (Nat.lt_irrefl _)
 exfs:=fun b hb z=>by
  rcases List.mem_cons.mp (I.stkSub b z) with q | q
  ·exact (hf b hb).2.1 q
  ·exact (hf b hb).2.2.1 q
 funs:=I.stack
 frf:=I.stkFree
theorem ccx_inv {scope:Scope}{N:List Str}{fp:List Addr}{k:Nat}{sel:List Nat}{h₁:Heap}{m:Str→Option Value}{t':Nat} (S:CScope X scope) (M:CNames X scope N k sel) (I:Inv X pins σ H s) (hf:∀ b∈fp,FpOk X pins H b) (hlt:∀ b∈fp,b<s.heap.objs.size)
  (hn:h₁.Ns s.heap.objs.size m) (hk:∀ b o,s.heap.get? b=some o→h₁.get? b=some o):Inv (ccx X scope N s.heap.objs.size s H fp) [] (cst σ k sel) H { s with heap:=h₁,toks:=t' }:=by
 refine ⟨ccx_ok S I hf hlt,rfl,I.bare,Un.kept hk,⟨m,hn,fun i x v e1 e2 e3=>?_⟩,fun x c e=>?_,I.hok.fresh (Nat.le_refl _),fun x c e=>I.freeC x c (cl_sub S I.ok e),fun p hp=>absurd (show p∈([]:List (Addr × Obj)) from hp) (by simp),I.hok.kept hk,?_⟩
 ·have hi:k≤i:=by
   by_cases hi:k≤i
   ·exact hi
   ·unfold cst at e2
    rw [List.getElem?_append_left (by simp;omega),List.getElem?_replicate] at e2
    split at e2 <;> cases e2
  obtain ⟨d,rfl⟩:∃ d,i=k+d:=⟨i - k,by omega⟩
  unfold cst at e2
  rw [List.getElem?_append_right (by simp),List.length_replicate,Nat.add_sub_cancel_left,List.getElem?_map] at e2
  cases ej:sel[d]? with
  | none=>rw [ej] at e2;cases e2
  | some j =>
   rw [ej] at e2
   have e2':(σ[j]?).join=some v:=Option.some.inj e2
   have e4:σ[j]? = some (some v):=by
    cases q:σ[j]? with
    | none=>rw [q] at e2';cases e2'
    | some o=>rw [q] at e2';cases o with
     | none=>cases e2'
     | some w=>cases e2';rfl
   obtain ⟨hN,hfr⟩:=M.fr d j x ej e1
   obtain ⟨mo,hno,hlo⟩:=I.loc
   have hkind:=S.free _ (PySem.mem_of_lookup hfr) rfl
   obtain ⟨u,ru,lu⟩:=hlo j x v hN e4 (by rcases hkind with q | q;exact .inr (.inl q);exact .inr (.inr q))
   obtain ⟨c,hc,hc'⟩:=cl_free S I.ok hfr
   refine ⟨u,ru,.inr ⟨?_,c,hc,?_⟩⟩
   ·exact relabel_free hfr
   ·rcases lu with ⟨kl,_⟩ | ⟨_,c',e5,z⟩
    ·rcases hkind with q | q
     ·rw [kl] at q;cases q
     ·rw [kl] at q;cases q
    ·rw [hc'] at e5;cases e5
     obtain ⟨o,ho,hd⟩:=z
     exact ⟨o,hk _ _ ho,hd⟩
 ·obtain ⟨v,o,ho,hd⟩:=I.cell x c (cl_sub S I.ok e)
  exact ⟨v,o,hk _ _ ho,hd⟩
 ·rw [cst_len];exact M.len.symm
end
def PTs (X:Cx) (ifs:List Expr) (t:TT):Prop :=
 ∀ (pins:List (Addr × Obj)) (s:Shared) (σ:St) (H:Hp) (Q:Bool→Hp→Prop),Inv X pins σ H s→t σ H Q →
  wpAny (model X.prog X.w) X.A (forIn ifs true fun c r=>if r=true then do let ok ← isTrue c X.env (eval c X.env);pure (ForInStep.yield ok) else pure (ForInStep.yield r)) (TP X pins σ Q) X.xe s
def tTrue:TT:=fun _ H Q=>Q true H
theorem pts_nil {X:Cx}:PTs X [] tTrue:=fun pins s σ H Q I h=>wpAny_tests_nil ⟨H,I,h⟩
theorem pts_one {X:Cx}{c:Expr}{t:TT} (hc:PT X c t):PTs X [c] t:=fun pins s σ H Q I h=>wpAny_tests_one (hc pins s σ H Q I h)
def tComp (wi:TI) (k:Nat) (sel:List Nat) (g:TG) (tt:TT) (te:TE):TE:=fun σ H Q=>wi σ H fun J H1=>∀ p,H1 p=none →
 ∃ W:Nat→Nat→St→Hp→Prop,(∃ m,W 0 m (cst σ k sel) (upd H1 p (.lst [])))∧∀ i m σ2 H2,W i m σ2 H2 →
  (J.stop i H2∧Q (.ref p) H2)∨(J.go i H2∧∀ x H3,J.yld i H2 x H3→g x σ2 H3 fun σ4 H4=>tt σ4 H4 fun b H5 =>
   if b=true then te σ4 H5 fun v H6=>∃ ys,H6 p=some (.lst ys)∧ys.length<sizeLine∧∃ m',m'<m∧W (i+1) m' σ4 (upd H6 p (.lst (ys ++ [v]))) else ∃ m',m'<m∧W (i+1) m' σ4 H5)
theorem comp_loop {X:Cx}{elt tg iter:Expr}{ifs:List Expr}{scope:Scope}{pos:Pos}{it D:Addr}{fp:List Addr}{tn:Nat→Heap→Prop}{J:It}{g:TG}{tt:TT}{te:TE}{W:Nat→Nat→St→Hp→Prop}{R:Result→Shared→Prop}{QQ:Hp→Prop}
  (hx:X.xe=fun _ _=>False) (hc:X.calm=true) (T:Turn X.prog X.w X.K tg J fp it tn) (hg:PG X tg g) (ht:PTs X ifs tt) (he:PE X elt te)
  (hfp:∀ b∈fp,b≠X.env.locals∧b ∉ X.fs∧(b∈X.ex∨X.s₀.heap.objs.size≤b)∧(∀ x c,X.env.cells.lookup x=some c→c≠b)∧∀ p∈X.pn ++ [],p.1≠b)
  (turn:∀ i m σ2 H2,W i m σ2 H2 →
   (J.stop i H2∧QQ H2)∨(J.go i H2∧∀ x H3,J.yld i H2 x H3→g x σ2 H3 fun σ4 H4=>tt σ4 H4 fun b H5 =>
    if b=true then te σ4 H5 fun v H6=>∃ ys,H6 D=some (.lst ys)∧ys.length<sizeLine∧∃ m',m'<m∧W (i+1) m' σ4 (upd H6 D (.lst (ys ++ [v]))) else ∃ m',m'<m∧W (i+1) m' σ4 H5))
  (hR:∀ s' σ' H',Inv X [] σ' H' s'→QQ H'→R (.ok .next) s') {s:Shared} (m0:Nat) (h:∃ i σ' H',Inv X [] σ' H' s∧tn i s.heap∧(∀ b∈fp,H' b=none)∧W i m0 σ' H') :
  codeAny (model X.prog X.w) X.A (.compLoop (.ListComp elt [⟨tg,iter,ifs,0⟩] scope pos) 0 (.ref it) (.ref D) X.env) R s:=by
 have stat:∀ {H':Hp},(∀ b∈fp,H' b=none)→∀ b∈fp,FpOk X [] H' b:=fun hn b hb=>⟨hn b hb,hfp b hb⟩
 have noE:∀ {α:Type}{t:Sem α}{Q:α→Shared→Prop}{E:Value→Shared→Prop}{s:Shared},wpAny (model X.prog X.w) X.A t Q X.xe s→wpAny (model X.prog X.w) X.A t Q E s:=fun {α t Q E s} h=>by
  rw [hx] at h
  exact wpAny_noRaise h
 refine codeAny_loop rfl (fun n s'=>∃ i σ' H',Inv X [] σ' H' s'∧tn i s'.heap∧(∀ b∈fp,H' b=none)∧W i n σ' H') (fun n s3 hI=>?_) m0 h
 obtain ⟨i,σ3,H3,I3,st3,fr3,w3⟩:=hI
 show wpAny _ X.A ((compTurn (.ListComp elt [⟨tg,iter,ifs,0⟩] scope pos) 0 (.ref it) (.ref D) X.env).onRaise (fun x=>do noteFrame x X.env;theTreesLotGoes x)) _ _ s3
 refine wpAny_noted ?_
 rw [compTurn_list]
 rcases turn i n σ3 H3 w3 with ⟨stop,qn⟩ | ⟨go,step⟩
 ·refine wpAny_bind (wpAny_standAt (wpAny_bind (thn (noE (T.done X rfl rfl rfl hc i [] s3 σ3 H3 X.xe I3 (stat fr3) st3 stop)) fun r s4 ⟨hr,I4⟩=>?_)))
  subst hr
  exact wpAny_pure (hR s4 σ3 H3 I4 qn)
 ·refine wpAny_bind (wpAny_standAt (wpAny_bind (thn (noE (T.item X rfl rfl rfl hc i [] s3 σ3 H3 X.xe I3 (stat fr3) st3 go)) fun r s4 ⟨u,hr,h4⟩=>?_)))
  subst hr
  refine wpAny_bind (thn (noE h4) fun _ s5 ⟨x,H5,I5,r5,y5,st5,fr5⟩=>?_)
  have I5':=I5.pinned (stat fr5) (T.obj _ _ st5)
  refine wpAny_bind (thn (noE (hg _ s5 σ3 H5 x u _ I5' r5 (step x H5 y5))) fun _ s6 ⟨σ6,H6,I6,q6⟩=>?_)
  refine wpAny_bind (thn (noE (ht _ s6 σ6 H6 _ I6 q6)) fun ok s7 ⟨H7,I7,q7⟩=>?_)
  have again:∀ {s8:Shared}{H8:Hp},Inv X ([] ++ pinsAt fp s5.heap) σ6 H8 s8→(∃ m',m'<n∧W (i+1) m' σ6 H8)→∃ m,m<n∧∃ i σ' H',Inv X [] σ' H' s8∧tn i s8.heap∧(∀ b∈fp,H' b=none)∧W i m σ' H':=fun {s8 H8} I8 n8=>by
   obtain ⟨m',hm,w8⟩:=n8
   refine ⟨m',hm,i+1,σ6,H8,I8.unpinned,T.keep _ _ _ st5 fun b hb o e=>(I8.pin (b,o) (List.mem_append_right _ (List.mem_append_right _ (mem_pinsAt hb e)))).1,fun b hb=>?_,w8⟩
   obtain ⟨o,e,d⟩:=T.obj _ _ st5 b hb
   exact (I8.pin (b,o) (List.mem_append_right _ (List.mem_append_right _ (mem_pinsAt hb e)))).2.1
  cases ok with
  | false=>exact wpAny_pure ⟨rfl,again I7 q7⟩
  | true =>
   refine wpAny_bind (wpAny_bind (thn (noE (he _ s7 σ6 H7 _ I7 q7)) fun y s8 ⟨v,H8,I8,r8,ys,hys,hl,q8⟩=>?_))
   refine wpAny_bind (thn (noE (mt_append _ s8 σ6 H8 (.ref D) [v] (.ref D) [y] (fun _ H9=>∃ m',m'<n∧W (i+1) m' σ6 H9) I8 rfl (.cons r8 .nil) ⟨D,ys,v,rfl,rfl,hys,hl,q8⟩)) fun _ s9 ⟨_,H9,I9,_,q9⟩=>?_)
   exact wpAny_pure (wpAny_pure ⟨rfl,again I9 q9⟩)
structure CFree (X:Cx) (pins:List (Addr × Obj)) (H:Hp) (C:Addr) (s:Shared):Prop where
 none:H C=Option.none
 ne:C≠X.env.locals
 above:X.s₀.heap.objs.size≤C
 cells:∀ x c,X.env.cells.lookup x=some c→c≠C
 pins:∀ p∈X.pn ++ pins,p.1≠C
 ns:∃ m,s.heap.Ns C m
theorem comp_block {X:Cx}{pins:List (Addr × Obj)}{σ:St}{elt tg iter:Expr}{ifs:List Expr}{scope:Scope}{pos:Pos}{N:List Str}{k:Nat}{sel:List Nat}{g:TG}{tt:TT}{te:TE}{itv:Value}{s2:Shared}{QQ:VK}{use:Option (Value→Sem Unit)}{Qv:Value→Shared→Prop}
  (S:CScope X scope) (M:CNames X scope N k sel) (hc:X.calm=true)
  (hg:∀ C s H fp,PG (ccx X scope N C s H fp) tg g) (ht:∀ C s H fp,PTs (ccx X scope N C s H fp) ifs tt) (he:∀ C s H fp,PE (ccx X scope N C s H fp) elt te)
  (fin:∀ D C s' H',Inv X pins σ H' s'→CFree X pins H' C s'→QQ (.ref D) H'→compPost (model X.prog X.w) X.A X.xe use Qv (.ref D) C (.ok .next) s')
  (h2:PIE X pins σ tg (fun J H1=>∀ p,H1 p=none→∃ W:Nat→Nat→St→Hp→Prop,(∃ m,W 0 m (cst σ k sel) (upd H1 p (.lst [])))∧∀ i m σ2 H2,W i m σ2 H2 →
   (J.stop i H2∧QQ (.ref p) H2)∨(J.go i H2∧∀ x H3,J.yld i H2 x H3→g x σ2 H3 fun σ4 H4=>tt σ4 H4 fun b H5 =>
    if b=true then te σ4 H5 fun v H6=>∃ ys,H6 p=some (.lst ys)∧ys.length<sizeLine∧∃ m',m'<m∧W (i+1) m' σ4 (upd H6 p (.lst (ys ++ [v]))) else ∃ m',m'<m∧W (i+1) m' σ4 H5)) itv s2) :
  wpAny (model X.prog X.w) X.A (newList []) (fun acc s₃=>wpAny (model X.prog X.w) X.A (newFunctionEnv scope X.env.globals (clOf X.env scope.names []) [] X.env.qual none .none (some X.env)) (fun cenv s₄ =>
   codeAny (model X.prog X.w) X.A (.compStart (.ListComp elt [⟨tg,iter,ifs,0⟩] scope pos) 0 itv acc { cenv with scope:=relabel scope X.env }) (compPost (model X.prog X.w) X.A X.xe use Qv acc cenv.locals) s₄) X.xe s₃) X.xe s2:=by
 obtain ⟨it,fp,tn,J,H2,rfl,I2,T,st2,f2,R2⟩:=h2
 have hD:H2 s2.heap.objs.size=none:=I2.hok.fresh (Nat.le_refl _)
 obtain ⟨W,⟨m0,w0⟩,turn⟩:=R2 _ hD
 refine wpAny_newObj_type ?_
 have I3:=I2.lnew (its:=[]) (ys:=[]) (t':=s2.toks) .nil (Nat.zero_le _)
 generalize hs3:({ s2 with heap:=s2.heap.push { cls:=.type "list",data:=.seq ([]:List Value).toArray },toks:=s2.toks }:Shared)=s3 at I3
 have e3:({ s2 with heap:=s2.heap.push { cls:=.type "list",dict:=none,data:=.seq ([]:List Value).toArray } }:Shared)=s3:=by rw [← hs3]
 have up:∀ b o,s2.heap.get? b=some o→s3.heap.get? b=some o:=fun b o e=>by rw [← hs3];exact Heap.get?_push_of_some _ e
 have hsz:s2.heap.objs.size≤s3.heap.objs.size:=by rw [← hs3];show _≤(s2.heap.push _).objs.size;rw [Heap.size_push];exact Nat.le_succ _
 have hlt2:∀ b∈fp,b<s2.heap.objs.size:=fun b hb=>by
  obtain ⟨o,e,_⟩:=T.obj _ _ st2 b hb
  exact Heap.lt_size e
 have hlt:∀ b∈fp,b<s3.heap.objs.size:=fun b hb=>Nat.lt_of_lt_of_le (hlt2 b hb) hsz
 have f3:∀ b∈fp,FpOk X pins (upd H2 s2.heap.objs.size (.lst [])) b:=fun b hb=>⟨by rw [upd_ne (Nat.ne_of_lt (hlt2 b hb))];exact (f2 b hb).1,(f2 b hb).2⟩
 refine wpAny_newFunctionEnv S.nocell (by intro y hy;simp at hy) (fun h₁ hns₁ hsb₁=>?_) S.kind
 have up₁:∀ b o,s3.heap.get? b=some o→h₁.get? b=some o:=fun b o e=>hsb₁.extBut b o (Nat.ne_of_lt (Heap.lt_size e)) (Heap.get?_push_of_some _ e)
 have Ic:=ccx_inv (N:=N) (k:=k) (sel:=sel) (t':=s3.toks+([]:List (Str × Value)).length) S M I3 f3 hlt hns₁ up₁
 have st₁:tn 0 h₁:=T.keep _ _ _ st2 fun b hb o e=>up₁ b o (up b o e)
 have fr:∀ b∈fp,(upd H2 s2.heap.objs.size (.lst [])) b=none:=fun b hb=>(f3 b hb).1
 have loop:codeAny (model X.prog X.w) X.A (.compLoop (.ListComp elt [⟨tg,iter,ifs,0⟩] scope pos) 0 (.ref it) (.ref s2.heap.objs.size) (compEnvC scope (clOf X.env scope.names []) s3.heap.objs.size X.env))
   (compPost (model X.prog X.w) X.A X.xe use Qv (.ref s2.heap.objs.size) s3.heap.objs.size) { s3 with heap:=h₁,toks:=s3.toks+([]:List (Str × Value)).length }:=by
  refine comp_loop (X:=ccx X scope N s3.heap.objs.size s3 (upd H2 s2.heap.objs.size (.lst [])) fp) (QQ:=fun H'=>QQ (.ref s2.heap.objs.size) H') (W:=W) rfl hc T (hg _ _ _ _) (ht _ _ _ _) (he _ _ _ _) (fun b hb=>?_) turn (fun s' σ' H' I' q'=>?_) m0 ⟨0,cst σ k sel,_,Ic,st₁,fr,w0⟩
  ·refine ⟨Nat.ne_of_lt (hlt b hb),?_,.inl hb,fun x c h=>(f3 b hb).2.2.2.2.1 x c (cl_sub S I3.ok h),fun p hp=>absurd (show p∈([]:List (Addr × Obj)) from hp) (by simp)⟩
   exact (ccx_ok (N:=N) S I3 f3 hlt).exfs b hb
  ·have Ie:Inv X pins σ H' s':=I3.call' (ch:=fp) I'.os I'.base I'.hok I'.bare fun b hb=>⟨(f3 b hb).2.2.2.1,(f3 b hb).2.1,(f3 b hb).2.2.2.2.1,(f3 b hb).2.2.2.2.2⟩
   refine fin _ _ s' H' Ie ⟨I'.free,?_,Nat.le_trans I3.sz (Nat.le_refl _),fun x c e=>?_,fun p hp=>?_,?_⟩ q'
   ·exact Ne.symm (Nat.ne_of_lt I3.lt)
   ·obtain ⟨v,o,ho,_⟩:=I3.cell x c e
    exact Nat.ne_of_lt (Heap.lt_size ho)
   ·exact Nat.ne_of_lt (Heap.lt_size (I3.pin p hp).1)
   ·obtain ⟨m,hn,_⟩:=I'.loc
    exact ⟨m,hn⟩
 exact codeAny_compStart_list loop (T.self X.A 0 _ _ _ st₁ loop)
section
variable {X:Cx}{elt tg iter:Expr}{ifs:List Expr}{scope:Scope}{pos:Pos}{N:List Str}{k:Nat}{sel:List Nat}{wi:TI}{g:TG}{tt:TT}{te:TE}
theorem pe_comp (S:CScope X scope) (M:CNames X scope N k sel) (hc:X.calm=true) (hi:PI X tg iter wi)
  (hg:∀ C s H fp,PG (ccx X scope N C s H fp) tg g) (ht:∀ C s H fp,PTs (ccx X scope N C s H fp) ifs tt) (he:∀ C s H fp,PE (ccx X scope N C s H fp) elt te)
  (hs:∀ x,foldedSetIterable iter X.env x=pure x:=by intro _;rfl):PE X (.ListComp elt [⟨tg,iter,ifs,0⟩] scope pos) (tComp wi k sel g tt te):=by
 intro pins s σ H Q I h
 rw [eval_ListComp]
 refine wpAny_comprehension_free (use:=none) rfl hs (closure_of (S.has I.ok)) S.kind S.names (thn (hi pins s σ H _ I h) fun v s1 h1=>thn h1 fun itv s2 h2=>?_)
 refine comp_block (QQ:=Q) S M hc hg ht he (fun D C s' H' I' F q=>?_) h2
 obtain ⟨m,hn⟩:=F.ns
 exact ⟨m,hn,fun h' hsb=>⟨.ref D,H',I'.turned (t':=s'.toks) (fun b o hb e=>hsb.extBut b o hb e) F.none F.ne (.inr F.above) F.cells F.pins,rfl,q⟩⟩
theorem ps_setC {i:Nat}{y:Str}{py spos:Pos} (S:CScope X scope) (M:CNames X scope N k sel) (hc:X.calm=true) (hi:PI X tg iter wi)
  (hg:∀ C s H fp,PG (ccx X scope N C s H fp) tg g) (ht:∀ C s H fp,PTs (ccx X scope N C s H fp) ifs tt) (he:∀ C s H fp,PE (ccx X scope N C s H fp) elt te)
  (hN:X.N.Nodup) (hiy:X.N[i]? = some y) (hy:Loc X.env.scope y)
  (hsw:swapsWith (.ListComp elt [⟨tg,iter,ifs,0⟩] scope pos) (some (.Name y py)) spos.line X.env=pure true)
  (hs:∀ x,foldedSetIterable iter X.env x=pure x:=by intro _;rfl) (hf:X.fn y=true∨X.env.scope.names.lookup y=some .local:=by first | exact .inl rfl | exact .inr rfl | assumption) :
  PS X (.Assign [.Name y py] (.ListComp elt [⟨tg,iter,ifs,0⟩] scope pos) spos) (tAsg (tComp wi k sel g tt te) (gName i)):=by
 intro pins s σ H D I h
 rw [exec_Assign_Name_used _ _ _ _ hsw]
 refine wpAny_bind (wpAny_standAt (wpAny_bind ?_))
 show wpAny _ X.A (do let _ ← comprehension (.ListComp elt [⟨tg,iter,ifs,0⟩] scope pos) scope X.env _ (newList []) false (eval iter X.env) (some (assign (.Name y py) X.env))) _ _ s
 refine wpAny_bind (wpAny_mono (wpAny_comprehension_free (use:=some (assign (.Name y py) X.env)) (Q:=fun _ s'=>SP X pins D .next s') rfl hs (closure_of (S.has I.ok)) S.kind S.names
  (thn (hi pins s σ H _ I h) fun v s1 h1=>thn h1 fun itv s2 h2=>?_)) (fun _ s' hq=>wpAny_pure (wpAny_pure hq)) fun _ _ e=>e)
 refine comp_block (QQ:=fun v H1=>D.nx (σ.set i (some v)) H1) S M hc hg ht he (fun Da C s' H' I' F q=>?_) h2
 show wpAny _ X.A (assign (.Name y py) X.env (.ref Da)) _ _ _
 refine wpAny_assign_Name (store_ok2 I' hN hiy hy (v:=.ref Da) rfl (fun s'' I'' hch=>?_) hf)
 obtain ⟨m,hn⟩:=F.ns
 obtain ⟨a,hsb,ha⟩:=hch
 have haC:C≠a:=by
  rcases ha with ha | ha
  ·rw [ha];exact F.ne
  ·exact Ne.symm (F.cells _ _ ha)
 refine ⟨m,hn.sameBut hsb haC,fun h' hsb'=>⟨σ.set i (some (.ref Da)),H',I''.turned (t':=s''.toks) (fun b o hb e=>hsb'.extBut b o hb e) F.none F.ne (.inr F.above) F.cells F.pins,q⟩⟩
end
section
variable {X:Cx}
theorem PE.imp {e:Expr}{t t':TE} (h:PE X e t) (f:∀ σ H Q,t' σ H Q→t σ H Q):PE X e t':=fun pins s σ H Q I q=>h pins s σ H Q I (f σ H Q q)
theorem OpR.imp {g:Value→Value→Sem Value}{r r':R2} (h:OpR X g r) (f:∀ x y H Q,r' x y H Q→r x y H Q):OpR X g r':=fun pins s σ H x y v u Q I rx ry q=>h pins s σ H x y v u Q I rx ry (f x y H Q q)
theorem IxR.imp {r r':R2} (h:IxR X r) (f:∀ x y H Q,r' x y H Q→r x y H Q):IxR X r':=fun value slice pins s σ H x y v u Q I rx ry q=>h value slice pins s σ H x y v u Q I rx ry (f x y H Q q)
def cVar (i:Nat):TE:=fun σ H Q=>match σ[i]? with | some (some v)=>Q v H | _=>False
theorem cVar_of {i:Nat}{σ:St}{H:Hp}{Q:VK} (h:cVar i σ H Q):tVar i σ H Q:=by
 unfold cVar at h
 split at h
 ·exact ⟨_,by assumption,h⟩
 ·exact h.elim
theorem cv (i:Nat) {x:Str}{pos:Pos} (hN:X.N[i]? = some x:=by rfl) (hv:Vis X.env.scope x:=by first | exact Or.inl rfl | exact Or.inr (Or.inl rfl) | exact Or.inr (Or.inr rfl)) (hd:(x == ("__debug__" : Str))=false:=by decide)
  (hcd:(x == ("__classdict__" : Str))=false:=by decide):PE X (.Name x pos) (cVar i):=(pe_var hN hv hd hcd).imp fun _ _ _ h=>cVar_of h
def cI2 (f:Int→Int→V):R2:=fun x y H Q=>match x,y with | .int i,.int j=>Q (f i j) H | _,_=>False
def cI2c (C:Int→Int→Prop) (f:Int→Int→V):R2:=fun x y H Q=>match x,y with | .int i,.int j=>C i j∧Q (f i j) H | _,_=>False
theorem cI2_of {f:Int→Int→V}{x y:V}{H:Hp}{Q:VK} (h:cI2 f x y H Q):rI0 f x y H Q:=by
 cases x <;> cases y <;> first | exact False.elim h | exact ⟨_,_,rfl,rfl,h⟩
theorem cI2c_of {C:Int→Int→Prop}{f:Int→Int→V}{x y:V}{H:Hp}{Q:VK} (h:cI2c C f x y H Q):rI C f x y H Q:=by
 cases x <;> cases y <;> first | exact False.elim h | exact ⟨_,_,rfl,rfl,h.1,h.2⟩
theorem o_sub:OpR X (binaryOp .Sub) (cI2 fun i j=>.int (i - j)):=op_sub.imp fun _ _ _ _ h=>cI2_of h
theorem o_fdiv:OpR X (binaryOp .FloorDiv) (cI2c CDiv fun i j=>.int (i / j)):=op_fdiv.imp fun _ _ _ _ h=>cI2c_of h
theorem o_mod:OpR X (binaryOp .Mod) (cI2c (fun _ j=>0<j) fun i j=>.int (i % j)):=op_mod.imp fun _ _ _ _ h=>cI2c_of h
theorem o_shr:OpR X (binaryOp .RShift) (cI2c (fun _ j=>0≤j) fun i j=>.int (i / 2 ^ j.toNat)):=op_shr.imp fun _ _ _ _ h=>cI2c_of h
theorem o_and:OpR X (binaryOp .BitAnd) (cI2 fun i j=>.int (Builtin.bitAnd i j)):=op_and.imp fun _ _ _ _ h=>cI2_of h
theorem o_or:OpR X (binaryOp .BitOr) (cI2 fun i j=>.int (Builtin.bitOr i j)):=op_or.imp fun _ _ _ _ h=>cI2_of h
theorem o_xor:OpR X (binaryOp .BitXor) (cI2 fun i j=>.int (Builtin.bitXor i j)):=op_xor.imp fun _ _ _ _ h=>cI2_of h
theorem o_lt:OpR X (compareOp .Lt) (cI2 fun i j=>.bl (decide (i<j))):=op_lt.imp fun _ _ _ _ h=>cI2_of h
theorem o_le:OpR X (compareOp .LtE) (cI2 fun i j=>.bl (decide (i≤j))):=op_le.imp fun _ _ _ _ h=>cI2_of h
theorem o_gt:OpR X (compareOp .Gt) (cI2 fun i j=>.bl (decide (j<i))):=op_gt.imp fun _ _ _ _ h=>cI2_of h
theorem o_ge:OpR X (compareOp .GtE) (cI2 fun i j=>.bl (decide (j≤i))):=op_ge.imp fun _ _ _ _ h=>cI2_of h
def cAdd:R2:=fun x y H Q=>match x,y with
 | .int i,.int j=>Q (.int (i+j)) H
 | .str i,.str j=>i.length+j.length≤sizeLine∧Q (.str (i ++ j)) H
 | .ref l,.ref b=>∃ xs zs,H l=some (.lst xs)∧H b=some (.lst zs)∧xs.length+zs.length≤sizeLine∧∀ p,H p=none→Q (.ref p) (upd H p (.lst (xs ++ zs)))
 | _,_=>False
theorem o_add:OpR X (binaryOp .Add) cAdd:=by
 intro pins s σ H x y v u Q I rx ry h
 cases x <;> cases y <;> first
  | exact False.elim h
  | exact op_add pins s σ H _ _ v u Q I rx ry ⟨_,_,rfl,rfl,h⟩
  | exact op_add_str pins s σ H _ _ v u Q I rx ry ⟨_,_,rfl,rfl,h.1,h.2⟩
  | (obtain ⟨xs,zs,h1,h2,h3,h4⟩:=h;exact op_cat pins s σ H _ _ v u Q I rx ry ⟨_,_,xs,zs,rfl,rfl,h1,h2,h3,h4⟩)
inductive DeepEq (K:PySem.W.Frag) (H:Hp):Nat→V→V→Prop where
 | flat {n:Nat}{x:V} (f:flatV x=true):DeepEq K H n x x
 | lst {n:Nat}{a b:Addr}{xs ys:List V} (h1:SqL K H a xs) (h2:SqL K H b ys) (hl:xs.length=ys.length) (h:∀ (i:Nat) x y,xs[i]? = some x→ys[i]? = some y→DeepEq K H n x y):DeepEq K H (n+1) (.ref a) (.ref b)
 | tup {n:Nat}{a b:Addr}{xs ys:List V} (h1:SqT K H a xs) (h2:SqT K H b ys) (hl:xs.length=ys.length) (h:∀ (i:Nat) x y,xs[i]? = some x→ys[i]? = some y→DeepEq K H n x y):DeepEq K H (n+1) (.ref a) (.ref b)
theorem isListOf {pins:List (Addr × Obj)}{σ:St}{H:Hp}{s:Shared}{a:Addr}{xs:List V} (I:Inv X pins σ H s) (h:SqL X.K H a xs):∃ its:List Value,Vals xs its∧s.heap.IsList a its.toArray:=by
 obtain ⟨its,r,p,_⟩:=I.list h
 exact ⟨its,r,p.isList⟩
theorem units_in1 {A:Around}{n:Nat} (h:A.units+(n+1)<cLine):A.in1.units+n<cLine:=by
 have e:A.in1.units=A.units+1:=rfl
 omega
theorem deep_rc {pins:List (Addr × Obj)}{σ:St}{H:Hp}{s:Shared} (I:Inv X pins σ H s):∀ {n:Nat}{x y:V},DeepEq X.K H n x y→∀ (A:Around) {u v:Value},A.units+n<cLine→RelV x u→RelV y v→SeqAt.EqAt A s u v true
 | _,_,_,.flat f,A,u,v,hu,rx,ry=>by
  have e:=eqAt_V (A:=A) (s:=s) rx ry f f
  rename_i n x
  have q:eqV x x=true:=by cases x <;> first | rfl | (simp [eqV];done) | exact absurd f (by simp [flatV])
  rw [q] at e
  exact e
 | _,_,_,@DeepEq.lst _ _ n a b xs ys h1 h2 hl h,A,u,v,hu,rx,ry=>by
  cases rx;cases ry
  by_cases hab:a=b
  ·subst hab;exact SeqAt.EqAt.same _
  ·obtain ⟨its,r1,p1⟩:=isListOf I h1
   obtain ⟨its2,r2,p2⟩:=isListOf I h2
   have e1:=r1.length
   have e2:=r2.length
   have q:=SeqAt.RcAt.lists (A:=A) (e:=fun _=>true) p1 p2 (by simp;omega) (by omega) (fun j j1 j2=>by
    have j1':j<its.length:=by simpa using j1
    have j2':j<its2.length:=by simpa using j2
    obtain ⟨w1,q1,s1⟩:=r1.get (i:=j) (x:=xs[j]'(by omega)) (by simp)
    obtain ⟨w2,q2,s2⟩:=r2.get (i:=j) (x:=ys[j]'(by omega)) (by simp)
    have z1:its.toArray[j]=w1:=by
     have:=List.getElem?_eq_some_iff.mp q1
     obtain ⟨_,z⟩:=this
     simpa using z
    have z2:its2.toArray[j]=w2:=by
     have:=List.getElem?_eq_some_iff.mp q2
     obtain ⟨_,z⟩:=this
     simpa using z
    rw [z1,z2]
    exact deep_rc I (h j _ _ (by simp) (by simp)) A.in1 (units_in1 hu) s1 s2)
   have:((List.range its.toArray.size).all fun _=>true)=true:=by simp
   rw [this] at q
   exact SeqAt.EqAt.of_refs hab q
 | _,_,_,@DeepEq.tup _ _ n a b xs ys h1 h2 hl h,A,u,v,hu,rx,ry=>by
  cases rx;cases ry
  by_cases hab:a=b
  ·subst hab;exact SeqAt.EqAt.same _
  ·obtain ⟨its,r1,p1,_⟩:=I.tuple h1
   obtain ⟨its2,r2,p2,_⟩:=I.tuple h2
   have e1:=r1.length
   have e2:=r2.length
   have q:=SeqAt.RcAt.tuples (A:=A) (e:=fun _=>true) p1 p2 (by omega) (fun j j1 j2=>by
    have j1':j<its.length:=by simpa using j1
    have j2':j<its2.length:=by simpa using j2
    obtain ⟨w1,q1,s1⟩:=r1.get (i:=j) (x:=xs[j]'(by omega)) (by simp)
    obtain ⟨w2,q2,s2⟩:=r2.get (i:=j) (x:=ys[j]'(by omega)) (by simp)
    have z1:its.toArray[j]=w1:=by
     have:=List.getElem?_eq_some_iff.mp q1
     obtain ⟨_,z⟩:=this
     simpa using z
    have z2:its2.toArray[j]=w2:=by
     have:=List.getElem?_eq_some_iff.mp q2
     obtain ⟨_,z⟩:=this
     simpa using z
    rw [z1,z2]
    exact deep_rc I (h j _ _ (by simp) (by simp)) A.in1 (units_in1 hu) s1 s2)
   have:(((List.range (min its.toArray.size its2.toArray.size)).all fun _=>true) && its.toArray.size == its2.toArray.size)=true:=by simp;omega
   rw [this] at q
   exact SeqAt.EqAt.of_refs hab q
end
section
variable {X:Cx}{a b c:Expr}{ta tb tc:TE}{pos:Pos}
def eqVs (xs ys:List V):Bool:=xs.length == ys.length && (List.range xs.length).all fun i=>eqV (xs.getD i .non) (ys.getD i .non)
theorem eqVs_range {xs ys:List V}{us ws:List Value} (r1:Vals xs us) (r2:Vals ys ws) (f1:xs.all flatV=true) (f2:ys.all flatV=true) (A:Around) (s:Shared) :
  ∀ j (h1:j<us.toArray.size) (h2:j<ws.toArray.size),SeqAt.EqAt A s us.toArray[j] ws.toArray[j] (eqV (xs.getD j .non) (ys.getD j .non)):=fun j j1 j2=>by
 have e1:=r1.length
 have e2:=r2.length
 have j1':j<us.length:=by simpa using j1
 have j2':j<ws.length:=by simpa using j2
 have x1:j<xs.length:=by omega
 have y1:j<ys.length:=by omega
 obtain ⟨w1,q1,s1⟩:=r1.get (i:=j) (x:=xs[j]) (by simp)
 obtain ⟨w2,q2,s2⟩:=r2.get (i:=j) (x:=ys[j]) (by simp)
 have z1:us.toArray[j]=w1:=by
  obtain ⟨_,z⟩:=List.getElem?_eq_some_iff.mp q1
  simpa using z
 have z2:ws.toArray[j]=w2:=by
  obtain ⟨_,z⟩:=List.getElem?_eq_some_iff.mp q2
  simpa using z
 rw [z1,z2]
 have g1:xs.getD j .non=xs[j]:=by simp [List.getD,x1]
 have g2:ys.getD j .non=ys[j]:=by simp [List.getD,y1]
 rw [g1,g2]
 exact eqAt_V s1 s2 (List.all_eq_true.mp f1 _ (List.getElem_mem _)) (List.all_eq_true.mp f2 _ (List.getElem_mem _))
def EqRef (K:PySem.W.Frag) (H:Hp) (p q:Addr) (k:Bool):Prop :=
 (k=true∧DeepEq K H 4 (.ref p) (.ref q)) ∨
 (∃ xs ys,SqL K H p xs∧SqL K H q ys∧xs.all flatV=true∧ys.all flatV=true∧k=eqVs xs ys) ∨
 (k=false∧∃ xs ys,SqL K H p xs∧SqL K H q ys∧xs.length≠ys.length) ∨
 (∃ xs ys,SqT K H p xs∧SqT K H q ys∧xs.all flatV=true∧ys.all flatV=true∧k=eqVs xs ys)
theorem eqRef_rc {pins:List (Addr × Obj)}{σ:St}{H:Hp}{s:Shared}{p q:Addr}{k:Bool} (I:Inv X pins σ H s) (hu:X.A.units+8<cLine) (h:EqRef X.K H p q k) :
  SeqAt.RcAt X.A s (.ref p) (.ref q) k∧SeqAt.RcNeAt X.A s (.ref p) (.ref q) (!k):=by
 have deep:∀ {xs ys:List V}{n:Nat},n≤4→(SqL X.K H p xs∧SqL X.K H q ys∨SqT X.K H p xs∧SqT X.K H q ys)→xs.length=ys.length→(∀ (i:Nat) x y,xs[i]? = some x→ys[i]? = some y→DeepEq X.K H n x y) →
   SeqAt.RcAt X.A s (.ref p) (.ref q) true∧SeqAt.RcNeAt X.A s (.ref p) (.ref q) (!true):=fun {xs ys n} hn hq hl hd=>by
  have items:∀ {us ws:List Value},Vals xs us→Vals ys ws→∀ j (h1:j<us.toArray.size) (h2:j<ws.toArray.size),SeqAt.EqAt X.A.in1 s us.toArray[j] ws.toArray[j] true:=fun {us ws} r1 r2 j j1 j2=>by
   have e1:=r1.length
   have e2:=r2.length
   have j1':j<us.length:=by simpa using j1
   have j2':j<ws.length:=by simpa using j2
   obtain ⟨w1,q1,s1⟩:=r1.get (i:=j) (x:=xs[j]'(by omega)) (by simp)
   obtain ⟨w2,q2,s2⟩:=r2.get (i:=j) (x:=ys[j]'(by omega)) (by simp)
   have z1:us.toArray[j]=w1:=by
    obtain ⟨_,z⟩:=List.getElem?_eq_some_iff.mp q1
    simpa using z
   have z2:ws.toArray[j]=w2:=by
    obtain ⟨_,z⟩:=List.getElem?_eq_some_iff.mp q2
    simpa using z
   rw [z1,z2]
   exact deep_rc I (hd j _ _ (by simp) (by simp)) X.A.in1 (by have e:X.A.in1.units=X.A.units+1:=rfl;omega) s1 s2
  rcases hq with ⟨h1,h2⟩ | ⟨h1,h2⟩
  ·obtain ⟨its,r1,p1⟩:=isListOf I h1
   obtain ⟨its2,r2,p2⟩:=isListOf I h2
   have e1:=r1.length
   have e2:=r2.length
   have z:((List.range its.toArray.size).all fun _=>true)=true:=by simp
   have a1:=SeqAt.RcAt.lists (A:=X.A) (e:=fun _=>true) p1 p2 (by simp;omega) (by omega) (items r1 r2)
   have a2:=SeqAt.RcNeAt.lists (A:=X.A) (e:=fun _=>true) p1 p2 (by simp;omega) (by omega) (items r1 r2)
   rw [z] at a1 a2
   exact ⟨a1,a2⟩
  ·obtain ⟨its,r1,p1,_⟩:=I.tuple h1
   obtain ⟨its2,r2,p2,_⟩:=I.tuple h2
   have e1:=r1.length
   have e2:=r2.length
   have z:(((List.range (min its.toArray.size its2.toArray.size)).all fun _=>true) && its.toArray.size == its2.toArray.size)=true:=by simp;omega
   have a1:=SeqAt.RcAt.tuples (A:=X.A) (e:=fun _=>true) p1 p2 (by omega) (items r1 r2)
   have a2:=SeqAt.RcNeAt.tuples (A:=X.A) (e:=fun _=>true) p1 p2 (by omega) (items r1 r2)
   rw [z] at a1 a2
   exact ⟨a1,a2⟩
 have flatL:∀ {xs ys:List V},SqL X.K H p xs→SqL X.K H q ys→xs.length≠ys.length→SeqAt.RcAt X.A s (.ref p) (.ref q) false∧SeqAt.RcNeAt X.A s (.ref p) (.ref q) (!false):=fun {xs ys} h1 h2 hl=>by
  obtain ⟨its,r1,p1⟩:=isListOf I h1
  obtain ⟨its2,r2,p2⟩:=isListOf I h2
  have e1:=r1.length
  have e2:=r2.length
  have z:(its.toArray.size != its2.toArray.size)=true:=by simp;omega
  exact ⟨SeqAt.RcAt.lists_lengths p1 p2 z (by omega),SeqAt.RcNeAt.lists_lengths p1 p2 z (by omega)⟩
 rcases h with ⟨rfl,h⟩ | ⟨xs,ys,h1,h2,f1,f2,rfl⟩ | ⟨rfl,xs,ys,h1,h2,hl⟩ | ⟨xs,ys,h1,h2,f1,f2,rfl⟩
 ·cases h with
  | flat f=>simp [flatV] at f
  | lst h1 h2 hl hd=>exact deep (by decide) (.inl ⟨h1,h2⟩) hl hd
  | tup h1 h2 hl hd=>exact deep (by decide) (.inr ⟨h1,h2⟩) hl hd
 ·by_cases hl:xs.length=ys.length
  ·obtain ⟨its,r1,p1⟩:=isListOf I h1
   obtain ⟨its2,r2,p2⟩:=isListOf I h2
   have e1:=r1.length
   have e2:=r2.length
   have z:eqVs xs ys=(List.range its.toArray.size).all fun i=>eqV (xs.getD i .non) (ys.getD i .non):=by
    unfold eqVs
    rw [List.size_toArray,← e1,hl]
    simp
   rw [z]
   exact ⟨SeqAt.RcAt.lists p1 p2 (by simp;omega) (by omega) (eqVs_range r1 r2 f1 f2 _ _),SeqAt.RcNeAt.lists p1 p2 (by simp;omega) (by omega) (eqVs_range r1 r2 f1 f2 _ _)⟩
  ·have z:eqVs xs ys=false:=by unfold eqVs;simp [hl]
   rw [z]
   exact flatL h1 h2 hl
 ·exact flatL h1 h2 hl
 ·obtain ⟨its,r1,p1,_⟩:=I.tuple h1
  obtain ⟨its2,r2,p2,_⟩:=I.tuple h2
  have e1:=r1.length
  have e2:=r2.length
  by_cases hl:xs.length=ys.length
  ·have z:eqVs xs ys=((List.range (min its.toArray.size its2.toArray.size)).all (fun i=>eqV (xs.getD i .non) (ys.getD i .non)) && its.toArray.size == its2.toArray.size):=by
    unfold eqVs
    rw [List.size_toArray,List.size_toArray,← e1,← e2,hl]
    simp
   rw [z]
   exact ⟨SeqAt.RcAt.tuples p1 p2 (by omega) (eqVs_range r1 r2 f1 f2 _ _),SeqAt.RcNeAt.tuples p1 p2 (by omega) (eqVs_range r1 r2 f1 f2 _ _)⟩
  ·have z:eqVs xs ys=((List.range (min its.toArray.size its2.toArray.size)).all (fun i=>eqV (xs.getD i .non) (ys.getD i .non)) && its.toArray.size == its2.toArray.size):=by
    have z1:eqVs xs ys=false:=by unfold eqVs;simp [hl]
    have z2:(its.toArray.size == its2.toArray.size)=false:=by simp;omega
    rw [z1,z2,Bool.and_false]
   rw [z]
   exact ⟨SeqAt.RcAt.tuples p1 p2 (by omega) (eqVs_range r1 r2 f1 f2 _ _),SeqAt.RcNeAt.tuples p1 p2 (by omega) (eqVs_range r1 r2 f1 f2 _ _)⟩
def cEq (K:PySem.W.Frag):R2:=fun x y H Q=>match x,y with
 | .int i,.int j=>Q (.bl (decide (i=j))) H
 | .bl i,.bl j=>Q (.bl (decide (i=j))) H
 | .str i,.str j=>Q (.bl (decide (i=j))) H
 | .non,.non=>Q (.bl true) H
 | .non,.int _=>Q (.bl false) H
 | .int _,.non=>Q (.bl false) H
 | .non,.str _=>Q (.bl false) H
 | .str _,.non=>Q (.bl false) H
 | .non,.bl _=>Q (.bl false) H
 | .bl _,.non=>Q (.bl false) H
 | .ref p,.ref q=>∃ k,EqRef K H p q k∧Q (.bl k) H
 | _,_=>False
def cNe (K:PySem.W.Frag):R2:=fun x y H Q=>match x,y with
 | .int i,.int j=>Q (.bl (!decide (i=j))) H
 | .bl i,.bl j=>Q (.bl (!decide (i=j))) H
 | .str i,.str j=>Q (.bl (!decide (i=j))) H
 | .non,.non=>Q (.bl false) H
 | .non,.int _=>Q (.bl true) H
 | .int _,.non=>Q (.bl true) H
 | .non,.str _=>Q (.bl true) H
 | .str _,.non=>Q (.bl true) H
 | .non,.bl _=>Q (.bl true) H
 | .bl _,.non=>Q (.bl true) H
 | .ref p,.ref q=>∃ k,EqRef K H p q k∧Q (.bl (!k)) H
 | _,_=>False
theorem dcI {i j:Int}:decide (V.int i=V.int j)=decide (i=j):=by rw [decide_eq_decide];exact ⟨V.int.inj,congrArg _⟩
theorem dcB {i j:Bool}:decide (V.bl i=V.bl j)=decide (i=j):=by rw [decide_eq_decide];exact ⟨V.bl.inj,congrArg _⟩
theorem dcS {i j:Str}:decide (V.str i=V.str j)=decide (i=j):=by rw [decide_eq_decide];exact ⟨V.str.inj,congrArg _⟩
theorem o_eq (hu:X.A.units+8<cLine):OpR X (compareOp .Eq) (cEq X.K):=by
  intro pins s σ H x y v u Q I rx ry h
  have go:rEq x y H Q→wpAny (model X.prog X.w) X.A (compareOp .Eq v u) (EP X pins σ Q) X.xe s:=fun q=>op_eq pins s σ H _ _ v u Q I rx ry q
  cases x <;> cases y <;> first
    | exact False.elim h
    | exact go ⟨rfl,h⟩
    | exact go ⟨rfl,by rw [dcI];exact h⟩
    | exact go ⟨rfl,by rw [dcB];exact h⟩
    | exact go ⟨rfl,by rw [dcS];exact h⟩
    | (obtain ⟨k,e,q⟩:=h
       cases rx;cases ry
       exact (eqRef_rc I hu e).1 _ _ _ _ ⟨.bl k,H,I,rfl,q⟩)
theorem o_ne (hu:X.A.units+8<cLine):OpR X (compareOp .NotEq) (cNe X.K):=by
  intro pins s σ H x y v u Q I rx ry h
  have go:rNe x y H Q→wpAny (model X.prog X.w) X.A (compareOp .NotEq v u) (EP X pins σ Q) X.xe s:=fun q=>op_ne pins s σ H _ _ v u Q I rx ry q
  cases x <;> cases y <;> first
    | exact False.elim h
    | exact go ⟨rfl,h⟩
    | exact go ⟨rfl,by rw [dcI];exact h⟩
    | exact go ⟨rfl,by rw [dcB];exact h⟩
    | exact go ⟨rfl,by rw [dcS];exact h⟩
    | (obtain ⟨k,e,q⟩:=h
       cases rx;cases ry
       exact (eqRef_rc I hu e).2 _ _ _ _ ⟨.bl (!k),H,I,rfl,q⟩)
def cIs:R2:=fun x y H Q=>match x,y with
 | .bl i,.bl j=>Q (.bl (decide (i=j))) H
 | x,.non=>Q (.bl (decide (x=.non))) H
 | .non,.bl _=>Q (.bl false) H
 | .int _,.bl _=>Q (.bl false) H
 | .str _,.bl _=>Q (.bl false) H
 | .ref _,.bl _=>Q (.bl false) H
 | _,_=>False
def cIsNot:R2:=fun x y H Q=>match x,y with
 | .bl i,.bl j=>Q (.bl (!decide (i=j))) H
 | x,.non=>Q (.bl (!decide (x=.non))) H
 | _,_=>False
theorem o_is:OpR X (compareOp .Is) cIs:=by
 intro pins s σ H x y v u Q I rx ry h
 have pl:∀ {k:Bool},PySem.plainIs v u=true→(v == u)=k→Q (.bl k) H→wpAny (model X.prog X.w) X.A (compareOp .Is v u) (EP X pins σ Q) X.xe s:=fun {k} hp e q=>wpAny_is_plain hp ⟨.bl k,H,I,by rw [e];rfl,q⟩
 cases y with
 | non =>
  have q:Q (.bl (decide (x=.non))) H:=by cases x <;> exact h
  exact op_isN pins s σ H _ _ v u Q I rx ry ⟨rfl,q⟩
 | bl j =>
  cases ry
  cases x with
  | bl i =>
   cases rx
   exact pl rfl (by cases i <;> cases j <;> rfl) h
  | non=>cases rx;exact pl rfl rfl h
  | int i=>obtain ⟨t,rfl⟩:=rx;exact pl rfl rfl h
  | str i=>obtain ⟨t,rfl⟩:=rx;exact pl rfl rfl h
  | ref i=>cases rx;exact pl rfl rfl h
  | _=>exact False.elim h
 | _=>cases x <;> exact False.elim h
theorem o_isnot:OpR X (compareOp .IsNot) cIsNot:=by
 intro pins s σ H x y v u Q I rx ry h
 cases y with
 | non =>
  have q:Q (.bl (!decide (x=.non))) H:=by cases x <;> exact h
  exact op_notN pins s σ H _ _ v u Q I rx ry ⟨rfl,q⟩
 | bl j =>
  cases ry
  cases x with
  | bl i =>
   cases rx
   exact wpAny_isNot_plain rfl ⟨.bl (!decide (i=j)),H,I,(by cases i <;> cases j <;> rfl),h⟩
  | _=>exact False.elim h
 | _=>cases x <;> exact False.elim h
def strIn (i j:Str):Bool:=!(Builtin.Str.occurrences j i 0 j.length 1).isEmpty
def cIn (K:PySem.W.Frag) (neg:Bool):R2:=fun x y H Q=>match y with
 | .ref p=>∃ xs,(SqL K H p xs∨SqT K H p xs)∧flatV x=true∧xs.all flatV=true∧Q (.bl (if neg then !inV x xs else inV x xs)) H
 | .str j=>match x with | .str i=>Q (.bl (if neg then !strIn i j else strIn i j)) H | _=>False
 | _=>False
def cBool (x:V) (k:Bool→Prop):Prop:=match x with | .bl b=>k b | _=>False
theorem cBool_of {x:V}{k:Bool→Prop} (h:cBool x k):∃ b,x=.bl b∧k b:=by
 cases x <;> first | exact False.elim h | exact ⟨_,rfl,h⟩
def cTst (t:TE):TT:=fun σ H Q=>t σ H fun x H'=>cBool x fun k=>Q k H'
def cTru (K:PySem.W.Frag) (t:TE):TT:=fun σ H Q=>t σ H fun x H'=>match x with
 | .non=>Q false H'
 | .bl b=>Q b H'
 | .int i=>Q (decide (i≠0)) H'
 | .str y=>y.length≤sizeLine∧Q (decide (y.length≠0)) H'
 | .ref p=>∃ k,TruV K (.ref p) H' k∧Q k H'
 | .byt p=>∃ k,TruV K (.byt p) H' k∧Q k H'
 | _=>False
theorem pt_tru {t:TE} (ha:PE X a t) (he:∀ whole,isTrue a X.env whole=(do let v ← whole;standAt a.pos;holding [v] (truthy v)):=by intro _;rfl):PT X a (cTru X.K t):=by
 have h:=pt_truth ha he
 have e:cTru X.K t=(fun σ H Q=>t σ H fun x H'=>∃ k,TruV X.K x H' k∧Q k H'):=by
  funext σ H Q
  unfold cTru
  congr 1
  funext x H'
  apply propext
  cases x with
  | non=>exact ⟨fun q=>⟨false,rfl,q⟩,fun ⟨k,h1,h2⟩=>by have h1:k=false:=h1;subst h1;exact h2⟩
  | bl b=>exact ⟨fun q=>⟨b,rfl,q⟩,fun ⟨k,h1,h2⟩=>by have h1:k=b:=h1;subst h1;exact h2⟩
  | int i =>
   have z:decide (i≠0)=(i != 0):=by by_cases e:i=0 <;> simp [e]
   exact ⟨fun q=>⟨decide (i≠0),z,q⟩,fun ⟨k,h1,h2⟩=>by have h1:k=(i != 0):=h1;rw [← z] at h1;subst h1;exact h2⟩
  | str y =>
   have z:decide (y.length≠0)=((y.length:Int) != 0):=by
    by_cases e:y.length=0
    ·simp [e]
    ·have:(y.length:Int)≠0:=by omega
     simp [e,this]
   exact ⟨fun q=>⟨decide (y.length≠0),⟨q.1,z⟩,q.2⟩,fun ⟨k,h1,h2⟩=>by
    have h1:y.length≤sizeLine∧k=((y.length:Int) != 0):=h1
    obtain ⟨h0,h1⟩:=h1
    rw [← z] at h1;subst h1;exact ⟨h0,h2⟩⟩
  | ref p=>exact Iff.rfl
  | byt y=>exact Iff.rfl
  | flt y=>exact ⟨fun q=>q.elim,fun ⟨k,h1,h2⟩=>h1.elim⟩
  | ty y=>exact ⟨fun q=>q.elim,fun ⟨k,h1,h2⟩=>h1.elim⟩
 rw [e]
 exact h
theorem cBool_eq {x:V}{k:Bool→Prop}:cBool x k = ∃ b,x=.bl b∧k b:=propext ⟨cBool_of,fun ⟨b,e,q⟩=>by subst e;exact q⟩
theorem cTst_eq (t:TE):cTst t=tTest t:=by
 funext σ H Q
 unfold cTst tTest
 congr 1
 funext x H'
 exact cBool_eq
theorem t_cmp {op:CmpOp}{r:R2} (ho:OpR X (compareOp op) r) (ha:PE X a ta) (hb:PE X b tb) (hm:behindInMarks op b=false):PT X (.Compare a [op] [b] pos) (cTst (tOp r ta tb)):=by
 rw [cTst_eq]
 exact pt_cmpR ho ha hb hm
def cChain (r r':R2) (ta tb tc:TE):TE:=fun σ H Q=>ta σ H fun x H1=>tb σ H1 fun y H2=>r x y H2 fun z H3=>cBool z fun k =>
 (if k=true then tc σ H3 fun w' H4=>r' y w' H4 Q else Q (.bl false) H3)
theorem cChain_eq (r r':R2) (ta tb tc:TE):cChain r r' ta tb tc=tChain r r' ta tb tc:=by
 funext σ H Q
 unfold cChain tChain
 congr 1
 funext x H1
 congr 1
 funext y H2
 congr 1
 funext z H3
 exact cBool_eq
theorem e_chain {op op':CmpOp}{r r':R2} (ho:OpR X (compareOp op) r) (ho':OpR X (compareOp op') r') (ha:PE X a ta) (hb:PE X b tb) (hc:PE X c tc)
  (hm:lastMarks [op,op'] [b,c]=false:=by with_unfolding_all rfl):PE X (.Compare a [op,op'] [b,c] pos) (cChain r r' ta tb tc):=by
 rw [cChain_eq]
 exact pe_chain ho ho' ha hb hc hm
def cAndV (ta tb:TE):TE:=fun σ H Q=>ta σ H fun x H1=>cBool x fun c=>if c=true then tb σ H1 Q else Q (.bl false) H1
def cNotV (ta:TE):TE:=fun σ H Q=>ta σ H fun x H1=>cBool x fun c=>Q (.bl (!c)) H1
theorem cAndV_eq (ta tb:TE):cAndV ta tb=tAndV ta tb:=by
 funext σ H Q
 unfold cAndV tAndV
 congr 1
 funext x H'
 exact cBool_eq
theorem cNotV_eq (ta:TE):cNotV ta=tNotV ta:=by
 funext σ H Q
 unfold cNotV tNotV
 congr 1
 funext x H'
 exact cBool_eq
variable {rest:List Expr}
theorem e_and (ha:PE X a ta) (hb:PE X (.BoolOp .And (b :: rest) pos) tb):PE X (.BoolOp .And (a :: b :: rest) pos) (cAndV ta tb):=by
 rw [cAndV_eq]
 exact pe_and ha hb
theorem e_not (ha:PE X a ta):PE X (.UnaryOp .Not a pos) (cNotV ta):=by
 rw [cNotV_eq]
 exact pe_not ha
def cIx (K:PySem.W.Frag):R2:=fun x y H Q=>match x,y with
 | .ref p,.int i=>∃ xs v,(SqL K H p xs∨SqT K H p xs)∧atI xs i=some v∧Q v H
 | .str z,.int i=>z.length≤sizeLine∧∃ c,atI z.cps.toList i=some c∧Q (.str ⟨#[c]⟩) H
 | _,_=>False
theorem i_seq:IxR X (cIx X.K):=ix_seq.imp fun x y H Q h=>by
  cases x <;> cases y <;> first
    | exact False.elim h
    | (obtain ⟨xs,v,h1 | h1,h2,h3⟩:=h
       · exact .inl ⟨_,xs,_,v,rfl,rfl,h1,h2,h3⟩
       · exact .inr (.inl ⟨_,xs,_,v,rfl,rfl,h1,h2,h3⟩))
    | (obtain ⟨h1,c,h2,h3⟩:=h
       exact .inr (.inr ⟨_,_,c,rfl,rfl,h1,h2,h3⟩))
def cLen (K:PySem.W.Frag):List V→Hp→VK→Prop:=fun vs H Q=>match vs with
 | [.str z]=>z.length≤sizeLine∧Q (.int z.length) H
 | [.ref p]=>(∃ ys,(SqL K H p ys∨SqT K H p ys)∧Q (.int ys.length) H)∨∃ kvs,H p=some (.dK kvs)∧Q (.int kvs.length) H
 | _=>False
theorem c_len:CallR X (.builtin "len") (cLen X.K):=by
 intro pins s σ H xs us Q I r h
 match xs,h with
 | [.str z],h=>exact call_len_str pins s σ H _ us Q I r ⟨z,rfl,h.1,h.2⟩
 | [.ref p],h =>
  rcases h with ⟨ys,h1,h2⟩ | ⟨kvs,h1,h2⟩
  ·exact call_len_seq pins s σ H _ us Q I r ⟨p,ys,rfl,h1,h2⟩
  ·exact call_lenD pins s σ H _ us Q I r ⟨p,kvs,rfl,h1,h2⟩
def cMin:List V→Hp→VK→Prop:=fun vs H Q=>match vs with
 | [.int i,.int j]=>Q (.int (if j<i then j else i)) H
 | _=>False
theorem c_min (hc:X.calm=true):CallR X (.builtin "min") cMin:=by
 intro pins s σ H xs us Q I r h
 match xs,h with
 | [.int i,.int j],h=>exact call_min2 hc pins s σ H _ us Q I r ⟨i,j,rfl,h⟩
def cMax:List V→Hp→VK→Prop:=fun vs H Q=>match vs with
 | [.int i,.int j]=>Q (.int (if j > i then j else i)) H
 | _=>False
theorem c_max (hc:X.calm=true):CallR X (.builtin "max") cMax:=by
 intro pins s σ H xs us Q I r h
 match xs,h with
 | [.int i,.int j],h=>exact call_max2 hc pins s σ H _ us Q I r ⟨i,j,rfl,h⟩
def cIsinst (K:PySem.W.Frag):List V→Hp→VK→Prop:=fun vs H Q=>match vs with
 | [x,.ty T]=>∃ t b,TyOf K H x t∧PySem.W.kitOne K t (.type T)=some b∧Q (.bl b) H
 | [x,.ref C]=>∃ t b,TyOf K H x t∧PySem.W.kitOne K t (.ref C)=some b∧Q (.bl b) H
 | _=>False
theorem c_isinst:CallR X (.builtin "isinstance") (cIsinst X.K):=by
 intro pins s σ H xs us Q I r h
 match xs,h with
 | [x,.ty T],h =>
  obtain ⟨t,k,h1,h2,h3⟩:=h
  obtain ⟨u,w',rfl,r1,r2⟩:=vals2 r
  cases r2
  exact isinst_ok I r1 h1 h2 fun tk=>⟨.bl k,H,I.tok tk,rfl,h3⟩
 | [x,.ref C],h =>
  obtain ⟨t,k,h1,h2,h3⟩:=h
  obtain ⟨u,w',rfl,r1,r2⟩:=vals2 r
  cases r2
  exact isinst_ok I r1 h1 h2 fun tk=>⟨.bl k,H,I.tok tk,rfl,h3⟩
def csChk (onames:List (Str × NameKind)) (scope:Scope):Bool:=scope.names.all fun y=>decide (y.2≠.cell) && (decide (y.2≠.local) || decide (scope.names.lookup y.1=some .local)) && (decide (y.2≠.free) || decide (onames.lookup y.1=some .cell) || decide (onames.lookup y.1=some .free))
theorem CScope.of {scope:Scope} (onames:List (Str × NameKind)) (h:csChk onames scope=true) (k:scope.kind=.function:=by rfl) (e:X.env.scope.names=onames:=by rfl):CScope X scope:=by
 have q:=List.all_eq_true.mp h
 refine ⟨k,fun y hy=>?_,fun y hy hl=>?_,fun y hy hf=>?_⟩
 ·have z:=q y hy
  simp only [Bool.and_eq_true,decide_eq_true_eq] at z
  exact z.1.1
 ·have z:=q y hy
  simp only [Bool.and_eq_true,Bool.or_eq_true,decide_eq_true_eq] at z
  exact z.1.2.resolve_left fun w=>w hl
 ·have z:=q y hy
  simp only [Bool.and_eq_true,Bool.or_eq_true,decide_eq_true_eq] at z
  show X.env.scope.names.lookup y.1=_∨X.env.scope.names.lookup y.1=_
  rw [e]
  rcases z.2 with (w | w) | w
  ·exact absurd hf w
  ·exact .inl w
  ·exact .inr w
def cnChk (XN:List Str) (scope:Scope) (N:List Str) (k:Nat) (sel:List Nat):Bool:=decide (N.length=k+sel.length) && (List.range sel.length).all fun i=>match sel[i]?,N[k+i]? with
 | some j,some x=>decide (XN[j]? = some x) && decide (scope.names.lookup x=some .free)
 | _,_=>false
theorem CNames.of {scope:Scope}{N:List Str}{k:Nat}{sel:List Nat} (XN:List Str) (h:cnChk XN scope N k sel=true) (e:X.N=XN:=by rfl):CNames X scope N k sel:=by
 unfold cnChk at h
 simp only [Bool.and_eq_true,decide_eq_true_eq] at h
 refine ⟨h.1,fun i j x h1 h2=>?_⟩
 have hi:i<sel.length:=(List.getElem?_eq_some_iff.mp h1).1
 have q:=List.all_eq_true.mp h.2 i (List.mem_range.mpr hi)
 rw [h1,h2] at q
 simp only [Bool.and_eq_true,decide_eq_true_eq] at q
 rw [e]
 exact q
end
theorem hr8 {A:Around}{k:Nat} (hr:Room k A):A.units+8<cLine:=by have:=hr.units;omega
section
variable {X:Cx}{a b:Expr}{te:TE}
def cPart (t:TE):TO:=fun σ H Q=>t σ H fun x H1=>match x with | .int i=>Q (some i) H1 | _=>False
def cNeg:V→Hp→VK→Prop:=fun x H Q=>match x with | .int i=>Q (.int (-i)) H | _=>False
theorem u_neg:UnR X (unaryOp .USub) cNeg:=fun pins s σ H x v Q I rx h=>by
 cases x <;> first | exact False.elim h | exact un_neg pins s σ H _ v Q I rx ⟨_,rfl,h⟩
theorem t_pc {op:CmpOp}{t:TE}{pos:Pos} (h:PC X op a b t) (h1:behindInMarks op b=false:=by first | exact nobehind _ (by decide) (by decide) | rfl | with_unfolding_all rfl):PT X (.Compare a [op] [b] pos) (cTst t):=by
 have e:cTst t=tB t:=by
  funext σ H Q
  unfold cTst tB
  congr 1
  funext x H'
  exact cBool_eq
 rw [e]
 exact pt_cmp h h1
end
section
variable {K:PySem.W.Frag}{σ:St}{sel:List Nat}{rest:St}{H:Hp}{p:Addr}{tt:TT}{te:TE}{Q:VK}
abbrev CompGoal (J:It) (σ:St) (k:Nat) (sel:List Nat) (g:TG) (tt:TT) (te:TE) (Q:VK) (H1:Hp) (p:Addr):Prop :=
 ∃ W:Nat→Nat→St→Hp→Prop,(∃ m,W 0 m (cst σ k sel) (upd H1 p (.lst [])))∧∀ i m σ2 H2,W i m σ2 H2 →
  (J.stop i H2∧Q (.ref p) H2)∨(J.go i H2∧∀ x H3,J.yld i H2 x H3→g x σ2 H3 fun σ4 H4=>tt σ4 H4 fun b H5 =>
   if b=true then te σ4 H5 fun v H6=>∃ ys,H6 p=some (.lst ys)∧ys.length<sizeLine∧∃ m',m'<m∧W (i+1) m' σ4 (upd H6 p (.lst (ys ++ [v]))) else ∃ m',m'<m∧W (i+1) m' σ4 H5)
theorem comp_inv {J:It}{n:Nat}{item:Nat→V} (Pv:Nat→Hp→Prop) (hr:sel.map (fun j=>(σ[j]?).join)=rest) (h0:Pv 0 (upd H p (.lst [])))
  (src:∀ i H2,i<n→Pv i H2→J.go i H2∧∀ x H3,J.yld i H2 x H3→H3=H2∧x=item i) (fin:∀ H2,Pv n H2→J.stop n H2)
  (step:∀ i H2 (R:Hp→Prop),i<n→Pv i H2→(∀ H',Pv (i+1) H'→R H')→tt (some (item i) :: rest) H2 fun b H5 =>
   if b=true then te (some (item i) :: rest) H5 fun v H6=>∃ ys,H6 p=some (.lst ys)∧ys.length<sizeLine∧R (upd H6 p (.lst (ys ++ [v]))) else R H5)
  (hQ:∀ H2,Pv n H2→Q (.ref p) H2):CompGoal J σ 1 sel (gName 0) tt te Q H p:=by
 refine ⟨fun i m σ2 H2=>i≤n∧m=n - i+1∧(∃ v,σ2=v :: rest)∧Pv i H2,⟨n+1,Nat.zero_le _,rfl,⟨none,?_⟩,h0⟩,?_⟩
 ·unfold cst;rw [hr];rfl
 ·rintro i m σ2 H2 ⟨hi,rfl,⟨v,rfl⟩,hP⟩
  by_cases hlt:i<n
  ·right
   obtain ⟨hg,hy⟩:=src i H2 hlt hP
   refine ⟨hg,fun x H3 hx=>?_⟩
   obtain ⟨rfl,rfl⟩:=hy x H3 hx
   exact step i H3 (fun H'=>∃ m',m'<n - i+1∧i+1≤n∧m'=n - (i+1)+1∧(∃ v,(some (item i) :: rest:St)=v :: rest)∧Pv (i+1) H') hlt hP fun H' h'=>⟨n - (i+1)+1,by omega,hlt,rfl,⟨_,rfl⟩,h'⟩
  ·left
   have e:i=n:=by omega
   subst e
   exact ⟨fin H2 hP,hQ H2 hP⟩
theorem src_list {a:Addr}{xs:List V}{Pv:Nat→Hp→Prop} (hl:∀ i H2,i≤xs.length→Pv i H2→SqL K H2 a xs):∀ i H2,i<xs.length→Pv i H2→(Itl K a).go i H2∧∀ x H3,(Itl K a).yld i H2 x H3→H3=H2∧x=xs.getD i .non:=fun i H2 hi hP=>by
 have q:=hl i H2 (Nat.le_of_lt hi) hP
 have e:xs[i]? = some (xs.getD i .non):=by simp [List.getD,hi]
 refine ⟨⟨xs,_,q,e⟩,fun x H3 ⟨h1,h2⟩=>⟨h1,?_⟩⟩
 have:=h2 xs q
 rw [e] at this
 exact (Option.some.inj this).symm
theorem src_rng {lo:Int}{n:Nat}{Pv:Nat→Hp→Prop}:∀ i H2,i<n→Pv i H2→(Itr lo n).go i H2∧∀ x H3,(Itr lo n).yld i H2 x H3→H3=H2∧x=.int (lo+i):=fun i H2 hi hP=>⟨hi,fun x H3 h=>h⟩
theorem same_upd {H:Hp}{p:Addr}{o:HO} (hp:H p=none):Same H (upd H p o):=fun b u e=>by rw [upd_ne (ne_of_none e hp)];exact e
theorem take_map_snoc {xs:List V}{f:V→V}{i:Nat} (hi:i<xs.length):(xs.take i).map f ++ [f (xs.getD i .non)]=(xs.take (i+1)).map f:=by
 rw [List.take_add_one,List.map_append]
 congr 1
 simp [List.getD,hi]
theorem comp_list {a:Addr}{xs:List V} (f:V→V) (hl:SqL K H a xs) (hp:H p=none) (hr:sel.map (fun j=>(σ[j]?).join)=rest) (hz:xs.length≤sizeLine)
  (he:∀ x H' (Q':VK),x∈xs→Same H H'→Q' (f x) H'→te (some x :: rest) H' Q') (hQ:Q (.ref p) (upd H p (.lst (xs.map f)))):CompGoal (Itl K a) σ 1 sel (gName 0) tTrue te Q H p:=by
 refine comp_inv (n:=xs.length) (item:=fun i=>xs.getD i .non) (fun i H2=>H2=upd H p (.lst ((xs.take i).map f))) hr (by simp) (src_list ?_) ?_ ?_ ?_
 ·rintro i H2 hi rfl
  exact (same_upd hp).seq hl
 ·rintro H2 rfl
  exact ⟨xs,(same_upd hp).seq hl,Nat.le_refl _⟩
 ·rintro i H2 R hi rfl hR
  unfold tTrue
  dsimp only
  rw [if_pos rfl]
  refine he _ _ _ (by rw [show xs.getD i .non=xs[i] from by simp [List.getD,hi]];exact List.getElem_mem _) (same_upd hp) ⟨_,upd_same,?_,hR _ ?_⟩
  ·rw [List.length_map,List.length_take];omega
  ·rw [upd_upd,take_map_snoc hi]
 ·rintro H2 rfl
  rw [List.take_length]
  exact hQ
theorem comp_rng {lo:Int}{n:Nat} (f:Int→V) (hp:H p=none) (hr:sel.map (fun j=>(σ[j]?).join)=rest) (hz:n≤sizeLine)
  (he:∀ (i:Nat) H' (Q':VK),i<n→Same H H'→Q' (f (lo+i)) H'→te (some (.int (lo+i)) :: rest) H' Q') (hQ:Q (.ref p) (upd H p (.lst ((List.range n).map fun i=>f (lo+(i:Nat)))))):CompGoal (Itr lo n) σ 1 sel (gName 0) tTrue te Q H p:=by
 refine comp_inv (n:=n) (item:=fun i=>.int (lo+i)) (fun i H2=>H2=upd H p (.lst ((List.range i).map fun i=>f (lo+(i:Nat))))) hr (by simp) src_rng ?_ ?_ ?_
 ·rintro H2 rfl
  exact Nat.le_refl _
 ·rintro i H2 R hi rfl hR
  unfold tTrue
  dsimp only
  rw [if_pos rfl]
  refine he i _ _ hi (same_upd hp) ⟨_,upd_same,?_,hR _ ?_⟩
  ·rw [List.length_map,List.length_range];omega
  ·rw [upd_upd,List.range_succ,List.map_append];rfl
 ·rintro H2 rfl
  exact hQ
theorem comp_filter {a:Addr}{xs:List V} (q:V→Bool) (f:V→V) (hl:SqL K H a xs) (hp:H p=none) (hr:sel.map (fun j=>(σ[j]?).join)=rest) (hz:xs.length≤sizeLine)
  (ht:∀ x H' (Q':Bool→Hp→Prop),x∈xs→Same H H'→Q' (q x) H'→tt (some x :: rest) H' Q')
  (he:∀ x H' (Q':VK),x∈xs→q x=true→Same H H'→Q' (f x) H'→te (some x :: rest) H' Q') (hQ:Q (.ref p) (upd H p (.lst ((xs.filter q).map f)))):CompGoal (Itl K a) σ 1 sel (gName 0) tt te Q H p:=by
 refine comp_inv (n:=xs.length) (item:=fun i=>xs.getD i .non) (fun i H2=>H2=upd H p (.lst (((xs.take i).filter q).map f))) hr (by simp) (src_list ?_) ?_ ?_ ?_
 ·rintro i H2 hi rfl
  exact (same_upd hp).seq hl
 ·rintro H2 rfl
  exact ⟨xs,(same_upd hp).seq hl,Nat.le_refl _⟩
 ·rintro i H2 R hi rfl hR
  have ex:xs.getD i .non=xs[i]:=by simp [List.getD,hi]
  have hm:xs.getD i .non∈xs:=by rw [ex];exact List.getElem_mem _
  have et:xs.take (i+1)=xs.take i ++ [xs.getD i .non]:=by rw [List.take_add_one];simp [List.getD,hi]
  refine ht _ _ _ hm (same_upd hp) ?_
  cases hq:q (xs.getD i .non) with
  | true =>
   rw [if_pos rfl]
   refine he _ _ _ hm hq (same_upd hp) ⟨_,upd_same,?_,hR _ ?_⟩
   ·rw [List.length_map]
    have:=List.length_filter_le q (xs.take i)
    rw [List.length_take] at this
    omega
   ·rw [upd_upd,et,List.filter_append,List.map_append,List.filter_cons,if_pos hq]
    rfl
  | false =>
   rw [if_neg (by simp)]
   refine hR _ ?_
   rw [et,List.filter_append,List.map_append,List.filter_cons,if_neg (by rw [hq];simp),List.filter_nil,List.map_nil,List.append_nil]
 ·rintro H2 rfl
  rw [List.take_length]
  exact hQ
end
def cRef (x:V) (k:Addr→Prop):Prop:=match x with | .ref p=>k p | _=>False
theorem cRef_eq {x:V}{k:Addr→Prop}:(∃ p,x=.ref p∧k p)=cRef x k:=by
 apply propext
 cases x <;> first
  | exact ⟨fun ⟨p,e,q⟩=>by cases e;exact q,fun q=>⟨_,rfl,q⟩⟩
  | exact ⟨fun ⟨p,e,q⟩=>(by cases e),fun q=>False.elim q⟩
def cInt1 (vs:List V) (k:Int→Prop):Prop:=match vs with | [.int j]=>k j | _=>False
theorem cInt1_eq {vs:List V}{k:Int→Prop}:(∃ j,vs=[.int j]∧k j)=cInt1 vs k:=by
 apply propext
 constructor
 ·rintro ⟨j,rfl,q⟩;exact q
 ·intro h
  unfold cInt1 at h
  split at h
  ·exact ⟨_,rfl,h⟩
  ·exact h.elim
def cInt2 (vs:List V) (k:Int→Int→Prop):Prop:=match vs with | [.int i,.int j]=>k i j | _=>False
theorem cInt2_eq {vs:List V}{k:Int→Int→Prop}:(∃ i j,vs=[.int i,.int j]∧k i j)=cInt2 vs k:=by
 apply propext
 constructor
 ·rintro ⟨i,j,rfl,q⟩;exact q
 ·intro h
  unfold cInt2 at h
  split at h
  ·exact ⟨_,_,rfl,h⟩
  ·exact h.elim
def ForGoal (J:It) (g:TG) (tb:TS) (D:Ends) (σ:St) (H:Hp):Prop:=∃ W:Nat→Nat→St→Hp→Prop,(∃ m,W 0 m σ H)∧∀ i m σ H,W i m σ H →
 (J.stop i H∧D.nx σ H)∨(J.go i H∧∃ N:St→Hp→Prop,(∀ σ' H',N σ' H'→∃ m',m'<m∧W (i+1) m' σ' H')∧∀ x H',J.yld i H x H'→g x σ H' fun σ2 H2=>tb { D with nx:=N,ct:=N,bk:=D.nx } σ2 H2)
def CompG (J:It) (σ:St) (k:Nat) (sel:List Nat) (g:TG) (tt:TT) (te:TE) (Q:VK) (H1:Hp):Prop:=∀ p,H1 p=none→CompGoal J σ k sel g tt te Q H1 p
section
variable {K:PySem.W.Frag}{te:TE}{ta:TA}{g:TG}{tb:TS}{D:Ends}{σ:St}{H:Hp}{p:Addr}{xs:List V}{k:Nat}{sel:List Nat}{tt:TT}{el:TE}{Q:VK}
theorem tFor_list:tFor (iList K te) g tb D σ H=te σ H (fun x H1=>cRef x fun p=>(∃ xs,SqL K H1 p xs)∧ForGoal (Itl K p) g tb D σ H1):=by
 unfold tFor iList
 congr 1
 funext x H1
 exact cRef_eq
theorem tFor_tup:tFor (iTup K te) g tb D σ H=te σ H (fun x H1=>cRef x fun p=>(∃ xs,SqT K H1 p xs)∧ForGoal (Itt K p) g tb D σ H1):=by
 unfold tFor iTup
 congr 1
 funext x H1
 exact cRef_eq
theorem tFor_rng1:tFor (iRng1 ta) g tb D σ H=ta σ H (fun vs H1=>cInt1 vs fun j=>-(2 ^ 62)≤j∧j<2 ^ 62∧ForGoal (Itr 0 j.toNat) g tb D σ H1):=by
 unfold tFor iRng1
 congr 1
 funext x H1
 exact cInt1_eq
theorem tFor_rng2:tFor (iRng2 ta) g tb D σ H=ta σ H (fun vs H1=>cInt2 vs fun i j=>(-(2 ^ 62)≤i∧i<2 ^ 62 ∧ -(2 ^ 62)≤j∧j<2 ^ 62)∧ForGoal (Itr i (j - i).toNat) g tb D σ H1):=by
 unfold tFor iRng2
 congr 1
 funext x H1
 exact cInt2_eq
theorem tComp_list:tComp (iList K te) k sel g tt el σ H Q=te σ H (fun x H1=>cRef x fun p=>(∃ xs,SqL K H1 p xs)∧CompG (Itl K p) σ k sel g tt el Q H1):=by
 unfold tComp iList
 congr 1
 funext x H1
 exact cRef_eq
theorem tComp_tup:tComp (iTup K te) k sel g tt el σ H Q=te σ H (fun x H1=>cRef x fun p=>(∃ xs,SqT K H1 p xs)∧CompG (Itt K p) σ k sel g tt el Q H1):=by
 unfold tComp iTup
 congr 1
 funext x H1
 exact cRef_eq
theorem tComp_rng1:tComp (iRng1 ta) k sel g tt el σ H Q=ta σ H (fun vs H1=>cInt1 vs fun j=>-(2 ^ 62)≤j∧j<2 ^ 62∧CompG (Itr 0 j.toNat) σ k sel g tt el Q H1):=by
 unfold tComp iRng1
 congr 1
 funext x H1
 exact cInt1_eq
theorem for_listG (Pv:Nat→St→Hp→Prop) (h0:Pv 0 σ H) (hk:∀ i σ H,i≤xs.length→Pv i σ H→SqL K H p xs)
  (hs:∀ i x σ H,xs[i]? = some x→Pv i σ H→g x σ H fun σ2 H2=>tb { D with nx:=Pv (i+1),ct:=Pv (i+1),bk:=D.nx } σ2 H2) (hd:∀ σ H,Pv xs.length σ H→D.nx σ H):ForGoal (Itl K p) g tb D σ H:=for_list Pv h0 hk hs hd
theorem for_tupG (Pv:Nat→St→Hp→Prop) (h0:Pv 0 σ H) (hk:∀ i σ H,i≤xs.length→Pv i σ H→SqT K H p xs)
  (hs:∀ i x σ H,xs[i]? = some x→Pv i σ H→g x σ H fun σ2 H2=>tb { D with nx:=Pv (i+1),ct:=Pv (i+1),bk:=D.nx } σ2 H2) (hd:∀ σ H,Pv xs.length σ H→D.nx σ H):ForGoal (Itt K p) g tb D σ H:=for_tup Pv h0 hk hs hd
theorem for_rngG {lo:Int}{n:Nat} (Pv:Nat→St→Hp→Prop) (h0:Pv 0 σ H)
  (hs:∀ (i:Nat) σ H,i<n→Pv i σ H→g (.int (lo+i)) σ H fun σ2 H2=>tb { D with nx:=Pv (i+1),ct:=Pv (i+1),bk:=D.nx } σ2 H2) (hd:∀ σ H,Pv n σ H→D.nx σ H):ForGoal (Itr lo n) g tb D σ H:=for_range Pv h0 hs hd
end
theorem atI_ok {α:Type}{xs:List α}{i:Int} (d:α) (h0:0≤i) (h1:i<xs.length):atI xs i=some (xs.getD i.toNat d):=by
 obtain ⟨n,rfl⟩:=Int.eq_ofNat_of_zero_le h0
 have hn:n<xs.length:=by omega
 have e:xs[n]? = some (xs.getD n d):=by simp [List.getD,hn]
 exact atI_nat e
theorem getD_map {α β:Type} (f:α→β) (xs:List α) (n:Nat) (d:α):(xs.map f).getD n (f d)=f (xs.getD n d):=by
 simp [List.getD]
theorem atI_map {α β:Type}{f:α→β}{xs:List α}{i:Int} (d:α) (h0:0≤i) (h1:i<xs.length):atI (xs.map f) i=some (f (xs.getD i.toNat d)):=by
 rw [atI_ok (f d) h0 (by rw [List.length_map];exact h1),getD_map]
theorem get_map_of {α β:Type}{f:α→β}{xs:List α}{i:Nat}{y:β} (h:(xs.map f)[i]? = some y):∃ x,xs[i]? = some x∧y=f x:=by
 rw [List.getElem?_map] at h
 cases e:xs[i]? with
 | none=>rw [e] at h;cases h
 | some x=>rw [e] at h;exact ⟨x,rfl,(Option.some.inj h).symm⟩
theorem pe_globE {X:Cx}{x:Str}{v:V}{pos:Pos} (hg:Gl X x) (hm:∃ u,X.mg x=some u∧RelV v u) (hd:(x == ("__debug__" : Str))=false:=by decide):PE X (.Name x pos) (tC v):=by
 obtain ⟨u,h1,h2⟩:=hm
 exact pe_glob hg h1 h2 hd
section
variable {X:Cx}{tg:Expr}
variable {te:TE}{g:TG}{tb:TS}{D:Ends}{σ:St}{H:Hp}{k:Nat}{sel:List Nat}{tt:TT}{el:TE}{Q:VK}
def cMul:R2:=fun x y H Q=>match x,y with
 | .int i,.int j=>CMul i j∧Q (.int (i * j)) H
 | .str z,.int n=>MulOk z n∧Q (.str (Txt.mul z n)) H
 | _,_=>False
theorem o_mul:OpR X (binaryOp .Mult) cMul:=by
  intro pins s σ H x y v u Q I rx ry h
  cases x <;> cases y <;> first
    | exact False.elim h
    | exact op_mul pins s σ H _ _ v u Q I rx ry ⟨_,_,rfl,rfl,h.1,h.2⟩
    | (obtain ⟨t,rfl⟩:=rx
       obtain ⟨t',rfl⟩:=ry
       exact SB.mul h.1 fun t'' k=>⟨.str _,H,I.tok k,⟨t'',rfl⟩,h.2⟩)
end
structure New (H:Hp) (p:Addr) (o:HO) (H':Hp):Prop where
 was:H p=none
 eq:H'=upd H p o
section
variable {H H':Hp}{p:Addr}{o:HO}
theorem New.same (n:New H p o H'):Same H H':=by rw [n.eq];exact same_upd n.was
theorem New.at_ (n:New H p o H'):H' p=some o:=by rw [n.eq];exact upd_same
theorem New.ne (n:New H p o H') {b:Addr} (h:b≠p):H' b=H b:=by rw [n.eq];exact upd_ne h
theorem New.sq {K:PySem.W.Frag}{xs:List V} (n:New H p (.lst xs) H'):SqL K H' p xs:=.of n.at_
theorem new_eq {F:Addr→Hp→Prop}{o:HO}:(∀ p,H p=none→F p (upd H p o)) = ∀ p H',New H p o H'→F p H' :=
 propext ⟨fun h p H' n=>by rw [n.eq];exact h p n.was,fun h p hp=>h p _ ⟨hp,rfl⟩⟩
end
section
variable {K:PySem.W.Frag}{t:TA}{σ:St}{H:Hp}{Q:VK}{x:V}{lo hi:Option Int}{vs:List V}{kvs:List (Key × V)}
theorem tLst_n:tLst t σ H Q=t σ H fun xs H1=>xs.length≤sizeLine∧∀ p H',New H1 p (.lst xs) H'→Q (.ref p) H':=by
 unfold tLst;congr 1;funext xs H1;rw [new_eq (F:=fun p H'=>Q (.ref p) H')]
theorem tTup_n:tTup t σ H Q=t σ H fun xs H1=>xs.length≤sizeLine∧∀ p H',New H1 p (.tup xs) H'→Q (.ref p) H':=by
 unfold tTup;congr 1;funext xs H1;rw [new_eq (F:=fun p H'=>Q (.ref p) H')]
theorem tDNewK_n:tDNewK σ H Q = ∀ p H',New H p (.dK []) H'→Q (.ref p) H':=by
 unfold tDNewK;rw [new_eq (F:=fun p H'=>Q (.ref p) H')]
end
section
variable {K:PySem.W.Frag}{σ:St}{sel:List Nat}{rest:St}{H:Hp}{tt:TT}{te:TE}{Q:VK}
theorem compG_list {a:Addr}{xs:List V} (f:V→V) (hl:SqL K H a xs) (hr:sel.map (fun j=>(σ[j]?).join)=rest) (hz:xs.length≤sizeLine)
  (he:∀ x H' (Q':VK),x∈xs→Same H H'→Q' (f x) H'→te (some x :: rest) H' Q') (hQ:∀ p H',New H p (.lst (xs.map f)) H'→Q (.ref p) H'):CompG (Itl K a) σ 1 sel (gName 0) tTrue te Q H :=
 fun p hp=>comp_list f hl hp hr hz he (hQ p _ ⟨hp,rfl⟩)
theorem compG_rng {lo:Int}{n:Nat} (f:Int→V) (hr:sel.map (fun j=>(σ[j]?).join)=rest) (hz:n≤sizeLine)
  (he:∀ (i:Nat) H' (Q':VK),i<n→Same H H'→Q' (f (lo+i)) H'→te (some (.int (lo+i)) :: rest) H' Q') (hQ:∀ p H',New H p (.lst ((List.range n).map fun i=>f (lo+(i:Nat)))) H'→Q (.ref p) H'):CompG (Itr lo n) σ 1 sel (gName 0) tTrue te Q H :=
 fun p hp=>comp_rng f hp hr hz he (hQ p _ ⟨hp,rfl⟩)
theorem compG_filter {a:Addr}{xs:List V} (q:V→Bool) (f:V→V) (hl:SqL K H a xs) (hr:sel.map (fun j=>(σ[j]?).join)=rest) (hz:xs.length≤sizeLine)
  (ht:∀ x H' (Q':Bool→Hp→Prop),x∈xs→Same H H'→Q' (q x) H'→tt (some x :: rest) H' Q')
  (he:∀ x H' (Q':VK),x∈xs→q x=true→Same H H'→Q' (f x) H'→te (some x :: rest) H' Q') (hQ:∀ p H',New H p (.lst ((xs.filter q).map f)) H'→Q (.ref p) H'):CompG (Itl K a) σ 1 sel (gName 0) tt te Q H :=
 fun p hp=>comp_filter q f hl hp hr hz ht he (hQ p _ ⟨hp,rfl⟩)
end
end L2
set_option maxHeartbeats 4000000
namespace DZ
open PySem
section
variable {prog:Program}{w:World}{A:Around}{E:Value→Shared→Prop}{s:Shared}
end
section
variable {M:Model}{A:Around}{E:Value→Shared→Prop}{s:Shared}
end
structure ZSt (z TI TO i1 i2 t l:Addr) (xs ys:Array Value) (i:Nat) (h:Heap):Prop where
 zo:∃ f0 f1,h.get? z=some { cls:=.type "zip",dict:=none,data:=.fields #[f0,.bool f1,.bool false,.ref TI,.ref TO],slots:=#[] } ∧
  (f0=.none∨∃ (T:Addr) (o:Obj),f0=rawInt T∧h.get? T=some o∧T≠z∧T≠TO∧T≠i1∧T≠i2)
 ti:IsPair h TI (.ref i1) (.ref i2)
 to:∃ a b,IsPair h TO a b
 a1:h.IsTupleIter i1 t i
 a2:h.IsListIter i2 l i
 l1:h.IsTuple t xs
 l2:h.IsList l ys
section
variable {prog:Program}{w:World}{A:Around}{E:Value→Shared→Prop}{s:Shared}
end
end DZ
set_option maxHeartbeats 4000000
namespace DZ
open PySem
section
variable {prog:Program}{w:World}{A:Around}{E:Value→Shared→Prop}{h:Heap}{g:Array GenState}{d:Drawn}{t:Nat}{os:OsState}{z:Addr}{vs:Array Value}
end
section
variable {prog:Program}{w:World}{A:Around}{E:Value→Shared→Prop}{s:Shared}
end
end DZ
set_option maxHeartbeats 4000000
namespace DZ
open PySem
section
variable {prog:Program}{w:World}{A:Around}{E:Value→Shared→Prop}{s:Shared}
variable {κ:Type} [DecidableEq κ] {knd:KeyKind prog w κ}
end
end DZ
set_option maxHeartbeats 4000000
namespace L2
open PySem PySem.Spec PyProof.Rows
section
variable {X:Cx}{pins:List (Addr × Obj)}{σ:St}{H:Hp}{s:Shared}{h':Heap}
theorem Inv.dz {t':Nat}{ch:List Addr}{d:Addr}{ob:HO} (I:Inv X pins σ H s) (hch:∀ b∈ch,FpOk X pins H b) (hd:s.heap.objs.size≤d) (k:∀ b o,b ∉ ch→s.heap.get? b=some o→h'.get? b=some o)
  (new:ObjOk X.prog X.w (upd H d ob) h' d ob):Inv X pins σ (upd H d ob) { s with heap:=h',toks:=t' }:=by
 have hn:H d=none:=I.hok.fresh hd
 have old:∀ {b o},s.heap.get? b=some o→b≠d:=fun e=>Nat.ne_of_lt (Nat.lt_of_lt_of_le (Heap.lt_size e) hd)
 have nch:∀ b u,H b=some u→b ∉ ch:=fun b u e z=>by rw [(hch b z).1] at e;cases e
 refine I.step (g':=s.gens) (d':=s.drawn) (ch:=ch) (fun b hb=>?_) (fun b o _ _ hc e _=>k b o hc e) (fun b o _ _ hc e _=>⟨o.slots,k b o hc e⟩) (fun b o _ e n=>by rw [upd_ne (old e)];exact n)
  (fun b o hc e=>⟨o,k b o hc e⟩) (fun b xs e=>by rw [upd_ne (ne_of_none e hn)];exact e) (fun b o u e=>by rw [upd_ne (ne_of_none e hn)];exact e) (fun b ps e=>⟨#[],by rw [upd_ne (ne_of_none e hn),e];simp⟩) (fun m hm=>?_) (fun b u e=>?_) I.bare
 ·obtain ⟨f0,f1,f2,f3,f4,f5⟩:=hch b hb
  exact ⟨f3,f1,f4,f5⟩
 ·obtain ⟨o,es,ep,ho,r⟩:=hm
  exact ⟨o,es,ep,k _ o (fun z=>(hch _ z).2.1 rfl) ho,r⟩
 ·by_cases hb:b=d
  ·subst hb
   rw [upd_same] at e
   cases e
   exact new
  ·rw [upd_ne hb] at e
   refine (I.hok b u e).stay (fun c v hc q=>k c v ?_ q) (fun c q=>by rw [upd_ne (ne_of_none q hn)];exact q) fun c xs q=>by rw [upd_ne (ne_of_none q hn)];exact q
   rcases hc with z | z
   ·rw [z];exact nch b u e
   ·exact nch c _ z
end
end L2
namespace NM
def okc (c:Nat):Prop:=97≤c∧c≤122
structure Nm (w:List Nat):Prop where
 pos:1≤w.length
 le:w.length≤8
 ok:∀ c∈w,okc c
def nx (p:List Nat) (c k:Nat):List Nat:=p ++ (c+1) :: List.replicate k 97
inductive Nx:List Nat→List Nat→Prop where
 | at (p:List Nat) (c k:Nat):c≠122→Nx (p ++ c :: List.replicate k 122) (nx p c k)
 | all (n:Nat):Nx (List.replicate n 122) (List.replicate (n % 8+1) 97)
inductive Nxs:Nat→List Nat→List Nat→Prop where
 | zero (w:List Nat):Nxs 0 w w
 | succ {k:Nat}{u v w:List Nat}:Nx u v→Nxs k v w→Nxs (k+1) u w
end NM
namespace ME
section
variable {κ:Type} [DecidableEq κ] {α β:Type}
def m2 (f:α→β) (e:List (κ × α)):List (κ × β):=e.map fun p=>(p.1,f p.2)
abbrev Gt (κ:Type):=κ × κ × List κ
def WG (A:κ→Nat→Prop) (known:List κ):List (Gt κ)→Prop
 | []=>True
 | g :: r=>(∀ p∈g.2.2,p∈known)∧A g.2.1 g.2.2.length∧g.2.2.length≤6∧WG A (known ++ [g.1]) r
theorem WG.at {A:κ→Nat→Prop}:∀ {gs:List (Gt κ)}{known:List κ}{i:Nat}{g:Gt κ},WG A known gs→gs[i]? = some g →
  (∀ p∈g.2.2,p∈known ++ (gs.take i).map (·.1))∧A g.2.1 g.2.2.length∧g.2.2.length≤6
 | [],_,_,_,_,h=>by simp at h
 | x :: gs,known,0,g,⟨a,b,c,d⟩,h=>by
  simp at h;subst h
  exact ⟨by simpa using a,b,c⟩
 | x :: gs,known,i+1,g,⟨a,b,c,d⟩,h=>by
  have:=WG.at (i:=i) (g:=g) d (by simpa using h)
  simpa using this
end
end ME
namespace MC
def inC:Nat→List Nat × Nat × Nat
 | 0=>([],1,1)
 | n+1=>((inC n).1.map (fun c=>c ||| (c * 2 ^ (inC n).2.2)) ++ [(inC n).2.1 * 2 ^ (inC n).2.2],(inC n).2.1 ||| ((inC n).2.1 * 2 ^ (inC n).2.2),(inC n).2.2 * 2)
theorem tb_mul (c w j:Nat):(c * 2 ^ w).testBit j=(decide (w≤j) && c.testBit (j - w)):=by
 rw [← Nat.shiftLeft_eq,Nat.testBit_shiftLeft]
theorem inC_w:∀ n,(inC n).2.2=2 ^ n
 | 0=>rfl
 | n+1=>by show (inC n).2.2 * 2=_;rw [inC_w n,Nat.pow_succ]
theorem tb_lt {c w j:Nat} (h:c<2 ^ w) (hj:w≤j):c.testBit j=false:=Nat.testBit_lt_two_pow (Nat.lt_of_lt_of_le h (Nat.pow_le_pow_right (by decide) hj))
theorem inC_e:∀ n,(inC n).2.1=2 ^ (2 ^ n) - 1
 | 0=>rfl
 | n+1=>by
  show (inC n).2.1 ||| ((inC n).2.1 * 2 ^ (inC n).2.2)=_
  rw [inC_e n,inC_w n]
  apply Nat.eq_of_testBit_eq
  intro j
  rw [Nat.testBit_or,tb_mul,Nat.testBit_two_pow_sub_one,Nat.testBit_two_pow_sub_one,Nat.testBit_two_pow_sub_one,Nat.pow_succ]
  by_cases h1:j<2 ^ n
  ·simp [h1];omega
  ·by_cases h2:j<2 ^ n * 2
   ·simp [h1,h2];omega
   ·simp [h1,h2];omega
theorem inC_len:∀ n,(inC n).1.length=n
 | 0=>rfl
 | n+1=>by show (_ ++ [_]).length=_;simp [inC_len n]
theorem inC_lt:∀ n,∀ c∈(inC n).1,c<2 ^ (2 ^ n)
 | 0,c,h=>by simp [inC] at h
 | n+1,c,h=>by
  have h':c∈(inC n).1.map (fun c=>c ||| (c * 2 ^ (inC n).2.2)) ++ [(inC n).2.1 * 2 ^ (inC n).2.2]:=h
  rw [inC_w,inC_e] at h'
  have e2:2 ^ (2 ^ (n+1))=2 ^ (2 ^ n) * 2 ^ (2 ^ n):=by rw [← Nat.pow_add,Nat.pow_succ];congr 1;omega
  have hp:0<2 ^ (2 ^ n):=Nat.pow_pos (by decide)
  have up:∀ d,d<2 ^ (2 ^ n)→d * 2 ^ (2 ^ n)<2 ^ (2 ^ (n+1)):=fun d hd=>by rw [e2];exact Nat.mul_lt_mul_of_pos_right hd hp
  rcases List.mem_append.mp h' with q | q
  ·obtain ⟨d,hd,rfl⟩:=List.mem_map.mp q
   have:=inC_lt n d hd
   refine Nat.or_lt_two_pow (Nat.lt_of_lt_of_le this (Nat.pow_le_pow_right (by decide) (Nat.pow_le_pow_right (by decide) (Nat.le_succ _)))) (up d this)
  ·rw [List.mem_singleton.mp q]
   exact up _ (by omega)
theorem low_bit {n i j:Nat} (h1:2 ^ n≤j) (h2:j<2 ^ (n+1)) (hi:i<n):(j - 2 ^ n).testBit i=j.testBit i:=by
 have e:j=2 ^ n+(j - 2 ^ n):=by omega
 have h3:j - 2 ^ n<2 ^ n:=by rw [Nat.pow_succ] at h2;omega
 have:=Nat.testBit_two_pow_add_gt (i:=n) (j:=i) hi (j - 2 ^ n)
 rw [← e] at this
 exact this.symm
theorem top_bit {n j:Nat} (h2:j<2 ^ (n+1)):j.testBit n=decide (2 ^ n≤j):=by
 by_cases h:2 ^ n≤j
 ·rw [decide_eq_true h]
  have e:j=2 ^ n+(j - 2 ^ n):=by omega
  have h3:j - 2 ^ n<2 ^ n:=by rw [Nat.pow_succ] at h2;omega
  have:=Nat.testBit_two_pow_add_eq (j - 2 ^ n) n
  rw [← e] at this
  rw [this,Nat.testBit_lt_two_pow h3];rfl
 ·rw [decide_eq_false h]
  exact Nat.testBit_lt_two_pow (by omega)
theorem inC_bit:∀ (n i j:Nat),i<n→j<2 ^ n→((inC n).1.getD i 0).testBit j=j.testBit i
 | 0,i,j,h,_=>absurd h (by omega)
 | n+1,i,j,hi,hj=>by
  have hg:(inC (n+1)).1=(inC n).1.map (fun c=>c ||| (c * 2 ^ (2 ^ n))) ++ [(2 ^ (2 ^ n) - 1) * 2 ^ (2 ^ n)]:=by
   show (inC n).1.map (fun c=>c ||| (c * 2 ^ (inC n).2.2)) ++ [(inC n).2.1 * 2 ^ (inC n).2.2]=_
   rw [inC_w,inC_e]
  have hl:=inC_len n
  rw [hg]
  by_cases h:i<n
  ·have e:((inC n).1.map (fun c=>c ||| (c * 2 ^ (2 ^ n))) ++ [(2 ^ (2 ^ n) - 1) * 2 ^ (2 ^ n)]).getD i 0=((inC n).1.getD i 0) ||| (((inC n).1.getD i 0) * 2 ^ (2 ^ n)):=by
    simp [List.getD,List.getElem?_append,hl,h]
   have hc:(inC n).1.getD i 0<2 ^ (2 ^ n):=by
    have hm:(inC n).1.getD i 0∈(inC n).1:=by
     have:i<(inC n).1.length:=by omega
     simp [List.getD,this]
    exact inC_lt n _ hm
   rw [e,Nat.testBit_or,tb_mul]
   by_cases hj2:j<2 ^ n
   ·rw [inC_bit n i j h hj2,decide_eq_false (by omega)];simp
   ·rw [tb_lt hc (by omega),decide_eq_true (by omega),inC_bit n i (j - 2 ^ n) h (by rw [Nat.pow_succ] at hj;omega),low_bit (by omega) hj h];simp
  ·have hin:i=n:=by omega
   subst hin
   have e:((inC i).1.map (fun c=>c ||| (c * 2 ^ (2 ^ i))) ++ [(2 ^ (2 ^ i) - 1) * 2 ^ (2 ^ i)]).getD i 0=(2 ^ (2 ^ i) - 1) * 2 ^ (2 ^ i):=by
    simp [List.getD,List.getElem?_append,hl]
   rw [e,tb_mul,Nat.testBit_two_pow_sub_one,top_bit hj]
   have:j - 2 ^ i<2 ^ i:=by
    rw [Nat.pow_succ] at hj
    have:0<2 ^ i:=Nat.pow_pos (by decide)
    omega
   simp [this]
theorem xor_and:∀ (n a b:Nat),a<n→(a ^^^ b)+(a &&& b)=a ||| b
 | 0,_,_,h=>absurd h (by omega)
 | n+1,a,b,h=>by
  by_cases ha:a=0
  ·subst ha;simp
  have ih:=xor_and n (a / 2) (b / 2) (by omega)
  rw [← Nat.xor_div_two,← Nat.and_div_two,← Nat.or_div_two] at ih
  have e1:=Nat.div_add_mod (a ^^^ b) 2
  have e2:=Nat.div_add_mod (a &&& b) 2
  have e3:=Nat.div_add_mod (a ||| b) 2
  have t:∀ x:Nat,x % 2=(x.testBit 0).toNat:=fun x=>by
   rw [Nat.testBit_zero]
   rcases Nat.mod_two_eq_zero_or_one x with q | q <;> simp [q]
  have m1:=t (a ^^^ b)
  have m2:=t (a &&& b)
  have m3:=t (a ||| b)
  rw [Nat.testBit_xor] at m1
  rw [Nat.testBit_and] at m2
  rw [Nat.testBit_or] at m3
  have:(a ^^^ b) % 2+(a &&& b) % 2=(a ||| b) % 2:=by
   rw [m1,m2,m3]
   cases a.testBit 0 <;> cases b.testBit 0 <;> rfl
  omega
end MC
namespace GM
open PySem
end GM
set_option maxHeartbeats 4000000
namespace L2
open PySem PySem.Spec PyProof.Rows
def tMid (t u:TS):TS:=tSeq t u
theorem mid {t u:TS}{D:Ends}{σ:St}{H:Hp} (M:St→Hp→Prop) (h1:∀ N:St→Hp→Prop,(∀ σ' H',M σ' H'→N σ' H')→t { D with nx:=N } σ H) (h2:∀ σ' H',M σ' H'→u D σ' H'):tMid t u D σ H:=h1 _ h2
theorem pss_mid {X:Cx}{st:Stmt}{rest:List Stmt}{t u:TS} (h:PS X st t) (hr:PSs X rest u):PSs X (st :: rest) (tMid t u):=pss_cons h hr
theorem mtr {X:Cx}{id:String}{r:V→List V→Hp→VK→Prop} (h:MtM X id r):MtR X id r:=h
theorem comp_gen {J:It}{σ:St}{k:Nat}{sel:List Nat}{g:TG}{tt:TT}{te:TE}{Q:VK}{H:Hp}{p:Addr}{n:Nat}{item:Nat→V} (Sv:St→Prop) (Pv:Nat→Hp→Prop)
  (hS:Sv (cst σ k sel)) (h0:Pv 0 (upd H p (.lst [])))
  (src:∀ i H2,i<n→Pv i H2→J.go i H2∧∀ x H3,J.yld i H2 x H3→H3=H2∧x=item i) (fin:∀ H2,Pv n H2→J.stop n H2)
  (step:∀ i σ2 H2 (R:St→Hp→Prop),i<n→Sv σ2→Pv i H2→(∀ σ' H',Sv σ'→Pv (i+1) H'→R σ' H')→g (item i) σ2 H2 fun σ4 H4=>tt σ4 H4 fun b H5 =>
   if b=true then te σ4 H5 fun v H6=>∃ ys,H6 p=some (.lst ys)∧ys.length<sizeLine∧R σ4 (upd H6 p (.lst (ys ++ [v]))) else R σ4 H5)
  (hQ:∀ H2,Pv n H2→Q (.ref p) H2):CompGoal J σ k sel g tt te Q H p:=by
 refine ⟨fun i m σ2 H2=>i≤n∧m=n - i+1∧Sv σ2∧Pv i H2,⟨n+1,Nat.zero_le _,rfl,hS,h0⟩,?_⟩
 rintro i m σ2 H2 ⟨hi,rfl,hs,hP⟩
 by_cases hlt:i<n
 ·right
  obtain ⟨hg,hy⟩:=src i H2 hlt hP
  refine ⟨hg,fun x H3 hx=>?_⟩
  obtain ⟨rfl,rfl⟩:=hy x H3 hx
  exact step i σ2 H3 (fun σ' H'=>∃ m',m'<n - i+1∧i+1≤n∧m'=n - (i+1)+1∧Sv σ'∧Pv (i+1) H') hlt hs hP fun σ' H' s' h'=>⟨n - (i+1)+1,by omega,hlt,rfl,s',h'⟩
 ·left
  have e:i=n:=by omega
  subst e
  exact ⟨fin H2 hP,hQ H2 hP⟩
def SameN (H H':Hp):Prop:=∀ b o,H b=some o→(∀ xs,o≠.lst xs)→H' b=some o
section
variable {K:PySem.W.Frag}{H H' H0 H1:Hp}{l a:Addr}{xs ys:List V}{o:HO}
theorem Same.n (s:Same H H'):SameN H H':=fun b o e _=>s b o e
theorem SameN.clear (h:H l=some (.lst xs)):SameN H (upd H l (.lst ys)):=fun b o e n=>by rw [upd_ne (ne_of e h (n xs))];exact e
theorem Same.put (s:Same H0 H) (h:H0 l=none):Same H0 (upd H l o):=fun b u e=>by rw [upd_ne (ne_of_none e h)];exact s b u e
theorem Same.tup (e:Same H H') (h:SqT K H a xs):SqT K H' a xs:=by
 rcases h with (h | ⟨o,h⟩) | h
 ·exact .inl (.inl (e _ _ h))
 ·exact .inl (.inr ⟨o,e _ _ h⟩)
 ·exact .inr h
def Keep (N:Addr→Prop) (H H':Hp):Prop:=∀ b o,N b→H b=some o→H' b=some o
theorem Same.keep {N:Addr→Prop} (s:Same H H'):Keep N H H':=fun b o _ e=>s b o e
theorem Keep.tup {N:Addr→Prop} (e:Keep N H H') (n:N a) (h:SqT K H a xs):SqT K H' a xs:=by
 rcases h with (h | ⟨o,h⟩) | h
 ·exact .inl (.inl (e _ _ n h))
 ·exact .inl (.inr ⟨o,e _ _ n h⟩)
 ·exact .inr h
end
theorem fold_rep (c:Nat):∀ (k:Nat) (acc:Array Nat),((List.replicate k (#[c]:Array Nat)).foldl (· ++ ·) acc).toList=acc.toList ++ List.replicate k c
 | 0,acc=>by simp
 | k+1,acc=>by
  rw [List.replicate_succ,List.foldl_cons,fold_rep c k,List.replicate_succ]
  simp
section
variable {K:PySem.W.Frag}{H:Hp}{p:Addr}{i:Int}{F:V→Prop}
theorem ixI {cs:List Int} (hS:SqL K H p (cs.map V.int)) (h0:0≤i) (h1:i<cs.length) (h:F (.int (cs.getD i.toNat 0))):∃ xs v,(SqL K H p xs∨SqT K H p xs)∧atI xs i=some v∧F v:=⟨_,_,.inl hS,atI_map 0 h0 h1,h⟩
end
def CShl (i j:Int):Prop:=0≤j∧(Builtin.Int.intBits i:Int)+j≤2 ^ 27
theorem o_shlB {X:Cx}:OpR X (binaryOp .LShift) (cI2c CShl fun i j=>.int (i * 2 ^ j.toNat)):=(opI (C:=CShl) (g:=fun i j=>i * 2 ^ j.toNat) fun _ _ _ _ _ _ _ hc q=>lshift_int hc.1 hc.2 q).imp fun _ _ _ _ h=>cI2c_of h
theorem and_nat (a b:Nat):Builtin.bitAnd (a:Int) (b:Int)=((a &&& b:Nat):Int):=by rw [bitAnd_pp (by omega) (by omega)];simp
theorem or_nat (a b:Nat):Builtin.bitOr (a:Int) (b:Int)=((a ||| b:Nat):Int):=by
 rw [bitOr_and,and_nat]
 have:=MC.xor_and (a+1) a b (Nat.lt_succ_self _)
 have h2:(a ||| b)+(a &&& b)=a+b:=by
  have e:∀ (n a b:Nat),a<n→(a ||| b)+(a &&& b)=a+b:=by
   intro n
   induction n with
   | zero=>intro a b h;omega
   | succ n ih =>
    intro a b h
    by_cases ha:a=0
    ·subst ha;simp
    have i1:=ih (a / 2) (b / 2) (by omega)
    rw [← Nat.and_div_two,← Nat.or_div_two] at i1
    have t:∀ x:Nat,x % 2=(x.testBit 0).toNat:=fun x=>by
     rw [Nat.testBit_zero]
     rcases Nat.mod_two_eq_zero_or_one x with q | q <;> simp [q]
    have m2:=t (a &&& b)
    have m3:=t (a ||| b)
    rw [Nat.testBit_and] at m2
    rw [Nat.testBit_or] at m3
    have ma:=t a
    have mb:=t b
    have:(a ||| b) % 2+(a &&& b) % 2=a % 2+b % 2:=by
     rw [m2,m3,ma,mb]
     cases a.testBit 0 <;> cases b.testBit 0 <;> rfl
    omega
  exact e (a+1) a b (Nat.lt_succ_self _)
 omega
theorem xor_nat (a b:Nat):Builtin.bitXor (a:Int) (b:Int)=((a ^^^ b:Nat):Int):=by
 unfold Builtin.bitXor
 rw [or_nat,and_nat]
 have:=MC.xor_and (a+1) a b (Nat.lt_succ_self _)
 omega
end L2
set_option maxHeartbeats 4000000
namespace GM
open PySem L2
end GM
set_option maxHeartbeats 4000000
namespace L2
open PySem PySem.Spec PyProof.Rows
theorem tDNewT_n {σ:St}{H:Hp}{Q:VK}:tDNewT σ H Q = ∀ p H',New H p (.dT []) H'→Q (.ref p) H':=by
 unfold tDNewT;rw [new_eq (F:=fun p H'=>Q (.ref p) H')]
section
open Builtin Builtin.Str
end
theorem Same.nil {H H':Hp}{p:Addr} (s:Same H H') (h:H' p=none):H p=none:=by
 cases e:H p with
 | none=>rfl
 | some o=>rw [s _ _ e] at h;cases h
structure Mad (H:Hp) (p:Addr) (o:HO) (H':Hp):Prop where
 was:H p=none
 at_:H' p=some o
 same:Same H H'
theorem New.mad {H H':Hp}{p:Addr}{o:HO} (n:New H p o H'):Mad H p o H':=⟨n.was,n.at_,n.same⟩
theorem Mad.pre {H H0 H':Hp}{p:Addr}{o:HO} (s:Same H0 H) (n:Mad H p o H'):Mad H0 p o H':=⟨s.nil n.was,n.at_,s.trans n.same⟩
theorem mul_one (c:Nat) (n:Int):(Txt.mul ⟨#[c]⟩ n).cps.toList=List.replicate n.toNat c:=by
 unfold Txt.mul
 by_cases h1:n<1
 ·rw [if_pos h1]
  have:n.toNat=0:=by omega
  rw [this]
  rfl
 ·rw [if_neg h1]
  by_cases h2:(n == 1 || Str.length ⟨#[c]⟩ == 0)=true
  ·rw [if_pos h2]
   have h3:n=1:=by
    rw [Bool.or_eq_true] at h2
    rcases h2 with q | q
    ·exact beq_iff_eq.mp q
    ·exact absurd (beq_iff_eq.mp q) (by show ¬ (1:Nat)=0;decide)
   subst h3
   rfl
  ·rw [if_neg h2]
   show ((List.replicate n.toNat (#[c]:Array Nat)).foldl (· ++ ·) #[]).toList=_
   rw [fold_rep]
   simp
end L2
namespace MF
abbrev Pr:=Int × Int
def tn (t:Int):Int:=if t % 2=0 then t+1 else t - 1
def lo (s t:Int):Int:=if t<s then t else s
def hi (s t:Int):Int:=if t > s then t else s
def fnd:Int→List Pr→Pr→Option Int
 | _,[],_=>none
 | n,q :: r,p=>if q=p then some n else fnd (n+1) r p
def sure (s t:Int):Option Int :=
 if lo s t=0 then some 0 else if lo s t=1∨lo s t=hi s t then some (hi s t) else if lo s t=tn (hi s t) then some 0 else none
def kn (m:Int) (ps:List Pr) (p:Pr):Int:=(fnd (m+1) ps p).getD (m+1+ps.length)
def kp (m:Int) (ps:List Pr) (p:Pr):List Pr:=if (fnd (m+1) ps p).isSome then ps else ps ++ [p]
def bt (m:Int) (ps:List Pr) (s t:Int):Int:=match sure s t with | some v=>v | none=>2 * kn m ps (lo s t,hi s t)
def bp (m:Int) (ps:List Pr) (s t:Int):List Pr:=match sure s t with | some _=>ps | none=>kp m ps (lo s t,hi s t)
theorem fnd_some:∀ {n:Int}{ps:List Pr}{p:Pr}{i:Int},fnd n ps p=some i→n≤i∧i<n+ps.length∧ps[(i - n).toNat]? = some p
 | n,[],p,i,h=>by simp [fnd] at h
 | n,q :: r,p,i,h=>by
  unfold fnd at h
  by_cases e:q=p
  ·rw [if_pos e] at h
   have:=Option.some.inj h
   subst this
   refine ⟨by omega,by simp only [List.length_cons];omega,?_⟩
   rw [show (n - n).toNat=0 by omega,List.getElem?_cons_zero,e]
  ·rw [if_neg e] at h
   obtain ⟨h1,h2,h3⟩:=fnd_some h
   refine ⟨by omega,by simp only [List.length_cons];omega,?_⟩
   rw [show (i - n).toNat=(i - (n+1)).toNat+1 by omega,List.getElem?_cons_succ]
   exact h3
theorem fnd_none:∀ {n:Int}{ps:List Pr}{p:Pr},fnd n ps p=none→p ∉ ps
 | n,[],p,h=>by simp
 | n,q :: r,p,h=>by
  unfold fnd at h
  by_cases e:q=p
  ·rw [if_pos e] at h;cases h
  ·rw [if_neg e] at h
   intro hm
   rcases List.mem_cons.mp hm with e' | e'
   ·exact e e'.symm
   ·exact fnd_none h e'
theorem fnd_snoc:∀ {n:Int}{ps:List Pr}{p:Pr},fnd n ps p=none→fnd n (ps ++ [p]) p=some (n+ps.length)
 | n,[],p,h=>by simp [fnd]
 | n,q :: r,p,h=>by
  have e:¬ q=p:=fun e=>by unfold fnd at h;rw [if_pos e] at h;cases h
  unfold fnd at h
  rw [if_neg e] at h
  show fnd n (q :: (r ++ [p])) p=_
  unfold fnd
  rw [if_neg e,fnd_snoc h]
  congr 1
  simp only [List.length_cons]
  omega
theorem kp_len (m:Int) (ps:List Pr) (p:Pr):ps.length≤(kp m ps p).length∧(kp m ps p).length≤ps.length+1:=by
 unfold kp;split <;> simp
theorem bp_len (m:Int) (ps:List Pr) (s t:Int):ps.length≤(bp m ps s t).length∧(bp m ps s t).length≤ps.length+1:=by
 unfold bp;split
 ·omega
 ·exact kp_len ..
theorem kn_bound (m:Int) (ps:List Pr) (p:Pr):m+1≤kn m ps p∧kn m ps p<m+1+(kp m ps p).length:=by
 unfold kn kp
 cases h:fnd (m+1) ps p with
 | none=>simp;omega
 | some i =>
  have:=fnd_some h
  simp;omega
def Ok (m:Int) (ps:List Pr):Prop:=∀ (i:Nat) (p:Pr),ps[i]? = some p→2≤p.1∧p.1<p.2∧p.1 / 2≠p.2 / 2∧p.2<2 * (m+1+i)
theorem sure_none {s t:Int} (hs:0≤s) (ht:0≤t) (h:sure s t=none):2≤lo s t∧lo s t<hi s t∧lo s t / 2≠hi s t / 2:=by
 unfold sure at h
 have hlh:lo s t≤hi s t∧0≤lo s t:=by unfold lo hi;split <;> split <;> omega
 by_cases h1:lo s t=0
 ·rw [if_pos h1] at h;cases h
 rw [if_neg h1] at h
 by_cases h2:lo s t=1∨lo s t=hi s t
 ·rw [if_pos h2] at h;cases h
 rw [if_neg h2] at h
 by_cases h3:lo s t=tn (hi s t)
 ·rw [if_pos h3] at h;cases h
 refine ⟨by omega,by omega,fun e=>h3 ?_⟩
 unfold tn
 split <;> omega
theorem sure_some {s t T v:Int} (hs:0≤s) (ht:0≤t) (hs':s<T) (ht':t<T) (h:sure s t=some v):0≤v∧v<T:=by
 unfold sure at h
 have hlh:lo s t≤hi s t∧0≤lo s t∧hi s t<T:=by unfold lo hi;split <;> split <;> omega
 by_cases h1:lo s t=0
 ·rw [if_pos h1] at h;cases h;omega
 rw [if_neg h1] at h
 by_cases h2:lo s t=1∨lo s t=hi s t
 ·rw [if_pos h2] at h;cases h;omega
 rw [if_neg h2] at h
 by_cases h3:lo s t=tn (hi s t)
 ·rw [if_pos h3] at h;cases h;omega
 rw [if_neg h3] at h;cases h
theorem hi_lt {s t T:Int} (h1:s<T) (h2:t<T):hi s t<T:=by unfold hi;split <;> omega
theorem lo_le_hi (s t:Int):lo s t≤hi s t:=by unfold lo hi;split <;> split <;> omega
theorem Ok.bp {m:Int}{ps:List Pr} (h:Ok m ps) {s t:Int} (hs:0≤s) (ht:0≤t) (hs':s<2 * (m+1+ps.length)) (ht':t<2 * (m+1+ps.length)):Ok m (bp m ps s t):=by
 unfold MF.bp
 cases e:sure s t with
 | some v=>exact h
 | none =>
  show Ok m (kp m ps (lo s t,hi s t))
  unfold kp
  split
  ·exact h
  ·intro i p hp
   rcases Nat.lt_or_ge i ps.length with hi' | hi'
   ·rw [List.getElem?_append_left hi'] at hp
    exact h i p hp
   ·rw [List.getElem?_append_right hi'] at hp
    have h0:i - ps.length=0:=by
     rcases Nat.eq_zero_or_pos (i - ps.length) with z | z
     ·exact z
     ·rw [List.getElem?_eq_none (by simp;omega)] at hp;cases hp
    rw [h0] at hp
    have:=Option.some.inj hp
    subst this
    have h3:=sure_none hs ht e
    have h4:=hi_lt hs' ht'
    refine ⟨h3.1,h3.2.1,h3.2.2,?_⟩
    show MF.hi s t<_
    have:i=ps.length:=by omega
    subst this
    exact h4
theorem bt_bound {m:Int} (hm:0≤m) {ps:List Pr}{s t:Int} (hs:0≤s) (ht:0≤t) (hs':s<2 * (m+1+ps.length)) (ht':t<2 * (m+1+ps.length)):0≤bt m ps s t∧bt m ps s t<2 * (m+1+(MF.bp m ps s t).length):=by
 unfold bt MF.bp
 cases e:sure s t with
 | some v=>exact sure_some hs ht hs' ht' e
 | none =>
  have:=kn_bound m ps (lo s t,hi s t)
  show 0≤2 * kn m ps (lo s t,hi s t)∧2 * kn m ps (lo s t,hi s t)<2 * (m+1+((kp m ps (lo s t,hi s t)).length:Int))
  omega
end MF
namespace MF
abbrev RS:=Int × List Pr
def InT (m:Int) (ps:List Pr) (t:Int):Prop:=0≤t∧t<2 * (m+1+ps.length)
structure St (m:Int) (ps:List Pr) (n:Nat) (r:RS):Prop where
 ok:Ok m ps→Ok m r.2
 inn:InT m r.2 r.1
 lo:ps.length≤r.2.length
 hi:r.2.length≤ps.length+n
 pre:∃ e,r.2=ps ++ e
 nd:ps.Nodup→r.2.Nodup
theorem InT.tn {m t:Int}{ps:List Pr} (h:InT m ps t):InT m ps (tn t):=by
 have h1:=h.1
 have h2:=h.2
 unfold InT MF.tn
 split <;> omega
theorem bp_pre (m:Int) (ps:List Pr) (s t:Int):∃ e,bp m ps s t=ps ++ e:=by
 unfold bp
 split
 ·exact ⟨[],by simp⟩
 ·unfold kp
  split
  ·exact ⟨[],by simp⟩
  ·exact ⟨_,rfl⟩
theorem bp_nd {m s t:Int}{ps:List Pr} (h:ps.Nodup):(bp m ps s t).Nodup:=by
 unfold bp
 split
 ·exact h
 ·unfold kp
  cases e:fnd (m+1) ps (lo s t,hi s t) with
  | some i=>exact h
  | none =>
   have:=fnd_none e
   show (ps ++ [_]).Nodup
   rw [List.nodup_append]
   refine ⟨h,by simp,fun a ha b hb=>?_⟩
   rw [List.mem_singleton] at hb
   subst hb
   exact fun z=>this (z ▸ ha)
def bo (m s t:Int) (ps:List Pr):RS:=(bt m ps s t,bp m ps s t)
theorem bo_st {m s t:Int}{ps:List Pr} (hm:0≤m) (hs:InT m ps s) (ht:InT m ps t):St m ps 1 (bo m s t ps) :=
 ⟨fun h=>h.bp hs.1 ht.1 hs.2 ht.2,bt_bound hm hs.1 ht.1 hs.2 ht.2,(bp_len m ps s t).1,(bp_len m ps s t).2,bp_pre m ps s t,fun h=>bp_nd h⟩
end MF
set_option maxHeartbeats 4000000
namespace L2
open PySem PySem.Spec PyProof.Rows
def knK (p:MF.Pr):List Key:=[.inl p.1,.inl p.2]
theorem knK_inj {p q:MF.Pr} (h:knK p=knK q):p=q:=by
 unfold knK at h
 injection h with h1 h2
 injection h2 with h3 _
 exact Prod.ext (Sum.inl.inj h1) (Sum.inl.inj h3)
def kvF:Int→List MF.Pr→List (List Key × V)
 | _,[]=>[]
 | n,p :: r=>(knK p,.int n) :: kvF (n+1) r
theorem val_kvF:∀ (n:Int) (ps:List MF.Pr) (p:MF.Pr),valV (kvF n ps) (knK p)=(MF.fnd n ps p).map V.int
 | _,[],_=>rfl
 | n,q :: r,p=>by
  show valV ((knK q,V.int n) :: kvF (n+1) r) (knK p)=_
  unfold MF.fnd
  by_cases e:q=p
  ·rw [if_pos e,valV_pos (p:=(knK q,V.int n)) (congrArg knK e)];rfl
  ·rw [if_neg e,valV_neg (p:=(knK q,V.int n)) (fun z=>e (knK_inj z)),val_kvF (n+1) r p]
theorem kvF_snoc:∀ (n:Int) (ps:List MF.Pr) (p:MF.Pr),kvF n (ps ++ [p])=kvF n ps ++ [(knK p,.int (n+ps.length))]
 | n,[],p=>by simp [kvF]
 | n,q :: r,p=>by
  show (knK q,V.int n) :: kvF (n+1) (r ++ [p])=(knK q,V.int n) :: (kvF (n+1) r ++ _)
  rw [kvF_snoc (n+1) r p]
  congr 5
  simp only [List.length_cons]
  omega
theorem len_kvF:∀ (n:Int) (ps:List MF.Pr),(kvF n ps).length=ps.length
 | _,[]=>rfl
 | n,q :: r=>by show (kvF (n+1) r).length+1=r.length+1;rw [len_kvF (n+1) r]
theorem put_kvF {n:Int}{ps:List MF.Pr}{p:MF.Pr} (h:MF.fnd n ps p=none):putK (kvF n ps) (knK p) (.int (n+ps.length))=kvF n (ps ++ [p]):=by
 unfold putK
 rw [valV_any,val_kvF,h,kvF_snoc]
 rfl
abbrev En:=Addr × MF.Pr
abbrev psOf (es:List En):List MF.Pr:=es.map (·.2)
structure PairsAt (H:Hp) (pl kl:Addr) (m:Int) (es:List En):Prop where
 lst:H pl=some (.lst (es.map fun e=>V.ref e.1))
 dct:H kl=some (.dT (kvF (m+1) (psOf es)))
 tup:∀ e∈es,H e.1=some (.tup [.int e.2.1,.int e.2.2])
def Un2 (pl kl:Addr) (H H':Hp):Prop:=∀ b o,b≠pl→b≠kl→H b=some o→H' b=some o
section
variable {H H' H1:Hp}{pl kl p2 k2 f dx C:Addr}{m:Int}{es:List En}{o:HO}
theorem Un2.refl:Un2 pl kl H H:=fun _ _ _ _ e=>e
theorem Un2.trans (u:Un2 pl kl H H') (v:Un2 pl kl H' H1):Un2 pl kl H H1:=fun b o n1 n2 e=>v b o n1 n2 (u b o n1 n2 e)
theorem Same.un (s:Same H H'):Un2 pl kl H H':=fun b o _ _ e=>s b o e
theorem un_l:Un2 pl kl H (upd H pl o):=fun b u n1 _ e=>by rw [upd_ne n1];exact e
theorem un_k:Un2 pl kl H (upd H kl o):=fun b u _ n2 e=>by rw [upd_ne n2];exact e
theorem PairsAt.same (h:PairsAt H pl kl m es) (s:Same H H'):PairsAt H' pl kl m es:=⟨s _ _ h.lst,s _ _ h.dct,fun e he=>s _ _ (h.tup e he)⟩
structure FoldAt (C:Addr) (H:Hp) (f:Addr) (m:Int) (es:List En) (dx pl kl:Addr):Prop where
 ins:H f=some (.ins C dx [("many",.int m),("pairs",.ref pl),("knots",.ref kl)])
 prs:PairsAt H pl kl m es
theorem FoldAt.same (h:FoldAt C H f m es dx pl kl) (s:Same H H'):FoldAt C H' f m es dx pl kl:=⟨s _ _ h.ins,h.prs.same s⟩
theorem PairsAt.nlk (h:PairsAt H pl kl m es):pl≠kl:=ne_of h.lst h.dct (fun z=>nomatch z)
theorem PairsAt.put (h:PairsAt H pl kl m es) {tp:Addr}{p:MF.Pr} (ht:H tp=some (.tup [.int p.1,.int p.2])) (hf:MF.fnd (m+1) (psOf es) p=none) :
  PairsAt (upd (upd H kl (.dT (kvF (m+1) (psOf es ++ [p])))) pl (.lst ((es.map fun e=>V.ref e.1) ++ [.ref tp]))) pl kl m (es ++ [(tp,p)]):=by
 have nt:∀ {b:Addr}{xs:List V},H b=some (.tup xs)→upd (upd H kl (.dT (kvF (m+1) (psOf es ++ [p])))) pl (.lst ((es.map fun e=>V.ref e.1) ++ [.ref tp])) b=some (.tup xs):=fun {b xs} e=>by
  rw [upd_ne (ne_of e h.lst (fun z=>nomatch z)),upd_ne (ne_of e h.dct (fun z=>nomatch z))];exact e
 refine ⟨?_,?_,fun e he=>?_⟩
 ·rw [upd_same,List.map_append];rfl
 ·rw [upd_ne h.nlk.symm,upd_same,psOf,psOf,List.map_append];rfl
 ·rcases List.mem_append.mp he with he | he
  ·exact nt (h.tup e he)
  ·rw [List.mem_singleton] at he
   subst he
   exact nt ht
end
theorem xor_one {t:Int} (h:0≤t):Builtin.bitXor t 1=MF.tn t:=by
 obtain ⟨a,rfl⟩:=Int.eq_ofNat_of_zero_le h
 have e:=xor_nat a 1
 rw [show ((1:Nat):Int)=1 from rfl] at e
 rw [e]
 have h1:(a ^^^ 1) / 2=a / 2:=by rw [Nat.xor_div_two];simp
 have h2:(a ^^^ 1) % 2=(a+1) % 2:=by
  have:=Nat.xor_mod_two_pow (a:=a) (b:=1) (n:=1)
  rw [show 2 ^ 1=2 from rfl] at this
  rw [this]
  rcases Nat.mod_two_eq_zero_or_one a with q | q
  ·rw [q,show 0 ^^^ 1 % 2=1 from rfl];omega
  ·rw [q,show 1 ^^^ 1 % 2=0 from rfl];omega
 unfold MF.tn
 split <;> omega
theorem getD_refs (es:List En) (n:Nat) (h:n<es.length):(es.map fun e=>V.ref e.1).getD n .non=V.ref (es[n]).1:=by simp [List.getD,h]
end L2
set_option maxHeartbeats 4000000
namespace DL
open PySem DZ
section
variable {prog:Program}{w:World}{A:Around}{E:Value→Shared→Prop}{h:Heap}{g:Array GenState}{d:Drawn}{t:Nat}{os:OsState}{z:Addr}{vs:Array Value}{n:Nat}
end
section
variable {prog:Program}{w:World}{A:Around}{E:Value→Shared→Prop}{s:Shared}{κ:Type} [DecidableEq κ] {knd:KeyKind prog w κ}
end
end DL
namespace L2
open PySem PySem.Spec PyProof.Rows
end L2
set_option maxHeartbeats 4000000
namespace EX
open PySem
structure Lv (S:List Addr) (e:Addr) (old:List Addr) (cls:Value) (h h':Heap) (T:Addr):Prop where
 ge:h.objs.size≤T
 exc:∃ oe vs,h'.get? e=some oe∧oe.cls=cls∧oe.data=.fields vs∧vs[1]? = some (.ref T)∧oe.dict=none
 tb:∃ oT ts,h'.get? T=some oT∧oT.data=.fields ts∧ts[3]? = some .none
 keep:∀ b o,b ∉ S→b≠e→b ∉ old→h.get? b=some o→h'.get? b=some o
 slot:∀ b o,b∈S→h.get? b=some o→∃ sl,h'.get? b=some { o with slots:=sl }
theorem map_dict (f:Array Value→Array Value) (o:Obj):(Obj.mapFields f o).dict=o.dict:=by
 unfold Obj.mapFields
 split <;> rfl
section
variable {M:Model}{A:Around}{E:Value→Shared→Prop}{s:Shared}
theorem entry_ok {base:Heap}{env:Env}{outer:List Env}{L e:Addr}{oe:Obj}{vs:Array Value}{hd0:Value}{nx:Bool}{Q:Unit→Shared→Prop} (hfr:A.frames=some (env :: outer)) (hl:s.heap.FunFrames base (env :: outer)) (hf:env.frame=some L)
  (he:s.heap.get? e=some oe) (hdn:oe.dict=none) (hd:oe.data=.fields vs) (hsz:1<vs.size)
  (q:∀ h' T,Lv ((env :: outer).filterMap (·.frame)) e [] oe.cls s.heap h' T→Q () { s with heap:=h' }) :
  wpAny M A (do let a ← frameOf env;let pl ← entryPlaceOf L nx;let b ← EntryCells.newEntry hd0 a .none (rawInt L) .none pl;setField (.ref e) 1 b) (fun _ s'=>wpAny M A (setFlight (.ref e) none) Q E s') E s:=by
 have eS:e ∉ (env :: outer).filterMap (·.frame):=fun hm=>by
  obtain ⟨_,o,ho,hnf⟩:=hl.mem hm
  rw [he] at ho
  cases ho
  exact hnf vs hd
 refine wpAny_bind (wpAny_frameOf_fun hfr hl hf fun k1 x1=>wpAny_bind (wpAny_entryPlaceOf fun pl hpl=>?_))
 unfold EntryCells.newEntry newFields
 refine wpAny_bind (wpAny_newObj_type ?_ (hpl.sizeOk5 _ _ _ _ _))
 have e1:k1.get? e=some oe:=(x1.2.1 e eS).trans he
 generalize hob:({ cls:=.type "traceback",dict:=none,data:=.fields ([hd0,.ref L,.none,rawInt L,.none] ++ (if pl.isEmpty then List.replicate 6 Value.none else pl)).toArray }:Obj)=ob
 have hobf:∃ ts,ob.data=.fields ts∧3<ts.size:=⟨_,by rw [← hob],by simp only [List.size_toArray,List.length_append,List.length_cons,List.length_nil];omega⟩
 obtain ⟨ts,hts,hts3⟩:=hobf
 have hfreed:ob.isFreed=false:=by rw [← hob];rfl
 have e2:(k1.push ob).get? e=some oe:=Heap.get?_push_of_some _ e1
 refine wpAny_setField e2 hd hsz ?_
 have nTe:k1.objs.size≠e:=Nat.ne_of_gt (Heap.lt_size e1)
 have d3:=Obj.data_mapFields hd (·.setIfInBounds 1 (Value.ref k1.objs.size))
 have e3:=Heap.get?_update_self (Obj.mapFields (·.setIfInBounds 1 (Value.ref k1.objs.size))) e2 (Obj.isFreed_of_fields d3)
 have t3:=(Heap.get?_update_other (k1.push ob) (Obj.mapFields (·.setIfInBounds 1 (Value.ref k1.objs.size))) (Ne.symm nTe)).trans (Heap.get?_push_size k1 hfreed)
 unfold setFlight
 refine wpAny_bind (wpAny_field e3 d3 (x:=.ref k1.objs.size) (by simp [hsz]) ?_)
 rw [if_pos (show (Value.ref k1.objs.size != Value.none)=true by simp)]
 refine wpAny_setField t3 hts hts3 (q _ k1.objs.size ?_)
 have up:∀ b o,b≠e→k1.get? b=some o→(((k1.push ob).update e (Obj.mapFields (·.setIfInBounds 1 (Value.ref k1.objs.size)))).update k1.objs.size (Obj.mapFields (·.setIfInBounds 3 ((none:Option Addr).elim Value.none fun f=>rawInt f)))).get? b=some o:=fun b o nb hb=>by
  rw [Heap.get?_update_other _ _ (Nat.ne_of_gt (Heap.lt_size hb)),Heap.get?_update_other _ _ (Ne.symm nb)]
  exact Heap.get?_push_of_some _ hb
 refine ⟨by rw [x1.1];exact Nat.le_refl _,⟨_,_,(Heap.get?_update_other _ _ nTe).trans e3,Obj.cls_mapFields _ _,d3,by simp [hsz],(map_dict _ _).trans hdn⟩,?_,fun b o hb nb _ hbo=>up b o nb ((x1.2.1 b hb).trans hbo),fun b o hb hbo=>?_⟩
 ·have d4:=Obj.data_mapFields hts (·.setIfInBounds 3 ((none:Option Addr).elim Value.none fun f=>rawInt f))
  exact ⟨_,_,Heap.get?_update_self _ t3 (Obj.isFreed_of_fields d4),d4,by simp [hts3]⟩
 ·obtain ⟨sl,hs⟩:=x1.2.2 b o hbo
  exact ⟨sl,up b _ (fun z=>eS (z ▸ hb)) hs⟩
def Trc (h:Heap) (e:Addr) (vs:Array Value) (old:List Addr):Prop :=
 (vs[1]? = some .none∧old=[])∨∃ T0 oT ts,old=[T0]∧vs[1]? = some (.ref T0)∧T0≠e∧h.get? T0=some oT∧oT.data=.fields ts∧ts[3]? = some .none
theorem lands {base:Heap}{env:Env}{outer:List Env}{L e:Addr}{oe:Obj}{vs:Array Value}{old:List Addr}{Q:Unit→Shared→Prop} (hfr:A.frames=some (env :: outer)) (hl:s.heap.FunFrames base (env :: outer)) (hf:env.frame=some L)
  (he:s.heap.get? e=some oe) (hdn:oe.dict=none) (hd:oe.data=.fields vs) (tr:Trc s.heap e vs old)
  (q:∀ h' T,Lv ((env :: outer).filterMap (·.frame)) e old oe.cls s.heap h' T→Q () { s with heap:=h' }):wpAny M A (noteFrame (.ref e) env) (fun _ s'=>wpAny M A (setFlight (.ref e) none) Q E s') E s:=by
 unfold noteFrame
 simp only [hf]
 rcases tr with ⟨h1,rfl⟩ | ⟨T0,oT,ts,rfl,h1,nT,hT,hdT,h3⟩
 ·refine wpAny_bind (wpAny_field he hd h1 ?_)
  rw [if_neg (by decide)]
  exact entry_ok hfr hl hf he hdn hd (Array.getElem?_eq_some_iff.mp h1).1 q
 ·refine wpAny_bind (wpAny_field he hd h1 ?_)
  rw [if_pos (show (Value.ref T0 != Value.none)=true by simp)]
  refine wpAny_bind (wpAny_field hT hdT h3 ?_)
  rw [if_neg (show ¬ ((Value.none == rawInt L)=true) by simp [rawInt])]
  refine wpAny_bind (wpAny_setField hT hdT (Array.getElem?_eq_some_iff.mp h3).1 ?_)
  have ot:∀ b,b≠T0→(s.heap.update T0 (Obj.mapFields (·.setIfInBounds 3 Value.none))).get? b=s.heap.get? b:=fun b hb=>Heap.get?_update_other _ _ (Ne.symm hb)
  have nf:∀ b o,s.heap.get? b=some o→(∀ vs,o.data≠.fields vs)→b≠T0:=fun b o hb hnf z=>by
   rw [z,hT] at hb
   cases hb
   exact hnf ts hdT
  refine entry_ok hfr (hl.of_keeps fun b o hb hnf=>⟨o,(ot b (nf b o hb hnf)).trans hb,rfl⟩) hf ((ot e (Ne.symm nT)).trans he) hdn hd (Array.getElem?_eq_some_iff.mp h1).1 fun h' T x=>q h' T ⟨?_,x.exc,x.tb,fun b o hb nb no hbo=>?_,fun b o hb hbo=>?_⟩
  ·have:=x.ge
   rw [show (s.heap.update T0 (Obj.mapFields (·.setIfInBounds 3 Value.none))).objs.size=s.heap.objs.size from Heap.size_after_update ..] at this
   exact this
  ·exact x.keep b o hb nb (by simp) ((ot b (fun z=>no (by simp [z]))).trans hbo)
  ·obtain ⟨_,o',ho',hnf⟩:=hl.mem hb
   rw [hbo] at ho'
   cases ho'
   exact x.slot b o hb ((ot b (nf b o hbo hnf)).trans hbo)
theorem leaves {base:Heap}{env:Env}{outer:List Env}{L e:Addr}{oe:Obj}{vs:Array Value}{old:List Addr}{Q:Unit→Shared→Prop} (hfr:A.frames=some (env :: outer)) (hl:s.heap.FunFrames base (env :: outer)) (hf:env.frame=some L)
  (he:s.heap.get? e=some oe) (hdn:oe.dict=none) (hd:oe.data=.fields vs) (tr:Trc s.heap e vs old)
  (q:∀ h' T,Lv ((env :: outer).filterMap (·.frame)) e old oe.cls s.heap h' T→Q () { s with heap:=h' }):wpAny M A (leaving env (.ref e)) Q E s:=by
 unfold leaving
 exact wpAny_bind (lands hfr hl hf he hdn hd tr q)
end
end EX
set_option maxHeartbeats 4000000
namespace L2
open PySem PySem.Spec PyProof.Rows
def CX1 (P:Program) (w:World):CXT:=fun outer H s E er s'=>∃ e T C H',er=.ref e∧s'.os=s.os∧AllBare s'.gens∧Un (frs outer) [] H H' s.heap s'.heap∧HOk P w H' s'.heap∧s.heap.get? e=none∧s.heap.get? T=none∧T≠e∧H' e=none∧H' T=none ∧
 (∃ oe vs,s'.heap.get? e=some oe∧oe.cls=.ref C∧oe.data=.fields vs∧vs[1]? = some (.ref T)∧oe.dict=none)∧(∃ oT ts,s'.heap.get? T=some oT∧oT.data=.fields ts∧ts[3]? = some .none)∧E (.ref e) (some C) H'
theorem ObjOk.has {P:Program}{w:World}{H:Hp}{h:Heap}{a:Addr}{o:HO} (x:ObjOk P w H h a o):∃ u,h.get? a=some u:=by
 cases o with
 | lst xs=>obtain ⟨_,_,_,_,e⟩:=x;exact ⟨_,e⟩
 | tup xs=>obtain ⟨_,_,_,_,e,_⟩:=x;exact ⟨_,e⟩
 | dK kvs=>obtain ⟨_,_,_,_,o,_,_,e,_⟩:=x;exact ⟨_,e⟩
 | dT kvs=>obtain ⟨_,_,_,_,o,_,_,e,_⟩:=x;exact ⟨_,e⟩
 | set S n=>obtain ⟨o,_,_,_,e,_⟩:=x;exact ⟨_,e⟩
 | ins C dx fs=>obtain ⟨_,_,_,e,_⟩:=x;exact ⟨_,e⟩
 | own y=>exact x
 | xd fs=>obtain ⟨_,⟨_,_,_,e,_⟩,_⟩:=x;exact ⟨_,e⟩
 | rng lo hi=>obtain ⟨_,_,_,e⟩:=x;exact ⟨_,e⟩
 | frz ob u=>obtain ⟨e,_⟩:=x;exact ⟨_,e⟩
 | tbl ps=>exact ⟨_,(show h.get? a=some _ from x)⟩
 | met f y=>exact ⟨_,(show h.get? a=some _ from x)⟩
 | ext φ=>obtain ⟨_,e,_⟩:=x;exact e
theorem HOk.unseen {P:Program}{w:World}{H:Hp}{h:Heap}{a:Addr} (x:HOk P w H h) (e:h.get? a=none):H a=none:=by
 cases q:H a with
 | none=>rfl
 | some u =>
  obtain ⟨o,z⟩:=(x a u q).has
  rw [e] at z;cases z
def FlOk (X:Cx) (pins:List (Addr × Obj)) (H:Hp) (b:Addr):Prop :=
 H b=none∧b≠X.env.locals∧b ∉ X.fs∧(b∈X.ex∨X.s₀.heap.get? b=none)∧(∀ x c,X.env.cells.lookup x=some c→c≠b)∧∀ p∈X.pn ++ pins,p.1≠b
theorem Inv.flOk {X:Cx}{pins:List (Addr × Obj)}{σ:St}{H H':Hp}{s:Shared}{b:Addr} (I:Inv X pins σ H s) (hb:s.heap.get? b=none) (hn:H' b=none):FlOk X pins H' b:=by
 have no:∀ {o:Obj},s.heap.get? b=some o→False:=fun z=>by rw [hb] at z;cases z
 refine ⟨hn,fun z=>?_,fun z=>?_,?_,fun x c e z=>?_,fun p hp z=>?_⟩
 ·obtain ⟨m,⟨o,es,ep,ho,_⟩,_⟩:=I.loc
  rw [← z] at ho;exact no ho
 ·obtain ⟨_,o,ho,_⟩:=I.funs.mem z
  exact no ho
 ·by_cases hx:b∈X.ex
  ·exact .inl hx
  ·refine .inr ?_
   cases q:X.s₀.heap.get? b with
   | none=>rfl
   | some o =>
    obtain ⟨o',h'⟩:=I.base.there b o q hx
    exact (no h').elim
 ·obtain ⟨v,q⟩:=I.cell x c e
  rw [z] at q
  obtain ⟨o,ho,_⟩:=q
  exact no ho
 ·have:=(I.pin p hp).1
  rw [z] at this
  exact no this
structure Fly (X:Cx) (pins:List (Addr × Obj)) (H:Hp) (e C:Addr) (s:Shared):Prop where
 fe:FlOk X pins H e
 obj:∃ oe vs old,s.heap.get? e=some oe∧oe.cls=.ref C∧oe.data=.fields vs∧EX.Trc s.heap e vs old∧oe.dict=none∧∀ b∈old,FlOk X pins H b
def XOk (X:Cx) (E:XK):Prop:=∀ (pins:List (Addr × Obj)) (σ:St) (H:Hp) (s:Shared) (e C:Addr),Inv X pins σ H s→Fly X pins H e C s→E (.ref e) (some C) H→X.xe (.ref e) s
theorem fly_of {X:Cx}{pins:List (Addr × Obj)}{σ:St}{H:Hp}{s s':Shared}{E:XK}{er:Value} (I:Inv X pins σ H s) (h:CX1 X.prog X.w X.stack H s E er s'):∃ e C H',er=.ref e∧Inv X pins σ H' s'∧Fly X pins H' e C s'∧E (.ref e) (some C) H':=by
 obtain ⟨e,T,C,H',rfl,os,bare,un,hok,ge,gT,ne,he,hT,⟨oe,vs,h1,h2,h3,h4,h8⟩,⟨oT,ts,h5,h6,h7⟩,q⟩:=h
 obtain ⟨hh,g,d,t,os'⟩:=s'
 obtain rfl:os'=s.os:=os
 refine ⟨e,C,H',rfl,I.call (h':=hh) (g':=g) (d':=d) (t':=t) (ch:=[]) un hok bare (fun b z=>absurd z (by simp)),⟨I.flOk ge he,oe,vs,[T],h1,h2,h3,.inr ⟨T,oT,ts,rfl,h4,ne,h5,h6,h7⟩,h8,fun b hb=>?_⟩,q⟩
 rw [List.mem_singleton.mp hb]
 exact I.flOk gT hT
theorem pass1 {X:Cx}{E:XK} (h:XOk X E):Passes (CX1 X.prog X.w) X E:=fun pins σ H s er s' I hcx=>by
 obtain ⟨e,C,H',rfl,I',fl,q⟩:=fly_of I hcx
 exact h pins σ H' s' e C I' fl q
theorem passN {P:Program}{w:World}{X:Cx}:Passes (CX1 P w) X E0:=fun _ _ _ _ _ _ _ h=>by
 obtain ⟨_,_,_,_,_,_,_,_,_,_,_,_,_,_,_,_,q⟩:=h
 exact q.elim
section
variable {P:Program}{w:World}{K:PySem.W.Frag}{mg:Str→Option Value}{base:Heap}
theorem xok_fn {N:List Str}{qual:Str}{scope:Scope}{f:Addr}{cdv:Value}{A:Around}{outer:List Env}{s:Shared}{H:Hp}{E:XK}:XOk (cxOf (CX1 P w) P w K mg base N qual scope f cdv A outer s H E) E:=by
 intro pins σ H' s' e C I fl q
 obtain ⟨fe,oe,vs,old,h1,h2,h3,tr,hdn,fo⟩:=fl
 show wpAny (model P w) (A.deeper (envOfC qual scope s.heap.objs.size f cdv)) (leaving (envOfC qual scope s.heap.objs.size f cdv) (.ref e)) (fun _ s''=>CX1 P w outer H s E (.ref e) s'') (fun e' s''=>CX1 P w outer H s E e' s'') s'
 have fr:(A.deeper (envOfC qual scope s.heap.objs.size f cdv)).frames=some (envOfC qual scope s.heap.objs.size f cdv :: outer):=I.ok.frames
 have ff:s'.heap.FunFrames base (envOfC qual scope s.heap.objs.size f cdv :: outer):=I.stack
 have free:∀ b∈(envOfC qual scope s.heap.objs.size f cdv :: outer).filterMap (·.frame),H' b=none:=I.stkFree
 have big:∀ {b},FlOk (cxOf (CX1 P w) P w K mg base N qual scope f cdv A outer s H E) pins H' b→s.heap.get? b=none:=fun {b} hb=>by
  rcases hb.2.2.2.1 with z | z
  ·exact absurd z (by show b ∉ ([]:List Addr);simp)
  ·exact z
 have old_lt:∀ {b o},s.heap.get? b=some o→b≠e∧b ∉ old∧b≠s.heap.objs.size:=fun {b o} hb=>by
  have lt:=Heap.lt_size hb
  refine ⟨fun z=>?_,fun z=>?_,Nat.ne_of_lt lt⟩
  ·have:=big fe
   rw [← z,hb] at this;cases this
  ·have:=big (fo b z)
   rw [hb] at this;cases this
 refine EX.leaves (base:=base) fr ff rfl h1 hdn h3 tr fun h' T lv=>?_
 have inS:∀ {b},b∈(envOfC qual scope s.heap.objs.size f cdv :: outer).filterMap (·.frame)→b=s.heap.objs.size∨b∈frs outer:=fun {b} hb=>by
  rw [List.filterMap_cons] at hb
  exact List.mem_cons.mp hb
 have toS:∀ {b},b∈frs outer→b∈(envOfC qual scope s.heap.objs.size f cdv :: outer).filterMap (·.frame):=fun {b} hb=>by
  rw [List.filterMap_cons]
  exact List.mem_cons_of_mem _ hb
 have B:=I.base
 have sge:s.heap.objs.size≤s'.heap.objs.size:=I.sz
 have kp:∀ b u,H' b≠none→s'.heap.get? b=some u→h'.get? b=some u:=fun b u nb hb=>by
  refine lv.keep b u (fun z=>nb (free b z)) (fun z=>nb (by rw [z];exact fe.1)) (fun z=>nb (fo b z).1) hb
 refine ⟨e,T,C,H',rfl,I.os,I.bare,⟨fun b o e1 n hb hx=>?_,fun b o e1 n hb hx=>?_,fun b o e1 n hx=>B.free b o e1 n hx,fun b o e1 hx=>?_,B.tups,B.frzs,B.tbls⟩,fun b u e1=>?_,big fe,Heap.get?_none_of_le (Nat.le_trans sge lv.ge),?_,fe.1,I.hok.fresh lv.ge,?_,lv.tb,q⟩
 ·obtain ⟨z1,z2,z3⟩:=old_lt e1
  refine lv.keep b o (fun z=>?_) z1 z2 (B.keep b o e1 n hb hx)
  rcases inS z with z | z
  ·exact z3 z
  ·exact hb z
 ·obtain ⟨sl,e2⟩:=B.slot b o e1 n hb hx
  obtain ⟨sl',e3⟩:=lv.slot b _ (toS hb) e2
  exact ⟨sl',e3⟩
 ·obtain ⟨o',e2⟩:=B.there b o e1 hx
  obtain ⟨z1,z2,z3⟩:=old_lt e1
  by_cases hS:b∈(envOfC qual scope s.heap.objs.size f cdv :: outer).filterMap (·.frame)
  ·obtain ⟨sl,e3⟩:=lv.slot b _ hS e2
   exact ⟨_,e3⟩
  ·exact ⟨o',lv.keep b o' hS z1 z2 e2⟩
 ·refine (I.hok b u e1).stay (fun c v hc hv=>kp c v (fun z=>?_) hv) (fun _ z=>z) fun _ _ z=>z
  rcases hc with y | y
  ·rw [y,e1] at z;cases z
  ·rw [y] at z;cases z
 ·exact Nat.ne_of_gt (Nat.lt_of_lt_of_le (Heap.lt_size h1) lv.ge)
 ·obtain ⟨oe',vs',y1,y2,y3,y4,y5⟩:=lv.exc
  exact ⟨oe',vs',y1,y2.trans h2,y3,y4,y5⟩
theorem Fun.okX {x qual:Str}{st:Stmt}{f:Addr}{fd:FuncData}{N ps:List Str}{k:Nat}{sp:Sp} (F:Fun K x qual st f fd) (S:FnScope N ps (defScope st)) (len:∀ vs H Q E,sp vs H Q E→vs.length=ps.length)
  (hbody:∀ (cdv:Value) (A:Around) (outer:List Env) (s:Shared) (H:Hp) (vs:List V) (Q:VK) (E:XK),Room k (A.deeper (envOfC qual (defScope st) s.heap.objs.size f cdv))→sp vs H Q E →
   ∃ t,PSs (cxOf (CX1 P w) P w K mg base N qual (defScope st) f cdv A outer s H E) (defBody st) t∧t { nx:=fun _ H'=>Q .non H',rt:=Q } (start N vs) H):FnOk P w K mg base (CX1 P w) (k+1) f fd ps sp:=by
 obtain ⟨oc,od,kV,doc,pm,an,cdv,ct,osl,rfl,lk,hcd⟩:=F.ex
 exact fn_of lk hcd S len fun A outer s H vs Q E hr hsp=>hbody cdv A outer s H vs Q E hr hsp
end
section
open PySem.W
theorem cls_in {K:Frag}{h:Heap}{C:Addr}{bmB:List Value}{newId:String} (X:K.In h) (q:excIn K C bmB newId=true):∃ bm N nm qn bs hdct sn sub ab col dd k0 k1 k2 k3 k5 mN,
  h.get? C=some (excClassObj nm qn C N bs bm hdct sn sub ab col dd k0 k1 k2 k3 k5 newId)∧h.Ns N mN∧mN "__init__" = none∧OwnTail h bmB bm:=by
 have hk:=q
 revert hk
 rw [excIn]
 intro hk
 cases hl:K.lookup C with
 | none=>rw [hl] at hk;cases hk
 | some ob =>
  obtain ⟨c,dd,dt,sl⟩:=ob
  rw [hl] at hk
  split at hk
  next dd' cd sl' he =>
   cases he
   split at hk
   next C' bm k0 k1 k2 k3 n k5 hm hs =>
    simp only [Bool.and_eq_true,beq_iff_eq,Bool.not_eq_true'] at hk
    obtain ⟨⟨⟨⟨⟨hc,hn⟩,hdel⟩,ht⟩,hok⟩,hni⟩:=hk
    cases cd
    cases sl
    simp only at hm hdel hok hni hs
    rw [hm,hdel,hs] at hl
    rw [hc,hn] at hl
    exact ⟨_,_,_,_,_,_,_,_,_,_,_,_,_,_,_,_,_,X _ _ hl,.of_isNs (isNs_of_in X hok),nsMap_none_of_in X hok hni,tail_of_in X ht⟩
   next=>cases hk
  next=>cases hk
end
def tRaise (C:Addr) (t:TA) (E:XK):TS:=fun _ σ H=>t σ H fun vs H1=>vs.length≤sizeLine∧∀ e,H1 e=none→E (.ref e) (some C) H1
theorem ps_raise {X:Cx}{E:XK}{C:Addr}{x:Str}{bmB:List Value}{B newId initId:String}{e:Expr}{es:List Expr}{t:TA}{np cpos pos:Pos} (F:ExcBaseFacts B newId initId bmB) (q:PySem.W.excIn X.K C bmB newId=true) (hbase:bmB.contains (.type "BaseException")=true)
  (hg:Gl X x) (hm:X.mg x=some (.ref C)) (hc:X.calm=true) (hx:XOk X E) (ha:PA X (e :: es) t) (hdb:(x == ("__debug__" : Str))=false:=by decide) (he:starEach (e :: es) X.env=(false,eval e X.env) :: starEach es X.env:=by rfl)
  (hpl:(backTo cpos (starEach (e :: es) X.env)).any (·.1)=false:=by rfl):PS X (.Raise (some (.Call (.Name x np) (e :: es) [] cpos)) none pos) (tRaise C t E):=by
 intro pins s σ H D I h
 obtain ⟨bm,N,nm,qn,bs,hdct,sn,sub,ab,col,dd,k0,k1,k2,k3,k5,mN,hC,hN,hni,T⟩:=cls_in I.ok.mod.kin q
 refine wpAny_Raise_call_subT (nm:=nm) (q:=qn) (N:=N) (bs:=bs) (hdct:=hdct) (sn:=sn) (sub:=sub) (ab:=ab) (col:=col) (dd:=dd) (k0:=k0) (k1:=k1) (k2:=k2) (k3:=k3) (k5:=k5) F (T.hasType hbase) (I.ok.hd hc) hpl hni (ld_glob I hg hm ⟨rfl,?_⟩ hdb)
 have a1:=ha cpos pins s σ H _ I h
 rw [he] at a1 ⊢
 refine Calls.evalArgs_plain (thn a1 fun us s1 ⟨vs,H1,I1,r,hz,q1⟩=>⟨rfl,?_,I1.bk _ _ hC,hN.keeps I1.bk,T.keeps I1.bk,fun h' e' hme=>?_⟩)
 ·show us.length≤_
  rw [← r.length];exact hz
 ·have I2:Inv X pins σ H1 { s1 with heap:=h' }:=I1.kept (t':=s1.toks) hme.keeps
  obtain ⟨tt,t1,t2,t3⟩:=hme.there
  exact hx pins σ H1 _ e' C I2 ⟨I1.flOk hme.new (I1.hok.unseen hme.new),_,_,[],t1,rfl,rfl,.inl ⟨rfl,rfl⟩,rfl,fun b hb=>absurd hb (by simp)⟩ (q1 e' (I1.hok.unseen hme.new))
def Cx.plus (X:Cx) (l:List Addr):Cx:={ X with ex:=l ++ X.ex }
section
variable {X:Cx}{pins:List (Addr × Obj)}{σ:St}{H:Hp}{s:Shared}{l:List Addr}
theorem unseen_base (I:Inv X pins σ H s) {b:Addr} (hb:X.s₀.heap.get? b=none) (o:Obj):X.base.get? b≠some o:=fun z=>by
 have:=(I.ok.bs b o z).1
 rw [hb] at this;cases this
theorem Inv.plus (I:Inv X pins σ H s) (h:∀ b∈l,FlOk X pins H b):Inv (X.plus l) pins σ H s:=by
 have K:=I.ok
 refine ⟨⟨K.mod,K.kind,K.glob,K.blt,K.above,K.inj,K.has,K.cab,K.hd,K.frames,K.stk,fun b hb=>?_,K.bs,K.bsz,fun b o e hb=>?_,fun b hb=>?_,K.funs,K.frf⟩,I.os,I.bare,?_,I.loc,I.cell,I.free,I.freeC,I.pin,I.hok,I.len⟩
 ·rcases List.mem_append.mp hb with z | z
  ·exact ⟨(h b z).2.1,(h b z).2.2.2.2.1⟩
  ·exact K.exf b z
 ·rcases List.mem_append.mp hb with z | z
  ·rcases (h b z).2.2.2.1 with y | y
   ·exact K.noex b o e y
   ·exact unseen_base I y o e
  ·exact K.noex b o e z
 ·rcases List.mem_append.mp hb with z | z
  ·exact (h b z).2.2.1
  ·exact K.exfs b z
 ·have no:∀ {b:Addr},b ∉ l ++ X.ex→b ∉ X.ex:=fun hb z=>hb (List.mem_append_right _ z)
  exact ⟨fun b o e n hb hx=>I.base.keep b o e n hb (no hx),fun b o e n hb hx=>I.base.slot b o e n hb (no hx),fun b o e n hx=>I.base.free b o e n (no hx),fun b o e hx=>I.base.there b o e (no hx),I.base.tups,I.base.frzs,I.base.tbls⟩
theorem Inv.minus (I:Inv (X.plus l) pins σ H s) (K:X.Ok) (h:∀ b∈l,b∈X.ex∨X.s₀.heap.get? b=none):Inv X pins σ H s:=by
 have no:∀ {b:Addr}{o:Obj},X.s₀.heap.get? b=some o→b ∉ X.ex→b ∉ l ++ X.ex:=fun {b o} e hb z=>by
  rcases List.mem_append.mp z with y | y
  ·rcases h b y with u | u
   ·exact hb u
   ·rw [u] at e;cases e
  ·exact hb y
 exact ⟨K,I.os,I.bare,⟨fun b o e n hb hx=>I.base.keep b o e n hb (no e hx),fun b o e n hb hx=>I.base.slot b o e n hb (no e hx),fun b o e n hx=>I.base.free b o e n (no e hx),fun b o e hx=>I.base.there b o e (no e hx),I.base.tups,I.base.frzs,I.base.tbls⟩,
  I.loc,I.cell,I.free,I.freeC,I.pin,I.hok,I.len⟩
theorem Inv.turn {h':Heap} (I:Inv X pins σ H s) (h:∀ b∈l,FlOk X pins H b)
  (keep:∀ b o,b ∉ frs X.stack→b ∉ l→s.heap.get? b=some o→h'.get? b=some o) (slot:∀ b o,b∈frs X.stack→s.heap.get? b=some o→∃ sl,h'.get? b=some { o with slots:=sl }):Inv X pins σ H { s with heap:=h' }:=by
 have I1:=I.plus h
 have st:∀ b,H b≠none→b ∉ frs X.stack∧b ∉ l:=fun b n=>⟨fun z=>n (I.stkFree b z),fun z=>n (h b z).1⟩
 have u:Un (frs X.stack) l H H s.heap h':=by
  refine ⟨fun b o e n hb hx=>keep b o hb hx e,fun b o e n hb hx=>slot b o hb e,fun b o e n hx=>n,fun b o e hx=>?_,fun _ _ e=>e,fun _ _ _ e=>e,fun b ps e=>⟨#[],by rw [e];simp⟩⟩
  by_cases hb:b∈frs X.stack
  ·obtain ⟨sl,q⟩:=slot b o hb e
   exact ⟨_,q⟩
  ·exact ⟨o,keep b o hb hx e⟩
 have hok:HOk X.prog X.w H h':=fun b u e1=>by
  refine (I.hok b u e1).stay (fun c v hc hv=>?_) (fun _ z=>z) fun _ _ z=>z
  have n:H c≠none:=fun z=>by
   rcases hc with y | y
   ·rw [y,e1] at z;cases z
   ·rw [y] at z;cases z
  exact keep c v (st c n).1 (st c n).2 hv
 exact Inv.minus (l:=l) (I1.call (g':=s.gens) (d':=s.drawn) (t':=s.toks) (ch:=l) u hok I.bare fun b hb=>⟨.inl (List.mem_append_left _ hb),(h b hb).2.1,(h b hb).2.2.2.2.1,(h b hb).2.2.2.2.2⟩) I.ok fun b hb=>(h b hb).2.2.2.1
structure Held (X:Cx) (pins:List (Addr × Obj)) (H:Hp) (e C T:Addr) (s:Shared):Prop where
 fe:FlOk X pins H e
 fT:FlOk X pins H T
 ne:T≠e
 exc:∃ oe vs,s.heap.get? e=some oe∧oe.cls=.ref C∧oe.data=.fields vs∧vs[1]? = some (.ref T)∧oe.dict=none
 tb:∃ oT ts,s.heap.get? T=some oT∧oT.data=.fields ts∧ts[3]? = some .none
theorem again {e C T:Addr}{Q:Unit→Shared→Prop}{A:Around} (I:Inv X pins σ H s) (hd:Held X pins H e C T s)
  (q:∀ h',Inv X pins σ H { s with heap:=h' }→Held X pins H e C T { s with heap:=h' }→Q () { s with heap:=h' }) {E:Value→Shared→Prop} :
  wpAny (model X.prog X.w) A (setFlight (.ref e) none) Q E s:=by
 obtain ⟨fe,fT,ne,⟨oe,vs,h1,h2,h3,h4,h5⟩,⟨oT,ts,t1,t2,t3⟩⟩:=hd
 unfold setFlight
 refine wpAny_bind (wpAny_field h1 h3 h4 ?_)
 rw [if_pos (show (Value.ref T != Value.none)=true by simp)]
 refine wpAny_setField t1 t2 (Array.getElem?_eq_some_iff.mp t3).1 ?_
 have d4:=Obj.data_mapFields t2 (·.setIfInBounds 3 ((none:Option Addr).elim Value.none fun f=>rawInt f))
 have ot:∀ b,b≠T→(s.heap.update T (Obj.mapFields (·.setIfInBounds 3 ((none:Option Addr).elim Value.none fun f=>rawInt f)))).get? b=s.heap.get? b:=fun b hb=>Heap.get?_update_other _ _ (Ne.symm hb)
 have notT:∀ b,b∈frs X.stack→b≠T:=fun b hb z=>by
  obtain ⟨_,o,ho,nf⟩:=I.stack.mem hb
  rw [z,t1] at ho;cases ho
  exact nf ts t2
 refine q _ (I.turn (l:=[T]) (fun b hb=>?_) (fun b o hb hl ho=>?_) fun b o hb ho=>?_) ⟨fe,fT,ne,⟨oe,vs,(ot e (Ne.symm ne)).trans h1,h2,h3,h4,h5⟩,⟨_,_,Heap.get?_update_self _ t1 (Obj.isFreed_of_fields d4),d4,?_⟩⟩
 ·rw [List.mem_singleton.mp hb];exact fT
 ·exact (ot b (fun z=>hl (by simp [z]))).trans ho
 ·exact ⟨o.slots,(ot b (notT b hb)).trans ho⟩
 ·simp [(Array.getElem?_eq_some_iff.mp t3).1]
end
def mroIn (K:PySem.W.Frag) (C:Addr):List Value:=match K.lookup C with
 | some ⟨_,_,.cls cd,_⟩=>cd.mro
 | _=>[]
section
open PySem.W
end
def Cx.tr (X:Cx) (pins:List (Addr × Obj)) (Ex:St→XK):Cx :=
 { X with pn:=X.pn ++ pins,xe:=fun er s=>∃ σ e C H,er=.ref e∧Inv X pins σ H s∧Fly X pins H e C s∧Ex σ (.ref e) (some C) H }
section
variable {X:Cx}{pins:List (Addr × Obj)}{σ:St}{H:Hp}{s:Shared}{e C T:Addr}{D:Ends}{f:Flow}{Ex:St→XK}
theorem Inv.tr (I:Inv X pins σ H s) (Ex:St→XK):Inv (X.tr pins Ex) [] σ H s :=
 ⟨⟨I.ok.mod,I.ok.kind,I.ok.glob,I.ok.blt,I.ok.above,I.ok.inj,I.ok.has,I.ok.cab,I.ok.hd,I.ok.frames,I.ok.stk,I.ok.exf,I.ok.bs,I.ok.bsz,I.ok.noex,I.ok.exfs,I.ok.funs,I.ok.frf⟩,I.os,I.bare,I.base,I.loc,I.cell,I.free,I.freeC,fun p hp=>I.pin p (by rw [List.append_nil] at hp;exact hp),I.hok,I.len⟩
def XOkS (X:Cx) (Ex:St→XK):Prop:=∀ (pins:List (Addr × Obj)) (σ:St) (H:Hp) (s:Shared) (e C:Addr),Inv X pins σ H s→Fly X pins H e C s→Ex σ (.ref e) (some C) H→X.xe (.ref e) s
theorem XOk.toS {E:XK} (h:XOk X E):XOkS X fun _=>E:=fun pins σ H s e C I fl q=>h pins σ H s e C I fl q
end
section
variable {X:Cx}{x:Str}{np pos:Pos}{Dc:Addr}{b₀:Stmt}{body:List Stmt}{rest:List ExceptHandler}{hd:Addr→Addr→TS}{ts:TS}
end
section
variable {X:Cx}{k:Nat}{f C:Addr}{fd:FuncData}{ps:List Str}{sp:Sp}{dvs:List V}{ds:List Value}{Ex:St→XK}{x m:Str}{p pos apos:Pos}{e o:Expr}{es:List Expr}{ta:TE}{t:TA}
end
def excAt (a C:Addr):Heap→Prop:=fun h=>∃ o vs,h.get? a=some o∧o.cls=.ref C∧o.data=.fields vs∧o.dict=none
def xo (a C:Addr):HO:=.ext (excAt a C)
section
variable {X:Cx}{pins:List (Addr × Obj)}{σ:St}{H:Hp}{s:Shared}{e C T:Addr}
theorem Inv.seen {oe:Obj} (I:Inv X pins σ H s) (fe:FlOk X pins H e) (ho:s.heap.get? e=some oe) (hc:oe.cls=.ref C) {vs:Array Value} (hf:oe.data=.fields vs) (hdn:oe.dict=none):Inv X pins σ (upd H e (xo e C)) s:=by
 have ne:∀ {b u},H b=some u→b≠e:=fun {b u} h z=>by rw [z,fe.1] at h;cases h
 have up:∀ {b u},H b=some u→upd H e (xo e C) b=some u:=fun {b u} h=>(upd_ne (ne h)).trans h
 refine ⟨I.ok,I.os,I.bare,⟨I.base.keep,I.base.slot,fun b o e1 n hx=>?_,I.base.there,fun b xs h=>up (I.base.tups b xs h),fun b o u h=>up (I.base.frzs b o u h),fun b ps h=>?_⟩,I.loc,I.cell,(upd_ne (Ne.symm fe.2.1)).trans I.free,fun x c h=>(upd_ne (fe.2.2.2.2.1 x c h)).trans (I.freeC x c h),fun p hp=>?_,fun b u h=>?_,I.len⟩
 ·refine (upd_ne fun z=>?_).trans (I.base.free b o e1 n hx)
  rcases fe.2.2.2.1 with y | y
  ·exact hx (z ▸ y)
  ·rw [z,y] at e1;cases e1
 ·obtain ⟨more,q⟩:=I.base.tbls b ps h
  exact ⟨more,up q⟩
 ·obtain ⟨a1,a2,a3⟩:=I.pin p hp
  exact ⟨a1,(upd_ne (fe.2.2.2.2.2 p hp)).trans a2,a3⟩
 ·by_cases hb:b=e
  ·rw [hb,upd_same] at h
   cases h
   rw [hb]
   exact ⟨⟨oe,vs,ho,hc,hf,hdn⟩,⟨oe,ho⟩,fun h1 h2 ⟨o,vs,p1,p2⟩ k=>⟨o,vs,k o p1,p2⟩⟩
  ·rw [upd_ne hb] at h
   exact (I.hok b u h).stay (fun c v _ q=>q) (fun c q=>up q) fun c xs q=>up q
end
def exq (K:PySem.W.Frag) (C:Addr):Bool :=
 (PySem.W.clsIn K C).isSome && PySem.W.findIn K (.ref C) "__getattribute__" == some (some (.builtin "BaseException.__getattribute__")) && PySem.W.findIn K (.ref C) "__getattr__" == some none
 && PySem.W.findIn K (.ref C) "__class__" == some (some (.builtin "object.__class__")) && PySem.W.specialIn K (.builtin "object.__class__") "__get__" == some (some (.builtin "getset_descriptor.__get__"))
 && PySem.W.takesIn K (.builtin "object.__class__") == some true && PySem.W.mroIn K C (.type "object") == some true && PySem.W.mroIn K C (.type "BaseException") == some true
section
open PySem.W PySem.Calls
variable {prog:Program}{w:World}{A:Around}{E:Value→Shared→Prop}{s:Shared}{K:Frag}{a C:Addr}
end
structure RoomM (k:Nat) (A:Around):Prop where
 dp:A.depth+3 * k+5<recursionLimit
 un:A.units+16 * k+200<cLine
theorem Room.m {k:Nat}{A:Around} (r:Room k A):RoomM k A:=⟨r.dp,r.un⟩
structure FnOkM (P:Program) (w:World) (K:PySem.W.Frag) (mg:Str→Option Value) (base:Heap) (CX:CXT) (k:Nat) (f:Addr) (fd:FuncData) (ps:List Str) (sp:Sp):Prop where
 len:∀ vs H Q E,sp vs H Q E→vs.length=ps.length
 run:∀ (A:Around) (outer:List Env) (s:Shared) (H:Hp) (args:Args) (us:List Value) (vs:List V) (Q:VK) (E:XK),RoomM k A→Env0 P w K mg base A outer s H→BindsTo s fd args (ps.zip us)→Vals vs us→sp vs H Q E →
  codeAny (model P w) A (.call (.ref f) args) (CR CX outer P w H s Q E) s
section
variable {X:Cx}{CX:CXT}{k:Nat}{f C:Addr}{fd:FuncData}{ps:List Str}{sp:Sp}{dvs:List V}{ds:List Value}{E:XK}{x m:Str}{p pos apos:Pos}{e o:Expr}{es:List Expr}{ta:TE}{t:TA}
end
theorem passF {P:Program}{w:World}{K:PySem.W.Frag}{mg:Str→Option Value}{base:Heap}{N:List Str}{qual:Str}{scope:Scope}{f:Addr}{cdv:Value}{A:Around}{outer:List Env}{s:Shared}{H:Hp}{E:XK} :
  PassesOwn (model (cxOf (CX1 P w) P w K mg base N qual scope f cdv A outer s H E).prog (cxOf (CX1 P w) P w K mg base N qual scope f cdv A outer s H E).w) (cxOf (CX1 P w) P w K mg base N qual scope f cdv A outer s H E).A (cxOf (CX1 P w) P w K mg base N qual scope f cdv A outer s H E).env (cxOf (CX1 P w) P w K mg base N qual scope f cdv A outer s H E).xe:=fun _ _ h=>wpAny_leaving_again (SameStack.refl _) h
section
variable {X:Cx}{k:Nat}{f C:Addr}{fd:FuncData}{ps:List Str}{sp:Sp}{dvs:List V}{ds:List Value}{Ex:St→XK}{x:Str}{p pos:Pos}{e:Expr}{es:List Expr}{t:TA}
end
end L2
set_option maxHeartbeats 4000000
namespace DT
open PySem
section
variable {prog:Program}{w:World}{A:Around}{E:Value→Shared→Prop}{s:Shared}{d it:Addr}{od:Obj}{es:Array DictEntry}{ep i:Nat}
end
end DT
namespace L2
open PySem PySem.Spec PyProof.Rows
section
variable {X:Cx}{pins:List (Addr × Obj)}{σ:St}{H:Hp}{s:Shared}{d:Addr}{kvs:List (List Key × V)}{o:Obj}
theorem Inv.dT (I:Inv X pins σ H s) (e:Rd H d (.dT kvs)):kvs.length≤sizeLine∧(d == sysModules)=false∧∃ (xs:List (List Key × Addr × Value)) (od:Obj) (es:Array DictEntry) (ep:Nat),KT H kvs xs∧s.heap.get? d=some od∧od.ExactDict∧od.data=.dict es ep∧es.size=kvs.length ∧
  ∀ (i:Nat) p,kvs[i]? = some p→∃ (b:Addr) (h:Int) (v:Value),es[i]? = some ⟨h,.ref b,v⟩∧H b=some (.tup (p.1.map kV)):=by
 obtain ⟨z,y,xs,r,od,es,ep,h1,h2,h3,h4,h5⟩:=(show ObjOk X.prog X.w H s.heap d (.dT kvs) from rd_of I.hok e)
 have hl:kvs.length=xs.length:=Paired.length r
 have hs:es.size=kvs.length:=by rw [hl,← Array.length_toList,h4,List.length_map]
 refine ⟨z,y,xs,od,es,ep,r,h1,h2,h3,hs,fun i p hp=>?_⟩
 have at_:∀ {l:List (List Key × V)}{m:List (List Key × Addr × Value)}{j:Nat}{q:List Key × V},KT H l m→l[j]? = some q→∃ x,m[j]? = some x∧H x.2.1=some (.tup (q.1.map kV)):=by
  intro l m j q t
  induction t generalizing j with
  | nil=>intro z;simp at z
  | @cons a b as bs hq _ ih =>
   intro z
   cases j with
   | zero =>
    have:a=q:=by simpa using z
    subst this
    exact ⟨b,rfl,hq.2.1⟩
   | succ j=>exact ih (by simpa using z)
 obtain ⟨x,hx,hH⟩:=at_ r hp
 have:es[i]? = some (entryOfKey (tupleKind (mixKind X.prog X.w)) x):=by rw [← Array.getElem?_toList,h4,List.getElem?_map,hx];rfl
 exact ⟨x.2.1,_,_,this,hH⟩
end
section
variable {X:Cx}{pins:List (Addr × Obj)}{σ:St}{H:Hp}{s:Shared}
theorem FpOk.fl {b:Addr} (h:FpOk X pins H b):FlOk X pins H b:=⟨h.1,h.2.1,h.2.2.1,h.2.2.2.1.imp id fun z=>by
 cases e:X.s₀.heap.get? b with
 | none=>rfl
 | some o=>exact absurd (Heap.lt_size e) (Nat.not_lt.mpr z),h.2.2.2.2.1,h.2.2.2.2.2⟩
end
def Itdn (hi:Int) (n:Nat):It:=⟨fun i _=>i<n,fun i H x H'=>H'=H∧x=.int (hi - i),fun i _=>n≤i⟩
theorem turn_down {P:Program}{w:World}{K:PySem.W.Frag}{tg:Expr} (it:Addr) (hi:Int) (n:Nat):Turn P w K tg (Itdn hi n) [it] it (fun i h=>IsRangeIter h it (hi+(i:Nat) * (-1)) ((n:Int) - (i:Nat)) (-1)) where
 mem:=by simp
 obj:=fun i h st b hb=>by
  have e:b=it:=by simpa using hb
  subst e
  exact ⟨_,st,fun v z=>by
   have z':Data.fields _=Data.cell v:=z
   cases z'⟩
 keep:=fun i h h' st k=>k it (by simp) _ st
 item:=by
  intro X hP hw hK hc i pins s σ H E I hf st hg
  subst hP hw hK
  obtain ⟨f0,f1,f2,f3,f4,f5⟩:=hf it (by simp)
  have W:=Walks.range (prog:=X.prog) (w:=X.w) (I.ok.hd hc) it hi (-1) n
  refine W.item i s _ _ hg st fun v h' tk hv st' kk=>?_
  obtain ⟨t,rfl⟩:=hv
  have I1:Inv X pins σ H { s with heap:=h',toks:=tk }:=I.turned (fun b o hb e=>kk b o (by simpa using hb) e) f0 f1 f3 f4 f5
  refine ⟨_,rfl,go_of (s:={ s with heap:=h',toks:=tk }) (n:="range_iterator") st' rfl rfl (by decide) ⟨.int (hi - i),H,I1,⟨t,?_⟩,⟨rfl,rfl⟩,st',fun b hb=>(hf b hb).1⟩⟩
  congr 1
  omega
 done:=by
  intro X hP hw hK hc i pins s σ H E I hf st hg
  subst hP hw hK
  obtain ⟨f0,f1,f2,f3,f4,f5⟩:=hf it (by simp)
  exact wpAny_pyNext_range_end (I.ok.hd hc) st (by have:n≤i:=hg;omega) fun h' eb=>⟨rfl,I.turned (t':=s.toks) (fun b o hb e=>eb b o hb e) f0 f1 f3 f4 f5⟩
 self:=fun _ _ _ _ _ st h=>wpAny_pyIter_rangeiter st h
theorem fitsL {a:Int} (h1 : -(2 ^ 63)≤a) (h2:a<2 ^ 63):Builtin.Range.rangeFitsLong a=true:=by
 unfold Builtin.Range.rangeFitsLong
 simp
 omega
theorem small_down {a b:Int} (h1 : -(2 ^ 62)≤a) (h2:a<2 ^ 62) (h3 : -(2 ^ 62)≤b) (h4:b<2 ^ 62):Builtin.Range.small a b (-1)=true:=by
 unfold Builtin.Range.small
 rw [PySem.W.rangeSize_downNat,fitsL (by omega) (by omega),fitsL (by omega) (by omega),fitsL (by decide) (by decide),fitsL (a:=((a - b).toNat:Int)) (by omega) (by omega),if_neg (by decide),fitsL (a:=b+(-1+1)) (by omega) (by omega)]
 simp
section
variable {X:Cx}{tg:Expr}
def iRngD (ta:TA):TI:=fun σ H R=>ta σ H fun vs H1=>∃ i j:Int,vs=[.int i,.int j,.int (-1)]∧(-(2 ^ 62)≤i∧i<2 ^ 62 ∧ -(2 ^ 62)≤j∧j<2 ^ 62)∧R (Itdn i (i - j).toNat) H1
theorem pi_rangeD {a b c:Expr}{ta:TA}{p pos:Pos} (hg:Gl X "range") (hm:X.mg "range" = none) (ha:PA X [a,b,c] ta) (hs:starEach [a,b,c] X.env=[(false,eval a X.env),(false,eval b X.env),(false,eval c X.env)]:=by rfl) (hs2:starEach [b,c] X.env=[(false,eval b X.env),(false,eval c X.env)]:=by rfl) :
  PI X tg (.Call (.Name "range" p) [a,b,c] [] pos) (iRngD ta):=by
 intro pins s σ H R I h
 refine Call_ (ld_blt I hg hm boot_range (PyProof.Rows.callWith_type1 (thn (ha pos pins s σ H _ I h) fun us s1 ⟨vs,H1,I1,r1,q1⟩=>?_) (by rw [hs,hs2]) (by rw [hs2];rfl)))
 obtain ⟨lo,hi,e,⟨q1,q2,q3,q4⟩,q⟩:=q1
 subst e
 cases r1 with
 | cons r rr =>
 cases rr with
 | cons r' rr =>
 cases rr with
 | cons r'' rr =>
 cases rr
 obtain ⟨t,rfl⟩:=r
 obtain ⟨u,rfl⟩:=r'
 obtain ⟨v,rfl⟩:=r''
 refine call_range_3 (by decide) ?_ (.inl (by unfold Builtin.divisionGoesByPylong;simp;intro z;exact absurd z (by decide)))
 refine wpAny_pyIter_range (IsRange.new ..) (small_down q1 q2 q3 q4) ?_
 have I2:Inv X pins σ H1 { s1 with heap:=s1.heap.push { cls:=.type "range",data:=.fields #[.int lo t,.int hi u,.int (-1) v] },toks:=s1.toks }:=I1.kept fun b o e=>Heap.get?_push_of_some _ e
 refine ⟨(s1.heap.push { cls:=.type "range",data:=.fields #[.int lo t,.int hi u,.int (-1) v] }).objs.size,[(s1.heap.push { cls:=.type "range",data:=.fields #[.int lo t,.int hi u,.int (-1) v] }).objs.size],_,_,H1,rfl,
  I2.kept (t':=s1.toks) fun b o e=>Heap.get?_push_of_some _ e,turn_down _ lo (lo - hi).toNat,?_,fun b hb=>?_,q⟩
 ·show IsRangeIter _ _ (lo+((0:Nat):Int) * (-1)) ((((lo - hi).toNat:Nat):Int) - ((0:Nat):Int)) (-1)
  rw [PySem.W.rangeSize_downNat,show lo+((0:Nat):Int) * (-1)=lo by omega,show ((((lo - hi).toNat:Nat):Int) - ((0:Nat):Int))=((lo - hi).toNat:Int) by omega]
  exact Heap.get?_push_size _ rfl
 ·have e:b=(s1.heap.push { cls:=.type "range",data:=.fields #[.int lo t,.int hi u,.int (-1) v] }).objs.size:=by simpa using hb
  subst e
  exact I2.fpOk (Nat.le_refl _) (I2.hok.fresh (Nat.le_refl _))
end
end L2
set_option maxHeartbeats 4000000
namespace RR
open PySem
section
variable {prog:Program}{w:World}{A:Around}{E:Value→Shared→Prop}{s:Shared}
end
end RR
namespace L2
open PySem PySem.Spec PyProof.Rows
section
variable {X:Cx}{tg:Expr}
end
section
variable {K:PySem.W.Frag}{ta:TA}{g:TG}{tb:TS}{D:Ends}{σ:St}{H:Hp}
theorem tFor_rngD:tFor (iRngD ta) g tb D σ H=ta σ H (fun vs H1=>∃ i j:Int,vs=[.int i,.int j,.int (-1)]∧(-(2 ^ 62)≤i∧i<2 ^ 62 ∧ -(2 ^ 62)≤j∧j<2 ^ 62)∧ForGoal (Itdn i (i - j).toNat) g tb D σ H1):=rfl
theorem for_dnG {hi:Int}{n:Nat} (Pv:Nat→St→Hp→Prop) (h0:Pv 0 σ H) (hs:∀ (i:Nat) σ H,i<n→Pv i σ H→g (.int (hi - i)) σ H fun σ2 H2=>tb { D with nx:=Pv (i+1),ct:=Pv (i+1),bk:=D.nx } σ2 H2) (hd:∀ σ H,Pv n σ H→D.nx σ H):ForGoal (Itdn hi n) g tb D σ H:=by
 refine ⟨fun i m σ H=>i+m=n∧Pv i σ H,⟨n,by omega,h0⟩,fun i m σ H ⟨hm,hp⟩=>?_⟩
 by_cases hi':i<n
 ·refine .inr ⟨hi',Pv (i+1),fun σ' H' h=>⟨m - 1,by omega,by omega,h⟩,fun x H' ⟨e1,e2⟩=>?_⟩
  subst e1 e2
  exact hs i σ _ hi' hp
 ·have:i=n:=by omega
  subst this
  exact .inl ⟨Nat.le_refl _,hd σ H hp⟩
end
def cMulL:R2:=fun x y H Q=>match x,y with
 | .ref l,.int k=>∃ xs,H l=some (.lst xs) ∧ -(2 ^ 63)≤k∧k<2 ^ 63∧xs.length * k.toNat≤sizeLine∧∀ p H',New H p (.lst (List.replicate k.toNat xs).flatten) H'→Q (.ref p) H'
 | _,_=>False
theorem o_mulL {X:Cx}:OpR X (binaryOp .Mult) cMulL:=op_rep.imp fun x y H Q h=>by
  cases x <;> cases y <;> first
    | exact False.elim h
    | (obtain ⟨xs,h1,h2,h3,h4,q⟩:=h
       exact ⟨_,_,xs,rfl,rfl,h1,h2,h3,h4,fun p hp=>q p _ ⟨hp,rfl⟩⟩)
theorem rep_one (v:V) (n:Nat):(List.replicate n [v]).flatten=List.replicate n v:=by
 induction n with
 | zero=>rfl
 | succ n ih=>rw [List.replicate_succ,List.flatten_cons,ih,List.replicate_succ];rfl
end L2
set_option maxHeartbeats 4000000
namespace RV
open PySem
section
variable {prog:Program}{w:World}{A:Around}{E:Value→Shared→Prop}{s:Shared}
end
end RV
namespace L2
open PySem PySem.Spec PyProof.Rows
end L2
set_option maxHeartbeats 4000000
namespace L2
open PySem PySem.Spec PyProof.Rows PySem.W
end L2
set_option maxRecDepth 20000
namespace L2
open PySem PySem.Spec PyProof.Rows
variable {X:Cx}
theorem pair_eqAt {pins:List (Addr × Obj)}{σ:St}{H:Hp}{s:Shared}{A:Around}{p q:Addr}{x y:MF.Pr} (I:Inv X pins σ H s) (hu:A.units+2<cLine)
  (h1:H p=some (.tup [.int x.1,.int x.2])) (h2:H q=some (.tup [.int y.1,.int y.2])):SeqAt.EqAt A s (.ref p) (.ref q) (decide (x=y)):=by
 obtain ⟨x1,x2⟩:=x
 obtain ⟨y1,y2⟩:=y
 by_cases e:p=q
 ·subst e
  rw [h1] at h2
  have:(x1,x2)=(y1,y2):=by
   have:=Option.some.inj h2
   simp only [HO.tup.injEq,List.cons.injEq,V.int.injEq,and_true] at this
   rw [this.1,this.2]
  rw [decide_eq_true this]
  exact SeqAt.EqAt.same _
 ·obtain ⟨its,r1,p1,_⟩:=I.tuple (show SqT X.K H p [.int x1,.int x2] from .of h1)
  obtain ⟨its2,r2,p2,_⟩:=I.tuple (show SqT X.K H q [.int y1,.int y2] from .of h2)
  have l1:its.toArray.size=2:=by rw [List.size_toArray];exact r1.length.symm
  have l2:its2.toArray.size=2:=by rw [List.size_toArray];exact r2.length.symm
  have z:decide ((x1,x2)=(y1,y2))=((List.range (min its.toArray.size its2.toArray.size)).all (fun i=>eqV (([.int x1,.int x2]:List V).getD i .non) (([.int y1,.int y2]:List V).getD i .non)) && its.toArray.size == its2.toArray.size):=by
   rw [l1,l2]
   by_cases a:x1=y1 <;> by_cases b:x2=y2 <;> simp [a,b,eqV,List.range,List.range.loop]
  rw [z]
  exact SeqAt.EqAt.of_refs e (SeqAt.RcAt.tuples p1 p2 (by omega) (eqVs_range r1 r2 rfl rfl _ _))
def eqP (H:Hp) (q:MF.Pr) (v:Value):Bool:=match v with
 | .ref a=>match H a with
  | some (.tup [.int i,.int j])=>decide ((i,j)=q)
  | _=>false
 | _=>false
theorem eqP_of {H:Hp}{q:MF.Pr}{e:En} (h:H e.1=some (.tup [.int e.2.1,.int e.2.2])):eqP H q (.ref e.1)=decide (e.2=q):=by
 unfold eqP
 simp only [h]
structure PL (H:Hp) (p:Addr) (es:List En):Prop where
 lst:H p=some (.lst (es.map fun e=>V.ref e.1))
 tup:∀ e∈es,H e.1=some (.tup [.int e.2.1,.int e.2.2])
theorem PL.same {H H':Hp}{p:Addr}{es:List En} (h:PL H p es) (s:Same H H'):PL H' p es:=⟨s _ _ h.lst,fun e he=>s _ _ (h.tup e he)⟩
theorem PL.un {H H':Hp}{p pl kl:Addr}{es:List En}{xs:List V}{kv:List (List Key × V)} (h:PL H p es) (hp:H pl=some (.lst xs)) (hk:H kl=some (.dT kv)) (n:p≠pl) (u:Un2 pl kl H H'):PL H' p es :=
 ⟨u _ _ n (ne_of h.lst hk (fun z=>nomatch z)) h.lst,fun e he=>u _ _ (ne_of (h.tup e he) hp (fun z=>nomatch z)) (ne_of (h.tup e he) hk (fun z=>nomatch z)) (h.tup e he)⟩
theorem PL.put {H:Hp}{p tp:Addr}{es:List En}{q:MF.Pr} (h:PL H p es) (ht:H tp=some (.tup [.int q.1,.int q.2])):PL (upd H p (.lst ((es.map fun e=>V.ref e.1) ++ [.ref tp]))) p (es ++ [(tp,q)]):=by
 have nt:∀ {b:Addr}{ys:List V},H b=some (.tup ys)→b≠p:=fun e=>ne_of e h.lst (fun z=>nomatch z)
 refine ⟨by rw [upd_same,List.map_append];rfl,fun e he=>?_⟩
 rcases List.mem_append.mp he with he | he
 ·rw [upd_ne (nt (h.tup e he))];exact h.tup e he
 ·rw [List.mem_singleton] at he
  subst he
  rw [upd_ne (nt ht)];exact ht
theorem vals_pl:∀ {es:List En}{its:List Value},Vals (es.map fun e=>V.ref e.1) its→its=es.map fun e=>Value.ref e.1
 | [],_,.nil=>rfl
 | e :: r,_,.cons h t=>by
  cases h
  rw [vals_pl t]
  rfl
theorem any_eqP {H:Hp}{q:MF.Pr}:∀ {es:List En},(∀ e∈es,H e.1=some (.tup [.int e.2.1,.int e.2.2]))→((es.map fun e=>Value.ref e.1).any (eqP H q))=decide (q∈psOf es)
 | [],_=>by simp
 | e :: r,h=>by
  rw [List.map_cons,List.any_cons,any_eqP fun e' he=>h e' (List.mem_cons_of_mem _ he),eqP_of (h e (List.mem_cons_self ..))]
  by_cases a:e.2=q
  ·rw [decide_eq_true a,Bool.true_or,decide_eq_true]
   exact a ▸ List.mem_cons_self ..
  ·rw [decide_eq_false a,Bool.false_or,decide_eq_decide]
   show _ ↔ q∈e.2 :: psOf r
   rw [List.mem_cons]
   exact ⟨.inr,fun z=>z.resolve_left fun w=>a w.symm⟩
end L2
set_option maxRecDepth 20000
namespace L2
open PySem PySem.Spec PyProof.Rows
variable {X:Cx}
structure PN (H:Hp) (p:Addr) (n:Nat) (es:List En):Prop where
 lst:H p=some (.lst (List.replicate n V.non ++ es.map fun e=>V.ref e.1))
 tup:∀ e∈es,H e.1=some (.tup [.int e.2.1,.int e.2.2])
theorem PN.same {H H':Hp}{p:Addr}{n:Nat}{es:List En} (h:PN H p n es) (s:Same H H'):PN H' p n es:=⟨s _ _ h.lst,fun e he=>s _ _ (h.tup e he)⟩
theorem PN.un {H H':Hp}{p pl kl:Addr}{n:Nat}{es:List En}{xs:List V}{kv:List (List Key × V)} (h:PN H p n es) (hp:H pl=some (.lst xs)) (hk:H kl=some (.dT kv)) (ne:p≠pl) (u:Un2 pl kl H H'):PN H' p n es :=
 ⟨u _ _ ne (ne_of h.lst hk (fun z=>nomatch z)) h.lst,fun e he=>u _ _ (ne_of (h.tup e he) hp (fun z=>nomatch z)) (ne_of (h.tup e he) hk (fun z=>nomatch z)) (h.tup e he)⟩
theorem PN.put {H:Hp}{p tp:Addr}{n:Nat}{es:List En}{q:MF.Pr} (h:PN H p n es) (ht:H tp=some (.tup [.int q.1,.int q.2])):PN (upd H p (.lst ((List.replicate n V.non ++ es.map fun e=>V.ref e.1) ++ [.ref tp]))) p n (es ++ [(tp,q)]):=by
 have nt:∀ {b:Addr}{ys:List V},H b=some (.tup ys)→b≠p:=fun e=>ne_of e h.lst (fun z=>nomatch z)
 refine ⟨by rw [upd_same,List.map_append,List.append_assoc];rfl,fun e he=>?_⟩
 rcases List.mem_append.mp he with he | he
 ·rw [upd_ne (nt (h.tup e he))];exact h.tup e he
 ·rw [List.mem_singleton] at he
  subst he
  rw [upd_ne (nt ht)];exact ht
theorem vals_pn:∀ {n:Nat}{es:List En}{its:List Value},Vals (List.replicate n V.non ++ es.map fun e=>V.ref e.1) its→its=List.replicate n Value.none ++ es.map fun e=>Value.ref e.1
 | 0,_,_,h=>vals_pl h
 | n+1,es,_,.cons h t=>by
  cases h
  rw [vals_pn t]
  rfl
theorem eqP_none {H:Hp}{q:MF.Pr}:eqP H q .none=false:=rfl
theorem any_eqN {H:Hp}{q:MF.Pr}{n:Nat}{es:List En} (h:∀ e∈es,H e.1=some (.tup [.int e.2.1,.int e.2.2])):((List.replicate n Value.none ++ es.map fun e=>Value.ref e.1).any (eqP H q))=decide (q∈psOf es):=by
 rw [List.any_append,any_eqP h]
 have:(List.replicate n Value.none).any (eqP H q)=false:=by
  rw [List.any_eq_false]
  intro x hx
  rw [(List.mem_replicate.mp hx).2,eqP_none]
  simp
 rw [this,Bool.false_or]
theorem mem_eqN {pins:List (Addr × Obj)}{σ:St}{H:Hp}{s:Shared}{A:Around}{t:Addr}{q:MF.Pr}{n:Nat}{es:List En} (I:Inv X pins σ H s) (hu:A.units+2<cLine) (ht:H t=some (.tup [.int q.1,.int q.2]))
  (h:∀ e∈es,H e.1=some (.tup [.int e.2.1,.int e.2.2])):∀ y,y∈(List.replicate n Value.none ++ es.map fun e=>Value.ref e.1).toArray→SeqAt.EqAt A s y (.ref t) (eqP H q y):=by
 intro y hy
 have hy':y∈List.replicate n Value.none ++ es.map fun e=>Value.ref e.1:=by simpa using hy
 rcases List.mem_append.mp hy' with hy' | hy'
 ·rw [(List.mem_replicate.mp hy').2,eqP_none]
  obtain ⟨its,r1,p1,_⟩:=I.tuple (show SqT X.K H t _ from .of ht)
  exact SeqAt.EqAt.none_tuple p1 (by omega)
 ·obtain ⟨e,he,rfl⟩:=List.mem_map.mp hy'
  rw [eqP_of (h e he)]
  exact pair_eqAt I hu (h e he) ht
def cInN (_:PySem.W.Frag) (neg:Bool):R2:=fun x y H Q=>match x,y with
 | .ref t,.ref p=>∃ (n:Nat) (es:List En) (q:MF.Pr),H t=some (.tup [.int q.1,.int q.2])∧PN H p n es∧Q (.bl (if neg then !decide (q∈psOf es) else decide (q∈psOf es))) H
 | _,_=>False
theorem o_notinN (hu:X.A.units+8<cLine):OpR X (compareOp .NotIn) (cInN X.K true):=by
 intro pins s σ H x y v u Q I rx ry h
 have hu':X.A.in1.units+2<cLine:=by have e:X.A.in1.units=X.A.units+1:=rfl;omega
 match x,y,h with
 | .ref t,.ref p,⟨n,es,q,h1,h2,k⟩ =>
  cases rx;cases ry
  obtain ⟨its,r,pl,hz⟩:=I.list (show SqL X.K H p _ from .of h2.lst)
  have e:=vals_pn r
  subst e
  refine SeqAt.notIn_listAt (eqP H q) pl.isList (mem_eqN I hu' h1 h2.tup) ⟨.bl _,H,I,rfl,?_⟩
  rw [show (List.replicate n Value.none ++ es.map fun e=>Value.ref e.1).toArray.any (eqP H q)=(List.replicate n Value.none ++ es.map fun e=>Value.ref e.1).any (eqP H q) from List.any_toArray ..,any_eqN h2.tup]
  exact k
def rIndexN:V→List V→Hp→VK→Prop:=fun x vs H Q=>match x,vs with
 | .ref l,[.ref t]=>∃ (n:Nat) (es:List En) (q:MF.Pr) (j:Nat),PN H l n es∧H t=some (.tup [.int q.1,.int q.2])∧(psOf es)[j]? = some q∧(∀ i,i<j→(psOf es)[i]? ≠ some q)∧Q (.int (n+j:Nat)) H
 | _,_=>False
theorem mt_indexN (hu:X.A.units+8<cLine):MtR X "list.index" rIndexN:=by
 intro pins s σ H x vs v us Q I rx rv h
 have hu':X.A.in1.units+2<cLine:=by have e:X.A.in1.units=X.A.units+1:=rfl;omega
 match x,vs,h with
 | .ref l,[.ref t],⟨m,es,q,j,h1,h2,h3,h4,k⟩ =>
  cases rx
  obtain ⟨u,rfl,ru⟩:=vals1 rv
  cases ru
  obtain ⟨z,its,n,r,hl,e⟩:=I.lstM h1.lst
  have e':=vals_pn r
  subst e'
  have hj:j<es.length:=by
   rcases Nat.lt_or_ge j es.length with w | w
   ·exact w
   ·rw [List.getElem?_eq_none (by rw [List.length_map];exact w)] at h3;cases h3
  have sz:(List.replicate m Value.none ++ es.map fun e=>Value.ref e.1).toArray.size=m+es.length:=by simp
  have at_:∀ i (hm:i<(List.replicate m Value.none ++ es.map fun e=>Value.ref e.1).toArray.size),eqP H q (List.replicate m Value.none ++ es.map fun e=>Value.ref e.1).toArray[i]=decide (m≤i∧(psOf es)[i - m]? = some q):=by
   intro i hm
   have hm':i<m+es.length:=by rw [sz] at hm;exact hm
   by_cases hi:i<m
   ·have e1:(List.replicate m Value.none ++ es.map fun e=>Value.ref e.1).toArray[i]=.none:=by
     rw [List.getElem_toArray,List.getElem_append_left (by rw [List.length_replicate];exact hi),List.getElem_replicate]
    rw [e1,eqP_none,decide_eq_false (by omega)]
   ·have hi':i - m<es.length:=by omega
    have e1:(List.replicate m Value.none ++ es.map fun e=>Value.ref e.1).toArray[i]=.ref (es[i - m]).1:=by
     rw [List.getElem_toArray,List.getElem_append_right (by rw [List.length_replicate];omega)]
     simp
    rw [e1,eqP_of (h1.tup _ (List.getElem_mem hi')),decide_eq_decide,List.getElem?_map,List.getElem?_eq_getElem hi']
    simp
    exact fun _=>by omega
  refine call_meets PySem.F.slot_list_index ⟨_,e,rfl⟩ PySem.F.entry_list_index (PySem.F.args_list_index_2 _ _)
   (SeqAt.list_indexAt l _ n none #[] (.ref t) (eqP H q) (m+j) (by rw [sz];omega) ?_ ?_ ?_) ⟨e,mem_eqN I hu' h2 h1.tup,⟨.int (m+j:Nat),H,I.tok _,⟨_,rfl⟩,k⟩⟩
  ·rw [List.length_append,List.length_replicate,List.length_map] at z
   have:sizeLine<2 ^ 62:=by decide
   omega
  ·rw [at_];exact decide_eq_true ⟨by omega,by rw [show m+j - m=j by omega];exact h3⟩
  ·intro i hi hlt
   rw [at_];exact decide_eq_false fun ⟨a,b⟩=>h4 (i - m) (by omega) b
end L2
set_option maxHeartbeats 4000000
namespace DT
open PySem
end DT
namespace L2
open PySem PySem.Spec PyProof.Rows
theorem paired_get {α β:Type}{F:α→β→Prop}:∀ {l:List α}{m:List β},Paired F l m→∀ {i:Nat}{q:β},m[i]? = some q→∃ p,l[i]? = some p∧F p q
 | _,_,.nil,i,q,h=>by simp at h
 | _,_,.cons h t,0,q,e=>by
  rw [List.getElem?_cons_zero] at e
  cases e
  exact ⟨_,rfl,h⟩
 | _,_,.cons h t,i+1,q,e=>by
  rw [List.getElem?_cons_succ] at e
  obtain ⟨p,a,b⟩:=paired_get t e
  exact ⟨p,by rw [List.getElem?_cons_succ];exact a,b⟩
def KeysAt (H:Hp) (kvs:List (List Key × V)) (bs:List Addr):Prop:=bs.length=kvs.length∧∀ (i:Nat) (p:List Key × V),kvs[i]? = some p→∃ b,bs[i]? = some b∧H b=some (.tup (p.1.map kV))
def cListT (_:PySem.W.Frag):List V→Hp→VK→Prop:=fun vs H Q=>match vs with
 | [.ref p]=>∃ kvs,Rd H p (.dT kvs)∧∀ bs l H',KeysAt H kvs bs→New H l (.lst (bs.map V.ref)) H'→Q (.ref l) H'
 | _=>False
def cListK (_:PySem.W.Frag):List V→Hp→VK→Prop:=fun vs H Q=>match vs with
 | [.ref p]=>∃ kvs,Rd H p (.dK kvs)∧∀ l H',New H l (.lst (kvs.map fun kv=>kV kv.1)) H'→Q (.ref l) H'
 | _=>False
theorem is_kV {P:Program}{w:World}{k:Key}{u:Value} (r:(mixKind P w).is k u=true):RelV (kV k) u:=by
 rcases keyIs_shape r with ⟨i,t,rfl,rfl⟩ | ⟨x,t,rfl,rfl⟩
 ·exact ⟨t,rfl⟩
 ·exact ⟨t,rfl⟩
theorem c_listK {X:Cx} (hc:X.calm=true):CallR X (.type "list") (cListK X.K):=by
 intro pins s σ H xs us Q I r h
 match xs,h with
 | [.ref p],h =>
  obtain ⟨kvs,e,q⟩:=h
  obtain ⟨u1,rfl,e1⟩:=vals1 r
  cases e1
  obtain ⟨z,y,vs,rel,dd⟩:=dk_rd I.hok e
  obtain ⟨ep,hat⟩:=dd.dictAt
  have hlen:=rel.length
  refine PySem.W.kdl_call (PySem.W.kdl_dict (knd:=mixKind X.prog X.w) (kvs:=vs) (ep:=ep) y) (I.ok.hd hc) hat (by omega) fun h' tk acc c kp hl ⟨ha,hb⟩=>?_
  have key:∀ n,n≤kvs.length→Vals ((kvs.take n).map fun kv=>kV kv.1) (acc.toList.take n):=by
   intro n
   induction n with
   | zero=>intro _;rw [List.take_zero,List.take_zero];exact .nil
   | succ n ih =>
    intro hn
    have han:n<acc.size:=by omega
    obtain ⟨k,x,hk,hv⟩:=hb n acc[n] (Array.getElem?_eq_getElem han)
    obtain ⟨p',g1,g2⟩:=paired_get rel hk
    rw [List.take_add_one,List.take_add_one,show acc.toList[n]? = some acc[n] by simp [han],g1,List.map_append]
    exact Paired.snoc (ih (by omega)) (show RelV (kV p'.1) acc[n] by rw [g2.1];exact is_kV hv)
  have b3:=key kvs.length (Nat.le_refl _)
  rw [List.take_length,List.take_of_length_le (by rw [Array.length_toList];omega)] at b3
  have hl':h'.get? s.heap.objs.size=some { cls:=.type "list",dict:=none,data:=.seq acc.toList.toArray c,slots:=#[] }:=by rw [Array.toArray_toList];exact hl
  exact ⟨.ref s.heap.objs.size,_,I.laid (t':=tk) kp (Nat.le_refl _) (show ObjOk X.prog X.w _ h' _ (.lst (kvs.map fun kv=>kV kv.1)) from ⟨by rw [List.length_map];omega,acc.toList,c,b3,hl'⟩),rfl,q _ _ ⟨I.hok.fresh (Nat.le_refl _),rfl⟩⟩
theorem compG_rngF {σ:St}{sel:List Nat}{rest:St}{H:Hp}{tt:TT}{te:TE}{Q:VK}{lo:Int}{n:Nat} (q:Nat→Bool) (f:Nat→V) (hr:sel.map (fun j=>(σ[j]?).join)=rest) (hz:n≤sizeLine)
  (ht:∀ (i:Nat) H' (Q':Bool→Hp→Prop),i<n→Same H H'→Q' (q i) H'→tt (some (.int (lo+i)) :: rest) H' Q')
  (he:∀ (i:Nat) H' (Q':VK),i<n→q i=true→Same H H'→Q' (f i) H'→te (some (.int (lo+i)) :: rest) H' Q') (hQ:∀ p H',New H p (.lst (((List.range n).filter q).map f)) H'→Q (.ref p) H'):CompG (Itr lo n) σ 1 sel (gName 0) tt te Q H:=by
 intro p hp
 refine comp_inv (n:=n) (item:=fun i=>.int (lo+i)) (fun i H2=>H2=upd H p (.lst (((List.range i).filter q).map f))) hr (by simp) src_rng ?_ ?_ ?_
 ·rintro H2 rfl
  exact Nat.le_refl _
 ·rintro i H2 R hi rfl hR
  refine ht i _ _ hi (same_upd hp) ?_
  cases hq:q i with
  | true =>
   rw [if_pos rfl]
   refine he i _ _ hi hq (same_upd hp) ⟨_,upd_same,?_,hR _ ?_⟩
   ·rw [List.length_map]
    have:=List.length_filter_le q (List.range i)
    rw [List.length_range] at this
    omega
   ·rw [upd_upd,List.range_succ,List.filter_append,List.map_append,List.filter_cons,if_pos hq]
    rfl
  | false =>
   rw [if_neg (by simp)]
   refine hR _ ?_
   rw [List.range_succ,List.filter_append,List.map_append,List.filter_cons,if_neg (by rw [hq];simp),List.filter_nil,List.map_nil,List.append_nil]
 ·rintro H2 rfl
  exact hQ p _ ⟨hp,rfl⟩
end L2
namespace MF
section sw
variable (m:Nat) (nd:Nat→Bool)
def cnt:Nat→Nat
 | 0=>0
 | i+1=>cnt i+(if nd (m+1+i) then 1 else 0)
def bec (k:Nat):Nat:=if k≤m then k else 1+m+cnt m nd (k - m - 1)
def mt (t:Int):Int:=2 * (bec m nd (t / 2).toNat:Nat)+t % 2
def mp (p:Pr):Pr:=(mt m nd p.1,mt m nd p.2)
variable {m nd}
end sw
def mark (L:List Bool) (t:Int):List Bool:=L.set (t / 2).toNat true
def marks (L:List Bool) (ts:List Int):List Bool:=ts.foldl mark L
def look (m:Nat) (P:List Pr) (L:List Bool) (j:Nat):List Bool :=
 if L.getD (m+1+j) false then mark (mark L (P.getD j (0,0)).1) (P.getD j (0,0)).2 else L
def down (m:Nat) (P:List Pr) (L:List Bool):Nat→List Bool
 | 0=>L
 | i+1=>look m P (down m P L i) (P.length - 1 - i)
theorem mark_len (L:List Bool) (t:Int):(mark L t).length=L.length:=List.length_set ..
theorem marks_len:∀ (ts:List Int) (L:List Bool),(marks L ts).length=L.length
 | [],L=>rfl
 | t :: r,L=>(marks_len r (mark L t)).trans (mark_len L t)
theorem mark_get (L:List Bool) (t:Int) (k:Nat):(mark L t).getD k false=true ↔ L.getD k false=true∨(k=(t / 2).toNat∧k<L.length):=by
 unfold mark
 rw [List.getD_eq_getElem?_getD,List.getD_eq_getElem?_getD,List.getElem?_set]
 by_cases e:(t / 2).toNat=k
 ·rw [if_pos e]
  subst e
  by_cases l:(t / 2).toNat<L.length
  ·rw [if_pos l];simp [l]
  ·rw [if_neg l];simp [l]
 ·rw [if_neg e]
  constructor
  ·exact .inl
  ·rintro (h | ⟨h,_⟩)
   ·exact h
   ·exact absurd h.symm e
theorem marks_get:∀ (ts:List Int) (L:List Bool) (k:Nat),(marks L ts).getD k false=true ↔ L.getD k false=true∨((∃ t∈ts,k=(t / 2).toNat)∧k<L.length)
 | [],L,k=>by simp [marks]
 | t :: r,L,k=>by
  show (marks (mark L t) r).getD k false=true ↔ _
  rw [marks_get r (mark L t) k,mark_get,mark_len]
  simp only [List.mem_cons,exists_eq_or_imp]
  constructor
  ·rintro ((h | ⟨h,l⟩) | ⟨h,l⟩)
   ·exact .inl h
   ·exact .inr ⟨.inl h,l⟩
   ·exact .inr ⟨.inr h,l⟩
  ·rintro (h | ⟨h | h,l⟩)
   ·exact .inl (.inl h)
   ·exact .inl (.inr ⟨h,l⟩)
   ·exact .inr ⟨h,l⟩
def Tis (m:Nat) (P:List Pr) (ts:List Int):Prop:=∀ t∈ts,0≤t∧t<2 * ((m:Int)+1+P.length)
end MF
namespace MF
section rs
variable (st:Nat→Bool)
def lookS (m:Nat) (P:List Pr) (L:List Bool) (j:Nat):List Bool :=
 if L.getD (m+1+j) false && !(st (m+1+j)) then mark (mark L (P.getD j (0,0)).1) (P.getD j (0,0)).2 else L
def downS (m:Nat) (P:List Pr) (L:List Bool):Nat→List Bool
 | 0=>L
 | i+1=>lookS st m P (downS m P L i) (P.length - 1 - i)
def reachL (m:Nat) (P:List Pr) (ts:List Int):List Bool:=downS st m P (marks (List.replicate (1+m+P.length) false) ts) P.length
def reach (m:Nat) (P:List Pr) (ts:List Int) (k:Nat):Bool:=(reachL st m P ts).getD k false
def reached (m:Nat) (P:List Pr) (ts:List Int):List Nat:=(List.range (1+m+P.length)).filter (reach st m P ts)
variable {st}
theorem lookS_len (m:Nat) (P:List Pr) (L:List Bool) (j:Nat):(lookS st m P L j).length=L.length:=by
 unfold lookS;split
 ·rw [mark_len,mark_len]
 ·rfl
theorem downS_len (m:Nat) (P:List Pr) (L:List Bool):∀ i,(downS st m P L i).length=L.length
 | 0=>rfl
 | i+1=>by unfold downS;rw [lookS_len,downS_len m P L i]
theorem reachL_len (m:Nat) (P:List Pr) (ts:List Int):(reachL st m P ts).length=1+m+P.length:=by
 unfold reachL;rw [downS_len,marks_len,List.length_replicate]
theorem lookS_get (m:Nat) (P:List Pr) (L:List Bool) (j k:Nat):(lookS st m P L j).getD k false=true ↔
  L.getD k false=true∨((L.getD (m+1+j) false=true∧st (m+1+j)=false)∧(k=((P.getD j (0,0)).1 / 2).toNat∨k=((P.getD j (0,0)).2 / 2).toNat)∧k<L.length):=by
 unfold lookS
 split
 ·rename_i h
  have h':L.getD (m+1+j) false=true∧st (m+1+j)=false:=by simpa using h
  rw [mark_get,mark_get,mark_len]
  constructor
  ·rintro ((a | ⟨a,b⟩) | ⟨a,b⟩)
   ·exact .inl a
   ·exact .inr ⟨h',.inl a,b⟩
   ·exact .inr ⟨h',.inr a,b⟩
  ·rintro (a | ⟨_,a | a,b⟩)
   ·exact .inl (.inl a)
   ·exact .inl (.inr ⟨a,b⟩)
   ·exact .inr ⟨a,b⟩
 ·rename_i h
  constructor
  ·exact .inl
  ·rintro (a | ⟨a,_⟩)
   ·exact a
   ·exact absurd (by simpa using a) h
theorem downS_keep (m:Nat) (P:List Pr) (L:List Bool) (k:Nat) {i:Nat}:∀ {i'},i≤i'→(downS st m P L i).getD k false=true→(downS st m P L i').getD k false=true
  | 0, h, a => by have : i = 0 := by omega
                  subst this;exact a
  | j+1,h,a=>by
    rcases Nat.lt_or_ge i (j+1) with l | l
    · exact (lookS_get ..).mpr (.inl (downS_keep m P L k (i':=j) (by omega) a))
    · have:i=j+1:=by omega
      subst this;exact a
theorem downS_high {m:Nat}{P:List Pr} (ho:Ok m P) (L:List Bool) {j:Nat} (hj:j<P.length):∀ {i},P.length - j≤i→i≤P.length→(downS st m P L i).getD (m+1+j) false=true→(downS st m P L (P.length - 1 - j)).getD (m+1+j) false=true
 | 0,h,_,a=>by omega
 | i+1,h,hi,a=>by
  have hp:P[P.length - 1 - i]? = some P[P.length - 1 - i]:=List.getElem?_eq_getElem (by omega)
  have o:=ho _ _ hp
  have e:P.getD (P.length - 1 - i) (0,0)=P[P.length - 1 - i]:=by rw [List.getD_eq_getElem?_getD,hp];rfl
  rcases (lookS_get ..).mp a with a | ⟨a,b,_⟩
  ·rcases Nat.lt_or_ge i (P.length - j) with l | l
   ·have:i=P.length - 1 - j:=by omega
    subst this;exact a
   ·exact downS_high ho L hj l (by omega) a
  ·rw [e] at b
   omega
theorem reach_ts {m:Nat}{P:List Pr}{ts:List Int}{t:Int} (ht:t∈ts) (h:0≤t∧t<2 * ((m:Int)+1+P.length)):reach st m P ts (t / 2).toNat=true :=
 downS_keep m P _ _ (i:=0) (Nat.zero_le _) ((marks_get ..).mpr (.inr ⟨⟨t,ht,rfl⟩,by rw [List.length_replicate];omega⟩))
theorem get_lt {α:Type}{P:List α}{j:Nat}{p:α} (hp:P[j]? = some p):j<P.length:=by
 rcases Nat.lt_or_ge j P.length with z | z
 ·exact z
 ·rw [List.getElem?_eq_none z] at hp;cases hp
theorem reach_clo {m:Nat}{P:List Pr} (ho:Ok m P) (ts:List Int) {j:Nat}{p:Pr} (hp:P[j]? = some p) (hn:reach st m P ts (m+1+j)=true) (hs:st (m+1+j)=false):reach st m P ts (p.1 / 2).toNat=true∧reach st m P ts (p.2 / 2).toNat=true:=by
 have hlt:=get_lt hp
 have a:=downS_high ho _ hlt (i:=P.length) (by omega) (Nat.le_refl _) hn
 have o:=ho _ _ hp
 have e:P.getD (P.length - 1 - (P.length - 1 - j)) (0,0)=p:=by rw [show P.length - 1 - (P.length - 1 - j)=j by omega,List.getD_eq_getElem?_getD,hp];rfl
 have key:∀ k,(k=(p.1 / 2).toNat∨k=(p.2 / 2).toNat)→reach st m P ts k=true:=by
  intro k hk
  refine downS_keep m P _ _ (i:=P.length - 1 - j+1) (by omega) ((lookS_get ..).mpr (.inr ⟨?_,?_,?_⟩))
  ·rw [show P.length - 1 - (P.length - 1 - j)=j by omega];exact ⟨a,hs⟩
  ·rw [e];exact hk
  ·rw [downS_len,marks_len,List.length_replicate];omega
 exact ⟨key _ (.inl rfl),key _ (.inr rfl)⟩
theorem reach_least {m:Nat}{P:List Pr}{ts:List Int} (S:Nat→Prop) (h1:∀ t∈ts,S (t / 2).toNat) (h2:∀ j p,P[j]? = some p→S (m+1+j)→st (m+1+j)=false→S (p.1 / 2).toNat∧S (p.2 / 2).toNat) {k:Nat} (h:reach st m P ts k=true):S k:=by
 have key:∀ i,i≤P.length→∀ k,(downS st m P (marks (List.replicate (1+m+P.length) false) ts) i).getD k false=true→S k:=by
  intro i
  induction i with
  | zero =>
   intro _ k a
   rcases (marks_get ..).mp a with a | ⟨⟨t,ht,rfl⟩,_⟩
   ·rw [List.getD_eq_getElem?_getD,List.getElem?_replicate] at a
    split at a <;> cases a
   ·exact h1 t ht
  | succ i ih =>
   intro hi k a
   have hp:P[P.length - 1 - i]? = some P[P.length - 1 - i]:=List.getElem?_eq_getElem (by omega)
   have e:P.getD (P.length - 1 - i) (0,0)=P[P.length - 1 - i]:=by rw [List.getD_eq_getElem?_getD,hp];rfl
   rcases (lookS_get ..).mp a with a | ⟨⟨a,a'⟩,b,_⟩
   ·exact ih (by omega) k a
   ·rw [e] at b
    have:=h2 _ _ hp (ih (by omega) _ a) a'
    rcases b with rfl | rfl
    ·exact this.1
    ·exact this.2
 exact key P.length (Nat.le_refl _) k h
theorem reach_out {m:Nat}{P:List Pr}{ts:List Int}{k:Nat} (h:1+m+P.length≤k):reach st m P ts k=false:=by
 unfold reach
 rw [List.getD_eq_getElem?_getD,List.getElem?_eq_none (by rw [reachL_len];exact h)]
 rfl
end rs
theorem tie2 (k:Nat):(2 * (k:Int) / 2).toNat=k:=by omega
theorem reach_le {st:Nat→Bool}{m:Nat}{P:List Pr} (ho:Ok m P) {n k:Nat} (h:reach st m P [2 * (n:Int)] k=true):k≤n:=by
 refine reach_least (S:=fun k=>k≤n) ?_ ?_ h
 ·intro t ht
  rw [List.mem_singleton] at ht
  subst ht
  omega
 ·intro j p hp hj _
  have:=ho j p hp
  constructor <;> omega
def coneL (m:Nat) (P:List Pr) (n:Nat):List Nat:=reached (fun _=>false) m P [2 * (n:Int)]
theorem cone_cut {m:Nat}{P:List Pr} (ho:Ok m P) {n:Nat} (hn:n<1+m+P.length):coneL m P n=(List.range (n+1)).filter (reach (fun _=>false) m P [2 * (n:Int)]):=by
 unfold coneL reached
 have key:∀ d,(List.range (n+1+d)).filter (reach (fun _=>false) m P [2 * (n:Int)])=(List.range (n+1)).filter (reach (fun _=>false) m P [2 * (n:Int)]):=by
  intro d
  induction d with
  | zero=>rfl
  | succ d ih =>
   rw [show n+1+(d+1)=n+1+d+1 by omega,List.range_succ,List.filter_append,ih]
   have:reach (fun _=>false) m P [2 * (n:Int)] (n+1+d)=false:=by
    cases h:reach (fun _=>false) m P [2 * (n:Int)] (n+1+d) with
    | false=>rfl
    | true=>have:=reach_le ho h;omega
   rw [List.filter_cons,if_neg (by rw [this];simp),List.filter_nil,List.append_nil]
 have:=key (1+m+P.length - (n+1))
 rw [show n+1+(1+m+P.length - (n+1))=1+m+P.length by omega] at this
 exact this
theorem reach_self {st:Nat→Bool}{m:Nat}{P:List Pr}{n:Nat} (h:n<1+m+P.length):reach st m P [2 * (n:Int)] n=true:=by
 have:=reach_ts (st:=st) (m:=m) (P:=P) (ts:=[2 * (n:Int)]) (List.mem_singleton.mpr rfl) (by omega)
 rwa [tie2] at this
structure HungAt (st:Nat→Bool) (m:Nat) (P:List Pr) (n i:Nat) (S:Nat→Prop):Prop where
 self:S n
 low:∀ k,S k→reach st m P [2 * (n:Int)] k=true
 clo:∀ j p,P[j]? = some p→m+1+j≤n→n - (m+1+j)<i→S (m+1+j)→st (m+1+j)=false→S (p.1 / 2).toNat∧S (p.2 / 2).toNat
theorem HungAt.new {st:Nat→Bool}{m:Nat}{P:List Pr}{n:Nat}{S:Nat→Prop} (h:∀ k,S k ↔ k=n) (hn:n<1+m+P.length):HungAt st m P n 0 S :=
 ⟨(h n).mpr rfl,fun k hk=>by rw [(h k).mp hk];exact reach_self hn,fun j p _ _ hi=>absurd hi (Nat.not_lt_zero _)⟩
end MF
namespace MF
def rising (xs:List Int):Bool:=((List.range (xs.length - 1)).map fun j=>decide (xs.getD j 0<xs.getD (j+1) 0)).all id
def isStop (xs:List Int) (k:Nat):Bool:=decide ((k:Int)∈xs)
def isCut (m:Nat) (P:List Pr) (k:Int) (xs:List Int):Bool :=
 decide ((m:Int)<k∧k<1+m+P.length∧k ∉ xs) && rising xs && (xs.map fun x=>decide (x∈(coneL m P k.toNat).map fun j:Nat=>(j:Int))).all id &&
  ((reached (isStop xs) m P [2 * k]).map fun j=>decide (m<j) || decide ((j:Int)∈xs)).all id
theorem mem_reached {st:Nat→Bool}{m:Nat}{P:List Pr}{ts:List Int}{j:Nat}:j∈reached st m P ts ↔ reach st m P ts j=true:=by
 unfold reached
 rw [List.mem_filter,List.mem_range]
 constructor
 ·exact fun h=>h.2
 ·intro h
  refine ⟨?_,h⟩
  rcases Nat.lt_or_ge j (1+m+P.length) with l | l
  ·exact l
  ·rw [reach_out l] at h;cases h
def RisC (xs:List Int):Prop:=∀ j,j+1<xs.length→xs.getD j 0<xs.getD (j+1) 0
theorem rising_iff (xs:List Int):rising xs=true ↔ RisC xs:=by
 unfold rising RisC
 rw [List.all_map,List.all_eq_true]
 constructor
 ·intro h j hj
  have:=h j (List.mem_range.mpr (by omega))
  simpa using this
 ·intro h j hj
  rw [List.mem_range] at hj
  simpa using h j (by omega)
theorem ris_of {xs:List Int} (h:xs.Pairwise (· < ·)):RisC xs:=by
 intro j hj
 have a:xs.getD j 0=xs[j]:=by simp [List.getD,show j<xs.length by omega]
 have b:xs.getD (j+1) 0=xs[j+1]:=by simp [List.getD,hj]
 rw [a,b]
 exact List.pairwise_iff_getElem.mp h j (j+1) (by omega) hj (by omega)
def HangC (m:Nat) (P:List Pr) (k:Int) (xs:List Int):Prop:=∀ x∈xs,x∈(coneL m P k.toNat).map fun j:Nat=>(j:Int)
def StopC (m:Nat) (P:List Pr) (k:Int) (xs:List Int):Prop:=∀ j,reach (isStop xs) m P [2 * k] j=true→m<j∨(j:Int)∈xs
theorem isCut_iff (m:Nat) (P:List Pr) (k:Int) (xs:List Int):isCut m P k xs=true ↔ ((m:Int)<k∧k<1+m+P.length∧k ∉ xs)∧RisC xs∧HangC m P k xs∧StopC m P k xs:=by
 unfold isCut
 rw [Bool.and_eq_true,Bool.and_eq_true,Bool.and_eq_true,decide_eq_true_eq,rising_iff,List.all_map,List.all_eq_true,List.all_map,List.all_eq_true]
 unfold HangC StopC
 constructor
 ·rintro ⟨⟨⟨a,b⟩,c⟩,d⟩
  refine ⟨a,b,fun x hx=>by simpa using c x hx,fun j hj=>?_⟩
  have:=d j (mem_reached.mpr hj)
  simpa using this
 ·rintro ⟨a,b,c,d⟩
  refine ⟨⟨⟨a,b⟩,fun x hx=>by simpa using c x hx⟩,fun j hj=>?_⟩
  have:=d j (mem_reached.mp hj)
  simpa using this
theorem mem_cone {m:Nat}{P:List Pr}{n:Nat}{x:Int}:x∈(coneL m P n).map (fun j:Nat=>(j:Int)) ↔ 0≤x∧reach (fun _=>false) m P [2 * (n:Int)] x.toNat=true:=by
 rw [List.mem_map]
 constructor
 ·rintro ⟨j,hj,rfl⟩
  exact ⟨by omega,by rw [Int.toNat_natCast];exact mem_reached.mp hj⟩
 ·rintro ⟨h0,h⟩
  exact ⟨x.toNat,mem_reached.mpr h,by omega⟩
structure LowC (m:Nat) (P:List Pr) (n:Nat) (xs:List Int):Prop where
 ris:xs.Pairwise (· < ·)
 pos:∀ x∈xs,0<x∧x<n
 hang:∀ x∈xs,reach (fun _=>false) m P [2 * (n:Int)] x.toNat=true
 stop:StopC m P n xs
theorem LowC.cut {m:Nat}{P:List Pr}{n:Nat}{xs:List Int} (h:LowC m P n xs) (h1:m<n) (h2:n<1+m+P.length):isCut m P n xs=true:=by
 rw [isCut_iff]
 refine ⟨⟨by omega,by omega,fun z=>?_⟩,ris_of h.ris,fun x hx=>?_,h.stop⟩
 ·have:=h.pos _ z;omega
 ·rw [Int.toNat_natCast,mem_cone]
  exact ⟨by have:=h.pos x hx;omega,h.hang x hx⟩
def stopB (m:Nat) (P:List Pr) (k:Int) (xs:List Int):Bool:=((reached (isStop xs) m P [2 * k]).map fun j=>decide (m<j) || decide ((j:Int)∈xs)).all id
theorem stopB_iff (m:Nat) (P:List Pr) (k:Int) (xs:List Int):stopB m P k xs=true ↔ StopC m P k xs:=by
 unfold stopB StopC
 rw [List.all_map,List.all_eq_true]
 constructor
 ·intro h j hj
  have:=h j (mem_reached.mpr hj)
  simpa using this
 ·intro h j hj
  have:=h j (mem_reached.mp hj)
  simpa using this
structure WalkC (m:Nat) (P:List Pr) (n:Nat) (xs:List Int) (ws:List Nat) (c:Nat):Prop where
 nd:ws.Nodup
 self:n∈ws
 rch:∀ w∈ws,reach (isStop xs) m P [2 * (n:Int)] w=true
 out:∀ w∈ws,(w:Int) ∉ xs
 le:∀ w∈ws,w≤n
 high:∀ (i:Nat) w,i<c→ws[i]? = some w→m<w
 clo:∀ (i:Nat) j p,i<c→ws[i]? = some (m+1+j)→P[j]? = some p→(p.1 / 2∈xs∨(p.1 / 2).toNat∈ws)∧(p.2 / 2∈xs∨(p.2 / 2).toNat∈ws)
theorem WalkC.bad {m:Nat}{P:List Pr}{n:Nat}{xs:List Int}{ws:List Nat}{c w:Nat} (h:WalkC m P n xs ws c) (hw:w∈ws) (hm:w≤m):stopB m P n xs=false:=by
 cases e:stopB m P n xs with
 | false=>rfl
 | true =>
  rcases (stopB_iff ..).mp e w (h.rch w hw) with z | z
  ·omega
  ·exact absurd z (h.out w hw)
end MF
set_option maxHeartbeats 4000000
namespace L2
open PySem PySem.Spec PyProof.Rows
theorem PS.nox {X:Cx}{st:Stmt}{t:TS} (h:PS X.nox st t):PS X st t:=fun pins s σ H D I hw =>
 wpAny_mono (h pins s σ H D (I.wish _) hw) (fun _ _ q=>q.unwish) fun _ _ z=>False.elim z
end L2
set_option maxHeartbeats 400000
namespace SS
open PySem PySem.Spec PyProof.Rows
section
variable {prog:Program}{w:World}{A:Around}{E:Value→Shared→Prop}{s:Shared}
theorem sorted_at {h:Heap}{a:Addr}{vs:List Value}{out:Array Value}{n:Nat} (ho:h.get? a=some (seqObj "list" vs.toArray n)):(∃ e,(sortedHeap h a vs out).get? a=some (seqObj "list" out e))∧∀ b o,b≠a→h.get? b=some o→(sortedHeap h a vs out).get? b=some o:=by
 unfold sortedHeap
 have g1:=get?_update_seq ho (fun _=>#[])
 have g2:=Heap.get?_push_of_some (seqObj "list" #[] 0) (Heap.get?_push_of_some (seqObj "tuple" vs.toArray 0) g1)
 exact ⟨⟨_,get?_update_seq g2 (fun _=>out)⟩,fun b o hb e=>(Heap.get?_update_other _ _ (Ne.symm hb)).trans (Heap.get?_push_of_some _ (Heap.get?_push_of_some _ ((Heap.get?_update_other _ _ (Ne.symm hb)).trans e)))⟩
end
end SS
set_option maxHeartbeats 4000000
namespace L2
open PySem PySem.Spec PyProof.Rows
end L2
set_option maxHeartbeats 4000000
namespace DE
open PySem DZ
section
variable {prog:Program}{w:World}{A:Around}{E:Value→Shared→Prop}{h:Heap}{g:Array GenState}{d:Drawn}{t:Nat}{os:OsState}{z:Addr}{vs:Array Value}
end
structure ES (e it l:Addr) (xs:Array Value) (i:Nat) (h:Heap):Prop where
 eo:∃ f0 f1 old,h.get? e=some { cls:=.type "enumerate",dict:=none,data:=.fields #[f0,.bool f1,.ref it,rawInt i,.none,old],slots:=#[] }∧(f0=.none∨∃ (T:Addr) (o:Obj),f0=rawInt T∧h.get? T=some o∧T≠e∧T≠it)
 a1:h.IsListIter it l i
 l1:h.IsList l xs
section
variable {prog:Program}{w:World}{A:Around}{E:Value→Shared→Prop}{s:Shared}
variable {κ:Type} [DecidableEq κ] {knd:KeyKind prog w κ}
end
end DE
namespace L2
open PySem PySem.Spec PyProof.Rows
def keyR (n:Nat):List Key:=(List.range n).map fun i:Nat=>Sum.inl (i:Int)
def cDictEn (K:PySem.W.Frag) (t:TA):TE:=fun σ H Q=>t σ H fun vs H1=>match vs with
 | [.ref a]=>∃ ys:List V,H1 a=some (.lst ys)∧ys.length≤1000∧∀ p H',New H1 p (.dK (mergeK [] ((keyR ys.length).zip ys))) H'→Q (.ref p) H'
 | _=>False
def cMaxL (K:PySem.W.Frag):List V→Hp→VK→Prop:=fun vs H Q=>match vs with
 | [.ref a]=>∃ ns:List Int,SqL K H a (ns.map V.int)∧0<ns.length∧∀ M,M∈ns→(∀ x∈ns,x≤M)→Q (.int M) H
 | _=>False
theorem c_maxL {X:Cx} (hc:X.calm=true):CallR X (.builtin "max") (cMaxL X.K):=by
 intro pins s σ H xs us Q I r h
 match xs,h with
 | [.ref p],h =>
  obtain ⟨ns,hq,hne,q⟩:=h
  obtain ⟨u1,rfl,e1⟩:=vals1 r
  cases e1
  obtain ⟨its,r',pl,hz⟩:=I.list hq
  have hA:=intsAre_of r'
  obtain ⟨xs,hxs⟩:=hA.allInts.items
  have hn:numsOf (intItems xs).toList=ns:=by rw [← hxs];exact hA.numsOf
  rw [nums_intItems] at hn
  have hll:xs.size=ns.length:=by rw [← hn,List.length_map,Array.length_toList]
  have hl:=pl.isList
  rw [hxs] at hl
  refine max_intList (I.ok.hd hc) hl (by omega) fun v h' tk hv hk=>?_
  obtain ⟨t,rfl⟩:=intItems_at hv
  obtain ⟨h1,h2⟩:=argBest_gt (numAt xs) (xs.size - 1)
  refine ⟨.int _,H,I.kept (t':=tk) hk,⟨t,rfl⟩,q _ ?_ fun a ha=>?_⟩
  ·rw [numAt_eq,hn]
   exact getD_mem (by omega)
  ·obtain ⟨j,hj,rfl⟩:=mem_getD ha
   have:=h2 j (by omega)
   rwa [numAt_eq,hn] at this
end L2
set_option maxRecDepth 20000
namespace L2
open PySem PySem.Spec PyProof.Rows
def cListKeys (t:TE):TE:=fun σ H Q=>t σ H fun x H1=>∃ p kvs,x=.ref p∧H1 p=some (.dK kvs)∧∀ l H',New H1 l (.lst (kvs.map fun kv=>kV kv.1)) H'→Q (.ref l) H'
theorem e_listkeys {X:Cx}{o:Expr}{t:TE}{p1 p2 p3 p4:Pos} (hc:X.calm=true) (hg1:Gl X "list") (hm1:X.mg "list" = none) (ho:PE X o t)
  (hbase:attributeBase o "keys" X.env (eval o X.env)=eval o X.env:=by rfl) (hline:(p2.endLine == p3.line)=true:=by rfl)
  (he2:starEach [Expr.Call (.Attribute o "keys" p2) [] [] p3] X.env=(false,eval (Expr.Call (.Attribute o "keys" p2) [] [] p3) X.env) :: starEach [] X.env:=by rfl) (hpl2:(backTo p4 (starEach [] X.env)).any (·.1)=false:=by rfl) :
  PE X (.Call (.Name "list" p1) [.Call (.Attribute o "keys" p2) [] [] p3] [] p4) (cListKeys t):=by
 intro pins s σ H Q I h
 refine wpAny_Call_Name_kw (ld_blt I hg1 hm1 PyProof.Rows.boot_list ?_ (by decide) (by decide))
 refine PyProof.Rows.callWith_type1 ?_ he2 hpl2
 rw [he2]
 show wpAny _ _ (spliced ((false,eval (Expr.Call (.Attribute o "keys" p2) [] [] p3) X.env) :: backTo p4 (starEach [] X.env))) _ _ s
 refine Calls.spliced_cons ?_
 refine wpAny_Call_method0_late hbase hline (thn (ho pins s σ H _ I h) fun v s1 ⟨x,H1,I1,r1,p,kvs,ex,hp,q⟩=>?_)
 subst ex
 obtain ⟨h1,h2⟩:=tyV_is (T:="dict") I1 r1 (.inr (.inr (.inl ⟨rfl,.inl ⟨_,hp⟩⟩)))
 cases r1
 obtain ⟨z,y,vs,rel,dd⟩:=dk_of I1.hok hp
 obtain ⟨ep,hat⟩:=dd.dictAt
 have hlen:=rel.length
 refine ⟨"dict","dict.keys",PySem.F.plainAttrs_dict,PySem.F.slot_dict_keys,PySem.F.type_dict_keys,h1,h2,Calls.callWith_builtin rfl (PySem.evalArgs_none ?_)⟩
 refine call_meetsIn PySem.F.slot_dict_keys h1 PySem.F.entry_dict_keys (PySem.F.args_dict_keys_1 _) (PySem.W.kdl_meets_keys (mixKind X.prog X.w) p y) ⟨⟨vs,dd⟩,?_⟩
 refine Calls.spliced_nil ?_
 have I2:Inv X pins σ H1 { s1 with heap:=s1.heap.push { cls:=.type "dict_keys",data:=.fields #[.ref p] } }:=I1.kept (t':=s1.toks) fun b o e=>Heap.get?_push_of_some _ e
 have hv:PySem.W.KdlKeysView (s1.heap.push { cls:=.type "dict_keys",data:=.fields #[.ref p] }) s1.heap.objs.size p:=⟨_,Heap.get?_push_size _ rfl,rfl,rfl⟩
 refine PySem.W.kdl_call (s:={ s1 with heap:=s1.heap.push { cls:=.type "dict_keys",data:=.fields #[.ref p] } }) (PySem.W.kdl_keys (knd:=mixKind X.prog X.w) (kvs:=vs) (ep:=ep)) (I.ok.hd hc) ⟨hv,hat.push _⟩ (by omega) fun h' tk acc c kp hl ⟨ha,hb⟩=>?_
 generalize s1.heap.push { cls:=.type "dict_keys",data:=.fields #[.ref p] }=k2 at I2 kp hl ⊢
 have key:∀ n,n≤kvs.length→Vals ((kvs.take n).map fun kv=>kV kv.1) (acc.toList.take n):=by
  intro n
  induction n with
  | zero=>intro _;rw [List.take_zero,List.take_zero];exact .nil
  | succ n ih =>
   intro hn
   have han:n<acc.size:=by omega
   obtain ⟨k,x,hk,hv⟩:=hb n acc[n] (Array.getElem?_eq_getElem han)
   obtain ⟨p',g1,g2⟩:=paired_get rel hk
   rw [List.take_add_one,List.take_add_one,show acc.toList[n]? = some acc[n] by simp [han],g1,List.map_append]
   exact Paired.snoc (ih (by omega)) (show RelV (kV p'.1) acc[n] by rw [g2.1];exact is_kV hv)
 have b3:=key kvs.length (Nat.le_refl _)
 rw [List.take_length,List.take_of_length_le (by rw [Array.length_toList];omega)] at b3
 have hl':h'.get? k2.objs.size=some { cls:=.type "list",dict:=none,data:=.seq acc.toList.toArray c,slots:=#[] }:=by rw [Array.toArray_toList];exact hl
 exact ⟨.ref k2.objs.size,_,I2.laid (t':=tk) kp (Nat.le_refl _) (show ObjOk X.prog X.w _ h' _ (.lst (kvs.map fun kv=>kV kv.1)) from ⟨by rw [List.length_map];omega,acc.toList,c,b3,hl'⟩),rfl,q _ _ ⟨I2.hok.fresh (Nat.le_refl _),rfl⟩⟩
def cMinL (K:PySem.W.Frag):List V→Hp→VK→Prop:=fun vs H Q=>match vs with
 | [.ref a]=>∃ ns:List Int,SqL K H a (ns.map V.int)∧0<ns.length∧∀ M,M∈ns→(∀ x∈ns,M≤x)→Q (.int M) H
 | _=>False
theorem c_minL {X:Cx} (hc:X.calm=true):CallR X (.builtin "min") (cMinL X.K):=by
 intro pins s σ H xs us Q I r h
 match xs,h with
 | [.ref p],h =>
  obtain ⟨ns,hq,hne,q⟩:=h
  obtain ⟨u1,rfl,e1⟩:=vals1 r
  cases e1
  obtain ⟨its,r',pl,hz⟩:=I.list hq
  have hA:=intsAre_of r'
  obtain ⟨xs,hxs⟩:=hA.allInts.items
  have hn:numsOf (intItems xs).toList=ns:=by rw [← hxs];exact hA.numsOf
  rw [nums_intItems] at hn
  have hll:xs.size=ns.length:=by rw [← hn,List.length_map,Array.length_toList]
  have hl:=pl.isList
  rw [hxs] at hl
  refine min_intList (I.ok.hd hc) hl (by omega) fun v h' tk hv hk=>?_
  obtain ⟨t,rfl⟩:=intItems_at hv
  obtain ⟨h1,h2⟩:=argBest_lt (numAt xs) (xs.size - 1)
  refine ⟨.int _,H,I.kept (t':=tk) hk,⟨t,rfl⟩,q _ ?_ fun a ha=>?_⟩
  ·rw [numAt_eq,hn]
   exact getD_mem (by omega)
  ·obtain ⟨j,hj,rfl⟩:=mem_getD ha
   have:=h2 j (by omega)
   rw [numAt_eq xs j,hn] at this
   exact this
end L2
set_option maxHeartbeats 4000000
namespace SD
open PySem PySem.Spec PyProof.Rows
section
variable {prog:Program}{w:World}{A:Around}{E:Value→Shared→Prop}{s:Shared}{T:String}{r d:Addr}{n:Nat}{P:Nat→Value→Prop}{OK:Heap→Prop}
theorem iadd_src {R:Result→Shared→Prop}{L:Addr}{c:Nat} (K:PySem.W.KdlSrc prog w T r d n P OK) (hh:A.handled=none) (hok:OK s.heap) (hr:L≠r) (hd:L≠d) (hL:s.heap.get? L=some { cls:=.type "list",data:=.seq #[] c }) (hn:n≤sizeLine)
  (hR:∀ h' tk acc' c',(∀ b o,b≠L→s.heap.get? b=some o→h'.get? b=some o)→h'.get? L=some { cls:=.type "list",dict:=none,data:=.seq acc' c',slots:=#[] }→ItemsOf P acc' n→R (.ok (.ret (.ref L))) { s with heap:=h',toks:=tk }) :
  codeAny (model prog w) A (.builtin "list.__iadd__" ⟨[.ref L,.ref r],[]⟩) R s:=by
 refine codeAny_builtin entry_list_iadd' ?_
 rw [Around.under_plainId (show plainId "list.__iadd__" = true by decide +kernel) _]
 exact PySem.W.kdl_extend K hh hok L hr hd (.ref L) c hL hR hn
theorem collect_src {Q:List Value→Shared→Prop} (K:PySem.W.KdlSrc prog w T r d n P OK) (hh:A.handled=none) (hok:OK s.heap) (hn:n≤sizeLine)
  (q:∀ acc h' tk,(∀ b o,s.heap.get? b=some o→h'.get? b=some o)→s.heap.objs.size<h'.objs.size→ItemsOf P acc n→Q acc.toList { s with heap:=h',toks:=tk }):wpAny (model prog w) A (collect (.ref r)) Q E s:=by
 obtain ⟨hr,hd⟩:=K.there s.heap hok
 unfold collect;refine wpAny_bind (wpAny_runValue (codeAny_builtin entry_proto_collect' ?_));show wpAny _ _ (do again (.builtin "list.__iadd__" ⟨[← newList [],.ref r],[]⟩)) _ _ s
 have hL0:(s.heap.push (seqObj "list" #[] 0)).get? s.heap.objs.size=some (seqObj "list" #[] 0):=Heap.get?_push_size _ rfl
 refine wpAny_bind (wpAny_newList (wpAny_pure ⟨Code.quiet_builtin _ (by decide +kernel),iadd_src (s:={ s with heap:=s.heap.push (seqObj "list" #[] 0) }) K hh (K.keep _ _ hok fun b _ o e=>Heap.get?_push_of_some _ e) (Nat.ne_of_gt hr) (Nat.ne_of_gt hd) hL0 hn fun h' tk acc c kp hL' hi=>?_⟩))
 dsimp only;refine wpAny_bind (wpAny_load hL' (wpAny_pure ?_))
 exact q acc h' tk (fun b o e=>kp b o (Nat.ne_of_lt (Heap.lt_size e)) (Heap.get?_push_of_some _ e)) (Heap.lt_size hL') hi
theorem sorted_src {Q:Value→Shared→Prop}{ks:List Int} (K:PySem.W.KdlSrc prog w T r d n P OK) (hh:A.handled=none) (hok:OK s.heap) (h64:n<64) (hk:∀ acc,ItemsOf P acc n→IntsAre acc.toList ks)
  (q:∀ h' tk r out e ns',(∀ b o,s.heap.get? b=some o→h'.get? b=some o)→s.heap.objs.size≤r→h'.get? r=some (seqObj "list" out e)→IntsAre out.toList ns'→ns'.Perm ks→ns'.Pairwise (· ≤ ·)→Q (.ref r) { s with heap:=h',toks:=tk }) :
  wpAny (model prog w) A (call (.builtin "sorted") [.ref r]) Q E s:=by
 refine Calls.call_function_entry kind_sorted plain_sorted entry_sorted (args_sorted1 _) ?_;unfold Builtin.«sorted»;refine wpAny_bind (m:=checkCount "sorted" 1 1 _) (wpAny_pure ?_)
 refine wpAny_bind (collect_src K (by first | exact hh | simpa using hh) hok (by rw [sizeLine_eq];omega) fun acc h' tk kp hlt hi=>?_)
 have a1:=hk acc hi
 have hvl:acc.toList.length<64:=by rw [Array.length_toList,hi.1];exact h64
 refine wpAny_bind (wpAny_newList ?_ (by rw [sizeLine_eq];omega))
 have hoL:(h'.push (seqObj "list" acc.toList.toArray 0)).get? h'.objs.size=some (seqObj "list" acc.toList.toArray 0):=Heap.get?_push_size _ rfl
 show wpAny _ _ _ _ _ { s with heap:=h'.push (seqObj "list" acc.toList.toArray 0),toks:=tk }
 refine wpAny_bind (wpAny_holding (wpAny_call_entry slot_list_sort ⟨_,hoL,rfl⟩ entry_list_sort (list_sort_tree hoL a1 hvl fun out ns' b1 b2 b3=>⟨_,rfl,wpAny_pure ⟨_,rfl,?_⟩⟩) (args_list_sort _)))
 obtain ⟨⟨e,at_⟩,old⟩:=SS.sorted_at (out:=out) hoL
 exact q _ tk _ out e ns' (fun b o x=>old b o (Nat.ne_of_lt (Nat.lt_trans (Heap.lt_size x) hlt)) (Heap.get?_push_of_some _ (kp b o x))) (Nat.le_of_lt hlt) at_ b1 b2 b3
end
end SD
namespace L2
open PySem PySem.Spec PyProof.Rows
def cSortD (_:PySem.W.Frag):List V→Hp→VK→Prop:=fun vs H Q=>match vs with
 | [.ref p]=>∃ (kvs:List (Key × V)) (ns:List Int),Rd H p (.dK kvs)∧kvs.map (·.1)=ns.map Sum.inl∧ns.length<64∧∀ (ns':List Int) (l:Addr) (H':Hp),ns'.Perm ns→ns'.Pairwise (· ≤ ·)→New H l (.lst (ns'.map V.int)) H'→Q (.ref l) H'
 | _=>False
theorem c_sortD {X:Cx} (hc:X.calm=true):CallR X (.builtin "sorted") (cSortD X.K):=by
 intro pins s σ H xs us Q I r h
 match xs,h with
 | [.ref p],h =>
  obtain ⟨kvs,ns,e,hns,h64,q⟩:=h
  obtain ⟨u1,rfl,e1⟩:=vals1 r
  cases e1
  obtain ⟨z,y,vs,rel,dd⟩:=dk_rd I.hok e
  obtain ⟨ep,hat⟩:=dd.dictAt
  have hlen:=rel.length
  have hnl:kvs.length=ns.length:=by have:=congrArg List.length hns;rwa [List.length_map,List.length_map] at this
  refine SD.sorted_src (ks:=ns) (PySem.W.kdl_dict (knd:=mixKind X.prog X.w) (kvs:=vs) (ep:=ep) y) (I.ok.hd hc) hat (by omega) (fun acc ⟨ha,hb⟩=>?_) fun h' tk l out e' ns' kp hge at_ b1 b2 b3=>?_
  ·have key:∀ n,n≤kvs.length→Vals ((kvs.take n).map fun kv=>kV kv.1) (acc.toList.take n):=by
    intro n
    induction n with
    | zero=>intro _;rw [List.take_zero,List.take_zero];exact .nil
    | succ n ih =>
     intro hn
     have han:n<acc.size:=by omega
     obtain ⟨k,x,hk,hv⟩:=hb n acc[n] (Array.getElem?_eq_getElem han)
     obtain ⟨p',g1,g2⟩:=paired_get rel hk
     rw [List.take_add_one,List.take_add_one,show acc.toList[n]? = some acc[n] by simp [han],g1,List.map_append]
     exact Paired.snoc (ih (by omega)) (show RelV (kV p'.1) acc[n] by rw [g2.1];exact is_kV hv)
   have b3:=key kvs.length (Nat.le_refl _)
   rw [List.take_length,List.take_of_length_le (by rw [Array.length_toList];omega)] at b3
   have e2:(kvs.map fun kv=>kV kv.1)=ns.map V.int:=by
    have:(kvs.map (·.1)).map kV=(ns.map Sum.inl).map kV:=by rw [hns]
    rw [List.map_map,List.map_map] at this
    exact this
   rw [e2] at b3
   exact intsAre_of b3
  ·have hsl:(64:Nat)≤sizeLine:=by decide
   have hl3:ns'.length=ns.length:=b2.length_eq
   exact ⟨.ref l,_,I.laid (a:=l) (o:=.lst (ns'.map V.int)) (h':=h') (t':=tk) kp hge ⟨by rw [List.length_map];omega,out.toList,e',vals_ints b1,by rw [Array.toArray_toList];exact at_⟩,rfl,q ns' l _ b2 b3 ⟨I.hok.fresh hge,rfl⟩⟩
end L2
namespace MZ
abbrev Ab:=Nat→Option (Option Nat)
abbrev Cm:=Nat→Option (Option Nat)
variable {lo:Nat→List Nat}{goal:Nat→Prop}
structure Flow (lo:Nat→List Nat) (goal:Nat→Prop) (ab:Ab):Prop where
 up:∀ p q,ab p=some (some q)→p∈lo q∧ab q≠none
 top:∀ p,ab p=some none→∃ g,goal g∧p∈lo g
 inj:∀ p p' q,ab p=some (some q)→ab p'=some (some q)→p=p'
 src:∀ p,ab p≠none→lo p≠[]→∃ p',ab p'=some (some p)
 ng:∀ p,ab p≠none→¬ goal p
def nxt (lo:Nat→List Nat) (ab:Ab) (e:Nat):List Nat :=
 if e % 2=1 then (lo (e / 2)).map (fun l=>2 * l) ++ [2 * (e / 2)] else match ab (e / 2) with
  | none=>[2 * (e / 2)+1]
  | some none=>[]
  | some (some q)=>[2 * q+1]
theorem nxt_foot {ab:Ab}{p e:Nat} (h:e∈nxt lo ab (2 * p+1)):(∃ l∈lo p,e=2 * l)∨e=2 * p:=by
 unfold nxt at h
 rw [if_pos (by omega),show (2 * p+1) / 2=p by omega,List.mem_append,List.mem_map,List.mem_singleton] at h
 rcases h with ⟨l,hl,rfl⟩ | h
 ·exact .inl ⟨l,hl,rfl⟩
 ·exact .inr h
theorem nxt_head {ab:Ab}{p e:Nat} (h:e∈nxt lo ab (2 * p)):(ab p=none∧e=2 * p+1)∨∃ q,ab p=some (some q)∧e=2 * q+1:=by
 unfold nxt at h
 rw [if_neg (by omega),show (2 * p) / 2=p by omega] at h
 cases ha:ab p with
 | none=>rw [ha] at h;exact .inl ⟨rfl,List.mem_singleton.mp h⟩
 | some o =>
  rw [ha] at h
  cases o with
  | none=>simp at h
  | some q=>exact .inr ⟨q,rfl,List.mem_singleton.mp h⟩
structure Path (lo:Nat→List Nat) (goal:Nat→Prop) (ab:Ab) (cm:Cm) (π:Nat→Prop) (s:Nat):Prop where
 succ:∀ e,π e→e≠2 * s+1→∃ e',π e'∧cm e'=some (some e)
 pred:∀ e,π e→cm e=some none∨∃ u,π u∧cm e=some (some u)
 uniq:∀ e e' u,π e→π e'→cm e=some (some u)→cm e'=some (some u)→e=e'
 step:∀ e u,π e→cm e=some (some u)→e∈nxt lo ab u
 start:∀ e,π e→cm e=some none→e % 2=0∧∃ g,goal g∧e / 2∈lo g
 fin:π (2 * s+1)
 spring:lo s=[]
 one:∀ t,π (2 * t+1)→lo t=[]→t=s
 far:∀ p,goal p→¬ π (2 * p)∧¬ π (2 * p+1)
 rk:∃ r:Nat→Nat,∀ e u,cm e=some (some u)→r u<r e
open Classical in
noncomputable def lead (ab:Ab) (cm:Cm) (π:Nat→Prop):Ab:=fun p=>if π (2 * p) then (match cm (2 * p) with
  | some none=>some none
  | some (some u)=>if u=2 * p+1 then none else some (some (u / 2))
  | none=>none) else ab p
section
variable {ab:Ab}{cm:Cm}{π:Nat→Prop}{s:Nat}
theorem lead_off {p:Nat} (h:¬ π (2 * p)):lead ab cm π p=ab p:=by unfold lead;rw [if_neg h]
theorem lead_top {p:Nat} (h:π (2 * p)) (hc:cm (2 * p)=some none):lead ab cm π p=some none:=by unfold lead;rw [if_pos h,hc]
theorem lead_out {p:Nat} (h:π (2 * p)) (hc:cm (2 * p)=some (some (2 * p+1))):lead ab cm π p=none:=by unfold lead;rw [if_pos h,hc];simp
theorem lead_up {p u:Nat} (h:π (2 * p)) (hc:cm (2 * p)=some (some u)) (hu:u≠2 * p+1):lead ab cm π p=some (some (u / 2)):=by unfold lead;rw [if_pos h,hc];simp [hu]
variable (F:Flow lo goal ab) (P:Path lo goal ab cm π s)
include P
theorem head_from {p u:Nat} (h:π (2 * p)) (hc:cm (2 * p)=some (some u)):∃ q,u=2 * q+1∧(p∈lo q∨p=q):=by
 have hs:=P.step _ _ h hc
 rcases (by omega:u=2 * (u / 2)∨u=2 * (u / 2)+1) with e | e
 ·rw [e] at hs
  rcases nxt_head hs with ⟨_,z⟩ | ⟨q,_,z⟩ <;> omega
 ·rw [e] at hs
  refine ⟨u / 2,e,?_⟩
  rcases nxt_foot hs with ⟨l,hl,z⟩ | z
  ·rw [show p=l by omega];exact .inl hl
  ·exact .inr (by omega)
theorem foot_from {q:Nat} (h:π (2 * q+1)):(π (2 * q)∧cm (2 * q+1)=some (some (2 * q))∧ab q=none)∨∃ p,π (2 * p)∧cm (2 * q+1)=some (some (2 * p))∧ab p=some (some q):=by
 rcases P.pred _ h with hc | ⟨u,hu,hc⟩
 ·have:=(P.start _ h hc).1
  omega
 ·have hs:=P.step _ _ h hc
  rcases (by omega:u=2 * (u / 2)∨u=2 * (u / 2)+1) with e | e
  ·rw [e] at hs hc hu
   rcases nxt_head hs with ⟨ha,z⟩ | ⟨q',ha,z⟩
   ·have:u / 2=q:=by omega
    rw [this] at ha hc hu
    exact .inl ⟨hu,hc,ha⟩
   ·have:q'=q:=by omega
    subst this
    exact .inr ⟨u / 2,hu,hc,ha⟩
  ·rw [e] at hs
   rcases nxt_foot hs with ⟨l,hl,z⟩ | z <;> omega
include F
theorem foot_of {p q:Nat} (hq:ab q≠none) (h:π (2 * q+1)) (hp:ab p=some (some q)):π (2 * p)∧cm (2 * q+1)=some (some (2 * p)):=by
 rcases foot_from P h with ⟨_,_,z⟩ | ⟨p',h1,h2,h3⟩
 ·exact absurd z hq
 ·rw [F.inj p p' q hp h3]
  exact ⟨h1,h2⟩
theorem head_to {p q:Nat} (h:π (2 * p)) (hp:ab p=some (some q)):π (2 * q+1)∧cm (2 * q+1)=some (some (2 * p)):=by
 obtain ⟨e,he,hc⟩:=P.succ _ h (by omega)
 rcases nxt_head (P.step _ _ he hc) with ⟨z,_⟩ | ⟨q',z,rfl⟩
 ·rw [hp] at z;cases z
 ·rw [hp] at z
  cases z
  exact ⟨he,hc⟩
omit F in
theorem head_to0 {p:Nat} (h:π (2 * p)) (hp:ab p=none):π (2 * p+1)∧cm (2 * p+1)=some (some (2 * p)):=by
 obtain ⟨e,he,hc⟩:=P.succ _ h (by omega)
 rcases nxt_head (P.step _ _ he hc) with ⟨_,rfl⟩ | ⟨q',z,_⟩
 ·exact ⟨he,hc⟩
 ·rw [hp] at z;cases z
omit F in
omit F in
theorem foot_to {q:Nat} (h:π (2 * q+1)) (hq:lo q≠[]):∃ l,π (2 * l)∧cm (2 * l)=some (some (2 * q+1))∧(l∈lo q∨l=q):=by
 obtain ⟨e,he,hc⟩:=P.succ _ h (fun z=>hq ((show s=q by omega) ▸ P.spring))
 rcases nxt_foot (P.step _ _ he hc) with ⟨l,hl,rfl⟩ | rfl
 ·exact ⟨l,he,hc,.inl hl⟩
 ·exact ⟨q,he,hc,.inr rfl⟩
omit F in
theorem no_loop {p:Nat} (h1:cm (2 * p)=some (some (2 * p+1))) (h2:cm (2 * p+1)=some (some (2 * p))):False:=by
 obtain ⟨r,hr⟩:=P.rk
 have a:=hr _ _ h1
 have b:=hr _ _ h2
 omega
variable (hlt:∀ p l,l∈lo p→l<p)
include hlt
theorem lead_flow:Flow lo goal (lead ab cm π):=by
 refine ⟨fun p q h=>?_,fun p h=>?_,fun p p' q h h'=>?_,fun p h hp=>?_,fun p h=>?_⟩
 ·-- up
  by_cases hp:π (2 * p)
  ·rcases P.pred _ hp with hc | ⟨u,hu,hc⟩
   ·rw [lead_top hp hc] at h;cases h
   ·obtain ⟨q',rfl,hl⟩:=head_from P hp hc
    by_cases e:p=q'
    ·subst e
     rw [lead_out hp hc] at h;cases h
    ·rw [lead_up hp hc (by omega)] at h
     have:q'=q:=by have:=Option.some.inj (Option.some.inj h);omega
     subst this
     refine ⟨hl.resolve_right e,fun hn=>?_⟩
     -- q' is not taken out
     by_cases hq:π (2 * q')
     ·rcases P.pred _ hq with hc2 | ⟨u2,hu2,hc2⟩
      ·rw [lead_top hq hc2] at hn;cases hn
      ·obtain ⟨q2,rfl,hl2⟩:=head_from P hq hc2
       by_cases e2:q'=q2
       ·subst e2
        have:=P.uniq _ _ _ hp hq hc hc2
        omega
       ·rw [lead_up hq hc2 (by omega)] at hn;cases hn
     ·rw [lead_off hq] at hn
      rcases foot_from P hu with ⟨z,_⟩ | ⟨p3,_,_,z⟩
      ·exact hq z
      ·exact (F.up _ _ z).2 hn
  ·rw [lead_off hp] at h
   obtain ⟨h1,h2⟩:=F.up p q h
   refine ⟨h1,fun hn=>?_⟩
   by_cases hq:π (2 * q)
   ·rcases P.pred _ hq with hc2 | ⟨u2,hu2,hc2⟩
    ·rw [lead_top hq hc2] at hn;cases hn
    ·obtain ⟨q2,rfl,hl2⟩:=head_from P hq hc2
     by_cases e2:q=q2
     ·subst e2
      exact hp (foot_of F P h2 hu2 h).1
     ·rw [lead_up hq hc2 (by omega)] at hn;cases hn
   ·rw [lead_off hq] at hn
    exact h2 hn
 ·-- top
  by_cases hp:π (2 * p)
  ·rcases P.pred _ hp with hc | ⟨u,hu,hc⟩
   ·have:=(P.start _ hp hc).2
    rwa [show 2 * p / 2=p by omega] at this
   ·obtain ⟨q',rfl,hl⟩:=head_from P hp hc
    by_cases e:p=q'
    ·subst e
     rw [lead_out hp hc] at h;cases h
    ·rw [lead_up hp hc (by omega)] at h;cases h
  ·rw [lead_off hp] at h
   exact F.top p h
 ·-- inj
  have key:∀ p,lead ab cm π p=some (some q)→(π (2 * p)∧cm (2 * p)=some (some (2 * q+1)))∨(¬ π (2 * p)∧ab p=some (some q)):=fun p h=>by
   by_cases hp:π (2 * p)
   ·rcases P.pred _ hp with hc | ⟨u,hu,hc⟩
    ·rw [lead_top hp hc] at h;cases h
    ·obtain ⟨q',rfl,hl⟩:=head_from P hp hc
     by_cases e:p=q'
     ·subst e
      rw [lead_out hp hc] at h;cases h
     ·rw [lead_up hp hc (by omega)] at h
      have:q'=q:=by have:=Option.some.inj (Option.some.inj h);omega
      subst this
      exact .inl ⟨hp,hc⟩
   ·rw [lead_off hp] at h
    exact .inr ⟨hp,h⟩
  have mix:∀ a b,π (2 * a)→cm (2 * a)=some (some (2 * q+1))→¬ π (2 * b)→ab b=some (some q)→False:=fun a b ha hc hb hab=>by
   have hfq:π (2 * q+1):=by
    rcases P.pred _ ha with z | ⟨u,hu,z⟩
    ·rw [hc] at z;cases z
    ·rw [hc] at z;cases z;exact hu
   exact hb (foot_of F P (F.up _ _ hab).2 hfq hab).1
  rcases key p h with ⟨a1,a2⟩ | ⟨a1,a2⟩ <;> rcases key p' h' with ⟨b1,b2⟩ | ⟨b1,b2⟩
  ·have:=P.uniq _ _ _ a1 b1 a2 b2
   omega
  ·exact (mix p p' a1 a2 b1 b2).elim
  ·exact (mix p' p b1 b2 a1 a2).elim
  ·exact F.inj p p' q a2 b2
 ·-- src
  -- behind the foot of p a head below it
  have below:π (2 * p+1)→¬ (π (2 * p)∧cm (2 * p)=some (some (2 * p+1)))→∃ p',lead ab cm π p'=some (some p):=fun hf hno=>by
   obtain ⟨l,hl,hc,hl2⟩:=foot_to P hf hp
   rcases hl2 with hl2 | rfl
   ·have:=hlt _ _ hl2
    refine ⟨l,?_⟩
    rw [lead_up hl hc (by omega)]
    congr 2
    omega
   ·exact absurd ⟨hl,hc⟩ hno
  have old:ab p≠none→¬ (π (2 * p)∧cm (2 * p)=some (some (2 * p+1)))→∃ p',lead ab cm π p'=some (some p):=fun hab hno=>by
   obtain ⟨p0,h0⟩:=F.src p hab hp
   by_cases hp0:π (2 * p0)
   ·exact below (head_to F P hp0 h0).1 hno
   ·exact ⟨p0,by rw [lead_off hp0];exact h0⟩
  have hno:¬ (π (2 * p)∧cm (2 * p)=some (some (2 * p+1))):=fun ⟨z1,z2⟩=>h (lead_out z1 z2)
  by_cases hab:ab p=none
  ·by_cases hpi:π (2 * p)
   ·exact below (head_to0 P hpi hab).1 hno
   ·rw [lead_off hpi] at h
    exact absurd hab h
  ·exact old hab hno
 ·-- goals
  intro hg
  have:=P.far p hg
  rw [lead_off this.1] at h
  exact F.ng p h hg
theorem lead_springs:ab s=none∧lead ab cm π s≠none∧∀ t,lo t=[]→t≠s→(lead ab cm π t≠none ↔ ab t≠none):=by
 have hs:π (2 * s)∧cm (2 * s+1)=some (some (2 * s))∧ab s=none:=by
  rcases foot_from P P.fin with z | ⟨p,_,_,z⟩
  ·exact z
  ·have:=(F.up _ _ z).1
   rw [P.spring] at this
   simp at this
 refine ⟨hs.2.2,fun hn=>?_,fun t ht hts=>?_⟩
 ·rcases P.pred _ hs.1 with hc | ⟨u,hu,hc⟩
  ·rw [lead_top hs.1 hc] at hn;cases hn
  ·obtain ⟨q,rfl,hl⟩:=head_from P hs.1 hc
   by_cases e:s=q
   ·subst e
    exact no_loop P hc hs.2.1
   ·rw [lead_up hs.1 hc (by omega)] at hn;cases hn
 ·by_cases hp:π (2 * t)
  ·have hab:ab t≠none:=fun z=>hts (P.one t (head_to0 P hp z).1 ht)
   refine ⟨fun _=>hab,fun _ hn=>?_⟩
   rcases P.pred _ hp with hc | ⟨u,hu,hc⟩
   ·rw [lead_top hp hc] at hn;cases hn
   ·obtain ⟨q,rfl,hl⟩:=head_from P hp hc
    by_cases e:t=q
    ·subst e
     exact hts (P.one _ hu ht)
    ·rw [lead_up hp hc (by omega)] at hn;cases hn
  ·rw [lead_off hp]
end
end MZ
namespace MZ
variable {lo:Nat→List Nat}{goal:Nat→Prop}{ab:Ab}
abbrev Cs:=List (Nat × Option Nat)
def cmOf (cs:Cs):Cm:=fun e=>(cs.find? fun x=>decide (x.1=e)).map (·.2)
def keys (cs:Cs):List Nat:=cs.map (·.1)
theorem cm_mem {cs:Cs} (nd:(keys cs).Nodup) {e:Nat}{f:Option Nat}:cmOf cs e=some f ↔ (e,f)∈cs:=by
 unfold cmOf
 induction cs with
 | nil=>simp
 | cons x r ih =>
  obtain ⟨a,b⟩:=x
  unfold keys at nd ih
  rw [List.map_cons,List.nodup_cons] at nd
  by_cases h:a=e
  ·subst h
   rw [List.find?_cons_of_pos (by simp),Option.map_some,List.mem_cons]
   constructor
   ·intro z
    cases z
    exact .inl rfl
   ·rintro (z | z)
    ·cases z;rfl
    ·exact absurd (List.mem_map.mpr ⟨_,z,rfl⟩) nd.1
  ·rw [List.find?_cons_of_neg (by simpa using h),ih nd.2,List.mem_cons]
   constructor
   ·exact .inr
   ·rintro (z | z)
    ·cases z;exact absurd rfl h
    ·exact z
structure Came (lo:Nat→List Nat) (goal:Nat→Prop) (ab:Ab) (cs:Cs):Prop where
 nd:(keys cs).Nodup
 from_:∀ (i:Nat) e u,cs[i]? = some (e,some u)→(∃ (j:Nat) (f:Option Nat),j<i∧cs[j]? = some (u,f))∧e∈nxt lo ab u∧∀ t,u=2 * t+1→lo t≠[]
 start:∀ e,(e,none)∈cs→e % 2=0∧∃ g,goal g∧e / 2∈lo g
 all:∀ g l,goal g→l∈lo g→(2 * l,none)∈cs
theorem Came.snoc {cs:Cs} (c:Came lo goal ab cs) {e u:Nat} (hu:u∈keys cs) (he:e ∉ keys cs) (hn:e∈nxt lo ab u) (hs:∀ t,u=2 * t+1→lo t≠[]):Came lo goal ab (cs ++ [(e,some u)]):=by
 refine ⟨?_,fun i e' u' h=>?_,fun e' h=>?_,fun g l hg hl=>List.mem_append_left _ (c.all g l hg hl)⟩
 ·unfold keys at he ⊢
  rw [List.map_append,List.nodup_append]
  refine ⟨c.nd,by simp,fun x hx y hy z=>?_⟩
  simp only [List.map_cons,List.map_nil,List.mem_singleton] at hy
  subst hy
  subst z
  exact he hx
 ·rcases Nat.lt_or_ge i cs.length with l | l
  ·rw [List.getElem?_append_left l] at h
   obtain ⟨⟨j,f,hj,hj2⟩,h2⟩:=c.from_ i e' u' h
   exact ⟨⟨j,f,hj,by rw [List.getElem?_append_left (by omega)];exact hj2⟩,h2⟩
  ·have hi:i=cs.length:=by
    have:=(List.getElem?_eq_some_iff.mp h).1
    rw [List.length_append] at this
    simp at this
    omega
   subst hi
   rw [List.getElem?_append_right (Nat.le_refl _),Nat.sub_self] at h
   cases h
   obtain ⟨x,hx,e1⟩:=List.mem_map.mp hu
   obtain ⟨j,hj⟩:=List.mem_iff_getElem?.mp hx
   obtain ⟨a,b⟩:=x
   cases e1
   have hjl:=(List.getElem?_eq_some_iff.mp hj).1
   exact ⟨⟨j,b,hjl,by rw [List.getElem?_append_left hjl];exact hj⟩,hn,hs⟩
 ·rcases List.mem_append.mp h with z | z
  ·exact c.start e' z
  ·rw [List.mem_singleton] at z
   cases z
inductive On (cm:Cm) (t:Nat):Nat→Prop where
 | here:On cm t t
 | up {e u:Nat} (h:On cm t e) (hc:cm e=some (some u)):On cm t u
def it (cm:Cm) (t:Nat):Nat→Option Nat
 | 0=>some t
 | i+1=>(it cm t i).bind fun e=>(cm e).join
theorem On.it {cm:Cm}{t e:Nat} (h:On cm t e):∃ i,MZ.it cm t i=some e:=by
 induction h with
 | here=>exact ⟨0,rfl⟩
 | up h hc ih =>
  obtain ⟨i,hi⟩:=ih
  exact ⟨i+1,by show (MZ.it cm t i).bind _=_;rw [hi];show (cm _).join=_;rw [hc];rfl⟩
theorem it_rk {cm:Cm}{t:Nat}{r:Nat→Nat} (hr:∀ e u,cm e=some (some u)→r u<r e):∀ {i j a b:Nat},i<j→it cm t i=some a→it cm t j=some b→r b<r a:=by
 have one:∀ {i a b:Nat},it cm t i=some a→it cm t (i+1)=some b→r b<r a:=fun {i a b} ha hb=>by
  have hb:(it cm t i).bind (fun e=>(cm e).join)=some b:=hb
  rw [ha] at hb
  have hb:(cm a).join=some b:=hb
  refine hr a b ?_
  cases h:cm a with
  | none=>rw [h] at hb;cases hb
  | some o=>rw [h] at hb;rw [show o=some b from hb]
 intro i j a b hij ha hb
 induction j generalizing b with
 | zero=>omega
 | succ j ih =>
  cases hj:it cm t j with
  | none =>
   have hb:(it cm t j).bind (fun e=>(cm e).join)=some b:=hb
   rw [hj] at hb
   cases hb
  | some c =>
   have h1:=one hj hb
   by_cases e:i=j
   ·subst e
    rw [ha] at hj
    cases hj
    exact h1
   ·exact Nat.lt_trans h1 (ih (by omega) hj)
theorem Came.path {cs:Cs} (c:Came lo goal ab cs) (F:Flow lo goal ab) (hg:∀ g,goal g→lo g≠[]) {s:Nat} (hs:lo s=[]) (hk:2 * s+1∈keys cs):Path lo goal ab (cmOf cs) (On (cmOf cs) (2 * s+1)) s:=by
 have fr:∀ e u,cmOf cs e=some (some u)→u∈keys cs∧e∈nxt lo ab u∧(∀ t,u=2 * t+1→lo t≠[])∧(keys cs).idxOf u<(keys cs).idxOf e:=fun e u h=>by
  obtain ⟨i,hi⟩:=List.mem_iff_getElem?.mp ((cm_mem c.nd).mp h)
  obtain ⟨⟨j,f,hj,hj2⟩,h2,h3⟩:=c.from_ i e u hi
  have hil:=(List.getElem?_eq_some_iff.mp hi).1
  have key:∀ {k:Nat}{x:Nat}{y:Option Nat},cs[k]? = some (x,y)→(keys cs).idxOf x=k:=fun {k x y} hk=>by
   have hkl:=(List.getElem?_eq_some_iff.mp hk).1
   have e1:(keys cs)[k]'(by unfold keys;rw [List.length_map];exact hkl)=x:=by
    unfold keys
    rw [List.getElem_map,(List.getElem?_eq_some_iff.mp hk).2]
   rw [← e1]
   exact c.nd.idxOf_getElem k _
  exact ⟨List.mem_map.mpr ⟨_,List.mem_of_getElem? hj2,rfl⟩,h2,h3,by rw [key hi,key hj2];exact hj⟩
 have rk:∀ e u,cmOf cs e=some (some u)→(keys cs).idxOf u<(keys cs).idxOf e:=fun e u h=>(fr e u h).2.2.2
 have inK:∀ e,On (cmOf cs) (2 * s+1) e→e∈keys cs:=fun e h=>by
  cases h with
  | here=>exact hk
  | up h hc=>exact (fr _ _ hc).1
 have got:∀ e,e∈keys cs→∃ f,cmOf cs e=some f:=fun e h=>by
  obtain ⟨x,hx,rfl⟩:=List.mem_map.mp h
  exact ⟨x.2,(cm_mem c.nd).mpr hx⟩
 have succ:∀ e,On (cmOf cs) (2 * s+1) e→e≠2 * s+1→∃ e',On (cmOf cs) (2 * s+1) e'∧cmOf cs e'=some (some e):=fun e h hne=>by
  cases h with
  | here=>exact absurd rfl hne
  | up h hc=>exact ⟨_,h,hc⟩
 have ft:∀ p,goal p→¬ On (cmOf cs) (2 * s+1) (2 * p+1):=fun p hp h=>by
  have hlp:=hg p hp
  have hab:ab p=none:=Classical.byContradiction fun z=>F.ng p z hp
  obtain ⟨e',he',hc'⟩:=succ _ h (fun z=>hlp ((show s=p by omega) ▸ hs))
  have hst:=(fr _ _ hc').2.1
  rcases nxt_foot hst with ⟨l,hl,rfl⟩ | rfl
  ·have:=(cm_mem c.nd).mpr (c.all p l hp hl)
   rw [hc'] at this
   cases this
  ·obtain ⟨f,hf⟩:=got _ (inK _ h)
   cases f with
   | none =>
    have:=(c.start _ ((cm_mem c.nd).mp hf)).1
    omega
   | some u =>
    have hst2:=(fr _ _ hf).2.1
    rcases (by omega:u=2 * (u / 2)∨u=2 * (u / 2)+1) with e | e
    ·rw [e] at hst2 hf
     rcases nxt_head hst2 with ⟨_,z⟩ | ⟨q,z,z2⟩
     ·rw [show u / 2=p by omega] at hf
      have a1:=rk _ _ hf
      have a2:=rk _ _ hc'
      omega
     ·rw [show q=p by omega] at z
      exact (F.up _ _ z).2 hab
    ·rw [e] at hst2
     rcases nxt_foot hst2 with ⟨l,_,z⟩ | z <;> omega
 refine ⟨succ,fun e h=>?_,fun e e' u h h' hc hc'=>?_,fun e u h hc=>(fr _ _ hc).2.1,fun e h hc=>c.start e ((cm_mem c.nd).mp hc),.here,hs,fun t h ht=>?_,fun p hp=>⟨fun h=>?_,ft p hp⟩,⟨_,rk⟩⟩
 ·obtain ⟨f,hf⟩:=got _ (inK e h)
  cases f with
  | none=>exact .inl hf
  | some u=>exact .inr ⟨u,.up h hf,hf⟩
 ·obtain ⟨i,hi⟩:=h.it
  obtain ⟨j,hj⟩:=h'.it
  have ui:it (cmOf cs) (2 * s+1) (i+1)=some u:=by show (it _ _ i).bind _=_;rw [hi];show (cmOf cs e).join=_;rw [hc];rfl
  have uj:it (cmOf cs) (2 * s+1) (j+1)=some u:=by show (it _ _ j).bind _=_;rw [hj];show (cmOf cs e').join=_;rw [hc'];rfl
  rcases Nat.lt_trichotomy i j with l | l | l
  ·have:=it_rk rk (show i+1<j+1 by omega) ui uj
   omega
  ·subst l
   rw [hi] at hj
   exact Option.some.inj hj
  ·have:=it_rk rk (show j+1<i+1 by omega) uj ui
   omega
 ·by_cases e:2 * t+1=2 * s+1
  ·omega
  ·obtain ⟨e',he',hc'⟩:=succ _ h e
   exact absurd ht ((fr _ _ hc').2.2.1 t rfl)
 ·have hab:ab p=none:=Classical.byContradiction fun z=>F.ng p z hp
  obtain ⟨e',he',hc'⟩:=succ _ h (by omega)
  rcases nxt_head (fr _ _ hc').2.1 with ⟨_,rfl⟩ | ⟨q,z,_⟩
  ·exact ft p hp he'
  ·rw [hab] at z;cases z
end MZ
namespace MZ
variable {lo:Nat→List Nat}{goal:Nat→Prop}{ab:Ab}
inductive Wy (ab:Ab) (t:Nat):Nat→Prop where
 | here:Wy ab t t
 | up {p q:Nat} (h:Wy ab t p) (hp:ab p=some (some q)):Wy ab t q
theorem Wy.trans {t p q:Nat} (h:Wy ab t p) (g:Wy ab p q):Wy ab t q:=by
 induction g with
 | here=>exact h
 | up _ hp ih=>exact ih.up hp
theorem Wy.lin {t x y:Nat} (h:Wy ab t x) (g:Wy ab t y):Wy ab x y∨Wy ab y x:=by
 induction h with
 | here=>exact .inl g
 | @up p q h hp ih =>
  rcases ih with z | z
  ·cases z with
   | here=>exact .inr (Wy.here.up hp)
   | @up p' _ z hp' =>
    -- p comes to y by at least one step, the first of which is to q
    have key:∀ {a b:Nat},Wy ab a b→a=b∨∃ c,ab a=some (some c)∧Wy ab c b:=fun {a b} w=>by
     induction w with
     | here=>exact .inl rfl
     | @up u v w hu ih2 =>
      rcases ih2 with rfl | ⟨c,hc,w2⟩
      ·exact .inr ⟨v,hu,.here⟩
      ·exact .inr ⟨c,hc,w2.up hu⟩
    rcases key (z.up hp') with e | ⟨c,hc,w⟩
    ·subst e
     exact .inr (Wy.here.up hp)
    ·rw [hp] at hc
     cases hc
     exact .inl w
  ·exact .inr (z.up hp)
theorem Wy.dom {t p:Nat} (F:Flow lo goal ab) (ht:ab t≠none) (h:Wy ab t p):ab p≠none:=by
 cases h with
 | here=>exact ht
 | up _ hp=>exact (F.up _ _ hp).2
theorem wy_ex (F:Flow lo goal ab) (hlt:∀ p l,l∈lo p→l<p):∀ p,ab p≠none→∃ t,lo t=[]∧ab t≠none∧Wy ab t p:=by
 intro p
 induction p using Nat.strongRecOn with
 | _ p ih =>
  intro hp
  by_cases hs:lo p=[]
  ·exact ⟨p,hs,hp,.here⟩
  ·obtain ⟨q,hq⟩:=F.src p hp hs
   obtain ⟨t,h1,h2,h3⟩:=ih q (hlt _ _ (F.up _ _ hq).1) (by rw [hq];simp)
   exact ⟨t,h1,h2,h3.up hq⟩
theorem wy_uniq (F:Flow lo goal ab) {t t' p:Nat} (h:Wy ab t p) (g:Wy ab t' p) (ht:lo t=[]) (ht':lo t'=[]):t=t':=by
 induction h with
 | here =>
  cases g with
  | here=>rfl
  | up g hp=>have:=(F.up _ _ hp).1;rw [ht] at this;simp at this
 | up h hp ih =>
  cases g with
  | here=>have:=(F.up _ _ hp).1;rw [ht'] at this;simp at this
  | up g hp'=>exact ih (F.inj _ _ _ hp hp' ▸ g)
theorem wy_top (F:Flow lo goal ab) (hlt:∀ p l,l∈lo p→l<p) {n:Nat} (hn:∀ p,ab p≠none→p<n):∀ (k p:Nat),n - p≤k→ab p≠none→∃ x,Wy ab p x∧ab x=some none
 | 0,p,hk,hp=>by have:=hn p hp;omega
 | k+1,p,hk,hp=>by
  cases h:ab p with
  | none=>exact absurd h hp
  | some o =>
   cases o with
   | none=>exact ⟨p,.here,h⟩
   | some q =>
    have h1:=hlt _ _ (F.up _ _ h).1
    have h2:=hn p hp
    obtain ⟨x,hx,ht⟩:=wy_top F hlt hn k q (by omega) (F.up _ _ h).2
    exact ⟨x,(Wy.here.up h).trans hx,ht⟩
structure Shut (lo:Nat→List Nat) (goal:Nat→Prop) (ab:Ab) (K:Nat→Prop):Prop where
 all:∀ g l,goal g→l∈lo g→K (2 * l)
 shut:∀ e e',K e→e'∈nxt lo ab e→K e'
 dry:∀ t,K (2 * t+1)→lo t≠[]
def Stop (K:Nat→Prop) (p:Nat):Prop:=K (2 * p)∧¬ K (2 * p+1)
section
variable {K:Nat→Prop} (S:Shut lo goal ab K)
include S
theorem Shut.low {p l:Nat} (h:K (2 * p+1)) (hl:l∈lo p):K (2 * l):=by
 refine S.shut _ _ h ?_
 unfold nxt
 rw [if_pos (by omega),show (2 * p+1) / 2=p by omega]
 exact List.mem_append_left _ (List.mem_map.mpr ⟨l,hl,rfl⟩)
theorem Shut.own {p:Nat} (h:K (2 * p+1)):K (2 * p):=by
 refine S.shut _ _ h ?_
 unfold nxt
 rw [if_pos (by omega),show (2 * p+1) / 2=p by omega]
 exact List.mem_append_right _ (List.mem_singleton.mpr rfl)
theorem Shut.free {p:Nat} (h:K (2 * p)) (hp:ab p=none):K (2 * p+1):=by
 refine S.shut _ _ h ?_
 unfold nxt
 rw [if_neg (by omega),show 2 * p / 2=p by omega,hp]
 exact List.mem_singleton.mpr rfl
theorem Shut.next {p q:Nat} (h:K (2 * p)) (hp:ab p=some (some q)):K (2 * q+1):=by
 refine S.shut _ _ h ?_
 unfold nxt
 rw [if_neg (by omega),show 2 * p / 2=p by omega,hp]
 exact List.mem_singleton.mpr rfl
theorem stop_dom {p:Nat} (h:Stop K p):ab p≠none:=fun z=>h.2 (S.free h.1 z)
theorem stop_on (F:Flow lo goal ab) {t p:Nat} (ht:lo t=[]) (h:Wy ab t p) (hk:K (2 * p)):∃ x,Wy ab t x∧Stop K x:=by
 induction h with
 | here=>exact ⟨_,.here,hk,fun z=>S.dry _ z ht⟩
 | @up p q h hp ih =>
  by_cases hf:K (2 * q+1)
  ·exact ih (S.low hf (F.up _ _ hp).1)
  ·exact ⟨q,h.up hp,hk,hf⟩
theorem stop_run {x y:Nat} (h:Wy ab x y) (hk:K (2 * x)):x=y∨K (2 * y+1):=by
 induction h with
 | here=>exact .inl rfl
 | @up p q h hp ih =>
  rcases ih with rfl | z
  ·exact .inr (S.next hk hp)
  ·exact .inr (S.next (S.own z) hp)
theorem stop_one {t x y:Nat} (hx:Wy ab t x) (hy:Wy ab t y) (sx:Stop K x) (sy:Stop K y):x=y:=by
 rcases hx.lin hy with z | z
 ·rcases stop_run S z sx.1 with e | e
  ·exact e
  ·exact absurd e sy.2
 ·rcases stop_run S z sy.1 with e | e
  ·exact e.symm
  ·exact absurd e sx.2
end
theorem len_le {α β:Type} [DecidableEq β] {R:α→β→Prop} (uni:∀ a a' b,R a b→R a' b→a=a'):∀ {A:List α}{B:List β},A.Nodup→(∀ a∈A,∃ b∈B,R a b)→A.length≤B.length
 | [],B,_,_=>Nat.zero_le _
 | a :: A,B,nd,h=>by
  rw [List.nodup_cons] at nd
  obtain ⟨b,hb,hr⟩:=h a (List.mem_cons_self ..)
  have:=len_le uni (A:=A) (B:=B.erase b) nd.2 fun a' ha'=>by
   obtain ⟨b',hb',hr'⟩:=h a' (List.mem_cons_of_mem _ ha')
   refine ⟨b',?_,hr'⟩
   refine (List.mem_erase_of_ne fun e=>?_).mpr hb'
   subst e
   rw [uni a a' b' hr hr'] at nd
   exact nd.1 ha'
  rw [List.length_erase_of_mem hb] at this
  have:0<B.length:=List.length_pos_of_mem hb
  rw [List.length_cons]
  omega
theorem stop_count {K:Nat→Prop} (S:Shut lo goal ab K) (F:Flow lo goal ab) (hlt:∀ p l,l∈lo p→l<p) {n:Nat} (hn:∀ p,ab p≠none→p<n) {A B:List Nat} (nA:A.Nodup) (nB:B.Nodup) (hA:∀ t,t∈A ↔ lo t=[]∧ab t≠none) (hB:∀ p,p∈B ↔ Stop K p):A.length=B.length:=by
 refine Nat.le_antisymm (len_le (R:=fun t p=>Wy ab t p∧lo t=[]) (fun a a' b h h'=>wy_uniq F h.1 h'.1 h.2 h'.2) nA fun t ht=>?_) (len_le (R:=fun p t=>Wy ab t p∧Stop K p) (fun a a' b h h'=>stop_one S h.1 h'.1 h.2 h'.2) nB fun p hp=>?_)
 ·obtain ⟨h1,h2⟩:=(hA t).mp ht
  obtain ⟨x,hx,ho⟩:=wy_top F hlt hn _ t (Nat.le_refl _) h2
  obtain ⟨g,hg,hl⟩:=F.top x ho
  obtain ⟨y,hy,hst⟩:=stop_on S F h1 hx (S.all g x hg hl)
  exact ⟨y,(hB y).mpr hst,hy,h1⟩
 ·have hst:=(hB p).mp hp
  obtain ⟨t,h1,h2,h3⟩:=wy_ex F hlt p (stop_dom S hst)
  exact ⟨t,(hA t).mpr ⟨h1,h2⟩,h3,hst⟩
end MZ
namespace MZ
def putA (as:Cs) (p:Nat) (o:Option Nat):Cs:=if (as.any fun x=>decide (x.1=p))=true then as.map (fun x=>if x.1=p then (x.1,o) else x) else as ++ [(p,o)]
def dropA (as:Cs) (p:Nat):Cs:=as.filter fun x=>decide (x.1≠p)
theorem any_keys (as:Cs) (p:Nat):(as.any fun x=>decide (x.1=p))=true ↔ p∈keys as:=by
 unfold keys
 rw [List.any_eq_true,List.mem_map]
 constructor
 ·rintro ⟨x,hx,e⟩;exact ⟨x,hx,of_decide_eq_true e⟩
 ·rintro ⟨x,hx,e⟩;exact ⟨x,hx,decide_eq_true e⟩
theorem cm_none {as:Cs}{p:Nat}:cmOf as p=none ↔ p ∉ keys as:=by
 unfold cmOf keys
 rw [Option.map_eq_none_iff,List.find?_eq_none,List.mem_map]
 constructor
 ·rintro h ⟨x,hx,e⟩
  exact h x hx (decide_eq_true e)
 ·intro h x hx e
  exact h ⟨x,hx,of_decide_eq_true e⟩
theorem cm_some {as:Cs}{p:Nat}:cmOf as p≠none ↔ p∈keys as:=by
 rw [ne_eq,cm_none]
 exact Classical.not_not
theorem keys_put (as:Cs) (p:Nat) (o:Option Nat):keys (putA as p o)=if p∈keys as then keys as else keys as ++ [p]:=by
 unfold putA
 by_cases h:p∈keys as
 ·rw [if_pos ((any_keys as p).mpr h),if_pos h]
  unfold keys
  rw [List.map_map]
  refine List.map_congr_left fun x _=>?_
  show (if x.1=p then (x.1,o) else x).1=x.1
  split <;> rfl
 ·rw [if_neg (fun z=>h ((any_keys as p).mp z)),if_neg h]
  unfold keys
  rw [List.map_append]
  rfl
theorem nd_put {as:Cs} (nd:(keys as).Nodup) (p:Nat) (o:Option Nat):(keys (putA as p o)).Nodup:=by
 rw [keys_put]
 split
 ·exact nd
 ·rename_i h
  rw [List.nodup_append]
  refine ⟨nd,by simp,fun x hx y hy e=>?_⟩
  rw [List.mem_singleton] at hy
  subst hy e
  exact h hx
theorem cm_put {as:Cs} (nd:(keys as).Nodup) (p:Nat) (o:Option Nat) (q:Nat):cmOf (putA as p o) q=if q=p then some o else cmOf as q:=by
 have nd':=nd_put nd p o
 have mem:∀ f,(q,f)∈putA as p o ↔ if q=p then f=o else (q,f)∈as:=fun f=>by
  unfold putA
  by_cases h:p∈keys as
  ·rw [if_pos ((any_keys as p).mpr h),List.mem_map]
   by_cases e:q=p
   ·subst e
    rw [if_pos rfl]
    constructor
    ·rintro ⟨x,_,hx⟩
     by_cases hq:x.1=q
     ·rw [if_pos hq] at hx;cases hx;rfl
     ·rw [if_neg hq] at hx;rw [hx] at hq;exact absurd rfl hq
    ·rintro rfl
     obtain ⟨x,hx,e⟩:=List.mem_map.mp h
     exact ⟨x,hx,by rw [if_pos e,e]⟩
   ·rw [if_neg e]
    constructor
    ·rintro ⟨x,hm,hx⟩
     by_cases hq:x.1=p
     ·rw [if_pos hq] at hx;cases hx;exact absurd hq e
     ·rw [if_neg hq] at hx;rw [← hx];exact hm
    ·intro hm
     exact ⟨_,hm,by rw [if_neg e]⟩
  ·rw [if_neg (fun z=>h ((any_keys as p).mp z)),List.mem_append,List.mem_singleton]
   by_cases e:q=p
   ·subst e
    rw [if_pos rfl]
    constructor
    ·rintro (z | z)
     ·exact absurd (List.mem_map.mpr ⟨_,z,rfl⟩) h
     ·cases z;rfl
    ·rintro rfl;exact .inr rfl
   ·rw [if_neg e]
    constructor
    ·rintro (z | z)
     ·exact z
     ·cases z;exact absurd rfl e
    ·exact .inl
 by_cases e:q=p
 ·rw [if_pos e]
  exact (cm_mem nd').mpr ((mem o).mpr (by rw [if_pos e]))
 ·rw [if_neg e]
  cases h:cmOf as q with
  | some f=>exact (cm_mem nd').mpr ((mem f).mpr (by rw [if_neg e];exact (cm_mem nd).mp h))
  | none =>
   rw [cm_none] at h ⊢
   rw [keys_put]
   split
   ·exact h
   ·rw [List.mem_append,List.mem_singleton]
    exact fun z=>z.elim h e
theorem nd_drop {as:Cs} (nd:(keys as).Nodup) (p:Nat):(keys (dropA as p)).Nodup:=by
 unfold keys dropA
 exact List.Pairwise.sublist ((List.filter_sublist).map _) nd
theorem cm_drop {as:Cs} (nd:(keys as).Nodup) (p q:Nat):cmOf (dropA as p) q=if q=p then none else cmOf as q:=by
 have nd':=nd_drop nd p
 by_cases e:q=p
 ·rw [if_pos e,cm_none]
  intro h
  obtain ⟨x,hx,e2⟩:=List.mem_map.mp h
  have:=(List.mem_filter.mp hx).2
  simp at this
  exact this (e2.trans e)
 ·rw [if_neg e]
  cases h:cmOf as q with
  | some f=>exact (cm_mem nd').mpr (List.mem_filter.mpr ⟨(cm_mem nd).mp h,by simpa using e⟩)
  | none =>
   rw [cm_none] at h ⊢
   intro z
   obtain ⟨x,hx,e2⟩:=List.mem_map.mp z
   exact h (List.mem_map.mpr ⟨x,(List.mem_filter.mp hx).1,e2⟩)
def upTo (cm:Cm) (t i:Nat) (e:Nat):Prop:=∃ j,j<i∧it cm t j=some e
theorem upTo_on {cm:Cm}{t i:Nat}{e:Nat} (h:it cm t i=none):upTo cm t i e ↔ On cm t e:=by
  have on:∀ {j a},it cm t j=some a→On cm t a:=by
    intro j
    induction j with
    | zero=>intro a ha;cases ha;exact .here
    | succ j ih =>
      intro a ha
      have ha:(it cm t j).bind (fun e=>(cm e).join)=some a:=ha
      cases hj:it cm t j with
      | none=>rw [hj] at ha;cases ha
      | some b =>
        rw [hj] at ha
        have ha:(cm b).join=some a:=ha
        refine (ih hj).up ?_
        cases hc:cm b with
        | none=>rw [hc] at ha;cases ha
        | some o=>rw [hc] at ha;rw [show o=some a from ha]
  have none_from:∀ j,i≤j→it cm t j=none:=by
    intro j
    induction j with
    | zero => intro hj; have : i = 0 := by omega
              subst this;exact h
    | succ j ih =>
      intro hj
      by_cases e:i=j+1
      · subst e;exact h
      · show (it cm t j).bind _=none
        rw [ih (by omega)]
        rfl
  constructor
  · rintro ⟨j,_,hj⟩
    exact on hj
  · intro ho
    obtain ⟨j,hj⟩:=ho.it
    refine ⟨j,Nat.lt_of_not_le fun hle=>?_,hj⟩
    rw [none_from j hle] at hj
    cases hj
theorem lead_congr {ab:Ab}{cm:Cm}{π π':Nat→Prop} (h:∀ e,π e ↔ π' e):lead ab cm π=lead ab cm π':=by
 have:π=π':=funext fun e=>propext (h e)
 rw [this]
theorem lead_zero {ab:Ab}{cm:Cm}{t:Nat}:lead ab cm (upTo cm t 0)=ab:=by
 funext p
 exact lead_off (fun ⟨j,hj,_⟩=>by omega)
theorem lead_other {ab:Ab}{cm:Cm}{t i e p:Nat} (h:it cm t i=some e) (hp:2 * p≠e):lead ab cm (upTo cm t (i+1)) p=lead ab cm (upTo cm t i) p:=by
 have:upTo cm t (i+1) (2 * p) ↔ upTo cm t i (2 * p):=by
  constructor
  ·rintro ⟨j,hj,hj2⟩
   by_cases e1:j=i
   ·subst e1;rw [h] at hj2;exact absurd (Option.some.inj hj2).symm hp
   ·exact ⟨j,by omega,hj2⟩
  ·rintro ⟨j,hj,hj2⟩
   exact ⟨j,by omega,hj2⟩
 unfold lead
 by_cases g:upTo cm t i (2 * p)
 ·rw [if_pos g,if_pos (this.mpr g)]
 ·rw [if_neg g,if_neg (fun z=>g (this.mp z))]
theorem upTo_self {cm:Cm}{t i e:Nat} (h:it cm t i=some e):upTo cm t (i+1) e:=⟨i,by omega,h⟩
end MZ
namespace ML
open MZ
inductive Dn (lo:Nat→List Nat) (k:Nat):Nat→Prop where
 | here:Dn lo k k
 | low {y x:Nat} (h:Dn lo k y) (hx:x∈lo y):Dn lo k x
inductive Leak (lo:Nat→List Nat) (C:Nat→Prop):Nat→Prop where
 | spring {p:Nat}:¬ C p→lo p=[]→Leak lo C p
 | up {p l:Nat}:¬ C p→l∈lo p→Leak lo C l→Leak lo C p
variable {lo:Nat→List Nat}
theorem Dn.trans {k y x:Nat} (h:Dn lo k y) (g:Dn lo y x):Dn lo k x:=by
 induction g with
 | here=>exact h
 | low _ hx ih=>exact ih.low hx
theorem Dn.le (hlt:∀ p l,l∈lo p→l<p) {k x:Nat} (h:Dn lo k x):x≤k:=by
 induction h with
 | here=>exact Nat.le_refl _
 | low _ hx ih=>have:=hlt _ _ hx;omega
theorem Dn.first {k x:Nat} (h:Dn lo k x):x=k∨∃ l∈lo k,Dn lo l x:=by
 induction h with
 | here=>exact .inl rfl
 | low _ hx ih =>
  rcases ih with rfl | ⟨l,hl,g⟩
  ·exact .inr ⟨_,hx,.here⟩
  ·exact .inr ⟨l,hl,g.low hx⟩
theorem Leak.lift {C:Nat→Prop}{k z:Nat} (h:Dn lo k z) (hC:∀ y,Dn lo k y→Dn lo y z→¬ C y) (w:Leak lo C z):Leak lo C k:=by
 induction h with
 | here=>exact w
 | @low y x h hx ih=>exact ih (fun v h1 h2=>hC v h1 (h2.low hx)) (.up (hC y h (.low .here hx)) hx w)
theorem leak_none (hlt:∀ p l,l∈lo p→l<p):∀ n p:Nat,p<n→Leak lo (fun c=>c∈([]:List Nat)) p:=by
 intro n
 induction n with
 | zero=>intro p hp;omega
 | succ n ih =>
  intro p hp
  cases h:lo p with
  | nil=>exact .spring (by simp) h
  | cons x r =>
   have hx:x∈lo p:=by rw [h];exact List.mem_cons_self ..
   exact .up (by simp) hx (ih x (by have:=hlt p x hx;omega))
theorem leak_wy {ab:Ab}{goal:Nat→Prop}{C:Nat→Prop} (F:Flow lo goal ab) {t:Nat} (ht:lo t=[]) {p:Nat} (h:Wy ab t p) (hC:∀ x,Wy ab t x→¬ C x):Leak lo C p:=by
 induction h with
 | here=>exact .spring (hC _ .here) ht
 | up h hp ih=>exact .up (hC _ (h.up hp)) (F.up _ _ hp).1 ih
theorem leak_shut {ab:Ab}{goal:Nat→Prop}{K:Nat→Prop} (S:Shut lo goal ab K) {C:Nat→Prop} (hC:∀ p,Stop K p→C p) {x:Nat} (h:Leak lo C x):¬ K (2 * x):=by
 induction h with
 | spring nb hl =>
  intro hk
  exact nb (hC _ ⟨hk,fun z=>S.dry _ z hl⟩)
 | up nb hl _ ih =>
  intro hk
  exact nb (hC _ ⟨hk,fun z=>ih (S.low z hl)⟩)
theorem wy_dn {ab:Ab}{goal:Nat→Prop} (F:Flow lo goal ab) {p x:Nat} (h:Wy ab p x):Dn lo x p:=by
 induction h with
 | here=>exact .here
 | up h hp ih=>exact (Dn.low .here (F.up _ _ hp).1).trans ih
structure Lab (lo:Nat→List Nat) (lv:Nat→Nat) (s k:Nat) (C:List Nat):Prop where
 mono:∀ l∈lo k,lv l≤lv k
 ris:C.Pairwise (· < ·)
 len:C.length≤s
 dn:∀ c∈C,Dn lo k c∧c≠k
 le:∀ c∈C,lv c+1≤lv k
 dry:∀ l∈lo k,¬ Leak lo (fun c=>c∈C) l
 low:∀ B:List Nat,B.length≤s→(∀ l∈lo k,¬ Leak lo (fun c=>c∈B) l)→∃ c∈B,lv k≤lv c+1
theorem Lab.top {lv:Nat→Nat}{s k:Nat}{C:List Nat} (h:Lab lo lv s k C):∃ c∈C,lv c+1=lv k:=by
 obtain ⟨c,hc,z⟩:=h.low C h.len h.dry
 have:=h.le c hc
 exact ⟨c,hc,by omega⟩
theorem Lab.ext {lv lv':Nat→Nat}{s k:Nat}{C:List Nat} (hlt:∀ p l,l∈lo p→l<p) (h:Lab lo lv s k C) (he:∀ x,x≤k→lv' x=lv x) (hm:∀ x,lv x≤lv' x):Lab lo lv' s k C where
 mono:=fun l hl=>by
  rw [he k (Nat.le_refl _),he l (by have:=hlt k l hl;omega)]
  exact h.mono l hl
 ris:=h.ris
 len:=h.len
 dn:=h.dn
 le:=fun c hc=>by
  rw [he k (Nat.le_refl _),he c ((h.dn c hc).1.le hlt)]
  exact h.le c hc
 dry:=h.dry
 low:=fun B hB hd=>by
  obtain ⟨c,hc,z⟩:=h.low B hB hd
  exact ⟨c,hc,by rw [he k (Nat.le_refl _)];have:=hm c;omega⟩
section
variable {lv:Nat→Nat}{s k g:Nat} (hlt:∀ p l,l∈lo p→l<p) (hne:lo k≠[])
include hlt
theorem mono_dn (hm:∀ y,y<k→∀ l∈lo y,lv l≤lv y) {y x:Nat} (h:Dn lo y x) (hy:y<k):lv x≤lv y:=by
 induction h with
 | here=>exact Nat.le_refl _
 | @low z x h hx ih =>
  have:=h.le hlt
  have:=hm z (by omega) x hx
  omega
include hne
theorem dry_low:∀ l∈lo k,¬ Leak lo (fun c=>c∈lo k) l:=fun l hl w=>by
 cases w with
 | spring n _=>exact n hl
 | up n _ _=>exact n hl
theorem lab_one (hr:(lo k).Pairwise (· < ·)) (h2:(lo k).length≤s) (h0:∀ l∈lo k,lv l=0) (hk:lv k=1):Lab lo lv s k (lo k) where
 mono:=fun l hl=>by rw [h0 l hl];omega
 ris:=hr
 len:=h2
 dn:=fun c hc=>⟨.low .here hc,by have:=hlt k c hc;omega⟩
 le:=fun c hc=>by rw [h0 c hc,hk];omega
 dry:=dry_low hlt hne
 low:=fun B hB hd=>by
  cases B with
  | cons c B=>exact ⟨c,List.mem_cons_self ..,by omega⟩
  | nil =>
   obtain ⟨l,hl⟩:=List.exists_mem_of_ne_nil _ hne
   exact absurd (leak_none hlt (l+1) l (by omega)) (hd l hl)
theorem lab_more (hr:(lo k).Pairwise (· < ·)) (h2:(lo k).length≤s) (hm:∀ y,y<k→∀ l∈lo y,lv l≤lv y) (hg:∀ l∈lo k,lv l≤g) (hk:lv k=g+1) {goal:Nat→Prop}{ab:Ab} (F:Flow lo goal ab)
  (hgo:∀ z,goal z→z=k∨(Dn lo k z∧lv z=g)) {n:Nat} (hn:∀ p,ab p≠none→p<n) {ss:List Nat} (nd:ss.Nodup) (mem:∀ t,t∈ss ↔ lo t=[]∧ab t≠none) (hs:ss.length=s+1):Lab lo lv s k (lo k) where
 mono:=fun l hl=>by have:=hg l hl;omega
 ris:=hr
 len:=h2
 dn:=fun c hc=>⟨.low .here hc,by have:=hlt k c hc;omega⟩
 le:=fun c hc=>by have:=hg c hc;omega
 dry:=dry_low hlt hne
 low:=fun B hB hd=>by
  refine Classical.byContradiction fun hno=>?_
  have hlow:∀ c∈B,lv c<g:=fun c hc=>Nat.lt_of_not_le fun z=>hno ⟨c,hc,by omega⟩
  have:ss.length≤B.length:=by
   refine len_le (R:=fun t p=>lo t=[]∧Wy ab t p) (fun a a' b h h'=>wy_uniq F h.2 h'.2 h.1 h'.1) nd fun t ht=>?_
   obtain ⟨h1,h2⟩:=(mem t).mp ht
   refine Classical.byContradiction fun hb=>?_
   have hB':∀ x,Wy ab t x→¬ x∈B:=fun x hx z=>hb ⟨x,z,h1,hx⟩
   obtain ⟨x,hx,hxt⟩:=wy_top F hlt hn (n - t) t (Nat.le_refl _) h2
   obtain ⟨z,hz,hl⟩:=F.top x hxt
   have w:=leak_wy (C:=fun c=>c∈B) F h1 hx hB'
   rcases hgo z hz with rfl | ⟨hd1,hd2⟩
   ·exact hd x hl w
   ·have nz:¬ z∈B:=fun e=>by have:=hlow z e;omega
    have wz:Leak lo (fun c=>c∈B) z:=.up nz hl w
    rcases hd1.first with rfl | ⟨l,hlk,hdl⟩
    ·exact hd x hl w
    ·refine hd l hlk (Leak.lift hdl (fun y _ h2 e=>?_) wz)
     have hy:=hlow y e
     rename_i h1y
     have h3:=h1y.le hlt
     have h4:=hlt k l hlk
     have:=mono_dn hlt hm h2 (by omega)
     omega
  omega
theorem flow_dn (hm:∀ y,y<k→∀ l∈lo y,lv l≤lv y) (hg:∀ l∈lo k,lv l≤g) {goal:Nat→Prop}{ab:Ab} (F:Flow lo goal ab)
  (hgo:∀ z,goal z ↔ z=k∨(Dn lo k z∧lv z=g)) {n:Nat} (hn:∀ p,ab p≠none→p<n) {c:Nat} (hd:ab c≠none):Dn lo k c∧c≠k∧lv c<g:=by
 have hng:=F.ng c hd
 obtain ⟨x,hx,hxt⟩:=wy_top F hlt hn (n - c) c (Nat.le_refl _) hd
 obtain ⟨z,hz,hlz⟩:=F.top x hxt
 have dz:Dn lo k z:=by
  rcases (hgo z).mp hz with rfl | ⟨h,_⟩
  ·exact .here
  ·exact h
 have dc:=(dz.low hlz).trans (wy_dn F hx)
 have nk:c≠k:=fun e=>hng ((hgo c).mpr (.inl e))
 have ng:lv c≠g:=fun e=>hng ((hgo c).mpr (.inr ⟨dc,e⟩))
 refine ⟨dc,nk,?_⟩
 rcases dc.first with e | ⟨l',hl',dl⟩
 ·exact absurd e nk
 ·have:=mono_dn hlt hm dl (hlt k l' hl')
  have:=hg l' hl'
  omega
theorem lab_same (hm:∀ y,y<k→∀ l∈lo y,lv l≤lv y) (hg:∀ l∈lo k,lv l≤g) (hk:lv k=g) {goal:Nat→Prop}{ab:Ab} (F:Flow lo goal ab)
  (hgo:∀ z,goal z ↔ z=k∨(Dn lo k z∧lv z=g)) {n:Nat} (hn:∀ p,ab p≠none→p<n) {ss:List Nat} (nd:ss.Nodup) (mem:∀ t,t∈ss ↔ lo t=[]∧ab t≠none) (hs:ss.length≤s)
  {K:Nat→Prop} (S:Shut lo goal ab K) {C:List Nat} (hr:C.Pairwise (· < ·)) (hC:∀ p,p∈C ↔ Stop K p) {l:Nat}{Cl:List Nat} (hl:l∈lo k) (hlg:lv l=g) (hL:Lab lo lv s l Cl):Lab lo lv s k C where
 mono:=fun l hl=>by have:=hg l hl;omega
 ris:=hr
 len:=by
  have:=stop_count S F hlt hn nd (hr.imp fun h=>Nat.ne_of_lt h) mem hC
  omega
 dn:=fun c hc=>by
  have:=flow_dn hlt hne hm hg F hgo hn (stop_dom S ((hC c).mp hc))
  exact ⟨this.1,this.2.1⟩
 le:=fun c hc=>by
  have:=flow_dn hlt hne hm hg F hgo hn (stop_dom S ((hC c).mp hc))
  omega
 dry:=fun l hl w=>leak_shut S (fun p hp=>(hC p).mpr hp) w (S.all k l ((hgo k).mpr (.inl rfl)) hl)
 low:=fun B hB hd=>by
  by_cases e:l∈B
  ·exact ⟨l,e,by omega⟩
  ·have hdl:=hd l hl
   obtain ⟨c,hc,z⟩:=hL.low B hB fun x hx w=>hdl (.up e hx w)
   exact ⟨c,hc,by omega⟩
end
end ML
namespace MQ
open ML MZ
def bitM (mask:Nat) (k:Nat):Prop:=mask / 2 ^ k % 2=1
theorem bit_iff {mask k:Nat}:bitM mask k ↔ mask.testBit k=true:=by
 unfold bitM
 rw [Nat.testBit_eq_decide_div_mod_eq,decide_eq_true_iff]
instance (mask k:Nat):Decidable (bitM mask k):=by unfold bitM;infer_instance
theorem bit_or {a b k:Nat}:bitM (a ||| b) k ↔ bitM a k∨bitM b k:=by
 rw [bit_iff,bit_iff,bit_iff,Nat.testBit_or,Bool.or_eq_true]
theorem bit_pow {k j:Nat}:bitM (2 ^ k) j ↔ j=k:=by
 rw [bit_iff,Nat.testBit_two_pow,decide_eq_true_iff]
 exact ⟨fun h=>h.symm,fun h=>h.symm⟩
theorem bit_lt {mask n k:Nat} (h:mask<2 ^ n) (hb:bitM mask k):k<n:=by
 rcases Nat.lt_or_ge k n with z | z
 ·exact z
 ·unfold bitM at hb
  have:mask<2 ^ k:=Nat.lt_of_lt_of_le h (Nat.pow_le_pow_right (by decide) z)
  rw [Nat.div_eq_of_lt this] at hb
  simp at hb
def bitsL (n mask:Nat):List Nat:=(List.range n).filter fun k=>decide (bitM mask k)
theorem mem_bits {n mask k:Nat}:k∈bitsL n mask ↔ k<n∧bitM mask k:=by
 unfold bitsL
 rw [List.mem_filter,List.mem_range,decide_eq_true_iff]
theorem bits_nd (n mask:Nat):(bitsL n mask).Nodup:=List.nodup_range.filter _
def pop:Nat→Nat
 | 0=>0
 | n+1=>(n+1) % 2+pop ((n+1) / 2)
theorem pop_eq (n:Nat):pop n=n % 2+pop (n / 2):=by
 cases n with
 | zero=>simp [pop]
 | succ n=>rw [pop]
theorem pop_bits:∀ (n mask:Nat),mask<2 ^ n→(bitsL n mask).length=pop mask
 | 0,mask,h=>by
  have:mask=0:=by simpa using h
  subst this
  rw [pop]
  rfl
 | n+1,mask,h=>by
  have e1:bitsL (n+1) mask=(if mask % 2=1 then [0] else []) ++ (bitsL n (mask / 2)).map (· + 1):=by
   unfold bitsL
   rw [List.range_succ_eq_map,List.filter_cons,List.filter_map]
   have e0:decide (bitM mask 0)=decide (mask % 2=1):=by
    rw [decide_eq_decide]
    unfold bitM
    rw [Nat.pow_zero,Nat.div_one]
   have e2:((fun k=>decide (bitM mask k)) ∘ Nat.succ)=fun k=>decide (bitM (mask / 2) k):=by
    funext k
    show decide (bitM mask (k+1))=decide (bitM (mask / 2) k)
    rw [decide_eq_decide]
    unfold bitM
    rw [Nat.pow_succ,Nat.mul_comm (2 ^ k) 2,← Nat.div_div_eq_div_mul]
   rw [e0,e2]
   by_cases h:mask % 2=1
   ·rw [if_pos (decide_eq_true h),if_pos h];rfl
   ·rw [if_neg (by simpa using h),if_neg h];rfl
  rw [e1,List.length_append,List.length_map,pop_bits n (mask / 2) (by rw [Nat.pow_succ] at h;omega),pop_eq mask]
  split
  ·rename_i z;rw [z];rfl
  ·rename_i z
   rw [show mask % 2=0 by omega]
   rfl
theorem and_even (k:Nat):(2 * k+1) &&& (2 * k)=2 * k:=by
 apply Nat.eq_of_testBit_eq
 intro i
 rw [Nat.testBit_and]
 cases i with
 | zero=>simp
 | succ i =>
  rw [Nat.testBit_succ,Nat.testBit_succ,show (2 * k+1) / 2=k by omega,show 2 * k / 2=k by omega,Bool.and_self]
theorem and_odd (a c:Nat):(2 * a) &&& (2 * c+1)=2 * (a &&& c):=by
 apply Nat.eq_of_testBit_eq
 intro i
 rw [Nat.testBit_and]
 cases i with
 | zero=>simp
 | succ i =>
  rw [Nat.testBit_succ,Nat.testBit_succ,Nat.testBit_succ,show 2 * a / 2=a by omega,show (2 * c+1) / 2=c by omega,show 2 * (a &&& c) / 2=a &&& c by omega,Nat.testBit_and]
theorem pop_drop:∀ (n:Nat),0<n→pop (n &&& (n - 1))+1=pop n:=by
 intro n
 induction n using Nat.strongRecOn with
 | _ n ih =>
  intro h
  rcases Nat.mod_two_eq_zero_or_one n with z | z
  ·obtain ⟨k,rfl⟩:∃ k,n=2 * k:=⟨n / 2,by omega⟩
   obtain ⟨c,hc⟩:∃ c,k=c+1:=⟨k - 1,by omega⟩
   have e:2 * k &&& (2 * k - 1)=2 * (k &&& (k - 1)):=by
    rw [show 2 * k - 1=2 * (k - 1)+1 by omega,and_odd]
   rw [e,pop_eq (2 * (k &&& (k - 1))),pop_eq (2 * k),show 2 * (k &&& (k - 1)) / 2=k &&& (k - 1) by omega,show 2 * k / 2=k by omega]
   have:=ih k (by omega) (by omega)
   omega
  ·obtain ⟨k,rfl⟩:∃ k,n=2 * k+1:=⟨n / 2,by omega⟩
   rw [show 2 * k+1 - 1=2 * k by omega,and_even,pop_eq (2 * k),pop_eq (2 * k+1)]
   rw [show 2 * k / 2=k by omega,show (2 * k+1) / 2=k by omega]
   omega
variable {lo:Nat→List Nat}
theorem Leak_anti {C C':Nat→Prop} (hs:∀ x,C x→C' x) {k:Nat} (h:Leak lo C' k):Leak lo C k:=by
 induction h with
 | spring n hl=>exact .spring (fun z=>n (hs _ z)) hl
 | up n hl _ ih=>exact .up (fun z=>n (hs _ z)) hl ih
structure AllC (lo:Nat→List Nat) (s n k:Nat) (ms:List Nat):Prop where
 sound:∀ a∈ms,¬ Leak lo (bitM a) k
 few:∀ a∈ms,pop a≤s
 lt:∀ a∈ms,a<2 ^ n
 le:∀ a∈ms,∀ j,bitM a j→j≤k
 full:∀ C:List Nat,C.length≤s→¬ Leak lo (fun c=>c∈C) k→∃ a∈ms,∀ j,bitM a j→j∈C
structure CutC (lo:Nat→List Nat) (s n k:Nat) (ms:List Nat):Prop where
 sound:∀ a∈ms,∀ l∈lo k,¬ Leak lo (bitM a) l
 few:∀ a∈ms,pop a≤s
 lt:∀ a∈ms,a<2 ^ n
 le:∀ a∈ms,∀ j,bitM a j→j<k
 full:∀ C:List Nat,C.length≤s→(∀ l∈lo k,¬ Leak lo (fun c=>c∈C) l)→∃ a∈ms,∀ j,bitM a j→j∈C
theorem AllC.spring {s n k:Nat} (hl:lo k=[]) (hs:1≤s) (hk:k<n):AllC lo s n k [2 ^ k] where
 sound:=fun a ha w=>by
  rw [List.mem_singleton] at ha
  subst ha
  cases w with
  | spring h _=>exact h (bit_pow.mpr rfl)
  | up h _ _=>exact h (bit_pow.mpr rfl)
 few:=fun a ha=>by
  rw [List.mem_singleton] at ha
  subst ha
  rw [← pop_bits n _ (Nat.pow_lt_pow_right (by decide) hk)]
  have:=len_le (R:=fun a b:Nat=>a=b) (fun a a' b h h'=>h.trans h'.symm) (bits_nd n (2 ^ k)) (B:=[k]) fun j hj=>⟨k,List.mem_singleton.mpr rfl,bit_pow.mp (mem_bits.mp hj).2⟩
  exact Nat.le_trans this hs
 lt:=fun a ha=>by
  rw [List.mem_singleton] at ha
  subst ha
  exact Nat.pow_lt_pow_right (by decide) hk
 le:=fun a ha j hj=>by
  rw [List.mem_singleton] at ha
  subst ha
  exact Nat.le_of_eq (bit_pow.mp hj)
 full:=fun C hC hd=>⟨2 ^ k,List.mem_singleton.mpr rfl,fun j hj=>by
  rw [bit_pow.mp hj]
  exact Classical.byContradiction fun z=>hd (.spring z hl)⟩
theorem AllC.of_cut {s n k:Nat}{ms:List Nat} (h:CutC lo s n k ms) (hne:lo k≠[]) (hs:1≤s) (hk:k<n):AllC lo s n k (ms ++ [2 ^ k]):=by
 refine ⟨fun a ha=>?_,fun a ha=>?_,fun a ha=>?_,fun a ha j hj=>?_,fun C hC hd=>?_⟩
 ·rcases List.mem_append.mp ha with z | z
  ·intro w
   cases w with
   | spring _ e=>exact hne e
   | up _ hl w=>exact h.sound a z _ hl w
  ·rw [List.mem_singleton] at z
   subst z
   intro w
   cases w with
   | spring h _=>exact h (bit_pow.mpr rfl)
   | up h _ _=>exact h (bit_pow.mpr rfl)
 ·rcases List.mem_append.mp ha with z | z
  ·exact h.few a z
  ·rw [List.mem_singleton] at z
   subst z
   rw [← pop_bits n _ (Nat.pow_lt_pow_right (by decide) hk)]
   have:=len_le (R:=fun a b:Nat=>a=b) (fun a a' b h h'=>h.trans h'.symm) (bits_nd n (2 ^ k)) (B:=[k]) fun j hj=>⟨k,List.mem_singleton.mpr rfl,bit_pow.mp (mem_bits.mp hj).2⟩
   exact Nat.le_trans this hs
 ·rcases List.mem_append.mp ha with z | z
  ·exact h.lt a z
  ·rw [List.mem_singleton] at z
   subst z
   exact Nat.pow_lt_pow_right (by decide) hk
 ·rcases List.mem_append.mp ha with z | z
  ·exact Nat.le_of_lt (h.le a z j hj)
  ·rw [List.mem_singleton] at z
   subst z
   exact Nat.le_of_eq (bit_pow.mp hj)
 ·by_cases e:k∈C
  ·exact ⟨2 ^ k,List.mem_append_right _ (List.mem_singleton.mpr rfl),fun j hj=>by rw [bit_pow.mp hj];exact e⟩
  ·obtain ⟨a,ha,hb⟩:=h.full C hC fun l hl w=>hd (.up e hl w)
   exact ⟨a,List.mem_append_left _ ha,hb⟩
theorem CutC.of_two {s n k l1 l2:Nat}{m1 m2 ms:List Nat} (hl:∀ l,l∈lo k ↔ l=l1∨l=l2) (hlt:∀ l∈lo k,l<k) (h1:AllC lo s n l1 m1) (h2:AllC lo s n l2 m2) (hm:∀ a,a∈ms ↔ ∃ x∈m1,∃ y∈m2,a=x ||| y∧pop a≤s):CutC lo s n k ms:=by
 refine ⟨fun a ha l hlk=>?_,fun a ha=>?_,fun a ha=>?_,fun a ha j hj=>?_,fun C hC hd=>?_⟩
 ·obtain ⟨x,hx,y,hy,rfl,_⟩:=(hm a).mp ha
  rcases (hl l).mp hlk with rfl | rfl
  ·exact fun w=>h1.sound x hx (Leak_anti (fun j hj=>bit_or.mpr (.inl hj)) w)
  ·exact fun w=>h2.sound y hy (Leak_anti (fun j hj=>bit_or.mpr (.inr hj)) w)
 ·obtain ⟨x,hx,y,hy,_,hp⟩:=(hm a).mp ha
  exact hp
 ·obtain ⟨x,hx,y,hy,rfl,_⟩:=(hm a).mp ha
  exact Nat.or_lt_two_pow (h1.lt x hx) (h2.lt y hy)
 ·obtain ⟨x,hx,y,hy,rfl,_⟩:=(hm a).mp ha
  rcases bit_or.mp hj with z | z
  ·have:=h1.le x hx j z
   have:=hlt l1 ((hl l1).mpr (.inl rfl))
   omega
  ·have:=h2.le y hy j z
   have:=hlt l2 ((hl l2).mpr (.inr rfl))
   omega
 ·obtain ⟨x,hx,bx⟩:=h1.full C hC (hd l1 ((hl l1).mpr (.inl rfl)))
  obtain ⟨y,hy,byy⟩:=h2.full C hC (hd l2 ((hl l2).mpr (.inr rfl)))
  have hb:∀ j,bitM (x ||| y) j→j∈C:=fun j hj=>(bit_or.mp hj).elim (bx j) (byy j)
  refine ⟨x ||| y,(hm _).mpr ⟨x,hx,y,hy,rfl,?_⟩,hb⟩
  rw [← pop_bits n _ (Nat.or_lt_two_pow (h1.lt x hx) (h2.lt y hy))]
  refine Nat.le_trans (len_le (R:=fun a b:Nat=>a=b) (fun a a' b h h'=>h.trans h'.symm) (bits_nd n (x ||| y)) (B:=C) fun j hj=>⟨j,hb j (mem_bits.mp hj).2,rfl⟩) hC
structure High (mask:Nat) (marks:List Nat) (h:Nat):Prop where
 ub:∀ j,j<marks.length→bitM mask j→marks.getD j 0≤h
 has:h=0∨∃ j,j<marks.length∧bitM mask j∧marks.getD j 0=h
theorem due {lv:Nat→Nat}{s n k:Nat}{C ms marks hs:List Nat}{M:Nat} (L:Lab lo lv s k C) (c:CutC lo s n k ms) (hml:marks.length=k) (hmk:∀ j,j<k→marks.getD j 0=lv j) (hlt:∀ x∈C,x<k)
  (hlen:hs.length=ms.length) (hh:∀ (i:Nat) a h,ms[i]? = some a→hs[i]? = some h→High a marks h) (hM:M∈hs) (hmin:∀ x∈hs,M≤x):1+M=lv k:=by
 have lower:∀ (i:Nat) a h,ms[i]? = some a→hs[i]? = some h→lv k≤h+1:=fun i a h ha hh'=>by
  have ham:=List.mem_of_getElem? ha
  obtain ⟨x,hx,hle⟩:=L.low (bitsL n a) (by rw [pop_bits n a (c.lt a ham)];exact c.few a ham) fun l hl w=>c.sound a ham l hl (Leak_anti (fun j hj=>mem_bits.mpr ⟨bit_lt (c.lt a ham) hj,hj⟩) w)
  have hxb:=(mem_bits.mp hx).2
  have hxk:=c.le a ham x hxb
  have:=(hh i a h ha hh').ub x (by omega) hxb
  rw [hmk x hxk] at this
  omega
 obtain ⟨a,ha,hb⟩:=c.full C L.len L.dry
 obtain ⟨i,hi⟩:=List.mem_iff_getElem?.mp ha
 have hil:i<hs.length:=by rw [hlen];exact (List.getElem?_eq_some_iff.mp hi).1
 have hhi:hs[i]? = some hs[i]:=List.getElem?_eq_getElem hil
 have up:hs[i]+1≤lv k:=by
  obtain ⟨ct,hct,htop⟩:=L.top
  rcases (hh i a _ hi hhi).has with z | ⟨j,hj,hbj,z⟩
  ·omega
  ·have h1:=hb j hbj
   have:=L.le j h1
   rw [hmk j (by omega)] at z
   omega
 obtain ⟨i',hi'⟩:=List.mem_iff_getElem?.mp hM
 have hil':i'<ms.length:=by rw [← hlen];exact (List.getElem?_eq_some_iff.mp hi').1
 have:=lower i' _ M (List.getElem?_eq_getElem hil') hi'
 have:=hmin _ (List.getElem_mem hil)
 omega
end MQ
set_option maxHeartbeats 4000000
namespace K32
open PySem PySem.Spec PyProof.Rows L2
def top (i:Nat):Stmt:=PySem.Challenge.pw_gatefold_k32_labels_by_all_cuts.main.body.getD i (.Pass ⟨0,0,0,0⟩)
abbrev s_is_whole:Stmt:=top 7
abbrev N_is_whole:List Str:=["thing"]
theorem sc_is_whole:FnScope N_is_whole ["thing"] (defScope s_is_whole):=⟨rfl,rfl,rfl,by decide +kernel,rfl,by decide +kernel,by decide +kernel⟩
abbrev s_is_between:Stmt:=top 8
abbrev N_is_between:List Str:=["thing","least","greatest"]
theorem sc_is_between:FnScope N_is_between ["thing","least","greatest"] (defScope s_is_between):=⟨rfl,rfl,rfl,by decide +kernel,rfl,by decide +kernel,by decide +kernel⟩
abbrev s_reached:Stmt:=top 10
abbrev N_reached:List Str:=["fold","knots","stops","seen","knot","tie"]
theorem sc_reached:FnScope N_reached ["fold","knots","stops"] (defScope s_reached):=⟨rfl,rfl,rfl,by decide +kernel,rfl,by decide +kernel,by decide +kernel⟩
abbrev s_cone:Stmt:=top 11
abbrev N_cone:List Str:=["fold","knot"]
theorem sc_cone:FnScope N_cone ["fold","knot"] (defScope s_cone):=⟨rfl,rfl,rfl,by decide +kernel,rfl,by decide +kernel,by decide +kernel⟩
abbrev s_head:Stmt:=top 13
abbrev N_head:List Str:=["place"]
theorem sc_head:FnScope N_head ["place"] (defScope s_head):=⟨rfl,rfl,rfl,by decide +kernel,rfl,by decide +kernel,by decide +kernel⟩
abbrev s_foot:Stmt:=top 14
abbrev N_foot:List Str:=["place"]
theorem sc_foot:FnScope N_foot ["place"] (defScope s_foot):=⟨rfl,rfl,rfl,by decide +kernel,rfl,by decide +kernel,by decide +kernel⟩
abbrev s_need_goals:Stmt:=top 15
abbrev N_need_goals:List Str:=["maze","goals","goal"]
theorem sc_need_goals:FnScope N_need_goals ["maze","goals"] (defScope s_need_goals):=⟨rfl,rfl,rfl,by decide +kernel,rfl,by decide +kernel,by decide +kernel⟩
abbrev s_next_ends:Stmt:=top 16
abbrev N_next_ends:List Str:=["maze","above","end","place"]
theorem sc_next_ends:FnScope N_next_ends ["maze","above","end"] (defScope s_next_ends):=⟨rfl,rfl,rfl,by decide +kernel,rfl,by decide +kernel,by decide +kernel⟩
abbrev s_search:Stmt:=top 17
abbrev N_search:List Str:=["maze","goals","above","came","goal","lower","waiting","end","place","ahead"]
theorem sc_search:FnScope N_search ["maze","goals","above"] (defScope s_search):=⟨rfl,rfl,rfl,by decide +kernel,rfl,by decide +kernel,by decide +kernel⟩
abbrev s_lead:Stmt:=top 18
abbrev N_lead:List Str:=["above","came","spring","end","place","upper"]
theorem sc_lead:FnScope N_lead ["above","came","spring"] (defScope s_lead):=⟨rfl,rfl,rfl,by decide +kernel,rfl,by decide +kernel,by decide +kernel⟩
abbrev s_way_from:Stmt:=top 19
abbrev N_way_from:List Str:=["above","spring","way"]
theorem sc_way_from:FnScope N_way_from ["above","spring"] (defScope s_way_from):=⟨rfl,rfl,rfl,by decide +kernel,rfl,by decide +kernel,by decide +kernel⟩
abbrev s_ways_of:Stmt:=top 20
abbrev N_ways_of:List Str:=["maze","above","springs"]
theorem sc_ways_of:FnScope N_ways_of ["maze","above"] (defScope s_ways_of):=⟨rfl,rfl,rfl,by decide +kernel,rfl,by decide +kernel,by decide +kernel⟩
abbrev s_stops_of:Stmt:=top 21
abbrev N_stops_of:List Str:=["came"]
theorem sc_stops_of:FnScope N_stops_of ["came"] (defScope s_stops_of):=⟨rfl,rfl,rfl,by decide +kernel,rfl,by decide +kernel,by decide +kernel⟩
abbrev s_apart:Stmt:=top 22
abbrev N_apart:List Str:=["maze","goals","most","above","number","found"]
theorem sc_apart:FnScope N_apart ["maze","goals","most"] (defScope s_apart):=⟨rfl,rfl,rfl,by decide +kernel,rfl,by decide +kernel,by decide +kernel⟩
abbrev s_need_size:Stmt:=top 26
abbrev N_need_size:List Str:=["size"]
theorem sc_need_size:FnScope N_need_size ["size"] (defScope s_need_size):=⟨rfl,rfl,rfl,by decide +kernel,rfl,by decide +kernel,by decide +kernel⟩
abbrev s_maze_of:Stmt:=top 27
abbrev N_maze_of:List Str:=["fold","maze","knot","pair"]
theorem sc_maze_of:FnScope N_maze_of ["fold"] (defScope s_maze_of):=⟨rfl,rfl,rfl,by decide +kernel,rfl,by decide +kernel,by decide +kernel⟩
abbrev s_Labels___init__:Stmt:=inClass (top 28) 0
abbrev N_Labels___init__:List Str:=["self","fold","size","maze","knot"]
theorem sc_Labels___init__:FnScope N_Labels___init__ ["self","fold","size"] (defScope s_Labels___init__):=⟨rfl,rfl,rfl,by decide +kernel,rfl,by decide +kernel,by decide +kernel⟩
abbrev s_Labels_settle:Stmt:=inClass (top 28) 1
abbrev N_Labels_settle:List Str:=["self","maze","inner","size","knot","lowers","greatest","goals","told","same"]
theorem sc_Labels_settle:FnScope N_Labels_settle ["self","maze","inner","size"] (defScope s_Labels_settle):=⟨rfl,rfl,rfl,by decide +kernel,rfl,by decide +kernel,by decide +kernel⟩
abbrev s_Labels_keep:Stmt:=inClass (top 28) 2
abbrev N_Labels_keep:List Str:=["self","knot","level","cut","ways"]
theorem sc_Labels_keep:FnScope N_Labels_keep ["self","knot","level","cut","ways"] (defScope s_Labels_keep):=⟨rfl,rfl,rfl,by decide +kernel,rfl,by decide +kernel,by decide +kernel⟩
abbrev s_Labels_label:Stmt:=inClass (top 28) 4
abbrev N_Labels_label:List Str:=["self","knot"]
theorem sc_Labels_label:FnScope N_Labels_label ["self","knot"] (defScope s_Labels_label):=⟨rfl,rfl,rfl,by decide +kernel,rfl,by decide +kernel,by decide +kernel⟩
abbrev s_turned:Stmt:=top 32
abbrev N_turned:List Str:=["tie"]
theorem sc_turned:FnScope N_turned ["tie"] (defScope s_turned):=⟨rfl,rfl,rfl,by decide +kernel,rfl,by decide +kernel,by decide +kernel⟩
abbrev s_Fold___init__:Stmt:=inClass (top 33) 0
abbrev N_Fold___init__:List Str:=["self","many"]
theorem sc_Fold___init__:FnScope N_Fold___init__ ["self","many"] (defScope s_Fold___init__):=⟨rfl,rfl,rfl,by decide +kernel,rfl,by decide +kernel,by decide +kernel⟩
abbrev s_Fold_total:Stmt:=inClass (top 33) 1
abbrev N_Fold_total:List Str:=["self"]
theorem sc_Fold_total:FnScope N_Fold_total ["self"] (defScope s_Fold_total):=⟨rfl,rfl,rfl,by decide +kernel,rfl,by decide +kernel,by decide +kernel⟩
abbrev s_Fold_has_tie:Stmt:=inClass (top 33) 2
abbrev N_Fold_has_tie:List Str:=["self","tie"]
theorem sc_Fold_has_tie:FnScope N_Fold_has_tie ["self","tie"] (defScope s_Fold_has_tie):=⟨rfl,rfl,rfl,by decide +kernel,rfl,by decide +kernel,by decide +kernel⟩
abbrev s_Fold_pair:Stmt:=inClass (top 33) 3
abbrev N_Fold_pair:List Str:=["self","knot"]
theorem sc_Fold_pair:FnScope N_Fold_pair ["self","knot"] (defScope s_Fold_pair):=⟨rfl,rfl,rfl,by decide +kernel,rfl,by decide +kernel,by decide +kernel⟩
abbrev s_Fold_both:Stmt:=inClass (top 33) 4
abbrev N_Fold_both:List Str:=["self","one","other","first","second"]
theorem sc_Fold_both:FnScope N_Fold_both ["self","one","other"] (defScope s_Fold_both):=⟨rfl,rfl,rfl,by decide +kernel,rfl,by decide +kernel,by decide +kernel⟩
abbrev s_Fold_and_knot:Stmt:=inClass (top 33) 5
abbrev N_Fold_and_knot:List Str:=["self","ties"]
theorem sc_Fold_and_knot:FnScope N_Fold_and_knot ["self","ties"] (defScope s_Fold_and_knot):=⟨rfl,rfl,rfl,by decide +kernel,rfl,by decide +kernel,by decide +kernel⟩
abbrev s_law_cell_at:Stmt:=top 35
abbrev N_law_cell_at:List Str:=["_law_script","_law_k"]
theorem sc_law_cell_at:FnScope N_law_cell_at ["_law_script","_law_k"] (defScope s_law_cell_at):=⟨rfl,rfl,rfl,by decide +kernel,rfl,by decide +kernel,by decide +kernel⟩
abbrev s_law_pairs:Stmt:=top 36
abbrev N_law_pairs:List Str:=["_law_many","_law_cells","_law_pairs_here","_law_left","_law_right","_law_k","_law_top","_law_rest"]
theorem sc_law_pairs:FnScope N_law_pairs ["_law_many","_law_cells"] (defScope s_law_pairs):=⟨rfl,rfl,rfl,by decide +kernel,rfl,by decide +kernel,by decide +kernel⟩
abbrev s_law_mixed:Stmt:=top 37
abbrev N_law_mixed:List Str:=["_law_script","_law_start","_law_count","_law_made","_law_k","_law_cell"]
theorem sc_law_mixed:FnScope N_law_mixed ["_law_script","_law_start","_law_count"] (defScope s_law_mixed):=⟨rfl,rfl,rfl,by decide +kernel,rfl,by decide +kernel,by decide +kernel⟩
abbrev s_law_digit_pairs:Stmt:=top 38
abbrev N_law_digit_pairs:List Str:=["_law_many","_law_cell","_law_most","_law_pairs_here","_law_count","_law_k","_law_size"]
theorem sc_law_digit_pairs:FnScope N_law_digit_pairs ["_law_many","_law_cell","_law_most"] (defScope s_law_digit_pairs):=⟨rfl,rfl,rfl,by decide +kernel,rfl,by decide +kernel,by decide +kernel⟩
abbrev s_law_fold:Stmt:=top 39
abbrev N_law_fold:List Str:=["_law_many","_law_pairs_here","_law_fold_here","_law_knots","_law_ties","_law_one","_law_other","_law_left","_law_right","_law_low","_law_high","_law_tie"]
theorem sc_law_fold:FnScope N_law_fold ["_law_many","_law_pairs_here"] (defScope s_law_fold):=⟨rfl,rfl,rfl,by decide +kernel,rfl,by decide +kernel,by decide +kernel⟩
abbrev s_law_few:Stmt:=top 40
abbrev N_law_few:List Str:=["_law_mask","_law_most","_law_count"]
theorem sc_law_few:FnScope N_law_few ["_law_mask","_law_most"] (defScope s_law_few):=⟨rfl,rfl,rfl,by decide +kernel,rfl,by decide +kernel,by decide +kernel⟩
abbrev s_law_cuts:Stmt:=top 41
abbrev N_law_cuts:List Str:=["_law_ones","_law_others","_law_size","_law_found","_law_one","_law_other"]
theorem sc_law_cuts:FnScope N_law_cuts ["_law_ones","_law_others","_law_size"] (defScope s_law_cuts):=⟨rfl,rfl,rfl,by decide +kernel,rfl,by decide +kernel,by decide +kernel⟩
abbrev s_law_highest:Stmt:=top 42
abbrev N_law_highest:List Str:=["_law_mask","_law_marks","_law_high","_law_knot"]
theorem sc_law_highest:FnScope N_law_highest ["_law_mask","_law_marks"] (defScope s_law_highest):=⟨rfl,rfl,rfl,by decide +kernel,rfl,by decide +kernel,by decide +kernel⟩
abbrev s_law:Stmt:=top 43
abbrev N_law:List Str:=["_law_script","_law_many","_law_size","_law_most","_law_pairs_here","_law_fold_here","_law_knots","_law_labels","_law_marks","_law_all_cuts","_law_knot","_law_due","_law_some","_law_found"]
theorem sc_law:FnScope N_law ["_law_script"] (defScope s_law):=⟨rfl,rfl,rfl,by decide +kernel,rfl,by decide +kernel,by decide +kernel⟩
structure Adr where
 f_is_whole:Addr
 d_is_whole:FuncData
 f_is_between:Addr
 d_is_between:FuncData
 f_reached:Addr
 d_reached:FuncData
 f_cone:Addr
 d_cone:FuncData
 f_head:Addr
 d_head:FuncData
 f_foot:Addr
 d_foot:FuncData
 f_need_goals:Addr
 d_need_goals:FuncData
 f_next_ends:Addr
 d_next_ends:FuncData
 f_search:Addr
 d_search:FuncData
 f_lead:Addr
 d_lead:FuncData
 f_way_from:Addr
 d_way_from:FuncData
 f_ways_of:Addr
 d_ways_of:FuncData
 f_stops_of:Addr
 d_stops_of:FuncData
 f_apart:Addr
 d_apart:FuncData
 f_need_size:Addr
 d_need_size:FuncData
 f_maze_of:Addr
 d_maze_of:FuncData
 f_Labels___init__:Addr
 d_Labels___init__:FuncData
 f_Labels_settle:Addr
 d_Labels_settle:FuncData
 f_Labels_keep:Addr
 d_Labels_keep:FuncData
 f_Labels_label:Addr
 d_Labels_label:FuncData
 f_turned:Addr
 d_turned:FuncData
 f_Fold___init__:Addr
 d_Fold___init__:FuncData
 f_Fold_total:Addr
 d_Fold_total:FuncData
 f_Fold_has_tie:Addr
 d_Fold_has_tie:FuncData
 f_Fold_pair:Addr
 d_Fold_pair:FuncData
 f_Fold_both:Addr
 d_Fold_both:FuncData
 f_Fold_and_knot:Addr
 d_Fold_and_knot:FuncData
 f_law_cell_at:Addr
 d_law_cell_at:FuncData
 f_law_pairs:Addr
 d_law_pairs:FuncData
 f_law_mixed:Addr
 d_law_mixed:FuncData
 f_law_digit_pairs:Addr
 d_law_digit_pairs:FuncData
 f_law_fold:Addr
 d_law_fold:FuncData
 f_law_few:Addr
 d_law_few:FuncData
 f_law_cuts:Addr
 d_law_cuts:FuncData
 f_law_highest:Addr
 d_law_highest:FuncData
 f_law:Addr
 d_law:FuncData
 c_Labels:Addr
 c_Fold:Addr
 c_NoGoal:Addr
 c_NoKnot:Addr
 c_NoSize:Addr
 c_NoTie:Addr
def gv_ALWAYS (_:Adr):V:=.int 1
def gv_GREATEST_SIZE (_:Adr):V:=.int 6
def gv_LEAST_SIZE (_:Adr):V:=.int 2
def gv_NEVER (_:Adr):V:=.int 0
structure Txt (K:PySem.W.Frag) (mg:Str→Option Value) (a:Adr):Prop where
 mg_is_whole:mg "is_whole" = some (.ref a.f_is_whole)
 fn_is_whole:Fun K "is_whole" "is_whole" s_is_whole a.f_is_whole a.d_is_whole
 bi_is_whole:Binds K a.d_is_whole ["thing"] []
 mg_is_between:mg "is_between" = some (.ref a.f_is_between)
 fn_is_between:Fun K "is_between" "is_between" s_is_between a.f_is_between a.d_is_between
 bi_is_between:Binds K a.d_is_between ["thing","least","greatest"] []
 mg_reached:mg "reached" = some (.ref a.f_reached)
 fn_reached:Fun K "reached" "reached" s_reached a.f_reached a.d_reached
 bi_reached:Binds K a.d_reached ["fold","knots","stops"] []
 mg_cone:mg "cone" = some (.ref a.f_cone)
 fn_cone:Fun K "cone" "cone" s_cone a.f_cone a.d_cone
 bi_cone:Binds K a.d_cone ["fold","knot"] []
 mg_head:mg "head" = some (.ref a.f_head)
 fn_head:Fun K "head" "head" s_head a.f_head a.d_head
 bi_head:Binds K a.d_head ["place"] []
 mg_foot:mg "foot" = some (.ref a.f_foot)
 fn_foot:Fun K "foot" "foot" s_foot a.f_foot a.d_foot
 bi_foot:Binds K a.d_foot ["place"] []
 mg_need_goals:mg "need_goals" = some (.ref a.f_need_goals)
 fn_need_goals:Fun K "need_goals" "need_goals" s_need_goals a.f_need_goals a.d_need_goals
 bi_need_goals:Binds K a.d_need_goals ["maze","goals"] []
 mg_next_ends:mg "next_ends" = some (.ref a.f_next_ends)
 fn_next_ends:Fun K "next_ends" "next_ends" s_next_ends a.f_next_ends a.d_next_ends
 bi_next_ends:Binds K a.d_next_ends ["maze","above","end"] []
 mg_search:mg "search" = some (.ref a.f_search)
 fn_search:Fun K "search" "search" s_search a.f_search a.d_search
 bi_search:Binds K a.d_search ["maze","goals","above"] []
 mg_lead:mg "lead" = some (.ref a.f_lead)
 fn_lead:Fun K "lead" "lead" s_lead a.f_lead a.d_lead
 bi_lead:Binds K a.d_lead ["above","came","spring"] []
 mg_way_from:mg "way_from" = some (.ref a.f_way_from)
 fn_way_from:Fun K "way_from" "way_from" s_way_from a.f_way_from a.d_way_from
 bi_way_from:Binds K a.d_way_from ["above","spring"] []
 mg_ways_of:mg "ways_of" = some (.ref a.f_ways_of)
 fn_ways_of:Fun K "ways_of" "ways_of" s_ways_of a.f_ways_of a.d_ways_of
 bi_ways_of:Binds K a.d_ways_of ["maze","above"] []
 mg_stops_of:mg "stops_of" = some (.ref a.f_stops_of)
 fn_stops_of:Fun K "stops_of" "stops_of" s_stops_of a.f_stops_of a.d_stops_of
 bi_stops_of:Binds K a.d_stops_of ["came"] []
 mg_apart:mg "apart" = some (.ref a.f_apart)
 fn_apart:Fun K "apart" "apart" s_apart a.f_apart a.d_apart
 bi_apart:Binds K a.d_apart ["maze","goals","most"] []
 mg_need_size:mg "need_size" = some (.ref a.f_need_size)
 fn_need_size:Fun K "need_size" "need_size" s_need_size a.f_need_size a.d_need_size
 bi_need_size:Binds K a.d_need_size ["size"] []
 mg_maze_of:mg "maze_of" = some (.ref a.f_maze_of)
 fn_maze_of:Fun K "maze_of" "maze_of" s_maze_of a.f_maze_of a.d_maze_of
 bi_maze_of:Binds K a.d_maze_of ["fold"] []
 fn_Labels___init__:Fun K "__init__" "Labels.__init__" s_Labels___init__ a.f_Labels___init__ a.d_Labels___init__
 bi_Labels___init__:Binds K a.d_Labels___init__ ["self","fold","size"] []
 fn_Labels_settle:Fun K "settle" "Labels.settle" s_Labels_settle a.f_Labels_settle a.d_Labels_settle
 bi_Labels_settle:Binds K a.d_Labels_settle ["self","maze","inner","size"] []
 me_Labels_settle:Meth K a.c_Labels "settle" a.f_Labels_settle
 fn_Labels_keep:Fun K "keep" "Labels.keep" s_Labels_keep a.f_Labels_keep a.d_Labels_keep
 bi_Labels_keep:Binds K a.d_Labels_keep ["self","knot","level","cut","ways"] []
 me_Labels_keep:Meth K a.c_Labels "keep" a.f_Labels_keep
 fn_Labels_label:Fun K "label" "Labels.label" s_Labels_label a.f_Labels_label a.d_Labels_label
 bi_Labels_label:Binds K a.d_Labels_label ["self","knot"] []
 me_Labels_label:Meth K a.c_Labels "label" a.f_Labels_label
 mg_turned:mg "turned" = some (.ref a.f_turned)
 fn_turned:Fun K "turned" "turned" s_turned a.f_turned a.d_turned
 bi_turned:Binds K a.d_turned ["tie"] []
 fn_Fold___init__:Fun K "__init__" "Fold.__init__" s_Fold___init__ a.f_Fold___init__ a.d_Fold___init__
 bi_Fold___init__:Binds K a.d_Fold___init__ ["self","many"] []
 fn_Fold_total:Fun K "total" "Fold.total" s_Fold_total a.f_Fold_total a.d_Fold_total
 bi_Fold_total:Binds K a.d_Fold_total ["self"] []
 me_Fold_total:Meth K a.c_Fold "total" a.f_Fold_total
 fn_Fold_has_tie:Fun K "has_tie" "Fold.has_tie" s_Fold_has_tie a.f_Fold_has_tie a.d_Fold_has_tie
 bi_Fold_has_tie:Binds K a.d_Fold_has_tie ["self","tie"] []
 me_Fold_has_tie:Meth K a.c_Fold "has_tie" a.f_Fold_has_tie
 fn_Fold_pair:Fun K "pair" "Fold.pair" s_Fold_pair a.f_Fold_pair a.d_Fold_pair
 bi_Fold_pair:Binds K a.d_Fold_pair ["self","knot"] []
 me_Fold_pair:Meth K a.c_Fold "pair" a.f_Fold_pair
 fn_Fold_both:Fun K "both" "Fold.both" s_Fold_both a.f_Fold_both a.d_Fold_both
 bi_Fold_both:Binds K a.d_Fold_both ["self","one","other"] []
 me_Fold_both:Meth K a.c_Fold "both" a.f_Fold_both
 fn_Fold_and_knot:Fun K "and_knot" "Fold.and_knot" s_Fold_and_knot a.f_Fold_and_knot a.d_Fold_and_knot
 bi_Fold_and_knot:Binds K a.d_Fold_and_knot ["self","ties"] []
 me_Fold_and_knot:Meth K a.c_Fold "and_knot" a.f_Fold_and_knot
 mg_law_cell_at:mg "_law_cell_at" = some (.ref a.f_law_cell_at)
 fn_law_cell_at:Fun K "_law_cell_at" "_law_cell_at" s_law_cell_at a.f_law_cell_at a.d_law_cell_at
 bi_law_cell_at:Binds K a.d_law_cell_at ["_law_script","_law_k"] []
 mg_law_pairs:mg "_law_pairs" = some (.ref a.f_law_pairs)
 fn_law_pairs:Fun K "_law_pairs" "_law_pairs" s_law_pairs a.f_law_pairs a.d_law_pairs
 bi_law_pairs:Binds K a.d_law_pairs ["_law_many","_law_cells"] []
 mg_law_mixed:mg "_law_mixed" = some (.ref a.f_law_mixed)
 fn_law_mixed:Fun K "_law_mixed" "_law_mixed" s_law_mixed a.f_law_mixed a.d_law_mixed
 bi_law_mixed:Binds K a.d_law_mixed ["_law_script","_law_start","_law_count"] []
 mg_law_digit_pairs:mg "_law_digit_pairs" = some (.ref a.f_law_digit_pairs)
 fn_law_digit_pairs:Fun K "_law_digit_pairs" "_law_digit_pairs" s_law_digit_pairs a.f_law_digit_pairs a.d_law_digit_pairs
 bi_law_digit_pairs:Binds K a.d_law_digit_pairs ["_law_many","_law_cell","_law_most"] []
 mg_law_fold:mg "_law_fold" = some (.ref a.f_law_fold)
 fn_law_fold:Fun K "_law_fold" "_law_fold" s_law_fold a.f_law_fold a.d_law_fold
 bi_law_fold:Binds K a.d_law_fold ["_law_many","_law_pairs_here"] []
 mg_law_few:mg "_law_few" = some (.ref a.f_law_few)
 fn_law_few:Fun K "_law_few" "_law_few" s_law_few a.f_law_few a.d_law_few
 bi_law_few:Binds K a.d_law_few ["_law_mask","_law_most"] []
 mg_law_cuts:mg "_law_cuts" = some (.ref a.f_law_cuts)
 fn_law_cuts:Fun K "_law_cuts" "_law_cuts" s_law_cuts a.f_law_cuts a.d_law_cuts
 bi_law_cuts:Binds K a.d_law_cuts ["_law_ones","_law_others","_law_size"] []
 mg_law_highest:mg "_law_highest" = some (.ref a.f_law_highest)
 fn_law_highest:Fun K "_law_highest" "_law_highest" s_law_highest a.f_law_highest a.d_law_highest
 bi_law_highest:Binds K a.d_law_highest ["_law_mask","_law_marks"] []
 mg_law:mg "law" = some (.ref a.f_law)
 fn_law:Fun K "law" "law" s_law a.f_law a.d_law
 bi_law:Binds K a.d_law ["_law_script"] []
 mg_Labels:mg "Labels" = some (.ref a.c_Labels)
 cl_Labels:Cls K a.c_Labels
 mk_Labels:Mk K a.c_Labels a.f_Labels___init__
 na_Labels_levels:NoAttr K a.c_Labels "levels"
 na_Labels_found_cuts:NoAttr K a.c_Labels "found_cuts"
 na_Labels_found_ways:NoAttr K a.c_Labels "found_ways"
 mg_Fold:mg "Fold" = some (.ref a.c_Fold)
 cl_Fold:Cls K a.c_Fold
 mk_Fold:Mk K a.c_Fold a.f_Fold___init__
 na_Fold_many:NoAttr K a.c_Fold "many"
 na_Fold_pairs:NoAttr K a.c_Fold "pairs"
 na_Fold_knots:NoAttr K a.c_Fold "knots"
 mg_NoGoal:mg "NoGoal" = some (.ref a.c_NoGoal)
 mg_NoKnot:mg "NoKnot" = some (.ref a.c_NoKnot)
 mg_NoSize:mg "NoSize" = some (.ref a.c_NoSize)
 mg_NoTie:mg "NoTie" = some (.ref a.c_NoTie)
 xi_NoGoal:PySem.W.excIn K a.c_NoGoal [.type "ValueError",.type "Exception",.type "BaseException",.type "object"] "ValueError.__new__" = true
 xq_NoGoal:exq K a.c_NoGoal=true
 kv_NoGoal:PySem.W.kitOne K (.ref a.c_NoGoal) (.type "ValueError")=some true
 xi_NoKnot:PySem.W.excIn K a.c_NoKnot [.type "ValueError",.type "Exception",.type "BaseException",.type "object"] "ValueError.__new__" = true
 xq_NoKnot:exq K a.c_NoKnot=true
 kv_NoKnot:PySem.W.kitOne K (.ref a.c_NoKnot) (.type "ValueError")=some true
 xi_NoSize:PySem.W.excIn K a.c_NoSize [.type "ValueError",.type "Exception",.type "BaseException",.type "object"] "ValueError.__new__" = true
 xq_NoSize:exq K a.c_NoSize=true
 kv_NoSize:PySem.W.kitOne K (.ref a.c_NoSize) (.type "ValueError")=some true
 xi_NoTie:PySem.W.excIn K a.c_NoTie [.type "ValueError",.type "Exception",.type "BaseException",.type "object"] "ValueError.__new__" = true
 xq_NoTie:exq K a.c_NoTie=true
 kv_NoTie:PySem.W.kitOne K (.ref a.c_NoTie) (.type "ValueError")=some true
 xk_NoGoal:PySem.W.ktsIn K a.c_NoGoal "BaseException" = true
 xk_NoKnot:PySem.W.ktsIn K a.c_NoKnot "BaseException" = true
 xk_NoSize:PySem.W.ktsIn K a.c_NoSize "BaseException" = true
 xk_NoTie:PySem.W.ktsIn K a.c_NoTie "BaseException" = true
 gx_ALWAYS:∃ u,mg "ALWAYS" = some u∧RelV (gv_ALWAYS a) u
 gx_GREATEST_SIZE:∃ u,mg "GREATEST_SIZE" = some u∧RelV (gv_GREATEST_SIZE a) u
 gx_LEAST_SIZE:∃ u,mg "LEAST_SIZE" = some u∧RelV (gv_LEAST_SIZE a) u
 gx_NEVER:∃ u,mg "NEVER" = some u∧RelV (gv_NEVER a) u
 no_bool:mg "bool" = none
 no_int:mg "int" = none
 no_isinstance:mg "isinstance" = none
 no_len:mg "len" = none
 no_list:mg "list" = none
 no_max:mg "max" = none
 no_min:mg "min" = none
 no_range:mg "range" = none
 no_sorted:mg "sorted" = none
seal PE PT PS PSs PA PG PGs PI PO PW PTs PPs PK PC PSet PIp OpR UnR CallR IxR SlR MtR MtM tMid
local macro_rules | `(tactic| walk_at "go")=>`(tactic| try simp only [tSeq,tAsg,gName,gTup,gCons,gNil,gSub,tOp,tC,cVar,cI2,cI2c,cAdd,cMul,cEq,cNe,cIs,cIsNot,cBool,cTst,cTru,cChain,tRet,tRetN,tWhile,tDrop,tIfS,tIf,tCall,tCons,tNil,tNext,tCB,cLen,cIsinst,cMin,cMax,tNot,tOr,tAnd,cAndV,cNotV,tUn,cNeg,tFor_list,tFor_tup,tFor_rng1,tFor_rng2,tComp_list,tComp_tup,tComp_rng1,cRef,cInt1,cInt2,cIx,tLst_n,tTup_n,tDNewK_n,tDGet,tDNotIn,sDPut,tBM,tBM0,tMake,tMeth,tFld,sFld,tyV,cListKeys,cMinL,cMaxL,cSortD,rPop,tDPop1,cListK,tRaise,tFor_rngD,cMulL,cInN,rIndexN,tDNewT_n,List.append_nil,List.cons_append,List.nil_append,List.getElem?_cons_zero,List.getElem?_cons_succ,List.set_cons_zero,List.set_cons_succ,decide_eq_true_eq,if_true,if_false,Bool.false_eq_true,eq_self,decide_true,decide_false,Bool.not_true,Bool.not_false,Bool.not_eq_true',decide_eq_false_iff_not,Bool.and_true,Bool.true_and])
local macro_rules | `(tactic| walk_at "sd")=>`(tactic| first | exact And.intro (by decide) (by decide) | decide | omega | exact Or.inl (And.intro (by omega) (by omega)) | exact Or.inr (And.intro (by omega) (by omega)) | exact And.intro (by omega) (And.intro (by omega) (by decide)) | exact And.intro (by omega) (by omega))
local macro_rules | `(tactic| walk_at "gs")=>`(tactic| (walk_at "go";repeat (first | (refine And.intro (by walk_at "sd") ?_;walk_at "go"))))
local macro_rules | `(tactic| walk_at "o")=>`(tactic| first | exact Or.inl rfl | exact Or.inr rfl)
variable {P:Program}{w:World}{K:PySem.W.Frag}{mg:Str→Option Value}{base:Heap}{a:Adr}
def sp_turned (_:PySem.W.Frag):Sp:=fun vs H Q _=>∃ t:Int,vs=[.int t]∧0≤t∧Q (.int (MF.tn t)) H
def rd_turned (K:PySem.W.Frag):TS:=(tRet (tOp (cI2 fun i j=>.int (Builtin.bitXor i j)) (cVar 0) (tC (.int 1))))
theorem tm_turned (T:Txt K mg a) {cdv:Value}{A:Around}{outer:List Env}{s:Shared}{H:Hp}{E:XK} (hr:Room 0 (A.deeper (envOfC "turned" (defScope s_turned) s.heap.objs.size a.f_turned cdv))) :
  PSs (cxOf CX0 P w K mg base N_turned "turned" (defScope s_turned) a.f_turned cdv A outer s H E).nox (defBody s_turned) (rd_turned K) :=
 (pss_one (ps_ret (pe_op o_xor (cv 0) pe_int)))
theorem ok_turned (T:Txt K mg a):FnOk P w K mg base CX0 1 a.f_turned a.d_turned ["tie"] (sp_turned K):=by
 refine T.fn_turned.ok sc_turned (fun vs H Q E h=>?_) (fun cdv A outer s H vs Q E hr h=>⟨_,tm_turned T hr,?_⟩)
 ·obtain ⟨t,rfl,_⟩:=h;rfl
 ·obtain ⟨t,rfl,h0,q⟩:=h
  show rd_turned K _ [some (.int t)] H
  unfold rd_turned
  walk_at "go"
  rw [xor_one h0]
  exact q
def sp_Fold___init__ (a:Adr) (K:PySem.W.Frag):Sp:=fun vs H Q _=>∃ (x dx:Addr) (m:Int),vs=[.ref x,.int m]∧H x=some (.ins a.c_Fold dx []) ∧
 ∀ H' pl kl,(∀ b o,b≠x→H b=some o→H' b=some o)→H pl=none→H kl=none→FoldAt a.c_Fold H' x m [] dx pl kl→Q .non H'
def rd_Fold___init__ (K:PySem.W.Frag):TS:=(tSeq (sFld K (cVar 0) (cVar 1) "many")
  (tSeq (sFld K (cVar 0) (tLst tNil) "pairs")
  (sFld K (cVar 0) tDNewT "knots")))
theorem tm_Fold___init__ (T:Txt K mg a) {cdv:Value}{A:Around}{outer:List Env}{s:Shared}{H:Hp}{E:XK} (hr:Room 0 (A.deeper (envOfC "Fold.__init__" (defScope s_Fold___init__) s.heap.objs.size a.f_Fold___init__ cdv))) :
  PSs (cxOf CX0 P w K mg base N_Fold___init__ "Fold.__init__" (defScope s_Fold___init__) a.f_Fold___init__ cdv A outer s H E).nox (defBody s_Fold___init__) (rd_Fold___init__ K) :=
 (pss_cons (ps_fld (cv 0) (cv 1) rfl)
   (pss_cons (ps_fld (cv 0) (pe_lst pa_nil) rfl)
   (pss_one (ps_fld (cv 0) pe_dnewT rfl))))
theorem ok_Fold___init__ (T:Txt K mg a):FnOk P w K mg base CX0 1 a.f_Fold___init__ a.d_Fold___init__ ["self","many"] (sp_Fold___init__ a K):=by
 refine T.fn_Fold___init__.ok sc_Fold___init__ (fun vs H Q E h=>?_) (fun cdv A outer s H vs Q E hr h=>⟨_,tm_Fold___init__ T hr,?_⟩)
 ·obtain ⟨x,dx,m,rfl,_⟩:=h;rfl
 ·obtain ⟨x,dx,m,rfl,hx,q⟩:=h
  show rd_Fold___init__ K _ [some (.ref x),some (.int m)] H
  unfold rd_Fold___init__
  walk_at "go"
  refine ⟨x,a.c_Fold,dx,[],rfl,hx,T.cl_Fold,T.na_Fold_many,by decide,?_⟩
  walk_at "go"
  refine ⟨by decide,fun pl H2 n2=>?_⟩
  have x2:=n2.same _ _ (upd_same (H:=H) (a:=x) (o:=.ins a.c_Fold dx (putF "many" (.int m) [])))
  refine ⟨x,a.c_Fold,dx,_,rfl,x2,T.cl_Fold,T.na_Fold_pairs,by have:=length_putF "many" (.int m) [];simp only [List.length_nil] at this;omega,?_⟩
  walk_at "go"
  intro kl H4 n4
  have x4:=n4.same _ _ (upd_same (H:=H2) (a:=x) (o:=.ins a.c_Fold dx (putF "pairs" (.ref pl) (putF "many" (.int m) []))))
  refine ⟨x,a.c_Fold,dx,_,rfl,x4,T.cl_Fold,T.na_Fold_knots,by have h7:=length_putF "many" (.int m) [];have h8:=length_putF "pairs" (.ref pl) (putF "many" (.int m) []);simp only [List.length_nil] at h7;omega,?_⟩
  have hpx:pl≠x:=fun e=>by have:=n2.was;rw [e,upd_same] at this;cases this
  have hkx:kl≠x:=fun e=>by have:=n4.was;rw [e,upd_same] at this;cases this
  have hp4:H4 pl=some (.lst []):=n4.same _ _ (by rw [upd_ne hpx];exact n2.at_)
  have hk4:H4 kl=some (.dT []):=n4.at_
  have st:∀ b o,b≠x→H b=some o→H4 b=some o:=fun b o nb e=>n4.same _ _ (by rw [upd_ne nb];exact n2.same _ _ (by rw [upd_ne nb];exact e))
  have nop:H pl=none:=by
   have:=n2.was
   rw [upd_ne hpx] at this
   exact this
  have nok:H kl=none:=by
   have h1:=n4.was
   rw [upd_ne hkx] at h1
   have h2:=n2.same.nil h1
   rw [upd_ne hkx] at h2
   exact h2
  refine q _ pl kl (fun b o nb e=>by rw [upd_ne nb];exact st b o nb e) nop nok ⟨?_,?_,?_,fun e he=>nomatch he⟩
  ·rw [upd_same]
   have e1:putF "knots" (.ref kl) (putF "pairs" (.ref pl) (putF "many" (.int m) []))=([("many",V.int m),("pairs",V.ref pl),("knots",V.ref kl)]:List (Str × V)):=by
    have z1:¬ ("many" : Str) = "pairs":=by decide +kernel
    have z2:¬ ("many" : Str) = "knots":=by decide +kernel
    have z3:¬ ("pairs" : Str) = "knots":=by decide +kernel
    simp [putF,z1,z2,z3]
   rw [e1]
  ·rw [upd_ne hpx];exact hp4
  ·rw [upd_ne hkx];exact hk4
def sp_Fold_total (a:Adr) (_:PySem.W.Frag):Sp:=fun vs H Q _=>∃ (f dx pl kl:Addr) (m:Int) (es:List En),vs=[.ref f]∧FoldAt a.c_Fold H f m es dx pl kl∧Q (.int (1+m+es.length)) H
def rd_Fold_total (K:PySem.W.Frag):TS:=(tRet (tOp cAdd (tOp cAdd (tC (.int 1)) (tFld K (cVar 0) "many")) (tCB (cLen K) (tCons (tFld K (cVar 0) "pairs") tNil))))
theorem tm_Fold_total (T:Txt K mg a) {cdv:Value}{A:Around}{outer:List Env}{s:Shared}{H:Hp}{E:XK} (hr:Room 0 (A.deeper (envOfC "Fold.total" (defScope s_Fold_total) s.heap.objs.size a.f_Fold_total cdv))) :
  PSs (cxOf CX0 P w K mg base N_Fold_total "Fold.total" (defScope s_Fold_total) a.f_Fold_total cdv A outer s H E).nox (defBody s_Fold_total) (rd_Fold_total K) :=
 (pss_one (ps_ret (pe_op o_add (pe_op o_add pe_int (pe_fld (cv 0) rfl)) (pe_callB c_len (by rfl) T.no_len PySem.boot_len (pa_cons (pe_fld (cv 0) rfl) pa_nil)))))
theorem ok_Fold_total (T:Txt K mg a):FnOk P w K mg base CX0 1 a.f_Fold_total a.d_Fold_total ["self"] (sp_Fold_total a K):=by
 refine T.fn_Fold_total.ok sc_Fold_total (fun vs H Q E h=>?_) (fun cdv A outer s H vs Q E hr h=>⟨_,tm_Fold_total T hr,?_⟩)
 ·obtain ⟨f,dx,pl,kl,m,es,rfl,_⟩:=h;rfl
 ·obtain ⟨f,dx,pl,kl,m,es,rfl,hf,q⟩:=h
  show rd_Fold_total K _ [some (.ref f)] H
  unfold rd_Fold_total
  walk_at "go"
  refine ⟨f,a.c_Fold,dx,_,_,rfl,hf.ins,T.cl_Fold,T.na_Fold_many,rfl,?_⟩
  walk_at "go"
  refine ⟨f,a.c_Fold,dx,_,_,rfl,hf.ins,T.cl_Fold,T.na_Fold_pairs,rfl,?_⟩
  walk_at "go"
  refine .inl ⟨_,.inl (.of hf.prs.lst),?_⟩
  rw [List.length_map]
  exact q
def sp_Fold_has_tie (a:Adr) (_:PySem.W.Frag):Sp:=fun vs H Q _=>∃ (f dx pl kl:Addr) (m t:Int) (es:List En),vs=[.ref f,.int t]∧FoldAt a.c_Fold H f m es dx pl kl∧Q (.bl (decide (0≤t∧t<2 * (1+m+es.length)))) H
def rd_Fold_has_tie (a:Adr) (K:PySem.W.Frag):TS:=(tRet (cChain (cI2 fun i j=>.bl (decide (i≤j))) (cI2 fun i j=>.bl (decide (i<j))) (tC (.int 0)) (cVar 1) (tOp cMul (tC (.int 2)) (tMeth a.c_Fold "total" (sp_Fold_total a K) [] E0 (cVar 0) tNil))))
theorem tm_Fold_has_tie (T:Txt K mg a) {cdv:Value}{A:Around}{outer:List Env}{s:Shared}{H:Hp}{E:XK} (hr:Room 1 (A.deeper (envOfC "Fold.has_tie" (defScope s_Fold_has_tie) s.heap.objs.size a.f_Fold_has_tie cdv))) :
  PSs (cxOf CX0 P w K mg base N_Fold_has_tie "Fold.has_tie" (defScope s_Fold_has_tie) a.f_Fold_has_tie cdv A outer s H E).nox (defBody s_Fold_has_tie) (rd_Fold_has_tie a K) :=
 (pss_one (ps_ret (e_chain o_le o_lt pe_int (cv 1) (pe_op o_mul pe_int (pe_meth0 (cv 0) T.cl_Fold T.me_Fold_total (ok_Fold_total T) (hr.mono (by decide)) T.bi_Fold_total .nil pass0)))))
theorem ok_Fold_has_tie (T:Txt K mg a):FnOk P w K mg base CX0 2 a.f_Fold_has_tie a.d_Fold_has_tie ["self","tie"] (sp_Fold_has_tie a K):=by
 refine T.fn_Fold_has_tie.ok sc_Fold_has_tie (fun vs H Q E h=>?_) (fun cdv A outer s H vs Q E hr h=>⟨_,tm_Fold_has_tie T hr,?_⟩)
 ·obtain ⟨f,dx,pl,kl,m,t,es,rfl,_⟩:=h;rfl
 ·obtain ⟨f,dx,pl,kl,m,t,es,rfl,hf,q⟩:=h
  show rd_Fold_has_tie a K _ [some (.ref f),some (.int t)] H
  unfold rd_Fold_has_tie
  walk_at "go"
  by_cases h0:0≤t
  ·rw [if_pos h0]
   refine ⟨f,dx,_,rfl,hf.ins,rfl,f,dx,pl,kl,m,es,rfl,hf,?_⟩
   walk_at "go"
   refine ⟨.inl ⟨by decide,by decide⟩,?_⟩
   have e:decide (t<2 * (1+m+(es.length:Int)))=decide (0≤t∧t<2 * (1+m+es.length)):=by rw [decide_eq_decide];omega
   rw [e]
   exact q
  ·rw [if_neg h0]
   have e:false=decide (0≤t∧t<2 * (1+m+(es.length:Int))):=by rw [decide_eq_false (by omega)]
   rw [e]
   exact q
def sp_Fold_pair (a:Adr) (_:PySem.W.Frag):Sp:=fun vs H Q E=>∃ (f dx pl kl:Addr) (m k:Int) (es:List En),vs=[.ref f,.int k]∧FoldAt a.c_Fold H f m es dx pl kl ∧
 (0≤k∧k<1+m+es.length→(k≤m→Q .non H)∧(∀ e,m<k→es[(k - m - 1).toNat]? = some e→Q (.ref e.1) H))∧(¬ (0≤k∧k<1+m+es.length)→∀ e,H e=none→E (.ref e) (some a.c_NoKnot) H)
def rd_Fold_pair (a:Adr) (K:PySem.W.Frag) (E:XK):TS:=(tSeq (tIfS (tOr (cTst (tOp (cI2 fun i j=>.bl (decide (i<j))) (cVar 1) (tC (.int 0)))) (cTst (tOp (cI2 fun i j=>.bl (decide (j≤i))) (cVar 1) (tMeth a.c_Fold "total" (sp_Fold_total a K) [] E0 (cVar 0) tNil)))) (tRaise a.c_NoKnot (tCons (tC (.str "no knot of this fold")) tNil) E) tNext)
  (tSeq (tIfS (cTst (tOp (cI2 fun i j=>.bl (decide (i≤j))) (cVar 1) (tFld K (cVar 0) "many"))) (tRet (tC .non)) tNext)
  (tRet (tOp (cIx K) (tFld K (cVar 0) "pairs") (tOp (cI2 fun i j=>.int (i - j)) (tOp (cI2 fun i j=>.int (i - j)) (cVar 1) (tFld K (cVar 0) "many")) (tC (.int 1)))))))
theorem tm_Fold_pair (T:Txt K mg a) {cdv:Value}{A:Around}{outer:List Env}{s:Shared}{H:Hp}{E:XK} (hr:Room 1 (A.deeper (envOfC "Fold.pair" (defScope s_Fold_pair) s.heap.objs.size a.f_Fold_pair cdv))) :
  PSs (cxOf (CX1 P w) P w K mg base N_Fold_pair "Fold.pair" (defScope s_Fold_pair) a.f_Fold_pair cdv A outer s H E) (defBody s_Fold_pair) (rd_Fold_pair a K E) :=
 (pss_cons (ps_if (PW.pt (pw_or (t_cmp o_lt (cv 1) pe_int (nomark _)) (pw_or1 (t_cmp o_ge (cv 1) (pe_meth0 (cv 0) T.cl_Fold T.me_Fold_total (ok_Fold_total T) (hr.mono (by decide)) T.bi_Fold_total .nil pass0) (nomark _))))) (pss_one (ps_raise PySem.F.excBase_ValueError T.xi_NoKnot (by decide) rfl T.mg_NoKnot rfl xok_fn (pa_cons pe_str pa_nil))) pss_nil)
   (pss_cons (ps_if (t_cmp o_le (cv 1) (pe_fld (cv 0) rfl) (nomark _)) (pss_one (ps_ret pe_non)) pss_nil)
   (pss_one (ps_ret (pe_ix i_seq (pe_fld (cv 0) rfl) (pe_op o_sub (pe_op o_sub (cv 1) (pe_fld (cv 0) rfl)) pe_int) (fun _ _=>rfl))))))
theorem ok_Fold_pair (T:Txt K mg a):FnOk P w K mg base (CX1 P w) 2 a.f_Fold_pair a.d_Fold_pair ["self","knot"] (sp_Fold_pair a K):=by
 refine T.fn_Fold_pair.okX sc_Fold_pair (fun vs H Q E h=>?_) (fun cdv A outer s H vs Q E hr h=>⟨_,tm_Fold_pair T hr,?_⟩)
 ·obtain ⟨f,dx,pl,kl,m,k,es,rfl,_⟩:=h;rfl
 ·obtain ⟨f,dx,pl,kl,m,k,es,rfl,hf,qi,qo⟩:=h
  show rd_Fold_pair a K E _ [some (.ref f),some (.int k)] H
  unfold rd_Fold_pair
  walk_at "go"
  by_cases h0:k<0
  ·rw [if_pos h0]
   exact ⟨by decide,qo (by omega)⟩
  rw [if_neg h0]
  refine ⟨f,dx,_,rfl,hf.ins,rfl,f,dx,pl,kl,m,es,rfl,hf,?_⟩
  walk_at "go"
  by_cases h1:1+m+(es.length:Int)≤k
  ·rw [if_pos h1]
   exact ⟨by decide,qo (by omega)⟩
  rw [if_neg h1]
  obtain ⟨q1,q2⟩:=qi (by omega)
  refine ⟨f,a.c_Fold,dx,_,_,rfl,hf.ins,T.cl_Fold,T.na_Fold_many,rfl,?_⟩
  walk_at "go"
  by_cases hk:k≤m
  ·rw [if_pos hk]
   exact q1 hk
  ·rw [if_neg hk]
   refine ⟨f,a.c_Fold,dx,_,_,rfl,hf.ins,T.cl_Fold,T.na_Fold_pairs,rfl,f,a.c_Fold,dx,_,_,rfl,hf.ins,T.cl_Fold,T.na_Fold_many,rfl,?_⟩
   walk_at "go"
   have hlt:(k - m - 1).toNat<es.length:=by omega
   refine ⟨_,_,.inl (.of hf.prs.lst),atI_ok .non (by omega) (by rw [List.length_map];omega),?_⟩
   rw [getD_refs es _ hlt]
   exact q2 _ (by omega) (List.getElem?_eq_getElem hlt)
def sp_Fold_and_knot (a:Adr) (_:PySem.W.Frag):Sp:=fun vs H Q _=>∃ (f dx pl kl tp:Addr) (m:Int) (p:MF.Pr) (es:List En),vs=[.ref f,.ref tp]∧FoldAt a.c_Fold H f m es dx pl kl∧H tp=some (.tup [.int p.1,.int p.2])∧es.length≤5000 ∧
 ∀ H' es',Un2 pl kl H H'→FoldAt a.c_Fold H' f m es' dx pl kl→psOf es'=MF.kp m (psOf es) p→Q (.int (MF.kn m (psOf es) p)) H'
def rd_Fold_and_knot (a:Adr) (K:PySem.W.Frag):TS:=(tMid (tIfS (cTst (tDNotIn (cVar 1) (tFld K (cVar 0) "knots"))) (tSeq (sDPut (tFld K (cVar 0) "knots") (cVar 1) (tMeth a.c_Fold "total" (sp_Fold_total a K) [] E0 (cVar 0) tNil))
  (tDrop (tBM K "list" rAppend (tFld K (cVar 0) "pairs") (tCons (cVar 1) tNil)))) tNext)
  (tRet (tDGet (tFld K (cVar 0) "knots") (cVar 1))))
theorem tm_Fold_and_knot (T:Txt K mg a) {cdv:Value}{A:Around}{outer:List Env}{s:Shared}{H:Hp}{E:XK} (hr:Room 1 (A.deeper (envOfC "Fold.and_knot" (defScope s_Fold_and_knot) s.heap.objs.size a.f_Fold_and_knot cdv))) :
  PSs (cxOf CX0 P w K mg base N_Fold_and_knot "Fold.and_knot" (defScope s_Fold_and_knot) a.f_Fold_and_knot cdv A outer s H E).nox (defBody s_Fold_and_knot) (rd_Fold_and_knot a K) :=
 (pss_mid (ps_if (t_pc (pc_dnotin (hu_of hr) (cv 1) (pe_fld (cv 0) rfl))) (pss_cons (ps_dput (hu_of hr) (pe_fld (cv 0) rfl) (cv 1) (pe_meth0 (cv 0) T.cl_Fold T.me_Fold_total (ok_Fold_total T) (hr.mono (by decide)) T.bi_Fold_total .nil pass0) rfl)
   (pss_one (ps_expr (pe_bm PySem.F.plainAttrs_list PySem.F.slot_list_append PySem.F.type_list_append (mtr mt_append) (pe_fld (cv 0) rfl) (pa_cons (cv 1) pa_nil))))) pss_nil)
   (pss_one (ps_ret (pe_dget (hu_of hr) (pe_fld (cv 0) rfl) (cv 1) (fun _ _=>rfl)))))
theorem ok_Fold_and_knot (T:Txt K mg a):FnOk P w K mg base CX0 2 a.f_Fold_and_knot a.d_Fold_and_knot ["self","ties"] (sp_Fold_and_knot a K):=by
 refine T.fn_Fold_and_knot.ok sc_Fold_and_knot (fun vs H Q E h=>?_) (fun cdv A outer s H vs Q E hr h=>⟨_,tm_Fold_and_knot T hr,?_⟩)
 ·obtain ⟨f,dx,pl,kl,tp,m,p,es,rfl,_⟩:=h;rfl
 ·obtain ⟨f,dx,pl,kl,tp,m,p,es,rfl,hf,ht,hz,q⟩:=h
  show rd_Fold_and_knot a K _ [some (.ref f),some (.ref tp)] H
  unfold rd_Fold_and_knot
  have big:(5001:Nat)≤sizeLine:=by decide
  refine mid (fun σ' H'=>σ'=[some (.ref f),some (.ref tp)]∧Un2 pl kl H H'∧∃ es',FoldAt a.c_Fold H' f m es' dx pl kl∧psOf es'=MF.kp m (psOf es) p∧MF.fnd (m+1) (psOf es') p=some (MF.kn m (psOf es) p)∧H' tp=some (.tup [.int p.1,.int p.2])) ?_ ?_
  ·intro N hN
   walk_at "go"
   refine ⟨f,a.c_Fold,dx,_,_,rfl,hf.ins,T.cl_Fold,T.na_Fold_knots,rfl,kl,_,rfl,DGet.t (k:=knK p) hf.prs.dct ht,?_⟩
   rw [val_kvF]
   cases hfd:MF.fnd (m+1) (psOf es) p with
   | some i =>
    walk_at "go"
    refine hN _ _ ⟨rfl,Un2.refl,es,hf,?_,?_,ht⟩
    ·unfold MF.kp;rw [hfd];rfl
    ·unfold MF.kn;rw [hfd];rfl
   | none =>
    walk_at "go"
    refine ⟨f,dx,_,rfl,hf.ins,rfl,f,dx,pl,kl,m,es,rfl,hf,?_⟩
    walk_at "go"
    refine ⟨f,a.c_Fold,dx,_,_,rfl,hf.ins,T.cl_Fold,T.na_Fold_knots,rfl,?_⟩
    walk_at "go"
    refine ⟨kl,_,rfl,DPut.t (k:=knK p) hf.prs.dct ht (by rw [len_kvF,List.length_map];omega),?_⟩
    have e0:(1+m+(es.length:Int))=(m+1)+((psOf es).length:Nat):=by rw [List.length_map];omega
    rw [e0,put_kvF hfd]
    have nfk:f≠kl:=ne_of hf.ins hf.prs.dct (fun z=>nomatch z)
    have nfl:f≠pl:=ne_of hf.ins hf.prs.lst (fun z=>nomatch z)
    have i2:upd H kl (.dT (kvF (m+1) (psOf es ++ [p]))) f=some (.ins a.c_Fold dx [("many",.int m),("pairs",.ref pl),("knots",.ref kl)]):=by rw [upd_ne nfk];exact hf.ins
    have l2:upd H kl (.dT (kvF (m+1) (psOf es ++ [p]))) pl=some (.lst (es.map fun e=>V.ref e.1)):=by rw [upd_ne hf.prs.nlk];exact hf.prs.lst
    walk_at "go"
    refine ⟨f,a.c_Fold,dx,_,_,rfl,i2,T.cl_Fold,T.na_Fold_pairs,rfl,?_⟩
    walk_at "go"
    refine ⟨.inl ⟨by trivial,_,.of l2⟩,pl,_,_,rfl,rfl,l2,by rw [List.length_map];omega,?_⟩
    refine hN _ _ ⟨rfl,un_k.trans un_l,es ++ [(tp,p)],⟨?_,hf.prs.put ht hfd⟩,?_,?_,?_⟩
    ·rw [upd_ne nfl];exact i2
    ·unfold MF.kp;rw [hfd,psOf,List.map_append];rfl
    ·unfold MF.kn;rw [hfd,psOf,List.map_append];exact MF.fnd_snoc hfd
    ·rw [upd_ne (ne_of ht hf.prs.lst (fun z=>nomatch z)),upd_ne (ne_of ht hf.prs.dct (fun z=>nomatch z))];exact ht
  ·rintro σ' H' ⟨rfl,u,es',hf',hp',hfd,ht'⟩
   walk_at "go"
   refine ⟨f,a.c_Fold,dx,_,_,rfl,hf'.ins,T.cl_Fold,T.na_Fold_knots,rfl,kl,.int (MF.kn m (psOf es) p),rfl,?_,q _ es' u hf' hp'⟩
   have:=DGet.t (k:=knK p) hf'.prs.dct ht'
   rw [val_kvF,hfd] at this
   exact this
def sp_Fold_both (a:Adr) (_:PySem.W.Frag):Sp:=fun vs H Q E=>∃ (f dx pl kl:Addr) (m s t:Int) (es:List En),vs=[.ref f,.int s,.int t]∧FoldAt a.c_Fold H f m es dx pl kl∧es.length≤5000 ∧
 (0≤s∧0≤t∧s<2 * (1+m+es.length)∧t<2 * (1+m+es.length)→∀ H' es',Un2 pl kl H H'→FoldAt a.c_Fold H' f m es' dx pl kl→psOf es'=MF.bp m (psOf es) s t→Q (.int (MF.bt m (psOf es) s t)) H') ∧
 (¬ (0≤s∧0≤t∧s<2 * (1+m+es.length)∧t<2 * (1+m+es.length))→∀ e,H e=none→E (.ref e) (some a.c_NoTie) H)
def rd_Fold_both (a:Adr) (K:PySem.W.Frag) (E:XK):TS:=(tSeq (tIfS (tOr (tNot (cTru K (tMeth a.c_Fold "has_tie" (sp_Fold_has_tie a K) [] E0 (cVar 0) (tCons (cVar 1) tNil)))) (tNot (cTru K (tMeth a.c_Fold "has_tie" (sp_Fold_has_tie a K) [] E0 (cVar 0) (tCons (cVar 2) tNil))))) (tRaise a.c_NoTie (tCons (tC (.str "no tie of this fold")) tNil) E) tNext)
  (tSeq (tAsg (tCB cMin (tCons (cVar 1) (tCons (cVar 2) tNil))) (gName 3))
  (tSeq (tAsg (tCB cMax (tCons (cVar 1) (tCons (cVar 2) tNil))) (gName 4))
  (tSeq (tIfS (cTst (tOp (cEq K) (cVar 3) (tC (gv_NEVER a)))) (tRet (tC (gv_NEVER a))) tNext)
  (tSeq (tIfS (tOr (cTst (tOp (cEq K) (cVar 3) (tC (gv_ALWAYS a)))) (cTst (tOp (cEq K) (cVar 3) (cVar 4)))) (tRet (cVar 4)) tNext)
  (tSeq (tIfS (cTst (tOp (cEq K) (cVar 3) (tCall (sp_turned K) [] E0 (tCons (cVar 4) tNil)))) (tRet (tC (gv_NEVER a))) tNext)
  (tRet (tOp cMul (tC (.int 2)) (tMeth a.c_Fold "and_knot" (sp_Fold_and_knot a K) [] E0 (cVar 0) (tCons (tTup (tCons (cVar 3) (tCons (cVar 4) tNil))) tNil))))))))))
theorem tm_Fold_both (T:Txt K mg a) {cdv:Value}{A:Around}{outer:List Env}{s:Shared}{H:Hp}{E:XK} (hr:Room 2 (A.deeper (envOfC "Fold.both" (defScope s_Fold_both) s.heap.objs.size a.f_Fold_both cdv))) :
  PSs (cxOf (CX1 P w) P w K mg base N_Fold_both "Fold.both" (defScope s_Fold_both) a.f_Fold_both cdv A outer s H E) (defBody s_Fold_both) (rd_Fold_both a K E) :=
 (pss_cons (ps_if (PW.pt (pw_or (pt_not (pt_tru (pe_meth (cv 0) T.cl_Fold T.me_Fold_has_tie (ok_Fold_has_tie T) (hr.mono (by decide)) T.bi_Fold_has_tie .nil pass0 (pa_cons (cv 1) pa_nil)))) (pw_or1 (pt_not (pt_tru (pe_meth (cv 0) T.cl_Fold T.me_Fold_has_tie (ok_Fold_has_tie T) (hr.mono (by decide)) T.bi_Fold_has_tie .nil pass0 (pa_cons (cv 2) pa_nil))))))) (pss_one (ps_raise PySem.F.excBase_ValueError T.xi_NoTie (by decide) rfl T.mg_NoTie rfl xok_fn (pa_cons pe_str pa_nil))) pss_nil)
   (pss_cons (ps_set (i:=3) sc_Fold_both.nd rfl (by walk_at "o") (pe_callB (c_min rfl) (by rfl) T.no_min PyProof.Rows.boot_min (pa_cons (cv 1) (pa_cons (cv 2) pa_nil))))
   (pss_cons (ps_set (i:=4) sc_Fold_both.nd rfl (by walk_at "o") (pe_callB (c_max rfl) (by rfl) T.no_max PyProof.Rows.boot_max (pa_cons (cv 1) (pa_cons (cv 2) pa_nil))))
   (pss_cons (ps_if (t_cmp (o_eq (hr8 hr)) (cv 3) (pe_globE rfl T.gx_NEVER) (nomark _)) (pss_one (ps_ret (pe_globE rfl T.gx_NEVER))) pss_nil)
   (pss_cons (ps_if (PW.pt (pw_or (t_cmp (o_eq (hr8 hr)) (cv 3) (pe_globE rfl T.gx_ALWAYS) (nomark _)) (pw_or1 (t_cmp (o_eq (hr8 hr)) (cv 3) (cv 4) (nomark _))))) (pss_one (ps_ret (cv 4))) pss_nil)
   (pss_cons (ps_if (t_cmp (o_eq (hr8 hr)) (cv 3) (pe_call (ok_turned T) (hr.mono (by decide)) rfl T.mg_turned T.fn_turned.kp T.bi_turned .nil pass0 (pa_cons (cv 4) pa_nil)) (nomark _)) (pss_one (ps_ret (pe_globE rfl T.gx_NEVER))) pss_nil)
   (pss_one (ps_ret (pe_op o_mul pe_int (pe_meth (cv 0) T.cl_Fold T.me_Fold_and_knot (ok_Fold_and_knot T) (hr.mono (by decide)) T.bi_Fold_and_knot .nil pass0 (pa_cons (pe_tup (pa_cons (cv 3) (pa_cons (cv 4) pa_nil))) pa_nil)))))))))))
theorem ok_Fold_both (T:Txt K mg a):FnOk P w K mg base (CX1 P w) 3 a.f_Fold_both a.d_Fold_both ["self","one","other"] (sp_Fold_both a K):=by
 refine T.fn_Fold_both.okX sc_Fold_both (fun vs H Q E h=>?_) (fun cdv A outer s H vs Q E hr h=>⟨_,tm_Fold_both T hr,?_⟩)
 ·obtain ⟨f,dx,pl,kl,m,s,t,es,rfl,_⟩:=h;rfl
 ·obtain ⟨f,dx,pl,kl,m,x,y,es,rfl,hf,hz,qi,qo⟩:=h
  show rd_Fold_both a K E _ [some (.ref f),some (.int x),some (.int y),none,none] H
  unfold rd_Fold_both gv_NEVER gv_ALWAYS
  walk_at "go"
  refine ⟨f,dx,_,rfl,hf.ins,rfl,f,dx,pl,kl,m,x,es,rfl,hf,?_⟩
  by_cases gx:0≤x∧x<2 * (1+m+(es.length:Int))
  case neg =>
   rw [decide_eq_false gx]
   walk_at "go"
   exact ⟨by decide,qo (fun z=>gx ⟨z.1,z.2.2.1⟩)⟩
  rw [decide_eq_true gx]
  walk_at "go"
  refine ⟨f,dx,_,rfl,hf.ins,rfl,f,dx,pl,kl,m,y,es,rfl,hf,?_⟩
  by_cases gy:0≤y∧y<2 * (1+m+(es.length:Int))
  case neg =>
   rw [decide_eq_false gy]
   walk_at "go"
   exact ⟨by decide,qo (fun z=>gy ⟨z.2.1,z.2.2.2⟩)⟩
  rw [decide_eq_true gy]
  obtain ⟨hx,hx'⟩:=gx
  obtain ⟨hy,hy'⟩:=gy
  have q:=qi ⟨hx,hy,hx',hy'⟩
  walk_at "go"
  have q':=q
  unfold MF.bt MF.bp MF.sure at q'
  have e1:(if y<x then y else x)=MF.lo x y:=rfl
  have e2:(if y > x then y else x)=MF.hi x y:=rfl
  rw [e1,e2]
  by_cases h1:MF.lo x y=0
  ·rw [if_pos h1] at q' ⊢
   exact q' H es Un2.refl hf rfl
  rw [if_neg h1] at q' ⊢
  by_cases h2:MF.lo x y=1∨MF.lo x y=MF.hi x y
  ·rw [if_pos h2] at q'
   have fin:=q' H es Un2.refl hf rfl
   rcases h2 with h2 | h2
   ·rw [if_pos h2];exact fin
   ·by_cases h3:MF.lo x y=1
    ·rw [if_pos h3];exact fin
    ·rw [if_neg h3,if_pos h2];exact fin
  rw [if_neg h2] at q'
  rw [if_neg (fun z=>h2 (.inl z)),if_neg (fun z=>h2 (.inr z))]
  have hhi:0≤MF.hi x y:=by unfold MF.hi;split <;> omega
  refine ⟨MF.hi x y,rfl,hhi,?_⟩
  walk_at "go"
  by_cases h3:MF.lo x y=MF.tn (MF.hi x y)
  ·rw [if_pos h3] at q' ⊢
   exact q' H es Un2.refl hf rfl
  rw [if_neg h3] at q' ⊢
  refine ⟨f,dx,_,rfl,hf.ins,rfl,by show 2≤sizeLine;decide,fun tp H2 n2=>?_⟩
  have hf2:=hf.same n2.same
  refine ⟨f,dx,pl,kl,tp,m,(MF.lo x y,MF.hi x y),es,rfl,hf2,n2.at_,hz,fun H' es' u hf' hp'=>?_⟩
  walk_at "go"
  refine ⟨.inl ⟨by decide,by decide⟩,q' H' es' (n2.same.un.trans u) hf' hp'⟩
theorem mk_Fold {a:Adr}{K:PySem.W.Frag}{H:Hp}{m:Int}{F:Addr→Hp→Prop}{E:XK} (q:∀ x dx pl kl H',Same H H'→H x=none→H pl=none→H kl=none→FoldAt a.c_Fold H' x m [] dx pl kl→F x H') :
  ∀ x dx,H x=none→H dx=none→dx≠x→sp_Fold___init__ a K [.ref x,.int m] (upd (upd H dx (.own x)) x (.ins a.c_Fold dx [])) (fun v H2=>v=.non∧F x H2) E:=by
 intro x dx hx hd hne
 refine ⟨x,dx,m,rfl,upd_same,fun H' pl kl st hp hk hf=>⟨rfl,q x dx pl kl H' (fun b o e=>?_) hx ?_ ?_ hf⟩⟩
 ·have n1:b≠x:=ne_of_none e hx
  have n2:b≠dx:=ne_of_none e hd
  exact st b o n1 (by rw [upd_ne n1,upd_ne n2];exact e)
 ·cases e:H pl with
  | none=>rfl
  | some o =>
   rw [upd_ne (ne_of_none e hx),upd_ne (ne_of_none e hd),e] at hp
   cases hp
 ·cases e:H kl with
  | none=>rfl
  | some o =>
   rw [upd_ne (ne_of_none e hx),upd_ne (ne_of_none e hd),e] at hk
   cases hk
def Scr (K:PySem.W.Frag) (H:Hp) (p:Addr) (xs:List V) (L:Addr→Prop):Prop:=(SqL K H p xs∧¬ L p)∨∀ H',SqL K H' p xs
theorem at_bl {L:List Bool}{i:Int} (h0:0≤i) (h1:i<L.length):atI (L.map V.bl) i=some (.bl (L.getD i.toNat false)):=by
 rw [atI_ok .non h0 (by rw [List.length_map];exact h1)]
 have:i.toNat<L.length:=by omega
 simp [List.getD,this]
theorem ixN_ok {n:Nat}{k:Int} (h0:0≤k) (h1:k<n):ixN n k=some k.toNat:=by
 unfold ixN
 simp [h0,h1]
theorem set_bl (L:List Bool) (t:Int):(L.map V.bl).set (t / 2).toNat (.bl true)=(MF.mark L t).map V.bl:=(List.map_set ..).symm
theorem marks_take {L:List Bool}{ts:List Int}{i:Nat}{t:Int} (h:ts[i]? = some t):MF.marks L (ts.take (i+1))=MF.mark (MF.marks L (ts.take i)) t:=by
 unfold MF.marks
 rw [List.take_add_one,h,List.foldl_append]
 rfl
theorem get_int {ts:List Int}{i:Nat}{x:V} (h:(ts.map V.int)[i]? = some x):∃ t:Int,x=.int t∧ts[i]? = some t∧t∈ts:=by
 rw [List.getElem?_map] at h
 cases e:ts[i]? with
 | none=>rw [e] at h;cases h
 | some t =>
  rw [e] at h
  cases h
  exact ⟨t,rfl,rfl,List.mem_of_getElem? e⟩
theorem marks_two (L:List Bool) (p:MF.Pr):MF.marks L [p.1,p.2]=MF.mark (MF.mark L p.1) p.2:=rfl
theorem get_half {ts:List Int}{i:Nat}{x:V} (h:(ts.map fun t=>V.int (t / 2))[i]? = some x):∃ t:Int,x=.int (t / 2)∧ts[i]? = some t∧t∈ts:=by
 rw [List.getElem?_map] at h
 cases e:ts[i]? with
 | none=>rw [e] at h;cases h
 | some t =>
  rw [e] at h
  cases h
  exact ⟨t,rfl,rfl,List.mem_of_getElem? e⟩
def stp (kvs:List (Key × V)) (k:Nat):Bool:=(valV kvs (.inl (k:Int))).isSome
def nzI (k:Nat):V:=.int (k:Int)
def sp_reached (a:Adr) (K:PySem.W.Frag):Sp:=fun vs H Q _=>∃ (f dx pl kl p sd:Addr) (m:Nat) (ts:List Int) (kvs:List (Key × V)) (es:List En),vs=[.ref f,.ref p,.ref sd]∧FoldAt a.c_Fold H f m es dx pl kl∧SqL K H p (ts.map fun t=>V.int (t / 2))∧H sd=some (.dK kvs)∧MF.Ok m (psOf es)∧MF.Tis m (psOf es) ts∧m≤10∧es.length≤4000∧ts.length≤4000 ∧
 ∀ q H',Mad H q (.lst ((MF.reached (stp kvs) m (psOf es) ts).map nzI)) H'→Q (.ref q) H'
def rd_reached (a:Adr) (K:PySem.W.Frag):TS:=(tSeq (tAsg (tOp cMulL (tLst (tCons (tC (.bl false)) tNil)) (tMeth a.c_Fold "total" (sp_Fold_total a K) [] E0 (cVar 0) tNil)) (gName 3))
  (tSeq (tFor (iList K (cVar 1)) (gName 4) (tAsg (tC (.bl true)) (gSub (cVar 3) (cVar 4) rSetL)))
  (tSeq (tFor (iRngD (tCons (tOp (cI2 fun i j=>.int (i - j)) (tMeth a.c_Fold "total" (sp_Fold_total a K) [] E0 (cVar 0) tNil) (tC (.int 1))) (tCons (tFld K (cVar 0) "many") (tCons (tUn cNeg (tC (.int 1))) tNil)))) (gName 4) (tIfS (tAnd (cTru K (tOp (cIx K) (cVar 3) (cVar 4))) (cTst (tDNotIn (cVar 4) (cVar 2)))) (tFor (iTup K (tMeth a.c_Fold "pair" (sp_Fold_pair a K) [] E0 (cVar 0) (tCons (cVar 4) tNil))) (gName 5) (tAsg (tC (.bl true)) (gSub (cVar 3) (tOp (cI2c CDiv fun i j=>.int (i / j)) (cVar 5) (tC (.int 2))) rSetL))) tNext))
  (tRet (tComp (iRng1 (tCons (tMeth a.c_Fold "total" (sp_Fold_total a K) [] E0 (cVar 0) tNil) tNil)) 1 [3] (gName 0) (cTru K (tOp (cIx K) (cVar 1) (cVar 0))) (cVar 0))))))
theorem tm_reached (T:Txt K mg a) {cdv:Value}{A:Around}{outer:List Env}{s:Shared}{H:Hp}{E:XK} (hr:Room 2 (A.deeper (envOfC "reached" (defScope s_reached) s.heap.objs.size a.f_reached cdv))) :
  PSs (cxOf CX0 P w K mg base N_reached "reached" (defScope s_reached) a.f_reached cdv A outer s H E).nox (defBody s_reached) (rd_reached a K) :=
 (pss_cons (ps_set (i:=3) sc_reached.nd rfl (by walk_at "o") (pe_op o_mulL (pe_lst (pa_cons pe_bl pa_nil)) (pe_meth0 (cv 0) T.cl_Fold T.me_Fold_total (ok_Fold_total T) (hr.mono (by decide)) T.bi_Fold_total .nil pass0)))
   (pss_cons (ps_for PassesOwn.never rfl (pi_list (cv 1)) (pg_name (i:=4) sc_reached.nd rfl (by walk_at "o")) (pss_one (ps_asg pe_bl (pg_sub (cv 3) (cv 4) set_list))))
   (pss_cons (ps_for PassesOwn.never rfl (pi_rangeD rfl T.no_range (pa_cons (pe_op o_sub (pe_meth0 (cv 0) T.cl_Fold T.me_Fold_total (ok_Fold_total T) (hr.mono (by decide)) T.bi_Fold_total .nil pass0) pe_int) (pa_cons (pe_fld (cv 0) rfl) (pa_cons (pe_un u_neg pe_int) pa_nil)))) (pg_name (i:=4) sc_reached.nd rfl (by walk_at "o")) (pss_one (ps_if (PW.pt (pw_and (pt_tru (pe_ix i_seq (cv 3) (cv 4) (fun _ _=>rfl))) (pw_and1 (t_pc (pc_dnotin (hu_of hr) (cv 4) (cv 2)))))) (pss_one (ps_for PassesOwn.never rfl (pi_tup (pe_meth (cv 0) T.cl_Fold T.me_Fold_pair (ok_Fold_pair T) (hr.mono (by decide)) T.bi_Fold_pair .nil passN (pa_cons (cv 4) pa_nil))) (pg_name (i:=5) sc_reached.nd rfl (by walk_at "o")) (pss_one (ps_asg pe_bl (pg_sub (cv 3) (pe_op o_fdiv (cv 5) pe_int) set_list))))) pss_nil)))
   (pss_one (ps_ret (pe_comp (N:=["knot","seen"]) (k:=1) (sel:=[3]) (CScope.of (defScope s_reached).names (by decide +kernel)) (CNames.of N_reached (by decide +kernel)) rfl (pi_range1 rfl T.no_range (pa_cons (pe_meth0 (cv 0) T.cl_Fold T.me_Fold_total (ok_Fold_total T) (hr.mono (by decide)) T.bi_Fold_total .nil pass0) pa_nil)) (fun _ _ _ _=>(pg_name (i:=0) (show List.Nodup (["knot","seen"]:List Str) by decide +kernel) rfl (by walk_at "o"))) (fun _ _ _ _=>(pts_one (pt_tru (pe_ix i_seq (cv 1) (cv 0) (fun _ _=>rfl))))) (fun _ _ _ _=>(cv 0))))))))
theorem ok_reached (T:Txt K mg a):FnOk P w K mg base CX0 3 a.f_reached a.d_reached ["fold","knots","stops"] (sp_reached a K):=by
 refine T.fn_reached.ok sc_reached (fun vs H Q E h=>?_) (fun cdv A outer s H vs Q E hr h=>⟨_,tm_reached T hr,?_⟩)
 ·obtain ⟨f,dx,pl,kl,p,sd,m,ts,kvs,es,rfl,_⟩:=h;rfl
 ·obtain ⟨f,dx,pl,kl,p,sd,m,ts,kvs,es,rfl,hf,hT,hS,ok,hin,hm,hz,htz,q⟩:=h
  show rd_reached a K _ [some (.ref f),some (.ref p),some (.ref sd),none,none,none] H
  unfold rd_reached
  have big:(20000:Nat)≤sizeLine:=by decide
  have epl:((psOf es).length:Int)=es.length:=by rw [List.length_map]
  walk_at "gs"
  intro r1 H1 n1
  refine ⟨f,dx,_,rfl,n1.same _ _ hf.ins,rfl,f,dx,pl,kl,m,es,rfl,hf.same n1.same,?_⟩
  walk_at "gs"
  refine ⟨_,n1.at_,by omega,by omega,by simp only [List.length_singleton];omega,fun nq H2 n2=>?_⟩
  have hw:H nq=none:=n1.same.nil n2.was
  have e0:(List.replicate (1+(m:Int)+(es.length:Int)).toNat [V.bl false]).flatten=(MF.marks (List.replicate (1+m+(psOf es).length) false) (ts.take 0)).map V.bl:=by
   rw [rep_one,show (1+(m:Int)+(es.length:Int)).toNat=1+m+(psOf es).length by omega]
   show _=(List.replicate (1+m+(psOf es).length) false).map V.bl
   rw [List.map_replicate]
  rw [e0] at n2
  have hlen:∀ xs:List Int,(MF.marks (List.replicate (1+m+(psOf es).length) false) xs).length=1+m+(psOf es).length:=fun xs=>by rw [MF.marks_len,List.length_replicate]
  generalize hL0:List.replicate (1+m+(psOf es).length) false=L0 at *
  walk_at "gs"
  have s2:=n1.same.trans n2.same
  refine ⟨⟨_,s2.seq hT⟩,for_listG (xs:=ts.map fun t=>V.int (t / 2)) (fun i σ H3=>Same H H3∧H3 nq=some (.lst ((MF.marks L0 (ts.take i)).map V.bl))∧∃ v4,σ=[some (.ref f),some (.ref p),some (.ref sd),some (.ref nq),v4,none]) ⟨s2,n2.at_,_,rfl⟩ ?_ ?_ ?_⟩
  ·rintro i σ H3 _ ⟨s3,_⟩
   exact s3.seq hT
  ·rintro i x σ H3 hx ⟨s3,a3,v4,rfl⟩
   obtain ⟨t,rfl,ht,htm⟩:=get_half hx
   have hb:=hin t htm
   walk_at "gs"
   refine ⟨nq,_,_,_,rfl,rfl,a3,ixN_ok (by omega) (by rw [List.length_map,hlen];omega),s3.put hw,?_,_,rfl⟩
   rw [upd_same,set_bl,marks_take ht]
  ·rintro σ H3 ⟨s3,a3,v4,rfl⟩
   have f3:=hf.same s3
   rw [List.length_map,List.take_length] at a3
   walk_at "gs"
   refine ⟨f,dx,_,rfl,f3.ins,rfl,f,dx,pl,kl,m,es,rfl,f3,?_⟩
   walk_at "gs"
   refine ⟨f,a.c_Fold,dx,_,_,rfl,f3.ins,T.cl_Fold,T.na_Fold_many,rfl,?_⟩
   walk_at "gs"
   refine ⟨_,_,rfl,⟨by omega,by omega,by omega,by omega⟩,?_⟩
   rw [show (1+(m:Int)+(es.length:Int) - 1 - (m:Int)).toNat=(psOf es).length by omega]
   have dlen:∀ i,(MF.downS (stp kvs) m (psOf es) (MF.marks L0 ts) i).length=1+m+(psOf es).length:=fun i=>by rw [MF.downS_len,hlen]
   refine for_dnG (fun i σ H4=>Same H H4∧H4 nq=some (.lst ((MF.downS (stp kvs) m (psOf es) (MF.marks L0 ts) i).map V.bl))∧∃ v4 v5,σ=[some (.ref f),some (.ref p),some (.ref sd),some (.ref nq),v4,v5]) ⟨s3,a3,_,_,rfl⟩ ?_ ?_
   ·rintro i σ H4 hi ⟨s4,a4,v4,v5,rfl⟩
    have f4:=hf.same s4
    have hie:(psOf es).length - 1 - i<es.length:=by omega
    have hee:es[(psOf es).length - 1 - i]? = some es[(psOf es).length - 1 - i]:=List.getElem?_eq_getElem hie
    have hpe:(psOf es)[(psOf es).length - 1 - i]? = some (es[(psOf es).length - 1 - i]).2:=by rw [List.getElem?_map,hee];rfl
    obtain ⟨o1,o2,o3,o4⟩:=ok _ _ hpe
    have te:=f4.prs.tup _ (List.getElem_mem hie)
    have kn:1+(m:Int)+(es.length:Int) - 1 - (i:Int)=((m+1+((psOf es).length - 1 - i):Nat):Int):=by omega
    have hlk:MF.downS (stp kvs) m (psOf es) (MF.marks L0 ts) (i+1)=MF.lookS (stp kvs) m (psOf es) (MF.downS (stp kvs) m (psOf es) (MF.marks L0 ts) i) ((psOf es).length - 1 - i):=rfl
    unfold MF.lookS at hlk
    rw [List.getD_eq_getElem?_getD (l:=psOf es),hpe,Option.getD_some] at hlk
    generalize hE:es[(psOf es).length - 1 - i]=e at *
    have hjb:m+1+((psOf es).length - 1 - i)<1+m+(psOf es).length:=by omega
    rw [kn]
    walk_at "gs"
    refine ⟨_,_,.inl (.of a4),at_bl (by omega) (by rw [dlen];omega),?_⟩
    rw [Int.toNat_natCast]
    cases hnd:(MF.downS (stp kvs) m (psOf es) (MF.marks L0 ts) i).getD (m+1+((psOf es).length - 1 - i)) false with
    | false =>
     rw [hnd,Bool.false_and,if_neg (by simp)] at hlk
     walk_at "go"
     exact ⟨s4,by rw [hlk];exact a4,_,_,rfl⟩
    | true =>
     rw [hnd,Bool.true_and] at hlk
     walk_at "gs"
     refine ⟨sd,_,rfl,DGet.k (k:=.inl ((m+1+((psOf es).length - 1 - i):Nat):Int)) (s4 _ _ hS),?_⟩
     have hst:(valV kvs (.inl ((m+1+((psOf es).length - 1 - i):Nat):Int))).isSome=stp kvs (m+1+((psOf es).length - 1 - i)):=rfl
     rw [hst]
     cases hsx:stp kvs (m+1+((psOf es).length - 1 - i)) with
     | true =>
      rw [hsx,if_neg (by simp)] at hlk
      walk_at "go"
      exact ⟨s4,by rw [hlk];exact a4,_,_,rfl⟩
     | false =>
      rw [hsx,Bool.not_false,if_pos rfl] at hlk
      walk_at "gs"
      refine ⟨f,dx,_,rfl,f4.ins,rfl,f,dx,pl,kl,m,_,es,rfl,f4,fun _=>⟨fun z=>absurd z (by omega),fun e' _ he'=>?_⟩,fun z=>absurd ⟨by omega,by omega⟩ z⟩
      rw [show (((m+1+((psOf es).length - 1 - i):Nat):Int) - (m:Int) - 1).toNat=(psOf es).length - 1 - i by omega,hee] at he'
      cases he'
      walk_at "gs"
      refine ⟨⟨_,.of te⟩,for_tupG (xs:=[.int e.2.1,.int e.2.2]) (fun j σ H5=>Same H H5∧H5 nq=some (.lst ((MF.marks (MF.downS (stp kvs) m (psOf es) (MF.marks L0 ts) i) ([e.2.1,e.2.2].take j)).map V.bl))∧∃ v4 v5,σ=[some (.ref f),some (.ref p),some (.ref sd),some (.ref nq),v4,v5]) ⟨s4,a4,_,_,rfl⟩ ?_ ?_ ?_⟩
      ·rintro j σ H5 _ ⟨s5,_⟩
       exact .of ((hf.same s5).prs.tup _ (List.mem_of_getElem? hee))
      ·rintro j x σ H5 hx ⟨s5,a5,v4,v5,rfl⟩
       obtain ⟨t,rfl,ht,htm⟩:=get_int (ts:=[e.2.1,e.2.2]) hx
       have hb:0≤t∧t<2 * (1+(m:Int)+es.length):=by
        rcases List.mem_cons.mp htm with rfl | htm
        ·omega
        ·rw [List.mem_singleton] at htm
         subst htm
         omega
       walk_at "gs"
       refine ⟨nq,_,_,_,rfl,rfl,a5,ixN_ok (by omega) (by rw [List.length_map,MF.marks_len,dlen];omega),s5.put hw,?_,_,_,rfl⟩
       rw [upd_same,set_bl,marks_take ht]
      ·rintro σ H5 ⟨s5,a5,v4,v5,rfl⟩
       refine ⟨s5,?_,_,_,rfl⟩
       rw [hlk,← marks_two]
       exact a5
   ·rintro σ H4 ⟨s4,a4,v4,v5,rfl⟩
    have f4:=hf.same s4
    walk_at "gs"
    refine ⟨f,dx,_,rfl,f4.ins,rfl,f,dx,pl,kl,m,es,rfl,f4,?_⟩
    walk_at "gs"
    rw [show (1+(m:Int)+(es.length:Int)).toNat=1+m+(psOf es).length by omega]
    refine compG_rngF (MF.reach (stp kvs) m (psOf es) ts) nzI rfl (by omega) ?_ ?_ ?_
    ·intro i H' Q' hi s' q'
     walk_at "gs"
     refine ⟨_,_,.inl (.of (s' _ _ a4)),at_bl (by omega) (by rw [dlen];omega),?_⟩
     rw [show ((0:Int)+(i:Int)).toNat=i by omega]
     have e9:(MF.downS (stp kvs) m (psOf es) (MF.marks L0 ts) (psOf es).length).getD i false=MF.reach (stp kvs) m (psOf es) ts i:=by rw [← hL0];rfl
     rw [e9]
     walk_at "go"
     exact q'
    ·intro i H' Q' hi _ s' q'
     walk_at "gs"
     rw [show (0:Int)+(i:Int)=(i:Int) by omega]
     exact q'
    ·intro pq H5 n5
     exact q pq H5 ⟨s4.nil n5.was,n5.at_,s4.trans n5.same⟩
def sp_cone (a:Adr) (_:PySem.W.Frag):Sp:=fun vs H Q E=>∃ (f dx pl kl:Addr) (m:Nat) (k:Int) (es:List En),vs=[.ref f,.int k]∧FoldAt a.c_Fold H f m es dx pl kl∧MF.Ok m (psOf es)∧m≤10∧es.length≤4000 ∧
 (∀ n:Nat,k=n→n<1+m+es.length→∀ q H',Mad H q (.lst ((MF.coneL m (psOf es) n).map nzI)) H'→Q (.ref q) H')∧(¬ (0≤k∧k<1+m+es.length)→∀ e,H e=none→E (.ref e) (some a.c_NoKnot) H)
def rd_cone (a:Adr) (K:PySem.W.Frag) (E:XK):TS:=(tSeq (tIfS (tOr (cTst (tOp (cI2 fun i j=>.bl (decide (i<j))) (cVar 1) (tC (.int 0)))) (cTst (tOp (cI2 fun i j=>.bl (decide (j≤i))) (cVar 1) (tMeth a.c_Fold "total" (sp_Fold_total a K) [] E0 (cVar 0) tNil)))) (tRaise a.c_NoKnot (tCons (tC (.str "no knot of this fold")) tNil) E) tNext)
  (tRet (tCall (sp_reached a K) [] E0 (tCons (cVar 0) (tCons (tLst (tCons (cVar 1) tNil)) (tCons tDNewK tNil))))))
theorem tm_cone (T:Txt K mg a) {cdv:Value}{A:Around}{outer:List Env}{s:Shared}{H:Hp}{E:XK} (hr:Room 3 (A.deeper (envOfC "cone" (defScope s_cone) s.heap.objs.size a.f_cone cdv))) :
  PSs (cxOf (CX1 P w) P w K mg base N_cone "cone" (defScope s_cone) a.f_cone cdv A outer s H E) (defBody s_cone) (rd_cone a K E) :=
 (pss_cons (ps_if (PW.pt (pw_or (t_cmp o_lt (cv 1) pe_int (nomark _)) (pw_or1 (t_cmp o_ge (cv 1) (pe_meth0 (cv 0) T.cl_Fold T.me_Fold_total (ok_Fold_total T) (hr.mono (by decide)) T.bi_Fold_total .nil pass0) (nomark _))))) (pss_one (ps_raise PySem.F.excBase_ValueError T.xi_NoKnot (by decide) rfl T.mg_NoKnot rfl xok_fn (pa_cons pe_str pa_nil))) pss_nil)
   (pss_one (ps_ret (pe_call (ok_reached T) (hr.mono (by decide)) rfl T.mg_reached T.fn_reached.kp T.bi_reached .nil pass0 (pa_cons (cv 0) (pa_cons (pe_lst (pa_cons (cv 1) pa_nil)) (pa_cons pe_dnewK pa_nil)))))))
theorem ok_cone (T:Txt K mg a):FnOk P w K mg base (CX1 P w) 4 a.f_cone a.d_cone ["fold","knot"] (sp_cone a K):=by
 refine T.fn_cone.okX sc_cone (fun vs H Q E h=>?_) (fun cdv A outer s H vs Q E hr h=>⟨_,tm_cone T hr,?_⟩)
 ·obtain ⟨f,dx,pl,kl,m,k,es,rfl,_⟩:=h;rfl
 ·obtain ⟨f,dx,pl,kl,m,k,es,rfl,hf,ok,hm,hz,qi,qo⟩:=h
  show rd_cone a K E _ [some (.ref f),some (.int k)] H
  unfold rd_cone
  walk_at "go"
  by_cases h0:k<0
  ·rw [if_pos h0]
   exact ⟨by decide,qo (by omega)⟩
  rw [if_neg h0]
  refine ⟨f,dx,_,rfl,hf.ins,rfl,f,dx,pl,kl,m,es,rfl,hf,?_⟩
  walk_at "go"
  by_cases h1:1+(m:Int)+(es.length:Int)≤k
  ·rw [if_pos h1]
   exact ⟨by decide,qo (by omega)⟩
  rw [if_neg h1]
  obtain ⟨n,rfl⟩:=Int.eq_ofNat_of_zero_le (by omega:0≤k)
  have q:=qi n rfl (by omega)
  walk_at "gs"
  refine ⟨by show 1≤sizeLine;decide,fun r1 H1 n1=>?_⟩
  walk_at "gs"
  intro sd H2 n2
  have e1:([V.int (n:Int)]:List V)=[2 * (n:Int)].map fun t=>V.int (t / 2):=by
   show [V.int (n:Int)]=[V.int (2 * (n:Int) / 2)]
   rw [show 2 * (n:Int) / 2=(n:Int) by omega]
  rw [e1] at n1
  have s2:=n1.same.trans n2.same
  refine ⟨f,dx,pl,kl,r1,sd,m,[2 * (n:Int)],[],es,rfl,hf.same s2,.of (n2.same _ _ n1.at_),n2.at_,ok,?_,hm,hz,by simp,fun pq H3 n3=>?_⟩
  ·intro t ht
   rw [List.mem_singleton] at ht
   subst ht
   have:(psOf es).length=es.length:=List.length_map ..
   omega
  ·exact q pq H3 ⟨s2.nil n3.was,n3.at_,s2.trans n3.same⟩
def nv (c:Nat):V:=.int (c:Nat)
def ov:Option Nat→V
 | none=>.non
 | some u=>nv u
def enc (x:Nat × Option Nat):Key × V:=(.inl (x.1:Int),ov x.2)
theorem val_enc (e:Nat):∀ cs:MZ.Cs,valV (cs.map enc) (.inl (e:Int))=(MZ.cmOf cs e).map ov
 | []=>rfl
 | x :: r=>by
  rw [List.map_cons]
  by_cases h:x.1=e
  ·rw [valV_pos (show (enc x).1=.inl (e:Int) by unfold enc;rw [h])]
   unfold MZ.cmOf
   rw [List.find?_cons_of_pos (by simpa using h)]
   rfl
  ·rw [valV_neg (show ¬ (enc x).1=.inl (e:Int) from fun z=>h (by have:=Sum.inl.inj z;omega)),val_enc e r]
   unfold MZ.cmOf
   rw [List.find?_cons_of_neg (by simpa using h)]
theorem any_enc (e:Nat) (cs:MZ.Cs):((cs.map enc).any fun kv=>decide (kv.1=(.inl (e:Int):Key)))=(cs.any fun x=>decide (x.1=e)):=by
 rw [List.any_map]
 congr 1
 funext x
 show decide ((.inl (x.1:Int):Key)=.inl (e:Int))=decide (x.1=e)
 rw [decide_eq_decide]
 exact ⟨fun z=>by have:=Sum.inl.inj z;omega,fun z=>by rw [z]⟩
theorem put_enc (cs:MZ.Cs) (e:Nat) (o:Option Nat):putK (cs.map enc) (.inl (e:Int)) (ov o)=(MZ.putA cs e o).map enc:=by
 unfold putK MZ.putA
 rw [any_enc]
 by_cases h:(cs.any fun x=>decide (x.1=e))=true
 ·rw [if_pos h,if_pos h,List.map_map,List.map_map]
  refine List.map_congr_left fun x _=>?_
  show (if (enc x).1=.inl (e:Int) then ((enc x).1,ov o) else enc x)=enc (if x.1=e then (x.1,o) else x)
  by_cases g:x.1=e
  ·rw [if_pos g,if_pos (show (enc x).1=.inl (e:Int) by unfold enc;rw [g])]
   rfl
  ·rw [if_neg g,if_neg (show ¬ (enc x).1=.inl (e:Int) from fun z=>g (by have:=Sum.inl.inj z;omega))]
 ·rw [if_neg h,if_neg h,List.map_append]
  rfl
theorem drop_enc (cs:MZ.Cs) (e:Nat):dropK (cs.map enc) (.inl (e:Int))=(MZ.dropA cs e).map enc:=by
 unfold dropK MZ.dropA
 rw [List.filter_map]
 congr 1
 refine List.filter_congr fun x _=>?_
 show decide ((enc x).1≠.inl (e:Int))=decide (x.1≠e)
 rw [decide_eq_decide]
 exact ⟨fun z g=>z (by unfold enc;rw [g]),fun z g=>z (by have:=Sum.inl.inj g;omega)⟩
structure MazeAt (H:Hp) (mp:Addr) (rs:List Addr) (ls:List (List Nat)):Prop where
 lst:H mp=some (.lst (rs.map V.ref))
 len:rs.length=ls.length
 at_:∀ (i:Nat) r l,rs[i]? = some r→ls[i]? = some l→H r=some (.lst (l.map nv))
theorem MazeAt.same {H H':Hp}{mp:Addr}{rs:List Addr}{ls:List (List Nat)} (h:MazeAt H mp rs ls) (s:Same H H'):MazeAt H' mp rs ls:=⟨s _ _ h.lst,h.len,fun i r l hr hl=>s _ _ (h.at_ i r l hr hl)⟩
def loOf (ls:List (List Nat)) (p:Nat):List Nat:=ls.getD p []
theorem MazeAt.get {H:Hp}{mp:Addr}{rs:List Addr}{ls:List (List Nat)} (h:MazeAt H mp rs ls) {i:Nat} (hi:i<ls.length):∃ r,atI (rs.map V.ref) (i:Int)=some (.ref r)∧H r=some (.lst ((loOf ls i).map nv)):=by
 have hr:rs[i]? = some (rs[i]'(by rw [h.len];exact hi)):=List.getElem?_eq_getElem _
 have hl:ls[i]? = some ls[i]:=List.getElem?_eq_getElem hi
 refine ⟨rs[i]'(by rw [h.len];exact hi),?_,?_⟩
 ·rw [atI_ok .non (by omega) (by rw [List.length_map,h.len];omega),Int.toNat_natCast,List.getD_eq_getElem?_getD,List.getElem?_map,hr]
  rfl
 ·have:=h.at_ i _ _ hr hl
  unfold loOf
  rw [List.getD_eq_getElem?_getD,hl]
  exact this
def sp_head (_:PySem.W.Frag):Sp:=fun vs H Q _=>∃ p:Nat,vs=[.int p]∧Q (nv (2 * p)) H
def rd_head (K:PySem.W.Frag):TS:=(tRet (tOp cMul (tC (.int 2)) (cVar 0)))
theorem tm_head (T:Txt K mg a) {cdv:Value}{A:Around}{outer:List Env}{s:Shared}{H:Hp}{E:XK} (hr:Room 0 (A.deeper (envOfC "head" (defScope s_head) s.heap.objs.size a.f_head cdv))) :
  PSs (cxOf CX0 P w K mg base N_head "head" (defScope s_head) a.f_head cdv A outer s H E).nox (defBody s_head) (rd_head K) :=
 (pss_one (ps_ret (pe_op o_mul pe_int (cv 0))))
theorem ok_head (T:Txt K mg a):FnOk P w K mg base CX0 1 a.f_head a.d_head ["place"] (sp_head K):=by
 refine T.fn_head.ok sc_head (fun vs H Q E h=>?_) (fun cdv A outer s H vs Q E hr h=>⟨_,tm_head T hr,?_⟩)
 ·obtain ⟨p,rfl,_⟩:=h;rfl
 ·obtain ⟨p,rfl,q⟩:=h
  show rd_head K _ [some (.int p)] H
  unfold rd_head
  walk_at "gs"
  exact q
def sp_foot (_:PySem.W.Frag):Sp:=fun vs H Q _=>∃ p:Nat,vs=[.int p]∧Q (nv (2 * p+1)) H
def rd_foot (K:PySem.W.Frag):TS:=(tRet (tOp cAdd (tOp cMul (tC (.int 2)) (cVar 0)) (tC (.int 1))))
theorem tm_foot (T:Txt K mg a) {cdv:Value}{A:Around}{outer:List Env}{s:Shared}{H:Hp}{E:XK} (hr:Room 0 (A.deeper (envOfC "foot" (defScope s_foot) s.heap.objs.size a.f_foot cdv))) :
  PSs (cxOf CX0 P w K mg base N_foot "foot" (defScope s_foot) a.f_foot cdv A outer s H E).nox (defBody s_foot) (rd_foot K) :=
 (pss_one (ps_ret (pe_op o_add (pe_op o_mul pe_int (cv 0)) pe_int)))
theorem ok_foot (T:Txt K mg a):FnOk P w K mg base CX0 1 a.f_foot a.d_foot ["place"] (sp_foot K):=by
 refine T.fn_foot.ok sc_foot (fun vs H Q E h=>?_) (fun cdv A outer s H vs Q E hr h=>⟨_,tm_foot T hr,?_⟩)
 ·obtain ⟨p,rfl,_⟩:=h;rfl
 ·obtain ⟨p,rfl,q⟩:=h
  show rd_foot K _ [some (.int p)] H
  unfold rd_foot
  walk_at "gs"
  exact q
def GoalOk (ls:List (List Nat)) (gs:List Int):Prop:=∀ g∈gs,0≤g∧g<ls.length∧loOf ls g.toNat≠[]
def sp_need_goals (a:Adr) (_:PySem.W.Frag):Sp:=fun vs H Q E=>∃ (mp gp:Addr) (rs:List Addr) (ls:List (List Nat)) (gs:List Int),vs=[.ref mp,.ref gp]∧MazeAt H mp rs ls∧H gp=some (.lst (gs.map V.int))∧(GoalOk ls gs→Q .non H)∧(¬ GoalOk ls gs→∀ e,H e=none→E (.ref e) (some a.c_NoGoal) H)
def rd_need_goals (a:Adr) (K:PySem.W.Frag) (E:XK):TS:=(tFor (iList K (cVar 1)) (gName 2) (tIfS (tOr (cTst (tOp (cI2 fun i j=>.bl (decide (i<j))) (cVar 2) (tC (.int 0)))) (tOr (cTst (tOp (cI2 fun i j=>.bl (decide (j≤i))) (cVar 2) (tCB (cLen K) (tCons (cVar 0) tNil)))) (cTst (tOp (cEq K) (tCB (cLen K) (tCons (tOp (cIx K) (cVar 0) (cVar 2)) tNil)) (tC (.int 0)))))) (tRaise a.c_NoGoal (tCons (tC (.str "a goal is a spring or no place of the maze")) tNil) E) tNext))
theorem tm_need_goals (T:Txt K mg a) {cdv:Value}{A:Around}{outer:List Env}{s:Shared}{H:Hp}{E:XK} (hr:Room 0 (A.deeper (envOfC "need_goals" (defScope s_need_goals) s.heap.objs.size a.f_need_goals cdv))) :
  PSs (cxOf (CX1 P w) P w K mg base N_need_goals "need_goals" (defScope s_need_goals) a.f_need_goals cdv A outer s H E) (defBody s_need_goals) (rd_need_goals a K E) :=
 (pss_one (ps_for passF rfl (pi_list (cv 1)) (pg_name (i:=2) sc_need_goals.nd rfl (by walk_at "o")) (pss_one (ps_if (PW.pt (pw_or (t_cmp o_lt (cv 2) pe_int (nomark _)) (pw_or (t_cmp o_ge (cv 2) (pe_callB c_len (by rfl) T.no_len PySem.boot_len (pa_cons (cv 0) pa_nil)) (nomark _)) (pw_or1 (t_cmp (o_eq (hr8 hr)) (pe_callB c_len (by rfl) T.no_len PySem.boot_len (pa_cons (pe_ix i_seq (cv 0) (cv 2) (fun _ _=>rfl)) pa_nil)) pe_int (nomark _)))))) (pss_one (ps_raise PySem.F.excBase_ValueError T.xi_NoGoal (by decide) rfl T.mg_NoGoal rfl xok_fn (pa_cons pe_str pa_nil))) pss_nil))))
theorem ok_need_goals (T:Txt K mg a):FnOk P w K mg base (CX1 P w) 1 a.f_need_goals a.d_need_goals ["maze","goals"] (sp_need_goals a K):=by
 refine T.fn_need_goals.okX sc_need_goals (fun vs H Q E h=>?_) (fun cdv A outer s H vs Q E hr h=>⟨_,tm_need_goals T hr,?_⟩)
 ·obtain ⟨mp,gp,rs,ls,gs,rfl,_⟩:=h;rfl
 ·obtain ⟨mp,gp,rs,ls,gs,rfl,hM,hG,q1,q0⟩:=h
  show rd_need_goals a K E _ [some (.ref mp),some (.ref gp),none] H
  unfold rd_need_goals
  walk_at "gs"
  refine ⟨⟨_,.of hG⟩,for_listG (xs:=gs.map V.int) (fun i σ H2=>H2=H∧GoalOk ls (gs.take i)∧∃ v2,σ=[some (.ref mp),some (.ref gp),v2]) ⟨rfl,fun g hg=>by simp at hg,_,rfl⟩ ?_ ?_ ?_⟩
  ·rintro i σ H2 _ ⟨rfl,_⟩
   exact .of hG
  ·rintro i v σ H2 hv ⟨rfl,hok,v2,rfl⟩
   obtain ⟨g,hg,rfl⟩:=get_map_of hv
   have bad:¬ (0≤g∧g<ls.length∧loOf ls g.toNat≠[])→∀ e,H2 e=none→E (.ref e) (some a.c_NoGoal) H2:=fun hno=>q0 fun hall=>hno (hall g (List.mem_of_getElem? hg))
   walk_at "gs"
   by_cases c0:g<0
   ·rw [if_pos c0]
    walk_at "gs"
    exact fun e he=>bad (by omega) e he
   rw [if_neg c0]
   refine .inl ⟨_,.inl (.of hM.lst),?_⟩
   rw [List.length_map,hM.len]
   by_cases c1:(ls.length:Int)≤g
   ·rw [if_pos c1]
    walk_at "gs"
    exact fun e he=>bad (by omega) e he
   rw [if_neg c1]
   obtain ⟨gn,rfl⟩:=Int.eq_ofNat_of_zero_le (by omega:0≤g)
   obtain ⟨r,h1,h2⟩:=hM.get (i:=gn) (by omega)
   refine ⟨_,_,.inl (.of hM.lst),h1,?_⟩
   refine .inl ⟨_,.inl (.of h2),?_⟩
   rw [List.length_map]
   walk_at "gs"
   by_cases c2:((loOf ls gn).length:Int)=0
   ·rw [if_pos c2]
    walk_at "gs"
    refine fun e he=>bad (fun ⟨_,_,z⟩=>z ?_) e he
    rw [Int.toNat_natCast]
    exact List.length_eq_zero_iff.mp (by omega)
   ·rw [if_neg c2]
    refine ⟨by trivial,fun x hx=>?_,_,rfl⟩
    rw [List.take_add_one,hg] at hx
    rcases List.mem_append.mp hx with z | z
    ·exact hok x z
    ·simp only [Option.toList_some,List.mem_singleton] at z
     subst z
     refine ⟨by omega,by omega,fun z=>c2 ?_⟩
     rw [Int.toNat_natCast] at z
     rw [z]
     rfl
  ·rintro σ H2 ⟨rfl,hok,v2,rfl⟩
   rw [List.length_map,List.take_length] at hok
   walk_at "gs"
   exact q1 hok
def sp_next_ends (_:PySem.W.Frag):Sp:=fun vs H Q _=>∃ (mp ap:Addr) (rs:List Addr) (ls:List (List Nat)) (as:MZ.Cs) (e:Nat),vs=[.ref mp,.ref ap,.int e]∧MazeAt H mp rs ls∧H ap=some (.dK (as.map enc))∧e / 2<ls.length∧ls.length≤300∧(loOf ls (e / 2)).length≤300 ∧
 ∀ l H',Mad H l (.lst ((MZ.nxt (loOf ls) (MZ.cmOf as) e).map nv)) H'→Q (.ref l) H'
def rd_next_ends (K:PySem.W.Frag):TS:=(tSeq (tAsg (tOp (cI2c CDiv fun i j=>.int (i / j)) (cVar 2) (tC (.int 2))) (gName 3))
  (tSeq (tIfS (cTst (tOp (cEq K) (cVar 2) (tCall (sp_foot K) [] E0 (tCons (cVar 3) tNil)))) (tRet (tOp cAdd (tComp (iList K (tOp (cIx K) (cVar 0) (cVar 3))) 1 [] (gName 0) tTrue (tCall (sp_head K) [] E0 (tCons (cVar 0) tNil))) (tLst (tCons (tCall (sp_head K) [] E0 (tCons (cVar 3) tNil)) tNil)))) tNext)
  (tSeq (tIfS (cTst (tDNotIn (cVar 3) (cVar 1))) (tRet (tLst (tCons (tCall (sp_foot K) [] E0 (tCons (cVar 3) tNil)) tNil))) tNext)
  (tRet (tIf (cTst (tOp cIs (tDGet (cVar 1) (cVar 3)) (tC .non))) (tLst tNil) (tLst (tCons (tCall (sp_foot K) [] E0 (tCons (tDGet (cVar 1) (cVar 3)) tNil)) tNil)))))))
theorem tm_next_ends (T:Txt K mg a) {cdv:Value}{A:Around}{outer:List Env}{s:Shared}{H:Hp}{E:XK} (hr:Room 1 (A.deeper (envOfC "next_ends" (defScope s_next_ends) s.heap.objs.size a.f_next_ends cdv))) :
  PSs (cxOf CX0 P w K mg base N_next_ends "next_ends" (defScope s_next_ends) a.f_next_ends cdv A outer s H E).nox (defBody s_next_ends) (rd_next_ends K) :=
 (pss_cons (ps_set (i:=3) sc_next_ends.nd rfl (by walk_at "o") (pe_op o_fdiv (cv 2) pe_int))
   (pss_cons (ps_if (t_cmp (o_eq (hr8 hr)) (cv 2) (pe_call (ok_foot T) (hr.mono (by decide)) rfl T.mg_foot T.fn_foot.kp T.bi_foot .nil pass0 (pa_cons (cv 3) pa_nil)) (nomark _)) (pss_one (ps_ret (pe_op o_add (pe_comp (N:=["lower"]) (k:=1) (sel:=[]) (CScope.of (defScope s_next_ends).names (by decide +kernel)) (CNames.of N_next_ends (by decide +kernel)) rfl (pi_list (pe_ix i_seq (cv 0) (cv 3) (fun _ _=>rfl))) (fun _ _ _ _=>(pg_name (i:=0) (show List.Nodup (["lower"]:List Str) by decide +kernel) rfl (by walk_at "o"))) (fun _ _ _ _=>pts_nil) (fun _ _ _ _=>(pe_call (ok_head T) (hr.mono (by decide)) rfl T.mg_head T.fn_head.kp T.bi_head .nil pass0 (pa_cons (cv 0) pa_nil)))) (pe_lst (pa_cons (pe_call (ok_head T) (hr.mono (by decide)) rfl T.mg_head T.fn_head.kp T.bi_head .nil pass0 (pa_cons (cv 3) pa_nil)) pa_nil))))) pss_nil)
   (pss_cons (ps_if (t_pc (pc_dnotin (hu_of hr) (cv 3) (cv 1))) (pss_one (ps_ret (pe_lst (pa_cons (pe_call (ok_foot T) (hr.mono (by decide)) rfl T.mg_foot T.fn_foot.kp T.bi_foot .nil pass0 (pa_cons (cv 3) pa_nil)) pa_nil)))) pss_nil)
   (pss_one (ps_ret (pe_ifExp (t_cmp o_is (pe_dget (hu_of hr) (cv 1) (cv 3) (fun _ _=>rfl)) pe_non (nomark _)) (pe_lst pa_nil) (pe_lst (pa_cons (pe_call (ok_foot T) (hr.mono (by decide)) rfl T.mg_foot T.fn_foot.kp T.bi_foot .nil pass0 (pa_cons (pe_dget (hu_of hr) (cv 1) (cv 3) (fun _ _=>rfl)) pa_nil)) pa_nil))))))))
theorem ok_next_ends (T:Txt K mg a):FnOk P w K mg base CX0 2 a.f_next_ends a.d_next_ends ["maze","above","end"] (sp_next_ends K):=by
 refine T.fn_next_ends.ok sc_next_ends (fun vs H Q E h=>?_) (fun cdv A outer s H vs Q E hr h=>⟨_,tm_next_ends T hr,?_⟩)
 ·obtain ⟨mp,ap,rs,ls,as,e,rfl,_⟩:=h;rfl
 ·obtain ⟨mp,ap,rs,ls,as,e,rfl,hM,hA,he,hl,hll,q⟩:=h
  show rd_next_ends K _ [some (.ref mp),some (.ref ap),some (.int e),none] H
  unfold rd_next_ends
  have big:(20000:Nat)≤sizeLine:=by decide
  have e2:((e:Int) / 2)=((e / 2:Nat):Int):=by omega
  have g1:=DGet.k (k:=.inl ((e / 2:Nat):Int)) hA
  rw [val_enc] at g1
  walk_at "gs"
  rw [e2]
  refine ⟨e / 2,rfl,?_⟩
  unfold nv
  walk_at "gs"
  by_cases c:(e:Int)=((2 * (e / 2)+1:Nat):Int)
  ·rw [if_pos c]
   have hodd:e % 2=1:=by omega
   obtain ⟨r,h1,h2⟩:=hM.get he
   refine ⟨_,_,.inl (.of hM.lst),h1,?_⟩
   refine ⟨⟨_,.of h2⟩,compG_list (fun v=>match v with | .int l=>.int (2 * l) | _=>.non) (.of h2) rfl (by rw [List.length_map];omega) ?_ ?_⟩
   ·intro v H' Q' hv s' q'
    obtain ⟨l,_,rfl⟩:=List.mem_map.mp hv
    walk_at "gs"
    refine ⟨l,rfl,?_⟩
    have:nv (2 * l)=V.int (2 * (l:Int)):=by unfold nv;congr 1
    rw [this]
    exact q'
   intro l1 H1 n1
   have e1:((loOf ls (e / 2)).map nv).map (fun v=>match v with | .int l=>V.int (2 * l) | _=>.non)=((loOf ls (e / 2)).map fun l=>2 * l).map nv:=by rw [List.map_map,List.map_map];rfl
   rw [e1] at n1
   walk_at "gs"
   refine ⟨e / 2,rfl,?_⟩
   refine ⟨by show 1≤sizeLine;decide,fun l2 H2 n2=>?_⟩
   refine ⟨_,_,n2.same _ _ n1.at_,n2.at_,by rw [List.length_map,List.length_map];show _+1≤_;omega,fun l3 hl3=>?_⟩
   have e3:((loOf ls (e / 2)).map fun l=>2 * l).map nv ++ [nv (2 * (e / 2))]=(MZ.nxt (loOf ls) (MZ.cmOf as) e).map nv:=by
    unfold MZ.nxt
    rw [if_pos hodd,List.map_append]
    rfl
   rw [e3]
   have s2:=n1.same.trans n2.same
   exact q l3 _ ⟨s2.nil hl3,upd_same,s2.trans (same_upd hl3)⟩
  rw [if_neg c]
  have hev:¬ e % 2=1:=by omega
  refine ⟨ap,_,rfl,g1,?_⟩
  cases hc:MZ.cmOf as (e / 2) with
  | none =>
   rw [hc] at g1
   walk_at "gs"
   refine ⟨e / 2,rfl,?_⟩
   refine ⟨by show 1≤sizeLine;decide,fun l2 H2 n2=>?_⟩
   have e3:[nv (2 * (e / 2)+1)]=(MZ.nxt (loOf ls) (MZ.cmOf as) e).map nv:=by
    unfold MZ.nxt
    rw [if_neg hev,hc]
    rfl
   rw [e3] at n2
   exact q l2 H2 n2.mad
  | some o =>
   rw [hc] at g1
   walk_at "gs"
   refine ⟨ap,_,rfl,g1,?_⟩
   cases o with
   | none =>
    show _
    walk_at "gs"
    intro l2 H2 n2
    have e3:([]:List V)=(MZ.nxt (loOf ls) (MZ.cmOf as) e).map nv:=by
     unfold MZ.nxt
     rw [if_neg hev,hc]
     rfl
    rw [e3] at n2
    exact q l2 H2 n2.mad
   | some u =>
    show _
    walk_at "gs"
    refine ⟨ap,_,rfl,g1,?_⟩
    refine ⟨u,rfl,?_⟩
    refine ⟨by show 1≤sizeLine;decide,fun l2 H2 n2=>?_⟩
    have e3:[nv (2 * u+1)]=(MZ.nxt (loOf ls) (MZ.cmOf as) e).map nv:=by
     unfold MZ.nxt
     rw [if_neg hev,hc]
     rfl
    rw [e3] at n2
    exact q l2 H2 n2.mad
def goalOf (gs:List Nat) (g:Nat):Prop:=g∈gs
theorem nodup_lt {n:Nat}:∀ {xs:List Nat},xs.Nodup→(∀ x∈xs,x<n)→xs.length≤n:=fun {xs} nd h=>by
 have:=MZ.len_le (R:=fun a b:Nat=>a=b) (fun a a' b h h'=>h.trans h'.symm) (A:=xs) (B:=List.range n) nd fun a ha=>⟨a,List.mem_range.mpr (h a ha),rfl⟩
 rwa [List.length_range] at this
structure Seek (ls:List (List Nat)) (gs:List Nat) (as cs:MZ.Cs) (ws:List Nat):Prop where
 came:MZ.Came (loOf ls) (goalOf gs) (MZ.cmOf as) cs
 wait:∀ w∈ws,w∈MZ.keys cs
 wnd:ws.Nodup
 bd:∀ e∈MZ.keys cs,e<2 * ls.length
 done:∀ e∈MZ.keys cs,e∈ws∨((∀ t,e=2 * t+1→loOf ls t≠[])∧∀ e'∈MZ.nxt (loOf ls) (MZ.cmOf as) e,e'∈MZ.keys cs)
theorem Seek.len {ls:List (List Nat)}{gs:List Nat}{as cs:MZ.Cs}{ws:List Nat} (h:Seek ls gs as cs ws):cs.length≤2 * ls.length:=by
 have:=nodup_lt h.came.nd h.bd
 unfold MZ.keys at this
 rwa [List.length_map] at this
structure Mz (ls:List (List Nat)):Prop where
 lt:∀ p l,l∈loOf ls p→l<p
 nd:∀ p,(loOf ls p).Nodup
theorem Mz.len {ls:List (List Nat)} (h:Mz ls) (p:Nat):(loOf ls p).length≤p:=nodup_lt (h.nd p) (h.lt p)
theorem lo_in {ls:List (List Nat)}{p l:Nat} (h:l∈loOf ls p):p<ls.length:=by
 refine Nat.lt_of_not_le fun z=>?_
 unfold loOf at h
 rw [List.getD_eq_getElem?_getD,List.getElem?_eq_none z] at h
 simp at h
theorem nxt_lt {ls:List (List Nat)} (mz:Mz ls) {as:MZ.Cs} (ab:∀ p q,MZ.cmOf as p=some (some q)→q<ls.length) {e e':Nat} (he:e<2 * ls.length) (h:e'∈MZ.nxt (loOf ls) (MZ.cmOf as) e):e'<2 * ls.length:=by
 rcases (by omega:e=2 * (e / 2)∨e=2 * (e / 2)+1) with z | z
 ·rw [z] at h
  rcases MZ.nxt_head h with ⟨_,rfl⟩ | ⟨q,hq,rfl⟩
  ·omega
  ·have:=ab _ _ hq
   omega
 ·rw [z] at h
  rcases MZ.nxt_foot h with ⟨l,hl,rfl⟩ | rfl
  ·have:=mz.lt _ _ hl
   omega
  ·omega
def sp_search (_:PySem.W.Frag):Sp:=fun vs H Q _=>∃ (mp gp ap:Addr) (rs:List Addr) (ls:List (List Nat)) (gs:List Nat) (as:MZ.Cs),vs=[.ref mp,.ref gp,.ref ap]∧MazeAt H mp rs ls∧H gp=some (.lst (gs.map nv))∧H ap=some (.dK (as.map enc))∧Mz ls∧ls.length≤300∧(∀ g∈gs,g<ls.length)∧(∀ p q,MZ.cmOf as p=some (some q)→q<ls.length) ∧
 (∀ s cs tp cp H',Same H H'→H cp=none→H' tp=some (.tup [nv s,.ref cp])→H' cp=some (.dK (cs.map enc))→MZ.Came (loOf ls) (goalOf gs) (MZ.cmOf as) cs→loOf ls s=[]→2 * s+1∈MZ.keys cs→s<ls.length→(∀ e∈MZ.keys cs,e<2 * ls.length)→Q (.ref tp) H') ∧
 (∀ cs tp cp H',Same H H'→H' tp=some (.tup [.non,.ref cp])→H' cp=some (.dK (cs.map enc))→Seek ls gs as cs []→Q (.ref tp) H')
def rd_search (K:PySem.W.Frag):TS:=(tSeq (tAsg tDNewK (gName 3))
  (tSeq (tFor (iList K (cVar 1)) (gName 4) (tFor (iList K (tOp (cIx K) (cVar 0) (cVar 4))) (gName 5) (sDPut (cVar 3) (tCall (sp_head K) [] E0 (tCons (cVar 5) tNil)) (tC .non))))
  (tSeq (tAsg (tCB (cListK K) (tCons (cVar 3) tNil)) (gName 6))
  (tSeq (tWhile (cTru K (cVar 6)) (tSeq (tAsg (tBM0 K "list" rPop (cVar 6)) (gName 7))
  (tSeq (tAsg (tOp (cI2c CDiv fun i j=>.int (i / j)) (cVar 7) (tC (.int 2))) (gName 8))
  (tSeq (tIfS (tAnd (cTst (tOp (cEq K) (cVar 7) (tCall (sp_foot K) [] E0 (tCons (cVar 8) tNil)))) (cTst (tOp (cEq K) (tCB (cLen K) (tCons (tOp (cIx K) (cVar 0) (cVar 8)) tNil)) (tC (.int 0))))) (tRet (tTup (tCons (cVar 8) (tCons (cVar 3) tNil)))) tNext)
  (tFor (iList K (tCall (sp_next_ends K) [] E0 (tCons (cVar 0) (tCons (cVar 2) (tCons (cVar 7) tNil))))) (gName 9) (tIfS (cTst (tDNotIn (cVar 9) (cVar 3))) (tSeq (sDPut (cVar 3) (cVar 9) (cVar 7))
  (tDrop (tBM K "list" rAppend (cVar 6) (tCons (cVar 9) tNil)))) tNext))))))
  (tRet (tTup (tCons (tC .non) (tCons (cVar 3) tNil))))))))
theorem tm_search (T:Txt K mg a) {cdv:Value}{A:Around}{outer:List Env}{s:Shared}{H:Hp}{E:XK} (hr:Room 2 (A.deeper (envOfC "search" (defScope s_search) s.heap.objs.size a.f_search cdv))) :
  PSs (cxOf CX0 P w K mg base N_search "search" (defScope s_search) a.f_search cdv A outer s H E).nox (defBody s_search) (rd_search K) :=
 (pss_cons (ps_set (i:=3) sc_search.nd rfl (by walk_at "o") pe_dnewK)
   (pss_cons (ps_for PassesOwn.never rfl (pi_list (cv 1)) (pg_name (i:=4) sc_search.nd rfl (by walk_at "o")) (pss_one (ps_for PassesOwn.never rfl (pi_list (pe_ix i_seq (cv 0) (cv 4) (fun _ _=>rfl))) (pg_name (i:=5) sc_search.nd rfl (by walk_at "o")) (pss_one (ps_dput (hu_of hr) (cv 3) (pe_call (ok_head T) (hr.mono (by decide)) rfl T.mg_head T.fn_head.kp T.bi_head .nil pass0 (pa_cons (cv 5) pa_nil)) pe_non rfl)))))
   (pss_cons (ps_set (i:=6) sc_search.nd rfl (by walk_at "o") (pe_callTy (c_listK rfl) (by rfl) T.no_list PyProof.Rows.boot_list (pa_cons (cv 3) pa_nil)))
   (pss_cons (ps_while PassesOwn.never (pt_tru (cv 6)) (pss_cons (ps_set (i:=7) sc_search.nd rfl (by walk_at "o") (pe_bm0 PySem.F.plainAttrs_list PySem.F.slot_list_pop PySem.F.type_list_pop (mtr mt_pop) (cv 6)))
   (pss_cons (ps_set (i:=8) sc_search.nd rfl (by walk_at "o") (pe_op o_fdiv (cv 7) pe_int))
   (pss_cons (ps_if (PW.pt (pw_and (t_cmp (o_eq (hr8 hr)) (cv 7) (pe_call (ok_foot T) (hr.mono (by decide)) rfl T.mg_foot T.fn_foot.kp T.bi_foot .nil pass0 (pa_cons (cv 8) pa_nil)) (nomark _)) (pw_and1 (t_cmp (o_eq (hr8 hr)) (pe_callB c_len (by rfl) T.no_len PySem.boot_len (pa_cons (pe_ix i_seq (cv 0) (cv 8) (fun _ _=>rfl)) pa_nil)) pe_int (nomark _))))) (pss_one (ps_ret (pe_tup (pa_cons (cv 8) (pa_cons (cv 3) pa_nil))))) pss_nil)
   (pss_one (ps_for PassesOwn.never rfl (pi_list (pe_call (ok_next_ends T) (hr.mono (by decide)) rfl T.mg_next_ends T.fn_next_ends.kp T.bi_next_ends .nil pass0 (pa_cons (cv 0) (pa_cons (cv 2) (pa_cons (cv 7) pa_nil))))) (pg_name (i:=9) sc_search.nd rfl (by walk_at "o")) (pss_one (ps_if (t_pc (pc_dnotin (hu_of hr) (cv 9) (cv 3))) (pss_cons (ps_dput (hu_of hr) (cv 3) (cv 9) (cv 7) rfl)
   (pss_one (ps_expr (pe_bm PySem.F.plainAttrs_list PySem.F.slot_list_append PySem.F.type_list_append (mtr mt_append) (cv 6) (pa_cons (cv 9) pa_nil))))) pss_nil))))))))
   (pss_one (ps_ret (pe_tup (pa_cons pe_non (pa_cons (cv 3) pa_nil)))))))))
theorem ok_search (T:Txt K mg a):FnOk P w K mg base CX0 3 a.f_search a.d_search ["maze","goals","above"] (sp_search K):=by
 refine T.fn_search.ok sc_search (fun vs H Q E h=>?_) (fun cdv A outer s H vs Q E hr h=>⟨_,tm_search T hr,?_⟩)
 ·obtain ⟨mp,gp,ap,rs,ls,gs,as,rfl,_⟩:=h;rfl
 ·obtain ⟨mp,gp,ap,rs,ls,gs,as,rfl,hM,hG,hA,mz,hn,hgs,hab,q1,q0⟩:=h
  show rd_search K _ [some (.ref mp),some (.ref gp),some (.ref ap),none,none,none,none,none,none,none] H
  unfold rd_search
  have big:(20000:Nat)≤sizeLine:=by decide
  walk_at "gs"
  intro cp H1 n1
  have fc:H cp=none:=n1.was
  walk_at "gs"
  refine ⟨⟨_,.of (n1.same _ _ hG)⟩,for_listG (xs:=gs.map nv) (fun i σ H2=>Same H H2∧∃ (cs:MZ.Cs) (v4 v5:Option V),H2 cp=some (.dK (cs.map enc))∧(MZ.keys cs).Nodup∧(∀ x∈cs,x.2=none)∧(∀ e,e∈MZ.keys cs ↔ ∃ g∈gs.take i,∃ l∈loOf ls g,e=2 * l)∧σ=[some (.ref mp),some (.ref gp),some (.ref ap),some (.ref cp),v4,v5,none,none,none,none]) ⟨n1.same,[],_,_,n1.at_,List.nodup_nil,fun x hx=>by simp at hx,fun e=>by simp [MZ.keys],rfl⟩ ?_ ?_ ?_⟩
  ·rintro i σ H2 _ ⟨s2,_⟩
   exact .of (s2 _ _ hG)
  ·rintro i v σ H2 hv ⟨s2,cs,v4,v5,h2,nd2,all2,key2,rfl⟩
   obtain ⟨g,hg,rfl⟩:=get_map_of hv
   have hgl:=hgs g (List.mem_of_getElem? hg)
   obtain ⟨r,hr1,hr2⟩:=(hM.same s2).get hgl
   have hll:=mz.len g
   unfold nv
   walk_at "gs"
   refine ⟨_,_,.inl (.of (s2 _ _ hM.lst)),hr1,?_⟩
   refine ⟨⟨_,.of hr2⟩,for_listG (xs:=(loOf ls g).map nv) (fun j σ H3=>Same H H3∧H3 r=some (.lst ((loOf ls g).map nv))∧∃ (cs:MZ.Cs) (v5:Option V),H3 cp=some (.dK (cs.map enc))∧(MZ.keys cs).Nodup∧(∀ x∈cs,x.2=none)∧(∀ e,e∈MZ.keys cs ↔ (∃ g∈gs.take i,∃ l∈loOf ls g,e=2 * l)∨∃ l∈(loOf ls g).take j,e=2 * l)∧σ=[some (.ref mp),some (.ref gp),some (.ref ap),some (.ref cp),some (.int (g:Nat)),v5,none,none,none,none]) ⟨s2,hr2,cs,_,h2,nd2,all2,fun e=>by rw [key2];simp,rfl⟩ ?_ ?_ ?_⟩
   ·rintro j σ H3 _ ⟨_,h3,_⟩
    exact .of h3
   ·rintro j w σ H3 hw ⟨s3,hr3,cs,v5,h3,nd3,all3,key3,rfl⟩
    obtain ⟨l,hl,rfl⟩:=get_map_of hw
    have hlm:=List.mem_of_getElem? hl
    have hcl:cs.length≤2 * ls.length:=by
     have:=nodup_lt (n:=2 * ls.length) nd3 fun e he=>by
      rcases (key3 e).mp he with ⟨g',hg',l',hl',rfl⟩ | ⟨l',hl',rfl⟩
      ·have:=mz.lt _ _ hl'
       have:=lo_in hl'
       omega
      ·have:=mz.lt _ _ (List.mem_of_mem_take hl')
       omega
     unfold MZ.keys at this
     rwa [List.length_map] at this
    unfold nv
    walk_at "gs"
    refine ⟨l,rfl,cp,_,rfl,.k (k:=.inl ((2 * l:Nat):Int)) h3 (by rw [List.length_map];omega),s3.put fc,?_,MZ.putA cs (2 * l) none,_,?_,MZ.nd_put nd3 _ _,fun x hx=>?_,fun e=>?_,rfl⟩
    ·rw [upd_ne (ne_of hr3 h3 (fun z=>nomatch z))]
     exact hr3
    ·rw [upd_same]
     exact congrArg (fun z=>some (HO.dK z)) (put_enc cs (2 * l) none)
    ·have hx':=(MZ.cm_mem (MZ.nd_put nd3 _ _)).mpr (show (x.1,x.2)∈_ from hx)
     rw [MZ.cm_put nd3] at hx'
     by_cases e:x.1=2 * l
     ·rw [if_pos e] at hx'
      exact (Option.some.inj hx').symm
     ·rw [if_neg e] at hx'
      exact all3 _ ((MZ.cm_mem nd3).mp hx')
    ·rw [MZ.keys_put]
     have ek:(∃ l'∈(loOf ls g).take (j+1),e=2 * l') ↔ (∃ l'∈(loOf ls g).take j,e=2 * l')∨e=2 * l:=by
      rw [List.take_add_one,hl]
      constructor
      ·rintro ⟨l',hl',rfl⟩
       rcases List.mem_append.mp hl' with z | z
       ·exact .inl ⟨l',z,rfl⟩
       ·simp only [Option.toList_some,List.mem_singleton] at z
        subst z
        exact .inr rfl
      ·rintro (⟨l',hl',rfl⟩ | rfl)
       ·exact ⟨l',List.mem_append_left _ hl',rfl⟩
       ·exact ⟨l,List.mem_append_right _ (by simp),rfl⟩
     rw [ek,← or_assoc,← key3]
     split
     ·rename_i hin
      constructor
      ·exact .inl
      ·rintro (z | rfl)
       ·exact z
       ·exact hin
     ·rw [List.mem_append,List.mem_singleton]
   ·rintro σ H3 ⟨s3,hr3,cs,v5,h3,nd3,all3,key3,rfl⟩
    rw [List.length_map,List.take_length] at key3
    refine ⟨s3,cs,_,_,h3,nd3,all3,fun e=>?_,rfl⟩
    rw [key3,List.take_add_one,hg]
    constructor
    ·rintro (⟨g',hg',l,hl,rfl⟩ | ⟨l,hl,rfl⟩)
     ·exact ⟨g',List.mem_append_left _ hg',l,hl,rfl⟩
     ·exact ⟨g,List.mem_append_right _ (by simp),l,hl,rfl⟩
    ·rintro ⟨g',hg',l,hl,rfl⟩
     rcases List.mem_append.mp hg' with z | z
     ·exact .inl ⟨g',z,l,hl,rfl⟩
     ·simp only [Option.toList_some,List.mem_singleton] at z
      subst z
      exact .inr ⟨l,hl,rfl⟩
  ·rintro σ H2 ⟨s2,cs0,v4,v5,h2,nd2,all2,key2,rfl⟩
   rw [List.length_map,List.take_length] at key2
   have hC0:MZ.Came (loOf ls) (goalOf gs) (MZ.cmOf as) cs0:=by
    refine ⟨nd2,fun i e u h=>?_,fun e h=>?_,fun g l hg hl=>?_⟩
    ·have:=all2 _ (List.mem_of_getElem? h)
     cases this
    ·obtain ⟨g,hg,l,hl,rfl⟩:=(key2 e).mp (List.mem_map.mpr ⟨_,h,rfl⟩)
     exact ⟨by omega,g,hg,by rw [show 2 * l / 2=l by omega];exact hl⟩
    ·obtain ⟨x,hx,e⟩:=List.mem_map.mp ((key2 (2 * l)).mpr ⟨g,hg,l,hl,rfl⟩)
     have:=all2 x hx
     rw [← e,← this]
     exact hx
   have hS0:Seek ls gs as cs0 (MZ.keys cs0):=⟨hC0,fun w hw=>hw,nd2,fun e he=>by
    obtain ⟨g,hg,l,hl,rfl⟩:=(key2 e).mp he
    have:=mz.lt _ _ hl
    have:=lo_in hl
    omega,fun e he=>.inl he⟩
   walk_at "gs"
   refine ⟨_,.inl h2,fun wp H3 n3=>?_⟩
   have e3:(cs0.map enc).map (fun kv=>kV kv.1)=(MZ.keys cs0).map nv:=by unfold MZ.keys;rw [List.map_map,List.map_map];rfl
   rw [e3] at n3
   have s03:=s2.trans n3.same
   have fw:H wp=none:=s2.nil n3.was
   have ncw:cp≠wp:=ne_of_none h2 n3.was
   walk_at "gs"
   refine ⟨fun m σ H4=>∃ (cs:MZ.Cs) (ws:List Nat) (v4 v5 v7 v8 v9:Option V),Same H H4∧H4 cp=some (.dK (cs.map enc))∧H4 wp=some (.lst (ws.map nv))∧Seek ls gs as cs ws∧m=2 * (2 * ls.length - cs.length)+ws.length∧σ=[some (.ref mp),some (.ref gp),some (.ref ap),some (.ref cp),v4,v5,some (.ref wp),v7,v8,v9],⟨_,cs0,MZ.keys cs0,_,_,_,_,_,s03,n3.same _ _ h2,n3.at_,hS0,rfl,rfl⟩,?_⟩
   rintro m σ H4 ⟨cs,ws,v4,v5,v7,v8,v9,s4,h4,hw4,sk,rfl,rfl⟩
   simp only [cTru,cVar,List.getElem?_cons_zero,List.getElem?_cons_succ]
   refine ⟨_,.inl ⟨_,.of hw4,rfl⟩,?_⟩
   rcases List.eq_nil_or_concat ws with rfl | ⟨ws',e,hwe⟩
   ·rw [if_neg (by simp)]
    walk_at "gs"
    refine ⟨by show 2≤sizeLine;decide,fun tp H5 n5=>?_⟩
    exact q0 cs tp cp H5 (s4.trans n5.same) n5.at_ (n5.same _ _ h4) sk
   rw [List.concat_eq_append] at hwe
   subst hwe
   rw [if_pos (by simp)]
   have hek:=sk.wait e (by simp)
   have heb:=sk.bd e hek
   have hcl:=sk.len
   have hwn:=List.nodup_append.mp sk.wnd
   refine ⟨fun σ' H'=>∃ (cs':MZ.Cs) (ws2:List Nat) (v4 v5 v7 v8 v9:Option V),Same H H'∧H' cp=some (.dK (cs'.map enc))∧H' wp=some (.lst (ws2.map nv))∧Seek ls gs as cs' ws2∧2 * (2 * ls.length - cs'.length)+ws2.length≤2 * (2 * ls.length - cs.length)+ws'.length∧σ'=[some (.ref mp),some (.ref gp),some (.ref ap),some (.ref cp),v4,v5,some (.ref wp),v7,v8,v9],?_,?_⟩
   ·rintro σ' H' ⟨cs',ws2,w4,w5,w7,w8,w9,z1,z2,z3,z4,z5,rfl⟩
    exact ⟨_,by rw [List.length_append,List.length_singleton];omega,cs',ws2,_,_,_,_,_,z1,z2,z3,z4,rfl,rfl⟩
   refine ⟨.inl ⟨by trivial,_,.of hw4⟩,wp,_,nv e,rfl,by trivial,hw4,by rw [List.map_append];simp,?_⟩
   have hw5:upd H4 wp (.lst (((ws' ++ [e]).map nv).dropLast)) wp=some (.lst (ws'.map nv)):=by rw [upd_same,List.map_append];simp
   have h5:upd H4 wp (.lst (((ws' ++ [e]).map nv).dropLast)) cp=some (.dK (cs.map enc)):=by rw [upd_ne ncw];exact h4
   have s5:Same H (upd H4 wp (.lst (((ws' ++ [e]).map nv).dropLast))):=s4.put fw
   generalize upd H4 wp (.lst (((ws' ++ [e]).map nv).dropLast))=H5 at hw5 h5 s5 ⊢
   unfold nv
   walk_at "gs"
   have e2:((e:Int) / 2)=((e / 2:Nat):Int):=by omega
   rw [e2]
   refine ⟨e / 2,rfl,?_⟩
   unfold nv
   have hM5:=hM.same s5
   obtain ⟨r,hr1,hr2⟩:=hM5.get (i:=e / 2) (by omega)
   have go:(∀ t,e=2 * t+1→loOf ls t≠[])→∀ D:Ends,D.nx=(fun σ' H'=>∃ (cs':MZ.Cs) (ws2:List Nat) (v4 v5 v7 v8 v9:Option V),Same H H'∧H' cp=some (.dK (cs'.map enc))∧H' wp=some (.lst (ws2.map nv))∧Seek ls gs as cs' ws2∧2 * (2 * ls.length - cs'.length)+ws2.length≤2 * (2 * ls.length - cs.length)+ws'.length∧σ'=[some (.ref mp),some (.ref gp),some (.ref ap),some (.ref cp),v4,v5,some (.ref wp),v7,v8,v9])→sp_next_ends K [.ref mp,.ref ap,.int (e:Nat)] H5 (fun x H6=>match x with | .ref p=>(∃ xs,SqL K H6 p xs)∧ForGoal (Itl K p) (gName 9) (tIfS (cTst (tDNotIn (cVar 9) (cVar 3))) (tSeq (sDPut (cVar 3) (cVar 9) (cVar 7)) (tDrop (tBM K "list" rAppend (cVar 6) (tCons (cVar 9) tNil)))) tNext) D [some (.ref mp),some (.ref gp),some (.ref ap),some (.ref cp),v4,v5,some (.ref wp),some (.int (e:Nat)),some (.int ((e / 2:Nat):Int)),v9] H6 | _=>False) E0:=fun hns D hD=>by
    refine ⟨mp,ap,rs,ls,as,e,rfl,hM5,s5 _ _ hA,by omega,hn,by have:=mz.len (e / 2);omega,fun l6 H6 md=>?_⟩
    obtain ⟨f6,h6,s6⟩:=md
    have nlw:l6≠wp:=(ne_of_none hw5 f6).symm
    have nlc:l6≠cp:=(ne_of_none h5 f6).symm
    refine ⟨⟨_,.of h6⟩,for_listG (xs:=(MZ.nxt (loOf ls) (MZ.cmOf as) e).map nv) (fun j σ H7=>∃ (cs':MZ.Cs) (ws2:List Nat) (v9:Option V),Same H H7∧H7 l6=some (.lst ((MZ.nxt (loOf ls) (MZ.cmOf as) e).map nv))∧H7 cp=some (.dK (cs'.map enc))∧H7 wp=some (.lst (ws2.map nv))∧MZ.Came (loOf ls) (goalOf gs) (MZ.cmOf as) cs'∧(∀ x∈MZ.keys cs,x∈MZ.keys cs')∧(∀ x∈MZ.keys cs',x<2 * ls.length∧(x∈MZ.keys cs∨x∈ws2))∧(∀ x∈ws2,x∈MZ.keys cs')∧(∀ x∈ws',x∈ws2)∧ws2.Nodup∧cs.length≤cs'.length∧(∀ x∈(MZ.nxt (loOf ls) (MZ.cmOf as) e).take j,x∈MZ.keys cs')∧ws2.length+cs.length=ws'.length+cs'.length∧σ=[some (.ref mp),some (.ref gp),some (.ref ap),some (.ref cp),v4,v5,some (.ref wp),some (.int (e:Nat)),some (.int ((e / 2:Nat):Int)),v9]) ⟨cs,ws',_,s5.trans s6,h6,s6 _ _ h5,s6 _ _ hw5,sk.came,fun x hx=>hx,fun x hx=>⟨sk.bd x hx,.inl hx⟩,fun x hx=>sk.wait x (List.mem_append_left _ hx),fun x hx=>hx,hwn.1,Nat.le_refl _,fun x hx=>by simp at hx,rfl,rfl⟩ ?_ ?_ ?_⟩
    ·rintro j σ H7 _ ⟨_,_,_,_,h7,_⟩
     exact .of h7
    ·rintro j v σ H7 hv ⟨cs',ws2,w9,s7,hl7,h7,hw7,cm7,sub7,bd7,wt7,ws7,wn7,le7,nx7,ln7,rfl⟩
     obtain ⟨x,hx,rfl⟩:=get_map_of hv
     have hxm:=List.mem_of_getElem? hx
     have hxb:=nxt_lt mz hab heb hxm
     have hcl':cs'.length≤2 * ls.length:=by
      have:=nodup_lt cm7.nd fun y hy=>(bd7 y hy).1
      unfold MZ.keys at this
      rwa [List.length_map] at this
     have hwl':ws2.length≤2 * ls.length:=nodup_lt wn7 fun y hy=>(bd7 y (wt7 y hy)).1
     have g1:=DGet.k (k:=.inl (x:Int)) h7
     rw [val_enc] at g1
     unfold nv
     walk_at "gs"
     refine ⟨cp,_,rfl,g1,?_⟩
     have etk:∀ y∈(MZ.nxt (loOf ls) (MZ.cmOf as) e).take (j+1),y∈(MZ.nxt (loOf ls) (MZ.cmOf as) e).take j∨y=x:=fun y hy=>by
      rw [List.take_add_one,hx] at hy
      rcases List.mem_append.mp hy with z | z
      ·exact .inl z
      ·exact .inr (by simpa using z)
     cases hc:MZ.cmOf cs' x with
     | some f =>
      have hin:=MZ.cm_some.mp (by rw [hc];simp)
      walk_at "go"
      refine ⟨cs',ws2,_,s7,hl7,h7,hw7,cm7,sub7,bd7,wt7,ws7,wn7,le7,fun y hy=>?_,ln7,rfl⟩
      rcases etk y hy with z | rfl
      ·exact nx7 y z
      ·exact hin
     | none =>
      have hno:=MZ.cm_none.mp hc
      walk_at "gs"
      refine ⟨cp,_,rfl,.k (k:=.inl (x:Int)) h7 (by rw [List.length_map];omega),?_⟩
      have hw8:upd H7 cp (.dK (putK (cs'.map enc) (.inl (x:Int)) (.int (e:Nat)))) wp=some (.lst (ws2.map nv)):=by rw [upd_ne ncw.symm];exact hw7
      walk_at "gs"
      refine ⟨.inl ⟨by trivial,_,.of hw8⟩,wp,_,_,rfl,rfl,hw8,by rw [List.length_map];omega,?_⟩
      have eput:putK (cs'.map enc) (.inl (x:Int)) (.int (e:Nat))=(cs' ++ [(x,some e)]).map enc:=by
       have:=put_enc cs' x (some e)
       unfold MZ.putA at this
       rw [if_neg (fun z=>hno ((MZ.any_keys cs' x).mp z))] at this
       exact this
      have ek:MZ.keys (cs' ++ [(x,some e)])=MZ.keys cs' ++ [x]:=by unfold MZ.keys;rw [List.map_append];rfl
      refine ⟨cs' ++ [(x,some e)],ws2 ++ [x],_,(s7.put fc).put fw,?_,?_,?_,cm7.snoc (sub7 e hek) hno hxm hns,fun y hy=>?_,fun y hy=>?_,fun y hy=>?_,fun y hy=>List.mem_append_left _ (ws7 y hy),?_,by rw [List.length_append];omega,fun y hy=>?_,by rw [List.length_append,List.length_append];simp only [List.length_singleton];omega,rfl⟩
      ·rw [upd_ne nlw,upd_ne nlc];exact hl7
      ·rw [upd_ne ncw,upd_same,eput]
      ·rw [upd_same,List.map_append];rfl
      ·rw [ek];exact List.mem_append_left _ (sub7 y hy)
      ·rw [ek] at hy
       rcases List.mem_append.mp hy with z | z
       ·exact ⟨(bd7 y z).1,(bd7 y z).2.elim .inl fun w=>.inr (List.mem_append_left _ w)⟩
       ·rw [List.mem_singleton] at z
        subst z
        exact ⟨hxb,.inr (by simp)⟩
      ·rw [ek]
       rcases List.mem_append.mp hy with z | z
       ·exact List.mem_append_left _ (wt7 y z)
       ·exact List.mem_append_right _ z
      ·rw [List.nodup_append]
       refine ⟨wn7,by simp,fun y hy z hz w=>?_⟩
       rw [List.mem_singleton] at hz
       subst hz w
       exact hno (wt7 y hy)
      ·rw [ek]
       rcases etk y hy with z | rfl
       ·exact List.mem_append_left _ (nx7 y z)
       ·simp
    ·rintro σ H7 ⟨cs',ws2,w9,s7,hl7,h7,hw7,cm7,sub7,bd7,wt7,ws7,wn7,le7,nx7,ln7,rfl⟩
     rw [List.length_map,List.take_length] at nx7
     have hcl':cs'.length≤2 * ls.length:=by
      have:=nodup_lt cm7.nd fun y hy=>(bd7 y hy).1
      unfold MZ.keys at this
      rwa [List.length_map] at this
     rw [hD]
     refine ⟨cs',ws2,_,_,_,_,_,s7,h7,hw7,⟨cm7,wt7,wn7,fun y hy=>(bd7 y hy).1,fun y hy=>?_⟩,by omega,rfl⟩
     ·rcases (bd7 y hy).2 with z | z
      ·rcases sk.done y z with w | ⟨w1,w2⟩
       ·rcases List.mem_append.mp w with u | u
        ·exact .inl (ws7 y u)
        ·rw [List.mem_singleton] at u
         subst u
         exact .inr ⟨hns,fun e' he'=>nx7 e' he'⟩
       ·exact .inr ⟨w1,fun e' he'=>sub7 e' (w2 e' he')⟩
      ·exact .inl z
   walk_at "gs"
   by_cases c:(e:Int)=((2 * (e / 2)+1:Nat):Int)
   ·rw [if_pos c]
    refine ⟨_,_,.inl (.of hM5.lst),hr1,?_⟩
    refine .inl ⟨_,.inl (.of hr2),?_⟩
    rw [List.length_map]
    by_cases c0:((loOf ls (e / 2)).length:Int)=0
    ·rw [if_pos c0]
     refine ⟨by show 2≤sizeLine;decide,fun tp H6 n6=>?_⟩
     refine q1 (e / 2) cs tp cp H6 (s5.trans n6.same) fc n6.at_ (n6.same _ _ h5) sk.came (List.length_eq_zero_iff.mp (by omega)) (by rw [show 2 * (e / 2)+1=e by omega];exact hek) (by omega) sk.bd
    ·rw [if_neg c0]
     refine go (fun t ht z=>c0 (by rw [show e / 2=t by omega,z];rfl)) _ ?_
     rfl
   ·rw [if_neg c]
    refine go (fun t ht z=>c (by omega)) _ ?_
    rfl
theorem as_len {as:MZ.Cs} (nd:(MZ.keys as).Nodup) {n:Nat} (h:∀ p∈MZ.keys as,p<n):as.length≤n:=by
 have:=nodup_lt nd h
 unfold MZ.keys at this
 rwa [List.length_map] at this
def sp_lead (_:PySem.W.Frag):Sp:=fun vs H Q _=>∃ (ap cp:Addr) (lo:Nat→List Nat) (goal:Nat→Prop) (as cs:MZ.Cs) (s n:Nat),vs=[.ref ap,.ref cp,.int s]∧H ap=some (.dK (as.map enc))∧H cp=some (.dK (cs.map enc))∧ap≠cp∧(MZ.keys as).Nodup∧(∀ p∈MZ.keys as,p<n)∧(∀ e∈MZ.keys cs,e<2 * n)∧n≤300∧MZ.Flow lo goal (MZ.cmOf as)∧MZ.Path lo goal (MZ.cmOf as) (MZ.cmOf cs) (MZ.On (MZ.cmOf cs) (2 * s+1)) s ∧
 ∀ as' H',(∀ b o,b≠ap→H b=some o→H' b=some o)→H' ap=some (.dK (as'.map enc))→(MZ.keys as').Nodup→(∀ p∈MZ.keys as',p<n)→MZ.cmOf as'=MZ.lead (MZ.cmOf as) (MZ.cmOf cs) (MZ.On (MZ.cmOf cs) (2 * s+1))→Q .non H'
def rd_lead (K:PySem.W.Frag):TS:=(tSeq (tAsg (tCall (sp_foot K) [] E0 (tCons (cVar 2) tNil)) (gName 3))
  (tWhile (cTst (tOp cIsNot (cVar 3) (tC .non))) (tSeq (tAsg (tOp (cI2c CDiv fun i j=>.int (i / j)) (cVar 3) (tC (.int 2))) (gName 4))
  (tSeq (tAsg (tDGet (cVar 1) (cVar 3)) (gName 5))
  (tMid (tIfS (cTst (tOp (cEq K) (cVar 3) (tCall (sp_head K) [] E0 (tCons (cVar 4) tNil)))) (tIfS (cTst (tOp cIs (cVar 5) (tC .non))) (sDPut (cVar 0) (cVar 4) (tC .non)) (tIfS (cTst (tOp (cEq K) (cVar 5) (tCall (sp_foot K) [] E0 (tCons (cVar 4) tNil)))) (tDrop (tDPop1 (cVar 0) (cVar 4))) (sDPut (cVar 0) (cVar 4) (tOp (cI2c CDiv fun i j=>.int (i / j)) (cVar 5) (tC (.int 2)))))) tNext)
  (tAsg (cVar 5) (gName 3)))))))
theorem tm_lead (T:Txt K mg a) {cdv:Value}{A:Around}{outer:List Env}{s:Shared}{H:Hp}{E:XK} (hr:Room 1 (A.deeper (envOfC "lead" (defScope s_lead) s.heap.objs.size a.f_lead cdv))) :
  PSs (cxOf CX0 P w K mg base N_lead "lead" (defScope s_lead) a.f_lead cdv A outer s H E).nox (defBody s_lead) (rd_lead K) :=
 (pss_cons (ps_set (i:=3) sc_lead.nd rfl (by walk_at "o") (pe_call (ok_foot T) (hr.mono (by decide)) rfl T.mg_foot T.fn_foot.kp T.bi_foot .nil pass0 (pa_cons (cv 2) pa_nil)))
   (pss_one (ps_while PassesOwn.never (t_cmp o_isnot (cv 3) pe_non (nomark _)) (pss_cons (ps_set (i:=4) sc_lead.nd rfl (by walk_at "o") (pe_op o_fdiv (cv 3) pe_int))
   (pss_cons (ps_set (i:=5) sc_lead.nd rfl (by walk_at "o") (pe_dget (hu_of hr) (cv 1) (cv 3) (fun _ _=>rfl)))
   (pss_mid (ps_if (t_cmp (o_eq (hr8 hr)) (cv 3) (pe_call (ok_head T) (hr.mono (by decide)) rfl T.mg_head T.fn_head.kp T.bi_head .nil pass0 (pa_cons (cv 4) pa_nil)) (nomark _)) (pss_one (ps_if (t_cmp o_is (cv 5) pe_non (nomark _)) (pss_one (ps_dput (hu_of hr) (cv 0) (cv 4) pe_non rfl)) (pss_one (ps_if (t_cmp (o_eq (hr8 hr)) (cv 5) (pe_call (ok_foot T) (hr.mono (by decide)) rfl T.mg_foot T.fn_foot.kp T.bi_foot .nil pass0 (pa_cons (cv 4) pa_nil)) (nomark _)) (pss_one (ps_expr (pe_dpop1 (cv 0) (cv 4) ⟨rfl,rfl,rfl,rfl⟩))) (pss_one (ps_dput (hu_of hr) (cv 0) (cv 4) (pe_op o_fdiv (cv 5) pe_int) rfl)))))) pss_nil)
   (pss_one (ps_set (i:=3) sc_lead.nd rfl (by walk_at "o") (cv 5)))))))))
theorem ok_lead (T:Txt K mg a):FnOk P w K mg base CX0 2 a.f_lead a.d_lead ["above","came","spring"] (sp_lead K):=by
 refine T.fn_lead.ok sc_lead (fun vs H Q E h=>?_) (fun cdv A outer s H vs Q E hr h=>⟨_,tm_lead T hr,?_⟩)
 ·obtain ⟨ap,cp,lo,goal,as,cs,s,n,rfl,_⟩:=h;rfl
 ·obtain ⟨ap,cp,lo,goal,as,cs,s,n,rfl,hA,hC,nac,nda,ba,bc,hn,F,P,q⟩:=h
  show rd_lead K _ [some (.ref ap),some (.ref cp),some (.int s),none,none,none] H
  unfold rd_lead
  have big:(20000:Nat)≤sizeLine:=by decide
  obtain ⟨r,hr⟩:=P.rk
  have onI:∀ {i e},MZ.it (MZ.cmOf cs) (2 * s+1) i=some e→MZ.On (MZ.cmOf cs) (2 * s+1) e:=fun {i}=>by
   induction i with
   | zero=>intro e he;cases he;exact .here
   | succ i ih =>
    intro e he
    have he:(MZ.it (MZ.cmOf cs) (2 * s+1) i).bind (fun e=>(MZ.cmOf cs e).join)=some e:=he
    cases hj:MZ.it (MZ.cmOf cs) (2 * s+1) i with
    | none=>rw [hj] at he;cases he
    | some b =>
     rw [hj] at he
     have he:(MZ.cmOf cs b).join=some e:=he
     refine (ih hj).up ?_
     cases hc:MZ.cmOf cs b with
     | none=>rw [hc] at he;cases he
     | some o=>rw [hc] at he;rw [show o=some e from he]
  walk_at "gs"
  refine ⟨s,rfl,?_⟩
  refine ⟨fun m σ H2=>∃ (i:Nat) (as':MZ.Cs) (v4 v5:Option V),(∀ b o,b≠ap→H b=some o→H2 b=some o)∧H2 ap=some (.dK (as'.map enc))∧(MZ.keys as').Nodup∧(∀ p∈MZ.keys as',p<n)∧MZ.cmOf as'=MZ.lead (MZ.cmOf as) (MZ.cmOf cs) (MZ.upTo (MZ.cmOf cs) (2 * s+1) i)∧m=(match MZ.it (MZ.cmOf cs) (2 * s+1) i with | some e=>r e+1 | none=>0)∧σ=[some (.ref ap),some (.ref cp),some (.int s),some (ov (MZ.it (MZ.cmOf cs) (2 * s+1) i)),v4,v5],⟨_,0,as,_,_,fun _ _ _ e=>e,hA,nda,ba,MZ.lead_zero.symm,rfl,rfl⟩,?_⟩
  rintro m σ H2 ⟨i,as',v4,v5,s2,h2,nd2,ba2,cm2,rfl,rfl⟩
  cases hi:MZ.it (MZ.cmOf cs) (2 * s+1) i with
  | none =>
   show _
   walk_at "gs"
   refine q as' H2 s2 h2 nd2 ba2 (cm2.trans (MZ.lead_congr fun e=>MZ.upTo_on hi))
  | some e =>
   have hon:=onI hi
   have hlen2:=as_len nd2 ba2
   show _
   walk_at "gs"
   obtain ⟨f,hf⟩:∃ f,MZ.cmOf cs e=some f:=by
    rcases P.pred e hon with z | ⟨u,_,z⟩
    ·exact ⟨_,z⟩
    ·exact ⟨_,z⟩
   have hek:e∈MZ.keys cs:=MZ.cm_some.mp (by rw [hf];simp)
   have heb:=bc e hek
   have e2:((e:Int) / 2)=((e / 2:Nat):Int):=by omega
   have hnx:MZ.it (MZ.cmOf cs) (2 * s+1) (i+1)=f:=by
    show (MZ.it (MZ.cmOf cs) (2 * s+1) i).bind (fun e=>(MZ.cmOf cs e).join)=f
    rw [hi]
    show (MZ.cmOf cs e).join=f
    rw [hf]
    rfl
   have hC2:H2 cp=some (.dK (cs.map enc)):=s2 _ _ nac.symm hC
   have g1:=DGet.k (k:=.inl (e:Int)) hC2
   rw [val_enc,hf] at g1
   have hnew:¬ MZ.upTo (MZ.cmOf cs) (2 * s+1) i e:=fun ⟨j,hj,hj2⟩=>by
    have:=MZ.it_rk hr hj hj2 hi
    omega
   refine ⟨fun σ' H'=>∃ (as2:MZ.Cs) (v4 v5:Option V),(∀ b o,b≠ap→H b=some o→H' b=some o)∧H' ap=some (.dK (as2.map enc))∧(MZ.keys as2).Nodup∧(∀ p∈MZ.keys as2,p<n)∧MZ.cmOf as2=MZ.lead (MZ.cmOf as) (MZ.cmOf cs) (MZ.upTo (MZ.cmOf cs) (2 * s+1) (i+1))∧σ'=[some (.ref ap),some (.ref cp),some (.int s),some (ov f),v4,v5],?_,?_⟩
   ·rintro σ' H' ⟨as2,w4,w5,z1,z2,z3,z4,z5,rfl⟩
    refine ⟨_,?_,i+1,as2,w4,w5,z1,z2,z3,z4,z5,rfl,by rw [hnx]⟩
    rw [hnx]
    cases f with
    | none=>exact Nat.succ_pos _
    | some u=>have:=hr e u hf;show r u+1<r e+1;omega
   rw [show ov (some e)=V.int (e:Nat) from rfl]
   walk_at "gs"
   rw [e2]
   refine ⟨cp,_,rfl,g1,?_⟩
   refine mid (fun σ' H'=>∃ as2:MZ.Cs,(∀ b o,b≠ap→H b=some o→H' b=some o)∧H' ap=some (.dK (as2.map enc))∧(MZ.keys as2).Nodup∧(∀ p∈MZ.keys as2,p<n)∧MZ.cmOf as2=MZ.lead (MZ.cmOf as) (MZ.cmOf cs) (MZ.upTo (MZ.cmOf cs) (2 * s+1) (i+1))∧σ'=[some (.ref ap),some (.ref cp),some (.int s),some (.int (e:Nat)),some (.int ((e / 2:Nat):Int)),some (ov f)]) ?_ ?_
   ·intro N hN
    walk_at "gs"
    refine ⟨e / 2,rfl,?_⟩
    unfold nv
    walk_at "gs"
    by_cases c:(e:Int)=((2 * (e / 2):Nat):Int)
    ·rw [if_pos c]
     have ee:2 * (e / 2)=e:=by omega
     have key:∀ as2:MZ.Cs,(MZ.keys as2).Nodup→(∀ p,MZ.cmOf as2 p=if p=e / 2 then MZ.lead (MZ.cmOf as) (MZ.cmOf cs) (MZ.upTo (MZ.cmOf cs) (2 * s+1) (i+1)) (e / 2) else MZ.cmOf as' p)→∀ H',(∀ b o,b≠ap→H b=some o→H' b=some o)→H' ap=some (.dK (as2.map enc))→N [some (.ref ap),some (.ref cp),some (.int s),some (.int (e:Nat)),some (.int ((e / 2:Nat):Int)),some (ov f)] H':=fun as2 nd3 hcm H' s3 h3=>by
      refine hN _ _ ⟨as2,s3,h3,nd3,fun p hp=>?_,funext fun p=>?_,rfl⟩
      ·by_cases z:p=e / 2
       ·omega
       ·have:=MZ.cm_some.mpr hp
        rw [hcm,if_neg z] at this
        exact ba2 p (MZ.cm_some.mp this)
      ·rw [hcm]
       by_cases z:p=e / 2
       ·rw [if_pos z,z]
       ·rw [if_neg z,cm2,MZ.lead_other hi (by omega)]
     have self:=MZ.upTo_self hi
     cases f with
     | none =>
      walk_at "gs"
      refine ⟨ap,_,rfl,.k (k:=.inl ((e / 2:Nat):Int)) h2 (by rw [List.length_map];omega),?_⟩
      refine key (MZ.putA as' (e / 2) none) (MZ.nd_put nd2 _ _) (fun p=>?_) _ (fun b o nb z=>by rw [upd_ne nb];exact s2 b o nb z) ?_
      ·rw [MZ.cm_put nd2]
       by_cases z:p=e / 2
       ·rw [if_pos z,if_pos z,MZ.lead_top (by rw [ee];exact self) (by rw [ee];exact hf)]
       ·rw [if_neg z,if_neg z]
      ·rw [upd_same]
       exact congrArg (fun z=>some (HO.dK z)) (put_enc as' (e / 2) none)
     | some u =>
      rw [show ov (some u)=V.int (u:Nat) from rfl] at key ⊢
      walk_at "gs"
      refine ⟨e / 2,rfl,?_⟩
      unfold nv
      walk_at "gs"
      by_cases cu:(u:Int)=((2 * (e / 2)+1:Nat):Int)
      ·rw [if_pos cu]
       have eu:u=2 * (e / 2)+1:=by omega
       walk_at "gs"
       have hne:MZ.cmOf as' (e / 2)≠none:=by
        rw [cm2,MZ.lead_off (by rw [ee];exact hnew)]
        have hpu:MZ.On (MZ.cmOf cs) (2 * s+1) (2 * (e / 2)+1):=eu ▸ hon.up hf
        rcases MZ.foot_from P hpu with ⟨_,z2,_⟩ | ⟨p',_,_,z⟩
        ·exact (MZ.no_loop P (p:=e / 2) (by rw [ee,hf,show u=e+1 by omega]) z2).elim
        ·exact (F.up _ _ z).2
       obtain ⟨o,ho⟩:=Option.ne_none_iff_exists'.mp hne
       refine ⟨ap,rfl,.inl ⟨_,.inl h2⟩,?_⟩
       refine ⟨_,.inl ((e / 2:Nat):Int),ov o,h2,rfl,by rw [val_enc,ho];rfl,?_⟩
       refine key (MZ.dropA as' (e / 2)) (MZ.nd_drop nd2 _) (fun p=>?_) _ (fun b o nb z=>by rw [upd_ne nb];exact s2 b o nb z) ?_
       ·rw [MZ.cm_drop nd2]
        by_cases z:p=e / 2
        ·rw [if_pos z,if_pos z,MZ.lead_out (by rw [ee];exact self) (by rw [ee,hf,show u=e+1 by omega])]
        ·rw [if_neg z,if_neg z]
       ·rw [upd_same,drop_enc]
      ·rw [if_neg cu]
       have eu2:((u:Int) / 2)=((u / 2:Nat):Int):=by omega
       walk_at "gs"
       rw [eu2]
       refine ⟨ap,_,rfl,.k (k:=.inl ((e / 2:Nat):Int)) h2 (by rw [List.length_map];omega),?_⟩
       refine key (MZ.putA as' (e / 2) (some (u / 2))) (MZ.nd_put nd2 _ _) (fun p=>?_) _ (fun b o nb z=>by rw [upd_ne nb];exact s2 b o nb z) ?_
       ·rw [MZ.cm_put nd2]
        by_cases z:p=e / 2
        ·rw [if_pos z,if_pos z,MZ.lead_up (u:=u) (by rw [ee];exact self) (by rw [ee];exact hf) (by omega)]
        ·rw [if_neg z,if_neg z]
       ·rw [upd_same]
        exact congrArg (fun z=>some (HO.dK z)) (put_enc as' (e / 2) (some (u / 2)))
    ·rw [if_neg c]
     refine hN _ _ ⟨as',s2,h2,nd2,ba2,?_,rfl⟩
     rw [cm2]
     funext p
     exact (MZ.lead_other hi (by omega)).symm
   ·rintro σ' H' ⟨as2,z1,z2,z3,z4,z5,rfl⟩
    walk_at "gs"
    exact ⟨as2,_,_,z1,z2,z3,z4,z5,rfl⟩
structure WayOf (ab:MZ.Ab) (s:Nat) (w:List Nat):Prop where
 hd:∃ r,w=s :: r
 st:∀ (i a b:Nat),w[i]? = some a→w[i+1]? = some b→ab a=some (some b)
 tp:∃ v x,w=v ++ [x]∧ab x=some none
theorem nvLast {v:List Nat}{x:Nat}:atI ((v ++ [x]).map nv) (-1)=some (nv x):=by
 rw [List.map_append]
 unfold atI ixN
 simp
 rw [if_pos (by omega),show (-1+((v.length:Int)+1)).toNat=v.length by omega]
 simp
def sp_way_from (_:PySem.W.Frag):Sp:=fun vs H Q _=>∃ (ap:Addr) (lo:Nat→List Nat) (goal:Nat→Prop) (as:MZ.Cs) (s n:Nat),vs=[.ref ap,.int s]∧H ap=some (.dK (as.map enc))∧(∀ p∈MZ.keys as,p<n)∧n≤300∧MZ.Flow lo goal (MZ.cmOf as)∧(∀ p l,l∈lo p→l<p)∧MZ.cmOf as s≠none ∧
 ∀ l w H',Mad H l (.lst (w.map nv)) H'→WayOf (MZ.cmOf as) s w→Q (.ref l) H'
def rd_way_from (K:PySem.W.Frag):TS:=(tSeq (tAsg (tLst (tCons (cVar 1) tNil)) (gName 2))
  (tSeq (tWhile (cTst (tOp cIsNot (tDGet (cVar 0) (tOp (cIx K) (cVar 2) (tUn cNeg (tC (.int 1))))) (tC .non))) (tDrop (tBM K "list" rAppend (cVar 2) (tCons (tDGet (cVar 0) (tOp (cIx K) (cVar 2) (tUn cNeg (tC (.int 1))))) tNil))))
  (tRet (cVar 2))))
theorem tm_way_from (T:Txt K mg a) {cdv:Value}{A:Around}{outer:List Env}{s:Shared}{H:Hp}{E:XK} (hr:Room 0 (A.deeper (envOfC "way_from" (defScope s_way_from) s.heap.objs.size a.f_way_from cdv))) :
  PSs (cxOf CX0 P w K mg base N_way_from "way_from" (defScope s_way_from) a.f_way_from cdv A outer s H E).nox (defBody s_way_from) (rd_way_from K) :=
 (pss_cons (ps_set (i:=2) sc_way_from.nd rfl (by walk_at "o") (pe_lst (pa_cons (cv 1) pa_nil)))
   (pss_cons (ps_while PassesOwn.never (t_cmp o_isnot (pe_dget (hu_of hr) (cv 0) (pe_ix i_seq (cv 2) (pe_un u_neg pe_int) (fun _ _=>rfl)) (fun _ _=>rfl)) pe_non (nomark _)) (pss_one (ps_expr (pe_bm PySem.F.plainAttrs_list PySem.F.slot_list_append PySem.F.type_list_append (mtr mt_append) (cv 2) (pa_cons (pe_dget (hu_of hr) (cv 0) (pe_ix i_seq (cv 2) (pe_un u_neg pe_int) (fun _ _=>rfl)) (fun _ _=>rfl)) pa_nil)))))
   (pss_one (ps_ret (cv 2)))))
theorem ok_way_from (T:Txt K mg a):FnOk P w K mg base CX0 1 a.f_way_from a.d_way_from ["above","spring"] (sp_way_from K):=by
 refine T.fn_way_from.ok sc_way_from (fun vs H Q E h=>?_) (fun cdv A outer s H vs Q E hr h=>⟨_,tm_way_from T hr,?_⟩)
 ·obtain ⟨ap,lo,goal,as,s,n,rfl,_⟩:=h;rfl
 ·obtain ⟨ap,lo,goal,as,s,n,rfl,hA,ba,hn,F,hlt,hs,q⟩:=h
  show rd_way_from K _ [some (.ref ap),some (.int s),none] H
  unfold rd_way_from
  have big:(20000:Nat)≤sizeLine:=by decide
  walk_at "gs"
  refine ⟨by show 1≤sizeLine;decide,fun l H1 n1=>?_⟩
  walk_at "gs"
  refine ⟨fun m σ H2=>∃ (v:List Nat) (x:Nat),Same H H2∧H2 l=some (.lst ((v ++ [x]).map nv))∧(∃ r,v ++ [x]=s :: r)∧(∀ (i a b:Nat),(v ++ [x])[i]? = some a→(v ++ [x])[i+1]? = some b→MZ.cmOf as a=some (some b))∧MZ.cmOf as x≠none∧v.length≤x∧m=n - x∧σ=[some (.ref ap),some (.int s),some (.ref l)],⟨_,[],s,n1.same,n1.at_,⟨[],rfl⟩,fun i a b h1 h2=>by simp at h2,hs,Nat.zero_le _,rfl,rfl⟩,?_⟩
  rintro m σ H2 ⟨v,x,s2,h2,hd2,st2,hx2,hl2,rfl,rfl⟩
  have hxb:=ba x (MZ.cm_some.mp hx2)
  obtain ⟨o,ho⟩:=Option.ne_none_iff_exists'.mp hx2
  have g1:=DGet.k (k:=.inl (x:Int)) (s2 _ _ hA)
  rw [val_enc,ho] at g1
  walk_at "gs"
  refine ⟨_,_,.inl (.of h2),nvLast,?_⟩
  refine ⟨ap,_,rfl,g1,?_⟩
  cases o with
  | none =>
   show _
   walk_at "gs"
   exact q l (v ++ [x]) H2 ⟨n1.was,h2,s2⟩ ⟨hd2,st2,v,x,rfl,ho⟩
  | some y =>
   have hxy:=hlt _ _ (F.up _ _ ho).1
   have g1:DGet H2 ap (kV (.inl (x:Int))) (some (V.int (y:Nat))):=g1
   rw [if_pos (fun z=>nomatch z)]
   refine ⟨fun σ' H'=>∃ H3,H3=upd H2 l (.lst ((v ++ [x]).map nv ++ [nv y]))∧H'=H3∧σ'=[some (.ref ap),some (.int s),some (.ref l)],?_,?_⟩
   ·rintro σ' H' ⟨H3,rfl,rfl,rfl⟩
    refine ⟨n - y,by omega,v ++ [x],y,s2.put n1.was,by rw [upd_same,List.map_append (l₁:=v ++ [x])];rfl,?_,fun i a b h1 h2=>?_,(F.up _ _ ho).2,by rw [List.length_append];simp;omega,rfl,rfl⟩
    ·obtain ⟨r,hr⟩:=hd2
     exact ⟨r ++ [y],by rw [hr];rfl⟩
    ·rcases Nat.lt_or_ge (i+1) (v ++ [x]).length with g | g
     ·rw [List.getElem?_append_left (by omega)] at h1
      rw [List.getElem?_append_left g] at h2
      exact st2 i a b h1 h2
     ·have hib:i+1<(v ++ [x] ++ [y]).length:=(List.getElem?_eq_some_iff.mp h2).1
      rw [List.length_append] at hib
      simp only [List.length_singleton] at hib
      have hi:i+1=(v ++ [x]).length:=by omega
      rw [hi,List.getElem?_append_right (Nat.le_refl _),Nat.sub_self] at h2
      rw [List.getElem?_append_left (by omega),show i=v.length by rw [List.length_append] at hi;simp at hi;omega,List.getElem?_append_right (Nat.le_refl _),Nat.sub_self] at h1
      cases h1
      cases h2
      exact ho
   ·refine ⟨.inl ⟨by trivial,_,.of h2⟩,?_⟩
    refine ⟨_,_,.inl (.of h2),nvLast,?_⟩
    refine ⟨ap,_,rfl,g1,?_⟩
    refine ⟨l,_,_,rfl,rfl,h2,by rw [List.length_map,List.length_append];simp;omega,?_⟩
    exact ⟨_,rfl,rfl,rfl⟩
def natI (xs:List Nat):List Int:=xs.map fun x:Nat=>(x:Int)
theorem natI_nv (xs:List Nat):(natI xs).map V.int=xs.map nv:=by unfold natI;rw [List.map_map];rfl
theorem keys_fst (cs:MZ.Cs):(cs.map enc).map (·.1)=(natI (MZ.keys cs)).map Sum.inl:=by unfold natI MZ.keys;rw [List.map_map,List.map_map,List.map_map];rfl
theorem nat_sorted {ns':List Int}{ks:List Nat} (hp:ns'.Perm (natI ks)) (hs:ns'.Pairwise (· ≤ ·)) (nd:ks.Nodup):∃ xs:List Nat,ns'=natI xs∧xs.Perm ks∧xs.Pairwise (· < ·):=by
 have h1:ns'=natI (ns'.map Int.toNat):=by
  unfold natI
  rw [List.map_map]
  refine (List.map_id _).symm.trans (List.map_congr_left fun x hx=>?_)
  obtain ⟨k,_,rfl⟩:=List.mem_map.mp (hp.mem_iff.mp hx)
  rfl
 have h2:(ns'.map Int.toNat).Perm ks:=by
  have:=hp.map Int.toNat
  unfold natI at this
  rw [List.map_map] at this
  have e:ks.map (Int.toNat ∘ fun x:Nat=>(x:Int))=ks:=by
   refine (List.map_congr_left fun x _=>?_).trans (List.map_id _)
   rfl
  rwa [e] at this
 refine ⟨_,h1,h2,?_⟩
 have hle:(ns'.map Int.toNat).Pairwise (· ≤ ·):=by
  rw [List.pairwise_map]
  exact hs.imp fun h=>by omega
 exact List.Pairwise.imp₂ (fun a b g1 g2=>by omega) hle (h2.nodup_iff.mpr nd)
def sp_stops_of (_:PySem.W.Frag):Sp:=fun vs H Q _=>∃ (cp:Addr) (cs:MZ.Cs),vs=[.ref cp]∧H cp=some (.dK (cs.map enc))∧(MZ.keys cs).Nodup∧cs.length<64 ∧
 ∀ l (es:List Nat) H',Mad H l (.lst ((es.map fun e:Nat=>e / 2).map nv)) H'→es.Pairwise (· < ·)→(∀ e,e∈es ↔ e∈MZ.keys cs∧2 * (e / 2)+1 ∉ MZ.keys cs)→Q (.ref l) H'
def rd_stops_of (K:PySem.W.Frag):TS:=(tRet (tComp (iList K (tCB (cSortD K) (tCons (cVar 0) tNil))) 1 [0] (gName 0) (cTst (tDNotIn (tCall (sp_foot K) [] E0 (tCons (tOp (cI2c CDiv fun i j=>.int (i / j)) (cVar 0) (tC (.int 2))) tNil)) (cVar 1))) (tOp (cI2c CDiv fun i j=>.int (i / j)) (cVar 0) (tC (.int 2)))))
theorem tm_stops_of (T:Txt K mg a) {cdv:Value}{A:Around}{outer:List Env}{s:Shared}{H:Hp}{E:XK} (hr:Room 1 (A.deeper (envOfC "stops_of" (defScope s_stops_of) s.heap.objs.size a.f_stops_of cdv))) :
  PSs (cxOf CX0 P w K mg base N_stops_of "stops_of" (defScope s_stops_of) a.f_stops_of cdv A outer s H E).nox (defBody s_stops_of) (rd_stops_of K) :=
 (pss_one (ps_ret (pe_comp (N:=["end","came"]) (k:=1) (sel:=[0]) (CScope.of (defScope s_stops_of).names (by decide +kernel)) (CNames.of N_stops_of (by decide +kernel)) rfl (pi_list (pe_callB (c_sortD rfl) (by rfl) T.no_sorted PyProof.Rows.boot_sorted (pa_cons (cv 0) pa_nil))) (fun _ _ _ _=>(pg_name (i:=0) (show List.Nodup (["end","came"]:List Str) by decide +kernel) rfl (by walk_at "o"))) (fun _ _ _ _=>(pts_one (t_pc (pc_dnotin (hu_of hr) (pe_call (ok_foot T) (hr.mono (by decide)) rfl T.mg_foot T.fn_foot.kp T.bi_foot .nil pass0 (pa_cons (pe_op o_fdiv (cv 0) pe_int) pa_nil)) (cv 1))))) (fun _ _ _ _=>(pe_op o_fdiv (cv 0) pe_int)))))
theorem ok_stops_of (T:Txt K mg a):FnOk P w K mg base CX0 2 a.f_stops_of a.d_stops_of ["came"] (sp_stops_of K):=by
 refine T.fn_stops_of.ok sc_stops_of (fun vs H Q E h=>?_) (fun cdv A outer s H vs Q E hr h=>⟨_,tm_stops_of T hr,?_⟩)
 ·obtain ⟨cp,cs,rfl,_⟩:=h;rfl
 ·obtain ⟨cp,cs,rfl,hC,nd,h64,q⟩:=h
  show rd_stops_of K _ [some (.ref cp)] H
  unfold rd_stops_of
  have big:(20000:Nat)≤sizeLine:=by decide
  have hkl:(MZ.keys cs).length=cs.length:=by unfold MZ.keys;rw [List.length_map]
  walk_at "gs"
  refine ⟨_,natI (MZ.keys cs),.inl hC,keys_fst cs,by unfold natI;rw [List.length_map];omega,fun ns' l H1 hp hs n1=>?_⟩
  obtain ⟨xs,rfl,hxp,hxs⟩:=nat_sorted hp hs nd
  rw [natI_nv] at n1
  have hxl:xs.length<64:=by rw [hxp.length_eq];omega
  refine ⟨⟨_,n1.sq⟩,compG_filter (fun v=>match v with | .int e=>decide (2 * (e.toNat / 2)+1 ∉ MZ.keys cs) | _=>false) (fun v=>match v with | .int e=>nv (e.toNat / 2) | _=>.non) n1.sq rfl (by rw [List.length_map];omega) ?_ ?_ ?_⟩
  ·intro v H' Q' hv s' q'
   obtain ⟨e,he,rfl⟩:=List.mem_map.mp hv
   have e2:((e:Int) / 2)=((e / 2:Nat):Int):=by omega
   have g1:=DGet.k (k:=.inl ((2 * (e / 2)+1:Nat):Int)) (s' _ _ (n1.same _ _ hC))
   rw [val_enc] at g1
   unfold nv
   walk_at "gs"
   rw [e2]
   refine ⟨e / 2,rfl,?_⟩
   refine ⟨cp,_,rfl,g1,?_⟩
   have q':Q' (decide (2 * (e / 2)+1 ∉ MZ.keys cs)) H':=q'
   have:(!((MZ.cmOf cs (2 * (e / 2)+1)).map ov).isSome)=decide (2 * (e / 2)+1 ∉ MZ.keys cs):=by
    cases hc:MZ.cmOf cs (2 * (e / 2)+1) with
    | none=>rw [decide_eq_true (MZ.cm_none.mp hc)];rfl
    | some f=>rw [decide_eq_false (fun z=>z (MZ.cm_some.mp (by rw [hc];simp)))];rfl
   rw [this]
   exact q'
  ·intro v H' Q' hv _ s' q'
   obtain ⟨e,he,rfl⟩:=List.mem_map.mp hv
   have e2:((e:Int) / 2)=((e / 2:Nat):Int):=by omega
   unfold nv
   walk_at "gs"
   rw [e2]
   exact q'
  intro l2 H2 n2
  have e3:(((xs.map nv).filter fun v=>match v with | .int e=>decide (2 * (e.toNat / 2)+1 ∉ MZ.keys cs) | _=>false).map fun v=>match v with | .int e=>nv (e.toNat / 2) | _=>.non)=((xs.filter fun e=>decide (2 * (e / 2)+1 ∉ MZ.keys cs)).map fun e:Nat=>e / 2).map nv:=by
   rw [List.filter_map,List.map_map,List.map_map]
   rfl
  rw [e3] at n2
  refine q l2 _ H2 ⟨n1.same.nil n2.was,n2.at_,n1.same.trans n2.same⟩ (hxs.filter _) fun e=>?_
  rw [List.mem_filter,hxp.mem_iff,decide_eq_true_iff]
structure WaysAt (H:Hp) (l:Addr) (rs:List Addr) (ws:List (List Nat)):Prop where
 lst:H l=some (.lst (rs.map V.ref))
 len:rs.length=ws.length
 at_:∀ (i:Nat) r w,rs[i]? = some r→ws[i]? = some w→H r=some (.lst (w.map nv))
def sp_ways_of (_:PySem.W.Frag):Sp:=fun vs H Q _=>∃ (mp ap:Addr) (rs:List Addr) (ls:List (List Nat)) (goal:Nat→Prop) (as:MZ.Cs),vs=[.ref mp,.ref ap]∧MazeAt H mp rs ls∧H ap=some (.dK (as.map enc))∧(MZ.keys as).Nodup∧as.length<64∧(∀ p∈MZ.keys as,p<ls.length)∧ls.length≤300∧MZ.Flow (loOf ls) goal (MZ.cmOf as)∧Mz ls ∧
 ∀ l us (ss:List Nat) ws H',Same H H'→H l=none→WaysAt H' l us ws→(∀ u∈us,H u=none∧u≠l)→ss.Pairwise (· < ·)→(∀ t,t∈ss ↔ loOf ls t=[]∧MZ.cmOf as t≠none)→ws.length=ss.length→(∀ (i:Nat) t w,ss[i]? = some t→ws[i]? = some w→WayOf (MZ.cmOf as) t w)→Q (.ref l) H'
def rd_ways_of (K:PySem.W.Frag):TS:=(tSeq (tAsg (tComp (iList K (tCB (cSortD K) (tCons (cVar 1) tNil))) 1 [0] (gName 0) (cTst (tOp (cEq K) (tCB (cLen K) (tCons (tOp (cIx K) (cVar 1) (cVar 0)) tNil)) (tC (.int 0)))) (cVar 0)) (gName 2))
  (tRet (tComp (iList K (cVar 2)) 1 [1] (gName 0) tTrue (tCall (sp_way_from K) [] E0 (tCons (cVar 1) (tCons (cVar 0) tNil))))))
theorem tm_ways_of (T:Txt K mg a) {cdv:Value}{A:Around}{outer:List Env}{s:Shared}{H:Hp}{E:XK} (hr:Room 1 (A.deeper (envOfC "ways_of" (defScope s_ways_of) s.heap.objs.size a.f_ways_of cdv))) :
  PSs (cxOf CX0 P w K mg base N_ways_of "ways_of" (defScope s_ways_of) a.f_ways_of cdv A outer s H E).nox (defBody s_ways_of) (rd_ways_of K) :=
 (pss_cons (ps_setC (i:=2) (N:=["place","maze"]) (k:=1) (sel:=[0]) (CScope.of (defScope s_ways_of).names (by decide +kernel)) (CNames.of N_ways_of (by decide +kernel)) rfl (pi_list (pe_callB (c_sortD rfl) (by rfl) T.no_sorted PyProof.Rows.boot_sorted (pa_cons (cv 1) pa_nil))) (fun _ _ _ _=>(pg_name (i:=0) (show List.Nodup (["place","maze"]:List Str) by decide +kernel) rfl (by walk_at "o"))) (fun _ _ _ _=>(pts_one (t_cmp (o_eq (hr8 hr)) (pe_callB c_len (by rfl) T.no_len PySem.boot_len (pa_cons (pe_ix i_seq (cv 1) (cv 0) (fun _ _=>rfl)) pa_nil)) pe_int (nomark _)))) (fun _ _ _ _=>(cv 0)) sc_ways_of.nd rfl (by walk_at "o") rfl)
   (pss_one (ps_ret (pe_comp (N:=["spring","above"]) (k:=1) (sel:=[1]) (CScope.of (defScope s_ways_of).names (by decide +kernel)) (CNames.of N_ways_of (by decide +kernel)) rfl (pi_list (cv 2)) (fun _ _ _ _=>(pg_name (i:=0) (show List.Nodup (["spring","above"]:List Str) by decide +kernel) rfl (by walk_at "o"))) (fun _ _ _ _=>pts_nil) (fun _ _ _ _=>(pe_call (ok_way_from T) (hr.mono (by decide)) rfl T.mg_way_from T.fn_way_from.kp T.bi_way_from .nil pass0 (pa_cons (cv 1) (pa_cons (cv 0) pa_nil))))))))
theorem ok_ways_of (T:Txt K mg a):FnOk P w K mg base CX0 2 a.f_ways_of a.d_ways_of ["maze","above"] (sp_ways_of K):=by
 refine T.fn_ways_of.ok sc_ways_of (fun vs H Q E h=>?_) (fun cdv A outer s H vs Q E hr h=>⟨_,tm_ways_of T hr,?_⟩)
 ·obtain ⟨mp,ap,rs,ls,goal,as,rfl,_⟩:=h;rfl
 ·obtain ⟨mp,ap,rs,ls,goal,as,rfl,hM,hA,nd,h64,ba,hn,F,mz,q⟩:=h
  show rd_ways_of K _ [some (.ref mp),some (.ref ap),none] H
  unfold rd_ways_of
  have big:(20000:Nat)≤sizeLine:=by decide
  have hkl:(MZ.keys as).length=as.length:=by unfold MZ.keys;rw [List.length_map]
  walk_at "gs"
  refine ⟨_,natI (MZ.keys as),.inl hA,keys_fst as,by unfold natI;rw [List.length_map];omega,fun ns' l1 H1 hp hs n1=>?_⟩
  obtain ⟨xs,rfl,hxp,hxs⟩:=nat_sorted hp hs nd
  rw [natI_nv] at n1
  have hxl:xs.length<64:=by rw [hxp.length_eq];omega
  refine ⟨⟨_,n1.sq⟩,compG_filter (fun v=>match v with | .int e=>decide ((loOf ls e.toNat).length=0) | _=>false) id n1.sq rfl (by rw [List.length_map];omega) ?_ ?_ ?_⟩
  ·intro v H' Q' hv s' q'
   obtain ⟨e,he,rfl⟩:=List.mem_map.mp hv
   have heb:=ba e (hxp.mem_iff.mp he)
   obtain ⟨r,h1,h2⟩:=(hM.same (n1.same.trans s')).get heb
   unfold nv
   walk_at "gs"
   refine ⟨_,_,.inl (.of (s' _ _ (n1.same _ _ hM.lst))),h1,?_⟩
   refine .inl ⟨_,.inl (.of h2),?_⟩
   rw [List.length_map]
   walk_at "gs"
   have q':Q' (decide ((loOf ls e).length=0)) H':=q'
   rw [show decide (((loOf ls e).length:Int)=0)=decide ((loOf ls e).length=0) by rw [decide_eq_decide];omega]
   exact q'
  ·intro v H' Q' hv _ s' q'
   walk_at "gs"
   exact q'
  intro l2 H2 n2
  have e3:(((xs.map nv).filter fun v=>match v with | .int e=>decide ((loOf ls e.toNat).length=0) | _=>false).map id)=(xs.filter fun e=>decide ((loOf ls e).length=0)).map nv:=by
   rw [List.map_id,List.filter_map]
   rfl
  rw [e3] at n2
  have s02:=n1.same.trans n2.same
  obtain ⟨ss,hss⟩:∃ ss,ss=xs.filter fun e=>decide ((loOf ls e).length=0):=⟨_,rfl⟩
  rw [← hss] at n2
  have hsm:∀ t,t∈ss ↔ loOf ls t=[]∧MZ.cmOf as t≠none:=fun t=>by
   rw [hss,List.mem_filter,hxp.mem_iff,← MZ.cm_some,decide_eq_true_iff,List.length_eq_zero_iff,and_comm]
  have hsl:ss.length<64:=by rw [hss];exact Nat.lt_of_le_of_lt (List.length_filter_le ..) hxl
  walk_at "gs"
  refine ⟨⟨_,n2.sq⟩,fun cp hcp=>comp_gen (n:=(ss.map nv).length) (item:=fun i=>(ss.map nv).getD i .non) (fun σ=>∃ v0,σ=[v0,some (.ref ap)]) (fun i H3=>Same H2 H3∧∃ (us:List Addr) (ws:List (List Nat)),H3 cp=some (.lst (us.map V.ref))∧us.length=i∧ws.length=i∧(∀ u∈us,H2 u=none∧u≠cp)∧(∀ (j:Nat) u w,us[j]? = some u→ws[j]? = some w→H3 u=some (.lst (w.map nv)))∧∀ (j:Nat) t w,ss[j]? = some t→ws[j]? = some w→WayOf (MZ.cmOf as) t w) ⟨_,rfl⟩ ⟨same_upd hcp,[],[],upd_same,rfl,rfl,fun u hu=>by simp at hu,fun j u w hu=>by simp at hu,fun j t w _ hw=>by simp at hw⟩ (src_list (xs:=ss.map nv) ?_) ?_ ?_ ?_⟩
  ·rintro i H3 _ ⟨s3,_⟩
   exact .of (s3 _ _ n2.at_)
  ·rintro H3 ⟨s3,_⟩
   exact ⟨_,.of (s3 _ _ n2.at_),Nat.le_refl _⟩
  ·rintro i σ3 H3 R hi ⟨v0,rfl⟩ ⟨s3,us,ws,h3,hul,hwl,hun,hat,hway⟩ hR
   rw [List.length_map] at hi
   have hti:ss[i]? = some ss[i]:=List.getElem?_eq_getElem hi
   have htm:=(hsm _).mp (List.getElem_mem hi)
   rw [show (ss.map nv).getD i .non=nv ss[i] by rw [List.getD_eq_getElem?_getD,List.getElem?_map,hti];rfl]
   generalize ss[i]=t at *
   unfold nv
   walk_at "gs"
   refine ⟨ap,loOf ls,goal,as,t,ls.length,rfl,s3 _ _ (s02 _ _ hA),ba,hn,F,mz.lt,htm.2,fun l4 w H4 md hw=>?_⟩
   obtain ⟨f4,h4,s4⟩:=md
   have ncp:l4≠cp:=(ne_of_none h3 f4).symm
   refine ⟨_,s4 _ _ h3,by rw [List.length_map];omega,hR _ _ ⟨_,rfl⟩ ⟨(s3.trans s4).put hcp,us ++ [l4],ws ++ [w],by rw [upd_same,List.map_append];rfl,by rw [List.length_append,hul];rfl,by rw [List.length_append,hwl];rfl,fun u hu=>?_,fun j u w' hu hw'=>?_,fun j t' w' ht' hw'=>?_⟩⟩
   ·rcases List.mem_append.mp hu with z | z
    ·exact hun u z
    ·rw [List.mem_singleton] at z
     subst z
     exact ⟨s3.nil f4,ncp⟩
   ·by_cases hji:j<i
    ·rw [List.getElem?_append_left (by omega)] at hu hw'
     rw [upd_ne (hun u (List.mem_of_getElem? hu)).2]
     exact s4 _ _ (hat j u w' hu hw')
    ·have hjl:j<us.length+1:=by have:=(List.getElem?_eq_some_iff.mp hu).1;rwa [List.length_append] at this
     have hj:j=us.length:=by omega
     subst hj
     rw [List.getElem?_append_right (Nat.le_refl _),Nat.sub_self] at hu
     rw [show us.length=ws.length by omega,List.getElem?_append_right (Nat.le_refl _),Nat.sub_self] at hw'
     cases hu
     cases hw'
     rw [upd_ne ncp]
     exact h4
   ·by_cases hji:j<i
    ·rw [List.getElem?_append_left (by omega)] at hw'
     exact hway j t' w' ht' hw'
    ·have hjl:j<ws.length+1:=by have:=(List.getElem?_eq_some_iff.mp hw').1;rwa [List.length_append] at this
     have hj:j=i:=by omega
     subst hj
     rw [hti] at ht'
     rw [← hwl,List.getElem?_append_right (Nat.le_refl _),Nat.sub_self] at hw'
     cases ht'
     cases hw'
     exact hw
  rintro H3 ⟨s3,us,ws,h3,hul,hwl,hun,hat,hway⟩
  rw [List.length_map] at hul hwl
  exact q cp us ss ws H3 (s02.trans s3) (s02.nil hcp) ⟨h3,by omega,hat⟩ (fun u hu=>⟨s02.nil (hun u hu).1,(hun u hu).2⟩) (by rw [hss];exact hxs.filter _) hsm hwl hway
def Cnt (ls:List (List Nat)) (as:MZ.Cs) (i:Nat):Prop:=∃ A:List Nat,A.Nodup∧(∀ t,t∈A ↔ loOf ls t=[]∧MZ.cmOf as t≠none)∧A.length=i
theorem Cnt.eq {ls:List (List Nat)}{as:MZ.Cs}{i:Nat} (h:Cnt ls as i) {B:List Nat} (nB:B.Nodup) (hB:∀ t,t∈B ↔ loOf ls t=[]∧MZ.cmOf as t≠none):B.length=i:=by
 obtain ⟨A,nA,hA,rfl⟩:=h
 exact Nat.le_antisymm (MZ.len_le (R:=fun a b:Nat=>a=b) (fun a a' b h h'=>h.trans h'.symm) nB fun b hb=>⟨b,(hA b).mpr ((hB b).mp hb),rfl⟩) (MZ.len_le (R:=fun a b:Nat=>a=b) (fun a a' b h h'=>h.trans h'.symm) nA fun b hb=>⟨b,(hB b).mpr ((hA b).mp hb),rfl⟩)
theorem lt_nodup {xs:List Nat} (h:xs.Pairwise (· < ·)):xs.Nodup:=h.imp fun h=>Nat.ne_of_lt h
theorem lo_zero {ls:List (List Nat)} (mz:Mz ls):loOf ls 0=[]:=by
 cases h:loOf ls 0 with
 | nil=>rfl
 | cons x r=>have:=mz.lt 0 x (by rw [h];exact List.mem_cons_self ..);omega
theorem seek_shut {ls:List (List Nat)}{gs:List Nat}{as cs:MZ.Cs} (h:Seek ls gs as cs []):MZ.Shut (loOf ls) (goalOf gs) (MZ.cmOf as) (fun e=>e∈MZ.keys cs):=by
 refine ⟨fun g l hg hl=>List.mem_map.mpr ⟨_,h.came.all g l hg hl,rfl⟩,fun e e' he hn=>?_,fun t ht=>?_⟩
 ·rcases h.done e he with z | z
  ·simp at z
  ·exact z.2 e' hn
 ·rcases h.done _ ht with z | z
  ·simp at z
  ·exact z.1 t rfl
theorem seek_64 {ls:List (List Nat)}{gs:List Nat}{as cs:MZ.Cs} (mz:Mz ls) (h:Seek ls gs as cs []) (hn:ls.length≤32):cs.length<64:=by
 have h1:1 ∉ MZ.keys cs:=fun z=>(seek_shut h).dry 0 z (lo_zero mz)
 have:=MZ.len_le (R:=fun a b:Nat=>a=b) (fun a a' b h h'=>h.trans h'.symm) (A:=MZ.keys cs) (B:=(List.range 64).erase 1) h.came.nd fun e he=>⟨e,(List.mem_erase_of_ne (fun z=>h1 (by rw [← z];exact he))).mpr (List.mem_range.mpr (by have:=h.bd e he;omega)),rfl⟩
 rw [List.length_erase_of_mem (by decide),List.length_range] at this
 unfold MZ.keys at this
 rw [List.length_map] at this
 omega
structure Told (ls:List (List Nat)) (gs:List Nat) (most:Nat) (H:Hp) (wl:Addr) (v:V) (us:List Addr) (ss:List Nat) (ws:List (List Nat)) (as:MZ.Cs):Prop where
 ways:WaysAt H wl us ws
 flow:MZ.Flow (loOf ls) (goalOf gs) (MZ.cmOf as)
 bd:∀ p∈MZ.keys as,p<ls.length
 ris:ss.Pairwise (· < ·)
 mem:∀ t,t∈ss ↔ loOf ls t=[]∧MZ.cmOf as t≠none
 len:ws.length=ss.length
 way:∀ (i:Nat) t w,ss[i]? = some t→ws[i]? = some w→WayOf (MZ.cmOf as) t w
 rest:(v=.non∧ss.length=most+1)∨∃ (sl:Addr) (es:List Nat) (cs:MZ.Cs),v=.ref sl∧H sl=some (.lst ((es.map fun e:Nat=>e / 2).map nv))∧sl≠wl∧sl ∉ us∧Seek ls gs as cs []∧es.Pairwise (· < ·)∧(∀ e,e∈es ↔ e∈MZ.keys cs∧2 * (e / 2)+1 ∉ MZ.keys cs)∧ss.length≤most
def sp_apart (a:Adr) (_:PySem.W.Frag):Sp:=fun vs H Q E=>∃ (mp gp:Addr) (rs:List Addr) (ls:List (List Nat)) (gi:List Int) (most:Nat),vs=[.ref mp,.ref gp,.int most]∧MazeAt H mp rs ls∧H gp=some (.lst (gi.map V.int))∧Mz ls∧ls.length≤32∧most≤10 ∧
 (∀ gs tp wl v us ss ws as H',gi=natI gs→GoalOk ls gi→Same H H'→H tp=none→H wl=none→(∀ u∈us,H u=none)→(∀ b,v=.ref b→H b=none)→H' tp=some (.tup [.ref wl,v])→Told ls gs most H' wl v us ss ws as→Q (.ref tp) H')∧(¬ GoalOk ls gi→∀ e,H e=none→E (.ref e) (some a.c_NoGoal) H)
def rd_apart (a:Adr) (K:PySem.W.Frag) (E:XK):TS:=(tSeq (tDrop (tCall (sp_need_goals a K) [] E (tCons (cVar 0) (tCons (cVar 1) tNil))))
  (tSeq (tAsg tDNewK (gName 3))
  (tSeq (tFor (iRng1 (tCons (tOp cAdd (cVar 2) (tC (.int 1))) tNil)) (gName 4) (tSeq (tAsg (tCall (sp_search K) [] E0 (tCons (cVar 0) (tCons (cVar 1) (tCons (cVar 3) tNil)))) (gName 5))
  (tSeq (tIfS (cTst (tOp cIs (tOp (cIx K) (cVar 5) (tC (.int 0))) (tC .non))) (tRet (tTup (tCons (tCall (sp_ways_of K) [] E0 (tCons (cVar 0) (tCons (cVar 3) tNil))) (tCons (tCall (sp_stops_of K) [] E0 (tCons (tOp (cIx K) (cVar 5) (tC (.int 1))) tNil)) tNil)))) tNext)
  (tDrop (tCall (sp_lead K) [] E0 (tCons (cVar 3) (tCons (tOp (cIx K) (cVar 5) (tC (.int 1))) (tCons (tOp (cIx K) (cVar 5) (tC (.int 0))) tNil))))))))
  (tRet (tTup (tCons (tCall (sp_ways_of K) [] E0 (tCons (cVar 0) (tCons (cVar 3) tNil))) (tCons (tC .non) tNil)))))))
theorem tm_apart (T:Txt K mg a) {cdv:Value}{A:Around}{outer:List Env}{s:Shared}{H:Hp}{E:XK} (hr:Room 3 (A.deeper (envOfC "apart" (defScope s_apart) s.heap.objs.size a.f_apart cdv))) :
  PSs (cxOf (CX1 P w) P w K mg base N_apart "apart" (defScope s_apart) a.f_apart cdv A outer s H E) (defBody s_apart) (rd_apart a K E) :=
 (pss_cons (ps_expr (pe_call (ok_need_goals T) (hr.mono (by decide)) rfl T.mg_need_goals T.fn_need_goals.kp T.bi_need_goals .nil (pass1 xok_fn) (pa_cons (cv 0) (pa_cons (cv 1) pa_nil))))
   (pss_cons (ps_set (i:=3) sc_apart.nd rfl (by walk_at "o") pe_dnewK)
   (pss_cons (PS.nox (ps_for PassesOwn.never rfl (pi_range1 rfl T.no_range (pa_cons (pe_op o_add (cv 2) pe_int) pa_nil)) (pg_name (i:=4) sc_apart.nd rfl (by walk_at "o")) (pss_cons (ps_set (i:=5) sc_apart.nd rfl (by walk_at "o") (pe_call (ok_search T) (hr.mono (by decide)) rfl T.mg_search T.fn_search.kp T.bi_search .nil pass0 (pa_cons (cv 0) (pa_cons (cv 1) (pa_cons (cv 3) pa_nil)))))
   (pss_cons (ps_if (t_cmp o_is (pe_ix i_seq (cv 5) pe_int (fun _ _=>rfl)) pe_non (nomark _)) (pss_one (ps_ret (pe_tup (pa_cons (pe_call (ok_ways_of T) (hr.mono (by decide)) rfl T.mg_ways_of T.fn_ways_of.kp T.bi_ways_of .nil pass0 (pa_cons (cv 0) (pa_cons (cv 3) pa_nil))) (pa_cons (pe_call (ok_stops_of T) (hr.mono (by decide)) rfl T.mg_stops_of T.fn_stops_of.kp T.bi_stops_of .nil pass0 (pa_cons (pe_ix i_seq (cv 5) pe_int (fun _ _=>rfl)) pa_nil)) pa_nil))))) pss_nil)
   (pss_one (ps_expr (pe_call (ok_lead T) (hr.mono (by decide)) rfl T.mg_lead T.fn_lead.kp T.bi_lead .nil pass0 (pa_cons (cv 3) (pa_cons (pe_ix i_seq (cv 5) pe_int (fun _ _=>rfl)) (pa_cons (pe_ix i_seq (cv 5) pe_int (fun _ _=>rfl)) pa_nil))))))))))
   (pss_one (ps_ret (pe_tup (pa_cons (pe_call (ok_ways_of T) (hr.mono (by decide)) rfl T.mg_ways_of T.fn_ways_of.kp T.bi_ways_of .nil pass0 (pa_cons (cv 0) (pa_cons (cv 3) pa_nil))) (pa_cons pe_non pa_nil))))))))
theorem ok_apart (T:Txt K mg a):FnOk P w K mg base (CX1 P w) 4 a.f_apart a.d_apart ["maze","goals","most"] (sp_apart a K):=by
 refine T.fn_apart.okX sc_apart (fun vs H Q E h=>?_) (fun cdv A outer s H vs Q E hr h=>⟨_,tm_apart T hr,?_⟩)
 ·obtain ⟨mp,gp,rs,ls,gi,most,rfl,_⟩:=h;rfl
 ·obtain ⟨mp,gp,rs,ls,gi,most,rfl,hM,hG,mz,hn,hmo,q1,q0⟩:=h
  show rd_apart a K E _ [some (.ref mp),some (.ref gp),some (.int most),none,none,none] H
  unfold rd_apart
  have big:(20000:Nat)≤sizeLine:=by decide
  walk_at "gs"
  refine ⟨mp,gp,rs,ls,gi,rfl,hM,hG,fun hok=>?_,q0⟩
  obtain ⟨gs,hgs⟩:∃ gs,gi=natI gs:=⟨gi.map Int.toNat,by
   unfold natI
   rw [List.map_map]
   refine (List.map_id _).symm.trans (List.map_congr_left fun x hx=>?_)
   have:=(hok x hx).1
   show x=((x.toNat:Nat):Int)
   omega⟩
  have hG':=hG
  rw [hgs,natI_nv] at hG'
  have hgb:∀ g∈gs,g<ls.length∧loOf ls g≠[]:=fun g hg=>by
   obtain ⟨_,h2,h3⟩:=hok (g:Int) (by rw [hgs];exact List.mem_map.mpr ⟨g,hg,rfl⟩)
   rw [Int.toNat_natCast] at h3
   exact ⟨by omega,h3⟩
  walk_at "gs"
  intro ap H1 n1
  have fa:H ap=none:=n1.was
  have flow0:MZ.Flow (loOf ls) (goalOf gs) (MZ.cmOf []):=⟨fun p q h=>(nomatch h),fun p h=>(nomatch h),fun p p' q h=>(nomatch h),fun p h=>absurd rfl h,fun p h=>absurd rfl h⟩
  walk_at "gs"
  rw [show ((most:Int)+1).toNat=most+1 by omega]
  refine for_rngG (fun i σ H2=>Same H H2∧∃ (as:MZ.Cs) (v4 v5:Option V),H2 ap=some (.dK (as.map enc))∧(MZ.keys as).Nodup∧(∀ p∈MZ.keys as,p<ls.length)∧MZ.Flow (loOf ls) (goalOf gs) (MZ.cmOf as)∧Cnt ls as i∧σ=[some (.ref mp),some (.ref gp),some (.int most),some (.ref ap),v4,v5]) ⟨n1.same,[],_,_,n1.at_,List.nodup_nil,fun p hp=>by simp [MZ.keys] at hp,flow0,⟨[],List.nodup_nil,fun t=>⟨fun z=>by simp at z,fun z=>absurd rfl z.2⟩,rfl⟩,rfl⟩ ?_ ?_
  ·rintro i σ H2 hi ⟨s2,as,v4,v5,h2,nd2,ba2,F2,c2,rfl⟩
   have hal:=as_len nd2 ba2
   walk_at "gs"
   refine ⟨mp,gp,ap,rs,ls,gs,as,rfl,hM.same s2,s2 _ _ hG',h2,mz,by omega,fun g hg=>(hgb g hg).1,fun p q hpq=>ba2 q (MZ.cm_some.mp (F2.up p q hpq).2),fun s cs tp cp H3 s3 fc3 h3 hc3 cm3 hls hk3 hsb hcb=>?_,fun cs tp cp H3 s3 h3 hc3 sk=>?_⟩
   ·-- a spring was come to
    have P:=cm3.path F2 (fun g hg=>(hgb g hg).2) hls hk3
    have nac:ap≠cp:=ne_of_none h2 fc3
    walk_at "gs"
    refine ⟨_,_,.inr (.of h3),rfl,?_⟩
    unfold nv
    walk_at "gs"
    refine ⟨_,_,.inr (.of h3),rfl,?_⟩
    refine ⟨_,_,.inr (.of h3),rfl,?_⟩
    refine ⟨ap,cp,loOf ls,goalOf gs,as,cs,s,ls.length,rfl,s3 _ _ h2,hc3,nac,nd2,ba2,hcb,by omega,F2,P,fun as' H4 s4 h4 nd4 ba4 cm4=>?_⟩
    ·have F4:=MZ.lead_flow F2 P mz.lt
     rw [← cm4] at F4
     obtain ⟨l1,l2,l3⟩:=MZ.lead_springs F2 P mz.lt
     rw [← cm4] at l2 l3
     refine ⟨fun b o e=>?_,as',_,_,h4,nd4,ba4,F4,?_,rfl⟩
     ·exact s4 b o (ne_of_none e fa) (s3 _ _ (s2 _ _ e))
     ·obtain ⟨A,nA,hA,rfl⟩:=c2
      refine ⟨s :: A,List.nodup_cons.mpr ⟨fun z=>((hA s).mp z).2 l1,nA⟩,fun t=>?_,rfl⟩
      rw [List.mem_cons,hA]
      constructor
      ·rintro (rfl | ⟨z1,z2⟩)
       ·exact ⟨hls,l2⟩
       ·refine ⟨z1,?_⟩
        by_cases e:t=s
        ·subst e;exact l2
        ·exact (l3 t z1 e).mpr z2
      ·rintro ⟨z1,z2⟩
       by_cases e:t=s
       ·exact .inl e
       ·exact .inr ⟨z1,(l3 t z1 e).mp z2⟩
   ·walk_at "gs"
    refine ⟨_,_,.inr (.of h3),rfl,?_⟩
    walk_at "gs"
    refine ⟨mp,ap,rs,ls,goalOf gs,as,rfl,hM.same (s2.trans s3),s3 _ _ h2,nd2,by omega,ba2,by omega,F2,mz,fun wl us ss ws H4 s4 f4 hW hun ris mem len way=>?_⟩
    refine ⟨_,_,.inr (.of (s4 _ _ h3)),rfl,?_⟩
    refine ⟨cp,cs,rfl,s4 _ _ hc3,sk.came.nd,seek_64 mz sk hn,fun sl es H5 md hes hem=>?_⟩
    obtain ⟨f5,h5,s5⟩:=md
    refine ⟨by show 2≤sizeLine;decide,fun tp' H6 n6=>?_⟩
    have s03:=s2.trans s3
    have s04:=s03.trans s4
    have s05:=s04.trans s5
    have s46:=s5.trans n6.same
    refine q1 gs tp' wl (.ref sl) us ss ws as H6 hgs hok (s05.trans n6.same) (s05.nil n6.was) (s03.nil f4) (fun u hu=>s03.nil (hun u hu).1) (fun b e=>by cases e;exact s04.nil f5) n6.at_ ⟨⟨s46 _ _ hW.lst,hW.len,fun i r w hr hw=>s46 _ _ (hW.at_ i r w hr hw)⟩,F2,ba2,ris,mem,len,way,.inr ⟨sl,es,cs,rfl,n6.same _ _ h5,(ne_of_none hW.lst f5).symm,fun z=>?_,sk,hes,hem,?_⟩⟩
    ·obtain ⟨j,hj⟩:=List.mem_iff_getElem?.mp z
     have hjl:j<ws.length:=by rw [← hW.len];exact (List.getElem?_eq_some_iff.mp hj).1
     have:=hW.at_ j sl _ hj (List.getElem?_eq_getElem hjl)
     rw [f5] at this
     cases this
    ·have:=c2.eq (lt_nodup ris) mem
     omega
  ·rintro σ H2 ⟨s2,as,v4,v5,h2,nd2,ba2,F2,c2,rfl⟩
   have hal:=as_len nd2 ba2
   walk_at "gs"
   refine ⟨mp,ap,rs,ls,goalOf gs,as,rfl,hM.same s2,h2,nd2,by omega,ba2,by omega,F2,mz,fun wl us ss ws H4 s4 f4 hW hun ris mem len way=>?_⟩
   refine ⟨by show 2≤sizeLine;decide,fun tp' H6 n6=>?_⟩
   have s04:=s2.trans s4
   exact q1 gs tp' wl .non us ss ws as H6 hgs hok (s04.trans n6.same) (s04.nil n6.was) (s2.nil f4) (fun u hu=>s2.nil (hun u hu).1) (fun b e=>nomatch e) n6.at_ ⟨⟨n6.same _ _ hW.lst,hW.len,fun i r w hr hw=>n6.same _ _ (hW.at_ i r w hr hw)⟩,F2,ba2,ris,mem,len,way,.inl ⟨rfl,c2.eq (lt_nodup ris) mem⟩⟩
def Nice (H:Hp):V→Prop
 | .int _=>True
 | .bl _=>True
 | .str _=>True
 | .non=>True
 | .ref a=>(∃ xs,H a=some (.lst xs))∨∃ xs,H a=some (.tup xs)
 | _=>False
def whole:V→Bool
 | .int _=>true
 | _=>false
def sp_is_whole (_:PySem.W.Frag):Sp:=fun vs H Q _=>∃ v:V,vs=[v]∧Nice H v∧Q (.bl (whole v)) H
def rd_is_whole (K:PySem.W.Frag):TS:=(tRet (cAndV (tCB (cIsinst K) (tCons (cVar 0) (tCons (tC (.ty "int")) tNil))) (cNotV (tCB (cIsinst K) (tCons (cVar 0) (tCons (tC (.ty "bool")) tNil))))))
theorem tm_is_whole (T:Txt K mg a) {cdv:Value}{A:Around}{outer:List Env}{s:Shared}{H:Hp}{E:XK} (hr:Room 0 (A.deeper (envOfC "is_whole" (defScope s_is_whole) s.heap.objs.size a.f_is_whole cdv))) :
  PSs (cxOf CX0 P w K mg base N_is_whole "is_whole" (defScope s_is_whole) a.f_is_whole cdv A outer s H E).nox (defBody s_is_whole) (rd_is_whole K) :=
 (pss_one (ps_ret (e_and (pe_callB c_isinst (by rfl) T.no_isinstance PyProof.Rows.boot_isinstance (pa_cons (cv 0) (pa_cons (pe_bltn (v:=.ty "int") rfl T.no_int PyProof.Rows.boot_int rfl) pa_nil))) (pe_one (e_not (pe_callB c_isinst (by rfl) T.no_isinstance PyProof.Rows.boot_isinstance (pa_cons (cv 0) (pa_cons (pe_bltn (v:=.ty "bool") rfl T.no_bool PyProof.Rows.boot_bool rfl) pa_nil))))))))
theorem ok_is_whole (T:Txt K mg a):FnOk P w K mg base CX0 1 a.f_is_whole a.d_is_whole ["thing"] (sp_is_whole K):=by
 refine T.fn_is_whole.ok sc_is_whole (fun vs H Q E h=>?_) (fun cdv A outer s H vs Q E hr h=>⟨_,tm_is_whole T hr,?_⟩)
 ·obtain ⟨v,rfl,_⟩:=h;rfl
 ·obtain ⟨v,rfl,hv,q⟩:=h
  show rd_is_whole K _ [some v] H
  unfold rd_is_whole
  walk_at "gs"
  cases v with
  | int i =>
   refine ⟨_,true,.int _,rfl,?_⟩
   walk_at "gs"
   refine ⟨_,false,.int _,rfl,?_⟩
   walk_at "gs"
   exact q
  | bl x =>
   refine ⟨_,true,.bl _,rfl,?_⟩
   walk_at "gs"
   refine ⟨_,true,.bl _,rfl,?_⟩
   walk_at "gs"
   exact q
  | str z =>
   refine ⟨_,false,.str _,rfl,?_⟩
   walk_at "gs"
   exact q
  | non =>
   refine ⟨_,false,.non,rfl,?_⟩
   walk_at "gs"
   exact q
  | ref r =>
   rcases hv with ⟨xs,e⟩ | ⟨xs,e⟩
   ·refine ⟨_,false,.lst e,rfl,?_⟩
    walk_at "gs"
    exact q
   ·refine ⟨_,false,.tup e,rfl,?_⟩
    walk_at "gs"
    exact q
  | _=>exact hv.elim
def btw (v:V) (l g:Int):Bool:=match v with
 | .int i=>decide (l≤i∧i≤g)
 | _=>false
theorem not_whole {v:V} (h:whole v=false) (l g:Int):btw v l g=false:=by
 cases v with
 | int i=>cases h
 | _=>rfl
theorem is_int {v:V} (h:whole v=true):∃ i,v=.int i:=by
 cases v with
 | int i=>exact ⟨i,rfl⟩
 | _=>cases h
def sp_is_between (_:PySem.W.Frag):Sp:=fun vs H Q _=>∃ (v:V) (l g:Int),vs=[v,.int l,.int g]∧Nice H v∧Q (.bl (btw v l g)) H
def rd_is_between (K:PySem.W.Frag):TS:=(tRet (cAndV (tCall (sp_is_whole K) [] E0 (tCons (cVar 0) tNil)) (cChain (cI2 fun i j=>.bl (decide (i≤j))) (cI2 fun i j=>.bl (decide (i≤j))) (cVar 1) (cVar 0) (cVar 2))))
theorem tm_is_between (T:Txt K mg a) {cdv:Value}{A:Around}{outer:List Env}{s:Shared}{H:Hp}{E:XK} (hr:Room 1 (A.deeper (envOfC "is_between" (defScope s_is_between) s.heap.objs.size a.f_is_between cdv))) :
  PSs (cxOf CX0 P w K mg base N_is_between "is_between" (defScope s_is_between) a.f_is_between cdv A outer s H E).nox (defBody s_is_between) (rd_is_between K) :=
 (pss_one (ps_ret (e_and (pe_call (ok_is_whole T) (hr.mono (by decide)) rfl T.mg_is_whole T.fn_is_whole.kp T.bi_is_whole .nil pass0 (pa_cons (cv 0) pa_nil)) (pe_one (e_chain o_le o_le (cv 1) (cv 0) (cv 2))))))
theorem ok_is_between (T:Txt K mg a):FnOk P w K mg base CX0 2 a.f_is_between a.d_is_between ["thing","least","greatest"] (sp_is_between K):=by
 refine T.fn_is_between.ok sc_is_between (fun vs H Q E h=>?_) (fun cdv A outer s H vs Q E hr h=>⟨_,tm_is_between T hr,?_⟩)
 ·obtain ⟨v,l,g,rfl,_⟩:=h;rfl
 ·obtain ⟨v,l,g,rfl,hv,q⟩:=h
  show rd_is_between K _ [some v,some (.int l),some (.int g)] H
  unfold rd_is_between
  walk_at "gs"
  refine ⟨v,rfl,hv,?_⟩
  cases hw:whole v with
  | false =>
   rw [not_whole hw] at q
   walk_at "gs"
   exact q
  | true =>
   obtain ⟨i,rfl⟩:=is_int hw
   have q:Q (.bl (decide (l≤i∧i≤g))) H:=q
   walk_at "gs"
   by_cases h:l≤i
   ·rw [if_pos h]
    rw [show decide (l≤i∧i≤g)=decide (i≤g) by rw [decide_eq_decide];omega] at q
    exact q
   ·rw [if_neg h]
    rw [decide_eq_false (fun z=>h z.1)] at q
    exact q
def okSize (v:V):Bool:=btw v 2 6
def sp_need_size (a:Adr) (_:PySem.W.Frag):Sp:=fun vs H Q E=>∃ v:V,vs=[v]∧Nice H v∧(okSize v=true→Q .non H)∧(okSize v=false→∀ e,H e=none→E (.ref e) (some a.c_NoSize) H)
def rd_need_size (a:Adr) (K:PySem.W.Frag) (E:XK):TS:=(tIfS (tNot (cTru K (tCall (sp_is_between K) [] E0 (tCons (cVar 0) (tCons (tC (gv_LEAST_SIZE a)) (tCons (tC (gv_GREATEST_SIZE a)) tNil)))))) (tRaise a.c_NoSize (tCons (tC (.str "not a whole number from 2 to 6")) tNil) E) tNext)
theorem tm_need_size (T:Txt K mg a) {cdv:Value}{A:Around}{outer:List Env}{s:Shared}{H:Hp}{E:XK} (hr:Room 2 (A.deeper (envOfC "need_size" (defScope s_need_size) s.heap.objs.size a.f_need_size cdv))) :
  PSs (cxOf (CX1 P w) P w K mg base N_need_size "need_size" (defScope s_need_size) a.f_need_size cdv A outer s H E) (defBody s_need_size) (rd_need_size a K E) :=
 (pss_one (ps_if (pt_not (pt_tru (pe_call (ok_is_between T) (hr.mono (by decide)) rfl T.mg_is_between T.fn_is_between.kp T.bi_is_between .nil pass0 (pa_cons (cv 0) (pa_cons (pe_globE rfl T.gx_LEAST_SIZE) (pa_cons (pe_globE rfl T.gx_GREATEST_SIZE) pa_nil)))))) (pss_one (ps_raise PySem.F.excBase_ValueError T.xi_NoSize (by decide) rfl T.mg_NoSize rfl xok_fn (pa_cons pe_str pa_nil))) pss_nil))
theorem ok_need_size (T:Txt K mg a):FnOk P w K mg base (CX1 P w) 3 a.f_need_size a.d_need_size ["size"] (sp_need_size a K):=by
 refine T.fn_need_size.okX sc_need_size (fun vs H Q E h=>?_) (fun cdv A outer s H vs Q E hr h=>⟨_,tm_need_size T hr,?_⟩)
 ·obtain ⟨v,rfl,_⟩:=h;rfl
 ·obtain ⟨v,rfl,hv,q1,q0⟩:=h
  show rd_need_size a K E _ [some v] H
  unfold rd_need_size gv_LEAST_SIZE gv_GREATEST_SIZE
  walk_at "gs"
  refine ⟨v,_,_,rfl,hv,?_⟩
  have e:btw v 2 6=okSize v:=rfl
  rw [e]
  cases h:okSize v with
  | true =>
   walk_at "gs"
   exact q1 h
  | false =>
   walk_at "gs"
   exact q0 h
def mazeL (m:Nat) (P:List MF.Pr):List (List Nat):=List.replicate (m+1) [] ++ P.map fun p=>[(p.1 / 2).toNat,(p.2 / 2).toNat]
theorem mazeL_len (m:Nat) (P:List MF.Pr):(mazeL m P).length=m+1+P.length:=by
 unfold mazeL
 rw [List.length_append,List.length_replicate,List.length_map]
theorem mazeL_low {m:Nat}{P:List MF.Pr}{k:Nat} (h:k≤m):(mazeL m P)[k]? = some []:=by
 unfold mazeL
 rw [List.getElem?_append_left (by rw [List.length_replicate];omega),List.getElem?_replicate,if_pos (by omega)]
theorem mazeL_high {m:Nat}{P:List MF.Pr}{j:Nat}{p:MF.Pr} (h:P[j]? = some p):(mazeL m P)[m+1+j]? = some [(p.1 / 2).toNat,(p.2 / 2).toNat]:=by
 unfold mazeL
 rw [List.getElem?_append_right (by rw [List.length_replicate];omega),List.length_replicate,show m+1+j - (m+1)=j by omega,List.getElem?_map,h]
 rfl
theorem lo_low {m:Nat}{P:List MF.Pr}{k:Nat} (h:k≤m):loOf (mazeL m P) k=[]:=by
 unfold loOf
 rw [List.getD_eq_getElem?_getD,mazeL_low h]
 rfl
theorem lo_high {m:Nat}{P:List MF.Pr}{j:Nat}{p:MF.Pr} (h:P[j]? = some p):loOf (mazeL m P) (m+1+j)=[(p.1 / 2).toNat,(p.2 / 2).toNat]:=by
 unfold loOf
 rw [List.getD_eq_getElem?_getD,mazeL_high h]
 rfl
theorem lo_case {m:Nat}{P:List MF.Pr}{k l:Nat} (h:l∈loOf (mazeL m P) k):∃ j p,k=m+1+j∧P[j]? = some p∧(l=(p.1 / 2).toNat∨l=(p.2 / 2).toNat):=by
 have hk:=lo_in h
 rw [mazeL_len] at hk
 rcases Nat.lt_or_ge m k with z | z
 ·have hj:k - m - 1<P.length:=by omega
  refine ⟨k - m - 1,P[k - m - 1],by omega,List.getElem?_eq_getElem hj,?_⟩
  rw [show k=m+1+(k - m - 1) by omega,lo_high (List.getElem?_eq_getElem hj)] at h
  simpa using h
 ·rw [lo_low z] at h
  simp at h
theorem maze_mz {m:Nat}{P:List MF.Pr} (ok:MF.Ok m P):Mz (mazeL m P):=by
 refine ⟨fun k l h=>?_,fun k=>?_⟩
 ·obtain ⟨j,p,rfl,hp,e⟩:=lo_case h
  have:=ok j p hp
  omega
 ·rcases Nat.lt_or_ge m k with z | z
  ·rcases Nat.lt_or_ge (k - m - 1) P.length with y | y
   ·rw [show k=m+1+(k - m - 1) by omega,lo_high (List.getElem?_eq_getElem y)]
    have:=ok _ _ (List.getElem?_eq_getElem y)
    simp
    omega
   ·unfold loOf
    rw [List.getD_eq_getElem?_getD,List.getElem?_eq_none (by rw [mazeL_len];omega)]
    exact List.nodup_nil
  ·rw [lo_low z];exact List.nodup_nil
theorem MazeAt.snoc {H:Hp}{mp bp:Addr}{rs:List Addr}{ls:List (List Nat)}{bs:List Nat} (h:MazeAt H mp rs ls) (hb:H bp=some (.lst (bs.map nv))) (nr:mp ∉ rs) (nb:mp≠bp):MazeAt (upd H mp (.lst (rs.map V.ref ++ [.ref bp]))) mp (rs ++ [bp]) (ls ++ [bs]):=by
 refine ⟨by rw [upd_same,List.map_append];rfl,by rw [List.length_append,List.length_append,h.len];rfl,fun i r l hr hl=>?_⟩
 have hne:mp≠r:=fun z=>by
  have:=List.mem_of_getElem? hr
  rcases List.mem_append.mp this with g | g
  ·exact nr (z ▸ g)
  ·rw [List.mem_singleton] at g;exact nb (z.trans g)
 rw [upd_ne hne.symm]
 rcases Nat.lt_trichotomy i ls.length with z | z | z
 ·rw [List.getElem?_append_left (by rw [h.len];exact z)] at hr
  rw [List.getElem?_append_left z] at hl
  exact h.at_ i r l hr hl
 ·subst z
  rw [List.getElem?_append_right (by rw [h.len];exact Nat.le_refl _),h.len,Nat.sub_self] at hr
  rw [List.getElem?_append_right (Nat.le_refl _),Nat.sub_self] at hl
  cases hr;cases hl
  exact hb
 ·rw [List.getElem?_eq_none (by rw [List.length_append,List.length_singleton];omega)] at hl
  cases hl
def sp_maze_of (a:Adr) (_:PySem.W.Frag):Sp:=fun vs H Q _=>∃ (f dx pl kl:Addr) (m:Nat) (es:List En),vs=[.ref f]∧FoldAt a.c_Fold H f m es dx pl kl∧MF.Ok m (psOf es)∧m≤10∧es.length≤4000 ∧
 ∀ mp rs H',Same H H'→H mp=none→(∀ r∈rs,H r=none∧mp≠r)→MazeAt H' mp rs (mazeL m (psOf es))→Q (.ref mp) H'
def rd_maze_of (a:Adr) (K:PySem.W.Frag):TS:=(tSeq (tAsg (tLst tNil) (gName 1))
  (tSeq (tFor (iRng1 (tCons (tMeth a.c_Fold "total" (sp_Fold_total a K) [] E0 (cVar 0) tNil) tNil)) (gName 2) (tSeq (tAsg (tMeth a.c_Fold "pair" (sp_Fold_pair a K) [] E0 (cVar 0) (tCons (cVar 2) tNil)) (gName 3))
  (tDrop (tBM K "list" rAppend (cVar 1) (tCons (tIf (cTst (tOp cIs (cVar 3) (tC .non))) (tLst tNil) (tLst (tCons (tOp (cI2c CDiv fun i j=>.int (i / j)) (tOp (cIx K) (cVar 3) (tC (.int 0))) (tC (.int 2))) (tCons (tOp (cI2c CDiv fun i j=>.int (i / j)) (tOp (cIx K) (cVar 3) (tC (.int 1))) (tC (.int 2))) tNil)))) tNil)))))
  (tRet (cVar 1))))
theorem tm_maze_of (T:Txt K mg a) {cdv:Value}{A:Around}{outer:List Env}{s:Shared}{H:Hp}{E:XK} (hr:Room 2 (A.deeper (envOfC "maze_of" (defScope s_maze_of) s.heap.objs.size a.f_maze_of cdv))) :
  PSs (cxOf CX0 P w K mg base N_maze_of "maze_of" (defScope s_maze_of) a.f_maze_of cdv A outer s H E).nox (defBody s_maze_of) (rd_maze_of a K) :=
 (pss_cons (ps_set (i:=1) sc_maze_of.nd rfl (by walk_at "o") (pe_lst pa_nil))
   (pss_cons (ps_for PassesOwn.never rfl (pi_range1 rfl T.no_range (pa_cons (pe_meth0 (cv 0) T.cl_Fold T.me_Fold_total (ok_Fold_total T) (hr.mono (by decide)) T.bi_Fold_total .nil pass0) pa_nil)) (pg_name (i:=2) sc_maze_of.nd rfl (by walk_at "o")) (pss_cons (ps_set (i:=3) sc_maze_of.nd rfl (by walk_at "o") (pe_meth (cv 0) T.cl_Fold T.me_Fold_pair (ok_Fold_pair T) (hr.mono (by decide)) T.bi_Fold_pair .nil passN (pa_cons (cv 2) pa_nil)))
   (pss_one (ps_expr (pe_bm PySem.F.plainAttrs_list PySem.F.slot_list_append PySem.F.type_list_append (mtr mt_append) (cv 1) (pa_cons (pe_ifExp (t_cmp o_is (cv 3) pe_non (nomark _)) (pe_lst pa_nil) (pe_lst (pa_cons (pe_op o_fdiv (pe_ix i_seq (cv 3) pe_int (fun _ _=>rfl)) pe_int) (pa_cons (pe_op o_fdiv (pe_ix i_seq (cv 3) pe_int (fun _ _=>rfl)) pe_int) pa_nil)))) pa_nil))))))
   (pss_one (ps_ret (cv 1)))))
theorem ok_maze_of (T:Txt K mg a):FnOk P w K mg base CX0 3 a.f_maze_of a.d_maze_of ["fold"] (sp_maze_of a K):=by
 refine T.fn_maze_of.ok sc_maze_of (fun vs H Q E h=>?_) (fun cdv A outer s H vs Q E hr h=>⟨_,tm_maze_of T hr,?_⟩)
 ·obtain ⟨f,dx,pl,kl,m,es,rfl,_⟩:=h;rfl
 ·obtain ⟨f,dx,pl,kl,m,es,rfl,hf,ok,hm,hz,q⟩:=h
  show rd_maze_of a K _ [some (.ref f),none,none,none] H
  unfold rd_maze_of
  have big:(20000:Nat)≤sizeLine:=by decide
  have epl:(psOf es).length=es.length:=List.length_map ..
  walk_at "gs"
  intro mp H1 n1
  have f1:=hf.same n1.same
  walk_at "gs"
  refine ⟨f,dx,_,rfl,f1.ins,rfl,f,dx,pl,kl,m,es,rfl,f1,?_⟩
  walk_at "gs"
  rw [show (1+(m:Int)+(es.length:Int)).toNat=m+1+es.length by omega]
  refine for_rngG (fun i σ H2=>Same H H2∧∃ (rs:List Addr) (v2 v3:Option V),(∀ r∈rs,H r=none∧mp≠r)∧MazeAt H2 mp rs ((mazeL m (psOf es)).take i)∧σ=[some (.ref f),some (.ref mp),v2,v3]) ⟨n1.same,[],_,_,fun r hr=>by simp at hr,⟨n1.at_,rfl,fun i r l hr=>by simp at hr⟩,rfl⟩ ?_ ?_
  ·rintro i σ H2 hi ⟨s2,rs,v2,v3,hrs,hM,rfl⟩
   have f2:=hf.same s2
   have hrl:rs.length=i:=by rw [hM.len,List.length_take,mazeL_len];omega
   have nr:mp ∉ rs:=fun z=>(hrs mp z).2 rfl
   walk_at "gs"
   refine ⟨f,dx,_,rfl,f2.ins,rfl,f,dx,pl,kl,m,_,es,rfl,f2,fun _=>⟨fun hle=>?_,fun e hlt he=>?_⟩,fun z=>absurd ⟨by omega,by omega⟩ z⟩
   ·walk_at "gs"
    refine ⟨.inl ⟨by trivial,_,.of hM.lst⟩,by show 0≤sizeLine;omega,fun r3 H3 n3=>?_⟩
    have hM3:=hM.same n3.same
    have nm:mp≠r3:=ne_of_none hM.lst n3.was
    refine ⟨mp,_,_,rfl,rfl,hM3.lst,by rw [List.length_map];omega,(s2.trans n3.same).put n1.was,rs ++ [r3],_,_,fun r hr=>?_,?_,rfl⟩
    ·rcases List.mem_append.mp hr with z | z
     ·exact hrs r z
     ·rw [List.mem_singleton] at z;subst z;exact ⟨s2.nil n3.was,nm⟩
    ·rw [List.take_add_one,mazeL_low (by omega)]
     exact hM3.snoc (bs:=[]) n3.at_ nr nm
   ·obtain ⟨j,hj⟩:∃ j,i=m+1+j:=⟨i - m - 1,by omega⟩
    have he':es[j]? = some e:=by rw [← he];congr 1;omega
    have hp:(psOf es)[j]? = some e.2:=by rw [List.getElem?_map,he'];rfl
    obtain ⟨o1,o2,o3,o4⟩:=ok _ _ hp
    have te:=f2.prs.tup _ (List.mem_of_getElem? he')
    walk_at "gs"
    refine ⟨.inl ⟨by trivial,_,.of hM.lst⟩,?_⟩
    refine ⟨_,_,.inr (.of te),rfl,?_⟩
    walk_at "gs"
    refine ⟨_,_,.inr (.of te),rfl,?_⟩
    walk_at "gs"
    refine ⟨by show 2≤sizeLine;decide,fun r3 H3 n3=>?_⟩
    have hM3:=hM.same n3.same
    have nm:mp≠r3:=ne_of_none hM.lst n3.was
    refine ⟨mp,_,_,rfl,rfl,hM3.lst,by rw [List.length_map];omega,(s2.trans n3.same).put n1.was,rs ++ [r3],_,_,fun r hr=>?_,?_,rfl⟩
    ·rcases List.mem_append.mp hr with z | z
     ·exact hrs r z
     ·rw [List.mem_singleton] at z;subst z;exact ⟨s2.nil n3.was,nm⟩
    ·rw [List.take_add_one,hj,mazeL_high hp,← hj]
     refine hM3.snoc (bs:=[(e.2.1 / 2).toNat,(e.2.2 / 2).toNat]) ?_ nr nm
     rw [n3.at_]
     show some (HO.lst [V.int (e.2.1 / 2),V.int (e.2.2 / 2)])=some (HO.lst [nv _,nv _])
     unfold nv
     rw [show ((e.2.1 / 2).toNat:Int)=e.2.1 / 2 by omega,show ((e.2.2 / 2).toNat:Int)=e.2.2 / 2 by omega]
  ·rintro σ H2 ⟨s2,rs,v2,v3,hrs,hM,rfl⟩
   rw [List.take_of_length_le (by rw [mazeL_len];omega)] at hM
   walk_at "gs"
   exact q mp rs H2 s2 n1.was hrs hM
theorem cone_dn {m:Nat}{P:List MF.Pr} (ok:MF.Ok m P) {n:Nat} (hn:n<1+m+P.length) {k:Nat}:k∈MF.coneL m P n ↔ ML.Dn (loOf (mazeL m P)) n k:=by
 unfold MF.coneL
 rw [MF.mem_reached]
 constructor
 ·intro h
  refine MF.reach_least (S:=ML.Dn (loOf (mazeL m P)) n) (fun t ht=>?_) (fun j p hp hS _=>?_) h
  ·rw [List.mem_singleton] at ht
   subst ht
   rw [MF.tie2]
   exact .here
  ·exact ⟨hS.low (by rw [lo_high hp];simp),hS.low (by rw [lo_high hp];simp)⟩
 ·intro h
  induction h with
  | here=>exact MF.reach_self hn
  | low h hx ih =>
   obtain ⟨j,p,rfl,hp,e⟩:=lo_case hx
   have:=MF.reach_clo ok [2 * (n:Int)] hp ih rfl
   rcases e with rfl | rfl
   ·exact this.1
   ·exact this.2
theorem cone_last {m:Nat}{P:List MF.Pr} (ok:MF.Ok m P) {n:Nat} (hn:n<1+m+P.length):∃ v,MF.coneL m P n=v ++ [n]:=by
 rw [MF.cone_cut ok hn,List.range_succ,List.filter_append]
 refine ⟨(List.range n).filter (MF.reach (fun _=>false) m P [2 * (n:Int)]),?_⟩
 rw [List.filter_cons,if_pos (MF.reach_self hn)]
 rfl
theorem cone_len (m:Nat) (P:List MF.Pr) (n:Nat):(MF.coneL m P n).length≤1+m+P.length:=by
 unfold MF.coneL MF.reached
 refine Nat.le_trans (List.length_filter_le ..) ?_
 rw [List.length_range]
 exact Nat.le_refl _
def kvR:Nat→List Addr→List (Key × V)
 | _,[]=>[]
 | n,c :: r=>(.inl (n:Int),.ref c) :: kvR (n+1) r
theorem val_kvR:∀ (n:Nat) (cs:List Addr) (k:Int),valV (kvR n cs) (.inl k)=if (n:Int)≤k then (cs[(k - n).toNat]?).map V.ref else none
 | n,[],k=>by
  show none=_
  split <;> simp
 | n,c :: r,k=>by
  show valV ((.inl (n:Int),.ref c) :: kvR (n+1) r) (.inl k)=_
  by_cases e:k=n
  ·subst e
   rw [valV_pos rfl,if_pos (Int.le_refl _),show ((n:Int) - (n:Int)).toNat=0 by omega]
   rfl
  ·rw [valV_neg (fun z=>e (by have:=Sum.inl.inj z;omega)),val_kvR (n+1) r k]
   by_cases h:(n:Int)≤k
   ·rw [if_pos (by omega),if_pos h,show (k - (n:Int)).toNat=(k - ((n+1:Nat):Int)).toNat+1 by omega,List.getElem?_cons_succ]
   ·rw [if_neg (by omega),if_neg h]
theorem kvR_snoc:∀ (n:Nat) (cs:List Addr) (c:Addr),kvR n (cs ++ [c])=kvR n cs ++ [(.inl ((n+cs.length:Nat):Int),.ref c)]
 | n,[],c=>rfl
 | n,x :: r,c=>by
  show (.inl (n:Int),.ref x) :: kvR (n+1) (r ++ [c])=(.inl (n:Int),.ref x) :: (kvR (n+1) r ++ _)
  rw [kvR_snoc (n+1) r c,List.length_cons,show n+1+r.length=n+(r.length+1) by omega]
theorem any_kvR:∀ (n:Nat) (cs:List Addr) (k:Nat),n+cs.length≤k→((kvR n cs).any fun kv=>decide (kv.1=(.inl (k:Int):Key)))=false
 | n,[],k,_=>rfl
 | n,c :: r,k,h=>by
  rw [List.length_cons] at h
  show (decide ((.inl (n:Int):Key)=.inl (k:Int)) || _)=false
  rw [decide_eq_false (fun z=>by have:=Sum.inl.inj z;omega),Bool.false_or]
  exact any_kvR (n+1) r k (by omega)
theorem put_kvR (n:Nat) (cs:List Addr) (c:Addr):putK (kvR n cs) (.inl ((n+cs.length:Nat):Int)) (.ref c)=kvR n (cs ++ [c]):=by
 unfold putK
 rw [any_kvR n cs _ (Nat.le_refl _),if_neg (by simp),kvR_snoc]
theorem kvR_len:∀ (n:Nat) (cs:List Addr),(kvR n cs).length=cs.length
 | _,[]=>rfl
 | n,c :: r=>by
  show (kvR (n+1) r).length+1=r.length+1
  rw [kvR_len]
structure LabAt (C:Addr) (H:Hp) (x dx ll fc fw:Addr) (m:Nat) (lvs:List Nat) (cas was:List Addr):Prop where
 ins:H x=some (.ins C dx [("levels",.ref ll),("found_cuts",.ref fc),("found_ways",.ref fw)])
 lst:H ll=some (.lst (lvs.map nv))
 cuts:H fc=some (.dK (kvR (m+1) cas))
 ways:H fw=some (.dK (kvR (m+1) was))
def Un3 (ll fc fw:Addr) (H H':Hp):Prop:=∀ b o,b≠ll→b≠fc→b≠fw→H b=some o→H' b=some o
theorem Un3.trans {ll fc fw:Addr}{H H' H1:Hp} (u:Un3 ll fc fw H H') (v:Un3 ll fc fw H' H1):Un3 ll fc fw H H1:=fun b o n1 n2 n3 e=>v b o n1 n2 n3 (u b o n1 n2 n3 e)
theorem un3_of {ll fc fw:Addr}{H H':Hp} (s:Same H H'):Un3 ll fc fw H H':=fun b o _ _ _ e=>s b o e
theorem LabAt.same {C:Addr}{H H':Hp}{x dx ll fc fw:Addr}{m:Nat}{lvs:List Nat}{cas was:List Addr} (h:LabAt C H x dx ll fc fw m lvs cas was) (s:Same H H'):LabAt C H' x dx ll fc fw m lvs cas was:=⟨s _ _ h.ins,s _ _ h.lst,s _ _ h.cuts,s _ _ h.ways⟩
def sp_Labels_keep (a:Adr) (_:PySem.W.Frag):Sp:=fun vs H Q _=>∃ (x dx ll fc fw c w:Addr) (m k lev:Nat) (lvs:List Nat) (cas was:List Addr),vs=[.ref x,.int k,.int lev,.ref c,.ref w]∧LabAt a.c_Labels H x dx ll fc fw m lvs cas was∧k=m+1+cas.length∧cas.length=was.length∧lvs.length≤10000∧k≤10000∧fc≠fw ∧
 ∀ H',Un3 ll fc fw H H'→LabAt a.c_Labels H' x dx ll fc fw m (lvs ++ [lev]) (cas ++ [c]) (was ++ [w])→Q .non H'
def rd_Labels_keep (K:PySem.W.Frag):TS:=(tSeq (tDrop (tBM K "list" rAppend (tFld K (cVar 0) "levels") (tCons (cVar 2) tNil)))
  (tSeq (sDPut (tFld K (cVar 0) "found_cuts") (cVar 1) (cVar 3))
  (sDPut (tFld K (cVar 0) "found_ways") (cVar 1) (cVar 4))))
theorem tm_Labels_keep (T:Txt K mg a) {cdv:Value}{A:Around}{outer:List Env}{s:Shared}{H:Hp}{E:XK} (hr:Room 0 (A.deeper (envOfC "Labels.keep" (defScope s_Labels_keep) s.heap.objs.size a.f_Labels_keep cdv))) :
  PSs (cxOf CX0 P w K mg base N_Labels_keep "Labels.keep" (defScope s_Labels_keep) a.f_Labels_keep cdv A outer s H E).nox (defBody s_Labels_keep) (rd_Labels_keep K) :=
 (pss_cons (ps_expr (pe_bm PySem.F.plainAttrs_list PySem.F.slot_list_append PySem.F.type_list_append (mtr mt_append) (pe_fld (cv 0) rfl) (pa_cons (cv 2) pa_nil)))
   (pss_cons (ps_dput (hu_of hr) (pe_fld (cv 0) rfl) (cv 1) (cv 3) rfl)
   (pss_one (ps_dput (hu_of hr) (pe_fld (cv 0) rfl) (cv 1) (cv 4) rfl))))
theorem ok_Labels_keep (T:Txt K mg a):FnOk P w K mg base CX0 1 a.f_Labels_keep a.d_Labels_keep ["self","knot","level","cut","ways"] (sp_Labels_keep a K):=by
 refine T.fn_Labels_keep.ok sc_Labels_keep (fun vs H Q E h=>?_) (fun cdv A outer s H vs Q E hr h=>⟨_,tm_Labels_keep T hr,?_⟩)
 ·obtain ⟨x,dx,ll,fc,fw,c,w,m,k,lev,lvs,cas,was,rfl,_⟩:=h;rfl
 ·obtain ⟨x,dx,ll,fc,fw,c,w,m,k,lev,lvs,cas,was,rfl,hL,hk,hcw,hz,hkz,nf,q⟩:=h
  show rd_Labels_keep K _ [some (.ref x),some (.int k),some (.int lev),some (.ref c),some (.ref w)] H
  unfold rd_Labels_keep
  have big:(20000:Nat)≤sizeLine:=by decide
  have n1:ll≠x:=ne_of hL.lst hL.ins (fun z=>nomatch z)
  have n2:fc≠x:=ne_of hL.cuts hL.ins (fun z=>nomatch z)
  have n3:fw≠x:=ne_of hL.ways hL.ins (fun z=>nomatch z)
  have n4:ll≠fc:=ne_of hL.lst hL.cuts (fun z=>nomatch z)
  have n5:ll≠fw:=ne_of hL.lst hL.ways (fun z=>nomatch z)
  walk_at "gs"
  refine ⟨x,a.c_Labels,dx,_,_,rfl,hL.ins,T.cl_Labels,T.na_Labels_levels,rfl,?_⟩
  walk_at "gs"
  refine ⟨.inl ⟨by trivial,_,.of hL.lst⟩,ll,_,_,rfl,rfl,hL.lst,by rw [List.length_map];omega,?_⟩
  have hx1:upd H ll (.lst (lvs.map nv ++ [.int lev])) x=some (.ins a.c_Labels dx [("levels",.ref ll),("found_cuts",.ref fc),("found_ways",.ref fw)]):=by rw [upd_ne n1.symm];exact hL.ins
  have hc1:upd H ll (.lst (lvs.map nv ++ [.int lev])) fc=some (.dK (kvR (m+1) cas)):=by rw [upd_ne n4.symm];exact hL.cuts
  have hw1:upd H ll (.lst (lvs.map nv ++ [.int lev])) fw=some (.dK (kvR (m+1) was)):=by rw [upd_ne n5.symm];exact hL.ways
  have hl1:upd H ll (.lst (lvs.map nv ++ [.int lev])) ll=some (.lst ((lvs ++ [lev]).map nv)):=by rw [upd_same,List.map_append];rfl
  have u1:Un3 ll fc fw H (upd H ll (.lst (lvs.map nv ++ [.int lev]))):=fun b o g1 _ _ e=>by rw [upd_ne g1];exact e
  generalize upd H ll (.lst (lvs.map nv ++ [.int lev]))=H1 at *
  walk_at "gs"
  refine ⟨x,a.c_Labels,dx,_,_,rfl,hx1,T.cl_Labels,T.na_Labels_found_cuts,rfl,fc,_,rfl,DPut.k (k:=.inl (k:Int)) hc1 (by rw [kvR_len];omega),?_⟩
  have e2:putK (kvR (m+1) cas) (.inl (k:Int)) (.ref c)=kvR (m+1) (cas ++ [c]):=by rw [hk];exact put_kvR _ _ _
  rw [e2]
  walk_at "gs"
  have hx2:upd H1 fc (.dK (kvR (m+1) (cas ++ [c]))) x=some (.ins a.c_Labels dx [("levels",.ref ll),("found_cuts",.ref fc),("found_ways",.ref fw)]):=by rw [upd_ne n2.symm];exact hx1
  have hw2:upd H1 fc (.dK (kvR (m+1) (cas ++ [c]))) fw=some (.dK (kvR (m+1) was)):=by rw [upd_ne nf.symm];exact hw1
  refine ⟨x,a.c_Labels,dx,_,_,rfl,hx2,T.cl_Labels,T.na_Labels_found_ways,rfl,fw,_,rfl,DPut.k (k:=.inl (k:Int)) hw2 (by rw [kvR_len];omega),?_⟩
  have e3:putK (kvR (m+1) was) (.inl (k:Int)) (.ref w)=kvR (m+1) (was ++ [w]):=by rw [hk,hcw];exact put_kvR _ _ _
  rw [e3]
  refine q _ (fun b o g1 g2 g3 e=>?_) ⟨?_,?_,?_,upd_same⟩
  ·rw [upd_ne g3,upd_ne g2];exact u1 b o g1 g2 g3 e
  ·rw [upd_ne n3.symm];exact hx2
  ·rw [upd_ne n5,upd_ne n4];exact hl1
  ·rw [upd_ne nf,upd_same]
def sp_Labels_label (a:Adr) (_:PySem.W.Frag):Sp:=fun vs H Q E=>∃ (x dx ll fc fw:Addr) (m:Nat) (k:Int) (lvs:List Nat) (cas was:List Addr),vs=[.ref x,.int k]∧LabAt a.c_Labels H x dx ll fc fw m lvs cas was∧(∀ n:Nat,k=n→n<lvs.length→Q (nv (lvs.getD n 0)) H)∧(¬ (0≤k∧k<lvs.length)→∀ e,H e=none→E (.ref e) (some a.c_NoKnot) H)
theorem at_nvD {xs:List Nat}{n:Nat} (h:n<xs.length):atI (xs.map nv) (n:Int)=some (nv (xs.getD n 0)):=by
 rw [atI_ok .non (by omega) (by rw [List.length_map];omega),Int.toNat_natCast,List.getD_eq_getElem?_getD,List.getD_eq_getElem?_getD,List.getElem?_map,List.getElem?_eq_getElem h]
 rfl
def rd_Labels_label (a:Adr) (K:PySem.W.Frag) (E:XK):TS:=(tSeq (tIfS (tOr (cTst (tOp (cI2 fun i j=>.bl (decide (i<j))) (cVar 1) (tC (.int 0)))) (cTst (tOp (cI2 fun i j=>.bl (decide (j≤i))) (cVar 1) (tCB (cLen K) (tCons (tFld K (cVar 0) "levels") tNil))))) (tRaise a.c_NoKnot (tCons (tC (.str "no knot of these labels")) tNil) E) tNext)
  (tRet (tOp (cIx K) (tFld K (cVar 0) "levels") (cVar 1))))
theorem tm_Labels_label (T:Txt K mg a) {cdv:Value}{A:Around}{outer:List Env}{s:Shared}{H:Hp}{E:XK} (hr:Room 0 (A.deeper (envOfC "Labels.label" (defScope s_Labels_label) s.heap.objs.size a.f_Labels_label cdv))) :
  PSs (cxOf (CX1 P w) P w K mg base N_Labels_label "Labels.label" (defScope s_Labels_label) a.f_Labels_label cdv A outer s H E) (defBody s_Labels_label) (rd_Labels_label a K E) :=
 (pss_cons (ps_if (PW.pt (pw_or (t_cmp o_lt (cv 1) pe_int (nomark _)) (pw_or1 (t_cmp o_ge (cv 1) (pe_callB c_len (by rfl) T.no_len PySem.boot_len (pa_cons (pe_fld (cv 0) rfl) pa_nil)) (nomark _))))) (pss_one (ps_raise PySem.F.excBase_ValueError T.xi_NoKnot (by decide) rfl T.mg_NoKnot rfl xok_fn (pa_cons pe_str pa_nil))) pss_nil)
   (pss_one (ps_ret (pe_ix i_seq (pe_fld (cv 0) rfl) (cv 1) (fun _ _=>rfl)))))
theorem ok_Labels_label (T:Txt K mg a):FnOk P w K mg base (CX1 P w) 1 a.f_Labels_label a.d_Labels_label ["self","knot"] (sp_Labels_label a K):=by
 refine T.fn_Labels_label.okX sc_Labels_label (fun vs H Q E h=>?_) (fun cdv A outer s H vs Q E hr h=>⟨_,tm_Labels_label T hr,?_⟩)
 ·obtain ⟨x,dx,ll,fc,fw,m,k,lvs,cas,was,rfl,_⟩:=h;rfl
 ·obtain ⟨x,dx,ll,fc,fw,m,k,lvs,cas,was,rfl,hL,q1,q0⟩:=h
  show rd_Labels_label a K E _ [some (.ref x),some (.int k)] H
  unfold rd_Labels_label
  walk_at "gs"
  by_cases h0:k<0
  ·rw [if_pos h0]
   exact ⟨by show 1≤sizeLine;decide,q0 (by omega)⟩
  rw [if_neg h0]
  refine ⟨x,a.c_Labels,dx,_,_,rfl,hL.ins,T.cl_Labels,T.na_Labels_levels,rfl,.inl ⟨_,.inl (.of hL.lst),?_⟩⟩
  rw [List.length_map]
  by_cases h1:(lvs.length:Int)≤k
  ·rw [if_pos h1]
   exact ⟨by show 1≤sizeLine;decide,q0 (by omega)⟩
  rw [if_neg h1]
  obtain ⟨n,rfl⟩:=Int.eq_ofNat_of_zero_le (by omega:0≤k)
  refine ⟨x,a.c_Labels,dx,_,_,rfl,hL.ins,T.cl_Labels,T.na_Labels_levels,rfl,_,_,.inl (.of hL.lst),at_nvD (by omega),q1 n rfl (by omega)⟩
def Shw (lo:Nat→List Nat) (lv:Nat→Nat) (s k:Nat) (ws:List (List Nat)):Prop :=
 (lv k=1∧ws=[])∨(2≤lv k∧ws.length=s+1∧∃ (goal:Nat→Prop) (ab:MZ.Ab) (ss:List Nat),MZ.Flow lo goal ab∧(∀ z,goal z→ML.Dn lo k z∧lv k≤lv z+1)∧(∀ p,ab p≠none→ML.Dn lo k p∧lv p+2≤lv k)∧ss.Pairwise (· < ·)∧(∀ t,t∈ss ↔ lo t=[]∧ab t≠none)∧ws.length=ss.length∧∀ (i:Nat) t w,ss[i]? = some t→ws[i]? = some w→WayOf ab t w)
theorem Shw.pos {lo:Nat→List Nat}{lv:Nat→Nat}{s k:Nat}{ws:List (List Nat)} (h:Shw lo lv s k ws):0<ws.length ↔ 1<lv k:=by
 rcases h with ⟨h1,h2⟩ | ⟨h1,h2,_⟩
 ·rw [h2,h1];simp
 ·omega
theorem Shw.ext {lo:Nat→List Nat}{lv lv':Nat→Nat}{s k:Nat}{ws:List (List Nat)} (hlt:∀ p l,l∈lo p→l<p) (h:Shw lo lv s k ws) (he:∀ x,x≤k→lv' x=lv x):Shw lo lv' s k ws:=by
 have ek:=he k (Nat.le_refl _)
 rcases h with ⟨h1,h2⟩ | ⟨h1,h2,goal,ab,ss,F,hg,hp,rest⟩
 ·exact .inl ⟨by rw [ek];exact h1,h2⟩
 ·exact .inr ⟨by rw [ek];exact h1,h2,goal,ab,ss,F,fun z hz=>⟨(hg z hz).1,by rw [ek,he z ((hg z hz).1.le hlt)];exact (hg z hz).2⟩,fun p hd=>⟨(hp p hd).1,by rw [ek,he p ((hp p hd).1.le hlt)];exact (hp p hd).2⟩,rest⟩
theorem Shw.up {lo:Nat→List Nat}{lv:Nat→Nat}{s k l:Nat}{ws:List (List Nat)} (h:Shw lo lv s l ws) (hl:l∈lo k) (e:lv k=lv l):Shw lo lv s k ws:=by
 have d:ML.Dn lo k l:=.low .here hl
 rcases h with ⟨h1,h2⟩ | ⟨h1,h2,goal,ab,ss,F,hg,hp,rest⟩
 ·exact .inl ⟨by rw [e];exact h1,h2⟩
 ·exact .inr ⟨by rw [e];exact h1,h2,goal,ab,ss,F,fun z hz=>⟨d.trans (hg z hz).1,by rw [e];exact (hg z hz).2⟩,fun p hd=>⟨d.trans (hp p hd).1,by rw [e];exact (hp p hd).2⟩,rest⟩
structure LInv (C:Addr) (S:Addr→Prop) (H:Hp) (x dx ll fc fw:Addr) (m:Nat) (P:List MF.Pr) (s:Nat) (lvs:List Nat) (cas was:List Addr) (css:List (List Nat)) (wss:List (List (List Nat))):Prop where
 at_:LabAt C H x dx ll fc fw m lvs cas was
 nf:fc≠fw
 sll:S ll
 dom:∀ b,S b→∃ o,H b=some o
 len:lvs.length=m+1+cas.length
 wl:cas.length=was.length
 cl:cas.length=css.length
 sl:was.length=wss.length
 low:∀ k,k≤m→lvs.getD k 0=0
 cut:∀ (i:Nat) c C,cas[i]? = some c→css[i]? = some C→H c=some (.lst (C.map nv))∧¬ S c
 way:∀ (i:Nat) w ws,was[i]? = some w→wss[i]? = some ws→∃ us,WaysAt H w us ws∧¬ S w∧∀ u∈us,¬ S u
 lab:∀ (i:Nat) C,css[i]? = some C→ML.Lab (loOf (mazeL m P)) (fun k=>lvs.getD k 0) s (m+1+i) C
 shw:∀ (i:Nat) ws,wss[i]? = some ws→Shw (loOf (mazeL m P)) (fun k=>lvs.getD k 0) s (m+1+i) ws
theorem Un3.lst {ll fc fw b:Addr}{H H':Hp}{xs:List V}{ks ks':List (Key × V)} (u:Un3 ll fc fw H H') (hc:H fc=some (.dK ks)) (hw:H fw=some (.dK ks')) (e:H b=some (.lst xs)) (n:b≠ll):H' b=some (.lst xs) :=
 u b _ n (ne_of e hc (fun z=>nomatch z)) (ne_of e hw (fun z=>nomatch z)) e
theorem WaysAt.un3 {ll fc fw w:Addr}{H H':Hp}{us:List Addr}{ws:List (List Nat)}{ks ks':List (Key × V)} (h:WaysAt H w us ws) (u:Un3 ll fc fw H H') (hc:H fc=some (.dK ks)) (hw:H fw=some (.dK ks')) (n:w≠ll) (nu:∀ u∈us,u≠ll):WaysAt H' w us ws :=
 ⟨u.lst hc hw h.lst n,h.len,fun i r y hr hy=>u.lst hc hw (h.at_ i r y hr hy) (nu r (List.mem_of_getElem? hr))⟩
theorem MazeAt.un3 {ll fc fw w:Addr}{H H':Hp}{us:List Addr}{ws:List (List Nat)}{ks ks':List (Key × V)} (h:MazeAt H w us ws) (u:Un3 ll fc fw H H') (hc:H fc=some (.dK ks)) (hw:H fw=some (.dK ks')) (n:w≠ll) (nu:∀ u∈us,u≠ll):MazeAt H' w us ws :=
 ⟨u.lst hc hw h.lst n,h.len,fun i r y hr hy=>u.lst hc hw (h.at_ i r y hr hy) (nu r (List.mem_of_getElem? hr))⟩
theorem WaysAt.same {H H':Hp}{w:Addr}{us:List Addr}{ws:List (List Nat)} (h:WaysAt H w us ws) (s:Same H H'):WaysAt H' w us ws :=
 ⟨s _ _ h.lst,h.len,fun i r y hr hy=>s _ _ (h.at_ i r y hr hy)⟩
theorem getD_snoc_lt {xs:List Nat}{y k:Nat} (h:k<xs.length):(xs ++ [y]).getD k 0=xs.getD k 0:=by
 rw [List.getD_eq_getElem?_getD,List.getD_eq_getElem?_getD,List.getElem?_append_left h]
theorem getD_snoc_eq {xs:List Nat}{y k:Nat} (h:k=xs.length):(xs ++ [y]).getD k 0=y:=by
 subst h
 rw [List.getD_eq_getElem?_getD,List.getElem?_append_right (Nat.le_refl _),Nat.sub_self]
 rfl
theorem getD_snoc_le {xs:List Nat}{y k:Nat}:xs.getD k 0≤(xs ++ [y]).getD k 0:=by
 rcases Nat.lt_or_ge k xs.length with z | z
 ·rw [getD_snoc_lt z];exact Nat.le_refl _
 ·rw [List.getD_eq_getElem?_getD,List.getElem?_eq_none z];exact Nat.zero_le _
theorem get_snoc {α:Type}{xs:List α}{y z:α}{i:Nat} (h:(xs ++ [y])[i]? = some z):xs[i]? = some z∨(i=xs.length∧z=y):=by
 rcases Nat.lt_trichotomy i xs.length with w | w | w
 ·rw [List.getElem?_append_left w] at h;exact .inl h
 ·subst w
  rw [List.getElem?_append_right (Nat.le_refl _),Nat.sub_self] at h
  cases h
  exact .inr ⟨rfl,rfl⟩
 ·rw [List.getElem?_eq_none (by rw [List.length_append,List.length_singleton];omega)] at h
  cases h
theorem LInv.same {C:Addr}{S:Addr→Prop}{H H':Hp}{x dx ll fc fw:Addr}{m:Nat}{P:List MF.Pr}{s:Nat}{lvs:List Nat}{cas was:List Addr}{css:List (List Nat)}{wss:List (List (List Nat))} (h:LInv C S H x dx ll fc fw m P s lvs cas was css wss) (st:Same H H'):LInv C S H' x dx ll fc fw m P s lvs cas was css wss :=
 ⟨h.at_.same st,h.nf,h.sll,fun b hb=>by obtain ⟨o,ho⟩:=h.dom b hb;exact ⟨o,st _ _ ho⟩,h.len,h.wl,h.cl,h.sl,h.low,fun i c C hc hC=>⟨st _ _ (h.cut i c C hc hC).1,(h.cut i c C hc hC).2⟩,fun i w ws hw hs=>by
  obtain ⟨us,h1,h2,h3⟩:=h.way i w ws hw hs
  exact ⟨us,h1.same st,h2,h3⟩,h.lab,h.shw⟩
theorem LInv.more {C:Addr}{S:Addr→Prop}{H H':Hp}{x dx ll fc fw c w:Addr}{m:Nat}{P:List MF.Pr}{s lev:Nat}{lvs:List Nat}{cas was:List Addr}{css:List (List Nat)}{wss:List (List (List Nat))}{Cn:List Nat}{ws:List (List Nat)} (h:LInv C S H x dx ll fc fw m P s lvs cas was css wss) (ok:MF.Ok m P)
  (u:Un3 ll fc fw H H') (h':LabAt C H' x dx ll fc fw m (lvs ++ [lev]) (cas ++ [c]) (was ++ [w])) (hc:H' c=some (.lst (Cn.map nv))) (nc:¬ S c) (hw:∃ us,WaysAt H' w us ws∧¬ S w∧∀ u∈us,¬ S u)
  (hlab:ML.Lab (loOf (mazeL m P)) (fun k=>(lvs ++ [lev]).getD k 0) s (m+1+cas.length) Cn) (hshw:Shw (loOf (mazeL m P)) (fun k=>(lvs ++ [lev]).getD k 0) s (m+1+cas.length) ws) :
  LInv C S H' x dx ll fc fw m P s (lvs ++ [lev]) (cas ++ [c]) (was ++ [w]) (css ++ [Cn]) (wss ++ [ws]):=by
 have mz:=maze_mz ok
 have hl:=h.len
 have hcl:=h.cl
 have hwl:=h.wl
 have hsl:=h.sl
 have nl:∀ {b:Addr},¬ S b→b≠ll:=fun nb e=>nb (e ▸ h.sll)
 refine ⟨h',h.nf,h.sll,fun b hb=>?_,?_,?_,?_,?_,fun k hk=>?_,fun i c' C' hc' hC'=>?_,fun i w' ws' hw' hs'=>?_,fun i C' hC'=>?_,fun i ws' hs'=>?_⟩
 ·by_cases e1:b=ll
  ·exact ⟨_,e1 ▸ h'.lst⟩
  by_cases e2:b=fc
  ·exact ⟨_,e2 ▸ h'.cuts⟩
  by_cases e3:b=fw
  ·exact ⟨_,e3 ▸ h'.ways⟩
  obtain ⟨o,ho⟩:=h.dom b hb
  exact ⟨o,u b o e1 e2 e3 ho⟩
 ·simp only [List.length_append,List.length_singleton];omega
 ·simp only [List.length_append,List.length_singleton];omega
 ·simp only [List.length_append,List.length_singleton];omega
 ·simp only [List.length_append,List.length_singleton];omega
 ·rw [getD_snoc_lt (by omega)];exact h.low k hk
 ·rcases get_snoc hc' with z | ⟨z,rfl⟩
  ·have:=(List.getElem?_eq_some_iff.mp z).1
   rcases get_snoc hC' with y | ⟨y,_⟩
   ·have:=h.cut i c' C' z y
    exact ⟨u.lst h.at_.cuts h.at_.ways this.1 (nl this.2),this.2⟩
   ·omega
  ·rcases get_snoc hC' with y | ⟨_,rfl⟩
   ·have:=(List.getElem?_eq_some_iff.mp y).1;omega
   ·exact ⟨hc,nc⟩
 ·rcases get_snoc hw' with z | ⟨z,rfl⟩
  ·have:=(List.getElem?_eq_some_iff.mp z).1
   rcases get_snoc hs' with y | ⟨y,_⟩
   ·obtain ⟨us,h1,h2,h3⟩:=h.way i w' ws' z y
    exact ⟨us,h1.un3 u h.at_.cuts h.at_.ways (nl h2) (fun u hu=>nl (h3 u hu)),h2,h3⟩
   ·omega
  ·rcases get_snoc hs' with y | ⟨_,rfl⟩
   ·have:=(List.getElem?_eq_some_iff.mp y).1;omega
   ·exact hw
 ·rcases get_snoc hC' with y | ⟨rfl,rfl⟩
  ·have:=(List.getElem?_eq_some_iff.mp y).1
   exact (h.lab i C' y).ext mz.lt (fun k hk=>getD_snoc_lt (by omega)) (fun k=>getD_snoc_le)
  ·rw [← hcl];exact hlab
 ·rcases get_snoc hs' with y | ⟨rfl,rfl⟩
  ·have:=(List.getElem?_eq_some_iff.mp y).1
   exact (h.shw i ws' y).ext mz.lt (fun k hk=>getD_snoc_lt (by omega))
  ·rw [← hsl,← hwl];exact hshw
theorem LInv.less {C:Addr}{S S':Addr→Prop}{H:Hp}{x dx ll fc fw:Addr}{m:Nat}{P:List MF.Pr}{s:Nat}{lvs:List Nat}{cas was:List Addr}{css:List (List Nat)}{wss:List (List (List Nat))} (h:LInv C S H x dx ll fc fw m P s lvs cas was css wss) (hl:S' ll) (hs:∀ b,S' b→S b):LInv C S' H x dx ll fc fw m P s lvs cas was css wss :=
 ⟨h.at_,h.nf,hl,fun b hb=>h.dom b (hs b hb),h.len,h.wl,h.cl,h.sl,h.low,fun i c C hc hC=>⟨(h.cut i c C hc hC).1,fun z=>(h.cut i c C hc hC).2 (hs _ z)⟩,fun i w ws hw hs'=>by
  obtain ⟨us,h1,h2,h3⟩:=h.way i w ws hw hs'
  exact ⟨us,h1,fun z=>h2 (hs _ z),fun u hu z=>h3 u hu (hs _ z)⟩,h.lab,h.shw⟩
theorem atI_zero {v:Nat}{r:List Nat}:atI ((v :: r).map nv) 0=some (nv v):=by
 rw [atI_ok .non (by omega) (by rw [List.length_map,List.length_cons];omega)]
 rfl
theorem natI_back:∀ l:List Nat,(natI l).map Int.toNat=l
 | []=>rfl
 | x :: r=>by
  show (Int.toNat (x:Int)) :: (natI r).map Int.toNat=x :: r
  rw [natI_back r,Int.toNat_natCast]
theorem natI_inj {xs ys:List Nat} (h:natI xs=natI ys):xs=ys:=by rw [← natI_back xs,h,natI_back]
theorem LInv.mono {C:Addr}{S:Addr→Prop}{H:Hp}{x dx ll fc fw:Addr}{m:Nat}{P:List MF.Pr}{s:Nat}{lvs:List Nat}{cas was:List Addr}{css:List (List Nat)}{wss:List (List (List Nat))} (h:LInv C S H x dx ll fc fw m P s lvs cas was css wss):∀ y,y<m+1+cas.length→∀ l∈loOf (mazeL m P) y,lvs.getD l 0≤lvs.getD y 0:=by
 intro y hy l hl
 obtain ⟨j,p,rfl,hp,_⟩:=lo_case hl
 have hj:j<css.length:=by have:=h.cl;omega
 exact (h.lab j _ (List.getElem?_eq_getElem hj)).mono l hl
def sp_Labels_settle (a:Adr) (_:PySem.W.Frag):Sp:=fun vs H Q _=>∃ (S:Addr→Prop) (x dx ll fc fw mp ip:Addr) (rs:List Addr) (m s:Nat) (P:List MF.Pr) (lvs:List Nat) (cas was:List Addr) (css:List (List Nat)) (wss:List (List (List Nat))),vs=[.ref x,.ref mp,.ref ip,.int s]∧LInv a.c_Labels S H x dx ll fc fw m P s lvs cas was css wss∧cas.length<P.length∧MF.Ok m P∧m+1+P.length≤32∧2≤s∧s≤6∧MazeAt H mp rs (mazeL m P)∧mp≠ll∧(∀ r∈rs,¬ S r)∧H ip=some (.lst ((MF.coneL m P (m+1+cas.length)).map nv)) ∧
 ∀ H' lvs' cas' was' css' wss',Un3 ll fc fw H H'→LInv a.c_Labels S H' x dx ll fc fw m P s lvs' cas' was' css' wss'→cas'.length=cas.length+1→Q .non H'
def rd_Labels_settle (a:Adr) (K:PySem.W.Frag):TS:=(tSeq (tAsg (tOp (cIx K) (cVar 2) (tUn cNeg (tC (.int 1)))) (gName 4))
  (tSeq (tAsg (tOp (cIx K) (cVar 1) (cVar 4)) (gName 5))
  (tSeq (tAsg (tCB (cMaxL K) (tCons (tComp (iList K (cVar 5)) 1 [0] (gName 0) tTrue (tOp (cIx K) (tFld K (cVar 1) "levels") (cVar 0))) tNil)) (gName 6))
  (tSeq (tIfS (cTst (tOp (cEq K) (cVar 6) (tC (.int 0)))) (tSeq (tDrop (tMeth a.c_Labels "keep" (sp_Labels_keep a K) [] E0 (cVar 0) (tCons (cVar 4) (tCons (tC (.int 1)) (tCons (cVar 5) (tCons (tLst tNil) tNil))))))
  tRetN) tNext)
  (tSeq (tAsg (tComp (iList K (cVar 2)) 1 [4,0,6] (gName 0) (tOr (cTst (tOp (cEq K) (cVar 0) (cVar 1))) (cTst (tOp (cEq K) (tOp (cIx K) (tFld K (cVar 2) "levels") (cVar 0)) (cVar 3)))) (cVar 0)) (gName 7))
  (tSeq (tAsg (tCall (sp_apart a K) [] E0 (tCons (cVar 1) (tCons (cVar 7) (tCons (cVar 3) tNil)))) (gName 8))
  (tIfS (cTst (tOp cIs (tOp (cIx K) (cVar 8) (tC (.int 1))) (tC .non))) (tDrop (tMeth a.c_Labels "keep" (sp_Labels_keep a K) [] E0 (cVar 0) (tCons (cVar 4) (tCons (tOp cAdd (cVar 6) (tC (.int 1))) (tCons (cVar 5) (tCons (tOp (cIx K) (cVar 8) (tC (.int 0))) tNil)))))) (tSeq (tAsg (tComp (iList K (cVar 5)) 1 [0,6] (gName 0) (cTst (tOp (cEq K) (tOp (cIx K) (tFld K (cVar 1) "levels") (cVar 0)) (cVar 2))) (cVar 0)) (gName 9))
  (tDrop (tMeth a.c_Labels "keep" (sp_Labels_keep a K) [] E0 (cVar 0) (tCons (cVar 4) (tCons (cVar 6) (tCons (tOp (cIx K) (cVar 8) (tC (.int 1))) (tCons (tDGet (tFld K (cVar 0) "found_ways") (tOp (cIx K) (cVar 9) (tC (.int 0)))) tNil))))))))))))))
theorem tm_Labels_settle (T:Txt K mg a) {cdv:Value}{A:Around}{outer:List Env}{s:Shared}{H:Hp}{E:XK} (hr:Room 4 (A.deeper (envOfC "Labels.settle" (defScope s_Labels_settle) s.heap.objs.size a.f_Labels_settle cdv))) :
  PSs (cxOf CX0 P w K mg base N_Labels_settle "Labels.settle" (defScope s_Labels_settle) a.f_Labels_settle cdv A outer s H E).nox (defBody s_Labels_settle) (rd_Labels_settle a K) :=
 (pss_cons (ps_set (i:=4) sc_Labels_settle.nd rfl (by walk_at "o") (pe_ix i_seq (cv 2) (pe_un u_neg pe_int) (fun _ _=>rfl)))
   (pss_cons (ps_set (i:=5) sc_Labels_settle.nd rfl (by walk_at "o") (pe_ix i_seq (cv 1) (cv 4) (fun _ _=>rfl)))
   (pss_cons (ps_set (i:=6) sc_Labels_settle.nd rfl (by walk_at "o") (pe_callB (c_maxL rfl) (by rfl) T.no_max PyProof.Rows.boot_max (pa_cons (pe_comp (N:=["lower","self"]) (k:=1) (sel:=[0]) (CScope.of (defScope s_Labels_settle).names (by decide +kernel)) (CNames.of N_Labels_settle (by decide +kernel)) rfl (pi_list (cv 5)) (fun _ _ _ _=>(pg_name (i:=0) (show List.Nodup (["lower","self"]:List Str) by decide +kernel) rfl (by walk_at "o"))) (fun _ _ _ _=>pts_nil) (fun _ _ _ _=>(pe_ix i_seq (pe_fld (cv 1) rfl) (cv 0) (fun _ _=>rfl)))) pa_nil)))
   (pss_cons (ps_if (t_cmp (o_eq (hr8 hr)) (cv 6) pe_int (nomark _)) (pss_cons (ps_expr (pe_meth (cv 0) T.cl_Labels T.me_Labels_keep (ok_Labels_keep T) (hr.mono (by decide)) T.bi_Labels_keep .nil pass0 (pa_cons (cv 4) (pa_cons pe_int (pa_cons (cv 5) (pa_cons (pe_lst pa_nil) pa_nil))))))
   (pss_one ps_retN)) pss_nil)
   (pss_cons (ps_setC (i:=7) (N:=["lower","knot","self","greatest"]) (k:=1) (sel:=[4,0,6]) (CScope.of (defScope s_Labels_settle).names (by decide +kernel)) (CNames.of N_Labels_settle (by decide +kernel)) rfl (pi_list (cv 2)) (fun _ _ _ _=>(pg_name (i:=0) (show List.Nodup (["lower","knot","self","greatest"]:List Str) by decide +kernel) rfl (by walk_at "o"))) (fun _ _ _ _=>(pts_one (PW.pt (pw_or (t_cmp (o_eq (hr8 hr)) (cv 0) (cv 1) (nomark _)) (pw_or1 (t_cmp (o_eq (hr8 hr)) (pe_ix i_seq (pe_fld (cv 2) rfl) (cv 0) (fun _ _=>rfl)) (cv 3) (nomark _))))))) (fun _ _ _ _=>(cv 0)) sc_Labels_settle.nd rfl (by walk_at "o") rfl)
   (pss_cons (ps_set (i:=8) sc_Labels_settle.nd rfl (by walk_at "o") (pe_call (ok_apart T) (hr.mono (by decide)) rfl T.mg_apart T.fn_apart.kp T.bi_apart .nil passN (pa_cons (cv 1) (pa_cons (cv 7) (pa_cons (cv 3) pa_nil)))))
   (pss_one (ps_if (t_cmp o_is (pe_ix i_seq (cv 8) pe_int (fun _ _=>rfl)) pe_non (nomark _)) (pss_one (ps_expr (pe_meth (cv 0) T.cl_Labels T.me_Labels_keep (ok_Labels_keep T) (hr.mono (by decide)) T.bi_Labels_keep .nil pass0 (pa_cons (cv 4) (pa_cons (pe_op o_add (cv 6) pe_int) (pa_cons (cv 5) (pa_cons (pe_ix i_seq (cv 8) pe_int (fun _ _=>rfl)) pa_nil))))))) (pss_cons (ps_setC (i:=9) (N:=["lower","self","greatest"]) (k:=1) (sel:=[0,6]) (CScope.of (defScope s_Labels_settle).names (by decide +kernel)) (CNames.of N_Labels_settle (by decide +kernel)) rfl (pi_list (cv 5)) (fun _ _ _ _=>(pg_name (i:=0) (show List.Nodup (["lower","self","greatest"]:List Str) by decide +kernel) rfl (by walk_at "o"))) (fun _ _ _ _=>(pts_one (t_cmp (o_eq (hr8 hr)) (pe_ix i_seq (pe_fld (cv 1) rfl) (cv 0) (fun _ _=>rfl)) (cv 2) (nomark _)))) (fun _ _ _ _=>(cv 0)) sc_Labels_settle.nd rfl (by walk_at "o") rfl)
   (pss_one (ps_expr (pe_meth (cv 0) T.cl_Labels T.me_Labels_keep (ok_Labels_keep T) (hr.mono (by decide)) T.bi_Labels_keep .nil pass0 (pa_cons (cv 4) (pa_cons (cv 6) (pa_cons (pe_ix i_seq (cv 8) pe_int (fun _ _=>rfl)) (pa_cons (pe_dget (hu_of hr) (pe_fld (cv 0) rfl) (pe_ix i_seq (cv 9) pe_int (fun _ _=>rfl)) (fun _ _=>rfl)) pa_nil))))))))))))))))
theorem ok_Labels_settle (T:Txt K mg a):FnOk P w K mg base CX0 5 a.f_Labels_settle a.d_Labels_settle ["self","maze","inner","size"] (sp_Labels_settle a K):=by
 refine T.fn_Labels_settle.ok sc_Labels_settle (fun vs H Q E h=>?_) (fun cdv A outer s H vs Q E hr h=>⟨_,tm_Labels_settle T hr,?_⟩)
 ·obtain ⟨S0,x,dx,ll,fc,fw,mp,ip,rs,m,s,P,lvs,cas,was,css,wss,rfl,_⟩:=h;rfl
 ·obtain ⟨S0,x,dx,ll,fc,fw,mp,ip,rs,m,s,P',lvs,cas,was,css,wss,rfl,hL,hlt,ok,hn,s2,s6,hM,nml,nrl,hI,q⟩:=h
  show rd_Labels_settle a K _ [some (.ref x),some (.ref mp),some (.ref ip),some (.int s),none,none,none,none,none,none] H
  unfold rd_Labels_settle
  have big:(20000:Nat)≤sizeLine:=by decide
  have mz:=maze_mz ok
  have hlen:=hL.len
  have hN:m+1+cas.length<1+m+P'.length:=by omega
  obtain ⟨cv,hcv⟩:=cone_last ok hN
  have hI':=hI
  rw [hcv] at hI'
  obtain ⟨p,hp⟩:∃ p,P'[cas.length]? = some p:=⟨_,List.getElem?_eq_getElem hlt⟩
  obtain ⟨o1,o2,o3,o4⟩:=ok _ _ hp
  have hlo:=lo_high (m:=m) hp
  obtain ⟨r,hr1,hr2⟩:=hM.get (i:=m+1+cas.length) (by rw [mazeL_len];omega)
  rw [hlo] at hr2
  obtain ⟨lowa,hla⟩:∃ l:Nat,l=(p.1 / 2).toNat:=⟨_,rfl⟩
  obtain ⟨lowb,hlb⟩:∃ l:Nat,l=(p.2 / 2).toNat:=⟨_,rfl⟩
  rw [← hla,← hlb] at hr2 hlo
  have la:lowa<m+1+cas.length:=by omega
  have lb:lowb<m+1+cas.length:=by omega
  have lab:lowa<lowb:=by omega
  walk_at "gs"
  refine ⟨_,_,.inl (.of hI'),nvLast,?_⟩
  generalize hNN:m+1+cas.length=N at *
  unfold nv
  walk_at "gs"
  refine ⟨_,_,.inl (.of hM.lst),hr1,?_⟩
  walk_at "gs"
  refine ⟨⟨_,.of hr2⟩,compG_list (fun v=>match v with | .int l=>nv (lvs.getD l.toNat 0) | _=>.non) (.of hr2) rfl (by rw [List.length_map];show 2≤_;omega) ?_ ?_⟩
  ·intro v H' Q' hv s' q'
   obtain ⟨l,hl,rfl⟩:=List.mem_map.mp hv
   have hl':l<lvs.length:=by
    rcases List.mem_cons.mp hl with z | z
    ·omega
    ·rw [List.mem_singleton] at z;omega
   have q':Q' (nv (lvs.getD l 0)) H':=q'
   unfold nv
   walk_at "gs"
   exact ⟨x,a.c_Labels,dx,_,_,rfl,s' _ _ hL.at_.ins,T.cl_Labels,T.na_Labels_levels,rfl,_,_,.inl (.of (s' _ _ hL.at_.lst)),at_nvD hl',q'⟩
  intro l1 H1 n1
  have hL1:=hL.same n1.same
  have hM1:=hM.same n1.same
  have hI1:=n1.same _ _ hI
  refine ⟨[(lvs.getD lowa 0:Nat),(lvs.getD lowb 0:Nat)],.of n1.at_,by simp,fun M hMm hMx=>?_⟩
  obtain ⟨g,rfl⟩:∃ g:Nat,M=g:=by
   rcases List.mem_cons.mp hMm with z | z
   ·exact ⟨_,z⟩
   ·rw [List.mem_singleton] at z;exact ⟨_,z⟩
  have ga:lvs.getD lowa 0≤g:=by have:=hMx _ (List.mem_cons_self ..);omega
  have gb:lvs.getD lowb 0≤g:=by have:=hMx _ (List.mem_cons_of_mem _ (List.mem_singleton.mpr rfl));omega
  have gg:lvs.getD lowa 0=g∨lvs.getD lowb 0=g:=by
   rcases List.mem_cons.mp hMm with z | z
   ·exact .inl (by omega)
   ·rw [List.mem_singleton] at z;exact .inr (by omega)
  have hne:loOf (mazeL m P') N≠[]:=by rw [hlo];simp
  have hris:(loOf (mazeL m P') N).Pairwise (· < ·):=by rw [hlo];simpa using lab
  have hl2:(loOf (mazeL m P') N).length≤s:=by rw [hlo];exact s2
  have hgl:∀ lev:Nat,∀ l∈loOf (mazeL m P') N,(lvs ++ [lev]).getD l 0≤g:=fun lev l hl=>by
   rw [hlo] at hl
   rcases List.mem_cons.mp hl with z | z
   ·subst z;rw [getD_snoc_lt (by omega)];exact ga
   ·rw [List.mem_singleton] at z;subst z;rw [getD_snoc_lt (by omega)];exact gb
  have hmono:∀ lev:Nat,∀ y,y<N→∀ l∈loOf (mazeL m P') y,(lvs ++ [lev]).getD l 0≤(lvs ++ [lev]).getD y 0:=fun lev y hy l hl=>by
   have:=mz.lt y l hl
   rw [getD_snoc_lt (by omega),getD_snoc_lt (by omega)]
   exact hL.mono y (by omega) l hl
  have hNk:∀ lev:Nat,(lvs ++ [lev]).getD N 0=lev:=fun lev=>getD_snoc_eq (by omega)
  have nl:∀ {b:Addr},¬ S0 b→b≠ll:=fun nb e=>nb (e ▸ hL.sll)
  have nrl':¬ S0 r:=by
   have hi:N<rs.length:=by rw [hM.len,mazeL_len];omega
   rw [atI_ok .non (by omega) (by rw [List.length_map];omega),Int.toNat_natCast,List.getD_eq_getElem?_getD,List.getElem?_map,List.getElem?_eq_getElem hi] at hr1
   have:rs[N]=r:=by simpa using hr1
   rw [← this]
   exact nrl _ (List.getElem_mem hi)
  by_cases h0:(g:Int)=0
  ·rw [if_pos h0]
   have g0:g=0:=by omega
   subst g0
   refine ⟨x,dx,_,rfl,hL1.at_.ins,rfl,by show 0≤sizeLine;omega,fun wp H2 n2=>?_⟩
   have hL2:=hL1.same n2.same
   have s02:=n1.same.trans n2.same
   refine ⟨x,dx,ll,fc,fw,r,wp,m,N,1,lvs,cas,was,rfl,hL2.at_,hNN.symm,hL.wl,by omega,by omega,hL.nf,fun H3 u3 h3=>?_⟩
   have nwl:¬ S0 wp:=fun z=>by obtain ⟨o,ho⟩:=hL1.dom wp z;rw [n2.was] at ho;cases ho
   have hr3:=u3.lst hL2.at_.cuts hL2.at_.ways (s02 _ _ hr2) (nl nrl')
   have hw3:=u3.lst hL2.at_.cuts hL2.at_.ways n2.at_ (nl nwl)
   refine q H3 _ _ _ _ _ ((un3_of s02).trans u3) (LInv.more (Cn:=[lowa,lowb]) (ws:=[]) hL2 ok u3 h3 hr3 nrl' ⟨[],⟨hw3,rfl,fun i r y hr=>by simp at hr⟩,nwl,fun u hu=>by simp at hu⟩ ?_ ?_) (by rw [List.length_append];rfl)
   ·rw [hNN,← hlo]
    exact ML.lab_one mz.lt hne hris hl2 (fun l hl=>by have:=hgl 1 l hl;omega) (hNk 1)
   ·rw [hNN]
    exact .inl ⟨hNk 1,rfl⟩
  rw [if_neg h0]
  obtain ⟨gs,hgs⟩:∃ gs,gs=(MF.coneL m P' N).filter fun k=>decide (k=N∨lvs.getD k 0=g):=⟨_,rfl⟩
  have hgm:∀ z,z∈gs ↔ z=N∨(ML.Dn (loOf (mazeL m P')) N z∧lvs.getD z 0=g):=fun z=>by
   rw [hgs,List.mem_filter,decide_eq_true_iff,cone_dn ok hN]
   constructor
   ·rintro ⟨h1,h2 | h2⟩
    ·exact .inl h2
    ·exact .inr ⟨h1,h2⟩
   ·rintro (rfl | ⟨h1,h2⟩)
    ·exact ⟨.here,.inl rfl⟩
    ·exact ⟨h1,.inr h2⟩
  refine ⟨⟨_,.of hI1⟩,compG_filter (rest:=[some (.int (N:Nat)),some (.ref x),some (.int (g:Nat))]) (fun v=>match v with | .int e=>decide (e.toNat=N∨lvs.getD e.toNat 0=g) | _=>false) id (.of hI1) rfl (by rw [List.length_map];have:=cone_len m P' N;omega) ?_ ?_ ?_⟩
  ·intro v H' Q' hv s' q'
   obtain ⟨e,he,rfl⟩:=List.mem_map.mp hv
   have hle:=((cone_dn ok hN).mp he).le mz.lt
   have q':Q' (decide (e=N∨lvs.getD e 0=g)) H':=q'
   unfold nv
   walk_at "gs"
   by_cases hen:(e:Int)=(N:Int)
   ·rw [if_pos hen]
    rw [decide_eq_true (.inl (by omega))] at q'
    exact q'
   ·rw [if_neg hen]
    rw [show decide (e=N∨lvs.getD e 0=g)=decide ((lvs.getD e 0:Int)=(g:Int)) by rw [decide_eq_decide];omega] at q'
    exact ⟨x,a.c_Labels,dx,_,_,rfl,s' _ _ hL1.at_.ins,T.cl_Labels,T.na_Labels_levels,rfl,_,_,.inl (.of (s' _ _ hL1.at_.lst)),at_nvD (by omega),q'⟩
  ·intro v H' Q' hv _ s' q'
   walk_at "gs"
   exact q'
  intro gp H2 n2
  have e2:(((MF.coneL m P' N).map nv).filter fun v=>match v with | .int e=>decide (e.toNat=N∨lvs.getD e.toNat 0=g) | _=>false).map id=(natI gs).map V.int:=by
   rw [List.map_id,List.filter_map,natI_nv,hgs]
   rfl
  rw [e2] at n2
  have hL2:=hL1.same n2.same
  have hM2:=hM1.same n2.same
  have s02:=n1.same.trans n2.same
  have hok:GoalOk (mazeL m P') (natI gs):=fun z hz=>by
   obtain ⟨k,hk,rfl⟩:=List.mem_map.mp hz
   have hkN:m<k∧k≤N:=by
    rcases (hgm k).mp hk with rfl | ⟨h1,h2⟩
    ·omega
    ·refine ⟨Nat.lt_of_not_le fun z=>?_,h1.le mz.lt⟩
     have:=hL.low k z
     omega
   refine ⟨by omega,by rw [mazeL_len];omega,?_⟩
   rw [Int.toNat_natCast]
   obtain ⟨j,rfl⟩:∃ j,k=m+1+j:=⟨k - m - 1,by omega⟩
   rw [lo_high (List.getElem?_eq_getElem (show j<P'.length by omega))]
   simp
  refine ⟨mp,gp,rs,mazeL m P',natI gs,s,rfl,hM2,n2.at_,mz,by rw [mazeL_len];omega,by omega,fun gs' tp wl v us ss ws as H3 egs _ s3 ft fw3 fus fsl htp told=>?_,fun hno=>absurd hok hno⟩
  rw [← natI_inj egs] at told
  have hL3:=hL2.same s3
  have hM3:=hM2.same s3
  have s03:=s02.trans s3
  have nwl:¬ S0 wl:=fun z=>by obtain ⟨o,ho⟩:=hL2.dom wl z;rw [fw3] at ho;cases ho
  have nus:∀ u∈us,¬ S0 u:=fun u hu z=>by obtain ⟨o,ho⟩:=hL2.dom u z;rw [fus u hu] at ho;cases ho
  have hbd:∀ p,MZ.cmOf as p≠none→p<(mazeL m P').length:=fun p hp=>told.bd p (MZ.cm_some.mp hp)
  have hgo:∀ lev:Nat,∀ z,goalOf gs z ↔ z=N∨(ML.Dn (loOf (mazeL m P')) N z∧(lvs ++ [lev]).getD z 0=g):=fun lev z=>by
   refine (hgm z).trans ?_
   constructor
   ·rintro (h1 | ⟨h1,h2⟩)
    ·exact .inl h1
    ·by_cases e:z=N
     ·exact .inl e
     ·have:=h1.le mz.lt
      exact .inr ⟨h1,by rw [getD_snoc_lt (by omega)];exact h2⟩
   ·rintro (h1 | ⟨h1,h2⟩)
    ·exact .inl h1
    ·by_cases e:z=N
     ·exact .inl e
     ·have:=h1.le mz.lt
      rw [getD_snoc_lt (by omega)] at h2
      exact .inr ⟨h1,h2⟩
  refine ⟨_,_,.inr (.of htp),rfl,?_⟩
  rcases told.rest with ⟨rfl,hss⟩ | ⟨sl,es,cs,rfl,hsl,nsw,nsu,sk,hes,hem,hss⟩
  ·rw [if_pos rfl]
   refine ⟨x,dx,_,rfl,hL3.at_.ins,rfl,?_⟩
   refine ⟨_,_,.inr (.of htp),rfl,?_⟩
   refine ⟨x,dx,ll,fc,fw,r,wl,m,N,g+1,lvs,cas,was,rfl,hL3.at_,hNN.symm,hL.wl,by omega,by omega,hL.nf,fun H4 u4 h4=>?_⟩
   have hr4:=u4.lst hL3.at_.cuts hL3.at_.ways (s03 _ _ hr2) (nl nrl')
   refine q H4 _ _ _ _ _ ((un3_of s03).trans u4) (LInv.more (Cn:=[lowa,lowb]) (ws:=ws) hL3 ok u4 h4 hr4 nrl' ⟨us,told.ways.un3 u4 hL3.at_.cuts hL3.at_.ways (nl nwl) (fun u hu=>nl (nus u hu)),nwl,nus⟩ ?_ ?_) (by rw [List.length_append];rfl)
   ·rw [hNN,← hlo]
    exact ML.lab_more mz.lt hne hris hl2 (hmono (g+1)) (hgl (g+1)) (hNk (g+1)) told.flow (fun z hz=>(hgo (g+1) z).mp hz) hbd (lt_nodup told.ris) told.mem hss
   ·rw [hNN]
    have e1:=hNk (g+1)
    refine .inr ⟨by show 2≤(lvs ++ [g+1]).getD N 0;omega,by rw [told.len,hss],goalOf gs,MZ.cmOf as,ss,told.flow,fun z hz=>?_,fun c hc=>?_,told.ris,told.mem,told.len,told.way⟩
    ·rcases (hgo (g+1) z).mp hz with rfl | ⟨h1,h2⟩
     ·exact ⟨.here,by omega⟩
     ·exact ⟨h1,by show (lvs ++ [g+1]).getD N 0≤(lvs ++ [g+1]).getD z 0+1;omega⟩
    ·have:=ML.flow_dn mz.lt hne (hmono (g+1)) (hgl (g+1)) told.flow (hgo (g+1)) hbd hc
     exact ⟨this.1,by show (lvs ++ [g+1]).getD c 0+2≤(lvs ++ [g+1]).getD N 0;omega⟩
  ·rw [if_neg (by simp)]
   walk_at "gs"
   have hr3:=s03 _ _ hr2
   refine ⟨⟨_,.of hr3⟩,compG_filter (rest:=[some (.ref x),some (.int (g:Nat))]) (fun v=>match v with | .int e=>decide (lvs.getD e.toNat 0=g) | _=>false) id (.of hr3) rfl (by rw [List.length_map];show 2≤_;omega) ?_ ?_ ?_⟩
   ·intro v H' Q' hv s' q'
    obtain ⟨l,hl,rfl⟩:=List.mem_map.mp hv
    have hl':l<lvs.length:=by
     rcases List.mem_cons.mp hl with z | z
     ·omega
     ·rw [List.mem_singleton] at z;omega
    have q':Q' (decide (lvs.getD l 0=g)) H':=q'
    unfold nv
    walk_at "gs"
    rw [show decide (lvs.getD l 0=g)=decide ((lvs.getD l 0:Int)=(g:Int)) by rw [decide_eq_decide];omega] at q'
    exact ⟨x,a.c_Labels,dx,_,_,rfl,s' _ _ hL3.at_.ins,T.cl_Labels,T.na_Labels_levels,rfl,_,_,.inl (.of (s' _ _ hL3.at_.lst)),at_nvD hl',q'⟩
   ·intro v H' Q' hv _ s' q'
    walk_at "gs"
    exact q'
   intro sp H4 n4
   have e4:(([lowa,lowb].map nv).filter fun v=>match v with | .int e=>decide (lvs.getD e.toNat 0=g) | _=>false).map id=([lowa,lowb].filter fun e=>decide (lvs.getD e 0=g)).map nv:=by
    rw [List.map_id,List.filter_map]
    rfl
   rw [e4] at n4
   obtain ⟨l,rest,hlr⟩:∃ l rest,([lowa,lowb].filter fun e=>decide (lvs.getD e 0=g))=l :: rest:=by
    cases e:[lowa,lowb].filter fun e=>decide (lvs.getD e 0=g) with
    | cons l rest=>exact ⟨l,rest,rfl⟩
    | nil =>
     have:=List.filter_eq_nil_iff.mp e
     rcases gg with z | z
     ·exact absurd (decide_eq_true z) (this lowa (by simp))
     ·exact absurd (decide_eq_true z) (this lowb (by simp))
   rw [hlr] at n4
   obtain ⟨hlm,hlg⟩:=List.mem_filter.mp (show l∈[lowa,lowb].filter fun e=>decide (lvs.getD e 0=g) by rw [hlr];exact List.mem_cons_self ..)
   rw [decide_eq_true_iff] at hlg
   have hlN:l<N:=by
    rcases List.mem_cons.mp hlm with z | z
    ·omega
    ·rw [List.mem_singleton] at z;omega
   have hml:m<l:=Nat.lt_of_not_le fun z=>by have:=hL.low l z;omega
   obtain ⟨i,rfl⟩:∃ i,l=m+1+i:=⟨l - m - 1,by omega⟩
   have hi:i<was.length:=by have:=hL.wl;omega
   obtain ⟨wss',hws'⟩:∃ w,wss[i]? = some w:=⟨_,List.getElem?_eq_getElem (by have:=hL.sl;omega)⟩
   obtain ⟨C',hC'⟩:∃ C,css[i]? = some C:=⟨_,List.getElem?_eq_getElem (by have:=hL.cl;have:=hL.wl;omega)⟩
   have hv:valV (kvR (m+1) was) (.inl ((m+1+i:Nat):Int))=some (.ref was[i]):=by
    rw [val_kvR,if_pos (by omega),show (((m+1+i:Nat):Int) - ((m+1:Nat):Int)).toNat=i by omega,List.getElem?_eq_getElem hi]
    rfl
   have hL4:=hL3.same n4.same
   obtain ⟨us',hW4,nw4,nu4⟩:=hL4.way i _ _ (List.getElem?_eq_getElem hi) hws'
   have g4:=DGet.k (k:=.inl ((m+1+i:Nat):Int)) hL4.at_.ways
   rw [hv] at g4
   refine ⟨x,dx,_,rfl,hL4.at_.ins,rfl,_,_,.inr (.of (n4.same _ _ htp)),rfl,x,a.c_Labels,dx,_,_,rfl,hL4.at_.ins,T.cl_Labels,T.na_Labels_found_ways,rfl,_,_,.inl (.of n4.at_),atI_zero,fw,_,rfl,g4,?_⟩
   refine ⟨x,dx,ll,fc,fw,sl,was[i],m,N,g,lvs,cas,was,rfl,hL4.at_,hNN.symm,hL.wl,by omega,by omega,hL.nf,fun H5 u5 h5=>?_⟩
   have nsl:¬ S0 sl:=fun z=>by obtain ⟨o,ho⟩:=hL2.dom sl z;rw [fsl sl rfl] at ho;cases ho
   have hsl5:=u5.lst hL4.at_.cuts hL4.at_.ways (n4.same _ _ hsl) (nl nsl)
   have S:=seek_shut sk
   have ev:∀ e∈es,e=2 * (e / 2)∧MZ.Stop (fun e=>e∈MZ.keys cs) (e / 2):=fun e he=>by
    obtain ⟨a1,a2⟩:=(hem e).mp he
    have e2:e=2 * (e / 2):=by
     rcases (by omega:e=2 * (e / 2)∨e=2 * (e / 2)+1) with z | z
     ·exact z
     ·exact absurd (z ▸ a1) a2
    exact ⟨e2,by show 2 * (e / 2)∈MZ.keys cs;rw [← e2];exact a1,a2⟩
   have rB:(es.map fun e:Nat=>e / 2).Pairwise (· < ·):=by
    refine List.pairwise_map.mpr (hes.imp_of_mem fun {a b} ha hb hab=>?_)
    have:=(ev a ha).1
    have:=(ev b hb).1
    omega
   have mB:∀ p,p∈(es.map fun e:Nat=>e / 2) ↔ MZ.Stop (fun e=>e∈MZ.keys cs) p:=fun p=>by
    rw [List.mem_map]
    constructor
    ·rintro ⟨e,he,rfl⟩
     exact (ev e he).2
    ·intro st
     refine ⟨2 * p,(hem _).mpr ⟨st.1,?_⟩,by omega⟩
     rw [show 2 * p / 2=p by omega]
     exact st.2
   have hlE:∀ k,k≤m+1+i→(lvs ++ [g]).getD k 0=lvs.getD k 0:=fun k hk=>getD_snoc_lt (by omega)
   have hlo':m+1+i∈loOf (mazeL m P') N:=by rw [hlo];exact hlm
   refine q H5 _ _ _ _ _ ((un3_of (s03.trans n4.same)).trans u5) (LInv.more (Cn:=es.map fun e:Nat=>e / 2) (ws:=wss') hL4 ok u5 h5 hsl5 nsl ⟨us',hW4.un3 u5 hL4.at_.cuts hL4.at_.ways (nl nw4) (fun u hu=>nl (nu4 u hu)),nw4,nu4⟩ ?_ ?_) (by rw [List.length_append];rfl)
   ·rw [hNN]
    exact ML.lab_same mz.lt hne (hmono g) (hgl g) (hNk g) told.flow (hgo g) hbd (lt_nodup told.ris) told.mem hss S rB mB hlo' ((hlE _ (Nat.le_refl _)).trans hlg) ((hL.lab i C' hC').ext mz.lt hlE (fun k=>getD_snoc_le))
   ·rw [hNN]
    exact ((hL.shw i wss' hws').ext mz.lt hlE).up hlo' (by show (lvs ++ [g]).getD N 0=(lvs ++ [g]).getD (m+1+i) 0;rw [hNk,hlE _ (Nat.le_refl _),hlg])
def sp_Labels___init__ (a:Adr) (K:PySem.W.Frag):Sp:=fun vs H Q E=>∃ (x dx f fdx pl kl:Addr) (v:V) (m:Nat) (es:List En),vs=[.ref x,.ref f,v]∧H x=some (.ins a.c_Labels dx [])∧FoldAt a.c_Fold H f m es fdx pl kl∧MF.Ok m (psOf es)∧m≤10∧m+1+es.length≤32∧Nice H v ∧
 (∀ s:Nat,v=.int s→2≤s→s≤6→∀ H' ll fc fw lvs cas was css wss,(∀ b o,b≠x→H b=some o→H' b=some o)→H ll=none→H fc=none→H fw=none→LInv a.c_Labels (fun b=>b=ll∨∃ o,H b=some o) H' x dx ll fc fw m (psOf es) s lvs cas was css wss→cas.length=es.length→Q .non H')∧(okSize v=false→∀ e,H e=none→E (.ref e) (some a.c_NoSize) H)
def rd_Labels___init__ (a:Adr) (K:PySem.W.Frag) (E:XK):TS:=(tSeq (tDrop (tCall (sp_need_size a K) [] E (tCons (cVar 2) tNil)))
  (tSeq (sFld K (cVar 0) (tOp cMulL (tLst (tCons (tC (.int 0)) tNil)) (tOp cAdd (tFld K (cVar 1) "many") (tC (.int 1)))) "levels")
  (tSeq (sFld K (cVar 0) tDNewK "found_cuts")
  (tSeq (sFld K (cVar 0) tDNewK "found_ways")
  (tSeq (tAsg (tCall (sp_maze_of a K) [] E0 (tCons (cVar 1) tNil)) (gName 3))
  (tFor (iRng2 (tCons (tOp cAdd (tFld K (cVar 1) "many") (tC (.int 1))) (tCons (tMeth a.c_Fold "total" (sp_Fold_total a K) [] E0 (cVar 1) tNil) tNil))) (gName 4) (tDrop (tMeth a.c_Labels "settle" (sp_Labels_settle a K) [] E0 (cVar 0) (tCons (cVar 3) (tCons (tCall (sp_cone a K) [] E0 (tCons (cVar 1) (tCons (cVar 4) tNil))) (tCons (cVar 2) tNil)))))))))))
theorem tm_Labels___init__ (T:Txt K mg a) {cdv:Value}{A:Around}{outer:List Env}{s:Shared}{H:Hp}{E:XK} (hr:Room 5 (A.deeper (envOfC "Labels.__init__" (defScope s_Labels___init__) s.heap.objs.size a.f_Labels___init__ cdv))) :
  PSs (cxOf (CX1 P w) P w K mg base N_Labels___init__ "Labels.__init__" (defScope s_Labels___init__) a.f_Labels___init__ cdv A outer s H E) (defBody s_Labels___init__) (rd_Labels___init__ a K E) :=
 (pss_cons (ps_expr (pe_call (ok_need_size T) (hr.mono (by decide)) rfl T.mg_need_size T.fn_need_size.kp T.bi_need_size .nil (pass1 xok_fn) (pa_cons (cv 2) pa_nil)))
   (pss_cons (ps_fld (cv 0) (pe_op o_mulL (pe_lst (pa_cons pe_int pa_nil)) (pe_op o_add (pe_fld (cv 1) rfl) pe_int)) rfl)
   (pss_cons (ps_fld (cv 0) pe_dnewK rfl)
   (pss_cons (ps_fld (cv 0) pe_dnewK rfl)
   (pss_cons (ps_set (i:=3) sc_Labels___init__.nd rfl (by walk_at "o") (pe_call (ok_maze_of T) (hr.mono (by decide)) rfl T.mg_maze_of T.fn_maze_of.kp T.bi_maze_of .nil pass0 (pa_cons (cv 1) pa_nil)))
   (pss_one (PS.nox (ps_for PassesOwn.never rfl (pi_range2 rfl T.no_range (pa_cons (pe_op o_add (pe_fld (cv 1) rfl) pe_int) (pa_cons (pe_meth0 (cv 1) T.cl_Fold T.me_Fold_total (ok_Fold_total T) (hr.mono (by decide)) T.bi_Fold_total .nil pass0) pa_nil))) (pg_name (i:=4) sc_Labels___init__.nd rfl (by walk_at "o")) (pss_one (ps_expr (pe_meth (cv 0) T.cl_Labels T.me_Labels_settle (ok_Labels_settle T) (hr.mono (by decide)) T.bi_Labels_settle .nil pass0 (pa_cons (cv 3) (pa_cons (pe_call (ok_cone T) (hr.mono (by decide)) rfl T.mg_cone T.fn_cone.kp T.bi_cone .nil passN (pa_cons (cv 1) (pa_cons (cv 4) pa_nil))) (pa_cons (cv 2) pa_nil))))))))))))))
theorem ok_Labels___init__ (T:Txt K mg a):FnOk P w K mg base (CX1 P w) 6 a.f_Labels___init__ a.d_Labels___init__ ["self","fold","size"] (sp_Labels___init__ a K):=by
 refine T.fn_Labels___init__.okX sc_Labels___init__ (fun vs H Q E h=>?_) (fun cdv A outer s H vs Q E hr h=>⟨_,tm_Labels___init__ T hr,?_⟩)
 ·obtain ⟨x,dx,f,fdx,pl,kl,v,m,es,rfl,_⟩:=h;rfl
 ·obtain ⟨x,dx,f,fdx,pl,kl,v,m,es,rfl,hx,hf,ok,hm,hn,hv,q1,q0⟩:=h
  show rd_Labels___init__ a K E _ [some (.ref x),some (.ref f),some v,none,none] H
  unfold rd_Labels___init__
  have big:(20000:Nat)≤sizeLine:=by decide
  have epl:(psOf es).length=es.length:=List.length_map ..
  walk_at "gs"
  refine ⟨v,rfl,hv,fun hs=>?_,q0⟩
  obtain ⟨s,rfl,s2,s6⟩:∃ s:Nat,v=.int s∧2≤s∧s≤6:=by
   unfold okSize btw at hs
   split at hs
   ·rename_i i
    have:=of_decide_eq_true hs
    exact ⟨i.toNat,by congr 1;omega,by omega,by omega⟩
   ·cases hs
  have q:=q1 s rfl s2 s6
  walk_at "gs"
  intro z1 H1 n1
  have f1:=hf.same n1.same
  refine ⟨f,a.c_Fold,fdx,_,_,rfl,f1.ins,T.cl_Fold,T.na_Fold_many,rfl,?_⟩
  refine ⟨_,n1.at_,by omega,by omega,by show 1 * _≤_;omega,fun ll H2 n2=>?_⟩
  have e2:(List.replicate ((m:Int)+1).toNat [V.int 0]).flatten=(List.replicate (m+1) 0).map nv:=by
   rw [rep_one,show ((m:Int)+1).toNat=m+1 by omega,List.map_replicate]
   rfl
  rw [e2] at n2
  have s02:=n1.same.trans n2.same
  have fl:H ll=none:=n1.same.nil n2.was
  have x2:=s02 _ _ hx
  have hfx:f≠x:=fun z=>by
   have:=hf.ins
   rw [z,hx] at this
   simp at this
  refine ⟨x,a.c_Labels,dx,[],rfl,x2,T.cl_Labels,T.na_Labels_levels,by decide,fun fc H3 n3=>?_⟩
  have nlx:ll≠x:=(ne_of_none hx fl).symm
  have ncx:fc≠x:=fun e=>by have:=n3.was;rw [e,upd_same] at this;cases this
  have fcn:H fc=none:=by
   have:=n3.was
   rw [upd_ne ncx] at this
   exact s02.nil this
  have x3:H3 x=some (.ins a.c_Labels dx (putF "levels" (.ref ll) [])):=n3.same _ _ upd_same
  have u3:∀ b o,b≠x→H2 b=some o→H3 b=some o:=fun b o nb e=>n3.same _ _ (by rw [upd_ne nb];exact e)
  refine ⟨x,a.c_Labels,dx,_,rfl,x3,T.cl_Labels,T.na_Labels_found_cuts,by have:=length_putF "levels" (.ref ll) [];simp only [List.length_nil] at this;omega,?_⟩
  walk_at "gs"
  intro fw H4 n4
  have nwx:fw≠x:=fun e=>by have:=n4.was;rw [e,upd_same] at this;cases this
  have fw3:H3 fw=none:=by
   have:=n4.was
   rw [upd_ne nwx] at this
   exact this
  have fwn:H fw=none:=by
   cases e:H fw with
   | none=>rfl
   | some o=>have:=u3 _ _ nwx (s02 _ _ e);rw [fw3] at this;cases this
  have nf:fc≠fw:=ne_of_none n3.at_ fw3
  have x4:H4 x=some (.ins a.c_Labels dx (putF "found_cuts" (.ref fc) (putF "levels" (.ref ll) []))):=n4.same _ _ upd_same
  have u4:∀ b o,b≠x→H3 b=some o→H4 b=some o:=fun b o nb e=>n4.same _ _ (by rw [upd_ne nb];exact e)
  refine ⟨x,a.c_Labels,dx,_,rfl,x4,T.cl_Labels,T.na_Labels_found_ways,by have h7:=length_putF "levels" (.ref ll) [];have h8:=length_putF "found_cuts" (.ref fc) (putF "levels" (.ref ll) []);simp only [List.length_nil] at h7;omega,?_⟩
  have e5:putF "found_ways" (.ref fw) (putF "found_cuts" (.ref fc) (putF "levels" (.ref ll) []))=([("levels",V.ref ll),("found_cuts",V.ref fc),("found_ways",V.ref fw)]:List (Str × V)):=by
   have z1:¬ ("levels" : Str) = "found_cuts":=by decide +kernel
   have z2:¬ ("levels" : Str) = "found_ways":=by decide +kernel
   have z3:¬ ("found_cuts" : Str) = "found_ways":=by decide +kernel
   simp [putF,z1,z2,z3]
  rw [e5]
  have x5:upd H4 x (.ins a.c_Labels dx [("levels",V.ref ll),("found_cuts",V.ref fc),("found_ways",V.ref fw)]) x=some (.ins a.c_Labels dx [("levels",V.ref ll),("found_cuts",V.ref fc),("found_ways",V.ref fw)]):=upd_same
  have u5:∀ b o,b≠x→H4 b=some o→upd H4 x (.ins a.c_Labels dx [("levels",V.ref ll),("found_cuts",V.ref fc),("found_ways",V.ref fw)]) b=some o:=fun b o nb e=>by rw [upd_ne nb];exact e
  generalize upd H4 x (.ins a.c_Labels dx [("levels",V.ref ll),("found_cuts",V.ref fc),("found_ways",V.ref fw)])=H5 at x5 u5 ⊢
  have st:∀ b o,b≠x→H b=some o→H5 b=some o:=fun b o nb e=>u5 _ _ nb (u4 _ _ nb (u3 _ _ nb (s02 _ _ e)))
  have hnx:∀ {b:Addr}{o:HO},H b=some o→(∀ d,o≠.ins a.c_Labels d [])→b≠x:=fun {b o} e n z=>by subst z;rw [hx] at e;cases e;exact n _ rfl
  have f5:FoldAt a.c_Fold H5 f m es fdx pl kl:=⟨st _ _ hfx hf.ins,st _ _ (ne_of hf.prs.lst hx (fun z=>nomatch z)) hf.prs.lst,st _ _ (ne_of hf.prs.dct hx (fun z=>nomatch z)) hf.prs.dct,fun e he=>st _ _ (ne_of (hf.prs.tup e he) hx (fun z=>nomatch z)) (hf.prs.tup e he)⟩
  have l5:H5 ll=some (.lst ((List.replicate (m+1) 0).map nv)):=u5 _ _ nlx (u4 _ _ nlx (u3 _ _ nlx n2.at_))
  have c5:H5 fc=some (.dK (kvR (m+1) [])):=u5 _ _ ncx (u4 _ _ ncx n3.at_)
  have w5:H5 fw=some (.dK (kvR (m+1) [])):=u5 _ _ nwx n4.at_
  walk_at "gs"
  refine ⟨f,fdx,pl,kl,m,es,rfl,f5,ok,hm,by omega,fun mp rs H6 s6' fm hrs hM=>?_⟩
  have f6:=f5.same s6'
  walk_at "gs"
  refine ⟨f,a.c_Fold,fdx,_,_,rfl,f6.ins,T.cl_Fold,T.na_Fold_many,rfl,?_⟩
  walk_at "gs"
  refine ⟨f,fdx,_,rfl,f6.ins,rfl,f,fdx,pl,kl,m,es,rfl,f6,?_⟩
  walk_at "gs"
  rw [show (1+(m:Int)+(es.length:Int) - ((m:Int)+1)).toNat=es.length by omega]
  have nml:mp≠ll:=(ne_of_none l5 fm).symm
  have nrl':∀ r∈rs,¬ (r=ll∨∃ o,H r=some o):=fun r hr z=>by
   rcases z with z | ⟨o,ho⟩
   ·exact (ne_of_none l5 (hrs r hr).1).symm z
   ·by_cases e:r=x
    ·have:=(hrs r hr).1;rw [e,x5] at this;cases this
    ·have:=st r o e ho;rw [(hrs r hr).1] at this;cases this
  have nrl:∀ r∈rs,r≠ll:=fun r hr e=>nrl' r hr (.inl e)
  have hdm:∀ b,(b=ll∨∃ o,H b=some o)→∃ o,H5 b=some o:=fun b hb=>by
   rcases hb with rfl | ⟨o,ho⟩
   ·exact ⟨_,l5⟩
   ·by_cases e:b=x
    ·exact ⟨_,e ▸ x5⟩
    ·exact ⟨_,st b o e ho⟩
  have hL0:LInv a.c_Labels (fun b=>b=ll∨∃ o,H b=some o) H6 x dx ll fc fw m (psOf es) s (List.replicate (m+1) 0) [] [] [] [] :=
   ⟨⟨s6' _ _ x5,s6' _ _ l5,s6' _ _ c5,s6' _ _ w5⟩,nf,.inl rfl,fun b hb=>by obtain ⟨o,ho⟩:=hdm b hb;exact ⟨o,s6' _ _ ho⟩,by rw [List.length_replicate];rfl,rfl,rfl,rfl,fun k hk=>by rw [List.getD_eq_getElem?_getD,List.getElem?_replicate,if_pos (by omega)];rfl,fun i c C hc=>by simp at hc,fun i w ws hw=>by simp at hw,fun i C hC=>by simp at hC,fun i ws hs=>by simp at hs⟩
  refine for_rngG (fun i σ H7=>Un3 ll fc fw H6 H7∧∃ lvs cas was css wss,∃ v4:Option V,LInv a.c_Labels (fun b=>b=ll∨∃ o,H b=some o) H7 x dx ll fc fw m (psOf es) s lvs cas was css wss∧cas.length=i∧σ=[some (.ref x),some (.ref f),some (.int s),some (.ref mp),v4]) ⟨fun b o _ _ _ e=>e,_,_,_,_,_,_,hL0,rfl,rfl⟩ ?_ ?_
  ·rintro i σ H7 hi ⟨u7,lvs,cas,was,css,wss,v4,hL7,hci,rfl⟩
   have f7:FoldAt a.c_Fold H7 f m es fdx pl kl:=by
    have nn:∀ {b:Addr}{o:HO},H b=some o→(∀ d,o≠.ins a.c_Labels d [])→H7 b=some o:=fun {b o} e n=>u7 _ _ (ne_of_none e fl) (ne_of_none e fcn) (ne_of_none e fwn) (s6' _ _ (st _ _ (hnx e n) e))
    exact ⟨nn hf.ins (fun d z=>by simp at z),nn hf.prs.lst (fun d z=>nomatch z),nn hf.prs.dct (fun d z=>nomatch z),fun e he=>nn (hf.prs.tup e he) (fun d z=>nomatch z)⟩
   have hM7:=hM.un3 u7 (s6' _ _ c5) (s6' _ _ w5) nml nrl
   walk_at "gs"
   refine ⟨x,dx,_,rfl,hL7.at_.ins,rfl,f,fdx,pl,kl,m,_,es,rfl,f7,ok,hm,by omega,fun n hnn hnl ip H8 md=>?_,fun z=>absurd ⟨by omega,by omega⟩ z⟩
   obtain ⟨fi,hi8,s8⟩:=md
   have enn:n=m+1+cas.length:=by omega
   rw [enn] at hi8
   have hL8:=hL7.same s8
   refine ⟨_,x,dx,ll,fc,fw,mp,ip,rs,m,s,psOf es,lvs,cas,was,css,wss,rfl,hL8,by omega,ok,by omega,s2,s6,hM7.same s8,nml,nrl',hi8,fun H9 lvs' cas' was' css' wss' u9 hL9 hc9=>?_⟩
   exact ⟨(u7.trans (un3_of s8)).trans u9,lvs',cas',was',css',wss',_,hL9,by omega,rfl⟩
  ·rintro σ H7 ⟨u7,lvs,cas,was,css,wss,v4,hL7,hci,rfl⟩
   walk_at "gs"
   exact q H7 ll fc fw lvs cas was css wss (fun b o nb e=>u7 _ _ (ne_of_none e fl) (ne_of_none e fcn) (ne_of_none e fwn) (s6' _ _ (st _ _ nb e))) fl fcn fwn hL7 hci
theorem mk_Labels {a:Adr}{K:PySem.W.Frag}{H:Hp}{f fdx pl kl:Addr}{m s:Nat}{es:List En}{F:Addr→Hp→Prop}{E:XK} (hf:FoldAt a.c_Fold H f m es fdx pl kl) (ok:MF.Ok m (psOf es)) (hm:m≤10) (hn:m+1+es.length≤32) (s2:2≤s) (s6:s≤6)
  (q:∀ x dx ll fc fw H' lvs cas was css wss,Same H H'→H x=none→H ll=none→H fc=none→H fw=none→LInv a.c_Labels (fun b=>b=ll∨∃ o,H b=some o) H' x dx ll fc fw m (psOf es) s lvs cas was css wss→cas.length=es.length→F x H') :
  ∀ x dx,H x=none→H dx=none→dx≠x→sp_Labels___init__ a K [.ref x,.ref f,.int s] (upd (upd H dx (.own x)) x (.ins a.c_Labels dx [])) (fun v H2=>v=.non∧F x H2) E:=by
 intro x dx hx hd hne
 have st0:Same H (upd (upd H dx (.own x)) x (.ins a.c_Labels dx [])):=(same_upd hd).trans (same_upd (by rw [upd_ne hne.symm];exact hx))
 refine ⟨x,dx,f,fdx,pl,kl,.int s,m,es,rfl,upd_same,hf.same st0,ok,hm,hn,trivial,fun s' e _ _ H' ll fc fw lvs cas was css wss st hl hc hw hL hle=>?_,fun z=>?_⟩
 ·have:s'=s:=by have:=V.int.inj e;omega
  subst this
  refine ⟨rfl,q x dx ll fc fw H' lvs cas was css wss (fun b o e=>?_) hx (st0.nil hl) (st0.nil hc) (st0.nil hw) (hL.less (.inl rfl) fun b hb=>hb.imp id fun ⟨o,ho⟩=>⟨o,st0 _ _ ho⟩) hle⟩
  have n1:b≠x:=ne_of_none e hx
  exact st b o n1 (st0 _ _ e)
 ·unfold okSize btw at z
  have:=of_decide_eq_false z
  omega
def sp_law_cell_at (K:PySem.W.Frag):Sp:=fun vs H Q _=>∃ (p:Addr) (ns:List Int) (k:Nat),vs=[.ref p,.int k]∧SqL K H p (ns.map V.int)∧∀ c,Q (.int c) H
def rd_law_cell_at (K:PySem.W.Frag):TS:=(tSeq (tIfS (cTst (tOp (cI2 fun i j=>.bl (decide (i<j))) (cVar 1) (tCB (cLen K) (tCons (cVar 0) tNil)))) (tRet (tOp (cIx K) (cVar 0) (cVar 1))) tNext)
  (tRet (tC (.int 0))))
theorem tm_law_cell_at (T:Txt K mg a) {cdv:Value}{A:Around}{outer:List Env}{s:Shared}{H:Hp}{E:XK} (hr:Room 0 (A.deeper (envOfC "_law_cell_at" (defScope s_law_cell_at) s.heap.objs.size a.f_law_cell_at cdv))) :
  PSs (cxOf CX0 P w K mg base N_law_cell_at "_law_cell_at" (defScope s_law_cell_at) a.f_law_cell_at cdv A outer s H E).nox (defBody s_law_cell_at) (rd_law_cell_at K) :=
 (pss_cons (ps_if (t_cmp o_lt (cv 1) (pe_callB c_len (by rfl) T.no_len PySem.boot_len (pa_cons (cv 0) pa_nil)) (nomark _)) (pss_one (ps_ret (pe_ix i_seq (cv 0) (cv 1) (fun _ _=>rfl)))) pss_nil)
   (pss_one (ps_ret pe_int)))
theorem ok_law_cell_at (T:Txt K mg a):FnOk P w K mg base CX0 1 a.f_law_cell_at a.d_law_cell_at ["_law_script","_law_k"] (sp_law_cell_at K):=by
 refine T.fn_law_cell_at.ok sc_law_cell_at (fun vs H Q E h=>?_) (fun cdv A outer s H vs Q E hr h=>⟨_,tm_law_cell_at T hr,?_⟩)
 ·obtain ⟨p,ns,k,rfl,_⟩:=h;rfl
 ·obtain ⟨p,ns,k,rfl,hS,q⟩:=h
  show rd_law_cell_at K _ [some (.ref p),some (.int k)] H
  unfold rd_law_cell_at
  walk_at "go"
  refine .inl ⟨_,.inl hS,?_⟩
  rw [List.length_map]
  by_cases h:(k:Int)<ns.length
  ·rw [if_pos h]
   exact ixI hS (by omega) h (q _)
  ·rw [if_neg h]
   exact q 0
def TieOk (m:Nat) (ps:List MF.Pr):Prop:=∀ (i:Nat) (q:MF.Pr),ps[i]? = some q→0≤q.1∧q.1<2 * ((m:Int)+1+i)∧0≤q.2∧q.2<2 * ((m:Int)+1+i)
theorem TieOk.snoc {m:Nat}{ps:List MF.Pr} (h:TieOk m ps) {q:MF.Pr} (hq:0≤q.1∧q.1<2 * ((m:Int)+1+ps.length)∧0≤q.2∧q.2<2 * ((m:Int)+1+ps.length)):TieOk m (ps ++ [q]):=fun i p hp=>by
 rcases get_snoc hp with z | ⟨rfl,rfl⟩
 ·exact h i p z
 ·exact hq
def sp_law_pairs (_:PySem.W.Frag):Sp:=fun vs H Q _=>∃ (cp:Addr) (m:Nat) (ns:List Int),vs=[.int m,.ref cp]∧H cp=some (.lst (ns.map V.int))∧1≤m∧m≤10∧ns.length≤60 ∧
 ∀ pp es H',Same H H'→H pp=none→PL H' pp es→es.length=ns.length→TieOk m (psOf es)→Q (.ref pp) H'
def rd_law_pairs (K:PySem.W.Frag):TS:=(tSeq (tAsg (tLst tNil) (gName 2))
  (tSeq (tAsg (tC (.int 1)) (gName 3))
  (tSeq (tAsg (cVar 0) (gName 4))
  (tSeq (tFor (iRng1 (tCons (tCB (cLen K) (tCons (cVar 1) tNil)) tNil)) (gName 5) (tSeq (tAsg (tOp cAdd (cVar 0) (cVar 5)) (gName 6))
  (tSeq (tAsg (tOp (cI2c CDiv fun i j=>.int (i / j)) (tOp (cIx K) (cVar 1) (cVar 5)) (tC (.int 20))) (gName 7))
  (tMid (tIfS (cTst (tOp (cI2 fun i j=>.bl (decide (i<j))) (tOp (cI2c (fun _ j=>0<j) fun i j=>.int (i % j)) (tOp (cIx K) (cVar 1) (cVar 5)) (tC (.int 5))) (tC (.int 2)))) (tSeq (tAsg (tOp (cI2 fun i j=>.int (i - j)) (cVar 6) (tOp (cI2c (fun _ j=>0<j) fun i j=>.int (i % j)) (cVar 7) (tCB cMin (tCons (cVar 6) (tCons (tC (.int 3)) tNil))))) (gName 3))
  (tAsg (tOp cAdd (tC (.int 1)) (tOp (cI2c (fun _ j=>0<j) fun i j=>.int (i % j)) (tOp cAdd (tOp (cI2c CDiv fun i j=>.int (i / j)) (cVar 7) (tC (.int 3))) (tOp cMul (tC (.int 2)) (cVar 5))) (cVar 0))) (gName 4))) (tIfS (cTst (tOp (cEq K) (tOp (cI2c (fun _ j=>0<j) fun i j=>.int (i % j)) (tOp (cIx K) (cVar 1) (cVar 5)) (tC (.int 5))) (tC (.int 2)))) (tSeq (tAsg (tOp (cI2 fun i j=>.int (i - j)) (cVar 6) (tOp (cI2c (fun _ j=>0<j) fun i j=>.int (i % j)) (cVar 7) (tCB cMin (tCons (cVar 6) (tCons (tC (.int 8)) tNil))))) (gName 3))
  (tAsg (tOp cAdd (tC (.int 1)) (tOp (cI2c (fun _ j=>0<j) fun i j=>.int (i % j)) (tOp cAdd (tOp (cI2c CDiv fun i j=>.int (i / j)) (cVar 7) (tC (.int 8))) (tOp cMul (tC (.int 3)) (cVar 5))) (cVar 6))) (gName 4))) (tIfS (cTst (tOp (cEq K) (tOp (cI2c (fun _ j=>0<j) fun i j=>.int (i % j)) (tOp (cIx K) (cVar 1) (cVar 5)) (tC (.int 5))) (tC (.int 4)))) (tSeq (tAsg (cVar 6) (gName 3))
  (tAsg (tOp (cI2 fun i j=>.int (i - j)) (cVar 6) (tC (.int 1))) (gName 4))) tNext)))
  (tDrop (tBM K "list" rAppend (cVar 2) (tCons (tTup (tCons (tOp cAdd (tOp cMul (tC (.int 2)) (cVar 3)) (tOp (cI2c (fun _ j=>0<j) fun i j=>.int (i % j)) (tOp (cI2c CDiv fun i j=>.int (i / j)) (tOp (cIx K) (cVar 1) (cVar 5)) (tC (.int 5))) (tC (.int 2)))) (tCons (tOp cAdd (tOp cMul (tC (.int 2)) (cVar 4)) (tOp (cI2c (fun _ j=>0<j) fun i j=>.int (i % j)) (tOp (cI2c CDiv fun i j=>.int (i / j)) (tOp (cIx K) (cVar 1) (cVar 5)) (tC (.int 10))) (tC (.int 2)))) tNil))) tNil)))))))
  (tRet (cVar 2))))))
theorem tm_law_pairs (T:Txt K mg a) {cdv:Value}{A:Around}{outer:List Env}{s:Shared}{H:Hp}{E:XK} (hr:Room 0 (A.deeper (envOfC "_law_pairs" (defScope s_law_pairs) s.heap.objs.size a.f_law_pairs cdv))) :
  PSs (cxOf CX0 P w K mg base N_law_pairs "_law_pairs" (defScope s_law_pairs) a.f_law_pairs cdv A outer s H E).nox (defBody s_law_pairs) (rd_law_pairs K) :=
 (pss_cons (ps_set (i:=2) sc_law_pairs.nd rfl (by walk_at "o") (pe_lst pa_nil))
   (pss_cons (ps_set (i:=3) sc_law_pairs.nd rfl (by walk_at "o") pe_int)
   (pss_cons (ps_set (i:=4) sc_law_pairs.nd rfl (by walk_at "o") (cv 0))
   (pss_cons (ps_for PassesOwn.never rfl (pi_range1 rfl T.no_range (pa_cons (pe_callB c_len (by rfl) T.no_len PySem.boot_len (pa_cons (cv 1) pa_nil)) pa_nil)) (pg_name (i:=5) sc_law_pairs.nd rfl (by walk_at "o")) (pss_cons (ps_set (i:=6) sc_law_pairs.nd rfl (by walk_at "o") (pe_op o_add (cv 0) (cv 5)))
   (pss_cons (ps_set (i:=7) sc_law_pairs.nd rfl (by walk_at "o") (pe_op o_fdiv (pe_ix i_seq (cv 1) (cv 5) (fun _ _=>rfl)) pe_int))
   (pss_mid (ps_if (t_cmp o_lt (pe_op o_mod (pe_ix i_seq (cv 1) (cv 5) (fun _ _=>rfl)) pe_int) pe_int (nomark _)) (pss_cons (ps_set (i:=3) sc_law_pairs.nd rfl (by walk_at "o") (pe_op o_sub (cv 6) (pe_op o_mod (cv 7) (pe_callB (c_min rfl) (by rfl) T.no_min PyProof.Rows.boot_min (pa_cons (cv 6) (pa_cons pe_int pa_nil))))))
   (pss_one (ps_set (i:=4) sc_law_pairs.nd rfl (by walk_at "o") (pe_op o_add pe_int (pe_op o_mod (pe_op o_add (pe_op o_fdiv (cv 7) pe_int) (pe_op o_mul pe_int (cv 5))) (cv 0)))))) (pss_one (ps_if (t_cmp (o_eq (hr8 hr)) (pe_op o_mod (pe_ix i_seq (cv 1) (cv 5) (fun _ _=>rfl)) pe_int) pe_int (nomark _)) (pss_cons (ps_set (i:=3) sc_law_pairs.nd rfl (by walk_at "o") (pe_op o_sub (cv 6) (pe_op o_mod (cv 7) (pe_callB (c_min rfl) (by rfl) T.no_min PyProof.Rows.boot_min (pa_cons (cv 6) (pa_cons pe_int pa_nil))))))
   (pss_one (ps_set (i:=4) sc_law_pairs.nd rfl (by walk_at "o") (pe_op o_add pe_int (pe_op o_mod (pe_op o_add (pe_op o_fdiv (cv 7) pe_int) (pe_op o_mul pe_int (cv 5))) (cv 6)))))) (pss_one (ps_if (t_cmp (o_eq (hr8 hr)) (pe_op o_mod (pe_ix i_seq (cv 1) (cv 5) (fun _ _=>rfl)) pe_int) pe_int (nomark _)) (pss_cons (ps_set (i:=3) sc_law_pairs.nd rfl (by walk_at "o") (cv 6))
   (pss_one (ps_set (i:=4) sc_law_pairs.nd rfl (by walk_at "o") (pe_op o_sub (cv 6) pe_int)))) pss_nil)))))
   (pss_one (ps_expr (pe_bm PySem.F.plainAttrs_list PySem.F.slot_list_append PySem.F.type_list_append (mtr mt_append) (cv 2) (pa_cons (pe_tup (pa_cons (pe_op o_add (pe_op o_mul pe_int (cv 3)) (pe_op o_mod (pe_op o_fdiv (pe_ix i_seq (cv 1) (cv 5) (fun _ _=>rfl)) pe_int) pe_int)) (pa_cons (pe_op o_add (pe_op o_mul pe_int (cv 4)) (pe_op o_mod (pe_op o_fdiv (pe_ix i_seq (cv 1) (cv 5) (fun _ _=>rfl)) pe_int) pe_int)) pa_nil))) pa_nil))))))))
   (pss_one (ps_ret (cv 2)))))))
theorem ok_law_pairs (T:Txt K mg a):FnOk P w K mg base CX0 1 a.f_law_pairs a.d_law_pairs ["_law_many","_law_cells"] (sp_law_pairs K):=by
 refine T.fn_law_pairs.ok sc_law_pairs (fun vs H Q E h=>?_) (fun cdv A outer s H vs Q E hr h=>⟨_,tm_law_pairs T hr,?_⟩)
 ·obtain ⟨cp,m,ns,rfl,_⟩:=h;rfl
 ·obtain ⟨cp,m,ns,rfl,hS,m1,m10,hn,q⟩:=h
  show rd_law_pairs K _ [some (.int m),some (.ref cp),none,none,none,none,none,none] H
  unfold rd_law_pairs
  have big:(20000:Nat)≤sizeLine:=by decide
  walk_at "gs"
  intro pp H1 n1
  walk_at "gs"
  refine .inl ⟨_,.inl (.of (n1.same _ _ hS)),?_⟩
  rw [List.length_map]
  walk_at "gs"
  rw [Int.toNat_natCast]
  refine for_rngG (fun i σ H2=>Same H H2∧∃ (es:List En) (l r:Int) (v5 v6 v7:Option V),PL H2 pp es∧es.length=i∧TieOk m (psOf es)∧0≤l∧l≤m+i∧0≤r∧r≤m+i∧σ=[some (.int m),some (.ref cp),some (.ref pp),some (.int l),some (.int r),v5,v6,v7]) ⟨n1.same,[],_,_,_,_,_,⟨n1.at_,fun e he=>by simp at he⟩,rfl,fun i q hq=>by simp [psOf] at hq,by omega,by omega,by omega,by omega,rfl⟩ ?_ ?_
  ·rintro i σ H2 hi ⟨s2,es,l,r,v5,v6,v7,hP,hle,hT,l0,l1,r0,r1,rfl⟩
   have hS2:=s2 _ _ hS
   obtain ⟨c,hc⟩:∃ c:Int,atI (ns.map V.int) (0+(i:Int))=some (.int c):=by
    refine ⟨ns[i],?_⟩
    rw [atI_ok .non (by omega) (by rw [List.length_map];omega),show (0+(i:Int)).toNat=i by omega,List.getD_eq_getElem?_getD,List.getElem?_map,List.getElem?_eq_getElem hi]
    rfl
   have hc5:=Int.emod_nonneg c (show (5:Int)≠0 by decide)
   walk_at "gs"
   refine ⟨_,_,.inl (.of hS2),hc,?_⟩
   walk_at "gs"
   refine mid (fun σ' H'=>H'=H2∧∃ l' r':Int,0≤l'∧l'≤m+i∧0≤r'∧r'≤m+i∧σ'=[some (.int m),some (.ref cp),some (.ref pp),some (.int l'),some (.int r'),some (.int (0+(i:Int))),some (.int ((m:Int)+(0+(i:Int)))),some (.int (c / 20))]) ?_ ?_
   ·intro N hN
    walk_at "gs"
    refine ⟨_,_,.inl (.of hS2),hc,?_⟩
    walk_at "gs"
    by_cases c1:c % 5<2
    ·rw [if_pos c1]
     have gm:1≤(if 3<(m:Int)+(0+(i:Int)) then 3 else (m:Int)+(0+(i:Int)))∧(if 3<(m:Int)+(0+(i:Int)) then 3 else (m:Int)+(0+(i:Int)))≤(m:Int)+i:=by split <;> omega
     generalize (if 3<(m:Int)+(0+(i:Int)) then 3 else (m:Int)+(0+(i:Int)))=G at gm ⊢
     have x1:=Int.emod_nonneg (c / 20) (show G≠0 by omega)
     have x2:=Int.emod_lt_of_pos (c / 20) (show 0<G by omega)
     have y1:=Int.emod_nonneg (c / 20 / 3+2 * (0+(i:Int))) (show (m:Int)≠0 by omega)
     have y2:=Int.emod_lt_of_pos (c / 20 / 3+2 * (0+(i:Int))) (show 0<(m:Int) by omega)
     walk_at "gs"
     exact hN _ _ ⟨rfl,_,_,by omega,by omega,by omega,by omega,rfl⟩
    ·rw [if_neg c1]
     refine ⟨_,_,.inl (.of hS2),hc,?_⟩
     walk_at "gs"
     by_cases c2:c % 5=2
     ·rw [if_pos c2]
      have gm:1≤(if 8<(m:Int)+(0+(i:Int)) then 8 else (m:Int)+(0+(i:Int)))∧(if 8<(m:Int)+(0+(i:Int)) then 8 else (m:Int)+(0+(i:Int)))≤(m:Int)+i:=by split <;> omega
      generalize (if 8<(m:Int)+(0+(i:Int)) then 8 else (m:Int)+(0+(i:Int)))=G at gm ⊢
      have x1:=Int.emod_nonneg (c / 20) (show G≠0 by omega)
      have x2:=Int.emod_lt_of_pos (c / 20) (show 0<G by omega)
      have y1:=Int.emod_nonneg (c / 20 / 8+3 * (0+(i:Int))) (show (m:Int)+(0+(i:Int))≠0 by omega)
      have y2:=Int.emod_lt_of_pos (c / 20 / 8+3 * (0+(i:Int))) (show 0<(m:Int)+(0+(i:Int)) by omega)
      walk_at "gs"
      exact hN _ _ ⟨rfl,_,_,by omega,by omega,by omega,by omega,rfl⟩
     ·rw [if_neg c2]
      refine ⟨_,_,.inl (.of hS2),hc,?_⟩
      walk_at "gs"
      by_cases c3:c % 5=4
      ·rw [if_pos c3]
       exact hN _ _ ⟨rfl,_,_,by omega,by omega,by omega,by omega,rfl⟩
      ·rw [if_neg c3]
       exact hN _ _ ⟨rfl,l,r,l0,l1,r0,r1,rfl⟩
   rintro σ3 H3 ⟨rfl,l',r',g0,g1,g2,g3,rfl⟩
   walk_at "gs"
   refine ⟨.inl ⟨by trivial,_,.of hP.lst⟩,?_⟩
   walk_at "gs"
   refine ⟨_,_,.inl (.of hS2),hc,?_⟩
   walk_at "gs"
   refine ⟨_,_,.inl (.of hS2),hc,?_⟩
   walk_at "gs"
   refine ⟨by show 2≤sizeLine;decide,fun tp H4 n4=>?_⟩
   have hP4:=hP.same n4.same
   refine ⟨pp,_,_,rfl,rfl,hP4.lst,by rw [List.length_map];omega,(s2.trans n4.same).put n1.was,es ++ [(tp,(_,_))],_,_,_,_,_,hP4.put n4.at_,by rw [List.length_append,List.length_singleton];omega,?_,by omega,by omega,by omega,by omega,rfl⟩
   have e:psOf (es ++ [(tp,(2 * l'+c / 5 % 2,2 * r'+c / 10 % 2))])=psOf es ++ [(2 * l'+c / 5 % 2,2 * r'+c / 10 % 2)]:=List.map_append
   rw [e]
   refine hT.snoc ⟨?_,?_,?_,?_⟩ <;> (try rw [List.length_map]) <;> show _ <;> omega
  ·rintro σ H2 ⟨s2,es,l,r,v5,v6,v7,hP,hle,hT,l0,l1,r0,r1,rfl⟩
   walk_at "gs"
   exact q pp es H2 s2 n1.was hP hle hT
theorem xor_small {t:Int} (h:0≤t) (j:Int) (h0:0≤j) (h1:j≤1):Builtin.bitXor t j=t∨Builtin.bitXor t j=MF.tn t:=by
 have:j=0∨j=1:=by omega
 rcases this with rfl | rfl
 ·left
  obtain ⟨x,rfl⟩:=Int.eq_ofNat_of_zero_le h
  have:=xor_nat x 0
  rw [show ((0:Nat):Int)=0 from rfl] at this
  rw [this,Nat.xor_zero]
 ·right;exact xor_one h
theorem xor_is_one {l h:Int} (hl:0≤l) (hh:0≤h):Builtin.bitXor l h=1 ↔ l=MF.tn h:=by
 rw [← xor_one hh]
 obtain ⟨x,rfl⟩:=Int.eq_ofNat_of_zero_le hl
 obtain ⟨y,rfl⟩:=Int.eq_ofNat_of_zero_le hh
 have e1:=xor_nat x y
 have e2:=xor_nat y 1
 rw [show ((1:Nat):Int)=1 from rfl] at e2
 rw [e1,e2]
 constructor
 ·intro h
  have h:x ^^^ y=1:=by omega
  rw [← h,Nat.xor_comm x y,← Nat.xor_assoc,Nat.xor_self,Nat.zero_xor]
 ·intro h
  have h:x=y ^^^ 1:=by omega
  rw [h,Nat.xor_comm (y ^^^ 1) y,← Nat.xor_assoc,Nat.xor_self,Nat.zero_xor]
  rfl
theorem fnd_first:∀ {n:Int}{ps:List MF.Pr}{q:MF.Pr}{i:Int},MF.fnd n ps q=some i→∃ j:Nat,i=n+j∧ps[j]? = some q∧∀ a,a<j→ps[a]? ≠ some q
 | n,[],q,i,h=>by simp [MF.fnd] at h
 | n,p :: r,q,i,h=>by
  unfold MF.fnd at h
  by_cases e:p=q
  ·rw [if_pos e] at h
   cases h
   exact ⟨0,by omega,by rw [e];rfl,fun a ha=>absurd ha (Nat.not_lt_zero _)⟩
  ·rw [if_neg e] at h
   obtain ⟨j,h1,h2,h3⟩:=fnd_first h
   refine ⟨j+1,by omega,h2,fun a ha=>?_⟩
   cases a with
   | zero=>intro z;exact e (by simpa using z)
   | succ a=>exact h3 a (by omega)
theorem mem_fnd {n:Int}{ps:List MF.Pr}{q:MF.Pr}:q∈ps ↔ (MF.fnd n ps q).isSome=true:=by
 cases h:MF.fnd n ps q with
 | none=>simp [MF.fnd_none h]
 | some i =>
  obtain ⟨_,_,h3⟩:=MF.fnd_some h
  simp [List.mem_of_getElem? h3]
theorem fnd_kp {m:Int}{ps:List MF.Pr}{p:MF.Pr}:MF.fnd (m+1) (MF.kp m ps p) p=some (MF.kn m ps p):=by
 unfold MF.kp MF.kn
 cases h:MF.fnd (m+1) ps p with
 | some i=>simp [h]
 | none=>simp [MF.fnd_snoc h]
theorem Same_un2 {H H' H1:Hp}{pl kl:Addr} (s:Same H H') (u:Un2 pl kl H' H1) (hp:H pl=none) (hk:H kl=none):Same H H1:=fun b o e=>u b o (ne_of_none e hp) (ne_of_none e hk) (s b o e)
def sp_law_fold (a:Adr) (_:PySem.W.Frag):Sp:=fun vs H Q _=>∃ (cp:Addr) (m:Nat) (ep:List En),vs=[.int m,.ref cp]∧PL H cp ep∧TieOk m (psOf ep)∧1≤m∧m≤10∧ep.length≤60 ∧
 ∀ tp f dx pl kl kn es es2 H',Same H H'→H' tp=some (.tup [.ref f,.ref kn])→FoldAt a.c_Fold H' f m es dx pl kl→H f=none→H pl=none→H kl=none→H kn=none→PN H' kn (m+1) es2→psOf es2=psOf es→MF.Ok m (psOf es)→es.length≤ep.length→kn≠pl→Q (.ref tp) H'
def rd_law_fold (a:Adr) (K:PySem.W.Frag):TS:=(tSeq (tAsg (tMake a.c_Fold (sp_Fold___init__ a K) [] E0 (tCons (cVar 0) tNil)) (gName 2))
  (tSeq (tAsg (tComp (iRng1 (tCons (tOp cAdd (cVar 0) (tC (.int 1))) tNil)) 1 [] (gName 0) tTrue (tC .non)) (gName 3))
  (tSeq (tAsg (tComp (iRng1 (tCons (tOp cAdd (cVar 0) (tC (.int 1))) tNil)) 1 [] (gName 0) tTrue (tOp cMul (tC (.int 2)) (cVar 0))) (gName 4))
  (tSeq (tFor (iList K (cVar 1)) (gTup K 2 (gCons (gName 5) (gCons (gName 6) gNil))) (tSeq (tAsg (tOp (cI2 fun i j=>.int (Builtin.bitXor i j)) (tOp (cIx K) (cVar 4) (tOp (cI2c CDiv fun i j=>.int (i / j)) (cVar 5) (tC (.int 2)))) (tOp (cI2c (fun _ j=>0<j) fun i j=>.int (i % j)) (cVar 5) (tC (.int 2)))) (gName 7))
  (tSeq (tAsg (tOp (cI2 fun i j=>.int (Builtin.bitXor i j)) (tOp (cIx K) (cVar 4) (tOp (cI2c CDiv fun i j=>.int (i / j)) (cVar 6) (tC (.int 2)))) (tOp (cI2c (fun _ j=>0<j) fun i j=>.int (i % j)) (cVar 6) (tC (.int 2)))) (gName 8))
  (tSeq (tAsg (tCB cMin (tCons (cVar 7) (tCons (cVar 8) tNil))) (gName 9))
  (tSeq (tAsg (tCB cMax (tCons (cVar 7) (tCons (cVar 8) tNil))) (gName 10))
  (tSeq (tAsg (cVar 9) (gName 11))
  (tMid (tIfS (cTst (tOp (cEq K) (tOp (cI2 fun i j=>.int (Builtin.bitXor i j)) (cVar 9) (cVar 10)) (tC (.int 1)))) (tAsg (tC (.int 0)) (gName 11)) (tIfS (cTst (tOp (cEq K) (cVar 9) (tC (.int 1)))) (tAsg (cVar 10) (gName 11)) (tIfS (tAnd (cTst (tOp (cI2 fun i j=>.bl (decide (j<i))) (cVar 9) (tC (.int 1)))) (cTst (tOp (cNe K) (cVar 9) (cVar 10)))) (tMid (tIfS (cTst (tOp (cInN K true) (tTup (tCons (cVar 9) (tCons (cVar 10) tNil))) (cVar 3))) (tDrop (tBM K "list" rAppend (cVar 3) (tCons (tTup (tCons (cVar 9) (tCons (cVar 10) tNil))) tNil))) tNext)
  (tAsg (tOp cMul (tC (.int 2)) (tBM K "list" rIndexN (cVar 3) (tCons (tTup (tCons (cVar 9) (tCons (cVar 10) tNil))) tNil))) (gName 11))) tNext)))
  (tSeq (tDrop (tBM K "list" rAppend (cVar 4) (tCons (cVar 11) tNil)))
  (tDrop (tMeth a.c_Fold "both" (sp_Fold_both a K) [] E0 (cVar 2) (tCons (cVar 7) (tCons (cVar 8) tNil))))))))))))
  (tRet (tTup (tCons (cVar 2) (tCons (cVar 3) tNil))))))))
theorem tm_law_fold (T:Txt K mg a) {cdv:Value}{A:Around}{outer:List Env}{s:Shared}{H:Hp}{E:XK} (hr:Room 3 (A.deeper (envOfC "_law_fold" (defScope s_law_fold) s.heap.objs.size a.f_law_fold cdv))) :
  PSs (cxOf CX0 P w K mg base N_law_fold "_law_fold" (defScope s_law_fold) a.f_law_fold cdv A outer s H E).nox (defBody s_law_fold) (rd_law_fold a K) :=
 (pss_cons (ps_set (i:=2) sc_law_fold.nd rfl (by walk_at "o") (pe_make T.mk_Fold (ok_Fold___init__ T) (hr.mono (by decide)) rfl T.mg_Fold T.bi_Fold___init__ .nil pass0 (pa_cons (cv 0) pa_nil)))
   (pss_cons (ps_setC (i:=3) (N:=["_law_k"]) (k:=1) (sel:=[]) (CScope.of (defScope s_law_fold).names (by decide +kernel)) (CNames.of N_law_fold (by decide +kernel)) rfl (pi_range1 rfl T.no_range (pa_cons (pe_op o_add (cv 0) pe_int) pa_nil)) (fun _ _ _ _=>(pg_name (i:=0) (show List.Nodup (["_law_k"]:List Str) by decide +kernel) rfl (by walk_at "o"))) (fun _ _ _ _=>pts_nil) (fun _ _ _ _=>pe_non) sc_law_fold.nd rfl (by walk_at "o") rfl)
   (pss_cons (ps_setC (i:=4) (N:=["_law_k"]) (k:=1) (sel:=[]) (CScope.of (defScope s_law_fold).names (by decide +kernel)) (CNames.of N_law_fold (by decide +kernel)) rfl (pi_range1 rfl T.no_range (pa_cons (pe_op o_add (cv 0) pe_int) pa_nil)) (fun _ _ _ _=>(pg_name (i:=0) (show List.Nodup (["_law_k"]:List Str) by decide +kernel) rfl (by walk_at "o"))) (fun _ _ _ _=>pts_nil) (fun _ _ _ _=>(pe_op o_mul pe_int (cv 0))) sc_law_fold.nd rfl (by walk_at "o") rfl)
   (pss_cons (ps_for PassesOwn.never rfl (pi_list (cv 1)) (pg_tup rfl (pgs_cons (pg_name (i:=5) sc_law_fold.nd rfl (by walk_at "o")) (pgs_cons (pg_name (i:=6) sc_law_fold.nd rfl (by walk_at "o")) pgs_nil))) (pss_cons (ps_set (i:=7) sc_law_fold.nd rfl (by walk_at "o") (pe_op o_xor (pe_ix i_seq (cv 4) (pe_op o_fdiv (cv 5) pe_int) (fun _ _=>rfl)) (pe_op o_mod (cv 5) pe_int)))
   (pss_cons (ps_set (i:=8) sc_law_fold.nd rfl (by walk_at "o") (pe_op o_xor (pe_ix i_seq (cv 4) (pe_op o_fdiv (cv 6) pe_int) (fun _ _=>rfl)) (pe_op o_mod (cv 6) pe_int)))
   (pss_cons (ps_set (i:=9) sc_law_fold.nd rfl (by walk_at "o") (pe_callB (c_min rfl) (by rfl) T.no_min PyProof.Rows.boot_min (pa_cons (cv 7) (pa_cons (cv 8) pa_nil))))
   (pss_cons (ps_set (i:=10) sc_law_fold.nd rfl (by walk_at "o") (pe_callB (c_max rfl) (by rfl) T.no_max PyProof.Rows.boot_max (pa_cons (cv 7) (pa_cons (cv 8) pa_nil))))
   (pss_cons (ps_set (i:=11) sc_law_fold.nd rfl (by walk_at "o") (cv 9))
   (pss_mid (ps_if (t_cmp (o_eq (hr8 hr)) (pe_op o_xor (cv 9) (cv 10)) pe_int (nomark _)) (pss_one (ps_set (i:=11) sc_law_fold.nd rfl (by walk_at "o") pe_int)) (pss_one (ps_if (t_cmp (o_eq (hr8 hr)) (cv 9) pe_int (nomark _)) (pss_one (ps_set (i:=11) sc_law_fold.nd rfl (by walk_at "o") (cv 10))) (pss_one (ps_if (PW.pt (pw_and (t_cmp o_gt (cv 9) pe_int (nomark _)) (pw_and1 (t_cmp (o_ne (hr8 hr)) (cv 9) (cv 10) (nomark _))))) (pss_mid (ps_if (t_cmp (o_notinN (hr8 hr)) (pe_tup (pa_cons (cv 9) (pa_cons (cv 10) pa_nil))) (cv 3) (by with_unfolding_all rfl)) (pss_one (ps_expr (pe_bm PySem.F.plainAttrs_list PySem.F.slot_list_append PySem.F.type_list_append (mtr mt_append) (cv 3) (pa_cons (pe_tup (pa_cons (cv 9) (pa_cons (cv 10) pa_nil))) pa_nil)))) pss_nil)
   (pss_one (ps_set (i:=11) sc_law_fold.nd rfl (by walk_at "o") (pe_op o_mul pe_int (pe_bm PySem.F.plainAttrs_list PySem.F.slot_list_index PySem.F.type_list_index (mt_indexN (hr8 hr)) (cv 3) (pa_cons (pe_tup (pa_cons (cv 9) (pa_cons (cv 10) pa_nil))) pa_nil)))))) pss_nil)))))
   (pss_cons (ps_expr (pe_bm PySem.F.plainAttrs_list PySem.F.slot_list_append PySem.F.type_list_append (mtr mt_append) (cv 4) (pa_cons (cv 11) pa_nil)))
   (pss_one (ps_expr (pe_meth (cv 2) T.cl_Fold T.me_Fold_both (ok_Fold_both T) (hr.mono (by decide)) T.bi_Fold_both .nil passN (pa_cons (cv 7) (pa_cons (cv 8) pa_nil)))))))))))))
   (pss_one (ps_ret (pe_tup (pa_cons (cv 2) (pa_cons (cv 3) pa_nil)))))))))
theorem ok_law_fold (T:Txt K mg a):FnOk P w K mg base CX0 4 a.f_law_fold a.d_law_fold ["_law_many","_law_pairs_here"] (sp_law_fold a K):=by
 refine T.fn_law_fold.ok sc_law_fold (fun vs H Q E h=>?_) (fun cdv A outer s H vs Q E hr h=>⟨_,tm_law_fold T hr,?_⟩)
 ·obtain ⟨cp,m,ep,rfl,_⟩:=h;rfl
 ·obtain ⟨cp,m,ep,rfl,hS,hT,m1,m10,hn,q⟩:=h
  show rd_law_fold a K _ [some (.int m),some (.ref cp),none,none,none,none,none,none,none,none,none,none] H
  unfold rd_law_fold
  have big:(20000:Nat)≤sizeLine:=by decide
  walk_at "gs"
  refine mk_Fold fun f dx pl kl H1 s1 ff fp fk f1=>?_
  walk_at "gs"
  rw [show ((m:Int)+1).toNat=m+1 by omega]
  refine compG_rng (lo:=0) (fun _=>.non) rfl (by omega) (fun i H' Q' hi s' q'=>?_) (fun kn H2 n2=>?_)
  ·walk_at "gs"
   exact q'
  have e2:((List.range (m+1)).map fun i:Nat=>(fun _:Int=>V.non) (0+(i:Nat)))=List.replicate (m+1) V.non ++ ([]:List En).map fun e=>V.ref e.1:=by
   rw [List.map_nil,List.append_nil]
   exact List.map_const' .. ▸ by rw [List.length_range]
  rw [e2] at n2
  walk_at "gs"
  refine compG_rng (lo:=0) (fun k=>.int (2 * k)) rfl (by omega) (fun i H' Q' hi s' q'=>?_) (fun tl H3 n3=>?_)
  ·walk_at "gs"
   exact q'
  have e3:((List.range (m+1)).map fun i:Nat=>(fun k:Int=>V.int (2 * k)) (0+(i:Nat)))=((List.range (m+1)).map fun i:Nat=>2 * (i:Int)).map V.int:=by
   rw [List.map_map]
   refine List.map_congr_left fun i _=>?_
   show V.int (2 * (0+(i:Int)))=V.int (2 * (i:Int))
   rw [Int.zero_add]
  rw [e3] at n3
  have s03:=(s1.trans n2.same).trans n3.same
  walk_at "gs"
  have s4:Same H3 H3:=Same.refl _
  have s04:=s03.trans s4
  have hPP:=hS.same s03
  have hpl:ep.length=ep.length:=rfl
  have f4:=((f1.same n2.same).same n3.same).same s4
  have fkn:H kn=none:=s1.nil n2.was
  have ftl:H tl=none:=(s1.trans n2.same).nil n3.was
  have nkp:kn≠pl:=(ne_of_none f1.prs.lst n2.was).symm
  have ntp:tl≠pl:=(ne_of_none (n2.same _ _ f1.prs.lst) n3.was).symm
  have ntk:tl≠kn:=(ne_of_none n2.at_ n3.was).symm
  have npp:cp≠pl:=ne_of_none hS.lst fp
  have npk:cp≠kn:=ne_of_none hS.lst fkn
  have npt:cp≠tl:=ne_of_none hS.lst ftl
  refine ⟨⟨_,.of hPP.lst⟩,for_listG (xs:=ep.map fun e=>V.ref e.1) (fun i σ H5=>Same H H5∧PL H5 cp ep∧∃ (es es2:List En) (ts:List Int) (w5 w6 w7 w8 w9 w10 w11:Option V),FoldAt a.c_Fold H5 f m es dx pl kl∧PN H5 kn (m+1) es2∧psOf es2=psOf es∧MF.Ok m (psOf es)∧es.length≤i∧H5 tl=some (.lst (ts.map V.int))∧ts.length=m+1+i∧(∀ t∈ts,MF.InT m (psOf es) t)∧σ=[some (.int m),some (.ref cp),some (.ref f),some (.ref kn),some (.ref tl),w5,w6,w7,w8,w9,w10,w11])
   ⟨s04,hPP,[],[],_,_,_,_,_,_,_,_,f4,⟨s4 _ _ (n3.same _ _ n2.at_),fun e he=>by simp at he⟩,rfl,fun i p hp=>by simp [psOf] at hp,Nat.le_refl _,s4 _ _ n3.at_,by rw [List.length_map,List.length_range],fun t ht=>?_,rfl⟩ ?_ ?_ ?_⟩
  ·obtain ⟨k,hk,rfl⟩:=List.mem_map.mp ht
   rw [List.mem_range] at hk
   exact ⟨by omega,by show _<2 * ((m:Int)+1+(([]:List MF.Pr).length:Int));rw [List.length_nil];omega⟩
  ·rintro i σ H5 _ ⟨_,hp5,_⟩
   exact .of hp5.lst
  ·rintro i v σ H5 hv ⟨s5,hp5,es,es2,ts,w5,w6,w7,w8,w9,w10,w11,f5,k5,e5,ok5,hl5,t5,tl5,ti5,rfl⟩
   obtain ⟨e,he,rfl⟩:=get_map_of hv
   have hte:=hp5.tup e (List.mem_of_getElem? he)
   obtain ⟨x0,x1,y0,y1⟩:=hT i e.2 (by rw [List.getElem?_map,he];rfl)
   have hi:i<ep.length:=(List.getElem?_eq_some_iff.mp he).1
   have atT:∀ z:Int,0≤z→z<2 * ((m:Int)+1+i)→∃ t,atI (ts.map V.int) (z / 2)=some (.int t)∧MF.InT m (psOf es) t:=fun z z0 z1=>by
    have hz:(z / 2).toNat<ts.length:=by omega
    refine ⟨ts[(z / 2).toNat],?_,ti5 _ (List.getElem_mem hz)⟩
    rw [atI_ok .non (by omega) (by rw [List.length_map];omega),List.getD_eq_getElem?_getD,List.getElem?_map,List.getElem?_eq_getElem hz]
    rfl
   obtain ⟨u,hu,inu⟩:=atT e.2.1 x0 x1
   obtain ⟨v,hv',inv⟩:=atT e.2.2 y0 y1
   walk_at "gs"
   refine ⟨e.1,_,rfl,.of hte,rfl,_,_,rfl,_,_,rfl,rfl,?_⟩
   walk_at "gs"
   refine ⟨_,_,.inl (.of t5),hu,?_⟩
   walk_at "gs"
   refine ⟨_,_,.inl (.of t5),hv',?_⟩
   walk_at "gs"
   have inx:MF.InT m (psOf es) (Builtin.bitXor u (e.2.1 % 2)):=by
    rcases xor_small inu.1 (e.2.1 % 2) (by omega) (by omega) with z | z <;> rw [z]
    ·exact inu
    ·exact inu.tn
   have iny:MF.InT m (psOf es) (Builtin.bitXor v (e.2.2 % 2)):=by
    rcases xor_small inv.1 (e.2.2 % 2) (by omega) (by omega) with z | z <;> rw [z]
    ·exact inv
    ·exact inv.tn
   generalize Builtin.bitXor u (e.2.1 % 2)=x at inx ⊢
   generalize Builtin.bitXor v (e.2.2 % 2)=y at iny ⊢
   have g1:(if y<x then y else x)=MF.lo x y:=rfl
   have g2:(if y > x then y else x)=MF.hi x y:=rfl
   rw [g1,g2]
   have st:=MF.bo_st (m:=(m:Int)) (by omega) inx iny
   have hlh:=MF.lo_le_hi x y
   have hl0:0≤MF.lo x y:=by have:=inx.1;have:=iny.1;unfold MF.lo;split <;> omega
   have epl:(psOf es).length=es.length:=List.length_map ..
   have epl2:es2.length=es.length:=by rw [← epl,← e5];exact (List.length_map ..).symm
   refine mid (fun σ' H'=>∃ es2',(∀ b o,b≠kn→H5 b=some o→H' b=some o)∧PN H' kn (m+1) es2'∧psOf es2'=MF.bp m (psOf es) x y∧σ'=[some (.int m),some (.ref cp),some (.ref f),some (.ref kn),some (.ref tl),some (.int e.2.1),some (.int e.2.2),some (.int x),some (.int y),some (.int (MF.lo x y)),some (.int (MF.hi x y)),some (.int (MF.bt m (psOf es) x y))]) ?_ ?_
   ·intro N hN
    have hN':=hN
    clear hN
    unfold MF.bt MF.bp MF.sure at hN'
    generalize MF.lo x y=l at *
    generalize MF.hi x y=g at *
    have xo:=xor_is_one (l:=l) (h:=g) hl0 (by omega)
    walk_at "gs"
    have htn:l=MF.tn g→l≠1∧l≠g∨l=0:=fun z=>by unfold MF.tn at z;split at z <;> omega
    by_cases c1:Builtin.bitXor l g=1
    ·rw [if_pos c1]
     have z:=xo.mp c1
     have hz:=htn z
     refine hN' _ _ ⟨es2,fun b o _ e=>e,k5,?_,?_⟩
     ·by_cases c0:l=0
      ·rw [if_pos c0];exact e5
      ·rw [if_neg c0,if_neg (by omega),if_pos z];exact e5
     ·by_cases c0:l=0
      ·rw [if_pos c0]
      ·rw [if_neg c0,if_neg (by omega),if_pos z]
    ·rw [if_neg c1]
     have nz:¬ l=MF.tn g:=fun z=>c1 (xo.mpr z)
     by_cases c2:l=1
     ·rw [if_pos c2]
      refine hN' _ _ ⟨es2,fun b o _ e=>e,k5,?_,?_⟩
      ·rw [if_neg (by omega),if_pos (.inl c2)];exact e5
      ·rw [if_neg (by omega),if_pos (.inl c2)]
     ·rw [if_neg c2]
      by_cases c3:1<l
      ·rw [if_pos c3]
       by_cases c4:l=g
       ·rw [if_neg (by simpa using c4)]
        refine hN' _ _ ⟨es2,fun b o _ e=>e,k5,?_,?_⟩
        ·rw [if_neg (by omega),if_pos (.inr c4)];exact e5
        ·rw [if_neg (by omega),if_pos (.inr c4),c4]
       ·rw [if_pos c4]
        rw [if_neg (show ¬ l=0 by omega),if_neg (show ¬ (l=1∨l=g) by omega),if_neg nz] at hN'
        refine mid (fun σ' H'=>∃ es2',(∀ b o,b≠kn→H5 b=some o→H' b=some o)∧PN H' kn (m+1) es2'∧psOf es2'=MF.kp m (psOf es) (l,g)∧σ'=[some (.int m),some (.ref cp),some (.ref f),some (.ref kn),some (.ref tl),some (.int e.2.1),some (.int e.2.2),some (.int x),some (.int y),some (.int l),some (.int g),some (.int l)]) ?_ ?_
        ·intro N2 hN2
         walk_at "gs"
         refine ⟨by show 2≤sizeLine;decide,fun tq H6 n6=>⟨m+1,es2,(l,g),n6.at_,k5.same n6.same,?_⟩⟩
         have k6:=k5.same n6.same
         by_cases hin:(l,g)∈psOf es2
         ·rw [if_neg (fun z=>z hin)]
          refine hN2 _ _ ⟨es2,fun b o _ e=>n6.same _ _ e,k6,?_,rfl⟩
          unfold MF.kp
          rw [e5] at hin ⊢
          rw [if_pos (mem_fnd.mp hin)]
         ·rw [if_pos hin]
          refine ⟨.inl ⟨by trivial,_,.of k6.lst⟩,by show 2≤sizeLine;decide,fun tr H7 n7=>?_⟩
          have k7:=k6.same n7.same
          refine ⟨kn,_,_,rfl,rfl,k7.lst,by rw [List.length_append,List.length_replicate,List.length_map];omega,hN2 _ _ ⟨es2 ++ [(tr,(l,g))],fun b o nb e=>by rw [upd_ne nb];exact n7.same _ _ (n6.same _ _ e),k7.put n7.at_,?_,rfl⟩⟩
          unfold MF.kp
          rw [e5] at hin
          rw [if_neg (fun z=>hin (mem_fnd.mpr z)),← e5]
          exact List.map_append
        rintro σ6 H6 ⟨es6,u6,k6,p6,rfl⟩
        have hfk:MF.fnd ((m:Int)+1) (psOf es6) (l,g)=some (MF.kn m (psOf es) (l,g)):=by
         rw [p6]
         exact fnd_kp
        obtain ⟨j,hj1,hj2,hj3⟩:=fnd_first hfk
        walk_at "gs"
        refine ⟨.inl ⟨by trivial,_,.of k6.lst⟩,by show 2≤sizeLine;decide,fun tq H7 n7=>⟨m+1,es6,(l,g),j,k6.same n7.same,n7.at_,hj2,hj3,?_⟩⟩
        walk_at "gs"
        refine hN' _ _ ⟨es6,fun b o nb e=>n7.same _ _ (u6 b o nb e),k6.same n7.same,p6,?_⟩
        rw [hj1]
        congr 12
      ·rw [if_neg c3]
       refine hN' _ _ ⟨es2,fun b o _ e=>e,k5,?_,?_⟩
       ·rw [if_pos (by omega)];exact e5
       ·rw [if_pos (by omega),show l=0 by omega]
   rintro σ6 H6 ⟨es6,u6,k6,p6,rfl⟩
   have f6:FoldAt a.c_Fold H6 f m es dx pl kl:=⟨u6 _ _ (ne_of f5.ins k5.lst (fun z=>nomatch z)) f5.ins,u6 _ _ nkp.symm f5.prs.lst,u6 _ _ (ne_of f5.prs.dct k5.lst (fun z=>nomatch z)) f5.prs.dct,fun e he=>u6 _ _ (ne_of (f5.prs.tup e he) k5.lst (fun z=>nomatch z)) (f5.prs.tup e he)⟩
   have t6:=u6 _ _ ntk t5
   have p6':PL H6 cp ep:=⟨u6 _ _ npk hp5.lst,fun e he=>u6 _ _ (ne_of (hp5.tup e he) k5.lst (fun z=>nomatch z)) (hp5.tup e he)⟩
   have s6:Same H H6:=fun b o e=>u6 _ _ (ne_of_none e fkn) (s5 _ _ e)
   walk_at "gs"
   refine ⟨.inl ⟨by trivial,_,.of t6⟩,tl,_,_,rfl,rfl,t6,by rw [List.length_map];omega,?_⟩
   have nl:∀ {b:Addr}{o:HO},b≠tl→H6 b=some o→upd H6 tl (.lst (ts.map V.int ++ [.int (MF.bt m (psOf es) x y)])) b=some o:=fun n e=>by rw [upd_ne n];exact e
   have f7:FoldAt a.c_Fold (upd H6 tl (.lst (ts.map V.int ++ [.int (MF.bt m (psOf es) x y)]))) f m es dx pl kl:=⟨nl (ne_of f6.ins t6 (fun z=>nomatch z)) f6.ins,nl ntp.symm f6.prs.lst,nl (ne_of f6.prs.dct t6 (fun z=>nomatch z)) f6.prs.dct,fun e he=>nl (ne_of (f6.prs.tup e he) t6 (fun z=>nomatch z)) (f6.prs.tup e he)⟩
   have k7:PN (upd H6 tl (.lst (ts.map V.int ++ [.int (MF.bt m (psOf es) x y)]))) kn (m+1) es6:=⟨nl ntk.symm k6.lst,fun e he=>nl (ne_of (k6.tup e he) t6 (fun z=>nomatch z)) (k6.tup e he)⟩
   have p7:PL (upd H6 tl (.lst (ts.map V.int ++ [.int (MF.bt m (psOf es) x y)]))) cp ep:=⟨nl npt p6'.lst,fun e he=>nl (ne_of (p6'.tup e he) t6 (fun z=>nomatch z)) (p6'.tup e he)⟩
   have s7:=s6.put (o:=.lst (ts.map V.int ++ [.int (MF.bt m (psOf es) x y)])) ftl
   have t7:upd H6 tl (.lst (ts.map V.int ++ [.int (MF.bt m (psOf es) x y)])) tl=some (.lst ((ts ++ [MF.bt m (psOf es) x y]).map V.int)):=by rw [upd_same,List.map_append];rfl
   generalize upd H6 tl (.lst (ts.map V.int ++ [.int (MF.bt m (psOf es) x y)]))=H7 at *
   have jx:=inx.2
   have jy:=iny.2
   walk_at "gs"
   refine ⟨f,dx,_,rfl,f7.ins,rfl,f,dx,pl,kl,m,x,y,es,rfl,f7,by omega,fun _ H8 es8 u8 f8 q8=>?_,fun z=>absurd ⟨inx.1,iny.1,by omega,by omega⟩ z⟩
   have l8:=st.hi
   have l9:=st.lo
   have ok8:=st.ok ok5
   have in8:=st.inn
   simp only [MF.bo] at l8 l9 ok8 in8
   rw [← q8] at l8 l9 ok8 in8
   have epl8:(psOf es8).length=es8.length:=List.length_map ..
   refine ⟨Same_un2 s7 u8 fp fk,p7.un f7.prs.lst f7.prs.dct npp u8,es8,es6,_,_,_,_,_,_,_,_,f8,k7.un f7.prs.lst f7.prs.dct nkp u8,by rw [p6,q8],ok8,by omega,u8 _ _ ntp (ne_of t7 f7.prs.dct (fun z=>nomatch z)) t7,by rw [List.length_append,List.length_singleton];omega,fun t ht=>?_,rfl⟩
   rcases List.mem_append.mp ht with z | z
   ·have:=ti5 t z
    exact ⟨this.1,by have:=this.2;omega⟩
   ·rw [List.mem_singleton] at z
    subst z
    exact in8
  ·rintro σ H5 ⟨s5,hp5,es,es2,ts,w5,w6,w7,w8,w9,w10,w11,f5,k5,e5,ok5,hl5,t5,tl5,ti5,rfl⟩
   rw [List.length_map,hpl] at hl5
   walk_at "gs"
   refine ⟨by show 2≤sizeLine;decide,fun tp H6 n6=>?_⟩
   exact q tp f dx pl kl kn es es2 H6 (s5.trans n6.same) n6.at_ (f5.same n6.same) ff fp fk fkn (k5.same n6.same) e5 ok5 hl5 nkp
def sp_law_mixed (K:PySem.W.Frag):Sp:=fun vs H Q _=>∃ (p:Addr) (ns:List Int) (n:Nat),vs=[.ref p,.int 3,.int n]∧SqL K H p (ns.map V.int)∧n≤9 ∧
 ∀ l (cs:List Int) H',Same H H'→H' l=some (.lst (cs.map V.int))→cs.length=n→Q (.ref l) H'
def rd_law_mixed (K:PySem.W.Frag):TS:=(tSeq (tAsg (tLst tNil) (gName 3))
  (tSeq (tFor (iRng1 (tCons (cVar 2) tNil)) (gName 4) (tSeq (tAsg (tOp cAdd (tOp cAdd (tOp (cI2c (fun _ j=>0<j) fun i j=>.int (i % j)) (tCall (sp_law_cell_at K) [] E0 (tCons (cVar 0) (tCons (tOp cAdd (cVar 1) (cVar 4)) tNil))) (tC (.int 2147483647))) (tOp cMul (tOp cMul (tC (.int 7919)) (cVar 4)) (cVar 4))) (tC (.int 11))) (gName 5))
  (tDrop (tBM K "list" rAppend (cVar 3) (tCons (tOp (cI2c (fun _ j=>0<j) fun i j=>.int (i % j)) (tOp cMul (tOp (cI2c (fun _ j=>0<j) fun i j=>.int (i % j)) (tOp cMul (cVar 5) (tC (.int 48271))) (tC (.int 2147483647))) (tC (.int 16807))) (tC (.int 2147483647))) tNil)))))
  (tRet (cVar 3))))
theorem tm_law_mixed (T:Txt K mg a) {cdv:Value}{A:Around}{outer:List Env}{s:Shared}{H:Hp}{E:XK} (hr:Room 1 (A.deeper (envOfC "_law_mixed" (defScope s_law_mixed) s.heap.objs.size a.f_law_mixed cdv))) :
  PSs (cxOf CX0 P w K mg base N_law_mixed "_law_mixed" (defScope s_law_mixed) a.f_law_mixed cdv A outer s H E).nox (defBody s_law_mixed) (rd_law_mixed K) :=
 (pss_cons (ps_set (i:=3) sc_law_mixed.nd rfl (by walk_at "o") (pe_lst pa_nil))
   (pss_cons (ps_for PassesOwn.never rfl (pi_range1 rfl T.no_range (pa_cons (cv 2) pa_nil)) (pg_name (i:=4) sc_law_mixed.nd rfl (by walk_at "o")) (pss_cons (ps_set (i:=5) sc_law_mixed.nd rfl (by walk_at "o") (pe_op o_add (pe_op o_add (pe_op o_mod (pe_call (ok_law_cell_at T) (hr.mono (by decide)) rfl T.mg_law_cell_at T.fn_law_cell_at.kp T.bi_law_cell_at .nil pass0 (pa_cons (cv 0) (pa_cons (pe_op o_add (cv 1) (cv 4)) pa_nil))) pe_int) (pe_op o_mul (pe_op o_mul pe_int (cv 4)) (cv 4))) pe_int))
   (pss_one (ps_expr (pe_bm PySem.F.plainAttrs_list PySem.F.slot_list_append PySem.F.type_list_append (mtr mt_append) (cv 3) (pa_cons (pe_op o_mod (pe_op o_mul (pe_op o_mod (pe_op o_mul (cv 5) pe_int) pe_int) pe_int) pe_int) pa_nil))))))
   (pss_one (ps_ret (cv 3)))))
theorem ok_law_mixed (T:Txt K mg a):FnOk P w K mg base CX0 2 a.f_law_mixed a.d_law_mixed ["_law_script","_law_start","_law_count"] (sp_law_mixed K):=by
 refine T.fn_law_mixed.ok sc_law_mixed (fun vs H Q E h=>?_) (fun cdv A outer s H vs Q E hr h=>⟨_,tm_law_mixed T hr,?_⟩)
 ·obtain ⟨p,ns,n,rfl,_⟩:=h;rfl
 ·obtain ⟨p,ns,n,rfl,hS,hn,q⟩:=h
  show rd_law_mixed K _ [some (.ref p),some (.int 3),some (.int n),none,none,none] H
  unfold rd_law_mixed
  have big:(20000:Nat)≤sizeLine:=by decide
  walk_at "gs"
  intro l H1 n1
  walk_at "gs"
  refine for_rngG (fun i σ H2=>Same H H2∧∃ (cs:List Int) (v4 v5:Option V),H2 l=some (.lst (cs.map V.int))∧cs.length=i∧σ=[some (.ref p),some (.int 3),some (.int n),some (.ref l),v4,v5]) ⟨n1.same,[],_,_,n1.at_,rfl,rfl⟩ ?_ ?_
  ·rintro i σ H2 hi ⟨s2,cs,v4,v5,h2,hcl,rfl⟩
   rw [Int.toNat_natCast] at hi
   walk_at "gs"
   rw [show (3:Int)+(0+(i:Int))=((3+i:Nat):Int) by omega]
   refine ⟨p,ns,3+i,rfl,s2.seq hS,fun c=>?_⟩
   refine ⟨by omega,.inr ⟨by omega,by omega⟩,.inr ⟨by omega,by omega⟩,.inl ⟨by trivial,_,.of h2⟩,.inr ⟨by decide,by decide⟩,by omega,.inr ⟨by decide,by decide⟩,by omega,l,_,_,rfl,rfl,h2,by rw [List.length_map];omega,s2.put n1.was,cs ++ [_],_,_,by rw [upd_same,List.map_append];rfl,by rw [List.length_append,hcl];rfl,rfl⟩
  ·rintro σ H2 ⟨s2,cs,v4,v5,h2,hcl,rfl⟩
   rw [Int.toNat_natCast] at hcl
   walk_at "gs"
   exact q l cs H2 s2 h2 hcl
def sp_law_digit_pairs (_:PySem.W.Frag):Sp:=fun vs H Q _=>∃ (c:Int) (m most:Nat),vs=[.int m,.int c,.int most]∧m≤10∧most≤9 ∧
 ∀ pp es H',Same H H'→H pp=none→PL H' pp es→es.length≤most→TieOk m (psOf es)→Q (.ref pp) H'
def rd_law_digit_pairs (K:PySem.W.Frag):TS:=(tSeq (tAsg (tLst tNil) (gName 3))
  (tSeq (tAsg (tOp (cI2c (fun _ j=>0<j) fun i j=>.int (i % j)) (cVar 1) (tOp cAdd (cVar 2) (tC (.int 1)))) (gName 4))
  (tSeq (tAsg (tOp (cI2c CDiv fun i j=>.int (i / j)) (cVar 1) (tOp cAdd (cVar 2) (tC (.int 1)))) (gName 1))
  (tSeq (tFor (iRng1 (tCons (cVar 4) tNil)) (gName 5) (tSeq (tAsg (tOp cMul (tC (.int 2)) (tOp cAdd (tOp cAdd (cVar 0) (tC (.int 1))) (cVar 5))) (gName 6))
  (tSeq (tDrop (tBM K "list" rAppend (cVar 3) (tCons (tTup (tCons (tOp (cI2c (fun _ j=>0<j) fun i j=>.int (i % j)) (cVar 1) (cVar 6)) (tCons (tOp (cI2c (fun _ j=>0<j) fun i j=>.int (i % j)) (tOp (cI2c CDiv fun i j=>.int (i / j)) (cVar 1) (cVar 6)) (cVar 6)) tNil))) tNil)))
  (tAsg (tOp (cI2c CDiv fun i j=>.int (i / j)) (tOp (cI2c CDiv fun i j=>.int (i / j)) (cVar 1) (cVar 6)) (cVar 6)) (gName 1)))))
  (tRet (cVar 3))))))
theorem tm_law_digit_pairs (T:Txt K mg a) {cdv:Value}{A:Around}{outer:List Env}{s:Shared}{H:Hp}{E:XK} (hr:Room 0 (A.deeper (envOfC "_law_digit_pairs" (defScope s_law_digit_pairs) s.heap.objs.size a.f_law_digit_pairs cdv))) :
  PSs (cxOf CX0 P w K mg base N_law_digit_pairs "_law_digit_pairs" (defScope s_law_digit_pairs) a.f_law_digit_pairs cdv A outer s H E).nox (defBody s_law_digit_pairs) (rd_law_digit_pairs K) :=
 (pss_cons (ps_set (i:=3) sc_law_digit_pairs.nd rfl (by walk_at "o") (pe_lst pa_nil))
   (pss_cons (ps_set (i:=4) sc_law_digit_pairs.nd rfl (by walk_at "o") (pe_op o_mod (cv 1) (pe_op o_add (cv 2) pe_int)))
   (pss_cons (ps_set (i:=1) sc_law_digit_pairs.nd rfl (by walk_at "o") (pe_op o_fdiv (cv 1) (pe_op o_add (cv 2) pe_int)))
   (pss_cons (ps_for PassesOwn.never rfl (pi_range1 rfl T.no_range (pa_cons (cv 4) pa_nil)) (pg_name (i:=5) sc_law_digit_pairs.nd rfl (by walk_at "o")) (pss_cons (ps_set (i:=6) sc_law_digit_pairs.nd rfl (by walk_at "o") (pe_op o_mul pe_int (pe_op o_add (pe_op o_add (cv 0) pe_int) (cv 5))))
   (pss_cons (ps_expr (pe_bm PySem.F.plainAttrs_list PySem.F.slot_list_append PySem.F.type_list_append (mtr mt_append) (cv 3) (pa_cons (pe_tup (pa_cons (pe_op o_mod (cv 1) (cv 6)) (pa_cons (pe_op o_mod (pe_op o_fdiv (cv 1) (cv 6)) (cv 6)) pa_nil))) pa_nil)))
   (pss_one (ps_set (i:=1) sc_law_digit_pairs.nd rfl (by walk_at "o") (pe_op o_fdiv (pe_op o_fdiv (cv 1) (cv 6)) (cv 6)))))))
   (pss_one (ps_ret (cv 3)))))))
theorem ok_law_digit_pairs (T:Txt K mg a):FnOk P w K mg base CX0 1 a.f_law_digit_pairs a.d_law_digit_pairs ["_law_many","_law_cell","_law_most"] (sp_law_digit_pairs K):=by
 refine T.fn_law_digit_pairs.ok sc_law_digit_pairs (fun vs H Q E h=>?_) (fun cdv A outer s H vs Q E hr h=>⟨_,tm_law_digit_pairs T hr,?_⟩)
 ·obtain ⟨c,m,most,rfl,_⟩:=h;rfl
 ·obtain ⟨c,m,most,rfl,hm,hmo,q⟩:=h
  show rd_law_digit_pairs K _ [some (.int m),some (.int c),some (.int most),none,none,none,none] H
  unfold rd_law_digit_pairs
  have big:(20000:Nat)≤sizeLine:=by decide
  walk_at "gs"
  intro pp H1 n1
  have x1:=Int.emod_nonneg c (show (most:Int)+1≠0 by omega)
  have x2:=Int.emod_lt_of_pos c (show 0<(most:Int)+1 by omega)
  obtain ⟨cnt,hcnt⟩:=Int.eq_ofNat_of_zero_le x1
  walk_at "gs"
  rw [hcnt]
  walk_at "gs"
  rw [Int.toNat_natCast]
  refine for_rngG (fun i σ H2=>Same H H2∧∃ (es:List En) (d:Int) (v5 v6:Option V),PL H2 pp es∧es.length=i∧TieOk m (psOf es)∧σ=[some (.int m),some (.int d),some (.int most),some (.ref pp),some (.int (cnt:Nat)),v5,v6]) ⟨n1.same,[],_,_,_,⟨n1.at_,fun e he=>by simp at he⟩,rfl,fun i q hq=>by simp [psOf] at hq,rfl⟩ ?_ ?_
  ·rintro i σ H2 hi ⟨s2,es,d,v5,v6,hP,hle,hT,rfl⟩
   walk_at "gs"
   obtain ⟨S,hS⟩:∃ S:Int,S=2 * ((m:Int)+1+(0+(i:Int))):=⟨_,rfl⟩
   rw [← hS]
   have y1:=Int.emod_nonneg d (show S≠0 by omega)
   have y2:=Int.emod_lt_of_pos d (show 0<S by omega)
   have z1:=Int.emod_nonneg (d / S) (show S≠0 by omega)
   have z2:=Int.emod_lt_of_pos (d / S) (show 0<S by omega)
   refine ⟨.inl ⟨by trivial,_,.of hP.lst⟩,by omega,⟨by omega,by omega⟩,by omega,by show 2≤sizeLine;decide,fun tp H4 n4=>?_⟩
   have hP4:=hP.same n4.same
   refine ⟨pp,_,_,rfl,rfl,hP4.lst,by rw [List.length_map];omega,⟨by omega,by omega⟩,⟨by omega,by omega⟩,(s2.trans n4.same).put n1.was,es ++ [(tp,(d % S,d / S % S))],_,_,_,hP4.put n4.at_,by rw [List.length_append,List.length_singleton];omega,?_,rfl⟩
   have e:psOf (es ++ [(tp,(d % S,d / S % S))])=psOf es ++ [(d % S,d / S % S)]:=List.map_append
   rw [e]
   refine hT.snoc ⟨?_,?_,?_,?_⟩ <;> (try rw [List.length_map]) <;> show _ <;> omega
  ·rintro σ H2 ⟨s2,es,d,v5,v6,hP,hle,hT,rfl⟩
   walk_at "gs"
   exact q pp es H2 s2 n1.was hP (by omega) hT
def sp_law_few (_:PySem.W.Frag):Sp:=fun vs H Q _=>∃ mask most:Nat,vs=[.int mask,.int most]∧most≤6∧Q (.bl (decide (MQ.pop mask≤most))) H
def rd_law_few (K:PySem.W.Frag):TS:=(tSeq (tAsg (tC (.int 0)) (gName 2))
  (tSeq (tWhile (tAnd (cTst (tOp (cI2 fun i j=>.bl (decide (j<i))) (cVar 0) (tC (.int 0)))) (cTst (tOp (cI2 fun i j=>.bl (decide (i≤j))) (cVar 2) (cVar 1)))) (tSeq (tAsg (tOp (cI2 fun i j=>.int (Builtin.bitAnd i j)) (cVar 0) (tOp (cI2 fun i j=>.int (i - j)) (cVar 0) (tC (.int 1)))) (gName 0))
  (tAsg (tOp cAdd (cVar 2) (tC (.int 1))) (gName 2))))
  (tRet (tOp (cI2 fun i j=>.bl (decide (i≤j))) (cVar 2) (cVar 1)))))
theorem tm_law_few (T:Txt K mg a) {cdv:Value}{A:Around}{outer:List Env}{s:Shared}{H:Hp}{E:XK} (hr:Room 0 (A.deeper (envOfC "_law_few" (defScope s_law_few) s.heap.objs.size a.f_law_few cdv))) :
  PSs (cxOf CX0 P w K mg base N_law_few "_law_few" (defScope s_law_few) a.f_law_few cdv A outer s H E).nox (defBody s_law_few) (rd_law_few K) :=
 (pss_cons (ps_set (i:=2) sc_law_few.nd rfl (by walk_at "o") pe_int)
   (pss_cons (ps_while PassesOwn.never (PW.pt (pw_and (t_cmp o_gt (cv 0) pe_int (nomark _)) (pw_and1 (t_cmp o_le (cv 2) (cv 1) (nomark _))))) (pss_cons (ps_set (i:=0) sc_law_few.nd rfl (by walk_at "o") (pe_op o_and (cv 0) (pe_op o_sub (cv 0) pe_int)))
   (pss_one (ps_set (i:=2) sc_law_few.nd rfl (by walk_at "o") (pe_op o_add (cv 2) pe_int)))))
   (pss_one (ps_ret (pe_cmpR o_le (cv 2) (cv 1) (nomark _))))))
theorem ok_law_few (T:Txt K mg a):FnOk P w K mg base CX0 1 a.f_law_few a.d_law_few ["_law_mask","_law_most"] (sp_law_few K):=by
 refine T.fn_law_few.ok sc_law_few (fun vs H Q E h=>?_) (fun cdv A outer s H vs Q E hr h=>⟨_,tm_law_few T hr,?_⟩)
 ·obtain ⟨mask,most,rfl,_⟩:=h;rfl
 ·obtain ⟨mask,most,rfl,hm,q⟩:=h
  show rd_law_few K _ [some (.int mask),some (.int most),none] H
  unfold rd_law_few
  walk_at "gs"
  refine ⟨fun m σ H2=>H2=H∧∃ x c:Nat,MQ.pop x+c=MQ.pop mask∧c≤most+1∧m=x∧σ=[some (.int x),some (.int most),some (.int c)],⟨_,rfl,mask,0,rfl,by omega,rfl,rfl⟩,?_⟩
  rintro m σ H2 ⟨rfl,x,c,hp,hc,rfl,rfl⟩
  walk_at "gs"
  by_cases c1:(0:Int)<(m:Int)
  ·rw [if_pos c1]
   have hd:=MQ.pop_drop m (by omega)
   by_cases c2:(c:Int)≤(most:Int)
   ·rw [if_pos c2]
    refine ⟨fun σ' H'=>H'=H2∧σ'=[some (.int ((m &&& (m - 1):Nat):Int)),some (.int most),some (.int ((c+1:Nat):Int))],?_,rfl,?_⟩
    ·rintro σ' H' ⟨rfl,rfl⟩
     have hle:m &&& (m - 1)≤m - 1:=Nat.and_le_right
     exact ⟨_,by omega,rfl,m &&& (m - 1),c+1,by omega,by omega,rfl,rfl⟩
    ·rw [show (m:Int) - 1=((m - 1:Nat):Int) by omega,and_nat]
     rfl
   ·rw [if_neg c2]
    rw [show decide (MQ.pop mask≤most)=decide ((c:Int)≤(most:Int)) by rw [decide_eq_decide];omega] at q
    exact q
  ·rw [if_neg c1]
   have m0:m=0:=by omega
   subst m0
   have p0:MQ.pop 0=0:=by rw [MQ.pop]
   rw [show decide (MQ.pop mask≤most)=decide ((c:Int)≤(most:Int)) by rw [decide_eq_decide];omega] at q
   exact q
def kvM (ks:List Nat):List (Key × V):=ks.map fun k:Nat=>((.inl (k:Int):Key),V.bl true)
theorem kvM_len (ks:List Nat):(kvM ks).length=ks.length:=List.length_map ..
theorem put_kvM (ks:List Nat) (k:Nat):putK (kvM ks) (.inl (k:Int)) (.bl true)=kvM (if k∈ks then ks else ks ++ [k]):=by
 unfold putK
 have ha:((kvM ks).any fun kv=>decide (kv.1=(.inl (k:Int):Key)))=decide (k∈ks):=by
  unfold kvM
  rw [List.any_map,Bool.eq_iff_iff,List.any_eq_true,decide_eq_true_iff]
  constructor
  ·rintro ⟨x,hx,h⟩
   have h:=of_decide_eq_true h
   have:x=k:=by have:=Sum.inl.inj h;omega
   exact this ▸ hx
  ·exact fun h=>⟨k,h,decide_eq_true rfl⟩
 rw [ha]
 by_cases h:k∈ks
 ·rw [if_pos (decide_eq_true h),if_pos h]
  unfold kvM
  rw [List.map_map]
  refine List.map_congr_left fun x _=>?_
  show (if ((.inl (x:Int):Key),V.bl true).1=.inl (k:Int) then (((.inl (x:Int):Key),V.bl true).1,V.bl true) else _)=_
  split <;> rfl
 ·rw [if_neg (by simpa using h),if_neg h]
  unfold kvM
  rw [List.map_append]
  rfl
def sp_law_cuts (_:PySem.W.Frag):Sp:=fun vs H Q _=>∃ (p q:Addr) (m1 m2:List Nat) (s:Nat),vs=[.ref p,.ref q,.int s]∧H p=some (.lst (m1.map nv))∧H q=some (.lst (m2.map nv))∧(∀ x∈m1,x<2 ^ 17)∧(∀ x∈m2,x<2 ^ 17)∧s≤6 ∧
 ∀ l (ms:List Nat) H',Same H H'→H l=none→H' l=some (.lst (ms.map nv))→ms.length≤2 ^ 17→(∀ a,a∈ms ↔ ∃ x∈m1,∃ y∈m2,a=x ||| y∧MQ.pop a≤s)→Q (.ref l) H'
theorem take_mem {xs:List Nat}{i x y:Nat} (h:xs[i]? = some x):y∈xs.take (i+1) ↔ y∈xs.take i∨y=x:=by
 rw [List.take_add_one,h,List.mem_append]
 show _∨y∈[x] ↔ _
 rw [List.mem_singleton]
def rd_law_cuts (K:PySem.W.Frag):TS:=(tSeq (tAsg tDNewK (gName 3))
  (tSeq (tFor (iList K (cVar 0)) (gName 4) (tFor (iList K (cVar 1)) (gName 5) (tIfS (cTru K (tCall (sp_law_few K) [] E0 (tCons (tOp (cI2 fun i j=>.int (Builtin.bitOr i j)) (cVar 4) (cVar 5)) (tCons (cVar 2) tNil)))) (sDPut (cVar 3) (tOp (cI2 fun i j=>.int (Builtin.bitOr i j)) (cVar 4) (cVar 5)) (tC (.bl true))) tNext)))
  (tRet (cListKeys (cVar 3)))))
theorem tm_law_cuts (T:Txt K mg a) {cdv:Value}{A:Around}{outer:List Env}{s:Shared}{H:Hp}{E:XK} (hr:Room 1 (A.deeper (envOfC "_law_cuts" (defScope s_law_cuts) s.heap.objs.size a.f_law_cuts cdv))) :
  PSs (cxOf CX0 P w K mg base N_law_cuts "_law_cuts" (defScope s_law_cuts) a.f_law_cuts cdv A outer s H E).nox (defBody s_law_cuts) (rd_law_cuts K) :=
 (pss_cons (ps_set (i:=3) sc_law_cuts.nd rfl (by walk_at "o") pe_dnewK)
   (pss_cons (ps_for PassesOwn.never rfl (pi_list (cv 0)) (pg_name (i:=4) sc_law_cuts.nd rfl (by walk_at "o")) (pss_one (ps_for PassesOwn.never rfl (pi_list (cv 1)) (pg_name (i:=5) sc_law_cuts.nd rfl (by walk_at "o")) (pss_one (ps_if (pt_tru (pe_call (ok_law_few T) (hr.mono (by decide)) rfl T.mg_law_few T.fn_law_few.kp T.bi_law_few .nil pass0 (pa_cons (pe_op o_or (cv 4) (cv 5)) (pa_cons (cv 2) pa_nil)))) (pss_one (ps_dput (hu_of hr) (cv 3) (pe_op o_or (cv 4) (cv 5)) pe_bl rfl)) pss_nil)))))
   (pss_one (ps_ret (e_listkeys rfl rfl T.no_list (cv 3))))))
theorem ok_law_cuts (T:Txt K mg a):FnOk P w K mg base CX0 2 a.f_law_cuts a.d_law_cuts ["_law_ones","_law_others","_law_size"] (sp_law_cuts K):=by
 refine T.fn_law_cuts.ok sc_law_cuts (fun vs H Q E h=>?_) (fun cdv A outer s H vs Q E hr h=>⟨_,tm_law_cuts T hr,?_⟩)
 ·obtain ⟨p,q,m1,m2,s,rfl,_⟩:=h;rfl
 ·obtain ⟨p,q,m1,m2,s,rfl,h1,h2,b1,b2,s6,k⟩:=h
  show rd_law_cuts K _ [some (.ref p),some (.ref q),some (.int s),none,none,none] H
  unfold rd_law_cuts
  have big:(200000:Nat)≤sizeLine:=by decide
  walk_at "gs"
  intro dp H1 n1
  walk_at "gs"
  have h11:=n1.same _ _ h1
  have h21:=n1.same _ _ h2
  have nlen:∀ {ks:List Nat},ks.Nodup→(∀ a∈ks,a<2 ^ 17)→ks.length≤131072:=fun nd h=>nodup_lt nd h
  refine ⟨⟨_,.of h11⟩,for_listG (xs:=m1.map nv) (fun i σ H2=>Same H H2∧∃ (ks:List Nat) (v4 v5:Option V),H2 dp=some (.dK (kvM ks))∧ks.Nodup∧(∀ a∈ks,a<2 ^ 17)∧(∀ a,a∈ks ↔ ∃ x∈m1.take i,∃ y∈m2,a=x ||| y∧MQ.pop a≤s)∧σ=[some (.ref p),some (.ref q),some (.int s),some (.ref dp),v4,v5]) ⟨n1.same,[],_,_,n1.at_,List.nodup_nil,fun a ha=>by simp at ha,fun a=>by simp,rfl⟩ ?_ ?_ ?_⟩
  ·rintro i σ H2 _ ⟨s2,_⟩
   exact .of (s2 _ _ h1)
  ·rintro i v σ H2 hv ⟨s2,ks,v4,v5,hd2,nd2,lt2,mem2,rfl⟩
   obtain ⟨x,hx,rfl⟩:=get_map_of hv
   have bx:=b1 x (List.mem_of_getElem? hx)
   unfold nv
   walk_at "gs"
   have h22:=s2 _ _ h2
   refine ⟨⟨_,.of h22⟩,for_listG (xs:=m2.map nv) (fun j σ H3=>Same H H3∧∃ (ks:List Nat) (v5:Option V),H3 dp=some (.dK (kvM ks))∧ks.Nodup∧(∀ a∈ks,a<2 ^ 17)∧(∀ a,a∈ks ↔ (∃ x∈m1.take i,∃ y∈m2,a=x ||| y∧MQ.pop a≤s)∨∃ y∈m2.take j,a=x ||| y∧MQ.pop a≤s)∧σ=[some (.ref p),some (.ref q),some (.int s),some (.ref dp),some (.int (x:Nat)),v5]) ⟨s2,ks,_,hd2,nd2,lt2,fun a=>by rw [mem2];simp,rfl⟩ ?_ ?_ ?_⟩
   ·rintro j σ H3 _ ⟨s3,_⟩
    exact .of (s3 _ _ h2)
   ·rintro j v σ H3 hv3 ⟨s3,ks3,v5',hd3,nd3,lt3,mem3,rfl⟩
    obtain ⟨y,hy,rfl⟩:=get_map_of hv3
    have byy:=b2 y (List.mem_of_getElem? hy)
    unfold nv
    walk_at "gs"
    rw [or_nat]
    refine ⟨x ||| y,s,rfl,s6,?_⟩
    by_cases hp:MQ.pop (x ||| y)≤s
    ·rw [decide_eq_true hp]
     walk_at "gs"
     refine ⟨dp,_,rfl,DPut.k (k:=.inl ((x ||| y:Nat):Int)) hd3 (by rw [kvM_len];have:=nlen nd3 lt3;omega),s3.put n1.was,(if x ||| y∈ks3 then ks3 else ks3 ++ [x ||| y]),_,by rw [upd_same,put_kvM],?_,?_,?_,rfl⟩
     ·split
      ·exact nd3
      ·rename_i hn
       exact List.nodup_append.mpr ⟨nd3,by simp,fun a ha b hb e=>hn (by rw [List.mem_singleton] at hb;rw [← hb,← e];exact ha)⟩
     ·intro a ha
      split at ha
      ·exact lt3 a ha
      ·rcases List.mem_append.mp ha with z | z
       ·exact lt3 a z
       ·rw [List.mem_singleton] at z
        subst z
        exact Nat.or_lt_two_pow bx byy
     ·intro a
      have:a∈(if x ||| y∈ks3 then ks3 else ks3 ++ [x ||| y]) ↔ a∈ks3∨a=x ||| y:=by
       split
       ·rename_i hn
        exact ⟨.inl,fun z=>z.elim id fun e=>e ▸ hn⟩
       ·rw [List.mem_append,List.mem_singleton]
      rw [this,mem3]
      constructor
      ·rintro ((z | ⟨y',hy',z⟩) | rfl)
       ·exact .inl z
       ·exact .inr ⟨y',(take_mem hy).mpr (.inl hy'),z⟩
       ·exact .inr ⟨y,(take_mem hy).mpr (.inr rfl),rfl,hp⟩
      ·rintro (z | ⟨y',hy',e,z⟩)
       ·exact .inl (.inl z)
       ·rcases (take_mem hy).mp hy' with g | rfl
        ·exact .inl (.inr ⟨y',g,e,z⟩)
        ·exact .inr e
    ·rw [decide_eq_false hp]
     walk_at "go"
     refine ⟨s3,ks3,_,hd3,nd3,lt3,fun a=>?_,rfl⟩
     rw [mem3]
     constructor
     ·rintro (z | ⟨y',hy',z⟩)
      ·exact .inl z
      ·exact .inr ⟨y',(take_mem hy).mpr (.inl hy'),z⟩
     ·rintro (z | ⟨y',hy',e,z⟩)
      ·exact .inl z
      ·rcases (take_mem hy).mp hy' with g | rfl
       ·exact .inr ⟨y',g,e,z⟩
       ·exact absurd (e ▸ z) hp
   ·rintro σ H3 ⟨s3,ks3,v5',hd3,nd3,lt3,mem3,rfl⟩
    rw [List.length_map,List.take_length] at mem3
    refine ⟨s3,ks3,_,_,hd3,nd3,lt3,fun a=>?_,rfl⟩
    rw [mem3]
    constructor
    ·rintro (⟨x',hx',z⟩ | z)
     ·exact ⟨x',(take_mem hx).mpr (.inl hx'),z⟩
     ·exact ⟨x,(take_mem hx).mpr (.inr rfl),z⟩
    ·rintro ⟨x',hx',z⟩
     rcases (take_mem hx).mp hx' with g | rfl
     ·exact .inl ⟨x',g,z⟩
     ·exact .inr z
  ·rintro σ H2 ⟨s2,ks,v4,v5,hd2,nd2,lt2,mem2,rfl⟩
   rw [List.length_map,List.take_length] at mem2
   walk_at "gs"
   refine ⟨dp,_,rfl,hd2,fun l H3 n3=>?_⟩
   have e3:(kvM ks).map (fun kv=>kV kv.1)=ks.map nv:=by unfold kvM;rw [List.map_map];rfl
   rw [e3] at n3
   exact k l ks H3 (s2.trans n3.same) (s2.nil n3.was) n3.at_ (nlen nd2 lt2) mem2
def sp_law_highest (_:PySem.W.Frag):Sp:=fun vs H Q _=>∃ (mask:Nat) (p:Addr) (marks:List Nat),vs=[.int mask,.ref p]∧H p=some (.lst (marks.map nv))∧marks.length≤100∧∀ h,MQ.High mask marks h→Q (nv h) H
def rd_law_highest (K:PySem.W.Frag):TS:=(tSeq (tAsg (tC (.int 0)) (gName 2))
  (tSeq (tFor (iRng1 (tCons (tCB (cLen K) (tCons (cVar 1) tNil)) tNil)) (gName 3) (tIfS (cTst (tOp (cEq K) (tOp (cI2 fun i j=>.int (Builtin.bitAnd i j)) (tOp (cI2c (fun _ j=>0≤j) fun i j=>.int (i / 2 ^ j.toNat)) (cVar 0) (cVar 3)) (tC (.int 1))) (tC (.int 1)))) (tAsg (tCB cMax (tCons (cVar 2) (tCons (tOp (cIx K) (cVar 1) (cVar 3)) tNil))) (gName 2)) tNext))
  (tRet (cVar 2))))
theorem tm_law_highest (T:Txt K mg a) {cdv:Value}{A:Around}{outer:List Env}{s:Shared}{H:Hp}{E:XK} (hr:Room 0 (A.deeper (envOfC "_law_highest" (defScope s_law_highest) s.heap.objs.size a.f_law_highest cdv))) :
  PSs (cxOf CX0 P w K mg base N_law_highest "_law_highest" (defScope s_law_highest) a.f_law_highest cdv A outer s H E).nox (defBody s_law_highest) (rd_law_highest K) :=
 (pss_cons (ps_set (i:=2) sc_law_highest.nd rfl (by walk_at "o") pe_int)
   (pss_cons (ps_for PassesOwn.never rfl (pi_range1 rfl T.no_range (pa_cons (pe_callB c_len (by rfl) T.no_len PySem.boot_len (pa_cons (cv 1) pa_nil)) pa_nil)) (pg_name (i:=3) sc_law_highest.nd rfl (by walk_at "o")) (pss_one (ps_if (t_cmp (o_eq (hr8 hr)) (pe_op o_and (pe_op o_shr (cv 0) (cv 3)) pe_int) pe_int (nomark _)) (pss_one (ps_set (i:=2) sc_law_highest.nd rfl (by walk_at "o") (pe_callB (c_max rfl) (by rfl) T.no_max PyProof.Rows.boot_max (pa_cons (cv 2) (pa_cons (pe_ix i_seq (cv 1) (cv 3) (fun _ _=>rfl)) pa_nil))))) pss_nil)))
   (pss_one (ps_ret (cv 2)))))
theorem ok_law_highest (T:Txt K mg a):FnOk P w K mg base CX0 1 a.f_law_highest a.d_law_highest ["_law_mask","_law_marks"] (sp_law_highest K):=by
 refine T.fn_law_highest.ok sc_law_highest (fun vs H Q E h=>?_) (fun cdv A outer s H vs Q E hr h=>⟨_,tm_law_highest T hr,?_⟩)
 ·obtain ⟨mask,p,marks,rfl,_⟩:=h;rfl
 ·obtain ⟨mask,p,marks,rfl,hm,hz,q⟩:=h
  show rd_law_highest K _ [some (.int mask),some (.ref p),none,none] H
  unfold rd_law_highest
  have big:(20000:Nat)≤sizeLine:=by decide
  walk_at "gs"
  refine .inl ⟨_,.inl (.of hm),?_⟩
  rw [List.length_map]
  walk_at "gs"
  rw [Int.toNat_natCast]
  refine for_rngG (fun i σ H2=>H2=H∧∃ (h:Nat) (v3:Option V),(∀ j,j<i→MQ.bitM mask j→marks.getD j 0≤h)∧(h=0∨∃ j,j<i∧MQ.bitM mask j∧marks.getD j 0=h)∧σ=[some (.int mask),some (.ref p),some (.int h),v3]) ⟨rfl,0,_,fun j hj=>absurd hj (Nat.not_lt_zero _),.inl rfl,rfl⟩ ?_ ?_
  ·rintro i σ H2 hi ⟨rfl,h,v3,hu,hh,rfl⟩
   walk_at "gs"
   have eb:Builtin.bitAnd ((mask:Int) / 2 ^ (0+(i:Int)).toNat) 1=((mask / 2 ^ i % 2:Nat):Int):=by
    have e1:(mask:Int) / 2 ^ (0+(i:Int)).toNat=((mask / 2 ^ i:Nat):Int):=by
     rw [show (0+(i:Int)).toNat=i by omega]
     simp
    have e2:=and_nat (mask / 2 ^ i) 1
    rw [show ((1:Nat):Int)=1 from rfl] at e2
    rw [e1,e2,Nat.and_one_is_mod]
   rw [eb]
   have hi':atI (marks.map nv) (0+(i:Int))=some (nv (marks.getD i 0)):=by rw [Int.zero_add];exact at_nvD hi
   by_cases c:((mask / 2 ^ i % 2:Nat):Int)=1
   ·rw [if_pos c]
    have cb:MQ.bitM mask i:=by unfold MQ.bitM;omega
    refine ⟨_,_,.inl (.of hm),hi',?_⟩
    unfold nv
    walk_at "gs"
    refine ⟨(if marks.getD i 0 > h then marks.getD i 0 else h),some (.int (0+(i:Int))),fun j hj hb=>?_,?_,?_⟩
    ·rcases Nat.lt_or_ge j i with z | z
     ·have:=hu j z hb
      split <;> omega
     ·have:j=i:=by omega
      subst this
      split <;> omega
    ·by_cases g:marks.getD i 0 > h
     ·rw [if_pos g];exact .inr ⟨i,by omega,cb,rfl⟩
     ·rw [if_neg g]
      rcases hh with z | ⟨j,hj,hb,z⟩
      ·exact .inl z
      ·exact .inr ⟨j,by omega,hb,z⟩
    ·have:(if ((marks.getD i 0:Nat):Int) > (h:Int) then ((marks.getD i 0:Nat):Int) else (h:Int))=((if marks.getD i 0 > h then marks.getD i 0 else h:Nat):Int):=by
      split <;> split <;> omega
     rw [this]
   ·rw [if_neg c]
    have cb:¬ MQ.bitM mask i:=by unfold MQ.bitM;omega
    refine ⟨trivial,h,_,fun j hj hb=>?_,?_,rfl⟩
    ·rcases Nat.lt_or_ge j i with z | z
     ·exact hu j z hb
     ·have:j=i:=by omega
      exact absurd (this ▸ hb) cb
    ·rcases hh with z | ⟨j,hj,hb,z⟩
     ·exact .inl z
     ·exact .inr ⟨j,by omega,hb,z⟩
  ·rintro σ H2 ⟨rfl,h,v3,hu,hh,rfl⟩
   walk_at "gs"
   exact q h ⟨hu,hh⟩
def sp_law (K:PySem.W.Frag):Sp:=fun vs H Q _=>∃ (p:Addr) (ns:List Int),vs=[.ref p]∧SqL K H p (ns.map V.int)∧ns.length≤63∧∀ H',Q (.bl true) H'
theorem lo_two {m:Nat}{P:List MF.Pr}{j:Nat}{p:MF.Pr} (h:P[j]? = some p):∀ l,l∈loOf (mazeL m P) (m+1+j) ↔ l=(p.1 / 2).toNat∨l=(p.2 / 2).toNat:=fun l=>by
 rw [lo_high h]
 simp
def rd_law (a:Adr) (K:PySem.W.Frag):TS:=(tSeq (tAsg (tOp cAdd (tC (.int 3)) (tOp (cI2c (fun _ j=>0<j) fun i j=>.int (i % j)) (tCall (sp_law_cell_at K) [] E0 (tCons (cVar 0) (tCons (tC (.int 0)) tNil))) (tC (.int 5)))) (gName 1))
  (tSeq (tAsg (tOp cAdd (tC (.int 2)) (tOp (cI2c (fun _ j=>0<j) fun i j=>.int (i % j)) (tOp (cI2c CDiv fun i j=>.int (i / j)) (tCall (sp_law_cell_at K) [] E0 (tCons (cVar 0) (tCons (tC (.int 1)) tNil))) (tC (.int 3))) (tC (.int 3)))) (gName 2))
  (tSeq (tAsg (tC (.int 9)) (gName 3))
  (tMid (tIfS (cTst (tOp (cEq K) (tOp (cI2c (fun _ j=>0<j) fun i j=>.int (i % j)) (tCall (sp_law_cell_at K) [] E0 (tCons (cVar 0) (tCons (tC (.int 1)) tNil))) (tC (.int 3))) (tC (.int 2)))) (tSeq (tAsg (tOp cAdd (tC (.int 5)) (tOp (cI2c (fun _ j=>0<j) fun i j=>.int (i % j)) (tOp (cI2c CDiv fun i j=>.int (i / j)) (tCall (sp_law_cell_at K) [] E0 (tCons (cVar 0) (tCons (tC (.int 1)) tNil))) (tC (.int 3))) (tC (.int 2)))) (gName 2))
  (tAsg (tC (.int 7)) (gName 3))) tNext)
  (tMid (tAsg (tCall (sp_law_digit_pairs K) [] E0 (tCons (cVar 1) (tCons (tCall (sp_law_cell_at K) [] E0 (tCons (cVar 0) (tCons (tC (.int 2)) tNil))) (tCons (cVar 3) tNil)))) (gName 4))
  (tMid (tIfS (cTst (tOp (cEq K) (tOp (cI2c (fun _ j=>0<j) fun i j=>.int (i % j)) (tOp (cI2c CDiv fun i j=>.int (i / j)) (tCall (sp_law_cell_at K) [] E0 (tCons (cVar 0) (tCons (tC (.int 1)) tNil))) (tC (.int 9))) (tC (.int 2))) (tC (.int 0)))) (tAsg (tCall (sp_law_pairs K) [] E0 (tCons (cVar 1) (tCons (tCall (sp_law_mixed K) [] E0 (tCons (cVar 0) (tCons (tC (.int 3)) (tCons (tOp cAdd (tC (.int 1)) (tOp (cI2c (fun _ j=>0<j) fun i j=>.int (i % j)) (tOp (cI2c CDiv fun i j=>.int (i / j)) (tCall (sp_law_cell_at K) [] E0 (tCons (cVar 0) (tCons (tC (.int 1)) tNil))) (tC (.int 18))) (cVar 3))) tNil)))) tNil))) (gName 4)) tNext)
  (tMid (tAsg (tCall (sp_law_fold a K) [] E0 (tCons (cVar 1) (tCons (cVar 4) tNil))) (gTup K 2 (gCons (gName 5) (gCons (gName 6) gNil))))
  (tMid (tAsg (tMake a.c_Labels (sp_Labels___init__ a K) [] E0 (tCons (cVar 5) (tCons (cVar 2) tNil))) (gName 7))
  (tSeq (tAsg (tLst tNil) (gName 8))
  (tSeq (tAsg (tLst tNil) (gName 9))
  (tSeq (tFor (iRng1 (tCons (tCB (cLen K) (tCons (cVar 6) tNil)) tNil)) (gName 10) (tSeq (tAsg (tC (.int 0)) (gName 11))
  (tSeq (tAsg (tLst tNil) (gName 12))
  (tMid (tIfS (cTst (tOp cIsNot (tOp (cIx K) (cVar 6) (cVar 10)) (tC .non))) (tSeq (tAsg (tCall (sp_law_cuts K) [] E0 (tCons (tOp (cIx K) (cVar 9) (tOp (cI2c CDiv fun i j=>.int (i / j)) (tOp (cIx K) (tOp (cIx K) (cVar 6) (cVar 10)) (tC (.int 0))) (tC (.int 2)))) (tCons (tOp (cIx K) (cVar 9) (tOp (cI2c CDiv fun i j=>.int (i / j)) (tOp (cIx K) (tOp (cIx K) (cVar 6) (cVar 10)) (tC (.int 1))) (tC (.int 2)))) (tCons (cVar 2) tNil)))) (gName 12))
  (tAsg (tOp cAdd (tC (.int 1)) (tCB (cMinL K) (tCons (tComp (iList K (cVar 12)) 1 [8] (gName 0) tTrue (tCall (sp_law_highest K) [] E0 (tCons (cVar 0) (tCons (cVar 1) tNil)))) tNil))) (gName 11))) tNext)
  (tSeq (tDrop (tBM K "list" rAppend (cVar 8) (tCons (cVar 11) tNil)))
  (tSeq (tDrop (tBM K "list" rAppend (cVar 9) (tCons (tOp cAdd (cVar 12) (tLst (tCons (tOp (cI2c CShl fun i j=>.int (i * 2 ^ j.toNat)) (tC (.int 1)) (cVar 10)) tNil))) tNil)))
  (tSeq (tAsg (tMeth a.c_Labels "label" (sp_Labels_label a K) [] E0 (cVar 7) (tCons (cVar 10) tNil)) (gName 13))
  (tIfS (tOr (tNot (cTru K (tCB (cIsinst K) (tCons (cVar 13) (tCons (tC (.ty "int")) tNil))))) (tOr (cTru K (tCB (cIsinst K) (tCons (cVar 13) (tCons (tC (.ty "bool")) tNil)))) (cTst (tOp (cNe K) (cVar 13) (cVar 11))))) (tRet (tC (.bl false))) tNext))))))))
  (tRet (tC (.bl true))))))))))))))
theorem tm_law (T:Txt K mg a) {cdv:Value}{A:Around}{outer:List Env}{s:Shared}{H:Hp}{E:XK} (hr:Room 7 (A.deeper (envOfC "law" (defScope s_law) s.heap.objs.size a.f_law cdv))) :
  PSs (cxOf CX0 P w K mg base N_law "law" (defScope s_law) a.f_law cdv A outer s H E).nox (defBody s_law) (rd_law a K) :=
 (pss_cons (ps_set (i:=1) sc_law.nd rfl (by walk_at "o") (pe_op o_add pe_int (pe_op o_mod (pe_call (ok_law_cell_at T) (hr.mono (by decide)) rfl T.mg_law_cell_at T.fn_law_cell_at.kp T.bi_law_cell_at .nil pass0 (pa_cons (cv 0) (pa_cons pe_int pa_nil))) pe_int)))
   (pss_cons (ps_set (i:=2) sc_law.nd rfl (by walk_at "o") (pe_op o_add pe_int (pe_op o_mod (pe_op o_fdiv (pe_call (ok_law_cell_at T) (hr.mono (by decide)) rfl T.mg_law_cell_at T.fn_law_cell_at.kp T.bi_law_cell_at .nil pass0 (pa_cons (cv 0) (pa_cons pe_int pa_nil))) pe_int) pe_int)))
   (pss_cons (ps_set (i:=3) sc_law.nd rfl (by walk_at "o") pe_int)
   (pss_mid (ps_if (t_cmp (o_eq (hr8 hr)) (pe_op o_mod (pe_call (ok_law_cell_at T) (hr.mono (by decide)) rfl T.mg_law_cell_at T.fn_law_cell_at.kp T.bi_law_cell_at .nil pass0 (pa_cons (cv 0) (pa_cons pe_int pa_nil))) pe_int) pe_int (nomark _)) (pss_cons (ps_set (i:=2) sc_law.nd rfl (by walk_at "o") (pe_op o_add pe_int (pe_op o_mod (pe_op o_fdiv (pe_call (ok_law_cell_at T) (hr.mono (by decide)) rfl T.mg_law_cell_at T.fn_law_cell_at.kp T.bi_law_cell_at .nil pass0 (pa_cons (cv 0) (pa_cons pe_int pa_nil))) pe_int) pe_int)))
   (pss_one (ps_set (i:=3) sc_law.nd rfl (by walk_at "o") pe_int))) pss_nil)
   (pss_mid (ps_set (i:=4) sc_law.nd rfl (by walk_at "o") (pe_call (ok_law_digit_pairs T) (hr.mono (by decide)) rfl T.mg_law_digit_pairs T.fn_law_digit_pairs.kp T.bi_law_digit_pairs .nil pass0 (pa_cons (cv 1) (pa_cons (pe_call (ok_law_cell_at T) (hr.mono (by decide)) rfl T.mg_law_cell_at T.fn_law_cell_at.kp T.bi_law_cell_at .nil pass0 (pa_cons (cv 0) (pa_cons pe_int pa_nil))) (pa_cons (cv 3) pa_nil)))))
   (pss_mid (ps_if (t_cmp (o_eq (hr8 hr)) (pe_op o_mod (pe_op o_fdiv (pe_call (ok_law_cell_at T) (hr.mono (by decide)) rfl T.mg_law_cell_at T.fn_law_cell_at.kp T.bi_law_cell_at .nil pass0 (pa_cons (cv 0) (pa_cons pe_int pa_nil))) pe_int) pe_int) pe_int (nomark _)) (pss_one (ps_set (i:=4) sc_law.nd rfl (by walk_at "o") (pe_call (ok_law_pairs T) (hr.mono (by decide)) rfl T.mg_law_pairs T.fn_law_pairs.kp T.bi_law_pairs .nil pass0 (pa_cons (cv 1) (pa_cons (pe_call (ok_law_mixed T) (hr.mono (by decide)) rfl T.mg_law_mixed T.fn_law_mixed.kp T.bi_law_mixed .nil pass0 (pa_cons (cv 0) (pa_cons pe_int (pa_cons (pe_op o_add pe_int (pe_op o_mod (pe_op o_fdiv (pe_call (ok_law_cell_at T) (hr.mono (by decide)) rfl T.mg_law_cell_at T.fn_law_cell_at.kp T.bi_law_cell_at .nil pass0 (pa_cons (cv 0) (pa_cons pe_int pa_nil))) pe_int) (cv 3))) pa_nil)))) pa_nil))))) pss_nil)
   (pss_mid (ps_asg (pe_call (ok_law_fold T) (hr.mono (by decide)) rfl T.mg_law_fold T.fn_law_fold.kp T.bi_law_fold .nil pass0 (pa_cons (cv 1) (pa_cons (cv 4) pa_nil))) (pg_tup rfl (pgs_cons (pg_name (i:=5) sc_law.nd rfl (by walk_at "o")) (pgs_cons (pg_name (i:=6) sc_law.nd rfl (by walk_at "o")) pgs_nil))))
   (pss_mid (ps_set (i:=7) sc_law.nd rfl (by walk_at "o") (pe_make T.mk_Labels (ok_Labels___init__ T) (hr.mono (by decide)) rfl T.mg_Labels T.bi_Labels___init__ .nil passN (pa_cons (cv 5) (pa_cons (cv 2) pa_nil))))
   (pss_cons (ps_set (i:=8) sc_law.nd rfl (by walk_at "o") (pe_lst pa_nil))
   (pss_cons (ps_set (i:=9) sc_law.nd rfl (by walk_at "o") (pe_lst pa_nil))
   (pss_cons (ps_for PassesOwn.never rfl (pi_range1 rfl T.no_range (pa_cons (pe_callB c_len (by rfl) T.no_len PySem.boot_len (pa_cons (cv 6) pa_nil)) pa_nil)) (pg_name (i:=10) sc_law.nd rfl (by walk_at "o")) (pss_cons (ps_set (i:=11) sc_law.nd rfl (by walk_at "o") pe_int)
   (pss_cons (ps_set (i:=12) sc_law.nd rfl (by walk_at "o") (pe_lst pa_nil))
   (pss_mid (ps_if (t_cmp o_isnot (pe_ix i_seq (cv 6) (cv 10) (fun _ _=>rfl)) pe_non (nomark _)) (pss_cons (ps_set (i:=12) sc_law.nd rfl (by walk_at "o") (pe_call (ok_law_cuts T) (hr.mono (by decide)) rfl T.mg_law_cuts T.fn_law_cuts.kp T.bi_law_cuts .nil pass0 (pa_cons (pe_ix i_seq (cv 9) (pe_op o_fdiv (pe_ix i_seq (pe_ix i_seq (cv 6) (cv 10) (fun _ _=>rfl)) pe_int (fun _ _=>rfl)) pe_int) (fun _ _=>rfl)) (pa_cons (pe_ix i_seq (cv 9) (pe_op o_fdiv (pe_ix i_seq (pe_ix i_seq (cv 6) (cv 10) (fun _ _=>rfl)) pe_int (fun _ _=>rfl)) pe_int) (fun _ _=>rfl)) (pa_cons (cv 2) pa_nil)))))
   (pss_one (ps_set (i:=11) sc_law.nd rfl (by walk_at "o") (pe_op o_add pe_int (pe_callB (c_minL rfl) (by rfl) T.no_min PyProof.Rows.boot_min (pa_cons (pe_comp (N:=["_law_mask","_law_marks"]) (k:=1) (sel:=[8]) (CScope.of (defScope s_law).names (by decide +kernel)) (CNames.of N_law (by decide +kernel)) rfl (pi_list (cv 12)) (fun _ _ _ _=>(pg_name (i:=0) (show List.Nodup (["_law_mask","_law_marks"]:List Str) by decide +kernel) rfl (by walk_at "o"))) (fun _ _ _ _=>pts_nil) (fun _ _ _ _=>(pe_call (ok_law_highest T) (hr.mono (by decide)) rfl T.mg_law_highest T.fn_law_highest.kp T.bi_law_highest .nil pass0 (pa_cons (cv 0) (pa_cons (cv 1) pa_nil))))) pa_nil)))))) pss_nil)
   (pss_cons (ps_expr (pe_bm PySem.F.plainAttrs_list PySem.F.slot_list_append PySem.F.type_list_append (mtr mt_append) (cv 8) (pa_cons (cv 11) pa_nil)))
   (pss_cons (ps_expr (pe_bm PySem.F.plainAttrs_list PySem.F.slot_list_append PySem.F.type_list_append (mtr mt_append) (cv 9) (pa_cons (pe_op o_add (cv 12) (pe_lst (pa_cons (pe_op o_shlB pe_int (cv 10)) pa_nil))) pa_nil)))
   (pss_cons (ps_set (i:=13) sc_law.nd rfl (by walk_at "o") (pe_meth (cv 7) T.cl_Labels T.me_Labels_label (ok_Labels_label T) (hr.mono (by decide)) T.bi_Labels_label .nil passN (pa_cons (cv 10) pa_nil)))
   (pss_one (ps_if (PW.pt (pw_or (pt_not (pt_tru (pe_callB c_isinst (by rfl) T.no_isinstance PyProof.Rows.boot_isinstance (pa_cons (cv 13) (pa_cons (pe_bltn (v:=.ty "int") rfl T.no_int PyProof.Rows.boot_int rfl) pa_nil))))) (pw_or (pt_tru (pe_callB c_isinst (by rfl) T.no_isinstance PyProof.Rows.boot_isinstance (pa_cons (cv 13) (pa_cons (pe_bltn (v:=.ty "bool") rfl T.no_bool PyProof.Rows.boot_bool rfl) pa_nil)))) (pw_or1 (t_cmp (o_ne (hr8 hr)) (cv 13) (cv 11) (nomark _)))))) (pss_one (ps_ret pe_bl)) pss_nil)))))))))
   (pss_one (ps_ret pe_bl)))))))))))))
theorem ok_law (T:Txt K mg a):FnOk P w K mg base CX0 8 a.f_law a.d_law ["_law_script"] (sp_law K):=by
 refine T.fn_law.ok sc_law (fun vs H Q E h=>?_) (fun cdv A outer s H vs Q E hr h=>⟨_,tm_law T hr,?_⟩)
 ·obtain ⟨p,ns,rfl,_⟩:=h;rfl
 ·obtain ⟨p,ns,rfl,hS,hl,k⟩:=h
  show rd_law a K _ [some (.ref p),none,none,none,none,none,none,none,none,none,none,none,none,none] H
  unfold rd_law
  have big:(200000:Nat)≤sizeLine:=by decide
  walk_at "gs"
  refine ⟨p,ns,0,rfl,hS,fun c0=>?_⟩
  obtain ⟨m,hmm⟩:=Int.eq_ofNat_of_zero_le (by omega:0≤3+c0 % 5)
  have m1:3≤m:=by omega
  have m7:m≤7:=by omega
  walk_at "gs"
  rw [hmm]
  refine ⟨p,ns,1,rfl,hS,fun c1=>?_⟩
  walk_at "gs"
  refine mid (fun σ' H'=>H'=H∧∃ (s most:Nat),2≤s∧s≤6∧1≤most∧most≤9∧σ'=[some (.ref p),some (.int m),some (.int s),some (.int most),none,none,none,none,none,none,none,none,none,none]) ?_ ?_
  ·intro N hN
   walk_at "gs"
   refine ⟨p,ns,1,rfl,hS,fun c2=>?_⟩
   walk_at "gs"
   by_cases c:c2 % 3=2
   ·rw [if_pos c]
    refine ⟨p,ns,1,rfl,hS,fun c3=>?_⟩
    obtain ⟨s,hs⟩:=Int.eq_ofNat_of_zero_le (by omega:0≤5+c3 / 3 % 2)
    walk_at "gs"
    rw [hs]
    exact hN _ _ ⟨rfl,s,7,by omega,by omega,by omega,by omega,rfl⟩
   ·rw [if_neg c]
    obtain ⟨s,hs⟩:=Int.eq_ofNat_of_zero_le (by omega:0≤2+c1 / 3 % 3)
    rw [hs]
    exact hN _ _ ⟨rfl,s,9,by omega,by omega,by omega,by omega,rfl⟩
  rintro σ0 H0 ⟨rfl,s,most,s2,s6,mo1,mo9,rfl⟩
  refine mid (fun σ' H'=>Same H0 H'∧∃ (pp:Addr) (ep:List En),PL H' pp ep∧ep.length≤9∧TieOk m (psOf ep)∧σ'=[some (.ref p),some (.int m),some (.int s),some (.int most),some (.ref pp),none,none,none,none,none,none,none,none,none]) ?_ ?_
  ·intro N hN
   walk_at "gs"
   refine ⟨p,ns,2,rfl,hS,fun c2=>?_⟩
   refine ⟨c2,m,most,rfl,by omega,mo9,fun pp es H' s' f' hP hle hT=>?_⟩
   exact hN _ _ ⟨s',pp,es,hP,by omega,hT,rfl⟩
  rintro σ1 H1 ⟨s1,pp1,ep1,hP1,hl1,hT1,rfl⟩
  refine mid (fun σ' H'=>Same H0 H'∧∃ (pp:Addr) (ep:List En),PL H' pp ep∧ep.length≤9∧TieOk m (psOf ep)∧σ'=[some (.ref p),some (.int m),some (.int s),some (.int most),some (.ref pp),none,none,none,none,none,none,none,none,none]) ?_ ?_
  ·intro N hN
   walk_at "gs"
   refine ⟨p,ns,1,rfl,s1.seq hS,fun c2=>?_⟩
   walk_at "gs"
   by_cases c:c2 / 9 % 2=0
   ·rw [if_pos c]
    refine ⟨p,ns,1,rfl,s1.seq hS,fun c3=>?_⟩
    have x1:=Int.emod_nonneg (c3 / 18) (show (most:Int)≠0 by omega)
    have x2:=Int.emod_lt_of_pos (c3 / 18) (show 0<(most:Int) by omega)
    obtain ⟨n,hn⟩:=Int.eq_ofNat_of_zero_le (by omega:0≤1+c3 / 18 % (most:Int))
    walk_at "gs"
    rw [hn]
    refine ⟨p,ns,n,rfl,s1.seq hS,by omega,fun l cs H2 s2' hl2 hcl=>?_⟩
    refine ⟨l,m,cs,rfl,hl2,by omega,by omega,by omega,fun pp es H3 s3 f3 hP3 hle3 hT3=>?_⟩
    exact hN _ _ ⟨(s1.trans s2').trans s3,pp,es,hP3,by omega,hT3,rfl⟩
   ·rw [if_neg c]
    exact hN _ _ ⟨s1,pp1,ep1,hP1,hl1,hT1,rfl⟩
  rintro σ2 H2 ⟨s2',pp,ep,hP2,hl2,hT2,rfl⟩
  refine mid (fun σ' H'=>∃ (f dx pl kl kn:Addr) (es es2:List En),Same H0 H'∧FoldAt a.c_Fold H' f m es dx pl kl∧PN H' kn (m+1) es2∧psOf es2=psOf es∧MF.Ok m (psOf es)∧es.length≤9∧σ'=[some (.ref p),some (.int m),some (.int s),some (.int most),some (.ref pp),some (.ref f),some (.ref kn),none,none,none,none,none,none,none]) ?_ ?_
  ·intro N hN
   walk_at "gs"
   refine ⟨pp,m,ep,rfl,hP2,hT2,by omega,by omega,by omega,fun tp f dx pl kl kn es es2 H3 s3 htp hf ff fp fk fkn hK e2 ok hle nkp=>?_⟩
   refine ⟨tp,_,rfl,.of htp,rfl,_,_,rfl,_,_,rfl,rfl,?_⟩
   exact hN _ _ ⟨f,dx,pl,kl,kn,es,es2,s2'.trans s3,hf,hK,e2,ok,by omega,rfl⟩
  rintro σ3 H3 ⟨f,dx,pl,kl,kn,es,es2,s3,f3,k3,e2,ok,hle,rfl⟩
  have epl:(psOf es).length=es.length:=List.length_map ..
  have epl2:es2.length=es.length:=by rw [← epl,← e2];exact (List.length_map ..).symm
  refine mid (fun σ' H'=>∃ (x xd ll fc fw:Addr) (lvs:List Nat) (cas was:List Addr) (css:List (List Nat)) (wss:List (List (List Nat))),Same H3 H'∧LInv a.c_Labels (fun b=>b=ll∨∃ o,H3 b=some o) H' x xd ll fc fw m (psOf es) s lvs cas was css wss∧cas.length=es.length∧σ'=[some (.ref p),some (.int m),some (.int s),some (.int most),some (.ref pp),some (.ref f),some (.ref kn),some (.ref x),none,none,none,none,none,none]) ?_ ?_
  ·intro N hN
   walk_at "gs"
   refine mk_Labels f3 ok (by omega) (by omega) s2 s6 fun x xd ll fc fw H5 lvs cas was css wss s5 hx hll hfc hfw hL hcl=>?_
   exact hN _ _ ⟨x,xd,ll,fc,fw,lvs,cas,was,css,wss,s5,hL,hcl,rfl⟩
  rintro σ5 H5 ⟨x,xd,ll,fc,fw,lvs,cas,was,css,wss,s5,hL,hcl,rfl⟩
  have k5:=k3.same s5
  have hlen:=hL.len
  have hclS:=hL.cl
  have mz:=maze_mz ok
  obtain ⟨tot,htot⟩:∃ tot:Nat,tot=m+1+es.length:=⟨_,rfl⟩
  walk_at "gs"
  intro mk H6 n6
  walk_at "gs"
  intro ac H7 n7
  walk_at "gs"
  have s57:=n6.same.trans n7.same
  have fac:H5 ac=none:=n6.same.nil n7.was
  have nma:mk≠ac:=ne_of_none n6.at_ n7.was
  have k7:=k5.same s57
  refine .inl ⟨_,.inl (.of k7.lst),?_⟩
  rw [List.length_append,List.length_replicate,List.length_map,epl2,← htot]
  walk_at "gs"
  rw [Int.toNat_natCast]
  refine for_rngG (fun i σ H8=>Same H5 H8∧∃ (us:List Addr) (mss:List (List Nat)) (v10 v11 v12 v13:Option V),H8 mk=some (.lst ((lvs.take i).map nv))∧H8 ac=some (.lst (us.map V.ref))∧us.length=i∧mss.length=i∧(∀ (j:Nat) u ms,us[j]? = some u→mss[j]? = some ms→H8 u=some (.lst (ms.map nv))∧u≠mk∧u≠ac)∧(∀ (j:Nat) ms,mss[j]? = some ms→MQ.AllC (loOf (mazeL m (psOf es))) s 17 j ms)∧σ=[some (.ref p),some (.int m),some (.int s),some (.int most),some (.ref pp),some (.ref f),some (.ref kn),some (.ref x),some (.ref mk),some (.ref ac),v10,v11,v12,v13])
   ⟨s57,[],[],_,_,_,_,n7.same _ _ n6.at_,n7.at_,rfl,rfl,fun j u ms hu=>by simp at hu,fun j ms hm=>by simp at hm,rfl⟩ ?_ ?_
  ·rintro i σ H8 hi ⟨s8,us,mss,v10,v11,v12,v13,hmk,hac,hul,hml,hus,hall,rfl⟩
   have k8:=k5.same s8
   have hL8:=hL.same s8
   have hil:i<lvs.length:=by omega
   have htk:(lvs.take i).length=i:=by rw [List.length_take];omega
   walk_at "gs"
   rw [Int.zero_add]
   intro sm0 H9 n9
   refine mid (fun σ' H'=>Same H8 H'∧∃ (sm:Addr) (ms:List Nat),H8 sm=none∧H' sm=some (.lst (ms.map nv))∧ms.length≤2 ^ 17∧MQ.AllC (loOf (mazeL m (psOf es))) s 17 i (ms ++ [2 ^ i])∧σ'=[some (.ref p),some (.int m),some (.int s),some (.int most),some (.ref pp),some (.ref f),some (.ref kn),some (.ref x),some (.ref mk),some (.ref ac),some (.int (i:Nat)),some (.int ((lvs.getD i 0:Nat):Int)),some (.ref sm),v13]) ?_ ?_
   ·intro N hN
    have k9:=k8.same n9.same
    walk_at "gs"
    by_cases hm:i≤m
    ·have hkn:atI (List.replicate (m+1) V.non ++ es2.map fun e=>V.ref e.1) (i:Int)=some .non:=by
      rw [atI_ok .non (by omega) (by rw [List.length_append,List.length_replicate];omega),Int.toNat_natCast,List.getD_eq_getElem?_getD,List.getElem?_append_left (by rw [List.length_replicate];omega),List.getElem?_replicate,if_pos (by omega)]
      rfl
     refine ⟨_,_,.inl (.of k9.lst),hkn,?_⟩
     walk_at "gs"
     refine hN _ _ ⟨n9.same,sm0,[],n9.was,n9.at_,by decide,.spring (lo_low hm) (by omega) (by omega),?_⟩
     rw [hL.low i hm]
     rfl
    ·obtain ⟨j,hj⟩:∃ j,i=m+1+j:=⟨i - m - 1,by omega⟩
     obtain ⟨e,he⟩:∃ e,es2[j]? = some e:=⟨_,List.getElem?_eq_getElem (by omega)⟩
     have hkn:atI (List.replicate (m+1) V.non ++ es2.map fun e=>V.ref e.1) (i:Int)=some (.ref e.1):=by
      rw [atI_ok .non (by omega) (by rw [List.length_append,List.length_replicate,List.length_map];omega),Int.toNat_natCast,List.getD_eq_getElem?_getD,List.getElem?_append_right (by rw [List.length_replicate];omega),List.length_replicate,show i - (m+1)=j by omega,List.getElem?_map,he]
      rfl
     have hpe:(psOf es)[j]? = some e.2:=by rw [← e2,List.getElem?_map,he];rfl
     obtain ⟨o1,o2,o3,o4⟩:=ok _ _ hpe
     have te:=k9.tup e (List.mem_of_getElem? he)
     refine ⟨_,_,.inl (.of k9.lst),hkn,?_⟩
     walk_at "gs"
     rw [if_pos (by simp)]
     have hget:∀ t:Int,0≤t→t<2 * (i:Int)→∃ u ms,atI (us.map V.ref) (t / 2)=some (.ref u)∧H9 u=some (.lst (ms.map nv))∧MQ.AllC (loOf (mazeL m (psOf es))) s 17 (t / 2).toNat ms:=fun t t0 t1=>by
      have hlu:(t / 2).toNat<us.length:=by omega
      obtain ⟨ms,hms⟩:∃ ms,mss[(t / 2).toNat]? = some ms:=⟨_,List.getElem?_eq_getElem (by omega)⟩
      refine ⟨us[(t / 2).toNat],ms,?_,n9.same _ _ (hus _ _ ms (List.getElem?_eq_getElem hlu) hms).1,hall _ ms hms⟩
      rw [atI_ok .non (by omega) (by rw [List.length_map];omega),List.getD_eq_getElem?_getD,List.getElem?_map,List.getElem?_eq_getElem hlu]
      rfl
     obtain ⟨u1,ms1,hu1,hm1,hA1⟩:=hget e.2.1 (by omega) (by omega)
     obtain ⟨u2,ms2,hu2,hm2,hA2⟩:=hget e.2.2 (by omega) (by omega)
     have hac9:=n9.same _ _ hac
     refine ⟨_,_,.inl (.of k9.lst),hkn,_,_,.inr (.of te),rfl,⟨by omega,by omega⟩,_,_,.inl (.of hac9),hu1,_,_,.inl (.of k9.lst),hkn,_,_,.inr (.of te),rfl,⟨by omega,by omega⟩,_,_,.inl (.of hac9),hu2,?_⟩
     refine ⟨u1,u2,ms1,ms2,s,rfl,hm1,hm2,hA1.lt,hA2.lt,s6,fun sm ms H10 s10 fsm hsm hml' hmem=>?_⟩
     have hmk10:=s10 _ _ (n9.same _ _ hmk)
     have hlk:loOf (mazeL m (psOf es)) i≠[]:=by rw [hj,lo_high hpe];simp
     have hCut:MQ.CutC (loOf (mazeL m (psOf es))) s 17 i ms:=MQ.CutC.of_two (by rw [hj];exact lo_two hpe) (fun l hl=>mz.lt i l hl) hA1 hA2 hmem
     obtain ⟨C,hC⟩:∃ C,css[j]? = some C:=⟨_,List.getElem?_eq_getElem (by omega)⟩
     have hLab:=hL.lab j C hC
     rw [← hj] at hLab
     obtain ⟨a0,ha0,_⟩:=hCut.full C hLab.len hLab.dry
     refine ⟨⟨_,.of hsm⟩,fun cp hcp=>comp_gen (n:=(ms.map nv).length) (item:=fun i=>(ms.map nv).getD i .non) (fun σ=>∃ v0,σ=[v0,some (.ref mk)]) (fun t H11=>Same H10 H11∧∃ hs:List Nat,H11 cp=some (.lst (hs.map nv))∧hs.length=t∧∀ (j:Nat) a h,ms[j]? = some a→hs[j]? = some h→MQ.High a (lvs.take i) h) ⟨_,rfl⟩ ⟨same_upd hcp,[],upd_same,rfl,fun j a h _ hh=>by simp at hh⟩ (src_list (xs:=ms.map nv) ?_) ?_ ?_ ?_⟩
     ·rintro t H11 _ ⟨s11,_⟩
      exact .of (s11 _ _ hsm)
     ·rintro H11 ⟨s11,_⟩
      exact ⟨_,.of (s11 _ _ hsm),Nat.le_refl _⟩
     ·rintro t σ3 H11 R ht ⟨v0,rfl⟩ ⟨s11,hs,h11,hhl,hHi⟩ hR
      rw [List.length_map] at ht
      have hti:ms[t]? = some ms[t]:=List.getElem?_eq_getElem ht
      rw [show (ms.map nv).getD t .non=nv ms[t] by rw [List.getD_eq_getElem?_getD,List.getElem?_map,hti];rfl]
      generalize ms[t]=aa at hti
      unfold nv
      walk_at "gs"
      refine ⟨aa,mk,lvs.take i,rfl,s11 _ _ hmk10,by omega,fun h hHigh=>?_⟩
      refine ⟨_,h11,by rw [List.length_map];have:2 ^ 17=131072:=rfl;omega,hR _ _ ⟨_,rfl⟩ ⟨s11.put hcp,hs ++ [h],by rw [upd_same,List.map_append];rfl,by rw [List.length_append,hhl];rfl,fun j a' h' ha' hh'=>?_⟩⟩
      rcases get_snoc hh' with z | ⟨rfl,rfl⟩
      ·exact hHi j a' h' ha' z
      ·rw [hhl,hti] at ha'
       cases ha'
       exact hHigh
     rintro H11 ⟨s11,hs,h11,hhl,hHi⟩
     rw [List.length_map] at hhl
     refine ⟨hs.map fun h:Nat=>(h:Int),.of (by rw [h11,List.map_map];rfl),by rw [List.length_map,hhl];exact List.length_pos_of_mem ha0,fun M hMm hMx=>?_⟩
     obtain ⟨M',hM',rfl⟩:=List.mem_map.mp hMm
     have hdue:1+M'=lvs.getD i 0:=MQ.due (lv:=fun k=>lvs.getD k 0) hLab hCut htk (fun j hj'=>by
      rw [List.getD_eq_getElem?_getD,List.getD_eq_getElem?_getD,List.getElem?_take_of_lt hj']) (fun c hc=>by
      have h1:=(hLab.dn c hc).1.le mz.lt
      have h2:=(hLab.dn c hc).2
      omega) hhl hHi hM' fun y hy=>by
      have:=hMx _ (List.mem_map.mpr ⟨y,hy,rfl⟩)
      omega
     refine hN _ _ ⟨(n9.same.trans s10).trans s11,sm,ms,n9.same.nil fsm,s11 _ _ hsm,hml',.of_cut hCut hlk (by omega) (by omega),?_⟩
     rw [show (1:Int)+(M':Int)=((lvs.getD i 0:Nat):Int) by omega]
   rintro σ10 H10 ⟨s10,sm,ms,fsm,hsm,hml',hAll,rfl⟩
   walk_at "gs"
   have hmk10:=s10 _ _ hmk
   have hac10:=s10 _ _ hac
   have nsm:sm≠mk:=(ne_of_none hmk fsm).symm
   have nsa:sm≠ac:=(ne_of_none hac fsm).symm
   refine ⟨.inl ⟨by trivial,_,.of hmk10⟩,mk,_,_,rfl,rfl,hmk10,by rw [List.length_map];omega,?_⟩
   have et:(lvs.take i).map nv ++ [V.int ((lvs.getD i 0:Nat):Int)]=(lvs.take (i+1)).map nv:=by
    rw [List.take_add_one,List.getElem?_eq_getElem hil,List.map_append,List.getD_eq_getElem?_getD,List.getElem?_eq_getElem hil]
    rfl
   rw [et]
   have u11:∀ {b:Addr}{o:HO},b≠mk→H10 b=some o→upd H10 mk (.lst ((lvs.take (i+1)).map nv)) b=some o:=fun n e=>by rw [upd_ne n];exact e
   have hmk11:upd H10 mk (.lst ((lvs.take (i+1)).map nv)) mk=some (.lst ((lvs.take (i+1)).map nv)):=upd_same
   have s11:Same H5 (upd H10 mk (.lst ((lvs.take (i+1)).map nv))):=(s8.trans s10).put n6.was
   generalize upd H10 mk (.lst ((lvs.take (i+1)).map nv))=H11 at u11 hmk11 s11 ⊢
   have hac11:=u11 nma.symm hac10
   have hsm11:=u11 nsm hsm
   walk_at "gs"
   refine ⟨.inl ⟨by trivial,_,.of hac11⟩,⟨by omega,by show (1:Int)+_≤_;omega⟩,by show 1≤sizeLine;decide,fun q12 H12 n12=>?_⟩
   refine ⟨_,_,n12.same _ _ hsm11,n12.at_,by rw [List.length_map];show _+1≤_;have:2 ^ 17=131072:=rfl;omega,fun r13 hr13=>?_⟩
   have e13:ms.map nv ++ [V.int (1 * 2 ^ ((i:Int)).toNat)]=(ms ++ [2 ^ i]).map nv:=by
    rw [List.map_append]
    congr 1
    show [V.int (1 * 2 ^ ((i:Int)).toNat)]=[nv (2 ^ i)]
    unfold nv
    rw [Int.toNat_natCast,Int.one_mul]
    congr 2
   rw [e13]
   have s1113:=n12.same.trans (same_upd (o:=.lst ((ms ++ [2 ^ i]).map nv)) hr13)
   have hr:upd H12 r13 (.lst ((ms ++ [2 ^ i]).map nv)) r13=some (.lst ((ms ++ [2 ^ i]).map nv)):=upd_same
   have fr11:H11 r13=none:=n12.same.nil hr13
   generalize upd H12 r13 (.lst ((ms ++ [2 ^ i]).map nv))=H13 at s1113 hr ⊢
   have nra:r13≠ac:=(ne_of_none hac11 fr11).symm
   have nrm:r13≠mk:=(ne_of_none hmk11 fr11).symm
   have hac13:=s1113 _ _ hac11
   refine ⟨ac,_,_,rfl,rfl,hac13,by rw [List.length_map];omega,?_⟩
   have u14:∀ {b:Addr}{o:HO},b≠ac→H13 b=some o→upd H13 ac (.lst (us.map V.ref ++ [.ref r13])) b=some o:=fun n e=>by rw [upd_ne n];exact e
   have s14:Same H5 (upd H13 ac (.lst (us.map V.ref ++ [.ref r13]))):=(s11.trans s1113).put fac
   have hac14:upd H13 ac (.lst (us.map V.ref ++ [.ref r13])) ac=some (.lst ((us ++ [r13]).map V.ref)):=by rw [upd_same,List.map_append];rfl
   generalize upd H13 ac (.lst (us.map V.ref ++ [.ref r13]))=H14 at u14 s14 hac14 ⊢
   have hL14:=hL.same s14
   walk_at "gs"
   refine ⟨x,xd,_,rfl,hL14.at_.ins,rfl,x,xd,ll,fc,fw,m,_,lvs,cas,was,rfl,hL14.at_,fun n en hn=>?_,fun z=>absurd ⟨by omega,by omega⟩ z⟩
   have:n=i:=by omega
   subst this
   refine ⟨_,true,.int _,rfl,?_⟩
   rw [if_neg (by simp)]
   refine ⟨_,false,.int _,rfl,?_⟩
   rw [if_neg (by simp)]
   unfold nv
   walk_at "go"
   refine ⟨s14,us ++ [r13],mss ++ [ms ++ [2 ^ n]],_,_,_,_,u14 nma (s1113 _ _ hmk11),hac14,by rw [List.length_append,hul];rfl,by rw [List.length_append,hml];rfl,fun j u ms' hu hm'=>?_,fun j ms' hm'=>?_,rfl⟩
   ·rcases get_snoc hu with z | ⟨z,rfl⟩
    ·have h1:=(List.getElem?_eq_some_iff.mp z).1
     rcases get_snoc hm' with y | ⟨y,_⟩
     ·obtain ⟨g1,g2,g3⟩:=hus j u ms' z y
      exact ⟨u14 g3 (s1113 _ _ (u11 g2 (s10 _ _ g1))),g2,g3⟩
     ·omega
    ·rcases get_snoc hm' with y | ⟨_,rfl⟩
     ·have h1:=(List.getElem?_eq_some_iff.mp y).1
      omega
     ·exact ⟨u14 nra hr,nrm,nra⟩
   ·rcases get_snoc hm' with y | ⟨rfl,rfl⟩
    ·exact hall j ms' y
    ·rw [hml]
     exact hAll
  ·rintro σ H8 ⟨s8,us,mss,v10,v11,v12,v13,hmk,hac,hul,hml,hus,hall,rfl⟩
   walk_at "gs"
   exact k _
theorem lenN1 {us:List Value} (h:us.length=1):∃ a,us=[a]:=List.length_eq_one_iff.mp h
theorem lenN2 {us:List Value} (h:us.length=2):∃ a b,us=[a,b]:=by
 obtain _ | ⟨a,t⟩:=us
 ·cases h
 ·obtain ⟨b,rfl⟩:=lenN1 (Nat.succ.inj h)
  exact ⟨a,b,rfl⟩
theorem lenN3 {us:List Value} (h:us.length=3):∃ a b c,us=[a,b,c]:=by
 obtain _ | ⟨a,t⟩:=us
 ·cases h
 ·obtain ⟨b,c,rfl⟩:=lenN2 (Nat.succ.inj h)
  exact ⟨a,b,c,rfl⟩
theorem lenN4 {us:List Value} (h:us.length=4):∃ a b c d,us=[a,b,c,d]:=by
 obtain _ | ⟨a,t⟩:=us
 ·cases h
 ·obtain ⟨b,c,d,rfl⟩:=lenN3 (Nat.succ.inj h)
  exact ⟨a,b,c,d,rfl⟩
theorem lenN5 {us:List Value} (h:us.length=5):∃ a b c d e,us=[a,b,c,d,e]:=by
 obtain _ | ⟨a,t⟩:=us
 ·cases h
 ·obtain ⟨b,c,d,e,rfl⟩:=lenN4 (Nat.succ.inj h)
  exact ⟨a,b,c,d,e,rfl⟩
theorem all_mk {l:PySem.W.OpenLaw}{w:World}{K:PySem.W.Frag}{h:Heap}{mg:Str→Option Value}{fa:Addr} (X:K.In h) (G:h.Ns mainGlobals mg) (hfa:mg "law" = some (.ref fa))
  {f0:Addr}{od0 an0:Option Addr}{sl0:Array (Option Value)}{oc0 kV0 dc0 pm0 cd0 ct0:Value}{f1:Addr}{od1 an1:Option Addr}{sl1:Array (Option Value)}{oc1 kV1 dc1 pm1 cd1 ct1:Value}{f2:Addr}{od2 an2:Option Addr}{sl2:Array (Option Value)}{oc2 kV2 dc2 pm2 cd2 ct2:Value}{f3:Addr}{od3 an3:Option Addr}{sl3:Array (Option Value)}{oc3 kV3 dc3 pm3 cd3 ct3:Value}{f4:Addr}{od4 an4:Option Addr}{sl4:Array (Option Value)}{oc4 kV4 dc4 pm4 cd4 ct4:Value}{f5:Addr}{od5 an5:Option Addr}{sl5:Array (Option Value)}{oc5 kV5 dc5 pm5 cd5 ct5:Value}{f6:Addr}{od6 an6:Option Addr}{sl6:Array (Option Value)}{oc6 kV6 dc6 pm6 cd6 ct6:Value}{f7:Addr}{od7 an7:Option Addr}{sl7:Array (Option Value)}{oc7 kV7 dc7 pm7 cd7 ct7:Value}{f8:Addr}{od8 an8:Option Addr}{sl8:Array (Option Value)}{oc8 kV8 dc8 pm8 cd8 ct8:Value}{f9:Addr}{od9 an9:Option Addr}{sl9:Array (Option Value)}{oc9 kV9 dc9 pm9 cd9 ct9:Value}{f10:Addr}{od10 an10:Option Addr}{sl10:Array (Option Value)}{oc10 kV10 dc10 pm10 cd10 ct10:Value}{f11:Addr}{od11 an11:Option Addr}{sl11:Array (Option Value)}{oc11 kV11 dc11 pm11 cd11 ct11:Value}{f12:Addr}{od12 an12:Option Addr}{sl12:Array (Option Value)}{oc12 kV12 dc12 pm12 cd12 ct12:Value}{f13:Addr}{od13 an13:Option Addr}{sl13:Array (Option Value)}{oc13 kV13 dc13 pm13 cd13 ct13:Value}{f14:Addr}{od14 an14:Option Addr}{sl14:Array (Option Value)}{oc14 kV14 dc14 pm14 cd14 ct14:Value}{f15:Addr}{od15 an15:Option Addr}{sl15:Array (Option Value)}{oc15 kV15 dc15 pm15 cd15 ct15:Value}{f16:Addr}{od16 an16:Option Addr}{sl16:Array (Option Value)}{oc16 kV16 dc16 pm16 cd16 ct16:Value}{f17:Addr}{od17 an17:Option Addr}{sl17:Array (Option Value)}{oc17 kV17 dc17 pm17 cd17 ct17:Value}{f18:Addr}{od18 an18:Option Addr}{sl18:Array (Option Value)}{oc18 kV18 dc18 pm18 cd18 ct18:Value}{f19:Addr}{od19 an19:Option Addr}{sl19:Array (Option Value)}{oc19 kV19 dc19 pm19 cd19 ct19:Value}{f20:Addr}{od20 an20:Option Addr}{sl20:Array (Option Value)}{oc20 kV20 dc20 pm20 cd20 ct20:Value}{f21:Addr}{od21 an21:Option Addr}{sl21:Array (Option Value)}{oc21 kV21 dc21 pm21 cd21 ct21:Value}{f22:Addr}{od22 an22:Option Addr}{sl22:Array (Option Value)}{oc22 kV22 dc22 pm22 cd22 ct22:Value}{f23:Addr}{od23 an23:Option Addr}{sl23:Array (Option Value)}{oc23 kV23 dc23 pm23 cd23 ct23:Value}{f24:Addr}{od24 an24:Option Addr}{sl24:Array (Option Value)}{oc24 kV24 dc24 pm24 cd24 ct24:Value}{f25:Addr}{od25 an25:Option Addr}{sl25:Array (Option Value)}{oc25 kV25 dc25 pm25 cd25 ct25:Value}{f26:Addr}{od26 an26:Option Addr}{sl26:Array (Option Value)}{oc26 kV26 dc26 pm26 cd26 ct26:Value}{f27:Addr}{od27 an27:Option Addr}{sl27:Array (Option Value)}{oc27 kV27 dc27 pm27 cd27 ct27:Value}{f28:Addr}{od28 an28:Option Addr}{sl28:Array (Option Value)}{oc28 kV28 dc28 pm28 cd28 ct28:Value}{f29:Addr}{od29 an29:Option Addr}{sl29:Array (Option Value)}{oc29 kV29 dc29 pm29 cd29 ct29:Value}{f30:Addr}{od30 an30:Option Addr}{sl30:Array (Option Value)}{oc30 kV30 dc30 pm30 cd30 ct30:Value}{f31:Addr}{od31 an31:Option Addr}{sl31:Array (Option Value)}{oc31 kV31 dc31 pm31 cd31 ct31:Value}{f32:Addr}{od32 an32:Option Addr}{sl32:Array (Option Value)}{oc32 kV32 dc32 pm32 cd32 ct32:Value}{f33:Addr}{od33 an33:Option Addr}{sl33:Array (Option Value)}{oc33 kV33 dc33 pm33 cd33 ct33:Value}{f34:Addr}{od34 an34:Option Addr}{sl34:Array (Option Value)}{oc34 kV34 dc34 pm34 cd34 ct34:Value}{f35:Addr}{od35 an35:Option Addr}{sl35:Array (Option Value)}{oc35 kV35 dc35 pm35 cd35 ct35:Value}{C_Labels:Addr}{C_Fold:Addr}{C_NoGoal:Addr}{C_NoKnot:Addr}{C_NoSize:Addr}{C_NoTie:Addr}{ug_ALWAYS:Tok}{ug_GREATEST_SIZE:Tok}{ug_LEAST_SIZE:Tok}{ug_NEVER:Tok}
  (aC_Labels:PySem.W.nsIn K mainGlobals "Labels" = some (some (.ref C_Labels)))
  (aC_Fold:PySem.W.nsIn K mainGlobals "Fold" = some (some (.ref C_Fold)))
  (aC_NoGoal:PySem.W.nsIn K mainGlobals "NoGoal" = some (some (.ref C_NoGoal)))
  (aC_NoKnot:PySem.W.nsIn K mainGlobals "NoKnot" = some (some (.ref C_NoKnot)))
  (aC_NoSize:PySem.W.nsIn K mainGlobals "NoSize" = some (some (.ref C_NoSize)))
  (aC_NoTie:PySem.W.nsIn K mainGlobals "NoTie" = some (some (.ref C_NoTie)))
  (a0:PySem.W.nsIn K mainGlobals "is_whole" = some (some (.ref f0)))
  (l0:K.lookup f0=some ⟨oc0,od0,.func (PySem.W.fnOf "is_whole" "is_whole" (defArgs s_is_whole) (defBody s_is_whole) (defScope s_is_whole) .none kV0 dc0 pm0 an0 cd0 ct0),sl0⟩)
  (c0:PySem.W.codeIn K cd0 "is_whole" = true)
  (k0:PySem.W.keepIn K (.ref f0)=true)
  (a1:PySem.W.nsIn K mainGlobals "is_between" = some (some (.ref f1)))
  (l1:K.lookup f1=some ⟨oc1,od1,.func (PySem.W.fnOf "is_between" "is_between" (defArgs s_is_between) (defBody s_is_between) (defScope s_is_between) .none kV1 dc1 pm1 an1 cd1 ct1),sl1⟩)
  (c1:PySem.W.codeIn K cd1 "is_between" = true)
  (k1:PySem.W.keepIn K (.ref f1)=true)
  (a2:PySem.W.nsIn K mainGlobals "reached" = some (some (.ref f2)))
  (l2:K.lookup f2=some ⟨oc2,od2,.func (PySem.W.fnOf "reached" "reached" (defArgs s_reached) (defBody s_reached) (defScope s_reached) .none kV2 dc2 pm2 an2 cd2 ct2),sl2⟩)
  (c2:PySem.W.codeIn K cd2 "reached" = true)
  (k2:PySem.W.keepIn K (.ref f2)=true)
  (a3:PySem.W.nsIn K mainGlobals "cone" = some (some (.ref f3)))
  (l3:K.lookup f3=some ⟨oc3,od3,.func (PySem.W.fnOf "cone" "cone" (defArgs s_cone) (defBody s_cone) (defScope s_cone) .none kV3 dc3 pm3 an3 cd3 ct3),sl3⟩)
  (c3:PySem.W.codeIn K cd3 "cone" = true)
  (k3:PySem.W.keepIn K (.ref f3)=true)
  (a4:PySem.W.nsIn K mainGlobals "head" = some (some (.ref f4)))
  (l4:K.lookup f4=some ⟨oc4,od4,.func (PySem.W.fnOf "head" "head" (defArgs s_head) (defBody s_head) (defScope s_head) .none kV4 dc4 pm4 an4 cd4 ct4),sl4⟩)
  (c4:PySem.W.codeIn K cd4 "head" = true)
  (k4:PySem.W.keepIn K (.ref f4)=true)
  (a5:PySem.W.nsIn K mainGlobals "foot" = some (some (.ref f5)))
  (l5:K.lookup f5=some ⟨oc5,od5,.func (PySem.W.fnOf "foot" "foot" (defArgs s_foot) (defBody s_foot) (defScope s_foot) .none kV5 dc5 pm5 an5 cd5 ct5),sl5⟩)
  (c5:PySem.W.codeIn K cd5 "foot" = true)
  (k5:PySem.W.keepIn K (.ref f5)=true)
  (a6:PySem.W.nsIn K mainGlobals "need_goals" = some (some (.ref f6)))
  (l6:K.lookup f6=some ⟨oc6,od6,.func (PySem.W.fnOf "need_goals" "need_goals" (defArgs s_need_goals) (defBody s_need_goals) (defScope s_need_goals) .none kV6 dc6 pm6 an6 cd6 ct6),sl6⟩)
  (c6:PySem.W.codeIn K cd6 "need_goals" = true)
  (k6:PySem.W.keepIn K (.ref f6)=true)
  (a7:PySem.W.nsIn K mainGlobals "next_ends" = some (some (.ref f7)))
  (l7:K.lookup f7=some ⟨oc7,od7,.func (PySem.W.fnOf "next_ends" "next_ends" (defArgs s_next_ends) (defBody s_next_ends) (defScope s_next_ends) .none kV7 dc7 pm7 an7 cd7 ct7),sl7⟩)
  (c7:PySem.W.codeIn K cd7 "next_ends" = true)
  (k7:PySem.W.keepIn K (.ref f7)=true)
  (a8:PySem.W.nsIn K mainGlobals "search" = some (some (.ref f8)))
  (l8:K.lookup f8=some ⟨oc8,od8,.func (PySem.W.fnOf "search" "search" (defArgs s_search) (defBody s_search) (defScope s_search) .none kV8 dc8 pm8 an8 cd8 ct8),sl8⟩)
  (c8:PySem.W.codeIn K cd8 "search" = true)
  (k8:PySem.W.keepIn K (.ref f8)=true)
  (a9:PySem.W.nsIn K mainGlobals "lead" = some (some (.ref f9)))
  (l9:K.lookup f9=some ⟨oc9,od9,.func (PySem.W.fnOf "lead" "lead" (defArgs s_lead) (defBody s_lead) (defScope s_lead) .none kV9 dc9 pm9 an9 cd9 ct9),sl9⟩)
  (c9:PySem.W.codeIn K cd9 "lead" = true)
  (k9:PySem.W.keepIn K (.ref f9)=true)
  (a10:PySem.W.nsIn K mainGlobals "way_from" = some (some (.ref f10)))
  (l10:K.lookup f10=some ⟨oc10,od10,.func (PySem.W.fnOf "way_from" "way_from" (defArgs s_way_from) (defBody s_way_from) (defScope s_way_from) .none kV10 dc10 pm10 an10 cd10 ct10),sl10⟩)
  (c10:PySem.W.codeIn K cd10 "way_from" = true)
  (k10:PySem.W.keepIn K (.ref f10)=true)
  (a11:PySem.W.nsIn K mainGlobals "ways_of" = some (some (.ref f11)))
  (l11:K.lookup f11=some ⟨oc11,od11,.func (PySem.W.fnOf "ways_of" "ways_of" (defArgs s_ways_of) (defBody s_ways_of) (defScope s_ways_of) .none kV11 dc11 pm11 an11 cd11 ct11),sl11⟩)
  (c11:PySem.W.codeIn K cd11 "ways_of" = true)
  (k11:PySem.W.keepIn K (.ref f11)=true)
  (a12:PySem.W.nsIn K mainGlobals "stops_of" = some (some (.ref f12)))
  (l12:K.lookup f12=some ⟨oc12,od12,.func (PySem.W.fnOf "stops_of" "stops_of" (defArgs s_stops_of) (defBody s_stops_of) (defScope s_stops_of) .none kV12 dc12 pm12 an12 cd12 ct12),sl12⟩)
  (c12:PySem.W.codeIn K cd12 "stops_of" = true)
  (k12:PySem.W.keepIn K (.ref f12)=true)
  (a13:PySem.W.nsIn K mainGlobals "apart" = some (some (.ref f13)))
  (l13:K.lookup f13=some ⟨oc13,od13,.func (PySem.W.fnOf "apart" "apart" (defArgs s_apart) (defBody s_apart) (defScope s_apart) .none kV13 dc13 pm13 an13 cd13 ct13),sl13⟩)
  (c13:PySem.W.codeIn K cd13 "apart" = true)
  (k13:PySem.W.keepIn K (.ref f13)=true)
  (a14:PySem.W.nsIn K mainGlobals "need_size" = some (some (.ref f14)))
  (l14:K.lookup f14=some ⟨oc14,od14,.func (PySem.W.fnOf "need_size" "need_size" (defArgs s_need_size) (defBody s_need_size) (defScope s_need_size) .none kV14 dc14 pm14 an14 cd14 ct14),sl14⟩)
  (c14:PySem.W.codeIn K cd14 "need_size" = true)
  (k14:PySem.W.keepIn K (.ref f14)=true)
  (a15:PySem.W.nsIn K mainGlobals "maze_of" = some (some (.ref f15)))
  (l15:K.lookup f15=some ⟨oc15,od15,.func (PySem.W.fnOf "maze_of" "maze_of" (defArgs s_maze_of) (defBody s_maze_of) (defScope s_maze_of) .none kV15 dc15 pm15 an15 cd15 ct15),sl15⟩)
  (c15:PySem.W.codeIn K cd15 "maze_of" = true)
  (k15:PySem.W.keepIn K (.ref f15)=true)
  (a16:PySem.W.findIn K (.ref C_Labels) "__init__" = some (some (.ref f16)))
  (i16:PySem.W.isFn K (.ref f16)=true)
  (l16:K.lookup f16=some ⟨oc16,od16,.func (PySem.W.fnOf "__init__" "Labels.__init__" (defArgs s_Labels___init__) (defBody s_Labels___init__) (defScope s_Labels___init__) .none kV16 dc16 pm16 an16 cd16 ct16),sl16⟩)
  (c16:PySem.W.codeIn K cd16 "Labels.__init__" = true)
  (k16:PySem.W.keepIn K (.ref f16)=true)
  (a17:PySem.W.findIn K (.ref C_Labels) "settle" = some (some (.ref f17)))
  (i17:PySem.W.isFn K (.ref f17)=true)
  (l17:K.lookup f17=some ⟨oc17,od17,.func (PySem.W.fnOf "settle" "Labels.settle" (defArgs s_Labels_settle) (defBody s_Labels_settle) (defScope s_Labels_settle) .none kV17 dc17 pm17 an17 cd17 ct17),sl17⟩)
  (c17:PySem.W.codeIn K cd17 "Labels.settle" = true)
  (k17:PySem.W.keepIn K (.ref f17)=true)
  (a18:PySem.W.findIn K (.ref C_Labels) "keep" = some (some (.ref f18)))
  (i18:PySem.W.isFn K (.ref f18)=true)
  (l18:K.lookup f18=some ⟨oc18,od18,.func (PySem.W.fnOf "keep" "Labels.keep" (defArgs s_Labels_keep) (defBody s_Labels_keep) (defScope s_Labels_keep) .none kV18 dc18 pm18 an18 cd18 ct18),sl18⟩)
  (c18:PySem.W.codeIn K cd18 "Labels.keep" = true)
  (k18:PySem.W.keepIn K (.ref f18)=true)
  (a19:PySem.W.findIn K (.ref C_Labels) "label" = some (some (.ref f19)))
  (i19:PySem.W.isFn K (.ref f19)=true)
  (l19:K.lookup f19=some ⟨oc19,od19,.func (PySem.W.fnOf "label" "Labels.label" (defArgs s_Labels_label) (defBody s_Labels_label) (defScope s_Labels_label) .none kV19 dc19 pm19 an19 cd19 ct19),sl19⟩)
  (c19:PySem.W.codeIn K cd19 "Labels.label" = true)
  (k19:PySem.W.keepIn K (.ref f19)=true)
  (a20:PySem.W.nsIn K mainGlobals "turned" = some (some (.ref f20)))
  (l20:K.lookup f20=some ⟨oc20,od20,.func (PySem.W.fnOf "turned" "turned" (defArgs s_turned) (defBody s_turned) (defScope s_turned) .none kV20 dc20 pm20 an20 cd20 ct20),sl20⟩)
  (c20:PySem.W.codeIn K cd20 "turned" = true)
  (k20:PySem.W.keepIn K (.ref f20)=true)
  (a21:PySem.W.findIn K (.ref C_Fold) "__init__" = some (some (.ref f21)))
  (i21:PySem.W.isFn K (.ref f21)=true)
  (l21:K.lookup f21=some ⟨oc21,od21,.func (PySem.W.fnOf "__init__" "Fold.__init__" (defArgs s_Fold___init__) (defBody s_Fold___init__) (defScope s_Fold___init__) .none kV21 dc21 pm21 an21 cd21 ct21),sl21⟩)
  (c21:PySem.W.codeIn K cd21 "Fold.__init__" = true)
  (k21:PySem.W.keepIn K (.ref f21)=true)
  (a22:PySem.W.findIn K (.ref C_Fold) "total" = some (some (.ref f22)))
  (i22:PySem.W.isFn K (.ref f22)=true)
  (l22:K.lookup f22=some ⟨oc22,od22,.func (PySem.W.fnOf "total" "Fold.total" (defArgs s_Fold_total) (defBody s_Fold_total) (defScope s_Fold_total) .none kV22 dc22 pm22 an22 cd22 ct22),sl22⟩)
  (c22:PySem.W.codeIn K cd22 "Fold.total" = true)
  (k22:PySem.W.keepIn K (.ref f22)=true)
  (a23:PySem.W.findIn K (.ref C_Fold) "has_tie" = some (some (.ref f23)))
  (i23:PySem.W.isFn K (.ref f23)=true)
  (l23:K.lookup f23=some ⟨oc23,od23,.func (PySem.W.fnOf "has_tie" "Fold.has_tie" (defArgs s_Fold_has_tie) (defBody s_Fold_has_tie) (defScope s_Fold_has_tie) .none kV23 dc23 pm23 an23 cd23 ct23),sl23⟩)
  (c23:PySem.W.codeIn K cd23 "Fold.has_tie" = true)
  (k23:PySem.W.keepIn K (.ref f23)=true)
  (a24:PySem.W.findIn K (.ref C_Fold) "pair" = some (some (.ref f24)))
  (i24:PySem.W.isFn K (.ref f24)=true)
  (l24:K.lookup f24=some ⟨oc24,od24,.func (PySem.W.fnOf "pair" "Fold.pair" (defArgs s_Fold_pair) (defBody s_Fold_pair) (defScope s_Fold_pair) .none kV24 dc24 pm24 an24 cd24 ct24),sl24⟩)
  (c24:PySem.W.codeIn K cd24 "Fold.pair" = true)
  (k24:PySem.W.keepIn K (.ref f24)=true)
  (a25:PySem.W.findIn K (.ref C_Fold) "both" = some (some (.ref f25)))
  (i25:PySem.W.isFn K (.ref f25)=true)
  (l25:K.lookup f25=some ⟨oc25,od25,.func (PySem.W.fnOf "both" "Fold.both" (defArgs s_Fold_both) (defBody s_Fold_both) (defScope s_Fold_both) .none kV25 dc25 pm25 an25 cd25 ct25),sl25⟩)
  (c25:PySem.W.codeIn K cd25 "Fold.both" = true)
  (k25:PySem.W.keepIn K (.ref f25)=true)
  (a26:PySem.W.findIn K (.ref C_Fold) "and_knot" = some (some (.ref f26)))
  (i26:PySem.W.isFn K (.ref f26)=true)
  (l26:K.lookup f26=some ⟨oc26,od26,.func (PySem.W.fnOf "and_knot" "Fold.and_knot" (defArgs s_Fold_and_knot) (defBody s_Fold_and_knot) (defScope s_Fold_and_knot) .none kV26 dc26 pm26 an26 cd26 ct26),sl26⟩)
  (c26:PySem.W.codeIn K cd26 "Fold.and_knot" = true)
  (k26:PySem.W.keepIn K (.ref f26)=true)
  (a27:PySem.W.nsIn K mainGlobals "_law_cell_at" = some (some (.ref f27)))
  (l27:K.lookup f27=some ⟨oc27,od27,.func (PySem.W.fnOf "_law_cell_at" "_law_cell_at" (defArgs s_law_cell_at) (defBody s_law_cell_at) (defScope s_law_cell_at) .none kV27 dc27 pm27 an27 cd27 ct27),sl27⟩)
  (c27:PySem.W.codeIn K cd27 "_law_cell_at" = true)
  (k27:PySem.W.keepIn K (.ref f27)=true)
  (a28:PySem.W.nsIn K mainGlobals "_law_pairs" = some (some (.ref f28)))
  (l28:K.lookup f28=some ⟨oc28,od28,.func (PySem.W.fnOf "_law_pairs" "_law_pairs" (defArgs s_law_pairs) (defBody s_law_pairs) (defScope s_law_pairs) .none kV28 dc28 pm28 an28 cd28 ct28),sl28⟩)
  (c28:PySem.W.codeIn K cd28 "_law_pairs" = true)
  (k28:PySem.W.keepIn K (.ref f28)=true)
  (a29:PySem.W.nsIn K mainGlobals "_law_mixed" = some (some (.ref f29)))
  (l29:K.lookup f29=some ⟨oc29,od29,.func (PySem.W.fnOf "_law_mixed" "_law_mixed" (defArgs s_law_mixed) (defBody s_law_mixed) (defScope s_law_mixed) .none kV29 dc29 pm29 an29 cd29 ct29),sl29⟩)
  (c29:PySem.W.codeIn K cd29 "_law_mixed" = true)
  (k29:PySem.W.keepIn K (.ref f29)=true)
  (a30:PySem.W.nsIn K mainGlobals "_law_digit_pairs" = some (some (.ref f30)))
  (l30:K.lookup f30=some ⟨oc30,od30,.func (PySem.W.fnOf "_law_digit_pairs" "_law_digit_pairs" (defArgs s_law_digit_pairs) (defBody s_law_digit_pairs) (defScope s_law_digit_pairs) .none kV30 dc30 pm30 an30 cd30 ct30),sl30⟩)
  (c30:PySem.W.codeIn K cd30 "_law_digit_pairs" = true)
  (k30:PySem.W.keepIn K (.ref f30)=true)
  (a31:PySem.W.nsIn K mainGlobals "_law_fold" = some (some (.ref f31)))
  (l31:K.lookup f31=some ⟨oc31,od31,.func (PySem.W.fnOf "_law_fold" "_law_fold" (defArgs s_law_fold) (defBody s_law_fold) (defScope s_law_fold) .none kV31 dc31 pm31 an31 cd31 ct31),sl31⟩)
  (c31:PySem.W.codeIn K cd31 "_law_fold" = true)
  (k31:PySem.W.keepIn K (.ref f31)=true)
  (a32:PySem.W.nsIn K mainGlobals "_law_few" = some (some (.ref f32)))
  (l32:K.lookup f32=some ⟨oc32,od32,.func (PySem.W.fnOf "_law_few" "_law_few" (defArgs s_law_few) (defBody s_law_few) (defScope s_law_few) .none kV32 dc32 pm32 an32 cd32 ct32),sl32⟩)
  (c32:PySem.W.codeIn K cd32 "_law_few" = true)
  (k32:PySem.W.keepIn K (.ref f32)=true)
  (a33:PySem.W.nsIn K mainGlobals "_law_cuts" = some (some (.ref f33)))
  (l33:K.lookup f33=some ⟨oc33,od33,.func (PySem.W.fnOf "_law_cuts" "_law_cuts" (defArgs s_law_cuts) (defBody s_law_cuts) (defScope s_law_cuts) .none kV33 dc33 pm33 an33 cd33 ct33),sl33⟩)
  (c33:PySem.W.codeIn K cd33 "_law_cuts" = true)
  (k33:PySem.W.keepIn K (.ref f33)=true)
  (a34:PySem.W.nsIn K mainGlobals "_law_highest" = some (some (.ref f34)))
  (l34:K.lookup f34=some ⟨oc34,od34,.func (PySem.W.fnOf "_law_highest" "_law_highest" (defArgs s_law_highest) (defBody s_law_highest) (defScope s_law_highest) .none kV34 dc34 pm34 an34 cd34 ct34),sl34⟩)
  (c34:PySem.W.codeIn K cd34 "_law_highest" = true)
  (k34:PySem.W.keepIn K (.ref f34)=true)
  (a35:PySem.W.nsIn K mainGlobals "law" = some (some (.ref f35)))
  (l35:K.lookup f35=some ⟨oc35,od35,.func (PySem.W.fnOf "law" "law" (defArgs s_law) (defBody s_law) (defScope s_law) .none kV35 dc35 pm35 an35 cd35 ct35),sl35⟩)
  (c35:PySem.W.codeIn K cd35 "law" = true)
  (k35:PySem.W.keepIn K (.ref f35)=true)
  (xi_NoGoal:PySem.W.excIn K C_NoGoal [.type "ValueError",.type "Exception",.type "BaseException",.type "object"] "ValueError.__new__" = true)
  (xq_NoGoal:exq K C_NoGoal=true)
  (kv_NoGoal:PySem.W.kitOne K (.ref C_NoGoal) (.type "ValueError")=some true)
  (xi_NoKnot:PySem.W.excIn K C_NoKnot [.type "ValueError",.type "Exception",.type "BaseException",.type "object"] "ValueError.__new__" = true)
  (xq_NoKnot:exq K C_NoKnot=true)
  (kv_NoKnot:PySem.W.kitOne K (.ref C_NoKnot) (.type "ValueError")=some true)
  (xi_NoSize:PySem.W.excIn K C_NoSize [.type "ValueError",.type "Exception",.type "BaseException",.type "object"] "ValueError.__new__" = true)
  (xq_NoSize:exq K C_NoSize=true)
  (kv_NoSize:PySem.W.kitOne K (.ref C_NoSize) (.type "ValueError")=some true)
  (xi_NoTie:PySem.W.excIn K C_NoTie [.type "ValueError",.type "Exception",.type "BaseException",.type "object"] "ValueError.__new__" = true)
  (xq_NoTie:exq K C_NoTie=true)
  (kv_NoTie:PySem.W.kitOne K (.ref C_NoTie) (.type "ValueError")=some true)
  (xk_NoGoal:PySem.W.ktsIn K C_NoGoal "BaseException" = true)
  (xk_NoKnot:PySem.W.ktsIn K C_NoKnot "BaseException" = true)
  (xk_NoSize:PySem.W.ktsIn K C_NoSize "BaseException" = true)
  (xk_NoTie:PySem.W.ktsIn K C_NoTie "BaseException" = true)
  (pg_Labels:PySem.W.plainGet K C_Labels Str.empty=true)
  (hd_Labels:PySem.W.hasDictIn K C_Labels=true)
  (po_Labels:PySem.W.plainOver K C_Labels=true)
  (sa_Labels:PySem.W.findIn K (.ref C_Labels) "__setattr__" = some (some (.builtin "object.__setattr__")))
  (mk_Labels:PySem.W.makesIn K C_Labels=true)
  (kc_Labels:PySem.W.keepIn K (.ref C_Labels)=true)
  (n_Labels_levels:PySem.W.findIn K (.ref C_Labels) "levels" = some none)
  (n_Labels_found_cuts:PySem.W.findIn K (.ref C_Labels) "found_cuts" = some none)
  (n_Labels_found_ways:PySem.W.findIn K (.ref C_Labels) "found_ways" = some none)
  (pg_Fold:PySem.W.plainGet K C_Fold Str.empty=true)
  (hd_Fold:PySem.W.hasDictIn K C_Fold=true)
  (po_Fold:PySem.W.plainOver K C_Fold=true)
  (sa_Fold:PySem.W.findIn K (.ref C_Fold) "__setattr__" = some (some (.builtin "object.__setattr__")))
  (mk_Fold:PySem.W.makesIn K C_Fold=true)
  (kc_Fold:PySem.W.keepIn K (.ref C_Fold)=true)
  (n_Fold_many:PySem.W.findIn K (.ref C_Fold) "many" = some none)
  (n_Fold_pairs:PySem.W.findIn K (.ref C_Fold) "pairs" = some none)
  (n_Fold_knots:PySem.W.findIn K (.ref C_Fold) "knots" = some none)
  (g_ALWAYS:PySem.W.nsIn K mainGlobals "ALWAYS" = some (some (.int 1 ug_ALWAYS)))
  (g_GREATEST_SIZE:PySem.W.nsIn K mainGlobals "GREATEST_SIZE" = some (some (.int 6 ug_GREATEST_SIZE)))
  (g_LEAST_SIZE:PySem.W.nsIn K mainGlobals "LEAST_SIZE" = some (some (.int 2 ug_LEAST_SIZE)))
  (g_NEVER:PySem.W.nsIn K mainGlobals "NEVER" = some (some (.int 0 ug_NEVER)))
  (z_bool:PySem.W.nsIn K mainGlobals "bool" = some none)
  (z_int:PySem.W.nsIn K mainGlobals "int" = some none)
  (z_isinstance:PySem.W.nsIn K mainGlobals "isinstance" = some none)
  (z_len:PySem.W.nsIn K mainGlobals "len" = some none)
  (z_list:PySem.W.nsIn K mainGlobals "list" = some none)
  (z_max:PySem.W.nsIn K mainGlobals "max" = some none)
  (z_min:PySem.W.nsIn K mainGlobals "min" = some none)
  (z_range:PySem.W.nsIn K mainGlobals "range" = some none)
  (z_sorted:PySem.W.nsIn K mainGlobals "sorted" = some none) :
  ∃ fd:FuncData,(∀ (s:Shared) (v:Value),BindsTo s fd ⟨[v],[]⟩ [("_law_script",v)])∧∀ base:Heap,K.In base→base.Ns mainGlobals mg→FnOk l.prog w K mg base CX0 8 fa fd ["_law_script"] (sp_law K):=by
 have e:=hfa.symm.trans (PySem.W.mg_of X G a35)
 cases e
 have F0:=fun_mk (st:=s_is_whole) l0 c0 k0
 have B0:=F0.binds (ps:=["thing"]) fun _ _ _ _ _ _ us hl=>by obtain ⟨_,rfl⟩:=lenN1 hl;rfl
 have F1:=fun_mk (st:=s_is_between) l1 c1 k1
 have B1:=F1.binds (ps:=["thing","least","greatest"]) fun _ _ _ _ _ _ us hl=>by obtain ⟨_,_,_,rfl⟩:=lenN3 hl;rfl
 have F2:=fun_mk (st:=s_reached) l2 c2 k2
 have B2:=F2.binds (ps:=["fold","knots","stops"]) fun _ _ _ _ _ _ us hl=>by obtain ⟨_,_,_,rfl⟩:=lenN3 hl;rfl
 have F3:=fun_mk (st:=s_cone) l3 c3 k3
 have B3:=F3.binds (ps:=["fold","knot"]) fun _ _ _ _ _ _ us hl=>by obtain ⟨_,_,rfl⟩:=lenN2 hl;rfl
 have F4:=fun_mk (st:=s_head) l4 c4 k4
 have B4:=F4.binds (ps:=["place"]) fun _ _ _ _ _ _ us hl=>by obtain ⟨_,rfl⟩:=lenN1 hl;rfl
 have F5:=fun_mk (st:=s_foot) l5 c5 k5
 have B5:=F5.binds (ps:=["place"]) fun _ _ _ _ _ _ us hl=>by obtain ⟨_,rfl⟩:=lenN1 hl;rfl
 have F6:=fun_mk (st:=s_need_goals) l6 c6 k6
 have B6:=F6.binds (ps:=["maze","goals"]) fun _ _ _ _ _ _ us hl=>by obtain ⟨_,_,rfl⟩:=lenN2 hl;rfl
 have F7:=fun_mk (st:=s_next_ends) l7 c7 k7
 have B7:=F7.binds (ps:=["maze","above","end"]) fun _ _ _ _ _ _ us hl=>by obtain ⟨_,_,_,rfl⟩:=lenN3 hl;rfl
 have F8:=fun_mk (st:=s_search) l8 c8 k8
 have B8:=F8.binds (ps:=["maze","goals","above"]) fun _ _ _ _ _ _ us hl=>by obtain ⟨_,_,_,rfl⟩:=lenN3 hl;rfl
 have F9:=fun_mk (st:=s_lead) l9 c9 k9
 have B9:=F9.binds (ps:=["above","came","spring"]) fun _ _ _ _ _ _ us hl=>by obtain ⟨_,_,_,rfl⟩:=lenN3 hl;rfl
 have F10:=fun_mk (st:=s_way_from) l10 c10 k10
 have B10:=F10.binds (ps:=["above","spring"]) fun _ _ _ _ _ _ us hl=>by obtain ⟨_,_,rfl⟩:=lenN2 hl;rfl
 have F11:=fun_mk (st:=s_ways_of) l11 c11 k11
 have B11:=F11.binds (ps:=["maze","above"]) fun _ _ _ _ _ _ us hl=>by obtain ⟨_,_,rfl⟩:=lenN2 hl;rfl
 have F12:=fun_mk (st:=s_stops_of) l12 c12 k12
 have B12:=F12.binds (ps:=["came"]) fun _ _ _ _ _ _ us hl=>by obtain ⟨_,rfl⟩:=lenN1 hl;rfl
 have F13:=fun_mk (st:=s_apart) l13 c13 k13
 have B13:=F13.binds (ps:=["maze","goals","most"]) fun _ _ _ _ _ _ us hl=>by obtain ⟨_,_,_,rfl⟩:=lenN3 hl;rfl
 have F14:=fun_mk (st:=s_need_size) l14 c14 k14
 have B14:=F14.binds (ps:=["size"]) fun _ _ _ _ _ _ us hl=>by obtain ⟨_,rfl⟩:=lenN1 hl;rfl
 have F15:=fun_mk (st:=s_maze_of) l15 c15 k15
 have B15:=F15.binds (ps:=["fold"]) fun _ _ _ _ _ _ us hl=>by obtain ⟨_,rfl⟩:=lenN1 hl;rfl
 have F16:=fun_mk (st:=s_Labels___init__) l16 c16 k16
 have B16:=F16.binds (ps:=["self","fold","size"]) fun _ _ _ _ _ _ us hl=>by obtain ⟨_,_,_,rfl⟩:=lenN3 hl;rfl
 have F17:=fun_mk (st:=s_Labels_settle) l17 c17 k17
 have B17:=F17.binds (ps:=["self","maze","inner","size"]) fun _ _ _ _ _ _ us hl=>by obtain ⟨_,_,_,_,rfl⟩:=lenN4 hl;rfl
 have F18:=fun_mk (st:=s_Labels_keep) l18 c18 k18
 have B18:=F18.binds (ps:=["self","knot","level","cut","ways"]) fun _ _ _ _ _ _ us hl=>by obtain ⟨_,_,_,_,_,rfl⟩:=lenN5 hl;rfl
 have F19:=fun_mk (st:=s_Labels_label) l19 c19 k19
 have B19:=F19.binds (ps:=["self","knot"]) fun _ _ _ _ _ _ us hl=>by obtain ⟨_,_,rfl⟩:=lenN2 hl;rfl
 have F20:=fun_mk (st:=s_turned) l20 c20 k20
 have B20:=F20.binds (ps:=["tie"]) fun _ _ _ _ _ _ us hl=>by obtain ⟨_,rfl⟩:=lenN1 hl;rfl
 have F21:=fun_mk (st:=s_Fold___init__) l21 c21 k21
 have B21:=F21.binds (ps:=["self","many"]) fun _ _ _ _ _ _ us hl=>by obtain ⟨_,_,rfl⟩:=lenN2 hl;rfl
 have F22:=fun_mk (st:=s_Fold_total) l22 c22 k22
 have B22:=F22.binds (ps:=["self"]) fun _ _ _ _ _ _ us hl=>by obtain ⟨_,rfl⟩:=lenN1 hl;rfl
 have F23:=fun_mk (st:=s_Fold_has_tie) l23 c23 k23
 have B23:=F23.binds (ps:=["self","tie"]) fun _ _ _ _ _ _ us hl=>by obtain ⟨_,_,rfl⟩:=lenN2 hl;rfl
 have F24:=fun_mk (st:=s_Fold_pair) l24 c24 k24
 have B24:=F24.binds (ps:=["self","knot"]) fun _ _ _ _ _ _ us hl=>by obtain ⟨_,_,rfl⟩:=lenN2 hl;rfl
 have F25:=fun_mk (st:=s_Fold_both) l25 c25 k25
 have B25:=F25.binds (ps:=["self","one","other"]) fun _ _ _ _ _ _ us hl=>by obtain ⟨_,_,_,rfl⟩:=lenN3 hl;rfl
 have F26:=fun_mk (st:=s_Fold_and_knot) l26 c26 k26
 have B26:=F26.binds (ps:=["self","ties"]) fun _ _ _ _ _ _ us hl=>by obtain ⟨_,_,rfl⟩:=lenN2 hl;rfl
 have F27:=fun_mk (st:=s_law_cell_at) l27 c27 k27
 have B27:=F27.binds (ps:=["_law_script","_law_k"]) fun _ _ _ _ _ _ us hl=>by obtain ⟨_,_,rfl⟩:=lenN2 hl;rfl
 have F28:=fun_mk (st:=s_law_pairs) l28 c28 k28
 have B28:=F28.binds (ps:=["_law_many","_law_cells"]) fun _ _ _ _ _ _ us hl=>by obtain ⟨_,_,rfl⟩:=lenN2 hl;rfl
 have F29:=fun_mk (st:=s_law_mixed) l29 c29 k29
 have B29:=F29.binds (ps:=["_law_script","_law_start","_law_count"]) fun _ _ _ _ _ _ us hl=>by obtain ⟨_,_,_,rfl⟩:=lenN3 hl;rfl
 have F30:=fun_mk (st:=s_law_digit_pairs) l30 c30 k30
 have B30:=F30.binds (ps:=["_law_many","_law_cell","_law_most"]) fun _ _ _ _ _ _ us hl=>by obtain ⟨_,_,_,rfl⟩:=lenN3 hl;rfl
 have F31:=fun_mk (st:=s_law_fold) l31 c31 k31
 have B31:=F31.binds (ps:=["_law_many","_law_pairs_here"]) fun _ _ _ _ _ _ us hl=>by obtain ⟨_,_,rfl⟩:=lenN2 hl;rfl
 have F32:=fun_mk (st:=s_law_few) l32 c32 k32
 have B32:=F32.binds (ps:=["_law_mask","_law_most"]) fun _ _ _ _ _ _ us hl=>by obtain ⟨_,_,rfl⟩:=lenN2 hl;rfl
 have F33:=fun_mk (st:=s_law_cuts) l33 c33 k33
 have B33:=F33.binds (ps:=["_law_ones","_law_others","_law_size"]) fun _ _ _ _ _ _ us hl=>by obtain ⟨_,_,_,rfl⟩:=lenN3 hl;rfl
 have F34:=fun_mk (st:=s_law_highest) l34 c34 k34
 have B34:=F34.binds (ps:=["_law_mask","_law_marks"]) fun _ _ _ _ _ _ us hl=>by obtain ⟨_,_,rfl⟩:=lenN2 hl;rfl
 have F35:=fun_mk (st:=s_law) l35 c35 k35
 have B35:=F35.binds (ps:=["_law_script"]) fun _ _ _ _ _ _ us hl=>by obtain ⟨_,rfl⟩:=lenN1 hl;rfl
 have T:Txt K mg ⟨f0,_,f1,_,f2,_,f3,_,f4,_,f5,_,f6,_,f7,_,f8,_,f9,_,f10,_,f11,_,f12,_,f13,_,f14,_,f15,_,f16,_,f17,_,f18,_,f19,_,f20,_,f21,_,f22,_,f23,_,f24,_,f25,_,f26,_,f27,_,f28,_,f29,_,f30,_,f31,_,f32,_,f33,_,f34,_,_,_,C_Labels,C_Fold,C_NoGoal,C_NoKnot,C_NoSize,C_NoTie⟩:=⟨PySem.W.mg_of X G a0,F0,B0,PySem.W.mg_of X G a1,F1,B1,PySem.W.mg_of X G a2,F2,B2,PySem.W.mg_of X G a3,F3,B3,PySem.W.mg_of X G a4,F4,B4,PySem.W.mg_of X G a5,F5,B5,PySem.W.mg_of X G a6,F6,B6,PySem.W.mg_of X G a7,F7,B7,PySem.W.mg_of X G a8,F8,B8,PySem.W.mg_of X G a9,F9,B9,PySem.W.mg_of X G a10,F10,B10,PySem.W.mg_of X G a11,F11,B11,PySem.W.mg_of X G a12,F12,B12,PySem.W.mg_of X G a13,F13,B13,PySem.W.mg_of X G a14,F14,B14,PySem.W.mg_of X G a15,F15,B15,F16,B16,F17,B17,⟨a17,i17,k17⟩,F18,B18,⟨a18,i18,k18⟩,F19,B19,⟨a19,i19,k19⟩,PySem.W.mg_of X G a20,F20,B20,F21,B21,F22,B22,⟨a22,i22,k22⟩,F23,B23,⟨a23,i23,k23⟩,F24,B24,⟨a24,i24,k24⟩,F25,B25,⟨a25,i25,k25⟩,F26,B26,⟨a26,i26,k26⟩,PySem.W.mg_of X G a27,F27,B27,PySem.W.mg_of X G a28,F28,B28,PySem.W.mg_of X G a29,F29,B29,PySem.W.mg_of X G a30,F30,B30,PySem.W.mg_of X G a31,F31,B31,PySem.W.mg_of X G a32,F32,B32,PySem.W.mg_of X G a33,F33,B33,PySem.W.mg_of X G a34,F34,B34,PySem.W.mg_of X G a35,F35,B35,PySem.W.mg_of X G aC_Labels,⟨pg_Labels,hd_Labels,po_Labels,sa_Labels⟩,⟨mk_Labels,a16,i16,kc_Labels⟩,n_Labels_levels,n_Labels_found_cuts,n_Labels_found_ways,PySem.W.mg_of X G aC_Fold,⟨pg_Fold,hd_Fold,po_Fold,sa_Fold⟩,⟨mk_Fold,a21,i21,kc_Fold⟩,n_Fold_many,n_Fold_pairs,n_Fold_knots,PySem.W.mg_of X G aC_NoGoal,PySem.W.mg_of X G aC_NoKnot,PySem.W.mg_of X G aC_NoSize,PySem.W.mg_of X G aC_NoTie,xi_NoGoal,xq_NoGoal,kv_NoGoal,xi_NoKnot,xq_NoKnot,kv_NoKnot,xi_NoSize,xq_NoSize,kv_NoSize,xi_NoTie,xq_NoTie,kv_NoTie,xk_NoGoal,xk_NoKnot,xk_NoSize,xk_NoTie,⟨_,PySem.W.mg_of X G g_ALWAYS,⟨_,rfl⟩⟩,⟨_,PySem.W.mg_of X G g_GREATEST_SIZE,⟨_,rfl⟩⟩,⟨_,PySem.W.mg_of X G g_LEAST_SIZE,⟨_,rfl⟩⟩,⟨_,PySem.W.mg_of X G g_NEVER,⟨_,rfl⟩⟩,PySem.W.mg_none_of X G z_bool,PySem.W.mg_none_of X G z_int,PySem.W.mg_none_of X G z_isinstance,PySem.W.mg_none_of X G z_len,PySem.W.mg_none_of X G z_list,PySem.W.mg_none_of X G z_max,PySem.W.mg_none_of X G z_min,PySem.W.mg_none_of X G z_range,PySem.W.mg_none_of X G z_sorted⟩
 exact ⟨_,fun s v=>.of_eq rfl,fun base _ _=>ok_law T⟩
theorem walk {l:PySem.W.OpenLaw}{q:Program}{loose:List Str}{XP:(Str→Option Value)→Heap→Prop}{YP:World→Heap→Prop}{d:DefRec}{K:Params→PySem.W.Frag} (hn:l.most=some 63) (hdf:d.params.defaults=[])
  (hY:∀ (w:World) (h:Heap),YP w h→(K w.params).In h)
  (F:∀ (w:World) (mg:Str→Option Value) (fa:Addr) (h:Heap),(K w.params).In h→h.Ns mainGlobals mg→mg d.name=some (.ref fa) →
   ∃ fd:FuncData,(∀ (s:Shared) (u:Value),BindsTo s fd ⟨[u],[]⟩ [("_law_script",u)])∧∀ base:Heap,(K w.params).In base→base.Ns mainGlobals mg→FnOk l.prog w (K w.params) mg base CX0 8 fa fd ["_law_script"] (sp_law (K w.params))) :
  PySem.W.WalkO q loose XP YP l.row.toRowW d [] (fun f vs=>PySem.call f vs) :=
 L2.walk_of (n:=63) (k:=8) (x:="_law_script") (CX:=fun _=>CX0) (sp:=fun w=>sp_law (K w.params)) hn (by decide) hdf ⟨rfl,by decide,by decide⟩ hY F (fun _ _ a ns hl _ hS=>⟨a,ns,rfl,hS,hl,fun _=>rfl⟩) fun _ _ _ _ _ z=>z
end K32
lay_quick PySem.Challenge.pw_gatefold_k32_labels_by_all_cuts
namespace OT
open PySem PySem.W PySem.Spec PyProof.Rows L2
noncomputable section
abbrev PM:=Params
abbrev OB:=Obj
abbrev TP:Program:=PySem.W.Fast.tw13564486745566344842
def tT (i:Nat):Stmt:=TP.main.body.getD i (.Pass ⟨0,0,0,0⟩)
abbrev vs (s:Str) (t:Nat):Value:=.str s t
abbrev vr (a:Nat):Value:=.ref a
abbrev vi (a:Int) (t:Nat):Value:=.int a t
abbrev vn:Value:=.none
abbrev df (a:Array Value):Data:=.fields a
abbrev dq (a:Array Value) (n:Nat):Data:=.seq a n
abbrev dd (a:Array DictEntry) (n:Nat):Data:=.dict a n
abbrev de (P:Params) (s:Str) (t:Nat) (v:Value):DictEntry:=.mk (PyData.keyHash P s) (.str s t) v
abbrev ob (t:String) (d:Data) (sl:Array (Option Value)):Obj:=⟨.type t,none,d,sl⟩
abbrev nd:=BT.node
abbrev nl:=BT.nil
abbrev Zl (P:PM):BT:=BT.nil
abbrev N (f:PM→OB) (a b:PM→BT) (P:PM):BT:=BT.node (f P) (a P) (b P)
abbrev M (f:PM→OB) (a:PM→BT) (P:PM):BT:=BT.node (f P) (a P) BT.nil
abbrev L (f:PM→OB) (P:PM):BT:=BT.node (f P) BT.nil BT.nil
abbrev bF:Value:=.bool false
abbrev bT:Value:=.bool true
abbrev vb (y:String):Value:=.builtin y
abbrev vt (y:String):Value:=.type y
abbrev sr (a:Nat):Option Value:=some (.ref a)
abbrev ss (s:Str) (t:Nat):Option Value:=some (.str s t)
abbrev z0:Value:=.int 0 0
abbrev of (y:String) (l:List Value):Obj:=⟨.type y,none,.fields ⟨l⟩,⟨[]⟩⟩
abbrev oq (y:String) (l:List Value) (n:Nat):Obj:=⟨.type y,none,.seq ⟨l⟩ n,⟨[]⟩⟩
abbrev od (y:String) (l:List DictEntry) (n:Nat):Obj:=⟨.type y,none,.dict ⟨l⟩ n,⟨[]⟩⟩
abbrev y0:String:=PySem.W.SL.s2766695959194262286x5
abbrev y1:String:=PySem.W.SL.s5856160107412720595x4
abbrev y2:String:=PySem.W.SL.s658472552662922059x5
abbrev y3:String:=PySem.W.SL.s14018661285674007319x4
abbrev y4:String:=PySem.W.SL.s7097527257260152453x26
abbrev y5:String:=PySem.W.SL.s6070975301684473832x10
abbrev y6:String:=PySem.W.SL.s11030030927630378310x26
abbrev y7:String:=PySem.W.SL.s10062305145149207511x16
abbrev y8:String:=PySem.W.SL.s17162191345867700912x4
abbrev y9:String:=PySem.W.SL.s5946037652744460706x9
abbrev y10:String:=PySem.W.SL.s4278001404047624695x13
abbrev y11:String:=PySem.W.SL.s2742458400755230247x6
abbrev y12:String:=PySem.W.SL.s4209523147560561109x18
abbrev y13:String:=PySem.W.SL.s14755015743595814543x17
abbrev y14:String:=PySem.W.SL.s10220274742760427390x26
abbrev y15:String:=PySem.W.SL.s4290257624100764138x5
abbrev y16:String:=PySem.W.SL.s4860613602091757760x24
abbrev y17:String:=PySem.W.SL.s7174869446012820540x8
abbrev y18:String:=PySem.W.SL.s11443829558043349243x14
abbrev y19:String:=PySem.W.SL.s6511155373996960695x17
abbrev y20:String:=PySem.W.SL.s12411053484034534018x21
abbrev b0 (P:PM):OB:=PySem.W.boot_o_0 P
abbrev b1 (P:PM):OB:=PySem.W.boot_o_1 P
abbrev b2 (P:PM):OB:=PySem.W.boot_o_2 P
abbrev b3 (P:PM):OB:=PySem.W.boot_o_3 P
abbrev b4 (P:PM):OB:=PySem.W.boot_o_4 P
abbrev b5 (P:PM):OB:=PySem.W.boot_o_5 P
abbrev b6 (P:PM):OB:=PySem.W.boot_o_6 P
abbrev b7 (P:PM):OB:=PySem.W.boot_o_7 P
abbrev b8 (P:PM):OB:=PySem.W.boot_o_8 P
abbrev b9 (P:PM):OB:=PySem.W.boot_o_9 P
abbrev b10 (P:PM):OB:=PySem.W.boot_o_10 P
abbrev j0 (a b:Str) (s:Stmt):OB:=⟨vn,none,.func (.mk a b (defArgs s) (.stmts (defBody s)) (defScope s) 0 [] vn vn vn vn none vn vn 0),⟨[]⟩⟩
abbrev j1 (a b:Str) (s:Stmt) (q:Str) (t n:Nat):OB:=⟨(vt y17),none,.func (.mk a b (defArgs s) (.stmts (defBody s)) (defScope s) 3 [] vn vn vn (vs q t) none (vr n) vn 0),⟨[]⟩⟩
abbrev q0:Str:=⟨⟨[115,116,111,112,115,95,111,102]⟩⟩
abbrev q1:Str:=⟨⟨[99,97,109,101]⟩⟩
abbrev q2:Str:=⟨⟨[101,110,100]⟩⟩
abbrev q3:Str:=⟨⟨[115,111,114,116,101,100]⟩⟩
abbrev q4:Str:=⟨⟨[102,111,111,116]⟩⟩
abbrev q6:Str:=⟨⟨[102,97,115,116]⟩⟩
abbrev q7:Str:=⟨⟨[103,97,116,101,102,111,108,100,46,109,97,122,101,115]⟩⟩
abbrev q8:Str:=⟨⟨[95,95,110,97,109,101,95,95]⟩⟩
abbrev q9:Str:=⟨⟨[108,97,119,95,103,97,116,101,102,111,108,100,95,107,51,50,95,108,97,98,101,108,115,95,98,121,95,97,108,108,95,99,117,116,115]⟩⟩
abbrev q10:Str:=⟨⟨[95,95,100,111,99,95,95]⟩⟩
abbrev q11:Str:=⟨⟨[95,95,112,97,99,107,97,103,101,95,95]⟩⟩
abbrev q12:Str:=⟨⟨[95,95,108,111,97,100,101,114,95,95]⟩⟩
abbrev q13:Str:=⟨⟨[95,95,115,112,101,99,95,95]⟩⟩
abbrev q14:Str:=⟨⟨[95,95,97,110,110,111,116,97,116,105,111,110,115,95,95]⟩⟩
abbrev q15:Str:=⟨⟨[95,95,98,117,105,108,116,105,110,115,95,95]⟩⟩
abbrev q16:Str:=⟨⟨[95,95,102,105,108,101,95,95]⟩⟩
abbrev q17:Str:=⟨⟨[47,99,108,97,105,109,47,99,117,116,46,112,121]⟩⟩
abbrev q18:Str:=⟨⟨[95,95,99,97,99,104,101,100,95,95]⟩⟩
abbrev q19:Str:=⟨⟨[70,111,108,100,69,114,114,111,114]⟩⟩
abbrev q20:Str:=⟨⟨[78,111,84,105,101]⟩⟩
abbrev q21:Str:=⟨⟨[78,111,75,110,111,116]⟩⟩
abbrev q22:Str:=⟨⟨[78,111,71,111,97,108]⟩⟩
abbrev q23:Str:=⟨⟨[78,111,83,105,122,101]⟩⟩
abbrev q24:Str:=⟨⟨[105,115,95,119,104,111,108,101]⟩⟩
abbrev q25:Str:=⟨⟨[105,115,95,98,101,116,119,101,101,110]⟩⟩
abbrev q26:Str:=⟨⟨[114,101,97,99,104,101,100]⟩⟩
abbrev q27:Str:=⟨⟨[99,111,110,101]⟩⟩
abbrev q28:Str:=⟨⟨[104,101,97,100]⟩⟩
abbrev q29:Str:=⟨⟨[110,101,101,100,95,103,111,97,108,115]⟩⟩
abbrev q30:Str:=⟨⟨[110,101,120,116,95,101,110,100,115]⟩⟩
abbrev q31:Str:=⟨⟨[115,101,97,114,99,104]⟩⟩
abbrev q32:Str:=⟨⟨[108,101,97,100]⟩⟩
abbrev q33:Str:=⟨⟨[119,97,121,95,102,114,111,109]⟩⟩
abbrev q34:Str:=⟨⟨[119,97,121,115,95,111,102]⟩⟩
abbrev q35:Str:=⟨⟨[97,112,97,114,116]⟩⟩
abbrev q36:Str:=⟨⟨[76,69,65,83,84,95,83,73,90,69]⟩⟩
abbrev q37:Str:=⟨⟨[71,82,69,65,84,69,83,84,95,83,73,90,69]⟩⟩
abbrev q38:Str:=⟨⟨[110,101,101,100,95,115,105,122,101]⟩⟩
abbrev q39:Str:=⟨⟨[109,97,122,101,95,111,102]⟩⟩
abbrev q40:Str:=⟨⟨[76,97,98,101,108,115]⟩⟩
abbrev q41:Str:=⟨⟨[78,69,86,69,82]⟩⟩
abbrev q42:Str:=⟨⟨[65,76,87,65,89,83]⟩⟩
abbrev q43:Str:=⟨⟨[116,117,114,110,101,100]⟩⟩
abbrev q44:Str:=⟨⟨[70,111,108,100]⟩⟩
abbrev q45:Str:=⟨⟨[95,108,97,119,95,109,105,120,101,100]⟩⟩
abbrev q46:Str:=⟨⟨[95,108,97,119,95,115,99,114,105,112,116]⟩⟩
abbrev q47:Str:=⟨⟨[95,108,97,119,95,115,116,97,114,116]⟩⟩
abbrev q48:Str:=⟨⟨[95,108,97,119,95,99,111,117,110,116]⟩⟩
abbrev q49:Str:=⟨⟨[95,108,97,119,95,109,97,100,101]⟩⟩
abbrev q50:Str:=⟨⟨[95,108,97,119,95,107]⟩⟩
abbrev q52:Str:=⟨⟨[95,108,97,119,95,99,101,108,108]⟩⟩
abbrev q53:Str:=⟨⟨[95,108,97,119,95,99,101,108,108,95,97,116]⟩⟩
abbrev q55:Str:=⟨⟨[110,101,101,100,95,97,110,100,95,107,110,111,116]⟩⟩
abbrev q56:Str:=⟨⟨[76,97,98,101,108,115,46,110,101,101,100,95,97,110,100,95,107,110,111,116]⟩⟩
abbrev q57:Str:=⟨⟨[115,101,108,102]⟩⟩
abbrev q58:Str:=⟨⟨[107,110,111,116]⟩⟩
abbrev q59:Str:=⟨⟨[102,111,117,110,100,95,99,117,116,115]⟩⟩
abbrev q61:Str:=⟨⟨[103,97,116,101,102,111,108,100,46,108,97,98,101,108,115]⟩⟩
abbrev q62:Str:=⟨⟨[112,108,97,99,101]⟩⟩
abbrev q63:Str:=⟨⟨[115,101,116,116,108,101]⟩⟩
abbrev q64:Str:=⟨⟨[76,97,98,101,108,115,46,115,101,116,116,108,101]⟩⟩
abbrev q65:Str:=⟨⟨[95,108,97,119,95,100,105,103,105,116,95,112,97,105,114,115]⟩⟩
abbrev q66:Str:=⟨⟨[102,111,108,100]⟩⟩
abbrev q67:Str:=⟨⟨[116,111,116,97,108]⟩⟩
abbrev q69:Str:=⟨⟨[103,97,116,101,102,111,108,100,46,99,111,110,101,115]⟩⟩
abbrev q70:Str:=⟨⟨[95,108,97,119,95,102,111,108,100]⟩⟩
abbrev q71:Str:=⟨⟨[60,109,111,100,117,108,101,62]⟩⟩
abbrev q72:Str:=⟨⟨[98,111,116,104]⟩⟩
abbrev q73:Str:=⟨⟨[70,111,108,100,46,98,111,116,104]⟩⟩
abbrev q74:Str:=⟨⟨[115,105,122,101]⟩⟩
abbrev q76:Str:=⟨⟨[97,110,100,95,107,110,111,116]⟩⟩
abbrev q77:Str:=⟨⟨[70,111,108,100,46,97,110,100,95,107,110,111,116]⟩⟩
abbrev q78:Str:=⟨⟨[116,105,101,115]⟩⟩
abbrev q79:Str:=⟨⟨[107,110,111,116,115]⟩⟩
abbrev q80:Str:=⟨⟨[112,97,105,114,115]⟩⟩
abbrev q81:Str:=⟨⟨[95,95,109,111,100,117,108,101,95,95]⟩⟩
abbrev q82:Str:=⟨⟨[103,97,116,101,102,111,108,100,46,101,114,114,111,114,115]⟩⟩
abbrev q83:Str:=⟨⟨[95,95,113,117,97,108,110,97,109,101,95,95]⟩⟩
abbrev q84:Str:=⟨⟨[95,95,102,105,114,115,116,108,105,110,101,110,111,95,95]⟩⟩
abbrev q85:Str:=⟨⟨[95,95,115,116,97,116,105,99,95,97,116,116,114,105,98,117,116,101,115,95,95]⟩⟩
abbrev q86:Str:=⟨⟨[109,97,122,101]⟩⟩
abbrev q89:Str:=⟨⟨[103,114,101,97,116,101,115,116]⟩⟩
abbrev q91:Str:=⟨⟨[108,101,118,101,108,115]⟩⟩
abbrev q92:Str:=⟨⟨[108,111,119,101,114]⟩⟩
abbrev q93:Str:=⟨⟨[107,101,101,112]⟩⟩
abbrev q94:Str:=⟨⟨[103,111,97,108,115]⟩⟩
abbrev q97:Str:=⟨⟨[102,111,117,110,100,95,119,97,121,115]⟩⟩
abbrev q98:Str:=⟨⟨[104,97,115,95,116,105,101]⟩⟩
abbrev q99:Str:=⟨⟨[70,111,108,100,46,104,97,115,95,116,105,101]⟩⟩
abbrev q100:Str:=⟨⟨[116,105,101]⟩⟩
abbrev q101:Str:=⟨⟨[103,97,116,101,102,111,108,100,46,102,111,108,100,115]⟩⟩
abbrev q102:Str:=⟨⟨[95,108,97,119,95,112,97,105,114,115]⟩⟩
abbrev q103:Str:=⟨⟨[95,108,97,119,95,102,101,119]⟩⟩
abbrev q104:Str:=⟨⟨[95,108,97,119,95,99,117,116,115]⟩⟩
abbrev q105:Str:=⟨⟨[95,108,97,119,95,104,105,103,104,101,115,116]⟩⟩
abbrev q106:Str:=⟨⟨[108,97,119]⟩⟩
abbrev q107:Str:=⟨⟨[76,97,98,101,108,115,46,107,101,101,112]⟩⟩
abbrev q108:Str:=⟨⟨[108,101,118,101,108]⟩⟩
abbrev q109:Str:=⟨⟨[99,117,116]⟩⟩
abbrev q110:Str:=⟨⟨[119,97,121,115]⟩⟩
abbrev q111:Str:=⟨⟨[76,97,98,101,108,115,46,99,117,116]⟩⟩
abbrev q112:Str:=⟨⟨[95,95,105,110,105,116,95,95]⟩⟩
abbrev q113:Str:=⟨⟨[70,111,108,100,46,95,95,105,110,105,116,95,95]⟩⟩
abbrev q114:Str:=⟨⟨[95,108,97,119,95,109,97,110,121]⟩⟩
abbrev q115:Str:=⟨⟨[95,108,97,119,95,115,105,122,101]⟩⟩
abbrev q116:Str:=⟨⟨[95,108,97,119,95,109,111,115,116]⟩⟩
abbrev q117:Str:=⟨⟨[95,108,97,119,95,112,97,105,114,115,95,104,101,114,101]⟩⟩
abbrev q121:Str:=⟨⟨[95,108,97,119,95,109,97,114,107,115]⟩⟩
abbrev q123:Str:=⟨⟨[95,108,97,119,95,107,110,111,116]⟩⟩
abbrev q128:Str:=⟨⟨[95,108,97,119,95,109,97,115,107]⟩⟩
abbrev q129:Str:=⟨⟨[95,108,97,119,95,102,111,117,110,100]⟩⟩
abbrev q130:Str:=⟨⟨[108,97,98,101,108]⟩⟩
abbrev q134:Str:=⟨⟨[95,108,97,119,95,104,105,103,104]⟩⟩
abbrev q135:Str:=⟨⟨[116,104,105,110,103]⟩⟩
abbrev q136:Str:=⟨⟨[103,97,116,101,102,111,108,100,46,119,104,111,108,101,115]⟩⟩
abbrev q137:Str:=⟨⟨[70,111,108,100,46,116,111,116,97,108]⟩⟩
abbrev q138:Str:=⟨⟨[109,97,110,121]⟩⟩
abbrev q139:Str:=⟨⟨[76,97,98,101,108,115,46,95,95,105,110,105,116,95,95]⟩⟩
abbrev q140:Str:=⟨⟨[95,95,119,101,97,107,114,101,102,95,95]⟩⟩
abbrev q141:Str:=⟨⟨[76,97,98,101,108,115,46,108,97,98,101,108]⟩⟩
abbrev q142:Str:=⟨⟨[97,98,111,118,101]⟩⟩
abbrev q143:Str:=⟨⟨[115,112,114,105,110,103]⟩⟩
abbrev q144:Str:=⟨⟨[119,97,121]⟩⟩
abbrev q145:Str:=⟨⟨[117,112,112,101,114]⟩⟩
abbrev q147:Str:=⟨⟨[95,108,97,119,95,111,110,101,115]⟩⟩
abbrev q148:Str:=⟨⟨[95,108,97,119,95,111,116,104,101,114,115]⟩⟩
abbrev q149:Str:=⟨⟨[95,108,97,119,95,111,110,101]⟩⟩
abbrev q150:Str:=⟨⟨[95,108,97,119,95,111,116,104,101,114]⟩⟩
abbrev q152:Str:=⟨⟨[95,108,97,119,95,108,101,102,116]⟩⟩
abbrev q153:Str:=⟨⟨[95,108,97,119,95,114,105,103,104,116]⟩⟩
abbrev q157:Str:=⟨⟨[108,101,97,115,116]⟩⟩
abbrev q158:Str:=⟨⟨[76,97,98,101,108,115,46,119,97,121,115]⟩⟩
abbrev q160:Str:=⟨⟨[112,97,105,114]⟩⟩
abbrev q161:Str:=⟨⟨[111,110,101]⟩⟩
abbrev q162:Str:=⟨⟨[111,116,104,101,114]⟩⟩
abbrev q164:Str:=⟨⟨[102,105,114,115,116]⟩⟩
abbrev q165:Str:=⟨⟨[115,101,99,111,110,100]⟩⟩
abbrev q168:Str:=⟨⟨[95,108,97,119,95,99,101,108,108,115]⟩⟩
abbrev q169:Str:=⟨⟨[95,108,97,119,95,116,111,112]⟩⟩
abbrev q170:Str:=⟨⟨[95,108,97,119,95,114,101,115,116]⟩⟩
abbrev q172:Str:=⟨⟨[103,111,97,108]⟩⟩
abbrev q173:Str:=⟨⟨[119,97,105,116,105,110,103]⟩⟩
abbrev q174:Str:=⟨⟨[97,104,101,97,100]⟩⟩
abbrev q175:Str:=⟨⟨[95,95,100,105,99,116,95,95]⟩⟩
abbrev q176:Str:=⟨⟨[70,111,108,100,46,112,97,105,114]⟩⟩
abbrev q179:Str:=⟨⟨[109,111,115,116]⟩⟩
abbrev q180:Str:=⟨⟨[110,117,109,98,101,114]⟩⟩
abbrev q181:Str:=⟨⟨[102,111,117,110,100]⟩⟩
abbrev q183:Str:=⟨⟨[95,95,109,97,105,110,95,95]⟩⟩
def o43 (P:PM):OB:=oq y0 [] 0
abbrev e:=L o43
def o44 (P:PM):OB:=(Obj.mk vn none (df ⟨[]⟩) ⟨[]⟩)
def o45 (P:PM):OB:=of y1 [vs q71 182,vs q71 183,vs q17 184,vi 1 0,z0,z0,z0,z0,vr 11,bF,vi 181 0,vr 12,vn,vn,vn,vn,vi 185 0,vi 1 0,vs q17 186]
def o46 (P:PM):OB:=(ob y2 Data.plain ⟨[(sr 13),(sr 3),(sr 3),none,(ss q183 164),none,(sr 0)]⟩)
def o49 (P:PM):OB:=od y3 [de P q8 165 (vs q82 187),de P q10 166 vn,de P q11 167 vn,de P q12 168 (vb y4),de P q13 169 vn,de P q14 170 (vr 6),de P q15 171 (vr 4),de P q16 173 (vs q17 172),de P q18 174 vn,de P q19 206 (vr 24)] 10
def o50 (P:PM):OB:=(Obj.mk vn none (df ⟨[vi 2 0,z0,vr 20]⟩) ⟨[]⟩)
def o51 (P:PM):OB:=oq y0 [(vt y5)] 0
def o52 (P:PM):OB:=of y6 [(vb y7),(vt y8)]
def o53 (P:PM):OB:=od y3 [de P q81 196 (vs q82 187),de P q83 198 (vs q19 197),de P q84 200 (vi 2 199),de P q85 201 (vr 22)] 4
def o56 (P:PM):OB:=of y1 [vs q19 191,vs q19 192,vs q17 193,vi 2 0,z0,z0,z0,z0,vr 18,bF,vi 181 0,vr 19,vn,vn,vn,vn,vi 194 0,vi 2 0,vs q17 195]
def o57 (P:PM):OB:=(ob y2 Data.plain ⟨[(sr 20),(sr 3),(sr 17),none,(ss q82 187),none,(sr 0)]⟩)
def o59 (P:PM):OB:=od y3 [de P q81 196 (vs q82 187),de P q84 200 (vi 2 199),de P q85 201 (vr 22),de P q140 203 (vr 25),de P q10 204 vn] 3
def o60 (P:PM):OB:=(ob y8 (Data.cls (ClassData.mk q19 [(vt y5)] [vr 24,(vt y5),(vt y9),(vt y10),(vt y11)] 23 q19 true [] [] false none false)) ⟨[(sr 15),none,(ss q19 189),(ss q19 197),(some (vb y12)),(some bT)]⟩)
def o61 (P:PM):OB:=of y13 [vs q140 202,vr 24,(vb y14),vn]
def o62 (P:PM):OB:=of y15 [vr 24,vr 24,vr 24]
def o63 (P:PM):OB:=of y6 [(vb y16),vr 24]
def o64 (P:PM):OB:=od y3 [de P q8 165 (vs q82 187),de P q10 166 vn,de P q11 167 vn,de P q12 168 (vb y4),de P q13 169 vn,de P q14 170 (vr 6),de P q15 171 (vr 4),de P q16 173 (vs q17 172),de P q18 174 vn,de P q19 206 (vr 24),de P q20 222 (vr 37)] 11
def o65 (P:PM):OB:=(Obj.mk vn none (df ⟨[vi 2 0,z0,vr 20,vi 4 0,z0,vr 33]⟩) ⟨[]⟩)
def o66 (P:PM):OB:=(ob y8 (Data.cls (ClassData.mk q19 [(vt y5)] [vr 24,(vt y5),(vt y9),(vt y10),(vt y11)] 23 q19 true [] [vr 37] false none false)) ⟨[(sr 15),none,(ss q19 189),(ss q19 197),(some (vb y12)),(some bT)]⟩)
def o67 (P:PM):OB:=oq y0 [vr 24] 0
def o69 (P:PM):OB:=od y3 [de P q81 214 (vs q82 187),de P q83 216 (vs q20 215),de P q84 218 (vi 4 217),de P q85 219 (vr 35)] 4
def o72 (P:PM):OB:=of y1 [vs q20 209,vs q20 210,vs q17 211,vi 4 0,z0,z0,z0,z0,vr 31,bF,vi 181 0,vr 32,vn,vn,vn,vn,vi 212 0,vi 4 0,vs q17 213]
def o73 (P:PM):OB:=(ob y2 Data.plain ⟨[(sr 33),(sr 3),(sr 30),none,(ss q82 187),none,(sr 0)]⟩)
def o75 (P:PM):OB:=od y3 [de P q81 214 (vs q82 187),de P q84 218 (vi 4 217),de P q85 219 (vr 35),de P q10 220 vn] 2
def o76 (P:PM):OB:=(ob y8 (Data.cls (ClassData.mk q20 [vr 24] [vr 37,vr 24,(vt y5),(vt y9),(vt y10),(vt y11)] 36 q20 true [] [] false none false)) ⟨[(sr 28),none,(ss q20 207),(ss q20 215),(some (vb y12)),(some bT)]⟩)
def o77 (P:PM):OB:=of y15 [vr 37,vr 37,vr 37]
def o78 (P:PM):OB:=of y6 [(vb y16),vr 37]
def o79 (P:PM):OB:=od y3 [de P q8 165 (vs q82 187),de P q10 166 vn,de P q11 167 vn,de P q12 168 (vb y4),de P q13 169 vn,de P q14 170 (vr 6),de P q15 171 (vr 4),de P q16 173 (vs q17 172),de P q18 174 vn,de P q19 206 (vr 24),de P q20 222 (vr 37),de P q21 238 (vr 49)] 12
def o80 (P:PM):OB:=(Obj.mk vn none (df ⟨[vi 2 0,z0,vr 20,vi 4 0,z0,vr 33,vi 6 0,z0,vr 45]⟩) ⟨[]⟩)
def o81 (P:PM):OB:=(ob y8 (Data.cls (ClassData.mk q19 [(vt y5)] [vr 24,(vt y5),(vt y9),(vt y10),(vt y11)] 23 q19 true [] [vr 37,vr 49] false none false)) ⟨[(sr 15),none,(ss q19 189),(ss q19 197),(some (vb y12)),(some bT)]⟩)
def o84 (P:PM):OB:=od y3 [de P q81 230 (vs q82 187),de P q83 232 (vs q21 231),de P q84 234 (vi 6 233),de P q85 235 (vr 47)] 4
def o87 (P:PM):OB:=of y1 [vs q21 225,vs q21 226,vs q17 227,vi 6 0,z0,z0,z0,z0,vr 43,bF,vi 181 0,vr 44,vn,vn,vn,vn,vi 228 0,vi 6 0,vs q17 229]
def o88 (P:PM):OB:=(ob y2 Data.plain ⟨[(sr 45),(sr 3),(sr 42),none,(ss q82 187),none,(sr 0)]⟩)
def o90 (P:PM):OB:=od y3 [de P q81 230 (vs q82 187),de P q84 234 (vi 6 233),de P q85 235 (vr 47),de P q10 236 vn] 2
def o91 (P:PM):OB:=(ob y8 (Data.cls (ClassData.mk q21 [vr 24] [vr 49,vr 24,(vt y5),(vt y9),(vt y10),(vt y11)] 48 q21 true [] [] false none false)) ⟨[(sr 40),none,(ss q21 223),(ss q21 231),(some (vb y12)),(some bT)]⟩)
def o92 (P:PM):OB:=of y15 [vr 49,vr 49,vr 49]
def o93 (P:PM):OB:=of y6 [(vb y16),vr 49]
def o94 (P:PM):OB:=od y3 [de P q8 165 (vs q82 187),de P q10 166 vn,de P q11 167 vn,de P q12 168 (vb y4),de P q13 169 vn,de P q14 170 (vr 6),de P q15 171 (vr 4),de P q16 173 (vs q17 172),de P q18 174 vn,de P q19 206 (vr 24),de P q20 222 (vr 37),de P q21 238 (vr 49),de P q22 254 (vr 61)] 13
def o95 (P:PM):OB:=(Obj.mk vn none (df ⟨[vi 2 0,z0,vr 20,vi 4 0,z0,vr 33,vi 6 0,z0,vr 45,vi 8 0,z0,vr 57]⟩) ⟨[]⟩)
def o96 (P:PM):OB:=(ob y8 (Data.cls (ClassData.mk q19 [(vt y5)] [vr 24,(vt y5),(vt y9),(vt y10),(vt y11)] 23 q19 true [] [vr 37,vr 49,vr 61] false none false)) ⟨[(sr 15),none,(ss q19 189),(ss q19 197),(some (vb y12)),(some bT)]⟩)
def o99 (P:PM):OB:=od y3 [de P q81 246 (vs q82 187),de P q83 248 (vs q22 247),de P q84 250 (vi 8 249),de P q85 251 (vr 59)] 4
def o102 (P:PM):OB:=of y1 [vs q22 241,vs q22 242,vs q17 243,vi 8 0,z0,z0,z0,z0,vr 55,bF,vi 181 0,vr 56,vn,vn,vn,vn,vi 244 0,vi 8 0,vs q17 245]
def o103 (P:PM):OB:=(ob y2 Data.plain ⟨[(sr 57),(sr 3),(sr 54),none,(ss q82 187),none,(sr 0)]⟩)
def o105 (P:PM):OB:=od y3 [de P q81 246 (vs q82 187),de P q84 250 (vi 8 249),de P q85 251 (vr 59),de P q10 252 vn] 2
def o106 (P:PM):OB:=(ob y8 (Data.cls (ClassData.mk q22 [vr 24] [vr 61,vr 24,(vt y5),(vt y9),(vt y10),(vt y11)] 60 q22 true [] [] false none false)) ⟨[(sr 52),none,(ss q22 239),(ss q22 247),(some (vb y12)),(some bT)]⟩)
def o107 (P:PM):OB:=of y15 [vr 61,vr 61,vr 61]
def o108 (P:PM):OB:=of y6 [(vb y16),vr 61]
def o109 (P:PM):OB:=od y3 [de P q8 165 (vs q7 305),de P q10 166 vn,de P q11 167 vn,de P q12 168 (vb y4),de P q13 169 vn,de P q14 170 (vr 6),de P q15 171 (vr 4),de P q16 173 (vs q17 172),de P q18 174 vn,de P q19 206 (vr 24),de P q20 222 (vr 37),de P q21 238 (vr 49),de P q22 254 (vr 61),de P q23 270 (vr 73),de P q24 279 (vr 82),de P q25 288 (vr 89),de P q26 296 (vr 94),de P q27 304 (vr 101),de P q28 313 (vr 108)] 19
def o110 (P:PM):OB:=(Obj.mk vn none (df ⟨[vi 2 0,z0,vr 20,vi 4 0,z0,vr 33,vi 6 0,z0,vr 45,vi 8 0,z0,vr 57,vi 10 0,z0,vr 69,vi 13 0,z0,vr 81,vi 15 0,z0,vr 88,vi 18 0,z0,vr 93,vi 27 0,z0,vr 100,vi 32 0,z0,vr 107]⟩) ⟨[]⟩)
def o111 (P:PM):OB:=(ob y8 (Data.cls (ClassData.mk q19 [(vt y5)] [vr 24,(vt y5),(vt y9),(vt y10),(vt y11)] 23 q19 true [] [vr 37,vr 49,vr 61,vr 73] false none false)) ⟨[(sr 15),none,(ss q19 189),(ss q19 197),(some (vb y12)),(some bT)]⟩)
def o114 (P:PM):OB:=od y3 [de P q81 262 (vs q82 187),de P q83 264 (vs q23 263),de P q84 266 (vi 10 265),de P q85 267 (vr 71)] 4
def o117 (P:PM):OB:=of y1 [vs q23 257,vs q23 258,vs q17 259,vi 10 0,z0,z0,z0,z0,vr 67,bF,vi 181 0,vr 68,vn,vn,vn,vn,vi 260 0,vi 10 0,vs q17 261]
def o118 (P:PM):OB:=(ob y2 Data.plain ⟨[(sr 69),(sr 3),(sr 66),none,(ss q82 187),none,(sr 0)]⟩)
def o120 (P:PM):OB:=od y3 [de P q81 262 (vs q82 187),de P q84 266 (vi 10 265),de P q85 267 (vr 71),de P q10 268 vn] 2
def o121 (P:PM):OB:=(ob y8 (Data.cls (ClassData.mk q23 [vr 24] [vr 73,vr 24,(vt y5),(vt y9),(vt y10),(vt y11)] 72 q23 true [] [] false none false)) ⟨[(sr 64),none,(ss q23 255),(ss q23 263),(some (vb y12)),(some bT)]⟩)
def o122 (P:PM):OB:=of y15 [vr 73,vr 73,vr 73]
def o123 (P:PM):OB:=of y6 [(vb y16),vr 73]
def o126 (P:PM):OB:=oq y0 [vs q135 276] 0
def o128 (P:PM):OB:=j0 q24 q24 (tT 7)
def o129 (P:PM):OB:=of y1 [vs q24 273,vs q24 274,vs q17 275,vi 13 0,vi 1 0,z0,z0,vi 3 0,vr 76,bT,vi 181 0,vr 77,vn,vr 78,vr 79,vr 80,vi 277 0,vi 13 0,vs q17 278]
def o130 (P:PM):OB:=j1 q24 q24 (tT 7) q136 271 81
def o133 (P:PM):OB:=oq y0 [vs q135 283,vs q157 284,vs q89 285] 0
def o135 (P:PM):OB:=j0 q25 q25 (tT 8)
def o136 (P:PM):OB:=of y1 [vs q25 280,vs q25 281,vs q17 282,vi 15 0,vi 3 0,z0,z0,vi 3 0,vr 83,bT,vi 181 0,vr 84,vn,vr 85,vr 86,vr 87,vi 286 0,vi 15 0,vs q17 287]
def o137 (P:PM):OB:=j1 q25 q25 (tT 8) q136 271 88
def o140 (P:PM):OB:=j0 q26 q26 (tT 10)
def o141 (P:PM):OB:=of y1 [vs q26 291,vs q26 292,vs q17 293,vi 18 0,vi 3 0,z0,z0,vi 3 0,vr 90,bT,vi 181 0,vr 91,vn,vn,vn,vr 92,vi 294 0,vi 18 0,vs q17 295]
def o142 (P:PM):OB:=j1 q26 q26 (tT 10) q69 289 93
def o145 (P:PM):OB:=oq y0 [vs q66 300,vs q58 301] 0
def o147 (P:PM):OB:=j0 q27 q27 (tT 11)
def o148 (P:PM):OB:=of y1 [vs q27 297,vs q27 298,vs q17 299,vi 27 0,vi 2 0,z0,z0,vi 3 0,vr 95,bT,vi 181 0,vr 96,vn,vr 97,vr 98,vr 99,vi 302 0,vi 27 0,vs q17 303]
def o149 (P:PM):OB:=j1 q27 q27 (tT 11) q69 289 100
def o152 (P:PM):OB:=oq y0 [vs q62 310] 0
def o154 (P:PM):OB:=j0 q28 q28 (tT 13)
def o155 (P:PM):OB:=of y1 [vs q28 307,vs q28 308,vs q17 309,vi 32 0,vi 1 0,z0,z0,vi 3 0,vr 102,bT,vi 181 0,vr 103,vn,vr 104,vr 105,vr 106,vi 311 0,vi 32 0,vs q17 312]
def o156 (P:PM):OB:=j1 q28 q28 (tT 13) q7 305 107
def o157 (P:PM):OB:=od y3 [de P q8 165 (vs q61 397),de P q10 166 vn,de P q11 167 vn,de P q12 168 (vb y4),de P q13 169 vn,de P q14 170 (vr 6),de P q15 171 (vr 4),de P q16 173 (vs q17 172),de P q18 174 vn,de P q19 206 (vr 24),de P q20 222 (vr 37),de P q21 238 (vr 49),de P q22 254 (vr 61),de P q23 270 (vr 73),de P q24 279 (vr 82),de P q25 288 (vr 89),de P q26 296 (vr 94),de P q27 304 (vr 101),de P q28 313 (vr 108),de P q4 320 (vr 115),de P q29 329 (vr 122),de P q30 335 (vr 127),de P q31 351 (vr 134),de P q32 363 (vr 141),de P q33 372 (vr 148),de P q34 378 (vr 153),de P q0 384 (vr 158),de P q35 396 (vr 165),de P q36 400 (vi 2 399),de P q37 402 (vi 6 401),de P q38 409 (vr 172),de P q39 419 (vr 179)] 32
def o158 (P:PM):OB:=(Obj.mk vn none (df ⟨[vi 2 0,z0,vr 20,vi 4 0,z0,vr 33,vi 6 0,z0,vr 45,vi 8 0,z0,vr 57,vi 10 0,z0,vr 69,vi 13 0,z0,vr 81,vi 15 0,z0,vr 88,vi 18 0,z0,vr 93,vi 27 0,z0,vr 100,vi 32 0,z0,vr 107,vi 34 0,z0,vr 114,vi 36 0,z0,vr 121,vi 40 0,z0,vr 126,vi 47 0,z0,vr 133,vi 63 0,z0,vr 140,vi 76 0,z0,vr 147,vi 81 0,z0,vr 152,vi 84 0,z0,vr 157,vi 86 0,z0,vr 164,vi 98 0,z0,vr 171,vi 101 0,z0,vr 178]⟩) ⟨[]⟩)
def o161 (P:PM):OB:=oq y0 [vs q62 317] 0
def o163 (P:PM):OB:=j0 q4 q4 (tT 14)
def o164 (P:PM):OB:=of y1 [vs q4 314,vs q4 315,vs q17 316,vi 34 0,vi 1 0,z0,z0,vi 3 0,vr 109,bT,vi 181 0,vr 110,vn,vr 111,vr 112,vr 113,vi 318 0,vi 34 0,vs q17 319]
def o165 (P:PM):OB:=j1 q4 q4 (tT 14) q7 305 114
def o168 (P:PM):OB:=oq y0 [vs q86 324,vs q94 325,vs q172 326] 0
def o170 (P:PM):OB:=j0 q29 q29 (tT 15)
def o171 (P:PM):OB:=of y1 [vs q29 321,vs q29 322,vs q17 323,vi 36 0,vi 2 0,z0,z0,vi 3 0,vr 116,bT,vi 181 0,vr 117,vn,vr 118,vr 119,vr 120,vi 327 0,vi 36 0,vs q17 328]
def o172 (P:PM):OB:=j1 q29 q29 (tT 15) q7 305 121
def o175 (P:PM):OB:=j0 q30 q30 (tT 16)
def o176 (P:PM):OB:=of y1 [vs q30 330,vs q30 331,vs q17 332,vi 40 0,vi 3 0,z0,z0,vi 3 0,vr 123,bT,vi 181 0,vr 124,vn,vn,vn,vr 125,vi 333 0,vi 40 0,vs q17 334]
def o177 (P:PM):OB:=j1 q30 q30 (tT 16) q7 305 126
def o180 (P:PM):OB:=oq y0 [vs q86 339,vs q94 340,vs q142 341,vs q1 342,vs q172 343,vs q92 344,vs q173 345,vs q2 346,vs q62 347,vs q174 348] 0
def o182 (P:PM):OB:=j0 q31 q31 (tT 17)
def o183 (P:PM):OB:=of y1 [vs q31 336,vs q31 337,vs q17 338,vi 47 0,vi 3 0,z0,z0,vi 3 0,vr 128,bT,vi 181 0,vr 129,vn,vr 130,vr 131,vr 132,vi 349 0,vi 47 0,vs q17 350]
def o184 (P:PM):OB:=j1 q31 q31 (tT 17) q7 305 133
def o187 (P:PM):OB:=oq y0 [vs q142 355,vs q1 356,vs q143 357,vs q2 358,vs q62 359,vs q145 360] 0
def o189 (P:PM):OB:=j0 q32 q32 (tT 18)
def o190 (P:PM):OB:=of y1 [vs q32 352,vs q32 353,vs q17 354,vi 63 0,vi 3 0,z0,z0,vi 3 0,vr 135,bT,vi 181 0,vr 136,vn,vr 137,vr 138,vr 139,vi 361 0,vi 63 0,vs q17 362]
def o191 (P:PM):OB:=j1 q32 q32 (tT 18) q7 305 140
def o194 (P:PM):OB:=oq y0 [vs q142 367,vs q143 368,vs q144 369] 0
def o196 (P:PM):OB:=j0 q33 q33 (tT 19)
def o197 (P:PM):OB:=of y1 [vs q33 364,vs q33 365,vs q17 366,vi 76 0,vi 2 0,z0,z0,vi 3 0,vr 142,bT,vi 181 0,vr 143,vn,vr 144,vr 145,vr 146,vi 370 0,vi 76 0,vs q17 371]
def o198 (P:PM):OB:=j1 q33 q33 (tT 19) q7 305 147
def o201 (P:PM):OB:=j0 q34 q34 (tT 20)
def o202 (P:PM):OB:=of y1 [vs q34 373,vs q34 374,vs q17 375,vi 81 0,vi 2 0,z0,z0,vi 3 0,vr 149,bT,vi 181 0,vr 150,vn,vn,vn,vr 151,vi 376 0,vi 81 0,vs q17 377]
def o203 (P:PM):OB:=j1 q34 q34 (tT 20) q7 305 152
def o206 (P:PM):OB:=j0 q0 q0 (tT 21)
def o207 (P:PM):OB:=of y1 [vs q0 379,vs q0 380,vs q17 381,vi 84 0,vi 1 0,z0,z0,vi 3 0,vr 154,bT,vi 181 0,vr 155,vn,vn,vn,vr 156,vi 382 0,vi 84 0,vs q17 383]
def o208 (P:PM):OB:=j1 q0 q0 (tT 21) q7 305 157
def o211 (P:PM):OB:=oq y0 [vs q86 388,vs q94 389,vs q179 390,vs q142 391,vs q180 392,vs q181 393] 0
def o213 (P:PM):OB:=j0 q35 q35 (tT 22)
def o214 (P:PM):OB:=of y1 [vs q35 385,vs q35 386,vs q17 387,vi 86 0,vi 3 0,z0,z0,vi 3 0,vr 159,bT,vi 181 0,vr 160,vn,vr 161,vr 162,vr 163,vi 394 0,vi 86 0,vs q17 395]
def o215 (P:PM):OB:=j1 q35 q35 (tT 22) q7 305 164
def o218 (P:PM):OB:=oq y0 [vs q74 406] 0
def o220 (P:PM):OB:=j0 q38 q38 (tT 26)
def o221 (P:PM):OB:=of y1 [vs q38 403,vs q38 404,vs q17 405,vi 98 0,vi 1 0,z0,z0,vi 3 0,vr 166,bT,vi 181 0,vr 167,vn,vr 168,vr 169,vr 170,vi 407 0,vi 98 0,vs q17 408]
def o222 (P:PM):OB:=j1 q38 q38 (tT 26) q61 397 171
def o225 (P:PM):OB:=oq y0 [vs q66 413,vs q86 414,vs q58 415,vs q160 416] 0
def o227 (P:PM):OB:=j0 q39 q39 (tT 27)
def o228 (P:PM):OB:=of y1 [vs q39 410,vs q39 411,vs q17 412,vi 101 0,vi 1 0,z0,z0,vi 3 0,vr 173,bT,vi 181 0,vr 174,vn,vr 175,vr 176,vr 177,vi 417 0,vi 101 0,vs q17 418]
def o229 (P:PM):OB:=j1 q39 q39 (tT 27) q61 397 178
def o230 (P:PM):OB:=od y3 [de P q8 165 (vs q61 397),de P q10 166 vn,de P q11 167 vn,de P q12 168 (vb y4),de P q13 169 vn,de P q14 170 (vr 6),de P q15 171 (vr 4),de P q16 173 (vs q17 172),de P q18 174 vn,de P q19 206 (vr 24),de P q20 222 (vr 37),de P q21 238 (vr 49),de P q22 254 (vr 61),de P q23 270 (vr 73),de P q24 279 (vr 82),de P q25 288 (vr 89),de P q26 296 (vr 94),de P q27 304 (vr 101),de P q28 313 (vr 108),de P q4 320 (vr 115),de P q29 329 (vr 122),de P q30 335 (vr 127),de P q31 351 (vr 134),de P q32 363 (vr 141),de P q33 372 (vr 148),de P q34 378 (vr 153),de P q0 384 (vr 158),de P q35 396 (vr 165),de P q36 400 (vi 2 399),de P q37 402 (vi 6 401),de P q38 409 (vr 172),de P q39 419 (vr 179),de P q40 500 (vr 234)] 33
def o231 (P:PM):OB:=(Obj.mk vn none (df ⟨[vi 2 0,z0,vr 20,vi 4 0,z0,vr 33,vi 6 0,z0,vr 45,vi 8 0,z0,vr 57,vi 10 0,z0,vr 69,vi 13 0,z0,vr 81,vi 15 0,z0,vr 88,vi 18 0,z0,vr 93,vi 27 0,z0,vr 100,vi 32 0,z0,vr 107,vi 34 0,z0,vr 114,vi 36 0,z0,vr 121,vi 40 0,z0,vr 126,vi 47 0,z0,vr 133,vi 63 0,z0,vr 140,vi 76 0,z0,vr 147,vi 81 0,z0,vr 152,vi 84 0,z0,vr 157,vi 86 0,z0,vr 164,vi 98 0,z0,vr 171,vi 101 0,z0,vr 178,vi 107 0,z0,vr 185]⟩) ⟨[]⟩)
def o234 (P:PM):OB:=od y3 [de P q81 427 (vs q61 397),de P q83 429 (vs q40 428),de P q84 431 (vi 107 430),de P q112 442 (vr 193),de P q63 448 (vr 198),de P q93 459 (vr 205),de P q55 467 (vr 212),de P q130 475 (vr 219),de P q109 483 (vr 226),de P q110 489 (vr 231),de P q85 493 (vr 232)] 11
def o236 (P:PM):OB:=(Obj.mk vn none (df ⟨[vi 109 0,vi 4 0,vr 192,vi 118 0,vi 4 0,vr 197,vi 133 0,vi 4 0,vr 204,vi 138 0,vi 4 0,vr 211,vi 142 0,vi 4 0,vr 218,vi 147 0,vi 4 0,vr 225,vi 151 0,vi 4 0,vr 230]⟩) ⟨[]⟩)
def o237 (P:PM):OB:=of y1 [vs q40 422,vs q40 423,vs q17 424,vi 107 0,z0,z0,z0,z0,vr 183,bF,vi 181 0,vr 184,vn,vn,vn,vn,vi 425 0,vi 107 0,vs q17 426]
def o238 (P:PM):OB:=(ob y2 Data.plain ⟨[(sr 185),(sr 3),(sr 182),none,(ss q61 397),none,(sr 0)]⟩)
def o241 (P:PM):OB:=oq y0 [vs q57 435,vs q66 436,vs q74 437,vs q86 438,vs q58 439] 0
def o243 (P:PM):OB:=j0 q112 q139 (inClass (tT 28) 0)
def o244 (P:PM):OB:=of y1 [vs q112 432,vs q139 433,vs q17 434,vi 109 0,vi 3 0,z0,z0,vi 3 0,vr 187,bT,vi 181 0,vr 188,vn,vr 189,vr 190,vr 191,vi 440 0,vi 109 0,vs q17 441]
def o245 (P:PM):OB:=j1 q112 q139 (inClass (tT 28) 0) q61 397 192
def o248 (P:PM):OB:=j0 q63 q64 (inClass (tT 28) 1)
def o249 (P:PM):OB:=of y1 [vs q63 443,vs q64 444,vs q17 445,vi 118 0,vi 4 0,z0,z0,vi 3 0,vr 194,bT,vi 181 0,vr 195,vn,vn,vn,vr 196,vi 446 0,vi 118 0,vs q17 447]
def o250 (P:PM):OB:=j1 q63 q64 (inClass (tT 28) 1) q61 397 197
def o253 (P:PM):OB:=oq y0 [vs q57 452,vs q58 453,vs q108 454,vs q109 455,vs q110 456] 0
def o255 (P:PM):OB:=j0 q93 q107 (inClass (tT 28) 2)
def o256 (P:PM):OB:=of y1 [vs q93 449,vs q107 450,vs q17 451,vi 133 0,vi 5 0,z0,z0,vi 3 0,vr 199,bT,vi 181 0,vr 200,vn,vr 201,vr 202,vr 203,vi 457 0,vi 133 0,vs q17 458]
def o257 (P:PM):OB:=j1 q93 q107 (inClass (tT 28) 2) q61 397 204
def o260 (P:PM):OB:=oq y0 [vs q57 463,vs q58 464] 0
def o262 (P:PM):OB:=j0 q55 q56 (inClass (tT 28) 3)
def o263 (P:PM):OB:=of y1 [vs q55 460,vs q56 461,vs q17 462,vi 138 0,vi 2 0,z0,z0,vi 3 0,vr 206,bT,vi 181 0,vr 207,vn,vr 208,vr 209,vr 210,vi 465 0,vi 138 0,vs q17 466]
def o264 (P:PM):OB:=j1 q55 q56 (inClass (tT 28) 3) q61 397 211
def o267 (P:PM):OB:=oq y0 [vs q57 471,vs q58 472] 0
def o269 (P:PM):OB:=j0 q130 q141 (inClass (tT 28) 4)
def o270 (P:PM):OB:=of y1 [vs q130 468,vs q141 469,vs q17 470,vi 142 0,vi 2 0,z0,z0,vi 3 0,vr 213,bT,vi 181 0,vr 214,vn,vr 215,vr 216,vr 217,vi 473 0,vi 142 0,vs q17 474]
def o271 (P:PM):OB:=j1 q130 q141 (inClass (tT 28) 4) q61 397 218
def o274 (P:PM):OB:=oq y0 [vs q57 479,vs q58 480] 0
def o276 (P:PM):OB:=j0 q109 q111 (inClass (tT 28) 5)
def o277 (P:PM):OB:=of y1 [vs q109 476,vs q111 477,vs q17 478,vi 147 0,vi 2 0,z0,z0,vi 3 0,vr 220,bT,vi 181 0,vr 221,vn,vr 222,vr 223,vr 224,vi 481 0,vi 147 0,vs q17 482]
def o278 (P:PM):OB:=j1 q109 q111 (inClass (tT 28) 5) q61 397 225
def o281 (P:PM):OB:=j0 q110 q158 (inClass (tT 28) 6)
def o282 (P:PM):OB:=of y1 [vs q110 484,vs q158 485,vs q17 486,vi 151 0,vi 2 0,z0,z0,vi 3 0,vr 227,bT,vi 181 0,vr 228,vn,vn,vn,vr 229,vi 487 0,vi 151 0,vs q17 488]
def o283 (P:PM):OB:=j1 q110 q158 (inClass (tT 28) 6) q61 397 230
def o284 (P:PM):OB:=oq y0 [vs q59 490,vs q97 491,vs q91 492] 0
def o285 (P:PM):OB:=od y3 [de P q81 427 (vs q61 397),de P q84 431 (vi 107 430),de P q112 442 (vr 193),de P q63 448 (vr 198),de P q93 459 (vr 205),de P q55 467 (vr 212),de P q130 475 (vr 219),de P q109 483 (vr 226),de P q110 489 (vr 231),de P q85 493 (vr 232),de P q175 495 (vr 235),de P q140 497 (vr 236),de P q10 498 vn] 4
def o286 (P:PM):OB:=(ob y8 (Data.cls (ClassData.mk q40 [(vt y11)] [vr 234,(vt y11)] 233 q40 true [] [] false none false)) ⟨[none,none,(ss q40 420),(ss q40 428),(some (vb y18)),(some bT)]⟩)
def o287 (P:PM):OB:=of y13 [vs q175 494,vr 234,(vb y19),(vb y20)]
def o288 (P:PM):OB:=of y13 [vs q140 496,vr 234,(vb y14),vn]
def o289 (P:PM):OB:=of y15 [vr 234,vr 234,vr 234]
def o290 (P:PM):OB:=of y6 [(vb y16),vr 234]
def o291 (P:PM):OB:=od y3 [de P q8 165 (vs q101 501),de P q10 166 vn,de P q11 167 vn,de P q12 168 (vb y4),de P q13 169 vn,de P q14 170 (vr 6),de P q15 171 (vr 4),de P q16 173 (vs q17 172),de P q18 174 vn,de P q19 206 (vr 24),de P q20 222 (vr 37),de P q21 238 (vr 49),de P q22 254 (vr 61),de P q23 270 (vr 73),de P q24 279 (vr 82),de P q25 288 (vr 89),de P q26 296 (vr 94),de P q27 304 (vr 101),de P q28 313 (vr 108),de P q4 320 (vr 115),de P q29 329 (vr 122),de P q30 335 (vr 127),de P q31 351 (vr 134),de P q32 363 (vr 141),de P q33 372 (vr 148),de P q34 378 (vr 153),de P q0 384 (vr 158),de P q35 396 (vr 165),de P q36 400 (vi 2 399),de P q37 402 (vi 6 401),de P q38 409 (vr 172),de P q39 419 (vr 179),de P q40 500 (vr 234),de P q41 504 (vi 0 503),de P q42 506 (vi 1 505),de P q43 513 (vr 245)] 36
def o292 (P:PM):OB:=(Obj.mk vn none (df ⟨[vi 2 0,z0,vr 20,vi 4 0,z0,vr 33,vi 6 0,z0,vr 45,vi 8 0,z0,vr 57,vi 10 0,z0,vr 69,vi 13 0,z0,vr 81,vi 15 0,z0,vr 88,vi 18 0,z0,vr 93,vi 27 0,z0,vr 100,vi 32 0,z0,vr 107,vi 34 0,z0,vr 114,vi 36 0,z0,vr 121,vi 40 0,z0,vr 126,vi 47 0,z0,vr 133,vi 63 0,z0,vr 140,vi 76 0,z0,vr 147,vi 81 0,z0,vr 152,vi 84 0,z0,vr 157,vi 86 0,z0,vr 164,vi 98 0,z0,vr 171,vi 101 0,z0,vr 178,vi 107 0,z0,vr 185,vi 157 0,z0,vr 244]⟩) ⟨[]⟩)
def o295 (P:PM):OB:=oq y0 [vs q100 510] 0
def o297 (P:PM):OB:=j0 q43 q43 (tT 32)
def o298 (P:PM):OB:=of y1 [vs q43 507,vs q43 508,vs q17 509,vi 157 0,vi 1 0,z0,z0,vi 3 0,vr 239,bT,vi 181 0,vr 240,vn,vr 241,vr 242,vr 243,vi 511 0,vi 157 0,vs q17 512]
def o299 (P:PM):OB:=j1 q43 q43 (tT 32) q101 501 244
def o300 (P:PM):OB:=od y3 [de P q8 165 (vs q9 587),de P q10 166 vn,de P q11 167 vn,de P q12 168 (vb y4),de P q13 169 vn,de P q14 170 (vr 6),de P q15 171 (vr 4),de P q16 173 (vs q17 172),de P q18 174 vn,de P q19 206 (vr 24),de P q20 222 (vr 37),de P q21 238 (vr 49),de P q22 254 (vr 61),de P q23 270 (vr 73),de P q24 279 (vr 82),de P q25 288 (vr 89),de P q26 296 (vr 94),de P q27 304 (vr 101),de P q28 313 (vr 108),de P q4 320 (vr 115),de P q29 329 (vr 122),de P q30 335 (vr 127),de P q31 351 (vr 134),de P q32 363 (vr 141),de P q33 372 (vr 148),de P q34 378 (vr 153),de P q0 384 (vr 158),de P q35 396 (vr 165),de P q36 400 (vi 2 399),de P q37 402 (vi 6 401),de P q38 409 (vr 172),de P q39 419 (vr 179),de P q40 500 (vr 234),de P q41 504 (vi 0 503),de P q42 506 (vi 1 505),de P q43 513 (vr 245),de P q44 586 (vr 297)] 37
def o301 (P:PM):OB:=(Obj.mk vn none (df ⟨[vi 2 0,z0,vr 20,vi 4 0,z0,vr 33,vi 6 0,z0,vr 45,vi 8 0,z0,vr 57,vi 10 0,z0,vr 69,vi 13 0,z0,vr 81,vi 15 0,z0,vr 88,vi 18 0,z0,vr 93,vi 27 0,z0,vr 100,vi 32 0,z0,vr 107,vi 34 0,z0,vr 114,vi 36 0,z0,vr 121,vi 40 0,z0,vr 126,vi 47 0,z0,vr 133,vi 63 0,z0,vr 140,vi 76 0,z0,vr 147,vi 81 0,z0,vr 152,vi 84 0,z0,vr 157,vi 86 0,z0,vr 164,vi 98 0,z0,vr 171,vi 101 0,z0,vr 178,vi 107 0,z0,vr 185,vi 157 0,z0,vr 244,vi 159 0,z0,vr 251]⟩) ⟨[]⟩)
def o304 (P:PM):OB:=od y3 [de P q81 521 (vs q101 501),de P q83 523 (vs q44 522),de P q84 525 (vi 159 524),de P q112 533 (vr 259),de P q67 540 (vr 266),de P q98 548 (vr 273),de P q160 556 (vr 280),de P q72 567 (vr 287),de P q76 575 (vr 294),de P q85 579 (vr 295)] 10
def o306 (P:PM):OB:=(Obj.mk vn none (df ⟨[vi 161 0,vi 4 0,vr 258,vi 166 0,vi 4 0,vr 265,vi 169 0,vi 4 0,vr 272,vi 172 0,vi 4 0,vr 279,vi 179 0,vi 4 0,vr 286,vi 192 0,vi 4 0,vr 293]⟩) ⟨[]⟩)
def o307 (P:PM):OB:=of y1 [vs q44 516,vs q44 517,vs q17 518,vi 159 0,z0,z0,z0,z0,vr 249,bF,vi 181 0,vr 250,vn,vn,vn,vn,vi 519 0,vi 159 0,vs q17 520]
def o308 (P:PM):OB:=(ob y2 Data.plain ⟨[(sr 251),(sr 3),(sr 248),none,(ss q101 501),none,(sr 0)]⟩)
def o311 (P:PM):OB:=oq y0 [vs q57 529,vs q138 530] 0
def o313 (P:PM):OB:=j0 q112 q113 (inClass (tT 33) 0)
def o314 (P:PM):OB:=of y1 [vs q112 526,vs q113 527,vs q17 528,vi 161 0,vi 2 0,z0,z0,vi 3 0,vr 253,bT,vi 181 0,vr 254,vn,vr 255,vr 256,vr 257,vi 531 0,vi 161 0,vs q17 532]
def o315 (P:PM):OB:=j1 q112 q113 (inClass (tT 33) 0) q101 501 258
def o318 (P:PM):OB:=oq y0 [vs q57 537] 0
def o320 (P:PM):OB:=j0 q67 q137 (inClass (tT 33) 1)
def o321 (P:PM):OB:=of y1 [vs q67 534,vs q137 535,vs q17 536,vi 166 0,vi 1 0,z0,z0,vi 3 0,vr 260,bT,vi 181 0,vr 261,vn,vr 262,vr 263,vr 264,vi 538 0,vi 166 0,vs q17 539]
def o322 (P:PM):OB:=j1 q67 q137 (inClass (tT 33) 1) q101 501 265
def o325 (P:PM):OB:=oq y0 [vs q57 544,vs q100 545] 0
def o327 (P:PM):OB:=j0 q98 q99 (inClass (tT 33) 2)
def o328 (P:PM):OB:=of y1 [vs q98 541,vs q99 542,vs q17 543,vi 169 0,vi 2 0,z0,z0,vi 3 0,vr 267,bT,vi 181 0,vr 268,vn,vr 269,vr 270,vr 271,vi 546 0,vi 169 0,vs q17 547]
def o329 (P:PM):OB:=j1 q98 q99 (inClass (tT 33) 2) q101 501 272
def o332 (P:PM):OB:=oq y0 [vs q57 552,vs q58 553] 0
def o334 (P:PM):OB:=j0 q160 q176 (inClass (tT 33) 3)
def o335 (P:PM):OB:=of y1 [vs q160 549,vs q176 550,vs q17 551,vi 172 0,vi 2 0,z0,z0,vi 3 0,vr 274,bT,vi 181 0,vr 275,vn,vr 276,vr 277,vr 278,vi 554 0,vi 172 0,vs q17 555]
def o336 (P:PM):OB:=j1 q160 q176 (inClass (tT 33) 3) q101 501 279
def o339 (P:PM):OB:=oq y0 [vs q57 560,vs q161 561,vs q162 562,vs q164 563,vs q165 564] 0
def o341 (P:PM):OB:=j0 q72 q73 (inClass (tT 33) 4)
def o342 (P:PM):OB:=of y1 [vs q72 557,vs q73 558,vs q17 559,vi 179 0,vi 3 0,z0,z0,vi 3 0,vr 281,bT,vi 181 0,vr 282,vn,vr 283,vr 284,vr 285,vi 565 0,vi 179 0,vs q17 566]
def o343 (P:PM):OB:=j1 q72 q73 (inClass (tT 33) 4) q101 501 286
def o346 (P:PM):OB:=oq y0 [vs q57 571,vs q78 572] 0
def o348 (P:PM):OB:=j0 q76 q77 (inClass (tT 33) 5)
def o349 (P:PM):OB:=of y1 [vs q76 568,vs q77 569,vs q17 570,vi 192 0,vi 2 0,z0,z0,vi 3 0,vr 288,bT,vi 181 0,vr 289,vn,vr 290,vr 291,vr 292,vi 573 0,vi 192 0,vs q17 574]
def o350 (P:PM):OB:=j1 q76 q77 (inClass (tT 33) 5) q101 501 293
def o351 (P:PM):OB:=oq y0 [vs q79 576,vs q138 577,vs q80 578] 0
def o352 (P:PM):OB:=od y3 [de P q81 521 (vs q101 501),de P q84 525 (vi 159 524),de P q112 533 (vr 259),de P q67 540 (vr 266),de P q98 548 (vr 273),de P q160 556 (vr 280),de P q72 567 (vr 287),de P q76 575 (vr 294),de P q85 579 (vr 295),de P q175 581 (vr 298),de P q140 583 (vr 299),de P q10 584 vn] 4
def o353 (P:PM):OB:=(ob y8 (Data.cls (ClassData.mk q44 [(vt y11)] [vr 297,(vt y11)] 296 q44 true [] [] false none false)) ⟨[none,none,(ss q44 514),(ss q44 522),(some (vb y18)),(some bT)]⟩)
def o354 (P:PM):OB:=of y13 [vs q175 580,vr 297,(vb y19),(vb y20)]
def o355 (P:PM):OB:=of y13 [vs q140 582,vr 297,(vb y14),vn]
def o356 (P:PM):OB:=of y15 [vr 297,vr 297,vr 297]
def o357 (P:PM):OB:=of y6 [(vb y16),vr 297]
def o358 (P:PM):OB:=od y3 [de P q8 165 (vs q9 587),de P q10 166 vn,de P q11 167 vn,de P q12 168 (vb y4),de P q13 169 vn,de P q14 170 (vr 6),de P q15 171 (vr 4),de P q16 173 (vs q17 172),de P q18 174 vn,de P q19 206 (vr 24),de P q20 222 (vr 37),de P q21 238 (vr 49),de P q22 254 (vr 61),de P q23 270 (vr 73),de P q24 279 (vr 82),de P q25 288 (vr 89),de P q26 296 (vr 94),de P q27 304 (vr 101),de P q28 313 (vr 108),de P q4 320 (vr 115),de P q29 329 (vr 122),de P q30 335 (vr 127),de P q31 351 (vr 134),de P q32 363 (vr 141),de P q33 372 (vr 148),de P q34 378 (vr 153),de P q0 384 (vr 158),de P q35 396 (vr 165),de P q36 400 (vi 2 399),de P q37 402 (vi 6 401),de P q38 409 (vr 172),de P q39 419 (vr 179),de P q40 500 (vr 234),de P q41 504 (vi 0 503),de P q42 506 (vi 1 505),de P q43 513 (vr 245),de P q44 586 (vr 297),de P q53 596 (vr 308),de P q102 610 (vr 315),de P q45 622 (vr 322),de P q65 635 (vr 329),de P q70 641 (vr 334),de P q103 650 (vr 341),de P q104 662 (vr 348),de P q105 672 (vr 355),de P q106 678 (vr 360)] 46
def o359 (P:PM):OB:=(Obj.mk vn none (df ⟨[vi 2 0,z0,vr 20,vi 4 0,z0,vr 33,vi 6 0,z0,vr 45,vi 8 0,z0,vr 57,vi 10 0,z0,vr 69,vi 13 0,z0,vr 81,vi 15 0,z0,vr 88,vi 18 0,z0,vr 93,vi 27 0,z0,vr 100,vi 32 0,z0,vr 107,vi 34 0,z0,vr 114,vi 36 0,z0,vr 121,vi 40 0,z0,vr 126,vi 47 0,z0,vr 133,vi 63 0,z0,vr 140,vi 76 0,z0,vr 147,vi 81 0,z0,vr 152,vi 84 0,z0,vr 157,vi 86 0,z0,vr 164,vi 98 0,z0,vr 171,vi 101 0,z0,vr 178,vi 107 0,z0,vr 185,vi 157 0,z0,vr 244,vi 159 0,z0,vr 251,vi 198 0,z0,vr 307,vi 202 0,z0,vr 314,vi 220 0,z0,vr 321,vi 226 0,z0,vr 328,vi 235 0,z0,vr 333,vi 256 0,z0,vr 340,vi 262 0,z0,vr 347,vi 269 0,z0,vr 354,vi 275 0,z0,vr 359]⟩) ⟨[]⟩)
def o362 (P:PM):OB:=oq y0 [vs q46 592,vs q50 593] 0
def o364 (P:PM):OB:=j0 q53 q53 (tT 35)
def o365 (P:PM):OB:=of y1 [vs q53 589,vs q53 590,vs q17 591,vi 198 0,vi 2 0,z0,z0,vi 3 0,vr 302,bT,vi 181 0,vr 303,vn,vr 304,vr 305,vr 306,vi 594 0,vi 198 0,vs q17 595]
def o366 (P:PM):OB:=j1 q53 q53 (tT 35) q9 587 307
def o369 (P:PM):OB:=oq y0 [vs q114 600,vs q168 601,vs q117 602,vs q152 603,vs q153 604,vs q50 605,vs q169 606,vs q170 607] 0
def o371 (P:PM):OB:=j0 q102 q102 (tT 36)
def o372 (P:PM):OB:=of y1 [vs q102 597,vs q102 598,vs q17 599,vi 202 0,vi 2 0,z0,z0,vi 3 0,vr 309,bT,vi 181 0,vr 310,vn,vr 311,vr 312,vr 313,vi 608 0,vi 202 0,vs q17 609]
def o373 (P:PM):OB:=j1 q102 q102 (tT 36) q9 587 314
def o376 (P:PM):OB:=oq y0 [vs q46 614,vs q47 615,vs q48 616,vs q49 617,vs q50 618,vs q52 619] 0
def o378 (P:PM):OB:=j0 q45 q45 (tT 37)
def o379 (P:PM):OB:=of y1 [vs q45 611,vs q45 612,vs q17 613,vi 220 0,vi 3 0,z0,z0,vi 3 0,vr 316,bT,vi 181 0,vr 317,vn,vr 318,vr 319,vr 320,vi 620 0,vi 220 0,vs q17 621]
def o380 (P:PM):OB:=j1 q45 q45 (tT 37) q9 587 321
def o383 (P:PM):OB:=oq y0 [vs q114 626,vs q52 627,vs q116 628,vs q117 629,vs q48 630,vs q50 631,vs q115 632] 0
def o385 (P:PM):OB:=j0 q65 q65 (tT 38)
def o386 (P:PM):OB:=of y1 [vs q65 623,vs q65 624,vs q17 625,vi 226 0,vi 3 0,z0,z0,vi 3 0,vr 323,bT,vi 181 0,vr 324,vn,vr 325,vr 326,vr 327,vi 633 0,vi 226 0,vs q17 634]
def o387 (P:PM):OB:=j1 q65 q65 (tT 38) q9 587 328
def o390 (P:PM):OB:=j0 q70 q70 (tT 39)
def o391 (P:PM):OB:=of y1 [vs q70 636,vs q70 637,vs q17 638,vi 235 0,vi 2 0,z0,z0,vi 3 0,vr 330,bT,vi 181 0,vr 331,vn,vn,vn,vr 332,vi 639 0,vi 235 0,vs q17 640]
def o392 (P:PM):OB:=j1 q70 q70 (tT 39) q9 587 333
def o395 (P:PM):OB:=oq y0 [vs q128 645,vs q116 646,vs q48 647] 0
def o397 (P:PM):OB:=j0 q103 q103 (tT 40)
def o398 (P:PM):OB:=of y1 [vs q103 642,vs q103 643,vs q17 644,vi 256 0,vi 2 0,z0,z0,vi 3 0,vr 335,bT,vi 181 0,vr 336,vn,vr 337,vr 338,vr 339,vi 648 0,vi 256 0,vs q17 649]
def o399 (P:PM):OB:=j1 q103 q103 (tT 40) q9 587 340
def o402 (P:PM):OB:=oq y0 [vs q147 654,vs q148 655,vs q115 656,vs q129 657,vs q149 658,vs q150 659] 0
def o404 (P:PM):OB:=j0 q104 q104 (tT 41)
def o405 (P:PM):OB:=of y1 [vs q104 651,vs q104 652,vs q17 653,vi 262 0,vi 3 0,z0,z0,vi 3 0,vr 342,bT,vi 181 0,vr 343,vn,vr 344,vr 345,vr 346,vi 660 0,vi 262 0,vs q17 661]
def o406 (P:PM):OB:=j1 q104 q104 (tT 41) q9 587 347
def o409 (P:PM):OB:=oq y0 [vs q128 666,vs q121 667,vs q134 668,vs q123 669] 0
def o411 (P:PM):OB:=j0 q105 q105 (tT 42)
def o412 (P:PM):OB:=of y1 [vs q105 663,vs q105 664,vs q17 665,vi 269 0,vi 2 0,z0,z0,vi 3 0,vr 349,bT,vi 181 0,vr 350,vn,vr 351,vr 352,vr 353,vi 670 0,vi 269 0,vs q17 671]
def o413 (P:PM):OB:=j1 q105 q105 (tT 42) q9 587 354
def o416 (P:PM):OB:=j0 q106 q106 (tT 43)
def o417 (P:PM):OB:=of y1 [vs q106 673,vs q106 674,vs q17 675,vi 275 0,vi 1 0,z0,z0,vi 3 0,vr 356,bT,vi 181 0,vr 357,vn,vn,vn,vr 358,vi 676 0,vi 275 0,vs q17 677]
def o418 (P:PM):OB:=j1 q106 q106 (tT 43) q9 587 359
def heap_46 (P:Params):Heap:=(Heap.mk ⟨[b0 P,b1 P,b2 P,b3 P,b4 P,b5 P,b6 P,b7 P,b8 P,b9 P,b10 P,o43 P,o44 P,o45 P,o46 P]⟩ (PySem.Life.mk [] [] [] 0 [] [] false ⟨[]⟩ [] 0 false false false 0 [2000,10,10] false 0 true [] [] 0 false))
def tree_47 (P:PM):BT:=(N b0 (N b1 (N b3 (L b7) e) (N b5 (L b9) (L o45))) (N b2 (N b4 (L b8) (L o44)) (N b6 (L b10) (L o46)))) P
def tree_63 (P:PM):BT:=(N b0 (N b1 (N o49 (N b7 (L o51) (L o59)) (N o43 (L o44) (L o63))) (N b5 (N b9 (L o53) (L o61)) (M o45 (L o57)))) (N b2 (N b4 (N b8 (L o52) (L o60)) (M o50 (L o56))) (N b6 (N b10 e (L o62)) (M o46 e)))) P
def tree_78 (P:PM):BT:=(N b0 (N b1 (N o64 (N b7 (M o51 e) (M o59 (L o78))) (N o43 (M o44 e) (L o63))) (N b5 (N b9 (M o53 (L o72)) (L o61)) (N o45 (M o57 (L o76)) (L o52)))) (N b2 (N b4 (N b8 (M o52 (L o44)) (L o66)) (N o65 (M o56 (L o75)) (L o67))) (N b6 (N b10 (M o43 (L o73)) (L o62)) (N o46 (M o43 (L o77)) (L o69))))) P
def tree_93 (P:PM):BT:=(N b0 (N b1 (N o79 (N b7 (N o51 e e) (M o59 (L o78))) (N o43 (N o44 e (L o93)) (M o63 e))) (N b5 (N b9 (N o53 (L o72) (L o91)) (M o61 (L o52))) (N o45 (M o57 (L o76)) (M o52 (L o87))))) (N b2 (N b4 (N b8 (N o52 (L o44) (L o90)) (M o81 (L o67))) (N o80 (M o56 (L o75)) (M o67 (L o44)))) (N b6 (N b10 (N o43 (L o73) (L o92)) (M o62 (L o84))) (N o46 (M o43 (L o77)) (M o69 (L o88)))))) P
def tree_108 (P:PM):BT:=(N b0 (N b1 (N o94 (N b7 (N o51 (M o43 (L o108)) e) (N o59 (L o78) e)) (N o43 (N o44 e (L o93)) (N o63 e e))) (N b5 (N b9 (N o53 (L o72) (L o91)) (N o61 (L o52) (L o102))) (N o45 (N o57 (L o76) (L o52)) (N o52 (L o87) (L o106))))) (N b2 (N b4 (N b8 (N o52 (L o44) (L o90)) (N o96 (L o67) (L o44))) (N o95 (N o56 (L o75) (L o67)) (N o67 (L o44) (L o105)))) (N b6 (N b10 (N o43 (L o73) (L o92)) (N o62 (L o84) (L o103))) (N o46 (N o43 (L o77) (L o99)) (N o69 (L o88) (L o107)))))) P
def tree_156 (P:PM):BT:=(N b0 (N b1 (N o109 (N b7 (N o51 (N o43 (L o108) e) (M o43 e)) (N o59 (N o78 e (L o44)) (M o43 (L o135)))) (N o43 (N o44 (N o43 e (L o147)) (M o93 e)) (N o63 (N o43 (L o123) (L o155)) (M o43 (L o44))))) (N b5 (N b9 (N o53 (N o72 (L o52) (L o145)) (M o91 (L o129))) (N o61 (N o52 (L o121) e) (M o102 (L o137)))) (N o45 (N o57 (N o76 (L o117) (L o149)) (M o52 (L o133))) (N o52 (M o87 (L o44)) (M o106 (L o141)))))) (N b2 (N b4 (N b8 (N o52 (N o44 (L o67) (L o44)) (M o90 (L o128))) (N o111 (N o67 (L o120) (L o152)) (M o44 (L o136)))) (N o110 (N o56 (N o75 (L o44) (L o148)) (M o67 (L o44))) (N o67 (N o44 e (L o156)) (M o105 (L o140))))) (N b6 (N b10 (N o43 (N o73 (L o114) e) (M o92 (L o130))) (N o62 (N o84 (L o122) (L o154)) (M o103 e))) (N o46 (N o43 (N o77 (L o118) e) (M o99 e)) (N o69 (M o88 (L o126)) (M o107 (L o142))))))) P
def tree_229 (P:PM):BT:=(N b0 (N b1 (N o157 (N b7 (N o51 (N o43 (M o108 (L o177)) (M o43 e)) (N o43 (M o43 (L o44)) (M o161 (L o225)))) (N o59 (N o78 (M o43 e) (M o44 (L o44))) (N o43 (M o135 (L o201)) e))) (N o43 (N o44 (N o43 (M o43 e) (M o147 (L o213))) (N o93 (M o43 (L o197)) (M o165 (L o229)))) (N o63 (N o43 (M o123 (L o189)) (M o155 (L o221))) (N o43 (M o44 (L o44)) e)))) (N b5 (N b9 (N o53 (N o72 (M o52 (L o44)) (M o145 (L o211))) (N o91 (M o129 e) (M o163 (L o227)))) (N o61 (N o52 (M o121 (L o187)) (M o43 e)) (N o102 (M o137 (L o203)) (L o171)))) (N o45 (N o57 (N o76 (M o117 (L o183)) (M o149 (L o215))) (N o52 (M o133 e) (L o44))) (N o52 (N o87 (M o44 (L o191)) (M o43 e)) (N o106 (M o141 (L o207)) (L o175)))))) (N b2 (N b4 (N b8 (N o52 (N o44 (M o67 e) (M o44 (L o44))) (N o90 (M o128 (L o194)) (M o43 e))) (N o111 (N o67 (M o120 (L o44)) (M o152 (L o218))) (N o44 (M o136 (L o202)) (L o170)))) (N o158 (N o56 (N o75 (M o44 (L o182)) (M o148 (L o214))) (N o67 (M o44 (L o198)) e)) (N o67 (N o44 (M o43 (L o190)) (M o156 (L o222))) (N o105 (M o140 (L o206)) (L o44))))) (N b6 (N b10 (N o43 (N o73 (M o114 (L o180)) (M o43 e)) (N o92 (M o130 (L o196)) (M o164 (L o228)))) (N o62 (N o84 (M o122 e) (M o154 (L o220))) (N o103 (M o43 e) (L o172)))) (N o46 (N o43 (N o77 (M o118 (L o184)) (M o43 e)) (N o99 (M o43 (L o44)) (L o168))) (N o69 (N o88 (M o126 e) (M o44 (L o44))) (N o107 (M o142 (L o208)) (L o176))))))) P
def tree_290 (P:PM):BT:=(N b0 (N b1 (N o230 (N b7 (N o51 (N o43 (N o108 (L o177) (L o243)) (N o43 e e)) (N o43 (N o43 (L o44) (L o44)) (M o161 (L o225)))) (N o59 (N o78 (N o43 e e) (N o44 (L o44) (L o283))) (N o43 (N o135 (L o201) (L o267)) (M o43 e)))) (N o43 (N o44 (N o43 (N o43 e (L o44)) (N o147 (L o213) e)) (N o93 (N o43 (L o197) (L o263)) (M o165 (L o229)))) (N o63 (N o43 (N o123 (L o189) (L o255)) (N o155 (L o221) (L o287))) (N o43 (N o44 (L o44) (L o271)) (M o43 e))))) (N b5 (N b9 (N o53 (N o72 (N o52 (L o44) (L o245)) (N o145 (L o211) (L o277))) (N o91 (N o129 e e) (M o163 (L o227)))) (N o61 (N o52 (N o121 (L o187) (L o253)) (N o43 e (L o285))) (N o102 (N o137 (L o203) (L o269)) (M o171 (L o237))))) (N o45 (N o57 (N o76 (N o117 (L o183) (L o249)) (N o149 (L o215) (L o281))) (N o52 (N o133 e e) (M o44 (L o52)))) (N o52 (N o87 (N o44 (L o191) (L o257)) (N o43 e (L o289))) (N o106 (N o141 (L o207) (L o44)) (M o175 (L o241))))))) (N b2 (N b4 (N b8 (N o52 (N o44 (N o67 e (L o244)) (N o44 (L o44) (L o276))) (N o90 (N o128 (L o194) (L o260)) (M o43 e))) (N o111 (N o67 (N o120 (L o44) (L o44)) (N o152 (L o218) (L o284))) (N o44 (N o136 (L o202) e) (M o170 (L o236))))) (N o231 (N o56 (N o75 (N o44 (L o182) (L o248)) (N o148 (L o214) (L o44))) (N o67 (N o44 (L o198) (L o264)) (M o43 e))) (N o67 (N o44 (N o43 (L o190) (L o256)) (N o156 (L o222) (L o288))) (N o105 (N o140 (L o206) e) (M o44 (L o44)))))) (N b6 (N b10 (N o43 (N o73 (N o114 (L o180) e) (N o43 e (L o278))) (N o92 (N o130 (L o196) (L o262)) (M o164 (L o228)))) (N o62 (N o84 (N o122 e e) (N o154 (L o220) (L o286))) (N o103 (N o43 e (L o270)) (M o172 (L o238))))) (N o46 (N o43 (N o77 (N o118 (L o184) (L o250)) (N o43 e (L o282))) (N o99 (N o43 (L o44) (L o44)) (M o168 (L o234)))) (N o69 (N o88 (N o126 e e) (N o44 (L o44) (L o290))) (N o107 (N o142 (L o208) (L o274)) (M o176 e))))))) P
def tree_299 (P:PM):BT:=(N b0 (N b1 (N o291 (N b7 (N o51 (N o43 (N o108 (L o177) (L o243)) (N o43 e e)) (N o43 (N o43 (L o44) (L o44)) (N o161 (L o225) e))) (N o59 (N o78 (N o43 e e) (N o44 (L o44) (L o283))) (N o43 (N o135 (L o201) (L o267)) (M o43 e)))) (N o43 (N o44 (N o43 (N o43 e (L o44)) (N o147 (L o213) e)) (N o93 (N o43 (L o197) (L o263)) (N o165 (L o229) (L o297)))) (N o63 (N o43 (N o123 (L o189) (L o255)) (N o155 (L o221) (L o287))) (N o43 (N o44 (L o44) (L o271)) (M o43 e))))) (N b5 (N b9 (N o53 (N o72 (N o52 (L o44) (L o245)) (N o145 (L o211) (L o277))) (N o91 (N o129 e e) (N o163 (L o227) (L o295)))) (N o61 (N o52 (N o121 (L o187) (L o253)) (N o43 e (L o285))) (N o102 (N o137 (L o203) (L o269)) (M o171 (L o237))))) (N o45 (N o57 (N o76 (N o117 (L o183) (L o249)) (N o149 (L o215) (L o281))) (N o52 (N o133 e e) (N o44 (L o52) (L o299)))) (N o52 (N o87 (N o44 (L o191) (L o257)) (N o43 e (L o289))) (N o106 (N o141 (L o207) (L o44)) (M o175 (L o241))))))) (N b2 (N b4 (N b8 (N o52 (N o44 (N o67 e (L o244)) (N o44 (L o44) (L o276))) (N o90 (N o128 (L o194) (L o260)) (N o43 e (L o44)))) (N o111 (N o67 (N o120 (L o44) (L o44)) (N o152 (L o218) (L o284))) (N o44 (N o136 (L o202) e) (M o170 (L o236))))) (N o292 (N o56 (N o75 (N o44 (L o182) (L o248)) (N o148 (L o214) (L o44))) (N o67 (N o44 (L o198) (L o264)) (N o43 e (L o298)))) (N o67 (N o44 (N o43 (L o190) (L o256)) (N o156 (L o222) (L o288))) (N o105 (N o140 (L o206) e) (M o44 (L o44)))))) (N b6 (N b10 (N o43 (N o73 (N o114 (L o180) e) (N o43 e (L o278))) (N o92 (N o130 (L o196) (L o262)) (N o164 (L o228) e))) (N o62 (N o84 (N o122 e e) (N o154 (L o220) (L o286))) (N o103 (N o43 e (L o270)) (M o172 (L o238))))) (N o46 (N o43 (N o77 (N o118 (L o184) (L o250)) (N o43 e (L o282))) (N o99 (N o43 (L o44) (L o44)) (M o168 (L o234)))) (N o69 (N o88 (N o126 e e) (N o44 (L o44) (L o290))) (N o107 (N o142 (L o208) (L o274)) (M o176 e))))))) P
def tree_357 (P:PM):BT:=(N b0 (N b1 (N o300 (N b7 (N o51 (N o43 (N o108 (M o177 (L o311)) (L o243)) (N o43 (M o43 (L o343)) e)) (N o43 (N o43 (M o44 (L o327)) (L o44)) (N o161 (L o225) e))) (N o59 (N o78 (N o43 (M o43 e) e) (N o44 (M o44 (L o351)) (L o283))) (N o43 (N o135 (M o201 (L o335)) (L o267)) (N o43 e (L o52))))) (N o43 (N o44 (N o43 (N o43 (M o43 (L o315)) (L o44)) (N o147 (M o213 e) e)) (N o93 (N o43 (M o197 (L o44)) (L o263)) (N o165 (L o229) (L o297)))) (N o63 (N o43 (N o123 (M o189 e) (L o255)) (N o155 (M o221 (L o355)) (L o287))) (N o43 (N o44 (M o44 (L o339)) (L o271)) (N o43 e (L o307)))))) (N b5 (N b9 (N o53 (N o72 (N o52 (M o44 (L o313)) (L o245)) (N o145 (M o211 (L o44)) (L o277))) (N o91 (N o129 (M o43 (L o329)) e) (N o163 (L o227) (L o295)))) (N o61 (N o52 (N o121 (M o187 (L o321)) (L o253)) (N o43 (M o43 (L o353)) (L o285))) (N o102 (N o137 (M o203 e) (L o269)) (N o171 (L o237) e)))) (N o45 (N o57 (N o76 (N o117 (M o183 (L o44)) (L o249)) (N o149 (M o215 (L o349)) (L o281))) (N o52 (N o133 (M o43 e) e) (N o44 (L o52) (L o299)))) (N o52 (N o87 (N o44 (M o191 (L o325)) (L o257)) (N o43 (M o43 (L o357)) (L o289))) (N o106 (N o141 (M o207 (L o341)) (L o44)) (N o175 (L o241) e)))))) (N b2 (N b4 (N b8 (N o52 (N o44 (N o67 (M o43 e) (L o244)) (N o44 (M o44 e) (L o276))) (N o90 (N o128 (M o194 (L o328)) (L o260)) (N o43 e (L o44)))) (N o111 (N o67 (N o120 (M o44 (L o320)) (L o44)) (N o152 (M o218 (L o352)) (L o284))) (N o44 (N o136 (M o202 (L o336)) e) (N o170 (L o236) (L o304))))) (N o301 (N o56 (N o75 (N o44 (M o182 e) (L o248)) (N o148 (M o214 (L o348)) (L o44))) (N o67 (N o44 (M o198 (L o332)) (L o264)) (N o43 e (L o298)))) (N o67 (N o44 (N o43 (M o190 (L o44)) (L o256)) (N o156 (M o222 (L o356)) (L o288))) (N o105 (N o140 (M o206 e) e) (N o44 (L o44) (L o308)))))) (N b6 (N b10 (N o43 (N o73 (N o114 (M o180 (L o314)) e) (N o43 (M o43 (L o346)) (L o278))) (N o92 (N o130 (M o196 e) (L o262)) (N o164 (L o228) e))) (N o62 (N o84 (N o122 (M o43 (L o322)) e) (N o154 (M o220 (L o354)) (L o286))) (N o103 (N o43 (M o43 (L o44)) (L o270)) (N o172 (L o238) (L o306))))) (N o46 (N o43 (N o77 (N o118 (M o184 (L o318)) (L o250)) (N o43 (M o43 (L o350)) (L o282))) (N o99 (N o43 (M o44 (L o334)) (L o44)) (N o168 (L o234) e))) (N o69 (N o88 (N o126 (M o43 e) e) (N o44 (L o44) (L o290))) (N o107 (N o142 (M o208 (L o342)) (L o274)) (N o176 e (L o44)))))))) P
def tree_418 (P:PM):BT:=(N b0 (N b1 (N o358 (N b7 (N o51 (N o43 (N o108 (M o177 (L o311)) (M o243 e)) (N o43 (M o43 (L o343)) (M o43 (L o409)))) (N o43 (N o43 (M o44 (L o327)) (M o44 e)) (N o161 (M o225 (L o44)) e))) (N o59 (N o78 (N o43 (M o43 e) (M o43 (L o385))) (N o44 (M o44 (L o351)) (M o283 (L o417)))) (N o43 (N o135 (M o201 (L o335)) (M o267 (L o44))) (N o43 (M o43 (L o369)) (L o52))))) (N o43 (N o44 (N o43 (N o43 (M o43 (L o315)) (M o44 e)) (N o147 (M o213 e) (M o43 (L o413)))) (N o93 (N o43 (M o197 (L o44)) (M o263 (L o397))) (N o165 (M o229 (L o365)) (L o297)))) (N o63 (N o43 (N o123 (M o189 e) (M o255 (L o44))) (N o155 (M o221 (L o355)) (L o287))) (N o43 (N o44 (M o44 (L o339)) (M o271 (L o405))) (N o43 (M o43 (L o373)) (L o307)))))) (N b5 (N b9 (N o53 (N o72 (N o52 (M o44 (L o313)) (M o245 (L o379))) (N o145 (M o211 (L o44)) (M o277 (L o411)))) (N o91 (N o129 (M o43 (L o329)) (M o43 (L o395))) (N o163 (M o227 e) (L o295)))) (N o61 (N o52 (N o121 (M o187 (L o321)) (M o253 (L o387))) (N o43 (M o43 (L o353)) (L o285))) (N o102 (N o137 (M o203 e) (M o269 e)) (N o171 (M o237 (L o371)) e)))) (N o45 (N o57 (N o76 (N o117 (M o183 (L o44)) (M o249 (L o383))) (N o149 (M o215 (L o349)) (M o281 (L o44)))) (N o52 (N o133 (M o43 e) (M o43 (L o399))) (N o44 (M o52 e) (L o299)))) (N o52 (N o87 (N o44 (M o191 (L o325)) (M o257 (L o391))) (N o43 (M o43 (L o357)) (L o289))) (N o106 (N o141 (M o207 (L o341)) (M o44 e)) (N o175 (M o241 (L o44)) e)))))) (N b2 (N b4 (N b8 (N o52 (N o44 (N o67 (M o43 e) (M o244 (L o378))) (N o44 (M o44 e) (M o276 e))) (N o90 (N o128 (M o194 (L o328)) (M o260 (L o44))) (N o43 (M o43 (L o362)) (L o44)))) (N o111 (N o67 (N o120 (M o44 (L o320)) (M o44 (L o386))) (N o152 (M o218 (L o352)) (M o284 (L o418)))) (N o44 (N o136 (M o202 (L o336)) (M o43 (L o402))) (N o170 (M o236 e) (L o304))))) (N o359 (N o56 (N o75 (N o44 (M o182 e) (M o248 (L o44))) (N o148 (M o214 (L o348)) (M o44 e))) (N o67 (N o44 (M o198 (L o332)) (M o264 (L o398))) (N o43 (M o43 (L o366)) (L o298)))) (N o67 (N o44 (N o43 (M o190 (L o44)) (M o256 (L o390))) (N o156 (M o222 (L o356)) (L o288))) (N o105 (N o140 (M o206 e) (M o43 (L o406))) (N o44 (M o44 e) (L o308)))))) (N b6 (N b10 (N o43 (N o73 (N o114 (M o180 (L o314)) (M o43 (L o380))) (N o43 (M o43 (L o346)) (M o278 (L o412)))) (N o92 (N o130 (M o196 e) (M o262 e)) (N o164 (M o228 (L o364)) e))) (N o62 (N o84 (N o122 (M o43 (L o322)) (M o43 e)) (N o154 (M o220 (L o354)) (L o286))) (N o103 (N o43 (M o43 (L o44)) (M o270 (L o404))) (N o172 (M o238 (L o372)) (L o306))))) (N o46 (N o43 (N o77 (N o118 (M o184 (L o318)) (M o250 e)) (N o43 (M o43 (L o350)) (M o282 (L o416)))) (N o99 (N o43 (M o44 (L o334)) (M o44 e)) (N o168 (M o234 (L o44)) e))) (N o69 (N o88 (N o126 (M o43 e) (M o43 (L o392))) (N o44 (M o44 e) (L o290))) (N o107 (N o142 (M o208 (L o342)) (M o274 (L o44))) (N o176 (M o43 (L o376)) (L o44)))))))) P
def heap_419 (P:Params):Heap:=(Heap.mk ⟨[b0 P,b1 P,b2 P,o358 P,b4 P,b5 P,b6 P,b7 P,b8 P,b9 P,b10 P,o43 P,o359 P,o45 P,o46 P,o51 P,o52 P,o53 P,o43 P,o44 P,o56 P,o57 P,o43 P,o59 P,o111 P,o61 P,o62 P,o63 P,o67 P,o52 P,o69 P,o43 P,o44 P,o72 P,o73 P,o43 P,o75 P,o76 P,o77 P,o78 P,o67 P,o52 P,o84 P,o43 P,o44 P,o87 P,o88 P,o43 P,o90 P,o91 P,o92 P,o93 P,o67 P,o52 P,o99 P,o43 P,o44 P,o102 P,o103 P,o43 P,o105 P,o106 P,o107 P,o108 P,o67 P,o52 P,o114 P,o43 P,o44 P,o117 P,o118 P,o43 P,o120 P,o121 P,o122 P,o123 P,o43 P,o44 P,o126 P,o43 P,o128 P,o129 P,o130 P,o43 P,o44 P,o133 P,o43 P,o135 P,o136 P,o137 P,o43 P,o44 P,o140 P,o141 P,o142 P,o43 P,o44 P,o145 P,o43 P,o147 P,o148 P,o149 P,o43 P,o44 P,o152 P,o43 P,o154 P,o155 P,o156 P,o43 P,o44 P,o161 P,o43 P,o163 P,o164 P,o165 P,o43 P,o44 P,o168 P,o43 P,o170 P,o171 P,o172 P,o43 P,o44 P,o175 P,o176 P,o177 P,o43 P,o44 P,o180 P,o43 P,o182 P,o183 P,o184 P,o43 P,o44 P,o187 P,o43 P,o189 P,o190 P,o191 P,o43 P,o44 P,o194 P,o43 P,o196 P,o197 P,o198 P,o43 P,o44 P,o201 P,o202 P,o203 P,o43 P,o44 P,o206 P,o207 P,o208 P,o43 P,o44 P,o211 P,o43 P,o213 P,o214 P,o215 P,o43 P,o44 P,o218 P,o43 P,o220 P,o221 P,o222 P,o43 P,o44 P,o225 P,o43 P,o227 P,o228 P,o229 P,o43 P,o52 P,o234 P,o43 P,o236 P,o237 P,o238 P,o43 P,o44 P,o241 P,o43 P,o243 P,o244 P,o245 P,o43 P,o44 P,o248 P,o249 P,o250 P,o43 P,o44 P,o253 P,o43 P,o255 P,o256 P,o257 P,o43 P,o44 P,o260 P,o43 P,o262 P,o263 P,o264 P,o43 P,o44 P,o267 P,o43 P,o269 P,o270 P,o271 P,o43 P,o44 P,o274 P,o43 P,o276 P,o277 P,o278 P,o43 P,o44 P,o281 P,o282 P,o283 P,o284 P,o285 P,o286 P,o287 P,o288 P,o289 P,o290 P,o43 P,o44 P,o295 P,o43 P,o297 P,o298 P,o299 P,o43 P,o52 P,o304 P,o43 P,o306 P,o307 P,o308 P,o43 P,o44 P,o311 P,o43 P,o313 P,o314 P,o315 P,o43 P,o44 P,o318 P,o43 P,o320 P,o321 P,o322 P,o43 P,o44 P,o325 P,o43 P,o327 P,o328 P,o329 P,o43 P,o44 P,o332 P,o43 P,o334 P,o335 P,o336 P,o43 P,o44 P,o339 P,o43 P,o341 P,o342 P,o343 P,o43 P,o44 P,o346 P,o43 P,o348 P,o349 P,o350 P,o351 P,o352 P,o353 P,o354 P,o355 P,o356 P,o357 P,o43 P,o44 P,o362 P,o43 P,o364 P,o365 P,o366 P,o43 P,o44 P,o369 P,o43 P,o371 P,o372 P,o373 P,o43 P,o44 P,o376 P,o43 P,o378 P,o379 P,o380 P,o43 P,o44 P,o383 P,o43 P,o385 P,o386 P,o387 P,o43 P,o44 P,o390 P,o391 P,o392 P,o43 P,o44 P,o395 P,o43 P,o397 P,o398 P,o399 P,o43 P,o44 P,o402 P,o43 P,o404 P,o405 P,o406 P,o43 P,o44 P,o409 P,o43 P,o411 P,o412 P,o413 P,o43 P,o44 P,o416 P,o417 P,o418 P]⟩ (PySem.Life.mk [] [] [] 0 [] [] false ⟨[]⟩ [] 0 false false false 0 [2000,10,10] false 0 true [] [] 0 false))
def ev (p:Program):Env:=Env.mk p.main.scope mainNs mainNs [] Str.empty none (.ref 13) (some 14) 0
def cE (p:Program):Code:=.body (behindTheImports p) (ev p)
def st (p:Program) (i k:Nat):List Stmt:=((behindTheImports p).drop i).take k
def LF:Life:=Life.mk [] [] [] 0 [] [] false #[] [] 0 false false false 0 [2000,10,10] false 0 true [] [] 0 false
def SS (T:Params→BT) (n k:Nat) (w:World) (os:OsState):SharedT:=⟨T w.params,n,LF,⟨[]⟩,⟨0,0,0,0⟩,k,os⟩
def Pc (f:(String→Option Builtin)→Program→World→Nat→Option Value→Nat→Nat→SharedT→Thread→Option (Flow × SharedT × Code × Pos)) (tb:String→Option Builtin) (p:Program) (N i k:Nat) (pos pos':Pos) (T T':Params→BT) (n t n' t':Nat):Prop :=
 ∀ (w:World) (os:OsState),f tb p w 11 (some (.ref 6)) 1 N (SS T n t w os) (piecesOf (st p i k) (ev p) (cE p) pos [topFrame ⟨0,0,0,0⟩])=some (.next,SS T' n' t' w os,cE p,pos')
theorem Pc.plain {N i k:Nat}{pos pos':Pos}{T T':Params→BT}{n t n' t':Nat} (h:Pc PySem.W.Fast.tw10110043849684766642 PySem.W.Fast.tw14364793385576792824 TP N i k pos pos' T T' n t n' t'):Pc segRunT treeTable PySem.Challenge.pw_gatefold_k32_labels_by_all_cuts N i k pos pos' T T' n t n' t':=by
 rw [PySem.W.Fast.te10110043849684766642,PySem.W.Fast.te14364793385576792824,PySem.W.Fast.te13564486745566344842]
 exact h
theorem c0:Pc segRunT treeTable PySem.Challenge.pw_gatefold_k32_labels_by_all_cuts 196 0 2 ⟨0,0,0,0⟩ ⟨2,0,3,8⟩ tree_47 tree_63 15 187 28 207:=Pc.plain (fun w os=>by kernel_rfl)
theorem c1:Pc segRunT treeTable PySem.Challenge.pw_gatefold_k32_labels_by_all_cuts 214 2 1 ⟨2,0,3,8⟩ ⟨4,0,5,8⟩ tree_63 tree_78 28 207 40 223:=Pc.plain (fun w os=>by kernel_rfl)
theorem c2:Pc segRunT treeTable PySem.Challenge.pw_gatefold_k32_labels_by_all_cuts 214 3 1 ⟨4,0,5,8⟩ ⟨6,0,7,8⟩ tree_78 tree_93 40 223 52 239:=Pc.plain (fun w os=>by kernel_rfl)
theorem c3:Pc segRunT treeTable PySem.Challenge.pw_gatefold_k32_labels_by_all_cuts 214 4 1 ⟨6,0,7,8⟩ ⟨8,0,9,8⟩ tree_93 tree_108 52 239 64 255:=Pc.plain (fun w os=>by kernel_rfl)
theorem c4:Pc segRunT treeTable PySem.Challenge.pw_gatefold_k32_labels_by_all_cuts 386 5 9 ⟨8,0,9,8⟩ ⟨32,0,33,20⟩ tree_108 tree_156 64 255 109 314:=Pc.plain (fun w os=>by kernel_rfl)
theorem c5:Pc segRunT treeTable PySem.Challenge.pw_gatefold_k32_labels_by_all_cuts 364 14 14 ⟨32,0,33,20⟩ ⟨101,0,106,15⟩ tree_156 tree_229 109 314 180 420:=Pc.plain (fun w os=>by kernel_rfl)
theorem c6:Pc segRunT treeTable PySem.Challenge.pw_gatefold_k32_labels_by_all_cuts 415 28 1 ⟨101,0,106,15⟩ ⟨107,0,153,59⟩ tree_229 tree_290 180 420 239 501:=Pc.plain (fun w os=>by kernel_rfl)
theorem c7:Pc segRunT treeTable PySem.Challenge.pw_gatefold_k32_labels_by_all_cuts 57 29 4 ⟨107,0,153,59⟩ ⟨157,0,158,18⟩ tree_290 tree_299 239 501 246 514:=Pc.plain (fun w os=>by kernel_rfl)
theorem c8:Pc segRunT treeTable PySem.Challenge.pw_gatefold_k32_labels_by_all_cuts 396 33 2 ⟨157,0,158,18⟩ ⟨197,0,197,8⟩ tree_299 tree_357 246 514 302 589:=Pc.plain (fun w os=>by kernel_rfl)
theorem c9:Pc segRunT treeTable PySem.Challenge.pw_gatefold_k32_labels_by_all_cuts 285 35 9 ⟨197,0,197,8⟩ ⟨275,0,300,15⟩ tree_357 tree_418 302 589 361 679:=Pc.plain (fun w os=>by kernel_rfl)
abbrev PW:Program:=PySem.Challenge.pw_gatefold_k32_labels_by_all_cuts
abbrev B0:List Frame:=[topFrame ⟨0,0,0,0⟩]
theorem step {p:Program}{N i k:Nat}{pos pos':Pos}{T T':Params→BT}{n t n' t':Nat} (c:Pc segRunT treeTable p N i k pos pos' T T' n t n' t') {M:Nat}{r:Shared}{w:World}{os:OsState}
  (h:topRun treeTable p w 11 (some (.ref 6)) M (SS T' n' t' w os).abs (restOf ((behindTheImports p).drop (i+k)) (ev p) (cE p) pos' [topFrame ⟨0,0,0,0⟩])=some r) :
  topRun treeTable p w 11 (some (.ref 6)) (N+M) (SS T n t w os).abs (restOf ((behindTheImports p).drop i) (ev p) (cE p) pos [topFrame ⟨0,0,0,0⟩])=some r:=by
 have e:(behindTheImports p).drop i=st p i k ++ (behindTheImports p).drop (i+k):=by
  unfold st
  rw [← List.drop_drop]
  exact (List.take_append_drop _ _).symm
 rw [e]
 exact piece_app (segRun_of (c w os)) h
def Fn (f:(String→Option Builtin)→Program→World→Nat→Option Value→Nat→Shared→Thread→Option Shared) (tb:String→Option Builtin) (p:Program):Prop :=
 ∀ (w:World) (os:OsState),f tb p w 11 (some (.ref 6)) 2 (SS tree_418 361 679 w os).abs ⟨doneF .next,cE p,⟨275,0,300,15⟩,[topFrame ⟨0,0,0,0⟩]⟩=some ⟨heap_419 w.params,⟨[]⟩,⟨0,0,0,0⟩,679,os⟩
theorem fin:Fn topRun treeTable PW:=by
 rw [PySem.W.Fast.te14082659384304107361,PySem.W.Fast.te14364793385576792824,show PW=TP from PySem.W.Fast.te13564486745566344842]
 exact fun w os=>by kernel_rfl
def Pr (f:(String→Option Builtin)→Program→World→Nat→Option Value→Nat→Shared→Thread→Option (Shared × Thread)) (d:(String→Option Builtin)→Code→Sem Fin) (tb:String→Option Builtin) (p:Program):Prop :=
 ∀ (w:World) (os:OsState),f tb p w 11 (some (.ref 6)) 12 ⟨boot_heap w.params,⟨[]⟩,boot_drawn,boot_toks,os⟩ (topStub p)=some (⟨heap_46 w.params,⟨[]⟩,⟨0,0,0,0⟩,187,os⟩,⟨d tb (cE p),cE p,⟨0,0,0,0⟩,[topFrame ⟨0,0,0,0⟩]⟩)
theorem preT:Pr topGo denote treeTable PW:=by
 rw [PySem.W.Fast.te15667345088766844465,PySem.W.Fast.te11892475500146522536,PySem.W.Fast.te14364793385576792824,show PW=TP from PySem.W.Fast.te13564486745566344842]
 exact fun w os=>by kernel_rfl
def Bl (f:(String→Option Builtin)→Program→World→Nat→Option Value→Nat→Nat→Shared→Thread→Option (Flow × Shared × Code × Pos)) (tb:String→Option Builtin) (p:Program):Prop :=
 ∀ (w:World) (os:OsState),f tb p w 11 (some (.ref 6)) 1 1 ⟨heap_46 w.params,⟨[]⟩,⟨0,0,0,0⟩,187,os⟩ (blockOf (behindTheImports p) (ev p) (cE p) ⟨0,0,0,0⟩ [topFrame ⟨0,0,0,0⟩])=some (.next,(SS tree_47 15 187 w os).abs,cE p,⟨0,0,0,0⟩)
theorem blk:Bl segRun treeTable PW:=by
 rw [PySem.W.Fast.te14374325043358763698,PySem.W.Fast.te14364793385576792824,show PW=TP from PySem.W.Fast.te13564486745566344842]
 exact fun w os=>by kernel_rfl
theorem d44:(behindTheImports PW).drop 44=[]:=by kernel_rfl
theorem run (w:World) (os:OsState):topRun treeTable PW w 11 (some (.ref 6)) (12+(1+(196+(214+(214+(214+(386+(364+(415+(57+(396+(285+2)))))))))))) ⟨boot_heap w.params,⟨[]⟩,boot_drawn,boot_toks,os⟩ (topStub PW)=some ⟨heap_419 w.params,⟨[]⟩,⟨0,0,0,0⟩,679,os⟩:=by
 refine go_top (preT w os) ?_
 refine piece_block (blk w os) ?_
 refine step c0 (step c1 (step c2 (step c3 (step c4 (step c5 (step c6 (step c7 (step c8 (step c9 ?_)))))))))
 rw [d44]
 exact fin w os
theorem size (w:World):((boot_heap w.params).isNs mainGlobals && (Array.mk ([]:List GenState)).size == 0,(boot_heap w.params).objs.size,(boot_heap w.params).nsMap mainGlobals "__annotations__")=(true,11,some (.ref 6)):=by kernel_rfl
theorem op:∀ w:World,(fencedOpening treeTable PW w 5592).map (fun s=>(s.heap,s.gens,s.drawn,s.toks))=some (boot_heap w.params,Array.mk [],boot_drawn,boot_toks) :=
 boot_open (by kernel_rfl) (by decide) (fun s=>by kernel_rfl)
def KP:List Nat:=[1,2,3,4,5,7,8,10,11,13,14,15,16,17,18,19,20,21,22,24,25,26,27,28,30,31,32,33,35,36,37,38,39,40,41,42,43]
def VW (p:Program):Program:={ p with main:={ p.main with body:=KP.filterMap fun i=>p.main.body[i]? } }
abbrev S9 (w:World) (os:OsState):Shared:=⟨heap_419 w.params,⟨[]⟩,⟨0,0,0,0⟩,679,os⟩
def LA (im:List Stmt→List Str) (p:Program):Prop :=
 ∀ (w:World) (os:OsState),(staticsOk (im p.main.body) (boot_heap w.params) (heap_419 w.params) && namesBound p (heap_419 w.params) && gensDone (S9 w os) && laidKept (boot_heap w.params) (heap_419 w.params))=true
theorem la:LA importedModules PW:=by
 rw [PySem.W.Fast.te5923862056798008813,show PW=TP from PySem.W.Fast.te13564486745566344842]
 exact fun w os=>by kernel_rfl
abbrev XT (q:Program):Shared→Bool:=fun s=>xlAt q [] s && recOk [] s
theorem lb0 (w:World) (os:OsState):PySem.W.Fast.tw4187177175401517315 (VW TP) [] (PySem.W.Fast.tw5923862056798008813 TP.main.body) (XT (VW TP)) true (S9 w os)=openGood (VW TP) []:=by kernel_rfl
end
end OT
namespace K32
open PySem PySem.Spec PyProof.Rows L2
noncomputable abbrev Q (l:List Nat):Str:=⟨⟨l⟩⟩
noncomputable abbrev fq (b c:Str) (s:Stmt) (q:Str) (t n:Nat):Obj:=⟨(Value.type "function"),none,.func (PySem.W.fnOf b c (defArgs s) (defBody s) (defScope s) Value.none Value.none Value.none (Value.str q t) none (Value.ref n) Value.none),⟨[]⟩⟩
set_option maxRecDepth 100000 in
noncomputable def KF:Params→PySem.W.Frag:=fun P =>
 (nat_lit 82,fq "is_whole" "is_whole" s_is_whole OT.q136 271 81) ::
 (nat_lit 89,fq "is_between" "is_between" s_is_between OT.q136 271 88) ::
 (nat_lit 94,fq "reached" "reached" s_reached OT.q69 289 93) ::
 (nat_lit 101,fq "cone" "cone" s_cone OT.q69 289 100) ::
 (nat_lit 108,fq "head" "head" s_head OT.q7 305 107) ::
 (nat_lit 115,fq "foot" "foot" s_foot OT.q7 305 114) ::
 (nat_lit 122,fq "need_goals" "need_goals" s_need_goals OT.q7 305 121) ::
 (nat_lit 127,fq "next_ends" "next_ends" s_next_ends OT.q7 305 126) ::
 (nat_lit 134,fq "search" "search" s_search OT.q7 305 133) ::
 (nat_lit 141,fq "lead" "lead" s_lead OT.q7 305 140) ::
 (nat_lit 148,fq "way_from" "way_from" s_way_from OT.q7 305 147) ::
 (nat_lit 153,fq "ways_of" "ways_of" s_ways_of OT.q7 305 152) ::
 (nat_lit 158,fq "stops_of" "stops_of" s_stops_of OT.q7 305 157) ::
 (nat_lit 165,fq "apart" "apart" s_apart OT.q7 305 164) ::
 (nat_lit 172,fq "need_size" "need_size" s_need_size OT.q61 397 171) ::
 (nat_lit 179,fq "maze_of" "maze_of" s_maze_of OT.q61 397 178) ::
 (nat_lit 193,fq "__init__" "Labels.__init__" s_Labels___init__ OT.q61 397 192) ::
 (nat_lit 198,fq "settle" "Labels.settle" s_Labels_settle OT.q61 397 197) ::
 (nat_lit 205,fq "keep" "Labels.keep" s_Labels_keep OT.q61 397 204) ::
 (nat_lit 219,fq "label" "Labels.label" s_Labels_label OT.q61 397 218) ::
 (nat_lit 245,fq "turned" "turned" s_turned OT.q101 501 244) ::
 (nat_lit 259,fq "__init__" "Fold.__init__" s_Fold___init__ OT.q101 501 258) ::
 (nat_lit 266,fq "total" "Fold.total" s_Fold_total OT.q101 501 265) ::
 (nat_lit 273,fq "has_tie" "Fold.has_tie" s_Fold_has_tie OT.q101 501 272) ::
 (nat_lit 280,fq "pair" "Fold.pair" s_Fold_pair OT.q101 501 279) ::
 (nat_lit 287,fq "both" "Fold.both" s_Fold_both OT.q101 501 286) ::
 (nat_lit 294,fq "and_knot" "Fold.and_knot" s_Fold_and_knot OT.q101 501 293) ::
 (nat_lit 308,fq "_law_cell_at" "_law_cell_at" s_law_cell_at OT.q9 587 307) ::
 (nat_lit 315,fq "_law_pairs" "_law_pairs" s_law_pairs OT.q9 587 314) ::
 (nat_lit 322,fq "_law_mixed" "_law_mixed" s_law_mixed OT.q9 587 321) ::
 (nat_lit 329,fq "_law_digit_pairs" "_law_digit_pairs" s_law_digit_pairs OT.q9 587 328) ::
 (nat_lit 334,fq "_law_fold" "_law_fold" s_law_fold OT.q9 587 333) ::
 (nat_lit 341,fq "_law_few" "_law_few" s_law_few OT.q9 587 340) ::
 (nat_lit 348,fq "_law_cuts" "_law_cuts" s_law_cuts OT.q9 587 347) ::
 (nat_lit 355,fq "_law_highest" "_law_highest" s_law_highest OT.q9 587 354) ::
 (nat_lit 360,fq "law" "law" s_law OT.q9 587 359) ::
 (nat_lit 81,OT.o129 P) ::
 (nat_lit 88,OT.o136 P) ::
 (nat_lit 93,OT.o141 P) ::
 (nat_lit 100,OT.o148 P) ::
 (nat_lit 107,OT.o155 P) ::
 (nat_lit 114,OT.o164 P) ::
 (nat_lit 121,OT.o171 P) ::
 (nat_lit 126,OT.o176 P) ::
 (nat_lit 133,OT.o183 P) ::
 (nat_lit 140,OT.o190 P) ::
 (nat_lit 147,OT.o197 P) ::
 (nat_lit 152,OT.o202 P) ::
 (nat_lit 157,OT.o207 P) ::
 (nat_lit 164,OT.o214 P) ::
 (nat_lit 171,OT.o221 P) ::
 (nat_lit 178,OT.o228 P) ::
 (nat_lit 192,OT.o244 P) ::
 (nat_lit 197,OT.o249 P) ::
 (nat_lit 204,OT.o256 P) ::
 (nat_lit 218,OT.o270 P) ::
 (nat_lit 244,OT.o298 P) ::
 (nat_lit 258,OT.o314 P) ::
 (nat_lit 265,OT.o321 P) ::
 (nat_lit 272,OT.o328 P) ::
 (nat_lit 279,OT.o335 P) ::
 (nat_lit 286,OT.o342 P) ::
 (nat_lit 293,OT.o349 P) ::
 (nat_lit 307,OT.o365 P) ::
 (nat_lit 314,OT.o372 P) ::
 (nat_lit 321,OT.o379 P) ::
 (nat_lit 328,OT.o386 P) ::
 (nat_lit 333,OT.o391 P) ::
 (nat_lit 340,OT.o398 P) ::
 (nat_lit 347,OT.o405 P) ::
 (nat_lit 354,OT.o412 P) ::
 (nat_lit 359,OT.o417 P) ::
 (nat_lit 2,OT.b2 P) ::
 (nat_lit 3,OT.o358 P) ::
 (nat_lit 24,OT.o111 P) ::
 (nat_lit 23,OT.o59 P) ::
 (nat_lit 37,OT.o76 P) ::
 (nat_lit 36,OT.o75 P) ::
 (nat_lit 49,OT.o91 P) ::
 (nat_lit 48,OT.o90 P) ::
 (nat_lit 61,OT.o106 P) ::
 (nat_lit 60,OT.o105 P) ::
 (nat_lit 73,OT.o121 P) ::
 (nat_lit 72,OT.o120 P) ::
 (nat_lit 234,OT.o286 P) ::
 (nat_lit 233,OT.o285 P) ::
 (nat_lit 297,OT.o353 P) ::
 (nat_lit 296,OT.o352 P) :: []
end K32
namespace OT
open PySem PySem.W PySem.Spec
noncomputable abbrev AS:List Addr:=(nat_lit 82 :: nat_lit 89 :: nat_lit 94 :: nat_lit 101 :: nat_lit 108 :: nat_lit 115 :: nat_lit 122 :: nat_lit 127 :: nat_lit 134 :: nat_lit 141 :: nat_lit 148 :: nat_lit 153 :: nat_lit 158 :: nat_lit 165 :: nat_lit 172 :: nat_lit 179 :: nat_lit 193 :: nat_lit 198 :: nat_lit 205 :: nat_lit 219 :: nat_lit 245 :: nat_lit 259 :: nat_lit 266 :: nat_lit 273 :: nat_lit 280 :: nat_lit 287 :: nat_lit 294 :: nat_lit 308 :: nat_lit 315 :: nat_lit 322 :: nat_lit 329 :: nat_lit 334 :: nat_lit 341 :: nat_lit 348 :: nat_lit 355 :: nat_lit 360 :: nat_lit 81 :: nat_lit 88 :: nat_lit 93 :: nat_lit 100 :: nat_lit 107 :: nat_lit 114 :: nat_lit 121 :: nat_lit 126 :: nat_lit 133 :: nat_lit 140 :: nat_lit 147 :: nat_lit 152 :: nat_lit 157 :: nat_lit 164 :: nat_lit 171 :: nat_lit 178 :: nat_lit 192 :: nat_lit 197 :: nat_lit 204 :: nat_lit 218 :: nat_lit 244 :: nat_lit 258 :: nat_lit 265 :: nat_lit 272 :: nat_lit 279 :: nat_lit 286 :: nat_lit 293 :: nat_lit 307 :: nat_lit 314 :: nat_lit 321 :: nat_lit 328 :: nat_lit 333 :: nat_lit 340 :: nat_lit 347 :: nat_lit 354 :: nat_lit 359 :: nat_lit 2 :: nat_lit 3 :: nat_lit 24 :: nat_lit 23 :: nat_lit 37 :: nat_lit 36 :: nat_lit 49 :: nat_lit 48 :: nat_lit 61 :: nat_lit 60 :: nat_lit 73 :: nat_lit 72 :: nat_lit 234 :: nat_lit 233 :: nat_lit 297 :: nat_lit 296 :: [])
noncomputable abbrev HK:Hook:=kHook K32.KF AS (fun _=>by kernel_rfl)
theorem lb (w:World) (os:OsState):openSeen (VW PW) [] (importedModules PW.main.body) (XT (VW PW)) true (S9 w os)=openGood (VW PW) []:=by
 rw [PySem.W.Fast.te4187177175401517315,PySem.W.Fast.te5923862056798008813,show PW=TP from PySem.W.Fast.te13564486745566344842]
 exact lb0 w os
theorem lc (w:World) (os:OsState):HK.obs (S9 w os)=HK.val w:=by kernel_rfl
theorem left:LeftO PW (VW PW) [] (XT (VW PW)) HK.obs HK.val 5592 :=
 LeftO.of_pieces op size run (by decide) fun w=>funext fun os=>by
  rw [la w os,lb w os,lc w os]
end OT
open PySem PySem.W PyProof.Rows
set_option maxRecDepth 100000 in
set_option maxHeartbeats 0 in
theorem PySem.Challenge.cw_gatefold_k32_labels_by_all_cuts_holds : PySem.Challenge.rw_gatefold_k32_labels_by_all_cuts.Holds := by
 w_on;o_law
 refine holds_open (q:=OT.VW OT.PW) (loose:=[]) (Xt:=OT.XT (OT.VW OT.PW)) (XP:=XL (OT.VW OT.PW) []) (Yf:=OT.HK.obs) (Ya:=OT.HK.val) (YP:=OT.HK.says) (N:=5592) OT.left OT.HK.of OT.HK.keeps
  (fun s e=>xl_of s (Bool.and_eq_true_iff.mp e).1) XL.keeps (by rfl) (by rfl) (by rfl)
  (fun s e=>recFacts_of (Bool.and_eq_true_iff.mp e).2) (by rfl) (by first | assumption | decide +kernel)
  (by decide +kernel)
  ⟨rfl,rfl,rfl,rfl,rfl,by decide +kernel⟩ ?hw ?hc
 case hw=>w_witness2
 refine K32.walk (l:=PySem.Challenge.rw_gatefold_k32_labels_by_all_cuts) (K:=K32.KF) rfl rfl (fun w h Y=>PySem.W.kIn_of Y) ?F
 case F =>
  intro w mg fa h KX G hmg
  k_fill
  refine' K32.all_mk KX G hmg ?aC_Labels ?aC_Fold ?aC_NoGoal ?aC_NoKnot ?aC_NoSize ?aC_NoTie ?a0 ?l0 ?c0 ?k0 ?a1 ?l1 ?c1 ?k1 ?a2 ?l2 ?c2 ?k2 ?a3 ?l3 ?c3 ?k3 ?a4 ?l4 ?c4 ?k4 ?a5 ?l5 ?c5 ?k5 ?a6 ?l6 ?c6 ?k6 ?a7 ?l7 ?c7 ?k7 ?a8 ?l8 ?c8 ?k8 ?a9 ?l9 ?c9 ?k9 ?a10 ?l10 ?c10 ?k10 ?a11 ?l11 ?c11 ?k11 ?a12 ?l12 ?c12 ?k12 ?a13 ?l13 ?c13 ?k13 ?a14 ?l14 ?c14 ?k14 ?a15 ?l15 ?c15 ?k15 ?a16 ?i16 ?l16 ?c16 ?k16 ?a17 ?i17 ?l17 ?c17 ?k17 ?a18 ?i18 ?l18 ?c18 ?k18 ?a19 ?i19 ?l19 ?c19 ?k19 ?a20 ?l20 ?c20 ?k20 ?a21 ?i21 ?l21 ?c21 ?k21 ?a22 ?i22 ?l22 ?c22 ?k22 ?a23 ?i23 ?l23 ?c23 ?k23 ?a24 ?i24 ?l24 ?c24 ?k24 ?a25 ?i25 ?l25 ?c25 ?k25 ?a26 ?i26 ?l26 ?c26 ?k26 ?a27 ?l27 ?c27 ?k27 ?a28 ?l28 ?c28 ?k28 ?a29 ?l29 ?c29 ?k29 ?a30 ?l30 ?c30 ?k30 ?a31 ?l31 ?c31 ?k31 ?a32 ?l32 ?c32 ?k32 ?a33 ?l33 ?c33 ?k33 ?a34 ?l34 ?c34 ?k34 ?a35 ?l35 ?c35 ?k35 ?xi_NoGoal ?xq_NoGoal ?kv_NoGoal ?xi_NoKnot ?xq_NoKnot ?kv_NoKnot ?xi_NoSize ?xq_NoSize ?kv_NoSize ?xi_NoTie ?xq_NoTie ?kv_NoTie ?xk_NoGoal ?xk_NoKnot ?xk_NoSize ?xk_NoTie ?pg_Labels ?hd_Labels ?po_Labels ?sa_Labels ?mk_Labels ?kc_Labels ?n_Labels_levels ?n_Labels_found_cuts ?n_Labels_found_ways ?pg_Fold ?hd_Fold ?po_Fold ?sa_Fold ?mk_Fold ?kc_Fold ?n_Fold_many ?n_Fold_pairs ?n_Fold_knots ?g_ALWAYS ?g_GREATEST_SIZE ?g_LEAST_SIZE ?g_NEVER ?z_bool ?z_int ?z_isinstance ?z_len ?z_list ?z_max ?z_min ?z_range ?z_sorted
  (case aC_Labels | aC_Fold | aC_NoGoal | aC_NoKnot | aC_NoSize | aC_NoTie | a0 | l0 | c0 | k0 | a1 | l1 | c1 | k1 | a2 | l2 | c2 | k2 | a3 | l3 | c3 | k3 | a4 | l4 | c4 | k4 | a5 | l5 | c5 | k5 | a6 | l6 | c6 | k6 | a7 | l7 | c7 | k7 | a8 | l8 | c8 | k8 | a9 | l9 | c9 | k9 | a10 | l10 | c10 | k10 | a11 | l11 | c11 | k11 | a12 | l12 | c12 | k12 | a13 | l13 | c13 | k13 | a14 | l14 | c14 | k14 | a15 | l15 | c15 | k15 | a16 | i16 | l16 | c16 | k16 | a17 | i17 | l17 | c17 | k17 | a18 | i18 | l18 | c18 | k18 | a19 | i19 | l19 | c19 | k19 | a20 | l20 | c20 | k20 | a21 | i21 | l21 | c21 | k21 | a22 | i22 | l22 | c22 | k22 | a23 | i23 | l23 | c23 | k23 | a24 | i24 | l24 | c24 | k24 | a25 | i25 | l25 | c25 | k25 | a26 | i26 | l26 | c26 | k26 | a27 | l27 | c27 | k27 | a28 | l28 | c28 | k28 | a29 | l29 | c29 | k29 | a30 | l30 | c30 | k30 | a31 | l31 | c31 | k31 | a32 | l32 | c32 | k32 | a33 | l33 | c33 | k33 | a34 | l34 | c34 | k34 | a35 | l35 | c35 | k35=>k_is)
  (case xi_NoGoal=>kernel_rfl)
  (case xq_NoGoal=>first | rfl | decide +kernel | k_is)
  (case kv_NoGoal=>first | rfl | decide +kernel | k_is)
  (case xi_NoKnot=>kernel_rfl)
  (case xq_NoKnot=>first | rfl | decide +kernel | k_is)
  (case kv_NoKnot=>first | rfl | decide +kernel | k_is)
  (case xi_NoSize=>kernel_rfl)
  (case xq_NoSize=>first | rfl | decide +kernel | k_is)
  (case kv_NoSize=>first | rfl | decide +kernel | k_is)
  (case xi_NoTie=>kernel_rfl)
  (case xq_NoTie=>first | rfl | decide +kernel | k_is)
  (case kv_NoTie=>first | rfl | decide +kernel | k_is)
  (case xk_NoGoal=>first | rfl | decide +kernel | k_is)
  (case xk_NoKnot=>first | rfl | decide +kernel | k_is)
  (case xk_NoSize=>first | rfl | decide +kernel | k_is)
  (case xk_NoTie=>first | rfl | decide +kernel | k_is)
  (case pg_Labels | hd_Labels | po_Labels | sa_Labels | mk_Labels | kc_Labels | n_Labels_levels | n_Labels_found_cuts | n_Labels_found_ways | pg_Fold | hd_Fold | po_Fold | sa_Fold | mk_Fold | kc_Fold | n_Fold_many | n_Fold_pairs | n_Fold_knots | g_ALWAYS | g_GREATEST_SIZE | g_LEAST_SIZE | g_NEVER | z_bool | z_int | z_isinstance | z_len | z_list | z_max | z_min | z_range | z_sorted=>k_is)

