import PyProof.Rows.All
import Wide.All
import OpenK.AllK
import Wide.FinOn
import Lean
import PyProof.EqAt
import PyProof.EqKinds
import PyProof.TupleCall
import PyProof.ZipIter
import PyProof.WalksMore
import PyProof.ListNew
import PyProof.IsiBase
import PyProof.DictList
import PyProof.AttrMiss
import PyProof.FactsAll.dict
import PyProof.ListRange
import PyProof.StrLawsWords
import PyProof.StationsW
import KE.KIsAll
import PyProof.PassesOwn
import PyProof.DictIter
import KE.KRevIter
import KE.KRangeStep
import KE.RegMulBits
import KE.KDictList
import PyProof.Rows.SortShell
import PySem.Challenge.RW_gatefold_k27_places_that_stop
set_option Elab.async false
set_option linter.all false
set_option maxRecDepth 100000
namespace L2
open PySem PySem.Spec PyProof.Rows
abbrev Key:=Sum Int Str
def keyIs:Key→Value→Bool
 | .inl k,v=>Value.isInt k v
 | .inr x,v=>Value.isStrOf x v
def keyH (w:World):Key→Int
 | .inl k=>hashInt k
 | .inr x=>hashStr w x
theorem keyIs_shape:∀ {k:Key}{v:Value},keyIs k v=true→(∃ i t,k=Sum.inl i∧v=Value.int i t)∨(∃ x t,k=Sum.inr x∧v=Value.str x t)
 | .inl i,v,h=>by
  obtain ⟨t,e⟩:=Value.isInt_shape (k:=i) (v:=v) h
  exact .inl ⟨i,t,rfl,e⟩
 | .inr x,v,h=>by
  obtain ⟨t,e⟩:=Value.isStrOf_shape (x:=x) (v:=v) h
  exact .inr ⟨x,t,rfl,e⟩
theorem keyIs_int (i:Int) (t:Tok):keyIs (.inl i) (.int i t)=true:=by simp [keyIs,Value.isInt]
theorem keyIs_str (x:Str) (t:Tok):keyIs (.inr x) (.str x t)=true:=by simp [keyIs,Value.isStrOf]
theorem key_ll (a b:Int):decide ((Sum.inl a:Key)=Sum.inl b)=(a == b):=by
 by_cases e:a=b
 ·subst e;simp
 ·have h:¬ (Sum.inl a:Key)=Sum.inl b:=fun q=>e (Sum.inl.inj q)
  rw [decide_eq_false h]
  exact (beq_eq_false_iff_ne.mpr e).symm
theorem key_rr (a b:Str):decide ((Sum.inr a:Key)=Sum.inr b)=decide (a=b):=by
 by_cases e:a=b
 ·subst e;simp
 ·have h:¬ (Sum.inr a:Key)=Sum.inr b:=fun q=>e (Sum.inr.inj q)
  rw [decide_eq_false h,decide_eq_false e]
theorem key_lr (a:Int) (b:Str):decide ((Sum.inl a:Key)=Sum.inr b)=false:=decide_eq_false (fun q=>nomatch q)
theorem key_rl (a:Str) (b:Int):decide ((Sum.inr a:Key)=Sum.inl b)=false:=decide_eq_false (fun q=>nomatch q)
def mixKind (prog:Program) (w:World):PySem.KeyKind prog w Key where
 is:=keyIs
 hash:=keyH w
 inj:=fun v a b ha hb=>by
  rcases keyIs_shape ha with ⟨i,t,rfl,rfl⟩ | ⟨x,t,rfl,rfl⟩
  ·rcases keyIs_shape hb with ⟨j,u,rfl,e⟩ | ⟨y,u,rfl,e⟩
   ·injection e with e1 _;rw [e1]
   ·exact nomatch e
  ·rcases keyIs_shape hb with ⟨j,u,rfl,e⟩ | ⟨y,u,rfl,e⟩
   ·exact nomatch e
   ·injection e with e1 _;rw [e1]
 byValue:=fun k v h=>by
  rcases keyIs_shape h with ⟨i,t,rfl,rfl⟩ | ⟨x,t,rfl,rfl⟩ <;> rfl
 pyHash:=fun hv h=>by
  rcases keyIs_shape hv with ⟨i,t,rfl,rfl⟩ | ⟨x,t,rfl,rfl⟩
  ·exact wpAny_pyHash_int h
  ·exact wpAny_pyHash_str h
 eqBool:=fun hu hv h=>by
  rcases keyIs_shape hu with ⟨i,t,rfl,rfl⟩ | ⟨x,t,rfl,rfl⟩
  ·rcases keyIs_shape hv with ⟨j,u,rfl,rfl⟩ | ⟨y,u,rfl,rfl⟩
   ·rw [key_ll] at h;exact wpAny_eqBool_int h
   ·rw [key_lr] at h;exact SeqAt.EqAt.int_str i t y u _ _ _ _ h
  ·rcases keyIs_shape hv with ⟨j,u,rfl,rfl⟩ | ⟨y,u,rfl,rfl⟩
   ·rw [key_rl] at h;exact SeqAt.EqAt.str_int x t j u _ _ _ _ h
   ·rw [key_rr] at h;exact wpAny_eqBool_str h
 «strs»:=fun k x t v h=>by
  rcases keyIs_shape h with ⟨i,u,rfl,e⟩ | ⟨y,u,rfl,e⟩
  ·exact nomatch e
  ·injection e with e1 _
   subst e1
   cases v <;> rfl
theorem mixKind_int (prog:Program) (w:World) (i:Int) (t:Tok):(mixKind prog w).is (.inl i) (.int i t)=true:=keyIs_int i t
theorem mixKind_str (prog:Program) (w:World) (x:Str) (t:Tok):(mixKind prog w).is (.inr x) (.str x t)=true:=keyIs_str x t
inductive V where
 | non | bl (b:Bool) | int (i:Int) | str (x:Str) | byt (b:Array UInt8) | flt (b:UInt64) | ref (a:Addr) | ty (n:String)
 deriving DecidableEq
def RelV:V→Value→Prop
 | .non,u=>u=Value.none
 | .bl b,u=>u=Value.bool b
 | .int i,u=>∃ t,u=Value.int i t
 | .str x,u=>∃ t,u=Value.str x t
 | .byt b,u=>∃ t,u=Value.bytes b t
 | .flt b,u=>∃ t,u=Value.float b t
 | .ref a,u=>u=Value.ref a
 | .ty n,u=>u=Value.type n
abbrev Vals:List V→List Value→Prop:=Paired RelV
theorem Vals.length {xs:List V}{us:List Value} (r:Vals xs us):xs.length=us.length:=Paired.length r
theorem Vals.get:∀ {xs:List V}{us:List Value}{i:Nat}{x:V},Vals xs us→xs[i]? = some x→∃ u,us[i]? = some u∧RelV x u
 | _,_,_,_,.nil,e=>by simp at e
 | _,_,0,_,.cons r _,e=>by simp at e;subst e;exact ⟨_,rfl,r⟩
 | _,_,i+1,x,.cons _ t,e=>by
  obtain ⟨u,h1,h2⟩:=Vals.get (i:=i) (x:=x) t (by simpa using e)
  exact ⟨u,by simpa using h1,h2⟩
theorem Vals.set {x:V}{u:Value} (r:RelV x u):∀ {xs:List V}{us:List Value} (i:Nat),Vals xs us→Vals (xs.set i x) (us.set i u)
 | _,_,_,.nil=>.nil
 | _,_,0,.cons _ t=>.cons r t
 | _,_,i+1,.cons q t=>.cons q (Vals.set r i t)
theorem Vals.append:∀ {xs ys:List V}{us ws:List Value},Vals xs us→Vals ys ws→Vals (xs ++ ys) (us ++ ws)
 | _,_,_,_,.nil,s=>s
 | _,_,_,_,.cons r t,s=>.cons r (Vals.append t s)
theorem Vals.take:∀ {xs:List V}{us:List Value} (n:Nat),Vals xs us→Vals (xs.take n) (us.take n)
 | _,_,0,_=>.nil
 | _,_,_+1,.nil=>.nil
 | _,_,n+1,.cons r t=>.cons r (Vals.take n t)
theorem Vals.drop:∀ {xs:List V}{us:List Value} (n:Nat),Vals xs us→Vals (xs.drop n) (us.drop n)
 | _,_,0,r=>r
 | _,_,_+1,.nil=>.nil
 | _,_,n+1,.cons _ t=>Vals.drop n t
def RelO:Option V→Option Value→Prop
 | some v,some u=>RelV v u
 | none,none=>True
 | _,_=>False
def KV {κ:Type}:List (κ × V)→List (κ × Value)→Prop:=Paired fun (p:κ × V) (q:κ × Value)=>p.1=q.1∧RelV p.2 q.2
def kV:Key→V
 | .inl i=>.int i
 | .inr x=>.str x
inductive HO where
  | lst (xs:List V)
  | tup (xs:List V)
  | dK (kvs:List (Key × V)) | dT (kvs:List (List Key × V))
  | set (S:Int→Bool) (n:Nat)
  | ins (C dx:Addr) (fs:List (Str × V))
  | own (x:Addr)
  | xd (fs:List (Str × V))
  | met (f x:Addr)
  | rng (lo hi:Int)
  | frz (o:Obj) (u:HO)
  | tbl (ps:Array Value)
  | ext (φ:Heap→Prop)
abbrev Hp:=Addr→Option HO
def upd (H:Hp) (a:Addr) (o:HO):Hp:=fun b=>if b=a then some o else H b
theorem upd_same {H:Hp}{a:Addr}{o:HO}:upd H a o a=some o:=by unfold upd;rw [if_pos rfl]
theorem upd_ne {H:Hp}{a b:Addr}{o:HO} (h:b≠a):upd H a o b=H b:=by unfold upd;rw [if_neg h]
theorem upd_upd {H:Hp}{a:Addr}{o u:HO}:upd (upd H a o) a u=upd H a u:=by
 funext b;unfold upd;split <;> rfl
theorem ne_of {H:Hp}{a b:Addr}{o u:HO} (h:H a=some o) (h':H b=some u) (d:o≠u):a≠b:=by
 intro e;subst e;rw [h] at h';exact d (Option.some.inj h')
theorem ne_of_none {H:Hp}{a b:Addr}{o:HO} (h:H a=some o) (h':H b=none):a≠b:=by
 intro e;subst e;rw [h] at h';cases h'
section
variable (P:Program) (w:World)
def ObjOk (H:Hp) (h:Heap) (a:Addr):HO→Prop
 | .lst xs=>xs.length≤sizeLine∧∃ (its:List Value) (n:Nat),Vals xs its∧h.get? a=some { cls:=.type "list",data:=.seq its.toArray n }
 | .tup xs=>xs.length≤sizeLine∧∃ its:List Value,Vals xs its∧IsTup h a its.toArray
 | .dK kvs=>kvs.length≤sizeLine∧(a == sysModules)=false∧∃ vs,KV kvs vs∧h.DictOf (mixKind P w) a vs
 | .dT kvs=>kvs.length≤sizeLine∧(a == sysModules)=false∧∃ xs:List (List Key × Addr × Value),
   Paired (fun (p:List Key × V) (q:List Key × Addr × Value)=>p.1=q.1∧H q.2.1=some (.tup (p.1.map kV))∧RelV p.2 q.2.2) kvs xs ∧
   ∃ o es ep,h.get? a=some o∧o.ExactDict∧o.data=.dict es ep∧es.toList=xs.map (entryOfKey (tupleKind (mixKind P w)))∧(xs.map (·.1)).Nodup
 | .set S n=>h.SetOf (intKind P w) a S n
 | .ins C dx fs=>H dx=some (.own a)∧fs.length≤1000∧dx≠a∧h.get? a=some (PySem.W.instObj C dx) ∧
   ∃ mA,h.Ns1 dx mA∧(∀ f,RelO (fs.lookup f) (mA f))∧PySem.Within mA (fs.map (·.1))
 | .own _=>∃ o,h.get? a=some o
 | .xd fs=>∃ mA,h.Ns1 a mA∧∀ f,RelO (fs.lookup f) (mA f)
 | .rng lo hi=>∃ t u v,h.get? a=some { cls:=.type "range",data:=.fields #[.int lo t,.int hi u,.int 1 v] }
 | .frz o u=>h.get? a=some o∧ObjOk H h a u
 | .tbl ps=>h.get? a=some { cls:=.none,data:=.fields ps }
 | .met f x=>h.get? a=some (PySem.W.methodObj (.ref f) (.ref x))
 | .ext φ=>φ h∧(∃ o,h.get? a=some o)∧∀ h1 h2:Heap,φ h1→(∀ o,h1.get? a=some o→h2.get? a=some o)→φ h2
def HOk (H:Hp) (h:Heap):Prop:=∀ a o,H a=some o→ObjOk P w H h a o
end
section
variable {P:Program}{w:World}{H H':Hp}{h h':Heap}{a:Addr}{o:HO}
theorem ObjOk.lt (x:ObjOk P w H h a o):a<h.objs.size:=by
 cases o with
 | lst xs=>obtain ⟨_,_,_,_,e⟩:=x;exact Heap.lt_size e
 | tup xs=>obtain ⟨_,_,_,p⟩:=x;exact p.lt
 | dK kvs=>obtain ⟨_,_,_,_,o,_,_,e,_⟩:=x;exact Heap.lt_size e
 | dT kvs=>obtain ⟨_,_,_,_,o,_,_,e,_⟩:=x;exact Heap.lt_size e
 | set S n=>obtain ⟨o,_,_,_,e,_⟩:=x;exact Heap.lt_size e
 | ins C dx fs=>obtain ⟨_,_,_,e,_⟩:=x;exact Heap.lt_size e
 | own y=>obtain ⟨_,e⟩:=x;exact Heap.lt_size e
 | xd fs=>obtain ⟨_,⟨_,_,_,e,_⟩,_⟩:=x;exact Heap.lt_size e
 | rng lo hi=>obtain ⟨_,_,_,e⟩:=x;exact Heap.lt_size e
 | frz ob u=>obtain ⟨e,_⟩:=x;exact Heap.lt_size e
 | tbl ps=>exact Heap.lt_size (show h.get? a=some _ from x)
 | met f y=>exact Heap.lt_size (show h.get? a=some _ from x)
 | ext φ=>obtain ⟨_,⟨_,e⟩,_⟩:=x;exact Heap.lt_size e
theorem Paired.mapP {α β:Type}{F G:α→β→Prop}:∀ {l₁:List α}{l₂:List β},Paired F l₁ l₂→(∀ a b,F a b→G a b)→Paired G l₁ l₂
 | _,_,.nil,_=>.nil
 | _,_,.cons r t,f=>.cons (f _ _ r) (Paired.mapP t f)
theorem ObjOk.stay (x:ObjOk P w H h a o) (k:∀ b u,(b=a∨H b=some (.own a))→h.get? b=some u→h'.get? b=some u)
  (ho:∀ b,H b=some (.own a)→H' b=some (.own a)) (ht:∀ b xs,H b=some (.tup xs)→H' b=some (.tup xs)):ObjOk P w H' h' a o:=by
 induction o with
 | lst xs=>obtain ⟨z,its,n,r,e⟩:=x;exact ⟨z,its,n,r,k _ _ (.inl rfl) e⟩
 | tup xs=>obtain ⟨z,its,r,ob,e,c⟩:=x;exact ⟨z,its,r,ob,k _ _ (.inl rfl) e,c⟩
 | dK kvs=>obtain ⟨z,y,vs,r,ob,es,ep,e,c⟩:=x;exact ⟨z,y,vs,r,ob,es,ep,k _ _ (.inl rfl) e,c⟩
 | dT kvs =>
  obtain ⟨z,y,xs,r,ob,es,ep,e,c⟩:=x
  exact ⟨z,y,xs,Paired.mapP r fun p q z=>⟨z.1,ht _ _ z.2.1,z.2.2⟩,ob,es,ep,k _ _ (.inl rfl) e,c⟩
 | set S n=>obtain ⟨ob,es,ep,t,e,c⟩:=x;exact ⟨ob,es,ep,t,k _ _ (.inl rfl) e,c⟩
 | ins C dx fs =>
  obtain ⟨d,z,ne,e,mA,⟨od,es,ep,e2,c⟩,r⟩:=x
  exact ⟨ho _ d,z,ne,k _ _ (.inl rfl) e,mA,⟨od,es,ep,k _ _ (.inr d) e2,c⟩,r⟩
 | own y=>obtain ⟨ob,e⟩:=x;exact ⟨ob,k _ _ (.inl rfl) e⟩
 | xd fs=>obtain ⟨mA,⟨od,es,ep,e,c⟩,r⟩:=x;exact ⟨mA,⟨od,es,ep,k _ _ (.inl rfl) e,c⟩,r⟩
 | rng lo hi=>obtain ⟨t,u,v,e⟩:=x;exact ⟨t,u,v,k _ _ (.inl rfl) e⟩
 | frz ob u ih=>obtain ⟨e,q⟩:=x;exact ⟨k _ _ (.inl rfl) e,ih q⟩
 | tbl ps =>
  have e:h.get? a=some { cls:=.none,data:=.fields ps }:=x
  show h'.get? a=some { cls:=.none,data:=.fields ps }
  exact k a _ (.inl rfl) e
 | met f y =>
  have e:h.get? a=some (PySem.W.methodObj (.ref f) (.ref y)):=x
  show h'.get? a=some (PySem.W.methodObj (.ref f) (.ref y))
  exact k a _ (.inl rfl) e
 | ext φ=>obtain ⟨p,⟨o,e⟩,st⟩:=x;exact ⟨st _ _ p fun o q=>k _ _ (.inl rfl) q,⟨o,k _ _ (.inl rfl) e⟩,st⟩
theorem HOk.lt (x:HOk P w H h) (e:H a=some o):a<h.objs.size:=(x a o e).lt
theorem HOk.fresh (x:HOk P w H h) (e:h.objs.size≤a):H a=none:=by
 cases q:H a with
 | none=>rfl
 | some u=>exact absurd (Nat.lt_of_lt_of_le (x.lt q) e) (Nat.lt_irrefl _)
theorem HOk.kept (x:HOk P w H h) (k:∀ b u,h.get? b=some u→h'.get? b=some u):HOk P w H h':=fun a o e =>
 (x a o e).stay (fun b u _ q=>k b u q) (fun _ q=>q) fun _ _ q=>q
theorem HOk.laid (x:HOk P w H h) (k:∀ b u,h.get? b=some u→h'.get? b=some u) (hp:h.objs.size≤a) (new:ObjOk P w (upd H a o) h' a o):HOk P w (upd H a o) h':=fun b u e=>by
 have hn:=x.fresh hp
 by_cases hb:b=a
 ·subst hb;rw [upd_same] at e;cases e;exact new
 ·rw [upd_ne hb] at e
  exact (x b u e).stay (fun c v _ q=>k c v q) (fun c q=>by rw [upd_ne (ne_of_none q hn)];exact q) fun c xs q=>by rw [upd_ne (ne_of_none q hn)];exact q
end
def Rd (H:Hp) (a:Addr) (u:HO):Prop:=H a=some u∨∃ o,H a=some (.frz o u)
theorem Rd.ok {P:Program}{w:World}{H:Hp}{h:Heap}{a:Addr}{u:HO} (r:Rd H a u) (x:HOk P w H h):ObjOk P w H h a u:=by
 rcases r with r | ⟨o,r⟩
 ·exact x a u r
 ·obtain ⟨_,q⟩:=x a _ r
  exact q
def Mut:Option HO→Prop
 | some (.lst _)=>True
 | some (.dK _)=>True
 | some (.dT _)=>True
 | some (.set _ _)=>True
 | some (.ins _ _ _)=>True
 | some (.ext _)=>True
 | _=>False
section
variable {P:Program}{w:World}{H:Hp}{h h':Heap}{x e:Addr}{o':HO}
theorem HOk.write (ok:HOk P w H h) (mu:Mut (H x)) (he:e=x∨H e=some (.own x)) (k:∀ b u,b≠e→h.get? b=some u→h'.get? b=some u) (heo:∃ u,h'.get? e=some u)
  (new:ObjOk P w (upd H x o') h' x o'):HOk P w (upd H x o') h':=fun b u q=>by
 have nown:∀ c y,H c=some (.own y)→c≠x:=fun c y r z=>by subst z;rw [r] at mu;exact mu
 have ntup:∀ c xs,H c=some (.tup xs)→c≠x:=fun c xs r z=>by subst z;rw [r] at mu;exact mu
 by_cases hb:b=x
 ·subst hb;rw [upd_same] at q;cases q;exact new
 ·rw [upd_ne hb] at q
  by_cases hbe:b=e
  ·have q':H b=some (.own x):=by
    rcases he with z | z
    ·exact absurd (hbe.trans z) hb
    ·rw [hbe];exact z
   rw [q] at q';cases q'
   obtain ⟨v,hv⟩:=heo
   exact ⟨v,by rw [hbe];exact hv⟩
  ·refine (ok b u q).stay (fun c v hc r=>k c v ?_ r) (fun c r=>by rw [upd_ne (nown c b r)];exact r) fun c xs r=>by rw [upd_ne (ntup c xs r)];exact r
   rcases hc with rfl | hc
   ·exact hbe
   ·rintro rfl
    rcases he with z | z
    ·exact nown c b hc z
    ·rw [hc] at z;cases z;exact hb rfl
end
structure Un (fs ex:List Addr) (H H':Hp) (h h':Heap):Prop where
 keep:∀ b o,h.get? b=some o→H b=none→b ∉ fs→b ∉ ex→h'.get? b=some o
 slot:∀ b o,h.get? b=some o→H b=none→b∈fs→b ∉ ex→∃ sl,h'.get? b=some { o with slots:=sl }
 free:∀ b o,h.get? b=some o→H b=none→b ∉ ex→H' b=none
 there:∀ b o,h.get? b=some o→b ∉ ex→∃ o',h'.get? b=some o'
 tups:∀ b xs,H b=some (.tup xs)→H' b=some (.tup xs)
 frzs:∀ b o u,H b=some (.frz o u)→H' b=some (.frz o u)
 tbls:∀ b ps,H b=some (.tbl ps)→∃ more,H' b=some (.tbl (ps ++ more))
section
variable {fs fs' ex ex':List Addr}{H H1 H2:Hp}{h h1 h2 h':Heap}{a x e:Addr}{o:HO}
theorem Un.any (u:Un fs ex H H1 h h1) {b:Addr}{ob:Obj} (q:h.get? b=some ob) (n:H b=none) (hx:b ∉ ex):∃ sl,h1.get? b=some { ob with slots:=sl }:=by
 by_cases hb:b∈fs
 ·exact u.slot b ob q n hb hx
 ·exact ⟨ob.slots,u.keep b ob q n hb hx⟩
theorem Un.kept (k:∀ b u,h.get? b=some u→h'.get? b=some u):Un fs ex H H h h' :=
 ⟨fun b ob q _ _ _=>k b ob q,fun b ob q _ _ _=>⟨ob.slots,k b ob q⟩,fun _ _ _ n _=>n,fun b ob q _=>⟨ob,k b ob q⟩,fun _ _ q=>q,fun _ _ _ q=>q,fun _ ps q=>⟨#[],by rw [q];simp⟩⟩
theorem Un.refl:Un fs ex H H h h:=Un.kept fun _ _ q=>q
theorem Un.laid (k:∀ b u,h.get? b=some u→h'.get? b=some u) (hp:h.objs.size≤a) (hn:H a=none):Un fs ex H (upd H a o) h h' where
 keep:=fun b u q _ _ _=>k b u q
 slot:=fun b u q _ _ _=>⟨u.slots,k b u q⟩
 free:=fun b u q n _=>by rw [upd_ne (Nat.ne_of_lt (Nat.lt_of_lt_of_le (Heap.lt_size q) hp))];exact n
 there:=fun b u q _=>⟨u,k b u q⟩
 tups:=fun b xs q=>by rw [upd_ne (ne_of_none q hn)];exact q
 frzs:=fun b u xs q=>by rw [upd_ne (ne_of_none q hn)];exact q
 tbls:=fun b ps q=>⟨#[],by rw [upd_ne (ne_of_none q hn),q];simp⟩
theorem Un.write (mu:Mut (H x)) (he:e=x∨H e=some (.own x)) (k:∀ b u,b≠e→h.get? b=some u→h'.get? b=some u) (heo:∃ u,h'.get? e=some u):Un fs ex H (upd H x o) h h':=by
 have hx:∀ b,H b=none→b≠x:=fun b n z=>by subst z;rw [n] at mu;exact mu
 have hb:∀ b,H b=none→b≠e:=fun b n z=>by
  subst z
  rcases he with r | r
  ·exact hx b n r
  ·rw [n] at r;cases r
 have hm:∀ b u,H b=some u→¬ Mut (some u)→b≠x:=fun b u q nm z=>by subst z;rw [q] at mu;exact nm mu
 refine ⟨fun b u q n _ _=>k b u (hb b n) q,fun b u q n _ _=>⟨u.slots,k b u (hb b n) q⟩,fun b u q n _=>by rw [upd_ne (hx b n)];exact n,fun b u q _=>?_,
  fun b xs q=>by rw [upd_ne (hm b _ q fun z=>z)];exact q,fun b u xs q=>by rw [upd_ne (hm b _ q fun z=>z)];exact q,fun b ps q=>⟨#[],by rw [upd_ne (hm b _ q fun z=>z),q];simp⟩⟩
 by_cases hbe:b=e
 ·subst hbe;exact heo
 ·exact ⟨u,k b u hbe q⟩
end
def trk (h:Heap) (H:Hp):List Addr:=(List.range h.objs.size).filter fun a=>(H a).isSome
def hidT (h:Heap) (H:Hp):Heap:=PySem.W.hideAll h (trk h H)
theorem hidT_size (h:Heap) (H:Hp):(hidT h H).objs.size=h.objs.size:=PySem.W.hideAll_size _ _
theorem hidT_get {h:Heap}{H:Hp}{b:Addr}{o:Obj} (e:h.get? b=some o) (n:H b=none):(hidT h H).get? b=some o :=
 PySem.W.hideAll_get _ e fun hm=>by
  have q:(H b).isSome=true:=(List.mem_filter.mp hm).2
  rw [n] at q;simp at q
theorem of_hidT {h:Heap}{H:Hp}{b:Addr}{o:Obj} (e:(hidT h H).get? b=some o):h.get? b=some o∧H b=none:=by
 have e':h.get? b=some o:=PySem.W.of_hideAll (trk h H) e
 refine ⟨e',?_⟩
 cases q:H b with
 | none=>rfl
 | some x =>
  have hm:b∈trk h H:=List.mem_filter.mpr ⟨List.mem_range.mpr (Heap.lt_size e'),by simp [q]⟩
  have z:(hidT h H).get? b=none:=PySem.W.hideAll_none (trk h H) hm
  rw [z] at e;cases e
def allNews (g h:Heap) (L:Addr):List (Addr × Obj):=(List.range h.objs.size).filterMap fun a=>if a=L∨(g.get? a).isSome=true then none else (h.get? a).map fun o=>(a,o)
def rest (g h:Heap) (L d:Addr):List (Addr × Obj):=(allNews g h L).filter fun p=>decide (p.1≠d)
structure Mod (K:PySem.W.Frag) (mg:Str→Option Value) (base:Heap):Prop where
 kin:K.In base
 glob:base.Ns mainGlobals mg
 blt:∃ mb,base.Ns builtinsNs mb∧∀ x:Str,x ≠ "__name__" → mb x=bootBuiltins x
 nolimit:base.NoLimit
structure Cx where
 prog:Program
 w:World
 K:PySem.W.Frag
 mg:Str→Option Value
 base:Heap
 A:Around
 N:List Str
 s₀:Shared
 H₀:Hp
 env:Env
 outer:List Env
 stack:List Env
 ex:List Addr
 fn:Str→Bool
 calm:Bool
 pn:List (Addr × Obj)
 xe:Value→Shared→Prop
def frs (l:List Env):List Addr:=l.filterMap (·.frame)
abbrev Cx.fs (X:Cx):List Addr:=frs X.outer
def Vis (sc:Scope) (x:Str):Prop:=sc.names.lookup x=some .local∨sc.names.lookup x=some .cell∨sc.names.lookup x=some .free
def Loc (sc:Scope) (x:Str):Prop:=sc.names.lookup x=some .local∨sc.names.lookup x=some .cell
def Look (env:Env) (h:Heap) (m:Str→Option Value) (x:Str) (u:Value):Prop :=
 (env.kindOf x=some .local∧m x=some u)∨((env.kindOf x=some .cell∨env.kindOf x=some .free)∧∃ c,env.cells.lookup x=some c∧h.IsCell c (some u))
structure Cx.Ok (X:Cx):Prop where
 mod:Mod X.K X.mg X.base
 kind:X.env.scope.kind=.function
 glob:X.env.globals=mainGlobals
 blt:X.env.builtins=builtinsNs
 above:X.s₀.heap.objs.size≤X.env.locals
 inj:∀ x y c,X.env.cells.lookup x=some c→X.env.cells.lookup y=some c→x=y
 has:∀ x,(X.env.kindOf x=some .cell∨X.env.kindOf x=some .free)→∃ c,X.env.cells.lookup x=some c
 cab:∀ x c,X.fn x=true→X.env.cells.lookup x=some c→X.s₀.heap.objs.size≤c
 hd:X.calm=true→X.A.handled=none
 frames:X.A.frames=some X.stack
 stk:X.stack=X.outer∨(X.stack=X.env :: X.outer∧X.env.frame=some X.env.locals)
 exf:∀ b∈X.ex,b≠X.env.locals∧∀ x c,X.env.cells.lookup x=some c→c≠b
 bs:∀ b o,X.base.get? b=some o→X.s₀.heap.get? b=some o∧X.H₀ b=none
 bsz:X.base.objs.size≤X.s₀.heap.objs.size
 noex:∀ b o,X.base.get? b=some o→b ∉ X.ex
 exfs:∀ b∈X.ex,b ∉ X.fs
 funs:X.s₀.heap.FunFrames X.base X.outer
 frf:∀ b∈X.fs,X.H₀ b=none
structure Inv (X:Cx) (pins:List (Addr × Obj)) (σ:List (Option V)) (H:Hp) (s:Shared):Prop where
 ok:X.Ok
 os:s.os=X.s₀.os
 bare:AllBare s.gens
 base:Un X.fs X.ex X.H₀ H X.s₀.heap s.heap
 loc:∃ m,s.heap.Ns X.env.locals m∧∀ (i:Nat) (x:Str) (v:V),X.N[i]? = some x→σ[i]? = some (some v)→Vis X.env.scope x→∃ u,RelV v u∧Look X.env s.heap m x u
 cell:∀ x c,X.env.cells.lookup x=some c→∃ v,s.heap.IsCell c v
 free:H X.env.locals=none
 freeC:∀ x c,X.env.cells.lookup x=some c→H c=none
 pin:∀ p∈X.pn ++ pins,s.heap.get? p.1=some p.2∧H p.1=none∧p.1≠X.env.locals∧p.1 ∉ X.fs∧∀ v,p.2.data≠.cell v
 hok:HOk X.prog X.w H s.heap
 len:σ.length=X.N.length
section
variable {X:Cx}{pins:List (Addr × Obj)}{σ:List (Option V)}{H H':Hp}{s:Shared}{h':Heap}
theorem Cx.Ok.nofr (ok:X.Ok) {b:Addr}{o:Obj} (e:X.base.get? b=some o):b ∉ X.fs:=fun hb=>by
 have:=(ok.funs.mem hb).1
 rw [e] at this;cases this
theorem Inv.bs (I:Inv X pins σ H s):∀ b o,X.base.get? b=some o→s.heap.get? b=some o∧H b=none:=fun b o e =>
 ⟨I.base.keep b o (I.ok.bs b o e).1 (I.ok.bs b o e).2 (I.ok.nofr e) (I.ok.noex b o e),I.base.free b o (I.ok.bs b o e).1 (I.ok.bs b o e).2 (I.ok.noex b o e)⟩
theorem Inv.bk (I:Inv X pins σ H s):∀ b o,X.base.get? b=some o→s.heap.get? b=some o:=fun b o e=>(I.bs b o e).1
theorem Inv.mod (I:Inv X pins σ H s):Mod X.K X.mg X.base:=I.ok.mod
theorem Inv.kIn (I:Inv X pins σ H s):X.K.In s.heap:=I.ok.mod.kin.keeps I.bk
theorem Inv.nolimit (I:Inv X pins σ H s):s.heap.NoLimit:=I.ok.mod.nolimit.keeps I.bk
theorem Inv.fr (I:Inv X pins σ H s):∃ m,Fr X.base X.env.locals s.heap m :=
 let ⟨m,hn,_⟩:=I.loc
 ⟨m,hn,I.bk,Nat.le_trans I.ok.bsz I.ok.above⟩
theorem Inv.lt (I:Inv X pins σ H s):X.env.locals<s.heap.objs.size:=let ⟨_,hn,_⟩:=I.loc;hn.lt
theorem Inv.sz (I:Inv X pins σ H s):X.s₀.heap.objs.size≤s.heap.objs.size:=Nat.le_trans I.ok.above (Nat.le_of_lt I.lt)
theorem Inv.nofs (I:Inv X pins σ H s) {a:Addr} (h:s.heap.objs.size≤a):a ∉ X.fs:=fun hb=>by
 obtain ⟨_,o,ho,_⟩:=I.ok.funs.mem hb
 exact absurd (Nat.lt_of_lt_of_le (Heap.lt_size ho) (Nat.le_trans I.sz h)) (Nat.lt_irrefl _)
theorem Inv.cne (I:Inv X pins σ H s):∀ x c,X.env.cells.lookup x=some c→c≠X.env.locals:=fun x c e z=>by
 obtain ⟨v,o,ho,hd⟩:=I.cell x c e
 obtain ⟨m,⟨o',es,ep,ho',hd',_⟩,_⟩:=I.loc
 rw [z,ho'] at ho;cases ho;rw [hd'] at hd;cases hd
theorem Inv.funs (I:Inv X pins σ H s):s.heap.FunFrames X.base X.outer:=by
 have all:∀ (l:List Env),(∀ b∈frs l,b∈X.fs)→X.s₀.heap.FunFrames X.base l→s.heap.FunFrames X.base l:=by
  intro l
  induction l with
  | nil=>intro _ _;trivial
  | cons env r ih =>
   intro hs hl
   obtain ⟨hk,⟨L,o,hf,hn,ho,hd⟩,hr⟩:=hl
   have hL:L∈X.fs:=hs L (by unfold frs;rw [List.filterMap_cons,hf];exact List.mem_cons_self)
   obtain ⟨sl,e⟩:=I.base.slot L o ho (I.ok.frf L hL) hL fun z=>I.ok.exfs L z hL
   exact ⟨hk,⟨L,_,hf,hn,e,hd⟩,ih (fun b hb=>hs b (by unfold frs;rw [List.filterMap_cons,hf];exact List.mem_cons_of_mem _ hb)) hr⟩
 exact all X.outer (fun _ hb=>hb) I.ok.funs
theorem Inv.stack (I:Inv X pins σ H s):s.heap.FunFrames X.base X.stack:=by
 rcases I.ok.stk with e | ⟨e,hf⟩
 ·rw [e];exact I.funs
 ·rw [e]
  obtain ⟨m,hn,_⟩:=I.loc
  refine .cons (by rw [I.ok.kind];decide) hf hn ?_ I.funs
  exact Heap.get?_none_of_le (Nat.le_trans I.ok.bsz I.ok.above)
theorem Inv.stkSub (I:Inv X pins σ H s):∀ b∈frs X.stack,b∈X.env.locals :: X.fs:=fun b hb=>by
 rcases I.ok.stk with e | ⟨e,hf⟩
 ·rw [e] at hb;exact List.mem_cons_of_mem _ hb
 ·rw [e] at hb
  unfold frs at hb
  rw [List.filterMap_cons,hf] at hb
  exact hb
theorem Inv.stkFree (I:Inv X pins σ H s):∀ b∈frs X.stack,H b=none:=fun b hb=>by
 rcases List.mem_cons.mp (I.stkSub b hb) with e | hb
 ·rw [e];exact I.free
 ·obtain ⟨_,o,ho,_⟩:=I.ok.funs.mem hb
  exact I.base.free b o ho (I.ok.frf b hb) fun z=>I.ok.exfs b z hb
theorem Inv.step {g':Array GenState}{t':Nat}{d':Drawn}{ch:List Addr} (I:Inv X pins σ H s)
  (hch:∀ b∈ch,(b∈X.ex∨X.s₀.heap.objs.size≤b)∧b≠X.env.locals∧(∀ x c,X.env.cells.lookup x=some c→c≠b)∧∀ p∈X.pn ++ pins,p.1≠b)
  (keep:∀ b o,b≠X.env.locals→b ∉ X.fs→b ∉ ch→s.heap.get? b=some o→H b=none→h'.get? b=some o)
  (slot:∀ b o,b≠X.env.locals→b∈X.fs→b ∉ ch→s.heap.get? b=some o→H b=none→∃ sl,h'.get? b=some { o with slots:=sl }) (free:∀ b o,b ∉ ch→s.heap.get? b=some o→H b=none→H' b=none)
  (there:∀ b o,b ∉ ch→s.heap.get? b=some o→∃ o',h'.get? b=some o')
  (tups:∀ b xs,H b=some (.tup xs)→H' b=some (.tup xs)) (frzs:∀ b o u,H b=some (.frz o u)→H' b=some (.frz o u)) (tbls:∀ b ps,H b=some (.tbl ps)→∃ more,H' b=some (.tbl (ps ++ more)))
  (ns:∀ m,s.heap.Ns X.env.locals m→h'.Ns X.env.locals m) (hok:HOk X.prog X.w H' h') (hg:AllBare g') :
  Inv X pins σ H' { s with heap:=h',gens:=g',drawn:=d',toks:=t' }:=by
 have neL:∀ b o,X.s₀.heap.get? b=some o→b≠X.env.locals:=fun b o e=>Nat.ne_of_lt (Nat.lt_of_lt_of_le (Heap.lt_size e) I.ok.above)
 have neC:∀ b o,X.s₀.heap.get? b=some o→b ∉ X.ex→b ∉ ch:=fun b o e hx hb=>by
  rcases (hch b hb).1 with z | z
  ·exact hx z
  ·exact absurd (Nat.lt_of_lt_of_le (Heap.lt_size e) z) (Nat.lt_irrefl _)
 have cellK:∀ x c,X.env.cells.lookup x=some c→∀ v,s.heap.IsCell c v→h'.IsCell c v:=fun x c e v ⟨o,ho,hd⟩=>by
  have nch:c ∉ ch:=fun z=>(hch c z).2.2.1 x c e rfl
  by_cases hc:c∈X.fs
  ·obtain ⟨sl,q⟩:=slot c o (I.cne x c e) hc nch ho (I.freeC x c e)
   exact ⟨_,q,hd⟩
  ·exact ⟨o,keep c o (I.cne x c e) hc nch ho (I.freeC x c e),hd⟩
 refine ⟨I.ok,I.os,hg,⟨fun b o e n hb hx=>?_,fun b o e n hb hx=>?_,fun b o e n hx=>?_,fun b o e hx=>?_,fun b xs e=>tups b xs (I.base.tups b xs e),fun b o xs e=>frzs b o xs (I.base.frzs b o xs e),fun b ps e=>?_⟩,?_,fun x c e=>?_,?_,fun x c e=>?_,fun p hp=>?_,hok,I.len⟩
 ·exact keep b o (neL b o e) hb (neC b o e hx) (I.base.keep b o e n hb hx) (I.base.free b o e n hx)
 ·obtain ⟨sl,e1⟩:=I.base.slot b o e n hb hx
  obtain ⟨sl',e2⟩:=slot b _ (neL b o e) hb (neC b o e hx) e1 (I.base.free b o e n hx)
  exact ⟨sl',e2⟩
 ·obtain ⟨o',e1⟩:=I.base.there b o e hx
  exact free b o' (neC b o e hx) e1 (I.base.free b o e n hx)
 ·obtain ⟨o',e1⟩:=I.base.there b o e hx
  exact there b o' (neC b o e hx) e1
 ·obtain ⟨m1,e1⟩:=I.base.tbls b ps e
  obtain ⟨m2,e2⟩:=tbls b _ e1
  exact ⟨m1 ++ m2,by rw [e2,Array.append_assoc]⟩
 ·obtain ⟨m,hn,hl⟩:=I.loc
  refine ⟨m,ns m hn,fun i x v e1 e2 e3=>?_⟩
  obtain ⟨u,r,l⟩:=hl i x v e1 e2 e3
  refine ⟨u,r,?_⟩
  rcases l with l | ⟨k,c,e,z⟩
  ·exact .inl l
  ·exact .inr ⟨k,c,e,cellK x c e _ z⟩
 ·obtain ⟨v,z⟩:=I.cell x c e
  exact ⟨v,cellK x c e v z⟩
 ·obtain ⟨m,⟨o,_,_,ho,_⟩,_⟩:=I.loc
  exact free _ o (fun z=>(hch _ z).2.1 rfl) ho I.free
 ·obtain ⟨v,o,ho,hd⟩:=I.cell x c e
  exact free c o (fun z=>(hch c z).2.2.1 x c e rfl) ho (I.freeC x c e)
 ·obtain ⟨e,n,ne,nf,d⟩:=I.pin p hp
  have nch:p.1 ∉ ch:=fun z=>(hch p.1 z).2.2.2 p hp rfl
  exact ⟨keep p.1 p.2 ne nf nch e n,free p.1 p.2 nch e n,ne,nf,d⟩
theorem Inv.un {t':Nat} (I:Inv X pins σ H s) (u:Un X.fs [] H H' s.heap h') (hok:HOk X.prog X.w H' h'):Inv X pins σ H' { s with heap:=h',toks:=t' }:=by
 obtain ⟨m,⟨o,es,ep,ho,r⟩,_⟩:=id I.loc
 obtain ⟨sl,hL⟩:=u.any ho I.free (by simp)
 exact I.step (g':=s.gens) (d':=s.drawn) (ch:=[]) (fun _ z=>nomatch z) (fun b o _ hb _ e n=>u.keep b o e n hb (by simp)) (fun b o _ hb _ e n=>u.slot b o e n hb (by simp)) (fun b o _ e n=>u.free b o e n (by simp)) (fun b o _ e=>u.there b o e (by simp)) u.tups u.frzs u.tbls (fun m' hm=>by
  obtain ⟨o',es',ep',ho',r'⟩:=hm
  rw [ho] at ho';cases ho'
  exact ⟨_,es',ep',hL,r'⟩) hok I.bare
theorem Inv.call {g':Array GenState}{t':Nat}{d':Drawn}{ch:List Addr} (I:Inv X pins σ H s) (u:Un (frs X.stack) ch H H' s.heap h') (hok:HOk X.prog X.w H' h') (hg:AllBare g')
  (hch:∀ b∈ch,(b∈X.ex∨X.s₀.heap.objs.size≤b)∧b≠X.env.locals∧(∀ x c,X.env.cells.lookup x=some c→c≠b)∧∀ p∈X.pn ++ pins,p.1≠b) :
  Inv X pins σ H' { s with heap:=h',gens:=g',drawn:=d',toks:=t' }:=by
 obtain ⟨m,⟨o,es,ep,ho,r⟩,_⟩:=id I.loc
 obtain ⟨sl,hL⟩:=u.any ho I.free fun z=>(hch _ z).2.1 rfl
 exact I.step (ch:=ch) hch (fun b o hL hb hc e n=>u.keep b o e n (fun z=>(List.mem_cons.mp (I.stkSub b z)).elim hL hb) hc) (fun b o _ _ hc e n=>u.any e n hc) (fun b o hc e n=>u.free b o e n hc) (fun b o hc e=>u.there b o e hc) u.tups u.frzs u.tbls (fun m' hm=>by
  obtain ⟨o',es',ep',ho',r'⟩:=hm
  rw [ho] at ho';cases ho'
  exact ⟨_,es',ep',hL,r'⟩) hok hg
theorem Inv.turned {t':Nat}{it:Addr} (I:Inv X pins σ H s) (k:∀ b o,b≠it→s.heap.get? b=some o→h'.get? b=some o) (hn:H it=none) (hL:it≠X.env.locals)
  (h1:it∈X.ex∨X.s₀.heap.objs.size≤it) (h2:∀ x c,X.env.cells.lookup x=some c→c≠it) (h3:∀ p∈X.pn ++ pins,p.1≠it):Inv X pins σ H { s with heap:=h',toks:=t' }:=by
 have nit:∀ b u,H b=some u→b≠it:=fun b u e z=>by rw [z,hn] at e;cases e
 refine I.step (g':=s.gens) (d':=s.drawn) (ch:=[it]) (fun b hb=>?_) (fun b o _ _ hc e _=>k b o (fun z=>hc (by simp [z])) e) (fun b o _ _ hc e _=>⟨o.slots,k b o (fun z=>hc (by simp [z])) e⟩) (fun _ _ _ _ n=>n)
  (fun b o hc e=>⟨o,k b o (fun z=>hc (by simp [z])) e⟩) (fun _ _ e=>e) (fun _ _ _ e=>e) (fun b ps e=>⟨#[],by rw [e];simp⟩) (fun m hm=>?_) (fun b u e=>?_) I.bare
 ·have e:b=it:=by simpa using hb
  subst e
  exact ⟨h1,hL,h2,h3⟩
 ·obtain ⟨o,es,ep,ho,r⟩:=hm
  exact ⟨o,es,ep,k _ o (Ne.symm hL) ho,r⟩
 ·refine (I.hok b u e).stay (fun c v hc q=>k c v ?_ q) (fun _ q=>q) fun _ _ q=>q
  rcases hc with z | z
  ·rw [z];exact nit b u e
  ·exact nit c _ z
theorem Inv.tok (I:Inv X pins σ H s) (t:Nat):Inv X pins σ H { s with toks:=t }:=I.un (h':=s.heap) (t':=t) Un.refl I.hok
theorem Inv.kept {t':Nat} (I:Inv X pins σ H s) (k:∀ b u,s.heap.get? b=some u→h'.get? b=some u):Inv X pins σ H { s with heap:=h',toks:=t' }:=I.un (Un.kept k) (I.hok.kept k)
theorem Inv.laid {a:Addr}{o:HO}{t':Nat} (I:Inv X pins σ H s) (k:∀ b u,s.heap.get? b=some u→h'.get? b=some u) (hp:s.heap.objs.size≤a) (new:ObjOk X.prog X.w (upd H a o) h' a o) :
  Inv X pins σ (upd H a o) { s with heap:=h',toks:=t' }:=I.un (Un.laid k hp (I.hok.fresh hp)) (I.hok.laid k hp new)
theorem Inv.write {x e:Addr}{o:HO}{t':Nat} (I:Inv X pins σ H s) (mu:Mut (H x)) (he:e=x∨H e=some (.own x)) (k:∀ b u,b≠e→s.heap.get? b=some u→h'.get? b=some u) (heo:∃ u,h'.get? e=some u)
  (new:ObjOk X.prog X.w (upd H x o) h' x o):Inv X pins σ (upd H x o) { s with heap:=h',toks:=t' }:=I.un (Un.write mu he k heo) (I.hok.write mu he k heo new)
theorem Inv.pins_of {pins':List (Addr × Obj)} (I:Inv X pins σ H s) (h:∀ p∈pins',s.heap.get? p.1=some p.2∧H p.1=none∧p.1≠X.env.locals∧p.1 ∉ X.fs∧∀ v,p.2.data≠.cell v):Inv X pins' σ H s :=
 ⟨I.ok,I.os,I.bare,I.base,I.loc,I.cell,I.free,I.freeC,fun p hp=>(List.mem_append.mp hp).elim (fun z=>I.pin p (List.mem_append_left _ z)) (h p),I.hok,I.len⟩
theorem nodup_ix {N:List Str} (hN:N.Nodup) {i j:Nat}{x:Str} (a:N[i]? = some x) (b:N[j]? = some x):i=j:=by
 obtain ⟨h1,e1⟩:=List.getElem?_eq_some_iff.mp a
 obtain ⟨h2,e2⟩:=List.getElem?_eq_some_iff.mp b
 exact (List.getElem_inj hN).mp (e1.trans e2.symm)
theorem store_ok2 {M:Model}{A:Around}{E:Value→Shared→Prop}{i:Nat}{x:Str}{v:V}{u:Value}{Q:Unit→Shared→Prop} (I:Inv X pins σ H s) (hN:X.N.Nodup) (hi:X.N[i]? = some x) (hx:Loc X.env.scope x) (r:RelV v u)
  (h:∀ s',Inv X pins (σ.set i (some v)) H s'→(∃ a,Heap.SameBut a s.heap s'.heap∧(a=X.env.locals∨X.env.cells.lookup x=some a))→Q () s') (hf:X.fn x=true∨X.env.scope.names.lookup x=some .local:=by first | exact .inl rfl | exact .inr rfl | assumption):wpAny M A (storeName X.env x u) Q E s:=by
 obtain ⟨m,hn,hl⟩:=id I.loc
 have hcls:(X.env.scope.kind == .class || (X.env.scope.kind == .module && X.env.locals != X.env.globals))=false:=by rw [I.ok.kind];rfl
 have hiσ:i<σ.length:=by rw [I.len];exact (List.getElem?_eq_some_iff.mp hi).1
 have cne:=I.cne
 have tracked:∀ {a:Addr}{h':Heap},(∃ o,s.heap.get? a=some o∧H a=none)→Heap.SameBut a s.heap h'→HOk X.prog X.w H h':=fun {a h'} ha hs b ob e=>by
  obtain ⟨_,_,hfree⟩:=ha
  refine (I.hok b ob e).stay (fun c w' hc q=>(hs.2 c ?_).trans q) (fun _ q=>q) fun _ _ q=>q
  rintro rfl
  rcases hc with rfl | hc
  ·rw [hfree] at e;cases e
  ·rw [hfree] at hc;cases hc
 rcases hx with hk | hk
 ·refine wpAny_storeName_local hk hn (fun h' hn' hs=>?_) hcls
  obtain ⟨oL,_,_,hoL,_⟩:=id hn
  refine h _ ⟨I.ok,I.os,I.bare,⟨fun b o e n hb hx=>?_,fun b o e n hb hx=>?_,I.base.free,fun b o e hx=>?_,I.base.tups,I.base.frzs,I.base.tbls⟩,⟨_,hn',fun j y v' e1 e2 e3=>?_⟩,fun y c e=>?_,I.free,I.freeC,fun p hp=>?_,tracked ⟨oL,hoL,I.free⟩ hs,by simpa using I.len⟩ ⟨_,hs,.inl rfl⟩
  ·exact (hs.2 b (Nat.ne_of_lt (Nat.lt_of_lt_of_le (Heap.lt_size e) I.ok.above))).trans (I.base.keep b o e n hb hx)
  ·obtain ⟨sl,e1⟩:=I.base.slot b o e n hb hx
   exact ⟨sl,(hs.2 b (Nat.ne_of_lt (Nat.lt_of_lt_of_le (Heap.lt_size e) I.ok.above))).trans e1⟩
  ·obtain ⟨o',e1⟩:=I.base.there b o e hx
   exact ⟨o',(hs.2 b (Nat.ne_of_lt (Nat.lt_of_lt_of_le (Heap.lt_size e) I.ok.above))).trans e1⟩
  ·by_cases hj:j=i
   ·subst hj
    rw [hi] at e1;cases e1
    rw [List.getElem?_set_self hiσ] at e2
    cases e2
    exact ⟨u,r,.inl ⟨hk,by simp⟩⟩
   ·rw [List.getElem?_set_ne (Ne.symm hj)] at e2
    obtain ⟨u',r',q⟩:=hl j y v' e1 e2 e3
    refine ⟨u',r',?_⟩
    rcases q with ⟨k,e⟩ | ⟨k,c,e,z⟩
    ·refine .inl ⟨k,?_⟩
     have:y≠x:=fun e=>hj (nodup_ix hN e1 (e ▸ hi))
     simp [this,e]
    ·exact .inr ⟨k,c,e,z.sameBut hs (cne y c e)⟩
  ·obtain ⟨w',z⟩:=I.cell y c e
   exact ⟨w',z.sameBut hs (cne y c e)⟩
  ·obtain ⟨e,n,ne,nf,d⟩:=I.pin p hp
   exact ⟨(hs.2 p.1 ne).trans e,n,ne,nf,d⟩
 ·have hfn:X.fn x=true:=by
   rcases hf with z | z
   ·exact z
   ·rw [z] at hk;cases hk
  obtain ⟨c,hc⟩:=I.ok.has x (.inl hk)
  obtain ⟨w',z⟩:=I.cell x c hc
  refine wpAny_storeName_cell I.ok.kind hk hc z (fun h' hc' hs=>?_)
  obtain ⟨oc,hoc,hocd⟩:=id z
  refine h { s with heap:=h' } ⟨I.ok,I.os,I.bare,⟨fun b o e n hb hx=>?_,fun b o e n hb hx=>?_,I.base.free,fun b o e hx=>?_,I.base.tups,I.base.frzs,I.base.tbls⟩,⟨m,hn.sameBut hs (Ne.symm (cne x c hc)),fun j y v' e1 e2 e3=>?_⟩,fun y c' e=>?_,I.free,I.freeC,fun p hp=>?_,tracked ⟨oc,hoc,I.freeC x c hc⟩ hs,by simpa using I.len⟩ ⟨c,hs,.inr hc⟩
  ·exact (hs.2 b (Nat.ne_of_lt (Nat.lt_of_lt_of_le (Heap.lt_size e) (I.ok.cab x c hfn hc)))).trans (I.base.keep b o e n hb hx)
  ·obtain ⟨sl,e1⟩:=I.base.slot b o e n hb hx
   exact ⟨sl,(hs.2 b (Nat.ne_of_lt (Nat.lt_of_lt_of_le (Heap.lt_size e) (I.ok.cab x c hfn hc)))).trans e1⟩
  ·obtain ⟨o',e1⟩:=I.base.there b o e hx
   exact ⟨o',(hs.2 b (Nat.ne_of_lt (Nat.lt_of_lt_of_le (Heap.lt_size e) (I.ok.cab x c hfn hc)))).trans e1⟩
  ·by_cases hj:j=i
   ·subst hj
    rw [hi] at e1;cases e1
    rw [List.getElem?_set_self hiσ] at e2
    cases e2
    exact ⟨u,r,.inr ⟨.inl hk,c,hc,hc'⟩⟩
   ·rw [List.getElem?_set_ne (Ne.symm hj)] at e2
    obtain ⟨u',r',q⟩:=hl j y v' e1 e2 e3
    refine ⟨u',r',?_⟩
    rcases q with q | ⟨k,c',e,z'⟩
    ·exact .inl q
    ·refine .inr ⟨k,c',e,z'.sameBut hs ?_⟩
     rintro rfl
     exact hj (nodup_ix hN e1 (I.ok.inj _ _ _ e hc ▸ hi))
  ·by_cases hcc:c'=c
   ·subst hcc;exact ⟨_,hc'⟩
   ·obtain ⟨w2,z2⟩:=I.cell y c' e
    exact ⟨w2,z2.sameBut hs hcc⟩
  ·obtain ⟨e,n,ne,nf,d⟩:=I.pin p hp
   refine ⟨(hs.2 p.1 ?_).trans e,n,ne,nf,d⟩
   intro q
   rw [q,hoc] at e
   have q':oc=p.2:=Option.some.inj e
   exact d w' (by rw [← q'];exact hocd)
theorem store_ok {M:Model}{A:Around}{E:Value→Shared→Prop}{i:Nat}{x:Str}{v:V}{u:Value}{Q:Unit→Shared→Prop} (I:Inv X pins σ H s) (hN:X.N.Nodup) (hi:X.N[i]? = some x) (hx:Loc X.env.scope x) (r:RelV v u)
  (h:∀ s',Inv X pins (σ.set i (some v)) H s'→Q () s') (hf:X.fn x=true∨X.env.scope.names.lookup x=some .local:=by first | exact .inl rfl | exact .inr rfl | assumption):wpAny M A (storeName X.env x u) Q E s :=
 store_ok2 I hN hi hx r (fun s' I' _=>h s' I') hf
theorem Inv.call' {s':Shared}{ch:List Addr} (I:Inv X pins σ H s) (ho:s'.os=s.os) (u:Un (frs X.stack) ch H H' s.heap s'.heap) (hok:HOk X.prog X.w H' s'.heap) (hg:AllBare s'.gens)
  (hch:∀ b∈ch,(b∈X.ex∨X.s₀.heap.objs.size≤b)∧b≠X.env.locals∧(∀ x c,X.env.cells.lookup x=some c→c≠b)∧∀ p∈X.pn ++ pins,p.1≠b):Inv X pins σ H' s':=by
 obtain ⟨h',g',d',t',o'⟩:=s'
 have e:o'=s.os:=ho
 subst e
 exact I.call (g':=g') (t':=t') (d':=d') u hok hg hch
end
abbrev XK:=Value→Option Addr→Hp→Prop
abbrev St:=List (Option V)
abbrev VK:=V→Hp→Prop
abbrev TE:=St→Hp→VK→Prop
abbrev TT:=St→Hp→(Bool→Hp→Prop)→Prop
abbrev TA:=St→Hp→(List V→Hp→Prop)→Prop
structure Ends where
 nx:St→Hp→Prop
 rt:VK
 bk:St→Hp→Prop:=fun _ _=>False
 ct:St→Hp→Prop:=fun _ _=>False
abbrev TS:=Ends→St→Hp→Prop
def EP (X:Cx) (pins:List (Addr × Obj)) (σ:St) (Q:VK) (u:Value) (s':Shared):Prop:=∃ v H',Inv X pins σ H' s'∧RelV v u∧Q v H'
def TP (X:Cx) (pins:List (Addr × Obj)) (σ:St) (Q:Bool→Hp→Prop) (b:Bool) (s':Shared):Prop:=∃ H',Inv X pins σ H' s'∧Q b H'
def AP (X:Cx) (pins:List (Addr × Obj)) (σ:St) (Q:List V→Hp→Prop) (us:List Value) (s':Shared):Prop:=∃ vs H',Inv X pins σ H' s'∧Vals vs us∧Q vs H'
def SP (X:Cx) (pins:List (Addr × Obj)) (D:Ends) (f:Flow) (s':Shared):Prop :=
 match f with
 | .next=>∃ σ' H',Inv X pins σ' H' s'∧D.nx σ' H'
 | .brk=>∃ σ' H',Inv X pins σ' H' s'∧D.bk σ' H'
 | .cont=>∃ σ' H',Inv X pins σ' H' s'∧D.ct σ' H'
 | .ret u=>∃ v σ' H',Inv X pins σ' H' s'∧RelV v u∧D.rt v H'
def PE (X:Cx) (e:Expr) (t:TE):Prop :=
 ∀ (pins:List (Addr × Obj)) (s:Shared) (σ:St) (H:Hp) (Q:VK),Inv X pins σ H s→t σ H Q→wpAny (model X.prog X.w) X.A (eval e X.env) (EP X pins σ Q) X.xe s
def PT (X:Cx) (e:Expr) (t:TT):Prop :=
 ∀ (pins:List (Addr × Obj)) (s:Shared) (σ:St) (H:Hp) (Q:Bool→Hp→Prop),Inv X pins σ H s→t σ H Q→wpAny (model X.prog X.w) X.A (isTrue e X.env (eval e X.env)) (TP X pins σ Q) X.xe s
def PW (X:Cx) (e:Expr) (t:TT):Prop :=
 ∀ (whole:Sem Value) (pins:List (Addr × Obj)) (s:Shared) (σ:St) (H:Hp) (Q:Bool→Hp→Prop),Inv X pins σ H s→t σ H Q→wpAny (model X.prog X.w) X.A (isTrue e X.env whole) (TP X pins σ Q) X.xe s
theorem PW.pt {X:Cx}{e:Expr}{t:TT} (h:PW X e t):PT X e t:=h _
def PA (X:Cx) (es:List Expr) (t:TA):Prop :=
 ∀ (pos:Pos) (pins:List (Addr × Obj)) (s:Shared) (σ:St) (H:Hp) (Q:List V→Hp→Prop),Inv X pins σ H s→t σ H Q→wpAny (model X.prog X.w) X.A (spliced (backTo pos (starEach es X.env))) (AP X pins σ Q) X.xe s
def PS (X:Cx) (st:Stmt) (t:TS):Prop :=
 ∀ (pins:List (Addr × Obj)) (s:Shared) (σ:St) (H:Hp) (D:Ends),Inv X pins σ H s→t D σ H→wpAny (model X.prog X.w) X.A (exec st X.env) (SP X pins D) X.xe s
def PSs (X:Cx) (st:List Stmt) (t:TS):Prop :=
 ∀ (pins:List (Addr × Obj)) (s:Shared) (σ:St) (H:Hp) (D:Ends),Inv X pins σ H s→t D σ H→wpAny (model X.prog X.w) X.A (execs st X.env) (SP X pins D) X.xe s
theorem thn {α:Type}{t:Sem α}{Q Q':α→Shared→Prop}{M:Model}{A:Around}{E:Value→Shared→Prop}{s:Shared} (h:wpAny M A t Q E s) (hQ:∀ a s,Q a s→Q' a s):wpAny M A t Q' E s:=wpAny_mono h hQ fun _ _ x=>x
section
variable {X:Cx}
theorem bin {a b:Expr}{ta tb:TE} (ha:PE X a ta) (hb:PE X b tb) {pins:List (Addr × Obj)}{s:Shared}{σ:St}{H:Hp}{R:V→V→Hp→Prop} (I:Inv X pins σ H s) (h:ta σ H fun x H1=>tb σ H1 fun y H2=>R x y H2)
  {α:Type}{Q:α→Shared→Prop}{f:Value→Value→Sem α}
  (hf:∀ v u s2 x y H2,Inv X pins σ H2 s2→RelV x v→RelV y u→R x y H2→wpAny (model X.prog X.w) X.A (f v u) Q X.xe s2) :
  wpAny (model X.prog X.w) X.A (eval a X.env) (fun v s₁=>wpAny (model X.prog X.w) X.A (eval b X.env) (fun u s₂=>wpAny (model X.prog X.w) X.A (f v u) Q X.xe s₂) X.xe s₁) X.xe s:=by
 refine thn (ha pins s σ H _ I h) fun v s1 ⟨x,H1,I1,r1,q1⟩=>?_
 refine thn (hb pins s1 σ H1 _ I1 q1) fun u s2 ⟨y,H2,I2,r2,q2⟩=>?_
 exact hf v u s2 x y H2 I2 r1 r2 q2
def tVar (i:Nat):TE:=fun σ H Q=>∃ v,σ[i]? = some (some v)∧Q v H
def tC (v:V):TE:=fun _ H Q=>Q v H
theorem pe_var {i:Nat}{x:Str}{pos:Pos} (hN:X.N[i]? = some x) (hv:Vis X.env.scope x) (hd:(x == ("__debug__" : Str))=false:=by decide) (hcd:(x == ("__classdict__" : Str))=false:=by decide):PE X (.Name x pos) (tVar i):=by
 intro pins s σ H Q I h
 obtain ⟨v,e,h⟩:=h
 obtain ⟨m,hn,hl⟩:=I.loc
 obtain ⟨u,r,l⟩:=hl i x v hN e hv
 have fin:EP X pins σ Q u s:=⟨v,H,I,r,h⟩
 rcases l with ⟨hk,hm⟩ | ⟨hk,c,hc,hcell⟩
 ·exact wpAny_Name (wpAny_loadName_local I.ok.kind hk hn hm fin) hd
 ·rcases hk with hk | hk
  ·exact wpAny_Name (wpAny_loadName_cell I.ok.kind hk hc hcell fin) hd
  ·exact wpAny_Name (wpAny_loadName_free I.ok.kind hk hc hcell fin hcd) hd
theorem pe_int {i j pos}:PE X (.Constant (.int i) j pos) (tC (.int i)):=fun _ _ _ H _ I h=>wpAny_Constant_int ⟨.int i,H,I.tok _,⟨_,rfl⟩,h⟩
theorem pe_bl {b j pos}:PE X (.Constant (.bool b) j pos) (tC (.bl b)):=fun _ _ _ H _ I h=>Constant_bool ⟨.bl b,H,I,rfl,h⟩
theorem pe_non {j pos}:PE X (.Constant .none j pos) (tC .non):=fun _ _ _ H _ I h=>Constant_none ⟨.non,H,I,rfl,h⟩
theorem pe_str {x j pos}:PE X (.Constant (.str x) j pos) (tC (.str x)):=fun _ _ _ H _ I h=>Calls.Constant_str ⟨.str x,H,I.tok _,⟨_,rfl⟩,h⟩
def Gl (X:Cx) (x:Str):Prop:=X.env.kindOf x=some .globalImplicit
theorem ld_glob {E:Value→Shared→Prop}{pins:List (Addr × Obj)}{s:Shared}{σ:St}{H:Hp}{x:Str}{u:Value}{pos:Pos}{Q:Value→Shared→Prop} (I:Inv X pins σ H s) (hg:Gl X x) (hm:X.mg x=some u) (h:Q u s)
  (hd:(x == ("__debug__" : Str))=false:=by decide):wpAny (model X.prog X.w) X.A (eval (.Name x pos) X.env) Q E s :=
 Calls.Name_function_global I.ok.kind hg (Calls.loadGlobal_global (by rw [I.ok.glob];exact I.mod.glob.keeps I.bk) hm h) hd
theorem ld_blt {E:Value→Shared→Prop}{pins:List (Addr × Obj)}{s:Shared}{σ:St}{H:Hp}{x:Str}{u:Value}{pos:Pos}{Q:Value→Shared→Prop} (I:Inv X pins σ H s) (hg:Gl X x) (hm:X.mg x=none) (hv:bootBuiltins x=some u) (h:Q u s)
  (hn:x ≠ "__name__":=by decide) (hd:(x == ("__debug__" : Str))=false:=by decide):wpAny (model X.prog X.w) X.A (eval (.Name x pos) X.env) Q E s:=by
 obtain ⟨mb,h1,h2⟩:=I.mod.blt
 exact Calls.Name_function_global I.ok.kind hg (Calls.loadGlobal_builtin (by rw [I.ok.glob];exact I.mod.glob.keeps I.bk) hm (by rw [I.ok.blt];exact h1.keeps I.bk) ((h2 x hn).trans hv) h) hd
theorem pe_bltn {x:Str}{v:V}{u:Value}{pos:Pos} (hg:Gl X x) (hm:X.mg x=none) (hv:bootBuiltins x=some u) (r:RelV v u) (hn:x ≠ "__name__":=by decide) (hd:(x == ("__debug__" : Str))=false:=by decide):PE X (.Name x pos) (tC v) :=
 fun _ _ _ H _ I h=>ld_blt I hg hm hv ⟨v,H,I,r,h⟩ hn hd
variable {a b:Expr}{ta tb:TE}{pos:Pos}
def PC (X:Cx) (op:CmpOp) (a b:Expr) (t:TE):Prop :=
 ∀ (pins:List (Addr × Obj)) (s:Shared) (σ:St) (H:Hp) (Q:VK),Inv X pins σ H s→t σ H Q →
  wpAny (model X.prog X.w) X.A (eval a X.env) (fun v s₁=>wpAny (model X.prog X.w) X.A (eval b X.env) (fun u s₂=>wpAny (model X.prog X.w) X.A (compareOp op v u) (EP X pins σ Q) X.xe s₂) X.xe s₁) X.xe s
theorem nobehind (b:Expr) {op:CmpOp} (h:op≠.In) (h2:op≠.NotIn):behindInMarks op b=false:=by
 have e1:(op == CmpOp.In)=false:=by cases op <;> first | rfl | exact absurd rfl h
 have e2:(op == CmpOp.NotIn)=false:=by cases op <;> first | rfl | exact absurd rfl h2
 cases b <;> simp [behindInMarks,e1,e2]
def tB (t:TE):TT:=fun σ H Q=>t σ H fun x H1=>∃ c,x=.bl c∧Q c H1
theorem pt_cmp {op:CmpOp}{t:TE} (h:PC X op a b t) (h1:behindInMarks op b=false:=by first | exact nobehind _ (by decide) (by decide) | rfl):PT X (.Compare a [op] [b] pos) (tB t):=by
 intro pins s σ H Q I hw
 refine wpAny_isTrue_Compare1 (thn (h pins s σ H _ I hw) fun v s1 h1=>thn h1 fun u s2 h2=>thn h2 fun c s3 ⟨x,H1,I1,r1,q1⟩=>?_) h1
 obtain ⟨d,rfl,q⟩:=q1
 cases r1
 exact wpAny_truthy_bool ⟨H1,I1,q⟩
variable {tA tB':TT}{rest:List Expr}
def tAnd (t u:TT):TT:=fun σ H Q=>t σ H fun c H1=>if c=true then u σ H1 Q else Q false H1
def tOr (t u:TT):TT:=fun σ H Q=>t σ H fun c H1=>if c=true then Q true H1 else u σ H1 Q
def tNot (t:TT):TT:=fun σ H Q=>t σ H fun c H1=>Q (!c) H1
theorem pw_and1 (ha:PT X a tA):PW X (.BoolOp .And [a] pos) tA:=by
 intro wh pins s σ H Q I h
 refine isTrue_and (thn (ha pins s σ H Q I h) fun c s1 e=>?_)
 cases c with
 | true=>exact isTrue_and_nil e
 | false=>exact e
theorem pw_or1 (ha:PT X a tA):PW X (.BoolOp .Or [a] pos) tA:=by
 intro wh pins s σ H Q I h
 refine isTrue_or (thn (ha pins s σ H Q I h) fun c s1 e=>?_)
 cases c with
 | false=>exact isTrue_or_nil e
 | true=>exact e
theorem pw_and (ha:PT X a tA) (hb:PW X (.BoolOp .And (b :: rest) pos) tB'):PW X (.BoolOp .And (a :: b :: rest) pos) (tAnd tA tB'):=by
 intro wh pins s σ H Q I h
 refine isTrue_and (thn (ha pins s σ H _ I h) fun c s1 ⟨H1,I1,q1⟩=>?_)
 cases c with
 | true=>exact hb wh pins s1 σ H1 Q I1 q1
 | false=>exact ⟨H1,I1,q1⟩
theorem pw_or (ha:PT X a tA) (hb:PW X (.BoolOp .Or (b :: rest) pos) tB'):PW X (.BoolOp .Or (a :: b :: rest) pos) (tOr tA tB'):=by
 intro wh pins s σ H Q I h
 refine isTrue_or (thn (ha pins s σ H _ I h) fun c s1 ⟨H1,I1,q1⟩=>?_)
 cases c with
 | true=>exact ⟨H1,I1,q1⟩
 | false=>exact hb wh pins s1 σ H1 Q I1 q1
theorem pt_not (ha:PT X a tA):PT X (.UnaryOp .Not a pos) (tNot tA):=by
 intro pins s σ H Q I h
 exact isTrue_not (ha pins s σ H (fun c H1=>Q (!c) H1) I h)
def tAndV (ta tb:TE):TE:=fun σ H Q=>ta σ H fun x H1=>∃ c,x=.bl c∧if c=true then tb σ H1 Q else Q (.bl false) H1
def tOrV (ta tb:TE):TE:=fun σ H Q=>ta σ H fun x H1=>∃ c,x=.bl c∧if c=true then Q (.bl true) H1 else tb σ H1 Q
def tNotV (ta:TE):TE:=fun σ H Q=>ta σ H fun x H1=>∃ c,x=.bl c∧Q (.bl (!c)) H1
theorem pe_one {op}{t:TE} (h:PE X a t):PE X (.BoolOp op [a] pos) t:=fun pins s σ H Q I hw=>BoolOp_one (h pins s σ H Q I hw)
theorem pe_and (ha:PE X a ta) (hb:PE X (.BoolOp .And (b :: rest) pos) tb):PE X (.BoolOp .And (a :: b :: rest) pos) (tAndV ta tb):=by
 intro pins s σ H Q I h
 refine BoolOp_and (thn (ha pins s σ H _ I h) fun v s1 ⟨x,H1,I1,r1,q1⟩=>?_)
 obtain ⟨c,rfl,q1⟩:=q1
 cases r1
 refine wpAny_truthy_bool ?_
 cases c with
 | true=>exact hb pins s1 σ H1 Q I1 q1
 | false=>exact ⟨.bl false,H1,I1,rfl,q1⟩
theorem pe_or (ha:PE X a ta) (hb:PE X (.BoolOp .Or (b :: rest) pos) tb):PE X (.BoolOp .Or (a :: b :: rest) pos) (tOrV ta tb):=by
 intro pins s σ H Q I h
 refine BoolOp_or (thn (ha pins s σ H _ I h) fun v s1 ⟨x,H1,I1,r1,q1⟩=>?_)
 obtain ⟨c,rfl,q1⟩:=q1
 cases r1
 refine wpAny_truthy_bool ?_
 cases c with
 | false=>exact hb pins s1 σ H1 Q I1 q1
 | true=>exact ⟨.bl true,H1,I1,rfl,q1⟩
theorem pe_not (ha:PE X a ta):PE X (.UnaryOp .Not a pos) (tNotV ta):=by
 intro pins s σ H Q I h
 refine UnaryOp_ (thn (ha pins s σ H _ I h) fun v s1 ⟨x,H1,I1,r1,q1⟩=>?_)
 obtain ⟨c,rfl,q1⟩:=q1
 cases r1
 exact not_of (wpAny_truthy_bool ⟨.bl (!c),H1,I1,rfl,q1⟩)
def tIf (t:TT) (ta tb:TE):TE:=fun σ H Q=>t σ H fun c H1=>if c=true then ta σ H1 Q else tb σ H1 Q
theorem pe_ifExp {c:Expr} (hc:PT X c tA) (ha:PE X a ta) (hb:PE X b tb):PE X (.IfExp c a b pos) (tIf tA ta tb):=by
 intro pins s σ H Q I h
 refine wpAny_IfExp (thn (hc pins s σ H _ I h) fun d s1 ⟨H1,I1,q1⟩=>?_)
 cases d with
 | true=>exact ha pins s1 σ H1 Q I1 q1
 | false=>exact hb pins s1 σ H1 Q I1 q1
end
def SqL (K:PySem.W.Frag) (H:Hp) (a:Addr) (xs:List V):Prop :=
 Rd H a (.lst xs) ∨
  ∃ (o:Obj) (its:Array Value) (n:Nat),K.lookup a=some o∧o.cls=.type "list" ∧ o.dict=none∧o.data=.seq its n∧its.size≤sizeLine∧Vals xs its.toList
def SqT (K:PySem.W.Frag) (H:Hp) (a:Addr) (xs:List V):Prop :=
 Rd H a (.tup xs) ∨
  ∃ (o:Obj) (its:Array Value) (n:Nat),K.lookup a=some o∧o.cls=.type "tuple" ∧ o.data=.seq its n∧its.size≤sizeLine∧Vals xs its.toList
def absV:Value→Option V
 | .none=>some .non
 | .bool b=>some (.bl b)
 | .int i _=>some (.int i)
 | .str x _=>some (.str x)
 | .bytes b _=>some (.byt b)
 | .float b _=>some (.flt b)
 | .ref a=>some (.ref a)
 | .type n=>some (.ty n)
 | _=>none
theorem RelV.abs {x:V}{u:Value} (r:RelV x u):absV u=some x:=by
 cases x with
 | non=>cases r;rfl
 | bl _=>cases r;rfl
 | int _=>obtain ⟨t,rfl⟩:=r;rfl
 | str _=>obtain ⟨t,rfl⟩:=r;rfl
 | byt _=>obtain ⟨t,rfl⟩:=r;rfl
 | flt _=>obtain ⟨t,rfl⟩:=r;rfl
 | ref _=>cases r;rfl
 | ty _=>cases r;rfl
theorem RelV.inj {x y:V}{u:Value} (r:RelV x u) (q:RelV y u):x=y:=Option.some.inj (r.abs.symm.trans q.abs)
theorem Vals.inj:∀ {xs ys:List V}{us:List Value},Vals xs us→Vals ys us→xs=ys
 | _,_,_,.nil,.nil=>rfl
 | _,_,_,.cons r t,.cons r' t'=>by rw [r.inj r',Vals.inj t t']
section
variable {X:Cx}{pins:List (Addr × Obj)}{σ:St}{H:Hp}{s:Shared}{a:Addr}{xs ys:List V}
theorem SqL.of {K:PySem.W.Frag} (h:H a=some (.lst xs)):SqL K H a xs:=.inl (.inl h)
theorem SqT.of {K:PySem.W.Frag} (h:H a=some (.tup xs)):SqT K H a xs:=.inl (.inl h)
theorem Inv.list (I:Inv X pins σ H s) (h:SqL X.K H a xs):∃ its:List Value,Vals xs its∧PlainL s.heap a its.toArray∧xs.length≤sizeLine:=by
 rcases h with h | ⟨o,its,n,hk,hc,hd,hs,hz,r⟩
 ·obtain ⟨z,its,n,r,e⟩:=h.ok I.hok
  exact ⟨its,r,⟨_,n,e,rfl,rfl,rfl⟩,z⟩
 ·refine ⟨its.toList,r,⟨o,n,I.kIn a o hk,hc,hd,by simpa using hs⟩,?_⟩
  have e:=r.length
  simp only [Array.length_toList] at e
  omega
theorem Inv.tuple (I:Inv X pins σ H s) (h:SqT X.K H a xs):∃ its:List Value,Vals xs its∧IsTup s.heap a its.toArray∧xs.length≤sizeLine:=by
 rcases h with h | ⟨o,its,n,hk,hc,hs,hz,r⟩
 ·obtain ⟨z,its,r,p⟩:=h.ok I.hok
  exact ⟨its,r,p,z⟩
 ·refine ⟨its.toList,r,⟨o,I.kIn a o hk,hc,n,by simpa using hs⟩,?_⟩
  have e:=r.length
  simp only [Array.length_toList] at e
  omega
theorem Inv.list_inj (I:Inv X pins σ H s) (h:SqL X.K H a xs) (h':SqL X.K H a ys):xs=ys:=by
 obtain ⟨its,r,⟨o,n,e,_,_,d⟩,_⟩:=I.list h
 obtain ⟨its',r',⟨o',n',e',_,_,d'⟩,_⟩:=I.list h'
 rw [e] at e';cases e'
 rw [d] at d'
 injection d' with d1 _
 have:its=its':=by simpa using congrArg Array.toList d1
 subst this
 exact r.inj r'
end
abbrev Cx.wish (X:Cx) (E:Value→Shared→Prop):Cx:={ X with xe:=E }
abbrev Cx.nox (X:Cx):Cx:=X.wish fun _ _=>False
theorem Cx.Ok.wish {X:Cx} (ok:X.Ok) (E:Value→Shared→Prop):(X.wish E).Ok :=
 ⟨ok.mod,ok.kind,ok.glob,ok.blt,ok.above,ok.inj,ok.has,ok.cab,ok.hd,ok.frames,ok.stk,ok.exf,ok.bs,ok.bsz,ok.noex,ok.exfs,ok.funs,ok.frf⟩
theorem Cx.Ok.unwish {X:Cx}{E:Value→Shared→Prop} (ok:(X.wish E).Ok):X.Ok :=
 ⟨ok.mod,ok.kind,ok.glob,ok.blt,ok.above,ok.inj,ok.has,ok.cab,ok.hd,ok.frames,ok.stk,ok.exf,ok.bs,ok.bsz,ok.noex,ok.exfs,ok.funs,ok.frf⟩
section
variable {X:Cx}{pins:List (Addr × Obj)}{σ:St}{H:Hp}{s:Shared}{E:Value→Shared→Prop}
theorem Inv.wish (I:Inv X pins σ H s) (E:Value→Shared→Prop):Inv (X.wish E) pins σ H s:=⟨I.ok.wish E,I.os,I.bare,I.base,I.loc,I.cell,I.free,I.freeC,I.pin,I.hok,I.len⟩
theorem Inv.unwish (I:Inv (X.wish E) pins σ H s):Inv X pins σ H s:=⟨I.ok.unwish,I.os,I.bare,I.base,I.loc,I.cell,I.free,I.freeC,I.pin,I.hok,I.len⟩
theorem SP.unwish {D:Ends}{f:Flow}{s':Shared} (h:SP (X.wish E) pins D f s'):SP X pins D f s':=by
 cases f with
 | next=>obtain ⟨σ',H',I,q⟩:=h;exact ⟨σ',H',I.unwish,q⟩
 | brk=>obtain ⟨σ',H',I,q⟩:=h;exact ⟨σ',H',I.unwish,q⟩
 | cont=>obtain ⟨σ',H',I,q⟩:=h;exact ⟨σ',H',I.unwish,q⟩
 | ret u=>obtain ⟨v,σ',H',I,r,q⟩:=h;exact ⟨v,σ',H',I.unwish,r,q⟩
theorem PSs.nox {st:List Stmt}{t:TS} (h:PSs X.nox st t):PSs X st t:=fun pins s σ H D I hw =>
 wpAny_mono (h pins s σ H D (I.wish _) hw) (fun _ _ q=>q.unwish) fun _ _ z=>False.elim z
end
section
variable {X:Cx}{st:Stmt}{rest:List Stmt}{t u:TS}{e:Expr}{te:TE}{pos:Pos}
def tNext:TS:=fun D σ H=>D.nx σ H
def tSeq (t u:TS):TS:=fun D σ H=>t { D with nx:=u D } σ H
theorem pss_nil:PSs X [] tNext:=fun _ _ σ H _ I h=>wpAny_execs_nil ⟨σ,H,I,h⟩
theorem pss_cons (h1:PS X st t) (h2:PSs X rest u):PSs X (st :: rest) (tSeq t u):=by
 intro pins s σ H D I h
 refine wpAny_execs_cons (thn (h1 pins s σ H { D with nx:=u D } I h) fun f s1 q=>?_)
 cases f with
 | next =>
  obtain ⟨σ',H',I',q⟩:=q
  exact h2 pins s1 σ' H' D I' q
 | ret v=>exact q
 | brk=>exact q
 | cont=>exact q
theorem pss_one (h1:PS X st t):PSs X [st] t:=by
 intro pins s σ H D I h
 refine wpAny_execs_cons (thn (h1 pins s σ H D I h) fun f s1 q=>?_)
 cases f with
 | next=>exact wpAny_execs_nil q
 | ret v=>exact q
 | brk=>exact q
 | cont=>exact q
theorem Inv.quiet {pins:List (Addr × Obj)}{σ:St}{H:Hp}{s:Shared} (I:Inv X pins σ H s):interactive X.env=false:=by simp [interactive,I.ok.kind]
def tDrop (te:TE):TS:=fun D σ H=>te σ H fun _ H1=>D.nx σ H1
theorem ps_expr (he:PE X e te) (hs:swapsWith e none pos.line X.env=pure false:=by rfl):PS X (.Expr e pos) (tDrop te):=by
 intro pins s σ H D I h
 exact wpAny_Expr_any (thn (he pins s σ H _ I h) fun v s1 ⟨x,H1,I1,r1,q1⟩=>⟨σ,H1,I1,q1⟩) I.quiet hs
def tRet (te:TE):TS:=fun D σ H=>te σ H D.rt
theorem ps_ret (he:PE X e te):PS X (.Return (some e) pos) (tRet te):=by
 intro pins s σ H D I h
 exact wpAny_Return_some (thn (he pins s σ H _ I h) fun v s1 ⟨x,H1,I1,r1,q1⟩=>⟨x,σ,H1,I1,r1,q1⟩)
def tIfS (c:TT) (t u:TS):TS:=fun D σ H=>c σ H fun b H1=>if b=true then t D σ H1 else u D σ H1
theorem ps_if {c:Expr}{a b:List Stmt}{tc:TT} (hc:PT X c tc) (ha:PSs X a t) (hb:PSs X b u):PS X (.If c a b pos) (tIfS tc t u):=by
 intro pins s σ H D I h
 refine wpAny_If (thn (hc pins s σ H _ I h) fun d s1 ⟨H1,I1,q1⟩=>?_)
 cases d with
 | true=>exact ha pins s1 σ H1 D I1 q1
 | false=>exact hb pins s1 σ H1 D I1 q1
end
abbrev TG:=V→St→Hp→(St→Hp→Prop)→Prop
abbrev TGs:=List V→St→Hp→(St→Hp→Prop)→Prop
def PG (X:Cx) (target:Expr) (t:TG):Prop :=
 ∀ (pins:List (Addr × Obj)) (s:Shared) (σ:St) (H:Hp) (v:V) (u:Value) (Q:St→Hp→Prop),Inv X pins σ H s→RelV v u→t v σ H Q →
  wpAny (model X.prog X.w) X.A (assign target X.env u) (fun _ s'=>∃ σ' H',Inv X pins σ' H' s'∧Q σ' H') X.xe s
def PGs (X:Cx) (ts:List Expr) (t:TGs):Prop :=
 ∀ (pins:List (Addr × Obj)) (s:Shared) (σ:St) (H:Hp) (vs:List V) (us:List Value) (Q:St→Hp→Prop),Inv X pins σ H s→Vals vs us→t vs σ H Q →
  wpAny (model X.prog X.w) X.A (assignInOrder ((assignEach ts X.env).map (·.2)) us) (fun _ s'=>∃ σ' H',Inv X pins σ' H' s'∧Q σ' H') X.xe s
abbrev TSet:=V→V→V→Hp→(Hp→Prop)→Prop
def PSet (X:Cx) (t:TSet):Prop :=
 ∀ (pins:List (Addr × Obj)) (s:Shared) (σ:St) (H:Hp) (o i v:V) (ov iv u:Value) (Q:Hp→Prop),Inv X pins σ H s→RelV o ov→RelV i iv→RelV v u→t o i v H Q →
  wpAny (model X.prog X.w) X.A (setItem ov iv u) (fun _ s'=>∃ H',Inv X pins σ H' s'∧Q H') X.xe s
abbrev TIp:=V→V→Hp→VK→Prop
def PIp (X:Cx) (op:Operator) (t:TIp):Prop :=
 ∀ (pins:List (Addr × Obj)) (s:Shared) (σ:St) (H:Hp) (x y:V) (v u:Value) (Q:VK),Inv X pins σ H s→RelV x v→RelV y u→t x y H Q →
  wpAny (model X.prog X.w) X.A (inplaceOp op v u) (EP X pins σ Q) X.xe s
section
variable {X:Cx}{pos:Pos}
def gName (i:Nat):TG:=fun v σ H Q=>Q (σ.set i (some v)) H
theorem pg_name {i:Nat}{x:Str} (hN:X.N.Nodup) (hi:X.N[i]? = some x) (hx:Loc X.env.scope x) (hf:X.fn x=true∨X.env.scope.names.lookup x=some .local:=by first | exact .inl rfl | exact .inr rfl | assumption):PG X (.Name x pos) (gName i):=by
 intro pins s σ H v u Q I r h
 exact wpAny_assign_Name (store_ok I hN hi hx r (fun s' I'=>⟨_,H,I',h⟩) hf)
def gNil:TGs:=fun vs σ H Q=>vs=[]∧Q σ H
def gCons (t:TG) (u:TGs):TGs:=fun vs σ H Q=>∃ v r,vs=v :: r∧t v σ H fun σ' H'=>u r σ' H' Q
theorem pgs_nil:PGs X [] gNil:=by
 intro pins s σ H vs us Q I r h
 obtain ⟨e,h⟩:=h
 subst e
 cases r
 exact assignInOrder_nil ⟨σ,H,I,h⟩
theorem pgs_cons {e:Expr}{es:List Expr}{t:TG}{u:TGs} (h1:PG X e t) (h2:PGs X es u)
  (hs:(assignEach (e :: es) X.env).map (·.2)=assign e X.env :: (assignEach es X.env).map (·.2):=by rfl):PGs X (e :: es) (gCons t u):=by
 intro pins s σ H vs us Q I r h
 obtain ⟨v,vr,e1,h⟩:=h
 subst e1
 cases r with
 | cons r rr =>
  rw [hs]
  refine assignInOrder_cons (thn (h1 pins s σ H _ _ _ I r h) fun _ s1 ⟨σ1,H1,I1,q1⟩=>?_)
  exact h2 pins s1 σ1 H1 _ _ Q I1 rr q1
def gTup (K:PySem.W.Frag) (n:Nat) (t:TGs):TG:=fun v σ H Q=>∃ a xs,v=.ref a∧SqT K H a xs∧xs.length=n∧t xs σ H Q
theorem pg_tup {es:List Expr}{k:Nat}{t:TGs}{n:Nat} (hc:X.calm=true) (h:PGs X es t)
  (hn:(assignEach es X.env).length=n:=by rfl) (hst:(assignEach es X.env).findIdx? (·.1)=none:=by rfl):PG X (.Tuple es k pos) (gTup X.K n t):=by
 intro pins s σ H v u Q I r hw
 obtain ⟨a,xs,e1,hq,hl,hw⟩:=hw
 subst e1
 cases r
 obtain ⟨its,rv,ht,hz⟩:=I.tuple hq
 refine assign_Tuple_tuple (I.ok.hd hc) ht (by simp [hn,← hl,rv.length]) hst fun h' hx=>?_
 have I1:Inv X pins σ H { s with heap:=h' }:=I.kept (t':=s.toks) fun b o e=>hx b o (Nat.ne_of_lt (Heap.lt_size e)) e
 exact h pins _ σ H xs _ Q I1 (by simpa using rv) hw
def gSub (to ti:TE) (t:TSet):TG:=fun v σ H Q=>to σ H fun o H1=>ti σ H1 fun i H2=>t o i v H2 fun H3=>Q σ H3
theorem pg_sub {o i:Expr}{to ti:TE}{t:TSet} (ho:PE X o to) (hi:PE X i ti) (hs:PSet X t)
  (ha:∀ v,assign (.Subscript o i pos) X.env v=(do
   let ov ← holding [v] (eval o X.env)
   let iv ← holding [v,ov] (eval i X.env)
   standAt pos
   holding [v,ov,iv] (setItem ov iv v)
   release [v,ov,iv] []):=by intro _;rfl):PG X (.Subscript o i pos) (gSub to ti t):=by
 intro pins s σ H v u Q I r h
 rw [ha]
 refine wpAny_bind (wpAny_holding (thn (ho pins s σ H _ I h) fun ov s1 ⟨x,H1,I1,r1,q1⟩=>?_))
 refine wpAny_bind (wpAny_holding (thn (hi pins s1 σ H1 _ I1 q1) fun iv s2 ⟨y,H2,I2,r2,q2⟩=>?_))
 refine wpAny_bind (wpAny_standAt (wpAny_bind (wpAny_holding (thn (hs pins s2 σ H2 x y v ov iv u _ I2 r1 r2 r q2) fun _ s3 ⟨H3,I3,q3⟩=>?_))))
 exact wpAny_release ⟨σ,H3,I3,q3⟩
def tAsg (te:TE) (g:TG):TS:=fun D σ H=>te σ H fun x H1=>g x σ H1 D.nx
theorem ps_asg {tg e:Expr}{te:TE}{g:TG} (he:PE X e te) (hg:PG X tg g) (hs:swapsWithSole [tg] e pos.line X.env=pure false:=by rfl) (hw:swappedStores [tg] e X.env=pure none:=by rfl)
  (h1:(assignEach [tg] X.env).map (·.2)=[assign tg X.env]:=by rfl):PS X (.Assign [tg] e pos) (tAsg te g):=by
 intro pins s σ H D I h
 refine wpAny_Assign_stores (thn (he pins s σ H _ I h) fun v s1 ⟨x,H1,I1,r1,q1⟩=>?_) hs hw
 rw [h1]
 exact thn (hg pins s1 σ H1 x v _ I1 r1 q1) fun _ s2 q=>q
theorem ps_set {i:Nat}{x:Str}{e:Expr}{te:TE}{pos':Pos} (hN:X.N.Nodup) (hi:X.N[i]? = some x) (hx:Loc X.env.scope x) (he:PE X e te) (hs:swapsWith e (some (.Name x pos')) pos.line X.env=pure false:=by rfl) (hf:X.fn x=true∨X.env.scope.names.lookup x=some .local:=by first | exact .inl rfl | exact .inr rfl | assumption) :
  PS X (.Assign [.Name x pos'] e pos) (tAsg te (gName i)):=by
 intro pins s σ H D I h
 refine wpAny_Assign_Name (thn (he pins s σ H _ I h) fun v s1 ⟨y,H1,I1,r1,q1⟩=>?_) hs
 exact store_ok I1 hN hi hx r1 (fun s2 I2=>⟨_,H1,I2,q1⟩) hf
end
section
variable {X:Cx}{pos:Pos}
def tWhile (c:TT) (tb:TS):TS:=fun D σ H=>∃ W:Nat→St→Hp→Prop,(∃ m,W m σ H)∧∀ m σ H,W m σ H →
 c σ H fun b H1=>if b=true then ∃ N:St→Hp→Prop,(∀ σ' H',N σ' H'→∃ m',m'<m∧W m' σ' H')∧tb { D with nx:=N,ct:=N,bk:=D.nx } σ H1 else D.nx σ H1
theorem ps_while {c:Expr}{body:List Stmt}{tc:TT}{tb:TS} (hp:PassesOwn (model X.prog X.w) X.A X.env X.xe) (hc:PT X c tc) (hb:PSs X body tb):PS X (.While c body [] pos) (tWhile tc tb):=by
 intro pins s σ H D I h
 obtain ⟨W,⟨m0,w0⟩,turn⟩:=h
 refine wpAny_While (codeAny_whileLoop (fun n s'=>∃ σ' H',Inv X pins σ' H' s'∧W n σ' H') ?_ m0 ⟨σ,H,I,w0⟩)
 rintro n s1 ⟨σ1,H1,I1,w1⟩
 refine wpAny_passesOwn hp (thn (hc pins s1 σ1 H1 _ I1 (turn n σ1 H1 w1)) fun b s2 ⟨H2,I2,q2⟩=>?_)
 cases b with
 | true =>
  obtain ⟨N,hN,q2⟩:=q2
  rw [if_pos rfl]
  refine wpAny_passesOwn hp (thn (hb pins s2 σ1 H2 _ I2 q2) fun f s3 q3=>?_)
  cases f with
  | next =>
   obtain ⟨σ3,H3,I3,n3⟩:=q3
   obtain ⟨m',hm,w3⟩:=hN σ3 H3 n3
   exact ⟨m',hm,σ3,H3,I3,w3⟩
  | cont =>
   obtain ⟨σ3,H3,I3,n3⟩:=q3
   obtain ⟨m',hm,w3⟩:=hN σ3 H3 n3
   exact ⟨m',hm,σ3,H3,I3,w3⟩
  | brk=>exact q3
  | ret v=>exact q3
 | false =>
  rw [if_neg Bool.false_ne_true]
  exact wpAny_execs_nil ⟨σ1,H2,I2,q2⟩
end
structure It where
 go:Nat→Hp→Prop
 yld:Nat→Hp→V→Hp→Prop
 stop:Nat→Hp→Prop
def FpOk (X:Cx) (pins:List (Addr × Obj)) (H:Hp) (b:Addr):Prop :=
 H b=none∧b≠X.env.locals∧b ∉ X.fs∧(b∈X.ex∨X.s₀.heap.objs.size≤b)∧(∀ x c,X.env.cells.lookup x=some c→c≠b)∧∀ p∈X.pn ++ pins,p.1≠b
theorem Inv.fpOk {X:Cx}{pins:List (Addr × Obj)}{σ:St}{H H':Hp}{s:Shared}{b:Addr} (I:Inv X pins σ H s) (hb:s.heap.objs.size≤b) (hn:H' b=none):FpOk X pins H' b:=by
 refine ⟨hn,Nat.ne_of_gt (Nat.lt_of_lt_of_le I.lt hb),I.nofs hb,.inr (Nat.le_trans I.sz hb),fun x c e z=>?_,fun p hp z=>?_⟩
 ·obtain ⟨v,q⟩:=I.cell x c e
  exact absurd (Nat.lt_of_lt_of_le q.lt (by rw [z];exact hb)) (Nat.lt_irrefl _)
 ·exact absurd (Nat.lt_of_lt_of_le (Heap.lt_size (I.pin p hp).1) (by rw [z];exact hb)) (Nat.lt_irrefl _)
structure Turn (P:Program) (w:World) (K:PySem.W.Frag) (tg:Expr) (J:It) (fp:List Addr) (it:Addr) (tn:Nat→Heap→Prop):Prop where
 mem:it∈fp
 obj:∀ i h,tn i h→∀ b∈fp,∃ o,h.get? b=some o∧∀ v,o.data≠.cell v
 keep:∀ i h h',tn i h→(∀ b∈fp,∀ o,h.get? b=some o→h'.get? b=some o)→tn i h'
 item:∀ (X:Cx),X.prog=P→X.w=w→X.K=K→X.calm=true→∀ (i:Nat) (pins:List (Addr × Obj)) (s:Shared) (σ:St) (H:Hp) (E:Value→Shared→Prop),Inv X pins σ H s→(∀ b∈fp,FpOk X pins H b)→tn i s.heap→J.go i H →
  wpAny (model P w) X.A (pyNext (.ref it)) (fun r s1=>∃ u,r=some u ∧
   wpAny (model P w) X.A (letOwnedTupleGo tg (.ref it) u) (fun _ s2=>∃ x H',Inv X pins σ H' s2∧RelV x u∧J.yld i H x H'∧tn (i+1) s2.heap∧∀ b∈fp,H' b=none) E s1) E s
 done:∀ (X:Cx),X.prog=P→X.w=w→X.K=K→X.calm=true→∀ (i:Nat) (pins:List (Addr × Obj)) (s:Shared) (σ:St) (H:Hp) (E:Value→Shared→Prop),Inv X pins σ H s→(∀ b∈fp,FpOk X pins H b)→tn i s.heap→J.stop i H →
  wpAny (model P w) X.A (pyNext (.ref it)) (fun r s1=>r=none∧Inv X pins σ H s1) E s
 self:∀ (A:Around) (i:Nat) (s:Shared) (Q:Value→Shared→Prop) (E:Value→Shared→Prop),tn i s.heap→Q (.ref it) s→wpAny (model P w) A (pyIter (.ref it)) Q E s
abbrev TI:=St→Hp→(It→Hp→Prop)→Prop
def PIE (X:Cx) (pins:List (Addr × Obj)) (σ:St) (tg:Expr) (R:It→Hp→Prop) (itv:Value) (s2:Shared):Prop :=
 ∃ (it:Addr) (fp:List Addr) (tn:Nat→Heap→Prop) (J:It) (H':Hp),itv=.ref it∧Inv X pins σ H' s2∧Turn X.prog X.w X.K tg J fp it tn∧tn 0 s2.heap∧(∀ b∈fp,FpOk X pins H' b)∧R J H'
def PI (X:Cx) (tg iter:Expr) (wi:TI):Prop :=
 ∀ (pins:List (Addr × Obj)) (s:Shared) (σ:St) (H:Hp) (R:It→Hp→Prop),Inv X pins σ H s→wi σ H R →
  wpAny (model X.prog X.w) X.A (eval iter X.env) (fun v s1=>wpAny (model X.prog X.w) X.A (pyIter v) (PIE X pins σ tg R) X.xe s1) X.xe s
theorem go_of {M:Model}{A:Around}{E:Value→Shared→Prop}{s:Shared}{tg:Expr}{it:Addr}{u:Value}{o:Obj}{n:String}{vs:Array Value}{Q:Unit→Shared→Prop} (ho:s.heap.get? it=some o) (hc:o.cls=.type n) (hd:o.data=.fields vs)
    (hn:["enumerate","zip","dict_itemiterator","dict_reverseitemiterator","odict_iterator","itertools.zip_longest","itertools.pairwise"].contains n=false) (hQ:Q () s):wpAny M A (letOwnedTupleGo tg (.ref it) u) Q E s:=by
  unfold letOwnedTupleGo
  cases tg <;> first
    | exact wpAny_pure hQ
    | (cases u <;> first
        | exact wpAny_pure hQ
        | (refine wpAny_bind (wpAny_load ho ?_)
           rw [hc,hd]
           show wpAny M A (if (["enumerate","zip","dict_itemiterator","dict_reverseitemiterator","odict_iterator","itertools.zip_longest","itertools.pairwise"].contains n && vs[0]? == some (rawInt _))=true then _ else _) Q E s
           rw [if_neg (by intro h;rw [hn,Bool.false_and] at h;cases h)]
           exact wpAny_pure hQ))
def Itl (K:PySem.W.Frag) (a:Addr):It :=
 ⟨fun i H=>∃ xs x,SqL K H a xs∧xs[i]? = some x,fun i H x H'=>H'=H∧∀ xs,SqL K H a xs→xs[i]? = some x,fun i H=>∃ xs,SqL K H a xs∧xs.length≤i⟩
def Itr (lo:Int) (n:Nat):It:=⟨fun i _=>i<n,fun i H x H'=>H'=H∧x=.int (lo+i),fun i _=>n≤i⟩
theorem turn_list {P:Program}{w:World}{K:PySem.W.Frag}{tg:Expr} (a it:Addr):Turn P w K tg (Itl K a) [it] it (fun i h=>h.IsListIter it a i) where
 mem:=by simp
 obj:=fun i h st b hb=>by
  have e:b=it:=by simpa using hb
  subst e
  obtain ⟨o,e,c,d⟩:=st
  exact ⟨o,e,fun v z=>by rw [d] at z;cases z⟩
 keep:=fun i h h' st k=>st.at fun o e=>k it (by simp) o e
 item:=by
  intro X hP hw hK hc i pins s σ H E I hf st hg
  subst hP hw hK
  obtain ⟨xs,x,hq,hx⟩:=hg
  obtain ⟨its,rv,p,hz⟩:=I.list hq
  obtain ⟨u,hu,ru⟩:=rv.get hx
  obtain ⟨f0,f1,f2,f3,f4,f5⟩:=hf it (by simp)
  refine wpAny_pyNext_list_item st p.isList (x:=u) (by simpa using hu) fun h' st' sb=>?_
  have I1:Inv X pins σ H { s with heap:=h' }:=I.turned (t':=s.toks) (fun b o hb e=>(sb.2 b hb).trans e) f0 f1 f3 f4 f5
  obtain ⟨o,e,c,d⟩:=id st'
  exact ⟨u,rfl,go_of (s:={ s with heap:=h' }) e c d (by decide) ⟨x,H,I1,ru,⟨rfl,fun ys hy=>by rw [I.list_inj hy hq];exact hx⟩,st',fun b hb=>(hf b hb).1⟩⟩
 done:=by
  intro X hP hw hK hc i pins s σ H E I hf st hg
  subst hP hw hK
  obtain ⟨xs,hq,hx⟩:=hg
  obtain ⟨its,rv,p,hz⟩:=I.list hq
  obtain ⟨f0,f1,f2,f3,f4,f5⟩:=hf it (by simp)
  have hl:=rv.length
  exact wpAny_pyNext_list_end (I.ok.hd hc) st p.isList (by simp;omega) fun h' eb=>⟨rfl,I.turned (t':=s.toks) (fun b o hb e=>eb b o hb e) f0 f1 f3 f4 f5⟩
 self:=fun _ _ _ _ _ st h=>wpAny_pyIter_listiter st h
theorem turn_range {P:Program}{w:World}{K:PySem.W.Frag}{tg:Expr} (it:Addr) (lo:Int) (n:Nat):Turn P w K tg (Itr lo n) [it] it (fun i h=>IsRangeIter h it (lo+(i:Nat) * 1) ((n:Int) - (i:Nat)) 1) where
 mem:=by simp
 obj:=fun i h st b hb=>by
  have e:b=it:=by simpa using hb
  subst e
  exact ⟨_,st,fun v z=>by
   have z':Data.fields _=Data.cell v:=z
   cases z'⟩
 keep:=fun i h h' st k=>k it (by simp) _ st
 item:=by
  intro X hP hw hK hc i pins s σ H E I hf st hg
  subst hP hw hK
  obtain ⟨f0,f1,f2,f3,f4,f5⟩:=hf it (by simp)
  have W:=Walks.range (prog:=X.prog) (w:=X.w) (I.ok.hd hc) it lo 1 n
  refine W.item i s _ _ hg st fun v h' tk hv st' kk=>?_
  obtain ⟨t,rfl⟩:=hv
  have I1:Inv X pins σ H { s with heap:=h',toks:=tk }:=I.turned (fun b o hb e=>kk b o (by simpa using hb) e) f0 f1 f3 f4 f5
  refine ⟨_,rfl,go_of (s:={ s with heap:=h',toks:=tk }) (n:="range_iterator") st' rfl rfl (by decide) ⟨.int (lo+i),H,I1,⟨t,?_⟩,⟨rfl,rfl⟩,st',fun b hb=>(hf b hb).1⟩⟩
  rw [Int.mul_one]
 done:=by
  intro X hP hw hK hc i pins s σ H E I hf st hg
  subst hP hw hK
  obtain ⟨f0,f1,f2,f3,f4,f5⟩:=hf it (by simp)
  exact wpAny_pyNext_range_end (I.ok.hd hc) st (by have:n≤i:=hg;omega) fun h' eb=>⟨rfl,I.turned (t':=s.toks) (fun b o hb e=>eb b o hb e) f0 f1 f3 f4 f5⟩
 self:=fun _ _ _ _ _ st h=>wpAny_pyIter_rangeiter st h
section
variable {X:Cx}{tg:Expr}
def iList (K:PySem.W.Frag) (tl:TE):TI:=fun σ H R=>tl σ H fun x H1=>∃ a,x=.ref a∧(∃ xs,SqL K H1 a xs)∧R (Itl K a) H1
theorem pi_list {l:Expr}{tl:TE} (hl:PE X l tl):PI X tg l (iList X.K tl):=by
 intro pins s σ H R I h
 refine thn (hl pins s σ H _ I h) fun v s1 ⟨x,H1,I1,r1,q1⟩=>?_
 obtain ⟨a,e,⟨xs,hq⟩,q⟩:=q1
 subst e
 cases r1
 obtain ⟨its,rv,p,hz⟩:=I1.list hq
 refine wpAny_pyIter_list p.isList ?_
 refine ⟨s1.heap.objs.size,[s1.heap.objs.size],_,_,H1,rfl,I1.kept (t':=s1.toks) fun b o e=>Heap.get?_push_of_some _ e,turn_list a _,⟨_,Heap.get?_push_size _ rfl,rfl,rfl⟩,fun b hb=>?_,q⟩
 have e:b=s1.heap.objs.size:=by simpa using hb
 subst e
 exact I1.fpOk (Nat.le_refl _) (I1.hok.fresh (Nat.le_refl _))
theorem range_it {pins:List (Addr × Obj)}{σ:St}{H:Hp}{s:Shared}{R:It→Hp→Prop}{E:Value→Shared→Prop}{lo hi:Int}{t u v:Tok}{tk:Nat} (I:Inv X pins σ H s) (h1 : -(2 ^ 62)≤lo) (h2:lo<2 ^ 62) (h3 : -(2 ^ 62)≤hi) (h4:hi<2 ^ 62)
  (q:R (Itr lo (hi - lo).toNat) H):wpAny (model X.prog X.w) X.A (pyIter (.ref s.heap.objs.size)) (PIE X pins σ tg R) E { s with heap:=s.heap.push { cls:=.type "range",data:=.fields #[.int lo t,.int hi u,.int 1 v] },toks:=tk }:=by
 refine wpAny_pyIter_range (IsRange.new ..) (small_one h1 h2 h3 h4) ?_
 have I1:Inv X pins σ H { s with heap:=s.heap.push { cls:=.type "range",data:=.fields #[.int lo t,.int hi u,.int 1 v] },toks:=tk }:=I.kept fun b o e=>Heap.get?_push_of_some _ e
 refine ⟨(s.heap.push { cls:=.type "range",data:=.fields #[.int lo t,.int hi u,.int 1 v] }).objs.size,[(s.heap.push { cls:=.type "range",data:=.fields #[.int lo t,.int hi u,.int 1 v] }).objs.size],_,_,H,rfl,
  I1.kept (t':=tk) fun b o e=>Heap.get?_push_of_some _ e,turn_range _ lo (hi - lo).toNat,?_,fun b hb=>?_,q⟩
 ·have e1:lo+((0:Nat):Int) * 1=lo:=by simp
  have e2:(((hi - lo).toNat:Nat):Int) - ((0:Nat):Int)=Builtin.Range.rangeSize lo hi 1:=by rw [rangeSize_one];split <;> omega
  show IsRangeIter _ _ (lo+((0:Nat):Int) * 1) ((((hi - lo).toNat:Nat):Int) - ((0:Nat):Int)) 1
  rw [e1,e2]
  exact Heap.get?_push_size _ rfl
 ·have e:b=(s.heap.push { cls:=.type "range",data:=.fields #[.int lo t,.int hi u,.int 1 v] }).objs.size:=by simpa using hb
  subst e
  exact I1.fpOk (Nat.le_refl _) (I1.hok.fresh (Nat.le_refl _))
def iRng1 (ta:TA):TI:=fun σ H R=>ta σ H fun vs H1=>∃ j:Int,vs=[.int j] ∧ -(2 ^ 62)≤j∧j<2 ^ 62∧R (Itr 0 j.toNat) H1
theorem pi_range1 {a:Expr}{ta:TA}{p pos:Pos} (hg:Gl X "range") (hm:X.mg "range" = none) (ha:PA X [a] ta) (hs:starEach [a] X.env=[(false,eval a X.env)]:=by rfl):PI X tg (.Call (.Name "range" p) [a] [] pos) (iRng1 ta):=by
 intro pins s σ H R I h
 refine Call_ (ld_blt I hg hm boot_range (PyProof.Rows.callWith_type1 (thn (ha pos pins s σ H _ I h) fun us s1 ⟨vs,H1,I1,r1,q1⟩=>?_) hs rfl))
 obtain ⟨j,e,q1,q2,q⟩:=q1
 subst e
 cases r1 with
 | cons r rr =>
  cases rr
  obtain ⟨t,rfl⟩:=r
  exact call_range_1 (range_it I1 (by omega) (by omega) q1 q2 (by simpa using q))
def tFor (wi:TI) (g:TG) (tb:TS):TS:=fun D σ H=>wi σ H fun J H1=>∃ W:Nat→Nat→St→Hp→Prop,(∃ m,W 0 m σ H1)∧∀ i m σ H,W i m σ H →
 (J.stop i H∧D.nx σ H)∨(J.go i H∧∃ N:St→Hp→Prop,(∀ σ' H',N σ' H'→∃ m',m'<m∧W (i+1) m' σ' H')∧∀ x H',J.yld i H x H'→g x σ H' fun σ2 H2=>tb { D with nx:=N,ct:=N,bk:=D.nx } σ2 H2)
def pinsAt (fp:List Addr) (h:Heap):List (Addr × Obj):=fp.filterMap fun b=>(h.get? b).map fun o=>(b,o)
theorem mem_pinsAt {fp:List Addr}{h:Heap}{b:Addr}{o:Obj} (hb:b∈fp) (e:h.get? b=some o):(b,o)∈pinsAt fp h:=List.mem_filterMap.mpr ⟨b,hb,by rw [e];rfl⟩
theorem of_pinsAt {fp:List Addr}{h:Heap}{p:Addr × Obj} (hp:p∈pinsAt fp h):p.1∈fp∧h.get? p.1=some p.2:=by
 obtain ⟨b,hb,e⟩:=List.mem_filterMap.mp hp
 cases q:h.get? b with
 | none=>rw [q] at e;cases e
 | some o =>
  rw [q] at e
  have e':(b,o)=p:=Option.some.inj e
  subst e'
  exact ⟨hb,q⟩
theorem Inv.pinned {pins:List (Addr × Obj)}{σ:St}{H:Hp}{s:Shared}{fp:List Addr} (I:Inv X pins σ H s) (hf:∀ b∈fp,FpOk X pins H b) (ho:∀ b∈fp,∃ o,s.heap.get? b=some o∧∀ v,o.data≠.cell v):Inv X (pins ++ pinsAt fp s.heap) σ H s :=
 I.pins_of fun p hp=>(List.mem_append.mp hp).elim (fun z=>I.pin p (List.mem_append_right _ z)) fun z=>by
  obtain ⟨hb,e⟩:=of_pinsAt z
  obtain ⟨f0,f1,f2,_⟩:=hf p.1 hb
  obtain ⟨o,e',d⟩:=ho p.1 hb
  rw [e] at e';cases e'
  exact ⟨e,f0,f1,f2,d⟩
theorem Inv.unpinned {pins pl:List (Addr × Obj)}{σ:St}{H:Hp}{s:Shared} (I:Inv X (pins ++ pl) σ H s):Inv X pins σ H s:=I.pins_of fun p hp=>I.pin p (List.mem_append_right _ (List.mem_append_left _ hp))
theorem ps_for {iter:Expr}{body:List Stmt}{wi:TI}{g:TG}{tb:TS}{pos:Pos} (hp:PassesOwn (model X.prog X.w) X.A X.env X.xe) (hc:X.calm=true) (hi:PI X tg iter wi) (hg:PG X tg g) (hb:PSs X body tb)
  (hs:∀ x,foldedSetIterable iter X.env x=pure x:=by intro _;rfl):PS X (.For tg iter body [] pos) (tFor wi g tb):=by
 intro pins s σ H D I h
 refine wpAny_For (thn (hi pins s σ H _ I h) fun v s1 h1=>thn h1 fun itv s2 h2=>?_) hs
 obtain ⟨it,fp,tn,J,H2,e,I2,T,st2,f2,W,⟨m0,w0⟩,turn⟩:=h2
 subst e
 -- what stays true of the iterator's objects through the loop
 have stat:∀ {H':Hp},(∀ b∈fp,H' b=none)→∀ b∈fp,FpOk X pins H' b:=fun hn b hb=>⟨hn b hb,(f2 b hb).2⟩
 refine codeAny_forLoop_any (fun n s'=>∃ i σ' H',Inv X pins σ' H' s'∧tn i s'.heap∧(∀ b∈fp,H' b=none)∧W i n σ' H') ?_ m0 ⟨0,σ,H2,I2,st2,fun b hb=>(f2 b hb).1,w0⟩
 rintro n s3 ⟨i,σ3,H3,I3,st3,fr3,w3⟩
 rcases turn i n σ3 H3 w3 with ⟨stop,qn⟩ | ⟨go,N,hN,step⟩
 ·refine wpAny_passesOwn hp (thn (T.done X rfl rfl rfl hc i pins s3 σ3 H3 X.xe I3 (stat fr3) st3 stop) fun r s4 ⟨hr,I4⟩=>?_)
  subst hr
  exact wpAny_execs_nil ⟨σ3,H3,I4,qn⟩
 ·refine wpAny_passesOwn hp (thn (T.item X rfl rfl rfl hc i pins s3 σ3 H3 X.xe I3 (stat fr3) st3 go) fun r s4 ⟨u,hr,h4⟩=>?_)
  subst hr
  refine wpAny_passesOwn hp (thn h4 fun _ s5 ⟨x,H5,I5,r5,y5,st5,fr5⟩=>?_)
  have I5':=I5.pinned (stat fr5) (T.obj _ _ st5)
  refine wpAny_passesOwn hp (thn (hg _ s5 σ3 H5 x u _ I5' r5 (step x H5 y5)) fun _ s6 ⟨σ6,H6,I6,q6⟩=>?_)
  refine wpAny_passesOwn hp (thn (hb _ s6 σ6 H6 _ I6 q6) fun f s7 q7=>?_)
  have again:∀ {σ7:St}{H7:Hp},Inv X (pins ++ pinsAt fp s5.heap) σ7 H7 s7→N σ7 H7→∃ m,m<n∧∃ i σ' H',Inv X pins σ' H' s7∧tn i s7.heap∧(∀ b∈fp,H' b=none)∧W i m σ' H':=fun {σ7 H7} I7 n7=>by
   obtain ⟨m',hm,w7⟩:=hN σ7 H7 n7
   refine ⟨m',hm,i+1,σ7,H7,I7.unpinned,T.keep _ _ _ st5 fun b hb o e=>(I7.pin (b,o) (List.mem_append_right _ (List.mem_append_right _ (mem_pinsAt hb e)))).1,fun b hb=>?_,w7⟩
   obtain ⟨o,e,d⟩:=T.obj _ _ st5 b hb
   exact (I7.pin (b,o) (List.mem_append_right _ (List.mem_append_right _ (mem_pinsAt hb e)))).2.1
  cases f with
  | next=>obtain ⟨σ7,H7,I7,n7⟩:=q7;exact again I7 n7
  | cont=>obtain ⟨σ7,H7,I7,n7⟩:=q7;exact again I7 n7
  | brk=>obtain ⟨σ7,H7,I7,q7⟩:=q7;exact ⟨σ7,H7,I7.unpinned,q7⟩
  | ret v=>obtain ⟨x7,σ7,H7,I7,r7,q7⟩:=q7;exact ⟨x7,σ7,H7,I7.unpinned,r7,q7⟩
end
theorem for_list {K:PySem.W.Frag}{a:Addr}{xs:List V}{g:TG}{tb:TS}{D:Ends}{σ:St}{H:Hp} (Pv:Nat→St→Hp→Prop) (h0:Pv 0 σ H) (hl:∀ i σ H,i≤xs.length→Pv i σ H→SqL K H a xs)
  (hs:∀ i x σ H,xs[i]? = some x→Pv i σ H→g x σ H fun σ2 H2=>tb { D with nx:=Pv (i+1),ct:=Pv (i+1),bk:=D.nx } σ2 H2) (hd:∀ σ H,Pv xs.length σ H→D.nx σ H) :
  ∃ W:Nat→Nat→St→Hp→Prop,(∃ m,W 0 m σ H)∧∀ i m σ H,W i m σ H →
   ((Itl K a).stop i H∧D.nx σ H)∨((Itl K a).go i H∧∃ N:St→Hp→Prop,(∀ σ' H',N σ' H'→∃ m',m'<m∧W (i+1) m' σ' H')∧∀ x H',(Itl K a).yld i H x H'→g x σ H' fun σ2 H2=>tb { D with nx:=N,ct:=N,bk:=D.nx } σ2 H2):=by
 refine ⟨fun i m σ H=>m=xs.length - i∧i≤xs.length∧Pv i σ H,⟨xs.length,by simp,Nat.zero_le _,h0⟩,?_⟩
 rintro i m σ H ⟨rfl,hi,p⟩
 have q:=hl i σ H hi p
 by_cases hlt:i<xs.length
 ·refine .inr ⟨⟨xs,xs[i],q,by simp [hlt]⟩,Pv (i+1),fun σ' H' p'=>⟨xs.length - (i+1),by omega,rfl,hlt,p'⟩,fun x H' y=>?_⟩
  obtain ⟨e,y⟩:=y
  subst e
  exact hs i x σ _ (y xs q) p
 ·have e:i=xs.length:=by omega
  subst e
  exact .inl ⟨⟨xs,q,Nat.le_refl _⟩,hd σ H p⟩
theorem for_range {lo:Int}{n:Nat}{g:TG}{tb:TS}{D:Ends}{σ:St}{H:Hp} (Pv:Nat→St→Hp→Prop) (h0:Pv 0 σ H)
  (hs:∀ i σ H,i<n→Pv i σ H→g (.int (lo+i)) σ H fun σ2 H2=>tb { D with nx:=Pv (i+1),ct:=Pv (i+1),bk:=D.nx } σ2 H2) (hd:∀ σ H,Pv n σ H→D.nx σ H) :
  ∃ W:Nat→Nat→St→Hp→Prop,(∃ m,W 0 m σ H)∧∀ i m σ H,W i m σ H →
   ((Itr lo n).stop i H∧D.nx σ H)∨((Itr lo n).go i H∧∃ N:St→Hp→Prop,(∀ σ' H',N σ' H'→∃ m',m'<m∧W (i+1) m' σ' H')∧∀ x H',(Itr lo n).yld i H x H'→g x σ H' fun σ2 H2=>tb { D with nx:=N,ct:=N,bk:=D.nx } σ2 H2):=by
 refine ⟨fun i m σ H=>m=n - i∧i≤n∧Pv i σ H,⟨n,by simp,Nat.zero_le _,h0⟩,?_⟩
 rintro i m σ H ⟨rfl,hi,p⟩
 by_cases hlt:i<n
 ·refine .inr ⟨hlt,Pv (i+1),fun σ' H' p'=>⟨n - (i+1),by omega,rfl,hlt,p'⟩,fun x H' y=>?_⟩
  obtain ⟨e,y⟩:=y
  subst e y
  exact hs i σ _ hlt p
 ·have e:i=n:=by omega
  subst e
  exact .inl ⟨Nat.le_refl _,hd σ H p⟩
abbrev R2:=V→V→Hp→VK→Prop
def OpR (X:Cx) (f:Value→Value→Sem Value) (r:R2):Prop :=
 ∀ (pins:List (Addr × Obj)) (s:Shared) (σ:St) (H:Hp) (x y:V) (v u:Value) (Q:VK),Inv X pins σ H s→RelV x v→RelV y u→r x y H Q →
  wpAny (model X.prog X.w) X.A (f v u) (EP X pins σ Q) X.xe s
def UnR (X:Cx) (f:Value→Sem Value) (r:V→Hp→VK→Prop):Prop :=
 ∀ (pins:List (Addr × Obj)) (s:Shared) (σ:St) (H:Hp) (x:V) (v:Value) (Q:VK),Inv X pins σ H s→RelV x v→r x H Q →
  wpAny (model X.prog X.w) X.A (f v) (EP X pins σ Q) X.xe s
def CallR (X:Cx) (f:Value) (r:List V→Hp→VK→Prop):Prop :=
 ∀ (pins:List (Addr × Obj)) (s:Shared) (σ:St) (H:Hp) (xs:List V) (us:List Value) (Q:VK),Inv X pins σ H s→Vals xs us→r xs H Q →
  wpAny (model X.prog X.w) X.A (call f us) (EP X pins σ Q) X.xe s
def TruR (X:Cx) (r:V→Hp→(Bool→Hp→Prop)→Prop):Prop :=
 ∀ (pins:List (Addr × Obj)) (s:Shared) (σ:St) (H:Hp) (x:V) (v:Value) (Q:Bool→Hp→Prop),Inv X pins σ H s→RelV x v→r x H Q →
  wpAny (model X.prog X.w) X.A (truthy v) (TP X pins σ Q) X.xe s
def tOp (r:R2) (ta tb:TE):TE:=fun σ H Q=>ta σ H fun x H1=>tb σ H1 fun y H2=>r x y H2 Q
def tUn (r:V→Hp→VK→Prop) (ta:TE):TE:=fun σ H Q=>ta σ H fun x H1=>r x H1 Q
def rI (C:Int→Int→Prop) (g:Int→Int→V):R2:=fun x y H Q=>∃ i j,x=.int i∧y=.int j∧C i j∧Q (g i j) H
def rI0 (g:Int→Int→V):R2:=fun x y H Q=>∃ i j,x=.int i∧y=.int j∧Q (g i j) H
def rU (g:Int→V):V→Hp→VK→Prop:=fun x H Q=>∃ i,x=.int i∧Q (g i) H
section
variable {X:Cx}{a b c:Expr}{ta tb tc:TE}{pos:Pos}
theorem binT (ha:PE X a ta) (hb:PE X b tb) {pins:List (Addr × Obj)}{s:Shared}{σ:St}{H:Hp}{R:V→V→Hp→Prop} (I:Inv X pins σ H s)
  (h:ta σ H fun x H1=>tb σ H1 fun y H2=>R x y H2) {Q:Value→Shared→Prop}{f:Value→Value→Sem Value}
  (hf:∀ v u s2 x y H2,Inv X pins σ H2 s2→RelV x v→RelV y u→R x y H2→wpAny (model X.prog X.w) X.A (f v u) Q X.xe s2) :
  wpAny (model X.prog X.w) X.A (eval a X.env) (fun v s₁=>wpAny (model X.prog X.w) X.A (eval b X.env) (fun u s₂=>wpAny (model X.prog X.w) X.A (f v u) Q X.xe s₂) X.xe s₁) X.xe s:=by
 refine thn (ha pins s σ H _ I h) fun v s1 ⟨x,H1,I1,r1,q1⟩=>?_
 refine thn (hb pins s1 σ H1 _ I1 q1) fun u s2 ⟨y,H2,I2,r2,q2⟩=>?_
 exact hf v u s2 x y H2 I2 r1 r2 q2
theorem pe_op {op:Operator}{r:R2} (ho:OpR X (binaryOp op) r) (ha:PE X a ta) (hb:PE X b tb):PE X (.BinOp a op b pos) (tOp r ta tb):=by
 intro pins s σ H Q I h
 exact wpAny_BinOp (binT ha hb I h fun v u s2 x y H2 I2 rx ry q=>ho pins s2 σ H2 x y v u Q I2 rx ry q)
theorem pe_un {op:UnaryOp}{r:V→Hp→VK→Prop} (ho:UnR X (unaryOp op) r) (ha:PE X a ta):PE X (.UnaryOp op a pos) (tUn r ta):=by
 intro pins s σ H Q I h
 exact UnaryOp_ (thn (ha pins s σ H _ I h) fun v s1 ⟨x,H1,I1,r1,q1⟩=>ho pins s1 σ H1 x v Q I1 r1 q1)
theorem opI {f:Value→Value→Sem Value}{C:Int→Int→Prop}{g:Int→Int→Int}
  (rule:∀ (i j:Int) (t u:Tok) (s:Shared) (Q:Value→Shared→Prop) (E:Value→Shared→Prop),C i j→Q (.int (g i j) s.toks) { s with toks:=s.toks+1 }→wpAny (model X.prog X.w) X.A (f (.int i t) (.int j u)) Q E s) :
  OpR X f (rI C fun i j=>.int (g i j)):=by
 intro pins s σ H x y v u Q I rx ry h
 obtain ⟨i,j,rfl,rfl,hc,q⟩:=h
 obtain ⟨t,rfl⟩:=rx
 obtain ⟨t',rfl⟩:=ry
 exact rule i j t t' s _ _ hc ⟨.int (g i j),H,I.tok _,⟨_,rfl⟩,q⟩
theorem opI0 {f:Value→Value→Sem Value}{g:Int→Int→Int}
  (rule:∀ (i j:Int) (t u:Tok) (s:Shared) (Q:Value→Shared→Prop) (E:Value→Shared→Prop),Q (.int (g i j) s.toks) { s with toks:=s.toks+1 }→wpAny (model X.prog X.w) X.A (f (.int i t) (.int j u)) Q E s) :
  OpR X f (rI0 fun i j=>.int (g i j)):=by
 intro pins s σ H x y v u Q I rx ry h
 obtain ⟨i,j,rfl,rfl,q⟩:=h
 obtain ⟨t,rfl⟩:=rx
 obtain ⟨t',rfl⟩:=ry
 exact rule i j t t' s _ _ ⟨.int (g i j),H,I.tok _,⟨_,rfl⟩,q⟩
theorem opB0 {f:Value→Value→Sem Value}{g:Int→Int→Bool}
  (rule:∀ (i j:Int) (t u:Tok) (s:Shared) (Q:Value→Shared→Prop) (E:Value→Shared→Prop),Q (.bool (g i j)) s→wpAny (model X.prog X.w) X.A (f (.int i t) (.int j u)) Q E s) :
  OpR X f (rI0 fun i j=>.bl (g i j)):=by
 intro pins s σ H x y v u Q I rx ry h
 obtain ⟨i,j,rfl,rfl,q⟩:=h
 obtain ⟨t,rfl⟩:=rx
 obtain ⟨t',rfl⟩:=ry
 exact rule i j t t' s _ _ ⟨.bl (g i j),H,I,rfl,q⟩
def CDiv (i j:Int):Prop:=0<j∧j<1073741824
def CMul (i j:Int):Prop:=(-(2 ^ 64)<i∧i<2 ^ 64)∨(-(2 ^ 64)<j∧j<2 ^ 64)
theorem CMul.ok {i j:Int} (h:CMul i j):IntMulOk i j:=by
 rcases h with ⟨h1,h2⟩ | ⟨h1,h2⟩
 ·exact .of_left (intBits_le_64 h1 h2)
 ·exact .of_right (intBits_le_64 h1 h2)
theorem two_pow_nn (k:Nat):(0:Int)≤2 ^ k:=by
 rw [two_pow_cast]
 exact Int.natCast_nonneg _
theorem op_add:OpR X (binaryOp .Add) (rI0 fun i j=>.int (i+j)):=opI0 fun _ _ _ _ _ _ _ q=>add_int q
theorem op_sub:OpR X (binaryOp .Sub) (rI0 fun i j=>.int (i - j)):=opI0 fun _ _ _ _ _ _ _ q=>sub_int q
theorem op_mul:OpR X (binaryOp .Mult) (rI CMul fun i j=>.int (i * j)):=opI fun _ _ _ _ _ _ _ hc q=>mul_int q hc.ok
theorem op_fdiv:OpR X (binaryOp .FloorDiv) (rI CDiv fun i j=>.int (i / j)):=opI fun i j _ _ _ _ _ hc q=>by
 have h1:(0:Int)<j:=hc.1
 have h2:j<1073741824:=hc.2
 exact floordiv_int (by omega) (by rw [Int.fdiv_eq_ediv_of_nonneg i (by omega)];exact q) (.inl (PyProof.noPylong_small (by omega)))
theorem op_mod:OpR X (binaryOp .Mod) (rI (fun _ j=>0<j) fun i j=>.int (i % j)):=opI fun i j _ _ _ _ _ hc q=>by
 have h1:(0:Int)<j:=hc
 exact mod_int' (by omega) (by rw [Int.fmod_eq_emod_of_nonneg i (by omega)];exact q)
theorem op_shr:OpR X (binaryOp .RShift) (rI (fun _ j=>0≤j) fun i j=>.int (i / 2 ^ j.toNat)):=opI fun i j _ _ _ _ _ hc q =>
 rshift_int hc (by rw [Int.fdiv_eq_ediv_of_nonneg i (two_pow_nn _)];exact q)
theorem op_and:OpR X (binaryOp .BitAnd) (rI0 fun i j=>.int (Builtin.bitAnd i j)):=opI0 fun _ _ _ _ _ _ _ q=>and_int q
theorem unI {f:Value→Sem Value}{g:Int→Int}
  (rule:∀ (i:Int) (t:Tok) (s:Shared) (Q:Value→Shared→Prop) (E:Value→Shared→Prop),Q (.int (g i) s.toks) { s with toks:=s.toks+1 }→wpAny (model X.prog X.w) X.A (f (.int i t)) Q E s) :
  UnR X f (rU fun i=>.int (g i)):=by
 intro pins s σ H x v Q I rx h
 obtain ⟨i,rfl,q⟩:=h
 obtain ⟨t,rfl⟩:=rx
 exact rule i t s _ _ ⟨.int (g i),H,I.tok _,⟨_,rfl⟩,q⟩
theorem un_neg:UnR X (unaryOp .USub) (rU fun i=>.int (-i)):=unI fun _ _ _ _ _ q=>neg_int q
end
def scal:V→V→Bool
 | .non,.non=>true | .non,.int _=>true | .int _,.non=>true | .non,.bl _=>true | .bl _,.non=>true | .non,.str _=>true | .str _,.non=>true
 | .int _,.int _=>true | .bl _,.bl _=>true | .str _,.str _=>true | .byt _,.byt _=>true
 | .int _,.str _=>true | .str _,.int _=>true | .bl _,.str _=>true | .str _,.bl _=>true
 | _,_=>false
def rEq:R2:=fun x y H Q=>scal x y=true∧Q (.bl (decide (x=y))) H
def rNe:R2:=fun x y H Q=>scal x y=true∧Q (.bl (!decide (x=y))) H
theorem dec_int {i j:Int}:decide (V.int i=V.int j)=(i == j):=by
 rw [Bool.eq_iff_iff]
 simp
theorem dec_bl {i j:Bool}:decide (V.bl i=V.bl j)=(i == j):=by
 rw [Bool.eq_iff_iff]
 simp
theorem dec_str {i j:Str}:decide (V.str i=V.str j)=(i == j):=by
 rw [Bool.eq_iff_iff]
 simp
theorem dec_byt {i j:Array UInt8}:decide (V.byt i=V.byt j)=(i.toList == j.toList):=by
 rw [Bool.eq_iff_iff]
 cases i
 cases j
 simp
section
variable {X:Cx}{a b c:Expr}{ta tb tc:TE}{pos:Pos}
theorem fin_bl {pins:List (Addr × Obj)}{σ:St}{H:Hp}{s:Shared}{Q:VK}{k k':Bool} (I:Inv X pins σ H s) (q:Q (.bl k) H) (e:k=k'):EP X pins σ Q (.bool k') s:=by
 subst e
 exact ⟨.bl k,H,I,rfl,q⟩
theorem op_eq:OpR X (compareOp .Eq) rEq:=by
 intro pins s σ H x y v u Q I rx ry h
 obtain ⟨hs,q⟩:=h
 cases x with
 | non =>
  cases rx
  cases y with
  | non=>cases ry;exact PySem.EqNone.eq_none_none (fin_bl I q (by simp))
  | bl j=>cases ry;exact PySem.EqNone.eq_none_bool (fin_bl I q (by simp))
  | int j=>obtain ⟨t',rfl⟩:=ry;exact PySem.EqNone.eq_none_int (fin_bl I q (by simp))
  | str j=>obtain ⟨t',rfl⟩:=ry;exact PySem.EqNone.eq_none_str (fin_bl I q (by simp))
  | _=>exact absurd (show false=true from hs) Bool.false_ne_true
 | bl i =>
  cases rx
  cases y with
  | non=>cases ry;exact PySem.EqNone.eq_bool_none (fin_bl I q (by simp))
  | bl j=>cases ry;exact eq_bool (fin_bl I q dec_bl)
  | str j=>obtain ⟨t',rfl⟩:=ry;exact PySem.EqMixed.eq_bool_str (fin_bl I q (by simp))
  | _=>exact absurd (show false=true from hs) Bool.false_ne_true
 | int i =>
  obtain ⟨t,rfl⟩:=rx
  cases y with
  | non=>cases ry;exact PySem.EqNone.eq_int_none (fin_bl I q (by simp))
  | int j=>obtain ⟨t',rfl⟩:=ry;exact eq_int (fin_bl I q dec_int)
  | str j=>obtain ⟨t',rfl⟩:=ry;exact PySem.EqMixed.eq_int_str (fin_bl I q (by simp))
  | _=>exact absurd (show false=true from hs) Bool.false_ne_true
 | str i =>
  obtain ⟨t,rfl⟩:=rx
  cases y with
  | non=>cases ry;exact PySem.EqNone.eq_str_none (fin_bl I q (by simp))
  | bl j=>cases ry;exact PySem.EqMixed.eq_str_bool (fin_bl I q (by simp))
  | int j=>obtain ⟨t',rfl⟩:=ry;exact PySem.EqMixed.eq_str_int (fin_bl I q (by simp))
  | str j=>obtain ⟨t',rfl⟩:=ry;exact eq_str (fin_bl I q dec_str)
  | _=>exact absurd (show false=true from hs) Bool.false_ne_true
 | byt i =>
  obtain ⟨t,rfl⟩:=rx
  cases y with
  | byt j=>obtain ⟨t',rfl⟩:=ry;exact PySem.W.eq_bytes (fin_bl I q dec_byt)
  | _=>exact absurd (show false=true from hs) Bool.false_ne_true
 | _=>cases y <;> exact absurd (show false=true from hs) Bool.false_ne_true
theorem op_ne:OpR X (compareOp .NotEq) rNe:=by
 intro pins s σ H x y v u Q I rx ry h
 obtain ⟨hs,q⟩:=h
 cases x with
 | non =>
  cases rx
  cases y with
  | non=>cases ry;exact PySem.EqNone.ne_none_none (fin_bl I q (by simp))
  | bl j=>cases ry;exact PySem.EqNone.ne_none_bool (fin_bl I q (by simp))
  | int j=>obtain ⟨t',rfl⟩:=ry;exact PySem.EqNone.ne_none_int (fin_bl I q (by simp))
  | str j=>obtain ⟨t',rfl⟩:=ry;exact PySem.EqNone.ne_none_str (fin_bl I q (by simp))
  | _=>exact absurd (show false=true from hs) Bool.false_ne_true
 | bl i =>
  cases rx
  cases y with
  | non=>cases ry;exact PySem.EqNone.ne_bool_none (fin_bl I q (by simp))
  | bl j=>cases ry;exact ne_bool (fin_bl I q (congrArg not dec_bl))
  | str j=>obtain ⟨t',rfl⟩:=ry;exact PySem.EqMixed.ne_bool_str (fin_bl I q (by simp))
  | _=>exact absurd (show false=true from hs) Bool.false_ne_true
 | int i =>
  obtain ⟨t,rfl⟩:=rx
  cases y with
  | non=>cases ry;exact PySem.EqNone.ne_int_none (fin_bl I q (by simp))
  | int j=>obtain ⟨t',rfl⟩:=ry;exact ne_int (fin_bl I q (congrArg not dec_int))
  | str j=>obtain ⟨t',rfl⟩:=ry;exact PySem.EqMixed.ne_int_str (fin_bl I q (by simp))
  | _=>exact absurd (show false=true from hs) Bool.false_ne_true
 | str i =>
  obtain ⟨t,rfl⟩:=rx
  cases y with
  | non=>cases ry;exact PySem.EqNone.ne_str_none (fin_bl I q (by simp))
  | bl j=>cases ry;exact PySem.EqMixed.ne_str_bool (fin_bl I q (by simp))
  | int j=>obtain ⟨t',rfl⟩:=ry;exact PySem.EqMixed.ne_str_int (fin_bl I q (by simp))
  | str j=>obtain ⟨t',rfl⟩:=ry;exact ne_str (fin_bl I q (congrArg not dec_str))
  | _=>exact absurd (show false=true from hs) Bool.false_ne_true
 | byt i =>
  obtain ⟨t,rfl⟩:=rx
  cases y with
  | byt j=>obtain ⟨t',rfl⟩:=ry;exact PySem.W.ne_bytes (fin_bl I q (congrArg not dec_byt))
  | _=>exact absurd (show false=true from hs) Bool.false_ne_true
 | _=>cases y <;> exact absurd (show false=true from hs) Bool.false_ne_true
theorem op_lt:OpR X (compareOp .Lt) (rI0 fun i j=>.bl (decide (i<j))):=opB0 fun _ _ _ _ _ _ _ q=>lt_int q
theorem op_le:OpR X (compareOp .LtE) (rI0 fun i j=>.bl (decide (i≤j))):=opB0 fun _ _ _ _ _ _ _ q=>le_int q
theorem op_gt:OpR X (compareOp .Gt) (rI0 fun i j=>.bl (decide (j<i))):=opB0 fun _ _ _ _ _ _ _ q=>gt_int q
theorem op_ge:OpR X (compareOp .GtE) (rI0 fun i j=>.bl (decide (j≤i))):=opB0 fun _ _ _ _ _ _ _ q=>ge_int q
theorem op_in_str:OpR X (compareOp .In) (fun x y H Q=>∃ i j,x=.str i∧y=.str j∧Q (.bl (!(Builtin.Str.occurrences j i 0 j.length 1).isEmpty)) H):=by
 intro pins s σ H x y v u Q I rx ry h
 obtain ⟨i,j,rfl,rfl,q⟩:=h
 obtain ⟨t,rfl⟩:=rx
 obtain ⟨t',rfl⟩:=ry
 exact in_str (fin_bl I q rfl)
theorem op_isN:OpR X (compareOp .Is) (fun x y H Q=>y=.non∧Q (.bl (decide (x=.non))) H):=by
 intro pins s σ H x y v u Q I rx ry h
 obtain ⟨rfl,q⟩:=h
 cases ry
 refine is_none_gen (fin_bl I q ?_)
 cases x <;> first
  | (cases rx;rfl)
  | (obtain ⟨t,rfl⟩:=rx;rfl)
theorem op_notN:OpR X (compareOp .IsNot) (fun x y H Q=>y=.non∧Q (.bl (!decide (x=.non))) H):=by
 intro pins s σ H x y v u Q I rx ry h
 obtain ⟨rfl,q⟩:=h
 cases ry
 refine isnot_none_gen (fin_bl I q ?_)
 cases x <;> first
  | (cases rx;rfl)
  | (obtain ⟨t,rfl⟩:=rx;rfl)
theorem nomark (b:Expr) {op:CmpOp} (h:op≠.In:=by decide) (h2:op≠.NotIn:=by decide):behindInMarks op b=false:=by
 have e1:(op == CmpOp.In)=false:=by cases op <;> first | rfl | exact absurd rfl h
 have e2:(op == CmpOp.NotIn)=false:=by cases op <;> first | rfl | exact absurd rfl h2
 cases b <;> simp [behindInMarks,e1,e2]
theorem pe_cmpR {op:CmpOp}{r:R2} (ho:OpR X (compareOp op) r) (ha:PE X a ta) (hb:PE X b tb) (hm:behindInMarks op b=false):PE X (.Compare a [op] [b] pos) (tOp r ta tb):=by
 intro pins s σ H Q I h
 exact wpAny_Compare1 (binT ha hb I h fun v u s2 x y H2 I2 rx ry q=>ho pins s2 σ H2 x y v u Q I2 rx ry q) hm
def tTest (t:TE):TT:=fun σ H Q=>t σ H fun x H'=>∃ k,x=.bl k∧Q k H'
theorem pt_cmpR {op:CmpOp}{r:R2} (ho:OpR X (compareOp op) r) (ha:PE X a ta) (hb:PE X b tb) (hm:behindInMarks op b=false):PT X (.Compare a [op] [b] pos) (tTest (tOp r ta tb)):=by
 intro pins s σ H Q I h
 refine wpAny_isTrue_Compare1 (thn (ha pins s σ H _ I h) fun v s1 ⟨x,H1,I1,r1,q1⟩=>thn (hb pins s1 σ H1 _ I1 q1) fun u s2 ⟨y,H2,I2,r2,q2⟩ =>
  thn (ho pins s2 σ H2 x y v u _ I2 r1 r2 q2) fun c s3 ⟨z,H3,I3,r3,k,e,q3⟩=>?_) hm
 subst e
 cases r3
 exact wpAny_truthy_bool ⟨H3,I3,q3⟩
def tChain (r r':R2) (ta tb tc:TE):TE:=fun σ H Q=>ta σ H fun x H1=>tb σ H1 fun y H2=>r x y H2 fun z H3=>∃ k,z=.bl k ∧
 (if k=true then tc σ H3 fun w' H4=>r' y w' H4 Q else Q (.bl false) H3)
theorem pt_chain {op op':CmpOp}{r r':R2} (ho:OpR X (compareOp op) r) (ho':OpR X (compareOp op') r') (ha:PE X a ta) (hb:PE X b tb) (hc:PE X c tc)
  (hm:lastMarks [op,op'] [b,c]=false:=by with_unfolding_all rfl):PT X (.Compare a [op,op'] [b,c] pos) (tTest (tChain r r' ta tb tc)):=by
 intro pins s σ H Q I h
 refine isTrue_chain (thn (ha pins s σ H _ I h) fun v s1 ⟨x,H1,I1,r1,q1⟩=>test_link (thn (hb pins s1 σ H1 _ I1 q1) fun u s2 ⟨y,H2,I2,r2,q2⟩ =>
  thn (ho pins s2 σ H2 x y v u _ I2 r1 r2 q2) fun d s3 ⟨z,H3,I3,r3,k,e,q3⟩=>?_)) hm
 subst e
 cases r3
 refine wpAny_truthy_bool ?_
 cases k with
 | false =>
  obtain ⟨k',e',q'⟩:=q3
  cases e'
  exact ite_ff ⟨H3,I3,q'⟩
 | true =>
  refine ite_tt (test_last (thn (hc pins s3 σ H3 _ I3 q3) fun w' s4 ⟨z',H4,I4,r4,q4⟩=>thn (ho' pins s4 σ H4 y z' u w' _ I4 r2 r4 q4) fun d' s5 ⟨z2,H5,I5,r5,k2,e2,q5⟩=>?_))
  subst e2
  cases r5
  exact wpAny_truthy_bool ⟨H5,I5,q5⟩
def TruV (K:PySem.W.Frag) (x:V) (H:Hp) (k:Bool):Prop :=
 match x with
 | .non=>k=false
 | .bl b=>k=b
 | .int i=>k=(i != 0)
 | .str y=>y.length≤sizeLine∧k=((y.length:Int) != 0)
 | .byt y=>y.size≤sizeLine∧k=((y.size:Int) != 0)
 | .ref p=>(∃ xs,SqL K H p xs∧k = !xs.isEmpty)∨(∃ xs,SqT K H p xs∧k = !xs.isEmpty)∨∃ kvs,H p=some (.dK kvs)∧k = !kvs.isEmpty
 | _=>False
theorem isEmpty_kv {κ:Type}{kvs:List (κ × V)}{vs:List (κ × Value)} (r:KV kvs vs):(!vs.isEmpty) = !kvs.isEmpty:=by
 cases r <;> rfl
theorem isEmpty_of {xs:List V}{its:List Value} (r:Vals xs its):(!its.toArray.isEmpty) = !xs.isEmpty:=by
 cases r <;> simp
theorem line63:(sizeLine:Nat)<2 ^ 63:=by rw [sizeLine_eq];decide
theorem tru_ok:TruR X (fun x H Q=>∃ k,TruV X.K x H k∧Q k H):=by
 intro pins s σ H x v Q I rx h
 obtain ⟨k,e,q⟩:=h
 have hl:=line63
 have hs:sizeLine=16777216:=sizeLine_eq
 cases x with
 | non =>
  cases rx
  have e':k=false:=e
  subst e'
  exact truthy_none ⟨H,I,q⟩
 | bl b =>
  cases rx
  have e':k=b:=e
  subst e'
  exact wpAny_truthy_bool ⟨H,I,q⟩
 | int i =>
  obtain ⟨t,rfl⟩:=rx
  have e':k=(i != 0):=e
  subst e'
  exact PySem.P.truthy_int ⟨H,I,q⟩
 | str y =>
  obtain ⟨t,rfl⟩:=rx
  obtain ⟨hy,e'⟩:y.length≤sizeLine∧k=((y.length:Int) != 0):=e
  subst e'
  exact PySem.P.truthy_str (by omega) ⟨H,I.tok _,q⟩
 | byt y =>
  obtain ⟨t,rfl⟩:=rx
  obtain ⟨hy,e'⟩:y.size≤sizeLine∧k=((y.size:Int) != 0):=e
  subst e'
  exact PySem.W.truthy_bytes (by omega) ⟨H,I.tok _,q⟩
 | ref p =>
  cases rx
  have e':(∃ xs,SqL X.K H p xs∧k = !xs.isEmpty)∨(∃ xs,SqT X.K H p xs∧k = !xs.isEmpty)∨∃ kvs,H p=some (.dK kvs)∧k = !kvs.isEmpty:=e
  rcases e' with ⟨xs,hx,e'⟩ | ⟨xs,hx,e'⟩ | ⟨kvs,hx,e'⟩
  ·subst e'
   obtain ⟨its,r,pl,hz⟩:=I.list hx
   have hlen:=r.length
   exact wpAny_truthy_list pl.isList (by simp only [List.size_toArray];omega) ⟨H,I.tok _,by rw [isEmpty_of r];exact q⟩
  ·subst e'
   obtain ⟨its,r,pl,hz⟩:=I.tuple hx
   have hlen:=r.length
   exact truthy_tuple pl (by simp only [List.size_toArray];omega) ⟨H,I.tok _,by rw [isEmpty_of r];exact q⟩
  ·subst e'
   obtain ⟨hz,hS,vs,r,m⟩:kvs.length≤sizeLine∧(p == sysModules)=false∧∃ vs,KV kvs vs∧s.heap.DictOf (mixKind X.prog X.w) p vs:=I.hok p _ hx
   have hlen:kvs.length=vs.length:=Paired.length r
   exact wpAny_truthy_dict hS m (by omega) ⟨H,I.tok _,by rw [isEmpty_kv r];exact q⟩
 | _=>exact (show False from e).elim
theorem pt_truth (ha:PE X a ta) (he:∀ whole,isTrue a X.env whole=(do let v ← whole;standAt a.pos;holding [v] (truthy v))) :
  PT X a (fun σ H Q=>ta σ H fun x H'=>∃ k,TruV X.K x H' k∧Q k H'):=by
 intro pins s σ H Q I h
 exact isTrue_plain (thn (ha pins s σ H _ I h) fun v s1 ⟨x,H1,I1,r1,q1⟩=>tru_ok pins s1 σ H1 x v Q I1 r1 q1) (he _)
theorem op_add_str:OpR X (binaryOp .Add) (fun x y H Q=>∃ i j,x=.str i∧y=.str j∧i.length+j.length≤sizeLine∧Q (.str (i ++ j)) H):=by
 intro pins s σ H x y v u Q I rx ry h
 obtain ⟨i,j,rfl,rfl,hz,q⟩:=h
 obtain ⟨t,rfl⟩:=rx
 obtain ⟨t',rfl⟩:=ry
 exact add_str (fun t' tk=>⟨.str (i ++ j),H,I.tok _,⟨_,rfl⟩,q⟩) hz
theorem vals1 {x:V}{us:List Value} (r:Vals [x] us):∃ u,us=[u]∧RelV x u:=by
 cases r with
 | cons r1 r2=>cases r2;exact ⟨_,rfl,r1⟩
theorem vals2 {x y:V}{us:List Value} (r:Vals [x,y] us):∃ u w',us=[u,w']∧RelV x u∧RelV y w':=by
 cases r with
 | cons r1 r2 =>
  cases r2 with
  | cons r3 r4=>cases r4;exact ⟨_,_,rfl,r1,r3⟩
theorem call_min2 (hc:X.calm=true):CallR X (.builtin "min") (fun xs H Q=>∃ i j,xs=[.int i,.int j]∧Q (.int (if j<i then j else i)) H):=by
 intro pins s σ H xs us Q I r h
 obtain ⟨i,j,rfl,q⟩:=h
 obtain ⟨u,w',rfl,⟨t,rfl⟩,⟨t',rfl⟩⟩:=vals2 r
 refine min_two_ints (I.ok.hd hc) fun h' tk k=>⟨_,H,I.kept k,?_,q⟩
 by_cases hj:j<i
 ·rw [if_pos hj,if_pos hj];exact ⟨_,rfl⟩
 ·rw [if_neg hj,if_neg hj];exact ⟨_,rfl⟩
theorem call_int1:CallR X (.type "int") (fun xs H Q=>(∃ i,xs=[.int i]∧Q (.int i) H)∨∃ k,xs=[.bl k]∧Q (.int (if k then 1 else 0)) H):=by
 intro pins s σ H xs us Q I r h
 rcases h with ⟨i,rfl,q⟩ | ⟨k,rfl,q⟩
 ·obtain ⟨u,rfl,t,rfl⟩:=vals1 r
  exact call_int_int ⟨.int i,H,I,⟨_,rfl⟩,q⟩
 ·obtain ⟨u,rfl,r1⟩:=vals1 r
  cases r1
  exact call_int_bool ⟨.int (if k then 1 else 0),H,I.tok _,⟨_,rfl⟩,q⟩
end
structure ObjM (h:Heap) (x dx C:Addr) (mA:Str→Option Value):Prop where
 obj:h.get? x=some (PySem.W.instObj C dx)
 ns:h.Ns1 dx mA
 ne:dx≠x
theorem lookIn_ns {h:Heap}{dx:Addr}{mA:Str→Option Value} (n:h.Ns1 dx mA):∃ od,h.get? dx=some od∧∀ name,PySem.W.lookIn name od=some (mA name):=by
 obtain ⟨o,es,ep,ho,hd,hk,_,hm⟩:=n
 refine ⟨o,ho,fun name=>?_⟩
 have e:=hm name
 unfold nsFind findBy at e
 rw [← Array.find?_toList] at e
 unfold PySem.W.lookIn
 rw [hd]
 dsimp only
 split
 ·rename_i y q
  rw [q] at e
  exact congrArg some e
 ·rename_i q
  rw [q] at e
  have a:es.toList.any (·.refKey)=false:=by
   rw [List.any_eq_false]
   intro y hy
   obtain ⟨z,t,hkey⟩:=hk y (Array.mem_toList_iff.mp hy)
   simp [DictEntry.refKey,hkey]
  have a':¬ es.toList.any (·.refKey)=true:=by rw [a];exact Bool.false_ne_true
  rw [if_neg a']
  exact congrArg some e
theorem ObjM.look {h:Heap}{x dx C:Addr}{mA:Str→Option Value} (I:ObjM h x dx C mA):∃ od,PySem.W.InstAt h x (PySem.W.instObj C dx) C (some od)∧∀ name,PySem.W.lookIn name od=some (mA name) :=
 let ⟨od,ho,hl⟩:=lookIn_ns I.ns
 ⟨od,⟨I.obj,rfl,rfl,ho⟩,hl⟩
section
variable {prog:Program}{w:World}{A:Around}{E:Value→Shared→Prop}{s:Shared}{K:PySem.W.Frag}{x dx C f:Addr}{mA:Str→Option Value}{name:Str}{v:Value}
end
theorem RelO.some_of {v:V}{o:Option Value} (r:RelO (some v) o):∃ u,o=some u∧RelV v u:=by
 cases o with
 | none=>exact (show False from r).elim
 | some u=>exact ⟨u,rfl,r⟩
section
variable {P:Program}{w:World}{H H':Hp}{h h':Heap}{a C dx:Addr}{fs fs':List (Str × V)}
theorem ins_get (hok:HOk P w H h) (e:H a=some (.ins C dx fs)):∃ mA,ObjM h a dx C mA∧(∀ f,RelO (fs.lookup f) (mA f))∧PySem.Within mA (fs.map (·.1))∧fs.length≤1000∧H dx=some (.own a):=by
 obtain ⟨d,z,ne,ob,mA,n,r,q⟩:=(show ObjOk P w H h a (.ins C dx fs) from hok a _ e)
 exact ⟨mA,⟨ob,n,ne⟩,r,q,z,d⟩
end
structure Cls (K:PySem.W.Frag) (C:Addr):Prop where
 pg:PySem.W.plainGet K C Str.empty=true
 hd:PySem.W.hasDictIn K C=true
 po:PySem.W.plainOver K C=true
 sa:PySem.W.findIn K (.ref C) "__setattr__" = some (some (.builtin "object.__setattr__"))
theorem Cls.get {K:PySem.W.Frag}{C:Addr} (c:Cls K C) (f:Str):PySem.W.plainGet K C f=true:=c.pg
structure Con (K:PySem.W.Frag) (C:Addr) (f:Str) (v:V) (u:Value):Prop where
 at_:PySem.W.findIn K (.ref C) f=some (some u)
 rel:RelV v u
 get:PySem.W.specialIn K u "__get__" = some none
 cp:PySem.W.copiedNames.contains f=false
structure Meth (K:PySem.W.Frag) (C:Addr) (m:Str) (f:Addr):Prop where
 at_:PySem.W.findIn K (.ref C) m=some (some (.ref f))
 fn:PySem.W.isFn K (.ref f)=true
 kp:PySem.W.keepIn K (.ref f)=true
section
variable {X:Cx}{pins:List (Addr × Obj)}{σ:St}{H:Hp}{s:Shared}{a C dx:Addr}{fs:List (Str × V)}{f:Str}{v:V}{A:Around}{E:Value→Shared→Prop}
theorem Inv.made (I:Inv X pins σ H s):Inv X pins σ (upd (upd H s.heap.objs.size (.own (s.heap.objs.size+1))) (s.heap.objs.size+1) (.ins C s.heap.objs.size []))
  { s with heap:=(s.heap.push PySem.W.emptyDict).push (PySem.W.instObj C s.heap.objs.size) }:=by
 have e1:(s.heap.push PySem.W.emptyDict).get? s.heap.objs.size=some PySem.W.emptyDict:=Heap.get?_push_size s.heap rfl
 have e2:((s.heap.push PySem.W.emptyDict).push (PySem.W.instObj C s.heap.objs.size)).get? (s.heap.objs.size+1)=some (PySem.W.instObj C s.heap.objs.size):=by
  have:=Heap.get?_push_size (s.heap.push PySem.W.emptyDict) (o:=PySem.W.instObj C s.heap.objs.size) rfl
  rwa [Heap.size_push] at this
 have e3:(s.heap.push PySem.W.emptyDict).Ns s.heap.objs.size (fun _=>none):=⟨PySem.W.emptyDict,#[],_,e1,rfl,(fun e he=>absurd he (by simp)),fun _=>rfl⟩
 have I1:=I.laid (a:=s.heap.objs.size) (o:=.own (s.heap.objs.size+1)) (h':=s.heap.push PySem.W.emptyDict) (t':=s.toks) (fun b u q=>Heap.get?_push_of_some _ q) (Nat.le_refl _) ⟨_,e1⟩
 refine I1.laid (a:=s.heap.objs.size+1) (o:=.ins C s.heap.objs.size []) (t':=s.toks) (fun b u q=>Heap.get?_push_of_some _ q) (Nat.le_of_eq (Heap.size_push _ _)) ?_
 have ne:s.heap.objs.size≠s.heap.objs.size+1:=Nat.ne_of_lt (Nat.lt_succ_self _)
 refine ⟨by rw [upd_ne ne,upd_same],Nat.zero_le _,ne,e2,fun _=>none,(Heap.Ns1.of_empty e3).at fun o q=>Heap.get?_push_of_some _ q,fun _=>True.intro,fun y hy=>absurd rfl hy⟩
end
section
variable {X:Cx}{o e value:Expr}{f:Str}{pos pos' tpos:Pos}{ta tv:TE}
end
section
variable {X:Cx}{pins:List (Addr × Obj)}{σ:St}{H:Hp}{s:Shared}{A:Around}{E:Value→Shared→Prop}{Q:Value→Shared→Prop}{c:Value}{b:Bool}
inductive TyOf (K:PySem.W.Frag) (H:Hp):V→Value→Prop where
 | non:TyOf K H .non (.type "NoneType")
 | bl (x:Bool):TyOf K H (.bl x) (.type "bool")
 | int (i:Int):TyOf K H (.int i) (.type "int")
 | str (x:Str):TyOf K H (.str x) (.type "str")
 | flt (x:UInt64):TyOf K H (.flt x) (.type "float")
 | lst {a:Addr}{xs:List V} (e:H a=some (.lst xs)):TyOf K H (.ref a) (.type "list")
 | frz {a:Addr}{o:Obj}{xs:List V} (e:H a=some (.frz o (.lst xs))):TyOf K H (.ref a) (.type "list")
 | tup {a:Addr}{xs:List V} (e:H a=some (.tup xs)):TyOf K H (.ref a) (.type "tuple")
 | dK {a:Addr}{kvs:List (Key × V)} (e:H a=some (.dK kvs)):TyOf K H (.ref a) (.type "dict")
 | dT {a:Addr}{kvs:List (List Key × V)} (e:H a=some (.dT kvs)):TyOf K H (.ref a) (.type "dict")
 | ins {a C dx:Addr}{fs:List (Str × V)} (e:H a=some (.ins C dx fs)) (cl:Cls K C) (ha:PySem.W.findIn K (.ref C) "__class__" = some (some (.builtin "object.__class__")))
   (hn:PySem.W.specialIn K (.builtin "object.__class__") "__get__" = some (some (.builtin "getset_descriptor.__get__"))) (htk:PySem.W.takesIn K (.builtin "object.__class__")=some true)
   (hm:PySem.W.mroIn K C (.type "object")=some true):TyOf K H (.ref a) (.ref C)
theorem isinst_ok {x:V}{u t:Value} (I:Inv X pins σ H s) (rx:RelV x u) (ty:TyOf X.K H x t) (e:PySem.W.kitOne X.K t c=some b) (h:∀ tk,Q (.bool b) { s with toks:=tk }) :
  wpAny (model X.prog X.w) A (call (.builtin "isinstance") [u,c]) Q E s:=by
 cases ty with
 | non=>cases (show u=Value.none from rx);exact PySem.W.kia_one PySem.W.kitx_none I.kIn True.intro e (fun z=>nomatch z) h
 | bl y=>cases (show u=Value.bool y from rx);exact PySem.W.kia_one PySem.W.kitx_bool I.kIn True.intro e (fun z=>nomatch z) h
 | int i=>obtain ⟨t,q⟩:=(show ∃ t,u=Value.int i t from rx);cases q;exact PySem.W.kia_one PySem.W.kitx_int I.kIn True.intro e (fun z=>nomatch z) h
 | str y=>obtain ⟨t,q⟩:=(show ∃ t,u=Value.str y t from rx);cases q;exact PySem.W.kia_one PySem.W.kitx_str I.kIn True.intro e (fun z=>nomatch z) h
 | flt y=>obtain ⟨t,q⟩:=(show ∃ t,u=Value.float y t from rx);cases q;exact PySem.W.kia_one PySem.W.kitx_float I.kIn True.intro e (fun z=>nomatch z) h
 | @lst a xs ea =>
  cases (show u=Value.ref a from rx)
  obtain ⟨_,_,n,_,h1⟩:=(show ObjOk X.prog X.w H s.heap a (.lst xs) from I.hok a _ ea)
  exact PySem.W.kia_one PySem.W.kitx_list I.kIn ⟨_,h1,rfl⟩ e (fun z=>nomatch z) h
 | @frz a ob xs ea =>
  cases (show u=Value.ref a from rx)
  obtain ⟨_,_,_,n,_,h1⟩:=(show ObjOk X.prog X.w H s.heap a (.frz ob (.lst xs)) from I.hok a _ ea)
  exact PySem.W.kia_one PySem.W.kitx_list I.kIn ⟨_,h1,rfl⟩ e (fun z=>nomatch z) h
 | @tup a xs ea =>
  cases (show u=Value.ref a from rx)
  obtain ⟨_,_,_,p⟩:=(show ObjOk X.prog X.w H s.heap a (.tup xs) from I.hok a _ ea)
  obtain ⟨o,h1,h2,_⟩:=p
  exact PySem.W.kia_one PySem.W.kitx_tuple I.kIn ⟨o,h1,h2⟩ e (fun z=>nomatch z) h
 | @dK a kvs ea =>
  cases (show u=Value.ref a from rx)
  obtain ⟨_,_,vs,_,p⟩:=(show ObjOk X.prog X.w H s.heap a (.dK kvs) from I.hok a _ ea)
  obtain ⟨o,es,ep,h1,h2,_⟩:=p
  exact PySem.W.kia_one PySem.W.kitx_dict I.kIn ⟨o,h1,h2.1⟩ e (fun z=>nomatch z) h
 | @dT a kvs ea =>
  cases (show u=Value.ref a from rx)
  obtain ⟨_,_,xs,_,o,es,ep,h1,h2,_⟩:=(show ObjOk X.prog X.w H s.heap a (.dT kvs) from I.hok a _ ea)
  exact PySem.W.kia_one PySem.W.kitx_dict I.kIn ⟨o,h1,h2.1⟩ e (fun z=>nomatch z) h
 | @ins a C dx fs ea cl ha hn htk hm =>
  cases (show u=Value.ref a from rx)
  obtain ⟨mA,O,_⟩:=ins_get I.hok ea
  obtain ⟨od,J,_⟩:=O.look
  exact PySem.W.kia_one (PySem.W.kitx_own (cl.get _) cl.hd ha hn htk hm) I.kIn J e (fun z=>nomatch z) h
end
structure Room (k:Nat) (A:Around):Prop where
 hd:A.handled=none
 dp:A.depth+3 * k+5<recursionLimit
 un:A.units+16 * k+200<cLine
theorem Room.mono {j k:Nat}{A:Around} (r:Room k A) (h:j≤k):Room j A:=⟨r.hd,by have:=r.dp;omega,by have:=r.un;omega⟩
theorem Room.deeper {k:Nat}{A:Around} (r:Room (k+1) A) (env:Env):Room k (A.deeper env) :=
 ⟨r.hd,by have:=r.dp;show A.depth+1+3 * k+5<_;omega,by have:=r.un;show A.units+3+16 * k+200<_;omega⟩
theorem Room.in1 {k:Nat}{A:Around} (r:Room (k+1) A):Room k A.in1 :=
 ⟨r.hd,by have:=r.dp;show A.depth+3 * k+5<_;omega,by have:=r.un;show A.units+1+16 * k+200<_;omega⟩
theorem Room.depth {k:Nat}{A:Around} (r:Room k A):A.depth<recursionLimit:=by have:=r.dp;omega
theorem Room.units {k:Nat}{A:Around} (r:Room k A):A.units+64<cLine:=by have:=r.un;omega
def tNil:TA:=fun _ H Q=>Q [] H
def tCons (ta:TE) (tr:TA):TA:=fun σ H Q=>ta σ H fun x H1=>tr σ H1 fun xs H2=>Q (x :: xs) H2
section
variable {X:Cx}{e:Expr}{es:List Expr}{te:TE}{t:TA}{pos:Pos}
theorem pa_nil:PA X [] tNil:=fun _ _ _ _ H Q I h=>Calls.spliced_nil ⟨[],H,I,.nil,h⟩
theorem pa_cons (ha:PE X e te) (hr:PA X es t) (hs:starEach (e :: es) X.env=(false,eval e X.env) :: starEach es X.env:=by rfl):PA X (e :: es) (tCons te t):=by
 intro pos pins s σ H Q I h
 rw [hs]
 show wpAny _ _ (spliced ((false,eval e X.env) :: backTo pos (starEach es X.env))) _ _ s
 refine Calls.spliced_cons (thn (ha pins s σ H _ I h) fun u s1 ⟨x,H1,I1,r1,q1⟩=>?_)
 exact thn (hr pos pins s1 σ H1 _ I1 q1) fun us s2 ⟨xs,H2,I2,r2,q2⟩=>⟨x :: xs,H2,I2,.cons r1 r2,q2⟩
def tTup (t:TA):TE:=fun σ H Q=>t σ H fun xs H1=>xs.length≤sizeLine∧∀ p,H1 p=none→Q (.ref p) (upd H1 p (.tup xs))
def tLst (t:TA):TE:=fun σ H Q=>t σ H fun xs H1=>xs.length≤sizeLine∧∀ p,H1 p=none→Q (.ref p) (upd H1 p (.lst xs))
theorem pe_tup {x1} (h:PA X es t):PE X (.Tuple es x1 pos) (tTup t):=by
 intro pins s σ H Q I hq
 refine wpAny_Tuple_spliced (thn (h pos pins s σ H _ I hq) fun us s1 ⟨xs,H1,I1,r,z,q⟩=>⟨by rw [← r.length];exact z,?_⟩)
 have hf:H1 s1.heap.objs.size=none:=I1.hok.fresh (Nat.le_refl _)
 refine ⟨.ref s1.heap.objs.size,upd H1 s1.heap.objs.size (.tup xs),I1.laid (t':=s1.toks) (fun b u e=>Heap.get?_push_of_some _ e) (Nat.le_refl _) ?_,rfl,q _ hf⟩
 exact ⟨z,us,r,⟨_,Heap.get?_push_size _ rfl,rfl,_,rfl⟩⟩
theorem pe_lst (h:PA X es t):PE X (.List es pos) (tLst t):=by
 intro pins s σ H Q I hq
 refine wpAny_List_spliced (thn (h pos pins s σ H _ I hq) fun us s1 ⟨xs,H1,I1,r,z,q⟩=>⟨by rw [← r.length];exact z,?_⟩)
 have hf:H1 s1.heap.objs.size=none:=I1.hok.fresh (Nat.le_refl _)
 refine ⟨.ref s1.heap.objs.size,upd H1 s1.heap.objs.size (.lst xs),I1.laid (t':=s1.toks) (fun b u e=>Heap.get?_push_of_some _ e) (Nat.le_refl _) ?_,rfl,q _ hf⟩
 exact ⟨z,us,0,r,Heap.get?_push_size _ rfl⟩
end
abbrev Sp:=List V→Hp→VK→XK→Prop
abbrev CXT:=List Env→Hp→Shared→XK→Value→Shared→Prop
structure Env0 (P:Program) (w:World) (K:PySem.W.Frag) (mg:Str→Option Value) (base:Heap) (A:Around) (outer:List Env) (s:Shared) (H:Hp):Prop where
 frames:A.frames=some outer
 mod:Mod K mg base
 bs:∀ b o,base.get? b=some o→s.heap.get? b=some o∧H b=none
 bsz:base.objs.size≤s.heap.objs.size
 funs:s.heap.FunFrames base outer
 frf:∀ b∈frs outer,H b=none
 hok:HOk P w H s.heap
 bare:AllBare s.gens
def CE (outer:List Env) (P:Program) (w:World) (H:Hp) (s:Shared) (Q:VK) (u:Value) (s':Shared):Prop :=
 ∃ v H',s'.os=s.os∧AllBare s'.gens∧Un (frs outer) [] H H' s.heap s'.heap∧HOk P w H' s'.heap∧RelV v u∧Q v H'
def CR (CX:CXT) (outer:List Env) (P:Program) (w:World) (H:Hp) (s:Shared) (Q:VK) (E:XK) (r:Result) (s':Shared):Prop :=
 match r with
 | .ok (.ret u)=>CE outer P w H s Q u s'
 | .ok _=>False
 | .error e=>CX outer H s E e s'
structure FnOk (P:Program) (w:World) (K:PySem.W.Frag) (mg:Str→Option Value) (base:Heap) (CX:CXT) (k:Nat) (f:Addr) (fd:FuncData) (ps:List Str) (sp:Sp):Prop where
 len:∀ vs H Q E,sp vs H Q E→vs.length=ps.length
 run:∀ (A:Around) (outer:List Env) (s:Shared) (H:Hp) (args:Args) (us:List Value) (vs:List V) (Q:VK) (E:XK),Room k A→Env0 P w K mg base A outer s H→BindsTo s fd args (ps.zip us)→Vals vs us→sp vs H Q E →
  codeAny (model P w) A (.call (.ref f) args) (CR CX outer P w H s Q E) s
theorem Env0.in1 {P:Program}{w:World}{K:PySem.W.Frag}{mg:Str→Option Value}{base:Heap}{A:Around}{outer:List Env}{s:Shared}{H:Hp} (e:Env0 P w K mg base A outer s H) :
  Env0 P w K mg base A.in1 outer s H:=⟨e.frames,e.mod,e.bs,e.bsz,e.funs,e.frf,e.hok,e.bare⟩
section
variable {X:Cx}{pins:List (Addr × Obj)}{σ:St}{H:Hp}{s s':Shared}
theorem Inv.env0 (I:Inv X pins σ H s):Env0 X.prog X.w X.K X.mg X.base X.A X.stack s H :=
 ⟨I.ok.frames,I.ok.mod,I.bs,Nat.le_trans I.ok.bsz I.sz,I.stack,I.stkFree,I.hok,I.bare⟩
theorem Inv.after {Q:VK}{u:Value} (I:Inv X pins σ H s) (h:CE X.stack X.prog X.w H s Q u s'):EP X pins σ Q u s':=by
 obtain ⟨v,H',os,bare,un,hok,r,q⟩:=h
 obtain ⟨hh,g,d,t,os'⟩:=s'
 obtain rfl:os'=s.os:=os
 exact ⟨v,H',I.call (h':=hh) (g':=g) (d':=d) (t':=t) (ch:=[]) un hok bare (fun b z=>absurd z (by simp)),r,q⟩
end
def tCall (sp:Sp) (dvs:List V) (E:XK) (t:TA):TE:=fun σ H Q=>t σ H fun vs H1=>sp (vs ++ dvs) H1 Q E
def Binds (K:PySem.W.Frag) (fd:FuncData) (ps:List Str) (ds:List Value):Prop :=
 ∀ (s:Shared) (us:List Value),K.In s.heap→(us ++ ds).length=ps.length→BindsTo s fd ⟨us,[]⟩ (ps.zip (us ++ ds))
theorem Binds.all {K:PySem.W.Frag}{fd:FuncData}{ps:List Str} (h:∀ us:List Value,us.length=ps.length→bindArgs fd ⟨us,[]⟩=pure (ps.zip us)):Binds K fd ps []:=fun s us _ hl=>by
 rw [List.append_nil] at hl ⊢
 exact .of_eq (h us hl)
def Passes (CX:CXT) (X:Cx) (E:XK):Prop:=∀ (pins:List (Addr × Obj)) (σ:St) (H:Hp) (s:Shared) (e:Value) (s':Shared),Inv X pins σ H s→CX X.stack H s E e s'→X.xe e s'
section
variable {X:Cx}{CX:CXT}{k:Nat}{f C:Addr}{fd:FuncData}{ps:List Str}{sp:Sp}{dvs:List V}{ds:List Value}{E:XK}{x m:Str}{p pos apos:Pos}{e o:Expr}{es:List Expr}{ta:TE}{t:TA}
theorem run_fn {pins:List (Addr × Obj)}{σ:St}{H:Hp}{s:Shared}{Q:VK}{us:List Value}{vs:List V} (F:FnOk X.prog X.w X.K X.mg X.base CX k f fd ps sp) (hr:Room k X.A) (hb:Binds X.K fd ps ds) (hd:Vals dvs ds) (hx:Passes CX X E)
  (I:Inv X pins σ H s) (r:Vals vs us) (h:sp (vs ++ dvs) H Q E):wpAny (model X.prog X.w) X.A (call (.ref f) us) (EP X pins σ Q) X.xe s:=by
 have r2:Vals (vs ++ dvs) (us ++ ds):=r.append hd
 have hl:(us ++ ds).length=ps.length:=by rw [← r2.length];exact F.len _ _ _ _ h
 refine wpAny_call (codeAny_mono (F.run X.A X.stack s H ⟨us,[]⟩ (us ++ ds) (vs ++ dvs) Q E hr I.env0 (hb s us I.kIn hl) r2 h) fun r s' hq=>?_)
 cases r with
 | error e=>exact hx pins σ H s e s' I hq
 | ok fl =>
  cases fl with
  | ret u=>exact I.after hq
  | next=>exact False.elim hq
  | brk=>exact False.elim hq
  | cont=>exact False.elim hq
theorem pe_call (F:FnOk X.prog X.w X.K X.mg X.base CX k f fd ps sp) (hr:Room k X.A) (hg:Gl X x) (hm:X.mg x=some (.ref f)) (hk:PySem.W.keepIn X.K (.ref f)=true) (hb:Binds X.K fd ps ds) (hd:Vals dvs ds) (hx:Passes CX X E)
  (ha:PA X (e :: es) t) (hdb:(x == ("__debug__" : Str))=false:=by decide) (he:starEach (e :: es) X.env=(false,eval e X.env) :: starEach es X.env:=by rfl) (hpl:(backTo pos (starEach es X.env)).any (·.1)=false:=by rfl) :
  PE X (.Call (.Name x p) (e :: es) [] pos) (tCall sp dvs E t):=by
 intro pins s σ H Q I h
 refine wpAny_Call_Name_kw (ld_glob I hg hm ?_ hdb)
 refine PySem.W.callWith_K (h₀:=X.base) I.ok.mod.kin hk (thn (ha pos pins s σ H _ I h) fun us s1 ⟨vs,H1,I1,r,q⟩=>⟨I1.kIn,?_⟩) he hpl
 exact run_fn F hr hb hd hx I1 r q
structure Mk (K:PySem.W.Frag) (C f:Addr):Prop where
 makes:PySem.W.makesIn K C=true
 init:PySem.W.findIn K (.ref C) "__init__" = some (some (.ref f))
 fn:PySem.W.isFn K (.ref f)=true
 kp:PySem.W.keepIn K (.ref C)=true
end
def PK (X:Cx) (kws:List Keyword) (t:TA):Prop :=
 ∀ (pos:Pos) (pins:List (Addr × Obj)) (s:Shared) (σ:St) (H:Hp) (Q:List V→Hp→Prop),Inv X pins σ H s→t σ H Q→wpAny (model X.prog X.w) X.A (evalAll ((backToKw pos (keywordEach kws X.env)).map (·.2))) (AP X pins σ Q) X.xe s
section
variable {X:Cx}{CX:CXT}{k:Nat}{f C:Addr}{fd:FuncData}{ps ks:List Str}{sp:Sp}{E:XK}{x m:Str}{p pos apos kpos:Pos}{e o:Expr}{es:List Expr}{kws:List Keyword}{te ta:TE}{t tk:TA}{nm:Option Str}
structure KBinds (K:PySem.W.Frag) (fd:FuncData) (ps ks:List Str) (g:List Value→List Value→List Value) (gV:List V→List V→List V):Prop where
 to:∀ (s:Shared) (us ws:List Value),K.In s.heap→(g us ws).length=ps.length→BindsTo s fd ⟨us,ks.zip ws⟩ (ps.zip (g us ws))
 rel:∀ {vs:List V}{us:List Value}{zs:List V}{ws:List Value},Vals vs us→Vals zs ws→Vals (gV vs zs) (g us ws)
variable {g:List Value→List Value→List Value}{gV:List V→List V→List V}
end
structure FnScope (N P:List Str) (sc:Scope):Prop where
 kind:sc.kind=.function
 co:sc.isCoroutine=false
 gen:sc.isGenerator=false
 nd:N.Nodup
 pre:N.take P.length=P
 par:∀ x∈P,sc.names.lookup x=some .local∨sc.names.lookup x=some .cell
 nofree:∀ y∈sc.names,y.2≠.free
theorem bindL_out {kindOf:Str→Option NameKind}{x:Str}:∀ {binds:List (Str × Value)}{m:Str→Option Value},(∀ v,(x,v) ∉ binds)→bindL kindOf binds m x=m x
 | [],_,_=>rfl
 | (n,v) :: r,m,h=>by
  unfold bindL
  rw [bindL_out fun w hw=>h w (List.mem_cons_of_mem _ hw)]
  split
  ·have:x≠n:=by rintro rfl;exact h v List.mem_cons_self
   simp [this]
  ·rfl
theorem bindC_out {kindOf:Str→Option NameKind}{x:Str}:∀ {binds:List (Str × Value)}{m:Str→Option Value},(∀ v,(x,v) ∉ binds)→bindC kindOf binds m x=m x
 | [],_,_=>rfl
 | (n,v) :: r,m,h=>by
  unfold bindC
  rw [bindC_out fun w hw=>h w (List.mem_cons_of_mem _ hw)]
  split
  ·rfl
  ·have:x≠n:=by rintro rfl;exact h v List.mem_cons_self
   simp [this]
theorem bindL_get {kindOf:Str→Option NameKind}{x:Str}{v:Value}:∀ {P:List Str}{vs:List Value}{i:Nat}{m:Str→Option Value},P.Nodup→P[i]? = some x→vs[i]? = some v→kindOf x=some .local →
  bindL kindOf (P.zip vs) m x=some v
 | [],_,_,_,_,h,_,_=>by simp at h
 | _ :: _,[],_,_,_,_,h,_=>by simp at h
 | p :: P,w :: vs,0,m,nd,h1,h2,hk=>by
  simp at h1 h2;subst h1;subst h2
  show bindL kindOf ((p,w) :: P.zip vs) m p=_
  unfold bindL
  rw [bindL_out fun v hv=>(List.nodup_cons.mp nd).1 (List.of_mem_zip hv).1,if_pos hk]
  simp
 | p :: P,w :: vs,i+1,m,nd,h1,h2,hk=>by
  show bindL kindOf ((p,w) :: P.zip vs) m x=_
  unfold bindL
  exact bindL_get (i:=i) (List.nodup_cons.mp nd).2 (by simpa using h1) (by simpa using h2) hk
theorem bindC_get {kindOf:Str→Option NameKind}{x:Str}{v:Value}:∀ {P:List Str}{vs:List Value}{i:Nat}{m:Str→Option Value},P.Nodup→P[i]? = some x→vs[i]? = some v→kindOf x≠some .local →
  bindC kindOf (P.zip vs) m x=some v
 | [],_,_,_,_,h,_,_=>by simp at h
 | _ :: _,[],_,_,_,_,h,_=>by simp at h
 | p :: P,w :: vs,0,m,nd,h1,h2,hk=>by
  simp at h1 h2;subst h1;subst h2
  show bindC kindOf ((p,w) :: P.zip vs) m p=_
  unfold bindC
  rw [bindC_out fun v hv=>(List.nodup_cons.mp nd).1 (List.of_mem_zip hv).1,if_neg hk]
  simp
 | p :: P,w :: vs,i+1,m,nd,h1,h2,hk=>by
  show bindC kindOf ((p,w) :: P.zip vs) m x=_
  unfold bindC
  exact bindC_get (i:=i) (List.nodup_cons.mp nd).2 (by simpa using h1) (by simpa using h2) hk
def start (N:List Str) (vs:List V):St:=vs.map some ++ List.replicate (N.length - vs.length) none
def cxOf (CX:CXT) (P:Program) (w:World) (K:PySem.W.Frag) (mg:Str→Option Value) (base:Heap) (N:List Str) (qual:Str) (scope:Scope) (f:Addr) (cd:Value) (A:Around) (outer:List Env) (s:Shared) (H:Hp) (E:XK):Cx where
 prog:=P
 w:=w
 K:=K
 mg:=mg
 base:=base
 A:=A.deeper (envOfC qual scope s.heap.objs.size f cd)
 N:=N
 s₀:=s
 H₀:=H
 env:=envOfC qual scope s.heap.objs.size f cd
 outer:=outer
 stack:=envOfC qual scope s.heap.objs.size f cd :: outer
 ex:=[]
 calm:=true
 fn:=fun _=>true
 pn:=[]
 xe:=fun e s'=>wpAny (model P w) (A.deeper (envOfC qual scope s.heap.objs.size f cd)) (leaving (envOfC qual scope s.heap.objs.size f cd) e) (fun _ s''=>CX outer H s E e s'') (fun e' s''=>CX outer H s E e' s'') s'
theorem cell_has {sc:Scope}{n:Nat}{x:Str} (h:sc.names.lookup x=some .cell):∃ c,(cellsFrom n sc.names []).lookup x=some c:=by
 have q:=PySem.W.cellsFrom_some sc.names n [] (.inl h)
 exact Option.isSome_iff_exists.mp q
theorem inv_start {CX:CXT}{P:Program}{w:World}{K:PySem.W.Frag}{mg:Str→Option Value}{base:Heap}{N ps:List Str}{qual:Str}{scope:Scope}{f:Addr}{cd:Value}{A:Around}{outer:List Env}{s s1:Shared}{H:Hp}{E:XK}{us:List Value}{vs:List V}
  (S:FnScope N ps scope) (hd:A.handled=none) (e0:Env0 P w K mg base A outer s H) (hl:vs.length=ps.length) (r:Vals vs us)
  (x:InCallC s s.heap.objs.size (bindL (envOfC qual scope s.heap.objs.size f cd).kindOf (ps.zip us) fun _=>none) (cellsFrom (s.heap.objs.size+1) scope.names []) (bindC (envOfC qual scope s.heap.objs.size f cd).kindOf (ps.zip us) fun _=>none) s1) :
  Inv (cxOf CX P w K mg base N qual scope f cd A outer s H E) [] (start N vs) H s1:=by
 have hpl:ps.length≤N.length:=by have:=congrArg List.length S.pre;rw [List.length_take] at this;omega
 obtain ⟨h1,tk,rfl,hk⟩:=x.done
 have noA:∀ b:Addr,b ∉ (cxOf CX P w K mg base N qual scope f cd A outer s H E).ex:=fun b z=>absurd (show b∈([]:List Addr) from z) (by simp)
 refine ⟨⟨e0.mod,S.kind,rfl,rfl,Nat.le_refl _,fun y z c h1 h2=>?_,fun y hy=>?_,fun y c _ h=>?_,fun _=>hd,Around.frames_deeper e0.frames,.inr ⟨rfl,rfl⟩,fun b z=>absurd z (noA b),e0.bs,e0.bsz,fun b _ _=>noA b,fun b z=>absurd z (noA b),e0.funs,e0.frf⟩,
  rfl,e0.bare,Un.kept hk,⟨_,x.toInCall.ns,fun i y v h1 h2 h3=>?_⟩,fun y c h=>⟨_,x.cell y c h⟩,e0.hok.fresh (Nat.le_refl _),fun y c h=>?_,fun p hp=>absurd (show p∈([]:List (Addr × Obj)) from hp) (by simp),e0.hok.kept hk,?_⟩
 ·exact name_of_addr x.apart (PySem.mem_of_lookup h1) (PySem.mem_of_lookup h2)
 ·have hy:scope.names.lookup y=some .cell∨scope.names.lookup y=some .free:=hy
  rcases hy with hy | hy
  ·exact cell_has hy
  ·exact absurd rfl (S.nofree _ (PySem.mem_of_lookup hy))
 ·exact Nat.le_of_lt (x.above y c (PySem.mem_of_lookup h))
 ·have hi:i<vs.length:=by
   unfold start at h2
   by_cases hi:i<vs.length
   ·exact hi
   ·rw [List.getElem?_append_right (by simpa using hi)] at h2
    rw [List.getElem?_replicate] at h2
    split at h2 <;> cases h2
  have ha:vs[i]? = some v:=by
   unfold start at h2
   rw [List.getElem?_append_left (by simpa using hi),List.getElem?_map] at h2
   cases e:vs[i]? with
   | none=>rw [e] at h2;cases h2
   | some a=>rw [e] at h2;cases h2;rfl
  obtain ⟨u,hu,rv⟩:=r.get ha
  have hp:ps[i]? = some y:=by
   rw [← S.pre,List.getElem?_take_of_lt (by omega)];exact h1
  have ndP:ps.Nodup:=by rw [← S.pre];exact S.nd.sublist (List.take_sublist _ _)
  refine ⟨u,rv,?_⟩
  rcases S.par y (List.mem_of_getElem? hp) with k | k
  ·exact .inl ⟨k,bindL_get ndP hp hu k⟩
  ·obtain ⟨c,e⟩:=cell_has (n:=s.heap.objs.size+1) k
   refine .inr ⟨.inl k,c,e,?_⟩
   have q:=x.cell y c e
   rw [bindC_get ndP hp hu (by show scope.names.lookup y≠_;rw [k];decide)] at q
   exact q
 ·exact e0.hok.fresh (Nat.le_of_lt (x.above y c (PySem.mem_of_lookup h)))
 ·unfold start
  show _=N.length
  rw [List.length_append,List.length_map,List.length_replicate]
  omega
theorem fn_of {CX:CXT}{P:Program}{w:World}{K:PySem.W.Frag}{mg:Str→Option Value}{base:Heap}{k:Nat}{f:Addr}{name qual:Str}{params:Arguments}{body:List Stmt}{scope:Scope}{dV kV doc pm cdv ct oc:Value}{an od:Option Addr}
  {osl:Array (Option Value)}{N ps:List Str}{sp:Sp} (lk:K.lookup f=some ⟨oc,od,.func (PySem.W.fnOf name qual params body scope dV kV doc pm an cdv ct),osl⟩) (hcd:PySem.W.codeIn K cdv qual=true) (S:FnScope N ps scope)
  (len:∀ vs H Q E,sp vs H Q E→vs.length=ps.length)
  (hbody:∀ (A:Around) (outer:List Env) (s:Shared) (H:Hp) (vs:List V) (Q:VK) (E:XK),Room k (A.deeper (envOfC qual scope s.heap.objs.size f cdv))→sp vs H Q E →
   ∃ t,PSs (cxOf CX P w K mg base N qual scope f cdv A outer s H E) body t∧t { nx:=fun _ H'=>Q .non H',rt:=Q } (start N vs) H) :
  FnOk P w K mg base CX (k+1) f (PySem.W.fnOf name qual params body scope dV kV doc pm an cdv ct) ps sp:=by
 refine ⟨len,fun A outer s H args us vs Q E hr e0 hb r hsp=>?_⟩
 have hl:=len _ _ _ _ hsp
 have KX:K.In s.heap:=e0.mod.kin.keeps fun b o e=>(e0.bs b o e).1
 have lim:s.heap.NoLimit:=e0.mod.nolimit.keeps fun b o e=>(e0.bs b o e).1
 have hkind:∀ y∈ps.zip us,scope.names.lookup y.1=some .local∨(scope.names.lookup y.1=some .cell∧((cellsFrom (s.heap.objs.size+1) scope.names []).lookup y.1).isSome=true):=fun ⟨n,v⟩ hy=>by
  rcases S.par n (List.of_mem_zip hy).1 with q | q
  ·exact .inl q
  ·exact .inr ⟨q,PySem.W.cellsFrom_some _ _ _ (.inl q)⟩
 refine codeAny_call_function hr.depth (KX _ _ lk) rfl S.co S.gen rfl (PySem.W.codeRec_of KX hcd) (hb _ _ _ _ ?_)
 refine wpAny_newFunctionEnv_cells S.kind hkind fun env he s1 x=>?_
 subst he
 refine ⟨lim.keeps x.toInCall.keep,codeAny_func ?_⟩
 obtain ⟨t,ht,hq⟩:=hbody A outer s H vs Q E (hr.deeper _) hsp
 have I:Inv (cxOf CX P w K mg base N qual scope f cdv A outer s H E) [] (start N vs) H s1:=inv_start S hr.hd e0 hl r x
 refine wpAny_mono (ht [] s1 (start N vs) H _ I hq) (fun fl s' hs=>?_) fun e s' hs=>hs
 have fin:∀ {σ':St}{H':Hp}{v:V}{u:Value},Inv (cxOf CX P w K mg base N qual scope f cdv A outer s H E) [] σ' H' s'→RelV v u→Q v H'→CE outer P w H s Q u s' :=
  fun {σ' H' v u} J rv q=>⟨v,H',J.os,J.bare,J.base,J.hok,rv,q⟩
 cases fl with
 | ret u =>
  obtain ⟨v,σ',H',J,rv,q⟩:=hs
  exact fin J rv q
 | next =>
  obtain ⟨σ',H',J,q⟩:=hs
  exact fin (v:=V.non) (u:=Value.none) J rfl q
 | brk =>
  obtain ⟨_,_,_,q⟩:=hs
  exact False.elim q
 | cont =>
  obtain ⟨_,_,_,q⟩:=hs
  exact False.elim q
section
variable {X:Cx}{x:Str}{p pos:Pos}{e:Expr}{es:List Expr}{t:TA}{id T:String}{r:List V→Hp→VK→Prop}
def tCB (r:List V→Hp→VK→Prop) (t:TA):TE:=fun σ H Q=>t σ H fun vs H1=>r vs H1 Q
theorem pe_callB (hc:CallR X (.builtin id) r) (hg:Gl X x) (hm:X.mg x=none) (hv:bootBuiltins x=some (.builtin id)) (ha:PA X (e :: es) t) (hn:x ≠ "__name__":=by decide) (hdb:(x == ("__debug__" : Str))=false:=by decide)
  (he:starEach (e :: es) X.env=(false,eval e X.env) :: starEach es X.env:=by rfl) (hpl:(backTo pos (starEach es X.env)).any (·.1)=false:=by rfl):PE X (.Call (.Name x p) (e :: es) [] pos) (tCB r t):=by
 intro pins s σ H Q I h
 refine wpAny_Call_Name_kw (ld_blt I hg hm hv ?_ hn hdb)
 exact PyProof.Rows.callWith_builtin1 (thn (ha pos pins s σ H _ I h) fun us s1 ⟨vs,H1,I1,r1,q1⟩=>hc pins s1 σ H1 vs us Q I1 r1 q1) he hpl
theorem pe_callTy (hc:CallR X (.type T) r) (hg:Gl X x) (hm:X.mg x=none) (hv:bootBuiltins x=some (.type T)) (ha:PA X (e :: es) t) (hn:x ≠ "__name__":=by decide) (hdb:(x == ("__debug__" : Str))=false:=by decide)
  (he:starEach (e :: es) X.env=(false,eval e X.env) :: starEach es X.env:=by rfl) (hpl:(backTo pos (starEach es X.env)).any (·.1)=false:=by rfl):PE X (.Call (.Name x p) (e :: es) [] pos) (tCB r t):=by
 intro pins s σ H Q I h
 refine wpAny_Call_Name_kw (ld_blt I hg hm hv ?_ hn hdb)
 exact PyProof.Rows.callWith_type1 (thn (ha pos pins s σ H _ I h) fun us s1 ⟨vs,H1,I1,r1,q1⟩=>hc pins s1 σ H1 vs us Q I1 r1 q1) he hpl
end
end L2
namespace HT
open PySem PyProof.Rows
section
open PySem.SeqAt
open PySem.AutoSeq1 (wpAny_loadPart')
open PySem.MeetsSeq PySem.MeetsSeq2 PySem.MeetsSeq3
end
section
variable {prog:Program}{w:World}{A:Around}{E:Value→Shared→Prop}{s:Shared}
def sIx (n d:Nat):Option Int→Nat
 | none=>d
 | some v=>if v<0 then (v+(n:Int)).toNat else min v.toNat n
end
end HT
namespace L2
open PySem PySem.Spec PyProof.Rows
abbrev TO:=St→Hp→(Option Int→Hp→Prop)→Prop
def PO (X:Cx) (e:Option Expr) (t:TO):Prop :=
 ∀ (pins:List (Addr × Obj)) (s:Shared) (σ:St) (H:Hp) (Q:Option Int→Hp→Prop),Inv X pins σ H s→t σ H Q →
  wpAny (model X.prog X.w) X.A (evalPart e X.env) (fun u s'=>∃ o H',Inv X pins σ H' s'∧IsPart u o∧Q o H') X.xe s
def tNoPart:TO:=fun _ H Q=>Q none H
def tPart (t:TE):TO:=fun σ H Q=>t σ H fun x H1=>∃ i,x=.int i∧Q (some i) H1
theorem intsAre_of {ns:List Int}:∀ {us:List Value},Vals (ns.map V.int) us→IntsAre us ns:=by
 induction ns with
 | nil=>intro us r;rw [List.map_nil] at r;cases r;exact .nil
 | cons n ns ih =>
  intro us r
  rw [List.map_cons] at r
  cases r with
  | cons r1 r2 =>
   obtain ⟨t,e⟩:=r1
   subst e
   exact .cons n t (ih r2)
section
variable {X:Cx}{e:Expr}{te:TE}{lo hi:Option Expr}{tl th:TO}{pos p2:Pos}
theorem po_none:PO X none tNoPart:=by
 intro pins s σ H Q I h
 rw [evalPart_none]
 exact wpAny_pure ⟨none,H,I,.none,h⟩
theorem po_some (h:PE X e te):PO X (some e) (tPart te):=by
 intro pins s σ H Q I hw
 rw [evalPart_some]
 refine thn (h pins s σ H _ I hw) fun u s1 ⟨x,H1,I1,r1,q1⟩=>?_
 obtain ⟨i,rfl,q⟩:=q1
 obtain ⟨t,rfl⟩:=r1
 exact ⟨some i,H1,I1,.int i t,q⟩
def SlR (X:Cx) (r:V→Option Int→Option Int→Hp→VK→Prop):Prop :=
 ∀ (pins:List (Addr × Obj)) (s:Shared) (σ:St) (H:Hp) (x:V) (v vl vu:Value) (lo hi:Option Int) (sl:Addr) (Q:VK),Inv X pins σ H s→RelV x v→s.heap.IsSliceOf sl vl vu .none→IsPart vl lo→IsPart vu hi→r x lo hi H Q →
  ∃ T id,typeLookup (.type T) "__getitem__" = pure (some (.builtin id))∧s.TypeIs v T∧wpAny (model X.prog X.w) X.A (getItem v (.ref sl)) (EP X pins σ Q) X.xe s
def tSl (r:V→Option Int→Option Int→Hp→VK→Prop) (te:TE) (tl th:TO):TE:=fun σ H Q=>te σ H fun x H1=>tl σ H1 fun l H2=>th σ H2 fun u H3=>r x l u H3 Q
theorem pe_slice {r:V→Option Int→Option Int→Hp→VK→Prop} (hr:SlR X r) (he:PE X e te) (hl:PO X lo tl) (hu:PO X hi th):PE X (.Subscript e (.Slice lo hi none p2) pos) (tSl r te tl th):=by
 intro pins s σ H Q I h
 refine Subscript_ (thn (he pins s σ H _ I h) fun v s1 ⟨x,H1,I1,r1,q1⟩=>?_)
 refine wpAny_Slice (thn (hl pins s1 σ H1 _ I1 q1) fun vl s2 ⟨l,H2,I2,pl,q2⟩=>thn (hu pins s2 σ H2 _ I2 q2) fun vu s3 ⟨u,H3,I3,pu,q3⟩=>?_)
 rw [evalPart_none]
 refine wpAny_pure ?_
 have I4:Inv X pins σ H3 { s3 with heap:=s3.heap.push { cls:=.type "slice",data:=.fields #[vl,vu,.none] } }:=I3.kept (t':=s3.toks) fun b ob q=>Heap.get?_push_of_some _ q
 obtain ⟨T,id,hT,ht,hg⟩:=hr pins { s3 with heap:=s3.heap.push { cls:=.type "slice",data:=.fields #[vl,vu,.none] } } σ H3 x v vl vu l u s3.heap.objs.size Q I4 r1 (Heap.IsSliceOf.new ..) pl pu q3
 show wpAny (model X.prog X.w) X.A (subscriptTail e (.Slice lo hi none p2) v (.ref s3.heap.objs.size)) (EP X pins σ Q) X.xe { s3 with heap:=s3.heap.push { cls:=.type "slice",data:=.fields #[vl,vu,.none] } }
 exact tail_any (ops:=[.ref s3.heap.objs.size,v]) ht hT hg (by with_unfolding_all rfl)
def cutV (xs:List V) (lo hi:Option Int):List V:=(xs.drop (HT.sIx xs.length 0 lo)).take (HT.sIx xs.length xs.length hi - HT.sIx xs.length 0 lo)
theorem cutV_length (xs:List V) (lo hi:Option Int):(cutV xs lo hi).length≤xs.length:=by
 unfold cutV
 rw [List.length_take,List.length_drop]
 omega
end
def ixN (n:Nat) (i:Int):Option Nat:=if 0≤i then (if i<n then some i.toNat else none) else if -(n:Int)≤i then some (i+n).toNat else none
def atI {α:Type} (xs:List α) (i:Int):Option α:=(ixN xs.length i).bind fun j=>xs[j]?
theorem ixN_seq {n:Nat}{i:Int}{j:Nat} (h:ixN n i=some j):seqIndex? i n=some j∧j<n ∧ -(n:Int)≤i∧i<n:=by
 unfold ixN at h
 by_cases h0:0≤i
 ·rw [if_pos h0] at h
  by_cases h1:i<n
  ·rw [if_pos h1] at h
   have e:i.toNat=j:=Option.some.inj h
   exact ⟨by rw [seqIndex_of h0 h1,e],by omega,by omega,h1⟩
  ·rw [if_neg h1] at h;cases h
 ·rw [if_neg h0] at h
  by_cases h1 : -(n:Int)≤i
  ·rw [if_pos h1] at h
   have e:(i+n).toNat=j:=Option.some.inj h
   exact ⟨by rw [seqIndex_neg (by omega) h1,e],by omega,h1,by omega⟩
  ·rw [if_neg h1] at h;cases h
theorem atI_get {α:Type}{xs:List α}{i:Int}{v:α} (h:atI xs i=some v):∃ j,seqIndex? i xs.length=some j∧xs[j]? = some v∧j<xs.length ∧ -(xs.length:Int)≤i∧i<xs.length:=by
 unfold atI at h
 cases e:ixN xs.length i with
 | none=>rw [e] at h;cases h
 | some j =>
  rw [e] at h
  obtain ⟨h1,h2,h3,h4⟩:=ixN_seq e
  exact ⟨j,h1,h,h2,h3,h4⟩
theorem atI_nat {α:Type}{xs:List α}{j:Nat}{v:α} (h:xs[j]? = some v):atI xs (j:Int)=some v:=by
 have hj:j<xs.length:=(List.getElem?_eq_some_iff.mp h).1
 have e:ixN xs.length (j:Int)=some j:=by
  unfold ixN
  rw [if_pos (by omega),if_pos (by omega)];simp
 unfold atI;rw [e];exact h
def PlainIx (b:Expr):Prop:=∀ o i,subscripted b false o i=operate [o,i] (getItem o i)
def IxR (X:Cx) (r:R2):Prop :=
 ∀ (value slice:Expr) (pins:List (Addr × Obj)) (s:Shared) (σ:St) (H:Hp) (x y:V) (v u:Value) (Q:VK),Inv X pins σ H s→RelV x v→RelV y u→r x y H Q →
  subscripted slice false v u=operate [v,u] (getItem v u)→wpAny (model X.prog X.w) X.A (subscriptTail value slice v u) (EP X pins σ Q) X.xe s
def MtR (X:Cx) (id:String) (r:V→List V→Hp→VK→Prop):Prop :=
 ∀ (pins:List (Addr × Obj)) (s:Shared) (σ:St) (H:Hp) (x:V) (xs:List V) (v:Value) (us:List Value) (Q:VK),Inv X pins σ H s→RelV x v→Vals xs us→r x xs H Q →
  wpAny (model X.prog X.w) X.A (call (.builtin id) (v :: us)) (EP X pins σ Q) X.xe s
section
variable {X:Cx}{a b:Expr}{ta tb:TE}{pos:Pos}
theorem IxR.or {r r':R2} (h:IxR X r) (h':IxR X r'):IxR X (fun x y H Q=>r x y H Q∨r' x y H Q):=by
 intro value slice pins s σ H x y v u Q I rx ry q hs
 rcases q with q | q
 ·exact h value slice pins s σ H x y v u Q I rx ry q hs
 ·exact h' value slice pins s σ H x y v u Q I rx ry q hs
theorem pe_ix {r:R2} (hr:IxR X r) (ha:PE X a ta) (hb:PE X b tb) (hs:PlainIx b):PE X (.Subscript a b pos) (tOp r ta tb):=by
 intro pins s σ H Q I h
 exact Subscript_ (binT ha hb I h fun v u s2 x y H2 I2 rx ry q=>hr a b pins s2 σ H2 x y v u Q I2 rx ry q (hs _ _))
def rIxL (K:PySem.W.Frag):R2:=fun x y H Q=>∃ p xs i v,x=.ref p∧y=.int i∧SqL K H p xs∧atI xs i=some v∧Q v H
def rIxT (K:PySem.W.Frag):R2:=fun x y H Q=>∃ p xs i v,x=.ref p∧y=.int i∧SqT K H p xs∧atI xs i=some v∧Q v H
def rIxS:R2:=fun x y H Q=>∃ z i c,x=.str z∧y=.int i∧z.length≤sizeLine∧atI z.cps.toList i=some c∧Q (.str ⟨#[c]⟩) H
theorem ix_list:IxR X (rIxL X.K):=by
 intro value slice pins s σ H x y v u Q I rx ry h hs
 obtain ⟨p,xs,i,z,rfl,rfl,hq,he,q⟩:=h
 cases rx
 obtain ⟨t,rfl⟩:=ry
 obtain ⟨its,r,pl,hz⟩:=I.list hq
 obtain ⟨j,h1,h2,h3,h4,h5⟩:=atI_get he
 obtain ⟨w,ew,rw'⟩:=r.get h2
 have hl:=r.length
 have hn:=line63
 have fin:EP X pins σ Q w s:=⟨z,H,I,rw',q⟩
 by_cases h0:0≤i
 ·have hj:i.toNat=j:=by
   rw [seqIndex_of h0 h5] at h1
   exact Option.some.inj h1
  exact item_listR pl.isList h0 (by omega) (by rw [hj];simpa using ew) fin hs
 ·have hj:(i+(its.toArray.size:Int)).toNat=j:=by
   rw [seqIndex_neg (by omega) h4] at h1
   rw [List.size_toArray,← hl]
   exact Option.some.inj h1
  exact subscriptTail_builtinR (x:=w) pl.isList.typeIs slot_list_getitem.lookup
   (wpAny_getItem_list_neg (Q:=fun r s'=>r=w∧EP X pins σ Q r s') pl.isList (by omega) (by rw [List.size_toArray] <;> omega) (by omega) (by rw [hj];simpa using ew) ⟨rfl,fin⟩) hs
theorem ix_tup:IxR X (rIxT X.K):=by
 intro value slice pins s σ H x y v u Q I rx ry h hs
 obtain ⟨p,xs,i,z,rfl,rfl,hq,he,q⟩:=h
 cases rx
 obtain ⟨t,rfl⟩:=ry
 obtain ⟨its,r,pl,hz⟩:=I.tuple hq
 obtain ⟨j,h1,h2,h3,h4,h5⟩:=atI_get he
 obtain ⟨w,ew,rw'⟩:=r.get h2
 have hl:=r.length
 have hn:=line63
 have fin:EP X pins σ Q w s:=⟨z,H,I,rw',q⟩
 exact subscriptTail_builtinR (x:=w) pl.typeIs slot_tuple_getitem.lookup
  (getItem_tuple (j:=j) (Q:=fun r s'=>r=w∧EP X pins σ Q r s') pl (by omega) (by omega) (by rw [List.size_toArray,← hl];exact h1) (by simpa using ew) ⟨rfl,fin⟩) hs
theorem ix_str:IxR X rIxS:=by
 intro value slice pins s σ H x y v u Q I rx ry h hs
 obtain ⟨z,i,c,rfl,rfl,hz,he,q⟩:=h
 obtain ⟨t,rfl⟩:=rx
 obtain ⟨t',rfl⟩:=ry
 obtain ⟨j,h1,h2,h3,h4,h5⟩:=atI_get he
 have hl:z.cps.toList.length=z.length:=by simp [Str.length]
 rw [hl] at h1 h4 h5
 have hn:=line63
 exact tail_any (typeIs_str s z t) slot_str_getitem.lookup (getItem_str (c:=c) (by
  have e1:decide (i < -(2 ^ 63:Int))=false:=decide_eq_false (by omega)
  have e2:decide (i ≥ 2 ^ 63)=false:=decide_eq_false (by omega)
  rw [e1,e2,Bool.or_false]) (by rw [h1];simpa using h2) ⟨.str ⟨#[c]⟩,H,I.tok _,⟨_,rfl⟩,q⟩) hs
def rIx (K:PySem.W.Frag):R2:=fun x y H Q=>rIxL K x y H Q∨rIxT K x y H Q∨rIxS x y H Q
theorem ix_seq:IxR X (rIx X.K):=ix_list.or (ix_tup.or ix_str)
theorem mapSeq_set (its:List Value) (n j:Nat) (u:Value):Obj.mapSeq (·.setIfInBounds j u) { cls:=.type "list",data:=.seq its.toArray n }={ cls:=.type "list",data:=.seq (its.set j u).toArray n }:=by
 simp [Obj.mapSeq]
theorem Inv.lst {pins:List (Addr × Obj)}{σ:St}{H:Hp}{s:Shared}{p:Addr}{xs:List V} (I:Inv X pins σ H s) (h:H p=some (.lst xs)) :
  ∃ (its:List Value) (n:Nat),Vals xs its∧s.heap.get? p=some { cls:=.type "list",data:=.seq its.toArray n }∧xs.length≤sizeLine:=by
 obtain ⟨z,its,n,r,e⟩:=I.hok p _ h
 exact ⟨its,n,r,e,z⟩
theorem Inv.lstUpd {pins:List (Addr × Obj)}{σ:St}{H:Hp}{s:Shared}{p:Addr}{xs ys:List V}{its its':List Value}{n n':Nat}{f:Obj→Obj} (I:Inv X pins σ H s) (h:H p=some (.lst xs))
  (ho:s.heap.get? p=some { cls:=.type "list",data:=.seq its.toArray n }) (hf:f { cls:=.type "list",data:=.seq its.toArray n }={ cls:=.type "list",data:=.seq its'.toArray n' }) (r:Vals ys its') (hz:ys.length≤sizeLine) (t:Nat) :
  Inv X pins σ (upd H p (.lst ys)) { s with heap:=s.heap.update p f,toks:=t }:=by
 have e:(s.heap.update p f).get? p=some { cls:=.type "list",data:=.seq its'.toArray n' }:=by
  rw [Heap.get?_update_self f ho (by rw [hf] <;> rfl),hf]
 refine I.write (x:=p) (e:=p) (by rw [h];trivial) (.inl rfl) (fun b u hb q=>(Heap.get?_update_other _ _ (Ne.symm hb)).trans q) ⟨_,e⟩ ?_
 exact ⟨hz,its',n',r,e⟩
def rSetL:V→V→V→Hp→(Hp→Prop)→Prop:=fun o i v H Q=>∃ p xs k j,o=.ref p∧i=.int k∧H p=some (.lst xs)∧ixN xs.length k=some j∧Q (upd H p (.lst (xs.set j v)))
theorem set_list:PSet X rSetL:=by
 intro pins s σ H o i v ov iv u Q I ro ri rv h
 obtain ⟨p,xs,k,j,rfl,rfl,hp,hj,q⟩:=h
 cases ro
 obtain ⟨t,rfl⟩:=ri
 obtain ⟨its,n,r,ho,hz⟩:=I.lst hp
 obtain ⟨h1,h2,h3,h4⟩:=ixN_seq hj
 have hl:=r.length
 have hn:=line63
 have I':Inv X pins σ (upd H p (.lst (xs.set j v))) { s with heap:=s.heap.update p (Obj.mapSeq (·.setIfInBounds j u)) } :=
  I.lstUpd hp ho (mapSeq_set its n j u) (r.set rv j) (by rw [List.length_set];exact hz) s.toks
 by_cases h0:0≤k
 ·have hk:k.toNat=j:=by
   rw [seqIndex_of h0 h4] at h1
   exact Option.some.inj h1
  exact PySem.W.ki_setAt ho h0 (by omega) (by rw [List.size_toArray,← hl];exact h4) (by rw [hk];exact ⟨_,I',q⟩)
 ·have hk:(k+(its.toArray.size:Int)).toNat=j:=by
   rw [seqIndex_neg (by omega) h3] at h1
   rw [List.size_toArray,← hl]
   exact Option.some.inj h1
  exact PySem.W.ki_setBack ho (by omega) (by rw [List.size_toArray,← hl];exact h3) (by omega) (by rw [hk];exact ⟨_,I',q⟩)
theorem slice_bounds (lo hi:Option Int) (n:Nat):(sliceBounds lo hi none n).1=((HT.sIx n 0 lo:Nat):Int)∧(sliceBounds lo hi none n).2.1=((HT.sIx n n hi:Nat):Int)∧(sliceBounds lo hi none n).2.2=1:=by
 refine ⟨?_,?_,rfl⟩
 ·cases lo with
  | none=>simp [sliceBounds,HT.sIx]
  | some i =>
   simp only [sliceBounds,HT.sIx,Option.getD_none,show (1:Int) > 0 by decide,if_true]
   by_cases h:i<0
   ·simp only [h,if_true] <;> omega
   ·simp only [h,if_false] <;> omega
 ·cases hi with
  | none=>simp [sliceBounds,HT.sIx]
  | some i =>
   simp only [sliceBounds,HT.sIx,Option.getD_none,show (1:Int) > 0 by decide,if_true]
   by_cases h:i<0
   ·simp only [h,if_true] <;> omega
   ·simp only [h,if_false] <;> omega
theorem slicePick_cut (its:List Value) (lo hi:Option Int):slicePick its.toArray lo hi none=((its.drop (HT.sIx its.length 0 lo)).take (HT.sIx its.length its.length hi - HT.sIx its.length 0 lo)).toArray:=by
 obtain ⟨h1,h2,h3⟩:=slice_bounds lo hi its.toArray.size
 unfold slicePick
 rw [h1,h2,h3]
 simp only [sliceRange_one,pick_run,List.size_toArray] <;> rfl
def rSlL (K:PySem.W.Frag):V→Option Int→Option Int→Hp→VK→Prop:=fun x lo hi H Q=>∃ a xs,x=.ref a∧SqL K H a xs∧∀ p,H p=none→Q (.ref p) (upd H p (.lst (cutV xs lo hi)))
theorem sl_list:SlR X (rSlL X.K):=by
 intro pins s σ H x v vl vu lo hi sl Q I rx hs pl pu h
 obtain ⟨a,xs,rfl,hx,q⟩:=h
 cases rx
 obtain ⟨its,r,ht,hz⟩:=I.list hx
 have hlen:=r.length
 refine ⟨"list",_,slot_list_getitem.lookup,ht.isList.typeIs,?_⟩
 refine wpAny_getItem_list_slice ht.isList hs pl pu .none (by simp) ?_ (by rw [List.size_toArray] <;> omega)
 rw [slicePick_cut,← hlen]
 refine ⟨.ref s.heap.objs.size,_,I.laid (t':=s.toks) (o:=.lst (cutV xs lo hi)) (fun b ob q=>Heap.get?_push_of_some _ q) (Nat.le_refl _) ?_,rfl,q _ (I.hok.fresh (Nat.le_refl _))⟩
 exact ⟨Nat.le_trans (cutV_length xs lo hi) hz,_,0,(r.drop (HT.sIx xs.length 0 lo)).take (HT.sIx xs.length xs.length hi - HT.sIx xs.length 0 lo),Heap.get?_push_size _ rfl⟩
def flatV:V→Bool
 | .non=>true
 | .bl _=>true
 | .int _=>true
 | .str _=>true
 | _=>false
def eqV:V→V→Bool
 | .non,.non=>true
 | .bl a,.bl b=>a == b
 | .bl a,.int b=>(if a then 1 else 0) == b
 | .int a,.bl b=>a == (if b then 1 else 0)
 | .int a,.int b=>a == b
 | .str a,.str b=>a == b
 | _,_=>false
theorem eqAt_V {A:Around}{s:Shared}{y x:V}{u v:Value} (ry:RelV y u) (rx:RelV x v) (fy:flatV y=true) (fx:flatV x=true):SeqAt.EqAt A s u v (eqV y x):=by
 cases y with
 | non =>
  cases ry
  cases x with
  | non=>cases rx;exact SeqAt.EqAt.same _
  | bl b=>cases rx;exact SeqAt.EqAt.none_bool b
  | int b=>obtain ⟨t,rfl⟩:=rx;exact SeqAt.EqAt.none_int b t
  | str b=>obtain ⟨t,rfl⟩:=rx;exact SeqAt.EqAt.none_str b t
  | _=>exact absurd (show false=true from fx) Bool.false_ne_true
 | bl a =>
  cases ry
  cases x with
  | non=>cases rx;exact SeqAt.EqAt.bool_none a
  | bl b=>cases rx;exact SeqAt.EqAt.bool_bool a b
  | int b=>obtain ⟨t,rfl⟩:=rx;exact SeqAt.EqAt.bool_int a b t
  | str b=>obtain ⟨t,rfl⟩:=rx;exact SeqAt.EqAt.bool_str a b t
  | _=>exact absurd (show false=true from fx) Bool.false_ne_true
 | int a =>
  obtain ⟨t',rfl⟩:=ry
  cases x with
  | non=>cases rx;exact SeqAt.EqAt.int_none a t'
  | bl b=>cases rx;exact SeqAt.EqAt.int_bool a t' b
  | int b=>obtain ⟨t,rfl⟩:=rx;exact SeqAt.EqAt.int_int a t' b t
  | str b=>obtain ⟨t,rfl⟩:=rx;exact SeqAt.EqAt.int_str a t' b t
  | _=>exact absurd (show false=true from fx) Bool.false_ne_true
 | str a =>
  obtain ⟨t',rfl⟩:=ry
  cases x with
  | non=>cases rx;exact SeqAt.EqAt.str_none a t'
  | bl b=>cases rx;exact SeqAt.EqAt.str_bool a t' b
  | int b=>obtain ⟨t,rfl⟩:=rx;exact SeqAt.EqAt.str_int a t' b t
  | str b=>obtain ⟨t,rfl⟩:=rx;exact SeqAt.EqAt.str_str a t' b t
  | _=>exact absurd (show false=true from fx) Bool.false_ne_true
 | _=>exact absurd (show false=true from fy) Bool.false_ne_true
def eqU (x:V) (u:Value):Bool:=match u with
 | .none=>eqV .non x
 | .bool b=>eqV (.bl b) x
 | .int i _=>eqV (.int i) x
 | .str z _=>eqV (.str z) x
 | _=>false
theorem eqU_of {x y:V}{u:Value} (r:RelV y u) (f:flatV y=true):eqU x u=eqV y x:=by
 cases y with
 | non=>cases r;rfl
 | bl b=>cases r;rfl
 | int i=>obtain ⟨t,rfl⟩:=r;rfl
 | str z=>obtain ⟨t,rfl⟩:=r;rfl
 | _=>exact absurd (show false=true from f) Bool.false_ne_true
theorem any_eqU {x:V}:∀ {xs:List V}{us:List Value},Vals xs us→xs.all flatV=true→us.any (eqU x)=xs.any fun y=>eqV y x
 | _,_,.nil,_=>rfl
 | y :: xs,u :: us,.cons r t,f=>by
  rw [List.all_cons,Bool.and_eq_true] at f
  rw [List.any_cons,List.any_cons,eqU_of r f.1,any_eqU t f.2]
theorem mem_eqAt {A:Around}{s:Shared}{x:V}{v:Value} (rx:RelV x v) (fx:flatV x=true):∀ {xs:List V}{us:List Value},Vals xs us→xs.all flatV=true→∀ u∈us,SeqAt.EqAt A s u v (eqU x u)
 | _,_,.nil,_=>fun u hu=>by cases hu
 | y :: xs,u :: us,.cons r t,f=>fun u' hu=>by
  rw [List.all_cons,Bool.and_eq_true] at f
  rcases List.mem_cons.mp hu with rfl | hu
  ·rw [eqU_of r f.1];exact eqAt_V r rx f.1 fx
  ·exact mem_eqAt rx fx t f.2 u' hu
def inV (x:V) (xs:List V):Bool:=xs.any fun y=>eqV y x
def rIn (K:PySem.W.Frag) (neg:Bool):R2:=fun x y H Q=>∃ p xs,y=.ref p∧(SqL K H p xs∨SqT K H p xs)∧flatV x=true∧xs.all flatV=true∧Q (.bl (if neg then !inV x xs else inV x xs)) H
theorem op_in_seq:OpR X (compareOp .In) (rIn X.K false):=by
 intro pins s σ H x y v u Q I rx ry h
 obtain ⟨p,xs,rfl,hq,fx,fs,q⟩:=h
 cases ry
 rcases hq with hq | hq
 ·obtain ⟨its,r,pl,hz⟩:=I.list hq
  refine SeqAt.in_listAt (eqU x) pl.isList (fun w hw=>mem_eqAt rx fx r fs w (by simpa using hw)) ⟨.bl _,H,I,rfl,?_⟩
  rw [show its.toArray.any (eqU x)=its.any (eqU x) by simp,any_eqU r fs]
  exact q
 ·obtain ⟨its,r,pl,hz⟩:=I.tuple hq
  refine SeqAt.in_tupleAt (eqU x) pl (fun w hw=>mem_eqAt rx fx r fs w (by simpa using hw)) ⟨.bl _,H,I,rfl,?_⟩
  rw [show its.toArray.any (eqU x)=its.any (eqU x) by simp,any_eqU r fs]
  exact q
theorem op_notIn_seq:OpR X (compareOp .NotIn) (rIn X.K true):=by
 intro pins s σ H x y v u Q I rx ry h
 obtain ⟨p,xs,rfl,hq,fx,fs,q⟩:=h
 cases ry
 rcases hq with hq | hq
 ·obtain ⟨its,r,pl,hz⟩:=I.list hq
  refine SeqAt.notIn_listAt (eqU x) pl.isList (fun w hw=>mem_eqAt rx fx r fs w (by simpa using hw)) ⟨.bl _,H,I,rfl,?_⟩
  rw [show its.toArray.any (eqU x)=its.any (eqU x) by simp,any_eqU r fs]
  exact q
 ·obtain ⟨its,r,pl,hz⟩:=I.tuple hq
  refine SeqAt.notIn_tupleAt (eqU x) pl (fun w hw=>mem_eqAt rx fx r fs w (by simpa using hw)) ⟨.bl _,H,I,rfl,?_⟩
  rw [show its.toArray.any (eqU x)=its.any (eqU x) by simp,any_eqU r fs]
  exact q
theorem op_notIn_str:OpR X (compareOp .NotIn) (fun x y H Q=>∃ i j,x=.str i∧y=.str j∧Q (.bl (!(!(Builtin.Str.occurrences j i 0 j.length 1).isEmpty))) H):=by
 intro pins s σ H x y v u Q I rx ry h
 obtain ⟨i,j,rfl,rfl,q⟩:=h
 obtain ⟨t,rfl⟩:=rx
 obtain ⟨t',rfl⟩:=ry
 exact notIn_str ⟨.bl _,H,I,rfl,q⟩
theorem call_len_seq:CallR X (.builtin "len") (fun xs H Q=>∃ p ys,xs=[.ref p]∧(SqL X.K H p ys∨SqT X.K H p ys)∧Q (.int ys.length) H):=by
 intro pins s σ H xs us Q I r h
 obtain ⟨p,ys,rfl,hq,q⟩:=h
 obtain ⟨u,rfl,rx⟩:=vals1 r
 cases rx
 have hn:=line63
 rcases hq with hq | hq
 ·obtain ⟨its,r',pl,hz⟩:=I.list hq
  have hlen:=r'.length
  exact Calls.call_len_list pl.isList (by simp only [List.size_toArray] <;> omega) ⟨.int ys.length,H,I.tok _,⟨s.toks+1,by rw [List.size_toArray,hlen]⟩,q⟩
 ·obtain ⟨its,r',pl,hz⟩:=I.tuple hq
  have hlen:=r'.length
  exact len_tuple pl (by simp only [List.size_toArray] <;> omega) ⟨.int ys.length,H,I.tok _,⟨s.toks+1,by rw [List.size_toArray,hlen]⟩,q⟩
theorem call_len_str:CallR X (.builtin "len") (fun xs H Q=>∃ z,xs=[.str z]∧z.length≤sizeLine∧Q (.int z.length) H):=by
 intro pins s σ H xs us Q I r h
 obtain ⟨z,rfl,hz,q⟩:=h
 obtain ⟨u,rfl,t,rfl⟩:=vals1 r
 have hn:=line63
 exact len_str (by omega) ⟨.int z.length,H,I.tok _,⟨_,rfl⟩,q⟩
theorem call_list_of:CallR X (.type "list") (fun xs H Q=>∃ p ys,xs=[.ref p]∧(SqL X.K H p ys∨SqT X.K H p ys)∧∀ l,H l=none→Q (.ref l) (upd H l (.lst ys))):=by
 intro pins s σ H xs us Q I r h
 obtain ⟨p,ys,rfl,hq,q⟩:=h
 obtain ⟨u,rfl,rx⟩:=vals1 r
 cases rx
 have fin:∀ (its:List Value),Vals ys its→ys.length≤sizeLine→∀ (h':Heap) (c':Nat),(∀ b o',s.heap.get? b=some o'→h'.get? b=some o') →
   h'.get? s.heap.objs.size=some { cls:=.type "list",dict:=none,data:=.seq its.toArray c',slots:=#[] }→EP X pins σ Q (.ref s.heap.objs.size) { s with heap:=h' }:=fun its r' hz h' c' kp e =>
  ⟨.ref s.heap.objs.size,_,I.laid (t':=s.toks) kp (Nat.le_refl _) (show ObjOk X.prog X.w _ h' _ (.lst ys) from ⟨hz,its,c',r',e⟩),rfl,q _ (I.hok.fresh (Nat.le_refl _))⟩
 rcases hq with hq | hq
 ·obtain ⟨its,r',pl,hz⟩:=I.list hq
  have hlen:=r'.length
  obtain ⟨o,ho,hc,n,hd⟩:=pl.isList
  exact call_list_seq p (.inl rfl) ho hc hd (fun h' c' kp e=>fin its r' hz h' c' kp e) (by simp only [List.size_toArray] <;> omega)
 ·obtain ⟨its,r',pl,hz⟩:=I.tuple hq
  have hlen:=r'.length
  obtain ⟨o,ho,hc,n,hd⟩:=pl
  exact call_list_seq p (.inr rfl) ho hc hd (fun h' c' kp e=>fin its r' hz h' c' kp e) (by simp only [List.size_toArray] <;> omega)
def tyV (K:PySem.W.Frag) (T:String) (x:V) (H:Hp):Prop:=match x with
 | .str _=>T = "str"
 | .int _=>T = "int"
 | .ref p=>(T = "list" ∧ ∃ xs,SqL K H p xs)∨(T = "tuple" ∧ ∃ o,K.lookup p=some o∧o.cls=.type "tuple" ∧ o.dict=none) ∨
   (T = "dict" ∧ ((∃ kvs,H p=some (.dK kvs))∨∃ kvs,H p=some (.dT kvs)))∨(T = "set" ∧ ∃ S n,H p=some (.set S n))
 | _=>False
theorem tyV_is {pins:List (Addr × Obj)}{σ:St}{H:Hp}{s:Shared}{T:String}{x:V}{v:Value} (I:Inv X pins σ H s) (r:RelV x v) (ty:tyV X.K T x H) :
  s.TypeIs v T∧∀ a,v=.ref a→∃ ob,s.heap.get? a=some ob∧ob.dict=none:=by
 cases x with
 | str z =>
  obtain ⟨t,rfl⟩:=r
  cases (show T = "str" from ty)
  exact ⟨typeIs_str s z t,fun _ e=>nomatch e⟩
 | int i =>
  obtain ⟨t,rfl⟩:=r
  cases (show T = "int" from ty)
  exact ⟨typeIs_int s i t,fun _ e=>nomatch e⟩
 | ref p =>
  cases r
  rcases ty with ⟨rfl,xs,hq⟩ | ⟨rfl,o,hk,hc,hd⟩ | ⟨rfl,hk⟩ | ⟨rfl,S,n,hk⟩
  ·obtain ⟨its,_,pl,_⟩:=I.list hq
   refine ⟨pl.isList.typeIs,fun a e=>?_⟩
   cases e
   obtain ⟨o,n,e,c,hd,_⟩:=pl
   exact ⟨o,e,hd⟩
  ·refine ⟨⟨o,I.kIn p o hk,hc⟩,fun a e=>?_⟩
   cases e
   exact ⟨o,I.kIn _ o hk,hd⟩
  ·have z:∃ o,s.heap.get? p=some o∧o.ExactDict:=by
    rcases hk with ⟨kvs,hk⟩ | ⟨kvs,hk⟩
    ·obtain ⟨_,_,_,_,o,_,_,e,ex,_⟩:=I.hok p _ hk
     exact ⟨o,e,ex⟩
    ·obtain ⟨_,_,_,_,o,_,_,e,ex,_⟩:=I.hok p _ hk
     exact ⟨o,e,ex⟩
   obtain ⟨o,e,ex⟩:=z
   refine ⟨⟨o,e,ex.1⟩,fun a e2=>?_⟩
   cases e2
   exact ⟨o,e,ex.2.1⟩
  ·obtain ⟨o,_,_,_,e,ex,_⟩:=I.hok p _ hk
   refine ⟨⟨o,e,ex.1⟩,fun a e2=>?_⟩
   cases e2
   exact ⟨o,e,ex.2.1⟩
 | _=>exact False.elim ty
def tBM0 (K:PySem.W.Frag) (T:String) (r:V→List V→Hp→VK→Prop) (to:TE):TE:=fun σ H Q=>to σ H fun x H1=>tyV K T x H1∧r x [] H1 Q
def tBM (K:PySem.W.Frag) (T:String) (r:V→List V→Hp→VK→Prop) (to:TE) (t:TA):TE:=fun σ H Q=>to σ H fun x H1=>tyV K T x H1∧t σ H1 fun xs H2=>r x xs H2 Q
variable {o e:Expr}{es:List Expr}{to:TE}{t:TA}{name:Str}{apos cpos:Pos}{T id:String}{r:V→List V→Hp→VK→Prop}
theorem pe_bm0 (pa:PlainAttrs T) (slot:Slot T name id) (hty:typeOf (.builtin id)=pure (.type "method_descriptor")) (hm:MtR X id r) (ho:PE X o to)
  (hbase:attributeBase o name X.env (eval o X.env)=eval o X.env:=by rfl) (hline:(apos.endLine == cpos.line)=true:=by rfl):PE X (.Call (.Attribute o name apos) [] [] cpos) (tBM0 X.K T r to):=by
 intro pins s σ H Q I h
 refine wpAny_Call_method0_late hbase hline (thn (ho pins s σ H _ I h) fun v s1 ⟨x,H1,I1,r1,ty,q1⟩=>?_)
 obtain ⟨h1,h2⟩:=tyV_is I1 r1 ty
 exact ⟨T,id,pa,slot,hty,h1,h2,Calls.callWith_builtin rfl (PySem.evalArgs_none (hm pins s1 σ H1 x [] v [] Q I1 r1 .nil q1))⟩
theorem pe_bm (pa:PlainAttrs T) (slot:Slot T name id) (hty:typeOf (.builtin id)=pure (.type "method_descriptor")) (hm:MtR X id r) (ho:PE X o to) (ha:PA X (e :: es) t)
  (hbase:attributeBase o name X.env (eval o X.env)=eval o X.env:=by rfl)
  (hfew:((backTo cpos (starEach (e :: es) X.env)).all (fun x=>!x.1) && (backToKw cpos (keywordEach [] X.env)).all (fun x=>x.1.isSome)
   && decide ((e :: es).length+([]:List Keyword).length+(if ([]:List Keyword).isEmpty then 0 else 1)<30))=true:=by rfl)
  (hline:(apos.endLine == cpos.line)=true:=by rfl) (hs:starEach (e :: es) X.env=(false,eval e X.env) :: starEach es X.env:=by rfl) (hplain:(backTo cpos (starEach es X.env)).any (·.1)=false:=by rfl) :
  PE X (.Call (.Attribute o name apos) (e :: es) [] cpos) (tBM X.K T r to t):=by
 intro pins s σ H Q I h
 refine wpAny_Call_method_late hbase hfew hline rfl (thn (ho pins s σ H _ I h) fun v s1 ⟨x,H1,I1,r1,ty,q1⟩=>?_)
 obtain ⟨h1,h2⟩:=tyV_is I1 r1 ty
 refine ⟨T,id,pa,slot,hty,h1,h2,?_⟩
 have hA:=ha cpos pins s1 σ H1 _ I1 q1
 rw [hs] at hA ⊢
 refine Calls.callWith_builtin (by show (false || (backTo cpos (starEach es X.env)).any (·.1))=false;rw [hplain] <;> rfl) (Calls.evalArgs_plain ?_)
 exact thn hA fun us s2 ⟨vs,H2,I2,r2,q2⟩=>hm pins s2 σ H2 x vs v us Q I2 r1 r2 q2
/- xs.append(e),list.index on a module's tuple .. are MtR facts of 06m -/
end
def MtM (X:Cx) (id:String) (r:V→List V→Hp→VK→Prop):Prop :=
 ∀ (pins:List (Addr × Obj)) (s:Shared) (σ:St) (H:Hp) (x:V) (xs:List V) (v:Value) (us:List Value) (Q:VK),Inv X pins σ H s→RelV x v→Vals xs us→r x xs H Q →
  wpAny (model X.prog X.w) X.A (call (.builtin id) (v :: us)) (EP X pins σ Q) X.xe s
theorem Vals.one:∀ {x:V}{us:List Value},Vals [x] us→∃ u,us=[u]∧RelV x u
 | _,_,.cons r .nil=>⟨_,rfl,r⟩
theorem Vals.two:∀ {x y:V}{us:List Value},Vals [x,y] us→∃ u v,us=[u,v]∧RelV x u∧RelV y v
 | _,_,_,.cons r (.cons q .nil)=>⟨_,_,rfl,r,q⟩
theorem Vals.zero:∀ {us:List Value},Vals [] us→us=[]
 | _,.nil=>rfl
theorem Vals.dropLast {xs:List V}{us:List Value} (h:Vals xs us):Vals xs.dropLast us.dropLast:=by
 induction h with
 | nil=>exact .nil
 | cons r t ih =>
  cases t with
  | nil=>exact .nil
  | cons q t'=>exact .cons r ih
theorem Vals.eraseIdx:∀ {xs:List V}{us:List Value} (i:Nat),Vals xs us→Vals (xs.eraseIdx i) (us.eraseIdx i)
 | _,_,_,.nil=>.nil
 | _,_,0,.cons _ t=>t
 | _,_,i+1,.cons r t=>.cons r (Vals.eraseIdx i t)
theorem Vals.reverse {xs:List V}{us:List Value} (h:Vals xs us):Vals xs.reverse us.reverse:=by
 induction h with
 | nil=>exact .nil
 | cons r t ih=>rw [List.reverse_cons,List.reverse_cons];exact Vals.append ih (.cons r .nil)
theorem erase_last {α:Type} (l:List α):l.eraseIdx (l.length - 1)=l.dropLast:=by
 induction l with
 | nil=>rfl
 | cons a r ih =>
  cases r with
  | nil=>rfl
  | cons b r =>
   have e:(a :: b :: r).length - 1=((b :: r).length - 1)+1:=by
    have h1:(a :: b :: r).length=r.length+2:=rfl
    have h2:(b :: r).length=r.length+1:=rfl
    omega
   rw [e,List.eraseIdx_cons_succ,ih]
   all_goals rfl
section
variable {X:Cx}{pins:List (Addr × Obj)}{σ:St}{H:Hp}{s:Shared}{l b:Addr}{xs ys zs:List V}
theorem Inv.lset {its its':List Value}{n:Nat}{f:Array Value→Array Value}{t':Nat} (I:Inv X pins σ H s) (hH:H l=some (.lst xs))
  (e:s.heap.get? l=some { cls:=.type "list",data:=.seq its.toArray n }) (hf:f its.toArray=its'.toArray) (hv:Vals ys its') (hz:ys.length≤sizeLine) :
  Inv X pins σ (upd H l (.lst ys)) { s with heap:=s.heap.update l (Obj.mapSeq f),toks:=t' }:=by
 have q:=PySem.IsL.update e f
 rw [hf] at q
 refine I.write (x:=l) (e:=l) (by rw [hH];exact trivial) (.inl rfl) (fun b' u hb hu=>(Heap.get?_update_other s.heap (Obj.mapSeq f) (Ne.symm hb)).trans hu) ⟨_,q⟩ ?_
 exact ⟨hz,its',_,hv,q⟩
theorem Inv.lnew {its:List Value}{t':Nat} (I:Inv X pins σ H s) (hv:Vals ys its) (hz:ys.length≤sizeLine) :
  Inv X pins σ (upd H s.heap.objs.size (.lst ys)) { s with heap:=s.heap.push { cls:=.type "list",data:=.seq its.toArray },toks:=t' } :=
 I.laid (fun _ _ q=>Heap.get?_push_of_some _ q) (Nat.le_refl _) ⟨hz,its,0,hv,Heap.get?_push_size _ rfl⟩
theorem Inv.fresh (I:Inv X pins σ H s):H s.heap.objs.size=none:=I.hok.fresh (Nat.le_refl _)
theorem Inv.lstM (I:Inv X pins σ H s) (hH:H l=some (.lst xs)):xs.length≤sizeLine∧∃ (its:List Value) (n:Nat),Vals xs its∧xs.length=its.length∧s.heap.get? l=some { cls:=.type "list",data:=.seq its.toArray n }:=by
 obtain ⟨z,its,n,r,e⟩:=I.hok l _ hH
 exact ⟨z,its,n,r,r.length,e⟩
theorem notLongL {n:Nat} (h:n≤sizeLine):Builtin.List.listTooLong n=false:=by
 unfold Builtin.List.listTooLong
 exact decide_eq_false (by omega)
end
section
variable {X:Cx}
def rAppend:V→List V→Hp→VK→Prop:=fun x vs H Q=>∃ l xs y,x=.ref l∧vs=[y]∧H l=some (.lst xs)∧xs.length<sizeLine∧Q .non (upd H l (.lst (xs ++ [y])))
theorem mt_append:MtM X "list.append" rAppend:=by
 intro pins s σ H x vs v us Q I rx rv h
 obtain ⟨l,xs,y,rfl,rfl,hH,hz,q⟩:=h
 cases rx
 obtain ⟨u,rfl,ru⟩:=rv.one
 obtain ⟨z,its,n,r,hl,e⟩:=I.lstM hH
 refine call_meets F.slot_list_append ⟨_,e,rfl⟩ F.entry_list_append (F.args_list_append_2 _ _) (PySem.list_append l its.toArray n u (by rw [List.size_toArray];omega)) ⟨e,?_⟩
 refine ⟨.non,_,I.lset (its':=its ++ [u]) hH e (by simp) (r.append (.cons ru .nil)) ?_,rfl,q⟩
 rw [List.length_append,List.length_singleton]
 omega
def rExtend:V→List V→Hp→VK→Prop:=fun x vs H Q=>∃ l b xs zs,x=.ref l∧vs=[.ref b]∧H l=some (.lst xs)∧H b=some (.lst zs)∧xs.length+zs.length≤sizeLine∧Q .non (upd H l (.lst (xs ++ zs)))
theorem mt_extend:MtM X "list.extend" rExtend:=by
 intro pins s σ H x vs v us Q I rx rv h
 obtain ⟨l,b,xs,zs,rfl,rfl,hH,hB,hz,q⟩:=h
 cases rx
 obtain ⟨u,rfl,ru⟩:=rv.one
 cases ru
 obtain ⟨z,its,n,r,hl,e⟩:=I.lstM hH
 obtain ⟨z2,its2,n2,r2,hl2,e2⟩:=I.lstM hB
 have hsz:its.toArray.size+its2.toArray.size≤sizeLine:=by rw [List.size_toArray,List.size_toArray];omega
 have hlong:¬ (!its.toArray.isEmpty && Builtin.List.listTooLong (its.toArray.size+its2.toArray.size))=true:=by
  rw [notLongL hsz,Bool.and_false]
  exact Bool.false_ne_true
 refine call_meets F.slot_list_extend ⟨_,e,rfl⟩ F.entry_list_extend (F.args_list_extend_2 _ _)
  (AutoSeq1.list_extend_list_list_0 l its.toArray n b its2.toArray n2 hlong (by rw [List.size_toArray];omega) (by omega)) ⟨e,e2,?_⟩
 refine ⟨.non,_,I.lset (its':=its ++ its2) hH e (by simp) (r.append r2) ?_,rfl,q⟩
 rw [List.length_append]
 omega
def rPop:V→List V→Hp→VK→Prop:=fun x vs H Q=>∃ l xs y,x=.ref l∧vs=[]∧H l=some (.lst xs)∧xs[xs.length - 1]? = some y∧Q y (upd H l (.lst xs.dropLast))
theorem mt_pop:MtM X "list.pop" rPop:=by
 intro pins s σ H x vs v us Q I rx rv h
 obtain ⟨l,xs,y,rfl,rfl,hH,hy,q⟩:=h
 cases rx
 have hus:=rv.zero
 subst hus
 obtain ⟨z,its,n,r,hl,e⟩:=I.lstM hH
 obtain ⟨u,hu,ru⟩:=r.get hy
 have hy':its.toArray[its.toArray.size - 1]? = some u:=by
  show its.toArray[its.length - 1]? = some u
  rw [← Array.getElem?_toList,← hl]
  exact hu
 refine call_meets F.slot_list_pop ⟨_,e,rfl⟩ F.entry_list_pop (F.args_list_pop_1 _) (MeetsSeq.list_pop_last l its.toArray n u hy' (by rw [List.size_toArray];omega)) ⟨e,?_⟩
 refine ⟨y,_,I.lset (its':=its.dropLast) hH e ?_ r.dropLast ?_,ru,q⟩
 ·show its.toArray.eraseIdxIfInBounds (its.toArray.size - 1)=its.dropLast.toArray
  rw [List.size_toArray,List.eraseIdxIfInBounds_toArray,erase_last]
 ·rw [List.length_dropLast]
  omega
def rCat:R2:=fun x y H Q=>∃ l b xs zs,x=.ref l∧y=.ref b∧H l=some (.lst xs)∧H b=some (.lst zs)∧xs.length+zs.length≤sizeLine∧∀ p,H p=none→Q (.ref p) (upd H p (.lst (xs ++ zs)))
theorem op_cat:OpR X (binaryOp .Add) rCat:=by
 intro pins s σ H x y v u Q I rx ry h
 obtain ⟨l,b,xs,zs,rfl,rfl,hH,hB,hz,q⟩:=h
 cases rx
 cases ry
 obtain ⟨z,its,n,r,hl,e⟩:=I.lstM hH
 obtain ⟨z2,its2,n2,r2,hl2,e2⟩:=I.lstM hB
 refine PySem.P.add_list e e2 ?_ (by rw [List.size_toArray,List.size_toArray];omega)
 have ea:its.toArray ++ its2.toArray=(its ++ its2).toArray:=by simp
 rw [ea]
 exact ⟨.ref _,_,I.lnew (t':=s.toks) (r.append r2) (by rw [List.length_append];omega),rfl,q _ I.fresh⟩
end
section
variable {prog:Program}{w:World}{A:Around}{E:Value→Shared→Prop}{s:Shared}
end
section
variable {X:Cx}
end
section
variable {κ:Type} [DecidableEq κ]
def valV (kvs:List (κ × V)) (k:κ):Option V:=(kvs.find? fun kv=>decide (kv.1=k)).map (·.2)
def putK (kvs:List (κ × V)) (k:κ) (v:V):List (κ × V) :=
 if (kvs.any fun kv=>decide (kv.1=k))=true then kvs.map (fun kv=>if kv.1=k then (kv.1,v) else kv) else kvs ++ [(k,v)]
def dropK (kvs:List (κ × V)) (k:κ):List (κ × V):=kvs.filter fun kv=>decide (kv.1≠k)
theorem valV_pos {p:κ × V}{r:List (κ × V)}{k:κ} (e:p.1=k):valV (p :: r) k=some p.2:=by simp [valV,List.find?_cons,e]
theorem valV_neg {p:κ × V}{r:List (κ × V)}{k:κ} (e:¬ p.1=k):valV (p :: r) k=valV r k:=by simp [valV,List.find?_cons,e]
theorem valV_any (k:κ):∀ kvs:List (κ × V),(kvs.any fun kv=>decide (kv.1=k))=(valV kvs k).isSome
 | []=>rfl
 | p :: r=>by
  rw [List.any_cons]
  by_cases e:p.1=k
  ·simp only [valV_pos e,decide_eq_true e,Bool.true_or,Option.isSome_some]
  ·rw [valV_neg e,decide_eq_false e,Bool.false_or];exact valV_any k r
theorem length_putK (kvs:List (κ × V)) (k:κ) (v:V):(putK kvs k v).length≤kvs.length+1:=by
 unfold putK
 split
 ·rw [List.length_map];omega
 ·rw [List.length_append,List.length_cons,List.length_nil];omega
theorem RelO.isSome_eq {o:Option V}{u:Option Value} (r:RelO o u):o.isSome=u.isSome:=by
 cases o with
 | none=>cases u with
  | none=>rfl
  | some _=>exact (show False from r).elim
 | some _=>cases u with
  | none=>exact (show False from r).elim
  | some _=>rfl
theorem RelO.getD {o:Option V}{u:Option Value}{d:V}{d':Value} (r:RelO o u) (rd:RelV d d'):RelV (o.getD d) (u.getD d'):=by
 cases o with
 | none=>cases u with
  | none=>exact rd
  | some _=>exact (show False from r).elim
 | some _=>cases u with
  | none=>exact (show False from r).elim
  | some _=>exact r
theorem KV.val {kvs:List (κ × V)}{vs:List (κ × Value)} (r:KV kvs vs) (k:κ):RelO (valV kvs k) (valueAt vs k):=by
 unfold KV at r
 induction r with
 | nil=>exact True.intro
 | @cons p q ps qs h t ih =>
  obtain ⟨h1,h2⟩:=h
  by_cases e:p.1=k
  ·have e':q.1=k:=h1.symm.trans e
   have b:valueAt (q :: qs) k=some q.2:=by simp [valueAt,List.find?_cons,e']
   rw [valV_pos e,b];exact h2
  ·have e':¬ q.1=k:=fun z=>e (h1.trans z)
   have b:valueAt (q :: qs) k=valueAt qs k:=by simp [valueAt,List.find?_cons,e']
   rw [valV_neg e,b];exact ih
theorem KV.any {kvs:List (κ × V)}{vs:List (κ × Value)} (r:KV kvs vs) (k:κ):(kvs.any fun kv=>decide (kv.1=k))=vs.any fun kv=>decide (kv.1=k):=by
 unfold KV at r
 induction r with
 | nil=>rfl
 | cons h t ih=>rw [List.any_cons,List.any_cons,ih,h.1]
theorem KV.repl {kvs:List (κ × V)}{vs:List (κ × Value)} (r:KV kvs vs) (k:κ) {y:V}{u:Value} (ry:RelV y u) :
  KV (kvs.map fun kv=>if kv.1=k then (kv.1,y) else kv) (vs.map fun kv=>if kv.1=k then (kv.1,u) else kv):=by
 unfold KV at r ⊢
 induction r with
 | nil=>exact .nil
 | @cons p q ps qs h t ih =>
  rw [List.map_cons,List.map_cons]
  refine .cons ?_ ih
  obtain ⟨h1,h2⟩:=h
  by_cases e:p.1=k
  ·rw [if_pos e,if_pos (h1.symm.trans e)];exact ⟨h1,ry⟩
  ·rw [if_neg e,if_neg (fun z=>e (h1.trans z))];exact ⟨h1,h2⟩
theorem KV.put {kvs:List (κ × V)}{vs:List (κ × Value)} (r:KV kvs vs) (k:κ) {y:V}{u:Value} (ry:RelV y u):KV (putK kvs k y) (stored vs k u):=by
 unfold putK stored
 rw [r.any k]
 by_cases e:(vs.any fun kv=>decide (kv.1=k))=true
 ·rw [if_pos e,if_pos e];exact r.repl k ry
 ·rw [if_neg e,if_neg e];exact Paired.snoc r ⟨rfl,ry⟩
theorem KV.drop {kvs:List (κ × V)}{vs:List (κ × Value)} (r:KV kvs vs) (k:κ):KV (dropK kvs k) (without vs k):=by
 unfold KV at r ⊢
 unfold dropK without
 induction r with
 | nil=>exact .nil
 | @cons p q ps qs h t ih =>
  obtain ⟨h1,h2⟩:=h
  rw [List.filter_cons,List.filter_cons]
  by_cases e:p.1=k
  ·have a:¬ decide (p.1≠k)=true:=by simp [e]
   have b:¬ decide (q.1≠k)=true:=by simp [h1.symm.trans e]
   rw [if_neg a,if_neg b];exact ih
  ·have e':¬ q.1=k:=fun z=>e (h1.trans z)
   have a:decide (p.1≠k)=true:=by simp [e]
   have b:decide (q.1≠k)=true:=by simp [e']
   rw [if_pos a,if_pos b];exact .cons ⟨h1,h2⟩ ih
theorem KV.length {kvs:List (κ × V)}{vs:List (κ × Value)} (r:KV kvs vs):kvs.length=vs.length:=Paired.length r
theorem dropK_le (kvs:List (κ × V)) (k:κ):(dropK kvs k).length≤kvs.length:=List.length_filter_le _ _
end
theorem kV_is {P:Program}{w:World}{k:Key}{u:Value} (r:RelV (kV k) u):(mixKind P w).is k u=true:=by
 cases k with
 | inl i=>obtain ⟨t,e⟩:=(show ∃ t,u=Value.int i t from r);subst e;exact mixKind_int P w i t
 | inr x=>obtain ⟨t,e⟩:=(show ∃ t,u=Value.str x t from r);subst e;exact mixKind_str P w x t
theorem items_are {P:Program}{w:World}:∀ {ks:List Key}{us:List Value},Vals (ks.map kV) us→ItemsAre (mixKind P w) ks us
 | [],_,r=>by rw [List.map_nil] at r;cases r;exact .nil
 | k :: ks,_,r=>by
  rw [List.map_cons] at r
  cases r with
  | cons h t=>exact .cons (kV_is h) (items_are t)
abbrev KT (H:Hp):List (List Key × V)→List (List Key × Addr × Value)→Prop:=Paired fun p q=>p.1=q.1∧H q.2.1=some (.tup (p.1.map kV))∧RelV p.2 q.2.2
theorem KT.val {H:Hp}{kvs:List (List Key × V)}{xs:List (List Key × Addr × Value)} (r:KT H kvs xs) (k:List Key):RelO (valV kvs k) ((atKey xs k).map (·.2)):=by
 induction r with
 | nil=>exact True.intro
 | @cons p q ps qs h t ih =>
  obtain ⟨h1,_,h2⟩:=h
  by_cases e:p.1=k
  ·have e':q.1=k:=h1.symm.trans e
   have b:atKey (q :: qs) k=some q.2:=by simp [atKey,List.find?_cons,e']
   rw [valV_pos e,b];exact h2
  ·have e':¬ q.1=k:=fun z=>e (h1.trans z)
   have b:atKey (q :: qs) k=atKey qs k:=by simp [atKey,List.find?_cons,e']
   rw [valV_neg e,b];exact ih
theorem KT.repl {H:Hp}{kvs:List (List Key × V)}{xs:List (List Key × Addr × Value)} (r:KT H kvs xs) (k:List Key) {y:V}{u:Value} (ry:RelV y u) :
  KT H (kvs.map fun kv=>if kv.1=k then (kv.1,y) else kv) (xs.map (putAt k u)):=by
 induction r with
 | nil=>exact .nil
 | @cons p q ps qs h t ih =>
  rw [List.map_cons,List.map_cons]
  refine .cons ?_ ih
  obtain ⟨h1,h2,h3⟩:=h
  unfold putAt
  by_cases e:p.1=k
  ·rw [if_pos e,if_pos (h1.symm.trans e)];exact ⟨h1,h2,ry⟩
  ·rw [if_neg e,if_neg (fun z=>e (h1.trans z))];exact ⟨h1,h2,h3⟩
theorem KT.put {H:Hp}{kvs:List (List Key × V)}{xs:List (List Key × Addr × Value)} (r:KT H kvs xs) (k:List Key) {b:Addr}{y:V}{u:Value} (hb:H b=some (.tup (k.map kV))) (ry:RelV y u) :
  KT H (putK kvs k y) (storedH xs k b u):=by
 have e:(kvs.any fun kv=>decide (kv.1=k))=(atKey xs k).isSome:=by
  rw [valV_any,(r.val k).isSome_eq,Option.isSome_map]
 unfold putK storedH
 rw [e]
 by_cases q:(atKey xs k).isSome=true
 ·rw [if_pos q,if_pos q];exact r.repl k ry
 ·rw [if_neg q,if_neg q];exact Paired.snoc r ⟨rfl,hb,ry⟩
theorem KT.keeps {H H':Hp}{kvs:List (List Key × V)}{xs:List (List Key × Addr × Value)} (r:KT H kvs xs) (ht:∀ b ys,H b=some (.tup ys)→H' b=some (.tup ys)):KT H' kvs xs :=
 Paired.mapP r fun _ _ z=>⟨z.1,ht _ _ z.2.1,z.2.2⟩
section
variable {P:Program}{w:World}{H:Hp}{h:Heap}{a:Addr}
theorem rd_of {u:HO} (ok:HOk P w H h) (e:Rd H a u):ObjOk P w H h a u:=e.ok ok
theorem dk_rd {kvs:List (Key × V)} (ok:HOk P w H h) (e:Rd H a (.dK kvs)):kvs.length≤sizeLine∧(a == sysModules)=false∧∃ vs,KV kvs vs∧h.DictOf (mixKind P w) a vs :=
 show ObjOk P w H h a (.dK kvs) from rd_of ok e
theorem dk_of {kvs:List (Key × V)} (ok:HOk P w H h) (e:H a=some (.dK kvs)):kvs.length≤sizeLine∧(a == sysModules)=false∧∃ vs,KV kvs vs∧h.DictOf (mixKind P w) a vs:=dk_rd ok (.inl e)
theorem key_of {ks:List Key} (ok:HOk P w H h) (e:H a=some (.tup (ks.map kV))):(tupleKind (mixKind P w)).is h ks a:=by
 obtain ⟨_,its,r,o,h1,h2,n,h3⟩:=(show ObjOk P w H h a (.tup (ks.map kV)) from ok a _ e)
 exact ⟨o,its.toArray,n,h1,h2,h3,by simpa using items_are r⟩
theorem dt_rd {kvs:List (List Key × V)} (ok:HOk P w H h) (e:Rd H a (.dT kvs)):kvs.length≤sizeLine∧(a == sysModules)=false ∧
  ∃ xs,KT H kvs xs∧h.DictOfH (tupleKind (mixKind P w)) a xs:=by
 obtain ⟨z,y,xs,r,o,es,ep,h1,h2,h3,h4,h5⟩:=(show ObjOk P w H h a (.dT kvs) from rd_of ok e)
 refine ⟨z,y,xs,r,o,es,ep,h1,h2,h3,h4,fun x hx=>?_,h5⟩
 have all:∀ {l:List (List Key × V)}{m:List (List Key × Addr × Value)},KT H l m→∀ x∈m,(tupleKind (mixKind P w)).is h x.1 x.2.1:=by
  intro l m q
  induction q with
  | nil=>intro x hx;exact nomatch hx
  | @cons p q ps qs hq t ih =>
   intro x hx
   rcases List.mem_cons.mp hx with e | hx
   ·subst e
    exact key_of ok (by rw [← hq.1];exact hq.2.1)
   ·exact ih x hx
 exact all r x hx
theorem dt_of {kvs:List (List Key × V)} (ok:HOk P w H h) (e:H a=some (.dT kvs)):kvs.length≤sizeLine∧(a == sysModules)=false ∧
  ∃ xs,KT H kvs xs∧h.DictOfH (tupleKind (mixKind P w)) a xs:=dt_rd ok (.inl e)
end
def DGet (H:Hp) (a:Addr) (y:V) (r:Option V):Prop :=
 (∃ kvs k,Rd H a (.dK kvs)∧y=kV k∧r=valV kvs k)∨∃ kvs k b,Rd H a (.dT kvs)∧y=.ref b∧H b=some (.tup (k.map kV))∧r=valV kvs k
def DPut (H:Hp) (a:Addr) (y v:V) (H':Hp):Prop :=
 (∃ kvs k,H a=some (.dK kvs)∧y=kV k∧kvs.length<sizeLine∧H'=upd H a (.dK (putK kvs k v))) ∨
 ∃ kvs k b,H a=some (.dT kvs)∧y=.ref b∧H b=some (.tup (k.map kV))∧kvs.length<sizeLine∧H'=upd H a (.dT (putK kvs k v))
theorem DGet.k {H:Hp}{a:Addr}{kvs:List (Key × V)}{k:Key} (e:H a=some (.dK kvs)):DGet H a (kV k) (valV kvs k):=.inl ⟨kvs,k,.inl e,rfl,rfl⟩
theorem DGet.t {H:Hp}{a b:Addr}{kvs:List (List Key × V)}{k:List Key} (e:H a=some (.dT kvs)) (eb:H b=some (.tup (k.map kV))):DGet H a (.ref b) (valV kvs k):=.inr ⟨kvs,k,b,.inl e,rfl,eb,rfl⟩
theorem DPut.k {H:Hp}{a:Addr}{kvs:List (Key × V)}{k:Key}{v:V} (e:H a=some (.dK kvs)) (hl:kvs.length<sizeLine):DPut H a (kV k) v (upd H a (.dK (putK kvs k v))):=.inl ⟨kvs,k,e,rfl,hl,rfl⟩
theorem DPut.t {H:Hp}{a b:Addr}{kvs:List (List Key × V)}{k:List Key}{v:V} (e:H a=some (.dT kvs)) (eb:H b=some (.tup (k.map kV))) (hl:kvs.length<sizeLine) :
  DPut H a (.ref b) v (upd H a (.dT (putK kvs k v))):=.inr ⟨kvs,k,b,e,rfl,eb,hl,rfl⟩
section
variable {X:Cx}{pins:List (Addr × Obj)}{σ:St}{H:Hp}{s:Shared}{a:Addr}{y v:V}{u r:Value}{o:Option V}{A:Around}{E:Value→Shared→Prop}
theorem Inv.big (I:Inv X pins σ H s):sysModules<s.heap.objs.size:=by
 have h:mainGlobals<s.heap.objs.size:=(I.mod.glob.keeps I.bk).lt
 exact Nat.lt_trans (by decide) h
theorem d_getItem {Q:Value→Shared→Prop} (hu:A.units+1<cLine) (I:Inv X pins σ H s) (g:DGet H a y (some v)) (ry:RelV y u) (h:∀ w' s',Inv X pins σ H s'→RelV v w'→Q w' s') :
  wpAny (model X.prog X.w) A (getItem (.ref a) u) Q E s:=by
 rcases g with ⟨kvs,k,e,ey,l⟩ | ⟨kvs,k,b,e,ey,eb,l⟩
 ·subst ey
  obtain ⟨z,hd,vs,rel,dd⟩:=dk_rd I.hok e
  obtain ⟨w',hw,rw'⟩:=RelO.some_of (v:=v) (o:=valueAt vs k) (by rw [l];exact rel.val k)
  exact wpAny_getItem_of (kV_is ry) dd.mapOf hw (h w' _ (I.tok _) rw')
 ·subst ey
  cases (show u=Value.ref b from ry)
  obtain ⟨z,hd,xs,rel,dd⟩:=dt_rd I.hok e
  obtain ⟨w',hw,rw'⟩:=RelO.some_of (v:=v) (o:=(atKey xs k).map (·.2)) (by rw [l];exact rel.val k)
  obtain ⟨p,hp,hp2⟩:=Option.map_eq_some_iff.mp hw
  refine wpAny_getItem_heap (tupleKind_room_in1 hu) (key_of I.hok eb) dd hp ?_
  rw [hp2]
  exact h w' _ (I.tok _) rw'
theorem d_notIn {Q:Value→Shared→Prop} (hu:A.units+1<cLine) (I:Inv X pins σ H s) (g:DGet H a y o) (ry:RelV y u) (h:∀ s',Inv X pins σ H s'→Q (.bool (!o.isSome)) s') :
  wpAny (model X.prog X.w) A (compareOp .NotIn u (.ref a)) Q E s:=by
 rcases g with ⟨kvs,k,e,ey,l⟩ | ⟨kvs,k,b,e,ey,eb,l⟩
 ·subst ey
  obtain ⟨z,hd,vs,rel,dd⟩:=dk_rd I.hok e
  refine wpAny_notIn_of (kV_is ry) hd dd.mapOf ?_
  rw [← (rel.val k).isSome_eq,← l]
  exact h _ (I.tok _)
 ·subst ey
  cases (show u=Value.ref b from ry)
  obtain ⟨z,hd,xs,rel,dd⟩:=dt_rd I.hok e
  refine wpAny_notIn_heap (tupleKind_room_in1 hu) (key_of I.hok eb) hd dd ?_
  have q:=(rel.val k).isSome_eq
  rw [Option.isSome_map] at q
  rw [← q,← l]
  exact h _ (I.tok _)
theorem d_write {h':Heap}{t':Nat}{ob:HO} (I:Inv X pins σ H s) (mu:Mut (H a)) (hs:Heap.SameBut a s.heap h') (he:∃ q,h'.get? a=some q) (new:ObjOk X.prog X.w (upd H a ob) h' a ob) :
  Inv X pins σ (upd H a ob) { s with heap:=h',toks:=t' } :=
 I.write (x:=a) (e:=a) mu (.inl rfl) (fun b q hb z=>(hs.2 b hb).trans z) he new
theorem dk_new {P:Program}{w:World}{H':Hp}{h':Heap}{kvs:List (Key × V)}{vs:List (Key × Value)} (z:kvs.length≤sizeLine) (hd:(a == sysModules)=false) (rel:KV kvs vs) (dd:h'.DictOf (mixKind P w) a vs) :
  ObjOk P w H' h' a (.dK kvs):=⟨z,hd,vs,rel,dd⟩
theorem d_setItem {H':Hp}{Q:Unit→Shared→Prop} (hu:A.units+1<cLine) (I:Inv X pins σ H s) (g:DPut H a y v H') (ry:RelV y u) (rv:RelV v r) (h:∀ s',Inv X pins σ H' s'→Q () s') :
  wpAny (model X.prog X.w) A (setItem (.ref a) u r) Q E s:=by
 rcases g with ⟨kvs,k,e,ey,l,eH⟩ | ⟨kvs,k,b,e,ey,eb,l,eH⟩
 ·subst ey eH
  obtain ⟨z,hd,vs,rel,dd⟩:=dk_of I.hok e
  have hz:vs.length≤sizeLine:=by rw [← rel.length];exact z
  have hl:(putK kvs k v).length≤sizeLine:=by have:=length_putK kvs k v;omega
  refine wpAny_setItem_pairs (hsz:=hz) (kV_is ry) dd fun h' dd' hs=>h _ ?_
  have he:∃ q,h'.get? a=some q:=let ⟨q,_,_,hq,_⟩:=dd';⟨q,hq⟩
  exact d_write I (by rw [e];exact True.intro) hs he (dk_new hl hd (rel.put k rv) dd')
 ·subst ey eH
  cases (show u=Value.ref b from ry)
  obtain ⟨z,hd,xs,rel,dd⟩:=dt_of I.hok e
  have hz:xs.length≤sizeLine:=by rw [← Paired.length rel];exact z
  have hl:(putK kvs k v).length≤sizeLine:=by have:=length_putK kvs k v;omega
  refine wpAny_setItem_heap (hsz:=hz) (tupleKind_room_in1 hu) (key_of I.hok eb) dd fun h' dd' hs=>h _ ?_
  obtain ⟨q,es,ep,hq,h2,h3,h4,_,h5⟩:=dd'
  refine d_write I (by rw [e];exact True.intro) hs ⟨q,hq⟩ ⟨hl,hd,_,(rel.put k eb rv).keeps fun c ys ec=>?_,q,es,ep,hq,h2,h3,h4,h5⟩
  rw [upd_ne (ne_of ec e (fun z=>nomatch z))]
  exact ec
end
section
variable {X:Cx}{pins:List (Addr × Obj)}{σ:St}{H:Hp}{s:Shared}{a:Addr}{kvs:List (Key × V)}{k:Key}{u:Value}{A:Around}{E:Value→Shared→Prop}
theorem d_delItem {Q:Unit→Shared→Prop} (I:Inv X pins σ H s) (e:H a=some (.dK kvs)) (ry:RelV (kV k) u) (l:(valV kvs k).isSome=true) (h:∀ s',Inv X pins σ (upd H a (.dK (dropK kvs k))) s'→Q () s') :
  wpAny (model X.prog X.w) A (delItem (.ref a) u) Q E s:=by
 obtain ⟨z,hd,vs,rel,dd⟩:=dk_of I.hok e
 refine wpAny_delItem_slot dd.typeIs (by decide) PySem.F.slot_dict_delitem
  (call_meetsIn PySem.F.slot_dict_delitem dd.typeIs PySem.F.entry_dict_delitem (PySem.F.args_dict_delitem_2 _ _) (meets_dict_delitem_pairs (mixKind X.prog X.w) a (kV_is ry)) ⟨vs,dd,by rw [← rel.length];exact z,by rw [← (rel.val k).isSome_eq];exact l,fun h' dd' hs=>h _ ?_⟩)
 have he:∃ q,h'.get? a=some q:=let ⟨q,_,_,hq,_⟩:=dd';⟨q,hq⟩
 exact d_write I (by rw [e];exact True.intro) hs he (dk_new (Nat.le_trans (dropK_le kvs k) z) hd (rel.drop k) dd')
theorem d_pop {v:V}{more:List Value}{Q:Value→Shared→Prop} (I:Inv X pins σ H s) (e:H a=some (.dK kvs)) (ry:RelV (kV k) u) (l:valV kvs k=some v) (hm:more=[]∨∃ x,more=[x])
  (h:∀ w' s',Inv X pins σ (upd H a (.dK (dropK kvs k))) s'→RelV v w'→Q w' s'):wpAny (model X.prog X.w) A (call (.builtin "dict.pop") (.ref a :: u :: more)) Q E s:=by
 obtain ⟨z,hd,vs,rel,dd⟩:=dk_of I.hok e
 obtain ⟨w',hw,rw'⟩:=RelO.some_of (v:=v) (o:=valueAt vs k) (by rw [← l];exact rel.val k)
 have hp:(keyPart u).isSome=true:=by
  cases k with
  | inl i=>obtain ⟨t,q⟩:=(show ∃ t,u=Value.int i t from ry);subst q;rfl
  | inr x=>obtain ⟨t,q⟩:=(show ∃ t,u=Value.str x t from ry);subst q;rfl
 have ha:argsOk "dict.pop" ⟨.ref a :: u :: more,[]⟩:=by
  rcases hm with q | ⟨x,q⟩
  ·subst q;exact PySem.F.args_dict_pop_2 _ _
  ·subst q;exact PySem.F.args_dict_pop_3 _ _ _
 refine call_meetsIn PySem.F.slot_dict_pop dd.typeIs PySem.F.entry_dict_pop ha (meets_dict_pop_there (mixKind X.prog X.w) a (kV_is ry) more hm hp)
  ⟨vs,w',dd,by rw [← rel.length];exact z,hw,fun h' dd' hs=>h w' _ ?_ rw'⟩
 have he:∃ q,h'.get? a=some q:=let ⟨q,_,_,hq,_⟩:=dd';⟨q,hq⟩
 exact d_write I (by rw [e];exact True.intro) hs he (dk_new (Nat.le_trans (dropK_le kvs k) z) hd (rel.drop k) dd')
theorem d_len {Q:Value→Shared→Prop} (I:Inv X pins σ H s) (e:Rd H a (.dK kvs)) (h:∀ t s',Inv X pins σ H s'→Q (.int kvs.length t) s'):wpAny (model X.prog X.w) A (call (.builtin "len") [.ref a]) Q E s:=by
 obtain ⟨z,hd,vs,rel,dd⟩:=dk_rd I.hok e
 refine call_len_dict hd dd (by rw [← rel.length];rw [sizeLine_eq] at z;omega) ?_
 rw [← rel.length]
 exact h _ _ (I.tok _)
end
def NoSl (i:Expr):Prop:=∀ ov iv,subscripted i false ov iv=operate [ov,iv] (getItem ov iv)
theorem subD_of {prog:Program}{w:World}{A:Around}{E:Value→Shared→Prop}{s:Shared}{env:Env}{value slice:Expr}{pos:Pos}{T id:String}{Q:Value→Shared→Prop}
  (hl:typeLookup (.type T) "__getitem__" = pure (some (.builtin id))) (hs:NoSl slice)
  (h:wpAny (model prog w) A (eval value env) (fun o s₁=>wpAny (model prog w) A (eval slice env) (fun i s₂=>s₂.TypeIs o T∧wpAny (model prog w) A (getItem o i) Q E s₂) E s₁) E s) :
  wpAny (model prog w) A (eval (.Subscript value slice pos) env) Q E s:=by
 refine Subscript_ (wpAny_mono h (fun o s₁ h₁=>wpAny_mono h₁ (fun i s₂ h₂=>?_) fun _ _ x=>x) fun _ _ x=>x)
 obtain ⟨hT,h₂⟩:=h₂
 unfold subscriptTail
 refine wpAny_bind ?_
 rw [getitemInPython_of_ne hT.not_modules]
 refine wpAny_bind (wpAny_specialOf hT hl ?_)
 have fin:wpAny (model prog w) A (subscripted slice false o i) (fun r s₃=>wpAny (model prog w) A (letTemporaryGo value o r >>= fun _=>pure r) Q E s₃) E s₂:=by
  rw [hs o i]
  exact wpAny_operating (wpAny_mono h₂ (fun r s₃ h₃=>wpAny_bind (wpAny_letTemporaryGo (wpAny_pure h₃))) fun _ _ x=>x)
 first
  | exact wpAny_pure (wpAny_bind fin)
  | exact wpAny_bind (wpAny_pure (wpAny_bind fin))
  | exact wpAny_bind fin
theorem dict_typeIs {X:Cx}{pins:List (Addr × Obj)}{σ:St}{H:Hp}{s:Shared}{a:Addr}{y:V}{o:Option V} (I:Inv X pins σ H s) (g:DGet H a y o):s.TypeIs (.ref a) "dict":=by
 rcases g with ⟨kvs,k,e,_,_⟩ | ⟨kvs,k,b,e,_,_,_⟩
 ·obtain ⟨_,_,vs,_,dd⟩:=dk_rd I.hok e
  exact dd.typeIs
 ·obtain ⟨_,_,xs,_,dd⟩:=dt_rd I.hok e
  exact dd.typeIs
def tDGet (td ty:TE):TE:=fun σ H Q=>td σ H fun x H1=>ty σ H1 fun y H2=>∃ a v,x=.ref a∧DGet H2 a y (some v)∧Q v H2
def tDNotIn (ty td:TE):TE:=fun σ H Q=>ty σ H fun y H1=>td σ H1 fun x H2=>∃ a o,x=.ref a∧DGet H2 a y o∧Q (.bl (!o.isSome)) H2
def sDPut (td ty tv:TE):TS:=fun D σ H=>tv σ H fun v H1=>td σ H1 fun x H2=>ty σ H2 fun y H3=>∃ a H4,x=.ref a∧DPut H3 a y v H4∧D.nx σ H4
section
variable {X:Cx}{o i e value:Expr}{pos pos' tpos:Pos}{td ty tv:TE}
theorem pe_dget (hu:X.A.units+1<cLine) (ho:PE X o td) (hi:PE X i ty) (hs:NoSl i):PE X (.Subscript o i pos) (tDGet td ty):=by
 intro pins s σ H Q I h
 refine subD_of PySem.F.slot_dict_getitem.lookup hs (thn (ho pins s σ H _ I h) fun u s1 ⟨x,H1,I1,rx,q1⟩=>thn (hi pins s1 σ H1 _ I1 q1) fun iv s2 ⟨y,H2,I2,ry,a,v,ex,g,q2⟩=>?_)
 subst ex
 obtain rfl:u=Value.ref a:=rx
 exact ⟨dict_typeIs I2 g,d_getItem hu I2 g ry fun w' s3 I3 rw'=>⟨v,H2,I3,rw',q2⟩⟩
theorem pc_dnotin (hu:X.A.units+1<cLine) (hi:PE X i ty) (ho:PE X o td):PC X .NotIn i o (tDNotIn ty td):=by
 intro pins s σ H Q I h
 refine thn (hi pins s σ H _ I h) fun iv s1 ⟨y,H1,I1,ry,q1⟩=>thn (ho pins s1 σ H1 _ I1 q1) fun u s2 ⟨x,H2,I2,rx,a,ov,ex,g,q2⟩=>?_
 subst ex
 obtain rfl:u=Value.ref a:=rx
 exact d_notIn hu I2 g ry fun s3 I3=>⟨.bl (!ov.isSome),H2,I3,rfl,q2⟩
theorem ps_dput (hu:X.A.units+1<cLine) (ho:PE X o td) (hi:PE X i ty) (hv:PE X value tv) (hs:swapsWith value (some (.Subscript o i pos')) pos.line X.env=pure false) :
  PS X (.Assign [.Subscript o i pos'] value pos) (sDPut td ty tv):=by
 intro pins s σ H D I h
 refine wpAny_Assign_Subscript (thn (hv pins s σ H _ I h) fun r s1 ⟨v,H1,I1,rv,q1⟩=>thn (ho pins s1 σ H1 _ I1 q1) fun u s2 ⟨x,H2,I2,rx,q2⟩=>thn (hi pins s2 σ H2 _ I2 q2) fun iv s3 ⟨y,H3,I3,ry,a,H4,ex,g,q3⟩=>?_) hs
 subst ex
 obtain rfl:u=Value.ref a:=rx
 exact d_setItem hu I3 g ry rv fun s4 I4=>⟨σ,H4,I4,q3⟩
end
theorem dk_empty {P:Program}{w:World}{H:Hp} (h:Heap) (hb:sysModules<h.objs.size):ObjOk P w H (h.push { cls:=.type "dict",data:=.dict #[] }) h.objs.size (.dK []) :=
 ⟨Nat.zero_le _,beq_eq_false_iff_ne.mpr (Ne.symm (Nat.ne_of_lt hb)),[],.nil,Heap.DictOf.new h⟩
def tDNewK:TE:=fun _ H Q=>∀ p,H p=none→Q (.ref p) (upd H p (.dK []))
section
variable {X:Cx}{pos:Pos}
theorem pe_dnewK:PE X (.Dict [] [] pos) tDNewK:=fun pins s σ H Q I h =>
 wpAny_Dict_empty ⟨.ref s.heap.objs.size,_,I.laid (a:=s.heap.objs.size) (o:=.dK []) (t':=s.toks) (fun _ _ q=>Heap.get?_push_of_some _ q) (Nat.le_refl _) (dk_empty s.heap I.big),rfl,h _ (I.hok.fresh (Nat.le_refl _))⟩
end
def tPairs:List (TE × TE)→St→Hp→(List (V × V)→Hp→Prop)→Prop
 | [],_,H,Q=>Q [] H
 | (tk,tv) :: r,σ,H,Q=>tk σ H fun x H1=>tv σ H1 fun y H2=>tPairs r σ H2 fun ps H3=>Q ((x,y) :: ps) H3
abbrev VV:List (V × V)→List (Value × Value)→Prop:=Paired fun p q=>RelV p.1 q.1∧RelV p.2 q.2
def PPs (X:Cx) (pos:Pos) (keys:List (Option Expr)) (values:List Expr) (trs:List (TE × TE)):Prop :=
 ∀ (pins:List (Addr × Obj)) (s:Shared) (σ:St) (H:Hp) (Q:List (V × V)→Hp→Prop),Inv X pins σ H s→tPairs trs σ H Q →
  wpAny (model X.prog X.w) X.A (evalPairs (pairTrees keys values X.env pos)) (fun vs s'=>∃ ps H',Inv X pins σ H' s'∧VV ps vs∧Q ps H') X.xe s
def mergeK (kvs more:List (Key × V)):List (Key × V):=more.foldl (fun acc kv=>putK acc kv.1 kv.2) kvs
theorem KV.merge:∀ {more:List (Key × V)}{rs:List (Key × Value)}{kvs:List (Key × V)}{vs:List (Key × Value)},KV more rs→KV kvs vs→KV (mergeK kvs more) (merged vs rs):=by
 intro more rs kvs vs r
 unfold KV at r
 induction r generalizing kvs vs with
 | nil=>intro q;exact q
 | @cons p q ps qs h t ih =>
  intro r0
  have e:KV (putK kvs p.1 p.2) (stored vs q.1 q.2):=by
   have:=r0.put p.1 h.2
   rw [← h.1];exact this
  exact ih e
structure M1 (X:Cx) (o:Expr) (m:Str) (apos:Pos) (e:Expr) (cpos:Pos):Prop where
 base:attributeBase o m X.env (eval o X.env)=eval o X.env
 few:((backTo cpos (starEach [e] X.env)).all (fun x=>!x.1) && (backToKw cpos (keywordEach [] X.env)).all (fun x=>x.1.isSome)
  && decide (([e]:List Expr).length+([]:List Keyword).length+(if ([]:List Keyword).isEmpty then 0 else 1)<30))=true
 line:(apos.endLine == cpos.line)=true
 trees:backTo cpos (starEach [e] X.env)=[(false,eval e X.env)]
structure M2 (X:Cx) (o:Expr) (m:Str) (apos:Pos) (e f:Expr) (cpos:Pos):Prop where
 base:attributeBase o m X.env (eval o X.env)=eval o X.env
 few:((backTo cpos (starEach [e,f] X.env)).all (fun x=>!x.1) && (backToKw cpos (keywordEach [] X.env)).all (fun x=>x.1.isSome)
  && decide (([e,f]:List Expr).length+([]:List Keyword).length+(if ([]:List Keyword).isEmpty then 0 else 1)<30))=true
 line:(apos.endLine == cpos.line)=true
 trees:backTo cpos (starEach [e,f] X.env)=[(false,eval e X.env),(false,eval f X.env)]
def IsD (H:Hp) (a:Addr):Prop:=(∃ kvs,Rd H a (.dK kvs))∨∃ kvs,Rd H a (.dT kvs)
theorem isD_at {X:Cx}{pins:List (Addr × Obj)}{σ:St}{H:Hp}{s:Shared}{a:Addr} (I:Inv X pins σ H s) (d:IsD H a) :
  s.TypeIs (.ref a) "dict" ∧ (∀ b,Value.ref a=.ref b→∃ ob,s.heap.get? b=some ob∧ob.dict=none)∧(a == sysModules)=false:=by
 rcases d with ⟨kvs,e⟩ | ⟨kvs,e⟩
 ·obtain ⟨_,hd,vs,_,dd⟩:=dk_rd I.hok e
  refine ⟨dd.typeIs,fun b q=>?_,hd⟩
  cases q
  obtain ⟨ob,_,_,h1,h2,_⟩:=dd
  exact ⟨ob,h1,h2.2.1⟩
 ·obtain ⟨_,hd,xs,_,dd⟩:=dt_rd I.hok e
  refine ⟨dd.typeIs,fun b q=>?_,hd⟩
  cases q
  obtain ⟨ob,_,_,h1,h2,_⟩:=dd
  exact ⟨ob,h1,h2.2.1⟩
section
variable {X:Cx}{pins:List (Addr × Obj)}{σ:St}{H:Hp}{s:Shared}{a:Addr}{y d:V}{u r:Value}{o:Option V}{A:Around}{E:Value→Shared→Prop}
end
def tDPop1 (td ty:TE):TE:=fun σ H Q=>td σ H fun x H1=>∃ a,x=.ref a∧IsD H1 a∧ty σ H1 fun y H2=>∃ kvs k v,H2 a=some (.dK kvs)∧y=kV k∧valV kvs k=some v∧Q v (upd H2 a (.dK (dropK kvs k)))
section
variable {X:Cx}{o e f:Expr}{apos cpos:Pos}{td ty tx:TE}
theorem pe_dpop1 (ho:PE X o td) (he:PE X e ty) (m:M1 X o "pop" apos e cpos):PE X (.Call (.Attribute o "pop" apos) [e] [] cpos) (tDPop1 td ty):=by
 intro pins s σ H Q I h
 refine wpAny_Call_method m.base m.few m.line PySem.F.plainAttrs_dict PySem.F.slot_dict_pop PySem.F.type_dict_pop (thn (ho pins s σ H _ I h) fun u s1 ⟨x,H1,I1,rx,a,ex,d,q1⟩=>?_)
 subst ex
 obtain rfl:u=Value.ref a:=rx
 obtain ⟨t1,t2,_⟩:=isD_at I1 d
 refine ⟨t1,t2,?_⟩
 rw [m.trees]
 refine Calls.callWith_builtin rfl (Calls.evalArgs_plain (Calls.spliced_cons (thn (he pins s1 σ H1 _ I1 q1) fun iv s2 ⟨y,H2,I2,ry,kvs,k,v,ea,ey,l,q2⟩=>Calls.spliced_nil ?_)))
 subst ey
 exact d_pop I2 ea ry l (.inl rfl) fun w' s3 I3 rw'=>⟨v,_,I3,rw',q2⟩
end
section
variable {X:Cx}{pins:List (Addr × Obj)}{σ:St}{H:Hp}{s:Shared}{a:Addr}{kvs:List (Key × V)}{A:Around}{E:Value→Shared→Prop}
end
section
variable {X:Cx}{pins:List (Addr × Obj)}{σ:St}{H:Hp}{s:Shared}{a:Addr}{y:V}{u:Value}{A:Around}{E:Value→Shared→Prop}
end
end L2
namespace Att
open PySem PySem.W PySem.Calls PyProof.Rows
theorem ints_of_wellAll {P:Params}{h:Heap}:∀ (ns:List Int) (vs:List Value),WellAll P h vs (ns.map WData.int)→IntsAre vs ns:=by
 intro ns
 induction ns with
 | nil =>
  intro vs w
  rw [List.map_nil] at w
  cases w
  exact .nil
 | cons n ns ih =>
  intro vs w
  rw [List.map_cons] at w
  cases w with
  | cons a b =>
   cases a
   exact .cons _ _ (ih _ b)
theorem script_of {l:OpenLaw}{n:Nat} (hn:l.most=some n) {P:Params}{h:Heap}{args:List WData}{vals:List Value}
  (hpre:l.row.toRowW.claim.pre args=true) (hwl:WellAll P h vals args) :
  ∃ a vs ns,vals=[Value.ref a]∧args=[WData.list (ns.map WData.int)]∧h.get? a=some { cls:=.type "list",data:=.seq vs.toArray }∧IntsAre vs ns∧ns.length≤n:=by
 have hsh:WShape.hasAll [] args [.list .int]=true:=(pre_splitW hpre).1
 have hc:l.pre.holds [] { args:=args }=true:=(pre_splitW hpre).2
 obtain ⟨d,r,rfl,h1,h2⟩:=hasAllW_cons hsh
 obtain rfl:=hasAllW_nil h2
 obtain ⟨xs,rfl,h3⟩:=hasW_list h1
 obtain ⟨ns,rfl⟩:=items_int h3
 have hlen:ns.length≤n:=by
  unfold OpenLaw.pre at hc
  have h4:(WTm.not (.lt (.lit (.int (n:Int))) (.len (.arg 0)))).holds [] { args:=[.list (ns.map .int)] }=true:=by
   have h4:=(holds_andW hc).1
   rw [hn] at h4
   exact h4
  have h5:=condW_of h4 (w_not (w_lt w_lit (w_len_list (w_arg rfl))))
  rw [List.length_map] at h5
  refine Nat.le_of_not_lt fun q=>?_
  have q':(n:Int)<((ns.length:Nat):Int):=by omega
  first
   | (rw [decide_eq_true q'] at h5;exact absurd h5 (by decide))
   | (simp at h5;omega)
 cases hwl with
 | cons w1 w2 =>
  cases w2
  cases w1 with
  | list ho hall=>exact ⟨_,_,ns,rfl,rfl,ho,ints_of_wellAll ns _ hall,hlen⟩
theorem post_true (l:OpenLaw) (args:List WData):l.row.toRowW.claim.post args (.bool true) args=true :=
 postW_of (r:=l.row.toRowW) (X:=(true == true))
  (show WShape.has [] (.bool true) .bool=true by first | rfl | decide | simp [WShape.has,WShape.arms,WShape.armsAll])
  (show (WTm.eq .res (.lit (.bool true))).value [] { args:=args,res:=some (.bool true),after:=args }=some (.bool (true == true)) from w_eq_bool (w_res rfl) w_lit) rfl
theorem attach_call {l:OpenLaw}{n:Nat}{q:Program}{loose:List Str}{XP:(Str→Option Value)→Heap→Prop}{YP:World→Heap→Prop}{d:DefRec}
  (hn:l.most=some n) (hdf:d.params.defaults=[])
  (call:∀ (w:World) (s₀ s₁:Shared) (mg mb:Str→Option Value) (fa:Addr) (o:Obj) (pm cd doc:Value) (a:Addr) (vs:List Value) (ns:List Int),
   Ground q loose [] XP w s₀ mg mb s₁.heap→YP w s₁.heap →
   s₁.heap.get? fa=some o→o.data=.func (docDef d.name d.params d.body d.scope pm cd doc)→s₁.heap.CodeRec cd d.name→mg d.name=some (.ref fa) →
   s₁.heap.get? a=some { cls:=.type "list",data:=.seq vs.toArray }→IntsAre vs ns→ns.length≤n→s₁.gens = #[] →
   codeAny (model l.prog w) callerA (.call (.ref fa) ⟨[.ref a],[]⟩) (fun r s'=>r=.ok (.ret (.bool true))∧OldK s₁.heap s'.heap∧s'.os=s₁.os∧AllBare s'.gens) s₁) :
  WalkO q loose XP YP l.row.toRowW d [] (fun f vs=>PySem.call f vs):=by
 intro w s₀ s₁ mg mb G Y fa o pm cd doc dV kV ho hd hcd hD hmg hg args vals as hpre hlay hrd hwl hlo
 obtain rfl:dV=.none:=Dflts.none hD hdf
 obtain rfl:kV=.none:=Dflts.noKw hD
 obtain ⟨a,vs,ns,rfl,rfl,hobj,hints,hlen⟩:=script_of hn hpre hwl
 refine enter_call (codeAny_mono (call w s₀ s₁ mg mb fa o pm cd doc a vs ns G Y ho (fd_plain hd) hcd hmg hobj hints hlen hg) fun r s' hq=>?_)
 obtain ⟨rfl,h2,h3,h4⟩:=hq
 exact ⟨.inl ⟨.bool true,.bool true,[],rfl,fun _=>rfl,.bool true,post_true l _,fun _=>⟨List.Pairwise.nil,fun _ hm=>(nomatch hm)⟩⟩,h2,h3,h4⟩
section
variable {prog:Program}{w:World}{A:Around}{E:Value→Shared→Prop}{s:Shared}{K:Frag}
def ledger (h:Heap) (L d:Addr):List (Addr × Obj):=(List.range h.objs.size).filterMap fun a=>if a=L∨a=d then none else (h.get? a).map fun o=>(a,o)
end
end Att
namespace L2
open PySem PySem.Spec PyProof.Rows
theorem vals_ints:∀ {vs:List Value}{ns:List Int},IntsAre vs ns→Vals (ns.map V.int) vs
 | _,_,.nil=>.nil
 | _,_,.cons n t h=>.cons ⟨t,rfl⟩ (vals_ints h)
def Only (H:Hp):Prop:=∀ b,H b=none∨∃ o xs,H b=some (.frz o (.lst xs))
theorem law_call {P:Program}{w:World}{K:PySem.W.Frag}{mg mb:Str→Option Value}{CX:CXT}{k:Nat}{fa a:Addr}{fd:FuncData}{x:Str}{sp:Sp}{s₁:Shared}{vs:List Value}{ns:List Int}
  (KX:K.In s₁.heap) (hns:s₁.heap.Ns mainGlobals mg) (hb:s₁.heap.Ns builtinsNs mb) (hbb:∀ x:Str,x ≠ "__name__" → mb x=bootBuiltins x) (hlim:s₁.heap.NoLimit) (hg:s₁.gens = #[])
  (ha:s₁.heap.get? a=some { cls:=.type "list",data:=.seq vs.toArray }) (hi:IntsAre vs ns) (hl:ns.length≤sizeLine) (hr:Room k callerA)
  (F:∀ base:Heap,K.In base→base.Ns mainGlobals mg→FnOk P w K mg base CX k fa fd [x] sp) (hbind:∀ (s:Shared) (u:Value),BindsTo s fd ⟨[u],[]⟩ [(x,u)])
  (hsp:∀ H:Hp,Only H→SqL K H a (ns.map V.int)→sp [.ref a] H (fun v _=>v=.bl true) fun _ _ _=>False)
  (hCX:∀ H e s',CX [] H s₁ (fun _ _ _=>False) e s'→False) :
  codeAny (model P w) callerA (.call (.ref fa) ⟨[.ref a],[]⟩) (fun r s'=>r=.ok (.ret (.bool true))∧OldK s₁.heap s'.heap∧s'.os=s₁.os∧AllBare s'.gens) s₁:=by
 have rv:=vals_ints hi
 have lenV:=hi.length
 -- from an abstract heap in which nothing but the script may be tracked
 have core:∀ H:Hp,Only H→SqL K H a (ns.map V.int)→HOk P w H s₁.heap→(∀ b,H b≠none→b=a)→(H a≠none→K.lookup a=none) →
   codeAny (model P w) callerA (.call (.ref fa) ⟨[.ref a],[]⟩) (fun r s'=>r=.ok (.ret (.bool true))∧OldK s₁.heap s'.heap∧s'.os=s₁.os∧AllBare s'.gens) s₁:=by
  intro H hO hS hok hA hK
  have base_of:∀ {b:Addr}{o:Obj},s₁.heap.get? b=some o→H b=none→(hidT s₁.heap H).get? b=some o:=fun e n=>hidT_get e n
  have noA:∀ {b:Addr}{o:Obj}{es:Array DictEntry}{ep:Nat},s₁.heap.get? b=some o→o.data=.dict es ep→H b=none:=fun {b o es ep} e d=>by
   cases q:H b with
   | none=>rfl
   | some u =>
    have e':b=a:=hA b (by rw [q];simp)
    subst e'
    rw [ha] at e;cases e
    have d':Data.seq vs.toArray _=Data.dict es ep:=d
    cases d'
  have nsK:∀ {b:Addr}{m:Str→Option Value},s₁.heap.Ns b m→(hidT s₁.heap H).Ns b m:=fun {b m} ⟨o,es,ep,e,d,r⟩=>⟨o,es,ep,base_of e (noA e d),d,r⟩
  have hKb:K.In (hidT s₁.heap H):=fun b o e=>base_of (KX b o e) (by
   cases q:H b with
   | none=>rfl
   | some u =>
    have e':b=a:=hA b (by rw [q];simp)
    subst e'
    rw [hK (by rw [q];simp)] at e;cases e)
  have hM:Mod K mg (hidT s₁.heap H):=⟨hKb,nsK hns,⟨mb,nsK hb,hbb⟩,let ⟨mc,h1,h2⟩:=hlim;⟨mc,nsK h1,h2⟩⟩
  have e0:Env0 P w K mg (hidT s₁.heap H) callerA [] s₁ H:=⟨rfl,hM,fun b o e=>of_hidT e,Nat.le_of_eq (hidT_size _ _),trivial,fun b hb=>absurd (show b∈([]:List Addr) from hb) (by simp),hok,.of_eq hg⟩
  refine codeAny_mono ((F _ hKb (nsK hns)).run callerA [] s₁ H ⟨[.ref a],[]⟩ [.ref a] [.ref a] _ _ hr e0 (hbind s₁ (.ref a)) (.cons rfl .nil) (hsp H hO hS)) fun r s' h=>?_
  cases r with
  | error e=>exact (hCX H e s' h).elim
  | ok fl =>
   cases fl with
   | next=>exact False.elim h
   | brk=>exact False.elim h
   | cont=>exact False.elim h
   | ret u =>
    obtain ⟨v,H',os,bare,un,hok',r',q⟩:=h
    have q':v=.bl true:=q
    subst q'
    obtain rfl:u=Value.bool true:=r'
    refine ⟨rfl,OldK.of_keep fun b o e=>?_,os,bare⟩
    cases q:H b with
    | none=>exact un.keep b o e q (by intro z;exact absurd (show b∈([]:List Addr) from z) (by simp)) (by simp)
    | some u =>
     rcases hO b with z | ⟨ob,xs,z⟩
     ·rw [q] at z;cases z
     ·have z2:=un.frzs b ob _ z
      obtain ⟨e1,_⟩:=hok b _ z
      obtain ⟨e2,_⟩:=hok' b _ z2
      rw [e] at e1;cases e1
      exact e2
 cases hk:K.lookup a with
 | some o =>
  -- the script is one of the module's own objects
  have e:=KX a o hk
  rw [ha] at e
  cases e
  refine core (fun _=>none) (fun _=>.inl rfl) (.inr ⟨_,vs.toArray,_,hk,rfl,rfl,rfl,by rw [List.size_toArray,lenV];exact hl,by simpa using rv⟩) (fun b u z=>by have z':(none:Option HO)=some u:=z;cases z') (fun b z=>absurd rfl z) fun z=>absurd rfl z
 | none =>
  refine core (fun b=>if b=a then some (.frz { cls:=.type "list",data:=.seq vs.toArray } (.lst (ns.map V.int))) else none) (fun b=>?_) (.inl (.inr ⟨{ cls:=.type "list",data:=.seq vs.toArray },if_pos rfl⟩)) (fun b u z=>?_) (fun b z=>?_) fun _=>hk
  ·by_cases hb:b=a
   ·exact .inr ⟨_,_,if_pos hb⟩
   ·exact .inl (if_neg hb)
  ·by_cases hb:b=a
   ·have z':=(if_pos hb).symm.trans z
    cases z'
    subst hb
    exact ⟨ha,by rw [List.length_map];exact hl,vs,_,rv,ha⟩
   ·have z':=(if_neg hb).symm.trans z
    cases z'
  ·by_cases hb:b=a
   ·exact hb
   ·exact absurd (if_neg hb) z
abbrev KOf {K:PySem.W.Frag}{h:Heap} (_:K.In h):PySem.W.Frag:=K
theorem walk_of {l:PySem.W.OpenLaw}{n k:Nat}{q:Program}{loose:List Str}{XP:(Str→Option Value)→Heap→Prop}{YP:World→Heap→Prop}{d:DefRec}{K:Params→PySem.W.Frag}{CX:World→CXT}{sp:World→Sp}{x:Str}
  (hn:l.most=some n) (hn2:n≤sizeLine) (hdf:d.params.defaults=[]) (hr:Room k callerA)
  (hY:∀ (w:World) (h:Heap),YP w h→(K w.params).In h)
  (F:∀ (w:World) (mg:Str→Option Value) (fa:Addr) (h:Heap),(K w.params).In h→h.Ns mainGlobals mg→mg d.name=some (.ref fa) →
   ∃ fd:FuncData,(∀ (s:Shared) (u:Value),BindsTo s fd ⟨[u],[]⟩ [(x,u)]) ∧
    ∀ base:Heap,(K w.params).In base→base.Ns mainGlobals mg→FnOk l.prog w (K w.params) mg base (CX w) k fa fd [x] (sp w))
  (hsp:∀ (w:World) (H:Hp) (a:Addr) (ns:List Int),ns.length≤n→Only H→SqL (K w.params) H a (ns.map V.int)→sp w [.ref a] H (fun v _=>v=.bl true) fun _ _ _=>False)
  (hCX:∀ (w:World) (H:Hp) (s:Shared) (e:Value) (s':Shared),CX w [] H s (fun _ _ _=>False) e s'→False) :
  PySem.W.WalkO q loose XP YP l.row.toRowW d [] (fun f vs=>PySem.call f vs):=by
 refine Att.attach_call hn hdf fun w s₀ s₁ mg mb fa o pm cd doc a vs ns G Y ho hd hcd hmg hobj hints hlen hg=>?_
 have KX:=hY w _ Y
 obtain ⟨fd,hb,hF⟩:=F w mg fa _ KX G.T.g hmg
 exact law_call KX G.T.g G.T.b G.T.builtins G.T.nolimit hg hobj hints (Nat.le_trans hlen hn2) hr hF hb (fun H hO hS=>hsp w H a ns hlen hO hS) fun H e s'=>hCX w H s₁ e s'
end L2
/- THE LAST THEOREM (shape;LID,My.* are yours):
   My.Adr: a structure of the addresses that your layer names (classes,functions);My.Txt K t: a structure (Prop) of the equations over K;
   My.txt_mk:{K}{implicit addresses ..} (e1:nsIn K mainGlobals "law" = some (some (.ref f))) (e2:K.lookup f=some ⟨oc,od,.func (fnOf "law" "law" params body scope dV kV doc pm an cdv ct),sl⟩) (e3:codeIn K cdv "law" = true) .. : ∃ t,My.Txt K t
set_option maxRecDepth 100000 in
set_option maxHeartbeats 0 in
theorem PySem.Challenge.cw_LID_holds : PySem.Challenge.rw_LID.Holds := by
 w_on;o_law;k_head;(case hw=>w_witness2)
 k_fill
 refine L2.walk_of (l:=PySem.Challenge.rw_LID) (n:=63) (k:=40) (x:="script") (CX:=fun w=>..) (sp:=fun _=>My.sp_law) rfl (by decide) rfl ⟨rfl,by decide,by decide⟩ (fun w h Y=>PySem.W.kIn_of Y) ?F ?S ?C
 case F =>
  intro w mg fa h KX G hmg
  have T:∃ t,My.Txt (L2.KOf KX) t:=by
   dsimp only [L2.KOf]                          -- K must stand as «<heap const> w.params» for k_is
   refine' My.txt_mk ?e1 ?e2 ?e3 ..
   (case e1 => PySem.W.k_is)                    -- in the order: a name -> its address -> its object -> its parts
   (case e2=>PySem.W.k_is)
   ..
  obtain ⟨t,T⟩:=T
  have e0:=hmg.symm.trans (PySem.W.mg_of KX G T.law)
  cases e0                                       -- fa is the law's own address
  exact ⟨_, fun s u => .of_eq rfl, fun base kb nb => My.law_fn T kb nb⟩     -- if «.of_eq rfl» comes too early: refine' ⟨_, ?b, fun base kb nb => My.law_fn T kb nb⟩; exact fun s u => .of_eq rfl
 case S=>exact fun w H a ns hl hO hS=>..
 case C=>exact ..
(the tactic k_is has no namespace: write k_is) -/
namespace L2
open PySem PySem.Spec PyProof.Rows
def defArgs (s:Stmt):Arguments:=match s with
 | .FunctionDef _ a _ _ _ _ _ _ _ _=>a
 | _=>{ posonlyargs:=[],args:=[],vararg:=none,kwonlyargs:=[],kw_defaults:=[],kwarg:=none,defaults:=[] }
def defBody (s:Stmt):List Stmt:=match s with
 | .FunctionDef _ _ b _ _ _ _ _ _ _=>b
 | _=>[]
def defScope (s:Stmt):Scope:=match s with
 | .FunctionDef _ _ _ _ _ _ sc _ _ _=>sc
 | _=>{ kind:=.function,names:=[],isGenerator:=false,isCoroutine:=false }
abbrev CX0:CXT:=fun _ _ _ _ _ _=>False
abbrev E0:XK:=fun _ _ _=>False
theorem pass0 {X:Cx}:Passes CX0 X E0:=fun _ _ _ _ _ _ _ h=>h.elim
structure Fun (K:PySem.W.Frag) (x qual:Str) (st:Stmt) (f:Addr) (fd:FuncData):Prop where
 ex:∃ (oc:Value) (od:Option Addr) (kV doc pm:Value) (an:Option Addr) (cdv ct:Value) (osl:Array (Option Value)),
  fd=PySem.W.fnOf x qual (defArgs st) (defBody st) (defScope st) .none kV doc pm an cdv ct∧K.lookup f=some ⟨oc,od,.func fd,osl⟩∧PySem.W.codeIn K cdv qual=true
 kp:PySem.W.keepIn K (.ref f)=true
section
variable {P:Program}{w:World}{K:PySem.W.Frag}{mg:Str→Option Value}{base:Heap}
theorem Fun.ok {x qual:Str}{st:Stmt}{f:Addr}{fd:FuncData}{N ps:List Str}{k:Nat}{sp:Sp} (F:Fun K x qual st f fd) (S:FnScope N ps (defScope st)) (len:∀ vs H Q E,sp vs H Q E→vs.length=ps.length)
  (hbody:∀ (cdv:Value) (A:Around) (outer:List Env) (s:Shared) (H:Hp) (vs:List V) (Q:VK) (E:XK),Room k (A.deeper (envOfC qual (defScope st) s.heap.objs.size f cdv))→sp vs H Q E →
   ∃ t,PSs (cxOf CX0 P w K mg base N qual (defScope st) f cdv A outer s H E).nox (defBody st) t∧t { nx:=fun _ H'=>Q .non H',rt:=Q } (start N vs) H):FnOk P w K mg base CX0 (k+1) f fd ps sp:=by
 obtain ⟨oc,od,kV,doc,pm,an,cdv,ct,osl,rfl,lk,hcd⟩:=F.ex
 refine fn_of lk hcd S len fun A outer s H vs Q E hr hsp=>?_
 obtain ⟨t,h,q⟩:=hbody cdv A outer s H vs Q E hr hsp
 exact ⟨t,h.nox,q⟩
theorem Fun.binds {x qual:Str}{st:Stmt}{f:Addr}{fd:FuncData}{ps:List Str} (F:Fun K x qual st f fd)
  (h:∀ (kV doc pm:Value) (an:Option Addr) (cdv ct:Value) (us:List Value),us.length=ps.length→bindArgs (PySem.W.fnOf x qual (defArgs st) (defBody st) (defScope st) .none kV doc pm an cdv ct) ⟨us,[]⟩=pure (ps.zip us)):Binds K fd ps []:=by
 obtain ⟨oc,od,kV,doc,pm,an,cdv,ct,osl,rfl,lk,hcd⟩:=F.ex
 exact .all (h kV doc pm an cdv ct)
theorem fun_mk {x qual:Str}{st:Stmt}{f:Addr}{oc:Value}{od an:Option Addr}{osl:Array (Option Value)}{kV doc pm cdv ct:Value} (l:K.lookup f=some ⟨oc,od,.func (PySem.W.fnOf x qual (defArgs st) (defBody st) (defScope st) .none kV doc pm an cdv ct),osl⟩)
  (c:PySem.W.codeIn K cdv qual=true) (k:PySem.W.keepIn K (.ref f)=true):Fun K x qual st f (PySem.W.fnOf x qual (defArgs st) (defBody st) (defScope st) .none kV doc pm an cdv ct):=⟨⟨oc,od,kV,doc,pm,an,cdv,ct,osl,rfl,l,c⟩,k⟩
end
theorem hu_of {A:Around}{k:Nat} (hr:Room k A):A.units+1<cLine:=Nat.lt_of_le_of_lt (Nat.add_le_add_left (by decide:1≤64) _) hr.units
section
variable {X:Cx}
theorem call_lenD:CallR X (.builtin "len") (fun xs H Q=>∃ a kvs,xs=[V.ref a]∧H a=some (.dK kvs)∧Q (.int kvs.length) H):=by
 intro pins s σ H xs us Q I r h
 obtain ⟨a,kvs,rfl,ha,q⟩:=h
 obtain ⟨u,rfl,ru⟩:=vals1 r
 cases ru
 exact d_len I (.inl ha) fun t s' I'=>⟨.int kvs.length,H,I',⟨t,rfl⟩,q⟩
end
def Same (H H':Hp):Prop:=∀ b o,H b=some o→H' b=some o
theorem Same.trans {H H1 H2:Hp} (a:Same H H1) (b:Same H1 H2):Same H H2:=fun c o h=>b c o (a c o h)
theorem Same.seq {K:PySem.W.Frag}{H H':Hp}{a:Addr}{xs:List V} (e:Same H H') (h:SqL K H a xs):SqL K H' a xs:=by
 rcases h with (h | ⟨o,h⟩) | h
 ·exact .inl (.inl (e _ _ h))
 ·exact .inl (.inr ⟨o,e _ _ h⟩)
 ·exact .inr h
section
variable {κ:Type} [DecidableEq κ]
end
def clOf (env:Env):List (Str × NameKind)→List (Str × Addr)→List (Str × Addr)
 | [],acc=>acc
 | (n,k) :: r,acc=>if (k == NameKind.free)=true then clOf env r ((n,(env.cells.lookup n).getD 0) :: acc) else clOf env r acc
theorem cellOf_eq {env:Env}{n:Str}{c:Addr} (h:env.cells.lookup n=some c):cellOf env n=pure c:=by
 unfold cellOf
 rw [h]
theorem closure_go {env:Env}:∀ (names:List (Str × NameKind)) (acc:List (Str × Addr)),(∀ x∈names,x.2=.free→∃ c,env.cells.lookup x.1=some c) →
  (forIn names acc fun (x:Str × NameKind) (cs:List (Str × Addr))=>(match x with | (name,kind)=>if (kind == NameKind.free)=true then (do let __do_lift ← cellOf env name;pure PUnit.unit;pure (ForInStep.yield ((name,__do_lift) :: cs)):Sem _) else (do pure PUnit.unit;pure (ForInStep.yield cs)):Sem (ForInStep (List (Str × Addr)))))=pure (clOf env names acc)
 | [],acc,_=>rfl
 | (n,k) :: r,acc,h=>by
  have ih:=fun a=>closure_go r a fun x hx=>h x (List.mem_cons_of_mem _ hx)
  rw [List.forIn_cons]
  by_cases hk:(k == NameKind.free)=true
  ·obtain ⟨c,hc⟩:=h (n,k) List.mem_cons_self (by simpa using hk)
   simp only [hk,if_true,clOf,cellOf_eq hc,hc,Option.getD_some,pure_bind]
   exact ih _
  ·simp only [hk,if_false,clOf,pure_bind]
   exact ih _
theorem closure_of {scope:Scope}{env:Env} (h:∀ x∈scope.names,x.2=.free→∃ c,env.cells.lookup x.1=some c):closureFor scope env=pure (clOf env scope.names []):=by
 unfold closureFor
 have q:=closure_go scope.names [] h
 exact (congrArg (fun m=>m >>= pure) q).trans (pure_bind _ _)
theorem clOf_sub {env:Env}:∀ (names:List (Str × NameKind)) (acc:List (Str × Addr)),(∀ x∈names,x.2=.free→∃ c,env.cells.lookup x.1=some c)→(∀ p∈acc,env.cells.lookup p.1=some p.2) →
  ∀ p∈clOf env names acc,env.cells.lookup p.1=some p.2
 | [],acc,_,ha=>ha
 | (n,k) :: r,acc,h,ha=>by
  by_cases hk:(k == NameKind.free)=true
  ·obtain ⟨c,hc⟩:=h (n,k) List.mem_cons_self (by simpa using hk)
   simp only [clOf,hk,if_true]
   refine clOf_sub r _ (fun x hx=>h x (List.mem_cons_of_mem _ hx)) fun p hp=>?_
   rcases List.mem_cons.mp hp with rfl | hp
   ·show env.cells.lookup n=some _
    rw [hc];rfl
   ·exact ha p hp
  ·simp only [clOf,hk,if_false]
   exact clOf_sub r _ (fun x hx=>h x (List.mem_cons_of_mem _ hx)) ha
theorem clOf_acc {env:Env}:∀ (names:List (Str × NameKind)) (acc:List (Str × Addr)) (p:Str × Addr),p∈acc→p∈clOf env names acc
 | [],_,_,h=>h
 | (n,k) :: r,acc,p,h=>by
  by_cases hk:(k == NameKind.free)=true
  ·simp only [clOf,hk,if_true]
   exact clOf_acc r _ p (List.mem_cons_of_mem _ h)
  ·simp only [clOf,hk,if_false]
   exact clOf_acc r _ p h
theorem clOf_has {env:Env}:∀ (names:List (Str × NameKind)) (acc:List (Str × Addr)) (x:Str),(x,NameKind.free)∈names→∃ c,(x,c)∈clOf env names acc
 | (n,k) :: r,acc,x,h=>by
  rcases List.mem_cons.mp h with e | h
  ·injection e with e1 e2
   subst e1;subst e2
   simp only [clOf,beq_self_eq_true,if_true]
   exact ⟨_,clOf_acc r _ _ List.mem_cons_self⟩
  ·by_cases hk:(k == NameKind.free)=true
   ·simp only [clOf,hk,if_true]
    exact clOf_has r _ x h
   ·simp only [clOf,hk,if_false]
    exact clOf_has r _ x h
theorem lookup_some_of_mem:∀ {l:List (Str × Addr)}{x:Str}{c:Addr},(x,c)∈l→∃ d,l.lookup x=some d
 | (n,d) :: r,x,c,h=>by
  by_cases e:x == n
  ·exact ⟨d,by simp [List.lookup_cons,e]⟩
  ·rcases List.mem_cons.mp h with q | q
   ·injection q with q1 _
    subst q1
    simp at e
   ·obtain ⟨d',hd⟩:=lookup_some_of_mem q
    exact ⟨d',by simp [List.lookup_cons,e,hd]⟩
theorem relabel_look {env:Env}:∀ {names:List (Str × NameKind)}{x:Str}{k:NameKind},
  (names.map fun (n,k)=>if (k == NameKind.free && env.scope.kind == .function && env.kindOf n == some .cell) then (n,NameKind.cell) else (n,k)).lookup x=some k →
  ∃ k',names.lookup x=some k'∧(k=k'∨k'=.free)
 | [],_,_,h=>by simp at h
 | (n,j) :: r,x,k,h=>by
  have ih:=@relabel_look env r x k
  by_cases hc:(j == NameKind.free && env.scope.kind == .function && env.kindOf n == some .cell)=true
  ·simp only [List.map_cons,hc,if_true,List.lookup_cons] at h ⊢
   cases e:x == n with
   | true =>
    rw [e] at h
    refine ⟨j,rfl,.inr ?_⟩
    simp only [Bool.and_eq_true,beq_iff_eq] at hc
    exact hc.1.1
   | false =>
    rw [e] at h
    exact ih h
  ·rw [List.map_cons] at h
   dsimp only at h
   rw [if_neg hc,List.lookup_cons] at h
   rw [List.lookup_cons]
   cases e:x == n with
   | true =>
    rw [e] at h
    exact ⟨j,rfl,.inl (by injection h with h;exact h.symm)⟩
   | false =>
    rw [e] at h
    exact ih h
theorem relabel_free {env:Env}:∀ {names:List (Str × NameKind)}{x:Str},names.lookup x=some .free →
  (names.map fun (n,k)=>if (k == NameKind.free && env.scope.kind == .function && env.kindOf n == some .cell) then (n,NameKind.cell) else (n,k)).lookup x=some .cell ∨
  (names.map fun (n,k)=>if (k == NameKind.free && env.scope.kind == .function && env.kindOf n == some .cell) then (n,NameKind.cell) else (n,k)).lookup x=some .free
 | [],_,h=>by simp at h
 | (n,j) :: r,x,h=>by
  have ih:=@relabel_free env r x
  cases e:x == n with
  | true =>
   rw [List.lookup_cons,e] at h
   injection h with h
   subst h
   rw [List.map_cons]
   dsimp only
   split
   ·exact .inl (by simp [List.lookup_cons,e])
   ·exact .inr (by simp [List.lookup_cons,e])
  | false =>
   rw [List.lookup_cons,e] at h
   rcases ih h with q | q
   ·left
    rw [List.map_cons]
    dsimp only
    split <;> simp only [List.lookup_cons,e] <;> exact q
   ·right
    rw [List.map_cons]
    dsimp only
    split <;> simp only [List.lookup_cons,e] <;> exact q
def ccx (X:Cx) (scope:Scope) (N:List Str) (C:Addr) (s:Shared) (H:Hp) (fp:List Addr):Cx :=
 { X with N:=N,s₀:=s,H₀:=H,env:=compEnvC scope (clOf X.env scope.names []) C X.env,outer:=X.stack,stack:=X.stack,ex:=fp,fn:=fun _=>false,pn:=[],xe:=fun _ _=>False }
structure CScope (X:Cx) (scope:Scope):Prop where
 kind:scope.kind=.function
 nocell:∀ y∈scope.names,y.2≠.cell
 names:∀ y∈scope.names,y.2=.local→scope.names.lookup y.1=some .local
 free:∀ y∈scope.names,y.2=.free→X.env.kindOf y.1=some .cell∨X.env.kindOf y.1=some .free
section
variable {X:Cx}{pins:List (Addr × Obj)}{σ:St}{H:Hp}{s:Shared}
theorem CScope.has {scope:Scope} (S:CScope X scope) (ok:X.Ok):∀ x∈scope.names,x.2=.free→∃ c,X.env.cells.lookup x.1=some c:=fun x hx h=>ok.has _ (S.free x hx h)
theorem cl_sub {scope:Scope} (S:CScope X scope) (ok:X.Ok) {x:Str}{c:Addr} (h:(clOf X.env scope.names []).lookup x=some c):X.env.cells.lookup x=some c :=
 clOf_sub scope.names [] (S.has ok) (fun p hp=>absurd hp (by simp)) (x,c) (PySem.mem_of_lookup h)
theorem cl_free {scope:Scope} (S:CScope X scope) (ok:X.Ok) {x:Str} (h:scope.names.lookup x=some .free):∃ c,(clOf X.env scope.names []).lookup x=some c∧X.env.cells.lookup x=some c:=by
 obtain ⟨c,hc⟩:=clOf_has (env:=X.env) scope.names [] x (PySem.mem_of_lookup h)
 obtain ⟨d,hd⟩:=lookup_some_of_mem hc
 exact ⟨d,hd,cl_sub S ok hd⟩
structure CNames (X:Cx) (scope:Scope) (N:List Str) (k:Nat) (sel:List Nat):Prop where
 len:N.length=k+sel.length
 fr:∀ (i j:Nat) (x:Str),sel[i]? = some j→N[k+i]? = some x→X.N[j]? = some x∧scope.names.lookup x=some .free
def cst (σ:St) (k:Nat) (sel:List Nat):St:=List.replicate k none ++ sel.map fun j=>(σ[j]?).join
theorem cst_len {k:Nat}{sel:List Nat}:(cst σ k sel).length=k+sel.length:=by
 unfold cst;rw [List.length_append,List.length_replicate,List.length_map]
theorem ccx_ok {scope:Scope}{N:List Str}{fp:List Addr} (S:CScope X scope) (I:Inv X pins σ H s) (hf:∀ b∈fp,FpOk X pins H b) (hlt:∀ b∈fp,b<s.heap.objs.size):(ccx X scope N s.heap.objs.size s H fp).Ok where
 mod:=I.ok.mod
 kind:=S.kind
 glob:=I.ok.glob
 blt:=I.ok.blt
 above:=Nat.le_refl _
 inj:=fun x y c h1 h2=>I.ok.inj x y c (cl_sub S I.ok h1) (cl_sub S I.ok h2)
 has:=fun x h=>by
  have h':(relabel scope X.env).names.lookup x=some .cell∨(relabel scope X.env).names.lookup x=some .free:=h
  rcases h' with h' | h'
  ·obtain ⟨k',e,q⟩:=relabel_look h'
   rcases q with q | q
   ·subst q
    exact absurd rfl (S.nocell _ (PySem.mem_of_lookup e))
   ·subst q
    obtain ⟨c,hc,_⟩:=cl_free S I.ok e
    exact ⟨c,hc⟩
  ·obtain ⟨k',e,q⟩:=relabel_look h'
   have:k'=.free:=by rcases q with q | q;exact q.symm;exact q
   subst this
   obtain ⟨c,hc,_⟩:=cl_free S I.ok e
   exact ⟨c,hc⟩
 cab:=fun x c h=>absurd (show false=true from h) (by simp)
 hd:=I.ok.hd
 frames:=I.ok.frames
 stk:=.inl rfl
 exf:=fun b hb=>⟨Nat.ne_of_lt (hlt b hb),fun x c h=>(hf b hb).2.2.2.2.1 x c (cl_sub S I.ok h)⟩
 bs:=I.bs
 bsz:=Nat.le_trans I.ok.bsz I.sz
 noex:=fun b o e hb=>by
  rcases (hf b hb).2.2.2.1 with z | z
  ·exact I.ok.noex b o e z
  ·exact absurd (Nat.lt_of_lt_of_le (Heap.lt_size e) (Nat.le_trans I.ok.bsz z)) (Nat.lt_irrefl _)
 exfs:=fun b hb z=>by
  rcases List.mem_cons.mp (I.stkSub b z) with q | q
  ·exact (hf b hb).2.1 q
  ·exact (hf b hb).2.2.1 q
 funs:=I.stack
 frf:=I.stkFree
theorem ccx_inv {scope:Scope}{N:List Str}{fp:List Addr}{k:Nat}{sel:List Nat}{h₁:Heap}{m:Str→Option Value}{t':Nat} (S:CScope X scope) (M:CNames X scope N k sel) (I:Inv X pins σ H s) (hf:∀ b∈fp,FpOk X pins H b) (hlt:∀ b∈fp,b<s.heap.objs.size)
  (hn:h₁.Ns s.heap.objs.size m) (hk:∀ b o,s.heap.get? b=some o→h₁.get? b=some o):Inv (ccx X scope N s.heap.objs.size s H fp) [] (cst σ k sel) H { s with heap:=h₁,toks:=t' }:=by
 refine ⟨ccx_ok S I hf hlt,rfl,I.bare,Un.kept hk,⟨m,hn,fun i x v e1 e2 e3=>?_⟩,fun x c e=>?_,I.hok.fresh (Nat.le_refl _),fun x c e=>I.freeC x c (cl_sub S I.ok e),fun p hp=>absurd (show p∈([]:List (Addr × Obj)) from hp) (by simp),I.hok.kept hk,?_⟩
 ·have hi:k≤i:=by
   by_cases hi:k≤i
   ·exact hi
   ·unfold cst at e2
    rw [List.getElem?_append_left (by simp;omega),List.getElem?_replicate] at e2
    split at e2 <;> cases e2
  obtain ⟨d,rfl⟩:∃ d,i=k+d:=⟨i - k,by omega⟩
  unfold cst at e2
  rw [List.getElem?_append_right (by simp),List.length_replicate,Nat.add_sub_cancel_left,List.getElem?_map] at e2
  cases ej:sel[d]? with
  | none=>rw [ej] at e2;cases e2
  | some j =>
   rw [ej] at e2
   have e2':(σ[j]?).join=some v:=Option.some.inj e2
   have e4:σ[j]? = some (some v):=by
    cases q:σ[j]? with
    | none=>rw [q] at e2';cases e2'
    | some o=>rw [q] at e2';cases o with
     | none=>cases e2'
     | some w=>cases e2';rfl
   obtain ⟨hN,hfr⟩:=M.fr d j x ej e1
   obtain ⟨mo,hno,hlo⟩:=I.loc
   have hkind:=S.free _ (PySem.mem_of_lookup hfr) rfl
   obtain ⟨u,ru,lu⟩:=hlo j x v hN e4 (by rcases hkind with q | q;exact .inr (.inl q);exact .inr (.inr q))
   obtain ⟨c,hc,hc'⟩:=cl_free S I.ok hfr
   refine ⟨u,ru,.inr ⟨?_,c,hc,?_⟩⟩
   ·exact relabel_free hfr
   ·rcases lu with ⟨kl,_⟩ | ⟨_,c',e5,z⟩
    ·rcases hkind with q | q
     ·rw [kl] at q;cases q
     ·rw [kl] at q;cases q
    ·rw [hc'] at e5;cases e5
     obtain ⟨o,ho,hd⟩:=z
     exact ⟨o,hk _ _ ho,hd⟩
 ·obtain ⟨v,o,ho,hd⟩:=I.cell x c (cl_sub S I.ok e)
  exact ⟨v,o,hk _ _ ho,hd⟩
 ·rw [cst_len];exact M.len.symm
end
def PTs (X:Cx) (ifs:List Expr) (t:TT):Prop :=
 ∀ (pins:List (Addr × Obj)) (s:Shared) (σ:St) (H:Hp) (Q:Bool→Hp→Prop),Inv X pins σ H s→t σ H Q →
  wpAny (model X.prog X.w) X.A (forIn ifs true fun c r=>if r=true then do let ok ← isTrue c X.env (eval c X.env);pure (ForInStep.yield ok) else pure (ForInStep.yield r)) (TP X pins σ Q) X.xe s
def tTrue:TT:=fun _ H Q=>Q true H
theorem pts_nil {X:Cx}:PTs X [] tTrue:=fun pins s σ H Q I h=>wpAny_tests_nil ⟨H,I,h⟩
theorem pts_one {X:Cx}{c:Expr}{t:TT} (hc:PT X c t):PTs X [c] t:=fun pins s σ H Q I h=>wpAny_tests_one (hc pins s σ H Q I h)
def tComp (wi:TI) (k:Nat) (sel:List Nat) (g:TG) (tt:TT) (te:TE):TE:=fun σ H Q=>wi σ H fun J H1=>∀ p,H1 p=none →
 ∃ W:Nat→Nat→St→Hp→Prop,(∃ m,W 0 m (cst σ k sel) (upd H1 p (.lst [])))∧∀ i m σ2 H2,W i m σ2 H2 →
  (J.stop i H2∧Q (.ref p) H2)∨(J.go i H2∧∀ x H3,J.yld i H2 x H3→g x σ2 H3 fun σ4 H4=>tt σ4 H4 fun b H5 =>
   if b=true then te σ4 H5 fun v H6=>∃ ys,H6 p=some (.lst ys)∧ys.length<sizeLine∧∃ m',m'<m∧W (i+1) m' σ4 (upd H6 p (.lst (ys ++ [v]))) else ∃ m',m'<m∧W (i+1) m' σ4 H5)
theorem comp_loop {X:Cx}{elt tg iter:Expr}{ifs:List Expr}{scope:Scope}{pos:Pos}{it D:Addr}{fp:List Addr}{tn:Nat→Heap→Prop}{J:It}{g:TG}{tt:TT}{te:TE}{W:Nat→Nat→St→Hp→Prop}{R:Result→Shared→Prop}{QQ:Hp→Prop}
  (hx:X.xe=fun _ _=>False) (hc:X.calm=true) (T:Turn X.prog X.w X.K tg J fp it tn) (hg:PG X tg g) (ht:PTs X ifs tt) (he:PE X elt te)
  (hfp:∀ b∈fp,b≠X.env.locals∧b ∉ X.fs∧(b∈X.ex∨X.s₀.heap.objs.size≤b)∧(∀ x c,X.env.cells.lookup x=some c→c≠b)∧∀ p∈X.pn ++ [],p.1≠b)
  (turn:∀ i m σ2 H2,W i m σ2 H2 →
   (J.stop i H2∧QQ H2)∨(J.go i H2∧∀ x H3,J.yld i H2 x H3→g x σ2 H3 fun σ4 H4=>tt σ4 H4 fun b H5 =>
    if b=true then te σ4 H5 fun v H6=>∃ ys,H6 D=some (.lst ys)∧ys.length<sizeLine∧∃ m',m'<m∧W (i+1) m' σ4 (upd H6 D (.lst (ys ++ [v]))) else ∃ m',m'<m∧W (i+1) m' σ4 H5))
  (hR:∀ s' σ' H',Inv X [] σ' H' s'→QQ H'→R (.ok .next) s') {s:Shared} (m0:Nat) (h:∃ i σ' H',Inv X [] σ' H' s∧tn i s.heap∧(∀ b∈fp,H' b=none)∧W i m0 σ' H') :
  codeAny (model X.prog X.w) X.A (.compLoop (.ListComp elt [⟨tg,iter,ifs,0⟩] scope pos) 0 (.ref it) (.ref D) X.env) R s:=by
 have stat:∀ {H':Hp},(∀ b∈fp,H' b=none)→∀ b∈fp,FpOk X [] H' b:=fun hn b hb=>⟨hn b hb,hfp b hb⟩
 have noE:∀ {α:Type}{t:Sem α}{Q:α→Shared→Prop}{E:Value→Shared→Prop}{s:Shared},wpAny (model X.prog X.w) X.A t Q X.xe s→wpAny (model X.prog X.w) X.A t Q E s:=fun {α t Q E s} h=>by
  rw [hx] at h
  exact wpAny_noRaise h
 refine codeAny_loop rfl (fun n s'=>∃ i σ' H',Inv X [] σ' H' s'∧tn i s'.heap∧(∀ b∈fp,H' b=none)∧W i n σ' H') (fun n s3 hI=>?_) m0 h
 obtain ⟨i,σ3,H3,I3,st3,fr3,w3⟩:=hI
 show wpAny _ X.A ((compTurn (.ListComp elt [⟨tg,iter,ifs,0⟩] scope pos) 0 (.ref it) (.ref D) X.env).onRaise (fun x=>do noteFrame x X.env;theTreesLotGoes x)) _ _ s3
 refine wpAny_noted ?_
 rw [compTurn_list]
 rcases turn i n σ3 H3 w3 with ⟨stop,qn⟩ | ⟨go,step⟩
 ·refine wpAny_bind (wpAny_standAt (wpAny_bind (thn (noE (T.done X rfl rfl rfl hc i [] s3 σ3 H3 X.xe I3 (stat fr3) st3 stop)) fun r s4 ⟨hr,I4⟩=>?_)))
  subst hr
  exact wpAny_pure (hR s4 σ3 H3 I4 qn)
 ·refine wpAny_bind (wpAny_standAt (wpAny_bind (thn (noE (T.item X rfl rfl rfl hc i [] s3 σ3 H3 X.xe I3 (stat fr3) st3 go)) fun r s4 ⟨u,hr,h4⟩=>?_)))
  subst hr
  refine wpAny_bind (thn (noE h4) fun _ s5 ⟨x,H5,I5,r5,y5,st5,fr5⟩=>?_)
  have I5':=I5.pinned (stat fr5) (T.obj _ _ st5)
  refine wpAny_bind (thn (noE (hg _ s5 σ3 H5 x u _ I5' r5 (step x H5 y5))) fun _ s6 ⟨σ6,H6,I6,q6⟩=>?_)
  refine wpAny_bind (thn (noE (ht _ s6 σ6 H6 _ I6 q6)) fun ok s7 ⟨H7,I7,q7⟩=>?_)
  have again:∀ {s8:Shared}{H8:Hp},Inv X ([] ++ pinsAt fp s5.heap) σ6 H8 s8→(∃ m',m'<n∧W (i+1) m' σ6 H8)→∃ m,m<n∧∃ i σ' H',Inv X [] σ' H' s8∧tn i s8.heap∧(∀ b∈fp,H' b=none)∧W i m σ' H':=fun {s8 H8} I8 n8=>by
   obtain ⟨m',hm,w8⟩:=n8
   refine ⟨m',hm,i+1,σ6,H8,I8.unpinned,T.keep _ _ _ st5 fun b hb o e=>(I8.pin (b,o) (List.mem_append_right _ (List.mem_append_right _ (mem_pinsAt hb e)))).1,fun b hb=>?_,w8⟩
   obtain ⟨o,e,d⟩:=T.obj _ _ st5 b hb
   exact (I8.pin (b,o) (List.mem_append_right _ (List.mem_append_right _ (mem_pinsAt hb e)))).2.1
  cases ok with
  | false=>exact wpAny_pure ⟨rfl,again I7 q7⟩
  | true =>
   refine wpAny_bind (wpAny_bind (thn (noE (he _ s7 σ6 H7 _ I7 q7)) fun y s8 ⟨v,H8,I8,r8,ys,hys,hl,q8⟩=>?_))
   refine wpAny_bind (thn (noE (mt_append _ s8 σ6 H8 (.ref D) [v] (.ref D) [y] (fun _ H9=>∃ m',m'<n∧W (i+1) m' σ6 H9) I8 rfl (.cons r8 .nil) ⟨D,ys,v,rfl,rfl,hys,hl,q8⟩)) fun _ s9 ⟨_,H9,I9,_,q9⟩=>?_)
   exact wpAny_pure (wpAny_pure ⟨rfl,again I9 q9⟩)
structure CFree (X:Cx) (pins:List (Addr × Obj)) (H:Hp) (C:Addr) (s:Shared):Prop where
 none:H C=Option.none
 ne:C≠X.env.locals
 above:X.s₀.heap.objs.size≤C
 cells:∀ x c,X.env.cells.lookup x=some c→c≠C
 pins:∀ p∈X.pn ++ pins,p.1≠C
 ns:∃ m,s.heap.Ns C m
theorem comp_block {X:Cx}{pins:List (Addr × Obj)}{σ:St}{elt tg iter:Expr}{ifs:List Expr}{scope:Scope}{pos:Pos}{N:List Str}{k:Nat}{sel:List Nat}{g:TG}{tt:TT}{te:TE}{itv:Value}{s2:Shared}{QQ:VK}{use:Option (Value→Sem Unit)}{Qv:Value→Shared→Prop}
  (S:CScope X scope) (M:CNames X scope N k sel) (hc:X.calm=true)
  (hg:∀ C s H fp,PG (ccx X scope N C s H fp) tg g) (ht:∀ C s H fp,PTs (ccx X scope N C s H fp) ifs tt) (he:∀ C s H fp,PE (ccx X scope N C s H fp) elt te)
  (fin:∀ D C s' H',Inv X pins σ H' s'→CFree X pins H' C s'→QQ (.ref D) H'→compPost (model X.prog X.w) X.A X.xe use Qv (.ref D) C (.ok .next) s')
  (h2:PIE X pins σ tg (fun J H1=>∀ p,H1 p=none→∃ W:Nat→Nat→St→Hp→Prop,(∃ m,W 0 m (cst σ k sel) (upd H1 p (.lst [])))∧∀ i m σ2 H2,W i m σ2 H2 →
   (J.stop i H2∧QQ (.ref p) H2)∨(J.go i H2∧∀ x H3,J.yld i H2 x H3→g x σ2 H3 fun σ4 H4=>tt σ4 H4 fun b H5 =>
    if b=true then te σ4 H5 fun v H6=>∃ ys,H6 p=some (.lst ys)∧ys.length<sizeLine∧∃ m',m'<m∧W (i+1) m' σ4 (upd H6 p (.lst (ys ++ [v]))) else ∃ m',m'<m∧W (i+1) m' σ4 H5)) itv s2) :
  wpAny (model X.prog X.w) X.A (newList []) (fun acc s₃=>wpAny (model X.prog X.w) X.A (newFunctionEnv scope X.env.globals (clOf X.env scope.names []) [] X.env.qual none .none (some X.env)) (fun cenv s₄ =>
   codeAny (model X.prog X.w) X.A (.compStart (.ListComp elt [⟨tg,iter,ifs,0⟩] scope pos) 0 itv acc { cenv with scope:=relabel scope X.env }) (compPost (model X.prog X.w) X.A X.xe use Qv acc cenv.locals) s₄) X.xe s₃) X.xe s2:=by
 obtain ⟨it,fp,tn,J,H2,rfl,I2,T,st2,f2,R2⟩:=h2
 have hD:H2 s2.heap.objs.size=none:=I2.hok.fresh (Nat.le_refl _)
 obtain ⟨W,⟨m0,w0⟩,turn⟩:=R2 _ hD
 refine wpAny_newObj_type ?_
 have I3:=I2.lnew (its:=[]) (ys:=[]) (t':=s2.toks) .nil (Nat.zero_le _)
 generalize hs3:({ s2 with heap:=s2.heap.push { cls:=.type "list",data:=.seq ([]:List Value).toArray },toks:=s2.toks }:Shared)=s3 at I3
 have e3:({ s2 with heap:=s2.heap.push { cls:=.type "list",dict:=none,data:=.seq ([]:List Value).toArray } }:Shared)=s3:=by rw [← hs3]
 have up:∀ b o,s2.heap.get? b=some o→s3.heap.get? b=some o:=fun b o e=>by rw [← hs3];exact Heap.get?_push_of_some _ e
 have hsz:s2.heap.objs.size≤s3.heap.objs.size:=by rw [← hs3];show _≤(s2.heap.push _).objs.size;rw [Heap.size_push];exact Nat.le_succ _
 have hlt2:∀ b∈fp,b<s2.heap.objs.size:=fun b hb=>by
  obtain ⟨o,e,_⟩:=T.obj _ _ st2 b hb
  exact Heap.lt_size e
 have hlt:∀ b∈fp,b<s3.heap.objs.size:=fun b hb=>Nat.lt_of_lt_of_le (hlt2 b hb) hsz
 have f3:∀ b∈fp,FpOk X pins (upd H2 s2.heap.objs.size (.lst [])) b:=fun b hb=>⟨by rw [upd_ne (Nat.ne_of_lt (hlt2 b hb))];exact (f2 b hb).1,(f2 b hb).2⟩
 refine wpAny_newFunctionEnv S.nocell (by intro y hy;simp at hy) (fun h₁ hns₁ hsb₁=>?_) S.kind
 have up₁:∀ b o,s3.heap.get? b=some o→h₁.get? b=some o:=fun b o e=>hsb₁.extBut b o (Nat.ne_of_lt (Heap.lt_size e)) (Heap.get?_push_of_some _ e)
 have Ic:=ccx_inv (N:=N) (k:=k) (sel:=sel) (t':=s3.toks+([]:List (Str × Value)).length) S M I3 f3 hlt hns₁ up₁
 have st₁:tn 0 h₁:=T.keep _ _ _ st2 fun b hb o e=>up₁ b o (up b o e)
 have fr:∀ b∈fp,(upd H2 s2.heap.objs.size (.lst [])) b=none:=fun b hb=>(f3 b hb).1
 have loop:codeAny (model X.prog X.w) X.A (.compLoop (.ListComp elt [⟨tg,iter,ifs,0⟩] scope pos) 0 (.ref it) (.ref s2.heap.objs.size) (compEnvC scope (clOf X.env scope.names []) s3.heap.objs.size X.env))
   (compPost (model X.prog X.w) X.A X.xe use Qv (.ref s2.heap.objs.size) s3.heap.objs.size) { s3 with heap:=h₁,toks:=s3.toks+([]:List (Str × Value)).length }:=by
  refine comp_loop (X:=ccx X scope N s3.heap.objs.size s3 (upd H2 s2.heap.objs.size (.lst [])) fp) (QQ:=fun H'=>QQ (.ref s2.heap.objs.size) H') (W:=W) rfl hc T (hg _ _ _ _) (ht _ _ _ _) (he _ _ _ _) (fun b hb=>?_) turn (fun s' σ' H' I' q'=>?_) m0 ⟨0,cst σ k sel,_,Ic,st₁,fr,w0⟩
  ·refine ⟨Nat.ne_of_lt (hlt b hb),?_,.inl hb,fun x c h=>(f3 b hb).2.2.2.2.1 x c (cl_sub S I3.ok h),fun p hp=>absurd (show p∈([]:List (Addr × Obj)) from hp) (by simp)⟩
   exact (ccx_ok (N:=N) S I3 f3 hlt).exfs b hb
  ·have Ie:Inv X pins σ H' s':=I3.call' (ch:=fp) I'.os I'.base I'.hok I'.bare fun b hb=>⟨(f3 b hb).2.2.2.1,(f3 b hb).2.1,(f3 b hb).2.2.2.2.1,(f3 b hb).2.2.2.2.2⟩
   refine fin _ _ s' H' Ie ⟨I'.free,?_,Nat.le_trans I3.sz (Nat.le_refl _),fun x c e=>?_,fun p hp=>?_,?_⟩ q'
   ·exact Ne.symm (Nat.ne_of_lt I3.lt)
   ·obtain ⟨v,o,ho,_⟩:=I3.cell x c e
    exact Nat.ne_of_lt (Heap.lt_size ho)
   ·exact Nat.ne_of_lt (Heap.lt_size (I3.pin p hp).1)
   ·obtain ⟨m,hn,_⟩:=I'.loc
    exact ⟨m,hn⟩
 exact codeAny_compStart_list loop (T.self X.A 0 _ _ _ st₁ loop)
section
variable {X:Cx}{elt tg iter:Expr}{ifs:List Expr}{scope:Scope}{pos:Pos}{N:List Str}{k:Nat}{sel:List Nat}{wi:TI}{g:TG}{tt:TT}{te:TE}
theorem pe_comp (S:CScope X scope) (M:CNames X scope N k sel) (hc:X.calm=true) (hi:PI X tg iter wi)
  (hg:∀ C s H fp,PG (ccx X scope N C s H fp) tg g) (ht:∀ C s H fp,PTs (ccx X scope N C s H fp) ifs tt) (he:∀ C s H fp,PE (ccx X scope N C s H fp) elt te)
  (hs:∀ x,foldedSetIterable iter X.env x=pure x:=by intro _;rfl):PE X (.ListComp elt [⟨tg,iter,ifs,0⟩] scope pos) (tComp wi k sel g tt te):=by
 intro pins s σ H Q I h
 rw [eval_ListComp]
 refine wpAny_comprehension_free (use:=none) rfl hs (closure_of (S.has I.ok)) S.kind S.names (thn (hi pins s σ H _ I h) fun v s1 h1=>thn h1 fun itv s2 h2=>?_)
 refine comp_block (QQ:=Q) S M hc hg ht he (fun D C s' H' I' F q=>?_) h2
 obtain ⟨m,hn⟩:=F.ns
 exact ⟨m,hn,fun h' hsb=>⟨.ref D,H',I'.turned (t':=s'.toks) (fun b o hb e=>hsb.extBut b o hb e) F.none F.ne (.inr F.above) F.cells F.pins,rfl,q⟩⟩
theorem ps_setC {i:Nat}{y:Str}{py spos:Pos} (S:CScope X scope) (M:CNames X scope N k sel) (hc:X.calm=true) (hi:PI X tg iter wi)
  (hg:∀ C s H fp,PG (ccx X scope N C s H fp) tg g) (ht:∀ C s H fp,PTs (ccx X scope N C s H fp) ifs tt) (he:∀ C s H fp,PE (ccx X scope N C s H fp) elt te)
  (hN:X.N.Nodup) (hiy:X.N[i]? = some y) (hy:Loc X.env.scope y)
  (hsw:swapsWith (.ListComp elt [⟨tg,iter,ifs,0⟩] scope pos) (some (.Name y py)) spos.line X.env=pure true)
  (hs:∀ x,foldedSetIterable iter X.env x=pure x:=by intro _;rfl) (hf:X.fn y=true∨X.env.scope.names.lookup y=some .local:=by first | exact .inl rfl | exact .inr rfl | assumption) :
  PS X (.Assign [.Name y py] (.ListComp elt [⟨tg,iter,ifs,0⟩] scope pos) spos) (tAsg (tComp wi k sel g tt te) (gName i)):=by
 intro pins s σ H D I h
 rw [exec_Assign_Name_used _ _ _ _ hsw]
 refine wpAny_bind (wpAny_standAt (wpAny_bind ?_))
 show wpAny _ X.A (do let _ ← comprehension (.ListComp elt [⟨tg,iter,ifs,0⟩] scope pos) scope X.env _ (newList []) false (eval iter X.env) (some (assign (.Name y py) X.env))) _ _ s
 refine wpAny_bind (wpAny_mono (wpAny_comprehension_free (use:=some (assign (.Name y py) X.env)) (Q:=fun _ s'=>SP X pins D .next s') rfl hs (closure_of (S.has I.ok)) S.kind S.names
  (thn (hi pins s σ H _ I h) fun v s1 h1=>thn h1 fun itv s2 h2=>?_)) (fun _ s' hq=>wpAny_pure (wpAny_pure hq)) fun _ _ e=>e)
 refine comp_block (QQ:=fun v H1=>D.nx (σ.set i (some v)) H1) S M hc hg ht he (fun Da C s' H' I' F q=>?_) h2
 show wpAny _ X.A (assign (.Name y py) X.env (.ref Da)) _ _ _
 refine wpAny_assign_Name (store_ok2 I' hN hiy hy (v:=.ref Da) rfl (fun s'' I'' hch=>?_) hf)
 obtain ⟨m,hn⟩:=F.ns
 obtain ⟨a,hsb,ha⟩:=hch
 have haC:C≠a:=by
  rcases ha with ha | ha
  ·rw [ha];exact F.ne
  ·exact Ne.symm (F.cells _ _ ha)
 refine ⟨m,hn.sameBut hsb haC,fun h' hsb'=>⟨σ.set i (some (.ref Da)),H',I''.turned (t':=s''.toks) (fun b o hb e=>hsb'.extBut b o hb e) F.none F.ne (.inr F.above) F.cells F.pins,q⟩⟩
end
section
variable {X:Cx}
theorem PE.imp {e:Expr}{t t':TE} (h:PE X e t) (f:∀ σ H Q,t' σ H Q→t σ H Q):PE X e t':=fun pins s σ H Q I q=>h pins s σ H Q I (f σ H Q q)
theorem OpR.imp {g:Value→Value→Sem Value}{r r':R2} (h:OpR X g r) (f:∀ x y H Q,r' x y H Q→r x y H Q):OpR X g r':=fun pins s σ H x y v u Q I rx ry q=>h pins s σ H x y v u Q I rx ry (f x y H Q q)
theorem IxR.imp {r r':R2} (h:IxR X r) (f:∀ x y H Q,r' x y H Q→r x y H Q):IxR X r':=fun value slice pins s σ H x y v u Q I rx ry q=>h value slice pins s σ H x y v u Q I rx ry (f x y H Q q)
theorem SlR.imp {r r':V→Option Int→Option Int→Hp→VK→Prop} (h:SlR X r) (f:∀ x lo hi H Q,r' x lo hi H Q→r x lo hi H Q):SlR X r':=fun pins s σ H x v vl vu lo hi sl Q I rx hs pl pu q=>h pins s σ H x v vl vu lo hi sl Q I rx hs pl pu (f x lo hi H Q q)
def cVar (i:Nat):TE:=fun σ H Q=>match σ[i]? with | some (some v)=>Q v H | _=>False
theorem cVar_of {i:Nat}{σ:St}{H:Hp}{Q:VK} (h:cVar i σ H Q):tVar i σ H Q:=by
 unfold cVar at h
 split at h
 ·exact ⟨_,by assumption,h⟩
 ·exact h.elim
theorem cv (i:Nat) {x:Str}{pos:Pos} (hN:X.N[i]? = some x:=by rfl) (hv:Vis X.env.scope x:=by first | exact Or.inl rfl | exact Or.inr (Or.inl rfl) | exact Or.inr (Or.inr rfl)) (hd:(x == ("__debug__" : Str))=false:=by decide)
  (hcd:(x == ("__classdict__" : Str))=false:=by decide):PE X (.Name x pos) (cVar i):=(pe_var hN hv hd hcd).imp fun _ _ _ h=>cVar_of h
def cI2 (f:Int→Int→V):R2:=fun x y H Q=>match x,y with | .int i,.int j=>Q (f i j) H | _,_=>False
def cI2c (C:Int→Int→Prop) (f:Int→Int→V):R2:=fun x y H Q=>match x,y with | .int i,.int j=>C i j∧Q (f i j) H | _,_=>False
theorem cI2_of {f:Int→Int→V}{x y:V}{H:Hp}{Q:VK} (h:cI2 f x y H Q):rI0 f x y H Q:=by
 cases x <;> cases y <;> first | exact False.elim h | exact ⟨_,_,rfl,rfl,h⟩
theorem cI2c_of {C:Int→Int→Prop}{f:Int→Int→V}{x y:V}{H:Hp}{Q:VK} (h:cI2c C f x y H Q):rI C f x y H Q:=by
 cases x <;> cases y <;> first | exact False.elim h | exact ⟨_,_,rfl,rfl,h.1,h.2⟩
theorem o_sub:OpR X (binaryOp .Sub) (cI2 fun i j=>.int (i - j)):=op_sub.imp fun _ _ _ _ h=>cI2_of h
theorem o_fdiv:OpR X (binaryOp .FloorDiv) (cI2c CDiv fun i j=>.int (i / j)):=op_fdiv.imp fun _ _ _ _ h=>cI2c_of h
theorem o_mod:OpR X (binaryOp .Mod) (cI2c (fun _ j=>0<j) fun i j=>.int (i % j)):=op_mod.imp fun _ _ _ _ h=>cI2c_of h
theorem o_shr:OpR X (binaryOp .RShift) (cI2c (fun _ j=>0≤j) fun i j=>.int (i / 2 ^ j.toNat)):=op_shr.imp fun _ _ _ _ h=>cI2c_of h
theorem o_and:OpR X (binaryOp .BitAnd) (cI2 fun i j=>.int (Builtin.bitAnd i j)):=op_and.imp fun _ _ _ _ h=>cI2_of h
theorem o_lt:OpR X (compareOp .Lt) (cI2 fun i j=>.bl (decide (i<j))):=op_lt.imp fun _ _ _ _ h=>cI2_of h
theorem o_le:OpR X (compareOp .LtE) (cI2 fun i j=>.bl (decide (i≤j))):=op_le.imp fun _ _ _ _ h=>cI2_of h
theorem o_gt:OpR X (compareOp .Gt) (cI2 fun i j=>.bl (decide (j<i))):=op_gt.imp fun _ _ _ _ h=>cI2_of h
theorem o_ge:OpR X (compareOp .GtE) (cI2 fun i j=>.bl (decide (j≤i))):=op_ge.imp fun _ _ _ _ h=>cI2_of h
def cAdd:R2:=fun x y H Q=>match x,y with
 | .int i,.int j=>Q (.int (i+j)) H
 | .str i,.str j=>i.length+j.length≤sizeLine∧Q (.str (i ++ j)) H
 | .ref l,.ref b=>∃ xs zs,H l=some (.lst xs)∧H b=some (.lst zs)∧xs.length+zs.length≤sizeLine∧∀ p,H p=none→Q (.ref p) (upd H p (.lst (xs ++ zs)))
 | _,_=>False
theorem o_add:OpR X (binaryOp .Add) cAdd:=by
 intro pins s σ H x y v u Q I rx ry h
 cases x <;> cases y <;> first
  | exact False.elim h
  | exact op_add pins s σ H _ _ v u Q I rx ry ⟨_,_,rfl,rfl,h⟩
  | exact op_add_str pins s σ H _ _ v u Q I rx ry ⟨_,_,rfl,rfl,h.1,h.2⟩
  | (obtain ⟨xs,zs,h1,h2,h3,h4⟩:=h;exact op_cat pins s σ H _ _ v u Q I rx ry ⟨_,_,xs,zs,rfl,rfl,h1,h2,h3,h4⟩)
inductive DeepEq (K:PySem.W.Frag) (H:Hp):Nat→V→V→Prop where
 | flat {n:Nat}{x:V} (f:flatV x=true):DeepEq K H n x x
 | lst {n:Nat}{a b:Addr}{xs ys:List V} (h1:SqL K H a xs) (h2:SqL K H b ys) (hl:xs.length=ys.length) (h:∀ (i:Nat) x y,xs[i]? = some x→ys[i]? = some y→DeepEq K H n x y):DeepEq K H (n+1) (.ref a) (.ref b)
 | tup {n:Nat}{a b:Addr}{xs ys:List V} (h1:SqT K H a xs) (h2:SqT K H b ys) (hl:xs.length=ys.length) (h:∀ (i:Nat) x y,xs[i]? = some x→ys[i]? = some y→DeepEq K H n x y):DeepEq K H (n+1) (.ref a) (.ref b)
theorem isListOf {pins:List (Addr × Obj)}{σ:St}{H:Hp}{s:Shared}{a:Addr}{xs:List V} (I:Inv X pins σ H s) (h:SqL X.K H a xs):∃ its:List Value,Vals xs its∧s.heap.IsList a its.toArray:=by
 obtain ⟨its,r,p,_⟩:=I.list h
 exact ⟨its,r,p.isList⟩
theorem units_in1 {A:Around}{n:Nat} (h:A.units+(n+1)<cLine):A.in1.units+n<cLine:=by
 have e:A.in1.units=A.units+1:=rfl
 omega
theorem deep_rc {pins:List (Addr × Obj)}{σ:St}{H:Hp}{s:Shared} (I:Inv X pins σ H s):∀ {n:Nat}{x y:V},DeepEq X.K H n x y→∀ (A:Around) {u v:Value},A.units+n<cLine→RelV x u→RelV y v→SeqAt.EqAt A s u v true
 | _,_,_,.flat f,A,u,v,hu,rx,ry=>by
  have e:=eqAt_V (A:=A) (s:=s) rx ry f f
  rename_i n x
  have q:eqV x x=true:=by cases x <;> first | rfl | (simp [eqV];done) | exact absurd f (by simp [flatV])
  rw [q] at e
  exact e
 | _,_,_,@DeepEq.lst _ _ n a b xs ys h1 h2 hl h,A,u,v,hu,rx,ry=>by
  cases rx;cases ry
  by_cases hab:a=b
  ·subst hab;exact SeqAt.EqAt.same _
  ·obtain ⟨its,r1,p1⟩:=isListOf I h1
   obtain ⟨its2,r2,p2⟩:=isListOf I h2
   have e1:=r1.length
   have e2:=r2.length
   have q:=SeqAt.RcAt.lists (A:=A) (e:=fun _=>true) p1 p2 (by simp;omega) (by omega) (fun j j1 j2=>by
    have j1':j<its.length:=by simpa using j1
    have j2':j<its2.length:=by simpa using j2
    obtain ⟨w1,q1,s1⟩:=r1.get (i:=j) (x:=xs[j]'(by omega)) (by simp)
    obtain ⟨w2,q2,s2⟩:=r2.get (i:=j) (x:=ys[j]'(by omega)) (by simp)
    have z1:its.toArray[j]=w1:=by
     have:=List.getElem?_eq_some_iff.mp q1
     obtain ⟨_,z⟩:=this
     simpa using z
    have z2:its2.toArray[j]=w2:=by
     have:=List.getElem?_eq_some_iff.mp q2
     obtain ⟨_,z⟩:=this
     simpa using z
    rw [z1,z2]
    exact deep_rc I (h j _ _ (by simp) (by simp)) A.in1 (units_in1 hu) s1 s2)
   have:((List.range its.toArray.size).all fun _=>true)=true:=by simp
   rw [this] at q
   exact SeqAt.EqAt.of_refs hab q
 | _,_,_,@DeepEq.tup _ _ n a b xs ys h1 h2 hl h,A,u,v,hu,rx,ry=>by
  cases rx;cases ry
  by_cases hab:a=b
  ·subst hab;exact SeqAt.EqAt.same _
  ·obtain ⟨its,r1,p1,_⟩:=I.tuple h1
   obtain ⟨its2,r2,p2,_⟩:=I.tuple h2
   have e1:=r1.length
   have e2:=r2.length
   have q:=SeqAt.RcAt.tuples (A:=A) (e:=fun _=>true) p1 p2 (by omega) (fun j j1 j2=>by
    have j1':j<its.length:=by simpa using j1
    have j2':j<its2.length:=by simpa using j2
    obtain ⟨w1,q1,s1⟩:=r1.get (i:=j) (x:=xs[j]'(by omega)) (by simp)
    obtain ⟨w2,q2,s2⟩:=r2.get (i:=j) (x:=ys[j]'(by omega)) (by simp)
    have z1:its.toArray[j]=w1:=by
     have:=List.getElem?_eq_some_iff.mp q1
     obtain ⟨_,z⟩:=this
     simpa using z
    have z2:its2.toArray[j]=w2:=by
     have:=List.getElem?_eq_some_iff.mp q2
     obtain ⟨_,z⟩:=this
     simpa using z
    rw [z1,z2]
    exact deep_rc I (h j _ _ (by simp) (by simp)) A.in1 (units_in1 hu) s1 s2)
   have:(((List.range (min its.toArray.size its2.toArray.size)).all fun _=>true) && its.toArray.size == its2.toArray.size)=true:=by simp;omega
   rw [this] at q
   exact SeqAt.EqAt.of_refs hab q
end
section
variable {X:Cx}{a b c:Expr}{ta tb tc:TE}{pos:Pos}
def eqVs (xs ys:List V):Bool:=xs.length == ys.length && (List.range xs.length).all fun i=>eqV (xs.getD i .non) (ys.getD i .non)
theorem eqVs_range {xs ys:List V}{us ws:List Value} (r1:Vals xs us) (r2:Vals ys ws) (f1:xs.all flatV=true) (f2:ys.all flatV=true) (A:Around) (s:Shared) :
  ∀ j (h1:j<us.toArray.size) (h2:j<ws.toArray.size),SeqAt.EqAt A s us.toArray[j] ws.toArray[j] (eqV (xs.getD j .non) (ys.getD j .non)):=fun j j1 j2=>by
 have e1:=r1.length
 have e2:=r2.length
 have j1':j<us.length:=by simpa using j1
 have j2':j<ws.length:=by simpa using j2
 have x1:j<xs.length:=by omega
 have y1:j<ys.length:=by omega
 obtain ⟨w1,q1,s1⟩:=r1.get (i:=j) (x:=xs[j]) (by simp)
 obtain ⟨w2,q2,s2⟩:=r2.get (i:=j) (x:=ys[j]) (by simp)
 have z1:us.toArray[j]=w1:=by
  obtain ⟨_,z⟩:=List.getElem?_eq_some_iff.mp q1
  simpa using z
 have z2:ws.toArray[j]=w2:=by
  obtain ⟨_,z⟩:=List.getElem?_eq_some_iff.mp q2
  simpa using z
 rw [z1,z2]
 have g1:xs.getD j .non=xs[j]:=by simp [List.getD,x1]
 have g2:ys.getD j .non=ys[j]:=by simp [List.getD,y1]
 rw [g1,g2]
 exact eqAt_V s1 s2 (List.all_eq_true.mp f1 _ (List.getElem_mem _)) (List.all_eq_true.mp f2 _ (List.getElem_mem _))
def EqRef (K:PySem.W.Frag) (H:Hp) (p q:Addr) (k:Bool):Prop :=
 (k=true∧DeepEq K H 4 (.ref p) (.ref q)) ∨
 (∃ xs ys,SqL K H p xs∧SqL K H q ys∧xs.all flatV=true∧ys.all flatV=true∧k=eqVs xs ys) ∨
 (k=false∧∃ xs ys,SqL K H p xs∧SqL K H q ys∧xs.length≠ys.length) ∨
 (∃ xs ys,SqT K H p xs∧SqT K H q ys∧xs.all flatV=true∧ys.all flatV=true∧k=eqVs xs ys)
theorem eqRef_rc {pins:List (Addr × Obj)}{σ:St}{H:Hp}{s:Shared}{p q:Addr}{k:Bool} (I:Inv X pins σ H s) (hu:X.A.units+8<cLine) (h:EqRef X.K H p q k) :
  SeqAt.RcAt X.A s (.ref p) (.ref q) k∧SeqAt.RcNeAt X.A s (.ref p) (.ref q) (!k):=by
 have deep:∀ {xs ys:List V}{n:Nat},n≤4→(SqL X.K H p xs∧SqL X.K H q ys∨SqT X.K H p xs∧SqT X.K H q ys)→xs.length=ys.length→(∀ (i:Nat) x y,xs[i]? = some x→ys[i]? = some y→DeepEq X.K H n x y) →
   SeqAt.RcAt X.A s (.ref p) (.ref q) true∧SeqAt.RcNeAt X.A s (.ref p) (.ref q) (!true):=fun {xs ys n} hn hq hl hd=>by
  have items:∀ {us ws:List Value},Vals xs us→Vals ys ws→∀ j (h1:j<us.toArray.size) (h2:j<ws.toArray.size),SeqAt.EqAt X.A.in1 s us.toArray[j] ws.toArray[j] true:=fun {us ws} r1 r2 j j1 j2=>by
   have e1:=r1.length
   have e2:=r2.length
   have j1':j<us.length:=by simpa using j1
   have j2':j<ws.length:=by simpa using j2
   obtain ⟨w1,q1,s1⟩:=r1.get (i:=j) (x:=xs[j]'(by omega)) (by simp)
   obtain ⟨w2,q2,s2⟩:=r2.get (i:=j) (x:=ys[j]'(by omega)) (by simp)
   have z1:us.toArray[j]=w1:=by
    obtain ⟨_,z⟩:=List.getElem?_eq_some_iff.mp q1
    simpa using z
   have z2:ws.toArray[j]=w2:=by
    obtain ⟨_,z⟩:=List.getElem?_eq_some_iff.mp q2
    simpa using z
   rw [z1,z2]
   exact deep_rc I (hd j _ _ (by simp) (by simp)) X.A.in1 (by have e:X.A.in1.units=X.A.units+1:=rfl;omega) s1 s2
  rcases hq with ⟨h1,h2⟩ | ⟨h1,h2⟩
  ·obtain ⟨its,r1,p1⟩:=isListOf I h1
   obtain ⟨its2,r2,p2⟩:=isListOf I h2
   have e1:=r1.length
   have e2:=r2.length
   have z:((List.range its.toArray.size).all fun _=>true)=true:=by simp
   have a1:=SeqAt.RcAt.lists (A:=X.A) (e:=fun _=>true) p1 p2 (by simp;omega) (by omega) (items r1 r2)
   have a2:=SeqAt.RcNeAt.lists (A:=X.A) (e:=fun _=>true) p1 p2 (by simp;omega) (by omega) (items r1 r2)
   rw [z] at a1 a2
   exact ⟨a1,a2⟩
  ·obtain ⟨its,r1,p1,_⟩:=I.tuple h1
   obtain ⟨its2,r2,p2,_⟩:=I.tuple h2
   have e1:=r1.length
   have e2:=r2.length
   have z:(((List.range (min its.toArray.size its2.toArray.size)).all fun _=>true) && its.toArray.size == its2.toArray.size)=true:=by simp;omega
   have a1:=SeqAt.RcAt.tuples (A:=X.A) (e:=fun _=>true) p1 p2 (by omega) (items r1 r2)
   have a2:=SeqAt.RcNeAt.tuples (A:=X.A) (e:=fun _=>true) p1 p2 (by omega) (items r1 r2)
   rw [z] at a1 a2
   exact ⟨a1,a2⟩
 have flatL:∀ {xs ys:List V},SqL X.K H p xs→SqL X.K H q ys→xs.length≠ys.length→SeqAt.RcAt X.A s (.ref p) (.ref q) false∧SeqAt.RcNeAt X.A s (.ref p) (.ref q) (!false):=fun {xs ys} h1 h2 hl=>by
  obtain ⟨its,r1,p1⟩:=isListOf I h1
  obtain ⟨its2,r2,p2⟩:=isListOf I h2
  have e1:=r1.length
  have e2:=r2.length
  have z:(its.toArray.size != its2.toArray.size)=true:=by simp;omega
  exact ⟨SeqAt.RcAt.lists_lengths p1 p2 z (by omega),SeqAt.RcNeAt.lists_lengths p1 p2 z (by omega)⟩
 rcases h with ⟨rfl,h⟩ | ⟨xs,ys,h1,h2,f1,f2,rfl⟩ | ⟨rfl,xs,ys,h1,h2,hl⟩ | ⟨xs,ys,h1,h2,f1,f2,rfl⟩
 ·cases h with
  | flat f=>simp [flatV] at f
  | lst h1 h2 hl hd=>exact deep (by decide) (.inl ⟨h1,h2⟩) hl hd
  | tup h1 h2 hl hd=>exact deep (by decide) (.inr ⟨h1,h2⟩) hl hd
 ·by_cases hl:xs.length=ys.length
  ·obtain ⟨its,r1,p1⟩:=isListOf I h1
   obtain ⟨its2,r2,p2⟩:=isListOf I h2
   have e1:=r1.length
   have e2:=r2.length
   have z:eqVs xs ys=(List.range its.toArray.size).all fun i=>eqV (xs.getD i .non) (ys.getD i .non):=by
    unfold eqVs
    rw [List.size_toArray,← e1,hl]
    simp
   rw [z]
   exact ⟨SeqAt.RcAt.lists p1 p2 (by simp;omega) (by omega) (eqVs_range r1 r2 f1 f2 _ _),SeqAt.RcNeAt.lists p1 p2 (by simp;omega) (by omega) (eqVs_range r1 r2 f1 f2 _ _)⟩
  ·have z:eqVs xs ys=false:=by unfold eqVs;simp [hl]
   rw [z]
   exact flatL h1 h2 hl
 ·exact flatL h1 h2 hl
 ·obtain ⟨its,r1,p1,_⟩:=I.tuple h1
  obtain ⟨its2,r2,p2,_⟩:=I.tuple h2
  have e1:=r1.length
  have e2:=r2.length
  by_cases hl:xs.length=ys.length
  ·have z:eqVs xs ys=((List.range (min its.toArray.size its2.toArray.size)).all (fun i=>eqV (xs.getD i .non) (ys.getD i .non)) && its.toArray.size == its2.toArray.size):=by
    unfold eqVs
    rw [List.size_toArray,List.size_toArray,← e1,← e2,hl]
    simp
   rw [z]
   exact ⟨SeqAt.RcAt.tuples p1 p2 (by omega) (eqVs_range r1 r2 f1 f2 _ _),SeqAt.RcNeAt.tuples p1 p2 (by omega) (eqVs_range r1 r2 f1 f2 _ _)⟩
  ·have z:eqVs xs ys=((List.range (min its.toArray.size its2.toArray.size)).all (fun i=>eqV (xs.getD i .non) (ys.getD i .non)) && its.toArray.size == its2.toArray.size):=by
    have z1:eqVs xs ys=false:=by unfold eqVs;simp [hl]
    have z2:(its.toArray.size == its2.toArray.size)=false:=by simp;omega
    rw [z1,z2,Bool.and_false]
   rw [z]
   exact ⟨SeqAt.RcAt.tuples p1 p2 (by omega) (eqVs_range r1 r2 f1 f2 _ _),SeqAt.RcNeAt.tuples p1 p2 (by omega) (eqVs_range r1 r2 f1 f2 _ _)⟩
def cEq (K:PySem.W.Frag):R2:=fun x y H Q=>match x,y with
 | .int i,.int j=>Q (.bl (decide (i=j))) H
 | .bl i,.bl j=>Q (.bl (decide (i=j))) H
 | .str i,.str j=>Q (.bl (decide (i=j))) H
 | .non,.non=>Q (.bl true) H
 | .non,.int _=>Q (.bl false) H
 | .int _,.non=>Q (.bl false) H
 | .non,.str _=>Q (.bl false) H
 | .str _,.non=>Q (.bl false) H
 | .non,.bl _=>Q (.bl false) H
 | .bl _,.non=>Q (.bl false) H
 | .ref p,.ref q=>∃ k,EqRef K H p q k∧Q (.bl k) H
 | _,_=>False
def cNe (K:PySem.W.Frag):R2:=fun x y H Q=>match x,y with
 | .int i,.int j=>Q (.bl (!decide (i=j))) H
 | .bl i,.bl j=>Q (.bl (!decide (i=j))) H
 | .str i,.str j=>Q (.bl (!decide (i=j))) H
 | .non,.non=>Q (.bl false) H
 | .non,.int _=>Q (.bl true) H
 | .int _,.non=>Q (.bl true) H
 | .non,.str _=>Q (.bl true) H
 | .str _,.non=>Q (.bl true) H
 | .non,.bl _=>Q (.bl true) H
 | .bl _,.non=>Q (.bl true) H
 | .ref p,.ref q=>∃ k,EqRef K H p q k∧Q (.bl (!k)) H
 | _,_=>False
theorem dcI {i j:Int}:decide (V.int i=V.int j)=decide (i=j):=by rw [decide_eq_decide];exact ⟨V.int.inj,congrArg _⟩
theorem dcB {i j:Bool}:decide (V.bl i=V.bl j)=decide (i=j):=by rw [decide_eq_decide];exact ⟨V.bl.inj,congrArg _⟩
theorem dcS {i j:Str}:decide (V.str i=V.str j)=decide (i=j):=by rw [decide_eq_decide];exact ⟨V.str.inj,congrArg _⟩
theorem o_eq (hu:X.A.units+8<cLine):OpR X (compareOp .Eq) (cEq X.K):=by
  intro pins s σ H x y v u Q I rx ry h
  have go:rEq x y H Q→wpAny (model X.prog X.w) X.A (compareOp .Eq v u) (EP X pins σ Q) X.xe s:=fun q=>op_eq pins s σ H _ _ v u Q I rx ry q
  cases x <;> cases y <;> first
    | exact False.elim h
    | exact go ⟨rfl,h⟩
    | exact go ⟨rfl,by rw [dcI];exact h⟩
    | exact go ⟨rfl,by rw [dcB];exact h⟩
    | exact go ⟨rfl,by rw [dcS];exact h⟩
    | (obtain ⟨k,e,q⟩:=h
       cases rx;cases ry
       exact (eqRef_rc I hu e).1 _ _ _ _ ⟨.bl k,H,I,rfl,q⟩)
theorem o_ne (hu:X.A.units+8<cLine):OpR X (compareOp .NotEq) (cNe X.K):=by
  intro pins s σ H x y v u Q I rx ry h
  have go:rNe x y H Q→wpAny (model X.prog X.w) X.A (compareOp .NotEq v u) (EP X pins σ Q) X.xe s:=fun q=>op_ne pins s σ H _ _ v u Q I rx ry q
  cases x <;> cases y <;> first
    | exact False.elim h
    | exact go ⟨rfl,h⟩
    | exact go ⟨rfl,by rw [dcI];exact h⟩
    | exact go ⟨rfl,by rw [dcB];exact h⟩
    | exact go ⟨rfl,by rw [dcS];exact h⟩
    | (obtain ⟨k,e,q⟩:=h
       cases rx;cases ry
       exact (eqRef_rc I hu e).2 _ _ _ _ ⟨.bl (!k),H,I,rfl,q⟩)
def cIs:R2:=fun x y H Q=>match x,y with
 | .bl i,.bl j=>Q (.bl (decide (i=j))) H
 | x,.non=>Q (.bl (decide (x=.non))) H
 | .non,.bl _=>Q (.bl false) H
 | .int _,.bl _=>Q (.bl false) H
 | .str _,.bl _=>Q (.bl false) H
 | .ref _,.bl _=>Q (.bl false) H
 | _,_=>False
def cIsNot:R2:=fun x y H Q=>match x,y with
 | .bl i,.bl j=>Q (.bl (!decide (i=j))) H
 | x,.non=>Q (.bl (!decide (x=.non))) H
 | _,_=>False
theorem o_is:OpR X (compareOp .Is) cIs:=by
 intro pins s σ H x y v u Q I rx ry h
 have pl:∀ {k:Bool},PySem.plainIs v u=true→(v == u)=k→Q (.bl k) H→wpAny (model X.prog X.w) X.A (compareOp .Is v u) (EP X pins σ Q) X.xe s:=fun {k} hp e q=>wpAny_is_plain hp ⟨.bl k,H,I,by rw [e];rfl,q⟩
 cases y with
 | non =>
  have q:Q (.bl (decide (x=.non))) H:=by cases x <;> exact h
  exact op_isN pins s σ H _ _ v u Q I rx ry ⟨rfl,q⟩
 | bl j =>
  cases ry
  cases x with
  | bl i =>
   cases rx
   exact pl rfl (by cases i <;> cases j <;> rfl) h
  | non=>cases rx;exact pl rfl rfl h
  | int i=>obtain ⟨t,rfl⟩:=rx;exact pl rfl rfl h
  | str i=>obtain ⟨t,rfl⟩:=rx;exact pl rfl rfl h
  | ref i=>cases rx;exact pl rfl rfl h
  | _=>exact False.elim h
 | _=>cases x <;> exact False.elim h
theorem o_isnot:OpR X (compareOp .IsNot) cIsNot:=by
 intro pins s σ H x y v u Q I rx ry h
 cases y with
 | non =>
  have q:Q (.bl (!decide (x=.non))) H:=by cases x <;> exact h
  exact op_notN pins s σ H _ _ v u Q I rx ry ⟨rfl,q⟩
 | bl j =>
  cases ry
  cases x with
  | bl i =>
   cases rx
   exact wpAny_isNot_plain rfl ⟨.bl (!decide (i=j)),H,I,(by cases i <;> cases j <;> rfl),h⟩
  | _=>exact False.elim h
 | _=>cases x <;> exact False.elim h
def strIn (i j:Str):Bool:=!(Builtin.Str.occurrences j i 0 j.length 1).isEmpty
def cIn (K:PySem.W.Frag) (neg:Bool):R2:=fun x y H Q=>match y with
 | .ref p=>∃ xs,(SqL K H p xs∨SqT K H p xs)∧flatV x=true∧xs.all flatV=true∧Q (.bl (if neg then !inV x xs else inV x xs)) H
 | .str j=>match x with | .str i=>Q (.bl (if neg then !strIn i j else strIn i j)) H | _=>False
 | _=>False
theorem o_in:OpR X (compareOp .In) (cIn X.K false):=by
 intro pins s σ H x y v u Q I rx ry h
 cases y with
 | ref p =>
  obtain ⟨xs,h1,h2,h3,q⟩:=h
  exact op_in_seq pins s σ H _ _ v u Q I rx ry ⟨p,xs,rfl,h1,h2,h3,q⟩
 | str j =>
  cases x with
  | str i=>exact op_in_str pins s σ H _ _ v u Q I rx ry ⟨i,j,rfl,rfl,h⟩
  | _=>exact False.elim h
 | _=>exact False.elim h
theorem o_notin:OpR X (compareOp .NotIn) (cIn X.K true):=by
 intro pins s σ H x y v u Q I rx ry h
 cases y with
 | ref p =>
  obtain ⟨xs,h1,h2,h3,q⟩:=h
  exact op_notIn_seq pins s σ H _ _ v u Q I rx ry ⟨p,xs,rfl,h1,h2,h3,q⟩
 | str j =>
  cases x with
  | str i=>exact op_notIn_str pins s σ H _ _ v u Q I rx ry ⟨i,j,rfl,rfl,h⟩
  | _=>exact False.elim h
 | _=>exact False.elim h
def cBool (x:V) (k:Bool→Prop):Prop:=match x with | .bl b=>k b | _=>False
theorem cBool_of {x:V}{k:Bool→Prop} (h:cBool x k):∃ b,x=.bl b∧k b:=by
 cases x <;> first | exact False.elim h | exact ⟨_,rfl,h⟩
def cTst (t:TE):TT:=fun σ H Q=>t σ H fun x H'=>cBool x fun k=>Q k H'
def cTru (K:PySem.W.Frag) (t:TE):TT:=fun σ H Q=>t σ H fun x H'=>match x with
 | .non=>Q false H'
 | .bl b=>Q b H'
 | .int i=>Q (decide (i≠0)) H'
 | .str y=>y.length≤sizeLine∧Q (decide (y.length≠0)) H'
 | .ref p=>∃ k,TruV K (.ref p) H' k∧Q k H'
 | .byt p=>∃ k,TruV K (.byt p) H' k∧Q k H'
 | _=>False
theorem pt_tru {t:TE} (ha:PE X a t) (he:∀ whole,isTrue a X.env whole=(do let v ← whole;standAt a.pos;holding [v] (truthy v)):=by intro _;rfl):PT X a (cTru X.K t):=by
 have h:=pt_truth ha he
 have e:cTru X.K t=(fun σ H Q=>t σ H fun x H'=>∃ k,TruV X.K x H' k∧Q k H'):=by
  funext σ H Q
  unfold cTru
  congr 1
  funext x H'
  apply propext
  cases x with
  | non=>exact ⟨fun q=>⟨false,rfl,q⟩,fun ⟨k,h1,h2⟩=>by have h1:k=false:=h1;subst h1;exact h2⟩
  | bl b=>exact ⟨fun q=>⟨b,rfl,q⟩,fun ⟨k,h1,h2⟩=>by have h1:k=b:=h1;subst h1;exact h2⟩
  | int i =>
   have z:decide (i≠0)=(i != 0):=by by_cases e:i=0 <;> simp [e]
   exact ⟨fun q=>⟨decide (i≠0),z,q⟩,fun ⟨k,h1,h2⟩=>by have h1:k=(i != 0):=h1;rw [← z] at h1;subst h1;exact h2⟩
  | str y =>
   have z:decide (y.length≠0)=((y.length:Int) != 0):=by
    by_cases e:y.length=0
    ·simp [e]
    ·have:(y.length:Int)≠0:=by omega
     simp [e,this]
   exact ⟨fun q=>⟨decide (y.length≠0),⟨q.1,z⟩,q.2⟩,fun ⟨k,h1,h2⟩=>by
    have h1:y.length≤sizeLine∧k=((y.length:Int) != 0):=h1
    obtain ⟨h0,h1⟩:=h1
    rw [← z] at h1;subst h1;exact ⟨h0,h2⟩⟩
  | ref p=>exact Iff.rfl
  | byt y=>exact Iff.rfl
  | flt y=>exact ⟨fun q=>q.elim,fun ⟨k,h1,h2⟩=>h1.elim⟩
  | ty y=>exact ⟨fun q=>q.elim,fun ⟨k,h1,h2⟩=>h1.elim⟩
 rw [e]
 exact h
theorem cBool_eq {x:V}{k:Bool→Prop}:cBool x k = ∃ b,x=.bl b∧k b:=propext ⟨cBool_of,fun ⟨b,e,q⟩=>by subst e;exact q⟩
theorem cTst_eq (t:TE):cTst t=tTest t:=by
 funext σ H Q
 unfold cTst tTest
 congr 1
 funext x H'
 exact cBool_eq
theorem t_cmp {op:CmpOp}{r:R2} (ho:OpR X (compareOp op) r) (ha:PE X a ta) (hb:PE X b tb) (hm:behindInMarks op b=false):PT X (.Compare a [op] [b] pos) (cTst (tOp r ta tb)):=by
 rw [cTst_eq]
 exact pt_cmpR ho ha hb hm
def cChain (r r':R2) (ta tb tc:TE):TE:=fun σ H Q=>ta σ H fun x H1=>tb σ H1 fun y H2=>r x y H2 fun z H3=>cBool z fun k =>
 (if k=true then tc σ H3 fun w' H4=>r' y w' H4 Q else Q (.bl false) H3)
theorem cChain_eq (r r':R2) (ta tb tc:TE):cChain r r' ta tb tc=tChain r r' ta tb tc:=by
 funext σ H Q
 unfold cChain tChain
 congr 1
 funext x H1
 congr 1
 funext y H2
 congr 1
 funext z H3
 exact cBool_eq
theorem t_chain {op op':CmpOp}{r r':R2} (ho:OpR X (compareOp op) r) (ho':OpR X (compareOp op') r') (ha:PE X a ta) (hb:PE X b tb) (hc:PE X c tc)
  (hm:lastMarks [op,op'] [b,c]=false:=by with_unfolding_all rfl):PT X (.Compare a [op,op'] [b,c] pos) (cTst (cChain r r' ta tb tc)):=by
 rw [cTst_eq,cChain_eq]
 exact pt_chain ho ho' ha hb hc hm
def cAndV (ta tb:TE):TE:=fun σ H Q=>ta σ H fun x H1=>cBool x fun c=>if c=true then tb σ H1 Q else Q (.bl false) H1
def cOrV (ta tb:TE):TE:=fun σ H Q=>ta σ H fun x H1=>cBool x fun c=>if c=true then Q (.bl true) H1 else tb σ H1 Q
def cNotV (ta:TE):TE:=fun σ H Q=>ta σ H fun x H1=>cBool x fun c=>Q (.bl (!c)) H1
theorem cAndV_eq (ta tb:TE):cAndV ta tb=tAndV ta tb:=by
 funext σ H Q
 unfold cAndV tAndV
 congr 1
 funext x H'
 exact cBool_eq
theorem cOrV_eq (ta tb:TE):cOrV ta tb=tOrV ta tb:=by
 funext σ H Q
 unfold cOrV tOrV
 congr 1
 funext x H'
 exact cBool_eq
theorem cNotV_eq (ta:TE):cNotV ta=tNotV ta:=by
 funext σ H Q
 unfold cNotV tNotV
 congr 1
 funext x H'
 exact cBool_eq
variable {rest:List Expr}
theorem e_and (ha:PE X a ta) (hb:PE X (.BoolOp .And (b :: rest) pos) tb):PE X (.BoolOp .And (a :: b :: rest) pos) (cAndV ta tb):=by
 rw [cAndV_eq]
 exact pe_and ha hb
theorem e_or (ha:PE X a ta) (hb:PE X (.BoolOp .Or (b :: rest) pos) tb):PE X (.BoolOp .Or (a :: b :: rest) pos) (cOrV ta tb):=by
 rw [cOrV_eq]
 exact pe_or ha hb
theorem e_not (ha:PE X a ta):PE X (.UnaryOp .Not a pos) (cNotV ta):=by
 rw [cNotV_eq]
 exact pe_not ha
def cIx (K:PySem.W.Frag):R2:=fun x y H Q=>match x,y with
 | .ref p,.int i=>∃ xs v,(SqL K H p xs∨SqT K H p xs)∧atI xs i=some v∧Q v H
 | .str z,.int i=>z.length≤sizeLine∧∃ c,atI z.cps.toList i=some c∧Q (.str ⟨#[c]⟩) H
 | _,_=>False
theorem i_seq:IxR X (cIx X.K):=ix_seq.imp fun x y H Q h=>by
  cases x <;> cases y <;> first
    | exact False.elim h
    | (obtain ⟨xs,v,h1 | h1,h2,h3⟩:=h
       · exact .inl ⟨_,xs,_,v,rfl,rfl,h1,h2,h3⟩
       · exact .inr (.inl ⟨_,xs,_,v,rfl,rfl,h1,h2,h3⟩))
    | (obtain ⟨h1,c,h2,h3⟩:=h
       exact .inr (.inr ⟨_,_,c,rfl,rfl,h1,h2,h3⟩))
def cSlL (K:PySem.W.Frag):V→Option Int→Option Int→Hp→VK→Prop:=fun x lo hi H Q=>match x with
 | .ref p=>∃ xs,SqL K H p xs∧∀ q,H q=none→Q (.ref q) (upd H q (.lst (cutV xs lo hi)))
 | _=>False
theorem s_list:SlR X (cSlL X.K):=sl_list.imp fun x lo hi H Q h=>by
 cases x <;> first | exact False.elim h | (obtain ⟨xs,h1,h2⟩:=h;exact ⟨_,xs,rfl,h1,h2⟩)
def cLen (K:PySem.W.Frag):List V→Hp→VK→Prop:=fun vs H Q=>match vs with
 | [.str z]=>z.length≤sizeLine∧Q (.int z.length) H
 | [.ref p]=>(∃ ys,(SqL K H p ys∨SqT K H p ys)∧Q (.int ys.length) H)∨∃ kvs,H p=some (.dK kvs)∧Q (.int kvs.length) H
 | _=>False
theorem c_len:CallR X (.builtin "len") (cLen X.K):=by
 intro pins s σ H xs us Q I r h
 match xs,h with
 | [.str z],h=>exact call_len_str pins s σ H _ us Q I r ⟨z,rfl,h.1,h.2⟩
 | [.ref p],h =>
  rcases h with ⟨ys,h1,h2⟩ | ⟨kvs,h1,h2⟩
  ·exact call_len_seq pins s σ H _ us Q I r ⟨p,ys,rfl,h1,h2⟩
  ·exact call_lenD pins s σ H _ us Q I r ⟨p,kvs,rfl,h1,h2⟩
def cInt:List V→Hp→VK→Prop:=fun vs H Q=>match vs with
 | [.int i]=>Q (.int i) H
 | [.bl k]=>Q (.int (if k then 1 else 0)) H
 | _=>False
theorem c_int:CallR X (.type "int") cInt:=by
 intro pins s σ H xs us Q I r h
 match xs,h with
 | [.int i],h=>exact call_int1 pins s σ H _ us Q I r (.inl ⟨i,rfl,h⟩)
 | [.bl k],h=>exact call_int1 pins s σ H _ us Q I r (.inr ⟨k,rfl,h⟩)
def cList (K:PySem.W.Frag):List V→Hp→VK→Prop:=fun vs H Q=>match vs with
 | [.ref p]=>∃ ys,(SqL K H p ys∨SqT K H p ys)∧∀ l,H l=none→Q (.ref l) (upd H l (.lst ys))
 | _=>False
theorem c_list:CallR X (.type "list") (cList X.K):=by
 intro pins s σ H xs us Q I r h
 match xs,h with
 | [.ref p],h =>
  obtain ⟨ys,h1,h2⟩:=h
  exact call_list_of pins s σ H _ us Q I r ⟨p,ys,rfl,h1,h2⟩
def cMin:List V→Hp→VK→Prop:=fun vs H Q=>match vs with
 | [.int i,.int j]=>Q (.int (if j<i then j else i)) H
 | _=>False
theorem c_min (hc:X.calm=true):CallR X (.builtin "min") cMin:=by
 intro pins s σ H xs us Q I r h
 match xs,h with
 | [.int i,.int j],h=>exact call_min2 hc pins s σ H _ us Q I r ⟨i,j,rfl,h⟩
def cIsinst (K:PySem.W.Frag):List V→Hp→VK→Prop:=fun vs H Q=>match vs with
 | [x,.ty T]=>∃ t b,TyOf K H x t∧PySem.W.kitOne K t (.type T)=some b∧Q (.bl b) H
 | [x,.ref C]=>∃ t b,TyOf K H x t∧PySem.W.kitOne K t (.ref C)=some b∧Q (.bl b) H
 | _=>False
theorem c_isinst:CallR X (.builtin "isinstance") (cIsinst X.K):=by
 intro pins s σ H xs us Q I r h
 match xs,h with
 | [x,.ty T],h =>
  obtain ⟨t,k,h1,h2,h3⟩:=h
  obtain ⟨u,w',rfl,r1,r2⟩:=vals2 r
  cases r2
  exact isinst_ok I r1 h1 h2 fun tk=>⟨.bl k,H,I.tok tk,rfl,h3⟩
 | [x,.ref C],h =>
  obtain ⟨t,k,h1,h2,h3⟩:=h
  obtain ⟨u,w',rfl,r1,r2⟩:=vals2 r
  cases r2
  exact isinst_ok I r1 h1 h2 fun tk=>⟨.bl k,H,I.tok tk,rfl,h3⟩
def csChk (onames:List (Str × NameKind)) (scope:Scope):Bool:=scope.names.all fun y=>decide (y.2≠.cell) && (decide (y.2≠.local) || decide (scope.names.lookup y.1=some .local)) && (decide (y.2≠.free) || decide (onames.lookup y.1=some .cell) || decide (onames.lookup y.1=some .free))
theorem CScope.of {scope:Scope} (onames:List (Str × NameKind)) (h:csChk onames scope=true) (k:scope.kind=.function:=by rfl) (e:X.env.scope.names=onames:=by rfl):CScope X scope:=by
 have q:=List.all_eq_true.mp h
 refine ⟨k,fun y hy=>?_,fun y hy hl=>?_,fun y hy hf=>?_⟩
 ·have z:=q y hy
  simp only [Bool.and_eq_true,decide_eq_true_eq] at z
  exact z.1.1
 ·have z:=q y hy
  simp only [Bool.and_eq_true,Bool.or_eq_true,decide_eq_true_eq] at z
  exact z.1.2.resolve_left fun w=>w hl
 ·have z:=q y hy
  simp only [Bool.and_eq_true,Bool.or_eq_true,decide_eq_true_eq] at z
  show X.env.scope.names.lookup y.1=_∨X.env.scope.names.lookup y.1=_
  rw [e]
  rcases z.2 with (w | w) | w
  ·exact absurd hf w
  ·exact .inl w
  ·exact .inr w
def cnChk (XN:List Str) (scope:Scope) (N:List Str) (k:Nat) (sel:List Nat):Bool:=decide (N.length=k+sel.length) && (List.range sel.length).all fun i=>match sel[i]?,N[k+i]? with
 | some j,some x=>decide (XN[j]? = some x) && decide (scope.names.lookup x=some .free)
 | _,_=>false
theorem CNames.of {scope:Scope}{N:List Str}{k:Nat}{sel:List Nat} (XN:List Str) (h:cnChk XN scope N k sel=true) (e:X.N=XN:=by rfl):CNames X scope N k sel:=by
 unfold cnChk at h
 simp only [Bool.and_eq_true,decide_eq_true_eq] at h
 refine ⟨h.1,fun i j x h1 h2=>?_⟩
 have hi:i<sel.length:=(List.getElem?_eq_some_iff.mp h1).1
 have q:=List.all_eq_true.mp h.2 i (List.mem_range.mpr hi)
 rw [h1,h2] at q
 simp only [Bool.and_eq_true,decide_eq_true_eq] at q
 rw [e]
 exact q
end
theorem hr8 {A:Around}{k:Nat} (hr:Room k A):A.units+8<cLine:=by have:=hr.units;omega
section
variable {X:Cx}{a b:Expr}{te:TE}
def cPart (t:TE):TO:=fun σ H Q=>t σ H fun x H1=>match x with | .int i=>Q (some i) H1 | _=>False
theorem cPart_eq (t:TE):cPart t=tPart t:=by
 funext σ H Q
 unfold cPart tPart
 congr 1
 funext x H'
 apply propext
 cases x <;> first
  | exact ⟨fun q=>⟨_,rfl,q⟩,fun ⟨i,e,q⟩=>by cases e;exact q⟩
  | exact ⟨fun q=>False.elim q,fun ⟨i,e,q⟩=>by cases e⟩
theorem e_part (h:PE X a te):PO X (some a) (cPart te):=by
 rw [cPart_eq]
 exact po_some h
def cNeg:V→Hp→VK→Prop:=fun x H Q=>match x with | .int i=>Q (.int (-i)) H | _=>False
theorem u_neg:UnR X (unaryOp .USub) cNeg:=fun pins s σ H x v Q I rx h=>by
 cases x <;> first | exact False.elim h | exact un_neg pins s σ H _ v Q I rx ⟨_,rfl,h⟩
theorem t_pc {op:CmpOp}{t:TE}{pos:Pos} (h:PC X op a b t) (h1:behindInMarks op b=false:=by first | exact nobehind _ (by decide) (by decide) | rfl | with_unfolding_all rfl):PT X (.Compare a [op] [b] pos) (cTst t):=by
 have e:cTst t=tB t:=by
  funext σ H Q
  unfold cTst tB
  congr 1
  funext x H'
  exact cBool_eq
 rw [e]
 exact pt_cmp h h1
end
section
variable {K:PySem.W.Frag}{σ:St}{sel:List Nat}{rest:St}{H:Hp}{p:Addr}{tt:TT}{te:TE}{Q:VK}
abbrev CompGoal (J:It) (σ:St) (k:Nat) (sel:List Nat) (g:TG) (tt:TT) (te:TE) (Q:VK) (H1:Hp) (p:Addr):Prop :=
 ∃ W:Nat→Nat→St→Hp→Prop,(∃ m,W 0 m (cst σ k sel) (upd H1 p (.lst [])))∧∀ i m σ2 H2,W i m σ2 H2 →
  (J.stop i H2∧Q (.ref p) H2)∨(J.go i H2∧∀ x H3,J.yld i H2 x H3→g x σ2 H3 fun σ4 H4=>tt σ4 H4 fun b H5 =>
   if b=true then te σ4 H5 fun v H6=>∃ ys,H6 p=some (.lst ys)∧ys.length<sizeLine∧∃ m',m'<m∧W (i+1) m' σ4 (upd H6 p (.lst (ys ++ [v]))) else ∃ m',m'<m∧W (i+1) m' σ4 H5)
theorem comp_inv {J:It}{n:Nat}{item:Nat→V} (Pv:Nat→Hp→Prop) (hr:sel.map (fun j=>(σ[j]?).join)=rest) (h0:Pv 0 (upd H p (.lst [])))
  (src:∀ i H2,i<n→Pv i H2→J.go i H2∧∀ x H3,J.yld i H2 x H3→H3=H2∧x=item i) (fin:∀ H2,Pv n H2→J.stop n H2)
  (step:∀ i H2 (R:Hp→Prop),i<n→Pv i H2→(∀ H',Pv (i+1) H'→R H')→tt (some (item i) :: rest) H2 fun b H5 =>
   if b=true then te (some (item i) :: rest) H5 fun v H6=>∃ ys,H6 p=some (.lst ys)∧ys.length<sizeLine∧R (upd H6 p (.lst (ys ++ [v]))) else R H5)
  (hQ:∀ H2,Pv n H2→Q (.ref p) H2):CompGoal J σ 1 sel (gName 0) tt te Q H p:=by
 refine ⟨fun i m σ2 H2=>i≤n∧m=n - i+1∧(∃ v,σ2=v :: rest)∧Pv i H2,⟨n+1,Nat.zero_le _,rfl,⟨none,?_⟩,h0⟩,?_⟩
 ·unfold cst;rw [hr];rfl
 ·rintro i m σ2 H2 ⟨hi,rfl,⟨v,rfl⟩,hP⟩
  by_cases hlt:i<n
  ·right
   obtain ⟨hg,hy⟩:=src i H2 hlt hP
   refine ⟨hg,fun x H3 hx=>?_⟩
   obtain ⟨rfl,rfl⟩:=hy x H3 hx
   exact step i H3 (fun H'=>∃ m',m'<n - i+1∧i+1≤n∧m'=n - (i+1)+1∧(∃ v,(some (item i) :: rest:St)=v :: rest)∧Pv (i+1) H') hlt hP fun H' h'=>⟨n - (i+1)+1,by omega,hlt,rfl,⟨_,rfl⟩,h'⟩
  ·left
   have e:i=n:=by omega
   subst e
   exact ⟨fin H2 hP,hQ H2 hP⟩
theorem src_list {a:Addr}{xs:List V}{Pv:Nat→Hp→Prop} (hl:∀ i H2,i≤xs.length→Pv i H2→SqL K H2 a xs):∀ i H2,i<xs.length→Pv i H2→(Itl K a).go i H2∧∀ x H3,(Itl K a).yld i H2 x H3→H3=H2∧x=xs.getD i .non:=fun i H2 hi hP=>by
 have q:=hl i H2 (Nat.le_of_lt hi) hP
 have e:xs[i]? = some (xs.getD i .non):=by simp [List.getD,hi]
 refine ⟨⟨xs,_,q,e⟩,fun x H3 ⟨h1,h2⟩=>⟨h1,?_⟩⟩
 have:=h2 xs q
 rw [e] at this
 exact (Option.some.inj this).symm
theorem src_rng {lo:Int}{n:Nat}{Pv:Nat→Hp→Prop}:∀ i H2,i<n→Pv i H2→(Itr lo n).go i H2∧∀ x H3,(Itr lo n).yld i H2 x H3→H3=H2∧x=.int (lo+i):=fun i H2 hi hP=>⟨hi,fun x H3 h=>h⟩
theorem same_upd {H:Hp}{p:Addr}{o:HO} (hp:H p=none):Same H (upd H p o):=fun b u e=>by rw [upd_ne (ne_of_none e hp)];exact e
theorem take_map_snoc {xs:List V}{f:V→V}{i:Nat} (hi:i<xs.length):(xs.take i).map f ++ [f (xs.getD i .non)]=(xs.take (i+1)).map f:=by
 rw [List.take_add_one,List.map_append]
 congr 1
 simp [List.getD,hi]
theorem comp_list {a:Addr}{xs:List V} (f:V→V) (hl:SqL K H a xs) (hp:H p=none) (hr:sel.map (fun j=>(σ[j]?).join)=rest) (hz:xs.length≤sizeLine)
  (he:∀ x H' (Q':VK),x∈xs→Same H H'→Q' (f x) H'→te (some x :: rest) H' Q') (hQ:Q (.ref p) (upd H p (.lst (xs.map f)))):CompGoal (Itl K a) σ 1 sel (gName 0) tTrue te Q H p:=by
 refine comp_inv (n:=xs.length) (item:=fun i=>xs.getD i .non) (fun i H2=>H2=upd H p (.lst ((xs.take i).map f))) hr (by simp) (src_list ?_) ?_ ?_ ?_
 ·rintro i H2 hi rfl
  exact (same_upd hp).seq hl
 ·rintro H2 rfl
  exact ⟨xs,(same_upd hp).seq hl,Nat.le_refl _⟩
 ·rintro i H2 R hi rfl hR
  unfold tTrue
  dsimp only
  rw [if_pos rfl]
  refine he _ _ _ (by rw [show xs.getD i .non=xs[i] from by simp [List.getD,hi]];exact List.getElem_mem _) (same_upd hp) ⟨_,upd_same,?_,hR _ ?_⟩
  ·rw [List.length_map,List.length_take];omega
  ·rw [upd_upd,take_map_snoc hi]
 ·rintro H2 rfl
  rw [List.take_length]
  exact hQ
theorem comp_filter {a:Addr}{xs:List V} (q:V→Bool) (f:V→V) (hl:SqL K H a xs) (hp:H p=none) (hr:sel.map (fun j=>(σ[j]?).join)=rest) (hz:xs.length≤sizeLine)
  (ht:∀ x H' (Q':Bool→Hp→Prop),x∈xs→Same H H'→Q' (q x) H'→tt (some x :: rest) H' Q')
  (he:∀ x H' (Q':VK),x∈xs→q x=true→Same H H'→Q' (f x) H'→te (some x :: rest) H' Q') (hQ:Q (.ref p) (upd H p (.lst ((xs.filter q).map f)))):CompGoal (Itl K a) σ 1 sel (gName 0) tt te Q H p:=by
 refine comp_inv (n:=xs.length) (item:=fun i=>xs.getD i .non) (fun i H2=>H2=upd H p (.lst (((xs.take i).filter q).map f))) hr (by simp) (src_list ?_) ?_ ?_ ?_
 ·rintro i H2 hi rfl
  exact (same_upd hp).seq hl
 ·rintro H2 rfl
  exact ⟨xs,(same_upd hp).seq hl,Nat.le_refl _⟩
 ·rintro i H2 R hi rfl hR
  have ex:xs.getD i .non=xs[i]:=by simp [List.getD,hi]
  have hm:xs.getD i .non∈xs:=by rw [ex];exact List.getElem_mem _
  have et:xs.take (i+1)=xs.take i ++ [xs.getD i .non]:=by rw [List.take_add_one];simp [List.getD,hi]
  refine ht _ _ _ hm (same_upd hp) ?_
  cases hq:q (xs.getD i .non) with
  | true =>
   rw [if_pos rfl]
   refine he _ _ _ hm hq (same_upd hp) ⟨_,upd_same,?_,hR _ ?_⟩
   ·rw [List.length_map]
    have:=List.length_filter_le q (xs.take i)
    rw [List.length_take] at this
    omega
   ·rw [upd_upd,et,List.filter_append,List.map_append,List.filter_cons,if_pos hq]
    rfl
  | false =>
   rw [if_neg (by simp)]
   refine hR _ ?_
   rw [et,List.filter_append,List.map_append,List.filter_cons,if_neg (by rw [hq];simp),List.filter_nil,List.map_nil,List.append_nil]
 ·rintro H2 rfl
  rw [List.take_length]
  exact hQ
end
def cRef (x:V) (k:Addr→Prop):Prop:=match x with | .ref p=>k p | _=>False
theorem cRef_eq {x:V}{k:Addr→Prop}:(∃ p,x=.ref p∧k p)=cRef x k:=by
 apply propext
 cases x <;> first
  | exact ⟨fun ⟨p,e,q⟩=>by cases e;exact q,fun q=>⟨_,rfl,q⟩⟩
  | exact ⟨fun ⟨p,e,q⟩=>(by cases e),fun q=>False.elim q⟩
def cInt1 (vs:List V) (k:Int→Prop):Prop:=match vs with | [.int j]=>k j | _=>False
theorem cInt1_eq {vs:List V}{k:Int→Prop}:(∃ j,vs=[.int j]∧k j)=cInt1 vs k:=by
 apply propext
 constructor
 ·rintro ⟨j,rfl,q⟩;exact q
 ·intro h
  unfold cInt1 at h
  split at h
  ·exact ⟨_,rfl,h⟩
  ·exact h.elim
def ForGoal (J:It) (g:TG) (tb:TS) (D:Ends) (σ:St) (H:Hp):Prop:=∃ W:Nat→Nat→St→Hp→Prop,(∃ m,W 0 m σ H)∧∀ i m σ H,W i m σ H →
 (J.stop i H∧D.nx σ H)∨(J.go i H∧∃ N:St→Hp→Prop,(∀ σ' H',N σ' H'→∃ m',m'<m∧W (i+1) m' σ' H')∧∀ x H',J.yld i H x H'→g x σ H' fun σ2 H2=>tb { D with nx:=N,ct:=N,bk:=D.nx } σ2 H2)
def CompG (J:It) (σ:St) (k:Nat) (sel:List Nat) (g:TG) (tt:TT) (te:TE) (Q:VK) (H1:Hp):Prop:=∀ p,H1 p=none→CompGoal J σ k sel g tt te Q H1 p
section
variable {K:PySem.W.Frag}{te:TE}{ta:TA}{g:TG}{tb:TS}{D:Ends}{σ:St}{H:Hp}{p:Addr}{xs:List V}{k:Nat}{sel:List Nat}{tt:TT}{el:TE}{Q:VK}
theorem tFor_list:tFor (iList K te) g tb D σ H=te σ H (fun x H1=>cRef x fun p=>(∃ xs,SqL K H1 p xs)∧ForGoal (Itl K p) g tb D σ H1):=by
 unfold tFor iList
 congr 1
 funext x H1
 exact cRef_eq
theorem tFor_rng1:tFor (iRng1 ta) g tb D σ H=ta σ H (fun vs H1=>cInt1 vs fun j=>-(2 ^ 62)≤j∧j<2 ^ 62∧ForGoal (Itr 0 j.toNat) g tb D σ H1):=by
 unfold tFor iRng1
 congr 1
 funext x H1
 exact cInt1_eq
theorem tComp_list:tComp (iList K te) k sel g tt el σ H Q=te σ H (fun x H1=>cRef x fun p=>(∃ xs,SqL K H1 p xs)∧CompG (Itl K p) σ k sel g tt el Q H1):=by
 unfold tComp iList
 congr 1
 funext x H1
 exact cRef_eq
theorem tComp_rng1:tComp (iRng1 ta) k sel g tt el σ H Q=ta σ H (fun vs H1=>cInt1 vs fun j=>-(2 ^ 62)≤j∧j<2 ^ 62∧CompG (Itr 0 j.toNat) σ k sel g tt el Q H1):=by
 unfold tComp iRng1
 congr 1
 funext x H1
 exact cInt1_eq
theorem for_listG (Pv:Nat→St→Hp→Prop) (h0:Pv 0 σ H) (hk:∀ i σ H,i≤xs.length→Pv i σ H→SqL K H p xs)
  (hs:∀ i x σ H,xs[i]? = some x→Pv i σ H→g x σ H fun σ2 H2=>tb { D with nx:=Pv (i+1),ct:=Pv (i+1),bk:=D.nx } σ2 H2) (hd:∀ σ H,Pv xs.length σ H→D.nx σ H):ForGoal (Itl K p) g tb D σ H:=for_list Pv h0 hk hs hd
theorem for_rngG {lo:Int}{n:Nat} (Pv:Nat→St→Hp→Prop) (h0:Pv 0 σ H)
  (hs:∀ (i:Nat) σ H,i<n→Pv i σ H→g (.int (lo+i)) σ H fun σ2 H2=>tb { D with nx:=Pv (i+1),ct:=Pv (i+1),bk:=D.nx } σ2 H2) (hd:∀ σ H,Pv n σ H→D.nx σ H):ForGoal (Itr lo n) g tb D σ H:=for_range Pv h0 hs hd
end
theorem atI_ok {α:Type}{xs:List α}{i:Int} (d:α) (h0:0≤i) (h1:i<xs.length):atI xs i=some (xs.getD i.toNat d):=by
 obtain ⟨n,rfl⟩:=Int.eq_ofNat_of_zero_le h0
 have hn:n<xs.length:=by omega
 have e:xs[n]? = some (xs.getD n d):=by simp [List.getD,hn]
 exact atI_nat e
theorem getD_map {α β:Type} (f:α→β) (xs:List α) (n:Nat) (d:α):(xs.map f).getD n (f d)=f (xs.getD n d):=by
 simp [List.getD]
theorem atI_map {α β:Type}{f:α→β}{xs:List α}{i:Int} (d:α) (h0:0≤i) (h1:i<xs.length):atI (xs.map f) i=some (f (xs.getD i.toNat d)):=by
 rw [atI_ok (f d) h0 (by rw [List.length_map];exact h1),getD_map]
theorem get_map_of {α β:Type}{f:α→β}{xs:List α}{i:Nat}{y:β} (h:(xs.map f)[i]? = some y):∃ x,xs[i]? = some x∧y=f x:=by
 rw [List.getElem?_map] at h
 cases e:xs[i]? with
 | none=>rw [e] at h;cases h
 | some x=>rw [e] at h;exact ⟨x,rfl,(Option.some.inj h).symm⟩
def constV:Expr→Option V
 | .Constant (.int i) _ _=>some (.int i)
 | .Constant (.bool b) _ _=>some (.bl b)
 | .Constant .none _ _=>some .non
 | .Constant (.str x) _ _=>some (.str x)
 | _=>none
def constVs:List Expr→Option (List V)
 | []=>some []
 | e :: r=>match constV e,constVs r with | some v,some vs=>some (v :: vs) | _,_=>none
def tVals (vs:List V):TA:=fun _ H Q=>Q vs H
theorem pe_constV {X:Cx}{e:Expr}{v:V} (h:constV e=some v):PE X e (tC v):=by
 unfold constV at h
 split at h <;> first
  | (cases h;exact pe_int)
  | (cases h;exact pe_bl)
  | (cases h;exact pe_non)
  | (cases h;exact pe_str)
  | cases h
theorem star_const {e:Expr}{es:List Expr}{env:Env}{v:V} (h:constV e=some v):starEach (e :: es) env=(false,eval e env) :: starEach es env:=by
 unfold constV at h
 split at h <;> first | rfl | cases h
theorem pa_consts {X:Cx}:∀ {es:List Expr}{vs:List V},constVs es=some vs→PA X es (tVals vs)
 | [],vs,h=>by
  have e:vs=[]:=(Option.some.inj h).symm
  subst e
  exact fun pos pins s σ H Q I q=>pa_nil pos pins s σ H Q I q
 | e :: r,vs,h=>by
  unfold constVs at h
  cases h1:constV e with
  | none=>rw [h1] at h;cases h
  | some v =>
   cases h2:constVs r with
   | none=>rw [h1,h2] at h;cases h
   | some ws =>
    rw [h1,h2] at h
    have e':v :: ws=vs:=Option.some.inj h
    subst e'
    exact fun pos pins s σ H Q I q=>pa_cons (pe_constV h1) (pa_consts h2) (star_const h1) pos pins s σ H Q I q
section
variable {X:Cx}{tg:Expr}
def cSlS:V→Option Int→Option Int→Hp→VK→Prop:=fun x lo hi H Q=>match x with
 | .str z=>z.length≤sizeLine∧Q (.str (Txt.slice z lo hi)) H
 | _=>False
theorem s_str:SlR X cSlS:=by
 intro pins s σ H x v vl vu lo hi sl Q I rx hs pl pu h
 cases x with
 | str z =>
  obtain ⟨t,rfl⟩:=rx
  obtain ⟨hz,q⟩:=h
  refine ⟨"str",_,F.slot_str_getitem.lookup,typeIs_str _ _ _,?_⟩
  have fin:∀ t' k,EP X pins σ Q (.str (Txt.slice z lo hi) t') { s with toks:=k }:=fun t' k=>⟨.str (Txt.slice z lo hi),H,I.tok k,⟨t',rfl⟩,q⟩
  cases pl with
  | none=>cases pu with
   | none=>exact wpAny_getItem_str_slice (l:=none) (u:=none) (st:=none) hs rfl (post_val_or_str ⟨Nat.le_trans (Txt.slice_le z _ _) hz,fin⟩)
   | int j uj=>exact wpAny_getItem_str_slice (l:=none) (u:=some (j,uj)) (st:=none) hs rfl (post_val_or_str ⟨Nat.le_trans (Txt.slice_le z _ _) hz,fin⟩)
  | int i ui=>cases pu with
   | none=>exact wpAny_getItem_str_slice (l:=some (i,ui)) (u:=none) (st:=none) hs rfl (post_val_or_str ⟨Nat.le_trans (Txt.slice_le z _ _) hz,fin⟩)
   | int j uj=>exact wpAny_getItem_str_slice (l:=some (i,ui)) (u:=some (j,uj)) (st:=none) hs rfl (post_val_or_str ⟨Nat.le_trans (Txt.slice_le z _ _) hz,fin⟩)
 | _=>exact False.elim h
variable {te:TE}{g:TG}{tb:TS}{D:Ends}{σ:St}{H:Hp}{k:Nat}{sel:List Nat}{tt:TT}{el:TE}{Q:VK}
def cMul:R2:=fun x y H Q=>match x,y with
 | .int i,.int j=>CMul i j∧Q (.int (i * j)) H
 | .str z,.int n=>MulOk z n∧Q (.str (Txt.mul z n)) H
 | _,_=>False
theorem o_mul:OpR X (binaryOp .Mult) cMul:=by
  intro pins s σ H x y v u Q I rx ry h
  cases x <;> cases y <;> first
    | exact False.elim h
    | exact op_mul pins s σ H _ _ v u Q I rx ry ⟨_,_,rfl,rfl,h.1,h.2⟩
    | (obtain ⟨t,rfl⟩:=rx
       obtain ⟨t',rfl⟩:=ry
       exact SB.mul h.1 fun t'' k=>⟨.str _,H,I.tok k,⟨t'',rfl⟩,h.2⟩)
end
structure New (H:Hp) (p:Addr) (o:HO) (H':Hp):Prop where
 was:H p=none
 eq:H'=upd H p o
section
variable {H H':Hp}{p:Addr}{o:HO}
theorem New.same (n:New H p o H'):Same H H':=by rw [n.eq];exact same_upd n.was
theorem New.at_ (n:New H p o H'):H' p=some o:=by rw [n.eq];exact upd_same
theorem New.ne (n:New H p o H') {b:Addr} (h:b≠p):H' b=H b:=by rw [n.eq];exact upd_ne h
theorem New.mk' (h:H p=none):New H p o (upd H p o):=⟨h,rfl⟩
theorem New.sq {K:PySem.W.Frag}{xs:List V} (n:New H p (.lst xs) H'):SqL K H' p xs:=.of n.at_
theorem new_eq {F:Addr→Hp→Prop}{o:HO}:(∀ p,H p=none→F p (upd H p o)) = ∀ p H',New H p o H'→F p H' :=
 propext ⟨fun h p H' n=>by rw [n.eq];exact h p n.was,fun h p hp=>h p _ ⟨hp,rfl⟩⟩
end
section
variable {K:PySem.W.Frag}{t:TA}{σ:St}{H:Hp}{Q:VK}{x:V}{lo hi:Option Int}{vs:List V}{kvs:List (Key × V)}
theorem tLst_n:tLst t σ H Q=t σ H fun xs H1=>xs.length≤sizeLine∧∀ p H',New H1 p (.lst xs) H'→Q (.ref p) H':=by
 unfold tLst;congr 1;funext xs H1;rw [new_eq (F:=fun p H'=>Q (.ref p) H')]
theorem tTup_n:tTup t σ H Q=t σ H fun xs H1=>xs.length≤sizeLine∧∀ p H',New H1 p (.tup xs) H'→Q (.ref p) H':=by
 unfold tTup;congr 1;funext xs H1;rw [new_eq (F:=fun p H'=>Q (.ref p) H')]
theorem tDNewK_n:tDNewK σ H Q = ∀ p H',New H p (.dK []) H'→Q (.ref p) H':=by
 unfold tDNewK;rw [new_eq (F:=fun p H'=>Q (.ref p) H')]
theorem cSlL_n {p:Addr}:cSlL K (.ref p) lo hi H Q = ∃ xs,SqL K H p xs∧∀ q H',New H q (.lst (cutV xs lo hi)) H'→Q (.ref q) H':=by
 unfold cSlL
 dsimp only
 congr 1;funext xs;rw [new_eq (F:=fun p H'=>Q (.ref p) H')]
theorem cList_n {p:Addr}:cList K [.ref p] H Q = ∃ ys,(SqL K H p ys∨SqT K H p ys)∧∀ l H',New H l (.lst ys) H'→Q (.ref l) H':=by
 unfold cList
 dsimp only
 congr 1;funext xs;rw [new_eq (F:=fun p H'=>Q (.ref p) H')]
end
section
variable {K:PySem.W.Frag}{σ:St}{sel:List Nat}{rest:St}{H:Hp}{tt:TT}{te:TE}{Q:VK}
theorem compG_list {a:Addr}{xs:List V} (f:V→V) (hl:SqL K H a xs) (hr:sel.map (fun j=>(σ[j]?).join)=rest) (hz:xs.length≤sizeLine)
  (he:∀ x H' (Q':VK),x∈xs→Same H H'→Q' (f x) H'→te (some x :: rest) H' Q') (hQ:∀ p H',New H p (.lst (xs.map f)) H'→Q (.ref p) H'):CompG (Itl K a) σ 1 sel (gName 0) tTrue te Q H :=
 fun p hp=>comp_list f hl hp hr hz he (hQ p _ ⟨hp,rfl⟩)
theorem compG_filter {a:Addr}{xs:List V} (q:V→Bool) (f:V→V) (hl:SqL K H a xs) (hr:sel.map (fun j=>(σ[j]?).join)=rest) (hz:xs.length≤sizeLine)
  (ht:∀ x H' (Q':Bool→Hp→Prop),x∈xs→Same H H'→Q' (q x) H'→tt (some x :: rest) H' Q')
  (he:∀ x H' (Q':VK),x∈xs→q x=true→Same H H'→Q' (f x) H'→te (some x :: rest) H' Q') (hQ:∀ p H',New H p (.lst ((xs.filter q).map f)) H'→Q (.ref p) H'):CompG (Itl K a) σ 1 sel (gName 0) tt te Q H :=
 fun p hp=>comp_filter q f hl hp hr hz ht he (hQ p _ ⟨hp,rfl⟩)
end
def cSlU (K:PySem.W.Frag):V→Option Int→Option Int→Hp→VK→Prop:=fun x lo hi H Q=>match x with
 | .ref p=>∃ xs,SqL K H p xs∧∀ q H',New H q (.lst (cutV xs lo hi)) H'→Q (.ref q) H'
 | .str z=>z.length≤sizeLine∧Q (.str (Txt.slice z lo hi)) H
 | _=>False
theorem s_u {X:Cx}:SlR X (cSlU X.K):=by
 intro pins s σ H x v vl vu lo hi sl Q I rx hs pl pu h
 cases x with
 | ref p=>exact s_list pins s σ H (.ref p) v vl vu lo hi sl Q I rx hs pl pu (by rw [cSlL_n];exact h)
 | str z=>exact s_str pins s σ H (.str z) v vl vu lo hi sl Q I rx hs pl pu h
 | _=>exact False.elim h
end L2
set_option maxHeartbeats 4000000
namespace DZ
open PySem
section
variable {prog:Program}{w:World}{A:Around}{E:Value→Shared→Prop}{s:Shared}
end
section
variable {M:Model}{A:Around}{E:Value→Shared→Prop}{s:Shared}
end
structure ZSt (z TI TO i1 i2 t l:Addr) (xs ys:Array Value) (i:Nat) (h:Heap):Prop where
 zo:∃ f0 f1,h.get? z=some { cls:=.type "zip",dict:=none,data:=.fields #[f0,.bool f1,.bool false,.ref TI,.ref TO],slots:=#[] } ∧
  (f0=.none∨∃ (T:Addr) (o:Obj),f0=rawInt T∧h.get? T=some o∧T≠z∧T≠TO∧T≠i1∧T≠i2)
 ti:IsPair h TI (.ref i1) (.ref i2)
 to:∃ a b,IsPair h TO a b
 a1:h.IsTupleIter i1 t i
 a2:h.IsListIter i2 l i
 l1:h.IsTuple t xs
 l2:h.IsList l ys
section
variable {prog:Program}{w:World}{A:Around}{E:Value→Shared→Prop}{s:Shared}
end
end DZ
set_option maxHeartbeats 4000000
namespace DZ
open PySem
section
variable {prog:Program}{w:World}{A:Around}{E:Value→Shared→Prop}{h:Heap}{g:Array GenState}{d:Drawn}{t:Nat}{os:OsState}{z:Addr}{vs:Array Value}
end
section
variable {prog:Program}{w:World}{A:Around}{E:Value→Shared→Prop}{s:Shared}
end
end DZ
set_option maxHeartbeats 4000000
namespace DZ
open PySem
section
variable {prog:Program}{w:World}{A:Around}{E:Value→Shared→Prop}{s:Shared}
variable {κ:Type} [DecidableEq κ] {knd:KeyKind prog w κ}
end
end DZ
set_option maxHeartbeats 4000000
namespace L2
open PySem PySem.Spec PyProof.Rows
section
variable {X:Cx}{pins:List (Addr × Obj)}{σ:St}{H:Hp}{s:Shared}{h':Heap}
theorem Inv.dz {t':Nat}{ch:List Addr}{d:Addr}{ob:HO} (I:Inv X pins σ H s) (hch:∀ b∈ch,FpOk X pins H b) (hd:s.heap.objs.size≤d) (k:∀ b o,b ∉ ch→s.heap.get? b=some o→h'.get? b=some o)
  (new:ObjOk X.prog X.w (upd H d ob) h' d ob):Inv X pins σ (upd H d ob) { s with heap:=h',toks:=t' }:=by
 have hn:H d=none:=I.hok.fresh hd
 have old:∀ {b o},s.heap.get? b=some o→b≠d:=fun e=>Nat.ne_of_lt (Nat.lt_of_lt_of_le (Heap.lt_size e) hd)
 have nch:∀ b u,H b=some u→b ∉ ch:=fun b u e z=>by rw [(hch b z).1] at e;cases e
 refine I.step (g':=s.gens) (d':=s.drawn) (ch:=ch) (fun b hb=>?_) (fun b o _ _ hc e _=>k b o hc e) (fun b o _ _ hc e _=>⟨o.slots,k b o hc e⟩) (fun b o _ e n=>by rw [upd_ne (old e)];exact n)
  (fun b o hc e=>⟨o,k b o hc e⟩) (fun b xs e=>by rw [upd_ne (ne_of_none e hn)];exact e) (fun b o u e=>by rw [upd_ne (ne_of_none e hn)];exact e) (fun b ps e=>⟨#[],by rw [upd_ne (ne_of_none e hn),e];simp⟩) (fun m hm=>?_) (fun b u e=>?_) I.bare
 ·obtain ⟨f0,f1,f2,f3,f4,f5⟩:=hch b hb
  exact ⟨f3,f1,f4,f5⟩
 ·obtain ⟨o,es,ep,ho,r⟩:=hm
  exact ⟨o,es,ep,k _ o (fun z=>(hch _ z).2.1 rfl) ho,r⟩
 ·by_cases hb:b=d
  ·subst hb
   rw [upd_same] at e
   cases e
   exact new
  ·rw [upd_ne hb] at e
   refine (I.hok b u e).stay (fun c v hc q=>k c v ?_ q) (fun c q=>by rw [upd_ne (ne_of_none q hn)];exact q) fun c xs q=>by rw [upd_ne (ne_of_none q hn)];exact q
   rcases hc with z | z
   ·rw [z];exact nch b u e
   ·exact nch c _ z
end
end L2
namespace NM
def okc (c:Nat):Prop:=97≤c∧c≤122
structure Nm (w:List Nat):Prop where
 pos:1≤w.length
 le:w.length≤8
 ok:∀ c∈w,okc c
def nx (p:List Nat) (c k:Nat):List Nat:=p ++ (c+1) :: List.replicate k 97
inductive Nx:List Nat→List Nat→Prop where
 | at (p:List Nat) (c k:Nat):c≠122→Nx (p ++ c :: List.replicate k 122) (nx p c k)
 | all (n:Nat):Nx (List.replicate n 122) (List.replicate (n % 8+1) 97)
inductive Nxs:Nat→List Nat→List Nat→Prop where
 | zero (w:List Nat):Nxs 0 w w
 | succ {k:Nat}{u v w:List Nat}:Nx u v→Nxs k v w→Nxs (k+1) u w
end NM
namespace ME
section
variable {κ:Type} [DecidableEq κ] {α β:Type}
def m2 (f:α→β) (e:List (κ × α)):List (κ × β):=e.map fun p=>(p.1,f p.2)
abbrev Gt (κ:Type):=κ × κ × List κ
end
end ME
namespace MC
end MC
namespace GM
open PySem
end GM
set_option maxHeartbeats 4000000
namespace L2
open PySem PySem.Spec PyProof.Rows
def tMid (t u:TS):TS:=tSeq t u
theorem mid {t u:TS}{D:Ends}{σ:St}{H:Hp} (M:St→Hp→Prop) (h1:∀ N:St→Hp→Prop,(∀ σ' H',M σ' H'→N σ' H')→t { D with nx:=N } σ H) (h2:∀ σ' H',M σ' H'→u D σ' H'):tMid t u D σ H:=h1 _ h2
theorem pss_mid {X:Cx}{st:Stmt}{rest:List Stmt}{t u:TS} (h:PS X st t) (hr:PSs X rest u):PSs X (st :: rest) (tMid t u):=pss_cons h hr
theorem mtr {X:Cx}{id:String}{r:V→List V→Hp→VK→Prop} (h:MtM X id r):MtR X id r:=h
theorem comp_gen {J:It}{σ:St}{k:Nat}{sel:List Nat}{g:TG}{tt:TT}{te:TE}{Q:VK}{H:Hp}{p:Addr}{n:Nat}{item:Nat→V} (Sv:St→Prop) (Pv:Nat→Hp→Prop)
  (hS:Sv (cst σ k sel)) (h0:Pv 0 (upd H p (.lst [])))
  (src:∀ i H2,i<n→Pv i H2→J.go i H2∧∀ x H3,J.yld i H2 x H3→H3=H2∧x=item i) (fin:∀ H2,Pv n H2→J.stop n H2)
  (step:∀ i σ2 H2 (R:St→Hp→Prop),i<n→Sv σ2→Pv i H2→(∀ σ' H',Sv σ'→Pv (i+1) H'→R σ' H')→g (item i) σ2 H2 fun σ4 H4=>tt σ4 H4 fun b H5 =>
   if b=true then te σ4 H5 fun v H6=>∃ ys,H6 p=some (.lst ys)∧ys.length<sizeLine∧R σ4 (upd H6 p (.lst (ys ++ [v]))) else R σ4 H5)
  (hQ:∀ H2,Pv n H2→Q (.ref p) H2):CompGoal J σ k sel g tt te Q H p:=by
 refine ⟨fun i m σ2 H2=>i≤n∧m=n - i+1∧Sv σ2∧Pv i H2,⟨n+1,Nat.zero_le _,rfl,hS,h0⟩,?_⟩
 rintro i m σ2 H2 ⟨hi,rfl,hs,hP⟩
 by_cases hlt:i<n
 ·right
  obtain ⟨hg,hy⟩:=src i H2 hlt hP
  refine ⟨hg,fun x H3 hx=>?_⟩
  obtain ⟨rfl,rfl⟩:=hy x H3 hx
  exact step i σ2 H3 (fun σ' H'=>∃ m',m'<n - i+1∧i+1≤n∧m'=n - (i+1)+1∧Sv σ'∧Pv (i+1) H') hlt hs hP fun σ' H' s' h'=>⟨n - (i+1)+1,by omega,hlt,rfl,s',h'⟩
 ·left
  have e:i=n:=by omega
  subst e
  exact ⟨fin H2 hP,hQ H2 hP⟩
def SameN (H H':Hp):Prop:=∀ b o,H b=some o→(∀ xs,o≠.lst xs)→H' b=some o
section
variable {K:PySem.W.Frag}{H H' H0 H1:Hp}{l a:Addr}{xs ys:List V}{o:HO}
theorem Same.n (s:Same H H'):SameN H H':=fun b o e _=>s b o e
theorem SameN.clear (h:H l=some (.lst xs)):SameN H (upd H l (.lst ys)):=fun b o e n=>by rw [upd_ne (ne_of e h (n xs))];exact e
theorem Same.put (s:Same H0 H) (h:H0 l=none):Same H0 (upd H l o):=fun b u e=>by rw [upd_ne (ne_of_none e h)];exact s b u e
theorem Same.tup (e:Same H H') (h:SqT K H a xs):SqT K H' a xs:=by
 rcases h with (h | ⟨o,h⟩) | h
 ·exact .inl (.inl (e _ _ h))
 ·exact .inl (.inr ⟨o,e _ _ h⟩)
 ·exact .inr h
def Keep (N:Addr→Prop) (H H':Hp):Prop:=∀ b o,N b→H b=some o→H' b=some o
theorem Same.keep {N:Addr→Prop} (s:Same H H'):Keep N H H':=fun b o _ e=>s b o e
theorem Keep.tup {N:Addr→Prop} (e:Keep N H H') (n:N a) (h:SqT K H a xs):SqT K H' a xs:=by
 rcases h with (h | ⟨o,h⟩) | h
 ·exact .inl (.inl (e _ _ n h))
 ·exact .inl (.inr ⟨o,e _ _ n h⟩)
 ·exact .inr h
end
theorem fold_rep (c:Nat):∀ (k:Nat) (acc:Array Nat),((List.replicate k (#[c]:Array Nat)).foldl (· ++ ·) acc).toList=acc.toList ++ List.replicate k c
 | 0,acc=>by simp
 | k+1,acc=>by
  rw [List.replicate_succ,List.foldl_cons,fold_rep c k,List.replicate_succ]
  simp
section
variable {K:PySem.W.Frag}{H:Hp}{p:Addr}{i:Int}{F:V→Prop}
theorem ixI {cs:List Int} (hS:SqL K H p (cs.map V.int)) (h0:0≤i) (h1:i<cs.length) (h:F (.int (cs.getD i.toNat 0))):∃ xs v,(SqL K H p xs∨SqT K H p xs)∧atI xs i=some v∧F v:=⟨_,_,.inl hS,atI_map 0 h0 h1,h⟩
end
end L2
set_option maxHeartbeats 4000000
namespace GM
open PySem L2
end GM
set_option maxHeartbeats 4000000
namespace L2
open PySem PySem.Spec PyProof.Rows
section
open Builtin Builtin.Str
end
theorem Same.nil {H H':Hp}{p:Addr} (s:Same H H') (h:H' p=none):H p=none:=by
 cases e:H p with
 | none=>rfl
 | some o=>rw [s _ _ e] at h;cases h
structure Mad (H:Hp) (p:Addr) (o:HO) (H':Hp):Prop where
 was:H p=none
 at_:H' p=some o
 same:Same H H'
theorem New.mad {H H':Hp}{p:Addr}{o:HO} (n:New H p o H'):Mad H p o H':=⟨n.was,n.at_,n.same⟩
theorem Mad.pre {H H0 H':Hp}{p:Addr}{o:HO} (s:Same H0 H) (n:Mad H p o H'):Mad H0 p o H':=⟨s.nil n.was,n.at_,s.trans n.same⟩
theorem mul_one (c:Nat) (n:Int):(Txt.mul ⟨#[c]⟩ n).cps.toList=List.replicate n.toNat c:=by
 unfold Txt.mul
 by_cases h1:n<1
 ·rw [if_pos h1]
  have:n.toNat=0:=by omega
  rw [this]
  rfl
 ·rw [if_neg h1]
  by_cases h2:(n == 1 || Str.length ⟨#[c]⟩ == 0)=true
  ·rw [if_pos h2]
   have h3:n=1:=by
    rw [Bool.or_eq_true] at h2
    rcases h2 with q | q
    ·exact beq_iff_eq.mp q
    ·exact absurd (beq_iff_eq.mp q) (by show ¬ (1:Nat)=0;decide)
   subst h3
   rfl
  ·rw [if_neg h2]
   show ((List.replicate n.toNat (#[c]:Array Nat)).foldl (· ++ ·) #[]).toList=_
   rw [fold_rep]
   simp
end L2
namespace MF
abbrev Pr:=Int × Int
def tn (t:Int):Int:=if t % 2=0 then t+1 else t - 1
def lo (s t:Int):Int:=if t<s then t else s
def hi (s t:Int):Int:=if t > s then t else s
def fnd:Int→List Pr→Pr→Option Int
 | _,[],_=>none
 | n,q :: r,p=>if q=p then some n else fnd (n+1) r p
def sure (s t:Int):Option Int :=
 if lo s t=0 then some 0 else if lo s t=1∨lo s t=hi s t then some (hi s t) else if lo s t=tn (hi s t) then some 0 else none
def kp (m:Int) (ps:List Pr) (p:Pr):List Pr:=if (fnd (m+1) ps p).isSome then ps else ps ++ [p]
def bp (m:Int) (ps:List Pr) (s t:Int):List Pr:=match sure s t with | some _=>ps | none=>kp m ps (lo s t,hi s t)
def Ok (m:Int) (ps:List Pr):Prop:=∀ (i:Nat) (p:Pr),ps[i]? = some p→2≤p.1∧p.1<p.2∧p.1 / 2≠p.2 / 2∧p.2<2 * (m+1+i)
theorem sure_none {s t:Int} (hs:0≤s) (ht:0≤t) (h:sure s t=none):2≤lo s t∧lo s t<hi s t∧lo s t / 2≠hi s t / 2:=by
 unfold sure at h
 have hlh:lo s t≤hi s t∧0≤lo s t:=by unfold lo hi;split <;> split <;> omega
 by_cases h1:lo s t=0
 ·rw [if_pos h1] at h;cases h
 rw [if_neg h1] at h
 by_cases h2:lo s t=1∨lo s t=hi s t
 ·rw [if_pos h2] at h;cases h
 rw [if_neg h2] at h
 by_cases h3:lo s t=tn (hi s t)
 ·rw [if_pos h3] at h;cases h
 refine ⟨by omega,by omega,fun e=>h3 ?_⟩
 unfold tn
 split <;> omega
theorem hi_lt {s t T:Int} (h1:s<T) (h2:t<T):hi s t<T:=by unfold hi;split <;> omega
theorem Ok.bp {m:Int}{ps:List Pr} (h:Ok m ps) {s t:Int} (hs:0≤s) (ht:0≤t) (hs':s<2 * (m+1+ps.length)) (ht':t<2 * (m+1+ps.length)):Ok m (bp m ps s t):=by
 unfold MF.bp
 cases e:sure s t with
 | some v=>exact h
 | none =>
  show Ok m (kp m ps (lo s t,hi s t))
  unfold kp
  split
  ·exact h
  ·intro i p hp
   rcases Nat.lt_or_ge i ps.length with hi' | hi'
   ·rw [List.getElem?_append_left hi'] at hp
    exact h i p hp
   ·rw [List.getElem?_append_right hi'] at hp
    have h0:i - ps.length=0:=by
     rcases Nat.eq_zero_or_pos (i - ps.length) with z | z
     ·exact z
     ·rw [List.getElem?_eq_none (by simp;omega)] at hp;cases hp
    rw [h0] at hp
    have:=Option.some.inj hp
    subst this
    have h3:=sure_none hs ht e
    have h4:=hi_lt hs' ht'
    refine ⟨h3.1,h3.2.1,h3.2.2,?_⟩
    show MF.hi s t<_
    have:i=ps.length:=by omega
    subst this
    exact h4
end MF
namespace MF
abbrev RS:=Int × List Pr
def InT (m:Int) (ps:List Pr) (t:Int):Prop:=0≤t∧t<2 * (m+1+ps.length)
structure St (m:Int) (ps:List Pr) (n:Nat) (r:RS):Prop where
 ok:Ok m ps→Ok m r.2
 inn:InT m r.2 r.1
 lo:ps.length≤r.2.length
 hi:r.2.length≤ps.length+n
 pre:∃ e,r.2=ps ++ e
 nd:ps.Nodup→r.2.Nodup
theorem InT.tn {m t:Int}{ps:List Pr} (h:InT m ps t):InT m ps (tn t):=by
 have h1:=h.1
 have h2:=h.2
 unfold InT MF.tn
 split <;> omega
theorem St.tn {m:Int}{ps:List Pr}{n:Nat}{r:RS} (h:St m ps n r):St m ps n (tn r.1,r.2):=⟨h.ok,h.inn.tn,h.lo,h.hi,h.pre,h.nd⟩
end MF
set_option maxHeartbeats 4000000
namespace L2
open PySem PySem.Spec PyProof.Rows
def knK (p:MF.Pr):List Key:=[.inl p.1,.inl p.2]
def kvF:Int→List MF.Pr→List (List Key × V)
 | _,[]=>[]
 | n,p :: r=>(knK p,.int n) :: kvF (n+1) r
abbrev En:=Addr × MF.Pr
abbrev psOf (es:List En):List MF.Pr:=es.map (·.2)
structure PairsAt (H:Hp) (pl kl:Addr) (m:Int) (es:List En):Prop where
 lst:H pl=some (.lst (es.map fun e=>V.ref e.1))
 dct:H kl=some (.dT (kvF (m+1) (psOf es)))
 tup:∀ e∈es,H e.1=some (.tup [.int e.2.1,.int e.2.2])
section
variable {H H' H1:Hp}{pl kl p2 k2 f dx C:Addr}{m:Int}{es:List En}{o:HO}
structure FoldAt (C:Addr) (H:Hp) (f:Addr) (m:Int) (es:List En) (dx pl kl:Addr):Prop where
 ins:H f=some (.ins C dx [("many",.int m),("pairs",.ref pl),("knots",.ref kl)])
 prs:PairsAt H pl kl m es
end
end L2
set_option maxHeartbeats 4000000
namespace DL
open PySem DZ
section
variable {prog:Program}{w:World}{A:Around}{E:Value→Shared→Prop}{h:Heap}{g:Array GenState}{d:Drawn}{t:Nat}{os:OsState}{z:Addr}{vs:Array Value}{n:Nat}
end
section
variable {prog:Program}{w:World}{A:Around}{E:Value→Shared→Prop}{s:Shared}{κ:Type} [DecidableEq κ] {knd:KeyKind prog w κ}
end
end DL
namespace L2
open PySem PySem.Spec PyProof.Rows
end L2
set_option maxHeartbeats 4000000
namespace EX
open PySem
structure Lv (S:List Addr) (e:Addr) (old:List Addr) (cls:Value) (h h':Heap) (T:Addr):Prop where
 ge:h.objs.size≤T
 exc:∃ oe vs,h'.get? e=some oe∧oe.cls=cls∧oe.data=.fields vs∧vs[1]? = some (.ref T)∧oe.dict=none
 tb:∃ oT ts,h'.get? T=some oT∧oT.data=.fields ts∧ts[3]? = some .none
 keep:∀ b o,b ∉ S→b≠e→b ∉ old→h.get? b=some o→h'.get? b=some o
 slot:∀ b o,b∈S→h.get? b=some o→∃ sl,h'.get? b=some { o with slots:=sl }
theorem map_dict (f:Array Value→Array Value) (o:Obj):(Obj.mapFields f o).dict=o.dict:=by
 unfold Obj.mapFields
 split <;> rfl
section
variable {M:Model}{A:Around}{E:Value→Shared→Prop}{s:Shared}
theorem entry_ok {base:Heap}{env:Env}{outer:List Env}{L e:Addr}{oe:Obj}{vs:Array Value}{hd0:Value}{nx:Bool}{Q:Unit→Shared→Prop} (hfr:A.frames=some (env :: outer)) (hl:s.heap.FunFrames base (env :: outer)) (hf:env.frame=some L)
  (he:s.heap.get? e=some oe) (hdn:oe.dict=none) (hd:oe.data=.fields vs) (hsz:1<vs.size)
  (q:∀ h' T,Lv ((env :: outer).filterMap (·.frame)) e [] oe.cls s.heap h' T→Q () { s with heap:=h' }) :
  wpAny M A (do let a ← frameOf env;let pl ← entryPlaceOf L nx;let b ← EntryCells.newEntry hd0 a .none (rawInt L) .none pl;setField (.ref e) 1 b) (fun _ s'=>wpAny M A (setFlight (.ref e) none) Q E s') E s:=by
 have eS:e ∉ (env :: outer).filterMap (·.frame):=fun hm=>by
  obtain ⟨_,o,ho,hnf⟩:=hl.mem hm
  rw [he] at ho
  cases ho
  exact hnf vs hd
 refine wpAny_bind (wpAny_frameOf_fun hfr hl hf fun k1 x1=>wpAny_bind (wpAny_entryPlaceOf fun pl hpl=>?_))
 unfold EntryCells.newEntry newFields
 refine wpAny_bind (wpAny_newObj_type ?_ (hpl.sizeOk5 _ _ _ _ _))
 have e1:k1.get? e=some oe:=(x1.2.1 e eS).trans he
 generalize hob:({ cls:=.type "traceback",dict:=none,data:=.fields ([hd0,.ref L,.none,rawInt L,.none] ++ (if pl.isEmpty then List.replicate 6 Value.none else pl)).toArray }:Obj)=ob
 have hobf:∃ ts,ob.data=.fields ts∧3<ts.size:=⟨_,by rw [← hob],by simp only [List.size_toArray,List.length_append,List.length_cons,List.length_nil];omega⟩
 obtain ⟨ts,hts,hts3⟩:=hobf
 have hfreed:ob.isFreed=false:=by rw [← hob];rfl
 have e2:(k1.push ob).get? e=some oe:=Heap.get?_push_of_some _ e1
 refine wpAny_setField e2 hd hsz ?_
 have nTe:k1.objs.size≠e:=Nat.ne_of_gt (Heap.lt_size e1)
 have d3:=Obj.data_mapFields hd (·.setIfInBounds 1 (Value.ref k1.objs.size))
 have e3:=Heap.get?_update_self (Obj.mapFields (·.setIfInBounds 1 (Value.ref k1.objs.size))) e2 (Obj.isFreed_of_fields d3)
 have t3:=(Heap.get?_update_other (k1.push ob) (Obj.mapFields (·.setIfInBounds 1 (Value.ref k1.objs.size))) (Ne.symm nTe)).trans (Heap.get?_push_size k1 hfreed)
 unfold setFlight
 refine wpAny_bind (wpAny_field e3 d3 (x:=.ref k1.objs.size) (by simp [hsz]) ?_)
 rw [if_pos (show (Value.ref k1.objs.size != Value.none)=true by simp)]
 refine wpAny_setField t3 hts hts3 (q _ k1.objs.size ?_)
 have up:∀ b o,b≠e→k1.get? b=some o→(((k1.push ob).update e (Obj.mapFields (·.setIfInBounds 1 (Value.ref k1.objs.size)))).update k1.objs.size (Obj.mapFields (·.setIfInBounds 3 ((none:Option Addr).elim Value.none fun f=>rawInt f)))).get? b=some o:=fun b o nb hb=>by
  rw [Heap.get?_update_other _ _ (Nat.ne_of_gt (Heap.lt_size hb)),Heap.get?_update_other _ _ (Ne.symm nb)]
  exact Heap.get?_push_of_some _ hb
 refine ⟨by rw [x1.1];exact Nat.le_refl _,⟨_,_,(Heap.get?_update_other _ _ nTe).trans e3,Obj.cls_mapFields _ _,d3,by simp [hsz],(map_dict _ _).trans hdn⟩,?_,fun b o hb nb _ hbo=>up b o nb ((x1.2.1 b hb).trans hbo),fun b o hb hbo=>?_⟩
 ·have d4:=Obj.data_mapFields hts (·.setIfInBounds 3 ((none:Option Addr).elim Value.none fun f=>rawInt f))
  exact ⟨_,_,Heap.get?_update_self _ t3 (Obj.isFreed_of_fields d4),d4,by simp [hts3]⟩
 ·obtain ⟨sl,hs⟩:=x1.2.2 b o hbo
  exact ⟨sl,up b _ (fun z=>eS (z ▸ hb)) hs⟩
def Trc (h:Heap) (e:Addr) (vs:Array Value) (old:List Addr):Prop :=
 (vs[1]? = some .none∧old=[])∨∃ T0 oT ts,old=[T0]∧vs[1]? = some (.ref T0)∧T0≠e∧h.get? T0=some oT∧oT.data=.fields ts∧ts[3]? = some .none
theorem lands {base:Heap}{env:Env}{outer:List Env}{L e:Addr}{oe:Obj}{vs:Array Value}{old:List Addr}{Q:Unit→Shared→Prop} (hfr:A.frames=some (env :: outer)) (hl:s.heap.FunFrames base (env :: outer)) (hf:env.frame=some L)
  (he:s.heap.get? e=some oe) (hdn:oe.dict=none) (hd:oe.data=.fields vs) (tr:Trc s.heap e vs old)
  (q:∀ h' T,Lv ((env :: outer).filterMap (·.frame)) e old oe.cls s.heap h' T→Q () { s with heap:=h' }):wpAny M A (noteFrame (.ref e) env) (fun _ s'=>wpAny M A (setFlight (.ref e) none) Q E s') E s:=by
 unfold noteFrame
 simp only [hf]
 rcases tr with ⟨h1,rfl⟩ | ⟨T0,oT,ts,rfl,h1,nT,hT,hdT,h3⟩
 ·refine wpAny_bind (wpAny_field he hd h1 ?_)
  rw [if_neg (by decide)]
  exact entry_ok hfr hl hf he hdn hd (Array.getElem?_eq_some_iff.mp h1).1 q
 ·refine wpAny_bind (wpAny_field he hd h1 ?_)
  rw [if_pos (show (Value.ref T0 != Value.none)=true by simp)]
  refine wpAny_bind (wpAny_field hT hdT h3 ?_)
  rw [if_neg (show ¬ ((Value.none == rawInt L)=true) by simp [rawInt])]
  refine wpAny_bind (wpAny_setField hT hdT (Array.getElem?_eq_some_iff.mp h3).1 ?_)
  have ot:∀ b,b≠T0→(s.heap.update T0 (Obj.mapFields (·.setIfInBounds 3 Value.none))).get? b=s.heap.get? b:=fun b hb=>Heap.get?_update_other _ _ (Ne.symm hb)
  have nf:∀ b o,s.heap.get? b=some o→(∀ vs,o.data≠.fields vs)→b≠T0:=fun b o hb hnf z=>by
   rw [z,hT] at hb
   cases hb
   exact hnf ts hdT
  refine entry_ok hfr (hl.of_keeps fun b o hb hnf=>⟨o,(ot b (nf b o hb hnf)).trans hb,rfl⟩) hf ((ot e (Ne.symm nT)).trans he) hdn hd (Array.getElem?_eq_some_iff.mp h1).1 fun h' T x=>q h' T ⟨?_,x.exc,x.tb,fun b o hb nb no hbo=>?_,fun b o hb hbo=>?_⟩
  ·have:=x.ge
   rw [show (s.heap.update T0 (Obj.mapFields (·.setIfInBounds 3 Value.none))).objs.size=s.heap.objs.size from Heap.size_after_update ..] at this
   exact this
  ·exact x.keep b o hb nb (by simp) ((ot b (fun z=>no (by simp [z]))).trans hbo)
  ·obtain ⟨_,o',ho',hnf⟩:=hl.mem hb
   rw [hbo] at ho'
   cases ho'
   exact x.slot b o hb ((ot b (nf b o hbo hnf)).trans hbo)
theorem leaves {base:Heap}{env:Env}{outer:List Env}{L e:Addr}{oe:Obj}{vs:Array Value}{old:List Addr}{Q:Unit→Shared→Prop} (hfr:A.frames=some (env :: outer)) (hl:s.heap.FunFrames base (env :: outer)) (hf:env.frame=some L)
  (he:s.heap.get? e=some oe) (hdn:oe.dict=none) (hd:oe.data=.fields vs) (tr:Trc s.heap e vs old)
  (q:∀ h' T,Lv ((env :: outer).filterMap (·.frame)) e old oe.cls s.heap h' T→Q () { s with heap:=h' }):wpAny M A (leaving env (.ref e)) Q E s:=by
 unfold leaving
 exact wpAny_bind (lands hfr hl hf he hdn hd tr q)
end
end EX
set_option maxHeartbeats 4000000
namespace L2
open PySem PySem.Spec PyProof.Rows
def CX1 (P:Program) (w:World):CXT:=fun outer H s E er s'=>∃ e T C H',er=.ref e∧s'.os=s.os∧AllBare s'.gens∧Un (frs outer) [] H H' s.heap s'.heap∧HOk P w H' s'.heap∧s.heap.get? e=none∧s.heap.get? T=none∧T≠e∧H' e=none∧H' T=none ∧
 (∃ oe vs,s'.heap.get? e=some oe∧oe.cls=.ref C∧oe.data=.fields vs∧vs[1]? = some (.ref T)∧oe.dict=none)∧(∃ oT ts,s'.heap.get? T=some oT∧oT.data=.fields ts∧ts[3]? = some .none)∧E (.ref e) (some C) H'
theorem ObjOk.has {P:Program}{w:World}{H:Hp}{h:Heap}{a:Addr}{o:HO} (x:ObjOk P w H h a o):∃ u,h.get? a=some u:=by
 cases o with
 | lst xs=>obtain ⟨_,_,_,_,e⟩:=x;exact ⟨_,e⟩
 | tup xs=>obtain ⟨_,_,_,_,e,_⟩:=x;exact ⟨_,e⟩
 | dK kvs=>obtain ⟨_,_,_,_,o,_,_,e,_⟩:=x;exact ⟨_,e⟩
 | dT kvs=>obtain ⟨_,_,_,_,o,_,_,e,_⟩:=x;exact ⟨_,e⟩
 | set S n=>obtain ⟨o,_,_,_,e,_⟩:=x;exact ⟨_,e⟩
 | ins C dx fs=>obtain ⟨_,_,_,e,_⟩:=x;exact ⟨_,e⟩
 | own y=>exact x
 | xd fs=>obtain ⟨_,⟨_,_,_,e,_⟩,_⟩:=x;exact ⟨_,e⟩
 | rng lo hi=>obtain ⟨_,_,_,e⟩:=x;exact ⟨_,e⟩
 | frz ob u=>obtain ⟨e,_⟩:=x;exact ⟨_,e⟩
 | tbl ps=>exact ⟨_,(show h.get? a=some _ from x)⟩
 | met f y=>exact ⟨_,(show h.get? a=some _ from x)⟩
 | ext φ=>obtain ⟨_,e,_⟩:=x;exact e
theorem HOk.unseen {P:Program}{w:World}{H:Hp}{h:Heap}{a:Addr} (x:HOk P w H h) (e:h.get? a=none):H a=none:=by
 cases q:H a with
 | none=>rfl
 | some u =>
  obtain ⟨o,z⟩:=(x a u q).has
  rw [e] at z;cases z
def FlOk (X:Cx) (pins:List (Addr × Obj)) (H:Hp) (b:Addr):Prop :=
 H b=none∧b≠X.env.locals∧b ∉ X.fs∧(b∈X.ex∨X.s₀.heap.get? b=none)∧(∀ x c,X.env.cells.lookup x=some c→c≠b)∧∀ p∈X.pn ++ pins,p.1≠b
theorem Inv.flOk {X:Cx}{pins:List (Addr × Obj)}{σ:St}{H H':Hp}{s:Shared}{b:Addr} (I:Inv X pins σ H s) (hb:s.heap.get? b=none) (hn:H' b=none):FlOk X pins H' b:=by
 have no:∀ {o:Obj},s.heap.get? b=some o→False:=fun z=>by rw [hb] at z;cases z
 refine ⟨hn,fun z=>?_,fun z=>?_,?_,fun x c e z=>?_,fun p hp z=>?_⟩
 ·obtain ⟨m,⟨o,es,ep,ho,_⟩,_⟩:=I.loc
  rw [← z] at ho;exact no ho
 ·obtain ⟨_,o,ho,_⟩:=I.funs.mem z
  exact no ho
 ·by_cases hx:b∈X.ex
  ·exact .inl hx
  ·refine .inr ?_
   cases q:X.s₀.heap.get? b with
   | none=>rfl
   | some o =>
    obtain ⟨o',h'⟩:=I.base.there b o q hx
    exact (no h').elim
 ·obtain ⟨v,q⟩:=I.cell x c e
  rw [z] at q
  obtain ⟨o,ho,_⟩:=q
  exact no ho
 ·have:=(I.pin p hp).1
  rw [z] at this
  exact no this
structure Fly (X:Cx) (pins:List (Addr × Obj)) (H:Hp) (e C:Addr) (s:Shared):Prop where
 fe:FlOk X pins H e
 obj:∃ oe vs old,s.heap.get? e=some oe∧oe.cls=.ref C∧oe.data=.fields vs∧EX.Trc s.heap e vs old∧oe.dict=none∧∀ b∈old,FlOk X pins H b
def XOk (X:Cx) (E:XK):Prop:=∀ (pins:List (Addr × Obj)) (σ:St) (H:Hp) (s:Shared) (e C:Addr),Inv X pins σ H s→Fly X pins H e C s→E (.ref e) (some C) H→X.xe (.ref e) s
theorem fly_of {X:Cx}{pins:List (Addr × Obj)}{σ:St}{H:Hp}{s s':Shared}{E:XK}{er:Value} (I:Inv X pins σ H s) (h:CX1 X.prog X.w X.stack H s E er s'):∃ e C H',er=.ref e∧Inv X pins σ H' s'∧Fly X pins H' e C s'∧E (.ref e) (some C) H':=by
 obtain ⟨e,T,C,H',rfl,os,bare,un,hok,ge,gT,ne,he,hT,⟨oe,vs,h1,h2,h3,h4,h8⟩,⟨oT,ts,h5,h6,h7⟩,q⟩:=h
 obtain ⟨hh,g,d,t,os'⟩:=s'
 obtain rfl:os'=s.os:=os
 refine ⟨e,C,H',rfl,I.call (h':=hh) (g':=g) (d':=d) (t':=t) (ch:=[]) un hok bare (fun b z=>absurd z (by simp)),⟨I.flOk ge he,oe,vs,[T],h1,h2,h3,.inr ⟨T,oT,ts,rfl,h4,ne,h5,h6,h7⟩,h8,fun b hb=>?_⟩,q⟩
 rw [List.mem_singleton.mp hb]
 exact I.flOk gT hT
theorem pass1 {X:Cx}{E:XK} (h:XOk X E):Passes (CX1 X.prog X.w) X E:=fun pins σ H s er s' I hcx=>by
 obtain ⟨e,C,H',rfl,I',fl,q⟩:=fly_of I hcx
 exact h pins σ H' s' e C I' fl q
theorem passN {P:Program}{w:World}{X:Cx}:Passes (CX1 P w) X E0:=fun _ _ _ _ _ _ _ h=>by
 obtain ⟨_,_,_,_,_,_,_,_,_,_,_,_,_,_,_,_,q⟩:=h
 exact q.elim
section
variable {P:Program}{w:World}{K:PySem.W.Frag}{mg:Str→Option Value}{base:Heap}
theorem xok_fn {N:List Str}{qual:Str}{scope:Scope}{f:Addr}{cdv:Value}{A:Around}{outer:List Env}{s:Shared}{H:Hp}{E:XK}:XOk (cxOf (CX1 P w) P w K mg base N qual scope f cdv A outer s H E) E:=by
 intro pins σ H' s' e C I fl q
 obtain ⟨fe,oe,vs,old,h1,h2,h3,tr,hdn,fo⟩:=fl
 show wpAny (model P w) (A.deeper (envOfC qual scope s.heap.objs.size f cdv)) (leaving (envOfC qual scope s.heap.objs.size f cdv) (.ref e)) (fun _ s''=>CX1 P w outer H s E (.ref e) s'') (fun e' s''=>CX1 P w outer H s E e' s'') s'
 have fr:(A.deeper (envOfC qual scope s.heap.objs.size f cdv)).frames=some (envOfC qual scope s.heap.objs.size f cdv :: outer):=I.ok.frames
 have ff:s'.heap.FunFrames base (envOfC qual scope s.heap.objs.size f cdv :: outer):=I.stack
 have free:∀ b∈(envOfC qual scope s.heap.objs.size f cdv :: outer).filterMap (·.frame),H' b=none:=I.stkFree
 have big:∀ {b},FlOk (cxOf (CX1 P w) P w K mg base N qual scope f cdv A outer s H E) pins H' b→s.heap.get? b=none:=fun {b} hb=>by
  rcases hb.2.2.2.1 with z | z
  ·exact absurd z (by show b ∉ ([]:List Addr);simp)
  ·exact z
 have old_lt:∀ {b o},s.heap.get? b=some o→b≠e∧b ∉ old∧b≠s.heap.objs.size:=fun {b o} hb=>by
  have lt:=Heap.lt_size hb
  refine ⟨fun z=>?_,fun z=>?_,Nat.ne_of_lt lt⟩
  ·have:=big fe
   rw [← z,hb] at this;cases this
  ·have:=big (fo b z)
   rw [hb] at this;cases this
 refine EX.leaves (base:=base) fr ff rfl h1 hdn h3 tr fun h' T lv=>?_
 have inS:∀ {b},b∈(envOfC qual scope s.heap.objs.size f cdv :: outer).filterMap (·.frame)→b=s.heap.objs.size∨b∈frs outer:=fun {b} hb=>by
  rw [List.filterMap_cons] at hb
  exact List.mem_cons.mp hb
 have toS:∀ {b},b∈frs outer→b∈(envOfC qual scope s.heap.objs.size f cdv :: outer).filterMap (·.frame):=fun {b} hb=>by
  rw [List.filterMap_cons]
  exact List.mem_cons_of_mem _ hb
 have B:=I.base
 have sge:s.heap.objs.size≤s'.heap.objs.size:=I.sz
 have kp:∀ b u,H' b≠none→s'.heap.get? b=some u→h'.get? b=some u:=fun b u nb hb=>by
  refine lv.keep b u (fun z=>nb (free b z)) (fun z=>nb (by rw [z];exact fe.1)) (fun z=>nb (fo b z).1) hb
 refine ⟨e,T,C,H',rfl,I.os,I.bare,⟨fun b o e1 n hb hx=>?_,fun b o e1 n hb hx=>?_,fun b o e1 n hx=>B.free b o e1 n hx,fun b o e1 hx=>?_,B.tups,B.frzs,B.tbls⟩,fun b u e1=>?_,big fe,Heap.get?_none_of_le (Nat.le_trans sge lv.ge),?_,fe.1,I.hok.fresh lv.ge,?_,lv.tb,q⟩
 ·obtain ⟨z1,z2,z3⟩:=old_lt e1
  refine lv.keep b o (fun z=>?_) z1 z2 (B.keep b o e1 n hb hx)
  rcases inS z with z | z
  ·exact z3 z
  ·exact hb z
 ·obtain ⟨sl,e2⟩:=B.slot b o e1 n hb hx
  obtain ⟨sl',e3⟩:=lv.slot b _ (toS hb) e2
  exact ⟨sl',e3⟩
 ·obtain ⟨o',e2⟩:=B.there b o e1 hx
  obtain ⟨z1,z2,z3⟩:=old_lt e1
  by_cases hS:b∈(envOfC qual scope s.heap.objs.size f cdv :: outer).filterMap (·.frame)
  ·obtain ⟨sl,e3⟩:=lv.slot b _ hS e2
   exact ⟨_,e3⟩
  ·exact ⟨o',lv.keep b o' hS z1 z2 e2⟩
 ·refine (I.hok b u e1).stay (fun c v hc hv=>kp c v (fun z=>?_) hv) (fun _ z=>z) fun _ _ z=>z
  rcases hc with y | y
  ·rw [y,e1] at z;cases z
  ·rw [y] at z;cases z
 ·exact Nat.ne_of_gt (Nat.lt_of_lt_of_le (Heap.lt_size h1) lv.ge)
 ·obtain ⟨oe',vs',y1,y2,y3,y4,y5⟩:=lv.exc
  exact ⟨oe',vs',y1,y2.trans h2,y3,y4,y5⟩
theorem Fun.okX {x qual:Str}{st:Stmt}{f:Addr}{fd:FuncData}{N ps:List Str}{k:Nat}{sp:Sp} (F:Fun K x qual st f fd) (S:FnScope N ps (defScope st)) (len:∀ vs H Q E,sp vs H Q E→vs.length=ps.length)
  (hbody:∀ (cdv:Value) (A:Around) (outer:List Env) (s:Shared) (H:Hp) (vs:List V) (Q:VK) (E:XK),Room k (A.deeper (envOfC qual (defScope st) s.heap.objs.size f cdv))→sp vs H Q E →
   ∃ t,PSs (cxOf (CX1 P w) P w K mg base N qual (defScope st) f cdv A outer s H E) (defBody st) t∧t { nx:=fun _ H'=>Q .non H',rt:=Q } (start N vs) H):FnOk P w K mg base (CX1 P w) (k+1) f fd ps sp:=by
 obtain ⟨oc,od,kV,doc,pm,an,cdv,ct,osl,rfl,lk,hcd⟩:=F.ex
 exact fn_of lk hcd S len fun A outer s H vs Q E hr hsp=>hbody cdv A outer s H vs Q E hr hsp
end
section
open PySem.W
theorem cls_in {K:Frag}{h:Heap}{C:Addr}{bmB:List Value}{newId:String} (X:K.In h) (q:excIn K C bmB newId=true):∃ bm N nm qn bs hdct sn sub ab col dd k0 k1 k2 k3 k5 mN,
  h.get? C=some (excClassObj nm qn C N bs bm hdct sn sub ab col dd k0 k1 k2 k3 k5 newId)∧h.Ns N mN∧mN "__init__" = none∧OwnTail h bmB bm:=by
 have hk:=q
 revert hk
 rw [excIn]
 intro hk
 cases hl:K.lookup C with
 | none=>rw [hl] at hk;cases hk
 | some ob =>
  obtain ⟨c,dd,dt,sl⟩:=ob
  rw [hl] at hk
  split at hk
  next dd' cd sl' he =>
   cases he
   split at hk
   next C' bm k0 k1 k2 k3 n k5 hm hs =>
    simp only [Bool.and_eq_true,beq_iff_eq,Bool.not_eq_true'] at hk
    obtain ⟨⟨⟨⟨⟨hc,hn⟩,hdel⟩,ht⟩,hok⟩,hni⟩:=hk
    cases cd
    cases sl
    simp only at hm hdel hok hni hs
    rw [hm,hdel,hs] at hl
    rw [hc,hn] at hl
    exact ⟨_,_,_,_,_,_,_,_,_,_,_,_,_,_,_,_,_,X _ _ hl,.of_isNs (isNs_of_in X hok),nsMap_none_of_in X hok hni,tail_of_in X ht⟩
   next=>cases hk
  next=>cases hk
end
def tRaise (C:Addr) (t:TA) (E:XK):TS:=fun _ σ H=>t σ H fun vs H1=>vs.length≤sizeLine∧∀ e,H1 e=none→E (.ref e) (some C) H1
theorem ps_raise {X:Cx}{E:XK}{C:Addr}{x:Str}{bmB:List Value}{B newId initId:String}{e:Expr}{es:List Expr}{t:TA}{np cpos pos:Pos} (F:ExcBaseFacts B newId initId bmB) (q:PySem.W.excIn X.K C bmB newId=true) (hbase:bmB.contains (.type "BaseException")=true)
  (hg:Gl X x) (hm:X.mg x=some (.ref C)) (hc:X.calm=true) (hx:XOk X E) (ha:PA X (e :: es) t) (hdb:(x == ("__debug__" : Str))=false:=by decide) (he:starEach (e :: es) X.env=(false,eval e X.env) :: starEach es X.env:=by rfl)
  (hpl:(backTo cpos (starEach (e :: es) X.env)).any (·.1)=false:=by rfl):PS X (.Raise (some (.Call (.Name x np) (e :: es) [] cpos)) none pos) (tRaise C t E):=by
 intro pins s σ H D I h
 obtain ⟨bm,N,nm,qn,bs,hdct,sn,sub,ab,col,dd,k0,k1,k2,k3,k5,mN,hC,hN,hni,T⟩:=cls_in I.ok.mod.kin q
 refine wpAny_Raise_call_subT (nm:=nm) (q:=qn) (N:=N) (bs:=bs) (hdct:=hdct) (sn:=sn) (sub:=sub) (ab:=ab) (col:=col) (dd:=dd) (k0:=k0) (k1:=k1) (k2:=k2) (k3:=k3) (k5:=k5) F (T.hasType hbase) (I.ok.hd hc) hpl hni (ld_glob I hg hm ⟨rfl,?_⟩ hdb)
 have a1:=ha cpos pins s σ H _ I h
 rw [he] at a1 ⊢
 refine Calls.evalArgs_plain (thn a1 fun us s1 ⟨vs,H1,I1,r,hz,q1⟩=>⟨rfl,?_,I1.bk _ _ hC,hN.keeps I1.bk,T.keeps I1.bk,fun h' e' hme=>?_⟩)
 ·show us.length≤_
  rw [← r.length];exact hz
 ·have I2:Inv X pins σ H1 { s1 with heap:=h' }:=I1.kept (t':=s1.toks) hme.keeps
  obtain ⟨tt,t1,t2,t3⟩:=hme.there
  exact hx pins σ H1 _ e' C I2 ⟨I1.flOk hme.new (I1.hok.unseen hme.new),_,_,[],t1,rfl,rfl,.inl ⟨rfl,rfl⟩,rfl,fun b hb=>absurd hb (by simp)⟩ (q1 e' (I1.hok.unseen hme.new))
def Cx.plus (X:Cx) (l:List Addr):Cx:={ X with ex:=l ++ X.ex }
section
variable {X:Cx}{pins:List (Addr × Obj)}{σ:St}{H:Hp}{s:Shared}{l:List Addr}
theorem unseen_base (I:Inv X pins σ H s) {b:Addr} (hb:X.s₀.heap.get? b=none) (o:Obj):X.base.get? b≠some o:=fun z=>by
 have:=(I.ok.bs b o z).1
 rw [hb] at this;cases this
theorem Inv.plus (I:Inv X pins σ H s) (h:∀ b∈l,FlOk X pins H b):Inv (X.plus l) pins σ H s:=by
 have K:=I.ok
 refine ⟨⟨K.mod,K.kind,K.glob,K.blt,K.above,K.inj,K.has,K.cab,K.hd,K.frames,K.stk,fun b hb=>?_,K.bs,K.bsz,fun b o e hb=>?_,fun b hb=>?_,K.funs,K.frf⟩,I.os,I.bare,?_,I.loc,I.cell,I.free,I.freeC,I.pin,I.hok,I.len⟩
 ·rcases List.mem_append.mp hb with z | z
  ·exact ⟨(h b z).2.1,(h b z).2.2.2.2.1⟩
  ·exact K.exf b z
 ·rcases List.mem_append.mp hb with z | z
  ·rcases (h b z).2.2.2.1 with y | y
   ·exact K.noex b o e y
   ·exact unseen_base I y o e
  ·exact K.noex b o e z
 ·rcases List.mem_append.mp hb with z | z
  ·exact (h b z).2.2.1
  ·exact K.exfs b z
 ·have no:∀ {b:Addr},b ∉ l ++ X.ex→b ∉ X.ex:=fun hb z=>hb (List.mem_append_right _ z)
  exact ⟨fun b o e n hb hx=>I.base.keep b o e n hb (no hx),fun b o e n hb hx=>I.base.slot b o e n hb (no hx),fun b o e n hx=>I.base.free b o e n (no hx),fun b o e hx=>I.base.there b o e (no hx),I.base.tups,I.base.frzs,I.base.tbls⟩
theorem Inv.minus (I:Inv (X.plus l) pins σ H s) (K:X.Ok) (h:∀ b∈l,b∈X.ex∨X.s₀.heap.get? b=none):Inv X pins σ H s:=by
 have no:∀ {b:Addr}{o:Obj},X.s₀.heap.get? b=some o→b ∉ X.ex→b ∉ l ++ X.ex:=fun {b o} e hb z=>by
  rcases List.mem_append.mp z with y | y
  ·rcases h b y with u | u
   ·exact hb u
   ·rw [u] at e;cases e
  ·exact hb y
 exact ⟨K,I.os,I.bare,⟨fun b o e n hb hx=>I.base.keep b o e n hb (no e hx),fun b o e n hb hx=>I.base.slot b o e n hb (no e hx),fun b o e n hx=>I.base.free b o e n (no e hx),fun b o e hx=>I.base.there b o e (no e hx),I.base.tups,I.base.frzs,I.base.tbls⟩,
  I.loc,I.cell,I.free,I.freeC,I.pin,I.hok,I.len⟩
theorem Inv.turn {h':Heap} (I:Inv X pins σ H s) (h:∀ b∈l,FlOk X pins H b)
  (keep:∀ b o,b ∉ frs X.stack→b ∉ l→s.heap.get? b=some o→h'.get? b=some o) (slot:∀ b o,b∈frs X.stack→s.heap.get? b=some o→∃ sl,h'.get? b=some { o with slots:=sl }):Inv X pins σ H { s with heap:=h' }:=by
 have I1:=I.plus h
 have st:∀ b,H b≠none→b ∉ frs X.stack∧b ∉ l:=fun b n=>⟨fun z=>n (I.stkFree b z),fun z=>n (h b z).1⟩
 have u:Un (frs X.stack) l H H s.heap h':=by
  refine ⟨fun b o e n hb hx=>keep b o hb hx e,fun b o e n hb hx=>slot b o hb e,fun b o e n hx=>n,fun b o e hx=>?_,fun _ _ e=>e,fun _ _ _ e=>e,fun b ps e=>⟨#[],by rw [e];simp⟩⟩
  by_cases hb:b∈frs X.stack
  ·obtain ⟨sl,q⟩:=slot b o hb e
   exact ⟨_,q⟩
  ·exact ⟨o,keep b o hb hx e⟩
 have hok:HOk X.prog X.w H h':=fun b u e1=>by
  refine (I.hok b u e1).stay (fun c v hc hv=>?_) (fun _ z=>z) fun _ _ z=>z
  have n:H c≠none:=fun z=>by
   rcases hc with y | y
   ·rw [y,e1] at z;cases z
   ·rw [y] at z;cases z
  exact keep c v (st c n).1 (st c n).2 hv
 exact Inv.minus (l:=l) (I1.call (g':=s.gens) (d':=s.drawn) (t':=s.toks) (ch:=l) u hok I.bare fun b hb=>⟨.inl (List.mem_append_left _ hb),(h b hb).2.1,(h b hb).2.2.2.2.1,(h b hb).2.2.2.2.2⟩) I.ok fun b hb=>(h b hb).2.2.2.1
structure Held (X:Cx) (pins:List (Addr × Obj)) (H:Hp) (e C T:Addr) (s:Shared):Prop where
 fe:FlOk X pins H e
 fT:FlOk X pins H T
 ne:T≠e
 exc:∃ oe vs,s.heap.get? e=some oe∧oe.cls=.ref C∧oe.data=.fields vs∧vs[1]? = some (.ref T)∧oe.dict=none
 tb:∃ oT ts,s.heap.get? T=some oT∧oT.data=.fields ts∧ts[3]? = some .none
theorem again {e C T:Addr}{Q:Unit→Shared→Prop}{A:Around} (I:Inv X pins σ H s) (hd:Held X pins H e C T s)
  (q:∀ h',Inv X pins σ H { s with heap:=h' }→Held X pins H e C T { s with heap:=h' }→Q () { s with heap:=h' }) {E:Value→Shared→Prop} :
  wpAny (model X.prog X.w) A (setFlight (.ref e) none) Q E s:=by
 obtain ⟨fe,fT,ne,⟨oe,vs,h1,h2,h3,h4,h5⟩,⟨oT,ts,t1,t2,t3⟩⟩:=hd
 unfold setFlight
 refine wpAny_bind (wpAny_field h1 h3 h4 ?_)
 rw [if_pos (show (Value.ref T != Value.none)=true by simp)]
 refine wpAny_setField t1 t2 (Array.getElem?_eq_some_iff.mp t3).1 ?_
 have d4:=Obj.data_mapFields t2 (·.setIfInBounds 3 ((none:Option Addr).elim Value.none fun f=>rawInt f))
 have ot:∀ b,b≠T→(s.heap.update T (Obj.mapFields (·.setIfInBounds 3 ((none:Option Addr).elim Value.none fun f=>rawInt f)))).get? b=s.heap.get? b:=fun b hb=>Heap.get?_update_other _ _ (Ne.symm hb)
 have notT:∀ b,b∈frs X.stack→b≠T:=fun b hb z=>by
  obtain ⟨_,o,ho,nf⟩:=I.stack.mem hb
  rw [z,t1] at ho;cases ho
  exact nf ts t2
 refine q _ (I.turn (l:=[T]) (fun b hb=>?_) (fun b o hb hl ho=>?_) fun b o hb ho=>?_) ⟨fe,fT,ne,⟨oe,vs,(ot e (Ne.symm ne)).trans h1,h2,h3,h4,h5⟩,⟨_,_,Heap.get?_update_self _ t1 (Obj.isFreed_of_fields d4),d4,?_⟩⟩
 ·rw [List.mem_singleton.mp hb];exact fT
 ·exact (ot b (fun z=>hl (by simp [z]))).trans ho
 ·exact ⟨o.slots,(ot b (notT b hb)).trans ho⟩
 ·simp [(Array.getElem?_eq_some_iff.mp t3).1]
end
def mroIn (K:PySem.W.Frag) (C:Addr):List Value:=match K.lookup C with
 | some ⟨_,_,.cls cd,_⟩=>cd.mro
 | _=>[]
section
open PySem.W
end
def Cx.mk' (X:Cx) (e:Addr):Cx:={ X with A:=X.A.mark (some (.ref e)),calm:=false,xe:=fun _ _=>False }
def Cx.tr (X:Cx) (pins:List (Addr × Obj)) (Ex:St→XK):Cx :=
 { X with pn:=X.pn ++ pins,xe:=fun er s=>∃ σ e C H,er=.ref e∧Inv X pins σ H s∧Fly X pins H e C s∧Ex σ (.ref e) (some C) H }
section
variable {X:Cx}{pins:List (Addr × Obj)}{σ:St}{H:Hp}{s:Shared}{e C T:Addr}{D:Ends}{f:Flow}{Ex:St→XK}
theorem Inv.mk' (I:Inv X pins σ H s) (e:Addr):Inv (X.mk' e) pins σ H s :=
 ⟨⟨I.ok.mod,I.ok.kind,I.ok.glob,I.ok.blt,I.ok.above,I.ok.inj,I.ok.has,I.ok.cab,fun h=>Bool.noConfusion h,I.ok.frames,I.ok.stk,I.ok.exf,I.ok.bs,I.ok.bsz,I.ok.noex,I.ok.exfs,I.ok.funs,I.ok.frf⟩,I.os,I.bare,I.base,I.loc,I.cell,I.free,I.freeC,I.pin,I.hok,I.len⟩
theorem Inv.tr (I:Inv X pins σ H s) (Ex:St→XK):Inv (X.tr pins Ex) [] σ H s :=
 ⟨⟨I.ok.mod,I.ok.kind,I.ok.glob,I.ok.blt,I.ok.above,I.ok.inj,I.ok.has,I.ok.cab,I.ok.hd,I.ok.frames,I.ok.stk,I.ok.exf,I.ok.bs,I.ok.bsz,I.ok.noex,I.ok.exfs,I.ok.funs,I.ok.frf⟩,I.os,I.bare,I.base,I.loc,I.cell,I.free,I.freeC,fun p hp=>I.pin p (by rw [List.append_nil] at hp;exact hp),I.hok,I.len⟩
def XOkS (X:Cx) (Ex:St→XK):Prop:=∀ (pins:List (Addr × Obj)) (σ:St) (H:Hp) (s:Shared) (e C:Addr),Inv X pins σ H s→Fly X pins H e C s→Ex σ (.ref e) (some C) H→X.xe (.ref e) s
theorem XOk.toS {E:XK} (h:XOk X E):XOkS X fun _=>E:=fun pins σ H s e C I fl q=>h pins σ H s e C I fl q
end
section
variable {X:Cx}{x:Str}{np pos:Pos}{Dc:Addr}{b₀:Stmt}{body:List Stmt}{rest:List ExceptHandler}{hd:Addr→Addr→TS}{ts:TS}
end
section
variable {X:Cx}{k:Nat}{f C:Addr}{fd:FuncData}{ps:List Str}{sp:Sp}{dvs:List V}{ds:List Value}{Ex:St→XK}{x m:Str}{p pos apos:Pos}{e o:Expr}{es:List Expr}{ta:TE}{t:TA}
end
def excAt (a C:Addr):Heap→Prop:=fun h=>∃ o vs,h.get? a=some o∧o.cls=.ref C∧o.data=.fields vs∧o.dict=none
def xo (a C:Addr):HO:=.ext (excAt a C)
section
variable {X:Cx}{pins:List (Addr × Obj)}{σ:St}{H:Hp}{s:Shared}{e C T:Addr}
theorem Inv.seen {oe:Obj} (I:Inv X pins σ H s) (fe:FlOk X pins H e) (ho:s.heap.get? e=some oe) (hc:oe.cls=.ref C) {vs:Array Value} (hf:oe.data=.fields vs) (hdn:oe.dict=none):Inv X pins σ (upd H e (xo e C)) s:=by
 have ne:∀ {b u},H b=some u→b≠e:=fun {b u} h z=>by rw [z,fe.1] at h;cases h
 have up:∀ {b u},H b=some u→upd H e (xo e C) b=some u:=fun {b u} h=>(upd_ne (ne h)).trans h
 refine ⟨I.ok,I.os,I.bare,⟨I.base.keep,I.base.slot,fun b o e1 n hx=>?_,I.base.there,fun b xs h=>up (I.base.tups b xs h),fun b o u h=>up (I.base.frzs b o u h),fun b ps h=>?_⟩,I.loc,I.cell,(upd_ne (Ne.symm fe.2.1)).trans I.free,fun x c h=>(upd_ne (fe.2.2.2.2.1 x c h)).trans (I.freeC x c h),fun p hp=>?_,fun b u h=>?_,I.len⟩
 ·refine (upd_ne fun z=>?_).trans (I.base.free b o e1 n hx)
  rcases fe.2.2.2.1 with y | y
  ·exact hx (z ▸ y)
  ·rw [z,y] at e1;cases e1
 ·obtain ⟨more,q⟩:=I.base.tbls b ps h
  exact ⟨more,up q⟩
 ·obtain ⟨a1,a2,a3⟩:=I.pin p hp
  exact ⟨a1,(upd_ne (fe.2.2.2.2.2 p hp)).trans a2,a3⟩
 ·by_cases hb:b=e
  ·rw [hb,upd_same] at h
   cases h
   rw [hb]
   exact ⟨⟨oe,vs,ho,hc,hf,hdn⟩,⟨oe,ho⟩,fun h1 h2 ⟨o,vs,p1,p2⟩ k=>⟨o,vs,k o p1,p2⟩⟩
  ·rw [upd_ne hb] at h
   exact (I.hok b u h).stay (fun c v _ q=>q) (fun c q=>up q) fun c xs q=>up q
end
def exq (K:PySem.W.Frag) (C:Addr):Bool :=
 (PySem.W.clsIn K C).isSome && PySem.W.findIn K (.ref C) "__getattribute__" == some (some (.builtin "BaseException.__getattribute__")) && PySem.W.findIn K (.ref C) "__getattr__" == some none
 && PySem.W.findIn K (.ref C) "__class__" == some (some (.builtin "object.__class__")) && PySem.W.specialIn K (.builtin "object.__class__") "__get__" == some (some (.builtin "getset_descriptor.__get__"))
 && PySem.W.takesIn K (.builtin "object.__class__") == some true && PySem.W.mroIn K C (.type "object") == some true && PySem.W.mroIn K C (.type "BaseException") == some true
section
open PySem.W PySem.Calls
variable {prog:Program}{w:World}{A:Around}{E:Value→Shared→Prop}{s:Shared}{K:Frag}{a C:Addr}
end
structure RoomM (k:Nat) (A:Around):Prop where
 dp:A.depth+3 * k+5<recursionLimit
 un:A.units+16 * k+200<cLine
theorem Room.m {k:Nat}{A:Around} (r:Room k A):RoomM k A:=⟨r.dp,r.un⟩
theorem RoomM.mark {k:Nat}{A:Around} (r:RoomM k A) (v:Option Value):RoomM k (A.mark v):=⟨r.dp,r.un⟩
structure FnOkM (P:Program) (w:World) (K:PySem.W.Frag) (mg:Str→Option Value) (base:Heap) (CX:CXT) (k:Nat) (f:Addr) (fd:FuncData) (ps:List Str) (sp:Sp):Prop where
 len:∀ vs H Q E,sp vs H Q E→vs.length=ps.length
 run:∀ (A:Around) (outer:List Env) (s:Shared) (H:Hp) (args:Args) (us:List Value) (vs:List V) (Q:VK) (E:XK),RoomM k A→Env0 P w K mg base A outer s H→BindsTo s fd args (ps.zip us)→Vals vs us→sp vs H Q E →
  codeAny (model P w) A (.call (.ref f) args) (CR CX outer P w H s Q E) s
section
variable {X:Cx}{CX:CXT}{k:Nat}{f C:Addr}{fd:FuncData}{ps:List Str}{sp:Sp}{dvs:List V}{ds:List Value}{E:XK}{x m:Str}{p pos apos:Pos}{e o:Expr}{es:List Expr}{ta:TE}{t:TA}
end
theorem passF {P:Program}{w:World}{K:PySem.W.Frag}{mg:Str→Option Value}{base:Heap}{N:List Str}{qual:Str}{scope:Scope}{f:Addr}{cdv:Value}{A:Around}{outer:List Env}{s:Shared}{H:Hp}{E:XK} :
  PassesOwn (model (cxOf (CX1 P w) P w K mg base N qual scope f cdv A outer s H E).prog (cxOf (CX1 P w) P w K mg base N qual scope f cdv A outer s H E).w) (cxOf (CX1 P w) P w K mg base N qual scope f cdv A outer s H E).A (cxOf (CX1 P w) P w K mg base N qual scope f cdv A outer s H E).env (cxOf (CX1 P w) P w K mg base N qual scope f cdv A outer s H E).xe:=fun _ _ h=>wpAny_leaving_again (SameStack.refl _) h
section
variable {X:Cx}{k:Nat}{f C:Addr}{fd:FuncData}{ps:List Str}{sp:Sp}{dvs:List V}{ds:List Value}{Ex:St→XK}{x:Str}{p pos:Pos}{e:Expr}{es:List Expr}{t:TA}
end
end L2
set_option maxHeartbeats 4000000
namespace DT
open PySem
section
variable {prog:Program}{w:World}{A:Around}{E:Value→Shared→Prop}{s:Shared}{d it:Addr}{od:Obj}{es:Array DictEntry}{ep i:Nat}
end
end DT
namespace L2
open PySem PySem.Spec PyProof.Rows
section
variable {X:Cx}{pins:List (Addr × Obj)}{σ:St}{H:Hp}{s:Shared}{d:Addr}{kvs:List (List Key × V)}{o:Obj}
theorem Inv.dT (I:Inv X pins σ H s) (e:Rd H d (.dT kvs)):kvs.length≤sizeLine∧(d == sysModules)=false∧∃ (xs:List (List Key × Addr × Value)) (od:Obj) (es:Array DictEntry) (ep:Nat),KT H kvs xs∧s.heap.get? d=some od∧od.ExactDict∧od.data=.dict es ep∧es.size=kvs.length ∧
  ∀ (i:Nat) p,kvs[i]? = some p→∃ (b:Addr) (h:Int) (v:Value),es[i]? = some ⟨h,.ref b,v⟩∧H b=some (.tup (p.1.map kV)):=by
 obtain ⟨z,y,xs,r,od,es,ep,h1,h2,h3,h4,h5⟩:=(show ObjOk X.prog X.w H s.heap d (.dT kvs) from rd_of I.hok e)
 have hl:kvs.length=xs.length:=Paired.length r
 have hs:es.size=kvs.length:=by rw [hl,← Array.length_toList,h4,List.length_map]
 refine ⟨z,y,xs,od,es,ep,r,h1,h2,h3,hs,fun i p hp=>?_⟩
 have at_:∀ {l:List (List Key × V)}{m:List (List Key × Addr × Value)}{j:Nat}{q:List Key × V},KT H l m→l[j]? = some q→∃ x,m[j]? = some x∧H x.2.1=some (.tup (q.1.map kV)):=by
  intro l m j q t
  induction t generalizing j with
  | nil=>intro z;simp at z
  | @cons a b as bs hq _ ih =>
   intro z
   cases j with
   | zero =>
    have:a=q:=by simpa using z
    subst this
    exact ⟨b,rfl,hq.2.1⟩
   | succ j=>exact ih (by simpa using z)
 obtain ⟨x,hx,hH⟩:=at_ r hp
 have:es[i]? = some (entryOfKey (tupleKind (mixKind X.prog X.w)) x):=by rw [← Array.getElem?_toList,h4,List.getElem?_map,hx];rfl
 exact ⟨x.2.1,_,_,this,hH⟩
end
section
variable {X:Cx}{pins:List (Addr × Obj)}{σ:St}{H:Hp}{s:Shared}
theorem FpOk.fl {b:Addr} (h:FpOk X pins H b):FlOk X pins H b:=⟨h.1,h.2.1,h.2.2.1,h.2.2.2.1.imp id fun z=>by
 cases e:X.s₀.heap.get? b with
 | none=>rfl
 | some o=>exact absurd (Heap.lt_size e) (Nat.not_lt.mpr z),h.2.2.2.2.1,h.2.2.2.2.2⟩
end
section
variable {X:Cx}{tg:Expr}
end
end L2
set_option maxHeartbeats 4000000
namespace RR
open PySem
section
variable {prog:Program}{w:World}{A:Around}{E:Value→Shared→Prop}{s:Shared}
end
end RR
namespace L2
open PySem PySem.Spec PyProof.Rows
section
variable {X:Cx}{tg:Expr}
end
section
variable {K:PySem.W.Frag}{ta:TA}{g:TG}{tb:TS}{D:Ends}{σ:St}{H:Hp}
end
end L2
set_option maxHeartbeats 4000000
namespace RV
open PySem
theorem lk_rev_len:typeLookup (.type "list_reverseiterator") "__len__" = pure none:=by rw [typeLookup_type,builtinLookup_eq_fast];kernel_rfl
theorem lk_rev_hint:typeLookup (.type "list_reverseiterator") "__length_hint__" = pure (some (.builtin "list_reverseiterator.__length_hint__")):=by rw [typeLookup_type,builtinLookup_eq_fast];kernel_rfl
theorem sub_rev_self:isSubtype (.type "list_reverseiterator") (.type "list_reverseiterator")=pure true:=by rw [isSubtype_type];kernel_rfl
section
variable {prog:Program}{w:World}{A:Around}{E:Value→Shared→Prop}{s:Shared}
theorem sp_of {x:Value}{T:String}{n:Str}{r:Option Value}{Q:Option Value→Shared→Prop} (ty:s.TypeIs x T) (h:typeLookup (.type T) n=pure r) (q:Q r s):wpAny (model prog w) A (specialOf x n) Q E s:=by
 unfold specialOf
 exact wpAny_bind (wpAny_typeOf ty (wpAny_of_eq h q))
theorem split_hint:splitId "list_reverseiterator.__length_hint__" = some ("list_reverseiterator","__length_hint__"):=by decide +kernel
theorem hint_rev {it:Addr}{Q:Bool→Shared→Prop} (ty:s.TypeIs (.ref it) "list_reverseiterator") (q:Q false s):wpAny (model prog w) A (Builtin.List.listLengthHint (.ref it)) Q E s:=by
 unfold Builtin.List.listLengthHint
 refine wpAny_bind (sp_of ty lk_rev_len ?_)
 simp only []
 refine wpAny_bind (sp_of ty lk_rev_hint ?_)
 simp only [split_hint]
 refine wpAny_bind (wpAny_isInstance (T:="list_reverseiterator") (b:=true) ty sub_rev_self ?_)
 rw [if_neg (by decide),if_pos (by decide +kernel),if_neg (by decide)]
 exact wpAny_pure q
theorem call_list_rev {it l:Addr}{items:Array Value}{Q:Value→Shared→Prop} (hh:A.handled=none) (hn:l≠it) (hr:s.heap.IsRevIter it l ((items.size:Int) - 1)) (hl:s.heap.IsList l items) (hz:items.size≤sizeLine)
  (q:∀ s' acc' c',Moved (s.heap.objs.size :: [it]) (fun a b=>b=a) { s with heap:=s.heap.push { cls:=.type "list",data:=.seq #[] } } s'→s'.heap.get? s.heap.objs.size=some { cls:=.type "list",data:=.seq acc' c' }→ItemsOf (fun i v=>items[items.size - 1 - i]? = some v) acc' items.size→Q (.ref s.heap.objs.size) s') :
  wpAny (model prog w) A (call (.type "list") [.ref it]) Q E s:=by
 refine callType_codes (Q₁:=fun v s1=>v=.ref s.heap.objs.size∧s1={ s with heap:=s.heap.push { cls:=.type "list",data:=.seq #[] } }) F.called_list (F.typeCall_list_1 _) F.entry_list_init (code_list_new _ ⟨rfl,rfl⟩) ?_
 rintro obj s1 ⟨rfl,rfl⟩
 refine ⟨⟨_,Heap.get?_push_size _ rfl,rfl⟩,F.args_list_init_2 _ _,?_⟩
 have hS:=Heap.get?_push_size s.heap (o:={ cls:=.type "list",data:=.seq #[] }) rfl
 have hr':(s.heap.push { cls:=.type "list",data:=.seq #[] }).IsRevIter it l ((items.size:Int) - 1):=hr.at fun o e=>Heap.get?_push_of_some _ e
 have hl':(s.heap.push { cls:=.type "list",data:=.seq #[] }).IsList l items:=hl.push _
 have hit:it≠s.heap.objs.size:=by obtain ⟨o,e,_⟩:=hr;exact Nat.ne_of_lt (Heap.lt_size e)
 have hll:l≠s.heap.objs.size:=by obtain ⟨o,e,_⟩:=hl;exact Nat.ne_of_lt (Heap.lt_size e)
 obtain ⟨oi,gi,ci,di⟩:=id hr'
 have f1:=lk_rev_len
 have f2:=lk_rev_hint
 have f3:=sub_rev_self
 unfold Builtin.«list.__init__»
 generalize hSS:s.heap.objs.size=S at *
 generalize hH:s.heap.push { cls:=.type "list",data:=.seq #[] }=h1 at *
 repeat (any_goals (first | assumption | wp_step))
 rw [ci]
 rw [if_neg (by
  have e1:Builtin.List.listSameRef (.ref S) (.ref it)=false:=by
   unfold Builtin.List.listSameRef
   simpa using Ne.symm hit
  rw [e1]
  decide)]
 have hS2:(h1.update S (Obj.mapSeq fun x=>#[])).get? S=some { cls:=.type "list",data:=.seq #[] }:=by
  rw [Heap.get?_update_self _ hS (by rfl)];rfl
 have hk:∀ b o,b≠S→h1.get? b=some o→(h1.update S (Obj.mapSeq fun x=>#[])).get? b=some o:=fun b o hb e=>by
  exact ((Heap.SameBut.update ..).2 b hb).trans e
 have hr2:(h1.update S (Obj.mapSeq fun x=>#[])).IsRevIter it l ((items.size:Int) - 1):=hr'.at fun o e=>hk _ _ hit e
 have hl2:(h1.update S (Obj.mapSeq fun x=>#[])).IsList l items:=hl'.at fun o e=>hk _ _ hll e
 have gi2:=hk _ _ hit gi
 generalize hH2:h1.update S (Obj.mapSeq fun x=>#[])=h2 at *
 have W:=Walks.listRev (prog:=prog) (w:=w) (A:=A.in1.in1) hh it l hn items
 refine wpAny_bind (W.self 0 _ _ _ ⟨Nat.zero_le _,by simpa using hr2,hl2⟩ ?_)
 refine wpAny_bind (wpAny_holding ?_)
 have ty:(⟨h2,s.gens,s.drawn,s.toks,s.os⟩:Shared).TypeIs (.ref it) "list_reverseiterator":=⟨_,gi2,ci⟩
 refine hint_rev ty ?_
 show wpAny _ _ (if _ then _ else again (Code.builtin "list.extend.loop" { pos:=[Value.ref S,Value.ref it,Value.none] })) _ _ _
 rw [if_neg (by decide +kernel)]
 refine wpAny_pure ⟨plainId_quiet F.plain_extend_loop _,codeAny_extend_loopS (A:=A.in1) W.toS hz S (by simp [Ne.symm hit,Ne.symm hll]) .none items.size 0 _ #[] _ rfl (Nat.zero_le _) ⟨Nat.zero_le _,by simpa using hr2,hl2⟩ hS2 ⟨rfl,fun j v e=>by simp at e⟩ fun s' acc' c' mv g it'=>⟨rfl,q s' acc' c' ⟨fun b o hb e=>mv.heap b o hb (hk b o (fun z=>hb (by simp [z])) e),mv.gens,mv.drawn,mv.os,mv.toks⟩ g it'⟩⟩
end
end RV
namespace L2
open PySem PySem.Spec PyProof.Rows
def cListRev (K:PySem.W.Frag) (t:TA):TE:=fun σ H Q=>t σ H fun vs H1=>match vs with
 | [.ref a]=>∃ xs,SqL K H1 a xs∧∀ p H',New H1 p (.lst xs.reverse) H'→Q (.ref p) H'
 | _=>False
theorem e_listrev {X:Cx}{ea:Expr}{t:TA}{p1 p2 p3 p4:Pos} (hc:X.calm=true) (hg1:Gl X "list") (hg2:Gl X "reversed") (hm1:X.mg "list" = none) (hm2:X.mg "reversed" = none) (ha:PA X [ea] t)
  (he:starEach [ea] X.env=(false,eval ea X.env) :: starEach [] X.env:=by rfl) (hpl:(backTo p3 (starEach [] X.env)).any (·.1)=false:=by rfl)
  (he2:starEach [Expr.Call (.Name "reversed" p2) [ea] [] p3] X.env=(false,eval (Expr.Call (.Name "reversed" p2) [ea] [] p3) X.env) :: starEach [] X.env:=by rfl) (hpl2:(backTo p4 (starEach [] X.env)).any (·.1)=false:=by rfl) :
  PE X (.Call (.Name "list" p1) [.Call (.Name "reversed" p2) [ea] [] p3] [] p4) (cListRev X.K t):=by
 intro pins s σ H Q I h
 refine wpAny_Call_Name_kw (ld_blt I hg1 hm1 PyProof.Rows.boot_list ?_ (by decide) (by decide))
 refine PyProof.Rows.callWith_type1 ?_ he2 hpl2
 rw [he2]
 show wpAny _ _ (spliced ((false,eval (Expr.Call (.Name "reversed" p2) [ea] [] p3) X.env) :: backTo p4 (starEach [] X.env))) _ _ s
 refine Calls.spliced_cons ?_
 refine wpAny_Call_Name_kw (ld_blt I hg2 hm2 PyProof.Rows.boot_reversed ?_ (by decide) (by decide))
 refine PyProof.Rows.callWith_type1 (thn (ha p3 pins s σ H _ I h) fun us s1 ⟨vs,H1,I1,r1,q1⟩=>?_) he hpl
 match vs,q1 with
 | [.ref a],q1 =>
  obtain ⟨xs,hL,q⟩:=q1
  obtain ⟨u1,rfl,e1⟩:=vals1 r1
  cases e1
  obtain ⟨its,rv,pl,hz⟩:=I1.list hL
  have hlen:=rv.length
  refine call_reversed_list pl.isList (Calls.spliced_nil ?_)
  have I2:Inv X pins σ H1 { s1 with heap:=s1.heap.push (revObj a ((its.toArray.size:Int) - 1)),toks:=s1.toks }:=I1.kept fun b o e=>Heap.get?_push_of_some _ e
  have hla:a≠s1.heap.objs.size:=by obtain ⟨o,e,_⟩:=pl.isList;exact Nat.ne_of_lt (Heap.lt_size e)
  refine RV.call_list_rev (items:=its.toArray) (I.ok.hd hc) hla ⟨_,Heap.get?_push_size _ rfl,rfl,rfl⟩ (pl.isList.push _) (by rw [List.size_toArray,← hlen];exact hz) fun s' acc c mv at' items=>?_
  have fp:FpOk X pins H1 s1.heap.objs.size:=I1.fpOk (Nat.le_refl _) (I1.hok.fresh (Nat.le_refl _))
  generalize hit:s1.heap.objs.size=it at *
  generalize hs2:s1.heap.push (revObj a ((its.toArray.size:Int) - 1))=k2 at *
  obtain ⟨h',g',d',t',o'⟩:=s'
  obtain ⟨m1,m2,m3,m4,_⟩:=mv
  dsimp only at m1 m2 m3 m4 at'
  subst m2 m3 m4
  have hfree:H1 k2.objs.size=none:=I2.hok.fresh (Nat.le_refl _)
  have eacc:acc.toList=its.reverse:=by
   obtain ⟨i1,i2⟩:=items
   apply List.ext_getElem?
   intro j
   by_cases hj:j<acc.size
   ·have h1:acc[j]? = some acc[j]:=Array.getElem?_eq_getElem hj
    have h2:=i2 j _ h1
    have h3:its[its.length - 1 - j]? = some acc[j]:=by simpa using h2
    have hj':j<its.length:=by simpa [i1] using hj
    rw [Array.getElem?_toList,h1,List.getElem?_reverse hj',h3]
   ·have hj':its.length≤j:=by
     have:acc.size=its.length:=by simpa using i1
     omega
    rw [List.getElem?_eq_none (by simpa using hj),List.getElem?_eq_none (by simpa using hj')]
  refine ⟨.ref k2.objs.size,upd H1 k2.objs.size (.lst xs.reverse),?_,rfl,q _ _ ⟨hfree,rfl⟩⟩
  refine I2.dz (ch:=[it]) (t':=t') (h':=h') (fun b hb=>by rw [List.mem_singleton.mp hb];exact fp) (Nat.le_refl _) (fun b o hb e=>m1 b o ?_ (Heap.get?_push_of_some _ e)) ⟨by rw [List.length_reverse];exact hz,acc.toList,c,?_,by simpa using at'⟩
  ·intro z
   rcases List.mem_cons.mp z with z | z
   ·exact absurd (Heap.lt_size e) (by rw [z];exact Nat.lt_irrefl _)
   ·exact hb z
  ·rw [eacc]
   exact rv.reverse
end L2
set_option maxHeartbeats 4000000
namespace L2
open PySem PySem.Spec PyProof.Rows PySem.W
end L2
set_option maxRecDepth 20000
namespace L2
open PySem PySem.Spec PyProof.Rows
variable {X:Cx}
structure PL (H:Hp) (p:Addr) (es:List En):Prop where
 lst:H p=some (.lst (es.map fun e=>V.ref e.1))
 tup:∀ e∈es,H e.1=some (.tup [.int e.2.1,.int e.2.2])
end L2
set_option maxHeartbeats 4000000
namespace DT
open PySem
end DT
namespace L2
open PySem PySem.Spec PyProof.Rows
theorem paired_get {α β:Type}{F:α→β→Prop}:∀ {l:List α}{m:List β},Paired F l m→∀ {i:Nat}{q:β},m[i]? = some q→∃ p,l[i]? = some p∧F p q
 | _,_,.nil,i,q,h=>by simp at h
 | _,_,.cons h t,0,q,e=>by
  rw [List.getElem?_cons_zero] at e
  cases e
  exact ⟨_,rfl,h⟩
 | _,_,.cons h t,i+1,q,e=>by
  rw [List.getElem?_cons_succ] at e
  obtain ⟨p,a,b⟩:=paired_get t e
  exact ⟨p,by rw [List.getElem?_cons_succ];exact a,b⟩
def KeysAt (H:Hp) (kvs:List (List Key × V)) (bs:List Addr):Prop:=bs.length=kvs.length∧∀ (i:Nat) (p:List Key × V),kvs[i]? = some p→∃ b,bs[i]? = some b∧H b=some (.tup (p.1.map kV))
def cListT (_:PySem.W.Frag):List V→Hp→VK→Prop:=fun vs H Q=>match vs with
 | [.ref p]=>∃ kvs,Rd H p (.dT kvs)∧∀ bs l H',KeysAt H kvs bs→New H l (.lst (bs.map V.ref)) H'→Q (.ref l) H'
 | _=>False
def cListK (_:PySem.W.Frag):List V→Hp→VK→Prop:=fun vs H Q=>match vs with
 | [.ref p]=>∃ kvs,Rd H p (.dK kvs)∧∀ l H',New H l (.lst (kvs.map fun kv=>kV kv.1)) H'→Q (.ref l) H'
 | _=>False
theorem is_kV {P:Program}{w:World}{k:Key}{u:Value} (r:(mixKind P w).is k u=true):RelV (kV k) u:=by
 rcases keyIs_shape r with ⟨i,t,rfl,rfl⟩ | ⟨x,t,rfl,rfl⟩
 ·exact ⟨t,rfl⟩
 ·exact ⟨t,rfl⟩
theorem c_listK {X:Cx} (hc:X.calm=true):CallR X (.type "list") (cListK X.K):=by
 intro pins s σ H xs us Q I r h
 match xs,h with
 | [.ref p],h =>
  obtain ⟨kvs,e,q⟩:=h
  obtain ⟨u1,rfl,e1⟩:=vals1 r
  cases e1
  obtain ⟨z,y,vs,rel,dd⟩:=dk_rd I.hok e
  obtain ⟨ep,hat⟩:=dd.dictAt
  have hlen:=rel.length
  refine PySem.W.kdl_call (PySem.W.kdl_dict (knd:=mixKind X.prog X.w) (kvs:=vs) (ep:=ep) y) (I.ok.hd hc) hat (by omega) fun h' tk acc c kp hl ⟨ha,hb⟩=>?_
  have key:∀ n,n≤kvs.length→Vals ((kvs.take n).map fun kv=>kV kv.1) (acc.toList.take n):=by
   intro n
   induction n with
   | zero=>intro _;rw [List.take_zero,List.take_zero];exact .nil
   | succ n ih =>
    intro hn
    have han:n<acc.size:=by omega
    obtain ⟨k,x,hk,hv⟩:=hb n acc[n] (Array.getElem?_eq_getElem han)
    obtain ⟨p',g1,g2⟩:=paired_get rel hk
    rw [List.take_add_one,List.take_add_one,show acc.toList[n]? = some acc[n] by simp [han],g1,List.map_append]
    exact Paired.snoc (ih (by omega)) (show RelV (kV p'.1) acc[n] by rw [g2.1];exact is_kV hv)
  have b3:=key kvs.length (Nat.le_refl _)
  rw [List.take_length,List.take_of_length_le (by rw [Array.length_toList];omega)] at b3
  have hl':h'.get? s.heap.objs.size=some { cls:=.type "list",dict:=none,data:=.seq acc.toList.toArray c,slots:=#[] }:=by rw [Array.toArray_toList];exact hl
  exact ⟨.ref s.heap.objs.size,_,I.laid (t':=tk) kp (Nat.le_refl _) (show ObjOk X.prog X.w _ h' _ (.lst (kvs.map fun kv=>kV kv.1)) from ⟨by rw [List.length_map];omega,acc.toList,c,b3,hl'⟩),rfl,q _ _ ⟨I.hok.fresh (Nat.le_refl _),rfl⟩⟩
theorem compG_rngF {σ:St}{sel:List Nat}{rest:St}{H:Hp}{tt:TT}{te:TE}{Q:VK}{lo:Int}{n:Nat} (q:Nat→Bool) (f:Nat→V) (hr:sel.map (fun j=>(σ[j]?).join)=rest) (hz:n≤sizeLine)
  (ht:∀ (i:Nat) H' (Q':Bool→Hp→Prop),i<n→Same H H'→Q' (q i) H'→tt (some (.int (lo+i)) :: rest) H' Q')
  (he:∀ (i:Nat) H' (Q':VK),i<n→q i=true→Same H H'→Q' (f i) H'→te (some (.int (lo+i)) :: rest) H' Q') (hQ:∀ p H',New H p (.lst (((List.range n).filter q).map f)) H'→Q (.ref p) H'):CompG (Itr lo n) σ 1 sel (gName 0) tt te Q H:=by
 intro p hp
 refine comp_inv (n:=n) (item:=fun i=>.int (lo+i)) (fun i H2=>H2=upd H p (.lst (((List.range i).filter q).map f))) hr (by simp) src_rng ?_ ?_ ?_
 ·rintro H2 rfl
  exact Nat.le_refl _
 ·rintro i H2 R hi rfl hR
  refine ht i _ _ hi (same_upd hp) ?_
  cases hq:q i with
  | true =>
   rw [if_pos rfl]
   refine he i _ _ hi hq (same_upd hp) ⟨_,upd_same,?_,hR _ ?_⟩
   ·rw [List.length_map]
    have:=List.length_filter_le q (List.range i)
    rw [List.length_range] at this
    omega
   ·rw [upd_upd,List.range_succ,List.filter_append,List.map_append,List.filter_cons,if_pos hq]
    rfl
  | false =>
   rw [if_neg (by simp)]
   refine hR _ ?_
   rw [List.range_succ,List.filter_append,List.map_append,List.filter_cons,if_neg (by rw [hq];simp),List.filter_nil,List.map_nil,List.append_nil]
 ·rintro H2 rfl
  exact hQ p _ ⟨hp,rfl⟩
theorem inV_ints (x:Int) (xs:List Int):inV (.int x) (xs.map V.int)=decide (x∈xs):=by
 unfold inV
 rw [List.any_map,Bool.eq_iff_iff,List.any_eq_true,decide_eq_true_eq]
 constructor
 ·rintro ⟨y,hy,e⟩
  have:y=x:=by
   first
   | (simp only [Function.comp,eqV,decide_eq_true_eq] at e;exact e)
   | (simp only [Function.comp,eqV,decide_eq_true_eq] at e;exact e.symm)
   | (simp [Function.comp,eqV] at e;omega)
  exact this ▸ hy
 ·intro h
  exact ⟨x,h,by simp [Function.comp,eqV]⟩
theorem flat_ints (xs:List Int):(xs.map V.int).all flatV=true:=by
 rw [List.all_map,List.all_eq_true]
 intro x _
 rfl
theorem PS.nox {X:Cx}{st:Stmt}{t:TS} (h:PS X.nox st t):PS X st t:=fun pins s σ H D I hw =>
 wpAny_mono (h pins s σ H D (I.wish _) hw) (fun _ _ q=>q.unwish) fun _ _ z=>False.elim z
end L2
set_option maxHeartbeats 400000
namespace SS
open PySem PySem.Spec PyProof.Rows
section
variable {prog:Program}{w:World}{A:Around}{E:Value→Shared→Prop}{s:Shared}
theorem sorted_at {h:Heap}{a:Addr}{vs:List Value}{out:Array Value}{n:Nat} (ho:h.get? a=some (seqObj "list" vs.toArray n)):(∃ e,(sortedHeap h a vs out).get? a=some (seqObj "list" out e))∧∀ b o,b≠a→h.get? b=some o→(sortedHeap h a vs out).get? b=some o:=by
 unfold sortedHeap
 have g1:=get?_update_seq ho (fun _=>#[])
 have g2:=Heap.get?_push_of_some (seqObj "list" #[] 0) (Heap.get?_push_of_some (seqObj "tuple" vs.toArray 0) g1)
 exact ⟨⟨_,get?_update_seq g2 (fun _=>out)⟩,fun b o hb e=>(Heap.get?_update_other _ _ (Ne.symm hb)).trans (Heap.get?_push_of_some _ (Heap.get?_push_of_some _ ((Heap.get?_update_other _ _ (Ne.symm hb)).trans e)))⟩
end
end SS
set_option maxHeartbeats 4000000
namespace L2
open PySem PySem.Spec PyProof.Rows
end L2
namespace SR
open PySem PyProof.Rows
structure SX (a₀:Array Keyed) (p:Array (Nat × Nat × Nat)) (st:SortSt):Prop where
 perm:(arrOf st).Perm a₀
 kind:kindOf st=oneType'
 failed:failedOf st=none
 pend:pendingOf st=p
def Fr (lo:Nat) (xs ys:Array Keyed):Prop:=∀ i,i<lo→xs[i]? = ys[i]?
def So (xs:Array Keyed) (lo hi:Nat):Prop:=∀ i j,lo≤i→i≤j→j<hi→K xs i≤K xs j
theorem Fr.refl (lo:Nat) (xs:Array Keyed):Fr lo xs xs:=fun _ _=>rfl
theorem Fr.trans {lo:Nat}{xs ys zs:Array Keyed} (h:Fr lo xs ys) (g:Fr lo ys zs):Fr lo xs zs:=fun i hi=>(h i hi).trans (g i hi)
theorem Fr.key {lo:Nat}{xs ys:Array Keyed} (h:Fr lo xs ys) {i:Nat} (hi:i<lo):K xs i=K ys i:=K_congr (h i hi)
variable {a₀:Array Keyed}{p:Array (Nat × Nat × Nat)}{st:SortSt}
theorem SX.size (h:SX a₀ p st):(arrOf st).size=a₀.size:=h.perm.size_eq
theorem SX.set (h:SX a₀ p st) {xs:Array Keyed} (hp:xs.Perm (arrOf st)):SX a₀ p (setArr st xs):=⟨hp.trans h.perm,h.kind,h.failed,h.pend⟩
theorem at_int {xs:Array Keyed} (h0:IntKeys xs) {i:Nat} (hi:i<xs.size):∃ t q,xs[i]? = some (.int (K xs i) t,q):=by
 have e:xs[i]? = some xs[i]:=getElem?_pos _ i hi
 obtain ⟨n,t,hn⟩:=h0 xs[i] (by simp)
 refine ⟨t,xs[i].2,?_⟩
 have e2:xs[i]=(.int n t,xs[i].2):=Prod.ext hn rfl
 unfold K
 rw [e,e2]
 rfl
theorem SX.ints (h:SX a₀ p st) (h0:IntKeys a₀):IntKeys (arrOf st):=fun q hq=>h0 q ((Array.perm_iff_toList_perm.mp h.perm).mem_iff.mp hq)
section
variable {prog:Program}{w:World}{A:Around}{E:Value→Shared→Prop}{s:Shared}
theorem ltX {i j:Nat}{Q:Option Bool→SortSt→Prop} (hB:SX a₀ p st) (h0:IntKeys a₀) (hi:i<a₀.size) (hj:j<a₀.size)
  (h:Q (some (decide (K (arrOf st) i<K (arrOf st) j))) st):wpS (model prog w) A E s (ltAt' i j) Q st:=by
 obtain ⟨t,p,e1⟩:=at_int (hB.ints h0) (show i<(arrOf st).size by rw [hB.size];exact hi)
 obtain ⟨u,q,e2⟩:=at_int (hB.ints h0) (show j<(arrOf st).size by rw [hB.size];exact hj)
 exact wpS_ltAt hB.kind e1 e2 h;skip
theorem insX {lo n ok:Nat}{Q:Bool→SortSt→Prop} (h0:IntKeys a₀) (hn:lo+n≤a₀.size) (hok:ok≤n) (hB:SX a₀ p st) (hs:So (arrOf st) lo (lo+ok))
  (h:∀ st',SX a₀ p st'→Fr lo (arrOf st') (arrOf st)→So (arrOf st') lo (lo+n)→Q true st'):wpS (model prog w) A E s (binarySort' lo n ok) Q st:=by
 rw [binarySort'_eq]
 refine wpS_bind (wpS_mono (wpS_forRange (I:=fun k c st'=>c=(none,())∧SX a₀ p st'∧Fr lo (arrOf st') (arrOf st)∧So (arrOf st') lo (lo+min k n))
  (Q:=fun c st'=>c=(none,())∧SX a₀ p st'∧Fr lo (arrOf st') (arrOf st)∧So (arrOf st') lo (lo+n)) ?hst ?hfi ?hin) ?hpo)
 case hpo =>
  rintro c st' ⟨rfl,hB',hf,hs'⟩
  exact wpS_pure (h st' hB' hf hs')
 case hin =>
  refine ⟨rfl,hB,Fr.refl _ _,fun i j hl hij hj=>?_⟩
  by_cases h1:ok=0
  ·have:i=j:=by omega
   rw [this];exact Int.le_refl _
  ·exact hs i j hl hij (by omega)
 case hfi =>
  rintro c st' ⟨hc,hB',hf,hs'⟩
  rw [show min (max (max ok 1) n) n=n by omega] at hs'
  exact ⟨hc,hB',hf,hs'⟩
 case hst =>
  rintro k c st' hak hkn ⟨rfl,hB',hf,hs'⟩
  rw [show min k n=k by omega] at hs'
  have hk:lo+k<a₀.size:=by omega
  refine wpS_bind (wpS_mono (wpS_forRange (I:=fun x c st2=>st2=st'∧∃ l r,c=(none,l,r)∧l≤r∧r≤k∧r - l≤k - x ∧
    (∀ i,i<l→K (arrOf st') (lo+i)≤K (arrOf st') (lo+k))∧(∀ i,r≤i→i<k→K (arrOf st') (lo+k)<K (arrOf st') (lo+i)))
   (Q:=fun c st2=>st2=st'∧∃ l r,c=(none,l,r)∧l≤k ∧
    (∀ i,i<l→K (arrOf st') (lo+i)≤K (arrOf st') (lo+k))∧(∀ i,l≤i→i<k→K (arrOf st') (lo+k)<K (arrOf st') (lo+i))) ?h1 ?h2 ?h3) ?h4)
  case h3=>exact ⟨rfl,0,k,rfl,by omega,by omega,by omega,fun i hi=>by omega,fun i h1 h2=>by omega⟩
  case h2 =>
   rintro c st2 ⟨rfl,l,r,rfl,hlr,hrk,hm,hlo,hhi⟩
   have:l=r:=by omega
   subst this
   exact ⟨rfl,l,l,rfl,hrk,hlo,hhi⟩
  case h1 =>
   rintro x c st2 _ hxk ⟨rfl,l,r,rfl,hlr,hrk,hm,hlo,hhi⟩
   dsimp only
   by_cases hge:l ≥ r
   ·rw [if_pos hge]
    have:l=r:=by omega
    subst this
    exact wpS_pure ⟨rfl,l,l,rfl,hrk,hlo,hhi⟩
   ·rw [if_neg hge]
    refine wpS_bind (ltX hB' h0 hk (by omega) ?_)
    by_cases hless:K (arrOf st2) (lo+k)<K (arrOf st2) (lo+(l+r) / 2)
    ·simp only [hless,decide_true,if_true]
     exact wpS_pure ⟨rfl,l,(l+r) / 2,rfl,by omega,by omega,by omega,hlo,fun i h1 h2=>Int.lt_of_lt_of_le hless (hs' _ _ (by omega) (by omega) (by omega))⟩
    ·simp only [hless,decide_false,Bool.false_eq_true,if_false]
     exact wpS_pure ⟨rfl,(l+r) / 2+1,r,rfl,by omega,by omega,by omega,fun i h1=>Int.le_trans (hs' (lo+i) (lo+(l+r) / 2) (by omega) (by omega) (by omega)) (Int.not_lt.mp hless),hhi⟩
  case h4 =>
   rintro c st2 ⟨rfl,l,r,rfl,hlk,hlo,hhi⟩
   show wpS _ _ _ _ (do moveDown' (lo+k) (lo+l);pure (ForInStep.yield (none,()))) _ _
   rw [moveDown'_eq]
   have hks:lo+k<(arrOf st2).size:=by rw [hB'.size];exact hk
   have ed:lo+k - (lo+l)=k - l:=by omega
   rw [ed]
   have hbu:∀ i,K (bubble (arrOf st2) (lo+k) (k - l)) i=if i=lo+l then K (arrOf st2) (lo+k) else if lo+l<i∧i≤lo+k then K (arrOf st2) (i - 1) else K (arrOf st2) i:=fun i=>by
    rw [K_bubble hks (by omega),show lo+k - (k - l)=lo+l by omega]
   refine wpS_bind (wpS_modify (wpS_pure ⟨rfl,hB'.set (bubble_perm _ _ _),fun i hi=>?_,?_⟩))
   ·rw [← hf i hi]
    show (bubble (arrOf st2) (lo+k) (k - l))[i]? = _
    rw [getElem?_bubble hks _ (by omega),if_neg (by omega),if_neg (by omega)]
   ·rw [show lo+min (k+1) n=lo+k+1 by omega]
    intro i j hl hij hj
    show K (bubble (arrOf st2) (lo+k) (k - l)) i≤K (bubble (arrOf st2) (lo+k) (k - l)) j
    have hlo':∀ i,lo≤i→i<lo+l→K (arrOf st2) i≤K (arrOf st2) (lo+k):=fun i h1 h2=>by
     have:=hlo (i - lo) (by omega)
     rwa [show lo+(i - lo)=i by omega] at this
    have hhi':∀ i,lo+l≤i→i<lo+k→K (arrOf st2) (lo+k)<K (arrOf st2) i:=fun i h1 h2=>by
     have:=hhi (i - lo) (by omega) (by omega)
     rwa [show lo+(i - lo)=i by omega] at this
    rw [hbu,hbu]
    repeat' split
    all_goals first
     | (exfalso;omega)
     | exact Int.le_refl _
     | exact hlo' _ (by omega) (by omega)
     | exact Int.le_of_lt (hhi' _ (by omega) (by omega))
     | exact hs' _ _ (by omega) (by omega) (by omega)
end
end SR
namespace SR
open PySem PyProof.Rows
def ascL (lo a nrem:Nat):StateT SortSt Sem (Option (Option Nat) × Nat) :=
 forIn [a:nrem] ((none,a):Option (Option Nat) × Nat) fun _ c=>do
  let y ← ltAt' (lo+c.snd) (lo+c.snd - 1)
  match y with
  | some b=>if b=true then pure (ForInStep.done (none,c.snd)) else pure (ForInStep.yield (none,c.snd+1))
  | _=>pure (ForInStep.done (some none,c.snd))
def endL (lo n nrem:Nat):StateT SortSt Sem (Option Nat):=do
 reverseSlice' lo (lo+n)
 let c ← ascL lo n nrem
 match c.fst with
 | some r=>pure r
 | none=>pure (some c.snd)
def dscL (lo n nrem:Nat):StateT SortSt Sem (Option (Option Nat) × Nat × Nat) :=
 forIn [n:nrem] ((none,n,0):Option (Option Nat) × Nat × Nat) fun _ c=>do
  let y ← ltAt' (lo+c.snd.fst) (lo+c.snd.fst - 1)
  match y with
  | some b =>
   if b=true then
    if c.snd.snd > 0 then do
     reverseSlice' (lo+c.snd.fst - (c.snd.snd+1)) (lo+c.snd.fst)
     pure (ForInStep.yield (none,c.snd.fst+1,0))
    else pure (ForInStep.yield (none,c.snd.fst+1,0))
   else do
    let y ← ltAt' (lo+c.snd.fst - 1) (lo+c.snd.fst)
    match y with
    | some b =>
     if b=true then pure (ForInStep.done (none,c.snd.fst,c.snd.snd))
     else pure (ForInStep.yield (none,c.snd.fst+1,c.snd.snd+1))
    | _=>pure (ForInStep.done (some none,c.snd.fst,c.snd.snd))
  | _=>pure (ForInStep.done (some none,c.snd.fst,c.snd.snd))
def dsc2 (lo n nrem:Nat):StateT SortSt Sem (Option Nat):=do
 liftM (rule "list.sort.descending-run");let c ← dscL lo (n+1) nrem
 match c.fst with
 | some r=>pure r
 | none =>
  if c.snd.snd > 0 then do
   reverseSlice' (lo+c.snd.fst - (c.snd.snd+1)) (lo+c.snd.fst)
   endL lo c.snd.fst nrem
  else endL lo c.snd.fst nrem
theorem runs_eq (lo nrem:Nat):countRun' lo nrem=(do
  let c ← ascL lo 1 nrem
  match c.fst with
  | some r=>pure r
  | none =>
   if (c.snd == nrem)=true then pure (some c.snd)
   else if c.snd > 1 then do
    let y ← ltAt' lo (lo+c.snd - 1)
    match y with
    | some b=>if b=true then pure (some c.snd) else do
      reverseSlice' lo (lo+c.snd)
      dsc2 lo c.snd nrem
    | _=>pure none
   else dsc2 lo c.snd nrem):=by
 rw [countRun'_eq]
 have key:∀ n:Nat,(do
   liftM (rule "list.sort.descending-run");let c ← dscL lo (n+1) nrem
   match c.fst with
   | some r=>pure r
   | none =>
    if c.snd.snd > 0 then do
     reverseSlice' (lo+c.snd.fst - (c.snd.snd+1)) (lo+c.snd.fst)
     reverseSlice' lo (lo+c.snd.fst)
     let d ← ascL lo c.snd.fst nrem
     match d.fst with | some r=>pure r | none=>pure (some d.snd)
    else do
     reverseSlice' lo (lo+c.snd.fst)
     let d ← ascL lo c.snd.fst nrem
     match d.fst with | some r=>pure r | none=>pure (some d.snd):StateT SortSt Sem (Option Nat))=dsc2 lo n nrem:=fun n=>rfl
 refine congrArg (bind (ascL lo 1 nrem)) (funext fun c=>?_)
 obtain ⟨r,n⟩:=c
 cases r with
 | some r=>rfl
 | none =>
  dsimp only
  split
  ·rfl
  ·split
   ·congr 1
    funext y
    cases y with
    | none=>rfl
    | some b =>
     dsimp only
     split
     ·rfl
     ·congr 1
      funext _
      rw [← key]
      congr 1;funext _;congr 1;funext c;obtain ⟨r,n,q⟩:=c
      cases r with
      | some r=>rfl
      | none =>
       dsimp only
       split
       ·congr 1;funext _;congr 1;funext _;congr 1;funext d;obtain ⟨r,n⟩:=d;cases r <;> rfl
       ·congr 1;funext _;congr 1;funext d;obtain ⟨r,n⟩:=d;cases r <;> rfl
   ·rw [← key]
    congr 1;funext _;congr 1;funext c;obtain ⟨r,n,q⟩:=c
    cases r with
    | some r=>rfl
    | none =>
     dsimp only
     split
     ·congr 1;funext _;congr 1;funext _;congr 1;funext d;obtain ⟨r,n⟩:=d;cases r <;> rfl
     ·congr 1;funext _;congr 1;funext d;obtain ⟨r,n⟩:=d;cases r <;> rfl
section
variable {prog:Program}{w:World}{A:Around}{E:Value→Shared→Prop}{s:Shared}{a₀:Array Keyed}{p:Array (Nat × Nat × Nat)}{st:SortSt}
def De (xs:Array Keyed) (lo hi:Nat):Prop:=∀ i j,lo≤i→i≤j→j<hi→K xs j≤K xs i
theorem mir_fr {xs:Array Keyed}{lo i j:Nat} (hj:j≤xs.size) (hi:lo≤i):Fr lo (mirror xs i j ((j - i) / 2)) xs:=fun k hk=>by
 rw [getElem?_mirror_all hj,if_neg (by omega)]
theorem mir_alike {xs:Array Keyed}{i j:Nat} (hj:j≤xs.size) (he:∀ k,i≤k→k<j→K xs k=K xs (j - 1)) (k:Nat):K (mirror xs i j ((j - i) / 2)) k=K xs k:=K_mirror_equal hj he k
theorem revX {i j:Nat}{Q:Unit→SortSt→Prop} (h:Q () (setArr st (mirror (arrOf st) i j ((j - i) / 2)))):wpS (model prog w) A E s (reverseSlice' i j) Q st:=wpS_reverse h
theorem ascX {lo a nrem:Nat}{Q:Option (Option Nat) × Nat→SortSt→Prop} (h0:IntKeys a₀) (hn:lo+nrem≤a₀.size) (ha:1≤a) (han:a≤nrem) (hB:SX a₀ p st) (hs:So (arrOf st) lo (lo+a))
  (h:∀ n,a≤n→n≤nrem→So (arrOf st) lo (lo+n)→(n=nrem∨K (arrOf st) (lo+n)<K (arrOf st) (lo+n - 1))→Q (none,n) st):wpS (model prog w) A E s (ascL lo a nrem) Q st:=by
 unfold ascL
 refine wpS_forRange (I:=fun x c st'=>st'=st∧c=(none,x)∧So (arrOf st) lo (lo+x)) ?h1 ?h2 ⟨rfl,rfl,hs⟩
 case h2 =>
  rintro c st' ⟨rfl,rfl,hs'⟩
  rw [show max a nrem=nrem by omega] at hs' ⊢
  exact h nrem han (Nat.le_refl _) hs' (.inl rfl);skip
 case h1 =>
  rintro x c st' hax hxn ⟨rfl,rfl,hs'⟩
  dsimp only
  refine wpS_bind (ltX hB h0 (by omega) (by omega) ?_)
  by_cases hl:K (arrOf st') (lo+x)<K (arrOf st') (lo+x - 1)
  ·simp only [hl,decide_true,if_true]
   exact wpS_pure (h x hax (by omega) hs' (.inr hl))
  ·simp only [hl,decide_false,Bool.false_eq_true,if_false]
   refine wpS_pure ⟨rfl,rfl,fun i j hli hij hj=>?_⟩
   by_cases hjx:j<lo+x
   ·exact hs' i j hli hij hjx
   ·by_cases hi':i=j
    ·rw [hi'];exact Int.le_refl _
    ·have hj':j=lo+x:=by omega
     subst hj'
     exact Int.le_trans (hs' i (lo+x - 1) hli (by omega) (by omega)) (Int.not_lt.mp hl)
theorem endX {lo n nrem:Nat}{Q:Option Nat→SortSt→Prop} (h0:IntKeys a₀) (hn:lo+nrem≤a₀.size) (h1:1≤n) (hnn:n≤nrem) (hB:SX a₀ p st) (hs:De (arrOf st) lo (lo+n))
  (h:∀ m st',SX a₀ p st'→Fr lo (arrOf st') (arrOf st)→1≤m→m≤nrem→So (arrOf st') lo (lo+m)→Q (some m) st'):wpS (model prog w) A E s (endL lo n nrem) Q st:=by
 unfold endL
 have hsz:lo+n≤(arrOf st).size:=by rw [hB.size];omega
 refine wpS_bind (revX ?_)
 have hB':=hB.set (mirror_perm (arrOf st) lo (lo+n) ((lo+n - lo) / 2))
 refine wpS_bind (ascX h0 hn h1 hnn hB' ?_ fun m hm1 hm2 hsm _=>wpS_pure (h m _ hB' (mir_fr hsz (Nat.le_refl _)) (by omega) hm2 hsm))
 intro i j hl hij hj
 show K (mirror (arrOf st) lo (lo+n) ((lo+n - lo) / 2)) i≤K (mirror (arrOf st) lo (lo+n) ((lo+n - lo) / 2)) j
 rw [K_mirror hsz,K_mirror hsz,if_pos (by omega),if_pos (by omega)]
 exact hs _ _ (by omega) (by omega) (by omega)
theorem dscX {lo n nrem:Nat}{Q:Option (Option Nat) × Nat × Nat→SortSt→Prop} (h0:IntKeys a₀) (hn:lo+nrem≤a₀.size) (h1:1≤n) (hnn:n≤nrem) (hB:SX a₀ p st) (hs:De (arrOf st) lo (lo+n))
  (h:∀ m q st',SX a₀ p st'→Fr lo (arrOf st') (arrOf st)→n≤m→m≤nrem→De (arrOf st') lo (lo+m)→q+1≤m→(∀ i,lo+m - (q+1)≤i→i<lo+m→K (arrOf st') i=K (arrOf st') (lo+m - 1))→Q (none,m,q) st') :
  wpS (model prog w) A E s (dscL lo n nrem) Q st:=by
 unfold dscL
 refine wpS_forRange (I:=fun x c st'=>∃ q,c=(none,x,q)∧SX a₀ p st'∧Fr lo (arrOf st') (arrOf st)∧De (arrOf st') lo (lo+x)∧q+1≤x ∧
   (∀ i,lo+x - (q+1)≤i→i<lo+x→K (arrOf st') i=K (arrOf st') (lo+x - 1))) ?h1 ?h2 ⟨0,rfl,hB,Fr.refl _ _,hs,by omega,fun i h1 h2=>by congr 1;omega⟩
 case h2 =>
  rintro c st' ⟨q,rfl,hB',hf,hs',hq,he⟩
  rw [show max n nrem=nrem by omega] at hs' hq he ⊢
  exact h nrem q st' hB' hf hnn (Nat.le_refl _) hs' hq he
 case h1 =>
  rintro x c st' hax hxn ⟨q,rfl,hB',hf,hs',hq,he⟩
  dsimp only
  have hsz:lo+x≤(arrOf st').size:=by rw [hB'.size];omega
  refine wpS_bind (ltX hB' h0 (by omega) (by omega) ?_)
  by_cases hl:K (arrOf st') (lo+x)<K (arrOf st') (lo+x - 1)
  ·simp only [hl,decide_true,if_true]
   have st1:∀ xs:Array Keyed,(∀ k,K xs k=K (arrOf st') k)→De xs lo (lo+(x+1)):=by
    intro xs hk i j hli hij hj
    rw [hk,hk]
    by_cases hjx:j<lo+x
    ·exact hs' i j hli hij hjx
    ·by_cases hi':i=j
     ·rw [hi'];exact Int.le_refl _
     ·have hj':j=lo+x:=by omega
      subst hj'
      exact Int.le_trans (Int.le_of_lt hl) (hs' i (lo+x - 1) hli (by omega) (by omega))
   by_cases hneq:q > 0
   ·rw [if_pos hneq]
    exact wpS_bind (revX (wpS_pure ⟨0,rfl,hB'.set (mirror_perm _ _ _ _),(mir_fr hsz (by omega)).trans hf,st1 _ (mir_alike hsz he),by omega,fun i h1 h2=>by congr 1;omega⟩))
   ·rw [if_neg hneq]
    exact wpS_pure ⟨0,rfl,hB',hf,st1 _ (fun _=>rfl),by omega,fun i h1 h2=>by congr 1;omega⟩
  ·simp only [hl,decide_false,Bool.false_eq_true,if_false]
   refine wpS_bind (ltX hB' h0 (by omega) (by omega) ?_)
   by_cases hg:K (arrOf st') (lo+x - 1)<K (arrOf st') (lo+x)
   ·simp only [hg,decide_true,if_true]
    exact wpS_pure (h x q st' hB' hf hax (by omega) hs' hq he)
   ·simp only [hg,decide_false,Bool.false_eq_true,if_false]
    have ex:K (arrOf st') (lo+x)=K (arrOf st') (lo+x - 1):=by omega
    refine wpS_pure ⟨q+1,rfl,hB',hf,fun i j hli hij hj=>?_,by omega,fun i h1 h2=>?_⟩
    ·by_cases hjx:j<lo+x
     ·exact hs' i j hli hij hjx
     ·by_cases hi':i=j
      ·rw [hi'];exact Int.le_refl _
      ·have hj':j=lo+x:=by omega
       subst hj'
       rw [ex];exact hs' i (lo+x - 1) hli (by omega) (by omega)
    ·rw [show lo+(x+1) - 1=lo+x by omega]
     by_cases hix:i=lo+x
     ·rw [hix]
     ·rw [ex];exact he i (by omega) (by omega)
theorem dsc2X {lo n nrem:Nat}{Q:Option Nat→SortSt→Prop} (h0:IntKeys a₀) (hn:lo+nrem≤a₀.size) (hnn:n+1≤nrem) (hB:SX a₀ p st) (hs:De (arrOf st) lo (lo+(n+1)))
  (h:∀ m st',SX a₀ p st'→Fr lo (arrOf st') (arrOf st)→1≤m→m≤nrem→So (arrOf st') lo (lo+m)→Q (some m) st'):wpS (model prog w) A E s (dsc2 lo n nrem) Q st:=by
 unfold dsc2
 refine wpS_bind (wpS_lift (wpAny_rule ⟨rfl,?_⟩))
 refine wpS_bind (dscX h0 hn (by omega) hnn hB hs fun m q st' hB' hf hm1 hm2 hs' hq he=>?_)
 dsimp only
 have hsz:lo+m≤(arrOf st').size:=by rw [hB'.size];omega
 by_cases hneq:q > 0
 ·rw [if_pos hneq]
  refine wpS_bind (revX (endX h0 hn (by omega) hm2 (hB'.set (mirror_perm _ _ _ _)) ?_ fun m2 st2 b f=>h m2 st2 b (f.trans ((mir_fr hsz (by omega)).trans hf))))
  intro i j hli hij hj
  show K (mirror (arrOf st') _ _ _) j≤K (mirror (arrOf st') _ _ _) i
  rw [mir_alike hsz he,mir_alike hsz he]
  exact hs' i j hli hij hj
 ·rw [if_neg hneq]
  exact endX h0 hn (by omega) hm2 hB' hs' fun m2 st2 b f=>h m2 st2 b (f.trans hf)
theorem runX {lo nrem:Nat}{Q:Option Nat→SortSt→Prop} (h0:IntKeys a₀) (hn:lo+nrem≤a₀.size) (h1:1≤nrem) (hB:SX a₀ p st)
  (h:∀ m st',SX a₀ p st'→Fr lo (arrOf st') (arrOf st)→1≤m→m≤nrem→So (arrOf st') lo (lo+m)→Q (some m) st'):wpS (model prog w) A E s (countRun' lo nrem) Q st:=by
 rw [runs_eq]
 refine wpS_bind (ascX h0 hn (Nat.le_refl 1) h1 hB (fun i j hl hij hj=>by rw [show i=j by omega];exact Int.le_refl _) fun n hn1 hn2 hsn hor=>?_)
 dsimp only
 by_cases hnn:n=nrem
 ·rw [if_pos (by simpa using hnn)]
  exact wpS_pure (h n st hB (Fr.refl _ _) hn1 hn2 hsn)
 ·rw [if_neg (by simpa using hnn)]
  have hlt:K (arrOf st) (lo+n)<K (arrOf st) (lo+n - 1):=hor.resolve_left hnn
  by_cases hgt:n > 1
  ·rw [if_pos hgt]
   refine wpS_bind (ltX hB h0 (by omega) (by omega) ?_)
   by_cases hr:K (arrOf st) lo<K (arrOf st) (lo+n - 1)
   ·simp only [hr,decide_true,if_true]
    exact wpS_pure (h n st hB (Fr.refl _ _) hn1 hn2 hsn)
   ·simp only [hr,decide_false,Bool.false_eq_true,if_false]
    have hsz:lo+n≤(arrOf st).size:=by rw [hB.size];omega
    have hall:∀ k,lo≤k→k<lo+n→K (arrOf st) k=K (arrOf st) (lo+n - 1):=by
     intro k hk1 hk
     have a1:=hsn lo k (Nat.le_refl _) hk1 hk
     have a2:=hsn k (lo+n - 1) hk1 (by omega) (by omega)
     omega
    refine wpS_bind (revX (dsc2X h0 hn (by omega) (hB.set (mirror_perm _ _ _ _)) ?_ fun m2 st2 b f=>h m2 st2 b (f.trans (mir_fr hsz (Nat.le_refl _)))))
    intro i j hli hij hj
    show K (mirror (arrOf st) _ _ _) j≤K (mirror (arrOf st) _ _ _) i
    rw [mir_alike hsz hall,mir_alike hsz hall]
    by_cases hjn:j<lo+n
    ·rw [hall i hli (by omega),hall j (by omega) hjn];exact Int.le_refl _
    ·by_cases hi':i=j
     ·rw [hi'];exact Int.le_refl _
     ·have hj':j=lo+n:=by omega
      subst hj'
      rw [hall i hli (by omega)];exact Int.le_of_lt hlt
  ·rw [if_neg hgt]
   have hn1':n=1:=by omega
   subst hn1'
   refine dsc2X h0 hn (by omega) hB ?_ h
   intro i j hli hij hj
   by_cases hi':i=j
   ·rw [hi'];exact Int.le_refl _
   ·have hj1:j=lo+1:=by omega
    have hi0:i=lo+1 - 1:=by omega
    subst hj1
    rw [hi0]
    exact Int.le_of_lt hlt
end
end SR
namespace SR
open PySem PyProof.Rows
def gallop':Bool→Keyed→Array Keyed→Nat→Nat→Nat→StateT SortSt Sem (Option Nat):=sortPriv% PySem.Builtin.gallop
def bey (left:Bool) (key:Keyed) (arr:Array Keyed) (base i:Nat):StateT SortSt Sem (Option Bool):=do
 let x ← elem' arr (base+i)
 if left then lt' x key else return (← lt' key x).map (!·)
theorem gal_eq (left:Bool) (key:Keyed) (arr:Array Keyed) (base n hint:Nat):gallop' left key arr base n hint=(do
 let mut last:=0
 let mut ofs:=1
 let mut lo:=0
 let mut hi:=0
 let some right ← bey left key arr base hint | return none
 if right then
  let most:=n - hint
  for _ in [0:n] do
   if ofs ≥ most then break
   let some more ← bey left key arr base (hint+ofs) | return none
   if !more then break
   last:=ofs
   ofs:=2 * ofs+1
  lo:=hint+last+1
  hi:=hint+min ofs most
 else
  let most:=hint+1
  for _ in [0:n] do
   if ofs ≥ most then break
   let some found ← bey left key arr base (hint - ofs) | return none
   if found then break
   last:=ofs
   ofs:=2 * ofs+1
  lo:=hint+1 - min ofs most
  hi:=hint - last
 for _ in [0:n] do
  if lo ≥ hi then break
  let m:=lo+(hi - lo) / 2
  let some more ← bey left key arr base m | return none
  if more then lo:=m+1 else hi:=m
 return some hi):=rfl
section
variable {prog:Program}{w:World}{A:Around}{E:Value→Shared→Prop}{s:Shared}{st:SortSt}
theorem lt2 {a b:Int}{t u:Tok}{q r:Value}{Q:Option Bool→SortSt→Prop} (hk:kindOf st=oneType') (h:Q (some (decide (a<b))) st):wpS (model prog w) A E s (lt' (.int a t,q) (.int b u,r)) Q st:=by
 rw [lt'_eq]
 refine wpS_bind (wpS_get ?_)
 rw [hk,keyLt'_oneType]
 exact wpS_bind (wpS_lift (wpAny_attempt (oneLt_int ⟨rfl,wpS_pure h⟩)))
theorem elemX {arr:Array Keyed}{i:Nat}{x:Keyed}{Q:Keyed→SortSt→Prop} (e:arr[i]? = some x) (h:Q x st):wpS (model prog w) A E s (elem' arr i) Q st:=by
 rw [elem'_eq,e]
 exact wpS_pure h
def By (left:Bool) (k:Int) (arr:Array Keyed) (base i:Nat):Prop:=if left then K arr (base+i)<k else K arr (base+i)≤k
instance (left:Bool) (k:Int) (arr:Array Keyed) (base i:Nat):Decidable (By left k arr base i):=by unfold By;infer_instance
theorem beyX {left:Bool}{k:Int}{t:Tok}{q:Value}{arr:Array Keyed}{base i:Nat}{Q:Option Bool→SortSt→Prop} (hk:kindOf st=oneType') (h0:IntKeys arr) (hi:base+i<arr.size) (h:Q (some (decide (By left k arr base i))) st) :
  wpS (model prog w) A E s (bey left (.int k t,q) arr base i) Q st:=by
 obtain ⟨u,r,e⟩:=at_int h0 hi
 unfold bey
 refine wpS_bind (elemX e ?_)
 unfold By at h
 cases left with
 | true=>exact lt2 hk h
 | false =>
  refine wpS_bind (lt2 hk (wpS_pure ?_))
  have e2:(some (decide (k<K arr (base+i)))).map (!·)=some (decide (K arr (base+i)≤k)):=by
   show some (!decide (k<K arr (base+i)))=some (decide (K arr (base+i)≤k))
   rw [← decide_not]
   congr 1
   rw [decide_eq_decide]
   omega
  rw [e2]
  exact h
theorem By.mono {left:Bool}{k:Int}{arr:Array Keyed}{base n i j:Nat} (hs:So arr base (base+n)) (hij:i≤j) (hj:j<n) (h:By left k arr base j):By left k arr base i:=by
 have:=hs (base+i) (base+j) (by omega) (by omega) (by omega)
 unfold By at h ⊢
 cases left <;> simp only [if_true,if_false,Bool.false_eq_true] at h ⊢ <;> omega
theorem galX {left:Bool}{k:Int}{t:Tok}{q:Value}{arr:Array Keyed}{base n hint:Nat}{Q:Option Nat→SortSt→Prop} (hk:kindOf st=oneType') (h0:IntKeys arr) (hn:base+n≤arr.size) (hh:hint<n) (hs:So arr base (base+n))
  (h:∀ m,m≤n→(∀ i,i<m→By left k arr base i)→(∀ i,m≤i→i<n→¬ By left k arr base i)→Q (some m) st):wpS (model prog w) A E s (gallop' left (.int k t,q) arr base n hint) Q st:=by
 rw [gal_eq]
 refine wpS_bind (beyX hk h0 (by omega) ?_)
 dsimp only
 by_cases hB:By left k arr base hint
 ·rw [if_pos (decide_eq_true hB)]
  refine wpS_bind (wpS_mono (wpS_forRange (I:=fun x c st'=>st'=st∧∃ l o,c=(none,l,o)∧x<o∧l<o∧hint+l<n∧By left k arr base (hint+l))
   (Q:=fun c st'=>st'=st∧∃ l o,c=(none,l,o)∧l<o∧hint+l<n∧By left k arr base (hint+l)∧(o ≥ n - hint∨(hint+o<n∧¬ By left k arr base (hint+o)))) ?g1 ?g2 ⟨rfl,0,1,rfl,by omega,by omega,hh,hB⟩) ?g3)
  case g2 =>
   rintro c st' ⟨rfl,l,o,rfl,h1,h2,h3,h4⟩
   exact ⟨rfl,l,o,rfl,h2,h3,h4,.inl (by omega)⟩
  case g1 =>
   rintro x c st' _ hx ⟨rfl,l,o,rfl,h1,h2,h3,h4⟩
   dsimp only
   by_cases hge:o ≥ n - hint
   ·rw [if_pos hge]
    exact wpS_pure ⟨rfl,l,o,rfl,h2,h3,h4,.inl hge⟩
   ·rw [if_neg hge]
    refine wpS_bind (beyX hk h0 (by omega) ?_)
    dsimp only
    by_cases hb:By left k arr base (hint+o)
    ·rw [if_neg (by simpa using hb)]
     exact wpS_pure ⟨rfl,o,2 * o+1,rfl,by omega,by omega,by omega,hb⟩
    ·rw [if_pos (by simpa using hb)]
     exact wpS_pure ⟨rfl,l,o,rfl,h2,h3,h4,.inr ⟨by omega,hb⟩⟩
  case g3 =>
   rintro c st' ⟨rfl,l,o,rfl,h2,h3,h4,h5⟩
   dsimp only
   have hA:∀ i,i<hint+l+1→By left k arr base i:=fun i hi=>h4.mono hs (by omega) h3
   have hZ:∀ i,hint+min o (n - hint)≤i→i<n→¬ By left k arr base i:=fun i h6 h7 hc=>by
    rcases h5 with z | ⟨z,nb⟩
    ·omega
    ·exact nb (hc.mono hs (by omega) h7)
   have hlh:hint+l+1≤hint+min o (n - hint):=by omega
   have hhn:hint+min o (n - hint)≤n:=by omega
   generalize hint+l+1=lo0 at *
   generalize hint+min o (n - hint)=hi0 at *
   refine wpS_bind (wpS_mono (wpS_forRange (I:=fun x c st2=>st2=st'∧∃ lo hi,c=(none,lo,hi)∧lo≤hi∧hi≤n∧hi - lo≤n - x∧(∀ i,i<lo→By left k arr base i)∧(∀ i,hi≤i→i<n→¬ By left k arr base i))
    (Q:=fun c st2=>st2=st'∧∃ lo hi,c=(none,lo,hi)∧hi≤n∧(∀ i,i<hi→By left k arr base i)∧(∀ i,hi≤i→i<n→¬ By left k arr base i)) ?b1 ?b2 ⟨rfl,_,_,rfl,by omega,by omega,by omega,hA,hZ⟩) ?b3)
   case b2 =>
    rintro c st2 ⟨rfl,lo,hi,rfl,hlh,hhn,hd,hA,hZ⟩
    have:lo=hi:=by omega
    subst this
    exact ⟨rfl,lo,lo,rfl,hhn,hA,hZ⟩
   case b3 =>
    rintro c st2 ⟨rfl,lo,hi,rfl,hhn,hA,hZ⟩
    exact wpS_pure (h hi hhn hA hZ)
   case b1 =>
    rintro x c st2 _ hx ⟨rfl,lo,hi,rfl,hlh,hhn,hd,hA,hZ⟩
    dsimp only
    by_cases hge:lo ≥ hi
    ·rw [if_pos hge]
     have:lo=hi:=by omega
     subst this
     exact wpS_pure ⟨rfl,lo,lo,rfl,hhn,hA,hZ⟩
    ·rw [if_neg hge]
     refine wpS_bind (beyX hk h0 (by omega) ?_)
     dsimp only
     by_cases hb:By left k arr base (lo+(hi - lo) / 2)
     ·rw [if_pos (decide_eq_true hb)]
      exact wpS_pure ⟨rfl,lo+(hi - lo) / 2+1,hi,rfl,by omega,hhn,by omega,fun i hi'=>hb.mono hs (by omega) (by omega),hZ⟩
     ·rw [if_neg (by simpa using hb)]
      exact wpS_pure ⟨rfl,lo,lo+(hi - lo) / 2,rfl,by omega,by omega,by omega,hA,fun i h1 h2 hc=>hb (hc.mono hs h1 h2)⟩
 ·rw [if_neg (by simpa using hB)]
  refine wpS_bind (wpS_mono (wpS_forRange (I:=fun x c st'=>st'=st∧∃ l o,c=(none,l,o)∧x<o∧l<o∧l≤hint∧¬ By left k arr base (hint - l))
   (Q:=fun c st'=>st'=st∧∃ l o,c=(none,l,o)∧l<o∧l≤hint∧¬ By left k arr base (hint - l)∧(o ≥ hint+1∨(o≤hint∧By left k arr base (hint - o)))) ?k1 ?k2 ⟨rfl,0,1,rfl,by omega,by omega,by omega,hB⟩) ?k3)
  case k2 =>
   rintro c st' ⟨rfl,l,o,rfl,h1,h2,h3,h4⟩
   exact ⟨rfl,l,o,rfl,h2,h3,h4,.inl (by omega)⟩
  case k1 =>
   rintro x c st' _ hx ⟨rfl,l,o,rfl,h1,h2,h3,h4⟩
   dsimp only
   by_cases hge:o ≥ hint+1
   ·rw [if_pos hge]
    exact wpS_pure ⟨rfl,l,o,rfl,h2,h3,h4,.inl hge⟩
   ·rw [if_neg hge]
    refine wpS_bind (beyX hk h0 (by omega) ?_)
    dsimp only
    by_cases hb:By left k arr base (hint - o)
    ·rw [if_pos (decide_eq_true hb)]
     exact wpS_pure ⟨rfl,l,o,rfl,h2,h3,h4,.inr ⟨by omega,hb⟩⟩
    ·rw [if_neg (by simpa using hb)]
     exact wpS_pure ⟨rfl,o,2 * o+1,rfl,by omega,by omega,by omega,hb⟩
  case k3 =>
   rintro c st' ⟨rfl,l,o,rfl,h2,h3,h4,h5⟩
   dsimp only
   have hA:∀ i,i<hint+1 - min o (hint+1)→By left k arr base i:=fun i hi=>by
    rcases h5 with z | ⟨z,nb⟩
    ·omega
    ·exact nb.mono hs (by omega) (by omega)
   have hZ:∀ i,hint - l≤i→i<n→¬ By left k arr base i:=fun i h6 h7 hc=>h4 (hc.mono hs h6 h7)
   have hlh:hint+1 - min o (hint+1)≤hint - l:=by omega
   have hhn:hint - l≤n:=by omega
   generalize hint+1 - min o (hint+1)=lo0 at *
   generalize hint - l=hi0 at *
   refine wpS_bind (wpS_mono (wpS_forRange (I:=fun x c st2=>st2=st'∧∃ lo hi,c=(none,lo,hi)∧lo≤hi∧hi≤n∧hi - lo≤n - x∧(∀ i,i<lo→By left k arr base i)∧(∀ i,hi≤i→i<n→¬ By left k arr base i))
    (Q:=fun c st2=>st2=st'∧∃ lo hi,c=(none,lo,hi)∧hi≤n∧(∀ i,i<hi→By left k arr base i)∧(∀ i,hi≤i→i<n→¬ By left k arr base i)) ?b1 ?b2 ⟨rfl,_,_,rfl,by omega,by omega,by omega,hA,hZ⟩) ?b3)
   case b2 =>
    rintro c st2 ⟨rfl,lo,hi,rfl,hlh,hhn,hd,hA,hZ⟩
    have:lo=hi:=by omega
    subst this
    exact ⟨rfl,lo,lo,rfl,hhn,hA,hZ⟩
   case b3 =>
    rintro c st2 ⟨rfl,lo,hi,rfl,hhn,hA,hZ⟩
    exact wpS_pure (h hi hhn hA hZ)
   case b1 =>
    rintro x c st2 _ hx ⟨rfl,lo,hi,rfl,hlh,hhn,hd,hA,hZ⟩
    dsimp only
    by_cases hge:lo ≥ hi
    ·rw [if_pos hge]
     have:lo=hi:=by omega
     subst this
     exact wpS_pure ⟨rfl,lo,lo,rfl,hhn,hA,hZ⟩
    ·rw [if_neg hge]
     refine wpS_bind (beyX hk h0 (by omega) ?_)
     dsimp only
     by_cases hb:By left k arr base (lo+(hi - lo) / 2)
     ·rw [if_pos (decide_eq_true hb)]
      exact wpS_pure ⟨rfl,lo+(hi - lo) / 2+1,hi,rfl,by omega,hhn,by omega,fun i hi'=>hb.mono hs (by omega) (by omega),hZ⟩
     ·rw [if_neg (by simpa using hb)]
      exact wpS_pure ⟨rfl,lo,lo+(hi - lo) / 2,rfl,by omega,by omega,by omega,hA,fun i h1 h2 hc=>hb (hc.mono hs h1 h2)⟩
end
end SR
namespace SR
open PySem PyProof.Rows
def ky (p:Keyed):Int:=numOf p.1
def Srt (xs:List Keyed):Prop:=xs.Pairwise fun x y=>ky x≤ky y
structure Mg (A B out:List Keyed) (ia ib:Nat):Prop where
 perm:out.Perm (A.take ia ++ B.take ib)
 srt:Srt out
 low:∀ x∈out,∀ y,y∈A.drop ia∨y∈B.drop ib→ky x≤ky y
theorem Srt.append {xs ys:List Keyed} (hx:Srt xs) (hy:Srt ys) (h:∀ x∈xs,∀ y∈ys,ky x≤ky y):Srt (xs ++ ys):=List.pairwise_append.mpr ⟨hx,hy,h⟩
theorem Srt.drop {xs:List Keyed} (h:Srt xs) (n:Nat):Srt (xs.drop n):=h.sublist (List.drop_sublist _ _)
theorem Srt.take {xs:List Keyed} (h:Srt xs) (n:Nat):Srt (xs.take n):=h.sublist (List.take_sublist _ _)
theorem Srt.cut {xs:List Keyed} (h:Srt xs) (n:Nat):∀ x∈xs.take n,∀ y∈xs.drop n,ky x≤ky y:=by
 have:=h
 rw [← List.take_append_drop n xs] at this
 exact (List.pairwise_append.mp this).2.2
theorem Mg.swap {A B out:List Keyed}{ia ib:Nat} (h:Mg A B out ia ib):Mg B A out ib ia:=⟨h.perm.trans List.perm_append_comm,h.srt,fun x hx y hy=>h.low x hx y hy.symm⟩
theorem Mg.runA {A B out:List Keyed}{ia ib k:Nat} (h:Mg A B out ia ib) (hA:Srt A) (hk:∀ x∈(A.drop ia).take k,∀ y∈B.drop ib,ky x≤ky y):Mg A B (out ++ (A.drop ia).take k) (ia+k) ib:=by
 refine ⟨?_,h.srt.append ((hA.drop ia).take k) fun x hx y hy=>h.low x hx y (.inl (List.mem_of_mem_take hy)),fun x hx y hy=>?_⟩
 ·rw [List.take_add]
  refine (h.perm.append_right _).trans ?_
  rw [List.append_assoc,List.append_assoc]
  exact List.Perm.append_left _ List.perm_append_comm
 ·rw [← List.drop_drop] at hy
  rcases List.mem_append.mp hx with z | z
  ·exact h.low x z y (hy.imp (fun g=>List.mem_of_mem_drop g) id)
  ·rcases hy with g | g
   ·exact (hA.drop ia).cut k x z y g
   ·exact hk x z y g
theorem Mg.runB {A B out:List Keyed}{ia ib k:Nat} (h:Mg A B out ia ib) (hB:Srt B) (hk:∀ x∈(B.drop ib).take k,∀ y∈A.drop ia,ky x≤ky y):Mg A B (out ++ (B.drop ib).take k) ia (ib+k):=(h.swap.runA hB hk).swap
theorem Mg.oneA {A B out:List Keyed}{ia ib:Nat}{x:Keyed} (h:Mg A B out ia ib) (hA:Srt A) (hx:A[ia]? = some x) (hk:∀ y∈B.drop ib,ky x≤ky y):Mg A B (out ++ [x]) (ia+1) ib:=by
 have e:(A.drop ia).take 1=[x]:=by
  obtain ⟨hi,he⟩:=List.getElem?_eq_some_iff.mp hx
  rw [List.drop_eq_getElem_cons hi,he]
  rfl
 rw [← e]
 exact h.runA hA fun z hz=>by
  rw [e,List.mem_singleton] at hz
  rw [hz]
  exact hk
theorem Mg.oneB {A B out:List Keyed}{ia ib:Nat}{x:Keyed} (h:Mg A B out ia ib) (hB:Srt B) (hx:B[ib]? = some x) (hk:∀ y∈A.drop ia,ky x≤ky y):Mg A B (out ++ [x]) ia (ib+1):=(h.swap.oneA hB hx hk).swap
theorem Mg.done {A B out:List Keyed}{ia ib:Nat} (h:Mg A B out ia ib) (hA:Srt A) (hB:Srt B) (he:A.length≤ia∨B.length≤ib):Srt (out ++ A.drop ia ++ B.drop ib)∧(out ++ A.drop ia ++ B.drop ib).Perm (A ++ B):=by
 constructor
 ·refine ((h.srt.append (hA.drop ia) fun x hx y hy=>h.low x hx y (.inl hy)).append (hB.drop ib) fun x hx y hy=>?_)
  rcases List.mem_append.mp hx with z | z
  ·exact h.low x z y (.inr hy)
  ·rcases he with g | g
   ·rw [List.drop_of_length_le g] at z;simp at z
   ·rw [List.drop_of_length_le g] at hy;simp at hy
 ·have e:(A ++ B).Perm ((A.take ia ++ B.take ib) ++ (A.drop ia ++ B.drop ib)):=by
   conv=>lhs;rw [← List.take_append_drop ia A,← List.take_append_drop ib B]
   simp only [List.append_assoc]
   refine List.Perm.append_left _ ?_
   rw [← List.append_assoc,← List.append_assoc]
   exact List.Perm.append_right _ List.perm_append_comm;skip
  rw [List.append_assoc]
  exact (h.perm.append_right _).trans e.symm
theorem Mg.last {A B out:List Keyed}{ia ib:Nat} (h:Mg A B out ia ib) (hA:Srt A) (hB:Srt B) (hl:∀ x∈B.drop ib,∀ y∈A.drop ia,ky x≤ky y):Srt (out ++ B.drop ib ++ A.drop ia)∧(out ++ B.drop ib ++ A.drop ia).Perm (A ++ B):=by
 constructor
 ·refine ((h.srt.append (hB.drop ib) fun x hx y hy=>h.low x hx y (.inr hy)).append (hA.drop ia) fun x hx y hy=>?_)
  rcases List.mem_append.mp hx with z | z
  ·exact h.low x z y (.inl hy)
  ·exact hl x z y hy
 ·have e:(A ++ B).Perm ((A.take ia ++ B.take ib) ++ (A.drop ia ++ B.drop ib)):=by
   conv=>lhs;rw [← List.take_append_drop ia A,← List.take_append_drop ib B]
   simp only [List.append_assoc]
   refine List.Perm.append_left _ ?_
   rw [← List.append_assoc,← List.append_assoc]
   exact List.Perm.append_right _ List.perm_append_comm;skip
  rw [List.append_assoc]
  exact ((h.perm.append_right _).trans (List.Perm.append_left _ List.perm_append_comm)).trans e.symm
def mergeLo':Array Keyed→Array Keyed→StateT SortSt Sem (Array Keyed):=sortPriv% PySem.Builtin.mergeLo
def setG':Nat→StateT SortSt Sem Unit:=sortPriv% PySem.Builtin.setMinGallop
theorem setG_eq (g:Nat):setG' g=modify fun s=>SortSt.mk' (kindOf s) (arrOf s) (pendingOf s) g (failedOf s):=rfl
theorem low_eq (a b:Array Keyed):mergeLo' a b=(do
 rule "list.sort.merge-lo"
 let t:=a.size+b.size
 let dn (o:Array Keyed) (i j:Nat):=o ++ a.extract i a.size ++ b.extract j b.size
 let la (o:Array Keyed) (i j:Nat):=o ++ b.extract j b.size ++ a.extract i a.size
 let mut o:Array Keyed:=#[← elem' b 0]
 let mut i:=0
 let mut j:=1
 if j == b.size then return dn o i j
 if i+1 == a.size then return la o i j
 let mut g:=gallopOf (← get)
 for _ in [0:t] do
  let mut ca:=0
  let mut cb:=0
  for _ in [0:t] do
   let some bw ← lt' (← elem' b j) (← elem' a i) | return dn o i j
   if bw then
    o:=o.push (← elem' b j);j:=j+1;cb:=cb+1;ca:=0
    if j == b.size then return dn o i j
    if cb ≥ g then break
   else
    o:=o.push (← elem' a i);i:=i+1;ca:=ca+1;cb:=0
    if i+1 == a.size then return la o i j
    if ca ≥ g then break
  rule "list.sort.gallop"
  g:=g+1
  for _ in [0:t] do
   if g > 1 then g:=g - 1
   setG' g
   let some k ← gallop' false (← elem' b j) a i (a.size - i) 0 | return dn o i j
   ca:=k
   if k > 0 then
    o:=o ++ a.extract i (i+k);i:=i+k
    if i+1 == a.size then return la o i j
    if i == a.size then return dn o i j
   o:=o.push (← elem' b j);j:=j+1
   if j == b.size then return dn o i j
   let some k ← gallop' true (← elem' a i) b j (b.size - j) 0 | return dn o i j
   cb:=k
   if k > 0 then
    o:=o ++ b.extract j (j+k);j:=j+k
    if j == b.size then return dn o i j
   o:=o.push (← elem' a i);i:=i+1
   if i+1 == a.size then return la o i j
   if ca<7 && cb<7 then break
  g:=g+1
  setG' g
 unsupported "internal:list.sort.merge-bound"):=rfl
section
variable {prog:Program}{w:World}{A:Around}{E:Value→Shared→Prop}{s:Shared}{st:SortSt}
structure SG (st st':SortSt):Prop where
 kind:kindOf st'=kindOf st
 arr:arrOf st'=arrOf st
 pend:pendingOf st'=pendingOf st
 fail:failedOf st'=failedOf st
theorem SG.refl (st:SortSt):SG st st:=⟨rfl,rfl,rfl,rfl⟩
theorem SG.trans {a b c:SortSt} (h:SG a b) (g:SG b c):SG a c:=⟨g.kind.trans h.kind,g.arr.trans h.arr,g.pend.trans h.pend,g.fail.trans h.fail⟩
theorem setGX {g:Nat}{Q:Unit→SortSt→Prop} (h:∀ st',SG st st'→Q () st'):wpS (model prog w) A E s (setG' g) Q st:=by
 rw [setG_eq]
 exact wpS_modify (h _ ⟨rfl,rfl,rfl,rfl⟩)
theorem ky_at {xs:Array Keyed}{i:Nat}{x:Keyed} (h:xs[i]? = some x):K xs i=ky x:=by
 unfold K ky
 rw [h]
theorem int_of {xs:Array Keyed} (h0:IntKeys xs) {i:Nat} (hi:i<xs.size):∃ k t q,xs[i]? = some (.int k t,q)∧K xs i=k:=by
 obtain ⟨t,q,e⟩:=at_int h0 hi
 exact ⟨_,t,q,e,rfl⟩
theorem srt_so {xs:Array Keyed} (h:Srt xs.toList) {lo hi:Nat} (hh:hi≤xs.size):So xs lo hi:=fun i j _ hij hj=>by
 have hi':i<xs.toList.length:=by rw [Array.length_toList];omega
 have hj':j<xs.toList.length:=by rw [Array.length_toList];omega
 rw [ky_at (x:=xs.toList[i]) (by rw [← Array.getElem?_toList];exact List.getElem?_eq_getElem hi'),ky_at (x:=xs.toList[j]) (by rw [← Array.getElem?_toList];exact List.getElem?_eq_getElem hj')]
 rcases Nat.eq_or_lt_of_le hij with e | e
 ·subst e;exact Int.le_refl _
 ·exact List.pairwise_iff_getElem.mp h i j hi' hj' e
theorem mem_dropK {xs:List Keyed}{n:Nat}{y:Keyed} (h:y∈xs.drop n):∃ m,n≤m∧xs[m]? = some y:=by
 obtain ⟨k,hk⟩:=List.mem_iff_getElem?.mp h
 rw [List.getElem?_drop] at hk
 exact ⟨n+k,by omega,hk⟩
theorem mem_takeK {xs:List Keyed}{n k:Nat}{y:Keyed} (h:y∈(xs.drop n).take k):∃ m,m<k∧xs[n+m]? = some y:=by
 obtain ⟨m,hm⟩:=List.mem_iff_getElem?.mp h
 rw [List.getElem?_take] at hm
 split at hm
 ·rw [List.getElem?_drop] at hm
  exact ⟨m,by assumption,hm⟩
 ·cases hm
theorem loX {a b:Array Keyed}{Q:Array Keyed→SortSt→Prop} (hk:kindOf st=oneType') (ia0:IntKeys a) (ib0:IntKeys b) (sA:Srt a.toList) (sB:Srt b.toList) (na:0<a.size) (nb:0<b.size)
  (hf:∀ x∈b.toList.take 1,∀ y∈a.toList,ky x≤ky y) (hl:∀ x∈b.toList,∀ y∈a.toList.drop (a.size - 1),ky x≤ky y)
  (h:∀ o st',SG st st'→Srt o.toList→o.toList.Perm (a.toList ++ b.toList)→Q o st'):wpS (model prog w) A E s (mergeLo' a b) Q st:=by
 rw [low_eq]
 refine wpS_bind (wpS_lift (wpAny_rule ⟨rfl,?_⟩))
 obtain ⟨k0,t0,q0,e0,_⟩:=int_of ib0 nb
 refine wpS_bind (elemX e0 ?_)
 have eB:b.toList[0]? = some (.int k0 t0,q0):=by rw [← e0];simp
 have eT:b.toList.take 1=[(.int k0 t0,q0)]:=by
  obtain ⟨hi,he⟩:=List.getElem?_eq_some_iff.mp eB
  rw [List.take_one,List.head?_eq_getElem?,eB]
  rfl
 have m0:Mg a.toList b.toList [(.int k0 t0,q0)] 0 1:=by
  refine ⟨by rw [eT];exact List.Perm.refl _,List.pairwise_singleton _ _,fun x hx y hy=>?_⟩
  rw [← eT] at hx
  rcases hy with z | z
  ·exact hf x hx y z
  ·exact sB.cut 1 x hx y z
 have la:∀ {x:Array Keyed}{i:Nat},(x.extract i).toList=x.toList.drop i:=fun {x i}=>by
  rw [Array.toList_extract,List.extract_eq_take_drop]
  exact List.take_of_length_le (by rw [List.length_drop,Array.length_toList];exact Nat.le_refl _)
 have lb:∀ {x:Array Keyed}{i k:Nat},(x.extract i (i+k)).toList=(x.toList.drop i).take k:=fun {x i k}=>by
  rw [Array.toList_extract,List.extract_eq_take_drop,show i+k - i=k by omega]
 have fin1:∀ {o:Array Keyed}{i j:Nat}{st':SortSt},SG st st'→Mg a.toList b.toList o.toList i j→(a.size≤i∨b.size≤j)→Q (o ++ a.extract i ++ b.extract j) st':=fun {o i j st'} g m e=>by
  have:=m.done sA sB (by simpa using e)
  rw [← la,← la,← Array.toList_append,← Array.toList_append] at this
  exact h _ st' g this.1 this.2
 have fin2:∀ {o:Array Keyed}{i j:Nat}{st':SortSt},SG st st'→Mg a.toList b.toList o.toList i j→i+1=a.size→Q (o ++ b.extract j ++ a.extract i) st':=fun {o i j st'} g m e=>by
  have:=m.last sA sB (fun x hx y hy=>hl x (List.mem_of_mem_drop hx) y (by rw [← e];exact hy))
  rw [← la,← la,← Array.toList_append,← Array.toList_append] at this
  exact h _ st' g this.1 this.2
 extract_lets o0 i0 j0
 by_cases c1:1=b.size
 ·rw [if_pos (by simpa using c1)]
  exact wpS_pure (fin1 (SG.refl _) m0 (.inr (by omega)))
 rw [if_neg (by simpa using c1)]
 by_cases c2:0+1=a.size
 ·rw [if_pos (by simpa using c2)]
  exact wpS_pure (fin2 (SG.refl _) m0 c2)
 rw [if_neg (by simpa using c2)]
 refine wpS_bind (wpS_get ?_)
 have szA:a.toList.length=a.size:=Array.length_toList
 have szB:b.toList.length=b.size:=Array.length_toList
 refine wpS_bind (wpS_mono (wpS_forRange (I:=fun x c st'=>SG st st'∧∃ o i j g,c=(none,o,i,j,g)∧Mg a.toList b.toList o.toList i j∧i+1<a.size∧j<b.size∧x<i+j)
  (Q:=fun c st'=>∃ r c',c=(some r,c')∧Q r st') ?o1 ?o2 ⟨SG.refl _,_,_,_,_,rfl,m0,by omega,by omega,by omega⟩) ?o3)
 case o2 =>
  rintro c st' ⟨g,o,i,j,gg,rfl,m,h1,h2,h3⟩
  omega
 case o3 =>
  rintro c st' ⟨r,c',rfl,hq⟩
  exact wpS_pure hq
 case o1 =>
  rintro x c st' _ hx ⟨g1,o,i,j,gg,rfl,m,h1,h2,h3⟩
  have atA:∀ {n:Nat}{y:Keyed},a[n]? = some y→a.toList[n]? = some y:=fun {n y} e=>by rw [Array.getElem?_toList];exact e
  have atB:∀ {n:Nat}{y:Keyed},b[n]? = some y→b.toList[n]? = some y:=fun {n y} e=>by rw [Array.getElem?_toList];exact e
  have lowD:∀ {xs:List Keyed}{n:Nat}{y:Keyed},Srt xs→xs[n]? = some y→∀ z∈xs.drop n,ky y≤ky z:=fun {xs n y} hs e z hz=>by
   obtain ⟨hn,he⟩:=List.getElem?_eq_some_iff.mp e
   rw [List.drop_eq_getElem_cons hn,he] at hz
   have:=hs.drop n
   rw [List.drop_eq_getElem_cons hn,he] at this
   rcases List.mem_cons.mp hz with rfl | hz;skip
   ·exact Int.le_refl _
   ·exact (List.pairwise_cons.mp this).1 z hz
  have kA:∀ {n:Nat}{k:Int}{t:Tok}{q:Value},a[n]? = some (.int k t,q)→∀ z∈a.toList.drop n,k≤ky z:=fun {n k t q} e=>lowD sA (atA e)
  have kB:∀ {n:Nat}{k:Int}{t:Tok}{q:Value},b[n]? = some (.int k t,q)→∀ z∈b.toList.drop n,k≤ky z:=fun {n k t q} e=>lowD sB (atB e)
  extract_lets
  refine wpS_bind (wpS_mono (wpS_forRange (I:=fun x c st2=>SG st st2∧∃ o2 i2 j2 ca cb,c=(none,o2,i2,j2,ca,cb)∧Mg a.toList b.toList o2.toList i2 j2∧i2+1<a.size∧j2<b.size∧i+j+x≤i2+j2)
   (Q:=fun c st2=>SG st st2∧((∃ r c',c=(some r,c')∧Q r st2)∨∃ o2 i2 j2 ca cb,c=(none,o2,i2,j2,ca,cb)∧Mg a.toList b.toList o2.toList i2 j2∧i2+1<a.size∧j2<b.size∧i+j+1≤i2+j2)) ?i1 ?i2 ⟨g1,o,i,j,0,0,rfl,m,h1,h2,by omega⟩) ?i3)
  case i2 =>
   rintro c st2 ⟨g2,o2,i2,j2,ca,cb,rfl,m2,p1,p2,p3⟩
   omega
  case i1 =>
   rintro x2 c st2 _ hx2 ⟨g2,o2,i2,j2,ca,cb,rfl,m2,p1,p2,p3⟩
   dsimp only
   obtain ⟨kb,tb,qb,eb,_⟩:=int_of ib0 p2
   obtain ⟨ka,ta,qa,ea,_⟩:=int_of ia0 (show i2<a.size by omega)
   refine wpS_bind (elemX eb (wpS_bind (elemX ea (wpS_bind (lt2 (g2.kind.trans hk) ?_)))))
   dsimp only
   by_cases hlt:kb<ka
   ·rw [if_pos (decide_eq_true hlt)]
    refine wpS_bind (elemX eb ?_)
    have m3:Mg a.toList b.toList (o2.push (.int kb tb,qb)).toList i2 (j2+1):=by
     rw [Array.toList_push]
     exact m2.oneB sB (atB eb) fun y hy=>by
      have:=kA ea y hy
      show kb≤ky y
      omega
    by_cases c3:j2+1=b.size
    ·rw [if_pos (by simpa using c3)]
     exact wpS_pure ⟨g2,.inl ⟨_,_,rfl,fin1 g2 m3 (.inr (by omega))⟩⟩
    ·rw [if_neg (by simpa using c3)]
     split
     ·exact wpS_pure ⟨g2,.inr ⟨_,_,_,_,_,rfl,m3,p1,by omega,by omega⟩⟩
     ·exact wpS_pure ⟨g2,_,_,_,_,_,rfl,m3,p1,by omega,by omega⟩
   ·rw [if_neg (by simpa using hlt)]
    refine wpS_bind (elemX ea ?_)
    have m3:Mg a.toList b.toList (o2.push (.int ka ta,qa)).toList (i2+1) j2:=by
     rw [Array.toList_push]
     exact m2.oneA sA (atA ea) fun y hy=>by
      have:=kB eb y hy
      show ka≤ky y
      omega
    by_cases c3:i2+1+1=a.size
    ·rw [if_pos (by simpa using c3)]
     exact wpS_pure ⟨g2,.inl ⟨_,_,rfl,fin2 g2 m3 c3⟩⟩
    ·rw [if_neg (by simpa using c3)]
     split
     ·exact wpS_pure ⟨g2,.inr ⟨_,_,_,_,_,rfl,m3,by omega,by omega,by omega⟩⟩
     ·exact wpS_pure ⟨g2,_,_,_,_,_,rfl,m3,by omega,by omega,by omega⟩
  case i3 =>
   rintro c st2 ⟨g2,⟨r,c',rfl,hq⟩ | ⟨o2,i2,j2,ca,cb,rfl,m2,p1,p2,p3⟩⟩
   ·exact wpS_pure ⟨r,_,rfl,hq⟩
   ·extract_lets
    refine wpS_bind (wpS_lift (wpAny_rule ⟨rfl,?_⟩))
    extract_lets gz
    refine wpS_bind (wpS_mono (wpS_forRange (I:=fun x c st3=>SG st st3∧∃ o3 i3 j3 g3 ca cb,c=(none,o3,i3,j3,g3,ca,cb)∧Mg a.toList b.toList o3.toList i3 j3∧i3+1<a.size∧j3<b.size∧i2+j2+x≤i3+j3)
     (Q:=fun c st3=>SG st st3∧((∃ r c',c=(some r,c')∧Q r st3)∨∃ o3 i3 j3 g3 ca cb,c=(none,o3,i3,j3,g3,ca,cb)∧Mg a.toList b.toList o3.toList i3 j3∧i3+1<a.size∧j3<b.size∧i2+j2≤i3+j3)) ?j1 ?j2 ⟨g2,o2,i2,j2,_,ca,cb,rfl,m2,p1,p2,by omega⟩) ?j3)
    case j2 =>
     rintro c st3 ⟨g3,o3,i3,j3,gg3,ca,cb,rfl,m3,p4,p5,p6⟩
     omega
    case j3 =>
     rintro c st3 ⟨g3,⟨r,c',rfl,hq⟩ | ⟨o3,i3,j3,gg3,ca,cb,rfl,m3,p4,p5,p6⟩⟩
     ·exact wpS_pure ⟨r,_,rfl,hq⟩
     ·extract_lets
      exact wpS_bind (setGX fun st4 g4=>wpS_pure ⟨g3.trans g4,o3,i3,j3,_,rfl,m3,p4,p5,by omega⟩)
    case j1 =>
     rintro x3 c st3 _ hx3 ⟨g3,o3,i3,j3,gg3,ca,cb,rfl,m3,p4,p5,p6⟩
     refine wpS_mono (Q:=fun r st4=>SG st st4∧((∃ rr c',r=.done (some rr,c')∧Q rr st4)∨∃ o4 i4 j4 g4 ca4 cb4,(r=.done (none,o4,i4,j4,g4,ca4,cb4)∨r=.yield (none,o4,i4,j4,g4,ca4,cb4))∧Mg a.toList b.toList o4.toList i4 j4∧i4+1<a.size∧j4<b.size∧i2+j2+(x3+1)≤i4+j4)) ?_ ?_
     rotate_left
     ·rintro _ st4 ⟨g4,⟨rr,c',rfl,hq⟩ | ⟨o4,i4,j4,gg4,ca4,cb4,rfl | rfl,m4,q1,q2,q3⟩⟩
      ·exact ⟨g4,.inl ⟨rr,c',rfl,hq⟩⟩
      ·exact ⟨g4,.inr ⟨o4,i4,j4,gg4,ca4,cb4,rfl,m4,q1,q2,by omega⟩⟩
      ·exact ⟨g4,o4,i4,j4,gg4,ca4,cb4,rfl,m4,q1,q2,by omega⟩
     extract_lets z1 z2 z3 z4 z5 z6 z7 z8 z9 z10 z11 z12 jp z13
     have hjp:∀ u g,wpS (model prog w) A E s (jp u g) (fun r st4=>SG st st4∧((∃ rr c',r=.done (some rr,c')∧Q rr st4)∨∃ o4 i4 j4 g4 ca4 cb4,(r=.done (none,o4,i4,j4,g4,ca4,cb4)∨r=.yield (none,o4,i4,j4,g4,ca4,cb4))∧Mg a.toList b.toList o4.toList i4 j4∧i4+1<a.size∧j4<b.size∧i2+j2+(x3+1)≤i4+j4)) st3:=by
      intro u g
      obtain ⟨kb,tb,qb,eb,_⟩:=int_of ib0 p5
      refine wpS_bind (setGX fun st4 g4=>?_)
      refine wpS_bind (elemX eb ?_)
      have hk4:kindOf st4=oneType':=g4.kind.trans (g3.kind.trans hk)
      have g34:=g3.trans g4
      refine wpS_bind (galX hk4 ia0 (by show i3+(a.size - i3)≤_;omega) (by show 0<a.size - i3;omega) ?_ fun k hk1 hk2 hk3=>?_)
      ·exact srt_so sA (by show i3+(a.size - i3)≤_;omega)
      have hk1:k≤a.size - i3:=hk1
      have hk2:∀ n,n<k→K a (i3+n)≤kb:=hk2
      have hk3:∀ n,k≤n→n<a.size - i3→¬ K a (i3+n)≤kb:=hk3
      have up:∀ y∈a.toList.drop (i3+k),kb≤ky y:=fun y hy=>by
       obtain ⟨n,hn,e⟩:=mem_dropK hy
       have h8:n<a.size:=by have:=(List.getElem?_eq_some_iff.mp e).1;omega
       have:=hk3 (n - i3) (by omega) (by omega)
       rw [show i3+(n - i3)=n by omega,ky_at (by rw [← Array.getElem?_toList];exact e)] at this
       omega
      have dn:∀ x∈(a.toList.drop i3).take k,∀ y∈b.toList.drop j3,ky x≤ky y:=fun x hx y hy=>by
       obtain ⟨n,hn,e⟩:=mem_takeK hx
       have h8:=hk2 n hn
       rw [ky_at (by rw [← Array.getElem?_toList];exact e)] at h8
       have:=kB eb y hy
       omega
      dsimp -zeta only
      extract_lets y1 jp2 y3 y4
      have hjp2:∀ u o i,i3≤i→Mg a.toList b.toList o.toList i j3→i+1<a.size→(∀ y∈a.toList.drop i,kb≤ky y)→wpS (model prog w) A E s (jp2 u o i) (fun r st4=>SG st st4∧((∃ rr c',r=.done (some rr,c')∧Q rr st4)∨∃ o4 i4 j4 g4 ca4 cb4,(r=.done (none,o4,i4,j4,g4,ca4,cb4)∨r=.yield (none,o4,i4,j4,g4,ca4,cb4))∧Mg a.toList b.toList o4.toList i4 j4∧i4+1<a.size∧j4<b.size∧i2+j2+(x3+1)≤i4+j4)) st4:=by
       intro u o i hii m4 hi1 hup
       refine wpS_bind (elemX eb ?_)
       have m5:Mg a.toList b.toList (o.push (.int kb tb,qb)).toList i (j3+1):=by
        rw [Array.toList_push]
        exact m4.oneB sB (atB eb) hup
       by_cases c3:j3+1=b.size
       ·rw [if_pos (by show (j3+1 == b.size)=true;simpa using c3)]
        exact wpS_pure ⟨g34,.inl ⟨_,_,rfl,fin1 (j:=j3+1) g34 m5 (.inr (Nat.le_of_eq c3.symm))⟩⟩
       rw [if_neg (by show ¬ (j3+1 == b.size)=true;simpa using c3)]
       obtain ⟨ka,ta,qa,ea,_⟩:=int_of ia0 (show i<a.size by omega)
       refine wpS_bind (elemX ea ?_)
       refine wpS_bind (galX hk4 ib0 (by show j3+1+(b.size - (j3+1))≤_;omega) (by show 0<b.size - (j3+1);omega) (srt_so sB (by show j3+1+(b.size - (j3+1))≤_;omega)) fun k' hq1 hq2 hq3=>?_)
       have hq1:k'≤b.size - (j3+1):=hq1
       have hq2:∀ n,n<k'→K b (j3+1+n)<ka:=hq2
       have hq3:∀ n,k'≤n→n<b.size - (j3+1)→¬ K b (j3+1+n)<ka:=hq3
       have up2:∀ y∈b.toList.drop (j3+1+k'),ka≤ky y:=fun y hy=>by
        obtain ⟨n,hn,e⟩:=mem_dropK hy
        have h8:n<b.size:=by have:=(List.getElem?_eq_some_iff.mp e).1;omega
        have:=hq3 (n - (j3+1)) (by omega) (by omega)
        rw [show j3+1+(n - (j3+1))=n by omega,ky_at (by rw [← Array.getElem?_toList];exact e)] at this
        omega
       have dn2:∀ x∈(b.toList.drop (j3+1)).take k',∀ y∈a.toList.drop i,ky x≤ky y:=fun x hx y hy=>by
        obtain ⟨n,hn,e⟩:=mem_takeK hx
        have h8:=hq2 n hn
        rw [ky_at (by rw [← Array.getElem?_toList];exact e)] at h8
        have:=kA ea y hy
        omega
       dsimp -zeta only
       extract_lets w1 w2 jp3 w4 w5
       have hjp3:∀ u o j,j3+1≤j→Mg a.toList b.toList o.toList i j→j<b.size→(∀ y∈b.toList.drop j,ka≤ky y)→wpS (model prog w) A E s (jp3 u o j) (fun r st4=>SG st st4∧((∃ rr c',r=.done (some rr,c')∧Q rr st4)∨∃ o4 i4 j4 g4 ca4 cb4,(r=.done (none,o4,i4,j4,g4,ca4,cb4)∨r=.yield (none,o4,i4,j4,g4,ca4,cb4))∧Mg a.toList b.toList o4.toList i4 j4∧i4+1<a.size∧j4<b.size∧i2+j2+(x3+1)≤i4+j4)) st4:=by
        intro u o j hjj m6 hj1 hup2
        refine wpS_bind (elemX ea ?_)
        have m7:Mg a.toList b.toList (o.push (.int ka ta,qa)).toList (i+1) j:=by
         rw [Array.toList_push]
         exact m6.oneA sA (atA ea) hup2
        by_cases c4:i+1+1=a.size
        ·rw [if_pos (by show (i+1+1 == a.size)=true;simpa using c4)]
         exact wpS_pure ⟨g34,.inl ⟨_,_,rfl,fin2 g34 m7 c4⟩⟩
        rw [if_neg (by show ¬ (i+1+1 == a.size)=true;simpa using c4)]
        split
        ·exact wpS_pure ⟨g34,.inr ⟨_,i+1,j,_,_,_,.inl rfl,m7,by omega,hj1,by omega⟩⟩
        ·exact wpS_pure ⟨g34,.inr ⟨_,i+1,j,_,_,_,.inr rfl,m7,by omega,hj1,by omega⟩⟩
       by_cases c5:k' > 0
       ·rw [if_pos c5]
        have m8:Mg a.toList b.toList (o.push (.int kb tb,qb) ++ b.extract (j3+1) (j3+1+k')).toList i (j3+1+k'):=by
         rw [Array.toList_append,lb]
         exact m5.runB sB dn2
        by_cases c6:j3+1+k'=b.size
        ·rw [if_pos (by show (j3+1+k' == b.size)=true;simpa using c6)]
         exact wpS_pure ⟨g34,.inl ⟨_,_,rfl,fin1 (j:=j3+1+k') g34 m8 (.inr (Nat.le_of_eq c6.symm))⟩⟩
        ·rw [if_neg (by show ¬ (j3+1+k' == b.size)=true;simpa using c6)]
         exact hjp3 () _ (j3+1+k') (by omega) m8 (by omega) up2
       ·rw [if_neg c5]
        have k0:k'=0:=by omega
        rw [k0] at up2
        exact hjp3 () _ (j3+1) (Nat.le_refl _) m5 (by omega) up2
      by_cases c7:k > 0
      ·rw [if_pos c7]
       have m9:Mg a.toList b.toList (o3 ++ a.extract i3 (i3+k)).toList (i3+k) j3:=by
        rw [Array.toList_append,lb]
        exact m3.runA sA dn
       by_cases c8:i3+k+1=a.size
       ·rw [if_pos (by show (i3+k+1 == a.size)=true;simpa using c8)]
        exact wpS_pure ⟨g34,.inl ⟨_,_,rfl,fin2 (i:=i3+k) g34 m9 c8⟩⟩
       rw [if_neg (by show ¬ (i3+k+1 == a.size)=true;simpa using c8)]
       by_cases c9:i3+k=a.size
       ·rw [if_pos (by show (i3+k == a.size)=true;simpa using c9)]
        exact wpS_pure ⟨g34,.inl ⟨_,_,rfl,fin1 (i:=i3+k) g34 m9 (.inl (Nat.le_of_eq c9.symm))⟩⟩
       rw [if_neg (by show ¬ (i3+k == a.size)=true;simpa using c9)]
       exact hjp2 () _ (i3+k) (by omega) m9 (by omega) up
      ·rw [if_neg c7]
       have k0:k=0:=by omega
       rw [k0] at up
       exact hjp2 () _ i3 (Nat.le_refl _) m3 p4 up
     split
     ·exact hjp () _
     ·exact hjp () _
end
end SR
namespace SR
open PySem PyProof.Rows
structure Mh (A B out:List Keyed) (na nb:Nat):Prop where
 perm:out.Perm (A.drop na ++ B.drop nb)
 srt:Srt out.reverse
 high:∀ x∈out,∀ y,y∈A.take na∨y∈B.take nb→ky y≤ky x
theorem Mh.swap {A B out:List Keyed}{na nb:Nat} (h:Mh A B out na nb):Mh B A out nb na:=⟨h.perm.trans List.perm_append_comm,h.srt,fun x hx y hy=>h.high x hx y hy.symm⟩
theorem Mh.runA {A B out:List Keyed}{na nb m:Nat} (h:Mh A B out na nb) (hA:Srt A) (hm:m≤na) (hk:∀ x∈(A.take na).drop m,∀ y∈B.take nb,ky y≤ky x):Mh A B (out ++ ((A.take na).drop m).reverse) m nb:=by
 have e:A.drop m=(A.take na).drop m ++ A.drop na:=by
  conv=>lhs;rw [← List.take_append_drop na A]
  rw [List.drop_append]
  rcases Nat.lt_or_ge A.length na with z | z
  ·rw [List.drop_of_length_le (show A.length≤na by omega),List.drop_nil]
  ·rw [List.length_take,Nat.min_eq_left z,show m - na=0 by omega,List.drop_zero]
 refine ⟨?_,?_,fun x hx y hy=>?_⟩
 ·rw [e,List.append_assoc]
  refine (List.perm_append_comm).trans ?_
  exact ((List.reverse_perm _).append h.perm)
 ·rw [List.reverse_append,List.reverse_reverse]
  refine Srt.append ((hA.take na).drop m) h.srt fun x hx y hy=>?_
  exact h.high y (List.mem_reverse.mp hy) x (.inl (List.mem_of_mem_drop hx))
 ·rcases List.mem_append.mp hx with z | z
  ·refine h.high x z y (hy.imp (fun g=>?_) id)
   have e2:A.take m=(A.take na).take m:=by rw [List.take_take,Nat.min_eq_left hm]
   rw [e2] at g
   exact List.mem_of_mem_take g
  ·rw [List.mem_reverse] at z
   rcases hy with g | g
   ·have e2:A.take m=(A.take na).take m:=by rw [List.take_take,Nat.min_eq_left hm]
    rw [e2] at g
    exact (hA.take na).cut m y g x z
   ·exact hk x z y g
theorem Mh.runB {A B out:List Keyed}{na nb m:Nat} (h:Mh A B out na nb) (hB:Srt B) (hm:m≤nb) (hk:∀ x∈(B.take nb).drop m,∀ y∈A.take na,ky y≤ky x):Mh A B (out ++ ((B.take nb).drop m).reverse) na m:=(h.swap.runA hB hm hk).swap
theorem Mh.oneA {A B out:List Keyed}{na nb:Nat}{x:Keyed} (h:Mh A B out (na+1) nb) (hA:Srt A) (hx:A[na]? = some x) (hk:∀ y∈B.take nb,ky y≤ky x):Mh A B (out ++ [x]) na nb:=by
 have e:(A.take (na+1)).drop na=[x]:=by
  obtain ⟨hi,he⟩:=List.getElem?_eq_some_iff.mp hx
  rw [List.take_succ,hx,List.drop_append,List.drop_of_length_le (by rw [List.length_take];omega),List.length_take,Nat.min_eq_left (by omega),Nat.sub_self]
  rfl
 have:=h.runA (m:=na) hA (by omega) fun z hz=>by
  rw [e,List.mem_singleton] at hz
  rw [hz]
  exact hk
 rwa [e] at this
theorem Mh.oneB {A B out:List Keyed}{na nb:Nat}{x:Keyed} (h:Mh A B out na (nb+1)) (hB:Srt B) (hx:B[nb]? = some x) (hk:∀ y∈A.take na,ky y≤ky x):Mh A B (out ++ [x]) na nb:=(h.swap.oneA hB hx hk).swap
theorem Mh.fin {A B out:List Keyed}{na nb:Nat} (h:Mh A B out na nb) (hA:Srt A) (hB:Srt B) (hl:∀ x∈A.take na,∀ y∈B.take nb,ky x≤ky y):Srt (A.take na ++ B.take nb ++ out.reverse)∧(A.take na ++ B.take nb ++ out.reverse).Perm (A ++ B):=by
 constructor
 ·refine ((hA.take na).append (hB.take nb) hl).append h.srt fun x hx y hy=>?_
  exact h.high y (List.mem_reverse.mp hy) x (List.mem_append.mp hx)
 ·have e:(A ++ B).Perm ((A.take na ++ B.take nb) ++ (A.drop na ++ B.drop nb)):=by
   conv=>lhs;rw [← List.take_append_drop na A,← List.take_append_drop nb B]
   simp only [List.append_assoc]
   refine List.Perm.append_left _ ?_
   rw [← List.append_assoc,← List.append_assoc]
   exact List.Perm.append_right _ List.perm_append_comm;skip
  exact (List.Perm.append_left _ ((List.reverse_perm _).trans h.perm)).trans e.symm
def mergeHi':Array Keyed→Array Keyed→StateT SortSt Sem (Array Keyed):=sortPriv% PySem.Builtin.mergeHi
theorem hig_eq (a b:Array Keyed):mergeHi' a b=(do
 rule "list.sort.merge-hi"
 let t:=a.size+b.size
 let dn (o:Array Keyed) (i j:Nat):=a.extract 0 i ++ b.extract 0 j ++ o.reverse
 let fb (o:Array Keyed) (i j:Nat):=b.extract 0 j ++ a.extract 0 i ++ o.reverse
 let mut i:=a.size - 1
 let mut j:=b.size
 let mut o:Array Keyed:=#[← elem' a i]
 if i == 0 then return dn o i j
 if j == 1 then return fb o i j
 let mut g:=gallopOf (← get)
 for _ in [0:t] do
  let mut ca:=0
  let mut cb:=0
  for _ in [0:t] do
   let some aw ← lt' (← elem' b (j - 1)) (← elem' a (i - 1)) | return dn o i j
   if aw then
    i:=i - 1;o:=o.push (← elem' a i);ca:=ca+1;cb:=0
    if i == 0 then return dn o i j
    if ca ≥ g then break
   else
    j:=j - 1;o:=o.push (← elem' b j);cb:=cb+1;ca:=0
    if j == 1 then return fb o i j
    if cb ≥ g then break
  rule "list.sort.gallop"
  g:=g+1
  for _ in [0:t] do
   if g > 1 then g:=g - 1
   setG' g
   let some m ← gallop' false (← elem' b (j - 1)) a 0 i (i - 1) | return dn o i j
   let k:=i - m
   ca:=k
   if k > 0 then
    o:=o ++ (a.extract m i).reverse;i:=m
    if i == 0 then return dn o i j
   j:=j - 1;o:=o.push (← elem' b j)
   if j == 1 then return fb o i j
   let some m ← gallop' true (← elem' a (i - 1)) b 0 j (j - 1) | return dn o i j
   let k:=j - m
   cb:=k
   if k > 0 then
    o:=o ++ (b.extract m j).reverse;j:=m
    if j == 1 then return fb o i j
    if j == 0 then return dn o i j
   i:=i - 1;o:=o.push (← elem' a i)
   if i == 0 then return dn o i j
   if ca<7 && cb<7 then break
  g:=g+1
  setG' g
 unsupported "internal:list.sort.merge-bound"):=rfl
section
variable {prog:Program}{w:World}{A:Around}{E:Value→Shared→Prop}{s:Shared}{st:SortSt}
theorem mem_takeT {xs:List Keyed}{n:Nat}{y:Keyed} (h:y∈xs.take n):∃ m,m<n∧xs[m]? = some y:=by
 obtain ⟨m,hm⟩:=List.mem_iff_getElem?.mp h
 rw [List.getElem?_take] at hm
 split at hm
 ·exact ⟨m,by assumption,hm⟩
 ·cases hm
theorem mem_td {xs:List Keyed}{n m:Nat}{y:Keyed} (h:y∈(xs.take n).drop m):∃ k,m≤k∧k<n∧xs[k]? = some y:=by
 obtain ⟨k,hk,e⟩:=mem_dropK h
 rw [List.getElem?_take] at e
 split at e
 ·exact ⟨k,hk,by assumption,e⟩
 ·cases e
theorem hiX {a b:Array Keyed}{Q:Array Keyed→SortSt→Prop} (hk:kindOf st=oneType') (ia0:IntKeys a) (ib0:IntKeys b) (sA:Srt a.toList) (sB:Srt b.toList) (na:0<a.size) (nb:0<b.size)
  (hf:∀ x∈b.toList.take 1,∀ y∈a.toList,ky x≤ky y) (hl:∀ x∈b.toList,∀ y∈a.toList.drop (a.size - 1),ky x≤ky y)
  (h:∀ o st',SG st st'→Srt o.toList→o.toList.Perm (a.toList ++ b.toList)→Q o st'):wpS (model prog w) A E s (mergeHi' a b) Q st:=by
 rw [hig_eq]
 refine wpS_bind (wpS_lift (wpAny_rule ⟨rfl,?_⟩))
 obtain ⟨k0,t0,q0,e0,_⟩:=int_of ia0 (show a.size - 1<a.size by omega)
 extract_lets
 refine wpS_bind (elemX e0 ?_)
 have szA:a.toList.length=a.size:=Array.length_toList
 have szB:b.toList.length=b.size:=Array.length_toList
 have eT:a.toList.drop (a.size - 1)=[(.int k0 t0,q0)]:=by
  have e1:a.toList[a.size - 1]? = some (.int k0 t0,q0):=by rw [Array.getElem?_toList];exact e0
  obtain ⟨hi,he⟩:=List.getElem?_eq_some_iff.mp e1
  rw [List.drop_eq_getElem_cons hi,he,List.drop_of_length_le (by omega)]
 have m0:Mh a.toList b.toList [(.int k0 t0,q0)] (a.size - 1) b.size:=by
  refine ⟨by rw [eT,List.drop_of_length_le (by omega),List.append_nil],List.pairwise_singleton _ _,fun x hx y hy=>?_⟩
  rw [← eT] at hx
  rcases hy with z | z
  ·exact sA.cut _ y z x hx
  ·exact hl y (List.mem_of_mem_take z) x hx
 have la:∀ {x:Array Keyed}{i:Nat},(x.extract 0 i).toList=x.toList.take i:=fun {x i}=>by
  rw [Array.toList_extract,List.extract_eq_take_drop]
  rfl
 have lb:∀ {x:Array Keyed}{i k:Nat},((x.extract i k).reverse).toList=((x.toList.take k).drop i).reverse:=fun {x i k}=>by
  rw [Array.toList_reverse,Array.toList_extract,List.extract_eq_take_drop,List.drop_take]
 have fin1:∀ {o:Array Keyed}{i j:Nat}{st':SortSt},SG st st'→Mh a.toList b.toList o.toList i j→(i=0∨j=0)→Q (a.extract 0 i ++ b.extract 0 j ++ o.reverse) st':=fun {o i j st'} g m e=>by
  have:=m.fin sA sB (fun x hx y hy=>by
   rcases e with rfl | rfl
   ·simp at hx
   ·simp at hy)
  rw [← la,← la,← Array.toList_append,← Array.toList_reverse,← Array.toList_append] at this
  exact h _ st' g this.1 this.2
 have fin2:∀ {o:Array Keyed}{i j:Nat}{st':SortSt},SG st st'→Mh a.toList b.toList o.toList i j→j=1→Q (b.extract 0 j ++ a.extract 0 i ++ o.reverse) st':=fun {o i j st'} g m e=>by
  have:=m.swap.fin sB sA (fun x hx y hy=>hf x (by rw [← e];exact hx) y (List.mem_of_mem_take hy))
  rw [← la,← la,← Array.toList_append,← Array.toList_reverse,← Array.toList_append] at this
  exact h _ st' g this.1 (this.2.trans List.perm_append_comm)
 extract_lets
 by_cases c1:a.size - 1=0
 ·rw [if_pos (by show (a.size - 1 == 0)=true;simpa using c1)]
  exact wpS_pure (fin1 (SG.refl _) m0 (.inl c1))
 rw [if_neg (by show ¬ (a.size - 1 == 0)=true;simpa using c1)]
 by_cases c2:b.size=1
 ·rw [if_pos (by show (b.size == 1)=true;simpa using c2)]
  exact wpS_pure (fin2 (SG.refl _) m0 c2)
 rw [if_neg (by show ¬ (b.size == 1)=true;simpa using c2)]
 refine wpS_bind (wpS_get ?_)
 extract_lets
 refine wpS_bind (wpS_mono (wpS_forRange (I:=fun x c st'=>SG st st'∧∃ o i j g,c=(none,i,j,o,g)∧Mh a.toList b.toList o.toList i j∧1≤i∧2≤j∧i≤a.size∧j≤b.size∧x+i+j<a.size+b.size)
  (Q:=fun c st'=>∃ r c',c=(some r,c')∧Q r st') ?o1 ?o2 ⟨SG.refl _,#[(.int k0 t0,q0)],a.size - 1,b.size,_,rfl,m0,by omega,by omega,by omega,by omega,by omega⟩) ?o3)
 case o2 =>
  rintro c st' ⟨g,o,i,j,gg,rfl,m,h1,h2,h3,h4,h5⟩
  omega
 case o3 =>
  rintro c st' ⟨r,c',rfl,hq⟩
  exact wpS_pure hq
 case o1 =>
  rintro x c st' _ hx ⟨g1,o,i,j,gg,rfl,m,h1,h2,h3,h4,h5⟩
  have atA:∀ {n:Nat}{y:Keyed},a[n]? = some y→a.toList[n]? = some y:=fun {n y} e=>by rw [Array.getElem?_toList];exact e
  have atB:∀ {n:Nat}{y:Keyed},b[n]? = some y→b.toList[n]? = some y:=fun {n y} e=>by rw [Array.getElem?_toList];exact e
  have topD:∀ {xs:List Keyed}{n:Nat}{y:Keyed},Srt xs→xs[n]? = some y→∀ z∈xs.take (n+1),ky z≤ky y:=fun {xs n y} hs e z hz=>by
   rw [List.take_succ,e] at hz
   rcases List.mem_append.mp hz with g | g
   ·obtain ⟨hn,he⟩:=List.getElem?_eq_some_iff.mp e
    exact hs.cut n z g y (by rw [List.drop_eq_getElem_cons hn,he];exact List.mem_cons_self ..)
   ·have:z=y:=by simpa using g
    rw [this];exact Int.le_refl _
  have kA:∀ {n:Nat}{k:Int}{t:Tok}{q:Value},1≤n→a[n - 1]? = some (.int k t,q)→∀ z∈a.toList.take n,ky z≤k:=fun {n k t q} h1 e z hz=>topD sA (atA e) z (by rw [show n - 1+1=n by omega];exact hz)
  have kB:∀ {n:Nat}{k:Int}{t:Tok}{q:Value},1≤n→b[n - 1]? = some (.int k t,q)→∀ z∈b.toList.take n,ky z≤k:=fun {n k t q} h1 e z hz=>topD sB (atB e) z (by rw [show n - 1+1=n by omega];exact hz)
  have oA:∀ {o:Array Keyed}{i j:Nat}{x:Keyed},1≤i→Mh a.toList b.toList o.toList i j→a[i - 1]? = some x→(∀ y∈b.toList.take j,ky y≤ky x)→Mh a.toList b.toList (o.push x).toList (i - 1) j:=fun {o i j x} h1 m e hy=>by
   rw [Array.toList_push]
   exact Mh.oneA (by rw [show i - 1+1=i by omega];exact m) sA (atA e) hy
  have oB:∀ {o:Array Keyed}{i j:Nat}{x:Keyed},1≤j→Mh a.toList b.toList o.toList i j→b[j - 1]? = some x→(∀ y∈a.toList.take i,ky y≤ky x)→Mh a.toList b.toList (o.push x).toList i (j - 1):=fun {o i j x} h1 m e hy=>by
   rw [Array.toList_push]
   exact Mh.oneB (by rw [show j - 1+1=j by omega];exact m) sB (atB e) hy
  extract_lets
  refine wpS_bind (wpS_mono (wpS_forRange (I:=fun x c st2=>SG st st2∧∃ o2 i2 j2 ca cb,c=(none,i2,j2,o2,ca,cb)∧Mh a.toList b.toList o2.toList i2 j2∧1≤i2∧2≤j2∧i2≤a.size∧j2≤b.size∧x+i2+j2≤i+j)
   (Q:=fun c st2=>SG st st2∧((∃ r c',c=(some r,c')∧Q r st2)∨∃ o2 i2 j2 ca cb,c=(none,i2,j2,o2,ca,cb)∧Mh a.toList b.toList o2.toList i2 j2∧1≤i2∧2≤j2∧i2≤a.size∧j2≤b.size∧1+i2+j2≤i+j)) ?i1 ?i2 ⟨g1,o,i,j,0,0,rfl,m,h1,h2,h3,h4,by omega⟩) ?i3)
  case i2 =>
   rintro c st2 ⟨g2,o2,i2,j2,ca,cb,rfl,m2,p1,p2,p3,p4,p5⟩
   have p5:a.size+b.size+i2+j2≤i+j:=p5
   omega
  case i1 =>
   rintro x2 c st2 _ hx2 ⟨g2,o2,i2,j2,ca,cb,rfl,m2,p1,p2,p3,p4,p5⟩
   dsimp only
   obtain ⟨kb,tb,qb,eb,_⟩:=int_of ib0 (show j2 - 1<b.size by omega)
   obtain ⟨ka,ta,qa,ea,_⟩:=int_of ia0 (show i2 - 1<a.size by omega)
   refine wpS_bind (elemX eb (wpS_bind (elemX ea (wpS_bind (lt2 (g2.kind.trans hk) ?_)))))
   dsimp only
   by_cases hlt:kb<ka
   ·rw [if_pos (decide_eq_true hlt)]
    refine wpS_bind (elemX ea ?_)
    have m3:=oA p1 m2 ea fun y hy=>by
     have:=kB (by omega) eb y hy
     show ky y≤ka
     omega
    by_cases c3:i2 - 1=0
    ·rw [if_pos (by simpa using c3)]
     exact wpS_pure ⟨g2,.inl ⟨_,_,rfl,fin1 g2 m3 (.inl c3)⟩⟩
    ·rw [if_neg (by simpa using c3)]
     split
     ·exact wpS_pure ⟨g2,.inr ⟨_,_,_,_,_,rfl,m3,by omega,by omega,by omega,by omega,by omega⟩⟩
     ·exact wpS_pure ⟨g2,_,_,_,_,_,rfl,m3,by omega,by omega,by omega,by omega,by omega⟩
   ·rw [if_neg (by simpa using hlt)]
    refine wpS_bind (elemX eb ?_)
    have m3:=oB (by omega) m2 eb fun y hy=>by
     have:=kA p1 ea y hy
     show ky y≤kb
     omega
    by_cases c3:j2 - 1=1
    ·rw [if_pos (by simpa using c3)]
     exact wpS_pure ⟨g2,.inl ⟨_,_,rfl,fin2 g2 m3 c3⟩⟩
    ·rw [if_neg (by simpa using c3)]
     split
     ·exact wpS_pure ⟨g2,.inr ⟨_,_,_,_,_,rfl,m3,by omega,by omega,by omega,by omega,by omega⟩⟩
     ·exact wpS_pure ⟨g2,_,_,_,_,_,rfl,m3,by omega,by omega,by omega,by omega,by omega⟩
  case i3 =>
   rintro c st2 ⟨g2,⟨r,c',rfl,hq⟩ | ⟨o2,i2,j2,ca,cb,rfl,m2,p1,p2,p3,p4,p5⟩⟩
   ·exact wpS_pure ⟨r,_,rfl,hq⟩
   ·extract_lets
    refine wpS_bind (wpS_lift (wpAny_rule ⟨rfl,?_⟩))
    extract_lets gz
    refine wpS_bind (wpS_mono (wpS_forRange (I:=fun x c st3=>SG st st3∧∃ o3 i3 j3 g3 ca cb,c=(none,i3,j3,o3,g3,ca,cb)∧Mh a.toList b.toList o3.toList i3 j3∧1≤i3∧2≤j3∧i3≤a.size∧j3≤b.size∧x+i3+j3≤i2+j2)
     (Q:=fun c st3=>SG st st3∧((∃ r c',c=(some r,c')∧Q r st3)∨∃ o3 i3 j3 g3 ca cb,c=(none,i3,j3,o3,g3,ca,cb)∧Mh a.toList b.toList o3.toList i3 j3∧1≤i3∧2≤j3∧i3≤a.size∧j3≤b.size∧i3+j3≤i2+j2)) ?j1 ?j2 ⟨g2,o2,i2,j2,_,ca,cb,rfl,m2,p1,p2,p3,p4,by omega⟩) ?j3)
    case j2 =>
     rintro c st3 ⟨g3,o3,i3,j3,gg3,ca,cb,rfl,m3,r1,r2,r3,r4,r5⟩
     have r5:a.size+b.size+i3+j3≤i2+j2:=r5
     omega
    case j3 =>
     rintro c st3 ⟨g3,⟨r,c',rfl,hq⟩ | ⟨o3,i3,j3,gg3,ca,cb,rfl,m3,r1,r2,r3,r4,r5⟩⟩
     ·exact wpS_pure ⟨r,_,rfl,hq⟩
     ·extract_lets
      exact wpS_bind (setGX fun st4 g4=>wpS_pure ⟨g3.trans g4,o3,i3,j3,_,rfl,m3,r1,r2,r3,r4,by omega⟩)
    case j1 =>
     rintro x3 c st3 _ hx3 ⟨g3,o3,i3,j3,gg3,ca,cb,rfl,m3,r1,r2,r3,r4,r5⟩
     refine wpS_mono (Q:=(fun r st4=>SG st st4∧((∃ rr c',r=.done (some rr,c')∧Q rr st4)∨∃ o4 i4 j4 g4 ca4 cb4,(r=.done (none,i4,j4,o4,g4,ca4,cb4)∨r=.yield (none,i4,j4,o4,g4,ca4,cb4))∧Mh a.toList b.toList o4.toList i4 j4∧1≤i4∧2≤j4∧i4≤a.size∧j4≤b.size∧x3+1+i4+j4≤i2+j2))) ?_ ?_
     rotate_left
     ·rintro _ st4 ⟨g4,⟨rr,c',rfl,hq⟩ | ⟨o4,i4,j4,gg4,ca4,cb4,rfl | rfl,m4,q1,q2,q3,q4,q5⟩⟩
      ·exact ⟨g4,.inl ⟨rr,c',rfl,hq⟩⟩
      ·exact ⟨g4,.inr ⟨o4,i4,j4,gg4,ca4,cb4,rfl,m4,q1,q2,q3,q4,by omega⟩⟩
      ·exact ⟨g4,o4,i4,j4,gg4,ca4,cb4,rfl,m4,q1,q2,q3,q4,by omega⟩
     extract_lets z1 z2 z3 z4 z5 z6 z7 z8 z9 z10 z11 z12 jp z13
     have hjp:∀ u g,wpS (model prog w) A E s (jp u g) (fun r st4=>SG st st4∧((∃ rr c',r=.done (some rr,c')∧Q rr st4)∨∃ o4 i4 j4 g4 ca4 cb4,(r=.done (none,i4,j4,o4,g4,ca4,cb4)∨r=.yield (none,i4,j4,o4,g4,ca4,cb4))∧Mh a.toList b.toList o4.toList i4 j4∧1≤i4∧2≤j4∧i4≤a.size∧j4≤b.size∧x3+1+i4+j4≤i2+j2)) st3:=by
      intro u g
      obtain ⟨kb,tb,qb,eb,_⟩:=int_of ib0 (show j3 - 1<b.size by omega)
      refine wpS_bind (setGX fun st4 g4=>?_)
      refine wpS_bind (elemX eb ?_)
      have hk4:kindOf st4=oneType':=g4.kind.trans (g3.kind.trans hk)
      have g34:=g3.trans g4
      refine wpS_bind (galX hk4 ia0 (by show 0+i3≤_;omega) (by show i3 - 1<i3;omega) (srt_so sA (by show 0+i3≤_;omega)) fun k hk1 hk2 hk3=>?_)
      have hk1:k≤i3:=hk1
      have hk2:∀ n,n<k→K a (0+n)≤kb:=hk2
      have hk3:∀ n,k≤n→n<i3→¬ K a (0+n)≤kb:=hk3
      have lowk:∀ y∈a.toList.take k,ky y≤kb:=fun y hy=>by
       obtain ⟨n,hn,e⟩:=mem_takeT hy
       have:=hk2 n hn
       rwa [Nat.zero_add,ky_at (by rw [← Array.getElem?_toList];exact e)] at this
      have upk:∀ x∈(a.toList.take i3).drop k,∀ y∈b.toList.take j3,ky y≤ky x:=fun x hx y hy=>by
       obtain ⟨n,hn1,hn2,e⟩:=mem_td hx
       have:=hk3 n hn1 hn2
       rw [Nat.zero_add,ky_at (by rw [← Array.getElem?_toList];exact e)] at this
       have:=kB (by omega) eb y hy
       omega
      dsimp -zeta only
      extract_lets y1 y2 jp2 y3
      have hjp2:∀ u i o,i≤i3→1≤i→Mh a.toList b.toList o.toList i j3→(∀ y∈a.toList.take i,ky y≤kb)→wpS (model prog w) A E s (jp2 u i o) (fun r st4=>SG st st4∧((∃ rr c',r=.done (some rr,c')∧Q rr st4)∨∃ o4 i4 j4 g4 ca4 cb4,(r=.done (none,i4,j4,o4,g4,ca4,cb4)∨r=.yield (none,i4,j4,o4,g4,ca4,cb4))∧Mh a.toList b.toList o4.toList i4 j4∧1≤i4∧2≤j4∧i4≤a.size∧j4≤b.size∧x3+1+i4+j4≤i2+j2)) st4:=by
       intro u i o hii hi1 m4 hlo
       refine wpS_bind (elemX eb ?_)
       have m5:=oB (by omega) m4 eb hlo
       by_cases c3:j3 - 1=1
       ·rw [if_pos (by show (j3 - 1 == 1)=true;simpa using c3)]
        exact wpS_pure ⟨g34,.inl ⟨_,_,rfl,fin2 (j:=j3 - 1) g34 m5 c3⟩⟩
       rw [if_neg (by show ¬ (j3 - 1 == 1)=true;simpa using c3)]
       obtain ⟨ka,ta,qa,ea,_⟩:=int_of ia0 (show i - 1<a.size by omega)
       refine wpS_bind (elemX ea ?_)
       refine wpS_bind (galX hk4 ib0 (by show 0+(j3 - 1)≤_;omega) (by show j3 - 1 - 1<j3 - 1;omega) (srt_so sB (by show 0+(j3 - 1)≤_;omega)) fun k' hq1 hq2 hq3=>?_)
       have hq1:k'≤j3 - 1:=hq1
       have hq2:∀ n,n<k'→K b (0+n)<ka:=hq2
       have hq3:∀ n,k'≤n→n<j3 - 1→¬ K b (0+n)<ka:=hq3
       have low2:∀ y∈b.toList.take k',ky y≤ka:=fun y hy=>by
        obtain ⟨n,hn,e⟩:=mem_takeT hy
        have:=hq2 n hn
        rw [Nat.zero_add,ky_at (by rw [← Array.getElem?_toList];exact e)] at this
        omega
       have up2:∀ x∈(b.toList.take (j3 - 1)).drop k',∀ y∈a.toList.take i,ky y≤ky x:=fun x hx y hy=>by
        obtain ⟨n,hn1,hn2,e⟩:=mem_td hx
        have:=hq3 n hn1 hn2
        rw [Nat.zero_add,ky_at (by rw [← Array.getElem?_toList];exact e)] at this
        have:=kA hi1 ea y hy
        omega
       dsimp -zeta only
       extract_lets w1 w2 w3 jp3 w5 w6
       have hjp3:∀ u j o,j≤j3 - 1→2≤j→Mh a.toList b.toList o.toList i j→(∀ y∈b.toList.take j,ky y≤ka)→wpS (model prog w) A E s (jp3 u j o) (fun r st4=>SG st st4∧((∃ rr c',r=.done (some rr,c')∧Q rr st4)∨∃ o4 i4 j4 g4 ca4 cb4,(r=.done (none,i4,j4,o4,g4,ca4,cb4)∨r=.yield (none,i4,j4,o4,g4,ca4,cb4))∧Mh a.toList b.toList o4.toList i4 j4∧1≤i4∧2≤j4∧i4≤a.size∧j4≤b.size∧x3+1+i4+j4≤i2+j2)) st4:=by
        intro u j o hjj hj2 m6 hlo2
        refine wpS_bind (elemX ea ?_)
        have m7:=oA hi1 m6 ea hlo2
        by_cases c4:i - 1=0
        ·rw [if_pos (by show (i - 1 == 0)=true;simpa using c4)]
         exact wpS_pure ⟨g34,.inl ⟨_,_,rfl,fin1 (i:=i - 1) g34 m7 (.inl c4)⟩⟩
        rw [if_neg (by show ¬ (i - 1 == 0)=true;simpa using c4)]
        split
        ·exact wpS_pure ⟨g34,.inr ⟨_,i - 1,j,_,_,_,.inl rfl,m7,by omega,by omega,by omega,by omega,by omega⟩⟩
        ·exact wpS_pure ⟨g34,.inr ⟨_,i - 1,j,_,_,_,.inr rfl,m7,by omega,by omega,by omega,by omega,by omega⟩⟩
       by_cases c5:j3 - 1 - k' > 0
       ·rw [if_pos c5]
        have m8:Mh a.toList b.toList (o.push (.int kb tb,qb) ++ (b.extract k' (j3 - 1)).reverse).toList i k':=by
         rw [Array.toList_append,lb]
         exact m5.runB sB (by omega) up2
        by_cases c6:k'=1
        ·rw [if_pos (by show (k' == 1)=true;simpa using c6)]
         exact wpS_pure ⟨g34,.inl ⟨_,_,rfl,fin2 (j:=k') g34 m8 c6⟩⟩
        rw [if_neg (by show ¬ (k' == 1)=true;simpa using c6)]
        by_cases c7:k'=0
        ·rw [if_pos (by show (k' == 0)=true;simpa using c7)]
         exact wpS_pure ⟨g34,.inl ⟨_,_,rfl,fin1 (j:=k') g34 m8 (.inr c7)⟩⟩
        rw [if_neg (by show ¬ (k' == 0)=true;simpa using c7)]
        exact hjp3 () k' _ (by omega) (by omega) m8 low2
       ·rw [if_neg c5]
        have k0:k'=j3 - 1:=by omega
        rw [k0] at low2
        exact hjp3 () (j3 - 1) _ (Nat.le_refl _) (by omega) m5 low2
      by_cases c7:i3 - k > 0
      ·rw [if_pos c7]
       have m9:Mh a.toList b.toList (o3 ++ (a.extract k i3).reverse).toList k j3:=by
        rw [Array.toList_append,lb]
        exact m3.runA sA (by omega) upk
       by_cases c8:k=0
       ·rw [if_pos (by show (k == 0)=true;simpa using c8)]
        exact wpS_pure ⟨g34,.inl ⟨_,_,rfl,fin1 (i:=k) g34 m9 (.inl c8)⟩⟩
       rw [if_neg (by show ¬ (k == 0)=true;simpa using c8)]
       exact hjp2 () k _ (by omega) (by omega) m9 lowk
      ·rw [if_neg c7]
       have k0:k=i3:=by omega
       rw [k0] at lowk
       exact hjp2 () i3 _ (Nat.le_refl _) r1 m3 lowk
     split
     ·exact hjp () _
     ·exact hjp () _
end
end SR
namespace SR
open PySem PyProof.Rows
def wr (sa:Nat) (l:List (Keyed × Nat)) (xs:Array Keyed):Array Keyed:=l.foldl (fun a q=>a.setIfInBounds (sa+q.2) q.1) xs
theorem wr_get (sa:Nat):∀ (l:List Keyed) (n:Nat) (xs:Array Keyed),sa+n+l.length≤xs.size→∀ j,(wr sa (l.zipIdx n) xs)[j]? = if sa+n≤j∧j<sa+n+l.length then l[j - (sa+n)]? else xs[j]?
 | [],n,xs,_,j=>by
  rw [if_neg (by simp only [List.length_nil];omega)]
  rfl
 | x :: l,n,xs,h,j=>by
  rw [List.length_cons] at h
  have:=wr_get sa l (n+1) (xs.setIfInBounds (sa+n) x) (by rw [Array.size_setIfInBounds];omega) j
  show (wr sa ((x,n) :: l.zipIdx (n+1)) xs)[j]? = _
  show (wr sa (l.zipIdx (n+1)) (xs.setIfInBounds (sa+n) x))[j]? = _
  rw [this,List.length_cons]
  by_cases h1:sa+(n+1)≤j∧j<sa+(n+1)+l.length
  ·rw [if_pos h1,if_pos (by omega),show j - (sa+n)=j - (sa+(n+1))+1 by omega,List.getElem?_cons_succ]
  ·rw [if_neg h1]
   by_cases h2:j=sa+n
   ·subst h2
    rw [if_pos (by omega),Nat.sub_self,List.getElem?_cons_zero,Array.getElem?_setIfInBounds_self_of_lt (by omega)]
   ·rw [if_neg (by omega),Array.getElem?_setIfInBounds_ne (by omega)]
theorem wr_list {sa:Nat}{l:List Keyed}{xs:Array Keyed} (h:sa+l.length≤xs.size):(wr sa l.zipIdx xs).toList=xs.toList.take sa ++ l ++ xs.toList.drop (sa+l.length):=by
 refine List.ext_getElem? fun j=>?_
 have e:=wr_get sa l 0 xs (by omega) j
 rw [Nat.add_zero] at e
 rw [Array.getElem?_toList,e]
 have sz:xs.toList.length=xs.size:=Array.length_toList
 have tk:(xs.toList.take sa).length=sa:=by rw [List.length_take];omega
 rcases Nat.lt_or_ge j sa with z | z
 ·rw [if_neg (by omega),List.append_assoc,List.getElem?_append_left (by omega),List.getElem?_take_of_lt z,Array.getElem?_toList]
 ·rcases Nat.lt_or_ge j (sa+l.length) with y | y
  ·rw [if_pos (by omega),List.append_assoc,List.getElem?_append_right (by omega),tk,List.getElem?_append_left (by omega)]
  ·rw [if_neg (by omega),List.getElem?_append_right (by rw [List.length_append];omega),List.length_append,tk,List.getElem?_drop,Array.getElem?_toList]
   congr 1
   omega
theorem wr_perm {sa:Nat}{l:List Keyed}{xs:Array Keyed} (h:sa+l.length≤xs.size) (hp:l.Perm ((xs.toList.drop sa).take l.length)):(wr sa l.zipIdx xs).Perm xs:=by
 refine Array.perm_iff_toList_perm.mpr ?_
 rw [wr_list h]
 have e:xs.toList=xs.toList.take sa ++ (xs.toList.drop sa).take l.length ++ xs.toList.drop (sa+l.length):=by
  conv=>lhs;rw [← List.take_append_drop (sa+l.length) xs.toList,List.take_add]
 refine List.Perm.trans ?_ (List.Perm.of_eq e.symm)
 exact List.Perm.append_right _ (List.Perm.append_left _ hp)
theorem so_srt {xs:Array Keyed}{lo n:Nat} (h:So xs lo (lo+n)) (hs:lo+n≤xs.size):Srt ((xs.toList.drop lo).take n):=by
 refine List.pairwise_iff_getElem.mpr fun i j hi hj hij=>?_
 rw [List.length_take] at hi hj
 have g:∀ m (hm:m<((xs.toList.drop lo).take n).length),ky ((xs.toList.drop lo).take n)[m]=K xs (lo+m):=fun m hm=>by
  rw [List.length_take] at hm
  refine (ky_at ?_).symm
  rw [← Array.getElem?_toList,← List.getElem?_drop,← List.getElem?_take_of_lt (show m<n by omega)]
  exact List.getElem?_eq_getElem _
 rw [g i,g j]
 exact h _ _ (by omega) (by omega) (by omega)
theorem ext_list {xs:Array Keyed}{lo n:Nat}:(xs.extract lo (lo+n)).toList=(xs.toList.drop lo).take n:=by
 rw [Array.toList_extract,List.extract_eq_take_drop,show lo+n - lo=n by omega]
theorem ext_size {xs:Array Keyed}{lo n:Nat} (h:lo+n≤xs.size):(xs.extract lo (lo+n)).size=n:=by rw [Array.size_extract];omega
theorem ext_ints {xs:Array Keyed}{lo hi:Nat} (h0:IntKeys xs):IntKeys (xs.extract lo hi):=fun q hq=>h0 q (by
 rw [Array.toList_extract,List.extract_eq_take_drop] at hq
 exact List.mem_of_mem_drop (List.mem_of_mem_take hq))
theorem mer_eq (i:Nat):mergeAt' i=(do
 let u ← get
 let (some (sa,na,pw),some (sb,nb,_)):=((pendingOf u)[i]?,(pendingOf u)[i+1]?) | unsupported "internal:list.sort.pending"
 set (setPending u (((pendingOf u).setIfInBounds i (sa,na+nb,pw)).eraseIdxIfInBounds (i+1)))
 let some k ← gallop' false (← elem' (arrOf u) sb) (arrOf u) sa na 0 | return false
 let (sa,na):=(sa+k,na - k)
 if na == 0 then return true
 let some nb ← gallop' true (← elem' (arrOf u) (sa+na - 1)) (arrOf u) sb nb (nb - 1) | return false
 if nb == 0 then return true
 let x:=(arrOf u).extract sa sb
 let y:=(arrOf u).extract sb (sb+nb)
 let m ← if na≤nb then mergeLo' x y else mergeHi' x y
 modify fun u=>setArr u (wr sa m.toList.zipIdx (arrOf u))
 return (failedOf (← get)).isNone):=rfl
section
variable {prog:Program}{w:World}{A:Around}{E:Value→Shared→Prop}{s:Shared}{st:SortSt}{a₀:Array Keyed}{p:Array (Nat × Nat × Nat)}
theorem setX {st':SortSt}{Q:PUnit→SortSt→Prop} (h:Q ⟨⟩ st'):wpS (model prog w) A E s (set st':StateT SortSt Sem PUnit) Q st:=by
 unfold wpS
 rw [StateT.run_set]
 exact wpAny_pure ⟨rfl,h⟩
theorem merX {i sa na nb pw pw2:Nat}{Q:Bool→SortSt→Prop} (h0:IntKeys a₀) (hB:SX a₀ p st) (hp1:p[i]? = some (sa,na,pw)) (hp2:p[i+1]? = some (sa+na,nb,pw2)) (hna:0<na) (hnb:0<nb) (hsz:sa+na+nb≤a₀.size)
  (s1:So (arrOf st) sa (sa+na)) (s2:So (arrOf st) (sa+na) (sa+na+nb))
  (h:∀ st',SX a₀ ((p.setIfInBounds i (sa,na+nb,pw)).eraseIdxIfInBounds (i+1)) st'→(∀ j,j<sa∨sa+na+nb≤j→(arrOf st')[j]? = (arrOf st)[j]?)→So (arrOf st') sa (sa+na+nb)→Q true st') :
  wpS (model prog w) A E s (mergeAt' i) Q st:=by
 rw [mer_eq]
 refine wpS_bind (wpS_get ?_)
 rw [hB.pend,hp1,hp2]
 dsimp only
 have hI:=hB.ints h0
 have hS:=hB.size
 have hPm:=hB.perm
 have hKd:=hB.kind
 have hFl:=hB.failed
 refine wpS_bind (setX ?_)
 have hX1:SX a₀ ((p.setIfInBounds i (sa,na+nb,pw)).eraseIdxIfInBounds (i+1)) (setPending st ((p.setIfInBounds i (sa,na+nb,pw)).eraseIdxIfInBounds (i+1))):=⟨hPm,hKd,hFl,rfl⟩
 have hA1:arrOf (setPending st ((p.setIfInBounds i (sa,na+nb,pw)).eraseIdxIfInBounds (i+1)))=arrOf st:=rfl
 generalize setPending st ((p.setIfInBounds i (sa,na+nb,pw)).eraseIdxIfInBounds (i+1))=st1 at hX1 hA1
 generalize (p.setIfInBounds i (sa,na+nb,pw)).eraseIdxIfInBounds (i+1)=p1 at hX1 h
 generalize arrOf st=xs at *
 obtain ⟨kb,tb,qb,eb,hkb⟩:=int_of hI (show sa+na<xs.size by omega)
 refine wpS_bind (elemX eb ?_)
 refine wpS_bind (galX hX1.kind hI (by omega) hna s1 fun k hk1 hk2 hk3=>?_)
 dsimp only
 have hk2:∀ n,n<k→K xs (sa+n)≤kb:=hk2
 have hk3:∀ n,k≤n→n<na→¬ K xs (sa+n)≤kb:=hk3
 have hbB:∀ j,sa+na≤j→j<sa+na+nb→kb≤K xs j:=fun j g1 g2=>by rw [← hkb];exact s2 _ _ (Nat.le_refl _) g1 g2
 by_cases c1:na - k=0
 ·rw [if_pos (by simpa using c1)]
  refine wpS_pure (h st1 hX1 (fun j _=>by rw [hA1]) fun i' j' hl hij hj=>?_)
  rw [hA1]
  rcases Nat.lt_or_ge j' (sa+na) with z | z
  ·exact s1 _ _ hl hij z
  ·rcases Nat.lt_or_ge i' (sa+na) with y | y
   ·have:=hk2 (i' - sa) (by omega)
    rw [show sa+(i' - sa)=i' by omega] at this
    exact Int.le_trans this (hbB j' z hj)
   ·exact s2 _ _ y hij hj
 rw [if_neg (by simpa using c1)]
 obtain ⟨kl,tl,ql,el,hkl⟩:=int_of hI (show sa+k+(na - k) - 1<xs.size by omega)
 have elast:sa+k+(na - k) - 1=sa+na - 1:=by omega
 rw [elast] at hkl
 refine wpS_bind (elemX el ?_)
 refine wpS_bind (galX hX1.kind hI (by omega) (show nb - 1<nb by omega) s2 fun nc hq1 hq2 hq3=>?_)
 dsimp only
 have hq2:∀ n,n<nc→K xs (sa+na+n)<kl:=hq2
 have hq3:∀ n,nc≤n→n<nb→¬ K xs (sa+na+n)<kl:=hq3
 have hlA:∀ j,sa≤j→j<sa+na→K xs j≤kl:=fun j g1 g2=>by rw [← hkl];exact s1 _ _ g1 (by omega) (by omega)
 by_cases c2:nc=0
 ·rw [if_pos (by simpa using c2)]
  refine wpS_pure (h st1 hX1 (fun j _=>by rw [hA1]) fun i' j' hl hij hj=>?_)
  rw [hA1]
  rcases Nat.lt_or_ge j' (sa+na) with z | z
  ·exact s1 _ _ hl hij z
  ·rcases Nat.lt_or_ge i' (sa+na) with y | y
   ·have:=hq3 (j' - (sa+na)) (by omega) (by omega)
    rw [show sa+na+(j' - (sa+na))=j' by omega] at this
    have:=hlA i' hl y
    omega
   ·exact s2 _ _ y hij hj
 rw [if_neg (by simpa using c2)]
 have eX:xs.extract (sa+k) (sa+na)=xs.extract (sa+k) (sa+k+(na - k)):=by rw [show sa+k+(na - k)=sa+na by omega]
 rw [eX]
 have lX:(xs.extract (sa+k) (sa+k+(na - k))).toList=(xs.toList.drop (sa+k)).take (na - k):=ext_list
 have lY:(xs.extract (sa+na) (sa+na+nc)).toList=(xs.toList.drop (sa+na)).take nc:=ext_list
 have zX:(xs.extract (sa+k) (sa+k+(na - k))).size=na - k:=ext_size (by omega)
 have zY:(xs.extract (sa+na) (sa+na+nc)).size=nc:=ext_size (by omega)
 have sX:Srt (xs.extract (sa+k) (sa+k+(na - k))).toList:=by rw [lX];exact so_srt (fun i' j' a1 a2 a3=>s1 _ _ (by omega) a2 (by omega)) (by omega)
 have sY:Srt (xs.extract (sa+na) (sa+na+nc)).toList:=by rw [lY];exact so_srt (fun i' j' a1 a2 a3=>s2 _ _ a1 a2 (by omega)) (by omega)
 have inX:∀ q∈(xs.extract (sa+k) (sa+k+(na - k))).toList,∃ j,sa+k≤j∧j<sa+na∧K xs j=ky q:=fun q hq=>by
  rw [lX] at hq
  obtain ⟨m,hm,e⟩:=mem_takeK hq
  exact ⟨sa+k+m,by omega,by omega,ky_at (by rw [← Array.getElem?_toList];exact e)⟩
 have inY:∀ q∈(xs.extract (sa+na) (sa+na+nc)).toList,∃ j,sa+na≤j∧j<sa+na+nc∧K xs j=ky q:=fun q hq=>by
  rw [lY] at hq
  obtain ⟨m,hm,e⟩:=mem_takeK hq
  exact ⟨sa+na+m,by omega,by omega,ky_at (by rw [← Array.getElem?_toList];exact e)⟩
 have lowX:∀ q∈(xs.extract (sa+k) (sa+k+(na - k))).toList,kb<ky q:=fun q hq=>by
  obtain ⟨j,j1,j2,e⟩:=inX q hq
  have:=hk3 (j - sa) (by omega) (by omega)
  rw [show sa+(j - sa)=j by omega] at this
  omega
 have hf:∀ x∈(xs.extract (sa+na) (sa+na+nc)).toList.take 1,∀ y∈(xs.extract (sa+k) (sa+k+(na - k))).toList,ky x≤ky y:=fun x hx y hy=>by
  have h1:=lowX y hy
  rw [lY,List.take_take,Nat.min_eq_left (by omega)] at hx
  obtain ⟨m,hm,e⟩:=mem_takeK hx
  have:K xs (sa+na)=ky x:=ky_at (by rw [← Array.getElem?_toList,show sa+na=sa+na+m by omega];exact e)
  omega
 have hl:∀ x∈(xs.extract (sa+na) (sa+na+nc)).toList,∀ y∈(xs.extract (sa+k) (sa+k+(na - k))).toList.drop ((xs.extract (sa+k) (sa+k+(na - k))).size - 1),ky x≤ky y:=fun x hx y hy=>by
  obtain ⟨j,j1,j2,e⟩:=inY x hx
  have h1:=hq2 (j - (sa+na)) (by omega)
  rw [show sa+na+(j - (sa+na))=j by omega] at h1
  rw [zX,lX] at hy
  obtain ⟨m,hm,e2⟩:=mem_dropK hy
  rw [List.getElem?_take] at e2
  split at e2
  ·rw [List.getElem?_drop] at e2
   have:K xs (sa+na - 1)=ky y:=ky_at (by rw [← Array.getElem?_toList,show sa+na - 1=sa+k+m by omega];exact e2)
   omega
  ·cases e2
 have fin:∀ (o:Array Keyed) (st':SortSt),SG st1 st'→Srt o.toList→o.toList.Perm ((xs.extract (sa+k) (sa+k+(na - k))).toList ++ (xs.extract (sa+na) (sa+na+nc)).toList) →
   wpS (model prog w) A E s (do modify fun u=>setArr u (wr (sa+k) o.toList.zipIdx (arrOf u));let v ← get;pure (failedOf v).isNone) Q st':=fun o st' g so po=>by
  have hol:o.toList.length=(na - k)+nc:=by rw [po.length_eq,List.length_append,Array.length_toList,Array.length_toList,zX,zY]
  have ear:arrOf st'=xs:=g.arr.trans hA1
  refine wpS_bind (wpS_modify (wpS_bind (wpS_get (wpS_pure ?_))))
  have efl:failedOf (setArr st' (wr (sa+k) o.toList.zipIdx (arrOf st')))=none:=g.fail.trans hX1.failed
  rw [efl,ear]
  have hle:sa+k+o.toList.length≤xs.size:=by omega
  have hperm:(wr (sa+k) o.toList.zipIdx xs).Perm xs:=wr_perm hle (by
   refine po.trans (List.Perm.of_eq ?_)
   rw [hol,lX,lY,List.take_add,List.drop_drop,show sa+k+(na - k)=sa+na by omega])
  have get:=wr_get (sa+k) o.toList 0 xs (by omega)
  simp only [Nat.add_zero] at get
  have kin:∀ j,sa+k≤j→j<sa+na+nc→∃ q,o.toList[j - (sa+k)]? = some q∧K (wr (sa+k) o.toList.zipIdx xs) j=ky q:=fun j g1 g2=>by
   have hj:j - (sa+k)<o.toList.length:=by omega
   refine ⟨_,List.getElem?_eq_getElem hj,ky_at ?_⟩
   rw [get,if_pos (by omega)]
   exact List.getElem?_eq_getElem hj
  have kout:∀ j,j<sa+k∨sa+na+nc≤j→K (wr (sa+k) o.toList.zipIdx xs) j=K xs j:=fun j g1=>K_congr (by rw [get,if_neg (by omega)])
  have lo1:∀ q∈o.toList,kb≤ky q:=fun q hq=>by
   rcases List.mem_append.mp (po.mem_iff.mp hq) with z | z
   ·have:=lowX q z;omega
   ·obtain ⟨j,j1,j2,e⟩:=inY q z
    have:=hbB j j1 (by omega)
    omega
  have lo2:∀ q∈o.toList,∀ t,sa≤t→t<sa+k→K xs t≤ky q:=fun q hq t t1 t2=>by
   have h1:=hk2 (t - sa) (by omega)
   rw [show sa+(t - sa)=t by omega] at h1
   have:=lo1 q hq
   omega
  have up1:∀ q∈o.toList,∀ t,sa+na+nc≤t→t<sa+na+nb→ky q≤K xs t:=fun q hq t t1 t2=>by
   have h1:=hq3 (t - (sa+na)) (by omega) (by omega)
   rw [show sa+na+(t - (sa+na))=t by omega] at h1
   rcases List.mem_append.mp (po.mem_iff.mp hq) with z | z
   ·obtain ⟨j,j1,j2,e⟩:=inX q z
    have:=hlA j (by omega) j2
    omega
   ·obtain ⟨j,j1,j2,e⟩:=inY q z
    rw [← e]
    exact s2 _ _ j1 (by omega) t2
  refine h _ ⟨hperm.trans hPm,g.kind.trans hX1.kind,efl,g.pend.trans hX1.pend⟩ (fun j hj=>?_) fun i' j' l1 l2 l3=>?_
  ·show (wr (sa+k) o.toList.zipIdx xs)[j]? = xs[j]?
   rw [get,if_neg (by omega)]
  ·show K (wr (sa+k) o.toList.zipIdx xs) i'≤K (wr (sa+k) o.toList.zipIdx xs) j'
   rcases Nat.lt_or_ge i' (sa+k) with y | y
   ·rw [kout i' (.inl y)]
    rcases Nat.lt_or_ge j' (sa+k) with z | z
    ·rw [kout j' (.inl z)]
     exact s1 _ _ l1 l2 (by omega)
    ·rcases Nat.lt_or_ge j' (sa+na+nc) with v | v
     ·obtain ⟨q,hq,e⟩:=kin j' z v
      rw [e]
      exact lo2 q (List.mem_of_getElem? hq) i' l1 y
     ·rw [kout j' (.inr v)]
      have h1:=hk2 (i' - sa) (by omega)
      rw [show sa+(i' - sa)=i' by omega] at h1
      exact Int.le_trans h1 (hbB j' (by omega) l3)
   ·rcases Nat.lt_or_ge i' (sa+na+nc) with u | u
    ·obtain ⟨q,hq,e⟩:=kin i' y u
     rw [e]
     rcases Nat.lt_or_ge j' (sa+na+nc) with v | v
     ·obtain ⟨r,hr,e2⟩:=kin j' (by omega) v
      rw [e2]
      rcases Nat.eq_or_lt_of_le l2 with z | z
      ·subst z
       rw [hq] at hr
       cases hr
       exact Int.le_refl _
      ·obtain ⟨a1,a2⟩:=List.getElem?_eq_some_iff.mp hq
       obtain ⟨b1,b2⟩:=List.getElem?_eq_some_iff.mp hr
       rw [← a2,← b2]
       exact List.pairwise_iff_getElem.mp so _ _ a1 b1 (by omega)
     ·rw [kout j' (.inr v)]
      exact up1 q (List.mem_of_getElem? hq) j' v l3
    ·rw [kout i' (.inr u),kout j' (.inr (by omega))]
     exact s2 _ _ (by omega) l2 l3
 split
 ·exact wpS_bind (loX hX1.kind (ext_ints hI) (ext_ints hI) sX sY (by omega) (by omega) hf hl fin)
 ·exact wpS_bind (hiX hX1.kind (ext_ints hI) (ext_ints hI) sX sY (by omega) (by omega) hf hl fin)
end
end SR
namespace SR
open PySem PyProof.Rows
def Chain (xs:Array Keyed):Nat→Nat→List (Nat × Nat × Nat)→Prop
 | b,e,[]=>b=e
 | b,e,(s,n,_) :: r=>s=b∧0<n∧So xs s (s+n)∧Chain xs (b+n) e r
theorem Chain.le {xs:Array Keyed}:∀ {l:List (Nat × Nat × Nat)}{b e:Nat},Chain xs b e l→b+l.length≤e
 | [],b,e,h=>by rw [show b=e from h];exact Nat.le_refl _
 | (s,n,p) :: r,b,e,h=>by
  obtain ⟨_,hn,_,h⟩:=h
  have:=h.le
  rw [List.length_cons]
  omega
theorem Chain.same {xs ys:Array Keyed}:∀ {l:List (Nat × Nat × Nat)}{b e:Nat},(∀ j,b≤j→j<e→K ys j=K xs j)→Chain xs b e l→Chain ys b e l
 | [],b,e,_,h=>h
 | (s,n,p) :: r,b,e,hk,h=>by
  obtain ⟨rfl,hn,hs,h⟩:=h
  have hle:=h.le
  refine ⟨rfl,hn,fun i j h1 h2 h3=>?_,h.same fun j h1 h2=>hk j (by omega) h2⟩
  rw [hk i (by omega) (by omega),hk j (by omega) (by omega)]
  exact hs i j h1 h2 h3
theorem Chain.snoc {xs:Array Keyed}{n p:Nat}:∀ {l:List (Nat × Nat × Nat)}{b e:Nat},Chain xs b e l→0<n→So xs e (e+n)→Chain xs b (e+n) (l ++ [(e,n,p)])
 | [],b,e,h,hn,hs=>by
  have h:b=e:=h
  subst h
  exact ⟨rfl,hn,hs,rfl⟩
 | (s,m,q) :: r,b,e,h,hn,hs=>by
  obtain ⟨h1,h2,h3,h4⟩:=h
  exact ⟨h1,h2,h3,h4.snoc hn hs⟩
theorem Chain.at {xs:Array Keyed}:∀ {l:List (Nat × Nat × Nat)}{b e:Nat} (i:Nat),Chain xs b e l→i+1<l.length→∃ sa na nb pw pw2,l[i]? = some (sa,na,pw)∧l[i+1]? = some (sa+na,nb,pw2)∧0<na∧0<nb∧b≤sa∧sa+na+nb≤e∧So xs sa (sa+na)∧So xs (sa+na) (sa+na+nb) ∧
  ∀ ys:Array Keyed,(∀ j,j<sa∨sa+na+nb≤j→K ys j=K xs j)→So ys sa (sa+na+nb)→Chain ys b e ((l.set i (sa,na+nb,pw)).eraseIdx (i+1))
 | [],_,_,i,_,h=>by simp at h
 | [_],_,_,i,_,h=>by simp at h
 | (s,n,p) :: (s2,n2,p2) :: r,b,e,0,h,_=>by
  obtain ⟨rfl,h1,h2,rfl,h3,h4,h5⟩:=h
  have hle:=h5.le
  refine ⟨s,n,n2,p,p2,rfl,rfl,h1,h3,Nat.le_refl _,by omega,h2,h4,fun ys hk hs=>?_⟩
  refine ⟨rfl,by omega,by rw [← Nat.add_assoc];exact hs,?_⟩
  rw [← Nat.add_assoc]
  exact h5.same fun j g1 g2=>hk j (.inr g1)
 | (s,n,p) :: x :: r,b,e,i+1,h,hi=>by
  obtain ⟨rfl,h1,h2,h3⟩:=h
  obtain ⟨sa,na,nb,pw,pw2,e1,e2,g1,g2,g3,g4,g5,g6,g7⟩:=h3.at i (by simpa using hi)
  refine ⟨sa,na,nb,pw,pw2,e1,e2,g1,g2,by omega,g4,g5,g6,fun ys hk hs=>?_⟩
  refine ⟨rfl,h1,fun i' j' l1 l2 l3=>?_,g7 ys hk hs⟩
  rw [hk i' (.inl (by omega)),hk j' (.inl (by omega))]
  exact h2 i' j' l1 l2 l3
theorem Chain.pow {xs:Array Keyed}{pw:Nat}{f:Nat × Nat × Nat→Nat × Nat × Nat} (hf:∀ x,f x=(x.1,x.2.1,pw)):∀ {l:List (Nat × Nat × Nat)}{b e:Nat} (k:Nat),Chain xs b e l→Chain xs b e (l.modify k f)
 | [],b,e,k,h=>by cases k <;> exact h
 | (s,n,p) :: r,b,e,0,h=>by
  show Chain xs b e (f (s,n,p) :: r)
  rw [hf]
  exact h
 | (s,n,p) :: r,b,e,k+1,h=>⟨h.1,h.2.1,h.2.2.1,h.2.2.2.pow hf k⟩
section
variable {prog:Program}{w:World}{A:Around}{E:Value→Shared→Prop}{s:Shared}{st:SortSt}{a₀:Array Keyed}
structure SP (a₀:Array Keyed) (lo:Nat) (st:SortSt):Prop where
 perm:(arrOf st).Perm a₀
 kind:kindOf st=oneType'
 failed:failedOf st=none
 chain:Chain (arrOf st) 0 lo (pendingOf st).toList
theorem SP.sx {lo:Nat} (h:SP a₀ lo st):SX a₀ (pendingOf st) st:=⟨h.perm,h.kind,h.failed,rfl⟩
theorem stepX {lo i:Nat}{Q:Bool→SortSt→Prop} (h0:IntKeys a₀) (hB:SP a₀ lo st) (hlo:lo≤a₀.size) (hi:i+1<(pendingOf st).size)
  (h:∀ st',SP a₀ lo st'→(pendingOf st').size+1=(pendingOf st).size→(∀ j,lo≤j→(arrOf st')[j]? = (arrOf st)[j]?)→Q true st'):wpS (model prog w) A E s (mergeAt' i) Q st:=by
 obtain ⟨sa,na,nb,pw,pw2,e1,e2,g1,g2,g3,g4,g5,g6,g7⟩:=hB.chain.at i (by rw [Array.length_toList];exact hi)
 rw [Array.getElem?_toList] at e1 e2
 refine merX h0 hB.sx e1 e2 g1 g2 (by omega) g5 g6 fun st' hX hfr hso=>?_
 refine h st' ⟨hX.perm,hX.kind,hX.failed,?_⟩ ?_ fun j hj=>hfr j (.inr (by omega))
 ·have:=g7 (arrOf st') (fun j hj=>K_congr (hfr j hj)) hso
  rw [hX.pend,Array.eraseIdxIfInBounds,dif_pos (by rw [Array.size_setIfInBounds];exact hi),Array.toList_eraseIdx,Array.toList_setIfInBounds]
  exact this
 ·rw [hX.pend,Array.eraseIdxIfInBounds,dif_pos (by rw [Array.size_setIfInBounds];exact hi),Array.size_eraseIdx,Array.size_setIfInBounds]
  omega
theorem allX {Q:Unit→SortSt→Prop} (h0:IntKeys a₀) (hB:SP a₀ 0 st) (hp:pendingOf st = #[]) (h2:0<a₀.size)
  (h:∀ st',(arrOf st').Perm a₀→failedOf st'=none→SortedTo (arrOf st') a₀.size→Q () st'):wpS (model prog w) A E s sortRuns' Q st:=by
 rw [sortRuns'_eq]
 refine wpS_bind (wpS_get ?_)
 have hsz:(arrOf st).size=a₀.size:=hB.perm.size_eq
 extract_lets sz mr lo0
 refine wpS_bind (wpS_mono (wpS_forRange (I:=fun x c st'=>∃ lo,c=(none,lo)∧SP a₀ lo st'∧lo≤a₀.size∧x≤lo)
  (Q:=fun c st'=>c=(none,a₀.size)∧SP a₀ a₀.size st') ?o1 ?o2 ⟨0,rfl,hB,by omega,Nat.le_refl _⟩) ?o3)
 case o2 =>
  rintro c st' ⟨lo,rfl,hP,h3,h4⟩
  have h4:max 0 (arrOf st).size≤lo:=h4
  have:lo=a₀.size:=by omega
  subst this
  exact ⟨rfl,hP⟩
 case o1 =>
  rintro x c st' _ hx ⟨lo,rfl,hP,h3,h4⟩
  extract_lets lo1 jp fo nf
  by_cases c1:lo ≥ a₀.size
  ·rw [if_pos (by show lo ≥ (arrOf st).size;omega)]
   have:lo=a₀.size:=by omega
   subst this
   exact wpS_pure ⟨rfl,hP⟩
  rw [if_neg (by show ¬ lo ≥ (arrOf st).size;omega)]
  refine wpS_bind (runX h0 (by show lo+((arrOf st).size - lo)≤_;omega) (by show 1≤(arrOf st).size - lo;omega) hP.sx fun m st2 hX2 hFr hm1 hm2 hSo=>?_)
  have hm2:m≤(arrOf st).size - lo:=hm2
  have P2:SP a₀ lo st2:=⟨hX2.perm,hX2.kind,hX2.failed,by rw [hX2.pend];exact hP.chain.same fun j g1 g2=>hFr.key g2⟩
  have hSo:So (arrOf st2) lo (lo+m):=hSo
  refine wpS_mono (Q:=fun r st4=>∃ lo',r=.yield (none,lo')∧SP a₀ lo' st4∧lo<lo'∧lo'≤a₀.size) ?_ ?_
  rotate_left
  ·rintro _ st4 ⟨lo',rfl,g1,g2,g3⟩
   exact ⟨lo',rfl,g1,g3,by omega⟩
  dsimp -zeta only
  extract_lets n0
  have hjp:∀ u n st2,SP a₀ lo st2→0<n→lo+n≤a₀.size→So (arrOf st2) lo (lo+n)→wpS (model prog w) A E s (jp u n) (fun r st4=>∃ lo',r=.yield (none,lo')∧SP a₀ lo' st4∧lo<lo'∧lo'≤a₀.size) st2:=by
   intro u n st2 P2 hn hle hso
   refine wpS_bind (wpS_get ?_)
   extract_lets lo2 jp2
   have hjp2:∀ u st3,SP a₀ lo st3→So (arrOf st3) lo (lo+n)→wpS (model prog w) A E s (jp2 u) (fun r st4=>∃ lo',r=.yield (none,lo')∧SP a₀ lo' st4∧lo<lo'∧lo'≤a₀.size) st3:=by
    intro u st3 P3 hso3
    refine wpS_bind (wpS_modify (wpS_pure ⟨lo+n,rfl,⟨P3.perm,P3.kind,P3.failed,?_⟩,by omega,hle⟩))
    show Chain (arrOf st3) 0 (lo+n) ((pendingOf st3).push (lo,n,0)).toList
    rw [Array.toList_push]
    exact P3.chain.snoc hn hso3
   cases hbk:(pendingOf st2).back? with
   | none =>
    exact hjp2 () st2 P2 hso
   | some v =>
    obtain ⟨s1,n1,p1⟩:=v
    dsimp -zeta only
    extract_lets pw
    refine wpS_bind (wpS_mono (wpS_forRange (I:=fun x c st3=>c=(none,())∧SP a₀ lo st3∧So (arrOf st3) lo (lo+n))
     (Q:=fun c st3=>c=(none,())∧SP a₀ lo st3∧So (arrOf st3) lo (lo+n)) ?l1 (fun _ _ hh=>hh) ⟨rfl,P2,hso⟩) ?l2)
    case l1 =>
     rintro x c st3 _ _ ⟨rfl,P3,hs3⟩
     refine wpS_bind (wpS_get ?_)
     extract_lets pp
     by_cases c2:(pendingOf st3).size > 1
     ·rw [if_pos c2]
      have e:(pendingOf st3)[(pendingOf st3).size - 2]? = some (pendingOf st3)[(pendingOf st3).size - 2]:=Array.getElem?_eq_getElem (by omega)
      show wpS (model prog w) A E s (match (pendingOf st3)[(pendingOf st3).size - 2]? with | some (_,_,older)=>_ | x=>_) _ _
      rw [e]
      dsimp -zeta only
      split
      ·exact wpS_pure ⟨rfl,P3,hs3⟩
      ·refine wpS_bind (stepX h0 P3 h3 (by show (pendingOf st3).size - 2+1<_;omega) fun st4 P4 _ hfr=>?_)
       rw [if_neg (by simp)]
       refine wpS_pure ⟨rfl,P4,fun i' j' l1 l2 l3=>?_⟩
       rw [K_congr (hfr i' l1),K_congr (hfr j' (by omega))]
       exact hs3 i' j' l1 l2 l3
     ·rw [if_neg c2]
      exact wpS_pure ⟨rfl,P3,hs3⟩
    case l2 =>
     rintro c st3 ⟨rfl,P3,hs3⟩
     extract_lets
     refine wpS_bind (wpS_modify ?_)
     refine hjp2 () _ ⟨P3.perm,P3.kind,P3.failed,?_⟩ hs3
     show Chain (arrOf st3) 0 lo ((pendingOf st3).modify ((pendingOf st3).size - 1) _).toList
     rw [Array.toList_modify]
     exact P3.chain.pow (pw:=pw) (fun _=>rfl) _
  by_cases c3:m<mr
  ·rw [if_pos c3]
   refine wpS_bind (wpS_lift (wpAny_rule ⟨rfl,?_⟩))
   have hfo:fo=min ((arrOf st).size - lo) mr:=rfl
   refine wpS_bind (insX (lo:=lo) (ok:=m) h0 (by omega) (by omega) P2.sx hSo fun st3 hX3 hFr3 hSo3=>?_)
   rw [if_neg (by simp)]
   exact hjp () fo st3 ⟨hX3.perm,hX3.kind,hX3.failed,by rw [hX3.pend];exact P2.chain.same fun j g1 g2=>hFr3.key g2⟩ (by omega) (by omega) hSo3
  ·rw [if_neg c3]
   exact hjp () m st2 P2 hm1 (by omega) hSo
 case o3 =>
  rintro c st' ⟨rfl,hP⟩
  dsimp -zeta only
  extract_lets
  have hle0:=hP.chain.le
  rw [Array.length_toList] at hle0
  refine wpS_bind (wpS_mono (wpS_forRange (I:=fun x c st3=>c=(none,())∧SP a₀ a₀.size st3∧x+(pendingOf st3).size≤a₀.size+1)
   (Q:=fun c st3=>c=(none,())∧SP a₀ a₀.size st3∧(pendingOf st3).size≤1) ?m1 ?m2 ⟨rfl,hP,by omega⟩) ?m3)
  case m2 =>
   rintro c st3 ⟨rfl,P3,hx⟩
   have hx:max 0 (arrOf st).size+(pendingOf st3).size≤a₀.size+1:=hx
   exact ⟨rfl,P3,by omega⟩
  case m1 =>
   rintro x c st3 _ _ ⟨rfl,P3,hx⟩
   extract_lets
   refine wpS_bind (wpS_get ?_)
   extract_lets pp i1 bf i2
   by_cases c2:(pendingOf st3).size≤1
   ·rw [if_pos c2]
    exact wpS_pure ⟨rfl,P3,c2⟩
   rw [if_neg c2]
   have hi3:i2≤(pendingOf st3).size - 2:=by
    show (if _ then (pendingOf st3).size - 2 - 1 else (pendingOf st3).size - 2)≤(pendingOf st3).size - 2
    split
    ·exact Nat.sub_le _ _
    ·exact Nat.le_refl _
   have hi2:i2+1<(pendingOf st3).size:=Nat.lt_of_le_of_lt (Nat.succ_le_succ hi3) (by omega)
   refine wpS_bind (stepX h0 P3 (Nat.le_refl _) hi2 fun st4 P4 hz _=>?_)
   rw [if_neg (by simp)]
   exact wpS_pure ⟨rfl,P4,by omega⟩
  case m3 =>
   rintro c st3 ⟨rfl,P3,hx⟩
   refine wpS_pure (h st3 P3.perm P3.failed ?_)
   have hc:=P3.chain
   rw [← Array.length_toList] at hx
   generalize (pendingOf st3).toList=l at hc hx
   match l,hc,hx with
   | [],hc,_=>have hc:0=a₀.size:=hc;omega
   | [(s1,n1,p1)],hc,_ =>
    obtain ⟨rfl,g1,g2,g3⟩:=hc
    have g3:0+n1=a₀.size:=g3
    intro i j hij hj
    exact g2 i j (Nat.zero_le _) hij (by omega)
   | _ :: _ :: _,_,hx=>simp at hx
end
end SR
namespace SR
open PySem PyProof.Rows
section
variable {prog:Program}{w:World}{A:Around}{E:Value→Shared→Prop}{s:Shared}
theorem sortTree {a:Addr}{vs:List Value}{ns:List Int}{n:Nat}{P:Fin→Shared→Prop} (ho:s.heap.get? a=some (seqObj "list" vs.toArray n)) (hI:IntsAre vs ns) (hz:vs.length≤1000000)
  (h:∀ (out:Array Value) (ns':List Int),IntsAre out.toList ns'→ns'.Perm ns→ns'.Pairwise (· ≤ ·)→P (.done (.ret .none)) { s with heap:=sortedHeap s.heap a vs out }) :
  wpAny (model prog w) A (Builtin.«list.sort» ⟨[.ref a],[]⟩) P E s:=by
 by_cases h64:vs.length<64
 ·exact list_sort_tree ho hI h64 h
 rw [list_sort_plain]
 have big:(1000000:Nat)≤sizeLine:=by decide
 have hvs:vs.toArray.size=vs.length:=by simp
 refine wpAny_bind (listItems_at ho rfl ?_);skip
 refine wpAny_bind (listUpdate_at ho rfl ?_ (hsz:=by rw [hvs];omega) (hsz2:=by show 0≤_;omega))
 obtain ⟨e1,ho1⟩:∃ e1,(s.heap.update a (Obj.mapSeq fun _=>#[])).get? a=some (seqObj "list" #[] e1):=⟨_,get?_update_seq ho (fun _=>#[])⟩
 refine wpAny_bind (seqEpoch_at ho1 rfl ?_);skip
 refine wpAny_bind (wpAny_newTuple ?_)
 refine wpAny_bind (wpAny_newList ?_);skip
 refine wpAny_holding ?_
 have ha:a<s.heap.objs.size:=Heap.lt_size ho
 have ho6:(((s.heap.update a (Obj.mapSeq fun _=>#[])).push (seqObj "tuple" vs.toArray 0)).push (seqObj "list" #[] 0)).get? a=some (seqObj "list" #[] e1):=by
  rw [Heap.get?_push_ne _ _ _ (by rw [size_push',Heap.size_update];exact Nat.ne_of_lt (Nat.lt_succ_of_lt ha)),Heap.get?_push_ne _ _ _ (by rw [Heap.size_update];exact Nat.ne_of_lt ha)]
  exact ho1
 show wpAny (model prog w) A _ P E { s with heap:=((s.heap.update a (Obj.mapSeq fun _=>#[])).push (seqObj "tuple" vs.toArray 0)).push (seqObj "list" #[] 0) }
 dsimp only
 rw [if_neg (by rw [hvs];omega),if_neg (by rw [hvs];omega)]
 obtain ⟨v₁,v₂,rest,rfl⟩:∃ v₁ v₂ rest,vs=v₁ :: v₂ :: rest:=by
  match vs,h64 with
  | [],h64=>simp at h64
  | [_],h64=>simp at h64
  | v₁ :: v₂ :: rest,_=>exact ⟨v₁,v₂,rest,rfl⟩
 rw [keyKind_ints hI]
 refine wpAny_bind (wpAny_pure ?_)
 refine wpAny_bind (wpAny_mono (allX (a₀:=pairsOf (v₁ :: v₂ :: rest)) (st:=SortSt.mk' oneType' ((v₁ :: v₂ :: rest).toArray.zip (v₁ :: v₂ :: rest).toArray) #[] 7 none)
  (Q:=fun _ st'=>(arrOf st').Perm (pairsOf (v₁ :: v₂ :: rest))∧failedOf st'=none∧SortedTo (arrOf st') (pairsOf (v₁ :: v₂ :: rest)).size)
  hI.intKeys ⟨Array.Perm.refl _,rfl,rfl,rfl⟩ rfl (by rw [pairsOf_size];omega) fun st' a1 a2 a3=>⟨a1,a2,a3⟩) ?_ fun _ _ e=>e)
 rintro ⟨⟨⟩,st'⟩ s' ⟨rfl,hp,hf,hs⟩
 dsimp only
 refine wpAny_bind (seqEpoch_at ho6 rfl ?_);skip
 refine wpAny_bind (listUpdate_at ho6 rfl ?_ (hsz2:=by refine Nat.le_trans (Nat.le_of_eq ((Array.size_map ..).trans (hp.size_eq.trans (pairsOf_size _)))) ?_;omega))
 rw [hf]
 simp only [bne_self_eq_false,Bool.false_eq_true,if_false]
 obtain ⟨ns',h1,h2,h3⟩:=sorted_out hI hp hs
 exact wpAny_pure (h _ ns' h1 h2 h3)
end
end SR
set_option maxHeartbeats 4000000
namespace SD
open PySem PySem.Spec PyProof.Rows
section
variable {prog:Program}{w:World}{A:Around}{E:Value→Shared→Prop}{s:Shared}{T:String}{r d:Addr}{n:Nat}{P:Nat→Value→Prop}{OK:Heap→Prop}
theorem iadd_src {R:Result→Shared→Prop}{L:Addr}{c:Nat} (K:PySem.W.KdlSrc prog w T r d n P OK) (hh:A.handled=none) (hok:OK s.heap) (hr:L≠r) (hd:L≠d) (hL:s.heap.get? L=some { cls:=.type "list",data:=.seq #[] c }) (hn:n≤sizeLine)
  (hR:∀ h' tk acc' c',(∀ b o,b≠L→s.heap.get? b=some o→h'.get? b=some o)→h'.get? L=some { cls:=.type "list",dict:=none,data:=.seq acc' c',slots:=#[] }→ItemsOf P acc' n→R (.ok (.ret (.ref L))) { s with heap:=h',toks:=tk }) :
  codeAny (model prog w) A (.builtin "list.__iadd__" ⟨[.ref L,.ref r],[]⟩) R s:=by
 refine codeAny_builtin entry_list_iadd' ?_
 rw [Around.under_plainId (show plainId "list.__iadd__" = true by decide +kernel) _]
 exact PySem.W.kdl_extend K hh hok L hr hd (.ref L) c hL hR hn
theorem collect_src {Q:List Value→Shared→Prop} (K:PySem.W.KdlSrc prog w T r d n P OK) (hh:A.handled=none) (hok:OK s.heap) (hn:n≤sizeLine)
  (q:∀ acc h' tk,(∀ b o,s.heap.get? b=some o→h'.get? b=some o)→s.heap.objs.size<h'.objs.size→ItemsOf P acc n→Q acc.toList { s with heap:=h',toks:=tk }):wpAny (model prog w) A (collect (.ref r)) Q E s:=by
 obtain ⟨hr,hd⟩:=K.there s.heap hok
 unfold collect;refine wpAny_bind (wpAny_runValue (codeAny_builtin entry_proto_collect' ?_));show wpAny _ _ (do again (.builtin "list.__iadd__" ⟨[← newList [],.ref r],[]⟩)) _ _ s
 have hL0:(s.heap.push (seqObj "list" #[] 0)).get? s.heap.objs.size=some (seqObj "list" #[] 0):=Heap.get?_push_size _ rfl
 refine wpAny_bind (wpAny_newList (wpAny_pure ⟨Code.quiet_builtin _ (by decide +kernel),iadd_src (s:={ s with heap:=s.heap.push (seqObj "list" #[] 0) }) K hh (K.keep _ _ hok fun b _ o e=>Heap.get?_push_of_some _ e) (Nat.ne_of_gt hr) (Nat.ne_of_gt hd) hL0 hn fun h' tk acc c kp hL' hi=>?_⟩))
 dsimp only;refine wpAny_bind (wpAny_load hL' (wpAny_pure ?_))
 exact q acc h' tk (fun b o e=>kp b o (Nat.ne_of_lt (Heap.lt_size e)) (Heap.get?_push_of_some _ e)) (Heap.lt_size hL') hi
theorem sorted_src {Q:Value→Shared→Prop}{ks:List Int} (K:PySem.W.KdlSrc prog w T r d n P OK) (hh:A.handled=none) (hok:OK s.heap) (h64:n≤100000) (hk:∀ acc,ItemsOf P acc n→IntsAre acc.toList ks)
  (q:∀ h' tk r out e ns',(∀ b o,s.heap.get? b=some o→h'.get? b=some o)→s.heap.objs.size≤r→h'.get? r=some (seqObj "list" out e)→IntsAre out.toList ns'→ns'.Perm ks→ns'.Pairwise (· ≤ ·)→Q (.ref r) { s with heap:=h',toks:=tk }) :
  wpAny (model prog w) A (call (.builtin "sorted") [.ref r]) Q E s:=by
 refine Calls.call_function_entry kind_sorted plain_sorted entry_sorted (args_sorted1 _) ?_;unfold Builtin.«sorted»;refine wpAny_bind (m:=checkCount "sorted" 1 1 _) (wpAny_pure ?_)
 refine wpAny_bind (collect_src K (by first | exact hh | simpa using hh) hok (by rw [sizeLine_eq];omega) fun acc h' tk kp hlt hi=>?_)
 have a1:=hk acc hi
 have hvl:acc.toList.length≤1000000:=by rw [Array.length_toList,hi.1];omega
 refine wpAny_bind (wpAny_newList ?_ (by rw [sizeLine_eq];omega))
 have hoL:(h'.push (seqObj "list" acc.toList.toArray 0)).get? h'.objs.size=some (seqObj "list" acc.toList.toArray 0):=Heap.get?_push_size _ rfl
 show wpAny _ _ _ _ _ { s with heap:=h'.push (seqObj "list" acc.toList.toArray 0),toks:=tk }
 refine wpAny_bind (wpAny_holding (wpAny_call_entry slot_list_sort ⟨_,hoL,rfl⟩ entry_list_sort (SR.sortTree hoL a1 hvl fun out ns' b1 b2 b3=>⟨_,rfl,wpAny_pure ⟨_,rfl,?_⟩⟩) (args_list_sort _)))
 obtain ⟨⟨e,at_⟩,old⟩:=SS.sorted_at (out:=out) hoL
 exact q _ tk _ out e ns' (fun b o x=>old b o (Nat.ne_of_lt (Nat.lt_trans (Heap.lt_size x) hlt)) (Heap.get?_push_of_some _ (kp b o x))) (Nat.le_of_lt hlt) at_ b1 b2 b3
end
end SD
namespace L2
open PySem PySem.Spec PyProof.Rows
def cSortD (_:PySem.W.Frag):List V→Hp→VK→Prop:=fun vs H Q=>match vs with
 | [.ref p]=>∃ (kvs:List (Key × V)) (ns:List Int),Rd H p (.dK kvs)∧kvs.map (·.1)=ns.map Sum.inl∧ns.length≤100000∧∀ (ns':List Int) (l:Addr) (H':Hp),ns'.Perm ns→ns'.Pairwise (· ≤ ·)→New H l (.lst (ns'.map V.int)) H'→Q (.ref l) H'
 | _=>False
theorem c_sortD {X:Cx} (hc:X.calm=true):CallR X (.builtin "sorted") (cSortD X.K):=by
 intro pins s σ H xs us Q I r h
 match xs,h with
 | [.ref p],h =>
  obtain ⟨kvs,ns,e,hns,h64,q⟩:=h
  obtain ⟨u1,rfl,e1⟩:=vals1 r
  cases e1
  obtain ⟨z,y,vs,rel,dd⟩:=dk_rd I.hok e
  obtain ⟨ep,hat⟩:=dd.dictAt
  have hlen:=rel.length
  have hnl:kvs.length=ns.length:=by have:=congrArg List.length hns;rwa [List.length_map,List.length_map] at this
  refine SD.sorted_src (ks:=ns) (PySem.W.kdl_dict (knd:=mixKind X.prog X.w) (kvs:=vs) (ep:=ep) y) (I.ok.hd hc) hat (by omega) (fun acc ⟨ha,hb⟩=>?_) fun h' tk l out e' ns' kp hge at_ b1 b2 b3=>?_
  ·have key:∀ n,n≤kvs.length→Vals ((kvs.take n).map fun kv=>kV kv.1) (acc.toList.take n):=by
    intro n
    induction n with
    | zero=>intro _;rw [List.take_zero,List.take_zero];exact .nil
    | succ n ih =>
     intro hn
     have han:n<acc.size:=by omega
     obtain ⟨k,x,hk,hv⟩:=hb n acc[n] (Array.getElem?_eq_getElem han)
     obtain ⟨p',g1,g2⟩:=paired_get rel hk
     rw [List.take_add_one,List.take_add_one,show acc.toList[n]? = some acc[n] by simp [han],g1,List.map_append]
     exact Paired.snoc (ih (by omega)) (show RelV (kV p'.1) acc[n] by rw [g2.1];exact is_kV hv)
   have b3:=key kvs.length (Nat.le_refl _)
   rw [List.take_length,List.take_of_length_le (by rw [Array.length_toList];omega)] at b3
   have e2:(kvs.map fun kv=>kV kv.1)=ns.map V.int:=by
    have:(kvs.map (·.1)).map kV=(ns.map Sum.inl).map kV:=by rw [hns]
    rw [List.map_map,List.map_map] at this
    exact this
   rw [e2] at b3
   exact intsAre_of b3
  ·have hsl:(100000:Nat)≤sizeLine:=by decide
   have hl3:ns'.length=ns.length:=b2.length_eq
   exact ⟨.ref l,_,I.laid (a:=l) (o:=.lst (ns'.map V.int)) (h':=h') (t':=tk) kp hge ⟨by rw [List.length_map];omega,out.toList,e',vals_ints b1,by rw [Array.toArray_toList];exact at_⟩,rfl,q ns' l _ b2 b3 ⟨I.hok.fresh hge,rfl⟩⟩
end L2
namespace MZ
abbrev Ab:=Nat→Option (Option Nat)
abbrev Cm:=Nat→Option (Option Nat)
variable {lo:Nat→List Nat}{goal:Nat→Prop}
structure Flow (lo:Nat→List Nat) (goal:Nat→Prop) (ab:Ab):Prop where
 up:∀ p q,ab p=some (some q)→p∈lo q∧ab q≠none
 top:∀ p,ab p=some none→∃ g,goal g∧p∈lo g
 inj:∀ p p' q,ab p=some (some q)→ab p'=some (some q)→p=p'
 src:∀ p,ab p≠none→lo p≠[]→∃ p',ab p'=some (some p)
 ng:∀ p,ab p≠none→¬ goal p
def nxt (lo:Nat→List Nat) (ab:Ab) (e:Nat):List Nat :=
 if e % 2=1 then (lo (e / 2)).map (fun l=>2 * l) ++ [2 * (e / 2)] else match ab (e / 2) with
  | none=>[2 * (e / 2)+1]
  | some none=>[]
  | some (some q)=>[2 * q+1]
theorem nxt_foot {ab:Ab}{p e:Nat} (h:e∈nxt lo ab (2 * p+1)):(∃ l∈lo p,e=2 * l)∨e=2 * p:=by
 unfold nxt at h
 rw [if_pos (by omega),show (2 * p+1) / 2=p by omega,List.mem_append,List.mem_map,List.mem_singleton] at h
 rcases h with ⟨l,hl,rfl⟩ | h
 ·exact .inl ⟨l,hl,rfl⟩
 ·exact .inr h
theorem nxt_head {ab:Ab}{p e:Nat} (h:e∈nxt lo ab (2 * p)):(ab p=none∧e=2 * p+1)∨∃ q,ab p=some (some q)∧e=2 * q+1:=by
 unfold nxt at h
 rw [if_neg (by omega),show (2 * p) / 2=p by omega] at h
 cases ha:ab p with
 | none=>rw [ha] at h;exact .inl ⟨rfl,List.mem_singleton.mp h⟩
 | some o =>
  rw [ha] at h
  cases o with
  | none=>simp at h
  | some q=>exact .inr ⟨q,rfl,List.mem_singleton.mp h⟩
structure Path (lo:Nat→List Nat) (goal:Nat→Prop) (ab:Ab) (cm:Cm) (π:Nat→Prop) (s:Nat):Prop where
 succ:∀ e,π e→e≠2 * s+1→∃ e',π e'∧cm e'=some (some e)
 pred:∀ e,π e→cm e=some none∨∃ u,π u∧cm e=some (some u)
 uniq:∀ e e' u,π e→π e'→cm e=some (some u)→cm e'=some (some u)→e=e'
 step:∀ e u,π e→cm e=some (some u)→e∈nxt lo ab u
 start:∀ e,π e→cm e=some none→e % 2=0∧∃ g,goal g∧e / 2∈lo g
 fin:π (2 * s+1)
 spring:lo s=[]
 one:∀ t,π (2 * t+1)→lo t=[]→t=s
 far:∀ p,goal p→¬ π (2 * p)∧¬ π (2 * p+1)
 rk:∃ r:Nat→Nat,∀ e u,cm e=some (some u)→r u<r e
open Classical in
noncomputable def lead (ab:Ab) (cm:Cm) (π:Nat→Prop):Ab:=fun p=>if π (2 * p) then (match cm (2 * p) with
  | some none=>some none
  | some (some u)=>if u=2 * p+1 then none else some (some (u / 2))
  | none=>none) else ab p
section
variable {ab:Ab}{cm:Cm}{π:Nat→Prop}{s:Nat}
theorem lead_off {p:Nat} (h:¬ π (2 * p)):lead ab cm π p=ab p:=by unfold lead;rw [if_neg h]
theorem lead_top {p:Nat} (h:π (2 * p)) (hc:cm (2 * p)=some none):lead ab cm π p=some none:=by unfold lead;rw [if_pos h,hc]
theorem lead_out {p:Nat} (h:π (2 * p)) (hc:cm (2 * p)=some (some (2 * p+1))):lead ab cm π p=none:=by unfold lead;rw [if_pos h,hc];simp
theorem lead_up {p u:Nat} (h:π (2 * p)) (hc:cm (2 * p)=some (some u)) (hu:u≠2 * p+1):lead ab cm π p=some (some (u / 2)):=by unfold lead;rw [if_pos h,hc];simp [hu]
variable (F:Flow lo goal ab) (P:Path lo goal ab cm π s)
include P
theorem head_from {p u:Nat} (h:π (2 * p)) (hc:cm (2 * p)=some (some u)):∃ q,u=2 * q+1∧(p∈lo q∨p=q):=by
 have hs:=P.step _ _ h hc
 rcases (by omega:u=2 * (u / 2)∨u=2 * (u / 2)+1) with e | e
 ·rw [e] at hs
  rcases nxt_head hs with ⟨_,z⟩ | ⟨q,_,z⟩ <;> omega
 ·rw [e] at hs
  refine ⟨u / 2,e,?_⟩
  rcases nxt_foot hs with ⟨l,hl,z⟩ | z
  ·rw [show p=l by omega];exact .inl hl
  ·exact .inr (by omega)
theorem foot_from {q:Nat} (h:π (2 * q+1)):(π (2 * q)∧cm (2 * q+1)=some (some (2 * q))∧ab q=none)∨∃ p,π (2 * p)∧cm (2 * q+1)=some (some (2 * p))∧ab p=some (some q):=by
 rcases P.pred _ h with hc | ⟨u,hu,hc⟩
 ·have:=(P.start _ h hc).1
  omega
 ·have hs:=P.step _ _ h hc
  rcases (by omega:u=2 * (u / 2)∨u=2 * (u / 2)+1) with e | e
  ·rw [e] at hs hc hu
   rcases nxt_head hs with ⟨ha,z⟩ | ⟨q',ha,z⟩
   ·have:u / 2=q:=by omega
    rw [this] at ha hc hu
    exact .inl ⟨hu,hc,ha⟩
   ·have:q'=q:=by omega
    subst this
    exact .inr ⟨u / 2,hu,hc,ha⟩
  ·rw [e] at hs
   rcases nxt_foot hs with ⟨l,hl,z⟩ | z <;> omega
include F
theorem foot_of {p q:Nat} (hq:ab q≠none) (h:π (2 * q+1)) (hp:ab p=some (some q)):π (2 * p)∧cm (2 * q+1)=some (some (2 * p)):=by
 rcases foot_from P h with ⟨_,_,z⟩ | ⟨p',h1,h2,h3⟩
 ·exact absurd z hq
 ·rw [F.inj p p' q hp h3]
  exact ⟨h1,h2⟩
theorem head_to {p q:Nat} (h:π (2 * p)) (hp:ab p=some (some q)):π (2 * q+1)∧cm (2 * q+1)=some (some (2 * p)):=by
 obtain ⟨e,he,hc⟩:=P.succ _ h (by omega)
 rcases nxt_head (P.step _ _ he hc) with ⟨z,_⟩ | ⟨q',z,rfl⟩
 ·rw [hp] at z;cases z
 ·rw [hp] at z
  cases z
  exact ⟨he,hc⟩
omit F in
theorem head_to0 {p:Nat} (h:π (2 * p)) (hp:ab p=none):π (2 * p+1)∧cm (2 * p+1)=some (some (2 * p)):=by
 obtain ⟨e,he,hc⟩:=P.succ _ h (by omega)
 rcases nxt_head (P.step _ _ he hc) with ⟨_,rfl⟩ | ⟨q',z,_⟩
 ·exact ⟨he,hc⟩
 ·rw [hp] at z;cases z
omit F in
omit F in
theorem foot_to {q:Nat} (h:π (2 * q+1)) (hq:lo q≠[]):∃ l,π (2 * l)∧cm (2 * l)=some (some (2 * q+1))∧(l∈lo q∨l=q):=by
 obtain ⟨e,he,hc⟩:=P.succ _ h (fun z=>hq ((show s=q by omega) ▸ P.spring))
 rcases nxt_foot (P.step _ _ he hc) with ⟨l,hl,rfl⟩ | rfl
 ·exact ⟨l,he,hc,.inl hl⟩
 ·exact ⟨q,he,hc,.inr rfl⟩
omit F in
theorem no_loop {p:Nat} (h1:cm (2 * p)=some (some (2 * p+1))) (h2:cm (2 * p+1)=some (some (2 * p))):False:=by
 obtain ⟨r,hr⟩:=P.rk
 have a:=hr _ _ h1
 have b:=hr _ _ h2
 omega
variable (hlt:∀ p l,l∈lo p→l<p)
include hlt
theorem lead_flow:Flow lo goal (lead ab cm π):=by
 refine ⟨fun p q h=>?_,fun p h=>?_,fun p p' q h h'=>?_,fun p h hp=>?_,fun p h=>?_⟩
 ·-- up
  by_cases hp:π (2 * p)
  ·rcases P.pred _ hp with hc | ⟨u,hu,hc⟩
   ·rw [lead_top hp hc] at h;cases h
   ·obtain ⟨q',rfl,hl⟩:=head_from P hp hc
    by_cases e:p=q'
    ·subst e
     rw [lead_out hp hc] at h;cases h
    ·rw [lead_up hp hc (by omega)] at h
     have:q'=q:=by have:=Option.some.inj (Option.some.inj h);omega
     subst this
     refine ⟨hl.resolve_right e,fun hn=>?_⟩
     -- q' is not taken out
     by_cases hq:π (2 * q')
     ·rcases P.pred _ hq with hc2 | ⟨u2,hu2,hc2⟩
      ·rw [lead_top hq hc2] at hn;cases hn
      ·obtain ⟨q2,rfl,hl2⟩:=head_from P hq hc2
       by_cases e2:q'=q2
       ·subst e2
        have:=P.uniq _ _ _ hp hq hc hc2
        omega
       ·rw [lead_up hq hc2 (by omega)] at hn;cases hn
     ·rw [lead_off hq] at hn
      rcases foot_from P hu with ⟨z,_⟩ | ⟨p3,_,_,z⟩
      ·exact hq z
      ·exact (F.up _ _ z).2 hn
  ·rw [lead_off hp] at h
   obtain ⟨h1,h2⟩:=F.up p q h
   refine ⟨h1,fun hn=>?_⟩
   by_cases hq:π (2 * q)
   ·rcases P.pred _ hq with hc2 | ⟨u2,hu2,hc2⟩
    ·rw [lead_top hq hc2] at hn;cases hn
    ·obtain ⟨q2,rfl,hl2⟩:=head_from P hq hc2
     by_cases e2:q=q2
     ·subst e2
      exact hp (foot_of F P h2 hu2 h).1
     ·rw [lead_up hq hc2 (by omega)] at hn;cases hn
   ·rw [lead_off hq] at hn
    exact h2 hn
 ·-- top
  by_cases hp:π (2 * p)
  ·rcases P.pred _ hp with hc | ⟨u,hu,hc⟩
   ·have:=(P.start _ hp hc).2
    rwa [show 2 * p / 2=p by omega] at this
   ·obtain ⟨q',rfl,hl⟩:=head_from P hp hc
    by_cases e:p=q'
    ·subst e
     rw [lead_out hp hc] at h;cases h
    ·rw [lead_up hp hc (by omega)] at h;cases h
  ·rw [lead_off hp] at h
   exact F.top p h
 ·-- inj
  have key:∀ p,lead ab cm π p=some (some q)→(π (2 * p)∧cm (2 * p)=some (some (2 * q+1)))∨(¬ π (2 * p)∧ab p=some (some q)):=fun p h=>by
   by_cases hp:π (2 * p)
   ·rcases P.pred _ hp with hc | ⟨u,hu,hc⟩
    ·rw [lead_top hp hc] at h;cases h
    ·obtain ⟨q',rfl,hl⟩:=head_from P hp hc
     by_cases e:p=q'
     ·subst e
      rw [lead_out hp hc] at h;cases h
     ·rw [lead_up hp hc (by omega)] at h
      have:q'=q:=by have:=Option.some.inj (Option.some.inj h);omega
      subst this
      exact .inl ⟨hp,hc⟩
   ·rw [lead_off hp] at h
    exact .inr ⟨hp,h⟩
  have mix:∀ a b,π (2 * a)→cm (2 * a)=some (some (2 * q+1))→¬ π (2 * b)→ab b=some (some q)→False:=fun a b ha hc hb hab=>by
   have hfq:π (2 * q+1):=by
    rcases P.pred _ ha with z | ⟨u,hu,z⟩
    ·rw [hc] at z;cases z
    ·rw [hc] at z;cases z;exact hu
   exact hb (foot_of F P (F.up _ _ hab).2 hfq hab).1
  rcases key p h with ⟨a1,a2⟩ | ⟨a1,a2⟩ <;> rcases key p' h' with ⟨b1,b2⟩ | ⟨b1,b2⟩
  ·have:=P.uniq _ _ _ a1 b1 a2 b2
   omega
  ·exact (mix p p' a1 a2 b1 b2).elim
  ·exact (mix p' p b1 b2 a1 a2).elim
  ·exact F.inj p p' q a2 b2
 ·-- src
  -- behind the foot of p a head below it
  have below:π (2 * p+1)→¬ (π (2 * p)∧cm (2 * p)=some (some (2 * p+1)))→∃ p',lead ab cm π p'=some (some p):=fun hf hno=>by
   obtain ⟨l,hl,hc,hl2⟩:=foot_to P hf hp
   rcases hl2 with hl2 | rfl
   ·have:=hlt _ _ hl2
    refine ⟨l,?_⟩
    rw [lead_up hl hc (by omega)]
    congr 2
    omega
   ·exact absurd ⟨hl,hc⟩ hno
  have old:ab p≠none→¬ (π (2 * p)∧cm (2 * p)=some (some (2 * p+1)))→∃ p',lead ab cm π p'=some (some p):=fun hab hno=>by
   obtain ⟨p0,h0⟩:=F.src p hab hp
   by_cases hp0:π (2 * p0)
   ·exact below (head_to F P hp0 h0).1 hno
   ·exact ⟨p0,by rw [lead_off hp0];exact h0⟩
  have hno:¬ (π (2 * p)∧cm (2 * p)=some (some (2 * p+1))):=fun ⟨z1,z2⟩=>h (lead_out z1 z2)
  by_cases hab:ab p=none
  ·by_cases hpi:π (2 * p)
   ·exact below (head_to0 P hpi hab).1 hno
   ·rw [lead_off hpi] at h
    exact absurd hab h
  ·exact old hab hno
 ·-- goals
  intro hg
  have:=P.far p hg
  rw [lead_off this.1] at h
  exact F.ng p h hg
theorem lead_springs:ab s=none∧lead ab cm π s≠none∧∀ t,lo t=[]→t≠s→(lead ab cm π t≠none ↔ ab t≠none):=by
 have hs:π (2 * s)∧cm (2 * s+1)=some (some (2 * s))∧ab s=none:=by
  rcases foot_from P P.fin with z | ⟨p,_,_,z⟩
  ·exact z
  ·have:=(F.up _ _ z).1
   rw [P.spring] at this
   simp at this
 refine ⟨hs.2.2,fun hn=>?_,fun t ht hts=>?_⟩
 ·rcases P.pred _ hs.1 with hc | ⟨u,hu,hc⟩
  ·rw [lead_top hs.1 hc] at hn;cases hn
  ·obtain ⟨q,rfl,hl⟩:=head_from P hs.1 hc
   by_cases e:s=q
   ·subst e
    exact no_loop P hc hs.2.1
   ·rw [lead_up hs.1 hc (by omega)] at hn;cases hn
 ·by_cases hp:π (2 * t)
  ·have hab:ab t≠none:=fun z=>hts (P.one t (head_to0 P hp z).1 ht)
   refine ⟨fun _=>hab,fun _ hn=>?_⟩
   rcases P.pred _ hp with hc | ⟨u,hu,hc⟩
   ·rw [lead_top hp hc] at hn;cases hn
   ·obtain ⟨q,rfl,hl⟩:=head_from P hp hc
    by_cases e:t=q
    ·subst e
     exact hts (P.one _ hu ht)
    ·rw [lead_up hp hc (by omega)] at hn;cases hn
  ·rw [lead_off hp]
end
end MZ
namespace MZ
variable {lo:Nat→List Nat}{goal:Nat→Prop}{ab:Ab}
abbrev Cs:=List (Nat × Option Nat)
def cmOf (cs:Cs):Cm:=fun e=>(cs.find? fun x=>decide (x.1=e)).map (·.2)
def keys (cs:Cs):List Nat:=cs.map (·.1)
theorem cm_mem {cs:Cs} (nd:(keys cs).Nodup) {e:Nat}{f:Option Nat}:cmOf cs e=some f ↔ (e,f)∈cs:=by
 unfold cmOf
 induction cs with
 | nil=>simp
 | cons x r ih =>
  obtain ⟨a,b⟩:=x
  unfold keys at nd ih
  rw [List.map_cons,List.nodup_cons] at nd
  by_cases h:a=e
  ·subst h
   rw [List.find?_cons_of_pos (by simp),Option.map_some,List.mem_cons]
   constructor
   ·intro z
    cases z
    exact .inl rfl
   ·rintro (z | z)
    ·cases z;rfl
    ·exact absurd (List.mem_map.mpr ⟨_,z,rfl⟩) nd.1
  ·rw [List.find?_cons_of_neg (by simpa using h),ih nd.2,List.mem_cons]
   constructor
   ·exact .inr
   ·rintro (z | z)
    ·cases z;exact absurd rfl h
    ·exact z
structure Came (lo:Nat→List Nat) (goal:Nat→Prop) (ab:Ab) (cs:Cs):Prop where
 nd:(keys cs).Nodup
 from_:∀ (i:Nat) e u,cs[i]? = some (e,some u)→(∃ (j:Nat) (f:Option Nat),j<i∧cs[j]? = some (u,f))∧e∈nxt lo ab u∧∀ t,u=2 * t+1→lo t≠[]
 start:∀ e,(e,none)∈cs→e % 2=0∧∃ g,goal g∧e / 2∈lo g
 all:∀ g l,goal g→l∈lo g→(2 * l,none)∈cs
theorem Came.snoc {cs:Cs} (c:Came lo goal ab cs) {e u:Nat} (hu:u∈keys cs) (he:e ∉ keys cs) (hn:e∈nxt lo ab u) (hs:∀ t,u=2 * t+1→lo t≠[]):Came lo goal ab (cs ++ [(e,some u)]):=by
 refine ⟨?_,fun i e' u' h=>?_,fun e' h=>?_,fun g l hg hl=>List.mem_append_left _ (c.all g l hg hl)⟩
 ·unfold keys at he ⊢
  rw [List.map_append,List.nodup_append]
  refine ⟨c.nd,by simp,fun x hx y hy z=>?_⟩
  simp only [List.map_cons,List.map_nil,List.mem_singleton] at hy
  subst hy
  subst z
  exact he hx
 ·rcases Nat.lt_or_ge i cs.length with l | l
  ·rw [List.getElem?_append_left l] at h
   obtain ⟨⟨j,f,hj,hj2⟩,h2⟩:=c.from_ i e' u' h
   exact ⟨⟨j,f,hj,by rw [List.getElem?_append_left (by omega)];exact hj2⟩,h2⟩
  ·have hi:i=cs.length:=by
    have:=(List.getElem?_eq_some_iff.mp h).1
    rw [List.length_append] at this
    simp at this
    omega
   subst hi
   rw [List.getElem?_append_right (Nat.le_refl _),Nat.sub_self] at h
   cases h
   obtain ⟨x,hx,e1⟩:=List.mem_map.mp hu
   obtain ⟨j,hj⟩:=List.mem_iff_getElem?.mp hx
   obtain ⟨a,b⟩:=x
   cases e1
   have hjl:=(List.getElem?_eq_some_iff.mp hj).1
   exact ⟨⟨j,b,hjl,by rw [List.getElem?_append_left hjl];exact hj⟩,hn,hs⟩
 ·rcases List.mem_append.mp h with z | z
  ·exact c.start e' z
  ·rw [List.mem_singleton] at z
   cases z
inductive On (cm:Cm) (t:Nat):Nat→Prop where
 | here:On cm t t
 | up {e u:Nat} (h:On cm t e) (hc:cm e=some (some u)):On cm t u
def it (cm:Cm) (t:Nat):Nat→Option Nat
 | 0=>some t
 | i+1=>(it cm t i).bind fun e=>(cm e).join
theorem On.it {cm:Cm}{t e:Nat} (h:On cm t e):∃ i,MZ.it cm t i=some e:=by
 induction h with
 | here=>exact ⟨0,rfl⟩
 | up h hc ih =>
  obtain ⟨i,hi⟩:=ih
  exact ⟨i+1,by show (MZ.it cm t i).bind _=_;rw [hi];show (cm _).join=_;rw [hc];rfl⟩
theorem it_rk {cm:Cm}{t:Nat}{r:Nat→Nat} (hr:∀ e u,cm e=some (some u)→r u<r e):∀ {i j a b:Nat},i<j→it cm t i=some a→it cm t j=some b→r b<r a:=by
 have one:∀ {i a b:Nat},it cm t i=some a→it cm t (i+1)=some b→r b<r a:=fun {i a b} ha hb=>by
  have hb:(it cm t i).bind (fun e=>(cm e).join)=some b:=hb
  rw [ha] at hb
  have hb:(cm a).join=some b:=hb
  refine hr a b ?_
  cases h:cm a with
  | none=>rw [h] at hb;cases hb
  | some o=>rw [h] at hb;rw [show o=some b from hb]
 intro i j a b hij ha hb
 induction j generalizing b with
 | zero=>omega
 | succ j ih =>
  cases hj:it cm t j with
  | none =>
   have hb:(it cm t j).bind (fun e=>(cm e).join)=some b:=hb
   rw [hj] at hb
   cases hb
  | some c =>
   have h1:=one hj hb
   by_cases e:i=j
   ·subst e
    rw [ha] at hj
    cases hj
    exact h1
   ·exact Nat.lt_trans h1 (ih (by omega) hj)
theorem Came.path {cs:Cs} (c:Came lo goal ab cs) (F:Flow lo goal ab) (hg:∀ g,goal g→lo g≠[]) {s:Nat} (hs:lo s=[]) (hk:2 * s+1∈keys cs):Path lo goal ab (cmOf cs) (On (cmOf cs) (2 * s+1)) s:=by
 have fr:∀ e u,cmOf cs e=some (some u)→u∈keys cs∧e∈nxt lo ab u∧(∀ t,u=2 * t+1→lo t≠[])∧(keys cs).idxOf u<(keys cs).idxOf e:=fun e u h=>by
  obtain ⟨i,hi⟩:=List.mem_iff_getElem?.mp ((cm_mem c.nd).mp h)
  obtain ⟨⟨j,f,hj,hj2⟩,h2,h3⟩:=c.from_ i e u hi
  have hil:=(List.getElem?_eq_some_iff.mp hi).1
  have key:∀ {k:Nat}{x:Nat}{y:Option Nat},cs[k]? = some (x,y)→(keys cs).idxOf x=k:=fun {k x y} hk=>by
   have hkl:=(List.getElem?_eq_some_iff.mp hk).1
   have e1:(keys cs)[k]'(by unfold keys;rw [List.length_map];exact hkl)=x:=by
    unfold keys
    rw [List.getElem_map,(List.getElem?_eq_some_iff.mp hk).2]
   rw [← e1]
   exact c.nd.idxOf_getElem k _
  exact ⟨List.mem_map.mpr ⟨_,List.mem_of_getElem? hj2,rfl⟩,h2,h3,by rw [key hi,key hj2];exact hj⟩
 have rk:∀ e u,cmOf cs e=some (some u)→(keys cs).idxOf u<(keys cs).idxOf e:=fun e u h=>(fr e u h).2.2.2
 have inK:∀ e,On (cmOf cs) (2 * s+1) e→e∈keys cs:=fun e h=>by
  cases h with
  | here=>exact hk
  | up h hc=>exact (fr _ _ hc).1
 have got:∀ e,e∈keys cs→∃ f,cmOf cs e=some f:=fun e h=>by
  obtain ⟨x,hx,rfl⟩:=List.mem_map.mp h
  exact ⟨x.2,(cm_mem c.nd).mpr hx⟩
 have succ:∀ e,On (cmOf cs) (2 * s+1) e→e≠2 * s+1→∃ e',On (cmOf cs) (2 * s+1) e'∧cmOf cs e'=some (some e):=fun e h hne=>by
  cases h with
  | here=>exact absurd rfl hne
  | up h hc=>exact ⟨_,h,hc⟩
 have ft:∀ p,goal p→¬ On (cmOf cs) (2 * s+1) (2 * p+1):=fun p hp h=>by
  have hlp:=hg p hp
  have hab:ab p=none:=Classical.byContradiction fun z=>F.ng p z hp
  obtain ⟨e',he',hc'⟩:=succ _ h (fun z=>hlp ((show s=p by omega) ▸ hs))
  have hst:=(fr _ _ hc').2.1
  rcases nxt_foot hst with ⟨l,hl,rfl⟩ | rfl
  ·have:=(cm_mem c.nd).mpr (c.all p l hp hl)
   rw [hc'] at this
   cases this
  ·obtain ⟨f,hf⟩:=got _ (inK _ h)
   cases f with
   | none =>
    have:=(c.start _ ((cm_mem c.nd).mp hf)).1
    omega
   | some u =>
    have hst2:=(fr _ _ hf).2.1
    rcases (by omega:u=2 * (u / 2)∨u=2 * (u / 2)+1) with e | e
    ·rw [e] at hst2 hf
     rcases nxt_head hst2 with ⟨_,z⟩ | ⟨q,z,z2⟩
     ·rw [show u / 2=p by omega] at hf
      have a1:=rk _ _ hf
      have a2:=rk _ _ hc'
      omega
     ·rw [show q=p by omega] at z
      exact (F.up _ _ z).2 hab
    ·rw [e] at hst2
     rcases nxt_foot hst2 with ⟨l,_,z⟩ | z <;> omega
 refine ⟨succ,fun e h=>?_,fun e e' u h h' hc hc'=>?_,fun e u h hc=>(fr _ _ hc).2.1,fun e h hc=>c.start e ((cm_mem c.nd).mp hc),.here,hs,fun t h ht=>?_,fun p hp=>⟨fun h=>?_,ft p hp⟩,⟨_,rk⟩⟩
 ·obtain ⟨f,hf⟩:=got _ (inK e h)
  cases f with
  | none=>exact .inl hf
  | some u=>exact .inr ⟨u,.up h hf,hf⟩
 ·obtain ⟨i,hi⟩:=h.it
  obtain ⟨j,hj⟩:=h'.it
  have ui:it (cmOf cs) (2 * s+1) (i+1)=some u:=by show (it _ _ i).bind _=_;rw [hi];show (cmOf cs e).join=_;rw [hc];rfl
  have uj:it (cmOf cs) (2 * s+1) (j+1)=some u:=by show (it _ _ j).bind _=_;rw [hj];show (cmOf cs e').join=_;rw [hc'];rfl
  rcases Nat.lt_trichotomy i j with l | l | l
  ·have:=it_rk rk (show i+1<j+1 by omega) ui uj
   omega
  ·subst l
   rw [hi] at hj
   exact Option.some.inj hj
  ·have:=it_rk rk (show j+1<i+1 by omega) uj ui
   omega
 ·by_cases e:2 * t+1=2 * s+1
  ·omega
  ·obtain ⟨e',he',hc'⟩:=succ _ h e
   exact absurd ht ((fr _ _ hc').2.2.1 t rfl)
 ·have hab:ab p=none:=Classical.byContradiction fun z=>F.ng p z hp
  obtain ⟨e',he',hc'⟩:=succ _ h (by omega)
  rcases nxt_head (fr _ _ hc').2.1 with ⟨_,rfl⟩ | ⟨q,z,_⟩
  ·exact ft p hp he'
  ·rw [hab] at z;cases z
end MZ
namespace MZ
variable {lo:Nat→List Nat}{goal:Nat→Prop}{ab:Ab}
inductive Wy (ab:Ab) (t:Nat):Nat→Prop where
 | here:Wy ab t t
 | up {p q:Nat} (h:Wy ab t p) (hp:ab p=some (some q)):Wy ab t q
theorem Wy.trans {t p q:Nat} (h:Wy ab t p) (g:Wy ab p q):Wy ab t q:=by
 induction g with
 | here=>exact h
 | up _ hp ih=>exact ih.up hp
theorem Wy.lin {t x y:Nat} (h:Wy ab t x) (g:Wy ab t y):Wy ab x y∨Wy ab y x:=by
 induction h with
 | here=>exact .inl g
 | @up p q h hp ih =>
  rcases ih with z | z
  ·cases z with
   | here=>exact .inr (Wy.here.up hp)
   | @up p' _ z hp' =>
    -- p comes to y by at least one step, the first of which is to q
    have key:∀ {a b:Nat},Wy ab a b→a=b∨∃ c,ab a=some (some c)∧Wy ab c b:=fun {a b} w=>by
     induction w with
     | here=>exact .inl rfl
     | @up u v w hu ih2 =>
      rcases ih2 with rfl | ⟨c,hc,w2⟩
      ·exact .inr ⟨v,hu,.here⟩
      ·exact .inr ⟨c,hc,w2.up hu⟩
    rcases key (z.up hp') with e | ⟨c,hc,w⟩
    ·subst e
     exact .inr (Wy.here.up hp)
    ·rw [hp] at hc
     cases hc
     exact .inl w
  ·exact .inr (z.up hp)
theorem wy_ex (F:Flow lo goal ab) (hlt:∀ p l,l∈lo p→l<p):∀ p,ab p≠none→∃ t,lo t=[]∧ab t≠none∧Wy ab t p:=by
 intro p
 induction p using Nat.strongRecOn with
 | _ p ih =>
  intro hp
  by_cases hs:lo p=[]
  ·exact ⟨p,hs,hp,.here⟩
  ·obtain ⟨q,hq⟩:=F.src p hp hs
   obtain ⟨t,h1,h2,h3⟩:=ih q (hlt _ _ (F.up _ _ hq).1) (by rw [hq];simp)
   exact ⟨t,h1,h2,h3.up hq⟩
theorem wy_uniq (F:Flow lo goal ab) {t t' p:Nat} (h:Wy ab t p) (g:Wy ab t' p) (ht:lo t=[]) (ht':lo t'=[]):t=t':=by
 induction h with
 | here =>
  cases g with
  | here=>rfl
  | up g hp=>have:=(F.up _ _ hp).1;rw [ht] at this;simp at this
 | up h hp ih =>
  cases g with
  | here=>have:=(F.up _ _ hp).1;rw [ht'] at this;simp at this
  | up g hp'=>exact ih (F.inj _ _ _ hp hp' ▸ g)
theorem wy_top (F:Flow lo goal ab) (hlt:∀ p l,l∈lo p→l<p) {n:Nat} (hn:∀ p,ab p≠none→p<n):∀ (k p:Nat),n - p≤k→ab p≠none→∃ x,Wy ab p x∧ab x=some none
 | 0,p,hk,hp=>by have:=hn p hp;omega
 | k+1,p,hk,hp=>by
  cases h:ab p with
  | none=>exact absurd h hp
  | some o =>
   cases o with
   | none=>exact ⟨p,.here,h⟩
   | some q =>
    have h1:=hlt _ _ (F.up _ _ h).1
    have h2:=hn p hp
    obtain ⟨x,hx,ht⟩:=wy_top F hlt hn k q (by omega) (F.up _ _ h).2
    exact ⟨x,(Wy.here.up h).trans hx,ht⟩
structure Shut (lo:Nat→List Nat) (goal:Nat→Prop) (ab:Ab) (K:Nat→Prop):Prop where
 all:∀ g l,goal g→l∈lo g→K (2 * l)
 shut:∀ e e',K e→e'∈nxt lo ab e→K e'
 dry:∀ t,K (2 * t+1)→lo t≠[]
def Stop (K:Nat→Prop) (p:Nat):Prop:=K (2 * p)∧¬ K (2 * p+1)
section
variable {K:Nat→Prop} (S:Shut lo goal ab K)
include S
theorem Shut.low {p l:Nat} (h:K (2 * p+1)) (hl:l∈lo p):K (2 * l):=by
 refine S.shut _ _ h ?_
 unfold nxt
 rw [if_pos (by omega),show (2 * p+1) / 2=p by omega]
 exact List.mem_append_left _ (List.mem_map.mpr ⟨l,hl,rfl⟩)
theorem Shut.own {p:Nat} (h:K (2 * p+1)):K (2 * p):=by
 refine S.shut _ _ h ?_
 unfold nxt
 rw [if_pos (by omega),show (2 * p+1) / 2=p by omega]
 exact List.mem_append_right _ (List.mem_singleton.mpr rfl)
theorem Shut.free {p:Nat} (h:K (2 * p)) (hp:ab p=none):K (2 * p+1):=by
 refine S.shut _ _ h ?_
 unfold nxt
 rw [if_neg (by omega),show 2 * p / 2=p by omega,hp]
 exact List.mem_singleton.mpr rfl
theorem Shut.next {p q:Nat} (h:K (2 * p)) (hp:ab p=some (some q)):K (2 * q+1):=by
 refine S.shut _ _ h ?_
 unfold nxt
 rw [if_neg (by omega),show 2 * p / 2=p by omega,hp]
 exact List.mem_singleton.mpr rfl
theorem stop_dom {p:Nat} (h:Stop K p):ab p≠none:=fun z=>h.2 (S.free h.1 z)
theorem stop_on (F:Flow lo goal ab) {t p:Nat} (ht:lo t=[]) (h:Wy ab t p) (hk:K (2 * p)):∃ x,Wy ab t x∧Stop K x:=by
 induction h with
 | here=>exact ⟨_,.here,hk,fun z=>S.dry _ z ht⟩
 | @up p q h hp ih =>
  by_cases hf:K (2 * q+1)
  ·exact ih (S.low hf (F.up _ _ hp).1)
  ·exact ⟨q,h.up hp,hk,hf⟩
theorem stop_run {x y:Nat} (h:Wy ab x y) (hk:K (2 * x)):x=y∨K (2 * y+1):=by
 induction h with
 | here=>exact .inl rfl
 | @up p q h hp ih =>
  rcases ih with rfl | z
  ·exact .inr (S.next hk hp)
  ·exact .inr (S.next (S.own z) hp)
theorem stop_one {t x y:Nat} (hx:Wy ab t x) (hy:Wy ab t y) (sx:Stop K x) (sy:Stop K y):x=y:=by
 rcases hx.lin hy with z | z
 ·rcases stop_run S z sx.1 with e | e
  ·exact e
  ·exact absurd e sy.2
 ·rcases stop_run S z sy.1 with e | e
  ·exact e.symm
  ·exact absurd e sx.2
end
theorem len_le {α β:Type} [DecidableEq β] {R:α→β→Prop} (uni:∀ a a' b,R a b→R a' b→a=a'):∀ {A:List α}{B:List β},A.Nodup→(∀ a∈A,∃ b∈B,R a b)→A.length≤B.length
 | [],B,_,_=>Nat.zero_le _
 | a :: A,B,nd,h=>by
  rw [List.nodup_cons] at nd
  obtain ⟨b,hb,hr⟩:=h a (List.mem_cons_self ..)
  have:=len_le uni (A:=A) (B:=B.erase b) nd.2 fun a' ha'=>by
   obtain ⟨b',hb',hr'⟩:=h a' (List.mem_cons_of_mem _ ha')
   refine ⟨b',?_,hr'⟩
   refine (List.mem_erase_of_ne fun e=>?_).mpr hb'
   subst e
   rw [uni a a' b' hr hr'] at nd
   exact nd.1 ha'
  rw [List.length_erase_of_mem hb] at this
  have:0<B.length:=List.length_pos_of_mem hb
  rw [List.length_cons]
  omega
theorem stop_count {K:Nat→Prop} (S:Shut lo goal ab K) (F:Flow lo goal ab) (hlt:∀ p l,l∈lo p→l<p) {n:Nat} (hn:∀ p,ab p≠none→p<n) {A B:List Nat} (nA:A.Nodup) (nB:B.Nodup) (hA:∀ t,t∈A ↔ lo t=[]∧ab t≠none) (hB:∀ p,p∈B ↔ Stop K p):A.length=B.length:=by
 refine Nat.le_antisymm (len_le (R:=fun t p=>Wy ab t p∧lo t=[]) (fun a a' b h h'=>wy_uniq F h.1 h'.1 h.2 h'.2) nA fun t ht=>?_) (len_le (R:=fun p t=>Wy ab t p∧Stop K p) (fun a a' b h h'=>stop_one S h.1 h'.1 h.2 h'.2) nB fun p hp=>?_)
 ·obtain ⟨h1,h2⟩:=(hA t).mp ht
  obtain ⟨x,hx,ho⟩:=wy_top F hlt hn _ t (Nat.le_refl _) h2
  obtain ⟨g,hg,hl⟩:=F.top x ho
  obtain ⟨y,hy,hst⟩:=stop_on S F h1 hx (S.all g x hg hl)
  exact ⟨y,(hB y).mpr hst,hy,h1⟩
 ·have hst:=(hB p).mp hp
  obtain ⟨t,h1,h2,h3⟩:=wy_ex F hlt p (stop_dom S hst)
  exact ⟨t,(hA t).mpr ⟨h1,h2⟩,h3,hst⟩
end MZ
namespace MZ
def putA (as:Cs) (p:Nat) (o:Option Nat):Cs:=if (as.any fun x=>decide (x.1=p))=true then as.map (fun x=>if x.1=p then (x.1,o) else x) else as ++ [(p,o)]
def dropA (as:Cs) (p:Nat):Cs:=as.filter fun x=>decide (x.1≠p)
theorem any_keys (as:Cs) (p:Nat):(as.any fun x=>decide (x.1=p))=true ↔ p∈keys as:=by
 unfold keys
 rw [List.any_eq_true,List.mem_map]
 constructor
 ·rintro ⟨x,hx,e⟩;exact ⟨x,hx,of_decide_eq_true e⟩
 ·rintro ⟨x,hx,e⟩;exact ⟨x,hx,decide_eq_true e⟩
theorem cm_none {as:Cs}{p:Nat}:cmOf as p=none ↔ p ∉ keys as:=by
 unfold cmOf keys
 rw [Option.map_eq_none_iff,List.find?_eq_none,List.mem_map]
 constructor
 ·rintro h ⟨x,hx,e⟩
  exact h x hx (decide_eq_true e)
 ·intro h x hx e
  exact h ⟨x,hx,of_decide_eq_true e⟩
theorem cm_some {as:Cs}{p:Nat}:cmOf as p≠none ↔ p∈keys as:=by
 rw [ne_eq,cm_none]
 exact Classical.not_not
theorem keys_put (as:Cs) (p:Nat) (o:Option Nat):keys (putA as p o)=if p∈keys as then keys as else keys as ++ [p]:=by
 unfold putA
 by_cases h:p∈keys as
 ·rw [if_pos ((any_keys as p).mpr h),if_pos h]
  unfold keys
  rw [List.map_map]
  refine List.map_congr_left fun x _=>?_
  show (if x.1=p then (x.1,o) else x).1=x.1
  split <;> rfl
 ·rw [if_neg (fun z=>h ((any_keys as p).mp z)),if_neg h]
  unfold keys
  rw [List.map_append]
  rfl
theorem nd_put {as:Cs} (nd:(keys as).Nodup) (p:Nat) (o:Option Nat):(keys (putA as p o)).Nodup:=by
 rw [keys_put]
 split
 ·exact nd
 ·rename_i h
  rw [List.nodup_append]
  refine ⟨nd,by simp,fun x hx y hy e=>?_⟩
  rw [List.mem_singleton] at hy
  subst hy e
  exact h hx
theorem cm_put {as:Cs} (nd:(keys as).Nodup) (p:Nat) (o:Option Nat) (q:Nat):cmOf (putA as p o) q=if q=p then some o else cmOf as q:=by
 have nd':=nd_put nd p o
 have mem:∀ f,(q,f)∈putA as p o ↔ if q=p then f=o else (q,f)∈as:=fun f=>by
  unfold putA
  by_cases h:p∈keys as
  ·rw [if_pos ((any_keys as p).mpr h),List.mem_map]
   by_cases e:q=p
   ·subst e
    rw [if_pos rfl]
    constructor
    ·rintro ⟨x,_,hx⟩
     by_cases hq:x.1=q
     ·rw [if_pos hq] at hx;cases hx;rfl
     ·rw [if_neg hq] at hx;rw [hx] at hq;exact absurd rfl hq
    ·rintro rfl
     obtain ⟨x,hx,e⟩:=List.mem_map.mp h
     exact ⟨x,hx,by rw [if_pos e,e]⟩
   ·rw [if_neg e]
    constructor
    ·rintro ⟨x,hm,hx⟩
     by_cases hq:x.1=p
     ·rw [if_pos hq] at hx;cases hx;exact absurd hq e
     ·rw [if_neg hq] at hx;rw [← hx];exact hm
    ·intro hm
     exact ⟨_,hm,by rw [if_neg e]⟩
  ·rw [if_neg (fun z=>h ((any_keys as p).mp z)),List.mem_append,List.mem_singleton]
   by_cases e:q=p
   ·subst e
    rw [if_pos rfl]
    constructor
    ·rintro (z | z)
     ·exact absurd (List.mem_map.mpr ⟨_,z,rfl⟩) h
     ·cases z;rfl
    ·rintro rfl;exact .inr rfl
   ·rw [if_neg e]
    constructor
    ·rintro (z | z)
     ·exact z
     ·cases z;exact absurd rfl e
    ·exact .inl
 by_cases e:q=p
 ·rw [if_pos e]
  exact (cm_mem nd').mpr ((mem o).mpr (by rw [if_pos e]))
 ·rw [if_neg e]
  cases h:cmOf as q with
  | some f=>exact (cm_mem nd').mpr ((mem f).mpr (by rw [if_neg e];exact (cm_mem nd).mp h))
  | none =>
   rw [cm_none] at h ⊢
   rw [keys_put]
   split
   ·exact h
   ·rw [List.mem_append,List.mem_singleton]
    exact fun z=>z.elim h e
theorem nd_drop {as:Cs} (nd:(keys as).Nodup) (p:Nat):(keys (dropA as p)).Nodup:=by
 unfold keys dropA
 exact List.Pairwise.sublist ((List.filter_sublist).map _) nd
theorem cm_drop {as:Cs} (nd:(keys as).Nodup) (p q:Nat):cmOf (dropA as p) q=if q=p then none else cmOf as q:=by
 have nd':=nd_drop nd p
 by_cases e:q=p
 ·rw [if_pos e,cm_none]
  intro h
  obtain ⟨x,hx,e2⟩:=List.mem_map.mp h
  have:=(List.mem_filter.mp hx).2
  simp at this
  exact this (e2.trans e)
 ·rw [if_neg e]
  cases h:cmOf as q with
  | some f=>exact (cm_mem nd').mpr (List.mem_filter.mpr ⟨(cm_mem nd).mp h,by simpa using e⟩)
  | none =>
   rw [cm_none] at h ⊢
   intro z
   obtain ⟨x,hx,e2⟩:=List.mem_map.mp z
   exact h (List.mem_map.mpr ⟨x,(List.mem_filter.mp hx).1,e2⟩)
def upTo (cm:Cm) (t i:Nat) (e:Nat):Prop:=∃ j,j<i∧it cm t j=some e
theorem upTo_on {cm:Cm}{t i:Nat}{e:Nat} (h:it cm t i=none):upTo cm t i e ↔ On cm t e:=by
  have on:∀ {j a},it cm t j=some a→On cm t a:=by
    intro j
    induction j with
    | zero=>intro a ha;cases ha;exact .here
    | succ j ih =>
      intro a ha
      have ha:(it cm t j).bind (fun e=>(cm e).join)=some a:=ha
      cases hj:it cm t j with
      | none=>rw [hj] at ha;cases ha
      | some b =>
        rw [hj] at ha
        have ha:(cm b).join=some a:=ha
        refine (ih hj).up ?_
        cases hc:cm b with
        | none=>rw [hc] at ha;cases ha
        | some o=>rw [hc] at ha;rw [show o=some a from ha]
  have none_from:∀ j,i≤j→it cm t j=none:=by
    intro j
    induction j with
    | zero => intro hj; have : i = 0 := by omega
              subst this;exact h
    | succ j ih =>
      intro hj
      by_cases e:i=j+1
      · subst e;exact h
      · show (it cm t j).bind _=none
        rw [ih (by omega)]
        rfl
  constructor
  · rintro ⟨j,_,hj⟩
    exact on hj
  · intro ho
    obtain ⟨j,hj⟩:=ho.it
    refine ⟨j,Nat.lt_of_not_le fun hle=>?_,hj⟩
    rw [none_from j hle] at hj
    cases hj
theorem lead_congr {ab:Ab}{cm:Cm}{π π':Nat→Prop} (h:∀ e,π e ↔ π' e):lead ab cm π=lead ab cm π':=by
 have:π=π':=funext fun e=>propext (h e)
 rw [this]
theorem lead_zero {ab:Ab}{cm:Cm}{t:Nat}:lead ab cm (upTo cm t 0)=ab:=by
 funext p
 exact lead_off (fun ⟨j,hj,_⟩=>by omega)
theorem lead_other {ab:Ab}{cm:Cm}{t i e p:Nat} (h:it cm t i=some e) (hp:2 * p≠e):lead ab cm (upTo cm t (i+1)) p=lead ab cm (upTo cm t i) p:=by
 have:upTo cm t (i+1) (2 * p) ↔ upTo cm t i (2 * p):=by
  constructor
  ·rintro ⟨j,hj,hj2⟩
   by_cases e1:j=i
   ·subst e1;rw [h] at hj2;exact absurd (Option.some.inj hj2).symm hp
   ·exact ⟨j,by omega,hj2⟩
  ·rintro ⟨j,hj,hj2⟩
   exact ⟨j,by omega,hj2⟩
 unfold lead
 by_cases g:upTo cm t i (2 * p)
 ·rw [if_pos g,if_pos (this.mpr g)]
 ·rw [if_neg g,if_neg (fun z=>g (this.mp z))]
theorem upTo_self {cm:Cm}{t i e:Nat} (h:it cm t i=some e):upTo cm t (i+1) e:=⟨i,by omega,h⟩
end MZ
set_option maxHeartbeats 4000000
namespace K27
open PySem PySem.Spec PyProof.Rows L2
def top (i:Nat):Stmt:=PySem.Challenge.pw_gatefold_k27_places_that_stop.main.body.getD i (.Pass ⟨0,0,0,0⟩)
abbrev s_head:Stmt:=top 4
abbrev N_head:List Str:=["place"]
theorem sc_head:FnScope N_head ["place"] (defScope s_head):=⟨rfl,rfl,rfl,by decide +kernel,rfl,by decide +kernel,by decide +kernel⟩
abbrev s_foot:Stmt:=top 5
abbrev N_foot:List Str:=["place"]
theorem sc_foot:FnScope N_foot ["place"] (defScope s_foot):=⟨rfl,rfl,rfl,by decide +kernel,rfl,by decide +kernel,by decide +kernel⟩
abbrev s_need_goals:Stmt:=top 6
abbrev N_need_goals:List Str:=["maze","goals","goal"]
theorem sc_need_goals:FnScope N_need_goals ["maze","goals"] (defScope s_need_goals):=⟨rfl,rfl,rfl,by decide +kernel,rfl,by decide +kernel,by decide +kernel⟩
abbrev s_next_ends:Stmt:=top 7
abbrev N_next_ends:List Str:=["maze","above","end","place"]
theorem sc_next_ends:FnScope N_next_ends ["maze","above","end"] (defScope s_next_ends):=⟨rfl,rfl,rfl,by decide +kernel,rfl,by decide +kernel,by decide +kernel⟩
abbrev s_search:Stmt:=top 8
abbrev N_search:List Str:=["maze","goals","above","came","goal","lower","waiting","end","place","ahead"]
theorem sc_search:FnScope N_search ["maze","goals","above"] (defScope s_search):=⟨rfl,rfl,rfl,by decide +kernel,rfl,by decide +kernel,by decide +kernel⟩
abbrev s_lead:Stmt:=top 9
abbrev N_lead:List Str:=["above","came","spring","end","place","upper"]
theorem sc_lead:FnScope N_lead ["above","came","spring"] (defScope s_lead):=⟨rfl,rfl,rfl,by decide +kernel,rfl,by decide +kernel,by decide +kernel⟩
abbrev s_way_from:Stmt:=top 10
abbrev N_way_from:List Str:=["above","spring","way"]
theorem sc_way_from:FnScope N_way_from ["above","spring"] (defScope s_way_from):=⟨rfl,rfl,rfl,by decide +kernel,rfl,by decide +kernel,by decide +kernel⟩
abbrev s_ways_of:Stmt:=top 11
abbrev N_ways_of:List Str:=["maze","above","springs"]
theorem sc_ways_of:FnScope N_ways_of ["maze","above"] (defScope s_ways_of):=⟨rfl,rfl,rfl,by decide +kernel,rfl,by decide +kernel,by decide +kernel⟩
abbrev s_stops_of:Stmt:=top 12
abbrev N_stops_of:List Str:=["came"]
theorem sc_stops_of:FnScope N_stops_of ["came"] (defScope s_stops_of):=⟨rfl,rfl,rfl,by decide +kernel,rfl,by decide +kernel,by decide +kernel⟩
abbrev s_apart:Stmt:=top 13
abbrev N_apart:List Str:=["maze","goals","most","above","number","found"]
theorem sc_apart:FnScope N_apart ["maze","goals","most"] (defScope s_apart):=⟨rfl,rfl,rfl,by decide +kernel,rfl,by decide +kernel,by decide +kernel⟩
abbrev s_law_cell_at:Stmt:=top 15
abbrev N_law_cell_at:List Str:=["_law_script","_law_k"]
theorem sc_law_cell_at:FnScope N_law_cell_at ["_law_script","_law_k"] (defScope s_law_cell_at):=⟨rfl,rfl,rfl,by decide +kernel,rfl,by decide +kernel,by decide +kernel⟩
abbrev s_law_maze:Stmt:=top 16
abbrev N_law_maze:List Str:=["_law_cells","_law_sort","_law_maze_here","_law_counts","_law_k","_law_cell","_law_top","_law_rest","_law_span","_law_below","_law_j","_law_low"]
theorem sc_law_maze:FnScope N_law_maze ["_law_cells","_law_sort"] (defScope s_law_maze):=⟨rfl,rfl,rfl,by decide +kernel,rfl,by decide +kernel,by decide +kernel⟩
abbrev s_law_goals:Stmt:=top 17
abbrev N_law_goals:List Str:=["_law_maze_here","_law_cell","_law_high","_law_state","_law_goals_here","_law_place"]
theorem sc_law_goals:FnScope N_law_goals ["_law_maze_here","_law_cell"] (defScope s_law_goals):=⟨rfl,rfl,rfl,by decide +kernel,rfl,by decide +kernel,by decide +kernel⟩
abbrev s_law_mixed:Stmt:=top 18
abbrev N_law_mixed:List Str:=["_law_script","_law_start","_law_count","_law_made","_law_k","_law_cell"]
theorem sc_law_mixed:FnScope N_law_mixed ["_law_script","_law_start","_law_count"] (defScope s_law_mixed):=⟨rfl,rfl,rfl,by decide +kernel,rfl,by decide +kernel,by decide +kernel⟩
abbrev s_law_digit_maze:Stmt:=top 19
abbrev N_law_digit_maze:List Str:=["_law_cell","_law_most","_law_count","_law_maze_here","_law_k","_law_goals_here"]
theorem sc_law_digit_maze:FnScope N_law_digit_maze ["_law_cell","_law_most"] (defScope s_law_digit_maze):=⟨rfl,rfl,rfl,by decide +kernel,rfl,by decide +kernel,by decide +kernel⟩
abbrev s_law_copy:Stmt:=top 20
abbrev N_law_copy:List Str:=["_law_rows"]
theorem sc_law_copy:FnScope N_law_copy ["_law_rows"] (defScope s_law_copy):=⟨rfl,rfl,rfl,by decide +kernel,rfl,by decide +kernel,by decide +kernel⟩
abbrev s_law_leaks:Stmt:=top 21
abbrev N_law_leaks:List Str:=["_law_maze_here","_law_goals_here","_law_stops","_law_wet","_law_k","_law_low","_law_goal"]
theorem sc_law_leaks:FnScope N_law_leaks ["_law_maze_here","_law_goals_here","_law_stops"] (defScope s_law_leaks):=⟨rfl,rfl,rfl,by decide +kernel,rfl,by decide +kernel,by decide +kernel⟩
abbrev s_law_are_places:Stmt:=top 22
abbrev N_law_are_places:List Str:=["_law_stops","_law_maze_here","_law_goals_here","_law_k"]
theorem sc_law_are_places:FnScope N_law_are_places ["_law_stops","_law_maze_here","_law_goals_here"] (defScope s_law_are_places):=⟨rfl,rfl,rfl,by decide +kernel,rfl,by decide +kernel,by decide +kernel⟩
abbrev s_law:Stmt:=top 23
abbrev N_law:List Str:=["_law_script","_law_maze_here","_law_goals_here","_law_cells","_law_most","_law_ways","_law_stops","_law_again"]
theorem sc_law:FnScope N_law ["_law_script"] (defScope s_law):=⟨rfl,rfl,rfl,by decide +kernel,rfl,by decide +kernel,by decide +kernel⟩
structure Adr where
 f_head:Addr
 d_head:FuncData
 f_foot:Addr
 d_foot:FuncData
 f_need_goals:Addr
 d_need_goals:FuncData
 f_next_ends:Addr
 d_next_ends:FuncData
 f_search:Addr
 d_search:FuncData
 f_lead:Addr
 d_lead:FuncData
 f_way_from:Addr
 d_way_from:FuncData
 f_ways_of:Addr
 d_ways_of:FuncData
 f_stops_of:Addr
 d_stops_of:FuncData
 f_apart:Addr
 d_apart:FuncData
 f_law_cell_at:Addr
 d_law_cell_at:FuncData
 f_law_maze:Addr
 d_law_maze:FuncData
 f_law_goals:Addr
 d_law_goals:FuncData
 f_law_mixed:Addr
 d_law_mixed:FuncData
 f_law_digit_maze:Addr
 d_law_digit_maze:FuncData
 f_law_copy:Addr
 d_law_copy:FuncData
 f_law_leaks:Addr
 d_law_leaks:FuncData
 f_law_are_places:Addr
 d_law_are_places:FuncData
 f_law:Addr
 d_law:FuncData
 c_NoGoal:Addr
structure Txt (K:PySem.W.Frag) (mg:Str→Option Value) (a:Adr):Prop where
 mg_head:mg "head" = some (.ref a.f_head)
 fn_head:Fun K "head" "head" s_head a.f_head a.d_head
 bi_head:Binds K a.d_head ["place"] []
 mg_foot:mg "foot" = some (.ref a.f_foot)
 fn_foot:Fun K "foot" "foot" s_foot a.f_foot a.d_foot
 bi_foot:Binds K a.d_foot ["place"] []
 mg_need_goals:mg "need_goals" = some (.ref a.f_need_goals)
 fn_need_goals:Fun K "need_goals" "need_goals" s_need_goals a.f_need_goals a.d_need_goals
 bi_need_goals:Binds K a.d_need_goals ["maze","goals"] []
 mg_next_ends:mg "next_ends" = some (.ref a.f_next_ends)
 fn_next_ends:Fun K "next_ends" "next_ends" s_next_ends a.f_next_ends a.d_next_ends
 bi_next_ends:Binds K a.d_next_ends ["maze","above","end"] []
 mg_search:mg "search" = some (.ref a.f_search)
 fn_search:Fun K "search" "search" s_search a.f_search a.d_search
 bi_search:Binds K a.d_search ["maze","goals","above"] []
 mg_lead:mg "lead" = some (.ref a.f_lead)
 fn_lead:Fun K "lead" "lead" s_lead a.f_lead a.d_lead
 bi_lead:Binds K a.d_lead ["above","came","spring"] []
 mg_way_from:mg "way_from" = some (.ref a.f_way_from)
 fn_way_from:Fun K "way_from" "way_from" s_way_from a.f_way_from a.d_way_from
 bi_way_from:Binds K a.d_way_from ["above","spring"] []
 mg_ways_of:mg "ways_of" = some (.ref a.f_ways_of)
 fn_ways_of:Fun K "ways_of" "ways_of" s_ways_of a.f_ways_of a.d_ways_of
 bi_ways_of:Binds K a.d_ways_of ["maze","above"] []
 mg_stops_of:mg "stops_of" = some (.ref a.f_stops_of)
 fn_stops_of:Fun K "stops_of" "stops_of" s_stops_of a.f_stops_of a.d_stops_of
 bi_stops_of:Binds K a.d_stops_of ["came"] []
 mg_apart:mg "apart" = some (.ref a.f_apart)
 fn_apart:Fun K "apart" "apart" s_apart a.f_apart a.d_apart
 bi_apart:Binds K a.d_apart ["maze","goals","most"] []
 mg_law_cell_at:mg "_law_cell_at" = some (.ref a.f_law_cell_at)
 fn_law_cell_at:Fun K "_law_cell_at" "_law_cell_at" s_law_cell_at a.f_law_cell_at a.d_law_cell_at
 bi_law_cell_at:Binds K a.d_law_cell_at ["_law_script","_law_k"] []
 mg_law_maze:mg "_law_maze" = some (.ref a.f_law_maze)
 fn_law_maze:Fun K "_law_maze" "_law_maze" s_law_maze a.f_law_maze a.d_law_maze
 bi_law_maze:Binds K a.d_law_maze ["_law_cells","_law_sort"] []
 mg_law_goals:mg "_law_goals" = some (.ref a.f_law_goals)
 fn_law_goals:Fun K "_law_goals" "_law_goals" s_law_goals a.f_law_goals a.d_law_goals
 bi_law_goals:Binds K a.d_law_goals ["_law_maze_here","_law_cell"] []
 mg_law_mixed:mg "_law_mixed" = some (.ref a.f_law_mixed)
 fn_law_mixed:Fun K "_law_mixed" "_law_mixed" s_law_mixed a.f_law_mixed a.d_law_mixed
 bi_law_mixed:Binds K a.d_law_mixed ["_law_script","_law_start","_law_count"] []
 mg_law_digit_maze:mg "_law_digit_maze" = some (.ref a.f_law_digit_maze)
 fn_law_digit_maze:Fun K "_law_digit_maze" "_law_digit_maze" s_law_digit_maze a.f_law_digit_maze a.d_law_digit_maze
 bi_law_digit_maze:Binds K a.d_law_digit_maze ["_law_cell","_law_most"] []
 mg_law_copy:mg "_law_copy" = some (.ref a.f_law_copy)
 fn_law_copy:Fun K "_law_copy" "_law_copy" s_law_copy a.f_law_copy a.d_law_copy
 bi_law_copy:Binds K a.d_law_copy ["_law_rows"] []
 mg_law_leaks:mg "_law_leaks" = some (.ref a.f_law_leaks)
 fn_law_leaks:Fun K "_law_leaks" "_law_leaks" s_law_leaks a.f_law_leaks a.d_law_leaks
 bi_law_leaks:Binds K a.d_law_leaks ["_law_maze_here","_law_goals_here","_law_stops"] []
 mg_law_are_places:mg "_law_are_places" = some (.ref a.f_law_are_places)
 fn_law_are_places:Fun K "_law_are_places" "_law_are_places" s_law_are_places a.f_law_are_places a.d_law_are_places
 bi_law_are_places:Binds K a.d_law_are_places ["_law_stops","_law_maze_here","_law_goals_here"] []
 mg_law:mg "law" = some (.ref a.f_law)
 fn_law:Fun K "law" "law" s_law a.f_law a.d_law
 bi_law:Binds K a.d_law ["_law_script"] []
 mg_NoGoal:mg "NoGoal" = some (.ref a.c_NoGoal)
 xi_NoGoal:PySem.W.excIn K a.c_NoGoal [.type "ValueError",.type "Exception",.type "BaseException",.type "object"] "ValueError.__new__" = true
 xq_NoGoal:exq K a.c_NoGoal=true
 kv_NoGoal:PySem.W.kitOne K (.ref a.c_NoGoal) (.type "ValueError")=some true
 xk_NoGoal:PySem.W.ktsIn K a.c_NoGoal "BaseException" = true
 no_bool:mg "bool" = none
 no_int:mg "int" = none
 no_isinstance:mg "isinstance" = none
 no_len:mg "len" = none
 no_list:mg "list" = none
 no_min:mg "min" = none
 no_range:mg "range" = none
 no_reversed:mg "reversed" = none
 no_sorted:mg "sorted" = none
seal PE PT PS PSs PA PG PGs PI PO PW PTs PPs PK PC PSet PIp OpR UnR CallR IxR SlR MtR MtM tMid
local macro_rules | `(tactic| walk_at "go")=>`(tactic| try simp only [tSeq,tAsg,gName,gTup,gCons,gNil,gSub,tOp,tC,cVar,cI2,cI2c,cAdd,cMul,cEq,cNe,cIs,cIsNot,cIn,cBool,cTst,cTru,cChain,tRet,tWhile,tDrop,tIfS,tIf,tCall,tCons,tNil,tNext,tCB,cLen,cInt,cIsinst,cMin,tNot,tOr,tAnd,cAndV,cOrV,cNotV,tUn,cNeg,tFor_list,tFor_rng1,tComp_list,tComp_rng1,cRef,cInt1,cIx,tSl,cSlU,cPart,tNoPart,tVals,tLst_n,tTup_n,tDNewK_n,cList_n,tDGet,tDNotIn,sDPut,tBM,tBM0,tyV,cSortD,rPop,tDPop1,cListK,tRaise,cListRev,List.append_nil,List.cons_append,List.nil_append,List.getElem?_cons_zero,List.getElem?_cons_succ,List.set_cons_zero,List.set_cons_succ,decide_eq_true_eq,if_true,if_false,Bool.false_eq_true,eq_self,decide_true,decide_false,Bool.not_true,Bool.not_false,Bool.not_eq_true',decide_eq_false_iff_not,Bool.and_true,Bool.true_and])
local macro_rules | `(tactic| walk_at "sd")=>`(tactic| first | exact And.intro (by decide) (by decide) | decide | omega | exact Or.inl (And.intro (by omega) (by omega)) | exact Or.inr (And.intro (by omega) (by omega)) | exact And.intro (by omega) (And.intro (by omega) (by decide)) | exact And.intro (by omega) (by omega))
local macro_rules | `(tactic| walk_at "gs")=>`(tactic| (walk_at "go";repeat (first | (refine And.intro (by walk_at "sd") ?_;walk_at "go"))))
local macro_rules | `(tactic| walk_at "o")=>`(tactic| first | exact Or.inl rfl | exact Or.inr rfl)
variable {P:Program}{w:World}{K:PySem.W.Frag}{mg:Str→Option Value}{base:Heap}{a:Adr}
def nv (c:Nat):V:=.int (c:Nat)
def ov:Option Nat→V
 | none=>.non
 | some u=>nv u
def enc (x:Nat × Option Nat):Key × V:=(.inl (x.1:Int),ov x.2)
theorem val_enc (e:Nat):∀ cs:MZ.Cs,valV (cs.map enc) (.inl (e:Int))=(MZ.cmOf cs e).map ov
 | []=>rfl
 | x :: r=>by
  rw [List.map_cons]
  by_cases h:x.1=e
  ·rw [valV_pos (show (enc x).1=.inl (e:Int) by unfold enc;rw [h])]
   unfold MZ.cmOf
   rw [List.find?_cons_of_pos (by simpa using h)]
   rfl
  ·rw [valV_neg (show ¬ (enc x).1=.inl (e:Int) from fun z=>h (by have:=Sum.inl.inj z;omega)),val_enc e r]
   unfold MZ.cmOf
   rw [List.find?_cons_of_neg (by simpa using h)]
theorem any_enc (e:Nat) (cs:MZ.Cs):((cs.map enc).any fun kv=>decide (kv.1=(.inl (e:Int):Key)))=(cs.any fun x=>decide (x.1=e)):=by
 rw [List.any_map]
 congr 1
 funext x
 show decide ((.inl (x.1:Int):Key)=.inl (e:Int))=decide (x.1=e)
 rw [decide_eq_decide]
 exact ⟨fun z=>by have:=Sum.inl.inj z;omega,fun z=>by rw [z]⟩
theorem put_enc (cs:MZ.Cs) (e:Nat) (o:Option Nat):putK (cs.map enc) (.inl (e:Int)) (ov o)=(MZ.putA cs e o).map enc:=by
 unfold putK MZ.putA
 rw [any_enc]
 by_cases h:(cs.any fun x=>decide (x.1=e))=true
 ·rw [if_pos h,if_pos h,List.map_map,List.map_map]
  refine List.map_congr_left fun x _=>?_
  show (if (enc x).1=.inl (e:Int) then ((enc x).1,ov o) else enc x)=enc (if x.1=e then (x.1,o) else x)
  by_cases g:x.1=e
  ·rw [if_pos g,if_pos (show (enc x).1=.inl (e:Int) by unfold enc;rw [g])]
   rfl
  ·rw [if_neg g,if_neg (show ¬ (enc x).1=.inl (e:Int) from fun z=>g (by have:=Sum.inl.inj z;omega))]
 ·rw [if_neg h,if_neg h,List.map_append]
  rfl
theorem drop_enc (cs:MZ.Cs) (e:Nat):dropK (cs.map enc) (.inl (e:Int))=(MZ.dropA cs e).map enc:=by
 unfold dropK MZ.dropA
 rw [List.filter_map]
 congr 1
 refine List.filter_congr fun x _=>?_
 show decide ((enc x).1≠.inl (e:Int))=decide (x.1≠e)
 rw [decide_eq_decide]
 exact ⟨fun z g=>z (by unfold enc;rw [g]),fun z g=>z (by have:=Sum.inl.inj g;omega)⟩
structure MazeAt (H:Hp) (mp:Addr) (rs:List Addr) (ls:List (List Nat)):Prop where
 lst:H mp=some (.lst (rs.map V.ref))
 len:rs.length=ls.length
 at_:∀ (i:Nat) r l,rs[i]? = some r→ls[i]? = some l→H r=some (.lst (l.map nv))
theorem MazeAt.same {H H':Hp}{mp:Addr}{rs:List Addr}{ls:List (List Nat)} (h:MazeAt H mp rs ls) (s:Same H H'):MazeAt H' mp rs ls:=⟨s _ _ h.lst,h.len,fun i r l hr hl=>s _ _ (h.at_ i r l hr hl)⟩
def loOf (ls:List (List Nat)) (p:Nat):List Nat:=ls.getD p []
theorem MazeAt.get {H:Hp}{mp:Addr}{rs:List Addr}{ls:List (List Nat)} (h:MazeAt H mp rs ls) {i:Nat} (hi:i<ls.length):∃ r,atI (rs.map V.ref) (i:Int)=some (.ref r)∧H r=some (.lst ((loOf ls i).map nv)):=by
 have hr:rs[i]? = some (rs[i]'(by rw [h.len];exact hi)):=List.getElem?_eq_getElem _
 have hl:ls[i]? = some ls[i]:=List.getElem?_eq_getElem hi
 refine ⟨rs[i]'(by rw [h.len];exact hi),?_,?_⟩
 ·rw [atI_ok .non (by omega) (by rw [List.length_map,h.len];omega),Int.toNat_natCast,List.getD_eq_getElem?_getD,List.getElem?_map,hr]
  rfl
 ·have:=h.at_ i _ _ hr hl
  unfold loOf
  rw [List.getD_eq_getElem?_getD,hl]
  exact this
def sp_head (_:PySem.W.Frag):Sp:=fun vs H Q _=>∃ p:Nat,vs=[.int p]∧Q (nv (2 * p)) H
def rd_head (K:PySem.W.Frag):TS:=(tRet (tOp cMul (tC (.int 2)) (cVar 0)))
theorem tm_head (T:Txt K mg a) {cdv:Value}{A:Around}{outer:List Env}{s:Shared}{H:Hp}{E:XK} (hr:Room 0 (A.deeper (envOfC "head" (defScope s_head) s.heap.objs.size a.f_head cdv))) :
  PSs (cxOf CX0 P w K mg base N_head "head" (defScope s_head) a.f_head cdv A outer s H E).nox (defBody s_head) (rd_head K) :=
 (pss_one (ps_ret (pe_op o_mul pe_int (cv 0))))
theorem ok_head (T:Txt K mg a):FnOk P w K mg base CX0 1 a.f_head a.d_head ["place"] (sp_head K):=by
 refine T.fn_head.ok sc_head (fun vs H Q E h=>?_) (fun cdv A outer s H vs Q E hr h=>⟨_,tm_head T hr,?_⟩)
 ·obtain ⟨p,rfl,_⟩:=h;rfl
 ·obtain ⟨p,rfl,q⟩:=h
  show rd_head K _ [some (.int p)] H
  unfold rd_head
  walk_at "gs"
  exact q
def sp_foot (_:PySem.W.Frag):Sp:=fun vs H Q _=>∃ p:Nat,vs=[.int p]∧Q (nv (2 * p+1)) H
def rd_foot (K:PySem.W.Frag):TS:=(tRet (tOp cAdd (tOp cMul (tC (.int 2)) (cVar 0)) (tC (.int 1))))
theorem tm_foot (T:Txt K mg a) {cdv:Value}{A:Around}{outer:List Env}{s:Shared}{H:Hp}{E:XK} (hr:Room 0 (A.deeper (envOfC "foot" (defScope s_foot) s.heap.objs.size a.f_foot cdv))) :
  PSs (cxOf CX0 P w K mg base N_foot "foot" (defScope s_foot) a.f_foot cdv A outer s H E).nox (defBody s_foot) (rd_foot K) :=
 (pss_one (ps_ret (pe_op o_add (pe_op o_mul pe_int (cv 0)) pe_int)))
theorem ok_foot (T:Txt K mg a):FnOk P w K mg base CX0 1 a.f_foot a.d_foot ["place"] (sp_foot K):=by
 refine T.fn_foot.ok sc_foot (fun vs H Q E h=>?_) (fun cdv A outer s H vs Q E hr h=>⟨_,tm_foot T hr,?_⟩)
 ·obtain ⟨p,rfl,_⟩:=h;rfl
 ·obtain ⟨p,rfl,q⟩:=h
  show rd_foot K _ [some (.int p)] H
  unfold rd_foot
  walk_at "gs"
  exact q
def GoalOk (ls:List (List Nat)) (gs:List Int):Prop:=∀ g∈gs,0≤g∧g<ls.length∧loOf ls g.toNat≠[]
def sp_need_goals (a:Adr) (_:PySem.W.Frag):Sp:=fun vs H Q E=>∃ (mp gp:Addr) (rs:List Addr) (ls:List (List Nat)) (gs:List Int),vs=[.ref mp,.ref gp]∧MazeAt H mp rs ls∧H gp=some (.lst (gs.map V.int))∧(GoalOk ls gs→Q .non H)∧(¬ GoalOk ls gs→∀ e,H e=none→E (.ref e) (some a.c_NoGoal) H)
def rd_need_goals (a:Adr) (K:PySem.W.Frag) (E:XK):TS:=(tFor (iList K (cVar 1)) (gName 2) (tIfS (tOr (cTst (tOp (cI2 fun i j=>.bl (decide (i<j))) (cVar 2) (tC (.int 0)))) (tOr (cTst (tOp (cI2 fun i j=>.bl (decide (j≤i))) (cVar 2) (tCB (cLen K) (tCons (cVar 0) tNil)))) (cTst (tOp (cEq K) (tCB (cLen K) (tCons (tOp (cIx K) (cVar 0) (cVar 2)) tNil)) (tC (.int 0)))))) (tRaise a.c_NoGoal (tCons (tC (.str "a goal is a spring or no place of the maze")) tNil) E) tNext))
theorem tm_need_goals (T:Txt K mg a) {cdv:Value}{A:Around}{outer:List Env}{s:Shared}{H:Hp}{E:XK} (hr:Room 0 (A.deeper (envOfC "need_goals" (defScope s_need_goals) s.heap.objs.size a.f_need_goals cdv))) :
  PSs (cxOf (CX1 P w) P w K mg base N_need_goals "need_goals" (defScope s_need_goals) a.f_need_goals cdv A outer s H E) (defBody s_need_goals) (rd_need_goals a K E) :=
 (pss_one (ps_for passF rfl (pi_list (cv 1)) (pg_name (i:=2) sc_need_goals.nd rfl (by walk_at "o")) (pss_one (ps_if (PW.pt (pw_or (t_cmp o_lt (cv 2) pe_int (nomark _)) (pw_or (t_cmp o_ge (cv 2) (pe_callB c_len (by rfl) T.no_len PySem.boot_len (pa_cons (cv 0) pa_nil)) (nomark _)) (pw_or1 (t_cmp (o_eq (hr8 hr)) (pe_callB c_len (by rfl) T.no_len PySem.boot_len (pa_cons (pe_ix i_seq (cv 0) (cv 2) (fun _ _=>rfl)) pa_nil)) pe_int (nomark _)))))) (pss_one (ps_raise PySem.F.excBase_ValueError T.xi_NoGoal (by decide) rfl T.mg_NoGoal rfl xok_fn (pa_cons pe_str pa_nil))) pss_nil))))
theorem ok_need_goals (T:Txt K mg a):FnOk P w K mg base (CX1 P w) 1 a.f_need_goals a.d_need_goals ["maze","goals"] (sp_need_goals a K):=by
 refine T.fn_need_goals.okX sc_need_goals (fun vs H Q E h=>?_) (fun cdv A outer s H vs Q E hr h=>⟨_,tm_need_goals T hr,?_⟩)
 ·obtain ⟨mp,gp,rs,ls,gs,rfl,_⟩:=h;rfl
 ·obtain ⟨mp,gp,rs,ls,gs,rfl,hM,hG,q1,q0⟩:=h
  show rd_need_goals a K E _ [some (.ref mp),some (.ref gp),none] H
  unfold rd_need_goals
  walk_at "gs"
  refine ⟨⟨_,.of hG⟩,for_listG (xs:=gs.map V.int) (fun i σ H2=>H2=H∧GoalOk ls (gs.take i)∧∃ v2,σ=[some (.ref mp),some (.ref gp),v2]) ⟨rfl,fun g hg=>by simp at hg,_,rfl⟩ ?_ ?_ ?_⟩
  ·rintro i σ H2 _ ⟨rfl,_⟩
   exact .of hG
  ·rintro i v σ H2 hv ⟨rfl,hok,v2,rfl⟩
   obtain ⟨g,hg,rfl⟩:=get_map_of hv
   have bad:¬ (0≤g∧g<ls.length∧loOf ls g.toNat≠[])→∀ e,H2 e=none→E (.ref e) (some a.c_NoGoal) H2:=fun hno=>q0 fun hall=>hno (hall g (List.mem_of_getElem? hg))
   walk_at "gs"
   by_cases c0:g<0
   ·rw [if_pos c0]
    walk_at "gs"
    exact fun e he=>bad (by omega) e he
   rw [if_neg c0]
   refine .inl ⟨_,.inl (.of hM.lst),?_⟩
   rw [List.length_map,hM.len]
   by_cases c1:(ls.length:Int)≤g
   ·rw [if_pos c1]
    walk_at "gs"
    exact fun e he=>bad (by omega) e he
   rw [if_neg c1]
   obtain ⟨gn,rfl⟩:=Int.eq_ofNat_of_zero_le (by omega:0≤g)
   obtain ⟨r,h1,h2⟩:=hM.get (i:=gn) (by omega)
   refine ⟨_,_,.inl (.of hM.lst),h1,?_⟩
   refine .inl ⟨_,.inl (.of h2),?_⟩
   rw [List.length_map]
   walk_at "gs"
   by_cases c2:((loOf ls gn).length:Int)=0
   ·rw [if_pos c2]
    walk_at "gs"
    refine fun e he=>bad (fun ⟨_,_,z⟩=>z ?_) e he
    rw [Int.toNat_natCast]
    exact List.length_eq_zero_iff.mp (by omega)
   ·rw [if_neg c2]
    refine ⟨by trivial,fun x hx=>?_,_,rfl⟩
    rw [List.take_add_one,hg] at hx
    rcases List.mem_append.mp hx with z | z
    ·exact hok x z
    ·simp only [Option.toList_some,List.mem_singleton] at z
     subst z
     refine ⟨by omega,by omega,fun z=>c2 ?_⟩
     rw [Int.toNat_natCast] at z
     rw [z]
     rfl
  ·rintro σ H2 ⟨rfl,hok,v2,rfl⟩
   rw [List.length_map,List.take_length] at hok
   walk_at "gs"
   exact q1 hok
def sp_next_ends (_:PySem.W.Frag):Sp:=fun vs H Q _=>∃ (mp ap:Addr) (rs:List Addr) (ls:List (List Nat)) (as:MZ.Cs) (e:Nat),vs=[.ref mp,.ref ap,.int e]∧MazeAt H mp rs ls∧H ap=some (.dK (as.map enc))∧e / 2<ls.length∧ls.length≤1200∧(loOf ls (e / 2)).length≤1200 ∧
 ∀ l H',Mad H l (.lst ((MZ.nxt (loOf ls) (MZ.cmOf as) e).map nv)) H'→Q (.ref l) H'
def rd_next_ends (K:PySem.W.Frag):TS:=(tSeq (tAsg (tOp (cI2c CDiv fun i j=>.int (i / j)) (cVar 2) (tC (.int 2))) (gName 3))
  (tSeq (tIfS (cTst (tOp (cEq K) (cVar 2) (tCall (sp_foot K) [] E0 (tCons (cVar 3) tNil)))) (tRet (tOp cAdd (tComp (iList K (tOp (cIx K) (cVar 0) (cVar 3))) 1 [] (gName 0) tTrue (tCall (sp_head K) [] E0 (tCons (cVar 0) tNil))) (tLst (tCons (tCall (sp_head K) [] E0 (tCons (cVar 3) tNil)) tNil)))) tNext)
  (tSeq (tIfS (cTst (tDNotIn (cVar 3) (cVar 1))) (tRet (tLst (tCons (tCall (sp_foot K) [] E0 (tCons (cVar 3) tNil)) tNil))) tNext)
  (tRet (tIf (cTst (tOp cIs (tDGet (cVar 1) (cVar 3)) (tC .non))) (tLst tNil) (tLst (tCons (tCall (sp_foot K) [] E0 (tCons (tDGet (cVar 1) (cVar 3)) tNil)) tNil)))))))
theorem tm_next_ends (T:Txt K mg a) {cdv:Value}{A:Around}{outer:List Env}{s:Shared}{H:Hp}{E:XK} (hr:Room 1 (A.deeper (envOfC "next_ends" (defScope s_next_ends) s.heap.objs.size a.f_next_ends cdv))) :
  PSs (cxOf CX0 P w K mg base N_next_ends "next_ends" (defScope s_next_ends) a.f_next_ends cdv A outer s H E).nox (defBody s_next_ends) (rd_next_ends K) :=
 (pss_cons (ps_set (i:=3) sc_next_ends.nd rfl (by walk_at "o") (pe_op o_fdiv (cv 2) pe_int))
   (pss_cons (ps_if (t_cmp (o_eq (hr8 hr)) (cv 2) (pe_call (ok_foot T) (hr.mono (by decide)) rfl T.mg_foot T.fn_foot.kp T.bi_foot .nil pass0 (pa_cons (cv 3) pa_nil)) (nomark _)) (pss_one (ps_ret (pe_op o_add (pe_comp (N:=["lower"]) (k:=1) (sel:=[]) (CScope.of (defScope s_next_ends).names (by decide +kernel)) (CNames.of N_next_ends (by decide +kernel)) rfl (pi_list (pe_ix i_seq (cv 0) (cv 3) (fun _ _=>rfl))) (fun _ _ _ _=>(pg_name (i:=0) (show List.Nodup (["lower"]:List Str) by decide +kernel) rfl (by walk_at "o"))) (fun _ _ _ _=>pts_nil) (fun _ _ _ _=>(pe_call (ok_head T) (hr.mono (by decide)) rfl T.mg_head T.fn_head.kp T.bi_head .nil pass0 (pa_cons (cv 0) pa_nil)))) (pe_lst (pa_cons (pe_call (ok_head T) (hr.mono (by decide)) rfl T.mg_head T.fn_head.kp T.bi_head .nil pass0 (pa_cons (cv 3) pa_nil)) pa_nil))))) pss_nil)
   (pss_cons (ps_if (t_pc (pc_dnotin (hu_of hr) (cv 3) (cv 1))) (pss_one (ps_ret (pe_lst (pa_cons (pe_call (ok_foot T) (hr.mono (by decide)) rfl T.mg_foot T.fn_foot.kp T.bi_foot .nil pass0 (pa_cons (cv 3) pa_nil)) pa_nil)))) pss_nil)
   (pss_one (ps_ret (pe_ifExp (t_cmp o_is (pe_dget (hu_of hr) (cv 1) (cv 3) (fun _ _=>rfl)) pe_non (nomark _)) (pe_lst pa_nil) (pe_lst (pa_cons (pe_call (ok_foot T) (hr.mono (by decide)) rfl T.mg_foot T.fn_foot.kp T.bi_foot .nil pass0 (pa_cons (pe_dget (hu_of hr) (cv 1) (cv 3) (fun _ _=>rfl)) pa_nil)) pa_nil))))))))
theorem ok_next_ends (T:Txt K mg a):FnOk P w K mg base CX0 2 a.f_next_ends a.d_next_ends ["maze","above","end"] (sp_next_ends K):=by
 refine T.fn_next_ends.ok sc_next_ends (fun vs H Q E h=>?_) (fun cdv A outer s H vs Q E hr h=>⟨_,tm_next_ends T hr,?_⟩)
 ·obtain ⟨mp,ap,rs,ls,as,e,rfl,_⟩:=h;rfl
 ·obtain ⟨mp,ap,rs,ls,as,e,rfl,hM,hA,he,hl,hll,q⟩:=h
  show rd_next_ends K _ [some (.ref mp),some (.ref ap),some (.int e),none] H
  unfold rd_next_ends
  have big:(20000:Nat)≤sizeLine:=by decide
  have e2:((e:Int) / 2)=((e / 2:Nat):Int):=by omega
  have g1:=DGet.k (k:=.inl ((e / 2:Nat):Int)) hA
  rw [val_enc] at g1
  walk_at "gs"
  rw [e2]
  refine ⟨e / 2,rfl,?_⟩
  unfold nv
  walk_at "gs"
  by_cases c:(e:Int)=((2 * (e / 2)+1:Nat):Int)
  ·rw [if_pos c]
   have hodd:e % 2=1:=by omega
   obtain ⟨r,h1,h2⟩:=hM.get he
   refine ⟨_,_,.inl (.of hM.lst),h1,?_⟩
   refine ⟨⟨_,.of h2⟩,compG_list (fun v=>match v with | .int l=>.int (2 * l) | _=>.non) (.of h2) rfl (by rw [List.length_map];omega) ?_ ?_⟩
   ·intro v H' Q' hv s' q'
    obtain ⟨l,_,rfl⟩:=List.mem_map.mp hv
    walk_at "gs"
    refine ⟨l,rfl,?_⟩
    have:nv (2 * l)=V.int (2 * (l:Int)):=by unfold nv;congr 1
    rw [this]
    exact q'
   intro l1 H1 n1
   have e1:((loOf ls (e / 2)).map nv).map (fun v=>match v with | .int l=>V.int (2 * l) | _=>.non)=((loOf ls (e / 2)).map fun l=>2 * l).map nv:=by rw [List.map_map,List.map_map];rfl
   rw [e1] at n1
   walk_at "gs"
   refine ⟨e / 2,rfl,?_⟩
   refine ⟨by show 1≤sizeLine;decide,fun l2 H2 n2=>?_⟩
   refine ⟨_,_,n2.same _ _ n1.at_,n2.at_,by rw [List.length_map,List.length_map];show _+1≤_;omega,fun l3 hl3=>?_⟩
   have e3:((loOf ls (e / 2)).map fun l=>2 * l).map nv ++ [nv (2 * (e / 2))]=(MZ.nxt (loOf ls) (MZ.cmOf as) e).map nv:=by
    unfold MZ.nxt
    rw [if_pos hodd,List.map_append]
    rfl
   rw [e3]
   have s2:=n1.same.trans n2.same
   exact q l3 _ ⟨s2.nil hl3,upd_same,s2.trans (same_upd hl3)⟩
  rw [if_neg c]
  have hev:¬ e % 2=1:=by omega
  refine ⟨ap,_,rfl,g1,?_⟩
  cases hc:MZ.cmOf as (e / 2) with
  | none =>
   rw [hc] at g1
   walk_at "gs"
   refine ⟨e / 2,rfl,?_⟩
   refine ⟨by show 1≤sizeLine;decide,fun l2 H2 n2=>?_⟩
   have e3:[nv (2 * (e / 2)+1)]=(MZ.nxt (loOf ls) (MZ.cmOf as) e).map nv:=by
    unfold MZ.nxt
    rw [if_neg hev,hc]
    rfl
   rw [e3] at n2
   exact q l2 H2 n2.mad
  | some o =>
   rw [hc] at g1
   walk_at "gs"
   refine ⟨ap,_,rfl,g1,?_⟩
   cases o with
   | none =>
    show _
    walk_at "gs"
    intro l2 H2 n2
    have e3:([]:List V)=(MZ.nxt (loOf ls) (MZ.cmOf as) e).map nv:=by
     unfold MZ.nxt
     rw [if_neg hev,hc]
     rfl
    rw [e3] at n2
    exact q l2 H2 n2.mad
   | some u =>
    show _
    walk_at "gs"
    refine ⟨ap,_,rfl,g1,?_⟩
    refine ⟨u,rfl,?_⟩
    refine ⟨by show 1≤sizeLine;decide,fun l2 H2 n2=>?_⟩
    have e3:[nv (2 * u+1)]=(MZ.nxt (loOf ls) (MZ.cmOf as) e).map nv:=by
     unfold MZ.nxt
     rw [if_neg hev,hc]
     rfl
    rw [e3] at n2
    exact q l2 H2 n2.mad
def goalOf (gs:List Nat) (g:Nat):Prop:=g∈gs
theorem nodup_lt {n:Nat}:∀ {xs:List Nat},xs.Nodup→(∀ x∈xs,x<n)→xs.length≤n:=fun {xs} nd h=>by
 have:=MZ.len_le (R:=fun a b:Nat=>a=b) (fun a a' b h h'=>h.trans h'.symm) (A:=xs) (B:=List.range n) nd fun a ha=>⟨a,List.mem_range.mpr (h a ha),rfl⟩
 rwa [List.length_range] at this
structure Seek (ls:List (List Nat)) (gs:List Nat) (as cs:MZ.Cs) (ws:List Nat):Prop where
 came:MZ.Came (loOf ls) (goalOf gs) (MZ.cmOf as) cs
 wait:∀ w∈ws,w∈MZ.keys cs
 wnd:ws.Nodup
 bd:∀ e∈MZ.keys cs,e<2 * ls.length
 done:∀ e∈MZ.keys cs,e∈ws∨((∀ t,e=2 * t+1→loOf ls t≠[])∧∀ e'∈MZ.nxt (loOf ls) (MZ.cmOf as) e,e'∈MZ.keys cs)
theorem Seek.len {ls:List (List Nat)}{gs:List Nat}{as cs:MZ.Cs}{ws:List Nat} (h:Seek ls gs as cs ws):cs.length≤2 * ls.length:=by
 have:=nodup_lt h.came.nd h.bd
 unfold MZ.keys at this
 rwa [List.length_map] at this
structure Mz (ls:List (List Nat)):Prop where
 lt:∀ p l,l∈loOf ls p→l<p
 nd:∀ p,(loOf ls p).Nodup
theorem Mz.len {ls:List (List Nat)} (h:Mz ls) (p:Nat):(loOf ls p).length≤p:=nodup_lt (h.nd p) (h.lt p)
theorem lo_in {ls:List (List Nat)}{p l:Nat} (h:l∈loOf ls p):p<ls.length:=by
 refine Nat.lt_of_not_le fun z=>?_
 unfold loOf at h
 rw [List.getD_eq_getElem?_getD,List.getElem?_eq_none z] at h
 simp at h
theorem nxt_lt {ls:List (List Nat)} (mz:Mz ls) {as:MZ.Cs} (ab:∀ p q,MZ.cmOf as p=some (some q)→q<ls.length) {e e':Nat} (he:e<2 * ls.length) (h:e'∈MZ.nxt (loOf ls) (MZ.cmOf as) e):e'<2 * ls.length:=by
 rcases (by omega:e=2 * (e / 2)∨e=2 * (e / 2)+1) with z | z
 ·rw [z] at h
  rcases MZ.nxt_head h with ⟨_,rfl⟩ | ⟨q,hq,rfl⟩
  ·omega
  ·have:=ab _ _ hq
   omega
 ·rw [z] at h
  rcases MZ.nxt_foot h with ⟨l,hl,rfl⟩ | rfl
  ·have:=mz.lt _ _ hl
   omega
  ·omega
def sp_search (_:PySem.W.Frag):Sp:=fun vs H Q _=>∃ (mp gp ap:Addr) (rs:List Addr) (ls:List (List Nat)) (gs:List Nat) (as:MZ.Cs),vs=[.ref mp,.ref gp,.ref ap]∧MazeAt H mp rs ls∧H gp=some (.lst (gs.map nv))∧H ap=some (.dK (as.map enc))∧Mz ls∧ls.length≤1200∧(∀ g∈gs,g<ls.length)∧(∀ p q,MZ.cmOf as p=some (some q)→q<ls.length) ∧
 (∀ s cs tp cp H',Same H H'→H cp=none→H' tp=some (.tup [nv s,.ref cp])→H' cp=some (.dK (cs.map enc))→MZ.Came (loOf ls) (goalOf gs) (MZ.cmOf as) cs→loOf ls s=[]→2 * s+1∈MZ.keys cs→s<ls.length→(∀ e∈MZ.keys cs,e<2 * ls.length)→Q (.ref tp) H') ∧
 (∀ cs tp cp H',Same H H'→H' tp=some (.tup [.non,.ref cp])→H' cp=some (.dK (cs.map enc))→Seek ls gs as cs []→Q (.ref tp) H')
def rd_search (K:PySem.W.Frag):TS:=(tSeq (tAsg tDNewK (gName 3))
  (tSeq (tFor (iList K (cVar 1)) (gName 4) (tFor (iList K (tOp (cIx K) (cVar 0) (cVar 4))) (gName 5) (sDPut (cVar 3) (tCall (sp_head K) [] E0 (tCons (cVar 5) tNil)) (tC .non))))
  (tSeq (tAsg (tCB (cListK K) (tCons (cVar 3) tNil)) (gName 6))
  (tSeq (tWhile (cTru K (cVar 6)) (tSeq (tAsg (tBM0 K "list" rPop (cVar 6)) (gName 7))
  (tSeq (tAsg (tOp (cI2c CDiv fun i j=>.int (i / j)) (cVar 7) (tC (.int 2))) (gName 8))
  (tSeq (tIfS (tAnd (cTst (tOp (cEq K) (cVar 7) (tCall (sp_foot K) [] E0 (tCons (cVar 8) tNil)))) (cTst (tOp (cEq K) (tCB (cLen K) (tCons (tOp (cIx K) (cVar 0) (cVar 8)) tNil)) (tC (.int 0))))) (tRet (tTup (tCons (cVar 8) (tCons (cVar 3) tNil)))) tNext)
  (tFor (iList K (tCall (sp_next_ends K) [] E0 (tCons (cVar 0) (tCons (cVar 2) (tCons (cVar 7) tNil))))) (gName 9) (tIfS (cTst (tDNotIn (cVar 9) (cVar 3))) (tSeq (sDPut (cVar 3) (cVar 9) (cVar 7))
  (tDrop (tBM K "list" rAppend (cVar 6) (tCons (cVar 9) tNil)))) tNext))))))
  (tRet (tTup (tCons (tC .non) (tCons (cVar 3) tNil))))))))
theorem tm_search (T:Txt K mg a) {cdv:Value}{A:Around}{outer:List Env}{s:Shared}{H:Hp}{E:XK} (hr:Room 2 (A.deeper (envOfC "search" (defScope s_search) s.heap.objs.size a.f_search cdv))) :
  PSs (cxOf CX0 P w K mg base N_search "search" (defScope s_search) a.f_search cdv A outer s H E).nox (defBody s_search) (rd_search K) :=
 (pss_cons (ps_set (i:=3) sc_search.nd rfl (by walk_at "o") pe_dnewK)
   (pss_cons (ps_for PassesOwn.never rfl (pi_list (cv 1)) (pg_name (i:=4) sc_search.nd rfl (by walk_at "o")) (pss_one (ps_for PassesOwn.never rfl (pi_list (pe_ix i_seq (cv 0) (cv 4) (fun _ _=>rfl))) (pg_name (i:=5) sc_search.nd rfl (by walk_at "o")) (pss_one (ps_dput (hu_of hr) (cv 3) (pe_call (ok_head T) (hr.mono (by decide)) rfl T.mg_head T.fn_head.kp T.bi_head .nil pass0 (pa_cons (cv 5) pa_nil)) pe_non rfl)))))
   (pss_cons (ps_set (i:=6) sc_search.nd rfl (by walk_at "o") (pe_callTy (c_listK rfl) (by rfl) T.no_list PyProof.Rows.boot_list (pa_cons (cv 3) pa_nil)))
   (pss_cons (ps_while PassesOwn.never (pt_tru (cv 6)) (pss_cons (ps_set (i:=7) sc_search.nd rfl (by walk_at "o") (pe_bm0 PySem.F.plainAttrs_list PySem.F.slot_list_pop PySem.F.type_list_pop (mtr mt_pop) (cv 6)))
   (pss_cons (ps_set (i:=8) sc_search.nd rfl (by walk_at "o") (pe_op o_fdiv (cv 7) pe_int))
   (pss_cons (ps_if (PW.pt (pw_and (t_cmp (o_eq (hr8 hr)) (cv 7) (pe_call (ok_foot T) (hr.mono (by decide)) rfl T.mg_foot T.fn_foot.kp T.bi_foot .nil pass0 (pa_cons (cv 8) pa_nil)) (nomark _)) (pw_and1 (t_cmp (o_eq (hr8 hr)) (pe_callB c_len (by rfl) T.no_len PySem.boot_len (pa_cons (pe_ix i_seq (cv 0) (cv 8) (fun _ _=>rfl)) pa_nil)) pe_int (nomark _))))) (pss_one (ps_ret (pe_tup (pa_cons (cv 8) (pa_cons (cv 3) pa_nil))))) pss_nil)
   (pss_one (ps_for PassesOwn.never rfl (pi_list (pe_call (ok_next_ends T) (hr.mono (by decide)) rfl T.mg_next_ends T.fn_next_ends.kp T.bi_next_ends .nil pass0 (pa_cons (cv 0) (pa_cons (cv 2) (pa_cons (cv 7) pa_nil))))) (pg_name (i:=9) sc_search.nd rfl (by walk_at "o")) (pss_one (ps_if (t_pc (pc_dnotin (hu_of hr) (cv 9) (cv 3))) (pss_cons (ps_dput (hu_of hr) (cv 3) (cv 9) (cv 7) rfl)
   (pss_one (ps_expr (pe_bm PySem.F.plainAttrs_list PySem.F.slot_list_append PySem.F.type_list_append (mtr mt_append) (cv 6) (pa_cons (cv 9) pa_nil))))) pss_nil))))))))
   (pss_one (ps_ret (pe_tup (pa_cons pe_non (pa_cons (cv 3) pa_nil)))))))))
theorem ok_search (T:Txt K mg a):FnOk P w K mg base CX0 3 a.f_search a.d_search ["maze","goals","above"] (sp_search K):=by
 refine T.fn_search.ok sc_search (fun vs H Q E h=>?_) (fun cdv A outer s H vs Q E hr h=>⟨_,tm_search T hr,?_⟩)
 ·obtain ⟨mp,gp,ap,rs,ls,gs,as,rfl,_⟩:=h;rfl
 ·obtain ⟨mp,gp,ap,rs,ls,gs,as,rfl,hM,hG,hA,mz,hn,hgs,hab,q1,q0⟩:=h
  show rd_search K _ [some (.ref mp),some (.ref gp),some (.ref ap),none,none,none,none,none,none,none] H
  unfold rd_search
  have big:(20000:Nat)≤sizeLine:=by decide
  walk_at "gs"
  intro cp H1 n1
  have fc:H cp=none:=n1.was
  walk_at "gs"
  refine ⟨⟨_,.of (n1.same _ _ hG)⟩,for_listG (xs:=gs.map nv) (fun i σ H2=>Same H H2∧∃ (cs:MZ.Cs) (v4 v5:Option V),H2 cp=some (.dK (cs.map enc))∧(MZ.keys cs).Nodup∧(∀ x∈cs,x.2=none)∧(∀ e,e∈MZ.keys cs ↔ ∃ g∈gs.take i,∃ l∈loOf ls g,e=2 * l)∧σ=[some (.ref mp),some (.ref gp),some (.ref ap),some (.ref cp),v4,v5,none,none,none,none]) ⟨n1.same,[],_,_,n1.at_,List.nodup_nil,fun x hx=>by simp at hx,fun e=>by simp [MZ.keys],rfl⟩ ?_ ?_ ?_⟩
  ·rintro i σ H2 _ ⟨s2,_⟩
   exact .of (s2 _ _ hG)
  ·rintro i v σ H2 hv ⟨s2,cs,v4,v5,h2,nd2,all2,key2,rfl⟩
   obtain ⟨g,hg,rfl⟩:=get_map_of hv
   have hgl:=hgs g (List.mem_of_getElem? hg)
   obtain ⟨r,hr1,hr2⟩:=(hM.same s2).get hgl
   have hll:=mz.len g
   unfold nv
   walk_at "gs"
   refine ⟨_,_,.inl (.of (s2 _ _ hM.lst)),hr1,?_⟩
   refine ⟨⟨_,.of hr2⟩,for_listG (xs:=(loOf ls g).map nv) (fun j σ H3=>Same H H3∧H3 r=some (.lst ((loOf ls g).map nv))∧∃ (cs:MZ.Cs) (v5:Option V),H3 cp=some (.dK (cs.map enc))∧(MZ.keys cs).Nodup∧(∀ x∈cs,x.2=none)∧(∀ e,e∈MZ.keys cs ↔ (∃ g∈gs.take i,∃ l∈loOf ls g,e=2 * l)∨∃ l∈(loOf ls g).take j,e=2 * l)∧σ=[some (.ref mp),some (.ref gp),some (.ref ap),some (.ref cp),some (.int (g:Nat)),v5,none,none,none,none]) ⟨s2,hr2,cs,_,h2,nd2,all2,fun e=>by rw [key2];simp,rfl⟩ ?_ ?_ ?_⟩
   ·rintro j σ H3 _ ⟨_,h3,_⟩
    exact .of h3
   ·rintro j w σ H3 hw ⟨s3,hr3,cs,v5,h3,nd3,all3,key3,rfl⟩
    obtain ⟨l,hl,rfl⟩:=get_map_of hw
    have hlm:=List.mem_of_getElem? hl
    have hcl:cs.length≤2 * ls.length:=by
     have:=nodup_lt (n:=2 * ls.length) nd3 fun e he=>by
      rcases (key3 e).mp he with ⟨g',hg',l',hl',rfl⟩ | ⟨l',hl',rfl⟩
      ·have:=mz.lt _ _ hl'
       have:=lo_in hl'
       omega
      ·have:=mz.lt _ _ (List.mem_of_mem_take hl')
       omega
     unfold MZ.keys at this
     rwa [List.length_map] at this
    unfold nv
    walk_at "gs"
    refine ⟨l,rfl,cp,_,rfl,.k (k:=.inl ((2 * l:Nat):Int)) h3 (by rw [List.length_map];omega),s3.put fc,?_,MZ.putA cs (2 * l) none,_,?_,MZ.nd_put nd3 _ _,fun x hx=>?_,fun e=>?_,rfl⟩
    ·rw [upd_ne (ne_of hr3 h3 (fun z=>nomatch z))]
     exact hr3
    ·rw [upd_same]
     exact congrArg (fun z=>some (HO.dK z)) (put_enc cs (2 * l) none)
    ·have hx':=(MZ.cm_mem (MZ.nd_put nd3 _ _)).mpr (show (x.1,x.2)∈_ from hx)
     rw [MZ.cm_put nd3] at hx'
     by_cases e:x.1=2 * l
     ·rw [if_pos e] at hx'
      exact (Option.some.inj hx').symm
     ·rw [if_neg e] at hx'
      exact all3 _ ((MZ.cm_mem nd3).mp hx')
    ·rw [MZ.keys_put]
     have ek:(∃ l'∈(loOf ls g).take (j+1),e=2 * l') ↔ (∃ l'∈(loOf ls g).take j,e=2 * l')∨e=2 * l:=by
      rw [List.take_add_one,hl]
      constructor
      ·rintro ⟨l',hl',rfl⟩
       rcases List.mem_append.mp hl' with z | z
       ·exact .inl ⟨l',z,rfl⟩
       ·simp only [Option.toList_some,List.mem_singleton] at z
        subst z
        exact .inr rfl
      ·rintro (⟨l',hl',rfl⟩ | rfl)
       ·exact ⟨l',List.mem_append_left _ hl',rfl⟩
       ·exact ⟨l,List.mem_append_right _ (by simp),rfl⟩
     rw [ek,← or_assoc,← key3]
     split
     ·rename_i hin
      constructor
      ·exact .inl
      ·rintro (z | rfl)
       ·exact z
       ·exact hin
     ·rw [List.mem_append,List.mem_singleton]
   ·rintro σ H3 ⟨s3,hr3,cs,v5,h3,nd3,all3,key3,rfl⟩
    rw [List.length_map,List.take_length] at key3
    refine ⟨s3,cs,_,_,h3,nd3,all3,fun e=>?_,rfl⟩
    rw [key3,List.take_add_one,hg]
    constructor
    ·rintro (⟨g',hg',l,hl,rfl⟩ | ⟨l,hl,rfl⟩)
     ·exact ⟨g',List.mem_append_left _ hg',l,hl,rfl⟩
     ·exact ⟨g,List.mem_append_right _ (by simp),l,hl,rfl⟩
    ·rintro ⟨g',hg',l,hl,rfl⟩
     rcases List.mem_append.mp hg' with z | z
     ·exact .inl ⟨g',z,l,hl,rfl⟩
     ·simp only [Option.toList_some,List.mem_singleton] at z
      subst z
      exact .inr ⟨l,hl,rfl⟩
  ·rintro σ H2 ⟨s2,cs0,v4,v5,h2,nd2,all2,key2,rfl⟩
   rw [List.length_map,List.take_length] at key2
   have hC0:MZ.Came (loOf ls) (goalOf gs) (MZ.cmOf as) cs0:=by
    refine ⟨nd2,fun i e u h=>?_,fun e h=>?_,fun g l hg hl=>?_⟩
    ·have:=all2 _ (List.mem_of_getElem? h)
     cases this
    ·obtain ⟨g,hg,l,hl,rfl⟩:=(key2 e).mp (List.mem_map.mpr ⟨_,h,rfl⟩)
     exact ⟨by omega,g,hg,by rw [show 2 * l / 2=l by omega];exact hl⟩
    ·obtain ⟨x,hx,e⟩:=List.mem_map.mp ((key2 (2 * l)).mpr ⟨g,hg,l,hl,rfl⟩)
     have:=all2 x hx
     rw [← e,← this]
     exact hx
   have hS0:Seek ls gs as cs0 (MZ.keys cs0):=⟨hC0,fun w hw=>hw,nd2,fun e he=>by
    obtain ⟨g,hg,l,hl,rfl⟩:=(key2 e).mp he
    have:=mz.lt _ _ hl
    have:=lo_in hl
    omega,fun e he=>.inl he⟩
   walk_at "gs"
   refine ⟨_,.inl h2,fun wp H3 n3=>?_⟩
   have e3:(cs0.map enc).map (fun kv=>kV kv.1)=(MZ.keys cs0).map nv:=by unfold MZ.keys;rw [List.map_map,List.map_map];rfl
   rw [e3] at n3
   have s03:=s2.trans n3.same
   have fw:H wp=none:=s2.nil n3.was
   have ncw:cp≠wp:=ne_of_none h2 n3.was
   walk_at "gs"
   refine ⟨fun m σ H4=>∃ (cs:MZ.Cs) (ws:List Nat) (v4 v5 v7 v8 v9:Option V),Same H H4∧H4 cp=some (.dK (cs.map enc))∧H4 wp=some (.lst (ws.map nv))∧Seek ls gs as cs ws∧m=2 * (2 * ls.length - cs.length)+ws.length∧σ=[some (.ref mp),some (.ref gp),some (.ref ap),some (.ref cp),v4,v5,some (.ref wp),v7,v8,v9],⟨_,cs0,MZ.keys cs0,_,_,_,_,_,s03,n3.same _ _ h2,n3.at_,hS0,rfl,rfl⟩,?_⟩
   rintro m σ H4 ⟨cs,ws,v4,v5,v7,v8,v9,s4,h4,hw4,sk,rfl,rfl⟩
   simp only [cTru,cVar,List.getElem?_cons_zero,List.getElem?_cons_succ]
   refine ⟨_,.inl ⟨_,.of hw4,rfl⟩,?_⟩
   rcases List.eq_nil_or_concat ws with rfl | ⟨ws',e,hwe⟩
   ·rw [if_neg (by simp)]
    walk_at "gs"
    refine ⟨by show 2≤sizeLine;decide,fun tp H5 n5=>?_⟩
    exact q0 cs tp cp H5 (s4.trans n5.same) n5.at_ (n5.same _ _ h4) sk
   rw [List.concat_eq_append] at hwe
   subst hwe
   rw [if_pos (by simp)]
   have hek:=sk.wait e (by simp)
   have heb:=sk.bd e hek
   have hcl:=sk.len
   have hwn:=List.nodup_append.mp sk.wnd
   refine ⟨fun σ' H'=>∃ (cs':MZ.Cs) (ws2:List Nat) (v4 v5 v7 v8 v9:Option V),Same H H'∧H' cp=some (.dK (cs'.map enc))∧H' wp=some (.lst (ws2.map nv))∧Seek ls gs as cs' ws2∧2 * (2 * ls.length - cs'.length)+ws2.length≤2 * (2 * ls.length - cs.length)+ws'.length∧σ'=[some (.ref mp),some (.ref gp),some (.ref ap),some (.ref cp),v4,v5,some (.ref wp),v7,v8,v9],?_,?_⟩
   ·rintro σ' H' ⟨cs',ws2,w4,w5,w7,w8,w9,z1,z2,z3,z4,z5,rfl⟩
    exact ⟨_,by rw [List.length_append,List.length_singleton];omega,cs',ws2,_,_,_,_,_,z1,z2,z3,z4,rfl,rfl⟩
   refine ⟨.inl ⟨by trivial,_,.of hw4⟩,wp,_,nv e,rfl,by trivial,hw4,by rw [List.map_append];simp,?_⟩
   have hw5:upd H4 wp (.lst (((ws' ++ [e]).map nv).dropLast)) wp=some (.lst (ws'.map nv)):=by rw [upd_same,List.map_append];simp
   have h5:upd H4 wp (.lst (((ws' ++ [e]).map nv).dropLast)) cp=some (.dK (cs.map enc)):=by rw [upd_ne ncw];exact h4
   have s5:Same H (upd H4 wp (.lst (((ws' ++ [e]).map nv).dropLast))):=s4.put fw
   generalize upd H4 wp (.lst (((ws' ++ [e]).map nv).dropLast))=H5 at hw5 h5 s5 ⊢
   unfold nv
   walk_at "gs"
   have e2:((e:Int) / 2)=((e / 2:Nat):Int):=by omega
   rw [e2]
   refine ⟨e / 2,rfl,?_⟩
   unfold nv
   have hM5:=hM.same s5
   obtain ⟨r,hr1,hr2⟩:=hM5.get (i:=e / 2) (by omega)
   have go:(∀ t,e=2 * t+1→loOf ls t≠[])→∀ D:Ends,D.nx=(fun σ' H'=>∃ (cs':MZ.Cs) (ws2:List Nat) (v4 v5 v7 v8 v9:Option V),Same H H'∧H' cp=some (.dK (cs'.map enc))∧H' wp=some (.lst (ws2.map nv))∧Seek ls gs as cs' ws2∧2 * (2 * ls.length - cs'.length)+ws2.length≤2 * (2 * ls.length - cs.length)+ws'.length∧σ'=[some (.ref mp),some (.ref gp),some (.ref ap),some (.ref cp),v4,v5,some (.ref wp),v7,v8,v9])→sp_next_ends K [.ref mp,.ref ap,.int (e:Nat)] H5 (fun x H6=>match x with | .ref p=>(∃ xs,SqL K H6 p xs)∧ForGoal (Itl K p) (gName 9) (tIfS (cTst (tDNotIn (cVar 9) (cVar 3))) (tSeq (sDPut (cVar 3) (cVar 9) (cVar 7)) (tDrop (tBM K "list" rAppend (cVar 6) (tCons (cVar 9) tNil)))) tNext) D [some (.ref mp),some (.ref gp),some (.ref ap),some (.ref cp),v4,v5,some (.ref wp),some (.int (e:Nat)),some (.int ((e / 2:Nat):Int)),v9] H6 | _=>False) E0:=fun hns D hD=>by
    refine ⟨mp,ap,rs,ls,as,e,rfl,hM5,s5 _ _ hA,by omega,hn,by have:=mz.len (e / 2);omega,fun l6 H6 md=>?_⟩
    obtain ⟨f6,h6,s6⟩:=md
    have nlw:l6≠wp:=(ne_of_none hw5 f6).symm
    have nlc:l6≠cp:=(ne_of_none h5 f6).symm
    refine ⟨⟨_,.of h6⟩,for_listG (xs:=(MZ.nxt (loOf ls) (MZ.cmOf as) e).map nv) (fun j σ H7=>∃ (cs':MZ.Cs) (ws2:List Nat) (v9:Option V),Same H H7∧H7 l6=some (.lst ((MZ.nxt (loOf ls) (MZ.cmOf as) e).map nv))∧H7 cp=some (.dK (cs'.map enc))∧H7 wp=some (.lst (ws2.map nv))∧MZ.Came (loOf ls) (goalOf gs) (MZ.cmOf as) cs'∧(∀ x∈MZ.keys cs,x∈MZ.keys cs')∧(∀ x∈MZ.keys cs',x<2 * ls.length∧(x∈MZ.keys cs∨x∈ws2))∧(∀ x∈ws2,x∈MZ.keys cs')∧(∀ x∈ws',x∈ws2)∧ws2.Nodup∧cs.length≤cs'.length∧(∀ x∈(MZ.nxt (loOf ls) (MZ.cmOf as) e).take j,x∈MZ.keys cs')∧ws2.length+cs.length=ws'.length+cs'.length∧σ=[some (.ref mp),some (.ref gp),some (.ref ap),some (.ref cp),v4,v5,some (.ref wp),some (.int (e:Nat)),some (.int ((e / 2:Nat):Int)),v9]) ⟨cs,ws',_,s5.trans s6,h6,s6 _ _ h5,s6 _ _ hw5,sk.came,fun x hx=>hx,fun x hx=>⟨sk.bd x hx,.inl hx⟩,fun x hx=>sk.wait x (List.mem_append_left _ hx),fun x hx=>hx,hwn.1,Nat.le_refl _,fun x hx=>by simp at hx,rfl,rfl⟩ ?_ ?_ ?_⟩
    ·rintro j σ H7 _ ⟨_,_,_,_,h7,_⟩
     exact .of h7
    ·rintro j v σ H7 hv ⟨cs',ws2,w9,s7,hl7,h7,hw7,cm7,sub7,bd7,wt7,ws7,wn7,le7,nx7,ln7,rfl⟩
     obtain ⟨x,hx,rfl⟩:=get_map_of hv
     have hxm:=List.mem_of_getElem? hx
     have hxb:=nxt_lt mz hab heb hxm
     have hcl':cs'.length≤2 * ls.length:=by
      have:=nodup_lt cm7.nd fun y hy=>(bd7 y hy).1
      unfold MZ.keys at this
      rwa [List.length_map] at this
     have hwl':ws2.length≤2 * ls.length:=nodup_lt wn7 fun y hy=>(bd7 y (wt7 y hy)).1
     have g1:=DGet.k (k:=.inl (x:Int)) h7
     rw [val_enc] at g1
     unfold nv
     walk_at "gs"
     refine ⟨cp,_,rfl,g1,?_⟩
     have etk:∀ y∈(MZ.nxt (loOf ls) (MZ.cmOf as) e).take (j+1),y∈(MZ.nxt (loOf ls) (MZ.cmOf as) e).take j∨y=x:=fun y hy=>by
      rw [List.take_add_one,hx] at hy
      rcases List.mem_append.mp hy with z | z
      ·exact .inl z
      ·exact .inr (by simpa using z)
     cases hc:MZ.cmOf cs' x with
     | some f =>
      have hin:=MZ.cm_some.mp (by rw [hc];simp)
      walk_at "go"
      refine ⟨cs',ws2,_,s7,hl7,h7,hw7,cm7,sub7,bd7,wt7,ws7,wn7,le7,fun y hy=>?_,ln7,rfl⟩
      rcases etk y hy with z | rfl
      ·exact nx7 y z
      ·exact hin
     | none =>
      have hno:=MZ.cm_none.mp hc
      walk_at "gs"
      refine ⟨cp,_,rfl,.k (k:=.inl (x:Int)) h7 (by rw [List.length_map];omega),?_⟩
      have hw8:upd H7 cp (.dK (putK (cs'.map enc) (.inl (x:Int)) (.int (e:Nat)))) wp=some (.lst (ws2.map nv)):=by rw [upd_ne ncw.symm];exact hw7
      walk_at "gs"
      refine ⟨.inl ⟨by trivial,_,.of hw8⟩,wp,_,_,rfl,rfl,hw8,by rw [List.length_map];omega,?_⟩
      have eput:putK (cs'.map enc) (.inl (x:Int)) (.int (e:Nat))=(cs' ++ [(x,some e)]).map enc:=by
       have:=put_enc cs' x (some e)
       unfold MZ.putA at this
       rw [if_neg (fun z=>hno ((MZ.any_keys cs' x).mp z))] at this
       exact this
      have ek:MZ.keys (cs' ++ [(x,some e)])=MZ.keys cs' ++ [x]:=by unfold MZ.keys;rw [List.map_append];rfl
      refine ⟨cs' ++ [(x,some e)],ws2 ++ [x],_,(s7.put fc).put fw,?_,?_,?_,cm7.snoc (sub7 e hek) hno hxm hns,fun y hy=>?_,fun y hy=>?_,fun y hy=>?_,fun y hy=>List.mem_append_left _ (ws7 y hy),?_,by rw [List.length_append];omega,fun y hy=>?_,by rw [List.length_append,List.length_append];simp only [List.length_singleton];omega,rfl⟩
      ·rw [upd_ne nlw,upd_ne nlc];exact hl7
      ·rw [upd_ne ncw,upd_same,eput]
      ·rw [upd_same,List.map_append];rfl
      ·rw [ek];exact List.mem_append_left _ (sub7 y hy)
      ·rw [ek] at hy
       rcases List.mem_append.mp hy with z | z
       ·exact ⟨(bd7 y z).1,(bd7 y z).2.elim .inl fun w=>.inr (List.mem_append_left _ w)⟩
       ·rw [List.mem_singleton] at z
        subst z
        exact ⟨hxb,.inr (by simp)⟩
      ·rw [ek]
       rcases List.mem_append.mp hy with z | z
       ·exact List.mem_append_left _ (wt7 y z)
       ·exact List.mem_append_right _ z
      ·rw [List.nodup_append]
       refine ⟨wn7,by simp,fun y hy z hz w=>?_⟩
       rw [List.mem_singleton] at hz
       subst hz w
       exact hno (wt7 y hy)
      ·rw [ek]
       rcases etk y hy with z | rfl
       ·exact List.mem_append_left _ (nx7 y z)
       ·simp
    ·rintro σ H7 ⟨cs',ws2,w9,s7,hl7,h7,hw7,cm7,sub7,bd7,wt7,ws7,wn7,le7,nx7,ln7,rfl⟩
     rw [List.length_map,List.take_length] at nx7
     have hcl':cs'.length≤2 * ls.length:=by
      have:=nodup_lt cm7.nd fun y hy=>(bd7 y hy).1
      unfold MZ.keys at this
      rwa [List.length_map] at this
     rw [hD]
     refine ⟨cs',ws2,_,_,_,_,_,s7,h7,hw7,⟨cm7,wt7,wn7,fun y hy=>(bd7 y hy).1,fun y hy=>?_⟩,by omega,rfl⟩
     ·rcases (bd7 y hy).2 with z | z
      ·rcases sk.done y z with w | ⟨w1,w2⟩
       ·rcases List.mem_append.mp w with u | u
        ·exact .inl (ws7 y u)
        ·rw [List.mem_singleton] at u
         subst u
         exact .inr ⟨hns,fun e' he'=>nx7 e' he'⟩
       ·exact .inr ⟨w1,fun e' he'=>sub7 e' (w2 e' he')⟩
      ·exact .inl z
   walk_at "gs"
   by_cases c:(e:Int)=((2 * (e / 2)+1:Nat):Int)
   ·rw [if_pos c]
    refine ⟨_,_,.inl (.of hM5.lst),hr1,?_⟩
    refine .inl ⟨_,.inl (.of hr2),?_⟩
    rw [List.length_map]
    by_cases c0:((loOf ls (e / 2)).length:Int)=0
    ·rw [if_pos c0]
     refine ⟨by show 2≤sizeLine;decide,fun tp H6 n6=>?_⟩
     refine q1 (e / 2) cs tp cp H6 (s5.trans n6.same) fc n6.at_ (n6.same _ _ h5) sk.came (List.length_eq_zero_iff.mp (by omega)) (by rw [show 2 * (e / 2)+1=e by omega];exact hek) (by omega) sk.bd
    ·rw [if_neg c0]
     refine go (fun t ht z=>c0 (by rw [show e / 2=t by omega,z];rfl)) _ ?_
     rfl
   ·rw [if_neg c]
    refine go (fun t ht z=>c (by omega)) _ ?_
    rfl
theorem as_len {as:MZ.Cs} (nd:(MZ.keys as).Nodup) {n:Nat} (h:∀ p∈MZ.keys as,p<n):as.length≤n:=by
 have:=nodup_lt nd h
 unfold MZ.keys at this
 rwa [List.length_map] at this
def sp_lead (_:PySem.W.Frag):Sp:=fun vs H Q _=>∃ (ap cp:Addr) (lo:Nat→List Nat) (goal:Nat→Prop) (as cs:MZ.Cs) (s n:Nat),vs=[.ref ap,.ref cp,.int s]∧H ap=some (.dK (as.map enc))∧H cp=some (.dK (cs.map enc))∧ap≠cp∧(MZ.keys as).Nodup∧(∀ p∈MZ.keys as,p<n)∧(∀ e∈MZ.keys cs,e<2 * n)∧n≤1200∧MZ.Flow lo goal (MZ.cmOf as)∧MZ.Path lo goal (MZ.cmOf as) (MZ.cmOf cs) (MZ.On (MZ.cmOf cs) (2 * s+1)) s ∧
 ∀ as' H',(∀ b o,b≠ap→H b=some o→H' b=some o)→H' ap=some (.dK (as'.map enc))→(MZ.keys as').Nodup→(∀ p∈MZ.keys as',p<n)→MZ.cmOf as'=MZ.lead (MZ.cmOf as) (MZ.cmOf cs) (MZ.On (MZ.cmOf cs) (2 * s+1))→Q .non H'
def rd_lead (K:PySem.W.Frag):TS:=(tSeq (tAsg (tCall (sp_foot K) [] E0 (tCons (cVar 2) tNil)) (gName 3))
  (tWhile (cTst (tOp cIsNot (cVar 3) (tC .non))) (tSeq (tAsg (tOp (cI2c CDiv fun i j=>.int (i / j)) (cVar 3) (tC (.int 2))) (gName 4))
  (tSeq (tAsg (tDGet (cVar 1) (cVar 3)) (gName 5))
  (tMid (tIfS (cTst (tOp (cEq K) (cVar 3) (tCall (sp_head K) [] E0 (tCons (cVar 4) tNil)))) (tIfS (cTst (tOp cIs (cVar 5) (tC .non))) (sDPut (cVar 0) (cVar 4) (tC .non)) (tIfS (cTst (tOp (cEq K) (cVar 5) (tCall (sp_foot K) [] E0 (tCons (cVar 4) tNil)))) (tDrop (tDPop1 (cVar 0) (cVar 4))) (sDPut (cVar 0) (cVar 4) (tOp (cI2c CDiv fun i j=>.int (i / j)) (cVar 5) (tC (.int 2)))))) tNext)
  (tAsg (cVar 5) (gName 3)))))))
theorem tm_lead (T:Txt K mg a) {cdv:Value}{A:Around}{outer:List Env}{s:Shared}{H:Hp}{E:XK} (hr:Room 1 (A.deeper (envOfC "lead" (defScope s_lead) s.heap.objs.size a.f_lead cdv))) :
  PSs (cxOf CX0 P w K mg base N_lead "lead" (defScope s_lead) a.f_lead cdv A outer s H E).nox (defBody s_lead) (rd_lead K) :=
 (pss_cons (ps_set (i:=3) sc_lead.nd rfl (by walk_at "o") (pe_call (ok_foot T) (hr.mono (by decide)) rfl T.mg_foot T.fn_foot.kp T.bi_foot .nil pass0 (pa_cons (cv 2) pa_nil)))
   (pss_one (ps_while PassesOwn.never (t_cmp o_isnot (cv 3) pe_non (nomark _)) (pss_cons (ps_set (i:=4) sc_lead.nd rfl (by walk_at "o") (pe_op o_fdiv (cv 3) pe_int))
   (pss_cons (ps_set (i:=5) sc_lead.nd rfl (by walk_at "o") (pe_dget (hu_of hr) (cv 1) (cv 3) (fun _ _=>rfl)))
   (pss_mid (ps_if (t_cmp (o_eq (hr8 hr)) (cv 3) (pe_call (ok_head T) (hr.mono (by decide)) rfl T.mg_head T.fn_head.kp T.bi_head .nil pass0 (pa_cons (cv 4) pa_nil)) (nomark _)) (pss_one (ps_if (t_cmp o_is (cv 5) pe_non (nomark _)) (pss_one (ps_dput (hu_of hr) (cv 0) (cv 4) pe_non rfl)) (pss_one (ps_if (t_cmp (o_eq (hr8 hr)) (cv 5) (pe_call (ok_foot T) (hr.mono (by decide)) rfl T.mg_foot T.fn_foot.kp T.bi_foot .nil pass0 (pa_cons (cv 4) pa_nil)) (nomark _)) (pss_one (ps_expr (pe_dpop1 (cv 0) (cv 4) ⟨rfl,rfl,rfl,rfl⟩))) (pss_one (ps_dput (hu_of hr) (cv 0) (cv 4) (pe_op o_fdiv (cv 5) pe_int) rfl)))))) pss_nil)
   (pss_one (ps_set (i:=3) sc_lead.nd rfl (by walk_at "o") (cv 5)))))))))
theorem ok_lead (T:Txt K mg a):FnOk P w K mg base CX0 2 a.f_lead a.d_lead ["above","came","spring"] (sp_lead K):=by
 refine T.fn_lead.ok sc_lead (fun vs H Q E h=>?_) (fun cdv A outer s H vs Q E hr h=>⟨_,tm_lead T hr,?_⟩)
 ·obtain ⟨ap,cp,lo,goal,as,cs,s,n,rfl,_⟩:=h;rfl
 ·obtain ⟨ap,cp,lo,goal,as,cs,s,n,rfl,hA,hC,nac,nda,ba,bc,hn,F,P,q⟩:=h
  show rd_lead K _ [some (.ref ap),some (.ref cp),some (.int s),none,none,none] H
  unfold rd_lead
  have big:(20000:Nat)≤sizeLine:=by decide
  obtain ⟨r,hr⟩:=P.rk
  have onI:∀ {i e},MZ.it (MZ.cmOf cs) (2 * s+1) i=some e→MZ.On (MZ.cmOf cs) (2 * s+1) e:=fun {i}=>by
   induction i with
   | zero=>intro e he;cases he;exact .here
   | succ i ih =>
    intro e he
    have he:(MZ.it (MZ.cmOf cs) (2 * s+1) i).bind (fun e=>(MZ.cmOf cs e).join)=some e:=he
    cases hj:MZ.it (MZ.cmOf cs) (2 * s+1) i with
    | none=>rw [hj] at he;cases he
    | some b =>
     rw [hj] at he
     have he:(MZ.cmOf cs b).join=some e:=he
     refine (ih hj).up ?_
     cases hc:MZ.cmOf cs b with
     | none=>rw [hc] at he;cases he
     | some o=>rw [hc] at he;rw [show o=some e from he]
  walk_at "gs"
  refine ⟨s,rfl,?_⟩
  refine ⟨fun m σ H2=>∃ (i:Nat) (as':MZ.Cs) (v4 v5:Option V),(∀ b o,b≠ap→H b=some o→H2 b=some o)∧H2 ap=some (.dK (as'.map enc))∧(MZ.keys as').Nodup∧(∀ p∈MZ.keys as',p<n)∧MZ.cmOf as'=MZ.lead (MZ.cmOf as) (MZ.cmOf cs) (MZ.upTo (MZ.cmOf cs) (2 * s+1) i)∧m=(match MZ.it (MZ.cmOf cs) (2 * s+1) i with | some e=>r e+1 | none=>0)∧σ=[some (.ref ap),some (.ref cp),some (.int s),some (ov (MZ.it (MZ.cmOf cs) (2 * s+1) i)),v4,v5],⟨_,0,as,_,_,fun _ _ _ e=>e,hA,nda,ba,MZ.lead_zero.symm,rfl,rfl⟩,?_⟩
  rintro m σ H2 ⟨i,as',v4,v5,s2,h2,nd2,ba2,cm2,rfl,rfl⟩
  cases hi:MZ.it (MZ.cmOf cs) (2 * s+1) i with
  | none =>
   show _
   walk_at "gs"
   refine q as' H2 s2 h2 nd2 ba2 (cm2.trans (MZ.lead_congr fun e=>MZ.upTo_on hi))
  | some e =>
   have hon:=onI hi
   have hlen2:=as_len nd2 ba2
   show _
   walk_at "gs"
   obtain ⟨f,hf⟩:∃ f,MZ.cmOf cs e=some f:=by
    rcases P.pred e hon with z | ⟨u,_,z⟩
    ·exact ⟨_,z⟩
    ·exact ⟨_,z⟩
   have hek:e∈MZ.keys cs:=MZ.cm_some.mp (by rw [hf];simp)
   have heb:=bc e hek
   have e2:((e:Int) / 2)=((e / 2:Nat):Int):=by omega
   have hnx:MZ.it (MZ.cmOf cs) (2 * s+1) (i+1)=f:=by
    show (MZ.it (MZ.cmOf cs) (2 * s+1) i).bind (fun e=>(MZ.cmOf cs e).join)=f
    rw [hi]
    show (MZ.cmOf cs e).join=f
    rw [hf]
    rfl
   have hC2:H2 cp=some (.dK (cs.map enc)):=s2 _ _ nac.symm hC
   have g1:=DGet.k (k:=.inl (e:Int)) hC2
   rw [val_enc,hf] at g1
   have hnew:¬ MZ.upTo (MZ.cmOf cs) (2 * s+1) i e:=fun ⟨j,hj,hj2⟩=>by
    have:=MZ.it_rk hr hj hj2 hi
    omega
   refine ⟨fun σ' H'=>∃ (as2:MZ.Cs) (v4 v5:Option V),(∀ b o,b≠ap→H b=some o→H' b=some o)∧H' ap=some (.dK (as2.map enc))∧(MZ.keys as2).Nodup∧(∀ p∈MZ.keys as2,p<n)∧MZ.cmOf as2=MZ.lead (MZ.cmOf as) (MZ.cmOf cs) (MZ.upTo (MZ.cmOf cs) (2 * s+1) (i+1))∧σ'=[some (.ref ap),some (.ref cp),some (.int s),some (ov f),v4,v5],?_,?_⟩
   ·rintro σ' H' ⟨as2,w4,w5,z1,z2,z3,z4,z5,rfl⟩
    refine ⟨_,?_,i+1,as2,w4,w5,z1,z2,z3,z4,z5,rfl,by rw [hnx]⟩
    rw [hnx]
    cases f with
    | none=>exact Nat.succ_pos _
    | some u=>have:=hr e u hf;show r u+1<r e+1;omega
   rw [show ov (some e)=V.int (e:Nat) from rfl]
   walk_at "gs"
   rw [e2]
   refine ⟨cp,_,rfl,g1,?_⟩
   refine mid (fun σ' H'=>∃ as2:MZ.Cs,(∀ b o,b≠ap→H b=some o→H' b=some o)∧H' ap=some (.dK (as2.map enc))∧(MZ.keys as2).Nodup∧(∀ p∈MZ.keys as2,p<n)∧MZ.cmOf as2=MZ.lead (MZ.cmOf as) (MZ.cmOf cs) (MZ.upTo (MZ.cmOf cs) (2 * s+1) (i+1))∧σ'=[some (.ref ap),some (.ref cp),some (.int s),some (.int (e:Nat)),some (.int ((e / 2:Nat):Int)),some (ov f)]) ?_ ?_
   ·intro N hN
    walk_at "gs"
    refine ⟨e / 2,rfl,?_⟩
    unfold nv
    walk_at "gs"
    by_cases c:(e:Int)=((2 * (e / 2):Nat):Int)
    ·rw [if_pos c]
     have ee:2 * (e / 2)=e:=by omega
     have key:∀ as2:MZ.Cs,(MZ.keys as2).Nodup→(∀ p,MZ.cmOf as2 p=if p=e / 2 then MZ.lead (MZ.cmOf as) (MZ.cmOf cs) (MZ.upTo (MZ.cmOf cs) (2 * s+1) (i+1)) (e / 2) else MZ.cmOf as' p)→∀ H',(∀ b o,b≠ap→H b=some o→H' b=some o)→H' ap=some (.dK (as2.map enc))→N [some (.ref ap),some (.ref cp),some (.int s),some (.int (e:Nat)),some (.int ((e / 2:Nat):Int)),some (ov f)] H':=fun as2 nd3 hcm H' s3 h3=>by
      refine hN _ _ ⟨as2,s3,h3,nd3,fun p hp=>?_,funext fun p=>?_,rfl⟩
      ·by_cases z:p=e / 2
       ·omega
       ·have:=MZ.cm_some.mpr hp
        rw [hcm,if_neg z] at this
        exact ba2 p (MZ.cm_some.mp this)
      ·rw [hcm]
       by_cases z:p=e / 2
       ·rw [if_pos z,z]
       ·rw [if_neg z,cm2,MZ.lead_other hi (by omega)]
     have self:=MZ.upTo_self hi
     cases f with
     | none =>
      walk_at "gs"
      refine ⟨ap,_,rfl,.k (k:=.inl ((e / 2:Nat):Int)) h2 (by rw [List.length_map];omega),?_⟩
      refine key (MZ.putA as' (e / 2) none) (MZ.nd_put nd2 _ _) (fun p=>?_) _ (fun b o nb z=>by rw [upd_ne nb];exact s2 b o nb z) ?_
      ·rw [MZ.cm_put nd2]
       by_cases z:p=e / 2
       ·rw [if_pos z,if_pos z,MZ.lead_top (by rw [ee];exact self) (by rw [ee];exact hf)]
       ·rw [if_neg z,if_neg z]
      ·rw [upd_same]
       exact congrArg (fun z=>some (HO.dK z)) (put_enc as' (e / 2) none)
     | some u =>
      rw [show ov (some u)=V.int (u:Nat) from rfl] at key ⊢
      walk_at "gs"
      refine ⟨e / 2,rfl,?_⟩
      unfold nv
      walk_at "gs"
      by_cases cu:(u:Int)=((2 * (e / 2)+1:Nat):Int)
      ·rw [if_pos cu]
       have eu:u=2 * (e / 2)+1:=by omega
       walk_at "gs"
       have hne:MZ.cmOf as' (e / 2)≠none:=by
        rw [cm2,MZ.lead_off (by rw [ee];exact hnew)]
        have hpu:MZ.On (MZ.cmOf cs) (2 * s+1) (2 * (e / 2)+1):=eu ▸ hon.up hf
        rcases MZ.foot_from P hpu with ⟨_,z2,_⟩ | ⟨p',_,_,z⟩
        ·exact (MZ.no_loop P (p:=e / 2) (by rw [ee,hf,show u=e+1 by omega]) z2).elim
        ·exact (F.up _ _ z).2
       obtain ⟨o,ho⟩:=Option.ne_none_iff_exists'.mp hne
       refine ⟨ap,rfl,.inl ⟨_,.inl h2⟩,?_⟩
       refine ⟨_,.inl ((e / 2:Nat):Int),ov o,h2,rfl,by rw [val_enc,ho];rfl,?_⟩
       refine key (MZ.dropA as' (e / 2)) (MZ.nd_drop nd2 _) (fun p=>?_) _ (fun b o nb z=>by rw [upd_ne nb];exact s2 b o nb z) ?_
       ·rw [MZ.cm_drop nd2]
        by_cases z:p=e / 2
        ·rw [if_pos z,if_pos z,MZ.lead_out (by rw [ee];exact self) (by rw [ee,hf,show u=e+1 by omega])]
        ·rw [if_neg z,if_neg z]
       ·rw [upd_same,drop_enc]
      ·rw [if_neg cu]
       have eu2:((u:Int) / 2)=((u / 2:Nat):Int):=by omega
       walk_at "gs"
       rw [eu2]
       refine ⟨ap,_,rfl,.k (k:=.inl ((e / 2:Nat):Int)) h2 (by rw [List.length_map];omega),?_⟩
       refine key (MZ.putA as' (e / 2) (some (u / 2))) (MZ.nd_put nd2 _ _) (fun p=>?_) _ (fun b o nb z=>by rw [upd_ne nb];exact s2 b o nb z) ?_
       ·rw [MZ.cm_put nd2]
        by_cases z:p=e / 2
        ·rw [if_pos z,if_pos z,MZ.lead_up (u:=u) (by rw [ee];exact self) (by rw [ee];exact hf) (by omega)]
        ·rw [if_neg z,if_neg z]
       ·rw [upd_same]
        exact congrArg (fun z=>some (HO.dK z)) (put_enc as' (e / 2) (some (u / 2)))
    ·rw [if_neg c]
     refine hN _ _ ⟨as',s2,h2,nd2,ba2,?_,rfl⟩
     rw [cm2]
     funext p
     exact (MZ.lead_other hi (by omega)).symm
   ·rintro σ' H' ⟨as2,z1,z2,z3,z4,z5,rfl⟩
    walk_at "gs"
    exact ⟨as2,_,_,z1,z2,z3,z4,z5,rfl⟩
structure WayOf (ab:MZ.Ab) (s:Nat) (w:List Nat):Prop where
 hd:∃ r,w=s :: r
 st:∀ (i a b:Nat),w[i]? = some a→w[i+1]? = some b→ab a=some (some b)
 tp:∃ v x,w=v ++ [x]∧ab x=some none
theorem nvLast {v:List Nat}{x:Nat}:atI ((v ++ [x]).map nv) (-1)=some (nv x):=by
 rw [List.map_append]
 unfold atI ixN
 simp
 rw [if_pos (by omega),show (-1+((v.length:Int)+1)).toNat=v.length by omega]
 simp
def sp_way_from (_:PySem.W.Frag):Sp:=fun vs H Q _=>∃ (ap:Addr) (lo:Nat→List Nat) (goal:Nat→Prop) (as:MZ.Cs) (s n:Nat),vs=[.ref ap,.int s]∧H ap=some (.dK (as.map enc))∧(∀ p∈MZ.keys as,p<n)∧n≤1200∧MZ.Flow lo goal (MZ.cmOf as)∧(∀ p l,l∈lo p→l<p)∧MZ.cmOf as s≠none ∧
 ∀ l w H',Mad H l (.lst (w.map nv)) H'→WayOf (MZ.cmOf as) s w→Q (.ref l) H'
def rd_way_from (K:PySem.W.Frag):TS:=(tSeq (tAsg (tLst (tCons (cVar 1) tNil)) (gName 2))
  (tSeq (tWhile (cTst (tOp cIsNot (tDGet (cVar 0) (tOp (cIx K) (cVar 2) (tUn cNeg (tC (.int 1))))) (tC .non))) (tDrop (tBM K "list" rAppend (cVar 2) (tCons (tDGet (cVar 0) (tOp (cIx K) (cVar 2) (tUn cNeg (tC (.int 1))))) tNil))))
  (tRet (cVar 2))))
theorem tm_way_from (T:Txt K mg a) {cdv:Value}{A:Around}{outer:List Env}{s:Shared}{H:Hp}{E:XK} (hr:Room 0 (A.deeper (envOfC "way_from" (defScope s_way_from) s.heap.objs.size a.f_way_from cdv))) :
  PSs (cxOf CX0 P w K mg base N_way_from "way_from" (defScope s_way_from) a.f_way_from cdv A outer s H E).nox (defBody s_way_from) (rd_way_from K) :=
 (pss_cons (ps_set (i:=2) sc_way_from.nd rfl (by walk_at "o") (pe_lst (pa_cons (cv 1) pa_nil)))
   (pss_cons (ps_while PassesOwn.never (t_cmp o_isnot (pe_dget (hu_of hr) (cv 0) (pe_ix i_seq (cv 2) (pe_un u_neg pe_int) (fun _ _=>rfl)) (fun _ _=>rfl)) pe_non (nomark _)) (pss_one (ps_expr (pe_bm PySem.F.plainAttrs_list PySem.F.slot_list_append PySem.F.type_list_append (mtr mt_append) (cv 2) (pa_cons (pe_dget (hu_of hr) (cv 0) (pe_ix i_seq (cv 2) (pe_un u_neg pe_int) (fun _ _=>rfl)) (fun _ _=>rfl)) pa_nil)))))
   (pss_one (ps_ret (cv 2)))))
theorem ok_way_from (T:Txt K mg a):FnOk P w K mg base CX0 1 a.f_way_from a.d_way_from ["above","spring"] (sp_way_from K):=by
 refine T.fn_way_from.ok sc_way_from (fun vs H Q E h=>?_) (fun cdv A outer s H vs Q E hr h=>⟨_,tm_way_from T hr,?_⟩)
 ·obtain ⟨ap,lo,goal,as,s,n,rfl,_⟩:=h;rfl
 ·obtain ⟨ap,lo,goal,as,s,n,rfl,hA,ba,hn,F,hlt,hs,q⟩:=h
  show rd_way_from K _ [some (.ref ap),some (.int s),none] H
  unfold rd_way_from
  have big:(20000:Nat)≤sizeLine:=by decide
  walk_at "gs"
  refine ⟨by show 1≤sizeLine;decide,fun l H1 n1=>?_⟩
  walk_at "gs"
  refine ⟨fun m σ H2=>∃ (v:List Nat) (x:Nat),Same H H2∧H2 l=some (.lst ((v ++ [x]).map nv))∧(∃ r,v ++ [x]=s :: r)∧(∀ (i a b:Nat),(v ++ [x])[i]? = some a→(v ++ [x])[i+1]? = some b→MZ.cmOf as a=some (some b))∧MZ.cmOf as x≠none∧v.length≤x∧m=n - x∧σ=[some (.ref ap),some (.int s),some (.ref l)],⟨_,[],s,n1.same,n1.at_,⟨[],rfl⟩,fun i a b h1 h2=>by simp at h2,hs,Nat.zero_le _,rfl,rfl⟩,?_⟩
  rintro m σ H2 ⟨v,x,s2,h2,hd2,st2,hx2,hl2,rfl,rfl⟩
  have hxb:=ba x (MZ.cm_some.mp hx2)
  obtain ⟨o,ho⟩:=Option.ne_none_iff_exists'.mp hx2
  have g1:=DGet.k (k:=.inl (x:Int)) (s2 _ _ hA)
  rw [val_enc,ho] at g1
  walk_at "gs"
  refine ⟨_,_,.inl (.of h2),nvLast,?_⟩
  refine ⟨ap,_,rfl,g1,?_⟩
  cases o with
  | none =>
   show _
   walk_at "gs"
   exact q l (v ++ [x]) H2 ⟨n1.was,h2,s2⟩ ⟨hd2,st2,v,x,rfl,ho⟩
  | some y =>
   have hxy:=hlt _ _ (F.up _ _ ho).1
   have g1:DGet H2 ap (kV (.inl (x:Int))) (some (V.int (y:Nat))):=g1
   rw [if_pos (fun z=>nomatch z)]
   refine ⟨fun σ' H'=>∃ H3,H3=upd H2 l (.lst ((v ++ [x]).map nv ++ [nv y]))∧H'=H3∧σ'=[some (.ref ap),some (.int s),some (.ref l)],?_,?_⟩
   ·rintro σ' H' ⟨H3,rfl,rfl,rfl⟩
    refine ⟨n - y,by omega,v ++ [x],y,s2.put n1.was,by rw [upd_same,List.map_append (l₁:=v ++ [x])];rfl,?_,fun i a b h1 h2=>?_,(F.up _ _ ho).2,by rw [List.length_append];simp;omega,rfl,rfl⟩
    ·obtain ⟨r,hr⟩:=hd2
     exact ⟨r ++ [y],by rw [hr];rfl⟩
    ·rcases Nat.lt_or_ge (i+1) (v ++ [x]).length with g | g
     ·rw [List.getElem?_append_left (by omega)] at h1
      rw [List.getElem?_append_left g] at h2
      exact st2 i a b h1 h2
     ·have hib:i+1<(v ++ [x] ++ [y]).length:=(List.getElem?_eq_some_iff.mp h2).1
      rw [List.length_append] at hib
      simp only [List.length_singleton] at hib
      have hi:i+1=(v ++ [x]).length:=by omega
      rw [hi,List.getElem?_append_right (Nat.le_refl _),Nat.sub_self] at h2
      rw [List.getElem?_append_left (by omega),show i=v.length by rw [List.length_append] at hi;simp at hi;omega,List.getElem?_append_right (Nat.le_refl _),Nat.sub_self] at h1
      cases h1
      cases h2
      exact ho
   ·refine ⟨.inl ⟨by trivial,_,.of h2⟩,?_⟩
    refine ⟨_,_,.inl (.of h2),nvLast,?_⟩
    refine ⟨ap,_,rfl,g1,?_⟩
    refine ⟨l,_,_,rfl,rfl,h2,by rw [List.length_map,List.length_append];simp;omega,?_⟩
    exact ⟨_,rfl,rfl,rfl⟩
def natI (xs:List Nat):List Int:=xs.map fun x:Nat=>(x:Int)
theorem natI_nv (xs:List Nat):(natI xs).map V.int=xs.map nv:=by unfold natI;rw [List.map_map];rfl
theorem keys_fst (cs:MZ.Cs):(cs.map enc).map (·.1)=(natI (MZ.keys cs)).map Sum.inl:=by unfold natI MZ.keys;rw [List.map_map,List.map_map,List.map_map];rfl
theorem nat_sorted {ns':List Int}{ks:List Nat} (hp:ns'.Perm (natI ks)) (hs:ns'.Pairwise (· ≤ ·)) (nd:ks.Nodup):∃ xs:List Nat,ns'=natI xs∧xs.Perm ks∧xs.Pairwise (· < ·):=by
 have h1:ns'=natI (ns'.map Int.toNat):=by
  unfold natI
  rw [List.map_map]
  refine (List.map_id _).symm.trans (List.map_congr_left fun x hx=>?_)
  obtain ⟨k,_,rfl⟩:=List.mem_map.mp (hp.mem_iff.mp hx)
  rfl
 have h2:(ns'.map Int.toNat).Perm ks:=by
  have:=hp.map Int.toNat
  unfold natI at this
  rw [List.map_map] at this
  have e:ks.map (Int.toNat ∘ fun x:Nat=>(x:Int))=ks:=by
   refine (List.map_congr_left fun x _=>?_).trans (List.map_id _)
   rfl
  rwa [e] at this
 refine ⟨_,h1,h2,?_⟩
 have hle:(ns'.map Int.toNat).Pairwise (· ≤ ·):=by
  rw [List.pairwise_map]
  exact hs.imp fun h=>by omega
 exact List.Pairwise.imp₂ (fun a b g1 g2=>by omega) hle (h2.nodup_iff.mpr nd)
def sp_stops_of (_:PySem.W.Frag):Sp:=fun vs H Q _=>∃ (cp:Addr) (cs:MZ.Cs),vs=[.ref cp]∧H cp=some (.dK (cs.map enc))∧(MZ.keys cs).Nodup∧cs.length≤3000 ∧
 ∀ l (es:List Nat) H',Mad H l (.lst ((es.map fun e:Nat=>e / 2).map nv)) H'→es.Pairwise (· < ·)→(∀ e,e∈es ↔ e∈MZ.keys cs∧2 * (e / 2)+1 ∉ MZ.keys cs)→Q (.ref l) H'
def rd_stops_of (K:PySem.W.Frag):TS:=(tRet (tComp (iList K (tCB (cSortD K) (tCons (cVar 0) tNil))) 1 [0] (gName 0) (cTst (tDNotIn (tCall (sp_foot K) [] E0 (tCons (tOp (cI2c CDiv fun i j=>.int (i / j)) (cVar 0) (tC (.int 2))) tNil)) (cVar 1))) (tOp (cI2c CDiv fun i j=>.int (i / j)) (cVar 0) (tC (.int 2)))))
theorem tm_stops_of (T:Txt K mg a) {cdv:Value}{A:Around}{outer:List Env}{s:Shared}{H:Hp}{E:XK} (hr:Room 1 (A.deeper (envOfC "stops_of" (defScope s_stops_of) s.heap.objs.size a.f_stops_of cdv))) :
  PSs (cxOf CX0 P w K mg base N_stops_of "stops_of" (defScope s_stops_of) a.f_stops_of cdv A outer s H E).nox (defBody s_stops_of) (rd_stops_of K) :=
 (pss_one (ps_ret (pe_comp (N:=["end","came"]) (k:=1) (sel:=[0]) (CScope.of (defScope s_stops_of).names (by decide +kernel)) (CNames.of N_stops_of (by decide +kernel)) rfl (pi_list (pe_callB (c_sortD rfl) (by rfl) T.no_sorted PyProof.Rows.boot_sorted (pa_cons (cv 0) pa_nil))) (fun _ _ _ _=>(pg_name (i:=0) (show List.Nodup (["end","came"]:List Str) by decide +kernel) rfl (by walk_at "o"))) (fun _ _ _ _=>(pts_one (t_pc (pc_dnotin (hu_of hr) (pe_call (ok_foot T) (hr.mono (by decide)) rfl T.mg_foot T.fn_foot.kp T.bi_foot .nil pass0 (pa_cons (pe_op o_fdiv (cv 0) pe_int) pa_nil)) (cv 1))))) (fun _ _ _ _=>(pe_op o_fdiv (cv 0) pe_int)))))
theorem ok_stops_of (T:Txt K mg a):FnOk P w K mg base CX0 2 a.f_stops_of a.d_stops_of ["came"] (sp_stops_of K):=by
 refine T.fn_stops_of.ok sc_stops_of (fun vs H Q E h=>?_) (fun cdv A outer s H vs Q E hr h=>⟨_,tm_stops_of T hr,?_⟩)
 ·obtain ⟨cp,cs,rfl,_⟩:=h;rfl
 ·obtain ⟨cp,cs,rfl,hC,nd,h64,q⟩:=h
  show rd_stops_of K _ [some (.ref cp)] H
  unfold rd_stops_of
  have big:(20000:Nat)≤sizeLine:=by decide
  have hkl:(MZ.keys cs).length=cs.length:=by unfold MZ.keys;rw [List.length_map]
  walk_at "gs"
  refine ⟨_,natI (MZ.keys cs),.inl hC,keys_fst cs,by unfold natI;rw [List.length_map];omega,fun ns' l H1 hp hs n1=>?_⟩
  obtain ⟨xs,rfl,hxp,hxs⟩:=nat_sorted hp hs nd
  rw [natI_nv] at n1
  have hxl:xs.length≤3000:=by rw [hxp.length_eq];omega
  refine ⟨⟨_,n1.sq⟩,compG_filter (fun v=>match v with | .int e=>decide (2 * (e.toNat / 2)+1 ∉ MZ.keys cs) | _=>false) (fun v=>match v with | .int e=>nv (e.toNat / 2) | _=>.non) n1.sq rfl (by rw [List.length_map];omega) ?_ ?_ ?_⟩
  ·intro v H' Q' hv s' q'
   obtain ⟨e,he,rfl⟩:=List.mem_map.mp hv
   have e2:((e:Int) / 2)=((e / 2:Nat):Int):=by omega
   have g1:=DGet.k (k:=.inl ((2 * (e / 2)+1:Nat):Int)) (s' _ _ (n1.same _ _ hC))
   rw [val_enc] at g1
   unfold nv
   walk_at "gs"
   rw [e2]
   refine ⟨e / 2,rfl,?_⟩
   refine ⟨cp,_,rfl,g1,?_⟩
   have q':Q' (decide (2 * (e / 2)+1 ∉ MZ.keys cs)) H':=q'
   have:(!((MZ.cmOf cs (2 * (e / 2)+1)).map ov).isSome)=decide (2 * (e / 2)+1 ∉ MZ.keys cs):=by
    cases hc:MZ.cmOf cs (2 * (e / 2)+1) with
    | none=>rw [decide_eq_true (MZ.cm_none.mp hc)];rfl
    | some f=>rw [decide_eq_false (fun z=>z (MZ.cm_some.mp (by rw [hc];simp)))];rfl
   rw [this]
   exact q'
  ·intro v H' Q' hv _ s' q'
   obtain ⟨e,he,rfl⟩:=List.mem_map.mp hv
   have e2:((e:Int) / 2)=((e / 2:Nat):Int):=by omega
   unfold nv
   walk_at "gs"
   rw [e2]
   exact q'
  intro l2 H2 n2
  have e3:(((xs.map nv).filter fun v=>match v with | .int e=>decide (2 * (e.toNat / 2)+1 ∉ MZ.keys cs) | _=>false).map fun v=>match v with | .int e=>nv (e.toNat / 2) | _=>.non)=((xs.filter fun e=>decide (2 * (e / 2)+1 ∉ MZ.keys cs)).map fun e:Nat=>e / 2).map nv:=by
   rw [List.filter_map,List.map_map,List.map_map]
   rfl
  rw [e3] at n2
  refine q l2 _ H2 ⟨n1.same.nil n2.was,n2.at_,n1.same.trans n2.same⟩ (hxs.filter _) fun e=>?_
  rw [List.mem_filter,hxp.mem_iff,decide_eq_true_iff]
structure WaysAt (H:Hp) (l:Addr) (rs:List Addr) (ws:List (List Nat)):Prop where
 lst:H l=some (.lst (rs.map V.ref))
 len:rs.length=ws.length
 at_:∀ (i:Nat) r w,rs[i]? = some r→ws[i]? = some w→H r=some (.lst (w.map nv))
def sp_ways_of (_:PySem.W.Frag):Sp:=fun vs H Q _=>∃ (mp ap:Addr) (rs:List Addr) (ls:List (List Nat)) (goal:Nat→Prop) (as:MZ.Cs),vs=[.ref mp,.ref ap]∧MazeAt H mp rs ls∧H ap=some (.dK (as.map enc))∧(MZ.keys as).Nodup∧as.length≤3000∧(∀ p∈MZ.keys as,p<ls.length)∧ls.length≤1200∧MZ.Flow (loOf ls) goal (MZ.cmOf as)∧Mz ls ∧
 ∀ l us (ss:List Nat) ws H',Same H H'→H l=none→WaysAt H' l us ws→(∀ u∈us,H u=none∧u≠l)→ss.Pairwise (· < ·)→(∀ t,t∈ss ↔ loOf ls t=[]∧MZ.cmOf as t≠none)→ws.length=ss.length→(∀ (i:Nat) t w,ss[i]? = some t→ws[i]? = some w→WayOf (MZ.cmOf as) t w)→Q (.ref l) H'
def rd_ways_of (K:PySem.W.Frag):TS:=(tSeq (tAsg (tComp (iList K (tCB (cSortD K) (tCons (cVar 1) tNil))) 1 [0] (gName 0) (cTst (tOp (cEq K) (tCB (cLen K) (tCons (tOp (cIx K) (cVar 1) (cVar 0)) tNil)) (tC (.int 0)))) (cVar 0)) (gName 2))
  (tRet (tComp (iList K (cVar 2)) 1 [1] (gName 0) tTrue (tCall (sp_way_from K) [] E0 (tCons (cVar 1) (tCons (cVar 0) tNil))))))
theorem tm_ways_of (T:Txt K mg a) {cdv:Value}{A:Around}{outer:List Env}{s:Shared}{H:Hp}{E:XK} (hr:Room 1 (A.deeper (envOfC "ways_of" (defScope s_ways_of) s.heap.objs.size a.f_ways_of cdv))) :
  PSs (cxOf CX0 P w K mg base N_ways_of "ways_of" (defScope s_ways_of) a.f_ways_of cdv A outer s H E).nox (defBody s_ways_of) (rd_ways_of K) :=
 (pss_cons (ps_setC (i:=2) (N:=["place","maze"]) (k:=1) (sel:=[0]) (CScope.of (defScope s_ways_of).names (by decide +kernel)) (CNames.of N_ways_of (by decide +kernel)) rfl (pi_list (pe_callB (c_sortD rfl) (by rfl) T.no_sorted PyProof.Rows.boot_sorted (pa_cons (cv 1) pa_nil))) (fun _ _ _ _=>(pg_name (i:=0) (show List.Nodup (["place","maze"]:List Str) by decide +kernel) rfl (by walk_at "o"))) (fun _ _ _ _=>(pts_one (t_cmp (o_eq (hr8 hr)) (pe_callB c_len (by rfl) T.no_len PySem.boot_len (pa_cons (pe_ix i_seq (cv 1) (cv 0) (fun _ _=>rfl)) pa_nil)) pe_int (nomark _)))) (fun _ _ _ _=>(cv 0)) sc_ways_of.nd rfl (by walk_at "o") rfl)
   (pss_one (ps_ret (pe_comp (N:=["spring","above"]) (k:=1) (sel:=[1]) (CScope.of (defScope s_ways_of).names (by decide +kernel)) (CNames.of N_ways_of (by decide +kernel)) rfl (pi_list (cv 2)) (fun _ _ _ _=>(pg_name (i:=0) (show List.Nodup (["spring","above"]:List Str) by decide +kernel) rfl (by walk_at "o"))) (fun _ _ _ _=>pts_nil) (fun _ _ _ _=>(pe_call (ok_way_from T) (hr.mono (by decide)) rfl T.mg_way_from T.fn_way_from.kp T.bi_way_from .nil pass0 (pa_cons (cv 1) (pa_cons (cv 0) pa_nil))))))))
theorem ok_ways_of (T:Txt K mg a):FnOk P w K mg base CX0 2 a.f_ways_of a.d_ways_of ["maze","above"] (sp_ways_of K):=by
 refine T.fn_ways_of.ok sc_ways_of (fun vs H Q E h=>?_) (fun cdv A outer s H vs Q E hr h=>⟨_,tm_ways_of T hr,?_⟩)
 ·obtain ⟨mp,ap,rs,ls,goal,as,rfl,_⟩:=h;rfl
 ·obtain ⟨mp,ap,rs,ls,goal,as,rfl,hM,hA,nd,h64,ba,hn,F,mz,q⟩:=h
  show rd_ways_of K _ [some (.ref mp),some (.ref ap),none] H
  unfold rd_ways_of
  have big:(20000:Nat)≤sizeLine:=by decide
  have hkl:(MZ.keys as).length=as.length:=by unfold MZ.keys;rw [List.length_map]
  walk_at "gs"
  refine ⟨_,natI (MZ.keys as),.inl hA,keys_fst as,by unfold natI;rw [List.length_map];omega,fun ns' l1 H1 hp hs n1=>?_⟩
  obtain ⟨xs,rfl,hxp,hxs⟩:=nat_sorted hp hs nd
  rw [natI_nv] at n1
  have hxl:xs.length≤3000:=by rw [hxp.length_eq];omega
  refine ⟨⟨_,n1.sq⟩,compG_filter (fun v=>match v with | .int e=>decide ((loOf ls e.toNat).length=0) | _=>false) id n1.sq rfl (by rw [List.length_map];omega) ?_ ?_ ?_⟩
  ·intro v H' Q' hv s' q'
   obtain ⟨e,he,rfl⟩:=List.mem_map.mp hv
   have heb:=ba e (hxp.mem_iff.mp he)
   obtain ⟨r,h1,h2⟩:=(hM.same (n1.same.trans s')).get heb
   unfold nv
   walk_at "gs"
   refine ⟨_,_,.inl (.of (s' _ _ (n1.same _ _ hM.lst))),h1,?_⟩
   refine .inl ⟨_,.inl (.of h2),?_⟩
   rw [List.length_map]
   walk_at "gs"
   have q':Q' (decide ((loOf ls e).length=0)) H':=q'
   rw [show decide (((loOf ls e).length:Int)=0)=decide ((loOf ls e).length=0) by rw [decide_eq_decide];omega]
   exact q'
  ·intro v H' Q' hv _ s' q'
   walk_at "gs"
   exact q'
  intro l2 H2 n2
  have e3:(((xs.map nv).filter fun v=>match v with | .int e=>decide ((loOf ls e.toNat).length=0) | _=>false).map id)=(xs.filter fun e=>decide ((loOf ls e).length=0)).map nv:=by
   rw [List.map_id,List.filter_map]
   rfl
  rw [e3] at n2
  have s02:=n1.same.trans n2.same
  obtain ⟨ss,hss⟩:∃ ss,ss=xs.filter fun e=>decide ((loOf ls e).length=0):=⟨_,rfl⟩
  rw [← hss] at n2
  have hsm:∀ t,t∈ss ↔ loOf ls t=[]∧MZ.cmOf as t≠none:=fun t=>by
   rw [hss,List.mem_filter,hxp.mem_iff,← MZ.cm_some,decide_eq_true_iff,List.length_eq_zero_iff,and_comm]
  have hsl:ss.length≤3000:=by rw [hss];exact Nat.le_trans (List.length_filter_le ..) hxl
  walk_at "gs"
  refine ⟨⟨_,n2.sq⟩,fun cp hcp=>comp_gen (n:=(ss.map nv).length) (item:=fun i=>(ss.map nv).getD i .non) (fun σ=>∃ v0,σ=[v0,some (.ref ap)]) (fun i H3=>Same H2 H3∧∃ (us:List Addr) (ws:List (List Nat)),H3 cp=some (.lst (us.map V.ref))∧us.length=i∧ws.length=i∧(∀ u∈us,H2 u=none∧u≠cp)∧(∀ (j:Nat) u w,us[j]? = some u→ws[j]? = some w→H3 u=some (.lst (w.map nv)))∧∀ (j:Nat) t w,ss[j]? = some t→ws[j]? = some w→WayOf (MZ.cmOf as) t w) ⟨_,rfl⟩ ⟨same_upd hcp,[],[],upd_same,rfl,rfl,fun u hu=>by simp at hu,fun j u w hu=>by simp at hu,fun j t w _ hw=>by simp at hw⟩ (src_list (xs:=ss.map nv) ?_) ?_ ?_ ?_⟩
  ·rintro i H3 _ ⟨s3,_⟩
   exact .of (s3 _ _ n2.at_)
  ·rintro H3 ⟨s3,_⟩
   exact ⟨_,.of (s3 _ _ n2.at_),Nat.le_refl _⟩
  ·rintro i σ3 H3 R hi ⟨v0,rfl⟩ ⟨s3,us,ws,h3,hul,hwl,hun,hat,hway⟩ hR
   rw [List.length_map] at hi
   have hti:ss[i]? = some ss[i]:=List.getElem?_eq_getElem hi
   have htm:=(hsm _).mp (List.getElem_mem hi)
   rw [show (ss.map nv).getD i .non=nv ss[i] by rw [List.getD_eq_getElem?_getD,List.getElem?_map,hti];rfl]
   generalize ss[i]=t at *
   unfold nv
   walk_at "gs"
   refine ⟨ap,loOf ls,goal,as,t,ls.length,rfl,s3 _ _ (s02 _ _ hA),ba,hn,F,mz.lt,htm.2,fun l4 w H4 md hw=>?_⟩
   obtain ⟨f4,h4,s4⟩:=md
   have ncp:l4≠cp:=(ne_of_none h3 f4).symm
   refine ⟨_,s4 _ _ h3,by rw [List.length_map];omega,hR _ _ ⟨_,rfl⟩ ⟨(s3.trans s4).put hcp,us ++ [l4],ws ++ [w],by rw [upd_same,List.map_append];rfl,by rw [List.length_append,hul];rfl,by rw [List.length_append,hwl];rfl,fun u hu=>?_,fun j u w' hu hw'=>?_,fun j t' w' ht' hw'=>?_⟩⟩
   ·rcases List.mem_append.mp hu with z | z
    ·exact hun u z
    ·rw [List.mem_singleton] at z
     subst z
     exact ⟨s3.nil f4,ncp⟩
   ·by_cases hji:j<i
    ·rw [List.getElem?_append_left (by omega)] at hu hw'
     rw [upd_ne (hun u (List.mem_of_getElem? hu)).2]
     exact s4 _ _ (hat j u w' hu hw')
    ·have hjl:j<us.length+1:=by have:=(List.getElem?_eq_some_iff.mp hu).1;rwa [List.length_append] at this
     have hj:j=us.length:=by omega
     subst hj
     rw [List.getElem?_append_right (Nat.le_refl _),Nat.sub_self] at hu
     rw [show us.length=ws.length by omega,List.getElem?_append_right (Nat.le_refl _),Nat.sub_self] at hw'
     cases hu
     cases hw'
     rw [upd_ne ncp]
     exact h4
   ·by_cases hji:j<i
    ·rw [List.getElem?_append_left (by omega)] at hw'
     exact hway j t' w' ht' hw'
    ·have hjl:j<ws.length+1:=by have:=(List.getElem?_eq_some_iff.mp hw').1;rwa [List.length_append] at this
     have hj:j=i:=by omega
     subst hj
     rw [hti] at ht'
     rw [← hwl,List.getElem?_append_right (Nat.le_refl _),Nat.sub_self] at hw'
     cases ht'
     cases hw'
     exact hw
  rintro H3 ⟨s3,us,ws,h3,hul,hwl,hun,hat,hway⟩
  rw [List.length_map] at hul hwl
  exact q cp us ss ws H3 (s02.trans s3) (s02.nil hcp) ⟨h3,by omega,hat⟩ (fun u hu=>⟨s02.nil (hun u hu).1,(hun u hu).2⟩) (by rw [hss];exact hxs.filter _) hsm hwl hway
def Cnt (ls:List (List Nat)) (as:MZ.Cs) (i:Nat):Prop:=∃ A:List Nat,A.Nodup∧(∀ t,t∈A ↔ loOf ls t=[]∧MZ.cmOf as t≠none)∧A.length=i
theorem Cnt.eq {ls:List (List Nat)}{as:MZ.Cs}{i:Nat} (h:Cnt ls as i) {B:List Nat} (nB:B.Nodup) (hB:∀ t,t∈B ↔ loOf ls t=[]∧MZ.cmOf as t≠none):B.length=i:=by
 obtain ⟨A,nA,hA,rfl⟩:=h
 exact Nat.le_antisymm (MZ.len_le (R:=fun a b:Nat=>a=b) (fun a a' b h h'=>h.trans h'.symm) nB fun b hb=>⟨b,(hA b).mpr ((hB b).mp hb),rfl⟩) (MZ.len_le (R:=fun a b:Nat=>a=b) (fun a a' b h h'=>h.trans h'.symm) nA fun b hb=>⟨b,(hB b).mpr ((hA b).mp hb),rfl⟩)
theorem lt_nodup {xs:List Nat} (h:xs.Pairwise (· < ·)):xs.Nodup:=h.imp fun h=>Nat.ne_of_lt h
theorem seek_shut {ls:List (List Nat)}{gs:List Nat}{as cs:MZ.Cs} (h:Seek ls gs as cs []):MZ.Shut (loOf ls) (goalOf gs) (MZ.cmOf as) (fun e=>e∈MZ.keys cs):=by
 refine ⟨fun g l hg hl=>List.mem_map.mpr ⟨_,h.came.all g l hg hl,rfl⟩,fun e e' he hn=>?_,fun t ht=>?_⟩
 ·rcases h.done e he with z | z
  ·simp at z
  ·exact z.2 e' hn
 ·rcases h.done _ ht with z | z
  ·simp at z
  ·exact z.1 t rfl
structure Told (ls:List (List Nat)) (gs:List Nat) (most:Nat) (H:Hp) (wl:Addr) (v:V) (us:List Addr) (ss:List Nat) (ws:List (List Nat)) (as:MZ.Cs):Prop where
 ways:WaysAt H wl us ws
 flow:MZ.Flow (loOf ls) (goalOf gs) (MZ.cmOf as)
 bd:∀ p∈MZ.keys as,p<ls.length
 ris:ss.Pairwise (· < ·)
 mem:∀ t,t∈ss ↔ loOf ls t=[]∧MZ.cmOf as t≠none
 len:ws.length=ss.length
 way:∀ (i:Nat) t w,ss[i]? = some t→ws[i]? = some w→WayOf (MZ.cmOf as) t w
 rest:(v=.non∧ss.length=most+1)∨∃ (sl:Addr) (es:List Nat) (cs:MZ.Cs),v=.ref sl∧H sl=some (.lst ((es.map fun e:Nat=>e / 2).map nv))∧sl≠wl∧sl ∉ us∧Seek ls gs as cs []∧es.Pairwise (· < ·)∧(∀ e,e∈es ↔ e∈MZ.keys cs∧2 * (e / 2)+1 ∉ MZ.keys cs)∧ss.length≤most
def sp_apart (a:Adr) (_:PySem.W.Frag):Sp:=fun vs H Q E=>∃ (mp gp:Addr) (rs:List Addr) (ls:List (List Nat)) (gi:List Int) (most:Nat),vs=[.ref mp,.ref gp,.int most]∧MazeAt H mp rs ls∧H gp=some (.lst (gi.map V.int))∧Mz ls∧ls.length≤1200∧most≤10 ∧
 (∀ gs tp wl v us ss ws as H',gi=natI gs→GoalOk ls gi→Same H H'→H tp=none→H wl=none→(∀ u∈us,H u=none)→(∀ b,v=.ref b→H b=none)→H' tp=some (.tup [.ref wl,v])→Told ls gs most H' wl v us ss ws as→Q (.ref tp) H')∧(¬ GoalOk ls gi→∀ e,H e=none→E (.ref e) (some a.c_NoGoal) H)
def rd_apart (a:Adr) (K:PySem.W.Frag) (E:XK):TS:=(tSeq (tDrop (tCall (sp_need_goals a K) [] E (tCons (cVar 0) (tCons (cVar 1) tNil))))
  (tSeq (tAsg tDNewK (gName 3))
  (tSeq (tFor (iRng1 (tCons (tOp cAdd (cVar 2) (tC (.int 1))) tNil)) (gName 4) (tSeq (tAsg (tCall (sp_search K) [] E0 (tCons (cVar 0) (tCons (cVar 1) (tCons (cVar 3) tNil)))) (gName 5))
  (tSeq (tIfS (cTst (tOp cIs (tOp (cIx K) (cVar 5) (tC (.int 0))) (tC .non))) (tRet (tTup (tCons (tCall (sp_ways_of K) [] E0 (tCons (cVar 0) (tCons (cVar 3) tNil))) (tCons (tCall (sp_stops_of K) [] E0 (tCons (tOp (cIx K) (cVar 5) (tC (.int 1))) tNil)) tNil)))) tNext)
  (tDrop (tCall (sp_lead K) [] E0 (tCons (cVar 3) (tCons (tOp (cIx K) (cVar 5) (tC (.int 1))) (tCons (tOp (cIx K) (cVar 5) (tC (.int 0))) tNil))))))))
  (tRet (tTup (tCons (tCall (sp_ways_of K) [] E0 (tCons (cVar 0) (tCons (cVar 3) tNil))) (tCons (tC .non) tNil)))))))
theorem tm_apart (T:Txt K mg a) {cdv:Value}{A:Around}{outer:List Env}{s:Shared}{H:Hp}{E:XK} (hr:Room 3 (A.deeper (envOfC "apart" (defScope s_apart) s.heap.objs.size a.f_apart cdv))) :
  PSs (cxOf (CX1 P w) P w K mg base N_apart "apart" (defScope s_apart) a.f_apart cdv A outer s H E) (defBody s_apart) (rd_apart a K E) :=
 (pss_cons (ps_expr (pe_call (ok_need_goals T) (hr.mono (by decide)) rfl T.mg_need_goals T.fn_need_goals.kp T.bi_need_goals .nil (pass1 xok_fn) (pa_cons (cv 0) (pa_cons (cv 1) pa_nil))))
   (pss_cons (ps_set (i:=3) sc_apart.nd rfl (by walk_at "o") pe_dnewK)
   (pss_cons (PS.nox (ps_for PassesOwn.never rfl (pi_range1 rfl T.no_range (pa_cons (pe_op o_add (cv 2) pe_int) pa_nil)) (pg_name (i:=4) sc_apart.nd rfl (by walk_at "o")) (pss_cons (ps_set (i:=5) sc_apart.nd rfl (by walk_at "o") (pe_call (ok_search T) (hr.mono (by decide)) rfl T.mg_search T.fn_search.kp T.bi_search .nil pass0 (pa_cons (cv 0) (pa_cons (cv 1) (pa_cons (cv 3) pa_nil)))))
   (pss_cons (ps_if (t_cmp o_is (pe_ix i_seq (cv 5) pe_int (fun _ _=>rfl)) pe_non (nomark _)) (pss_one (ps_ret (pe_tup (pa_cons (pe_call (ok_ways_of T) (hr.mono (by decide)) rfl T.mg_ways_of T.fn_ways_of.kp T.bi_ways_of .nil pass0 (pa_cons (cv 0) (pa_cons (cv 3) pa_nil))) (pa_cons (pe_call (ok_stops_of T) (hr.mono (by decide)) rfl T.mg_stops_of T.fn_stops_of.kp T.bi_stops_of .nil pass0 (pa_cons (pe_ix i_seq (cv 5) pe_int (fun _ _=>rfl)) pa_nil)) pa_nil))))) pss_nil)
   (pss_one (ps_expr (pe_call (ok_lead T) (hr.mono (by decide)) rfl T.mg_lead T.fn_lead.kp T.bi_lead .nil pass0 (pa_cons (cv 3) (pa_cons (pe_ix i_seq (cv 5) pe_int (fun _ _=>rfl)) (pa_cons (pe_ix i_seq (cv 5) pe_int (fun _ _=>rfl)) pa_nil))))))))))
   (pss_one (ps_ret (pe_tup (pa_cons (pe_call (ok_ways_of T) (hr.mono (by decide)) rfl T.mg_ways_of T.fn_ways_of.kp T.bi_ways_of .nil pass0 (pa_cons (cv 0) (pa_cons (cv 3) pa_nil))) (pa_cons pe_non pa_nil))))))))
theorem ok_apart (T:Txt K mg a):FnOk P w K mg base (CX1 P w) 4 a.f_apart a.d_apart ["maze","goals","most"] (sp_apart a K):=by
 refine T.fn_apart.okX sc_apart (fun vs H Q E h=>?_) (fun cdv A outer s H vs Q E hr h=>⟨_,tm_apart T hr,?_⟩)
 ·obtain ⟨mp,gp,rs,ls,gi,most,rfl,_⟩:=h;rfl
 ·obtain ⟨mp,gp,rs,ls,gi,most,rfl,hM,hG,mz,hn,hmo,q1,q0⟩:=h
  show rd_apart a K E _ [some (.ref mp),some (.ref gp),some (.int most),none,none,none] H
  unfold rd_apart
  have big:(20000:Nat)≤sizeLine:=by decide
  walk_at "gs"
  refine ⟨mp,gp,rs,ls,gi,rfl,hM,hG,fun hok=>?_,q0⟩
  obtain ⟨gs,hgs⟩:∃ gs,gi=natI gs:=⟨gi.map Int.toNat,by
   unfold natI
   rw [List.map_map]
   refine (List.map_id _).symm.trans (List.map_congr_left fun x hx=>?_)
   have:=(hok x hx).1
   show x=((x.toNat:Nat):Int)
   omega⟩
  have hG':=hG
  rw [hgs,natI_nv] at hG'
  have hgb:∀ g∈gs,g<ls.length∧loOf ls g≠[]:=fun g hg=>by
   obtain ⟨_,h2,h3⟩:=hok (g:Int) (by rw [hgs];exact List.mem_map.mpr ⟨g,hg,rfl⟩)
   rw [Int.toNat_natCast] at h3
   exact ⟨by omega,h3⟩
  walk_at "gs"
  intro ap H1 n1
  have fa:H ap=none:=n1.was
  have flow0:MZ.Flow (loOf ls) (goalOf gs) (MZ.cmOf []):=⟨fun p q h=>(nomatch h),fun p h=>(nomatch h),fun p p' q h=>(nomatch h),fun p h=>absurd rfl h,fun p h=>absurd rfl h⟩
  walk_at "gs"
  rw [show ((most:Int)+1).toNat=most+1 by omega]
  refine for_rngG (fun i σ H2=>Same H H2∧∃ (as:MZ.Cs) (v4 v5:Option V),H2 ap=some (.dK (as.map enc))∧(MZ.keys as).Nodup∧(∀ p∈MZ.keys as,p<ls.length)∧MZ.Flow (loOf ls) (goalOf gs) (MZ.cmOf as)∧Cnt ls as i∧σ=[some (.ref mp),some (.ref gp),some (.int most),some (.ref ap),v4,v5]) ⟨n1.same,[],_,_,n1.at_,List.nodup_nil,fun p hp=>by simp [MZ.keys] at hp,flow0,⟨[],List.nodup_nil,fun t=>⟨fun z=>by simp at z,fun z=>absurd rfl z.2⟩,rfl⟩,rfl⟩ ?_ ?_
  ·rintro i σ H2 hi ⟨s2,as,v4,v5,h2,nd2,ba2,F2,c2,rfl⟩
   have hal:=as_len nd2 ba2
   walk_at "gs"
   refine ⟨mp,gp,ap,rs,ls,gs,as,rfl,hM.same s2,s2 _ _ hG',h2,mz,by omega,fun g hg=>(hgb g hg).1,fun p q hpq=>ba2 q (MZ.cm_some.mp (F2.up p q hpq).2),fun s cs tp cp H3 s3 fc3 h3 hc3 cm3 hls hk3 hsb hcb=>?_,fun cs tp cp H3 s3 h3 hc3 sk=>?_⟩
   ·-- a spring was come to
    have P:=cm3.path F2 (fun g hg=>(hgb g hg).2) hls hk3
    have nac:ap≠cp:=ne_of_none h2 fc3
    walk_at "gs"
    refine ⟨_,_,.inr (.of h3),rfl,?_⟩
    unfold nv
    walk_at "gs"
    refine ⟨_,_,.inr (.of h3),rfl,?_⟩
    refine ⟨_,_,.inr (.of h3),rfl,?_⟩
    refine ⟨ap,cp,loOf ls,goalOf gs,as,cs,s,ls.length,rfl,s3 _ _ h2,hc3,nac,nd2,ba2,hcb,by omega,F2,P,fun as' H4 s4 h4 nd4 ba4 cm4=>?_⟩
    ·have F4:=MZ.lead_flow F2 P mz.lt
     rw [← cm4] at F4
     obtain ⟨l1,l2,l3⟩:=MZ.lead_springs F2 P mz.lt
     rw [← cm4] at l2 l3
     refine ⟨fun b o e=>?_,as',_,_,h4,nd4,ba4,F4,?_,rfl⟩
     ·exact s4 b o (ne_of_none e fa) (s3 _ _ (s2 _ _ e))
     ·obtain ⟨A,nA,hA,rfl⟩:=c2
      refine ⟨s :: A,List.nodup_cons.mpr ⟨fun z=>((hA s).mp z).2 l1,nA⟩,fun t=>?_,rfl⟩
      rw [List.mem_cons,hA]
      constructor
      ·rintro (rfl | ⟨z1,z2⟩)
       ·exact ⟨hls,l2⟩
       ·refine ⟨z1,?_⟩
        by_cases e:t=s
        ·subst e;exact l2
        ·exact (l3 t z1 e).mpr z2
      ·rintro ⟨z1,z2⟩
       by_cases e:t=s
       ·exact .inl e
       ·exact .inr ⟨z1,(l3 t z1 e).mp z2⟩
   ·walk_at "gs"
    refine ⟨_,_,.inr (.of h3),rfl,?_⟩
    walk_at "gs"
    refine ⟨mp,ap,rs,ls,goalOf gs,as,rfl,hM.same (s2.trans s3),s3 _ _ h2,nd2,by omega,ba2,by omega,F2,mz,fun wl us ss ws H4 s4 f4 hW hun ris mem len way=>?_⟩
    refine ⟨_,_,.inr (.of (s4 _ _ h3)),rfl,?_⟩
    refine ⟨cp,cs,rfl,s4 _ _ hc3,sk.came.nd,by have:=sk.len;omega,fun sl es H5 md hes hem=>?_⟩
    obtain ⟨f5,h5,s5⟩:=md
    refine ⟨by show 2≤sizeLine;decide,fun tp' H6 n6=>?_⟩
    have s03:=s2.trans s3
    have s04:=s03.trans s4
    have s05:=s04.trans s5
    have s46:=s5.trans n6.same
    refine q1 gs tp' wl (.ref sl) us ss ws as H6 hgs hok (s05.trans n6.same) (s05.nil n6.was) (s03.nil f4) (fun u hu=>s03.nil (hun u hu).1) (fun b e=>by cases e;exact s04.nil f5) n6.at_ ⟨⟨s46 _ _ hW.lst,hW.len,fun i r w hr hw=>s46 _ _ (hW.at_ i r w hr hw)⟩,F2,ba2,ris,mem,len,way,.inr ⟨sl,es,cs,rfl,n6.same _ _ h5,(ne_of_none hW.lst f5).symm,fun z=>?_,sk,hes,hem,?_⟩⟩
    ·obtain ⟨j,hj⟩:=List.mem_iff_getElem?.mp z
     have hjl:j<ws.length:=by rw [← hW.len];exact (List.getElem?_eq_some_iff.mp hj).1
     have:=hW.at_ j sl _ hj (List.getElem?_eq_getElem hjl)
     rw [f5] at this
     cases this
    ·have:=c2.eq (lt_nodup ris) mem
     omega
  ·rintro σ H2 ⟨s2,as,v4,v5,h2,nd2,ba2,F2,c2,rfl⟩
   have hal:=as_len nd2 ba2
   walk_at "gs"
   refine ⟨mp,ap,rs,ls,goalOf gs,as,rfl,hM.same s2,h2,nd2,by omega,ba2,by omega,F2,mz,fun wl us ss ws H4 s4 f4 hW hun ris mem len way=>?_⟩
   refine ⟨by show 2≤sizeLine;decide,fun tp' H6 n6=>?_⟩
   have s04:=s2.trans s4
   exact q1 gs tp' wl .non us ss ws as H6 hgs hok (s04.trans n6.same) (s04.nil n6.was) (s2.nil f4) (fun u hu=>s2.nil (hun u hu).1) (fun b e=>nomatch e) n6.at_ ⟨⟨n6.same _ _ hW.lst,hW.len,fun i r w hr hw=>n6.same _ _ (hW.at_ i r w hr hw)⟩,F2,ba2,ris,mem,len,way,.inl ⟨rfl,c2.eq (lt_nodup ris) mem⟩⟩
def sp_law_cell_at (K:PySem.W.Frag):Sp:=fun vs H Q _=>∃ (p:Addr) (ns:List Int) (k:Nat),vs=[.ref p,.int k]∧SqL K H p (ns.map V.int)∧∀ c,Q (.int c) H
def rd_law_cell_at (K:PySem.W.Frag):TS:=(tSeq (tIfS (cTst (tOp (cI2 fun i j=>.bl (decide (i<j))) (cVar 1) (tCB (cLen K) (tCons (cVar 0) tNil)))) (tRet (tOp (cIx K) (cVar 0) (cVar 1))) tNext)
  (tRet (tC (.int 0))))
theorem tm_law_cell_at (T:Txt K mg a) {cdv:Value}{A:Around}{outer:List Env}{s:Shared}{H:Hp}{E:XK} (hr:Room 0 (A.deeper (envOfC "_law_cell_at" (defScope s_law_cell_at) s.heap.objs.size a.f_law_cell_at cdv))) :
  PSs (cxOf CX0 P w K mg base N_law_cell_at "_law_cell_at" (defScope s_law_cell_at) a.f_law_cell_at cdv A outer s H E).nox (defBody s_law_cell_at) (rd_law_cell_at K) :=
 (pss_cons (ps_if (t_cmp o_lt (cv 1) (pe_callB c_len (by rfl) T.no_len PySem.boot_len (pa_cons (cv 0) pa_nil)) (nomark _)) (pss_one (ps_ret (pe_ix i_seq (cv 0) (cv 1) (fun _ _=>rfl)))) pss_nil)
   (pss_one (ps_ret pe_int)))
theorem ok_law_cell_at (T:Txt K mg a):FnOk P w K mg base CX0 1 a.f_law_cell_at a.d_law_cell_at ["_law_script","_law_k"] (sp_law_cell_at K):=by
 refine T.fn_law_cell_at.ok sc_law_cell_at (fun vs H Q E h=>?_) (fun cdv A outer s H vs Q E hr h=>⟨_,tm_law_cell_at T hr,?_⟩)
 ·obtain ⟨p,ns,k,rfl,_⟩:=h;rfl
 ·obtain ⟨p,ns,k,rfl,hS,q⟩:=h
  show rd_law_cell_at K _ [some (.ref p),some (.int k)] H
  unfold rd_law_cell_at
  walk_at "go"
  refine .inl ⟨_,.inl hS,?_⟩
  rw [List.length_map]
  by_cases h:(k:Int)<ns.length
  ·rw [if_pos h]
   exact ixI hS (by omega) h (q _)
  ·rw [if_neg h]
   exact q 0
theorem mz_snoc {ls:List (List Nat)} (mz:Mz ls) {bs:List Nat} (nd:bs.Nodup) (hb:∀ b∈bs,b<ls.length):Mz (ls ++ [bs]):=by
 have key:∀ p,loOf (ls ++ [bs]) p=loOf ls p∨(p=ls.length∧loOf (ls ++ [bs]) p=bs):=fun p=>by
  unfold loOf
  rw [List.getD_eq_getElem?_getD,List.getD_eq_getElem?_getD]
  rcases Nat.lt_trichotomy p ls.length with z | z | z
  ·rw [List.getElem?_append_left z];exact .inl rfl
  ·subst z
   rw [List.getElem?_append_right (Nat.le_refl _),Nat.sub_self]
   exact .inr ⟨rfl,rfl⟩
  ·rw [List.getElem?_eq_none (by rw [List.length_append,List.length_singleton];omega),List.getElem?_eq_none (by omega)]
   exact .inl rfl
 refine ⟨fun p l hl=>?_,fun p=>?_⟩
 ·rcases key p with z | ⟨rfl,z⟩
  ·rw [z] at hl;exact mz.lt p l hl
  ·rw [z] at hl;exact hb l hl
 ·rcases key p with z | ⟨rfl,z⟩
  ·rw [z];exact mz.nd p
  ·rw [z];exact nd
theorem mz_two:Mz [[],[]]:=by
 have:∀ p,loOf [[],[]] p=[]:=fun p=>by
  match p with
  | 0=>rfl
  | 1=>rfl
  | p+2=>rfl
 exact ⟨fun p l hl=>by rw [this] at hl;simp at hl,fun p=>by rw [this];exact List.nodup_nil⟩
theorem MazeAt.snoc {H:Hp}{mp bp:Addr}{rs:List Addr}{ls:List (List Nat)}{bs:List Nat} (h:MazeAt H mp rs ls) (hb:H bp=some (.lst (bs.map nv))) (nr:mp ∉ rs) (nb:mp≠bp):MazeAt (upd H mp (.lst (rs.map V.ref ++ [.ref bp]))) mp (rs ++ [bp]) (ls ++ [bs]):=by
 refine ⟨by rw [upd_same,List.map_append];rfl,by rw [List.length_append,List.length_append,h.len];rfl,fun i r l hr hl=>?_⟩
 have hne:mp≠r:=fun z=>by
  have:=List.mem_of_getElem? hr
  rcases List.mem_append.mp this with g | g
  ·exact nr (z ▸ g)
  ·rw [List.mem_singleton] at g;exact nb (z.trans g)
 rw [upd_ne hne.symm]
 rcases Nat.lt_trichotomy i ls.length with z | z | z
 ·rw [List.getElem?_append_left (by rw [h.len];exact z)] at hr
  rw [List.getElem?_append_left z] at hl
  exact h.at_ i r l hr hl
 ·subst z
  rw [List.getElem?_append_right (by rw [h.len];exact Nat.le_refl _),h.len,Nat.sub_self] at hr
  rw [List.getElem?_append_right (Nat.le_refl _),Nat.sub_self] at hl
  cases hr;cases hl
  exact hb
 ·rw [List.getElem?_eq_none (by rw [List.length_append,List.length_singleton];omega)] at hl
  cases hl
def sp_law_copy (_:PySem.W.Frag):Sp:=fun vs H Q _=>∃ (mp:Addr) (rs:List Addr) (ls:List (List Nat)),vs=[.ref mp]∧MazeAt H mp rs ls∧Mz ls∧ls.length≤1200 ∧
 ∀ mq qs H',Same H H'→H mq=none→MazeAt H' mq qs ls→Q (.ref mq) H'
def rd_law_copy (K:PySem.W.Frag):TS:=(tRet (tComp (iList K (cVar 0)) 1 [] (gName 0) tTrue (tCB (cList K) (tCons (cVar 0) tNil))))
theorem tm_law_copy (T:Txt K mg a) {cdv:Value}{A:Around}{outer:List Env}{s:Shared}{H:Hp}{E:XK} (hr:Room 0 (A.deeper (envOfC "_law_copy" (defScope s_law_copy) s.heap.objs.size a.f_law_copy cdv))) :
  PSs (cxOf CX0 P w K mg base N_law_copy "_law_copy" (defScope s_law_copy) a.f_law_copy cdv A outer s H E).nox (defBody s_law_copy) (rd_law_copy K) :=
 (pss_one (ps_ret (pe_comp (N:=["_law_row"]) (k:=1) (sel:=[]) (CScope.of (defScope s_law_copy).names (by decide +kernel)) (CNames.of N_law_copy (by decide +kernel)) rfl (pi_list (cv 0)) (fun _ _ _ _=>(pg_name (i:=0) (show List.Nodup (["_law_row"]:List Str) by decide +kernel) rfl (by walk_at "o"))) (fun _ _ _ _=>pts_nil) (fun _ _ _ _=>(pe_callTy c_list (by rfl) T.no_list PyProof.Rows.boot_list (pa_cons (cv 0) pa_nil))))))
theorem ok_law_copy (T:Txt K mg a):FnOk P w K mg base CX0 1 a.f_law_copy a.d_law_copy ["_law_rows"] (sp_law_copy K):=by
 refine T.fn_law_copy.ok sc_law_copy (fun vs H Q E h=>?_) (fun cdv A outer s H vs Q E hr h=>⟨_,tm_law_copy T hr,?_⟩)
 ·obtain ⟨mp,rs,ls,rfl,_⟩:=h;rfl
 ·obtain ⟨mp,rs,ls,rfl,hM,mz,hn,q⟩:=h
  show rd_law_copy K _ [some (.ref mp)] H
  unfold rd_law_copy
  have big:(20000:Nat)≤sizeLine:=by decide
  walk_at "gs"
  refine ⟨⟨_,.of hM.lst⟩,fun cp hcp=>comp_gen (n:=(rs.map V.ref).length) (item:=fun i=>(rs.map V.ref).getD i .non) (fun σ=>∃ v0,σ=[v0]) (fun i H3=>Same H H3∧∃ us:List Addr,H3 cp=some (.lst (us.map V.ref))∧us.length=i∧(∀ u∈us,u≠cp)∧∀ (j:Nat) u,us[j]? = some u→H3 u=some (.lst ((loOf ls j).map nv))) ⟨_,rfl⟩ ⟨same_upd hcp,[],upd_same,rfl,fun u hu=>by simp at hu,fun j u hu=>by simp at hu⟩ (src_list (xs:=rs.map V.ref) ?_) ?_ ?_ ?_⟩
  ·rintro i H3 _ ⟨s3,_⟩
   exact .of (s3 _ _ hM.lst)
  ·rintro H3 ⟨s3,_⟩
   exact ⟨_,.of (s3 _ _ hM.lst),Nat.le_refl _⟩
  ·rintro i σ3 H3 R hi ⟨v0,rfl⟩ ⟨s3,us,h3,hul,hun,hat⟩ hR
   rw [List.length_map,hM.len] at hi
   obtain ⟨r,hr1,hr2⟩:=(hM.same s3).get hi
   have hml:=mz.len i
   have er:(rs.map V.ref).getD i .non=.ref r:=by
    rw [atI_ok .non (by omega) (by rw [List.length_map,hM.len];omega),Int.toNat_natCast] at hr1
    exact Option.some.inj hr1
   rw [er]
   walk_at "gs"
   refine ⟨_,.inl (.of hr2),fun l4 H4 n4=>?_⟩
   have ncp:l4≠cp:=(ne_of_none h3 n4.was).symm
   refine ⟨_,n4.same _ _ h3,by rw [List.length_map];omega,hR _ _ ⟨_,rfl⟩ ⟨(s3.trans n4.same).put hcp,us ++ [l4],by rw [upd_same,List.map_append];rfl,by rw [List.length_append,hul];rfl,fun u hu=>?_,fun j u hu=>?_⟩⟩
   ·rcases List.mem_append.mp hu with z | z
    ·exact hun u z
    ·rw [List.mem_singleton] at z
     rw [z];exact ncp
   ·by_cases hji:j<i
    ·rw [List.getElem?_append_left (by omega)] at hu
     rw [upd_ne (hun u (List.mem_of_getElem? hu))]
     exact n4.same _ _ (hat j u hu)
    ·have hjl:j<us.length+1:=by have:=(List.getElem?_eq_some_iff.mp hu).1;rwa [List.length_append] at this
     have hj:j=us.length:=by omega
     subst hj
     rw [List.getElem?_append_right (Nat.le_refl _),Nat.sub_self] at hu
     cases hu
     rw [upd_ne ncp,hul]
     exact n4.at_
  rintro H3 ⟨s3,us,h3,hul,hun,hat⟩
  rw [List.length_map] at hul
  refine q cp us H3 s3 hcp ⟨h3,by rw [hul];exact hM.len,fun i r l hr hl=>?_⟩
  have:=hat i r hr
  unfold loOf at this
  rwa [List.getD_eq_getElem?_getD,hl] at this
def high (ls:List (List Nat)):List Nat:=(List.range ls.length).filter fun k=>decide (0<(loOf ls k).length)
theorem mem_high {ls:List (List Nat)}{k:Nat}:k∈high ls ↔ k<ls.length∧loOf ls k≠[]:=by
 unfold high
 rw [List.mem_filter,List.mem_range,decide_eq_true_iff,List.length_pos_iff]
def sp_law_maze (_:PySem.W.Frag):Sp:=fun vs H Q _=>∃ (cp:Addr) (ns:List Int) (c:Int),vs=[.ref cp,.int c]∧H cp=some (.lst (ns.map V.int))∧ns.length≤60 ∧
 ∀ mp rs ls H',Same H H'→H mp=none→mp ∉ rs→MazeAt H' mp rs ls→Mz ls→2≤ls.length→ls.length≤202+ns.length→Q (.ref mp) H'
def rd_law_maze (K:PySem.W.Frag):TS:=(tSeq (tAsg (tLst (tCons (tLst tNil) (tCons (tLst tNil) tNil))) (gName 2))
  (tSeq (tAsg (tOp (cIx K) (tLst (tCons (tLst (tVals [(.int 2),(.int 1),(.int 2),(.int 3),(.int 2),(.int 0),(.int 3),(.int 4)])) (tCons (tLst (tVals [(.int 0),(.int 3),(.int 0),(.int 2),(.int 4),(.int 0),(.int 3),(.int 1)])) tNil))) (tOp (cI2c (fun _ j=>0<j) fun i j=>.int (i % j)) (cVar 1) (tC (.int 2)))) (gName 3))
  (tSeq (tFor (iRng1 (tCons (tOp cMul (tC (.int 200)) (tCB cInt (tCons (tOp (cEq K) (tOp (cI2c (fun _ j=>0<j) fun i j=>.int (i % j)) (tOp (cI2c CDiv fun i j=>.int (i / j)) (cVar 1) (tC (.int 2))) (tC (.int 16))) (tC (.int 5))) tNil))) tNil)) (gName 4) (tDrop (tBM K "list" rAppend (cVar 2) (tCons (tSl (cSlU K) (tLst (tCons (tOp (cI2 fun i j=>.int (i - j)) (tCB (cLen K) (tCons (cVar 2) tNil)) (tC (.int 1))) (tCons (tOp (cI2c (fun _ j=>0<j) fun i j=>.int (i % j)) (cVar 4) (tC (.int 2))) tNil))) tNoPart (cPart (tOp cAdd (tC (.int 1)) (tOp (cI2c CDiv fun i j=>.int (i / j)) (tOp (cI2c (fun _ j=>0<j) fun i j=>.int (i % j)) (cVar 4) (tC (.int 3))) (tC (.int 2)))))) tNil))))
  (tSeq (tFor (iList K (cVar 0)) (gName 5) (tSeq (tAsg (tCB (cLen K) (tCons (cVar 2) tNil)) (gName 6))
  (tSeq (tAsg (tOp (cI2c CDiv fun i j=>.int (i / j)) (cVar 5) (tC (.int 16))) (gName 7))
  (tSeq (tAsg (tOp (cIx K) (tLst (tCons (tCB cMin (tCons (cVar 6) (tCons (tC (.int 5)) tNil))) (tCons (cVar 6) tNil))) (tOp (cI2c (fun _ j=>0<j) fun i j=>.int (i % j)) (tOp (cI2c CDiv fun i j=>.int (i / j)) (cVar 5) (tC (.int 8))) (tC (.int 2)))) (gName 8))
  (tSeq (tAsg (tLst tNil) (gName 9))
  (tSeq (tFor (iRng1 (tCons (tOp (cIx K) (cVar 3) (tOp (cI2c (fun _ j=>0<j) fun i j=>.int (i % j)) (cVar 5) (tC (.int 8)))) tNil)) (gName 10) (tSeq (tAsg (tOp (cI2 fun i j=>.int (i - j)) (tOp (cI2 fun i j=>.int (i - j)) (cVar 6) (tC (.int 1))) (tOp (cI2c (fun _ j=>0<j) fun i j=>.int (i % j)) (cVar 7) (cVar 8))) (gName 11))
  (tSeq (tAsg (tOp cAdd (tOp (cI2c CDiv fun i j=>.int (i / j)) (cVar 7) (cVar 8)) (tOp cMul (tC (.int 3)) (cVar 10))) (gName 7))
  (tIfS (cTst (tOp (cIn K true) (cVar 11) (cVar 9))) (tDrop (tBM K "list" rAppend (cVar 9) (tCons (cVar 11) tNil))) tNext))))
  (tDrop (tBM K "list" rAppend (cVar 2) (tCons (cVar 9) tNil)))))))))
  (tRet (cVar 2))))))
theorem tm_law_maze (T:Txt K mg a) {cdv:Value}{A:Around}{outer:List Env}{s:Shared}{H:Hp}{E:XK} (hr:Room 0 (A.deeper (envOfC "_law_maze" (defScope s_law_maze) s.heap.objs.size a.f_law_maze cdv))) :
  PSs (cxOf CX0 P w K mg base N_law_maze "_law_maze" (defScope s_law_maze) a.f_law_maze cdv A outer s H E).nox (defBody s_law_maze) (rd_law_maze K) :=
 (pss_cons (ps_set (i:=2) sc_law_maze.nd rfl (by walk_at "o") (pe_lst (pa_cons (pe_lst pa_nil) (pa_cons (pe_lst pa_nil) pa_nil))))
   (pss_cons (ps_set (i:=3) sc_law_maze.nd rfl (by walk_at "o") (pe_ix i_seq (pe_lst (pa_cons (pe_lst (pa_consts (vs:=[(.int 2),(.int 1),(.int 2),(.int 3),(.int 2),(.int 0),(.int 3),(.int 4)]) rfl)) (pa_cons (pe_lst (pa_consts (vs:=[(.int 0),(.int 3),(.int 0),(.int 2),(.int 4),(.int 0),(.int 3),(.int 1)]) rfl)) pa_nil))) (pe_op o_mod (cv 1) pe_int) (fun _ _=>rfl)))
   (pss_cons (ps_for PassesOwn.never rfl (pi_range1 rfl T.no_range (pa_cons (pe_op o_mul pe_int (pe_callTy c_int (by rfl) T.no_int PyProof.Rows.boot_int (pa_cons (pe_cmpR (o_eq (hr8 hr)) (pe_op o_mod (pe_op o_fdiv (cv 1) pe_int) pe_int) pe_int (nomark _)) pa_nil))) pa_nil)) (pg_name (i:=4) sc_law_maze.nd rfl (by walk_at "o")) (pss_one (ps_expr (pe_bm PySem.F.plainAttrs_list PySem.F.slot_list_append PySem.F.type_list_append (mtr mt_append) (cv 2) (pa_cons (pe_slice s_u (pe_lst (pa_cons (pe_op o_sub (pe_callB c_len (by rfl) T.no_len PySem.boot_len (pa_cons (cv 2) pa_nil)) pe_int) (pa_cons (pe_op o_mod (cv 4) pe_int) pa_nil))) po_none (e_part (pe_op o_add pe_int (pe_op o_fdiv (pe_op o_mod (cv 4) pe_int) pe_int)))) pa_nil)))))
   (pss_cons (ps_for PassesOwn.never rfl (pi_list (cv 0)) (pg_name (i:=5) sc_law_maze.nd rfl (by walk_at "o")) (pss_cons (ps_set (i:=6) sc_law_maze.nd rfl (by walk_at "o") (pe_callB c_len (by rfl) T.no_len PySem.boot_len (pa_cons (cv 2) pa_nil)))
   (pss_cons (ps_set (i:=7) sc_law_maze.nd rfl (by walk_at "o") (pe_op o_fdiv (cv 5) pe_int))
   (pss_cons (ps_set (i:=8) sc_law_maze.nd rfl (by walk_at "o") (pe_ix i_seq (pe_lst (pa_cons (pe_callB (c_min rfl) (by rfl) T.no_min PyProof.Rows.boot_min (pa_cons (cv 6) (pa_cons pe_int pa_nil))) (pa_cons (cv 6) pa_nil))) (pe_op o_mod (pe_op o_fdiv (cv 5) pe_int) pe_int) (fun _ _=>rfl)))
   (pss_cons (ps_set (i:=9) sc_law_maze.nd rfl (by walk_at "o") (pe_lst pa_nil))
   (pss_cons (ps_for PassesOwn.never rfl (pi_range1 rfl T.no_range (pa_cons (pe_ix i_seq (cv 3) (pe_op o_mod (cv 5) pe_int) (fun _ _=>rfl)) pa_nil)) (pg_name (i:=10) sc_law_maze.nd rfl (by walk_at "o")) (pss_cons (ps_set (i:=11) sc_law_maze.nd rfl (by walk_at "o") (pe_op o_sub (pe_op o_sub (cv 6) pe_int) (pe_op o_mod (cv 7) (cv 8))))
   (pss_cons (ps_set (i:=7) sc_law_maze.nd rfl (by walk_at "o") (pe_op o_add (pe_op o_fdiv (cv 7) (cv 8)) (pe_op o_mul pe_int (cv 10))))
   (pss_one (ps_if (t_cmp o_notin (cv 11) (cv 9) (by with_unfolding_all rfl)) (pss_one (ps_expr (pe_bm PySem.F.plainAttrs_list PySem.F.slot_list_append PySem.F.type_list_append (mtr mt_append) (cv 9) (pa_cons (cv 11) pa_nil)))) pss_nil)))))
   (pss_one (ps_expr (pe_bm PySem.F.plainAttrs_list PySem.F.slot_list_append PySem.F.type_list_append (mtr mt_append) (cv 2) (pa_cons (cv 9) pa_nil))))))))))
   (pss_one (ps_ret (cv 2)))))))
theorem ok_law_maze (T:Txt K mg a):FnOk P w K mg base CX0 1 a.f_law_maze a.d_law_maze ["_law_cells","_law_sort"] (sp_law_maze K):=by
 refine T.fn_law_maze.ok sc_law_maze (fun vs H Q E h=>?_) (fun cdv A outer s H vs Q E hr h=>⟨_,tm_law_maze T hr,?_⟩)
 ·obtain ⟨cp,ns,c,rfl,_⟩:=h;rfl
 ·obtain ⟨cp,ns,c0,rfl,hS,hn,q⟩:=h
  show rd_law_maze K _ [some (.ref cp),some (.int c0),none,none,none,none,none,none,none,none,none,none] H
  unfold rd_law_maze
  have big:(20000:Nat)≤sizeLine:=by decide
  walk_at "gs"
  intro r0 H1 n1
  walk_at "gs"
  intro r1 H2 n2
  walk_at "gs"
  refine ⟨by show 2≤sizeLine;decide,fun mp H3 n3=>?_⟩
  have s3:=(n1.same.trans n2.same).trans n3.same
  have f3:H mp=none:=(n1.same.trans n2.same).nil n3.was
  have e0:r0≠mp:=ne_of_none (n2.same _ _ n1.at_) n3.was
  have e1:r1≠mp:=ne_of_none n2.at_ n3.was
  have M3:MazeAt H3 mp [r0,r1] [[],[]]:=by
   refine ⟨n3.at_,rfl,fun i r l hr hl=>?_⟩
   match i,hr,hl with
   | 0,hr,hl=>cases hr;cases hl;exact n3.same _ _ (n2.same _ _ n1.at_)
   | 1,hr,hl=>cases hr;cases hl;exact n3.same _ _ n2.at_
   | i+2,hr,_=>cases hr
  walk_at "gs"
  refine fun t4 H4 n4=>⟨by show 8≤sizeLine;decide,fun t5 H5 n5=>⟨by show 2≤sizeLine;decide,fun t6 H6 n6=>⟨by omega,?_⟩⟩⟩
  have ct4:∀ c:Int,∃ k:Nat,atI [V.int 2,V.int 1,V.int 2,V.int 3,V.int 2,V.int 0,V.int 3,V.int 4] (c % 8)=some (.int k)∧k≤4:=fun c=>by
   rcases (by omega:c % 8=0∨c % 8=1∨c % 8=2∨c % 8=3∨c % 8=4∨c % 8=5∨c % 8=6∨c % 8=7) with z | z | z | z | z | z | z | z <;> rw [z]
   ·exact ⟨2,rfl,by omega⟩
   ·exact ⟨1,rfl,by omega⟩
   ·exact ⟨2,rfl,by omega⟩
   ·exact ⟨3,rfl,by omega⟩
   ·exact ⟨2,rfl,by omega⟩
   ·exact ⟨0,rfl,by omega⟩
   ·exact ⟨3,rfl,by omega⟩
   ·exact ⟨4,rfl,by omega⟩
  have ct5:∀ c:Int,∃ k:Nat,atI [V.int 0,V.int 3,V.int 0,V.int 2,V.int 4,V.int 0,V.int 3,V.int 1] (c % 8)=some (.int k)∧k≤4:=fun c=>by
   rcases (by omega:c % 8=0∨c % 8=1∨c % 8=2∨c % 8=3∨c % 8=4∨c % 8=5∨c % 8=6∨c % 8=7) with z | z | z | z | z | z | z | z <;> rw [z]
   ·exact ⟨0,rfl,by omega⟩
   ·exact ⟨3,rfl,by omega⟩
   ·exact ⟨0,rfl,by omega⟩
   ·exact ⟨2,rfl,by omega⟩
   ·exact ⟨4,rfl,by omega⟩
   ·exact ⟨0,rfl,by omega⟩
   ·exact ⟨3,rfl,by omega⟩
   ·exact ⟨1,rfl,by omega⟩
  obtain ⟨cb,xs,hcb,hcx,nct,hcnt⟩:∃ (cb:Addr) (xs:List V),atI [V.ref t4,V.ref t5] (c0 % 2)=some (.ref cb)∧H6 cb=some (.lst xs)∧cb≠mp∧∀ c:Int,∃ k:Nat,atI xs (c % 8)=some (.int k)∧k≤4:=by
   rcases (by omega:c0 % 2=0∨c0 % 2=1) with z | z <;> rw [z]
   ·exact ⟨t4,_,rfl,n6.same _ _ (n5.same _ _ n4.at_),(ne_of_none n3.at_ n4.was).symm,ct4⟩
   ·exact ⟨t5,_,rfl,n6.same _ _ n5.at_,(ne_of_none (n4.same _ _ n3.at_) n5.was).symm,ct5⟩
  have s36:=(n4.same.trans n5.same).trans n6.same
  have gR:(200 * if c0 / 2 % 16=5 then (1:Int) else 0)=0∨(200 * if c0 / 2 % 16=5 then (1:Int) else 0)=200:=by split <;> omega
  refine ⟨_,_,.inl (.of n6.at_),hcb,⟨by omega,by omega⟩,by omega,.inl ⟨by omega,by omega⟩,by omega,by omega,?_⟩
  generalize (200 * if c0 / 2 % 16=5 then (1:Int) else 0)=R at gR ⊢
  refine for_rngG (fun i σ H7=>Same H H7∧H7 cb=some (.lst xs)∧∃ (rs:List Addr) (ls:List (List Nat)) (v4:Option V),mp ∉ rs∧MazeAt H7 mp rs ls∧Mz ls∧ls.length=2+i∧σ=[some (.ref cp),some (.int c0),some (.ref mp),some (.ref cb),v4,none,none,none,none,none,none,none]) ⟨s3.trans s36,hcx,[r0,r1],[[],[]],_,by simp [e0.symm,e1.symm],M3.same s36,mz_two,rfl,rfl⟩ ?_ ?_
  ·rintro i σ H7 hi ⟨s7,hc7,rs,ls,v4,nr,hM,mz,hl,rfl⟩
   walk_at "gs"
   refine ⟨.inl ⟨by trivial,_,.of hM.lst⟩,.inl ⟨_,.inl (.of hM.lst),by omega,by show 2≤sizeLine;decide,fun p8 H8 n8=>⟨by omega,⟨by omega,by omega⟩,_,.of n8.at_,fun q9 H9 n9=>?_⟩⟩⟩
   rw [List.length_map,hM.len] at n9
   have hM9:=(hM.same n8.same).same n9.same
   have s89:=n8.same.trans n9.same
   have nq:mp≠q9:=ne_of_none (n8.same _ _ hM.lst) n9.was
   obtain ⟨bs,hbs,ndb,hbb⟩:∃ bs:List Nat,cutV [V.int ((ls.length:Int) - 1),V.int ((0+(i:Int)) % 2)] none (some (1+(0+(i:Int)) % 3 / 2))=bs.map nv∧bs.Nodup∧∀ b∈bs,b<ls.length:=by
    have e1:V.int ((ls.length:Int) - 1)=nv (ls.length - 1):=by unfold nv;congr 1;omega
    have e2:V.int ((0+(i:Int)) % 2)=nv (i % 2):=by unfold nv;congr 1;omega
    rcases (by omega:1+(0+(i:Int)) % 3 / 2=1∨1+(0+(i:Int)) % 3 / 2=2) with z | z <;> rw [z,e1,e2]
    ·exact ⟨[ls.length - 1],rfl,by simp,fun b hb=>by rw [List.mem_singleton] at hb;omega⟩
    ·exact ⟨[ls.length - 1,i % 2],rfl,by simp;omega,fun b hb=>by
      rcases List.mem_cons.mp hb with g | g
      ·omega
      ·rw [List.mem_singleton] at g;omega⟩
   rw [hbs] at n9
   refine ⟨mp,_,_,rfl,rfl,hM9.lst,by rw [List.length_map,hM.len];omega,(s7.trans s89).put f3,by rw [upd_ne nct];exact s89 _ _ hc7,rs ++ [q9],ls ++ [bs],_,?_,hM9.snoc n9.at_ nr nq,mz_snoc mz ndb hbb,by rw [List.length_append,List.length_singleton];omega,rfl⟩
   rw [List.mem_append,List.mem_singleton]
   exact fun z=>z.elim nr nq
  ·rintro σ H7 ⟨s7,hc7,rs,ls,v4,nr,hM,mz,hl,rfl⟩
   have hl202:ls.length≤202:=by omega
   have hl2:2≤ls.length:=by omega
   walk_at "gs"
   generalize hL0:ls.length=L0 at hl202 hl2 hl
   have hcp7:=s7 _ _ hS
   refine ⟨⟨_,.of hcp7⟩,for_listG (xs:=ns.map V.int) (fun i σ H4=>Same H H4∧H4 cb=some (.lst xs)∧∃ (rs:List Addr) (ls:List (List Nat)) (v5 v6 v7 v8 v9 v10 v11:Option V),mp ∉ rs∧MazeAt H4 mp rs ls∧Mz ls∧ls.length=L0+i∧σ=[some (.ref cp),some (.int c0),some (.ref mp),some (.ref cb),v4,v5,v6,v7,v8,v9,v10,v11]) ⟨s7,hc7,rs,ls,_,_,_,_,_,_,_,nr,hM,mz,hL0,rfl⟩ ?_ ?_ ?_⟩
   ·rintro i σ H4 _ ⟨s4,_⟩
    exact .of (s4 _ _ hS)
   ·rintro i v σ H4 hv ⟨s4,hc4,rs,ls,v5,v6,v7,v8,v9,v10,v11,nr,hM,mz,hl,rfl⟩
    obtain ⟨c,hc,rfl⟩:=get_map_of hv
    have hi:i<ns.length:=(List.getElem?_eq_some_iff.mp hc).1
    walk_at "gs"
    refine .inl ⟨_,.inl (.of hM.lst),?_⟩
    rw [List.length_map,hM.len]
    obtain ⟨sp,hsp,sp1,sp2⟩:∃ sp:Int,atI [V.int (if 5<(ls.length:Int) then 5 else (ls.length:Int)),V.int (ls.length:Int)] (c / 8 % 2)=some (.int sp)∧1≤sp∧sp≤ls.length:=by
     rcases (by omega:c / 8 % 2=0∨c / 8 % 2=1) with z | z <;> rw [z]
     ·exact ⟨_,rfl,by split <;> omega,by split <;> omega⟩
     ·exact ⟨_,rfl,by omega,by omega⟩
    obtain ⟨k,hk,hk4⟩:=hcnt c
    walk_at "gs"
    refine ⟨by show 2≤sizeLine;decide,fun t5 H5 n5=>⟨⟨by omega,by omega⟩,by omega,_,_,.inl (.of n5.at_),hsp,by show 0≤sizeLine;omega,fun bp H6 n6=>⟨by omega,_,_,.inl (.of (n6.same _ _ (n5.same _ _ hc4))),hk,?_⟩⟩⟩
    have s46:=n5.same.trans n6.same
    have fb4:H4 bp=none:=n5.same.nil n6.was
    have fb:H bp=none:=s4.nil fb4
    have nmb:mp≠bp:=ne_of_none hM.lst fb4
    refine ⟨by omega,by omega,?_⟩
    rw [Int.toNat_natCast]
    refine for_rngG (fun j σ H8=>Same H4 H8∧∃ (bs:List Nat) (r:Int) (v10 v11:Option V),H8 bp=some (.lst ((natI bs).map V.int))∧bs.Nodup∧(∀ b∈bs,b<ls.length)∧bs.length≤j∧σ=[some (.ref cp),some (.int c0),some (.ref mp),some (.ref cb),v4,some (.int c),some (.int (ls.length:Int)),some (.int r),some (.int sp),some (.ref bp),v10,v11]) ⟨s46,[],_,_,_,n6.at_,List.nodup_nil,fun b hb=>by simp at hb,Nat.le_refl _,rfl⟩ ?_ ?_
    ·rintro j σ H8 hj ⟨s8,bs,r,w10,w11,h8,nd8,hb8,hbl,rfl⟩
     have hr0:=Int.emod_nonneg r (by omega:sp≠0)
     have hr1:=Int.emod_lt_of_pos r (by omega:0<sp)
     obtain ⟨ln,hln⟩:=Int.eq_ofNat_of_zero_le (by omega:0≤(ls.length:Int) - 1 - r % sp)
     walk_at "gs"
     rw [hln]
     refine ⟨_,.inl (.of h8),rfl,flat_ints _,?_⟩
     rw [inV_ints]
     by_cases hin:(ln:Int)∈natI bs
     ·rw [decide_eq_true hin]
      walk_at "go"
      exact ⟨s8,bs,_,_,_,h8,nd8,hb8,by omega,rfl⟩
     ·rw [decide_eq_false hin]
      walk_at "go"
      refine ⟨.inl ⟨by trivial,_,.of h8⟩,bp,_,_,rfl,rfl,h8,by rw [List.length_map];unfold natI;rw [List.length_map];omega,s8.put fb4,bs ++ [ln],_,_,_,?_,?_,?_,by rw [List.length_append,List.length_singleton];omega,rfl⟩
      ·rw [upd_same]
       unfold natI
       rw [List.map_append,List.map_append]
       rfl
      ·refine List.nodup_append.mpr ⟨nd8,by simp,fun x hx y hy z=>hin ?_⟩
       rw [List.mem_singleton] at hy
       exact List.mem_map.mpr ⟨x,hx,by rw [z,hy]⟩
      ·intro b hb
       rcases List.mem_append.mp hb with z | z
       ·exact hb8 b z
       ·rw [List.mem_singleton] at z
        omega
    ·rintro σ H8 ⟨s8,bs,r,w10,w11,h8,nd8,hb8,hbl,rfl⟩
     have hM8:=hM.same s8
     rw [natI_nv] at h8
     walk_at "gs"
     refine ⟨.inl ⟨by trivial,_,.of hM8.lst⟩,mp,_,_,rfl,rfl,hM8.lst,by rw [List.length_map,hM.len];omega,(s4.trans s8).put f3,by rw [upd_ne nct];exact s8 _ _ hc4,rs ++ [bp],ls ++ [bs],_,_,_,_,_,_,_,?_,hM8.snoc h8 nr nmb,mz_snoc mz nd8 hb8,by rw [List.length_append,List.length_singleton];omega,rfl⟩
     rw [List.mem_append,List.mem_singleton]
     exact fun z=>z.elim nr nmb
   ·rintro σ H4 ⟨s4,hc4,rs,ls,v5,v6,v7,v8,v9,v10,v11,nr,hM,mz,hl,rfl⟩
    rw [List.length_map] at hl
    walk_at "gs"
    exact q mp rs ls H4 s4 f3 nr hM mz (by omega) (by omega)
theorem high_nd (ls:List (List Nat)):(high ls).Nodup:=List.nodup_range.filter _
def sp_law_goals (_:PySem.W.Frag):Sp:=fun vs H Q _=>∃ (mp:Addr) (rs:List Addr) (ls:List (List Nat)) (c:Int),vs=[.ref mp,.int c]∧MazeAt H mp rs ls∧Mz ls∧ls.length≤1000 ∧
 ∀ gp (gs:List Nat) H',Same H H'→H gp=none→H' gp=some (.lst (gs.map nv))→gs.Nodup→(∀ g∈gs,g∈high ls)→Q (.ref gp) H'
def rd_law_goals (K:PySem.W.Frag):TS:=(tSeq (tAsg (tComp (iRng1 (tCons (tCB (cLen K) (tCons (cVar 0) tNil)) tNil)) 1 [0] (gName 0) (cTst (tOp (cI2 fun i j=>.bl (decide (j<i))) (tCB (cLen K) (tCons (tOp (cIx K) (cVar 1) (cVar 0)) tNil)) (tC (.int 0)))) (cVar 0)) (gName 2))
  (tSeq (tIfS (cTst (tOp (cI2 fun i j=>.bl (decide (i<j))) (tOp (cI2c (fun _ j=>0<j) fun i j=>.int (i % j)) (cVar 1) (tC (.int 4))) (tC (.int 2)))) (tRet (tSl (cSlU K) (cVar 2) (cPart (tOp (cI2 fun i j=>.int (i - j)) (tCB (cLen K) (tCons (cVar 2) tNil)) (tOp (cI2c (fun _ j=>0<j) fun i j=>.int (i % j)) (tOp (cI2c CDiv fun i j=>.int (i / j)) (cVar 1) (tC (.int 4))) (tC (.int 3))))) tNoPart)) tNext)
  (tSeq (tAsg (tOp (cI2c (fun _ j=>0<j) fun i j=>.int (i % j)) (cVar 1) (tC (.int 2147483647))) (gName 3))
  (tSeq (tAsg (tLst tNil) (gName 4))
  (tSeq (tFor (iList K (cVar 2)) (gName 5) (tSeq (tAsg (tOp (cI2c (fun _ j=>0<j) fun i j=>.int (i % j)) (tOp cAdd (tOp cMul (cVar 3) (tC (.int 48271))) (tC (.int 11))) (tC (.int 2147483647))) (gName 3))
  (tIfS (cTst (tOp (cEq K) (tOp (cI2c (fun _ j=>0<j) fun i j=>.int (i % j)) (tOp (cI2c CDiv fun i j=>.int (i / j)) (cVar 3) (tC (.int 64))) (tC (.int 5))) (tC (.int 0)))) (tDrop (tBM K "list" rAppend (cVar 4) (tCons (cVar 5) tNil))) tNext)))
  (tMid (tIfS (cTst (tOp (cEq K) (tOp (cI2c (fun _ j=>0<j) fun i j=>.int (i % j)) (cVar 1) (tC (.int 4))) (tC (.int 3)))) (tAsg (cListRev K (tCons (cVar 4) tNil)) (gName 4)) tNext)
  (tRet (cVar 4))))))))
theorem tm_law_goals (T:Txt K mg a) {cdv:Value}{A:Around}{outer:List Env}{s:Shared}{H:Hp}{E:XK} (hr:Room 0 (A.deeper (envOfC "_law_goals" (defScope s_law_goals) s.heap.objs.size a.f_law_goals cdv))) :
  PSs (cxOf CX0 P w K mg base N_law_goals "_law_goals" (defScope s_law_goals) a.f_law_goals cdv A outer s H E).nox (defBody s_law_goals) (rd_law_goals K) :=
 (pss_cons (ps_setC (i:=2) (N:=["_law_k","_law_maze_here"]) (k:=1) (sel:=[0]) (CScope.of (defScope s_law_goals).names (by decide +kernel)) (CNames.of N_law_goals (by decide +kernel)) rfl (pi_range1 rfl T.no_range (pa_cons (pe_callB c_len (by rfl) T.no_len PySem.boot_len (pa_cons (cv 0) pa_nil)) pa_nil)) (fun _ _ _ _=>(pg_name (i:=0) (show List.Nodup (["_law_k","_law_maze_here"]:List Str) by decide +kernel) rfl (by walk_at "o"))) (fun _ _ _ _=>(pts_one (t_cmp o_gt (pe_callB c_len (by rfl) T.no_len PySem.boot_len (pa_cons (pe_ix i_seq (cv 1) (cv 0) (fun _ _=>rfl)) pa_nil)) pe_int (nomark _)))) (fun _ _ _ _=>(cv 0)) sc_law_goals.nd rfl (by walk_at "o") rfl)
   (pss_cons (ps_if (t_cmp o_lt (pe_op o_mod (cv 1) pe_int) pe_int (nomark _)) (pss_one (ps_ret (pe_slice s_u (cv 2) (e_part (pe_op o_sub (pe_callB c_len (by rfl) T.no_len PySem.boot_len (pa_cons (cv 2) pa_nil)) (pe_op o_mod (pe_op o_fdiv (cv 1) pe_int) pe_int))) po_none))) pss_nil)
   (pss_cons (ps_set (i:=3) sc_law_goals.nd rfl (by walk_at "o") (pe_op o_mod (cv 1) pe_int))
   (pss_cons (ps_set (i:=4) sc_law_goals.nd rfl (by walk_at "o") (pe_lst pa_nil))
   (pss_cons (ps_for PassesOwn.never rfl (pi_list (cv 2)) (pg_name (i:=5) sc_law_goals.nd rfl (by walk_at "o")) (pss_cons (ps_set (i:=3) sc_law_goals.nd rfl (by walk_at "o") (pe_op o_mod (pe_op o_add (pe_op o_mul (cv 3) pe_int) pe_int) pe_int))
   (pss_one (ps_if (t_cmp (o_eq (hr8 hr)) (pe_op o_mod (pe_op o_fdiv (cv 3) pe_int) pe_int) pe_int (nomark _)) (pss_one (ps_expr (pe_bm PySem.F.plainAttrs_list PySem.F.slot_list_append PySem.F.type_list_append (mtr mt_append) (cv 4) (pa_cons (cv 5) pa_nil)))) pss_nil))))
   (pss_mid (ps_if (t_cmp (o_eq (hr8 hr)) (pe_op o_mod (cv 1) pe_int) pe_int (nomark _)) (pss_one (ps_set (i:=4) sc_law_goals.nd rfl (by walk_at "o") (e_listrev rfl rfl rfl T.no_list T.no_reversed (pa_cons (cv 4) pa_nil)))) pss_nil)
   (pss_one (ps_ret (cv 4)))))))))
theorem ok_law_goals (T:Txt K mg a):FnOk P w K mg base CX0 1 a.f_law_goals a.d_law_goals ["_law_maze_here","_law_cell"] (sp_law_goals K):=by
 refine T.fn_law_goals.ok sc_law_goals (fun vs H Q E h=>?_) (fun cdv A outer s H vs Q E hr h=>⟨_,tm_law_goals T hr,?_⟩)
 ·obtain ⟨mp,rs,ls,c,rfl,_⟩:=h;rfl
 ·obtain ⟨mp,rs,ls,c,rfl,hM,mz,hn,q⟩:=h
  show rd_law_goals K _ [some (.ref mp),some (.int c),none,none,none,none] H
  unfold rd_law_goals
  have big:(20000:Nat)≤sizeLine:=by decide
  walk_at "gs"
  refine .inl ⟨_,.inl (.of hM.lst),?_⟩
  rw [List.length_map,hM.len]
  walk_at "gs"
  rw [Int.toNat_natCast]
  refine compG_rngF (lo:=0) (fun k=>decide (0<(loOf ls k).length)) nv rfl (by omega) ?_ ?_ ?_
  ·intro k H' Q' hk s' q'
   obtain ⟨r,h1,h2⟩:=(hM.same s').get hk
   rw [Int.zero_add]
   walk_at "gs"
   refine ⟨_,_,.inl (.of (s' _ _ hM.lst)),h1,?_⟩
   refine .inl ⟨_,.inl (.of h2),?_⟩
   rw [List.length_map]
   walk_at "gs"
   rw [show decide ((0:Int)<((loOf ls k).length:Int))=decide (0<(loOf ls k).length) by rw [decide_eq_decide];omega]
   exact q'
  ·intro k H' Q' hk _ s' q'
   rw [Int.zero_add]
   walk_at "gs"
   exact q'
  intro hp H1 n1
  have n1:New H hp (.lst ((high ls).map nv)) H1:=n1
  have hhl:(high ls).length≤ls.length:=by
   unfold high
   refine Nat.le_trans (List.length_filter_le ..) ?_
   rw [List.length_range];exact Nat.le_refl _
  refine ⟨by omega,?_⟩
  by_cases c2:c % 4<2
  ·rw [if_pos c2]
   refine .inl ⟨_,.inl n1.sq,⟨by omega,by omega⟩,by omega,_,n1.sq,fun gp H2 n2=>?_⟩
   obtain ⟨a1,a2,hcv⟩:∃ a1 a2,cutV ((high ls).map nv) (some (((((high ls).map nv).length:Nat):Int) - c / 4 % 3)) none=(((high ls).drop a1).take a2).map nv:=⟨_,_,by unfold cutV;rw [← List.map_drop,← List.map_take]⟩
   rw [hcv] at n2
   refine q gp _ H2 (n1.same.trans n2.same) (n1.same.nil n2.was) n2.at_ ((high_nd ls).sublist ((List.take_sublist _ _).trans (List.drop_sublist _ _))) fun g hg=>List.mem_of_mem_drop (List.mem_of_mem_take hg)
  rw [if_neg c2]
  refine ⟨by omega,by show 0≤sizeLine;omega,fun gp H2 n2=>?_⟩
  have s02:=n1.same.trans n2.same
  have fg:H gp=none:=n1.same.nil n2.was
  have h2:=n2.same _ _ n1.at_
  refine ⟨⟨_,.of h2⟩,for_listG (xs:=(high ls).map nv) (fun i σ H3=>Same H1 H3∧∃ (gs:List Nat) (st:Int) (v5:Option V),H3 gp=some (.lst (gs.map nv))∧gs.Sublist ((high ls).take i)∧0≤st∧st<2147483647∧σ=[some (.ref mp),some (.int c),some (.ref hp),some (.int st),some (.ref gp),v5]) ⟨n2.same,[],_,_,n2.at_,List.nil_sublist _,Int.emod_nonneg _ (by omega),Int.emod_lt_of_pos _ (by omega),rfl⟩ ?_ ?_ ?_⟩
  ·rintro i σ H3 _ ⟨s3,_⟩
   exact .of (s3 _ _ n1.at_)
  ·rintro i v σ H3 hv ⟨s3,gs,st,v5,h3,hgs,st0,st1,rfl⟩
   have hgl:gs.length≤1000:=by have:=hgs.length_le;rw [List.length_take] at this;omega
   have hadd:∀ g,(high ls)[i]? = some g→(high ls).take (i+1)=(high ls).take i ++ [g]:=fun g e=>by rw [List.take_add_one,e];rfl
   obtain ⟨g,hg,rfl⟩:=get_map_of hv
   have hi:i<(high ls).length:=(List.getElem?_eq_some_iff.mp hg).1
   have t0:=Int.emod_nonneg (st * 48271+11) (by omega:(2147483647:Int)≠0)
   have t1:=Int.emod_lt_of_pos (st * 48271+11) (by omega:(0:Int)<2147483647)
   have hgh:=List.mem_of_getElem? hg
   rw [show nv g=V.int (g:Nat) from rfl]
   walk_at "gs"
   by_cases c3:(st * 48271+11) % 2147483647 / 64 % 5=0
   ·rw [if_pos c3]
    refine ⟨.inl ⟨by trivial,_,.of h3⟩,gp,_,_,rfl,rfl,h3,by rw [List.length_map];omega,s3.put n2.was,gs ++ [g],_,_,by rw [upd_same,List.map_append];rfl,by rw [hadd g hg];exact hgs.append (List.Sublist.refl _),t0,t1,rfl⟩
   ·rw [if_neg c3]
    exact ⟨s3,gs,_,_,h3,by rw [hadd g hg];exact hgs.trans (List.sublist_append_left _ _),t0,t1,rfl⟩
  ·rintro σ H3 ⟨s3,gs,st,v5,h3,hgs,st0,st1,rfl⟩
   rw [List.length_map,List.take_length] at hgs
   have hnd:=(high_nd ls).sublist hgs
   have hgm:∀ g∈gs,g∈high ls:=fun g hg=>hgs.subset hg
   have s03:=n1.same.trans s3
   walk_at "gs"
   unfold tMid
   walk_at "gs"
   by_cases c4:c % 4=3
   ·rw [if_pos c4]
    refine ⟨_,.of h3,fun rp H4 n4=>?_⟩
    rw [← List.map_reverse] at n4
    exact q rp gs.reverse H4 (s03.trans n4.same) (s03.nil n4.was) n4.at_ (List.pairwise_reverse.mpr (hnd.imp Ne.symm)) fun g hg=>hgm g (List.mem_reverse.mp hg)
   ·rw [if_neg c4]
    exact q gp gs H3 s03 fg h3 hnd hgm
def sp_law_mixed (K:PySem.W.Frag):Sp:=fun vs H Q _=>∃ (p:Addr) (ns:List Int) (n:Nat),vs=[.ref p,.int 2,.int n]∧SqL K H p (ns.map V.int)∧n≤60 ∧
 ∀ l (cs:List Int) H',Same H H'→H' l=some (.lst (cs.map V.int))→cs.length=n→Q (.ref l) H'
def rd_law_mixed (K:PySem.W.Frag):TS:=(tSeq (tAsg (tLst tNil) (gName 3))
  (tSeq (tFor (iRng1 (tCons (cVar 2) tNil)) (gName 4) (tSeq (tAsg (tOp cAdd (tOp cAdd (tOp (cI2c (fun _ j=>0<j) fun i j=>.int (i % j)) (tCall (sp_law_cell_at K) [] E0 (tCons (cVar 0) (tCons (tOp cAdd (cVar 1) (cVar 4)) tNil))) (tC (.int 2147483647))) (tOp cMul (tOp cMul (tC (.int 7919)) (cVar 4)) (cVar 4))) (tC (.int 11))) (gName 5))
  (tDrop (tBM K "list" rAppend (cVar 3) (tCons (tOp (cI2c (fun _ j=>0<j) fun i j=>.int (i % j)) (tOp cMul (tOp (cI2c (fun _ j=>0<j) fun i j=>.int (i % j)) (tOp cMul (cVar 5) (tC (.int 48271))) (tC (.int 2147483647))) (tC (.int 16807))) (tC (.int 2147483647))) tNil)))))
  (tRet (cVar 3))))
theorem tm_law_mixed (T:Txt K mg a) {cdv:Value}{A:Around}{outer:List Env}{s:Shared}{H:Hp}{E:XK} (hr:Room 1 (A.deeper (envOfC "_law_mixed" (defScope s_law_mixed) s.heap.objs.size a.f_law_mixed cdv))) :
  PSs (cxOf CX0 P w K mg base N_law_mixed "_law_mixed" (defScope s_law_mixed) a.f_law_mixed cdv A outer s H E).nox (defBody s_law_mixed) (rd_law_mixed K) :=
 (pss_cons (ps_set (i:=3) sc_law_mixed.nd rfl (by walk_at "o") (pe_lst pa_nil))
   (pss_cons (ps_for PassesOwn.never rfl (pi_range1 rfl T.no_range (pa_cons (cv 2) pa_nil)) (pg_name (i:=4) sc_law_mixed.nd rfl (by walk_at "o")) (pss_cons (ps_set (i:=5) sc_law_mixed.nd rfl (by walk_at "o") (pe_op o_add (pe_op o_add (pe_op o_mod (pe_call (ok_law_cell_at T) (hr.mono (by decide)) rfl T.mg_law_cell_at T.fn_law_cell_at.kp T.bi_law_cell_at .nil pass0 (pa_cons (cv 0) (pa_cons (pe_op o_add (cv 1) (cv 4)) pa_nil))) pe_int) (pe_op o_mul (pe_op o_mul pe_int (cv 4)) (cv 4))) pe_int))
   (pss_one (ps_expr (pe_bm PySem.F.plainAttrs_list PySem.F.slot_list_append PySem.F.type_list_append (mtr mt_append) (cv 3) (pa_cons (pe_op o_mod (pe_op o_mul (pe_op o_mod (pe_op o_mul (cv 5) pe_int) pe_int) pe_int) pe_int) pa_nil))))))
   (pss_one (ps_ret (cv 3)))))
theorem ok_law_mixed (T:Txt K mg a):FnOk P w K mg base CX0 2 a.f_law_mixed a.d_law_mixed ["_law_script","_law_start","_law_count"] (sp_law_mixed K):=by
 refine T.fn_law_mixed.ok sc_law_mixed (fun vs H Q E h=>?_) (fun cdv A outer s H vs Q E hr h=>⟨_,tm_law_mixed T hr,?_⟩)
 ·obtain ⟨p,ns,n,rfl,_⟩:=h;rfl
 ·obtain ⟨p,ns,n,rfl,hS,hn,q⟩:=h
  show rd_law_mixed K _ [some (.ref p),some (.int 2),some (.int n),none,none,none] H
  unfold rd_law_mixed
  have big:(20000:Nat)≤sizeLine:=by decide
  walk_at "gs"
  intro l H1 n1
  walk_at "gs"
  refine for_rngG (fun i σ H2=>Same H H2∧∃ (cs:List Int) (v4 v5:Option V),H2 l=some (.lst (cs.map V.int))∧cs.length=i∧σ=[some (.ref p),some (.int 2),some (.int n),some (.ref l),v4,v5]) ⟨n1.same,[],_,_,n1.at_,rfl,rfl⟩ ?_ ?_
  ·rintro i σ H2 hi ⟨s2,cs,v4,v5,h2,hcl,rfl⟩
   rw [Int.toNat_natCast] at hi
   walk_at "gs"
   rw [show (2:Int)+(0+(i:Int))=((2+i:Nat):Int) by omega]
   refine ⟨p,ns,2+i,rfl,s2.seq hS,fun c=>?_⟩
   refine ⟨by omega,.inr ⟨by omega,by omega⟩,.inr ⟨by omega,by omega⟩,.inl ⟨by trivial,_,.of h2⟩,.inr ⟨by decide,by decide⟩,by omega,.inr ⟨by decide,by decide⟩,by omega,l,_,_,rfl,rfl,h2,by rw [List.length_map];omega,s2.put n1.was,cs ++ [_],_,_,by rw [upd_same,List.map_append];rfl,by rw [List.length_append,hcl];rfl,rfl⟩
  ·rintro σ H2 ⟨s2,cs,v4,v5,h2,hcl,rfl⟩
   rw [Int.toNat_natCast] at hcl
   walk_at "gs"
   exact q l cs H2 s2 h2 hcl
theorem lo_rev (ls:List (List Nat)) (k:Nat):loOf (ls.map List.reverse) k=(loOf ls k).reverse:=by
 unfold loOf
 rw [List.getD_eq_getElem?_getD,List.getD_eq_getElem?_getD,List.getElem?_map]
 cases ls[k]? <;> rfl
theorem mz_rev {ls:List (List Nat)} (mz:Mz ls):Mz (ls.map List.reverse):=⟨fun p l hl=>mz.lt p l (by rw [lo_rev] at hl;exact List.mem_reverse.mp hl),fun p=>by rw [lo_rev];exact List.pairwise_reverse.mpr ((mz.nd p).imp Ne.symm)⟩
theorem mz_nil:Mz []:=⟨fun p l hl=>by simp [loOf] at hl,fun p=>by simp [loOf]⟩
def sp_law_digit_maze (_:PySem.W.Frag):Sp:=fun vs H Q _=>∃ c:Int,vs=[.int c,.int 14] ∧
 ∀ tp mp gp rs ls (gs:List Nat) H',Same H H'→H' tp=some (.tup [.ref mp,.ref gp])→MazeAt H' mp rs ls→Mz ls→ls.length≤14→H mp=none→H gp=none→mp ∉ rs→gp ∉ rs→mp≠gp→gs.Nodup→H' gp=some (.lst (gs.map nv))→(∀ g∈gs,g∈high ls)→Q (.ref tp) H'
def rd_law_digit_maze (K:PySem.W.Frag):TS:=(tSeq (tAsg (tOp (cI2c (fun _ j=>0<j) fun i j=>.int (i % j)) (cVar 0) (tOp cAdd (cVar 1) (tC (.int 1)))) (gName 2))
  (tSeq (tAsg (tOp (cI2c CDiv fun i j=>.int (i / j)) (cVar 0) (tOp cAdd (cVar 1) (tC (.int 1)))) (gName 0))
  (tSeq (tAsg (tLst tNil) (gName 3))
  (tSeq (tFor (iRng1 (tCons (cVar 2) tNil)) (gName 4) (tSeq (tDrop (tBM K "list" rAppend (cVar 3) (tCons (tComp (iRng1 (tCons (cVar 4) tNil)) 1 [0] (gName 0) (cTst (tOp (cEq K) (tOp (cI2 fun i j=>.int (Builtin.bitAnd i j)) (tOp (cI2c (fun _ j=>0≤j) fun i j=>.int (i / 2 ^ j.toNat)) (cVar 1) (cVar 0)) (tC (.int 1))) (tC (.int 1)))) (cVar 0)) tNil)))
  (tAsg (tOp (cI2c (fun _ j=>0≤j) fun i j=>.int (i / 2 ^ j.toNat)) (cVar 0) (cVar 4)) (gName 0))))
  (tSeq (tAsg (tComp (iRng1 (tCons (cVar 2) tNil)) 1 [3,0] (gName 0) (tAnd (cTst (tOp (cI2 fun i j=>.bl (decide (j<i))) (tCB (cLen K) (tCons (tOp (cIx K) (cVar 1) (cVar 0)) tNil)) (tC (.int 0)))) (cTst (tOp (cEq K) (tOp (cI2 fun i j=>.int (Builtin.bitAnd i j)) (tOp (cI2c (fun _ j=>0≤j) fun i j=>.int (i / 2 ^ j.toNat)) (cVar 2) (cVar 0)) (tC (.int 1))) (tC (.int 1))))) (cVar 0)) (gName 5))
  (tMid (tIfS (cTst (tOp (cEq K) (tOp (cI2 fun i j=>.int (Builtin.bitAnd i j)) (tOp (cI2c (fun _ j=>0≤j) fun i j=>.int (i / 2 ^ j.toNat)) (cVar 0) (cVar 2)) (tC (.int 1))) (tC (.int 1)))) (tAsg (tComp (iList K (cVar 3)) 1 [] (gName 0) tTrue (cListRev K (tCons (cVar 0) tNil))) (gName 3)) tNext)
  (tRet (tTup (tCons (cVar 3) (tCons (cVar 5) tNil))))))))))
theorem tm_law_digit_maze (T:Txt K mg a) {cdv:Value}{A:Around}{outer:List Env}{s:Shared}{H:Hp}{E:XK} (hr:Room 0 (A.deeper (envOfC "_law_digit_maze" (defScope s_law_digit_maze) s.heap.objs.size a.f_law_digit_maze cdv))) :
  PSs (cxOf CX0 P w K mg base N_law_digit_maze "_law_digit_maze" (defScope s_law_digit_maze) a.f_law_digit_maze cdv A outer s H E).nox (defBody s_law_digit_maze) (rd_law_digit_maze K) :=
 (pss_cons (ps_set (i:=2) sc_law_digit_maze.nd rfl (by walk_at "o") (pe_op o_mod (cv 0) (pe_op o_add (cv 1) pe_int)))
   (pss_cons (ps_set (i:=0) sc_law_digit_maze.nd rfl (by walk_at "o") (pe_op o_fdiv (cv 0) (pe_op o_add (cv 1) pe_int)))
   (pss_cons (ps_set (i:=3) sc_law_digit_maze.nd rfl (by walk_at "o") (pe_lst pa_nil))
   (pss_cons (ps_for PassesOwn.never rfl (pi_range1 rfl T.no_range (pa_cons (cv 2) pa_nil)) (pg_name (i:=4) sc_law_digit_maze.nd rfl (by walk_at "o")) (pss_cons (ps_expr (pe_bm PySem.F.plainAttrs_list PySem.F.slot_list_append PySem.F.type_list_append (mtr mt_append) (cv 3) (pa_cons (pe_comp (N:=["_law_low","_law_cell"]) (k:=1) (sel:=[0]) (CScope.of (defScope s_law_digit_maze).names (by decide +kernel)) (CNames.of N_law_digit_maze (by decide +kernel)) rfl (pi_range1 rfl T.no_range (pa_cons (cv 4) pa_nil)) (fun _ _ _ _=>(pg_name (i:=0) (show List.Nodup (["_law_low","_law_cell"]:List Str) by decide +kernel) rfl (by walk_at "o"))) (fun _ _ _ _=>(pts_one (t_cmp (o_eq (hr8 hr)) (pe_op o_and (pe_op o_shr (cv 1) (cv 0)) pe_int) pe_int (nomark _)))) (fun _ _ _ _=>(cv 0))) pa_nil)))
   (pss_one (ps_set (i:=0) sc_law_digit_maze.nd rfl (by walk_at "o") (pe_op o_shr (cv 0) (cv 4))))))
   (pss_cons (ps_setC (i:=5) (N:=["_law_k","_law_maze_here","_law_cell"]) (k:=1) (sel:=[3,0]) (CScope.of (defScope s_law_digit_maze).names (by decide +kernel)) (CNames.of N_law_digit_maze (by decide +kernel)) rfl (pi_range1 rfl T.no_range (pa_cons (cv 2) pa_nil)) (fun _ _ _ _=>(pg_name (i:=0) (show List.Nodup (["_law_k","_law_maze_here","_law_cell"]:List Str) by decide +kernel) rfl (by walk_at "o"))) (fun _ _ _ _=>(pts_one (PW.pt (pw_and (t_cmp o_gt (pe_callB c_len (by rfl) T.no_len PySem.boot_len (pa_cons (pe_ix i_seq (cv 1) (cv 0) (fun _ _=>rfl)) pa_nil)) pe_int (nomark _)) (pw_and1 (t_cmp (o_eq (hr8 hr)) (pe_op o_and (pe_op o_shr (cv 2) (cv 0)) pe_int) pe_int (nomark _))))))) (fun _ _ _ _=>(cv 0)) sc_law_digit_maze.nd rfl (by walk_at "o") rfl)
   (pss_mid (ps_if (t_cmp (o_eq (hr8 hr)) (pe_op o_and (pe_op o_shr (cv 0) (cv 2)) pe_int) pe_int (nomark _)) (pss_one (ps_set (i:=3) sc_law_digit_maze.nd rfl (by walk_at "o") (pe_comp (N:=["_law_below"]) (k:=1) (sel:=[]) (CScope.of (defScope s_law_digit_maze).names (by decide +kernel)) (CNames.of N_law_digit_maze (by decide +kernel)) rfl (pi_list (cv 3)) (fun _ _ _ _=>(pg_name (i:=0) (show List.Nodup (["_law_below"]:List Str) by decide +kernel) rfl (by walk_at "o"))) (fun _ _ _ _=>pts_nil) (fun _ _ _ _=>(e_listrev rfl rfl rfl T.no_list T.no_reversed (pa_cons (cv 0) pa_nil)))))) pss_nil)
   (pss_one (ps_ret (pe_tup (pa_cons (cv 3) (pa_cons (cv 5) pa_nil)))))))))))
theorem ok_law_digit_maze (T:Txt K mg a):FnOk P w K mg base CX0 1 a.f_law_digit_maze a.d_law_digit_maze ["_law_cell","_law_most"] (sp_law_digit_maze K):=by
 refine T.fn_law_digit_maze.ok sc_law_digit_maze (fun vs H Q E h=>?_) (fun cdv A outer s H vs Q E hr h=>⟨_,tm_law_digit_maze T hr,?_⟩)
 ·obtain ⟨c,rfl,_⟩:=h;rfl
 ·obtain ⟨c,rfl,q⟩:=h
  show rd_law_digit_maze K _ [some (.int c),some (.int 14),none,none,none,none] H
  unfold rd_law_digit_maze
  have big:(20000:Nat)≤sizeLine:=by decide
  walk_at "gs"
  intro mp H1 n1
  refine ⟨by omega,by omega,?_⟩
  rw [show (14:Int)+1=15 by omega]
  obtain ⟨cn,hcn⟩:=Int.eq_ofNat_of_zero_le (by omega:0≤c % 15)
  have hc9:cn≤14:=by omega
  rw [hcn,Int.toNat_natCast]
  refine for_rngG (fun i σ H2=>Same H H2∧∃ (rs:List Addr) (ls:List (List Nat)) (c':Int) (v4:Option V),mp ∉ rs∧MazeAt H2 mp rs ls∧Mz ls∧ls.length=i∧σ=[some (.int c'),some (.int 14),some (.int (cn:Nat)),some (.ref mp),v4,none]) ⟨n1.same,[],[],_,_,by simp,⟨n1.at_,rfl,fun i r l hr=>by simp at hr⟩,mz_nil,rfl,rfl⟩ ?_ ?_
  ·rintro i σ H2 hi ⟨s2,rs,ls,c',v4,nr,hM,mz,hl,rfl⟩
   walk_at "gs"
   refine ⟨.inl ⟨by trivial,_,.of hM.lst⟩,by omega,by omega,?_⟩
   rw [show ((0:Int)+(i:Int)).toNat=i by omega]
   refine compG_rngF (lo:=0) (fun k=>decide (Builtin.bitAnd (c' / 2 ^ k) 1=1)) nv rfl (by omega) ?_ ?_ ?_
   ·intro k H' Q' hk s' q'
    rw [Int.zero_add]
    walk_at "gs"
    rw [Int.toNat_natCast]
    exact q'
   ·intro k H' Q' hk _ s' q'
    rw [Int.zero_add]
    walk_at "gs"
    exact q'
   intro bp H3 n3
   have nmb:mp≠bp:=ne_of_none hM.lst n3.was
   have hM3:=hM.same n3.same
   refine ⟨mp,_,_,rfl,rfl,hM3.lst,by rw [List.length_map,hM.len];omega,?_⟩
   walk_at "gs"
   refine ⟨(s2.trans n3.same).put n1.was,rs ++ [bp],ls ++ [_],_,_,?_,hM3.snoc n3.at_ nr nmb,mz_snoc mz (List.nodup_range.filter _) fun b hb=>by have:=List.mem_range.mp (List.mem_filter.mp hb).1;omega,by rw [List.length_append,List.length_singleton];omega,rfl⟩
   rw [List.mem_append,List.mem_singleton]
   exact fun z=>z.elim nr nmb
  rintro σ H2 ⟨s2,rs,ls,c',v4,nr,hM,mz,hl,rfl⟩
  walk_at "gs"
  rw [Int.toNat_natCast]
  refine compG_rngF (lo:=0) (fun k=>decide (0<(loOf ls k).length) && decide (Builtin.bitAnd (c' / 2 ^ k) 1=1)) nv rfl (by omega) ?_ ?_ ?_
  ·intro k H' Q' hk s' q'
   obtain ⟨r,h1,h2⟩:=(hM.same s').get (i:=k) (by omega)
   rw [Int.zero_add]
   walk_at "gs"
   refine ⟨_,_,.inl (.of (s' _ _ hM.lst)),h1,?_⟩
   refine .inl ⟨_,.inl (.of h2),?_⟩
   rw [List.length_map]
   walk_at "gs"
   by_cases g:(0:Int)<((loOf ls k).length:Int)
   ·rw [if_pos g]
    rw [decide_eq_true (by omega:0<(loOf ls k).length),Bool.true_and] at q'
    exact ⟨by omega,by rw [Int.toNat_natCast];exact q'⟩
   ·rw [if_neg g]
    rw [decide_eq_false (by omega:¬ 0<(loOf ls k).length),Bool.false_and] at q'
    exact q'
  ·intro k H' Q' hk _ s' q'
   rw [Int.zero_add]
   walk_at "gs"
   exact q'
  intro gp H3 n3
  obtain ⟨gs,hgs⟩:∃ gs,gs=(List.range cn).filter fun k=>decide (0<(loOf ls k).length) && decide (Builtin.bitAnd (c' / 2 ^ k) 1=1):=⟨_,rfl⟩
  rw [← hgs] at n3
  have hgm:∀ g∈gs,g<ls.length∧loOf ls g≠[]:=fun g hg=>by
   rw [hgs,List.mem_filter,List.mem_range,Bool.and_eq_true,decide_eq_true_iff] at hg
   exact ⟨by omega,List.length_pos_iff.mp hg.2.1⟩
  have hnd:gs.Nodup:=by rw [hgs];exact List.nodup_range.filter _
  have nmg:mp≠gp:=ne_of_none hM.lst n3.was
  have ngr:gp ∉ rs:=fun z=>by
   obtain ⟨t,ht⟩:=List.mem_iff_getElem?.mp z
   have htl:t<ls.length:=by rw [← hM.len];exact (List.getElem?_eq_some_iff.mp ht).1
   have:=hM.at_ t gp _ ht (List.getElem?_eq_getElem htl)
   rw [n3.was] at this
   cases this
  have s03:=s2.trans n3.same
  have hM3:=hM.same n3.same
  refine mid (fun σ' H'=>∃ (mq:Addr) (qs:List Addr) (ls':List (List Nat)) (w0 w4:Option V),Same H3 H'∧H mq=none∧mq ∉ qs∧gp ∉ qs∧mq≠gp∧MazeAt H' mq qs ls'∧Mz ls'∧ls'.length=cn∧(∀ k,loOf ls' k=[] ↔ loOf ls k=[])∧σ'=[w0,some (.int 14),some (.int (cn:Nat)),some (.ref mq),w4,some (.ref gp)]) ?_ ?_
  ·intro N hN
   walk_at "gs"
   by_cases hb:Builtin.bitAnd (c' / 2 ^ ((cn:Int)).toNat) 1=1
   case neg =>
    rw [if_neg hb]
    exact hN _ _ ⟨mp,rs,ls,_,_,fun _ _ e=>e,n1.was,nr,ngr,nmg,hM3,mz,hl,fun k=>Iff.rfl,rfl⟩
   rw [if_pos hb]
   refine ⟨⟨_,.of hM3.lst⟩,fun cp hcp=>comp_gen (n:=(rs.map V.ref).length) (item:=fun i=>(rs.map V.ref).getD i .non) (fun σ=>∃ v0,σ=[v0]) (fun i H4=>Same H3 H4∧∃ us:List Addr,H4 cp=some (.lst (us.map V.ref))∧us.length=i∧(∀ u∈us,u≠cp∧H3 u=none)∧∀ (j:Nat) u,us[j]? = some u→H4 u=some (.lst ((loOf ls j).reverse.map nv))) ⟨_,rfl⟩ ⟨same_upd hcp,[],upd_same,rfl,fun u hu=>by simp at hu,fun j u hu=>by simp at hu⟩ (src_list (xs:=rs.map V.ref) ?_) ?_ ?_ ?_⟩
   ·rintro i H4 _ ⟨s4,_⟩
    exact .of (s4 _ _ hM3.lst)
   ·rintro H4 ⟨s4,_⟩
    exact ⟨_,.of (s4 _ _ hM3.lst),Nat.le_refl _⟩
   ·rintro i σ4 H4 R hi ⟨v0,rfl⟩ ⟨s4,us,h4,hul,hun,hat⟩ hR
    rw [List.length_map,hM.len] at hi
    obtain ⟨r,hr1,hr2⟩:=(hM3.same s4).get hi
    have hml:=mz.len i
    have er:(rs.map V.ref).getD i .non=.ref r:=by
     rw [atI_ok .non (by omega) (by rw [List.length_map,hM.len];omega),Int.toNat_natCast] at hr1
     exact Option.some.inj hr1
    rw [er]
    walk_at "gs"
    refine ⟨_,.of hr2,fun l5 H5 n5=>?_⟩
    rw [← List.map_reverse] at n5
    have ncp:l5≠cp:=(ne_of_none h4 n5.was).symm
    refine ⟨_,n5.same _ _ h4,by rw [List.length_map];omega,hR _ _ ⟨_,rfl⟩ ⟨(s4.trans n5.same).put hcp,us ++ [l5],by rw [upd_same,List.map_append];rfl,by rw [List.length_append,hul];rfl,fun u hu=>?_,fun j u hu=>?_⟩⟩
    ·rcases List.mem_append.mp hu with z | z
     ·exact hun u z
     ·rw [List.mem_singleton] at z
      rw [z];exact ⟨ncp,s4.nil n5.was⟩
    ·by_cases hji:j<i
     ·rw [List.getElem?_append_left (by omega)] at hu
      rw [upd_ne (hun u (List.mem_of_getElem? hu)).1]
      exact n5.same _ _ (hat j u hu)
     ·have hjl:j<us.length+1:=by have:=(List.getElem?_eq_some_iff.mp hu).1;rwa [List.length_append] at this
      have hj:j=us.length:=by omega
      subst hj
      rw [List.getElem?_append_right (Nat.le_refl _),Nat.sub_self] at hu
      cases hu
      rw [upd_ne ncp,hul]
      exact n5.at_
   rintro H4 ⟨s4,us,h4,hul,hun,hat⟩
   rw [List.length_map] at hul
   refine hN _ _ ⟨cp,us,ls.map List.reverse,_,_,s4,s03.nil hcp,fun z=>(hun cp z).1 rfl,fun z=>(by have:=(hun gp z).2;rw [n3.at_] at this;cases this),(ne_of_none n3.at_ hcp).symm,⟨h4,by rw [hul,List.length_map];exact hM.len,fun i r l hr hl=>?_⟩,mz_rev mz,by rw [List.length_map];exact hl,fun k=>by rw [lo_rev,List.reverse_eq_nil_iff],rfl⟩
   have:=hat i r hr
   rw [← lo_rev] at this
   unfold loOf at this
   rwa [List.getD_eq_getElem?_getD,hl] at this
  rintro σ4 H4 ⟨mq,qs,ls',w0,w4,s34,fmq,nmq,ngq,nmg',hM4,mz4,hl4,hlo,rfl⟩
  walk_at "gs"
  refine ⟨by show 2≤sizeLine;decide,fun tp H5 n5=>?_⟩
  exact q tp mq gp qs ls' gs H5 ((s03.trans s34).trans n5.same) n5.at_ (hM4.same n5.same) mz4 (by omega) fmq (s2.nil n3.was) nmq ngq nmg' hnd (n5.same _ _ (s34 _ _ n3.at_)) (fun g hg=>mem_high.mpr ⟨by have:=(hgm g hg).1;omega,fun z=>(hgm g hg).2 ((hlo g).mp z)⟩)
inductive Wet (lo:Nat→List Nat) (B:Nat→Prop):Nat→Prop
 | spring {p:Nat}:¬ B p→lo p=[]→Wet lo B p
 | up {p l:Nat}:¬ B p→l∈lo p→Wet lo B l→Wet lo B p
def Blk (mask:List Nat) (gs:List Nat) (k:Nat):Prop:=k∈mask∨k∈gs
structure WetAt (ls:List (List Nat)) (mask:List Nat) (gs:List Nat) (i:Nat) (ws:List Bool):Prop where
 len:ws.length=ls.length
 wet:∀ (j:Nat) b,ws[j]? = some b→(b=true ↔ j<i∧Wet (loOf ls) (Blk mask gs) j)
theorem WetAt.get {ls:List (List Nat)}{mask:List Nat}{gs:List Nat}{i:Nat}{ws:List Bool} (h:WetAt ls mask gs i ws) {j:Nat} (hj:j<ls.length):∃ b,ws[j]? = some b∧atI (ws.map V.bl) (j:Int)=some (.bl b)∧(b=true ↔ j<i∧Wet (loOf ls) (Blk mask gs) j):=by
 have hw:ws[j]? = some (ws[j]'(by rw [h.len];exact hj)):=List.getElem?_eq_getElem _
 refine ⟨_,hw,?_,h.wet j _ hw⟩
 rw [atI_ok .non (by omega) (by rw [List.length_map,h.len];omega),Int.toNat_natCast,List.getD_eq_getElem?_getD,List.getElem?_map,hw]
 rfl
theorem WetAt.skip {ls:List (List Nat)}{mask:List Nat}{gs:List Nat}{i:Nat}{ws:List Bool} (h:WetAt ls mask gs i ws) (hB:Blk mask gs i):WetAt ls mask gs (i+1) ws:=⟨h.len,fun j b hb=>by
 rw [h.wet j b hb]
 refine ⟨fun ⟨z,w⟩=>⟨by omega,w⟩,fun ⟨z,w⟩=>⟨?_,w⟩⟩
 rcases Nat.lt_or_ge j i with y | y
 ·exact y
 ·have:j=i:=by omega
  subst this
  cases w with
  | spring n _=>exact absurd hB n
  | up n _ _=>exact absurd hB n⟩
theorem WetAt.put {ls:List (List Nat)}{mask:List Nat}{gs:List Nat}{i:Nat}{ws:List Bool} (h:WetAt ls mask gs i ws) {b:Bool} (hb:b=true ↔ Wet (loOf ls) (Blk mask gs) i):WetAt ls mask gs (i+1) (ws.set i b):=⟨by rw [List.length_set];exact h.len,fun j c hc=>by
 rw [List.getElem?_set] at hc
 by_cases e:i=j
 ·subst e
  rw [if_pos rfl] at hc
  split at hc
  ·cases hc
   rw [hb]
   exact ⟨fun z=>⟨by omega,z⟩,fun z=>z.2⟩
  ·cases hc
 ·rw [if_neg e] at hc
  rw [h.wet j c hc]
  exact ⟨fun z=>⟨by omega,z.2⟩,fun z=>⟨by omega,z.2⟩⟩⟩
theorem wet_iff {lo:Nat→List Nat}{B:Nat→Prop}{p:Nat} (hB:¬ B p):Wet lo B p ↔ lo p=[]∨∃ l∈lo p,Wet lo B l:=by
 constructor
 ·intro h
  cases h with
  | spring _ z=>exact .inl z
  | up _ z w=>exact .inr ⟨_,z,w⟩
 ·rintro (z | ⟨l,z,w⟩)
  ·exact .spring hB z
  ·exact .up hB z w
theorem at_bl {ws:List Bool}{j:Nat}{b:Bool} (h:ws[j]? = some b):atI (ws.map V.bl) (j:Int)=some (.bl b):=by
 have hj:=(List.getElem?_eq_some_iff.mp h).1
 rw [atI_ok .non (by omega) (by rw [List.length_map];omega),Int.toNat_natCast,List.getD_eq_getElem?_getD,List.getElem?_map,h]
 rfl
theorem in_nv {xs:List Nat}{x:Nat}:decide ((x:Int)∈natI xs)=decide (x∈xs):=by
  rw [decide_eq_decide]
  unfold natI
  rw [List.mem_map]
  exact ⟨fun ⟨y, hy, e⟩ => by have : y = x := by omega
                              rw [← this];exact hy,fun h=>⟨x,h,rfl⟩⟩
def sp_law_leaks (_:PySem.W.Frag):Sp:=fun vs H Q _=>∃ (mp gp tp:Addr) (rs:List Addr) (ls:List (List Nat)) (gs:List Nat) (mask:List Nat),vs=[.ref mp,.ref gp,.ref tp]∧H tp=some (.lst (mask.map nv))∧MazeAt H mp rs ls∧Mz ls∧ls.length≤1200∧H gp=some (.lst (gs.map nv))∧(∀ g∈gs,g<ls.length) ∧
 ∀ b H',Same H H'→(b=true ↔ ∃ g∈gs,∃ l∈loOf ls g,Wet (loOf ls) (Blk mask gs) l)→Q (.bl b) H'
def rd_law_leaks (K:PySem.W.Frag):TS:=(tSeq (tAsg (tComp (iList K (cVar 0)) 1 [] (gName 0) tTrue (tC (.bl false))) (gName 3))
  (tSeq (tFor (iRng1 (tCons (tCB (cLen K) (tCons (cVar 0) tNil)) tNil)) (gName 4) (tIfS (tAnd (cTst (tOp (cIn K true) (cVar 4) (cVar 2))) (cTst (tOp (cIn K true) (cVar 4) (cVar 1)))) (tSeq (tAsg (tOp (cEq K) (tCB (cLen K) (tCons (tOp (cIx K) (cVar 0) (cVar 4)) tNil)) (tC (.int 0))) (gSub (cVar 3) (cVar 4) rSetL))
  (tFor (iList K (tOp (cIx K) (cVar 0) (cVar 4))) (gName 5) (tAsg (cOrV (tOp (cIx K) (cVar 3) (cVar 4)) (tOp (cIx K) (cVar 3) (cVar 5))) (gSub (cVar 3) (cVar 4) rSetL)))) tNext))
  (tSeq (tFor (iList K (cVar 1)) (gName 6) (tFor (iList K (tOp (cIx K) (cVar 0) (cVar 6))) (gName 5) (tIfS (cTru K (tOp (cIx K) (cVar 3) (cVar 5))) (tRet (tC (.bl true))) tNext)))
  (tRet (tC (.bl false))))))
theorem tm_law_leaks (T:Txt K mg a) {cdv:Value}{A:Around}{outer:List Env}{s:Shared}{H:Hp}{E:XK} (hr:Room 0 (A.deeper (envOfC "_law_leaks" (defScope s_law_leaks) s.heap.objs.size a.f_law_leaks cdv))) :
  PSs (cxOf CX0 P w K mg base N_law_leaks "_law_leaks" (defScope s_law_leaks) a.f_law_leaks cdv A outer s H E).nox (defBody s_law_leaks) (rd_law_leaks K) :=
 (pss_cons (ps_setC (i:=3) (N:=["_law_place"]) (k:=1) (sel:=[]) (CScope.of (defScope s_law_leaks).names (by decide +kernel)) (CNames.of N_law_leaks (by decide +kernel)) rfl (pi_list (cv 0)) (fun _ _ _ _=>(pg_name (i:=0) (show List.Nodup (["_law_place"]:List Str) by decide +kernel) rfl (by walk_at "o"))) (fun _ _ _ _=>pts_nil) (fun _ _ _ _=>pe_bl) sc_law_leaks.nd rfl (by walk_at "o") rfl)
   (pss_cons (ps_for PassesOwn.never rfl (pi_range1 rfl T.no_range (pa_cons (pe_callB c_len (by rfl) T.no_len PySem.boot_len (pa_cons (cv 0) pa_nil)) pa_nil)) (pg_name (i:=4) sc_law_leaks.nd rfl (by walk_at "o")) (pss_one (ps_if (PW.pt (pw_and (t_cmp o_notin (cv 4) (cv 2) (by with_unfolding_all rfl)) (pw_and1 (t_cmp o_notin (cv 4) (cv 1) (by with_unfolding_all rfl))))) (pss_cons (ps_asg (pe_cmpR (o_eq (hr8 hr)) (pe_callB c_len (by rfl) T.no_len PySem.boot_len (pa_cons (pe_ix i_seq (cv 0) (cv 4) (fun _ _=>rfl)) pa_nil)) pe_int (nomark _)) (pg_sub (cv 3) (cv 4) set_list))
   (pss_one (ps_for PassesOwn.never rfl (pi_list (pe_ix i_seq (cv 0) (cv 4) (fun _ _=>rfl))) (pg_name (i:=5) sc_law_leaks.nd rfl (by walk_at "o")) (pss_one (ps_asg (e_or (pe_ix i_seq (cv 3) (cv 4) (fun _ _=>rfl)) (pe_one (pe_ix i_seq (cv 3) (cv 5) (fun _ _=>rfl)))) (pg_sub (cv 3) (cv 4) set_list)))))) pss_nil)))
   (pss_cons (ps_for PassesOwn.never rfl (pi_list (cv 1)) (pg_name (i:=6) sc_law_leaks.nd rfl (by walk_at "o")) (pss_one (ps_for PassesOwn.never rfl (pi_list (pe_ix i_seq (cv 0) (cv 6) (fun _ _=>rfl))) (pg_name (i:=5) sc_law_leaks.nd rfl (by walk_at "o")) (pss_one (ps_if (pt_tru (pe_ix i_seq (cv 3) (cv 5) (fun _ _=>rfl))) (pss_one (ps_ret pe_bl)) pss_nil)))))
   (pss_one (ps_ret pe_bl)))))
theorem ok_law_leaks (T:Txt K mg a):FnOk P w K mg base CX0 1 a.f_law_leaks a.d_law_leaks ["_law_maze_here","_law_goals_here","_law_stops"] (sp_law_leaks K):=by
 refine T.fn_law_leaks.ok sc_law_leaks (fun vs H Q E h=>?_) (fun cdv A outer s H vs Q E hr h=>⟨_,tm_law_leaks T hr,?_⟩)
 ·obtain ⟨mp,gp,tp,rs,ls,gs,mask,rfl,_⟩:=h;rfl
 ·obtain ⟨mp,gp,tp,rs,ls,gs,mask,rfl,hT,hM,mz,hn,hG,hgb,q⟩:=h
  show rd_law_leaks K _ [some (.ref mp),some (.ref gp),some (.ref tp),none,none,none,none] H
  unfold rd_law_leaks
  have big:(20000:Nat)≤sizeLine:=by decide
  walk_at "gs"
  refine ⟨⟨_,.of hM.lst⟩,compG_list (fun _=>.bl false) (.of hM.lst) rfl (by rw [List.length_map,hM.len];omega) ?_ ?_⟩
  ·intro y H' Q' hy s' q'
   walk_at "gs"
   exact q'
  intro wp H1 n1
  have e1:(rs.map V.ref).map (fun _=>V.bl false)=((List.replicate ls.length false).map V.bl):=by
   rw [List.map_map,List.map_replicate,← hM.len,← List.map_const']
   rfl
  rw [e1] at n1
  have hM1:=hM.same n1.same
  have hG1:=n1.same _ _ hG
  have w0:WetAt ls mask gs 0 (List.replicate ls.length false):=⟨List.length_replicate ..,fun j b hb=>by
   have:=List.mem_of_getElem? hb
   rw [(List.mem_replicate.mp this).2]
   exact ⟨fun z=>(nomatch z),fun z=>absurd z.1 (by omega)⟩⟩
  walk_at "gs"
  refine .inl ⟨_,.inl (.of hM1.lst),by rw [List.length_map,hM.len];omega,by rw [List.length_map,hM.len];omega,?_⟩
  rw [List.length_map,hM.len,Int.toNat_natCast]
  refine for_rngG (fun i σ H2=>Same H H2∧∃ (ws:List Bool) (v4 v5:Option V),H2 wp=some (.lst (ws.map V.bl))∧WetAt ls mask gs i ws∧σ=[some (.ref mp),some (.ref gp),some (.ref tp),some (.ref wp),v4,v5,none]) ⟨n1.same,_,_,_,n1.at_,w0,rfl⟩ ?_ ?_
  ·rintro i σ H2 hi ⟨s2,ws,v4,v5,h2,hw,rfl⟩
   have hM2:=hM.same s2
   obtain ⟨r,hr1,hr2⟩:=hM2.get hi
   have hG2:=s2 _ _ hG
   have hml:=mz.len i
   have hT2:=s2 _ _ hT
   rw [← natI_nv] at hT2
   walk_at "gs"
   rw [Int.zero_add]
   refine ⟨_,.inl (.of hT2),rfl,flat_ints _,?_⟩
   rw [inV_ints,in_nv]
   by_cases hb:i∈mask
   case pos =>
    rw [decide_eq_true hb]
    walk_at "go"
    exact ⟨s2,ws,_,_,h2,hw.skip (.inl hb),rfl⟩
   rw [decide_eq_false hb]
   walk_at "gs"
   refine ⟨_,.inl (.of (by rw [← natI_nv] at hG2;exact hG2)),rfl,flat_ints _,?_⟩
   rw [inV_ints]
   by_cases hin:(i:Int)∈natI gs
   case pos =>
    rw [decide_eq_true hin]
    walk_at "go"
    obtain ⟨x,hx,hxe⟩:=List.mem_map.mp hin
    have hxi:x=i:=by omega
    exact ⟨s2,ws,_,_,h2,hw.skip (.inr (hxi ▸ hx)),rfl⟩
   rw [decide_eq_false hin]
   have nB:¬ Blk mask gs i:=fun z=>z.elim hb fun z=>hin (List.mem_map.mpr ⟨i,z,rfl⟩)
   walk_at "gs"
   refine ⟨_,_,.inl (.of hM2.lst),hr1,?_⟩
   refine .inl ⟨_,.inl (.of hr2),?_⟩
   rw [List.length_map]
   have hwl:i<ws.length:=by rw [hw.len];exact hi
   refine ⟨wp,_,_,i,rfl,rfl,h2,by unfold ixN;rw [if_pos (by omega),if_pos (by rw [List.length_map];omega),Int.toNat_natCast],?_⟩
   rw [← List.map_set]
   have fw:H wp=none:=n1.was
   have neM:∀ {b:Addr}{o:HO},H b=some o→b≠wp:=fun e=>ne_of_none e fw
   generalize hH3:upd H2 wp (.lst ((ws.set i (decide (((loOf ls i).length:Int)=0))).map V.bl))=H3
   have s3:Same H H3:=by rw [← hH3];exact s2.put fw
   have h3:H3 wp=some (.lst ((ws.set i (decide (((loOf ls i).length:Int)=0))).map V.bl)):=by rw [← hH3];exact upd_same
   obtain ⟨r,hr1,hr0⟩:=hM.get hi
   have hr2:=s3 _ _ hr0
   have nwr:r≠wp:=neM hr0
   refine ⟨_,_,.inl (.of (s3 _ _ hM.lst)),hr1,?_⟩
   refine ⟨⟨_,.of hr2⟩,for_listG (xs:=(loOf ls i).map nv) (fun j σ H4=>Same H H4∧H4 r=some (.lst ((loOf ls i).map nv))∧∃ (b:Bool) (v5:Option V),H4 wp=some (.lst ((ws.set i b).map V.bl))∧(b=true ↔ loOf ls i=[]∨∃ l∈(loOf ls i).take j,Wet (loOf ls) (Blk mask gs) l)∧σ=[some (.ref mp),some (.ref gp),some (.ref tp),some (.ref wp),some (.int (i:Nat)),v5,none]) ⟨s3,hr2,_,_,h3,?_,rfl⟩ ?_ ?_ ?_⟩
   ·rw [decide_eq_true_iff]
    constructor
    ·intro z
     exact .inl (List.length_eq_zero_iff.mp (by omega))
    ·rintro (z | ⟨l,hl,_⟩)
     ·rw [z];rfl
     ·simp at hl
   ·rintro j σ H4 _ ⟨_,h4,_⟩
    exact .of h4
   ·rintro j v σ H4 hv ⟨s4,hr4,b,v5,h4,hb4,rfl⟩
    obtain ⟨l,hl,rfl⟩:=get_map_of hv
    have hlm:=List.mem_of_getElem? hl
    have hli:=mz.lt _ _ hlm
    have gi:(ws.set i b)[i]? = some b:=by rw [List.getElem?_set,if_pos rfl,if_pos hwl]
    obtain ⟨c,gc,_,hc⟩:=hw.get (j:=l) (by omega)
    have gl:(ws.set i b)[l]? = some c:=by rw [List.getElem?_set,if_neg (by omega)];exact gc
    have hset:∀ d:Bool,((ws.set i b).map V.bl).set i (.bl d)=(ws.set i d).map V.bl:=fun d=>by rw [← List.map_set,List.set_set]
    have hnew:∀ d:Bool,(d=true ↔ b=true∨c=true)→(d=true ↔ loOf ls i=[]∨∃ l∈(loOf ls i).take (j+1),Wet (loOf ls) (Blk mask gs) l):=fun d hd=>by
     rw [hd,hb4,hc,List.take_add_one,hl]
     constructor
     ·rintro ((z | ⟨x,hx,w⟩) | ⟨_,w⟩)
      ·exact .inl z
      ·exact .inr ⟨x,List.mem_append_left _ hx,w⟩
      ·exact .inr ⟨l,List.mem_append_right _ (by simp),w⟩
     ·rintro (z | ⟨x,hx,w⟩)
      ·exact .inl (.inl z)
      ·rcases List.mem_append.mp hx with y | y
       ·exact .inl (.inr ⟨x,y,w⟩)
       ·simp only [Option.toList_some,List.mem_singleton] at y
        subst y
        exact .inr ⟨hli,w⟩
    have hix:ixN ((ws.set i b).map V.bl).length (i:Int)=some i:=by unfold ixN;rw [if_pos (by omega),if_pos (by rw [List.length_map,List.length_set];omega),Int.toNat_natCast]
    rw [show nv l=V.int (l:Nat) from rfl]
    walk_at "gs"
    refine ⟨_,_,.inl (.of h4),at_bl gi,?_⟩
    cases b with
    | true =>
     refine ⟨wp,_,_,i,rfl,rfl,h4,hix,s4.put fw,by rw [upd_ne nwr];exact hr4,true,_,by rw [upd_same,hset],hnew true (by simp),rfl⟩
    | false =>
     refine ⟨_,_,.inl (.of h4),at_bl gl,wp,_,_,i,rfl,rfl,h4,hix,s4.put fw,by rw [upd_ne nwr];exact hr4,c,_,by rw [upd_same,hset],hnew c (by simp),rfl⟩
   ·rintro σ H4 ⟨s4,hr4,b,v5,h4,hb4,rfl⟩
    rw [List.length_map,List.take_length] at hb4
    exact ⟨s4,ws.set i b,_,_,h4,hw.put (hb4.trans (wet_iff nB).symm),rfl⟩
  rintro σ H2 ⟨s2,ws,v4,v5,h2,hw,rfl⟩
  have hM2:=hM.same s2
  have hG2:=s2 _ _ hG
  walk_at "gs"
  refine ⟨⟨_,.of hG2⟩,for_listG (xs:=gs.map nv) (fun i σ H3=>H3=H2∧(∀ g∈gs.take i,∀ l∈loOf ls g,¬ Wet (loOf ls) (Blk mask gs) l)∧∃ v4 v5 v6,σ=[some (.ref mp),some (.ref gp),some (.ref tp),some (.ref wp),v4,v5,v6]) ⟨rfl,fun g hg=>by simp at hg,_,_,_,rfl⟩ ?_ ?_ ?_⟩
  ·rintro i σ H3 _ ⟨rfl,_⟩
   exact .of hG2
  ·rintro i v σ H3 hv ⟨rfl,hno,v4,v5,v6,rfl⟩
   obtain ⟨g,hg,rfl⟩:=get_map_of hv
   have hgm:=List.mem_of_getElem? hg
   obtain ⟨r,hr1,hr2⟩:=hM2.get (hgb g hgm)
   rw [show nv g=V.int (g:Nat) from rfl]
   walk_at "gs"
   refine ⟨_,_,.inl (.of hM2.lst),hr1,?_⟩
   refine ⟨⟨_,.of hr2⟩,for_listG (xs:=(loOf ls g).map nv) (fun j σ H4=>H4=H3∧(∀ l∈(loOf ls g).take j,¬ Wet (loOf ls) (Blk mask gs) l)∧∃ v5,σ=[some (.ref mp),some (.ref gp),some (.ref tp),some (.ref wp),v4,v5,some (.int (g:Nat))]) ⟨rfl,fun l hl=>by simp at hl,_,rfl⟩ ?_ ?_ ?_⟩
   ·rintro j σ H4 _ ⟨rfl,_⟩
    exact .of hr2
   ·rintro j v σ H4 hv2 ⟨rfl,hno2,v5,rfl⟩
    obtain ⟨l,hl,rfl⟩:=get_map_of hv2
    have hlm:=List.mem_of_getElem? hl
    have hlb:l<ls.length:=by have:=mz.lt _ _ hlm;have:=hgb g hgm;omega
    obtain ⟨b,_,hb1,hb2⟩:=hw.get hlb
    rw [show nv l=V.int (l:Nat) from rfl]
    walk_at "gs"
    refine ⟨_,_,.inl (.of h2),hb1,?_⟩
    cases b with
    | true =>
     refine q true H4 s2 ⟨fun _=>⟨g,hgm,l,hlm,(hb2.mp rfl).2⟩,fun _=>rfl⟩
    | false =>
     refine ⟨by trivial,fun x hx=>?_,_,rfl⟩
     rw [List.take_add_one,hl] at hx
     rcases List.mem_append.mp hx with z | z
     ·exact hno2 x z
     ·simp only [Option.toList_some,List.mem_singleton] at z
      subst z
      exact fun w=>absurd (hb2.mpr ⟨hlb,w⟩) (by simp)
   ·rintro σ H4 ⟨rfl,hno2,v5,rfl⟩
    rw [List.length_map,List.take_length] at hno2
    refine ⟨rfl,fun x hx=>?_,_,_,_,rfl⟩
    rw [List.take_add_one,hg] at hx
    rcases List.mem_append.mp hx with z | z
    ·exact hno x z
    ·simp only [Option.toList_some,List.mem_singleton] at z
     subst z
     exact hno2
  ·rintro σ H3 ⟨rfl,hno,v4,v5,v6,rfl⟩
   rw [List.length_map,List.take_length] at hno
   walk_at "gs"
   refine q false H3 s2 ⟨fun z=>(nomatch z),fun ⟨g,hg,l,hl,hw'⟩=>absurd hw' (hno g hg l hl)⟩
theorem at_nvK {xs:List Nat}{i x:Nat} (h:xs[i]? = some x):atI (xs.map nv) (i:Int)=some (.int (x:Nat)):=by
 have hi:=(List.getElem?_eq_some_iff.mp h).1
 rw [atI_ok .non (by omega) (by rw [List.length_map];omega),Int.toNat_natCast,List.getD_eq_getElem?_getD,List.getElem?_map,h]
 rfl
def sp_law_are_places (_:PySem.W.Frag):Sp:=fun vs H Q _=>∃ (tp mp gp:Addr) (rs:List Addr) (ls:List (List Nat)) (gs ts:List Nat),vs=[.ref tp,.ref mp,.ref gp]∧H tp=some (.lst (ts.map nv))∧MazeAt H mp rs ls∧H gp=some (.lst (gs.map nv))∧ts.Pairwise (· < ·)∧(∀ t∈ts,t<ls.length∧t ∉ gs)∧ls.length≤1200∧Q (.bl true) H
def rd_law_are_places (K:PySem.W.Frag):TS:=(tSeq (tIfS (tNot (cTru K (tCB (cIsinst K) (tCons (cVar 0) (tCons (tC (.ty "list")) tNil))))) (tRet (tC (.bl false))) tNext)
  (tSeq (tFor (iRng1 (tCons (tCB (cLen K) (tCons (cVar 0) tNil)) tNil)) (gName 3) (tSeq (tIfS (tOr (tNot (cTru K (tCB (cIsinst K) (tCons (tOp (cIx K) (cVar 0) (cVar 3)) (tCons (tC (.ty "int")) tNil))))) (tOr (cTru K (tCB (cIsinst K) (tCons (tOp (cIx K) (cVar 0) (cVar 3)) (tCons (tC (.ty "bool")) tNil)))) (tNot (cTst (cChain (cI2 fun i j=>.bl (decide (i≤j))) (cI2 fun i j=>.bl (decide (i<j))) (tC (.int 0)) (tOp (cIx K) (cVar 0) (cVar 3)) (tCB (cLen K) (tCons (cVar 1) tNil))))))) (tRet (tC (.bl false))) tNext)
  (tIfS (tOr (cTst (tOp (cIn K false) (tOp (cIx K) (cVar 0) (cVar 3)) (cVar 2))) (tAnd (cTst (tOp (cI2 fun i j=>.bl (decide (j<i))) (cVar 3) (tC (.int 0)))) (tNot (cTst (tOp (cI2 fun i j=>.bl (decide (i<j))) (tOp (cIx K) (cVar 0) (tOp (cI2 fun i j=>.int (i - j)) (cVar 3) (tC (.int 1)))) (tOp (cIx K) (cVar 0) (cVar 3))))))) (tRet (tC (.bl false))) tNext)))
  (tRet (tC (.bl true)))))
theorem tm_law_are_places (T:Txt K mg a) {cdv:Value}{A:Around}{outer:List Env}{s:Shared}{H:Hp}{E:XK} (hr:Room 0 (A.deeper (envOfC "_law_are_places" (defScope s_law_are_places) s.heap.objs.size a.f_law_are_places cdv))) :
  PSs (cxOf CX0 P w K mg base N_law_are_places "_law_are_places" (defScope s_law_are_places) a.f_law_are_places cdv A outer s H E).nox (defBody s_law_are_places) (rd_law_are_places K) :=
 (pss_cons (ps_if (pt_not (pt_tru (pe_callB c_isinst (by rfl) T.no_isinstance PyProof.Rows.boot_isinstance (pa_cons (cv 0) (pa_cons (pe_bltn (v:=.ty "list") rfl T.no_list PyProof.Rows.boot_list rfl) pa_nil))))) (pss_one (ps_ret pe_bl)) pss_nil)
   (pss_cons (ps_for PassesOwn.never rfl (pi_range1 rfl T.no_range (pa_cons (pe_callB c_len (by rfl) T.no_len PySem.boot_len (pa_cons (cv 0) pa_nil)) pa_nil)) (pg_name (i:=3) sc_law_are_places.nd rfl (by walk_at "o")) (pss_cons (ps_if (PW.pt (pw_or (pt_not (pt_tru (pe_callB c_isinst (by rfl) T.no_isinstance PyProof.Rows.boot_isinstance (pa_cons (pe_ix i_seq (cv 0) (cv 3) (fun _ _=>rfl)) (pa_cons (pe_bltn (v:=.ty "int") rfl T.no_int PyProof.Rows.boot_int rfl) pa_nil))))) (pw_or (pt_tru (pe_callB c_isinst (by rfl) T.no_isinstance PyProof.Rows.boot_isinstance (pa_cons (pe_ix i_seq (cv 0) (cv 3) (fun _ _=>rfl)) (pa_cons (pe_bltn (v:=.ty "bool") rfl T.no_bool PyProof.Rows.boot_bool rfl) pa_nil)))) (pw_or1 (pt_not (t_chain o_le o_lt pe_int (pe_ix i_seq (cv 0) (cv 3) (fun _ _=>rfl)) (pe_callB c_len (by rfl) T.no_len PySem.boot_len (pa_cons (cv 1) pa_nil)))))))) (pss_one (ps_ret pe_bl)) pss_nil)
   (pss_one (ps_if (PW.pt (pw_or (t_cmp o_in (pe_ix i_seq (cv 0) (cv 3) (fun _ _=>rfl)) (cv 2) (by with_unfolding_all rfl)) (pw_or1 (PW.pt (pw_and (t_cmp o_gt (cv 3) pe_int (nomark _)) (pw_and1 (pt_not (t_cmp o_lt (pe_ix i_seq (cv 0) (pe_op o_sub (cv 3) pe_int) (fun _ _=>rfl)) (pe_ix i_seq (cv 0) (cv 3) (fun _ _=>rfl)) (nomark _))))))))) (pss_one (ps_ret pe_bl)) pss_nil))))
   (pss_one (ps_ret pe_bl))))
theorem ok_law_are_places (T:Txt K mg a):FnOk P w K mg base CX0 1 a.f_law_are_places a.d_law_are_places ["_law_stops","_law_maze_here","_law_goals_here"] (sp_law_are_places K):=by
 refine T.fn_law_are_places.ok sc_law_are_places (fun vs H Q E h=>?_) (fun cdv A outer s H vs Q E hr h=>⟨_,tm_law_are_places T hr,?_⟩)
 ·obtain ⟨tp,mp,gp,rs,ls,gs,ts,rfl,_⟩:=h;rfl
 ·obtain ⟨tp,mp,gp,rs,ls,gs,ts,rfl,hT,hM,hG,ris,hts,hn,q⟩:=h
  show rd_law_are_places K _ [some (.ref tp),some (.ref mp),some (.ref gp),none] H
  unfold rd_law_are_places
  have big:(200000:Nat)≤sizeLine:=by decide
  have htl:ts.length≤ls.length:=nodup_lt (lt_nodup ris) fun t ht=>(hts t ht).1
  walk_at "gs"
  refine ⟨_,true,.lst hT,rfl,?_⟩
  walk_at "gs"
  refine .inl ⟨_,.inl (.of hT),?_⟩
  rw [List.length_map]
  walk_at "gs"
  rw [Int.toNat_natCast]
  have hG':=hG
  rw [← natI_nv] at hG'
  refine for_rngG (fun i σ H2=>H2=H∧∃ v3:Option V,σ=[some (.ref tp),some (.ref mp),some (.ref gp),v3]) ⟨rfl,_,rfl⟩ ?_ ?_
  ·rintro i σ H2 hi ⟨rfl,v3,rfl⟩
   obtain ⟨x,hx⟩:∃ x,ts[i]? = some x:=⟨_,List.getElem?_eq_getElem hi⟩
   obtain ⟨hxb,hxg⟩:=hts x (List.mem_of_getElem? hx)
   have hat:=at_nvK hx
   walk_at "gs"
   rw [Int.zero_add]
   refine ⟨_,_,.inl (.of hT),hat,?_⟩
   refine ⟨_,true,.int _,rfl,?_⟩
   rw [if_neg (by simp)]
   refine ⟨_,_,.inl (.of hT),hat,_,false,.int _,rfl,?_⟩
   rw [if_neg (by simp)]
   refine ⟨_,_,.inl (.of hT),hat,?_⟩
   walk_at "gs"
   rw [if_pos (by omega)]
   refine .inl ⟨_,.inl (.of hM.lst),?_⟩
   rw [List.length_map,hM.len,if_neg (by omega)]
   refine ⟨_,_,.inl (.of hT),hat,_,.inl (.of hG'),rfl,flat_ints _,?_⟩
   rw [inV_ints,in_nv,decide_eq_false hxg,if_neg (by simp)]
   by_cases hi0:i=0
   ·rw [if_neg (by omega)]
    exact ⟨trivial,_,rfl⟩
   rw [if_pos (by omega),show (i:Int) - 1=((i - 1:Nat):Int) by omega]
   obtain ⟨y,hy⟩:∃ y,ts[i - 1]? = some y:=⟨_,List.getElem?_eq_getElem (by omega)⟩
   have hlt:y<x:=by
    obtain ⟨a1,rfl⟩:=List.getElem?_eq_some_iff.mp hx
    obtain ⟨b1,rfl⟩:=List.getElem?_eq_some_iff.mp hy
    exact List.pairwise_iff_getElem.mp ris (i - 1) i b1 a1 (by omega)
   refine ⟨_,_,.inl (.of hT),at_nvK hy,_,_,.inl (.of hT),hat,?_⟩
   show if ¬ ((y:Int)<(x:Int)) then _ else _
   rw [if_neg (by omega)]
   exact ⟨trivial,_,rfl⟩
  ·rintro σ H2 ⟨rfl,v3,rfl⟩
   walk_at "gs"
   exact q
theorem told_le {ls:List (List Nat)}{gs:List Nat}{as as':MZ.Cs}{ss ss' es:List Nat}{cs:MZ.Cs} (F:MZ.Flow (loOf ls) (goalOf gs) (MZ.cmOf as)) (mz:Mz ls) (bd:∀ p∈MZ.keys as,p<ls.length) (nd:ss.Nodup) (mem:∀ t,t∈ss ↔ loOf ls t=[]∧MZ.cmOf as t≠none)
  (F':MZ.Flow (loOf ls) (goalOf gs) (MZ.cmOf as')) (bd':∀ p∈MZ.keys as',p<ls.length) (nd':ss'.Nodup) (mem':∀ t,t∈ss' ↔ loOf ls t=[]∧MZ.cmOf as' t≠none) (sk:Seek ls gs as' cs []) (hp:es.Pairwise (· < ·)) (hes:∀ e,e∈es ↔ e∈MZ.keys cs∧2 * (e / 2)+1 ∉ MZ.keys cs):ss.length≤ss'.length∧es.length=ss'.length:=by
 have S:=seek_shut sk
 have ev:∀ e∈es,e=2 * (e / 2)∧MZ.Stop (fun e=>e∈MZ.keys cs) (e / 2):=fun e he=>by
  obtain ⟨a1,a2⟩:=(hes e).mp he
  have e2:e=2 * (e / 2):=by
   rcases (by omega:e=2 * (e / 2)∨e=2 * (e / 2)+1) with z | z
   ·exact z
   ·exact absurd (z ▸ a1) a2
  exact ⟨e2,by show 2 * (e / 2)∈MZ.keys cs;rw [← e2];exact a1,a2⟩
 have nB:(es.map fun e:Nat=>e / 2).Nodup:=by
  refine List.pairwise_map.mpr (hp.imp_of_mem fun {a b} ha hb hab z=>?_)
  have:=(ev a ha).1
  have:=(ev b hb).1
  omega
 have mB:∀ p,p∈(es.map fun e:Nat=>e / 2) ↔ MZ.Stop (fun e=>e∈MZ.keys cs) p:=fun p=>by
  rw [List.mem_map]
  constructor
  ·rintro ⟨e,he,rfl⟩
   exact (ev e he).2
  ·intro st
   refine ⟨2 * p,(hes _).mpr ⟨st.1,?_⟩,by omega⟩
   rw [show 2 * p / 2=p by omega]
   exact st.2
 have cnt:=MZ.stop_count S F' mz.lt (fun p hp=>bd' p (MZ.cm_some.mp hp)) nd' nB mem' mB
 rw [List.length_map] at cnt
 refine ⟨?_,cnt.symm⟩
 rw [cnt,← List.length_map (f:=fun e:Nat=>e / 2) (as:=es)]
 refine MZ.len_le (R:=fun t p=>loOf ls t=[]∧MZ.Wy (MZ.cmOf as) t p) (fun a a' b h h'=>MZ.wy_uniq F h.2 h'.2 h.1 h'.1) nd fun t ht=>?_
 obtain ⟨h1,h2⟩:=(mem t).mp ht
 obtain ⟨x,hx,hxt⟩:=MZ.wy_top F mz.lt (n:=ls.length) (fun q hq=>bd q (MZ.cm_some.mp hq)) (ls.length - t) t (Nat.le_refl _) h2
 obtain ⟨g,hg,hl⟩:=F.top x hxt
 have key:∀ {p:Nat},MZ.Wy (MZ.cmOf as) t p→2 * p∈MZ.keys cs→∃ x,MZ.Wy (MZ.cmOf as) t x∧MZ.Stop (fun e=>e∈MZ.keys cs) x:=by
  intro p h
  induction h with
  | here=>exact fun hk=>⟨_,.here,hk,fun z=>S.dry _ z h1⟩
  | @up p q h hp ih =>
   intro hk
   by_cases hf:2 * q+1∈MZ.keys cs
   ·exact ih (S.low hf (F.up _ _ hp).1)
   ·exact ⟨q,h.up hp,hk,hf⟩
 obtain ⟨y,hy,st⟩:=key hx (S.all g x hg hl)
 exact ⟨y,(mB y).mpr st,h1,hy⟩
theorem told_count {ls:List (List Nat)}{gs:List Nat}{most:Nat}{H H':Hp}{wl wl':Addr}{v v':V}{us us':List Addr}{ss ss':List Nat}{ws ws':List (List Nat)}{as as':MZ.Cs} (h:Told ls gs most H wl v us ss ws as) (h':Told ls gs most H' wl' v' us' ss' ws' as') (mz:Mz ls):ws.length=ws'.length:=by
 rw [h.len,h'.len]
 have nd:=lt_nodup h.ris
 have nd':=lt_nodup h'.ris
 rcases h.rest with ⟨_,z⟩ | ⟨_,es,cs,_,_,_,_,sk,hp,hes,z⟩
 ·rcases h'.rest with ⟨_,z'⟩ | ⟨_,es',cs',_,_,_,_,sk',hp',hes',z'⟩
  ·omega
  ·have:=(told_le h.flow mz h.bd nd h.mem h'.flow h'.bd nd' h'.mem sk' hp' hes').1
   omega
 ·have a:=(told_le h'.flow mz h'.bd nd' h'.mem h.flow h.bd nd h.mem sk hp hes).1
  rcases h'.rest with ⟨_,z'⟩ | ⟨_,es',cs',_,_,_,_,sk',hp',hes',z'⟩
  ·omega
  ·have:=(told_le h.flow mz h.bd nd h.mem h'.flow h'.bd nd' h'.mem sk' hp' hes').1
   omega
theorem wet_shut {lo:Nat→List Nat}{goal:Nat→Prop}{ab:MZ.Ab}{Kp:Nat→Prop} (S:MZ.Shut lo goal ab Kp) {B:Nat→Prop} (hB:∀ p,MZ.Stop Kp p→B p) {x:Nat} (h:Wet lo B x):¬ Kp (2 * x):=by
 induction h with
 | spring nb hl =>
  intro hk
  refine nb (hB _ ⟨hk,fun z=>S.dry _ z hl⟩)
 | up nb hl _ ih =>
  intro hk
  exact nb (hB _ ⟨hk,fun z=>ih (S.low z hl)⟩)
theorem told_stops {ls:List (List Nat)}{gs:List Nat}{as:MZ.Cs}{es:List Nat}{cs:MZ.Cs} (F:MZ.Flow (loOf ls) (goalOf gs) (MZ.cmOf as)) (bd:∀ p∈MZ.keys as,p<ls.length) (sk:Seek ls gs as cs []) (hp:es.Pairwise (· < ·)) (hes:∀ e,e∈es ↔ e∈MZ.keys cs∧2 * (e / 2)+1 ∉ MZ.keys cs) :
  (es.map fun e:Nat=>e / 2).Pairwise (· < ·)∧(∀ t∈(es.map fun e:Nat=>e / 2),t<ls.length∧t ∉ gs)∧¬ ∃ g∈gs,∃ l∈loOf ls g,Wet (loOf ls) (Blk (es.map fun e:Nat=>e / 2) gs) l:=by
 have S:=seek_shut sk
 have ev:∀ e∈es,e=2 * (e / 2)∧MZ.Stop (fun e=>e∈MZ.keys cs) (e / 2):=fun e he=>by
  obtain ⟨a1,a2⟩:=(hes e).mp he
  have e2:e=2 * (e / 2):=by
   rcases (by omega:e=2 * (e / 2)∨e=2 * (e / 2)+1) with z | z
   ·exact z
   ·exact absurd (z ▸ a1) a2
  exact ⟨e2,by show 2 * (e / 2)∈MZ.keys cs;rw [← e2];exact a1,a2⟩
 refine ⟨List.pairwise_map.mpr (hp.imp_of_mem fun {a b} ha hb hab=>?_),fun t ht=>?_,fun ⟨g,hg,l,hl,w⟩=>?_⟩
 ·have:=(ev a ha).1
  have:=(ev b hb).1
  omega
 ·obtain ⟨e,he,rfl⟩:=List.mem_map.mp ht
  have hd:=MZ.stop_dom S (ev e he).2
  exact ⟨bd _ (MZ.cm_some.mp hd),fun z=>F.ng _ hd z⟩
 ·refine wet_shut S (fun p st=>.inl (List.mem_map.mpr ⟨2 * p,(hes _).mpr ⟨st.1,?_⟩,by omega⟩)) w (S.all g l hg hl)
  rw [show 2 * p / 2=p by omega]
  exact st.2
theorem natI_back:∀ l:List Nat,(natI l).map Int.toNat=l
 | []=>rfl
 | x :: r=>by
  show (Int.toNat (x:Int)) :: (natI r).map Int.toNat=x :: r
  rw [natI_back r,Int.toNat_natCast]
theorem natI_inj {xs ys:List Nat} (h:natI xs=natI ys):xs=ys:=by rw [← natI_back xs,h,natI_back]
theorem lo_snoc {ls:List (List Nat)}{bs:List Nat}{p:Nat} (h:p<ls.length):loOf (ls ++ [bs]) p=loOf ls p:=by
 unfold loOf
 rw [List.getD_eq_getElem?_getD,List.getD_eq_getElem?_getD,List.getElem?_append_left h]
theorem lo_last {ls:List (List Nat)}{bs:List Nat}:loOf (ls ++ [bs]) ls.length=bs:=by
 unfold loOf
 rw [List.getD_eq_getElem?_getD,List.getElem?_append_right (Nat.le_refl _),Nat.sub_self]
 rfl
theorem MazeAt.fresh {H:Hp}{mp x:Addr}{rs:List Addr}{ls:List (List Nat)} (h:MazeAt H mp rs ls) (hx:H x=none):x ∉ rs:=fun z=>by
 obtain ⟨t,ht⟩:=List.mem_iff_getElem?.mp z
 have htl:t<ls.length:=by rw [← h.len];exact (List.getElem?_eq_some_iff.mp ht).1
 have:=h.at_ t x _ ht (List.getElem?_eq_getElem htl)
 rw [hx] at this
 cases this
def sp_law (K:PySem.W.Frag):Sp:=fun vs H Q _=>∃ (p:Addr) (ns:List Int),vs=[.ref p]∧SqL K H p (ns.map V.int)∧ns.length≤63∧∀ H',Q (.bl true) H'
def rd_law (a:Adr) (K:PySem.W.Frag):TS:=(tSeq (tAsg (tCall (sp_law_digit_maze K) [] E0 (tCons (tOp (cI2c CDiv fun i j=>.int (i / j)) (tCall (sp_law_cell_at K) [] E0 (tCons (cVar 0) (tCons (tC (.int 0)) tNil))) (tC (.int 22))) (tCons (tC (.int 14)) tNil))) (gTup K 2 (gCons (gName 1) (gCons (gName 2) gNil))))
  (tMid (tIfS (cTst (tOp (cEq K) (tOp (cI2c (fun _ j=>0<j) fun i j=>.int (i % j)) (tOp (cI2c CDiv fun i j=>.int (i / j)) (tCall (sp_law_cell_at K) [] E0 (tCons (cVar 0) (tCons (tC (.int 0)) tNil))) (tC (.int 11))) (tC (.int 2))) (tC (.int 0)))) (tSeq (tAsg (tCall (sp_law_mixed K) [] E0 (tCons (cVar 0) (tCons (tC (.int 2)) (tCons (tOp (cI2c (fun _ j=>0<j) fun i j=>.int (i % j)) (tOp (cI2c CDiv fun i j=>.int (i / j)) (tCall (sp_law_cell_at K) [] E0 (tCons (cVar 0) (tCons (tC (.int 1)) tNil))) (tC (.int 1536))) (tC (.int 51))) tNil)))) (gName 3))
  (tSeq (tAsg (tCall (sp_law_maze K) [] E0 (tCons (cVar 3) (tCons (tOp (cI2c CDiv fun i j=>.int (i / j)) (tCall (sp_law_cell_at K) [] E0 (tCons (cVar 0) (tCons (tC (.int 1)) tNil))) (tC (.int 48))) tNil))) (gName 1))
  (tAsg (tCall (sp_law_goals K) [] E0 (tCons (cVar 1) (tCons (tOp (cI2c CDiv fun i j=>.int (i / j)) (tCall (sp_law_cell_at K) [] E0 (tCons (cVar 0) (tCons (tC (.int 0)) tNil))) (tC (.int 22))) tNil))) (gName 2)))) tNext)
  (tMid (tIfS (tAnd (cTst (tOp (cEq K) (tOp (cI2c (fun _ j=>0<j) fun i j=>.int (i % j)) (tOp (cI2c CDiv fun i j=>.int (i / j)) (tCall (sp_law_cell_at K) [] E0 (tCons (cVar 0) (tCons (tC (.int 1)) tNil))) (tC (.int 12))) (tC (.int 4))) (tC (.int 1)))) (cTst (tOp (cI2 fun i j=>.bl (decide (j<i))) (tCB (cLen K) (tCons (cVar 2) tNil)) (tC (.int 0))))) (tSeq (tDrop (tBM K "list" rAppend (cVar 1) (tCons (tCB (cList K) (tCons (cVar 2) tNil)) tNil)))
  (tDrop (tBM K "list" rAppend (cVar 2) (tCons (tOp (cI2 fun i j=>.int (i - j)) (tCB (cLen K) (tCons (cVar 1) tNil)) (tC (.int 1))) tNil)))) tNext)
  (tSeq (tAsg (tOp (cI2c (fun _ j=>0<j) fun i j=>.int (i % j)) (tCall (sp_law_cell_at K) [] E0 (tCons (cVar 0) (tCons (tC (.int 0)) tNil))) (tC (.int 11))) (gName 4))
  (tMid (tIfS (cTst (tOp (cEq K) (tOp (cI2c (fun _ j=>0<j) fun i j=>.int (i % j)) (tCall (sp_law_cell_at K) [] E0 (tCons (cVar 0) (tCons (tC (.int 1)) tNil))) (tC (.int 3))) (tC (.int 0)))) (tAsg (tOp (cI2c (fun _ j=>0<j) fun i j=>.int (i % j)) (tOp (cI2c CDiv fun i j=>.int (i / j)) (tCall (sp_law_cell_at K) [] E0 (tCons (cVar 0) (tCons (tC (.int 1)) tNil))) (tC (.int 3))) (tC (.int 4))) (gName 4)) tNext)
  (tSeq (tAsg (tCall (sp_apart a K) [] E0 (tCons (tCall (sp_law_copy K) [] E0 (tCons (cVar 1) tNil)) (tCons (tCB (cList K) (tCons (cVar 2) tNil)) (tCons (cVar 4) tNil)))) (gTup K 2 (gCons (gName 5) (gCons (gName 6) gNil))))
  (tSeq (tIfS (cTst (tOp (cI2 fun i j=>.bl (decide (j<i))) (tCB (cLen K) (tCons (cVar 5) tNil)) (cVar 4))) (tRet (cAndV (tOp (cEq K) (tCB (cLen K) (tCons (cVar 5) tNil)) (tOp cAdd (cVar 4) (tC (.int 1)))) (tOp cIs (cVar 6) (tC .non)))) tNext)
  (tSeq (tIfS (tOr (tNot (cTru K (tCall (sp_law_are_places K) [] E0 (tCons (cVar 6) (tCons (cVar 1) (tCons (cVar 2) tNil)))))) (cTst (tOp (cNe K) (tCB (cLen K) (tCons (cVar 6) tNil)) (tCB (cLen K) (tCons (cVar 5) tNil))))) (tRet (tC (.bl false))) tNext)
  (tSeq (tIfS (cTru K (tCall (sp_law_leaks K) [] E0 (tCons (cVar 1) (tCons (cVar 2) (tCons (cVar 6) tNil))))) (tRet (tC (.bl false))) tNext)
  (tSeq (tDrop (tBM K "list" rAppend (cVar 6) (tCons (tC (.int 0)) tNil)))
  (tSeq (tAsg (tCall (sp_apart a K) [] E0 (tCons (cVar 1) (tCons (cVar 2) (tCons (cVar 4) tNil)))) (gName 7))
  (tRet (cAndV (tCall (sp_law_are_places K) [] E0 (tCons (tOp (cIx K) (cVar 7) (tC (.int 1))) (tCons (cVar 1) (tCons (cVar 2) tNil)))) (cNotV (tCall (sp_law_leaks K) [] E0 (tCons (cVar 1) (tCons (cVar 2) (tCons (tOp (cIx K) (cVar 7) (tC (.int 1))) tNil))))))))))))))))))
theorem tm_law (T:Txt K mg a) {cdv:Value}{A:Around}{outer:List Env}{s:Shared}{H:Hp}{E:XK} (hr:Room 4 (A.deeper (envOfC "law" (defScope s_law) s.heap.objs.size a.f_law cdv))) :
  PSs (cxOf CX0 P w K mg base N_law "law" (defScope s_law) a.f_law cdv A outer s H E).nox (defBody s_law) (rd_law a K) :=
 (pss_cons (ps_asg (pe_call (ok_law_digit_maze T) (hr.mono (by decide)) rfl T.mg_law_digit_maze T.fn_law_digit_maze.kp T.bi_law_digit_maze .nil pass0 (pa_cons (pe_op o_fdiv (pe_call (ok_law_cell_at T) (hr.mono (by decide)) rfl T.mg_law_cell_at T.fn_law_cell_at.kp T.bi_law_cell_at .nil pass0 (pa_cons (cv 0) (pa_cons pe_int pa_nil))) pe_int) (pa_cons pe_int pa_nil))) (pg_tup rfl (pgs_cons (pg_name (i:=1) sc_law.nd rfl (by walk_at "o")) (pgs_cons (pg_name (i:=2) sc_law.nd rfl (by walk_at "o")) pgs_nil))))
   (pss_mid (ps_if (t_cmp (o_eq (hr8 hr)) (pe_op o_mod (pe_op o_fdiv (pe_call (ok_law_cell_at T) (hr.mono (by decide)) rfl T.mg_law_cell_at T.fn_law_cell_at.kp T.bi_law_cell_at .nil pass0 (pa_cons (cv 0) (pa_cons pe_int pa_nil))) pe_int) pe_int) pe_int (nomark _)) (pss_cons (ps_set (i:=3) sc_law.nd rfl (by walk_at "o") (pe_call (ok_law_mixed T) (hr.mono (by decide)) rfl T.mg_law_mixed T.fn_law_mixed.kp T.bi_law_mixed .nil pass0 (pa_cons (cv 0) (pa_cons pe_int (pa_cons (pe_op o_mod (pe_op o_fdiv (pe_call (ok_law_cell_at T) (hr.mono (by decide)) rfl T.mg_law_cell_at T.fn_law_cell_at.kp T.bi_law_cell_at .nil pass0 (pa_cons (cv 0) (pa_cons pe_int pa_nil))) pe_int) pe_int) pa_nil)))))
   (pss_cons (ps_set (i:=1) sc_law.nd rfl (by walk_at "o") (pe_call (ok_law_maze T) (hr.mono (by decide)) rfl T.mg_law_maze T.fn_law_maze.kp T.bi_law_maze .nil pass0 (pa_cons (cv 3) (pa_cons (pe_op o_fdiv (pe_call (ok_law_cell_at T) (hr.mono (by decide)) rfl T.mg_law_cell_at T.fn_law_cell_at.kp T.bi_law_cell_at .nil pass0 (pa_cons (cv 0) (pa_cons pe_int pa_nil))) pe_int) pa_nil))))
   (pss_one (ps_set (i:=2) sc_law.nd rfl (by walk_at "o") (pe_call (ok_law_goals T) (hr.mono (by decide)) rfl T.mg_law_goals T.fn_law_goals.kp T.bi_law_goals .nil pass0 (pa_cons (cv 1) (pa_cons (pe_op o_fdiv (pe_call (ok_law_cell_at T) (hr.mono (by decide)) rfl T.mg_law_cell_at T.fn_law_cell_at.kp T.bi_law_cell_at .nil pass0 (pa_cons (cv 0) (pa_cons pe_int pa_nil))) pe_int) pa_nil))))))) pss_nil)
   (pss_mid (ps_if (PW.pt (pw_and (t_cmp (o_eq (hr8 hr)) (pe_op o_mod (pe_op o_fdiv (pe_call (ok_law_cell_at T) (hr.mono (by decide)) rfl T.mg_law_cell_at T.fn_law_cell_at.kp T.bi_law_cell_at .nil pass0 (pa_cons (cv 0) (pa_cons pe_int pa_nil))) pe_int) pe_int) pe_int (nomark _)) (pw_and1 (t_cmp o_gt (pe_callB c_len (by rfl) T.no_len PySem.boot_len (pa_cons (cv 2) pa_nil)) pe_int (nomark _))))) (pss_cons (ps_expr (pe_bm PySem.F.plainAttrs_list PySem.F.slot_list_append PySem.F.type_list_append (mtr mt_append) (cv 1) (pa_cons (pe_callTy c_list (by rfl) T.no_list PyProof.Rows.boot_list (pa_cons (cv 2) pa_nil)) pa_nil)))
   (pss_one (ps_expr (pe_bm PySem.F.plainAttrs_list PySem.F.slot_list_append PySem.F.type_list_append (mtr mt_append) (cv 2) (pa_cons (pe_op o_sub (pe_callB c_len (by rfl) T.no_len PySem.boot_len (pa_cons (cv 1) pa_nil)) pe_int) pa_nil))))) pss_nil)
   (pss_cons (ps_set (i:=4) sc_law.nd rfl (by walk_at "o") (pe_op o_mod (pe_call (ok_law_cell_at T) (hr.mono (by decide)) rfl T.mg_law_cell_at T.fn_law_cell_at.kp T.bi_law_cell_at .nil pass0 (pa_cons (cv 0) (pa_cons pe_int pa_nil))) pe_int))
   (pss_mid (ps_if (t_cmp (o_eq (hr8 hr)) (pe_op o_mod (pe_call (ok_law_cell_at T) (hr.mono (by decide)) rfl T.mg_law_cell_at T.fn_law_cell_at.kp T.bi_law_cell_at .nil pass0 (pa_cons (cv 0) (pa_cons pe_int pa_nil))) pe_int) pe_int (nomark _)) (pss_one (ps_set (i:=4) sc_law.nd rfl (by walk_at "o") (pe_op o_mod (pe_op o_fdiv (pe_call (ok_law_cell_at T) (hr.mono (by decide)) rfl T.mg_law_cell_at T.fn_law_cell_at.kp T.bi_law_cell_at .nil pass0 (pa_cons (cv 0) (pa_cons pe_int pa_nil))) pe_int) pe_int))) pss_nil)
   (pss_cons (ps_asg (pe_call (ok_apart T) (hr.mono (by decide)) rfl T.mg_apart T.fn_apart.kp T.bi_apart .nil passN (pa_cons (pe_call (ok_law_copy T) (hr.mono (by decide)) rfl T.mg_law_copy T.fn_law_copy.kp T.bi_law_copy .nil pass0 (pa_cons (cv 1) pa_nil)) (pa_cons (pe_callTy c_list (by rfl) T.no_list PyProof.Rows.boot_list (pa_cons (cv 2) pa_nil)) (pa_cons (cv 4) pa_nil)))) (pg_tup rfl (pgs_cons (pg_name (i:=5) sc_law.nd rfl (by walk_at "o")) (pgs_cons (pg_name (i:=6) sc_law.nd rfl (by walk_at "o")) pgs_nil))))
   (pss_cons (ps_if (t_cmp o_gt (pe_callB c_len (by rfl) T.no_len PySem.boot_len (pa_cons (cv 5) pa_nil)) (cv 4) (nomark _)) (pss_one (ps_ret (e_and (pe_cmpR (o_eq (hr8 hr)) (pe_callB c_len (by rfl) T.no_len PySem.boot_len (pa_cons (cv 5) pa_nil)) (pe_op o_add (cv 4) pe_int) (nomark _)) (pe_one (pe_cmpR o_is (cv 6) pe_non (nomark _)))))) pss_nil)
   (pss_cons (ps_if (PW.pt (pw_or (pt_not (pt_tru (pe_call (ok_law_are_places T) (hr.mono (by decide)) rfl T.mg_law_are_places T.fn_law_are_places.kp T.bi_law_are_places .nil pass0 (pa_cons (cv 6) (pa_cons (cv 1) (pa_cons (cv 2) pa_nil)))))) (pw_or1 (t_cmp (o_ne (hr8 hr)) (pe_callB c_len (by rfl) T.no_len PySem.boot_len (pa_cons (cv 6) pa_nil)) (pe_callB c_len (by rfl) T.no_len PySem.boot_len (pa_cons (cv 5) pa_nil)) (nomark _))))) (pss_one (ps_ret pe_bl)) pss_nil)
   (pss_cons (ps_if (pt_tru (pe_call (ok_law_leaks T) (hr.mono (by decide)) rfl T.mg_law_leaks T.fn_law_leaks.kp T.bi_law_leaks .nil pass0 (pa_cons (cv 1) (pa_cons (cv 2) (pa_cons (cv 6) pa_nil))))) (pss_one (ps_ret pe_bl)) pss_nil)
   (pss_cons (ps_expr (pe_bm PySem.F.plainAttrs_list PySem.F.slot_list_append PySem.F.type_list_append (mtr mt_append) (cv 6) (pa_cons pe_int pa_nil)))
   (pss_cons (ps_set (i:=7) sc_law.nd rfl (by walk_at "o") (pe_call (ok_apart T) (hr.mono (by decide)) rfl T.mg_apart T.fn_apart.kp T.bi_apart .nil passN (pa_cons (cv 1) (pa_cons (cv 2) (pa_cons (cv 4) pa_nil)))))
   (pss_one (ps_ret (e_and (pe_call (ok_law_are_places T) (hr.mono (by decide)) rfl T.mg_law_are_places T.fn_law_are_places.kp T.bi_law_are_places .nil pass0 (pa_cons (pe_ix i_seq (cv 7) pe_int (fun _ _=>rfl)) (pa_cons (cv 1) (pa_cons (cv 2) pa_nil)))) (pe_one (e_not (pe_call (ok_law_leaks T) (hr.mono (by decide)) rfl T.mg_law_leaks T.fn_law_leaks.kp T.bi_law_leaks .nil pass0 (pa_cons (cv 1) (pa_cons (cv 2) (pa_cons (pe_ix i_seq (cv 7) pe_int (fun _ _=>rfl)) pa_nil))))))))))))))))))))
theorem ok_law (T:Txt K mg a):FnOk P w K mg base CX0 5 a.f_law a.d_law ["_law_script"] (sp_law K):=by
 refine T.fn_law.ok sc_law (fun vs H Q E h=>?_) (fun cdv A outer s H vs Q E hr h=>⟨_,tm_law T hr,?_⟩)
 ·obtain ⟨p,ns,rfl,_⟩:=h;rfl
 ·obtain ⟨p,ns,rfl,hS,hl,k⟩:=h
  show rd_law a K _ [some (.ref p),none,none,none,none,none,none,none] H
  unfold rd_law
  have big:(20000:Nat)≤sizeLine:=by decide
  walk_at "gs"
  refine ⟨p,ns,0,rfl,hS,fun c0=>⟨⟨by omega,by omega⟩,_,rfl,fun tp mp gp rs ls gs H1 s1 htp hM mz hn fmp fgp nmr ngr nmg hnd hG hgh=>?_⟩⟩
  refine ⟨tp,_,rfl,.of htp,rfl,_,_,rfl,_,_,rfl,rfl,?_⟩
  refine mid (fun σ' H'=>∃ (mp gp:Addr) (rs:List Addr) (ls:List (List Nat)) (gs:List Nat) (v3:Option V),Same H H'∧MazeAt H' mp rs ls∧Mz ls∧ls.length≤300∧H mp=none∧H gp=none∧mp ∉ rs∧gp ∉ rs∧mp≠gp∧gs.Nodup∧H' gp=some (.lst (gs.map nv))∧(∀ g∈gs,g∈high ls)∧σ'=[some (.ref p),some (.ref mp),some (.ref gp),v3,none,none,none,none]) ?_ ?_
  ·intro N hN
   walk_at "gs"
   refine ⟨p,ns,0,rfl,s1.seq hS,fun c=>?_⟩
   walk_at "gs"
   by_cases hc:c / 11 % 2=0
   case neg =>
    rw [if_neg hc]
    exact hN _ _ ⟨mp,gp,rs,ls,gs,_,s1,hM,mz,by omega,fmp,fgp,nmr,ngr,nmg,hnd,hG,hgh,rfl⟩
   rw [if_pos hc]
   refine ⟨p,ns,1,rfl,s1.seq hS,fun c1=>⟨⟨by omega,by omega⟩,by omega,?_⟩⟩
   obtain ⟨n,hn7⟩:=Int.eq_ofNat_of_zero_le (by omega:0≤c1 / 1536 % 51)
   rw [hn7]
   refine ⟨p,ns,n,rfl,s1.seq hS,by omega,fun l2 cs H2 s2 h2 hcl=>?_⟩
   have s02:=s1.trans s2
   refine ⟨p,ns,1,rfl,s02.seq hS,fun c2=>⟨⟨by omega,by omega⟩,l2,cs,_,rfl,h2,by omega,fun mq qs ks H3 s3 f3 nq hM3 mz3 hk2 hk=>?_⟩⟩
   have s03:=s02.trans s3
   refine ⟨p,ns,0,rfl,s03.seq hS,fun c2=>⟨⟨by omega,by omega⟩,mq,qs,ks,_,rfl,hM3,mz3,by omega,fun gq gs' H4 s4 f4 hG4 nd4 hh4=>?_⟩⟩
   exact hN _ _ ⟨mq,gq,qs,ks,gs',_,s03.trans s4,hM3.same s4,mz3,by omega,s02.nil f3,s03.nil f4,nq,hM3.fresh f4,ne_of_none hM3.lst f4,nd4,hG4,hh4,rfl⟩
  clear hM mz hn hG hgh htp fmp fgp nmr ngr nmg hnd s1
  rintro σ2 H2 ⟨mp,gp,rs,ls,gs,v3,s2,hM,mz,hn,fmp,fgp,nmr,ngr,nmg,hnd,hG,hgh,rfl⟩
  refine mid (fun σ' H'=>∃ (mp gp:Addr) (rs:List Addr) (ls:List (List Nat)) (gs:List Nat),Same H H'∧MazeAt H' mp rs ls∧Mz ls∧ls.length≤301∧H' gp=some (.lst (gs.map nv))∧gs.length≤301∧(∀ g∈gs,g∈high ls)∧σ'=[some (.ref p),some (.ref mp),some (.ref gp),v3,none,none,none,none]) ?_ ?_
  ·intro N hN
   have hgl:gs.length≤ls.length:=nodup_lt hnd fun g hg=>(mem_high.mp (hgh g hg)).1
   walk_at "gs"
   refine ⟨p,ns,1,rfl,s2.seq hS,fun c=>?_⟩
   walk_at "gs"
   have stay:N [some (.ref p),some (.ref mp),some (.ref gp),v3,none,none,none,none] H2:=hN _ _ ⟨mp,gp,rs,ls,gs,s2,hM,mz,by omega,hG,by omega,hgh,rfl⟩
   by_cases hc:c / 12 % 4=1
   case neg =>
    rw [if_neg hc]
    exact stay
   rw [if_pos hc]
   refine .inl ⟨_,.inl (.of hG),?_⟩
   rw [List.length_map]
   by_cases hg0:(0:Int)<(gs.length:Int)
   case neg =>
    rw [if_neg hg0]
    exact stay
   rw [if_pos hg0]
   refine ⟨.inl ⟨trivial,_,.of hM.lst⟩,_,.inl (.of hG),fun bp H3 n3=>?_⟩
   have nmb:mp≠bp:=ne_of_none hM.lst n3.was
   have ngb:gp≠bp:=ne_of_none hG n3.was
   have hM3:=hM.same n3.same
   refine ⟨mp,_,_,rfl,rfl,hM3.lst,by rw [List.length_map,hM.len];omega,?_⟩
   have hM4:=hM3.snoc n3.at_ nmr nmb
   have hG4:upd H3 mp (.lst (rs.map V.ref ++ [.ref bp])) gp=some (.lst (gs.map nv)):=by rw [upd_ne nmg.symm];exact n3.same _ _ hG
   refine ⟨.inl ⟨trivial,_,.of hG4⟩,.inl ⟨_,.inl (.of hM4.lst),?_⟩⟩
   have e1:(((rs ++ [bp]).map V.ref).length:Int) - 1=(ls.length:Nat):=by rw [List.length_map,hM4.len,List.length_append,List.length_singleton];omega
   rw [e1]
   refine ⟨gp,_,_,rfl,rfl,hG4,by rw [List.length_map];omega,?_⟩
   have s4:Same H (upd H3 mp (.lst (rs.map V.ref ++ [.ref bp]))):=(s2.trans n3.same).put fmp
   refine hN _ _ ⟨mp,gp,rs ++ [bp],ls ++ [gs],gs ++ [ls.length],s4.put fgp,⟨by rw [upd_ne nmg];exact hM4.lst,hM4.len,fun i r l hr hl=>?_⟩,mz_snoc mz hnd (fun b hb=>(mem_high.mp (hgh b hb)).1),by rw [List.length_append,List.length_singleton];omega,by rw [upd_same,List.map_append];rfl,by rw [List.length_append,List.length_singleton];omega,fun g hg=>?_,rfl⟩
   ·have hrg:r≠gp:=fun z=>by
     rw [z] at hr
     rcases List.mem_append.mp (List.mem_of_getElem? hr) with g | g
     ·exact ngr g
     ·rw [List.mem_singleton] at g;exact ngb g
    rw [upd_ne hrg]
    exact hM4.at_ i r l hr hl
   ·rw [mem_high,List.length_append,List.length_singleton]
    rcases List.mem_append.mp hg with g' | g'
    ·obtain ⟨a1,a2⟩:=mem_high.mp (hgh g g')
     exact ⟨by omega,by rw [lo_snoc a1];exact a2⟩
    ·rw [List.mem_singleton] at g'
     rw [g']
     refine ⟨by omega,?_⟩
     rw [lo_last]
     intro z
     rw [z] at hg0
     simp at hg0
  clear hM mz hn hG hgh fmp fgp nmr ngr nmg hnd s2
  rintro σ3 H3 ⟨mp,gp,rs,ls,gs,s3,hM,mz,hn,hG,hgl,hgh,rfl⟩
  have hgb:∀ g∈gs,g<ls.length:=fun g hg=>(mem_high.mp (hgh g hg)).1
  have hok:GoalOk ls (natI gs):=fun g hg=>by
   obtain ⟨n,hn,rfl⟩:=List.mem_map.mp hg
   obtain ⟨h1,h2⟩:=mem_high.mp (hgh n hn)
   exact ⟨by omega,by omega,by rw [Int.toNat_natCast];exact h2⟩
  walk_at "gs"
  refine ⟨p,ns,0,rfl,s3.seq hS,fun c0=>?_⟩
  walk_at "gs"
  refine mid (fun σ' H'=>H'=H3∧∃ most:Nat,most≤10∧σ'=[some (.ref p),some (.ref mp),some (.ref gp),v3,some (.int (most:Nat)),none,none,none]) ?_ ?_
  ·intro N hN
   walk_at "gs"
   refine ⟨p,ns,1,rfl,s3.seq hS,fun c1=>?_⟩
   walk_at "gs"
   by_cases hc:c1 % 3=0
   ·rw [if_pos hc]
    refine ⟨p,ns,1,rfl,s3.seq hS,fun c2=>?_⟩
    walk_at "gs"
    obtain ⟨n,hn7⟩:=Int.eq_ofNat_of_zero_le (by omega:0≤c2 / 3 % 4)
    rw [hn7]
    exact hN _ _ ⟨rfl,n,by omega,rfl⟩
   ·rw [if_neg hc]
    obtain ⟨n,hn7⟩:=Int.eq_ofNat_of_zero_le (by omega:0≤c0 % 11)
    rw [hn7]
    exact hN _ _ ⟨rfl,n,by omega,rfl⟩
  rintro σ4 H4 ⟨rfl,most,hmo,rfl⟩
  walk_at "gs"
  refine ⟨mp,rs,ls,rfl,hM,mz,by omega,fun mq qs H5 s5 f5 hM5=>⟨_,.inl (.of (s5 _ _ hG)),fun gq H6 n6=>?_⟩⟩
  have s36:=s5.trans n6.same
  refine ⟨mq,gq,qs,ls,natI gs,most,rfl,hM5.same n6.same,by rw [natI_nv];exact n6.at_,mz,by omega,hmo,fun gs' tp wl v us ss ws as H8 e _ s8 ftp fwl _ fv htp told=>?_,fun hno=>absurd hok hno⟩
  rw [← natI_inj e] at told
  have s38:=s36.trans s8
  refine ⟨tp,_,rfl,.of htp,rfl,_,_,rfl,_,_,rfl,rfl,?_⟩
  refine .inl ⟨_,.inl (.of told.ways.lst),?_⟩
  have hul:us.length=ss.length:=told.ways.len.trans told.len
  rw [List.length_map]
  rcases told.rest with ⟨rfl,hss⟩ | ⟨sl,es,cs,rfl,hsl,nsw,_,sk,hp,hes,hsm⟩
  ·rw [if_pos (by omega)]
   refine .inl ⟨_,.inl (.of told.ways.lst),?_⟩
   rw [List.length_map,if_pos (by omega),decide_eq_true rfl]
   exact k _
  rw [if_neg (by omega)]
  obtain ⟨ts,hts⟩:∃ ts,ts=es.map fun e:Nat=>e / 2:=⟨_,rfl⟩
  have hstop:=told_stops told.flow told.bd sk hp hes
  rw [← hts] at hsl hstop
  obtain ⟨ris,hin,dry⟩:=hstop
  have hel:es.length=ss.length:=(told_le told.flow mz told.bd (lt_nodup told.ris) told.mem told.flow told.bd (lt_nodup told.ris) told.mem sk hp hes).2
  have htl:ts.length=ss.length:=by rw [hts,List.length_map];exact hel
  refine ⟨sl,mp,gp,rs,ls,gs,ts,rfl,hsl,hM.same s38,s38 _ _ hG,ris,hin,by omega,?_⟩
  walk_at "gs"
  refine .inl ⟨_,.inl (.of hsl),.inl ⟨_,.inl (.of told.ways.lst),?_⟩⟩
  rw [List.length_map,List.length_map,if_neg (by omega)]
  refine ⟨mp,gp,sl,rs,ls,gs,ts,rfl,hsl,hM.same s38,mz,by omega,s38 _ _ hG,hgb,fun b H9 s9 hb=>?_⟩
  have hbf:b=false:=by
   cases b with
   | false=>rfl
   | true=>exact absurd (hb.mp rfl) dry
  subst hbf
  clear hb
  walk_at "gs"
  have hsl9:=s9 _ _ hsl
  have tll:ts.length≤11:=by omega
  refine ⟨.inl ⟨by trivial,_,.of hsl9⟩,sl,_,_,rfl,rfl,hsl9,by rw [List.length_map];omega,?_⟩
  have sC:Same H4 (upd H9 sl (.lst (ts.map nv ++ [.int 0]))):=(s38.trans s9).put (s36.nil (fv sl rfl))
  have hMC:=hM.same sC
  have hGC:=sC _ _ hG
  clear hsl9 s9
  revert sC hMC hGC
  generalize upd H9 sl (.lst (ts.map nv ++ [.int 0]))=HC
  intro sC hMC hGC
  refine ⟨mp,gp,rs,ls,natI gs,most,rfl,hMC,by rw [natI_nv];exact hGC,mz,by omega,hmo,fun gs' tp' wl' v' us' ss' ws' as' HF e' _ sF _ _ _ _ htp' told'=>?_,fun hno=>absurd hok hno⟩
  rw [← natI_inj e'] at told'
  have hcnt:=told_count told told' mz
  have hl1:=told.len
  have hl2:=told'.len
  rcases told'.rest with ⟨_,hss⟩ | ⟨sl',es',cs',rfl,hsl',_,_,sk',hp',hes',hsm'⟩
  ·omega
  obtain ⟨ts',hts'⟩:∃ ts,ts=es'.map fun e:Nat=>e / 2:=⟨_,rfl⟩
  have hstop':=told_stops told'.flow told'.bd sk' hp' hes'
  rw [← hts'] at hsl' hstop'
  obtain ⟨ris',hin',dry'⟩:=hstop'
  refine ⟨_,_,.inr (.of htp'),rfl,?_⟩
  refine ⟨sl',mp,gp,rs,ls,gs,ts',rfl,hsl',hMC.same sF,sF _ _ hGC,ris',hin',by omega,?_⟩
  walk_at "gs"
  refine ⟨_,_,.inr (.of htp'),rfl,?_⟩
  refine ⟨mp,gp,sl',rs,ls,gs,ts',rfl,hsl',hMC.same sF,mz,by omega,sF _ _ hGC,hgb,fun b HG sG hb=>?_⟩
  have hbf:b=false:=by
   cases b with
   | false=>rfl
   | true=>exact absurd (hb.mp rfl) dry'
  subst hbf
  exact k _
theorem lenN1 {us:List Value} (h:us.length=1):∃ a,us=[a]:=List.length_eq_one_iff.mp h
theorem lenN2 {us:List Value} (h:us.length=2):∃ a b,us=[a,b]:=by
 obtain _ | ⟨a,t⟩:=us
 ·cases h
 ·obtain ⟨b,rfl⟩:=lenN1 (Nat.succ.inj h)
  exact ⟨a,b,rfl⟩
theorem lenN3 {us:List Value} (h:us.length=3):∃ a b c,us=[a,b,c]:=by
 obtain _ | ⟨a,t⟩:=us
 ·cases h
 ·obtain ⟨b,c,rfl⟩:=lenN2 (Nat.succ.inj h)
  exact ⟨a,b,c,rfl⟩
theorem all_mk {l:PySem.W.OpenLaw}{w:World}{K:PySem.W.Frag}{h:Heap}{mg:Str→Option Value}{fa:Addr} (X:K.In h) (G:h.Ns mainGlobals mg) (hfa:mg "law" = some (.ref fa))
  {f0:Addr}{od0 an0:Option Addr}{sl0:Array (Option Value)}{oc0 kV0 dc0 pm0 cd0 ct0:Value}{f1:Addr}{od1 an1:Option Addr}{sl1:Array (Option Value)}{oc1 kV1 dc1 pm1 cd1 ct1:Value}{f2:Addr}{od2 an2:Option Addr}{sl2:Array (Option Value)}{oc2 kV2 dc2 pm2 cd2 ct2:Value}{f3:Addr}{od3 an3:Option Addr}{sl3:Array (Option Value)}{oc3 kV3 dc3 pm3 cd3 ct3:Value}{f4:Addr}{od4 an4:Option Addr}{sl4:Array (Option Value)}{oc4 kV4 dc4 pm4 cd4 ct4:Value}{f5:Addr}{od5 an5:Option Addr}{sl5:Array (Option Value)}{oc5 kV5 dc5 pm5 cd5 ct5:Value}{f6:Addr}{od6 an6:Option Addr}{sl6:Array (Option Value)}{oc6 kV6 dc6 pm6 cd6 ct6:Value}{f7:Addr}{od7 an7:Option Addr}{sl7:Array (Option Value)}{oc7 kV7 dc7 pm7 cd7 ct7:Value}{f8:Addr}{od8 an8:Option Addr}{sl8:Array (Option Value)}{oc8 kV8 dc8 pm8 cd8 ct8:Value}{f9:Addr}{od9 an9:Option Addr}{sl9:Array (Option Value)}{oc9 kV9 dc9 pm9 cd9 ct9:Value}{f10:Addr}{od10 an10:Option Addr}{sl10:Array (Option Value)}{oc10 kV10 dc10 pm10 cd10 ct10:Value}{f11:Addr}{od11 an11:Option Addr}{sl11:Array (Option Value)}{oc11 kV11 dc11 pm11 cd11 ct11:Value}{f12:Addr}{od12 an12:Option Addr}{sl12:Array (Option Value)}{oc12 kV12 dc12 pm12 cd12 ct12:Value}{f13:Addr}{od13 an13:Option Addr}{sl13:Array (Option Value)}{oc13 kV13 dc13 pm13 cd13 ct13:Value}{f14:Addr}{od14 an14:Option Addr}{sl14:Array (Option Value)}{oc14 kV14 dc14 pm14 cd14 ct14:Value}{f15:Addr}{od15 an15:Option Addr}{sl15:Array (Option Value)}{oc15 kV15 dc15 pm15 cd15 ct15:Value}{f16:Addr}{od16 an16:Option Addr}{sl16:Array (Option Value)}{oc16 kV16 dc16 pm16 cd16 ct16:Value}{f17:Addr}{od17 an17:Option Addr}{sl17:Array (Option Value)}{oc17 kV17 dc17 pm17 cd17 ct17:Value}{f18:Addr}{od18 an18:Option Addr}{sl18:Array (Option Value)}{oc18 kV18 dc18 pm18 cd18 ct18:Value}{C_NoGoal:Addr}
  (aC_NoGoal:PySem.W.nsIn K mainGlobals "NoGoal" = some (some (.ref C_NoGoal)))
  (a0:PySem.W.nsIn K mainGlobals "head" = some (some (.ref f0)))
  (l0:K.lookup f0=some ⟨oc0,od0,.func (PySem.W.fnOf "head" "head" (defArgs s_head) (defBody s_head) (defScope s_head) .none kV0 dc0 pm0 an0 cd0 ct0),sl0⟩)
  (c0:PySem.W.codeIn K cd0 "head" = true)
  (k0:PySem.W.keepIn K (.ref f0)=true)
  (a1:PySem.W.nsIn K mainGlobals "foot" = some (some (.ref f1)))
  (l1:K.lookup f1=some ⟨oc1,od1,.func (PySem.W.fnOf "foot" "foot" (defArgs s_foot) (defBody s_foot) (defScope s_foot) .none kV1 dc1 pm1 an1 cd1 ct1),sl1⟩)
  (c1:PySem.W.codeIn K cd1 "foot" = true)
  (k1:PySem.W.keepIn K (.ref f1)=true)
  (a2:PySem.W.nsIn K mainGlobals "need_goals" = some (some (.ref f2)))
  (l2:K.lookup f2=some ⟨oc2,od2,.func (PySem.W.fnOf "need_goals" "need_goals" (defArgs s_need_goals) (defBody s_need_goals) (defScope s_need_goals) .none kV2 dc2 pm2 an2 cd2 ct2),sl2⟩)
  (c2:PySem.W.codeIn K cd2 "need_goals" = true)
  (k2:PySem.W.keepIn K (.ref f2)=true)
  (a3:PySem.W.nsIn K mainGlobals "next_ends" = some (some (.ref f3)))
  (l3:K.lookup f3=some ⟨oc3,od3,.func (PySem.W.fnOf "next_ends" "next_ends" (defArgs s_next_ends) (defBody s_next_ends) (defScope s_next_ends) .none kV3 dc3 pm3 an3 cd3 ct3),sl3⟩)
  (c3:PySem.W.codeIn K cd3 "next_ends" = true)
  (k3:PySem.W.keepIn K (.ref f3)=true)
  (a4:PySem.W.nsIn K mainGlobals "search" = some (some (.ref f4)))
  (l4:K.lookup f4=some ⟨oc4,od4,.func (PySem.W.fnOf "search" "search" (defArgs s_search) (defBody s_search) (defScope s_search) .none kV4 dc4 pm4 an4 cd4 ct4),sl4⟩)
  (c4:PySem.W.codeIn K cd4 "search" = true)
  (k4:PySem.W.keepIn K (.ref f4)=true)
  (a5:PySem.W.nsIn K mainGlobals "lead" = some (some (.ref f5)))
  (l5:K.lookup f5=some ⟨oc5,od5,.func (PySem.W.fnOf "lead" "lead" (defArgs s_lead) (defBody s_lead) (defScope s_lead) .none kV5 dc5 pm5 an5 cd5 ct5),sl5⟩)
  (c5:PySem.W.codeIn K cd5 "lead" = true)
  (k5:PySem.W.keepIn K (.ref f5)=true)
  (a6:PySem.W.nsIn K mainGlobals "way_from" = some (some (.ref f6)))
  (l6:K.lookup f6=some ⟨oc6,od6,.func (PySem.W.fnOf "way_from" "way_from" (defArgs s_way_from) (defBody s_way_from) (defScope s_way_from) .none kV6 dc6 pm6 an6 cd6 ct6),sl6⟩)
  (c6:PySem.W.codeIn K cd6 "way_from" = true)
  (k6:PySem.W.keepIn K (.ref f6)=true)
  (a7:PySem.W.nsIn K mainGlobals "ways_of" = some (some (.ref f7)))
  (l7:K.lookup f7=some ⟨oc7,od7,.func (PySem.W.fnOf "ways_of" "ways_of" (defArgs s_ways_of) (defBody s_ways_of) (defScope s_ways_of) .none kV7 dc7 pm7 an7 cd7 ct7),sl7⟩)
  (c7:PySem.W.codeIn K cd7 "ways_of" = true)
  (k7:PySem.W.keepIn K (.ref f7)=true)
  (a8:PySem.W.nsIn K mainGlobals "stops_of" = some (some (.ref f8)))
  (l8:K.lookup f8=some ⟨oc8,od8,.func (PySem.W.fnOf "stops_of" "stops_of" (defArgs s_stops_of) (defBody s_stops_of) (defScope s_stops_of) .none kV8 dc8 pm8 an8 cd8 ct8),sl8⟩)
  (c8:PySem.W.codeIn K cd8 "stops_of" = true)
  (k8:PySem.W.keepIn K (.ref f8)=true)
  (a9:PySem.W.nsIn K mainGlobals "apart" = some (some (.ref f9)))
  (l9:K.lookup f9=some ⟨oc9,od9,.func (PySem.W.fnOf "apart" "apart" (defArgs s_apart) (defBody s_apart) (defScope s_apart) .none kV9 dc9 pm9 an9 cd9 ct9),sl9⟩)
  (c9:PySem.W.codeIn K cd9 "apart" = true)
  (k9:PySem.W.keepIn K (.ref f9)=true)
  (a10:PySem.W.nsIn K mainGlobals "_law_cell_at" = some (some (.ref f10)))
  (l10:K.lookup f10=some ⟨oc10,od10,.func (PySem.W.fnOf "_law_cell_at" "_law_cell_at" (defArgs s_law_cell_at) (defBody s_law_cell_at) (defScope s_law_cell_at) .none kV10 dc10 pm10 an10 cd10 ct10),sl10⟩)
  (c10:PySem.W.codeIn K cd10 "_law_cell_at" = true)
  (k10:PySem.W.keepIn K (.ref f10)=true)
  (a11:PySem.W.nsIn K mainGlobals "_law_maze" = some (some (.ref f11)))
  (l11:K.lookup f11=some ⟨oc11,od11,.func (PySem.W.fnOf "_law_maze" "_law_maze" (defArgs s_law_maze) (defBody s_law_maze) (defScope s_law_maze) .none kV11 dc11 pm11 an11 cd11 ct11),sl11⟩)
  (c11:PySem.W.codeIn K cd11 "_law_maze" = true)
  (k11:PySem.W.keepIn K (.ref f11)=true)
  (a12:PySem.W.nsIn K mainGlobals "_law_goals" = some (some (.ref f12)))
  (l12:K.lookup f12=some ⟨oc12,od12,.func (PySem.W.fnOf "_law_goals" "_law_goals" (defArgs s_law_goals) (defBody s_law_goals) (defScope s_law_goals) .none kV12 dc12 pm12 an12 cd12 ct12),sl12⟩)
  (c12:PySem.W.codeIn K cd12 "_law_goals" = true)
  (k12:PySem.W.keepIn K (.ref f12)=true)
  (a13:PySem.W.nsIn K mainGlobals "_law_mixed" = some (some (.ref f13)))
  (l13:K.lookup f13=some ⟨oc13,od13,.func (PySem.W.fnOf "_law_mixed" "_law_mixed" (defArgs s_law_mixed) (defBody s_law_mixed) (defScope s_law_mixed) .none kV13 dc13 pm13 an13 cd13 ct13),sl13⟩)
  (c13:PySem.W.codeIn K cd13 "_law_mixed" = true)
  (k13:PySem.W.keepIn K (.ref f13)=true)
  (a14:PySem.W.nsIn K mainGlobals "_law_digit_maze" = some (some (.ref f14)))
  (l14:K.lookup f14=some ⟨oc14,od14,.func (PySem.W.fnOf "_law_digit_maze" "_law_digit_maze" (defArgs s_law_digit_maze) (defBody s_law_digit_maze) (defScope s_law_digit_maze) .none kV14 dc14 pm14 an14 cd14 ct14),sl14⟩)
  (c14:PySem.W.codeIn K cd14 "_law_digit_maze" = true)
  (k14:PySem.W.keepIn K (.ref f14)=true)
  (a15:PySem.W.nsIn K mainGlobals "_law_copy" = some (some (.ref f15)))
  (l15:K.lookup f15=some ⟨oc15,od15,.func (PySem.W.fnOf "_law_copy" "_law_copy" (defArgs s_law_copy) (defBody s_law_copy) (defScope s_law_copy) .none kV15 dc15 pm15 an15 cd15 ct15),sl15⟩)
  (c15:PySem.W.codeIn K cd15 "_law_copy" = true)
  (k15:PySem.W.keepIn K (.ref f15)=true)
  (a16:PySem.W.nsIn K mainGlobals "_law_leaks" = some (some (.ref f16)))
  (l16:K.lookup f16=some ⟨oc16,od16,.func (PySem.W.fnOf "_law_leaks" "_law_leaks" (defArgs s_law_leaks) (defBody s_law_leaks) (defScope s_law_leaks) .none kV16 dc16 pm16 an16 cd16 ct16),sl16⟩)
  (c16:PySem.W.codeIn K cd16 "_law_leaks" = true)
  (k16:PySem.W.keepIn K (.ref f16)=true)
  (a17:PySem.W.nsIn K mainGlobals "_law_are_places" = some (some (.ref f17)))
  (l17:K.lookup f17=some ⟨oc17,od17,.func (PySem.W.fnOf "_law_are_places" "_law_are_places" (defArgs s_law_are_places) (defBody s_law_are_places) (defScope s_law_are_places) .none kV17 dc17 pm17 an17 cd17 ct17),sl17⟩)
  (c17:PySem.W.codeIn K cd17 "_law_are_places" = true)
  (k17:PySem.W.keepIn K (.ref f17)=true)
  (a18:PySem.W.nsIn K mainGlobals "law" = some (some (.ref f18)))
  (l18:K.lookup f18=some ⟨oc18,od18,.func (PySem.W.fnOf "law" "law" (defArgs s_law) (defBody s_law) (defScope s_law) .none kV18 dc18 pm18 an18 cd18 ct18),sl18⟩)
  (c18:PySem.W.codeIn K cd18 "law" = true)
  (k18:PySem.W.keepIn K (.ref f18)=true)
  (xi_NoGoal:PySem.W.excIn K C_NoGoal [.type "ValueError",.type "Exception",.type "BaseException",.type "object"] "ValueError.__new__" = true)
  (xq_NoGoal:exq K C_NoGoal=true)
  (kv_NoGoal:PySem.W.kitOne K (.ref C_NoGoal) (.type "ValueError")=some true)
  (xk_NoGoal:PySem.W.ktsIn K C_NoGoal "BaseException" = true)
  (z_bool:PySem.W.nsIn K mainGlobals "bool" = some none)
  (z_int:PySem.W.nsIn K mainGlobals "int" = some none)
  (z_isinstance:PySem.W.nsIn K mainGlobals "isinstance" = some none)
  (z_len:PySem.W.nsIn K mainGlobals "len" = some none)
  (z_list:PySem.W.nsIn K mainGlobals "list" = some none)
  (z_min:PySem.W.nsIn K mainGlobals "min" = some none)
  (z_range:PySem.W.nsIn K mainGlobals "range" = some none)
  (z_reversed:PySem.W.nsIn K mainGlobals "reversed" = some none)
  (z_sorted:PySem.W.nsIn K mainGlobals "sorted" = some none) :
  ∃ fd:FuncData,(∀ (s:Shared) (v:Value),BindsTo s fd ⟨[v],[]⟩ [("_law_script",v)])∧∀ base:Heap,K.In base→base.Ns mainGlobals mg→FnOk l.prog w K mg base CX0 5 fa fd ["_law_script"] (sp_law K):=by
 have e:=hfa.symm.trans (PySem.W.mg_of X G a18)
 cases e
 have F0:=fun_mk (st:=s_head) l0 c0 k0
 have B0:=F0.binds (ps:=["place"]) fun _ _ _ _ _ _ us hl=>by obtain ⟨_,rfl⟩:=lenN1 hl;rfl
 have F1:=fun_mk (st:=s_foot) l1 c1 k1
 have B1:=F1.binds (ps:=["place"]) fun _ _ _ _ _ _ us hl=>by obtain ⟨_,rfl⟩:=lenN1 hl;rfl
 have F2:=fun_mk (st:=s_need_goals) l2 c2 k2
 have B2:=F2.binds (ps:=["maze","goals"]) fun _ _ _ _ _ _ us hl=>by obtain ⟨_,_,rfl⟩:=lenN2 hl;rfl
 have F3:=fun_mk (st:=s_next_ends) l3 c3 k3
 have B3:=F3.binds (ps:=["maze","above","end"]) fun _ _ _ _ _ _ us hl=>by obtain ⟨_,_,_,rfl⟩:=lenN3 hl;rfl
 have F4:=fun_mk (st:=s_search) l4 c4 k4
 have B4:=F4.binds (ps:=["maze","goals","above"]) fun _ _ _ _ _ _ us hl=>by obtain ⟨_,_,_,rfl⟩:=lenN3 hl;rfl
 have F5:=fun_mk (st:=s_lead) l5 c5 k5
 have B5:=F5.binds (ps:=["above","came","spring"]) fun _ _ _ _ _ _ us hl=>by obtain ⟨_,_,_,rfl⟩:=lenN3 hl;rfl
 have F6:=fun_mk (st:=s_way_from) l6 c6 k6
 have B6:=F6.binds (ps:=["above","spring"]) fun _ _ _ _ _ _ us hl=>by obtain ⟨_,_,rfl⟩:=lenN2 hl;rfl
 have F7:=fun_mk (st:=s_ways_of) l7 c7 k7
 have B7:=F7.binds (ps:=["maze","above"]) fun _ _ _ _ _ _ us hl=>by obtain ⟨_,_,rfl⟩:=lenN2 hl;rfl
 have F8:=fun_mk (st:=s_stops_of) l8 c8 k8
 have B8:=F8.binds (ps:=["came"]) fun _ _ _ _ _ _ us hl=>by obtain ⟨_,rfl⟩:=lenN1 hl;rfl
 have F9:=fun_mk (st:=s_apart) l9 c9 k9
 have B9:=F9.binds (ps:=["maze","goals","most"]) fun _ _ _ _ _ _ us hl=>by obtain ⟨_,_,_,rfl⟩:=lenN3 hl;rfl
 have F10:=fun_mk (st:=s_law_cell_at) l10 c10 k10
 have B10:=F10.binds (ps:=["_law_script","_law_k"]) fun _ _ _ _ _ _ us hl=>by obtain ⟨_,_,rfl⟩:=lenN2 hl;rfl
 have F11:=fun_mk (st:=s_law_maze) l11 c11 k11
 have B11:=F11.binds (ps:=["_law_cells","_law_sort"]) fun _ _ _ _ _ _ us hl=>by obtain ⟨_,_,rfl⟩:=lenN2 hl;rfl
 have F12:=fun_mk (st:=s_law_goals) l12 c12 k12
 have B12:=F12.binds (ps:=["_law_maze_here","_law_cell"]) fun _ _ _ _ _ _ us hl=>by obtain ⟨_,_,rfl⟩:=lenN2 hl;rfl
 have F13:=fun_mk (st:=s_law_mixed) l13 c13 k13
 have B13:=F13.binds (ps:=["_law_script","_law_start","_law_count"]) fun _ _ _ _ _ _ us hl=>by obtain ⟨_,_,_,rfl⟩:=lenN3 hl;rfl
 have F14:=fun_mk (st:=s_law_digit_maze) l14 c14 k14
 have B14:=F14.binds (ps:=["_law_cell","_law_most"]) fun _ _ _ _ _ _ us hl=>by obtain ⟨_,_,rfl⟩:=lenN2 hl;rfl
 have F15:=fun_mk (st:=s_law_copy) l15 c15 k15
 have B15:=F15.binds (ps:=["_law_rows"]) fun _ _ _ _ _ _ us hl=>by obtain ⟨_,rfl⟩:=lenN1 hl;rfl
 have F16:=fun_mk (st:=s_law_leaks) l16 c16 k16
 have B16:=F16.binds (ps:=["_law_maze_here","_law_goals_here","_law_stops"]) fun _ _ _ _ _ _ us hl=>by obtain ⟨_,_,_,rfl⟩:=lenN3 hl;rfl
 have F17:=fun_mk (st:=s_law_are_places) l17 c17 k17
 have B17:=F17.binds (ps:=["_law_stops","_law_maze_here","_law_goals_here"]) fun _ _ _ _ _ _ us hl=>by obtain ⟨_,_,_,rfl⟩:=lenN3 hl;rfl
 have F18:=fun_mk (st:=s_law) l18 c18 k18
 have B18:=F18.binds (ps:=["_law_script"]) fun _ _ _ _ _ _ us hl=>by obtain ⟨_,rfl⟩:=lenN1 hl;rfl
 have T:Txt K mg ⟨f0,_,f1,_,f2,_,f3,_,f4,_,f5,_,f6,_,f7,_,f8,_,f9,_,f10,_,f11,_,f12,_,f13,_,f14,_,f15,_,f16,_,f17,_,_,_,C_NoGoal⟩:=⟨PySem.W.mg_of X G a0,F0,B0,PySem.W.mg_of X G a1,F1,B1,PySem.W.mg_of X G a2,F2,B2,PySem.W.mg_of X G a3,F3,B3,PySem.W.mg_of X G a4,F4,B4,PySem.W.mg_of X G a5,F5,B5,PySem.W.mg_of X G a6,F6,B6,PySem.W.mg_of X G a7,F7,B7,PySem.W.mg_of X G a8,F8,B8,PySem.W.mg_of X G a9,F9,B9,PySem.W.mg_of X G a10,F10,B10,PySem.W.mg_of X G a11,F11,B11,PySem.W.mg_of X G a12,F12,B12,PySem.W.mg_of X G a13,F13,B13,PySem.W.mg_of X G a14,F14,B14,PySem.W.mg_of X G a15,F15,B15,PySem.W.mg_of X G a16,F16,B16,PySem.W.mg_of X G a17,F17,B17,PySem.W.mg_of X G a18,F18,B18,PySem.W.mg_of X G aC_NoGoal,xi_NoGoal,xq_NoGoal,kv_NoGoal,xk_NoGoal,PySem.W.mg_none_of X G z_bool,PySem.W.mg_none_of X G z_int,PySem.W.mg_none_of X G z_isinstance,PySem.W.mg_none_of X G z_len,PySem.W.mg_none_of X G z_list,PySem.W.mg_none_of X G z_min,PySem.W.mg_none_of X G z_range,PySem.W.mg_none_of X G z_reversed,PySem.W.mg_none_of X G z_sorted⟩
 exact ⟨_,fun s v=>.of_eq rfl,fun base _ _=>ok_law T⟩
theorem walk {l:PySem.W.OpenLaw}{q:Program}{loose:List Str}{XP:(Str→Option Value)→Heap→Prop}{YP:World→Heap→Prop}{d:DefRec}{K:Params→PySem.W.Frag} (hn:l.most=some 63) (hdf:d.params.defaults=[])
  (hY:∀ (w:World) (h:Heap),YP w h→(K w.params).In h)
  (F:∀ (w:World) (mg:Str→Option Value) (fa:Addr) (h:Heap),(K w.params).In h→h.Ns mainGlobals mg→mg d.name=some (.ref fa) →
   ∃ fd:FuncData,(∀ (s:Shared) (u:Value),BindsTo s fd ⟨[u],[]⟩ [("_law_script",u)])∧∀ base:Heap,(K w.params).In base→base.Ns mainGlobals mg→FnOk l.prog w (K w.params) mg base CX0 5 fa fd ["_law_script"] (sp_law (K w.params))) :
  PySem.W.WalkO q loose XP YP l.row.toRowW d [] (fun f vs=>PySem.call f vs) :=
 L2.walk_of (n:=63) (k:=5) (x:="_law_script") (CX:=fun _=>CX0) (sp:=fun w=>sp_law (K w.params)) hn (by decide) hdf ⟨rfl,by decide,by decide⟩ hY F (fun _ _ a ns hl _ hS=>⟨a,ns,rfl,hS,hl,fun _=>rfl⟩) fun _ _ _ _ _ z=>z
end K27
lay_quick PySem.Challenge.pw_gatefold_k27_places_that_stop
namespace OT
open PySem PySem.W PySem.Spec PyProof.Rows L2
noncomputable section
abbrev PM:=Params
abbrev OB:=Obj
abbrev TP:Program:=PySem.W.Fast.tw12779174019474592524
def tT (i:Nat):Stmt:=TP.main.body.getD i (.Pass ⟨0,0,0,0⟩)
abbrev vs (s:Str) (t:Nat):Value:=.str s t
abbrev vr (a:Nat):Value:=.ref a
abbrev vi (a:Int) (t:Nat):Value:=.int a t
abbrev vn:Value:=.none
abbrev df (a:Array Value):Data:=.fields a
abbrev dq (a:Array Value) (n:Nat):Data:=.seq a n
abbrev dd (a:Array DictEntry) (n:Nat):Data:=.dict a n
abbrev de (P:Params) (s:Str) (t:Nat) (v:Value):DictEntry:=.mk (PyData.keyHash P s) (.str s t) v
abbrev ob (t:String) (d:Data) (sl:Array (Option Value)):Obj:=⟨.type t,none,d,sl⟩
abbrev nd:=BT.node
abbrev nl:=BT.nil
abbrev Zl (P:PM):BT:=BT.nil
abbrev N (f:PM→OB) (a b:PM→BT) (P:PM):BT:=BT.node (f P) (a P) (b P)
abbrev M (f:PM→OB) (a:PM→BT) (P:PM):BT:=BT.node (f P) (a P) BT.nil
abbrev L (f:PM→OB) (P:PM):BT:=BT.node (f P) BT.nil BT.nil
abbrev bF:Value:=.bool false
abbrev bT:Value:=.bool true
abbrev vb (y:String):Value:=.builtin y
abbrev vt (y:String):Value:=.type y
abbrev sr (a:Nat):Option Value:=some (.ref a)
abbrev ss (s:Str) (t:Nat):Option Value:=some (.str s t)
abbrev z0:Value:=.int 0 0
abbrev of (y:String) (l:List Value):Obj:=⟨.type y,none,.fields ⟨l⟩,⟨[]⟩⟩
abbrev oq (y:String) (l:List Value) (n:Nat):Obj:=⟨.type y,none,.seq ⟨l⟩ n,⟨[]⟩⟩
abbrev od (y:String) (l:List DictEntry) (n:Nat):Obj:=⟨.type y,none,.dict ⟨l⟩ n,⟨[]⟩⟩
abbrev y0:String:=PySem.W.SL.s2766695959194262286x5
abbrev y1:String:=PySem.W.SL.s5856160107412720595x4
abbrev y2:String:=PySem.W.SL.s658472552662922059x5
abbrev y3:String:=PySem.W.SL.s14018661285674007319x4
abbrev y4:String:=PySem.W.SL.s7097527257260152453x26
abbrev y5:String:=PySem.W.SL.s6070975301684473832x10
abbrev y6:String:=PySem.W.SL.s11030030927630378310x26
abbrev y7:String:=PySem.W.SL.s10062305145149207511x16
abbrev y8:String:=PySem.W.SL.s17162191345867700912x4
abbrev y9:String:=PySem.W.SL.s5946037652744460706x9
abbrev y10:String:=PySem.W.SL.s4278001404047624695x13
abbrev y11:String:=PySem.W.SL.s2742458400755230247x6
abbrev y12:String:=PySem.W.SL.s4209523147560561109x18
abbrev y13:String:=PySem.W.SL.s14755015743595814543x17
abbrev y14:String:=PySem.W.SL.s10220274742760427390x26
abbrev y15:String:=PySem.W.SL.s4290257624100764138x5
abbrev y16:String:=PySem.W.SL.s4860613602091757760x24
abbrev y17:String:=PySem.W.SL.s7174869446012820540x8
abbrev b0 (P:PM):OB:=PySem.W.boot_o_0 P
abbrev b1 (P:PM):OB:=PySem.W.boot_o_1 P
abbrev b2 (P:PM):OB:=PySem.W.boot_o_2 P
abbrev b3 (P:PM):OB:=PySem.W.boot_o_3 P
abbrev b4 (P:PM):OB:=PySem.W.boot_o_4 P
abbrev b5 (P:PM):OB:=PySem.W.boot_o_5 P
abbrev b6 (P:PM):OB:=PySem.W.boot_o_6 P
abbrev b7 (P:PM):OB:=PySem.W.boot_o_7 P
abbrev b8 (P:PM):OB:=PySem.W.boot_o_8 P
abbrev b9 (P:PM):OB:=PySem.W.boot_o_9 P
abbrev b10 (P:PM):OB:=PySem.W.boot_o_10 P
abbrev j0 (a b:Str) (s:Stmt):OB:=⟨vn,none,.func (.mk a b (defArgs s) (.stmts (defBody s)) (defScope s) 0 [] vn vn vn vn none vn vn 0),⟨[]⟩⟩
abbrev j1 (a b:Str) (s:Stmt) (q:Str) (t n:Nat):OB:=⟨(vt y17),none,.func (.mk a b (defArgs s) (.stmts (defBody s)) (defScope s) 3 [] vn vn vn (vs q t) none (vr n) vn 0),⟨[]⟩⟩
abbrev q0:Str:=⟨⟨[97,112,97,114,116]⟩⟩
abbrev q1:Str:=⟨⟨[47,99,108,97,105,109,47,99,117,116,46,112,121]⟩⟩
abbrev q2:Str:=⟨⟨[95,108,97,119,95,100,105,103,105,116,95,109,97,122,101]⟩⟩
abbrev q3:Str:=⟨⟨[95,95,110,97,109,101,95,95]⟩⟩
abbrev q4:Str:=⟨⟨[103,97,116,101,102,111,108,100,46,101,114,114,111,114,115]⟩⟩
abbrev q5:Str:=⟨⟨[95,95,100,111,99,95,95]⟩⟩
abbrev q6:Str:=⟨⟨[95,95,112,97,99,107,97,103,101,95,95]⟩⟩
abbrev q7:Str:=⟨⟨[95,95,108,111,97,100,101,114,95,95]⟩⟩
abbrev q8:Str:=⟨⟨[95,95,115,112,101,99,95,95]⟩⟩
abbrev q9:Str:=⟨⟨[95,95,97,110,110,111,116,97,116,105,111,110,115,95,95]⟩⟩
abbrev q10:Str:=⟨⟨[95,95,98,117,105,108,116,105,110,115,95,95]⟩⟩
abbrev q11:Str:=⟨⟨[95,95,102,105,108,101,95,95]⟩⟩
abbrev q12:Str:=⟨⟨[95,95,99,97,99,104,101,100,95,95]⟩⟩
abbrev q13:Str:=⟨⟨[70,111,108,100,69,114,114,111,114]⟩⟩
abbrev q14:Str:=⟨⟨[108,97,119]⟩⟩
abbrev q15:Str:=⟨⟨[95,108,97,119,95,115,99,114,105,112,116]⟩⟩
abbrev q16:Str:=⟨⟨[95,108,97,119,95,109,97,122,101,95,104,101,114,101]⟩⟩
abbrev q17:Str:=⟨⟨[95,108,97,119,95,103,111,97,108,115,95,104,101,114,101]⟩⟩
abbrev q18:Str:=⟨⟨[95,108,97,119,95,99,101,108,108,95,97,116]⟩⟩
abbrev q19:Str:=⟨⟨[95,108,97,119,95,99,101,108,108,115]⟩⟩
abbrev q20:Str:=⟨⟨[95,108,97,119,95,109,105,120,101,100]⟩⟩
abbrev q21:Str:=⟨⟨[95,108,97,119,95,109,97,122,101]⟩⟩
abbrev q22:Str:=⟨⟨[95,108,97,119,95,103,111,97,108,115]⟩⟩
abbrev q26:Str:=⟨⟨[95,108,97,119,95,109,111,115,116]⟩⟩
abbrev q27:Str:=⟨⟨[95,108,97,119,95,119,97,121,115]⟩⟩
abbrev q28:Str:=⟨⟨[95,108,97,119,95,115,116,111,112,115]⟩⟩
abbrev q29:Str:=⟨⟨[95,108,97,119,95,99,111,112,121]⟩⟩
abbrev q30:Str:=⟨⟨[95,108,97,119,95,97,114,101,95,112,108,97,99,101,115]⟩⟩
abbrev q31:Str:=⟨⟨[95,108,97,119,95,108,101,97,107,115]⟩⟩
abbrev q32:Str:=⟨⟨[95,108,97,119,95,97,103,97,105,110]⟩⟩
abbrev q33:Str:=⟨⟨[108,97,119,95,103,97,116,101,102,111,108,100,95,107,50,55,95,112,108,97,99,101,115,95,116,104,97,116,95,115,116,111,112]⟩⟩
abbrev q34:Str:=⟨⟨[110,101,101,100,95,103,111,97,108,115]⟩⟩
abbrev q35:Str:=⟨⟨[109,97,122,101]⟩⟩
abbrev q36:Str:=⟨⟨[103,111,97,108,115]⟩⟩
abbrev q37:Str:=⟨⟨[103,111,97,108]⟩⟩
abbrev q38:Str:=⟨⟨[78,111,71,111,97,108]⟩⟩
abbrev q40:Str:=⟨⟨[95,108,97,119,95,115,111,114,116]⟩⟩
abbrev q41:Str:=⟨⟨[95,108,97,119,95,99,111,117,110,116,115]⟩⟩
abbrev q42:Str:=⟨⟨[95,108,97,119,95,107]⟩⟩
abbrev q45:Str:=⟨⟨[95,108,97,119,95,99,101,108,108]⟩⟩
abbrev q46:Str:=⟨⟨[95,108,97,119,95,116,111,112]⟩⟩
abbrev q47:Str:=⟨⟨[95,108,97,119,95,114,101,115,116]⟩⟩
abbrev q48:Str:=⟨⟨[95,108,97,119,95,115,112,97,110]⟩⟩
abbrev q50:Str:=⟨⟨[95,108,97,119,95,98,101,108,111,119]⟩⟩
abbrev q51:Str:=⟨⟨[95,108,97,119,95,106]⟩⟩
abbrev q52:Str:=⟨⟨[95,108,97,119,95,108,111,119]⟩⟩
abbrev q57:Str:=⟨⟨[110,101,120,116,95,101,110,100,115]⟩⟩
abbrev q58:Str:=⟨⟨[97,98,111,118,101]⟩⟩
abbrev q59:Str:=⟨⟨[101,110,100]⟩⟩
abbrev q60:Str:=⟨⟨[112,108,97,99,101]⟩⟩
abbrev q61:Str:=⟨⟨[102,111,111,116]⟩⟩
abbrev q62:Str:=⟨⟨[104,101,97,100]⟩⟩
abbrev q63:Str:=⟨⟨[108,111,119,101,114]⟩⟩
abbrev q64:Str:=⟨⟨[103,97,116,101,102,111,108,100,46,109,97,122,101,115]⟩⟩
abbrev q65:Str:=⟨⟨[95,108,97,119,95,115,116,97,114,116]⟩⟩
abbrev q66:Str:=⟨⟨[95,108,97,119,95,99,111,117,110,116]⟩⟩
abbrev q67:Str:=⟨⟨[95,108,97,119,95,109,97,100,101]⟩⟩
abbrev q69:Str:=⟨⟨[95,95,109,97,105,110,95,95]⟩⟩
abbrev q70:Str:=⟨⟨[95,95,119,101,97,107,114,101,102,95,95]⟩⟩
abbrev q71:Str:=⟨⟨[115,116,111,112,115,95,111,102]⟩⟩
abbrev q72:Str:=⟨⟨[99,97,109,101]⟩⟩
abbrev q76:Str:=⟨⟨[115,101,97,114,99,104]⟩⟩
abbrev q77:Str:=⟨⟨[119,97,105,116,105,110,103]⟩⟩
abbrev q79:Str:=⟨⟨[97,104,101,97,100]⟩⟩
abbrev q80:Str:=⟨⟨[119,97,121,115,95,111,102]⟩⟩
abbrev q84:Str:=⟨⟨[108,101,97,100]⟩⟩
abbrev q85:Str:=⟨⟨[115,112,114,105,110,103]⟩⟩
abbrev q86:Str:=⟨⟨[117,112,112,101,114]⟩⟩
abbrev q87:Str:=⟨⟨[95,95,109,111,100,117,108,101,95,95]⟩⟩
abbrev q88:Str:=⟨⟨[95,95,102,105,114,115,116,108,105,110,101,110,111,95,95]⟩⟩
abbrev q89:Str:=⟨⟨[95,95,115,116,97,116,105,99,95,97,116,116,114,105,98,117,116,101,115,95,95]⟩⟩
abbrev q90:Str:=⟨⟨[119,97,121,95,102,114,111,109]⟩⟩
abbrev q91:Str:=⟨⟨[119,97,121]⟩⟩
abbrev q92:Str:=⟨⟨[95,95,113,117,97,108,110,97,109,101,95,95]⟩⟩
abbrev q93:Str:=⟨⟨[109,111,115,116]⟩⟩
abbrev q94:Str:=⟨⟨[110,117,109,98,101,114]⟩⟩
abbrev q95:Str:=⟨⟨[102,111,117,110,100]⟩⟩
abbrev q99:Str:=⟨⟨[60,109,111,100,117,108,101,62]⟩⟩
def o43 (P:PM):OB:=oq y0 [] 0
abbrev e:=L o43
def o44 (P:PM):OB:=(Obj.mk vn none (df ⟨[]⟩) ⟨[]⟩)
def o45 (P:PM):OB:=of y1 [vs q99 182,vs q99 183,vs q1 184,vi 1 0,z0,z0,z0,z0,vr 11,bF,vi 181 0,vr 12,vn,vn,vn,vn,vi 185 0,vi 1 0,vs q1 186]
def o46 (P:PM):OB:=(ob y2 Data.plain ⟨[(sr 13),(sr 3),(sr 3),none,(ss q69 164),none,(sr 0)]⟩)
def o49 (P:PM):OB:=od y3 [de P q3 165 (vs q4 187),de P q5 166 vn,de P q6 167 vn,de P q7 168 (vb y4),de P q8 169 vn,de P q9 170 (vr 6),de P q10 171 (vr 4),de P q11 173 (vs q1 172),de P q12 174 vn,de P q13 206 (vr 24)] 10
def o50 (P:PM):OB:=(Obj.mk vn none (df ⟨[vi 2 0,z0,vr 20]⟩) ⟨[]⟩)
def o51 (P:PM):OB:=oq y0 [(vt y5)] 0
def o52 (P:PM):OB:=of y6 [(vb y7),(vt y8)]
def o53 (P:PM):OB:=od y3 [de P q87 196 (vs q4 187),de P q92 198 (vs q13 197),de P q88 200 (vi 2 199),de P q89 201 (vr 22)] 4
def o56 (P:PM):OB:=of y1 [vs q13 191,vs q13 192,vs q1 193,vi 2 0,z0,z0,z0,z0,vr 18,bF,vi 181 0,vr 19,vn,vn,vn,vn,vi 194 0,vi 2 0,vs q1 195]
def o57 (P:PM):OB:=(ob y2 Data.plain ⟨[(sr 20),(sr 3),(sr 17),none,(ss q4 187),none,(sr 0)]⟩)
def o59 (P:PM):OB:=od y3 [de P q87 196 (vs q4 187),de P q88 200 (vi 2 199),de P q89 201 (vr 22),de P q70 203 (vr 25),de P q5 204 vn] 3
def o60 (P:PM):OB:=(ob y8 (Data.cls (ClassData.mk q13 [(vt y5)] [vr 24,(vt y5),(vt y9),(vt y10),(vt y11)] 23 q13 true [] [] false none false)) ⟨[(sr 15),none,(ss q13 189),(ss q13 197),(some (vb y12)),(some bT)]⟩)
def o61 (P:PM):OB:=of y13 [vs q70 202,vr 24,(vb y14),vn]
def o62 (P:PM):OB:=of y15 [vr 24,vr 24,vr 24]
def o63 (P:PM):OB:=of y6 [(vb y16),vr 24]
def o64 (P:PM):OB:=od y3 [de P q3 165 (vs q64 223),de P q5 166 vn,de P q6 167 vn,de P q7 168 (vb y4),de P q8 169 vn,de P q9 170 (vr 6),de P q10 171 (vr 4),de P q11 173 (vs q1 172),de P q12 174 vn,de P q13 206 (vr 24),de P q38 222 (vr 37),de P q62 231 (vr 46),de P q61 238 (vr 53),de P q34 247 (vr 60),de P q57 253 (vr 65),de P q76 269 (vr 72)] 16
def o65 (P:PM):OB:=(Obj.mk vn none (df ⟨[vi 2 0,z0,vr 20,vi 4 0,z0,vr 33,vi 7 0,z0,vr 45,vi 9 0,z0,vr 52,vi 11 0,z0,vr 59,vi 15 0,z0,vr 64,vi 22 0,z0,vr 71]⟩) ⟨[]⟩)
def o66 (P:PM):OB:=(ob y8 (Data.cls (ClassData.mk q13 [(vt y5)] [vr 24,(vt y5),(vt y9),(vt y10),(vt y11)] 23 q13 true [] [vr 37] false none false)) ⟨[(sr 15),none,(ss q13 189),(ss q13 197),(some (vb y12)),(some bT)]⟩)
def o67 (P:PM):OB:=oq y0 [vr 24] 0
def o69 (P:PM):OB:=od y3 [de P q87 214 (vs q4 187),de P q92 216 (vs q38 215),de P q88 218 (vi 4 217),de P q89 219 (vr 35)] 4
def o72 (P:PM):OB:=of y1 [vs q38 209,vs q38 210,vs q1 211,vi 4 0,z0,z0,z0,z0,vr 31,bF,vi 181 0,vr 32,vn,vn,vn,vn,vi 212 0,vi 4 0,vs q1 213]
def o73 (P:PM):OB:=(ob y2 Data.plain ⟨[(sr 33),(sr 3),(sr 30),none,(ss q4 187),none,(sr 0)]⟩)
def o75 (P:PM):OB:=od y3 [de P q87 214 (vs q4 187),de P q88 218 (vi 4 217),de P q89 219 (vr 35),de P q5 220 vn] 2
def o76 (P:PM):OB:=(ob y8 (Data.cls (ClassData.mk q38 [vr 24] [vr 37,vr 24,(vt y5),(vt y9),(vt y10),(vt y11)] 36 q38 true [] [] false none false)) ⟨[(sr 28),none,(ss q38 207),(ss q38 215),(some (vb y12)),(some bT)]⟩)
def o77 (P:PM):OB:=of y15 [vr 37,vr 37,vr 37]
def o78 (P:PM):OB:=of y6 [(vb y16),vr 37]
def o81 (P:PM):OB:=oq y0 [vs q60 228] 0
def o83 (P:PM):OB:=j0 q62 q62 (tT 4)
def o84 (P:PM):OB:=of y1 [vs q62 225,vs q62 226,vs q1 227,vi 7 0,vi 1 0,z0,z0,vi 3 0,vr 40,bT,vi 181 0,vr 41,vn,vr 42,vr 43,vr 44,vi 229 0,vi 7 0,vs q1 230]
def o85 (P:PM):OB:=j1 q62 q62 (tT 4) q64 223 45
def o88 (P:PM):OB:=oq y0 [vs q60 235] 0
def o90 (P:PM):OB:=j0 q61 q61 (tT 5)
def o91 (P:PM):OB:=of y1 [vs q61 232,vs q61 233,vs q1 234,vi 9 0,vi 1 0,z0,z0,vi 3 0,vr 47,bT,vi 181 0,vr 48,vn,vr 49,vr 50,vr 51,vi 236 0,vi 9 0,vs q1 237]
def o92 (P:PM):OB:=j1 q61 q61 (tT 5) q64 223 52
def o95 (P:PM):OB:=oq y0 [vs q35 242,vs q36 243,vs q37 244] 0
def o97 (P:PM):OB:=j0 q34 q34 (tT 6)
def o98 (P:PM):OB:=of y1 [vs q34 239,vs q34 240,vs q1 241,vi 11 0,vi 2 0,z0,z0,vi 3 0,vr 54,bT,vi 181 0,vr 55,vn,vr 56,vr 57,vr 58,vi 245 0,vi 11 0,vs q1 246]
def o99 (P:PM):OB:=j1 q34 q34 (tT 6) q64 223 59
def o102 (P:PM):OB:=j0 q57 q57 (tT 7)
def o103 (P:PM):OB:=of y1 [vs q57 248,vs q57 249,vs q1 250,vi 15 0,vi 3 0,z0,z0,vi 3 0,vr 61,bT,vi 181 0,vr 62,vn,vn,vn,vr 63,vi 251 0,vi 15 0,vs q1 252]
def o104 (P:PM):OB:=j1 q57 q57 (tT 7) q64 223 64
def o107 (P:PM):OB:=oq y0 [vs q35 257,vs q36 258,vs q58 259,vs q72 260,vs q37 261,vs q63 262,vs q77 263,vs q59 264,vs q60 265,vs q79 266] 0
def o109 (P:PM):OB:=j0 q76 q76 (tT 8)
def o110 (P:PM):OB:=of y1 [vs q76 254,vs q76 255,vs q1 256,vi 22 0,vi 3 0,z0,z0,vi 3 0,vr 66,bT,vi 181 0,vr 67,vn,vr 68,vr 69,vr 70,vi 267 0,vi 22 0,vs q1 268]
def o111 (P:PM):OB:=j1 q76 q76 (tT 8) q64 223 71
def o112 (P:PM):OB:=od y3 [de P q3 165 (vs q33 315),de P q5 166 vn,de P q6 167 vn,de P q7 168 (vb y4),de P q8 169 vn,de P q9 170 (vr 6),de P q10 171 (vr 4),de P q11 173 (vs q1 172),de P q12 174 vn,de P q13 206 (vr 24),de P q38 222 (vr 37),de P q62 231 (vr 46),de P q61 238 (vr 53),de P q34 247 (vr 60),de P q57 253 (vr 65),de P q76 269 (vr 72),de P q84 281 (vr 79),de P q90 290 (vr 86),de P q80 296 (vr 91),de P q71 302 (vr 96),de P q0 314 (vr 103),de P q18 324 (vr 110),de P q21 342 (vr 117),de P q22 348 (vr 122),de P q20 360 (vr 129),de P q2 366 (vr 134),de P q29 372 (vr 139),de P q31 378 (vr 144),de P q30 388 (vr 151)] 29
def o113 (P:PM):OB:=(Obj.mk vn none (df ⟨[vi 2 0,z0,vr 20,vi 4 0,z0,vr 33,vi 7 0,z0,vr 45,vi 9 0,z0,vr 52,vi 11 0,z0,vr 59,vi 15 0,z0,vr 64,vi 22 0,z0,vr 71,vi 38 0,z0,vr 78,vi 51 0,z0,vr 85,vi 56 0,z0,vr 90,vi 59 0,z0,vr 95,vi 61 0,z0,vr 102,vi 71 0,z0,vr 109,vi 75 0,z0,vr 116,vi 92 0,z0,vr 121,vi 105 0,z0,vr 128,vi 111 0,z0,vr 133,vi 122 0,z0,vr 138,vi 124 0,z0,vr 143,vi 136 0,z0,vr 150]⟩) ⟨[]⟩)
def o116 (P:PM):OB:=oq y0 [vs q58 273,vs q72 274,vs q85 275,vs q59 276,vs q60 277,vs q86 278] 0
def o118 (P:PM):OB:=j0 q84 q84 (tT 9)
def o119 (P:PM):OB:=of y1 [vs q84 270,vs q84 271,vs q1 272,vi 38 0,vi 3 0,z0,z0,vi 3 0,vr 73,bT,vi 181 0,vr 74,vn,vr 75,vr 76,vr 77,vi 279 0,vi 38 0,vs q1 280]
def o120 (P:PM):OB:=j1 q84 q84 (tT 9) q64 223 78
def o123 (P:PM):OB:=oq y0 [vs q58 285,vs q85 286,vs q91 287] 0
def o125 (P:PM):OB:=j0 q90 q90 (tT 10)
def o126 (P:PM):OB:=of y1 [vs q90 282,vs q90 283,vs q1 284,vi 51 0,vi 2 0,z0,z0,vi 3 0,vr 80,bT,vi 181 0,vr 81,vn,vr 82,vr 83,vr 84,vi 288 0,vi 51 0,vs q1 289]
def o127 (P:PM):OB:=j1 q90 q90 (tT 10) q64 223 85
def o130 (P:PM):OB:=j0 q80 q80 (tT 11)
def o131 (P:PM):OB:=of y1 [vs q80 291,vs q80 292,vs q1 293,vi 56 0,vi 2 0,z0,z0,vi 3 0,vr 87,bT,vi 181 0,vr 88,vn,vn,vn,vr 89,vi 294 0,vi 56 0,vs q1 295]
def o132 (P:PM):OB:=j1 q80 q80 (tT 11) q64 223 90
def o135 (P:PM):OB:=j0 q71 q71 (tT 12)
def o136 (P:PM):OB:=of y1 [vs q71 297,vs q71 298,vs q1 299,vi 59 0,vi 1 0,z0,z0,vi 3 0,vr 92,bT,vi 181 0,vr 93,vn,vn,vn,vr 94,vi 300 0,vi 59 0,vs q1 301]
def o137 (P:PM):OB:=j1 q71 q71 (tT 12) q64 223 95
def o140 (P:PM):OB:=oq y0 [vs q35 306,vs q36 307,vs q93 308,vs q58 309,vs q94 310,vs q95 311] 0
def o142 (P:PM):OB:=j0 q0 q0 (tT 13)
def o143 (P:PM):OB:=of y1 [vs q0 303,vs q0 304,vs q1 305,vi 61 0,vi 3 0,z0,z0,vi 3 0,vr 97,bT,vi 181 0,vr 98,vn,vr 99,vr 100,vr 101,vi 312 0,vi 61 0,vs q1 313]
def o144 (P:PM):OB:=j1 q0 q0 (tT 13) q64 223 102
def o147 (P:PM):OB:=oq y0 [vs q15 320,vs q42 321] 0
def o149 (P:PM):OB:=j0 q18 q18 (tT 15)
def o150 (P:PM):OB:=of y1 [vs q18 317,vs q18 318,vs q1 319,vi 71 0,vi 2 0,z0,z0,vi 3 0,vr 104,bT,vi 181 0,vr 105,vn,vr 106,vr 107,vr 108,vi 322 0,vi 71 0,vs q1 323]
def o151 (P:PM):OB:=j1 q18 q18 (tT 15) q33 315 109
def o154 (P:PM):OB:=oq y0 [vs q19 328,vs q40 329,vs q16 330,vs q41 331,vs q42 332,vs q45 333,vs q46 334,vs q47 335,vs q48 336,vs q50 337,vs q51 338,vs q52 339] 0
def o156 (P:PM):OB:=j0 q21 q21 (tT 16)
def o157 (P:PM):OB:=of y1 [vs q21 325,vs q21 326,vs q1 327,vi 75 0,vi 2 0,z0,z0,vi 3 0,vr 111,bT,vi 181 0,vr 112,vn,vr 113,vr 114,vr 115,vi 340 0,vi 75 0,vs q1 341]
def o158 (P:PM):OB:=j1 q21 q21 (tT 16) q33 315 116
def o161 (P:PM):OB:=j0 q22 q22 (tT 17)
def o162 (P:PM):OB:=of y1 [vs q22 343,vs q22 344,vs q1 345,vi 92 0,vi 2 0,z0,z0,vi 3 0,vr 118,bT,vi 181 0,vr 119,vn,vn,vn,vr 120,vi 346 0,vi 92 0,vs q1 347]
def o163 (P:PM):OB:=j1 q22 q22 (tT 17) q33 315 121
def o166 (P:PM):OB:=oq y0 [vs q15 352,vs q65 353,vs q66 354,vs q67 355,vs q42 356,vs q45 357] 0
def o168 (P:PM):OB:=j0 q20 q20 (tT 18)
def o169 (P:PM):OB:=of y1 [vs q20 349,vs q20 350,vs q1 351,vi 105 0,vi 3 0,z0,z0,vi 3 0,vr 123,bT,vi 181 0,vr 124,vn,vr 125,vr 126,vr 127,vi 358 0,vi 105 0,vs q1 359]
def o170 (P:PM):OB:=j1 q20 q20 (tT 18) q33 315 128
def o173 (P:PM):OB:=j0 q2 q2 (tT 19)
def o174 (P:PM):OB:=of y1 [vs q2 361,vs q2 362,vs q1 363,vi 111 0,vi 2 0,z0,z0,vi 3 0,vr 130,bT,vi 181 0,vr 131,vn,vn,vn,vr 132,vi 364 0,vi 111 0,vs q1 365]
def o175 (P:PM):OB:=j1 q2 q2 (tT 19) q33 315 133
def o178 (P:PM):OB:=j0 q29 q29 (tT 20)
def o179 (P:PM):OB:=of y1 [vs q29 367,vs q29 368,vs q1 369,vi 122 0,vi 1 0,z0,z0,vi 3 0,vr 135,bT,vi 181 0,vr 136,vn,vn,vn,vr 137,vi 370 0,vi 122 0,vs q1 371]
def o180 (P:PM):OB:=j1 q29 q29 (tT 20) q33 315 138
def o183 (P:PM):OB:=j0 q31 q31 (tT 21)
def o184 (P:PM):OB:=of y1 [vs q31 373,vs q31 374,vs q1 375,vi 124 0,vi 3 0,z0,z0,vi 3 0,vr 140,bT,vi 181 0,vr 141,vn,vn,vn,vr 142,vi 376 0,vi 124 0,vs q1 377]
def o185 (P:PM):OB:=j1 q31 q31 (tT 21) q33 315 143
def o188 (P:PM):OB:=oq y0 [vs q28 382,vs q16 383,vs q17 384,vs q42 385] 0
def o190 (P:PM):OB:=j0 q30 q30 (tT 22)
def o191 (P:PM):OB:=of y1 [vs q30 379,vs q30 380,vs q1 381,vi 136 0,vi 3 0,z0,z0,vi 3 0,vr 145,bT,vi 181 0,vr 146,vn,vr 147,vr 148,vr 149,vi 386 0,vi 136 0,vs q1 387]
def o192 (P:PM):OB:=j1 q30 q30 (tT 22) q33 315 150
def o193 (P:PM):OB:=od y3 [de P q3 165 (vs q33 315),de P q5 166 vn,de P q6 167 vn,de P q7 168 (vb y4),de P q8 169 vn,de P q9 170 (vr 6),de P q10 171 (vr 4),de P q11 173 (vs q1 172),de P q12 174 vn,de P q13 206 (vr 24),de P q38 222 (vr 37),de P q62 231 (vr 46),de P q61 238 (vr 53),de P q34 247 (vr 60),de P q57 253 (vr 65),de P q76 269 (vr 72),de P q84 281 (vr 79),de P q90 290 (vr 86),de P q80 296 (vr 91),de P q71 302 (vr 96),de P q0 314 (vr 103),de P q18 324 (vr 110),de P q21 342 (vr 117),de P q22 348 (vr 122),de P q20 360 (vr 129),de P q2 366 (vr 134),de P q29 372 (vr 139),de P q31 378 (vr 144),de P q30 388 (vr 151),de P q14 402 (vr 158)] 30
def o194 (P:PM):OB:=(Obj.mk vn none (df ⟨[vi 2 0,z0,vr 20,vi 4 0,z0,vr 33,vi 7 0,z0,vr 45,vi 9 0,z0,vr 52,vi 11 0,z0,vr 59,vi 15 0,z0,vr 64,vi 22 0,z0,vr 71,vi 38 0,z0,vr 78,vi 51 0,z0,vr 85,vi 56 0,z0,vr 90,vi 59 0,z0,vr 95,vi 61 0,z0,vr 102,vi 71 0,z0,vr 109,vi 75 0,z0,vr 116,vi 92 0,z0,vr 121,vi 105 0,z0,vr 128,vi 111 0,z0,vr 133,vi 122 0,z0,vr 138,vi 124 0,z0,vr 143,vi 136 0,z0,vr 150,vi 145 0,z0,vr 157]⟩) ⟨[]⟩)
def o197 (P:PM):OB:=oq y0 [vs q15 392,vs q16 393,vs q17 394,vs q19 395,vs q26 396,vs q27 397,vs q28 398,vs q32 399] 0
def o199 (P:PM):OB:=j0 q14 q14 (tT 23)
def o200 (P:PM):OB:=of y1 [vs q14 389,vs q14 390,vs q1 391,vi 145 0,vi 1 0,z0,z0,vi 3 0,vr 152,bT,vi 181 0,vr 153,vn,vr 154,vr 155,vr 156,vi 400 0,vi 145 0,vs q1 401]
def o201 (P:PM):OB:=j1 q14 q14 (tT 23) q33 315 157
def heap_46 (P:Params):Heap:=(Heap.mk ⟨[b0 P,b1 P,b2 P,b3 P,b4 P,b5 P,b6 P,b7 P,b8 P,b9 P,b10 P,o43 P,o44 P,o45 P,o46 P]⟩ (PySem.Life.mk [] [] [] 0 [] [] false ⟨[]⟩ [] 0 false false false 0 [2000,10,10] false 0 true [] [] 0 false))
def tree_47 (P:PM):BT:=(N b0 (N b1 (N b3 (L b7) e) (N b5 (L b9) (L o45))) (N b2 (N b4 (L b8) (L o44)) (N b6 (L b10) (L o46)))) P
def tree_63 (P:PM):BT:=(N b0 (N b1 (N o49 (N b7 (L o51) (L o59)) (N o43 (L o44) (L o63))) (N b5 (N b9 (L o53) (L o61)) (M o45 (L o57)))) (N b2 (N b4 (N b8 (L o52) (L o60)) (M o50 (L o56))) (N b6 (N b10 e (L o62)) (M o46 e)))) P
def tree_111 (P:PM):BT:=(N b0 (N b1 (N o64 (N b7 (N o51 (M o43 (L o102)) e) (N o59 (M o78 (L o110)) (L o44))) (N o43 (N o44 (M o43 (L o44)) (L o90)) (N o63 e (L o98)))) (N b5 (N b9 (N o53 (M o72 (L o104)) (L o88)) (N o61 (L o44) e)) (N o45 (N o57 (M o76 e) (L o92)) (N o52 (L o84) e)))) (N b2 (N b4 (N b8 (N o52 (M o44 (L o103)) (L o44)) (N o66 (M o43 (L o111)) (L o95))) (N o65 (N o56 (M o75 (L o107)) (L o91)) (N o67 (L o83) (L o99)))) (N b6 (N b10 (N o43 (M o73 e) e) (N o62 (L o81) (L o97))) (N o46 (N o43 (M o77 (L o109)) e) (N o69 (L o85) (L o44)))))) P
def tree_192 (P:PM):BT:=(N b0 (N b1 (N o112 (N b7 (N o51 (N o43 (M o102 (L o168)) (L o136)) (N o43 (M o120 (L o184)) e)) (N o59 (N o78 (M o110 e) (L o144)) (N o44 (M o43 (L o192)) (L o44)))) (N o43 (N o44 (N o43 (M o44 (L o44)) (L o140)) (N o90 (M o43 (L o188)) (L o156))) (N o63 (N o43 (M o116 (L o180)) e) (N o98 (L o132) e)))) (N b5 (N b9 (N o53 (N o72 (M o104 (L o170)) e) (N o88 (M o44 e) (L o154))) (N o61 (N o44 (M o43 (L o178)) (L o44)) (N o43 (L o130) (L o162)))) (N o45 (N o57 (N o76 (M o43 (L o174)) (L o142)) (N o92 (M o126 (L o190)) (L o158))) (N o52 (N o84 (M o118 (L o44)) (L o150)) (N o43 (L o44) (L o166)))))) (N b2 (N b4 (N b8 (N o52 (N o44 (M o103 (L o169)) (L o137)) (N o44 (M o43 (L o185)) (L o44))) (N o66 (N o43 (M o111 (L o44)) e) (N o95 (L o44) (L o161)))) (N o113 (N o56 (N o75 (M o107 (L o173)) e) (N o91 (M o125 e) (L o157))) (N o67 (N o83 (M o43 e) (L o149)) (N o99 e (L o44))))) (N b6 (N b10 (N o43 (N o73 (M o43 e) (L o44)) (N o43 (M o123 (L o44)) e)) (N o62 (N o81 (M o44 (L o179)) (L o147)) (N o97 (L o131) (L o163)))) (N o46 (N o43 (N o77 (M o109 (L o175)) (L o143)) (N o43 (M o127 (L o191)) e)) (N o69 (N o85 (M o119 (L o183)) (L o151)) (N o44 (L o135) e)))))) P
def tree_201 (P:PM):BT:=(N b0 (N b1 (N o193 (N b7 (N o51 (N o43 (M o102 (L o168)) (L o136)) (N o43 (M o120 (L o184)) e)) (N o59 (N o78 (M o110 e) (L o144)) (N o44 (M o43 (L o192)) (L o44)))) (N o43 (N o44 (N o43 (M o44 (L o44)) (L o140)) (N o90 (M o43 (L o188)) (L o156))) (N o63 (N o43 (M o116 (L o180)) e) (N o98 (M o132 e) e)))) (N b5 (N b9 (N o53 (N o72 (M o104 (L o170)) e) (N o88 (M o44 e) (L o154))) (N o61 (N o44 (M o43 (L o178)) (L o44)) (N o43 (M o130 (L o44)) (L o162)))) (N o45 (N o57 (N o76 (M o43 (L o174)) (L o142)) (N o92 (M o126 (L o190)) (L o158))) (N o52 (N o84 (M o118 (L o44)) (L o150)) (N o43 (M o44 (L o200)) (L o166)))))) (N b2 (N b4 (N b8 (N o52 (N o44 (M o103 (L o169)) (L o137)) (N o44 (M o43 (L o185)) (L o44))) (N o66 (N o43 (M o111 (L o44)) e) (N o95 (M o44 e) (L o161)))) (N o194 (N o56 (N o75 (M o107 (L o173)) e) (N o91 (M o125 e) (L o157))) (N o67 (N o83 (M o43 e) (L o149)) (N o99 (M o43 (L o199)) (L o44))))) (N b6 (N b10 (N o43 (N o73 (M o43 e) (L o44)) (N o43 (M o123 (L o44)) e)) (N o62 (N o81 (M o44 (L o179)) (L o147)) (N o97 (M o131 (L o197)) (L o163)))) (N o46 (N o43 (N o77 (M o109 (L o175)) (L o143)) (N o43 (M o127 (L o191)) e)) (N o69 (N o85 (M o119 (L o183)) (L o151)) (N o44 (M o135 (L o201)) e)))))) P
def heap_202 (P:Params):Heap:=(Heap.mk ⟨[b0 P,b1 P,b2 P,o193 P,b4 P,b5 P,b6 P,b7 P,b8 P,b9 P,b10 P,o43 P,o194 P,o45 P,o46 P,o51 P,o52 P,o53 P,o43 P,o44 P,o56 P,o57 P,o43 P,o59 P,o66 P,o61 P,o62 P,o63 P,o67 P,o52 P,o69 P,o43 P,o44 P,o72 P,o73 P,o43 P,o75 P,o76 P,o77 P,o78 P,o43 P,o44 P,o81 P,o43 P,o83 P,o84 P,o85 P,o43 P,o44 P,o88 P,o43 P,o90 P,o91 P,o92 P,o43 P,o44 P,o95 P,o43 P,o97 P,o98 P,o99 P,o43 P,o44 P,o102 P,o103 P,o104 P,o43 P,o44 P,o107 P,o43 P,o109 P,o110 P,o111 P,o43 P,o44 P,o116 P,o43 P,o118 P,o119 P,o120 P,o43 P,o44 P,o123 P,o43 P,o125 P,o126 P,o127 P,o43 P,o44 P,o130 P,o131 P,o132 P,o43 P,o44 P,o135 P,o136 P,o137 P,o43 P,o44 P,o140 P,o43 P,o142 P,o143 P,o144 P,o43 P,o44 P,o147 P,o43 P,o149 P,o150 P,o151 P,o43 P,o44 P,o154 P,o43 P,o156 P,o157 P,o158 P,o43 P,o44 P,o161 P,o162 P,o163 P,o43 P,o44 P,o166 P,o43 P,o168 P,o169 P,o170 P,o43 P,o44 P,o173 P,o174 P,o175 P,o43 P,o44 P,o178 P,o179 P,o180 P,o43 P,o44 P,o183 P,o184 P,o185 P,o43 P,o44 P,o188 P,o43 P,o190 P,o191 P,o192 P,o43 P,o44 P,o197 P,o43 P,o199 P,o200 P,o201 P]⟩ (PySem.Life.mk [] [] [] 0 [] [] false ⟨[]⟩ [] 0 false false false 0 [2000,10,10] false 0 true [] [] 0 false))
def ev (p:Program):Env:=Env.mk p.main.scope mainNs mainNs [] Str.empty none (.ref 13) (some 14) 0
def cE (p:Program):Code:=.body (behindTheImports p) (ev p)
def st (p:Program) (i k:Nat):List Stmt:=((behindTheImports p).drop i).take k
def LF:Life:=Life.mk [] [] [] 0 [] [] false #[] [] 0 false false false 0 [2000,10,10] false 0 true [] [] 0 false
def SS (T:Params→BT) (n k:Nat) (w:World) (os:OsState):SharedT:=⟨T w.params,n,LF,⟨[]⟩,⟨0,0,0,0⟩,k,os⟩
def Pc (f:(String→Option Builtin)→Program→World→Nat→Option Value→Nat→Nat→SharedT→Thread→Option (Flow × SharedT × Code × Pos)) (tb:String→Option Builtin) (p:Program) (N i k:Nat) (pos pos':Pos) (T T':Params→BT) (n t n' t':Nat):Prop :=
 ∀ (w:World) (os:OsState),f tb p w 11 (some (.ref 6)) 1 N (SS T n t w os) (piecesOf (st p i k) (ev p) (cE p) pos [topFrame ⟨0,0,0,0⟩])=some (.next,SS T' n' t' w os,cE p,pos')
theorem Pc.plain {N i k:Nat}{pos pos':Pos}{T T':Params→BT}{n t n' t':Nat} (h:Pc PySem.W.Fast.tw10110043849684766642 PySem.W.Fast.tw14364793385576792824 TP N i k pos pos' T T' n t n' t'):Pc segRunT treeTable PySem.Challenge.pw_gatefold_k27_places_that_stop N i k pos pos' T T' n t n' t':=by
 rw [PySem.W.Fast.te10110043849684766642,PySem.W.Fast.te14364793385576792824,PySem.W.Fast.te12779174019474592524]
 exact h
theorem c0:Pc segRunT treeTable PySem.Challenge.pw_gatefold_k27_places_that_stop 196 0 2 ⟨0,0,0,0⟩ ⟨2,0,3,8⟩ tree_47 tree_63 15 187 28 207:=Pc.plain (fun w os=>by kernel_rfl)
theorem c1:Pc segRunT treeTable PySem.Challenge.pw_gatefold_k27_places_that_stop 376 2 7 ⟨2,0,3,8⟩ ⟨22,0,37,23⟩ tree_63 tree_111 28 207 73 270:=Pc.plain (fun w os=>by kernel_rfl)
theorem c2:Pc segRunT treeTable PySem.Challenge.pw_gatefold_k27_places_that_stop 401 9 14 ⟨22,0,37,23⟩ ⟨136,0,144,15⟩ tree_111 tree_192 73 270 152 389:=Pc.plain (fun w os=>by kernel_rfl)
theorem c3:Pc segRunT treeTable PySem.Challenge.pw_gatefold_k27_places_that_stop 37 23 1 ⟨136,0,144,15⟩ ⟨145,0,166,143⟩ tree_192 tree_201 152 389 159 403:=Pc.plain (fun w os=>by kernel_rfl)
abbrev PW:Program:=PySem.Challenge.pw_gatefold_k27_places_that_stop
abbrev B0:List Frame:=[topFrame ⟨0,0,0,0⟩]
theorem step {p:Program}{N i k:Nat}{pos pos':Pos}{T T':Params→BT}{n t n' t':Nat} (c:Pc segRunT treeTable p N i k pos pos' T T' n t n' t') {M:Nat}{r:Shared}{w:World}{os:OsState}
  (h:topRun treeTable p w 11 (some (.ref 6)) M (SS T' n' t' w os).abs (restOf ((behindTheImports p).drop (i+k)) (ev p) (cE p) pos' [topFrame ⟨0,0,0,0⟩])=some r) :
  topRun treeTable p w 11 (some (.ref 6)) (N+M) (SS T n t w os).abs (restOf ((behindTheImports p).drop i) (ev p) (cE p) pos [topFrame ⟨0,0,0,0⟩])=some r:=by
 have e:(behindTheImports p).drop i=st p i k ++ (behindTheImports p).drop (i+k):=by
  unfold st
  rw [← List.drop_drop]
  exact (List.take_append_drop _ _).symm
 rw [e]
 exact piece_app (segRun_of (c w os)) h
def Fn (f:(String→Option Builtin)→Program→World→Nat→Option Value→Nat→Shared→Thread→Option Shared) (tb:String→Option Builtin) (p:Program):Prop :=
 ∀ (w:World) (os:OsState),f tb p w 11 (some (.ref 6)) 2 (SS tree_201 159 403 w os).abs ⟨doneF .next,cE p,⟨145,0,166,143⟩,[topFrame ⟨0,0,0,0⟩]⟩=some ⟨heap_202 w.params,⟨[]⟩,⟨0,0,0,0⟩,403,os⟩
theorem fin:Fn topRun treeTable PW:=by
 rw [PySem.W.Fast.te14082659384304107361,PySem.W.Fast.te14364793385576792824,show PW=TP from PySem.W.Fast.te12779174019474592524]
 exact fun w os=>by kernel_rfl
def Pr (f:(String→Option Builtin)→Program→World→Nat→Option Value→Nat→Shared→Thread→Option (Shared × Thread)) (d:(String→Option Builtin)→Code→Sem Fin) (tb:String→Option Builtin) (p:Program):Prop :=
 ∀ (w:World) (os:OsState),f tb p w 11 (some (.ref 6)) 12 ⟨boot_heap w.params,⟨[]⟩,boot_drawn,boot_toks,os⟩ (topStub p)=some (⟨heap_46 w.params,⟨[]⟩,⟨0,0,0,0⟩,187,os⟩,⟨d tb (cE p),cE p,⟨0,0,0,0⟩,[topFrame ⟨0,0,0,0⟩]⟩)
theorem preT:Pr topGo denote treeTable PW:=by
 rw [PySem.W.Fast.te15667345088766844465,PySem.W.Fast.te11892475500146522536,PySem.W.Fast.te14364793385576792824,show PW=TP from PySem.W.Fast.te12779174019474592524]
 exact fun w os=>by kernel_rfl
def Bl (f:(String→Option Builtin)→Program→World→Nat→Option Value→Nat→Nat→Shared→Thread→Option (Flow × Shared × Code × Pos)) (tb:String→Option Builtin) (p:Program):Prop :=
 ∀ (w:World) (os:OsState),f tb p w 11 (some (.ref 6)) 1 1 ⟨heap_46 w.params,⟨[]⟩,⟨0,0,0,0⟩,187,os⟩ (blockOf (behindTheImports p) (ev p) (cE p) ⟨0,0,0,0⟩ [topFrame ⟨0,0,0,0⟩])=some (.next,(SS tree_47 15 187 w os).abs,cE p,⟨0,0,0,0⟩)
theorem blk:Bl segRun treeTable PW:=by
 rw [PySem.W.Fast.te14374325043358763698,PySem.W.Fast.te14364793385576792824,show PW=TP from PySem.W.Fast.te12779174019474592524]
 exact fun w os=>by kernel_rfl
theorem d44:(behindTheImports PW).drop 24=[]:=by kernel_rfl
theorem run (w:World) (os:OsState):topRun treeTable PW w 11 (some (.ref 6)) (12+(1+(196+(376+(401+(37+2)))))) ⟨boot_heap w.params,⟨[]⟩,boot_drawn,boot_toks,os⟩ (topStub PW)=some ⟨heap_202 w.params,⟨[]⟩,⟨0,0,0,0⟩,403,os⟩:=by
 refine go_top (preT w os) ?_
 refine piece_block (blk w os) ?_
 refine step c0 (step c1 (step c2 (step c3 ?_)))
 rw [d44]
 exact fin w os
theorem size (w:World):((boot_heap w.params).isNs mainGlobals && (Array.mk ([]:List GenState)).size == 0,(boot_heap w.params).objs.size,(boot_heap w.params).nsMap mainGlobals "__annotations__")=(true,11,some (.ref 6)):=by kernel_rfl
theorem op:∀ w:World,(fencedOpening treeTable PW w 2130).map (fun s=>(s.heap,s.gens,s.drawn,s.toks))=some (boot_heap w.params,Array.mk [],boot_drawn,boot_toks) :=
 boot_open (by kernel_rfl) (by decide) (fun s=>by kernel_rfl)
def KP:List Nat:=[1,2,4,5,6,7,8,9,10,11,12,13,15,16,17,18,19,20,21,22,23]
def VW (p:Program):Program:={ p with main:={ p.main with body:=KP.filterMap fun i=>p.main.body[i]? } }
abbrev S9 (w:World) (os:OsState):Shared:=⟨heap_202 w.params,⟨[]⟩,⟨0,0,0,0⟩,403,os⟩
def LA (im:List Stmt→List Str) (p:Program):Prop :=
 ∀ (w:World) (os:OsState),(staticsOk (im p.main.body) (boot_heap w.params) (heap_202 w.params) && namesBound p (heap_202 w.params) && gensDone (S9 w os) && laidKept (boot_heap w.params) (heap_202 w.params))=true
theorem la:LA importedModules PW:=by
 rw [PySem.W.Fast.te5923862056798008813,show PW=TP from PySem.W.Fast.te12779174019474592524]
 exact fun w os=>by kernel_rfl
abbrev XT (q:Program):Shared→Bool:=fun s=>xlAt q [] s && recOk [] s
theorem lb0 (w:World) (os:OsState):PySem.W.Fast.tw4187177175401517315 (VW TP) [] (PySem.W.Fast.tw5923862056798008813 TP.main.body) (XT (VW TP)) true (S9 w os)=openGood (VW TP) []:=by kernel_rfl
end
end OT
namespace K27
open PySem PySem.Spec PyProof.Rows L2
noncomputable abbrev Q (l:List Nat):Str:=⟨⟨l⟩⟩
noncomputable abbrev fq (b c:Str) (s:Stmt) (q:Str) (t n:Nat):Obj:=⟨(Value.type "function"),none,.func (PySem.W.fnOf b c (defArgs s) (defBody s) (defScope s) Value.none Value.none Value.none (Value.str q t) none (Value.ref n) Value.none),⟨[]⟩⟩
set_option maxRecDepth 100000 in
noncomputable def KF:Params→PySem.W.Frag:=fun P =>
 (nat_lit 46,fq "head" "head" s_head OT.q64 223 45) ::
 (nat_lit 53,fq "foot" "foot" s_foot OT.q64 223 52) ::
 (nat_lit 60,fq "need_goals" "need_goals" s_need_goals OT.q64 223 59) ::
 (nat_lit 65,fq "next_ends" "next_ends" s_next_ends OT.q64 223 64) ::
 (nat_lit 72,fq "search" "search" s_search OT.q64 223 71) ::
 (nat_lit 79,fq "lead" "lead" s_lead OT.q64 223 78) ::
 (nat_lit 86,fq "way_from" "way_from" s_way_from OT.q64 223 85) ::
 (nat_lit 91,fq "ways_of" "ways_of" s_ways_of OT.q64 223 90) ::
 (nat_lit 96,fq "stops_of" "stops_of" s_stops_of OT.q64 223 95) ::
 (nat_lit 103,fq "apart" "apart" s_apart OT.q64 223 102) ::
 (nat_lit 110,fq "_law_cell_at" "_law_cell_at" s_law_cell_at OT.q33 315 109) ::
 (nat_lit 117,fq "_law_maze" "_law_maze" s_law_maze OT.q33 315 116) ::
 (nat_lit 122,fq "_law_goals" "_law_goals" s_law_goals OT.q33 315 121) ::
 (nat_lit 129,fq "_law_mixed" "_law_mixed" s_law_mixed OT.q33 315 128) ::
 (nat_lit 134,fq "_law_digit_maze" "_law_digit_maze" s_law_digit_maze OT.q33 315 133) ::
 (nat_lit 139,fq "_law_copy" "_law_copy" s_law_copy OT.q33 315 138) ::
 (nat_lit 144,fq "_law_leaks" "_law_leaks" s_law_leaks OT.q33 315 143) ::
 (nat_lit 151,fq "_law_are_places" "_law_are_places" s_law_are_places OT.q33 315 150) ::
 (nat_lit 158,fq "law" "law" s_law OT.q33 315 157) ::
 (nat_lit 45,OT.o84 P) ::
 (nat_lit 52,OT.o91 P) ::
 (nat_lit 59,OT.o98 P) ::
 (nat_lit 64,OT.o103 P) ::
 (nat_lit 71,OT.o110 P) ::
 (nat_lit 78,OT.o119 P) ::
 (nat_lit 85,OT.o126 P) ::
 (nat_lit 90,OT.o131 P) ::
 (nat_lit 95,OT.o136 P) ::
 (nat_lit 102,OT.o143 P) ::
 (nat_lit 109,OT.o150 P) ::
 (nat_lit 116,OT.o157 P) ::
 (nat_lit 121,OT.o162 P) ::
 (nat_lit 128,OT.o169 P) ::
 (nat_lit 133,OT.o174 P) ::
 (nat_lit 138,OT.o179 P) ::
 (nat_lit 143,OT.o184 P) ::
 (nat_lit 150,OT.o191 P) ::
 (nat_lit 157,OT.o200 P) ::
 (nat_lit 2,OT.b2 P) ::
 (nat_lit 3,OT.o193 P) ::
 (nat_lit 24,OT.o66 P) ::
 (nat_lit 23,OT.o59 P) ::
 (nat_lit 37,OT.o76 P) ::
 (nat_lit 36,OT.o75 P) :: []
end K27
namespace OT
open PySem PySem.W PySem.Spec
noncomputable abbrev AS:List Addr:=(nat_lit 46 :: nat_lit 53 :: nat_lit 60 :: nat_lit 65 :: nat_lit 72 :: nat_lit 79 :: nat_lit 86 :: nat_lit 91 :: nat_lit 96 :: nat_lit 103 :: nat_lit 110 :: nat_lit 117 :: nat_lit 122 :: nat_lit 129 :: nat_lit 134 :: nat_lit 139 :: nat_lit 144 :: nat_lit 151 :: nat_lit 158 :: nat_lit 45 :: nat_lit 52 :: nat_lit 59 :: nat_lit 64 :: nat_lit 71 :: nat_lit 78 :: nat_lit 85 :: nat_lit 90 :: nat_lit 95 :: nat_lit 102 :: nat_lit 109 :: nat_lit 116 :: nat_lit 121 :: nat_lit 128 :: nat_lit 133 :: nat_lit 138 :: nat_lit 143 :: nat_lit 150 :: nat_lit 157 :: nat_lit 2 :: nat_lit 3 :: nat_lit 24 :: nat_lit 23 :: nat_lit 37 :: nat_lit 36 :: [])
noncomputable abbrev HK:Hook:=kHook K27.KF AS (fun _=>by kernel_rfl)
theorem lb (w:World) (os:OsState):openSeen (VW PW) [] (importedModules PW.main.body) (XT (VW PW)) true (S9 w os)=openGood (VW PW) []:=by
 rw [PySem.W.Fast.te4187177175401517315,PySem.W.Fast.te5923862056798008813,show PW=TP from PySem.W.Fast.te12779174019474592524]
 exact lb0 w os
theorem lc (w:World) (os:OsState):HK.obs (S9 w os)=HK.val w:=by kernel_rfl
theorem left:LeftO PW (VW PW) [] (XT (VW PW)) HK.obs HK.val 2130 :=
 LeftO.of_pieces op size run (by decide) fun w=>funext fun os=>by
  rw [la w os,lb w os,lc w os]
end OT
open PySem PySem.W PyProof.Rows
set_option maxRecDepth 100000 in
set_option maxHeartbeats 0 in
theorem PySem.Challenge.cw_gatefold_k27_places_that_stop_holds : PySem.Challenge.rw_gatefold_k27_places_that_stop.Holds := by
 w_on;o_law
 refine holds_open (q:=OT.VW OT.PW) (loose:=[]) (Xt:=OT.XT (OT.VW OT.PW)) (XP:=XL (OT.VW OT.PW) []) (Yf:=OT.HK.obs) (Ya:=OT.HK.val) (YP:=OT.HK.says) (N:=2130) OT.left OT.HK.of OT.HK.keeps
  (fun s e=>xl_of s (Bool.and_eq_true_iff.mp e).1) XL.keeps (by rfl) (by rfl) (by rfl)
  (fun s e=>recFacts_of (Bool.and_eq_true_iff.mp e).2) (by rfl) (by first | assumption | decide +kernel)
  (by decide +kernel)
  ⟨rfl,rfl,rfl,rfl,rfl,by decide +kernel⟩ ?hw ?hc
 case hw=>w_witness2
 refine K27.walk (l:=PySem.Challenge.rw_gatefold_k27_places_that_stop) (K:=K27.KF) rfl rfl (fun w h Y=>PySem.W.kIn_of Y) ?F
 case F =>
  intro w mg fa h KX G hmg
  k_fill
  refine' K27.all_mk KX G hmg ?aC_NoGoal ?a0 ?l0 ?c0 ?k0 ?a1 ?l1 ?c1 ?k1 ?a2 ?l2 ?c2 ?k2 ?a3 ?l3 ?c3 ?k3 ?a4 ?l4 ?c4 ?k4 ?a5 ?l5 ?c5 ?k5 ?a6 ?l6 ?c6 ?k6 ?a7 ?l7 ?c7 ?k7 ?a8 ?l8 ?c8 ?k8 ?a9 ?l9 ?c9 ?k9 ?a10 ?l10 ?c10 ?k10 ?a11 ?l11 ?c11 ?k11 ?a12 ?l12 ?c12 ?k12 ?a13 ?l13 ?c13 ?k13 ?a14 ?l14 ?c14 ?k14 ?a15 ?l15 ?c15 ?k15 ?a16 ?l16 ?c16 ?k16 ?a17 ?l17 ?c17 ?k17 ?a18 ?l18 ?c18 ?k18 ?xi_NoGoal ?xq_NoGoal ?kv_NoGoal ?xk_NoGoal ?z_bool ?z_int ?z_isinstance ?z_len ?z_list ?z_min ?z_range ?z_reversed ?z_sorted
  (case aC_NoGoal | a0 | l0 | c0 | k0 | a1 | l1 | c1 | k1 | a2 | l2 | c2 | k2 | a3 | l3 | c3 | k3 | a4 | l4 | c4 | k4 | a5 | l5 | c5 | k5 | a6 | l6 | c6 | k6 | a7 | l7 | c7 | k7 | a8 | l8 | c8 | k8 | a9 | l9 | c9 | k9 | a10 | l10 | c10 | k10 | a11 | l11 | c11 | k11 | a12 | l12 | c12 | k12 | a13 | l13 | c13 | k13 | a14 | l14 | c14 | k14 | a15 | l15 | c15 | k15 | a16 | l16 | c16 | k16 | a17 | l17 | c17 | k17 | a18 | l18 | c18 | k18=>k_is)
  (case xi_NoGoal=>kernel_rfl)
  (case xq_NoGoal=>first | rfl | decide +kernel | k_is)
  (case kv_NoGoal=>first | rfl | decide +kernel | k_is)
  (case xk_NoGoal=>first | rfl | decide +kernel | k_is)
  (case z_bool | z_int | z_isinstance | z_len | z_list | z_min | z_range | z_reversed | z_sorted=>k_is)

