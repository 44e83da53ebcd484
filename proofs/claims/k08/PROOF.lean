import PyProof.Rows.All
import Wide.All
import OpenK.AllK
import Wide.FinOn
import Lean
import PyProof.EqAt
import PyProof.EqKinds
import PyProof.TupleCall
import PyProof.ZipIter
import PyProof.WalksMore
import PyProof.ListNew
import PyProof.IsiBase
import PyProof.DictList
import PyProof.AttrMiss
import PyProof.FactsAll.dict
import PyProof.ListRange
import PyProof.StrLawsWords
import PyProof.StationsW
import KE.KIsAll
import PyProof.PassesOwn
import PyProof.DictIter
import KE.KRevIter
import KE.KRangeStep
import KE.RegMulBits
import KE.KDictList
import PyProof.SetKind
import PyProof.Rows.SetFrom
import PyProof.Rows.SortShell
import PyProof.Rows.FStr
import PySem.Challenge.RW_gatefold_k08_lines_refused
set_option Elab.async false
set_option linter.all false
set_option maxRecDepth 100000
namespace L2
open PySem PySem.Spec PyProof.Rows
abbrev Key:=Sum Int Str
def keyIs:Key→Value→Bool
 | .inl k,v=>Value.isInt k v
 | .inr x,v=>Value.isStrOf x v
def keyH (w:World):Key→Int
 | .inl k=>hashInt k
 | .inr x=>hashStr w x
theorem keyIs_shape:∀ {k:Key}{v:Value},keyIs k v=true→(∃ i t,k=Sum.inl i∧v=Value.int i t)∨(∃ x t,k=Sum.inr x∧v=Value.str x t)
 | .inl i,v,h=>by
  obtain ⟨t,e⟩:=Value.isInt_shape (k:=i) (v:=v) h
  exact .inl ⟨i,t,rfl,e⟩
 | .inr x,v,h=>by
  obtain ⟨t,e⟩:=Value.isStrOf_shape (x:=x) (v:=v) h
  exact .inr ⟨x,t,rfl,e⟩
theorem keyIs_int (i:Int) (t:Tok):keyIs (.inl i) (.int i t)=true:=by simp [keyIs,Value.isInt]
theorem keyIs_str (x:Str) (t:Tok):keyIs (.inr x) (.str x t)=true:=by simp [keyIs,Value.isStrOf]
theorem key_ll (a b:Int):decide ((Sum.inl a:Key)=Sum.inl b)=(a == b):=by
 by_cases e:a=b
 ·subst e;simp
 ·have h:¬ (Sum.inl a:Key)=Sum.inl b:=fun q=>e (Sum.inl.inj q)
  rw [decide_eq_false h]
  exact (beq_eq_false_iff_ne.mpr e).symm
theorem key_rr (a b:Str):decide ((Sum.inr a:Key)=Sum.inr b)=decide (a=b):=by
 by_cases e:a=b
 ·subst e;simp
 ·have h:¬ (Sum.inr a:Key)=Sum.inr b:=fun q=>e (Sum.inr.inj q)
  rw [decide_eq_false h,decide_eq_false e]
theorem key_lr (a:Int) (b:Str):decide ((Sum.inl a:Key)=Sum.inr b)=false:=decide_eq_false (fun q=>nomatch q)
theorem key_rl (a:Str) (b:Int):decide ((Sum.inr a:Key)=Sum.inl b)=false:=decide_eq_false (fun q=>nomatch q)
def mixKind (prog:Program) (w:World):PySem.KeyKind prog w Key where
 is:=keyIs
 hash:=keyH w
 inj:=fun v a b ha hb=>by
  rcases keyIs_shape ha with ⟨i,t,rfl,rfl⟩ | ⟨x,t,rfl,rfl⟩
  ·rcases keyIs_shape hb with ⟨j,u,rfl,e⟩ | ⟨y,u,rfl,e⟩
   ·injection e with e1 _;rw [e1]
   ·exact nomatch e
  ·rcases keyIs_shape hb with ⟨j,u,rfl,e⟩ | ⟨y,u,rfl,e⟩
   ·exact nomatch e
   ·injection e with e1 _;rw [e1]
 byValue:=fun k v h=>by
  rcases keyIs_shape h with ⟨i,t,rfl,rfl⟩ | ⟨x,t,rfl,rfl⟩ <;> rfl
 pyHash:=fun hv h=>by
  rcases keyIs_shape hv with ⟨i,t,rfl,rfl⟩ | ⟨x,t,rfl,rfl⟩
  ·exact wpAny_pyHash_int h
  ·exact wpAny_pyHash_str h
 eqBool:=fun hu hv h=>by
  rcases keyIs_shape hu with ⟨i,t,rfl,rfl⟩ | ⟨x,t,rfl,rfl⟩
  ·rcases keyIs_shape hv with ⟨j,u,rfl,rfl⟩ | ⟨y,u,rfl,rfl⟩
   ·rw [key_ll] at h;exact wpAny_eqBool_int h
   ·rw [key_lr] at h;exact SeqAt.EqAt.int_str i t y u _ _ _ _ h
  ·rcases keyIs_shape hv with ⟨j,u,rfl,rfl⟩ | ⟨y,u,rfl,rfl⟩
   ·rw [key_rl] at h;exact SeqAt.EqAt.str_int x t j u _ _ _ _ h
   ·rw [key_rr] at h;exact wpAny_eqBool_str h
 «strs»:=fun k x t v h=>by
  rcases keyIs_shape h with ⟨i,u,rfl,e⟩ | ⟨y,u,rfl,e⟩
  ·exact nomatch e
  ·injection e with e1 _
   subst e1
   cases v <;> rfl
theorem mixKind_int (prog:Program) (w:World) (i:Int) (t:Tok):(mixKind prog w).is (.inl i) (.int i t)=true:=keyIs_int i t
theorem mixKind_str (prog:Program) (w:World) (x:Str) (t:Tok):(mixKind prog w).is (.inr x) (.str x t)=true:=keyIs_str x t
inductive V where
 | non | bl (b:Bool) | int (i:Int) | str (x:Str) | byt (b:Array UInt8) | flt (b:UInt64) | ref (a:Addr) | ty (n:String)
 deriving DecidableEq
def RelV:V→Value→Prop
 | .non,u=>u=Value.none
 | .bl b,u=>u=Value.bool b
 | .int i,u=>∃ t,u=Value.int i t
 | .str x,u=>∃ t,u=Value.str x t
 | .byt b,u=>∃ t,u=Value.bytes b t
 | .flt b,u=>∃ t,u=Value.float b t
 | .ref a,u=>u=Value.ref a
 | .ty n,u=>u=Value.type n
abbrev Vals:List V→List Value→Prop:=Paired RelV
theorem Vals.length {xs:List V}{us:List Value} (r:Vals xs us):xs.length=us.length:=Paired.length r
theorem Vals.get:∀ {xs:List V}{us:List Value}{i:Nat}{x:V},Vals xs us→xs[i]? = some x→∃ u,us[i]? = some u∧RelV x u
 | _,_,_,_,.nil,e=>by simp at e
 | _,_,0,_,.cons r _,e=>by simp at e;subst e;exact ⟨_,rfl,r⟩
 | _,_,i+1,x,.cons _ t,e=>by
  obtain ⟨u,h1,h2⟩:=Vals.get (i:=i) (x:=x) t (by simpa using e)
  exact ⟨u,by simpa using h1,h2⟩
theorem Vals.set {x:V}{u:Value} (r:RelV x u):∀ {xs:List V}{us:List Value} (i:Nat),Vals xs us→Vals (xs.set i x) (us.set i u)
 | _,_,_,.nil=>.nil
 | _,_,0,.cons _ t=>.cons r t
 | _,_,i+1,.cons q t=>.cons q (Vals.set r i t)
theorem Vals.append:∀ {xs ys:List V}{us ws:List Value},Vals xs us→Vals ys ws→Vals (xs ++ ys) (us ++ ws)
 | _,_,_,_,.nil,s=>s
 | _,_,_,_,.cons r t,s=>.cons r (Vals.append t s)
theorem Vals.take:∀ {xs:List V}{us:List Value} (n:Nat),Vals xs us→Vals (xs.take n) (us.take n)
 | _,_,0,_=>.nil
 | _,_,_+1,.nil=>.nil
 | _,_,n+1,.cons r t=>.cons r (Vals.take n t)
theorem Vals.drop:∀ {xs:List V}{us:List Value} (n:Nat),Vals xs us→Vals (xs.drop n) (us.drop n)
 | _,_,0,r=>r
 | _,_,_+1,.nil=>.nil
 | _,_,n+1,.cons _ t=>Vals.drop n t
def RelO:Option V→Option Value→Prop
 | some v,some u=>RelV v u
 | none,none=>True
 | _,_=>False
def KV {κ:Type}:List (κ × V)→List (κ × Value)→Prop:=Paired fun (p:κ × V) (q:κ × Value)=>p.1=q.1∧RelV p.2 q.2
def kV:Key→V
 | .inl i=>.int i
 | .inr x=>.str x
inductive HO where
  | lst (xs:List V)
  | tup (xs:List V)
  | dK (kvs:List (Key × V)) | dT (kvs:List (List Key × V))
  | set (S:Int→Bool) (n:Nat)
  | ins (C dx:Addr) (fs:List (Str × V))
  | own (x:Addr)
  | xd (fs:List (Str × V))
  | met (f x:Addr)
  | rng (lo hi:Int)
  | frz (o:Obj) (u:HO)
  | tbl (ps:Array Value)
  | ext (φ:Heap→Prop)
abbrev Hp:=Addr→Option HO
def upd (H:Hp) (a:Addr) (o:HO):Hp:=fun b=>if b=a then some o else H b
theorem upd_same {H:Hp}{a:Addr}{o:HO}:upd H a o a=some o:=by unfold upd;rw [if_pos rfl]
theorem upd_ne {H:Hp}{a b:Addr}{o:HO} (h:b≠a):upd H a o b=H b:=by unfold upd;rw [if_neg h]
theorem upd_upd {H:Hp}{a:Addr}{o u:HO}:upd (upd H a o) a u=upd H a u:=by
 funext b;unfold upd;split <;> rfl
theorem ne_of {H:Hp}{a b:Addr}{o u:HO} (h:H a=some o) (h':H b=some u) (d:o≠u):a≠b:=by
 intro e;subst e;rw [h] at h';exact d (Option.some.inj h')
theorem ne_of_none {H:Hp}{a b:Addr}{o:HO} (h:H a=some o) (h':H b=none):a≠b:=by
 intro e;subst e;rw [h] at h';cases h'
section
variable (P:Program) (w:World)
def ObjOk (H:Hp) (h:Heap) (a:Addr):HO→Prop
 | .lst xs=>xs.length≤sizeLine∧∃ (its:List Value) (n:Nat),Vals xs its∧h.get? a=some { cls:=.type "list",data:=.seq its.toArray n }
 | .tup xs=>xs.length≤sizeLine∧∃ its:List Value,Vals xs its∧IsTup h a its.toArray
 | .dK kvs=>kvs.length≤sizeLine∧(a == sysModules)=false∧∃ vs,KV kvs vs∧h.DictOf (mixKind P w) a vs
 | .dT kvs=>kvs.length≤sizeLine∧(a == sysModules)=false∧∃ xs:List (List Key × Addr × Value),
   Paired (fun (p:List Key × V) (q:List Key × Addr × Value)=>p.1=q.1∧H q.2.1=some (.tup (p.1.map kV))∧RelV p.2 q.2.2) kvs xs ∧
   ∃ o es ep,h.get? a=some o∧o.ExactDict∧o.data=.dict es ep∧es.toList=xs.map (entryOfKey (tupleKind (mixKind P w)))∧(xs.map (·.1)).Nodup
 | .set S n=>h.SetOf (intKind P w) a S n
 | .ins C dx fs=>H dx=some (.own a)∧fs.length≤1000∧dx≠a∧h.get? a=some (PySem.W.instObj C dx) ∧
   ∃ mA,h.Ns1 dx mA∧(∀ f,RelO (fs.lookup f) (mA f))∧PySem.Within mA (fs.map (·.1))
 | .own _=>∃ o,h.get? a=some o
 | .xd fs=>∃ mA,h.Ns1 a mA∧∀ f,RelO (fs.lookup f) (mA f)
 | .rng lo hi=>∃ t u v,h.get? a=some { cls:=.type "range",data:=.fields #[.int lo t,.int hi u,.int 1 v] }
 | .frz o u=>h.get? a=some o∧ObjOk H h a u
 | .tbl ps=>h.get? a=some { cls:=.none,data:=.fields ps }
 | .met f x=>h.get? a=some (PySem.W.methodObj (.ref f) (.ref x))
 | .ext φ=>φ h∧(∃ o,h.get? a=some o)∧∀ h1 h2:Heap,φ h1→(∀ o,h1.get? a=some o→h2.get? a=some o)→φ h2
def HOk (H:Hp) (h:Heap):Prop:=∀ a o,H a=some o→ObjOk P w H h a o
end
section
variable {P:Program}{w:World}{H H':Hp}{h h':Heap}{a:Addr}{o:HO}
theorem ObjOk.lt (x:ObjOk P w H h a o):a<h.objs.size:=by
 cases o with
 | lst xs=>obtain ⟨_,_,_,_,e⟩:=x;exact Heap.lt_size e
 | tup xs=>obtain ⟨_,_,_,p⟩:=x;exact p.lt
 | dK kvs=>obtain ⟨_,_,_,_,o,_,_,e,_⟩:=x;exact Heap.lt_size e
 | dT kvs=>obtain ⟨_,_,_,_,o,_,_,e,_⟩:=x;exact Heap.lt_size e
 | set S n=>obtain ⟨o,_,_,_,e,_⟩:=x;exact Heap.lt_size e
 | ins C dx fs=>obtain ⟨_,_,_,e,_⟩:=x;exact Heap.lt_size e
 | own y=>obtain ⟨_,e⟩:=x;exact Heap.lt_size e
 | xd fs=>obtain ⟨_,⟨_,_,_,e,_⟩,_⟩:=x;exact Heap.lt_size e
 | rng lo hi=>obtain ⟨_,_,_,e⟩:=x;exact Heap.lt_size e
 | frz ob u=>obtain ⟨e,_⟩:=x;exact Heap.lt_size e
 | tbl ps=>exact Heap.lt_size (show h.get? a=some _ from x)
 | met f y=>exact Heap.lt_size (show h.get? a=some _ from x)
 | ext φ=>obtain ⟨_,⟨_,e⟩,_⟩:=x;exact Heap.lt_size e
theorem Paired.mapP {α β:Type}{F G:α→β→Prop}:∀ {l₁:List α}{l₂:List β},Paired F l₁ l₂→(∀ a b,F a b→G a b)→Paired G l₁ l₂
 | _,_,.nil,_=>.nil
 | _,_,.cons r t,f=>.cons (f _ _ r) (Paired.mapP t f)
theorem ObjOk.stay (x:ObjOk P w H h a o) (k:∀ b u,(b=a∨H b=some (.own a))→h.get? b=some u→h'.get? b=some u)
  (ho:∀ b,H b=some (.own a)→H' b=some (.own a)) (ht:∀ b xs,H b=some (.tup xs)→H' b=some (.tup xs)):ObjOk P w H' h' a o:=by
 induction o with
 | lst xs=>obtain ⟨z,its,n,r,e⟩:=x;exact ⟨z,its,n,r,k _ _ (.inl rfl) e⟩
 | tup xs=>obtain ⟨z,its,r,ob,e,c⟩:=x;exact ⟨z,its,r,ob,k _ _ (.inl rfl) e,c⟩
 | dK kvs=>obtain ⟨z,y,vs,r,ob,es,ep,e,c⟩:=x;exact ⟨z,y,vs,r,ob,es,ep,k _ _ (.inl rfl) e,c⟩
 | dT kvs =>
  obtain ⟨z,y,xs,r,ob,es,ep,e,c⟩:=x
  exact ⟨z,y,xs,Paired.mapP r fun p q z=>⟨z.1,ht _ _ z.2.1,z.2.2⟩,ob,es,ep,k _ _ (.inl rfl) e,c⟩
 | set S n=>obtain ⟨ob,es,ep,t,e,c⟩:=x;exact ⟨ob,es,ep,t,k _ _ (.inl rfl) e,c⟩
 | ins C dx fs =>
  obtain ⟨d,z,ne,e,mA,⟨od,es,ep,e2,c⟩,r⟩:=x
  exact ⟨ho _ d,z,ne,k _ _ (.inl rfl) e,mA,⟨od,es,ep,k _ _ (.inr d) e2,c⟩,r⟩
 | own y=>obtain ⟨ob,e⟩:=x;exact ⟨ob,k _ _ (.inl rfl) e⟩
 | xd fs=>obtain ⟨mA,⟨od,es,ep,e,c⟩,r⟩:=x;exact ⟨mA,⟨od,es,ep,k _ _ (.inl rfl) e,c⟩,r⟩
 | rng lo hi=>obtain ⟨t,u,v,e⟩:=x;exact ⟨t,u,v,k _ _ (.inl rfl) e⟩
 | frz ob u ih=>obtain ⟨e,q⟩:=x;exact ⟨k _ _ (.inl rfl) e,ih q⟩
 | tbl ps =>
  have e:h.get? a=some { cls:=.none,data:=.fields ps }:=x
  show h'.get? a=some { cls:=.none,data:=.fields ps }
  exact k a _ (.inl rfl) e
 | met f y =>
  have e:h.get? a=some (PySem.W.methodObj (.ref f) (.ref y)):=x
  show h'.get? a=some (PySem.W.methodObj (.ref f) (.ref y))
  exact k a _ (.inl rfl) e
 | ext φ=>obtain ⟨p,⟨o,e⟩,st⟩:=x;exact ⟨st _ _ p fun o q=>k _ _ (.inl rfl) q,⟨o,k _ _ (.inl rfl) e⟩,st⟩
theorem HOk.lt (x:HOk P w H h) (e:H a=some o):a<h.objs.size:=(x a o e).lt
theorem HOk.fresh (x:HOk P w H h) (e:h.objs.size≤a):H a=none:=by
 cases q:H a with
 | none=>rfl
 | some u=>exact absurd (Nat.lt_of_lt_of_le (x.lt q) e) (Nat.lt_irrefl _)
theorem HOk.kept (x:HOk P w H h) (k:∀ b u,h.get? b=some u→h'.get? b=some u):HOk P w H h':=fun a o e =>
 (x a o e).stay (fun b u _ q=>k b u q) (fun _ q=>q) fun _ _ q=>q
theorem HOk.laid (x:HOk P w H h) (k:∀ b u,h.get? b=some u→h'.get? b=some u) (hp:h.objs.size≤a) (new:ObjOk P w (upd H a o) h' a o):HOk P w (upd H a o) h':=fun b u e=>by
 have hn:=x.fresh hp
 by_cases hb:b=a
 ·subst hb;rw [upd_same] at e;cases e;exact new
 ·rw [upd_ne hb] at e
  exact (x b u e).stay (fun c v _ q=>k c v q) (fun c q=>by rw [upd_ne (ne_of_none q hn)];exact q) fun c xs q=>by rw [upd_ne (ne_of_none q hn)];exact q
end
def Rd (H:Hp) (a:Addr) (u:HO):Prop:=H a=some u∨∃ o,H a=some (.frz o u)
theorem Rd.ok {P:Program}{w:World}{H:Hp}{h:Heap}{a:Addr}{u:HO} (r:Rd H a u) (x:HOk P w H h):ObjOk P w H h a u:=by
 rcases r with r | ⟨o,r⟩
 ·exact x a u r
 ·obtain ⟨_,q⟩:=x a _ r
  exact q
def Mut:Option HO→Prop
 | some (.lst _)=>True
 | some (.dK _)=>True
 | some (.dT _)=>True
 | some (.set _ _)=>True
 | some (.ins _ _ _)=>True
 | some (.ext _)=>True
 | _=>False
section
variable {P:Program}{w:World}{H:Hp}{h h':Heap}{x e:Addr}{o':HO}
theorem HOk.write (ok:HOk P w H h) (mu:Mut (H x)) (he:e=x∨H e=some (.own x)) (k:∀ b u,b≠e→h.get? b=some u→h'.get? b=some u) (heo:∃ u,h'.get? e=some u)
  (new:ObjOk P w (upd H x o') h' x o'):HOk P w (upd H x o') h':=fun b u q=>by
 have nown:∀ c y,H c=some (.own y)→c≠x:=fun c y r z=>by subst z;rw [r] at mu;exact mu
 have ntup:∀ c xs,H c=some (.tup xs)→c≠x:=fun c xs r z=>by subst z;rw [r] at mu;exact mu
 by_cases hb:b=x
 ·subst hb;rw [upd_same] at q;cases q;exact new
 ·rw [upd_ne hb] at q
  by_cases hbe:b=e
  ·have q':H b=some (.own x):=by
    rcases he with z | z
    ·exact absurd (hbe.trans z) hb
    ·rw [hbe];exact z
   rw [q] at q';cases q'
   obtain ⟨v,hv⟩:=heo
   exact ⟨v,by rw [hbe];exact hv⟩
  ·refine (ok b u q).stay (fun c v hc r=>k c v ?_ r) (fun c r=>by rw [upd_ne (nown c b r)];exact r) fun c xs r=>by rw [upd_ne (ntup c xs r)];exact r
   rcases hc with rfl | hc
   ·exact hbe
   ·rintro rfl
    rcases he with z | z
    ·exact nown c b hc z
    ·rw [hc] at z;cases z;exact hb rfl
end
structure Un (fs ex:List Addr) (H H':Hp) (h h':Heap):Prop where
 keep:∀ b o,h.get? b=some o→H b=none→b ∉ fs→b ∉ ex→h'.get? b=some o
 slot:∀ b o,h.get? b=some o→H b=none→b∈fs→b ∉ ex→∃ sl,h'.get? b=some { o with slots:=sl }
 free:∀ b o,h.get? b=some o→H b=none→b ∉ ex→H' b=none
 there:∀ b o,h.get? b=some o→b ∉ ex→∃ o',h'.get? b=some o'
 tups:∀ b xs,H b=some (.tup xs)→H' b=some (.tup xs)
 frzs:∀ b o u,H b=some (.frz o u)→H' b=some (.frz o u)
 tbls:∀ b ps,H b=some (.tbl ps)→∃ more,H' b=some (.tbl (ps ++ more))
section
variable {fs fs' ex ex':List Addr}{H H1 H2:Hp}{h h1 h2 h':Heap}{a x e:Addr}{o:HO}
theorem Un.any (u:Un fs ex H H1 h h1) {b:Addr}{ob:Obj} (q:h.get? b=some ob) (n:H b=none) (hx:b ∉ ex):∃ sl,h1.get? b=some { ob with slots:=sl }:=by
 by_cases hb:b∈fs
 ·exact u.slot b ob q n hb hx
 ·exact ⟨ob.slots,u.keep b ob q n hb hx⟩
theorem Un.kept (k:∀ b u,h.get? b=some u→h'.get? b=some u):Un fs ex H H h h' :=
 ⟨fun b ob q _ _ _=>k b ob q,fun b ob q _ _ _=>⟨ob.slots,k b ob q⟩,fun _ _ _ n _=>n,fun b ob q _=>⟨ob,k b ob q⟩,fun _ _ q=>q,fun _ _ _ q=>q,fun _ ps q=>⟨#[],by rw [q];simp⟩⟩
theorem Un.refl:Un fs ex H H h h:=Un.kept fun _ _ q=>q
theorem Un.laid (k:∀ b u,h.get? b=some u→h'.get? b=some u) (hp:h.objs.size≤a) (hn:H a=none):Un fs ex H (upd H a o) h h' where
 keep:=fun b u q _ _ _=>k b u q
 slot:=fun b u q _ _ _=>⟨u.slots,k b u q⟩
 free:=fun b u q n _=>by rw [upd_ne (Nat.ne_of_lt (Nat.lt_of_lt_of_le (Heap.lt_size q) hp))];exact n
 there:=fun b u q _=>⟨u,k b u q⟩
 tups:=fun b xs q=>by rw [upd_ne (ne_of_none q hn)];exact q
 frzs:=fun b u xs q=>by rw [upd_ne (ne_of_none q hn)];exact q
 tbls:=fun b ps q=>⟨#[],by rw [upd_ne (ne_of_none q hn),q];simp⟩
theorem Un.write (mu:Mut (H x)) (he:e=x∨H e=some (.own x)) (k:∀ b u,b≠e→h.get? b=some u→h'.get? b=some u) (heo:∃ u,h'.get? e=some u):Un fs ex H (upd H x o) h h':=by
 have hx:∀ b,H b=none→b≠x:=fun b n z=>by subst z;rw [n] at mu;exact mu
 have hb:∀ b,H b=none→b≠e:=fun b n z=>by
  subst z
  rcases he with r | r
  ·exact hx b n r
  ·rw [n] at r;cases r
 have hm:∀ b u,H b=some u→¬ Mut (some u)→b≠x:=fun b u q nm z=>by subst z;rw [q] at mu;exact nm mu
 refine ⟨fun b u q n _ _=>k b u (hb b n) q,fun b u q n _ _=>⟨u.slots,k b u (hb b n) q⟩,fun b u q n _=>by rw [upd_ne (hx b n)];exact n,fun b u q _=>?_,
  fun b xs q=>by rw [upd_ne (hm b _ q fun z=>z)];exact q,fun b u xs q=>by rw [upd_ne (hm b _ q fun z=>z)];exact q,fun b ps q=>⟨#[],by rw [upd_ne (hm b _ q fun z=>z),q];simp⟩⟩
 by_cases hbe:b=e
 ·subst hbe;exact heo
 ·exact ⟨u,k b u hbe q⟩
end
def trk (h:Heap) (H:Hp):List Addr:=(List.range h.objs.size).filter fun a=>(H a).isSome
def hidT (h:Heap) (H:Hp):Heap:=PySem.W.hideAll h (trk h H)
theorem hidT_size (h:Heap) (H:Hp):(hidT h H).objs.size=h.objs.size:=PySem.W.hideAll_size _ _
theorem hidT_get {h:Heap}{H:Hp}{b:Addr}{o:Obj} (e:h.get? b=some o) (n:H b=none):(hidT h H).get? b=some o :=
 PySem.W.hideAll_get _ e fun hm=>by
  have q:(H b).isSome=true:=(List.mem_filter.mp hm).2
  rw [n] at q;simp at q
theorem of_hidT {h:Heap}{H:Hp}{b:Addr}{o:Obj} (e:(hidT h H).get? b=some o):h.get? b=some o∧H b=none:=by
 have e':h.get? b=some o:=PySem.W.of_hideAll (trk h H) e
 refine ⟨e',?_⟩
 cases q:H b with
 | none=>rfl
 | some x =>
  have hm:b∈trk h H:=List.mem_filter.mpr ⟨List.mem_range.mpr (Heap.lt_size e'),by simp [q]⟩
  have z:(hidT h H).get? b=none:=PySem.W.hideAll_none (trk h H) hm
  rw [z] at e;cases e
def allNews (g h:Heap) (L:Addr):List (Addr × Obj):=(List.range h.objs.size).filterMap fun a=>if a=L∨(g.get? a).isSome=true then none else (h.get? a).map fun o=>(a,o)
def rest (g h:Heap) (L d:Addr):List (Addr × Obj):=(allNews g h L).filter fun p=>decide (p.1≠d)
structure Mod (K:PySem.W.Frag) (mg:Str→Option Value) (base:Heap):Prop where
 kin:K.In base
 glob:base.Ns mainGlobals mg
 blt:∃ mb,base.Ns builtinsNs mb∧∀ x:Str,x ≠ "__name__" → mb x=bootBuiltins x
 nolimit:base.NoLimit
structure Cx where
 prog:Program
 w:World
 K:PySem.W.Frag
 mg:Str→Option Value
 base:Heap
 A:Around
 N:List Str
 s₀:Shared
 H₀:Hp
 env:Env
 outer:List Env
 stack:List Env
 ex:List Addr
 fn:Str→Bool
 calm:Bool
 pn:List (Addr × Obj)
 xe:Value→Shared→Prop
def frs (l:List Env):List Addr:=l.filterMap (·.frame)
abbrev Cx.fs (X:Cx):List Addr:=frs X.outer
def Vis (sc:Scope) (x:Str):Prop:=sc.names.lookup x=some .local∨sc.names.lookup x=some .cell∨sc.names.lookup x=some .free
def Loc (sc:Scope) (x:Str):Prop:=sc.names.lookup x=some .local∨sc.names.lookup x=some .cell
def Look (env:Env) (h:Heap) (m:Str→Option Value) (x:Str) (u:Value):Prop :=
 (env.kindOf x=some .local∧m x=some u)∨((env.kindOf x=some .cell∨env.kindOf x=some .free)∧∃ c,env.cells.lookup x=some c∧h.IsCell c (some u))
structure Cx.Ok (X:Cx):Prop where
 mod:Mod X.K X.mg X.base
 kind:X.env.scope.kind=.function
 glob:X.env.globals=mainGlobals
 blt:X.env.builtins=builtinsNs
 above:X.s₀.heap.objs.size≤X.env.locals
 inj:∀ x y c,X.env.cells.lookup x=some c→X.env.cells.lookup y=some c→x=y
 has:∀ x,(X.env.kindOf x=some .cell∨X.env.kindOf x=some .free)→∃ c,X.env.cells.lookup x=some c
 cab:∀ x c,X.fn x=true→X.env.cells.lookup x=some c→X.s₀.heap.objs.size≤c
 hd:X.calm=true→X.A.handled=none
 frames:X.A.frames=some X.stack
 stk:X.stack=X.outer∨(X.stack=X.env :: X.outer∧X.env.frame=some X.env.locals)
 exf:∀ b∈X.ex,b≠X.env.locals∧∀ x c,X.env.cells.lookup x=some c→c≠b
 bs:∀ b o,X.base.get? b=some o→X.s₀.heap.get? b=some o∧X.H₀ b=none
 bsz:X.base.objs.size≤X.s₀.heap.objs.size
 noex:∀ b o,X.base.get? b=some o→b ∉ X.ex
 exfs:∀ b∈X.ex,b ∉ X.fs
 funs:X.s₀.heap.FunFrames X.base X.outer
 frf:∀ b∈X.fs,X.H₀ b=none
structure Inv (X:Cx) (pins:List (Addr × Obj)) (σ:List (Option V)) (H:Hp) (s:Shared):Prop where
 ok:X.Ok
 os:s.os=X.s₀.os
 bare:AllBare s.gens
 base:Un X.fs X.ex X.H₀ H X.s₀.heap s.heap
 loc:∃ m,s.heap.Ns X.env.locals m∧∀ (i:Nat) (x:Str) (v:V),X.N[i]? = some x→σ[i]? = some (some v)→Vis X.env.scope x→∃ u,RelV v u∧Look X.env s.heap m x u
 cell:∀ x c,X.env.cells.lookup x=some c→∃ v,s.heap.IsCell c v
 free:H X.env.locals=none
 freeC:∀ x c,X.env.cells.lookup x=some c→H c=none
 pin:∀ p∈X.pn ++ pins,s.heap.get? p.1=some p.2∧H p.1=none∧p.1≠X.env.locals∧p.1 ∉ X.fs∧∀ v,p.2.data≠.cell v
 hok:HOk X.prog X.w H s.heap
 len:σ.length=X.N.length
section
variable {X:Cx}{pins:List (Addr × Obj)}{σ:List (Option V)}{H H':Hp}{s:Shared}{h':Heap}
theorem Cx.Ok.nofr (ok:X.Ok) {b:Addr}{o:Obj} (e:X.base.get? b=some o):b ∉ X.fs:=fun hb=>by
 have:=(ok.funs.mem hb).1
 rw [e] at this;cases this
theorem Inv.bs (I:Inv X pins σ H s):∀ b o,X.base.get? b=some o→s.heap.get? b=some o∧H b=none:=fun b o e =>
 ⟨I.base.keep b o (I.ok.bs b o e).1 (I.ok.bs b o e).2 (I.ok.nofr e) (I.ok.noex b o e),I.base.free b o (I.ok.bs b o e).1 (I.ok.bs b o e).2 (I.ok.noex b o e)⟩
theorem Inv.bk (I:Inv X pins σ H s):∀ b o,X.base.get? b=some o→s.heap.get? b=some o:=fun b o e=>(I.bs b o e).1
theorem Inv.mod (I:Inv X pins σ H s):Mod X.K X.mg X.base:=I.ok.mod
theorem Inv.kIn (I:Inv X pins σ H s):X.K.In s.heap:=I.ok.mod.kin.keeps I.bk
theorem Inv.nolimit (I:Inv X pins σ H s):s.heap.NoLimit:=I.ok.mod.nolimit.keeps I.bk
theorem Inv.fr (I:Inv X pins σ H s):∃ m,Fr X.base X.env.locals s.heap m :=
 let ⟨m,hn,_⟩:=I.loc
 ⟨m,hn,I.bk,Nat.le_trans I.ok.bsz I.ok.above⟩
theorem Inv.lt (I:Inv X pins σ H s):X.env.locals<s.heap.objs.size:=let ⟨_,hn,_⟩:=I.loc;hn.lt
theorem Inv.sz (I:Inv X pins σ H s):X.s₀.heap.objs.size≤s.heap.objs.size:=Nat.le_trans I.ok.above (Nat.le_of_lt I.lt)
theorem Inv.nofs (I:Inv X pins σ H s) {a:Addr} (h:s.heap.objs.size≤a):a ∉ X.fs:=fun hb=>by
 obtain ⟨_,o,ho,_⟩:=I.ok.funs.mem hb
 exact absurd (Nat.lt_of_lt_of_le (Heap.lt_size ho) (Nat.le_trans I.sz h)) (Nat.lt_irrefl _)
theorem Inv.cne (I:Inv X pins σ H s):∀ x c,X.env.cells.lookup x=some c→c≠X.env.locals:=fun x c e z=>by
 obtain ⟨v,o,ho,hd⟩:=I.cell x c e
 obtain ⟨m,⟨o',es,ep,ho',hd',_⟩,_⟩:=I.loc
 rw [z,ho'] at ho;cases ho;rw [hd'] at hd;cases hd
theorem Inv.funs (I:Inv X pins σ H s):s.heap.FunFrames X.base X.outer:=by
 have all:∀ (l:List Env),(∀ b∈frs l,b∈X.fs)→X.s₀.heap.FunFrames X.base l→s.heap.FunFrames X.base l:=by
  intro l
  induction l with
  | nil=>intro _ _;trivial
  | cons env r ih =>
   intro hs hl
   obtain ⟨hk,⟨L,o,hf,hn,ho,hd⟩,hr⟩:=hl
   have hL:L∈X.fs:=hs L (by unfold frs;rw [List.filterMap_cons,hf];exact List.mem_cons_self)
   obtain ⟨sl,e⟩:=I.base.slot L o ho (I.ok.frf L hL) hL fun z=>I.ok.exfs L z hL
   exact ⟨hk,⟨L,_,hf,hn,e,hd⟩,ih (fun b hb=>hs b (by unfold frs;rw [List.filterMap_cons,hf];exact List.mem_cons_of_mem _ hb)) hr⟩
 exact all X.outer (fun _ hb=>hb) I.ok.funs
theorem Inv.stack (I:Inv X pins σ H s):s.heap.FunFrames X.base X.stack:=by
 rcases I.ok.stk with e | ⟨e,hf⟩
 ·rw [e];exact I.funs
 ·rw [e]
  obtain ⟨m,hn,_⟩:=I.loc
  refine .cons (by rw [I.ok.kind];decide) hf hn ?_ I.funs
  exact Heap.get?_none_of_le (Nat.le_trans I.ok.bsz I.ok.above)
theorem Inv.stkSub (I:Inv X pins σ H s):∀ b∈frs X.stack,b∈X.env.locals :: X.fs:=fun b hb=>by
 rcases I.ok.stk with e | ⟨e,hf⟩
 ·rw [e] at hb;exact List.mem_cons_of_mem _ hb
 ·rw [e] at hb
  unfold frs at hb
  rw [List.filterMap_cons,hf] at hb
  exact hb
theorem Inv.stkFree (I:Inv X pins σ H s):∀ b∈frs X.stack,H b=none:=fun b hb=>by
 rcases List.mem_cons.mp (I.stkSub b hb) with e | hb
 ·rw [e];exact I.free
 ·obtain ⟨_,o,ho,_⟩:=I.ok.funs.mem hb
  exact I.base.free b o ho (I.ok.frf b hb) fun z=>I.ok.exfs b z hb
theorem Inv.step {g':Array GenState}{t':Nat}{d':Drawn}{ch:List Addr} (I:Inv X pins σ H s)
  (hch:∀ b∈ch,(b∈X.ex∨X.s₀.heap.objs.size≤b)∧b≠X.env.locals∧(∀ x c,X.env.cells.lookup x=some c→c≠b)∧∀ p∈X.pn ++ pins,p.1≠b)
  (keep:∀ b o,b≠X.env.locals→b ∉ X.fs→b ∉ ch→s.heap.get? b=some o→H b=none→h'.get? b=some o)
  (slot:∀ b o,b≠X.env.locals→b∈X.fs→b ∉ ch→s.heap.get? b=some o→H b=none→∃ sl,h'.get? b=some { o with slots:=sl }) (free:∀ b o,b ∉ ch→s.heap.get? b=some o→H b=none→H' b=none)
  (there:∀ b o,b ∉ ch→s.heap.get? b=some o→∃ o',h'.get? b=some o')
  (tups:∀ b xs,H b=some (.tup xs)→H' b=some (.tup xs)) (frzs:∀ b o u,H b=some (.frz o u)→H' b=some (.frz o u)) (tbls:∀ b ps,H b=some (.tbl ps)→∃ more,H' b=some (.tbl (ps ++ more)))
  (ns:∀ m,s.heap.Ns X.env.locals m→h'.Ns X.env.locals m) (hok:HOk X.prog X.w H' h') (hg:AllBare g') :
  Inv X pins σ H' { s with heap:=h',gens:=g',drawn:=d',toks:=t' }:=by
 have neL:∀ b o,X.s₀.heap.get? b=some o→b≠X.env.locals:=fun b o e=>Nat.ne_of_lt (Nat.lt_of_lt_of_le (Heap.lt_size e) I.ok.above)
 have neC:∀ b o,X.s₀.heap.get? b=some o→b ∉ X.ex→b ∉ ch:=fun b o e hx hb=>by
  rcases (hch b hb).1 with z | z
  ·exact hx z
  ·exact absurd (Nat.lt_of_lt_of_le (Heap.lt_size e) z) (Nat.lt_irrefl _)
 have cellK:∀ x c,X.env.cells.lookup x=some c→∀ v,s.heap.IsCell c v→h'.IsCell c v:=fun x c e v ⟨o,ho,hd⟩=>by
  have nch:c ∉ ch:=fun z=>(hch c z).2.2.1 x c e rfl
  by_cases hc:c∈X.fs
  ·obtain ⟨sl,q⟩:=slot c o (I.cne x c e) hc nch ho (I.freeC x c e)
   exact ⟨_,q,hd⟩
  ·exact ⟨o,keep c o (I.cne x c e) hc nch ho (I.freeC x c e),hd⟩
 refine ⟨I.ok,I.os,hg,⟨fun b o e n hb hx=>?_,fun b o e n hb hx=>?_,fun b o e n hx=>?_,fun b o e hx=>?_,fun b xs e=>tups b xs (I.base.tups b xs e),fun b o xs e=>frzs b o xs (I.base.frzs b o xs e),fun b ps e=>?_⟩,?_,fun x c e=>?_,?_,fun x c e=>?_,fun p hp=>?_,hok,I.len⟩
 ·exact keep b o (neL b o e) hb (neC b o e hx) (I.base.keep b o e n hb hx) (I.base.free b o e n hx)
 ·obtain ⟨sl,e1⟩:=I.base.slot b o e n hb hx
  obtain ⟨sl',e2⟩:=slot b _ (neL b o e) hb (neC b o e hx) e1 (I.base.free b o e n hx)
  exact ⟨sl',e2⟩
 ·obtain ⟨o',e1⟩:=I.base.there b o e hx
  exact free b o' (neC b o e hx) e1 (I.base.free b o e n hx)
 ·obtain ⟨o',e1⟩:=I.base.there b o e hx
  exact there b o' (neC b o e hx) e1
 ·obtain ⟨m1,e1⟩:=I.base.tbls b ps e
  obtain ⟨m2,e2⟩:=tbls b _ e1
  exact ⟨m1 ++ m2,by rw [e2,Array.append_assoc]⟩
 ·obtain ⟨m,hn,hl⟩:=I.loc
  refine ⟨m,ns m hn,fun i x v e1 e2 e3=>?_⟩
  obtain ⟨u,r,l⟩:=hl i x v e1 e2 e3
  refine ⟨u,r,?_⟩
  rcases l with l | ⟨k,c,e,z⟩
  ·exact .inl l
  ·exact .inr ⟨k,c,e,cellK x c e _ z⟩
 ·obtain ⟨v,z⟩:=I.cell x c e
  exact ⟨v,cellK x c e v z⟩
 ·obtain ⟨m,⟨o,_,_,ho,_⟩,_⟩:=I.loc
  exact free _ o (fun z=>(hch _ z).2.1 rfl) ho I.free
 ·obtain ⟨v,o,ho,hd⟩:=I.cell x c e
  exact free c o (fun z=>(hch c z).2.2.1 x c e rfl) ho (I.freeC x c e)
 ·obtain ⟨e,n,ne,nf,d⟩:=I.pin p hp
  have nch:p.1 ∉ ch:=fun z=>(hch p.1 z).2.2.2 p hp rfl
  exact ⟨keep p.1 p.2 ne nf nch e n,free p.1 p.2 nch e n,ne,nf,d⟩
theorem Inv.un {t':Nat} (I:Inv X pins σ H s) (u:Un X.fs [] H H' s.heap h') (hok:HOk X.prog X.w H' h'):Inv X pins σ H' { s with heap:=h',toks:=t' }:=by
 obtain ⟨m,⟨o,es,ep,ho,r⟩,_⟩:=id I.loc
 obtain ⟨sl,hL⟩:=u.any ho I.free (by simp)
 exact I.step (g':=s.gens) (d':=s.drawn) (ch:=[]) (fun _ z=>nomatch z) (fun b o _ hb _ e n=>u.keep b o e n hb (by simp)) (fun b o _ hb _ e n=>u.slot b o e n hb (by simp)) (fun b o _ e n=>u.free b o e n (by simp)) (fun b o _ e=>u.there b o e (by simp)) u.tups u.frzs u.tbls (fun m' hm=>by
  obtain ⟨o',es',ep',ho',r'⟩:=hm
  rw [ho] at ho';cases ho'
  exact ⟨_,es',ep',hL,r'⟩) hok I.bare
theorem Inv.call {g':Array GenState}{t':Nat}{d':Drawn}{ch:List Addr} (I:Inv X pins σ H s) (u:Un (frs X.stack) ch H H' s.heap h') (hok:HOk X.prog X.w H' h') (hg:AllBare g')
  (hch:∀ b∈ch,(b∈X.ex∨X.s₀.heap.objs.size≤b)∧b≠X.env.locals∧(∀ x c,X.env.cells.lookup x=some c→c≠b)∧∀ p∈X.pn ++ pins,p.1≠b) :
  Inv X pins σ H' { s with heap:=h',gens:=g',drawn:=d',toks:=t' }:=by
 obtain ⟨m,⟨o,es,ep,ho,r⟩,_⟩:=id I.loc
 obtain ⟨sl,hL⟩:=u.any ho I.free fun z=>(hch _ z).2.1 rfl
 exact I.step (ch:=ch) hch (fun b o hL hb hc e n=>u.keep b o e n (fun z=>(List.mem_cons.mp (I.stkSub b z)).elim hL hb) hc) (fun b o _ _ hc e n=>u.any e n hc) (fun b o hc e n=>u.free b o e n hc) (fun b o hc e=>u.there b o e hc) u.tups u.frzs u.tbls (fun m' hm=>by
  obtain ⟨o',es',ep',ho',r'⟩:=hm
  rw [ho] at ho';cases ho'
  exact ⟨_,es',ep',hL,r'⟩) hok hg
theorem Inv.turned {t':Nat}{it:Addr} (I:Inv X pins σ H s) (k:∀ b o,b≠it→s.heap.get? b=some o→h'.get? b=some o) (hn:H it=none) (hL:it≠X.env.locals)
  (h1:it∈X.ex∨X.s₀.heap.objs.size≤it) (h2:∀ x c,X.env.cells.lookup x=some c→c≠it) (h3:∀ p∈X.pn ++ pins,p.1≠it):Inv X pins σ H { s with heap:=h',toks:=t' }:=by
 have nit:∀ b u,H b=some u→b≠it:=fun b u e z=>by rw [z,hn] at e;cases e
 refine I.step (g':=s.gens) (d':=s.drawn) (ch:=[it]) (fun b hb=>?_) (fun b o _ _ hc e _=>k b o (fun z=>hc (by simp [z])) e) (fun b o _ _ hc e _=>⟨o.slots,k b o (fun z=>hc (by simp [z])) e⟩) (fun _ _ _ _ n=>n)
  (fun b o hc e=>⟨o,k b o (fun z=>hc (by simp [z])) e⟩) (fun _ _ e=>e) (fun _ _ _ e=>e) (fun b ps e=>⟨#[],by rw [e];simp⟩) (fun m hm=>?_) (fun b u e=>?_) I.bare
 ·have e:b=it:=by simpa using hb
  subst e
  exact ⟨h1,hL,h2,h3⟩
 ·obtain ⟨o,es,ep,ho,r⟩:=hm
  exact ⟨o,es,ep,k _ o (Ne.symm hL) ho,r⟩
 ·refine (I.hok b u e).stay (fun c v hc q=>k c v ?_ q) (fun _ q=>q) fun _ _ q=>q
  rcases hc with z | z
  ·rw [z];exact nit b u e
  ·exact nit c _ z
theorem Inv.tok (I:Inv X pins σ H s) (t:Nat):Inv X pins σ H { s with toks:=t }:=I.un (h':=s.heap) (t':=t) Un.refl I.hok
theorem Inv.kept {t':Nat} (I:Inv X pins σ H s) (k:∀ b u,s.heap.get? b=some u→h'.get? b=some u):Inv X pins σ H { s with heap:=h',toks:=t' }:=I.un (Un.kept k) (I.hok.kept k)
theorem Inv.laid {a:Addr}{o:HO}{t':Nat} (I:Inv X pins σ H s) (k:∀ b u,s.heap.get? b=some u→h'.get? b=some u) (hp:s.heap.objs.size≤a) (new:ObjOk X.prog X.w (upd H a o) h' a o) :
  Inv X pins σ (upd H a o) { s with heap:=h',toks:=t' }:=I.un (Un.laid k hp (I.hok.fresh hp)) (I.hok.laid k hp new)
theorem Inv.write {x e:Addr}{o:HO}{t':Nat} (I:Inv X pins σ H s) (mu:Mut (H x)) (he:e=x∨H e=some (.own x)) (k:∀ b u,b≠e→s.heap.get? b=some u→h'.get? b=some u) (heo:∃ u,h'.get? e=some u)
  (new:ObjOk X.prog X.w (upd H x o) h' x o):Inv X pins σ (upd H x o) { s with heap:=h',toks:=t' }:=I.un (Un.write mu he k heo) (I.hok.write mu he k heo new)
theorem Inv.pins_of {pins':List (Addr × Obj)} (I:Inv X pins σ H s) (h:∀ p∈pins',s.heap.get? p.1=some p.2∧H p.1=none∧p.1≠X.env.locals∧p.1 ∉ X.fs∧∀ v,p.2.data≠.cell v):Inv X pins' σ H s :=
 ⟨I.ok,I.os,I.bare,I.base,I.loc,I.cell,I.free,I.freeC,fun p hp=>(List.mem_append.mp hp).elim (fun z=>I.pin p (List.mem_append_left _ z)) (h p),I.hok,I.len⟩
theorem nodup_ix {N:List Str} (hN:N.Nodup) {i j:Nat}{x:Str} (a:N[i]? = some x) (b:N[j]? = some x):i=j:=by
 obtain ⟨h1,e1⟩:=List.getElem?_eq_some_iff.mp a
 obtain ⟨h2,e2⟩:=List.getElem?_eq_some_iff.mp b
 exact (List.getElem_inj hN).mp (e1.trans e2.symm)
theorem store_ok2 {M:Model}{A:Around}{E:Value→Shared→Prop}{i:Nat}{x:Str}{v:V}{u:Value}{Q:Unit→Shared→Prop} (I:Inv X pins σ H s) (hN:X.N.Nodup) (hi:X.N[i]? = some x) (hx:Loc X.env.scope x) (r:RelV v u)
  (h:∀ s',Inv X pins (σ.set i (some v)) H s'→(∃ a,Heap.SameBut a s.heap s'.heap∧(a=X.env.locals∨X.env.cells.lookup x=some a))→Q () s') (hf:X.fn x=true∨X.env.scope.names.lookup x=some .local:=by first | exact .inl rfl | exact .inr rfl | assumption):wpAny M A (storeName X.env x u) Q E s:=by
 obtain ⟨m,hn,hl⟩:=id I.loc
 have hcls:(X.env.scope.kind == .class || (X.env.scope.kind == .module && X.env.locals != X.env.globals))=false:=by rw [I.ok.kind];rfl
 have hiσ:i<σ.length:=by rw [I.len];exact (List.getElem?_eq_some_iff.mp hi).1
 have cne:=I.cne
 have tracked:∀ {a:Addr}{h':Heap},(∃ o,s.heap.get? a=some o∧H a=none)→Heap.SameBut a s.heap h'→HOk X.prog X.w H h':=fun {a h'} ha hs b ob e=>by
  obtain ⟨_,_,hfree⟩:=ha
  refine (I.hok b ob e).stay (fun c w' hc q=>(hs.2 c ?_).trans q) (fun _ q=>q) fun _ _ q=>q
  rintro rfl
  rcases hc with rfl | hc
  ·rw [hfree] at e;cases e
  ·rw [hfree] at hc;cases hc
 rcases hx with hk | hk
 ·refine wpAny_storeName_local hk hn (fun h' hn' hs=>?_) hcls
  obtain ⟨oL,_,_,hoL,_⟩:=id hn
  refine h _ ⟨I.ok,I.os,I.bare,⟨fun b o e n hb hx=>?_,fun b o e n hb hx=>?_,I.base.free,fun b o e hx=>?_,I.base.tups,I.base.frzs,I.base.tbls⟩,⟨_,hn',fun j y v' e1 e2 e3=>?_⟩,fun y c e=>?_,I.free,I.freeC,fun p hp=>?_,tracked ⟨oL,hoL,I.free⟩ hs,by simpa using I.len⟩ ⟨_,hs,.inl rfl⟩
  ·exact (hs.2 b (Nat.ne_of_lt (Nat.lt_of_lt_of_le (Heap.lt_size e) I.ok.above))).trans (I.base.keep b o e n hb hx)
  ·obtain ⟨sl,e1⟩:=I.base.slot b o e n hb hx
   exact ⟨sl,(hs.2 b (Nat.ne_of_lt (Nat.lt_of_lt_of_le (Heap.lt_size e) I.ok.above))).trans e1⟩
  ·obtain ⟨o',e1⟩:=I.base.there b o e hx
   exact ⟨o',(hs.2 b (Nat.ne_of_lt (Nat.lt_of_lt_of_le (Heap.lt_size e) I.ok.above))).trans e1⟩
  ·by_cases hj:j=i
   ·subst hj
    rw [hi] at e1;cases e1
    rw [List.getElem?_set_self hiσ] at e2
    cases e2
    exact ⟨u,r,.inl ⟨hk,by simp⟩⟩
   ·rw [List.getElem?_set_ne (Ne.symm hj)] at e2
    obtain ⟨u',r',q⟩:=hl j y v' e1 e2 e3
    refine ⟨u',r',?_⟩
    rcases q with ⟨k,e⟩ | ⟨k,c,e,z⟩
    ·refine .inl ⟨k,?_⟩
     have:y≠x:=fun e=>hj (nodup_ix hN e1 (e ▸ hi))
     simp [this,e]
    ·exact .inr ⟨k,c,e,z.sameBut hs (cne y c e)⟩
  ·obtain ⟨w',z⟩:=I.cell y c e
   exact ⟨w',z.sameBut hs (cne y c e)⟩
  ·obtain ⟨e,n,ne,nf,d⟩:=I.pin p hp
   exact ⟨(hs.2 p.1 ne).trans e,n,ne,nf,d⟩
 ·have hfn:X.fn x=true:=by
   rcases hf with z | z
   ·exact z
   ·rw [z] at hk;cases hk
  obtain ⟨c,hc⟩:=I.ok.has x (.inl hk)
  obtain ⟨w',z⟩:=I.cell x c hc
  refine wpAny_storeName_cell I.ok.kind hk hc z (fun h' hc' hs=>?_)
  obtain ⟨oc,hoc,hocd⟩:=id z
  refine h { s with heap:=h' } ⟨I.ok,I.os,I.bare,⟨fun b o e n hb hx=>?_,fun b o e n hb hx=>?_,I.base.free,fun b o e hx=>?_,I.base.tups,I.base.frzs,I.base.tbls⟩,⟨m,hn.sameBut hs (Ne.symm (cne x c hc)),fun j y v' e1 e2 e3=>?_⟩,fun y c' e=>?_,I.free,I.freeC,fun p hp=>?_,tracked ⟨oc,hoc,I.freeC x c hc⟩ hs,by simpa using I.len⟩ ⟨c,hs,.inr hc⟩
  ·exact (hs.2 b (Nat.ne_of_lt (Nat.lt_of_lt_of_le (Heap.lt_size e) (I.ok.cab x c hfn hc)))).trans (I.base.keep b o e n hb hx)
  ·obtain ⟨sl,e1⟩:=I.base.slot b o e n hb hx
   exact ⟨sl,(hs.2 b (Nat.ne_of_lt (Nat.lt_of_lt_of_le (Heap.lt_size e) (I.ok.cab x c hfn hc)))).trans e1⟩
  ·obtain ⟨o',e1⟩:=I.base.there b o e hx
   exact ⟨o',(hs.2 b (Nat.ne_of_lt (Nat.lt_of_lt_of_le (Heap.lt_size e) (I.ok.cab x c hfn hc)))).trans e1⟩
  ·by_cases hj:j=i
   ·subst hj
    rw [hi] at e1;cases e1
    rw [List.getElem?_set_self hiσ] at e2
    cases e2
    exact ⟨u,r,.inr ⟨.inl hk,c,hc,hc'⟩⟩
   ·rw [List.getElem?_set_ne (Ne.symm hj)] at e2
    obtain ⟨u',r',q⟩:=hl j y v' e1 e2 e3
    refine ⟨u',r',?_⟩
    rcases q with q | ⟨k,c',e,z'⟩
    ·exact .inl q
    ·refine .inr ⟨k,c',e,z'.sameBut hs ?_⟩
     rintro rfl
     exact hj (nodup_ix hN e1 (I.ok.inj _ _ _ e hc ▸ hi))
  ·by_cases hcc:c'=c
   ·subst hcc;exact ⟨_,hc'⟩
   ·obtain ⟨w2,z2⟩:=I.cell y c' e
    exact ⟨w2,z2.sameBut hs hcc⟩
  ·obtain ⟨e,n,ne,nf,d⟩:=I.pin p hp
   refine ⟨(hs.2 p.1 ?_).trans e,n,ne,nf,d⟩
   intro q
   rw [q,hoc] at e
   have q':oc=p.2:=Option.some.inj e
   exact d w' (by rw [← q'];exact hocd)
theorem store_ok {M:Model}{A:Around}{E:Value→Shared→Prop}{i:Nat}{x:Str}{v:V}{u:Value}{Q:Unit→Shared→Prop} (I:Inv X pins σ H s) (hN:X.N.Nodup) (hi:X.N[i]? = some x) (hx:Loc X.env.scope x) (r:RelV v u)
  (h:∀ s',Inv X pins (σ.set i (some v)) H s'→Q () s') (hf:X.fn x=true∨X.env.scope.names.lookup x=some .local:=by first | exact .inl rfl | exact .inr rfl | assumption):wpAny M A (storeName X.env x u) Q E s :=
 store_ok2 I hN hi hx r (fun s' I' _=>h s' I') hf
theorem Inv.call' {s':Shared}{ch:List Addr} (I:Inv X pins σ H s) (ho:s'.os=s.os) (u:Un (frs X.stack) ch H H' s.heap s'.heap) (hok:HOk X.prog X.w H' s'.heap) (hg:AllBare s'.gens)
  (hch:∀ b∈ch,(b∈X.ex∨X.s₀.heap.objs.size≤b)∧b≠X.env.locals∧(∀ x c,X.env.cells.lookup x=some c→c≠b)∧∀ p∈X.pn ++ pins,p.1≠b):Inv X pins σ H' s':=by
 obtain ⟨h',g',d',t',o'⟩:=s'
 have e:o'=s.os:=ho
 subst e
 exact I.call (g':=g') (t':=t') (d':=d') u hok hg hch
end
abbrev XK:=Value→Option Addr→Hp→Prop
abbrev St:=List (Option V)
abbrev VK:=V→Hp→Prop
abbrev TE:=St→Hp→VK→Prop
abbrev TT:=St→Hp→(Bool→Hp→Prop)→Prop
abbrev TA:=St→Hp→(List V→Hp→Prop)→Prop
structure Ends where
 nx:St→Hp→Prop
 rt:VK
 bk:St→Hp→Prop:=fun _ _=>False
 ct:St→Hp→Prop:=fun _ _=>False
abbrev TS:=Ends→St→Hp→Prop
def EP (X:Cx) (pins:List (Addr × Obj)) (σ:St) (Q:VK) (u:Value) (s':Shared):Prop:=∃ v H',Inv X pins σ H' s'∧RelV v u∧Q v H'
def TP (X:Cx) (pins:List (Addr × Obj)) (σ:St) (Q:Bool→Hp→Prop) (b:Bool) (s':Shared):Prop:=∃ H',Inv X pins σ H' s'∧Q b H'
def AP (X:Cx) (pins:List (Addr × Obj)) (σ:St) (Q:List V→Hp→Prop) (us:List Value) (s':Shared):Prop:=∃ vs H',Inv X pins σ H' s'∧Vals vs us∧Q vs H'
def SP (X:Cx) (pins:List (Addr × Obj)) (D:Ends) (f:Flow) (s':Shared):Prop :=
 match f with
 | .next=>∃ σ' H',Inv X pins σ' H' s'∧D.nx σ' H'
 | .brk=>∃ σ' H',Inv X pins σ' H' s'∧D.bk σ' H'
 | .cont=>∃ σ' H',Inv X pins σ' H' s'∧D.ct σ' H'
 | .ret u=>∃ v σ' H',Inv X pins σ' H' s'∧RelV v u∧D.rt v H'
def PE (X:Cx) (e:Expr) (t:TE):Prop :=
 ∀ (pins:List (Addr × Obj)) (s:Shared) (σ:St) (H:Hp) (Q:VK),Inv X pins σ H s→t σ H Q→wpAny (model X.prog X.w) X.A (eval e X.env) (EP X pins σ Q) X.xe s
def PT (X:Cx) (e:Expr) (t:TT):Prop :=
 ∀ (pins:List (Addr × Obj)) (s:Shared) (σ:St) (H:Hp) (Q:Bool→Hp→Prop),Inv X pins σ H s→t σ H Q→wpAny (model X.prog X.w) X.A (isTrue e X.env (eval e X.env)) (TP X pins σ Q) X.xe s
def PW (X:Cx) (e:Expr) (t:TT):Prop :=
 ∀ (whole:Sem Value) (pins:List (Addr × Obj)) (s:Shared) (σ:St) (H:Hp) (Q:Bool→Hp→Prop),Inv X pins σ H s→t σ H Q→wpAny (model X.prog X.w) X.A (isTrue e X.env whole) (TP X pins σ Q) X.xe s
theorem PW.pt {X:Cx}{e:Expr}{t:TT} (h:PW X e t):PT X e t:=h _
def PA (X:Cx) (es:List Expr) (t:TA):Prop :=
 ∀ (pos:Pos) (pins:List (Addr × Obj)) (s:Shared) (σ:St) (H:Hp) (Q:List V→Hp→Prop),Inv X pins σ H s→t σ H Q→wpAny (model X.prog X.w) X.A (spliced (backTo pos (starEach es X.env))) (AP X pins σ Q) X.xe s
def PS (X:Cx) (st:Stmt) (t:TS):Prop :=
 ∀ (pins:List (Addr × Obj)) (s:Shared) (σ:St) (H:Hp) (D:Ends),Inv X pins σ H s→t D σ H→wpAny (model X.prog X.w) X.A (exec st X.env) (SP X pins D) X.xe s
def PSs (X:Cx) (st:List Stmt) (t:TS):Prop :=
 ∀ (pins:List (Addr × Obj)) (s:Shared) (σ:St) (H:Hp) (D:Ends),Inv X pins σ H s→t D σ H→wpAny (model X.prog X.w) X.A (execs st X.env) (SP X pins D) X.xe s
theorem thn {α:Type}{t:Sem α}{Q Q':α→Shared→Prop}{M:Model}{A:Around}{E:Value→Shared→Prop}{s:Shared} (h:wpAny M A t Q E s) (hQ:∀ a s,Q a s→Q' a s):wpAny M A t Q' E s:=wpAny_mono h hQ fun _ _ x=>x
section
variable {X:Cx}
def tVar (i:Nat):TE:=fun σ H Q=>∃ v,σ[i]? = some (some v)∧Q v H
def tC (v:V):TE:=fun _ H Q=>Q v H
theorem pe_var {i:Nat}{x:Str}{pos:Pos} (hN:X.N[i]? = some x) (hv:Vis X.env.scope x) (hd:(x == ("__debug__" : Str))=false:=by decide) (hcd:(x == ("__classdict__" : Str))=false:=by decide):PE X (.Name x pos) (tVar i):=by
 intro pins s σ H Q I h
 obtain ⟨v,e,h⟩:=h
 obtain ⟨m,hn,hl⟩:=I.loc
 obtain ⟨u,r,l⟩:=hl i x v hN e hv
 have fin:EP X pins σ Q u s:=⟨v,H,I,r,h⟩
 rcases l with ⟨hk,hm⟩ | ⟨hk,c,hc,hcell⟩
 ·exact wpAny_Name (wpAny_loadName_local I.ok.kind hk hn hm fin) hd
 ·rcases hk with hk | hk
  ·exact wpAny_Name (wpAny_loadName_cell I.ok.kind hk hc hcell fin) hd
  ·exact wpAny_Name (wpAny_loadName_free I.ok.kind hk hc hcell fin hcd) hd
theorem pe_int {i j pos}:PE X (.Constant (.int i) j pos) (tC (.int i)):=fun _ _ _ H _ I h=>wpAny_Constant_int ⟨.int i,H,I.tok _,⟨_,rfl⟩,h⟩
theorem pe_bl {b j pos}:PE X (.Constant (.bool b) j pos) (tC (.bl b)):=fun _ _ _ H _ I h=>Constant_bool ⟨.bl b,H,I,rfl,h⟩
theorem pe_non {j pos}:PE X (.Constant .none j pos) (tC .non):=fun _ _ _ H _ I h=>Constant_none ⟨.non,H,I,rfl,h⟩
theorem pe_str {x j pos}:PE X (.Constant (.str x) j pos) (tC (.str x)):=fun _ _ _ H _ I h=>Calls.Constant_str ⟨.str x,H,I.tok _,⟨_,rfl⟩,h⟩
def Gl (X:Cx) (x:Str):Prop:=X.env.kindOf x=some .globalImplicit
theorem ld_glob {E:Value→Shared→Prop}{pins:List (Addr × Obj)}{s:Shared}{σ:St}{H:Hp}{x:Str}{u:Value}{pos:Pos}{Q:Value→Shared→Prop} (I:Inv X pins σ H s) (hg:Gl X x) (hm:X.mg x=some u) (h:Q u s)
  (hd:(x == ("__debug__" : Str))=false:=by decide):wpAny (model X.prog X.w) X.A (eval (.Name x pos) X.env) Q E s :=
 Calls.Name_function_global I.ok.kind hg (Calls.loadGlobal_global (by rw [I.ok.glob];exact I.mod.glob.keeps I.bk) hm h) hd
theorem ld_blt {E:Value→Shared→Prop}{pins:List (Addr × Obj)}{s:Shared}{σ:St}{H:Hp}{x:Str}{u:Value}{pos:Pos}{Q:Value→Shared→Prop} (I:Inv X pins σ H s) (hg:Gl X x) (hm:X.mg x=none) (hv:bootBuiltins x=some u) (h:Q u s)
  (hn:x ≠ "__name__":=by decide) (hd:(x == ("__debug__" : Str))=false:=by decide):wpAny (model X.prog X.w) X.A (eval (.Name x pos) X.env) Q E s:=by
 obtain ⟨mb,h1,h2⟩:=I.mod.blt
 exact Calls.Name_function_global I.ok.kind hg (Calls.loadGlobal_builtin (by rw [I.ok.glob];exact I.mod.glob.keeps I.bk) hm (by rw [I.ok.blt];exact h1.keeps I.bk) ((h2 x hn).trans hv) h) hd
theorem pe_glob {x:Str}{v:V}{u:Value}{pos:Pos} (hg:Gl X x) (hm:X.mg x=some u) (r:RelV v u) (hd:(x == ("__debug__" : Str))=false:=by decide):PE X (.Name x pos) (tC v) :=
 fun _ _ _ H _ I h=>ld_glob I hg hm ⟨v,H,I,r,h⟩ hd
theorem pe_bltn {x:Str}{v:V}{u:Value}{pos:Pos} (hg:Gl X x) (hm:X.mg x=none) (hv:bootBuiltins x=some u) (r:RelV v u) (hn:x ≠ "__name__":=by decide) (hd:(x == ("__debug__" : Str))=false:=by decide):PE X (.Name x pos) (tC v) :=
 fun _ _ _ H _ I h=>ld_blt I hg hm hv ⟨v,H,I,r,h⟩ hn hd
variable {a b:Expr}{ta tb:TE}{pos:Pos}
def PC (X:Cx) (op:CmpOp) (a b:Expr) (t:TE):Prop :=
 ∀ (pins:List (Addr × Obj)) (s:Shared) (σ:St) (H:Hp) (Q:VK),Inv X pins σ H s→t σ H Q →
  wpAny (model X.prog X.w) X.A (eval a X.env) (fun v s₁=>wpAny (model X.prog X.w) X.A (eval b X.env) (fun u s₂=>wpAny (model X.prog X.w) X.A (compareOp op v u) (EP X pins σ Q) X.xe s₂) X.xe s₁) X.xe s
theorem nobehind (b:Expr) {op:CmpOp} (h:op≠.In) (h2:op≠.NotIn):behindInMarks op b=false:=by
 have e1:(op == CmpOp.In)=false:=by cases op <;> first | rfl | exact absurd rfl h
 have e2:(op == CmpOp.NotIn)=false:=by cases op <;> first | rfl | exact absurd rfl h2
 cases b <;> simp [behindInMarks,e1,e2]
def tB (t:TE):TT:=fun σ H Q=>t σ H fun x H1=>∃ c,x=.bl c∧Q c H1
theorem pt_cmp {op:CmpOp}{t:TE} (h:PC X op a b t) (h1:behindInMarks op b=false:=by first | exact nobehind _ (by decide) (by decide) | rfl):PT X (.Compare a [op] [b] pos) (tB t):=by
 intro pins s σ H Q I hw
 refine wpAny_isTrue_Compare1 (thn (h pins s σ H _ I hw) fun v s1 h1=>thn h1 fun u s2 h2=>thn h2 fun c s3 ⟨x,H1,I1,r1,q1⟩=>?_) h1
 obtain ⟨d,rfl,q⟩:=q1
 cases r1
 exact wpAny_truthy_bool ⟨H1,I1,q⟩
variable {tA tB':TT}{rest:List Expr}
def tAnd (t u:TT):TT:=fun σ H Q=>t σ H fun c H1=>if c=true then u σ H1 Q else Q false H1
def tOr (t u:TT):TT:=fun σ H Q=>t σ H fun c H1=>if c=true then Q true H1 else u σ H1 Q
def tNot (t:TT):TT:=fun σ H Q=>t σ H fun c H1=>Q (!c) H1
theorem pw_and1 (ha:PT X a tA):PW X (.BoolOp .And [a] pos) tA:=by
 intro wh pins s σ H Q I h
 refine isTrue_and (thn (ha pins s σ H Q I h) fun c s1 e=>?_)
 cases c with
 | true=>exact isTrue_and_nil e
 | false=>exact e
theorem pw_or1 (ha:PT X a tA):PW X (.BoolOp .Or [a] pos) tA:=by
 intro wh pins s σ H Q I h
 refine isTrue_or (thn (ha pins s σ H Q I h) fun c s1 e=>?_)
 cases c with
 | false=>exact isTrue_or_nil e
 | true=>exact e
theorem pw_and (ha:PT X a tA) (hb:PW X (.BoolOp .And (b :: rest) pos) tB'):PW X (.BoolOp .And (a :: b :: rest) pos) (tAnd tA tB'):=by
 intro wh pins s σ H Q I h
 refine isTrue_and (thn (ha pins s σ H _ I h) fun c s1 ⟨H1,I1,q1⟩=>?_)
 cases c with
 | true=>exact hb wh pins s1 σ H1 Q I1 q1
 | false=>exact ⟨H1,I1,q1⟩
theorem pw_or (ha:PT X a tA) (hb:PW X (.BoolOp .Or (b :: rest) pos) tB'):PW X (.BoolOp .Or (a :: b :: rest) pos) (tOr tA tB'):=by
 intro wh pins s σ H Q I h
 refine isTrue_or (thn (ha pins s σ H _ I h) fun c s1 ⟨H1,I1,q1⟩=>?_)
 cases c with
 | true=>exact ⟨H1,I1,q1⟩
 | false=>exact hb wh pins s1 σ H1 Q I1 q1
theorem pt_not (ha:PT X a tA):PT X (.UnaryOp .Not a pos) (tNot tA):=by
 intro pins s σ H Q I h
 exact isTrue_not (ha pins s σ H (fun c H1=>Q (!c) H1) I h)
def tOrV (ta tb:TE):TE:=fun σ H Q=>ta σ H fun x H1=>∃ c,x=.bl c∧if c=true then Q (.bl true) H1 else tb σ H1 Q
theorem pe_one {op}{t:TE} (h:PE X a t):PE X (.BoolOp op [a] pos) t:=fun pins s σ H Q I hw=>BoolOp_one (h pins s σ H Q I hw)
theorem pe_or (ha:PE X a ta) (hb:PE X (.BoolOp .Or (b :: rest) pos) tb):PE X (.BoolOp .Or (a :: b :: rest) pos) (tOrV ta tb):=by
 intro pins s σ H Q I h
 refine BoolOp_or (thn (ha pins s σ H _ I h) fun v s1 ⟨x,H1,I1,r1,q1⟩=>?_)
 obtain ⟨c,rfl,q1⟩:=q1
 cases r1
 refine wpAny_truthy_bool ?_
 cases c with
 | false=>exact hb pins s1 σ H1 Q I1 q1
 | true=>exact ⟨.bl true,H1,I1,rfl,q1⟩
end
def SqL (K:PySem.W.Frag) (H:Hp) (a:Addr) (xs:List V):Prop :=
 Rd H a (.lst xs) ∨
  ∃ (o:Obj) (its:Array Value) (n:Nat),K.lookup a=some o∧o.cls=.type "list" ∧ o.dict=none∧o.data=.seq its n∧its.size≤sizeLine∧Vals xs its.toList
def SqT (K:PySem.W.Frag) (H:Hp) (a:Addr) (xs:List V):Prop :=
 Rd H a (.tup xs) ∨
  ∃ (o:Obj) (its:Array Value) (n:Nat),K.lookup a=some o∧o.cls=.type "tuple" ∧ o.data=.seq its n∧its.size≤sizeLine∧Vals xs its.toList
def absV:Value→Option V
 | .none=>some .non
 | .bool b=>some (.bl b)
 | .int i _=>some (.int i)
 | .str x _=>some (.str x)
 | .bytes b _=>some (.byt b)
 | .float b _=>some (.flt b)
 | .ref a=>some (.ref a)
 | .type n=>some (.ty n)
 | _=>none
theorem RelV.abs {x:V}{u:Value} (r:RelV x u):absV u=some x:=by
 cases x with
 | non=>cases r;rfl
 | bl _=>cases r;rfl
 | int _=>obtain ⟨t,rfl⟩:=r;rfl
 | str _=>obtain ⟨t,rfl⟩:=r;rfl
 | byt _=>obtain ⟨t,rfl⟩:=r;rfl
 | flt _=>obtain ⟨t,rfl⟩:=r;rfl
 | ref _=>cases r;rfl
 | ty _=>cases r;rfl
theorem RelV.inj {x y:V}{u:Value} (r:RelV x u) (q:RelV y u):x=y:=Option.some.inj (r.abs.symm.trans q.abs)
theorem Vals.inj:∀ {xs ys:List V}{us:List Value},Vals xs us→Vals ys us→xs=ys
 | _,_,_,.nil,.nil=>rfl
 | _,_,_,.cons r t,.cons r' t'=>by rw [r.inj r',Vals.inj t t']
section
variable {X:Cx}{pins:List (Addr × Obj)}{σ:St}{H:Hp}{s:Shared}{a:Addr}{xs ys:List V}
theorem SqL.of {K:PySem.W.Frag} (h:H a=some (.lst xs)):SqL K H a xs:=.inl (.inl h)
theorem SqT.of {K:PySem.W.Frag} (h:H a=some (.tup xs)):SqT K H a xs:=.inl (.inl h)
theorem Inv.list (I:Inv X pins σ H s) (h:SqL X.K H a xs):∃ its:List Value,Vals xs its∧PlainL s.heap a its.toArray∧xs.length≤sizeLine:=by
 rcases h with h | ⟨o,its,n,hk,hc,hd,hs,hz,r⟩
 ·obtain ⟨z,its,n,r,e⟩:=h.ok I.hok
  exact ⟨its,r,⟨_,n,e,rfl,rfl,rfl⟩,z⟩
 ·refine ⟨its.toList,r,⟨o,n,I.kIn a o hk,hc,hd,by simpa using hs⟩,?_⟩
  have e:=r.length
  simp only [Array.length_toList] at e
  omega
theorem Inv.tuple (I:Inv X pins σ H s) (h:SqT X.K H a xs):∃ its:List Value,Vals xs its∧IsTup s.heap a its.toArray∧xs.length≤sizeLine:=by
 rcases h with h | ⟨o,its,n,hk,hc,hs,hz,r⟩
 ·obtain ⟨z,its,r,p⟩:=h.ok I.hok
  exact ⟨its,r,p,z⟩
 ·refine ⟨its.toList,r,⟨o,I.kIn a o hk,hc,n,by simpa using hs⟩,?_⟩
  have e:=r.length
  simp only [Array.length_toList] at e
  omega
theorem Inv.list_inj (I:Inv X pins σ H s) (h:SqL X.K H a xs) (h':SqL X.K H a ys):xs=ys:=by
 obtain ⟨its,r,⟨o,n,e,_,_,d⟩,_⟩:=I.list h
 obtain ⟨its',r',⟨o',n',e',_,_,d'⟩,_⟩:=I.list h'
 rw [e] at e';cases e'
 rw [d] at d'
 injection d' with d1 _
 have:its=its':=by simpa using congrArg Array.toList d1
 subst this
 exact r.inj r'
theorem Inv.tuple_inj (I:Inv X pins σ H s) (h:SqT X.K H a xs) (h':SqT X.K H a ys):xs=ys:=by
 obtain ⟨its,r,⟨o,e,_,n,d⟩,_⟩:=I.tuple h
 obtain ⟨its',r',⟨o',e',_,n',d'⟩,_⟩:=I.tuple h'
 rw [e] at e';cases e'
 rw [d] at d'
 injection d' with d1 _
 have:its=its':=by simpa using congrArg Array.toList d1
 subst this
 exact r.inj r'
end
abbrev Cx.wish (X:Cx) (E:Value→Shared→Prop):Cx:={ X with xe:=E }
abbrev Cx.nox (X:Cx):Cx:=X.wish fun _ _=>False
theorem Cx.Ok.wish {X:Cx} (ok:X.Ok) (E:Value→Shared→Prop):(X.wish E).Ok :=
 ⟨ok.mod,ok.kind,ok.glob,ok.blt,ok.above,ok.inj,ok.has,ok.cab,ok.hd,ok.frames,ok.stk,ok.exf,ok.bs,ok.bsz,ok.noex,ok.exfs,ok.funs,ok.frf⟩
theorem Cx.Ok.unwish {X:Cx}{E:Value→Shared→Prop} (ok:(X.wish E).Ok):X.Ok :=
 ⟨ok.mod,ok.kind,ok.glob,ok.blt,ok.above,ok.inj,ok.has,ok.cab,ok.hd,ok.frames,ok.stk,ok.exf,ok.bs,ok.bsz,ok.noex,ok.exfs,ok.funs,ok.frf⟩
section
variable {X:Cx}{pins:List (Addr × Obj)}{σ:St}{H:Hp}{s:Shared}{E:Value→Shared→Prop}
theorem Inv.wish (I:Inv X pins σ H s) (E:Value→Shared→Prop):Inv (X.wish E) pins σ H s:=⟨I.ok.wish E,I.os,I.bare,I.base,I.loc,I.cell,I.free,I.freeC,I.pin,I.hok,I.len⟩
theorem Inv.unwish (I:Inv (X.wish E) pins σ H s):Inv X pins σ H s:=⟨I.ok.unwish,I.os,I.bare,I.base,I.loc,I.cell,I.free,I.freeC,I.pin,I.hok,I.len⟩
theorem SP.unwish {D:Ends}{f:Flow}{s':Shared} (h:SP (X.wish E) pins D f s'):SP X pins D f s':=by
 cases f with
 | next=>obtain ⟨σ',H',I,q⟩:=h;exact ⟨σ',H',I.unwish,q⟩
 | brk=>obtain ⟨σ',H',I,q⟩:=h;exact ⟨σ',H',I.unwish,q⟩
 | cont=>obtain ⟨σ',H',I,q⟩:=h;exact ⟨σ',H',I.unwish,q⟩
 | ret u=>obtain ⟨v,σ',H',I,r,q⟩:=h;exact ⟨v,σ',H',I.unwish,r,q⟩
theorem PSs.nox {st:List Stmt}{t:TS} (h:PSs X.nox st t):PSs X st t:=fun pins s σ H D I hw =>
 wpAny_mono (h pins s σ H D (I.wish _) hw) (fun _ _ q=>q.unwish) fun _ _ z=>False.elim z
end
section
variable {X:Cx}{st:Stmt}{rest:List Stmt}{t u:TS}{e:Expr}{te:TE}{pos:Pos}
def tNext:TS:=fun D σ H=>D.nx σ H
def tSeq (t u:TS):TS:=fun D σ H=>t { D with nx:=u D } σ H
theorem pss_nil:PSs X [] tNext:=fun _ _ σ H _ I h=>wpAny_execs_nil ⟨σ,H,I,h⟩
theorem pss_cons (h1:PS X st t) (h2:PSs X rest u):PSs X (st :: rest) (tSeq t u):=by
 intro pins s σ H D I h
 refine wpAny_execs_cons (thn (h1 pins s σ H { D with nx:=u D } I h) fun f s1 q=>?_)
 cases f with
 | next =>
  obtain ⟨σ',H',I',q⟩:=q
  exact h2 pins s1 σ' H' D I' q
 | ret v=>exact q
 | brk=>exact q
 | cont=>exact q
theorem pss_one (h1:PS X st t):PSs X [st] t:=by
 intro pins s σ H D I h
 refine wpAny_execs_cons (thn (h1 pins s σ H D I h) fun f s1 q=>?_)
 cases f with
 | next=>exact wpAny_execs_nil q
 | ret v=>exact q
 | brk=>exact q
 | cont=>exact q
theorem Inv.quiet {pins:List (Addr × Obj)}{σ:St}{H:Hp}{s:Shared} (I:Inv X pins σ H s):interactive X.env=false:=by simp [interactive,I.ok.kind]
def tDrop (te:TE):TS:=fun D σ H=>te σ H fun _ H1=>D.nx σ H1
theorem ps_expr (he:PE X e te) (hs:swapsWith e none pos.line X.env=pure false:=by rfl):PS X (.Expr e pos) (tDrop te):=by
 intro pins s σ H D I h
 exact wpAny_Expr_any (thn (he pins s σ H _ I h) fun v s1 ⟨x,H1,I1,r1,q1⟩=>⟨σ,H1,I1,q1⟩) I.quiet hs
def tRet (te:TE):TS:=fun D σ H=>te σ H D.rt
theorem ps_ret (he:PE X e te):PS X (.Return (some e) pos) (tRet te):=by
 intro pins s σ H D I h
 exact wpAny_Return_some (thn (he pins s σ H _ I h) fun v s1 ⟨x,H1,I1,r1,q1⟩=>⟨x,σ,H1,I1,r1,q1⟩)
def tIfS (c:TT) (t u:TS):TS:=fun D σ H=>c σ H fun b H1=>if b=true then t D σ H1 else u D σ H1
theorem ps_if {c:Expr}{a b:List Stmt}{tc:TT} (hc:PT X c tc) (ha:PSs X a t) (hb:PSs X b u):PS X (.If c a b pos) (tIfS tc t u):=by
 intro pins s σ H D I h
 refine wpAny_If (thn (hc pins s σ H _ I h) fun d s1 ⟨H1,I1,q1⟩=>?_)
 cases d with
 | true=>exact ha pins s1 σ H1 D I1 q1
 | false=>exact hb pins s1 σ H1 D I1 q1
end
abbrev TG:=V→St→Hp→(St→Hp→Prop)→Prop
abbrev TGs:=List V→St→Hp→(St→Hp→Prop)→Prop
def PG (X:Cx) (target:Expr) (t:TG):Prop :=
 ∀ (pins:List (Addr × Obj)) (s:Shared) (σ:St) (H:Hp) (v:V) (u:Value) (Q:St→Hp→Prop),Inv X pins σ H s→RelV v u→t v σ H Q →
  wpAny (model X.prog X.w) X.A (assign target X.env u) (fun _ s'=>∃ σ' H',Inv X pins σ' H' s'∧Q σ' H') X.xe s
def PGs (X:Cx) (ts:List Expr) (t:TGs):Prop :=
 ∀ (pins:List (Addr × Obj)) (s:Shared) (σ:St) (H:Hp) (vs:List V) (us:List Value) (Q:St→Hp→Prop),Inv X pins σ H s→Vals vs us→t vs σ H Q →
  wpAny (model X.prog X.w) X.A (assignInOrder ((assignEach ts X.env).map (·.2)) us) (fun _ s'=>∃ σ' H',Inv X pins σ' H' s'∧Q σ' H') X.xe s
abbrev TSet:=V→V→V→Hp→(Hp→Prop)→Prop
def PSet (X:Cx) (t:TSet):Prop :=
 ∀ (pins:List (Addr × Obj)) (s:Shared) (σ:St) (H:Hp) (o i v:V) (ov iv u:Value) (Q:Hp→Prop),Inv X pins σ H s→RelV o ov→RelV i iv→RelV v u→t o i v H Q →
  wpAny (model X.prog X.w) X.A (setItem ov iv u) (fun _ s'=>∃ H',Inv X pins σ H' s'∧Q H') X.xe s
abbrev TIp:=V→V→Hp→VK→Prop
def PIp (X:Cx) (op:Operator) (t:TIp):Prop :=
 ∀ (pins:List (Addr × Obj)) (s:Shared) (σ:St) (H:Hp) (x y:V) (v u:Value) (Q:VK),Inv X pins σ H s→RelV x v→RelV y u→t x y H Q →
  wpAny (model X.prog X.w) X.A (inplaceOp op v u) (EP X pins σ Q) X.xe s
section
variable {X:Cx}{pos:Pos}
def gName (i:Nat):TG:=fun v σ H Q=>Q (σ.set i (some v)) H
theorem pg_name {i:Nat}{x:Str} (hN:X.N.Nodup) (hi:X.N[i]? = some x) (hx:Loc X.env.scope x) (hf:X.fn x=true∨X.env.scope.names.lookup x=some .local:=by first | exact .inl rfl | exact .inr rfl | assumption):PG X (.Name x pos) (gName i):=by
 intro pins s σ H v u Q I r h
 exact wpAny_assign_Name (store_ok I hN hi hx r (fun s' I'=>⟨_,H,I',h⟩) hf)
def gNil:TGs:=fun vs σ H Q=>vs=[]∧Q σ H
def gCons (t:TG) (u:TGs):TGs:=fun vs σ H Q=>∃ v r,vs=v :: r∧t v σ H fun σ' H'=>u r σ' H' Q
theorem pgs_nil:PGs X [] gNil:=by
 intro pins s σ H vs us Q I r h
 obtain ⟨e,h⟩:=h
 subst e
 cases r
 exact assignInOrder_nil ⟨σ,H,I,h⟩
theorem pgs_cons {e:Expr}{es:List Expr}{t:TG}{u:TGs} (h1:PG X e t) (h2:PGs X es u)
  (hs:(assignEach (e :: es) X.env).map (·.2)=assign e X.env :: (assignEach es X.env).map (·.2):=by rfl):PGs X (e :: es) (gCons t u):=by
 intro pins s σ H vs us Q I r h
 obtain ⟨v,vr,e1,h⟩:=h
 subst e1
 cases r with
 | cons r rr =>
  rw [hs]
  refine assignInOrder_cons (thn (h1 pins s σ H _ _ _ I r h) fun _ s1 ⟨σ1,H1,I1,q1⟩=>?_)
  exact h2 pins s1 σ1 H1 _ _ Q I1 rr q1
def gTup (K:PySem.W.Frag) (n:Nat) (t:TGs):TG:=fun v σ H Q=>∃ a xs,v=.ref a∧SqT K H a xs∧xs.length=n∧t xs σ H Q
theorem pg_tup {es:List Expr}{k:Nat}{t:TGs}{n:Nat} (hc:X.calm=true) (h:PGs X es t)
  (hn:(assignEach es X.env).length=n:=by rfl) (hst:(assignEach es X.env).findIdx? (·.1)=none:=by rfl):PG X (.Tuple es k pos) (gTup X.K n t):=by
 intro pins s σ H v u Q I r hw
 obtain ⟨a,xs,e1,hq,hl,hw⟩:=hw
 subst e1
 cases r
 obtain ⟨its,rv,ht,hz⟩:=I.tuple hq
 refine assign_Tuple_tuple (I.ok.hd hc) ht (by simp [hn,← hl,rv.length]) hst fun h' hx=>?_
 have I1:Inv X pins σ H { s with heap:=h' }:=I.kept (t':=s.toks) fun b o e=>hx b o (Nat.ne_of_lt (Heap.lt_size e)) e
 exact h pins _ σ H xs _ Q I1 (by simpa using rv) hw
def gSub (to ti:TE) (t:TSet):TG:=fun v σ H Q=>to σ H fun o H1=>ti σ H1 fun i H2=>t o i v H2 fun H3=>Q σ H3
theorem pg_sub {o i:Expr}{to ti:TE}{t:TSet} (ho:PE X o to) (hi:PE X i ti) (hs:PSet X t)
  (ha:∀ v,assign (.Subscript o i pos) X.env v=(do
   let ov ← holding [v] (eval o X.env)
   let iv ← holding [v,ov] (eval i X.env)
   standAt pos
   holding [v,ov,iv] (setItem ov iv v)
   release [v,ov,iv] []):=by intro _;rfl):PG X (.Subscript o i pos) (gSub to ti t):=by
 intro pins s σ H v u Q I r h
 rw [ha]
 refine wpAny_bind (wpAny_holding (thn (ho pins s σ H _ I h) fun ov s1 ⟨x,H1,I1,r1,q1⟩=>?_))
 refine wpAny_bind (wpAny_holding (thn (hi pins s1 σ H1 _ I1 q1) fun iv s2 ⟨y,H2,I2,r2,q2⟩=>?_))
 refine wpAny_bind (wpAny_standAt (wpAny_bind (wpAny_holding (thn (hs pins s2 σ H2 x y v ov iv u _ I2 r1 r2 r q2) fun _ s3 ⟨H3,I3,q3⟩=>?_))))
 exact wpAny_release ⟨σ,H3,I3,q3⟩
def tAsg (te:TE) (g:TG):TS:=fun D σ H=>te σ H fun x H1=>g x σ H1 D.nx
theorem ps_asg {tg e:Expr}{te:TE}{g:TG} (he:PE X e te) (hg:PG X tg g) (hs:swapsWithSole [tg] e pos.line X.env=pure false:=by rfl) (hw:swappedStores [tg] e X.env=pure none:=by rfl)
  (h1:(assignEach [tg] X.env).map (·.2)=[assign tg X.env]:=by rfl):PS X (.Assign [tg] e pos) (tAsg te g):=by
 intro pins s σ H D I h
 refine wpAny_Assign_stores (thn (he pins s σ H _ I h) fun v s1 ⟨x,H1,I1,r1,q1⟩=>?_) hs hw
 rw [h1]
 exact thn (hg pins s1 σ H1 x v _ I1 r1 q1) fun _ s2 q=>q
theorem ps_set {i:Nat}{x:Str}{e:Expr}{te:TE}{pos':Pos} (hN:X.N.Nodup) (hi:X.N[i]? = some x) (hx:Loc X.env.scope x) (he:PE X e te) (hs:swapsWith e (some (.Name x pos')) pos.line X.env=pure false:=by rfl) (hf:X.fn x=true∨X.env.scope.names.lookup x=some .local:=by first | exact .inl rfl | exact .inr rfl | assumption) :
  PS X (.Assign [.Name x pos'] e pos) (tAsg te (gName i)):=by
 intro pins s σ H D I h
 refine wpAny_Assign_Name (thn (he pins s σ H _ I h) fun v s1 ⟨y,H1,I1,r1,q1⟩=>?_) hs
 exact store_ok I1 hN hi hx r1 (fun s2 I2=>⟨_,H1,I2,q1⟩) hf
end
section
variable {X:Cx}{pos:Pos}
def tWhile (c:TT) (tb:TS):TS:=fun D σ H=>∃ W:Nat→St→Hp→Prop,(∃ m,W m σ H)∧∀ m σ H,W m σ H →
 c σ H fun b H1=>if b=true then ∃ N:St→Hp→Prop,(∀ σ' H',N σ' H'→∃ m',m'<m∧W m' σ' H')∧tb { D with nx:=N,ct:=N,bk:=D.nx } σ H1 else D.nx σ H1
theorem ps_while {c:Expr}{body:List Stmt}{tc:TT}{tb:TS} (hp:PassesOwn (model X.prog X.w) X.A X.env X.xe) (hc:PT X c tc) (hb:PSs X body tb):PS X (.While c body [] pos) (tWhile tc tb):=by
 intro pins s σ H D I h
 obtain ⟨W,⟨m0,w0⟩,turn⟩:=h
 refine wpAny_While (codeAny_whileLoop (fun n s'=>∃ σ' H',Inv X pins σ' H' s'∧W n σ' H') ?_ m0 ⟨σ,H,I,w0⟩)
 rintro n s1 ⟨σ1,H1,I1,w1⟩
 refine wpAny_passesOwn hp (thn (hc pins s1 σ1 H1 _ I1 (turn n σ1 H1 w1)) fun b s2 ⟨H2,I2,q2⟩=>?_)
 cases b with
 | true =>
  obtain ⟨N,hN,q2⟩:=q2
  rw [if_pos rfl]
  refine wpAny_passesOwn hp (thn (hb pins s2 σ1 H2 _ I2 q2) fun f s3 q3=>?_)
  cases f with
  | next =>
   obtain ⟨σ3,H3,I3,n3⟩:=q3
   obtain ⟨m',hm,w3⟩:=hN σ3 H3 n3
   exact ⟨m',hm,σ3,H3,I3,w3⟩
  | cont =>
   obtain ⟨σ3,H3,I3,n3⟩:=q3
   obtain ⟨m',hm,w3⟩:=hN σ3 H3 n3
   exact ⟨m',hm,σ3,H3,I3,w3⟩
  | brk=>exact q3
  | ret v=>exact q3
 | false =>
  rw [if_neg Bool.false_ne_true]
  exact wpAny_execs_nil ⟨σ1,H2,I2,q2⟩
end
structure It where
 go:Nat→Hp→Prop
 yld:Nat→Hp→V→Hp→Prop
 stop:Nat→Hp→Prop
def FpOk (X:Cx) (pins:List (Addr × Obj)) (H:Hp) (b:Addr):Prop :=
 H b=none∧b≠X.env.locals∧b ∉ X.fs∧(b∈X.ex∨X.s₀.heap.objs.size≤b)∧(∀ x c,X.env.cells.lookup x=some c→c≠b)∧∀ p∈X.pn ++ pins,p.1≠b
theorem Inv.fpOk {X:Cx}{pins:List (Addr × Obj)}{σ:St}{H H':Hp}{s:Shared}{b:Addr} (I:Inv X pins σ H s) (hb:s.heap.objs.size≤b) (hn:H' b=none):FpOk X pins H' b:=by
 refine ⟨hn,Nat.ne_of_gt (Nat.lt_of_lt_of_le I.lt hb),I.nofs hb,.inr (Nat.le_trans I.sz hb),fun x c e z=>?_,fun p hp z=>?_⟩
 ·obtain ⟨v,q⟩:=I.cell x c e
  exact absurd (Nat.lt_of_lt_of_le q.lt (by rw [z];exact hb)) (Nat.lt_irrefl _)
 ·exact absurd (Nat.lt_of_lt_of_le (Heap.lt_size (I.pin p hp).1) (by rw [z];exact hb)) (Nat.lt_irrefl _)
structure Turn (P:Program) (w:World) (K:PySem.W.Frag) (tg:Expr) (J:It) (fp:List Addr) (it:Addr) (tn:Nat→Heap→Prop):Prop where
 mem:it∈fp
 obj:∀ i h,tn i h→∀ b∈fp,∃ o,h.get? b=some o∧∀ v,o.data≠.cell v
 keep:∀ i h h',tn i h→(∀ b∈fp,∀ o,h.get? b=some o→h'.get? b=some o)→tn i h'
 item:∀ (X:Cx),X.prog=P→X.w=w→X.K=K→X.calm=true→∀ (i:Nat) (pins:List (Addr × Obj)) (s:Shared) (σ:St) (H:Hp) (E:Value→Shared→Prop),Inv X pins σ H s→(∀ b∈fp,FpOk X pins H b)→tn i s.heap→J.go i H →
  wpAny (model P w) X.A (pyNext (.ref it)) (fun r s1=>∃ u,r=some u ∧
   wpAny (model P w) X.A (letOwnedTupleGo tg (.ref it) u) (fun _ s2=>∃ x H',Inv X pins σ H' s2∧RelV x u∧J.yld i H x H'∧tn (i+1) s2.heap∧∀ b∈fp,H' b=none) E s1) E s
 done:∀ (X:Cx),X.prog=P→X.w=w→X.K=K→X.calm=true→∀ (i:Nat) (pins:List (Addr × Obj)) (s:Shared) (σ:St) (H:Hp) (E:Value→Shared→Prop),Inv X pins σ H s→(∀ b∈fp,FpOk X pins H b)→tn i s.heap→J.stop i H →
  wpAny (model P w) X.A (pyNext (.ref it)) (fun r s1=>r=none∧Inv X pins σ H s1) E s
 self:∀ (A:Around) (i:Nat) (s:Shared) (Q:Value→Shared→Prop) (E:Value→Shared→Prop),tn i s.heap→Q (.ref it) s→wpAny (model P w) A (pyIter (.ref it)) Q E s
abbrev TI:=St→Hp→(It→Hp→Prop)→Prop
def PIE (X:Cx) (pins:List (Addr × Obj)) (σ:St) (tg:Expr) (R:It→Hp→Prop) (itv:Value) (s2:Shared):Prop :=
 ∃ (it:Addr) (fp:List Addr) (tn:Nat→Heap→Prop) (J:It) (H':Hp),itv=.ref it∧Inv X pins σ H' s2∧Turn X.prog X.w X.K tg J fp it tn∧tn 0 s2.heap∧(∀ b∈fp,FpOk X pins H' b)∧R J H'
def PI (X:Cx) (tg iter:Expr) (wi:TI):Prop :=
 ∀ (pins:List (Addr × Obj)) (s:Shared) (σ:St) (H:Hp) (R:It→Hp→Prop),Inv X pins σ H s→wi σ H R →
  wpAny (model X.prog X.w) X.A (eval iter X.env) (fun v s1=>wpAny (model X.prog X.w) X.A (pyIter v) (PIE X pins σ tg R) X.xe s1) X.xe s
theorem go_of {M:Model}{A:Around}{E:Value→Shared→Prop}{s:Shared}{tg:Expr}{it:Addr}{u:Value}{o:Obj}{n:String}{vs:Array Value}{Q:Unit→Shared→Prop} (ho:s.heap.get? it=some o) (hc:o.cls=.type n) (hd:o.data=.fields vs)
    (hn:["enumerate","zip","dict_itemiterator","dict_reverseitemiterator","odict_iterator","itertools.zip_longest","itertools.pairwise"].contains n=false) (hQ:Q () s):wpAny M A (letOwnedTupleGo tg (.ref it) u) Q E s:=by
  unfold letOwnedTupleGo
  cases tg <;> first
    | exact wpAny_pure hQ
    | (cases u <;> first
        | exact wpAny_pure hQ
        | (refine wpAny_bind (wpAny_load ho ?_)
           rw [hc,hd]
           show wpAny M A (if (["enumerate","zip","dict_itemiterator","dict_reverseitemiterator","odict_iterator","itertools.zip_longest","itertools.pairwise"].contains n && vs[0]? == some (rawInt _))=true then _ else _) Q E s
           rw [if_neg (by intro h;rw [hn,Bool.false_and] at h;cases h)]
           exact wpAny_pure hQ))
def Itl (K:PySem.W.Frag) (a:Addr):It :=
 ⟨fun i H=>∃ xs x,SqL K H a xs∧xs[i]? = some x,fun i H x H'=>H'=H∧∀ xs,SqL K H a xs→xs[i]? = some x,fun i H=>∃ xs,SqL K H a xs∧xs.length≤i⟩
def Itt (K:PySem.W.Frag) (a:Addr):It :=
 ⟨fun i H=>∃ xs x,SqT K H a xs∧xs[i]? = some x,fun i H x H'=>H'=H∧∀ xs,SqT K H a xs→xs[i]? = some x,fun i H=>∃ xs,SqT K H a xs∧xs.length≤i⟩
def Itr (lo:Int) (n:Nat):It:=⟨fun i _=>i<n,fun i H x H'=>H'=H∧x=.int (lo+i),fun i _=>n≤i⟩
theorem turn_list {P:Program}{w:World}{K:PySem.W.Frag}{tg:Expr} (a it:Addr):Turn P w K tg (Itl K a) [it] it (fun i h=>h.IsListIter it a i) where
 mem:=by simp
 obj:=fun i h st b hb=>by
  have e:b=it:=by simpa using hb
  subst e
  obtain ⟨o,e,c,d⟩:=st
  exact ⟨o,e,fun v z=>by rw [d] at z;cases z⟩
 keep:=fun i h h' st k=>st.at fun o e=>k it (by simp) o e
 item:=by
  intro X hP hw hK hc i pins s σ H E I hf st hg
  subst hP hw hK
  obtain ⟨xs,x,hq,hx⟩:=hg
  obtain ⟨its,rv,p,hz⟩:=I.list hq
  obtain ⟨u,hu,ru⟩:=rv.get hx
  obtain ⟨f0,f1,f2,f3,f4,f5⟩:=hf it (by simp)
  refine wpAny_pyNext_list_item st p.isList (x:=u) (by simpa using hu) fun h' st' sb=>?_
  have I1:Inv X pins σ H { s with heap:=h' }:=I.turned (t':=s.toks) (fun b o hb e=>(sb.2 b hb).trans e) f0 f1 f3 f4 f5
  obtain ⟨o,e,c,d⟩:=id st'
  exact ⟨u,rfl,go_of (s:={ s with heap:=h' }) e c d (by decide) ⟨x,H,I1,ru,⟨rfl,fun ys hy=>by rw [I.list_inj hy hq];exact hx⟩,st',fun b hb=>(hf b hb).1⟩⟩
 done:=by
  intro X hP hw hK hc i pins s σ H E I hf st hg
  subst hP hw hK
  obtain ⟨xs,hq,hx⟩:=hg
  obtain ⟨its,rv,p,hz⟩:=I.list hq
  obtain ⟨f0,f1,f2,f3,f4,f5⟩:=hf it (by simp)
  have hl:=rv.length
  exact wpAny_pyNext_list_end (I.ok.hd hc) st p.isList (by simp;omega) fun h' eb=>⟨rfl,I.turned (t':=s.toks) (fun b o hb e=>eb b o hb e) f0 f1 f3 f4 f5⟩
 self:=fun _ _ _ _ _ st h=>wpAny_pyIter_listiter st h
theorem turn_tuple {P:Program}{w:World}{K:PySem.W.Frag}{tg:Expr} (a it:Addr):Turn P w K tg (Itt K a) [it] it (fun i h=>h.IsTupleIter it a i) where
 mem:=by simp
 obj:=fun i h st b hb=>by
  have e:b=it:=by simpa using hb
  subst e
  obtain ⟨o,e,c,d⟩:=st
  exact ⟨o,e,fun v z=>by rw [d] at z;cases z⟩
 keep:=fun i h h' st k=>st.at fun o e=>k it (by simp) o e
 item:=by
  intro X hP hw hK hc i pins s σ H E I hf st hg
  subst hP hw hK
  obtain ⟨xs,x,hq,hx⟩:=hg
  obtain ⟨its,rv,p,hz⟩:=I.tuple hq
  obtain ⟨u,hu,ru⟩:=rv.get hx
  obtain ⟨f0,f1,f2,f3,f4,f5⟩:=hf it (by simp)
  refine wpAny_pyNext_tuple_item st (show s.heap.IsTuple a its.toArray from p) (x:=u) (by simpa using hu) fun h' st' sb=>?_
  have I1:Inv X pins σ H { s with heap:=h' }:=I.turned (t':=s.toks) (fun b o hb e=>(sb.2 b hb).trans e) f0 f1 f3 f4 f5
  obtain ⟨o,e,c,d⟩:=id st'
  exact ⟨u,rfl,go_of (s:={ s with heap:=h' }) e c d (by decide) ⟨x,H,I1,ru,⟨rfl,fun ys hy=>by rw [I.tuple_inj hy hq];exact hx⟩,st',fun b hb=>(hf b hb).1⟩⟩
 done:=by
  intro X hP hw hK hc i pins s σ H E I hf st hg
  subst hP hw hK
  obtain ⟨xs,hq,hx⟩:=hg
  obtain ⟨its,rv,p,hz⟩:=I.tuple hq
  obtain ⟨f0,f1,f2,f3,f4,f5⟩:=hf it (by simp)
  have hl:=rv.length
  exact wpAny_pyNext_tuple_end (I.ok.hd hc) st (show s.heap.IsTuple a its.toArray from p) (by simp;omega) fun h' eb=>⟨rfl,I.turned (t':=s.toks) (fun b o hb e=>eb b o hb e) f0 f1 f3 f4 f5⟩
 self:=fun _ _ _ _ _ st h=>wpAny_pyIter_tupleiter st h
theorem turn_range {P:Program}{w:World}{K:PySem.W.Frag}{tg:Expr} (it:Addr) (lo:Int) (n:Nat):Turn P w K tg (Itr lo n) [it] it (fun i h=>IsRangeIter h it (lo+(i:Nat) * 1) ((n:Int) - (i:Nat)) 1) where
 mem:=by simp
 obj:=fun i h st b hb=>by
  have e:b=it:=by simpa using hb
  subst e
  exact ⟨_,st,fun v z=>by
   have z':Data.fields _=Data.cell v:=z
   cases z'⟩
 keep:=fun i h h' st k=>k it (by simp) _ st
 item:=by
  intro X hP hw hK hc i pins s σ H E I hf st hg
  subst hP hw hK
  obtain ⟨f0,f1,f2,f3,f4,f5⟩:=hf it (by simp)
  have W:=Walks.range (prog:=X.prog) (w:=X.w) (I.ok.hd hc) it lo 1 n
  refine W.item i s _ _ hg st fun v h' tk hv st' kk=>?_
  obtain ⟨t,rfl⟩:=hv
  have I1:Inv X pins σ H { s with heap:=h',toks:=tk }:=I.turned (fun b o hb e=>kk b o (by simpa using hb) e) f0 f1 f3 f4 f5
  refine ⟨_,rfl,go_of (s:={ s with heap:=h',toks:=tk }) (n:="range_iterator") st' rfl rfl (by decide) ⟨.int (lo+i),H,I1,⟨t,?_⟩,⟨rfl,rfl⟩,st',fun b hb=>(hf b hb).1⟩⟩
  rw [Int.mul_one]
 done:=by
  intro X hP hw hK hc i pins s σ H E I hf st hg
  subst hP hw hK
  obtain ⟨f0,f1,f2,f3,f4,f5⟩:=hf it (by simp)
  exact wpAny_pyNext_range_end (I.ok.hd hc) st (by have:n≤i:=hg;omega) fun h' eb=>⟨rfl,I.turned (t':=s.toks) (fun b o hb e=>eb b o hb e) f0 f1 f3 f4 f5⟩
 self:=fun _ _ _ _ _ st h=>wpAny_pyIter_rangeiter st h
section
variable {X:Cx}{tg:Expr}
def iList (K:PySem.W.Frag) (tl:TE):TI:=fun σ H R=>tl σ H fun x H1=>∃ a,x=.ref a∧(∃ xs,SqL K H1 a xs)∧R (Itl K a) H1
def iTup (K:PySem.W.Frag) (tl:TE):TI:=fun σ H R=>tl σ H fun x H1=>∃ a,x=.ref a∧(∃ xs,SqT K H1 a xs)∧R (Itt K a) H1
theorem pi_list {l:Expr}{tl:TE} (hl:PE X l tl):PI X tg l (iList X.K tl):=by
 intro pins s σ H R I h
 refine thn (hl pins s σ H _ I h) fun v s1 ⟨x,H1,I1,r1,q1⟩=>?_
 obtain ⟨a,e,⟨xs,hq⟩,q⟩:=q1
 subst e
 cases r1
 obtain ⟨its,rv,p,hz⟩:=I1.list hq
 refine wpAny_pyIter_list p.isList ?_
 refine ⟨s1.heap.objs.size,[s1.heap.objs.size],_,_,H1,rfl,I1.kept (t':=s1.toks) fun b o e=>Heap.get?_push_of_some _ e,turn_list a _,⟨_,Heap.get?_push_size _ rfl,rfl,rfl⟩,fun b hb=>?_,q⟩
 have e:b=s1.heap.objs.size:=by simpa using hb
 subst e
 exact I1.fpOk (Nat.le_refl _) (I1.hok.fresh (Nat.le_refl _))
theorem pi_tup {l:Expr}{tl:TE} (hl:PE X l tl):PI X tg l (iTup X.K tl):=by
 intro pins s σ H R I h
 refine thn (hl pins s σ H _ I h) fun v s1 ⟨x,H1,I1,r1,q1⟩=>?_
 obtain ⟨a,e,⟨xs,hq⟩,q⟩:=q1
 subst e
 cases r1
 obtain ⟨its,rv,p,hz⟩:=I1.tuple hq
 refine wpAny_pyIter_tuple (show s1.heap.IsTuple a its.toArray from p) ?_
 refine ⟨s1.heap.objs.size,[s1.heap.objs.size],_,_,H1,rfl,I1.kept (t':=s1.toks) fun b o e=>Heap.get?_push_of_some _ e,turn_tuple a _,⟨_,Heap.get?_push_size _ rfl,rfl,rfl⟩,fun b hb=>?_,q⟩
 have e:b=s1.heap.objs.size:=by simpa using hb
 subst e
 exact I1.fpOk (Nat.le_refl _) (I1.hok.fresh (Nat.le_refl _))
theorem range_it {pins:List (Addr × Obj)}{σ:St}{H:Hp}{s:Shared}{R:It→Hp→Prop}{E:Value→Shared→Prop}{lo hi:Int}{t u v:Tok}{tk:Nat} (I:Inv X pins σ H s) (h1 : -(2 ^ 62)≤lo) (h2:lo<2 ^ 62) (h3 : -(2 ^ 62)≤hi) (h4:hi<2 ^ 62)
  (q:R (Itr lo (hi - lo).toNat) H):wpAny (model X.prog X.w) X.A (pyIter (.ref s.heap.objs.size)) (PIE X pins σ tg R) E { s with heap:=s.heap.push { cls:=.type "range",data:=.fields #[.int lo t,.int hi u,.int 1 v] },toks:=tk }:=by
 refine wpAny_pyIter_range (IsRange.new ..) (small_one h1 h2 h3 h4) ?_
 have I1:Inv X pins σ H { s with heap:=s.heap.push { cls:=.type "range",data:=.fields #[.int lo t,.int hi u,.int 1 v] },toks:=tk }:=I.kept fun b o e=>Heap.get?_push_of_some _ e
 refine ⟨(s.heap.push { cls:=.type "range",data:=.fields #[.int lo t,.int hi u,.int 1 v] }).objs.size,[(s.heap.push { cls:=.type "range",data:=.fields #[.int lo t,.int hi u,.int 1 v] }).objs.size],_,_,H,rfl,
  I1.kept (t':=tk) fun b o e=>Heap.get?_push_of_some _ e,turn_range _ lo (hi - lo).toNat,?_,fun b hb=>?_,q⟩
 ·have e1:lo+((0:Nat):Int) * 1=lo:=by simp
  have e2:(((hi - lo).toNat:Nat):Int) - ((0:Nat):Int)=Builtin.Range.rangeSize lo hi 1:=by rw [rangeSize_one];split <;> omega
  show IsRangeIter _ _ (lo+((0:Nat):Int) * 1) ((((hi - lo).toNat:Nat):Int) - ((0:Nat):Int)) 1
  rw [e1,e2]
  exact Heap.get?_push_size _ rfl
 ·have e:b=(s.heap.push { cls:=.type "range",data:=.fields #[.int lo t,.int hi u,.int 1 v] }).objs.size:=by simpa using hb
  subst e
  exact I1.fpOk (Nat.le_refl _) (I1.hok.fresh (Nat.le_refl _))
def iRng1 (ta:TA):TI:=fun σ H R=>ta σ H fun vs H1=>∃ j:Int,vs=[.int j] ∧ -(2 ^ 62)≤j∧j<2 ^ 62∧R (Itr 0 j.toNat) H1
theorem pi_range1 {a:Expr}{ta:TA}{p pos:Pos} (hg:Gl X "range") (hm:X.mg "range" = none) (ha:PA X [a] ta) (hs:starEach [a] X.env=[(false,eval a X.env)]:=by rfl):PI X tg (.Call (.Name "range" p) [a] [] pos) (iRng1 ta):=by
 intro pins s σ H R I h
 refine Call_ (ld_blt I hg hm boot_range (PyProof.Rows.callWith_type1 (thn (ha pos pins s σ H _ I h) fun us s1 ⟨vs,H1,I1,r1,q1⟩=>?_) hs rfl))
 obtain ⟨j,e,q1,q2,q⟩:=q1
 subst e
 cases r1 with
 | cons r rr =>
  cases rr
  obtain ⟨t,rfl⟩:=r
  exact call_range_1 (range_it I1 (by omega) (by omega) q1 q2 (by simpa using q))
def tFor (wi:TI) (g:TG) (tb:TS):TS:=fun D σ H=>wi σ H fun J H1=>∃ W:Nat→Nat→St→Hp→Prop,(∃ m,W 0 m σ H1)∧∀ i m σ H,W i m σ H →
 (J.stop i H∧D.nx σ H)∨(J.go i H∧∃ N:St→Hp→Prop,(∀ σ' H',N σ' H'→∃ m',m'<m∧W (i+1) m' σ' H')∧∀ x H',J.yld i H x H'→g x σ H' fun σ2 H2=>tb { D with nx:=N,ct:=N,bk:=D.nx } σ2 H2)
def pinsAt (fp:List Addr) (h:Heap):List (Addr × Obj):=fp.filterMap fun b=>(h.get? b).map fun o=>(b,o)
theorem mem_pinsAt {fp:List Addr}{h:Heap}{b:Addr}{o:Obj} (hb:b∈fp) (e:h.get? b=some o):(b,o)∈pinsAt fp h:=List.mem_filterMap.mpr ⟨b,hb,by rw [e];rfl⟩
theorem of_pinsAt {fp:List Addr}{h:Heap}{p:Addr × Obj} (hp:p∈pinsAt fp h):p.1∈fp∧h.get? p.1=some p.2:=by
 obtain ⟨b,hb,e⟩:=List.mem_filterMap.mp hp
 cases q:h.get? b with
 | none=>rw [q] at e;cases e
 | some o =>
  rw [q] at e
  have e':(b,o)=p:=Option.some.inj e
  subst e'
  exact ⟨hb,q⟩
theorem Inv.pinned {pins:List (Addr × Obj)}{σ:St}{H:Hp}{s:Shared}{fp:List Addr} (I:Inv X pins σ H s) (hf:∀ b∈fp,FpOk X pins H b) (ho:∀ b∈fp,∃ o,s.heap.get? b=some o∧∀ v,o.data≠.cell v):Inv X (pins ++ pinsAt fp s.heap) σ H s :=
 I.pins_of fun p hp=>(List.mem_append.mp hp).elim (fun z=>I.pin p (List.mem_append_right _ z)) fun z=>by
  obtain ⟨hb,e⟩:=of_pinsAt z
  obtain ⟨f0,f1,f2,_⟩:=hf p.1 hb
  obtain ⟨o,e',d⟩:=ho p.1 hb
  rw [e] at e';cases e'
  exact ⟨e,f0,f1,f2,d⟩
theorem Inv.unpinned {pins pl:List (Addr × Obj)}{σ:St}{H:Hp}{s:Shared} (I:Inv X (pins ++ pl) σ H s):Inv X pins σ H s:=I.pins_of fun p hp=>I.pin p (List.mem_append_right _ (List.mem_append_left _ hp))
theorem ps_for {iter:Expr}{body:List Stmt}{wi:TI}{g:TG}{tb:TS}{pos:Pos} (hp:PassesOwn (model X.prog X.w) X.A X.env X.xe) (hc:X.calm=true) (hi:PI X tg iter wi) (hg:PG X tg g) (hb:PSs X body tb)
  (hs:∀ x,foldedSetIterable iter X.env x=pure x:=by intro _;rfl):PS X (.For tg iter body [] pos) (tFor wi g tb):=by
 intro pins s σ H D I h
 refine wpAny_For (thn (hi pins s σ H _ I h) fun v s1 h1=>thn h1 fun itv s2 h2=>?_) hs
 obtain ⟨it,fp,tn,J,H2,e,I2,T,st2,f2,W,⟨m0,w0⟩,turn⟩:=h2
 subst e
 -- what stays true of the iterator's objects through the loop
 have stat:∀ {H':Hp},(∀ b∈fp,H' b=none)→∀ b∈fp,FpOk X pins H' b:=fun hn b hb=>⟨hn b hb,(f2 b hb).2⟩
 refine codeAny_forLoop_any (fun n s'=>∃ i σ' H',Inv X pins σ' H' s'∧tn i s'.heap∧(∀ b∈fp,H' b=none)∧W i n σ' H') ?_ m0 ⟨0,σ,H2,I2,st2,fun b hb=>(f2 b hb).1,w0⟩
 rintro n s3 ⟨i,σ3,H3,I3,st3,fr3,w3⟩
 rcases turn i n σ3 H3 w3 with ⟨stop,qn⟩ | ⟨go,N,hN,step⟩
 ·refine wpAny_passesOwn hp (thn (T.done X rfl rfl rfl hc i pins s3 σ3 H3 X.xe I3 (stat fr3) st3 stop) fun r s4 ⟨hr,I4⟩=>?_)
  subst hr
  exact wpAny_execs_nil ⟨σ3,H3,I4,qn⟩
 ·refine wpAny_passesOwn hp (thn (T.item X rfl rfl rfl hc i pins s3 σ3 H3 X.xe I3 (stat fr3) st3 go) fun r s4 ⟨u,hr,h4⟩=>?_)
  subst hr
  refine wpAny_passesOwn hp (thn h4 fun _ s5 ⟨x,H5,I5,r5,y5,st5,fr5⟩=>?_)
  have I5':=I5.pinned (stat fr5) (T.obj _ _ st5)
  refine wpAny_passesOwn hp (thn (hg _ s5 σ3 H5 x u _ I5' r5 (step x H5 y5)) fun _ s6 ⟨σ6,H6,I6,q6⟩=>?_)
  refine wpAny_passesOwn hp (thn (hb _ s6 σ6 H6 _ I6 q6) fun f s7 q7=>?_)
  have again:∀ {σ7:St}{H7:Hp},Inv X (pins ++ pinsAt fp s5.heap) σ7 H7 s7→N σ7 H7→∃ m,m<n∧∃ i σ' H',Inv X pins σ' H' s7∧tn i s7.heap∧(∀ b∈fp,H' b=none)∧W i m σ' H':=fun {σ7 H7} I7 n7=>by
   obtain ⟨m',hm,w7⟩:=hN σ7 H7 n7
   refine ⟨m',hm,i+1,σ7,H7,I7.unpinned,T.keep _ _ _ st5 fun b hb o e=>(I7.pin (b,o) (List.mem_append_right _ (List.mem_append_right _ (mem_pinsAt hb e)))).1,fun b hb=>?_,w7⟩
   obtain ⟨o,e,d⟩:=T.obj _ _ st5 b hb
   exact (I7.pin (b,o) (List.mem_append_right _ (List.mem_append_right _ (mem_pinsAt hb e)))).2.1
  cases f with
  | next=>obtain ⟨σ7,H7,I7,n7⟩:=q7;exact again I7 n7
  | cont=>obtain ⟨σ7,H7,I7,n7⟩:=q7;exact again I7 n7
  | brk=>obtain ⟨σ7,H7,I7,q7⟩:=q7;exact ⟨σ7,H7,I7.unpinned,q7⟩
  | ret v=>obtain ⟨x7,σ7,H7,I7,r7,q7⟩:=q7;exact ⟨x7,σ7,H7,I7.unpinned,r7,q7⟩
end
theorem for_list {K:PySem.W.Frag}{a:Addr}{xs:List V}{g:TG}{tb:TS}{D:Ends}{σ:St}{H:Hp} (Pv:Nat→St→Hp→Prop) (h0:Pv 0 σ H) (hl:∀ i σ H,i≤xs.length→Pv i σ H→SqL K H a xs)
  (hs:∀ i x σ H,xs[i]? = some x→Pv i σ H→g x σ H fun σ2 H2=>tb { D with nx:=Pv (i+1),ct:=Pv (i+1),bk:=D.nx } σ2 H2) (hd:∀ σ H,Pv xs.length σ H→D.nx σ H) :
  ∃ W:Nat→Nat→St→Hp→Prop,(∃ m,W 0 m σ H)∧∀ i m σ H,W i m σ H →
   ((Itl K a).stop i H∧D.nx σ H)∨((Itl K a).go i H∧∃ N:St→Hp→Prop,(∀ σ' H',N σ' H'→∃ m',m'<m∧W (i+1) m' σ' H')∧∀ x H',(Itl K a).yld i H x H'→g x σ H' fun σ2 H2=>tb { D with nx:=N,ct:=N,bk:=D.nx } σ2 H2):=by
 refine ⟨fun i m σ H=>m=xs.length - i∧i≤xs.length∧Pv i σ H,⟨xs.length,by simp,Nat.zero_le _,h0⟩,?_⟩
 rintro i m σ H ⟨rfl,hi,p⟩
 have q:=hl i σ H hi p
 by_cases hlt:i<xs.length
 ·refine .inr ⟨⟨xs,xs[i],q,by simp [hlt]⟩,Pv (i+1),fun σ' H' p'=>⟨xs.length - (i+1),by omega,rfl,hlt,p'⟩,fun x H' y=>?_⟩
  obtain ⟨e,y⟩:=y
  subst e
  exact hs i x σ _ (y xs q) p
 ·have e:i=xs.length:=by omega
  subst e
  exact .inl ⟨⟨xs,q,Nat.le_refl _⟩,hd σ H p⟩
theorem for_tup {K:PySem.W.Frag}{a:Addr}{xs:List V}{g:TG}{tb:TS}{D:Ends}{σ:St}{H:Hp} (Pv:Nat→St→Hp→Prop) (h0:Pv 0 σ H) (hl:∀ i σ H,i≤xs.length→Pv i σ H→SqT K H a xs)
  (hs:∀ i x σ H,xs[i]? = some x→Pv i σ H→g x σ H fun σ2 H2=>tb { D with nx:=Pv (i+1),ct:=Pv (i+1),bk:=D.nx } σ2 H2) (hd:∀ σ H,Pv xs.length σ H→D.nx σ H) :
  ∃ W:Nat→Nat→St→Hp→Prop,(∃ m,W 0 m σ H)∧∀ i m σ H,W i m σ H →
   ((Itt K a).stop i H∧D.nx σ H)∨((Itt K a).go i H∧∃ N:St→Hp→Prop,(∀ σ' H',N σ' H'→∃ m',m'<m∧W (i+1) m' σ' H')∧∀ x H',(Itt K a).yld i H x H'→g x σ H' fun σ2 H2=>tb { D with nx:=N,ct:=N,bk:=D.nx } σ2 H2):=by
 refine ⟨fun i m σ H=>m=xs.length - i∧i≤xs.length∧Pv i σ H,⟨xs.length,by simp,Nat.zero_le _,h0⟩,?_⟩
 rintro i m σ H ⟨rfl,hi,p⟩
 have q:=hl i σ H hi p
 by_cases hlt:i<xs.length
 ·refine .inr ⟨⟨xs,xs[i],q,by simp [hlt]⟩,Pv (i+1),fun σ' H' p'=>⟨xs.length - (i+1),by omega,rfl,hlt,p'⟩,fun x H' y=>?_⟩
  obtain ⟨e,y⟩:=y
  subst e
  exact hs i x σ _ (y xs q) p
 ·have e:i=xs.length:=by omega
  subst e
  exact .inl ⟨⟨xs,q,Nat.le_refl _⟩,hd σ H p⟩
theorem for_range {lo:Int}{n:Nat}{g:TG}{tb:TS}{D:Ends}{σ:St}{H:Hp} (Pv:Nat→St→Hp→Prop) (h0:Pv 0 σ H)
  (hs:∀ i σ H,i<n→Pv i σ H→g (.int (lo+i)) σ H fun σ2 H2=>tb { D with nx:=Pv (i+1),ct:=Pv (i+1),bk:=D.nx } σ2 H2) (hd:∀ σ H,Pv n σ H→D.nx σ H) :
  ∃ W:Nat→Nat→St→Hp→Prop,(∃ m,W 0 m σ H)∧∀ i m σ H,W i m σ H →
   ((Itr lo n).stop i H∧D.nx σ H)∨((Itr lo n).go i H∧∃ N:St→Hp→Prop,(∀ σ' H',N σ' H'→∃ m',m'<m∧W (i+1) m' σ' H')∧∀ x H',(Itr lo n).yld i H x H'→g x σ H' fun σ2 H2=>tb { D with nx:=N,ct:=N,bk:=D.nx } σ2 H2):=by
 refine ⟨fun i m σ H=>m=n - i∧i≤n∧Pv i σ H,⟨n,by simp,Nat.zero_le _,h0⟩,?_⟩
 rintro i m σ H ⟨rfl,hi,p⟩
 by_cases hlt:i<n
 ·refine .inr ⟨hlt,Pv (i+1),fun σ' H' p'=>⟨n - (i+1),by omega,rfl,hlt,p'⟩,fun x H' y=>?_⟩
  obtain ⟨e,y⟩:=y
  subst e y
  exact hs i σ _ hlt p
 ·have e:i=n:=by omega
  subst e
  exact .inl ⟨Nat.le_refl _,hd σ H p⟩
abbrev R2:=V→V→Hp→VK→Prop
def OpR (X:Cx) (f:Value→Value→Sem Value) (r:R2):Prop :=
 ∀ (pins:List (Addr × Obj)) (s:Shared) (σ:St) (H:Hp) (x y:V) (v u:Value) (Q:VK),Inv X pins σ H s→RelV x v→RelV y u→r x y H Q →
  wpAny (model X.prog X.w) X.A (f v u) (EP X pins σ Q) X.xe s
def UnR (X:Cx) (f:Value→Sem Value) (r:V→Hp→VK→Prop):Prop :=
 ∀ (pins:List (Addr × Obj)) (s:Shared) (σ:St) (H:Hp) (x:V) (v:Value) (Q:VK),Inv X pins σ H s→RelV x v→r x H Q →
  wpAny (model X.prog X.w) X.A (f v) (EP X pins σ Q) X.xe s
def CallR (X:Cx) (f:Value) (r:List V→Hp→VK→Prop):Prop :=
 ∀ (pins:List (Addr × Obj)) (s:Shared) (σ:St) (H:Hp) (xs:List V) (us:List Value) (Q:VK),Inv X pins σ H s→Vals xs us→r xs H Q →
  wpAny (model X.prog X.w) X.A (call f us) (EP X pins σ Q) X.xe s
def TruR (X:Cx) (r:V→Hp→(Bool→Hp→Prop)→Prop):Prop :=
 ∀ (pins:List (Addr × Obj)) (s:Shared) (σ:St) (H:Hp) (x:V) (v:Value) (Q:Bool→Hp→Prop),Inv X pins σ H s→RelV x v→r x H Q →
  wpAny (model X.prog X.w) X.A (truthy v) (TP X pins σ Q) X.xe s
def tOp (r:R2) (ta tb:TE):TE:=fun σ H Q=>ta σ H fun x H1=>tb σ H1 fun y H2=>r x y H2 Q
def tUn (r:V→Hp→VK→Prop) (ta:TE):TE:=fun σ H Q=>ta σ H fun x H1=>r x H1 Q
def rI (C:Int→Int→Prop) (g:Int→Int→V):R2:=fun x y H Q=>∃ i j,x=.int i∧y=.int j∧C i j∧Q (g i j) H
def rI0 (g:Int→Int→V):R2:=fun x y H Q=>∃ i j,x=.int i∧y=.int j∧Q (g i j) H
def rU (g:Int→V):V→Hp→VK→Prop:=fun x H Q=>∃ i,x=.int i∧Q (g i) H
section
variable {X:Cx}{a b c:Expr}{ta tb tc:TE}{pos:Pos}
theorem binT (ha:PE X a ta) (hb:PE X b tb) {pins:List (Addr × Obj)}{s:Shared}{σ:St}{H:Hp}{R:V→V→Hp→Prop} (I:Inv X pins σ H s)
  (h:ta σ H fun x H1=>tb σ H1 fun y H2=>R x y H2) {Q:Value→Shared→Prop}{f:Value→Value→Sem Value}
  (hf:∀ v u s2 x y H2,Inv X pins σ H2 s2→RelV x v→RelV y u→R x y H2→wpAny (model X.prog X.w) X.A (f v u) Q X.xe s2) :
  wpAny (model X.prog X.w) X.A (eval a X.env) (fun v s₁=>wpAny (model X.prog X.w) X.A (eval b X.env) (fun u s₂=>wpAny (model X.prog X.w) X.A (f v u) Q X.xe s₂) X.xe s₁) X.xe s:=by
 refine thn (ha pins s σ H _ I h) fun v s1 ⟨x,H1,I1,r1,q1⟩=>?_
 refine thn (hb pins s1 σ H1 _ I1 q1) fun u s2 ⟨y,H2,I2,r2,q2⟩=>?_
 exact hf v u s2 x y H2 I2 r1 r2 q2
theorem pe_op {op:Operator}{r:R2} (ho:OpR X (binaryOp op) r) (ha:PE X a ta) (hb:PE X b tb):PE X (.BinOp a op b pos) (tOp r ta tb):=by
 intro pins s σ H Q I h
 exact wpAny_BinOp (binT ha hb I h fun v u s2 x y H2 I2 rx ry q=>ho pins s2 σ H2 x y v u Q I2 rx ry q)
theorem pe_un {op:UnaryOp}{r:V→Hp→VK→Prop} (ho:UnR X (unaryOp op) r) (ha:PE X a ta):PE X (.UnaryOp op a pos) (tUn r ta):=by
 intro pins s σ H Q I h
 exact UnaryOp_ (thn (ha pins s σ H _ I h) fun v s1 ⟨x,H1,I1,r1,q1⟩=>ho pins s1 σ H1 x v Q I1 r1 q1)
theorem opI {f:Value→Value→Sem Value}{C:Int→Int→Prop}{g:Int→Int→Int}
  (rule:∀ (i j:Int) (t u:Tok) (s:Shared) (Q:Value→Shared→Prop) (E:Value→Shared→Prop),C i j→Q (.int (g i j) s.toks) { s with toks:=s.toks+1 }→wpAny (model X.prog X.w) X.A (f (.int i t) (.int j u)) Q E s) :
  OpR X f (rI C fun i j=>.int (g i j)):=by
 intro pins s σ H x y v u Q I rx ry h
 obtain ⟨i,j,rfl,rfl,hc,q⟩:=h
 obtain ⟨t,rfl⟩:=rx
 obtain ⟨t',rfl⟩:=ry
 exact rule i j t t' s _ _ hc ⟨.int (g i j),H,I.tok _,⟨_,rfl⟩,q⟩
theorem opI0 {f:Value→Value→Sem Value}{g:Int→Int→Int}
  (rule:∀ (i j:Int) (t u:Tok) (s:Shared) (Q:Value→Shared→Prop) (E:Value→Shared→Prop),Q (.int (g i j) s.toks) { s with toks:=s.toks+1 }→wpAny (model X.prog X.w) X.A (f (.int i t) (.int j u)) Q E s) :
  OpR X f (rI0 fun i j=>.int (g i j)):=by
 intro pins s σ H x y v u Q I rx ry h
 obtain ⟨i,j,rfl,rfl,q⟩:=h
 obtain ⟨t,rfl⟩:=rx
 obtain ⟨t',rfl⟩:=ry
 exact rule i j t t' s _ _ ⟨.int (g i j),H,I.tok _,⟨_,rfl⟩,q⟩
theorem opB0 {f:Value→Value→Sem Value}{g:Int→Int→Bool}
  (rule:∀ (i j:Int) (t u:Tok) (s:Shared) (Q:Value→Shared→Prop) (E:Value→Shared→Prop),Q (.bool (g i j)) s→wpAny (model X.prog X.w) X.A (f (.int i t) (.int j u)) Q E s) :
  OpR X f (rI0 fun i j=>.bl (g i j)):=by
 intro pins s σ H x y v u Q I rx ry h
 obtain ⟨i,j,rfl,rfl,q⟩:=h
 obtain ⟨t,rfl⟩:=rx
 obtain ⟨t',rfl⟩:=ry
 exact rule i j t t' s _ _ ⟨.bl (g i j),H,I,rfl,q⟩
def CDiv (i j:Int):Prop:=0<j∧j<1073741824
def CMul (i j:Int):Prop:=(-(2 ^ 64)<i∧i<2 ^ 64)∨(-(2 ^ 64)<j∧j<2 ^ 64)
theorem CMul.ok {i j:Int} (h:CMul i j):IntMulOk i j:=by
 rcases h with ⟨h1,h2⟩ | ⟨h1,h2⟩
 ·exact .of_left (intBits_le_64 h1 h2)
 ·exact .of_right (intBits_le_64 h1 h2)
theorem op_add:OpR X (binaryOp .Add) (rI0 fun i j=>.int (i+j)):=opI0 fun _ _ _ _ _ _ _ q=>add_int q
theorem op_sub:OpR X (binaryOp .Sub) (rI0 fun i j=>.int (i - j)):=opI0 fun _ _ _ _ _ _ _ q=>sub_int q
theorem op_mul:OpR X (binaryOp .Mult) (rI CMul fun i j=>.int (i * j)):=opI fun _ _ _ _ _ _ _ hc q=>mul_int q hc.ok
theorem op_fdiv:OpR X (binaryOp .FloorDiv) (rI CDiv fun i j=>.int (i / j)):=opI fun i j _ _ _ _ _ hc q=>by
 have h1:(0:Int)<j:=hc.1
 have h2:j<1073741824:=hc.2
 exact floordiv_int (by omega) (by rw [Int.fdiv_eq_ediv_of_nonneg i (by omega)];exact q) (.inl (PyProof.noPylong_small (by omega)))
theorem op_mod:OpR X (binaryOp .Mod) (rI (fun _ j=>0<j) fun i j=>.int (i % j)):=opI fun i j _ _ _ _ _ hc q=>by
 have h1:(0:Int)<j:=hc
 exact mod_int' (by omega) (by rw [Int.fmod_eq_emod_of_nonneg i (by omega)];exact q)
theorem unI {f:Value→Sem Value}{g:Int→Int}
  (rule:∀ (i:Int) (t:Tok) (s:Shared) (Q:Value→Shared→Prop) (E:Value→Shared→Prop),Q (.int (g i) s.toks) { s with toks:=s.toks+1 }→wpAny (model X.prog X.w) X.A (f (.int i t)) Q E s) :
  UnR X f (rU fun i=>.int (g i)):=by
 intro pins s σ H x v Q I rx h
 obtain ⟨i,rfl,q⟩:=h
 obtain ⟨t,rfl⟩:=rx
 exact rule i t s _ _ ⟨.int (g i),H,I.tok _,⟨_,rfl⟩,q⟩
theorem un_neg:UnR X (unaryOp .USub) (rU fun i=>.int (-i)):=unI fun _ _ _ _ _ q=>neg_int q
end
def scal:V→V→Bool
 | .non,.non=>true | .non,.int _=>true | .int _,.non=>true | .non,.bl _=>true | .bl _,.non=>true | .non,.str _=>true | .str _,.non=>true
 | .int _,.int _=>true | .bl _,.bl _=>true | .str _,.str _=>true | .byt _,.byt _=>true
 | .int _,.str _=>true | .str _,.int _=>true | .bl _,.str _=>true | .str _,.bl _=>true
 | _,_=>false
def rEq:R2:=fun x y H Q=>scal x y=true∧Q (.bl (decide (x=y))) H
def rNe:R2:=fun x y H Q=>scal x y=true∧Q (.bl (!decide (x=y))) H
theorem dec_int {i j:Int}:decide (V.int i=V.int j)=(i == j):=by
 rw [Bool.eq_iff_iff]
 simp
theorem dec_bl {i j:Bool}:decide (V.bl i=V.bl j)=(i == j):=by
 rw [Bool.eq_iff_iff]
 simp
theorem dec_str {i j:Str}:decide (V.str i=V.str j)=(i == j):=by
 rw [Bool.eq_iff_iff]
 simp
theorem dec_byt {i j:Array UInt8}:decide (V.byt i=V.byt j)=(i.toList == j.toList):=by
 rw [Bool.eq_iff_iff]
 cases i
 cases j
 simp
section
variable {X:Cx}{a b c:Expr}{ta tb tc:TE}{pos:Pos}
theorem fin_bl {pins:List (Addr × Obj)}{σ:St}{H:Hp}{s:Shared}{Q:VK}{k k':Bool} (I:Inv X pins σ H s) (q:Q (.bl k) H) (e:k=k'):EP X pins σ Q (.bool k') s:=by
 subst e
 exact ⟨.bl k,H,I,rfl,q⟩
theorem op_eq:OpR X (compareOp .Eq) rEq:=by
 intro pins s σ H x y v u Q I rx ry h
 obtain ⟨hs,q⟩:=h
 cases x with
 | non =>
  cases rx
  cases y with
  | non=>cases ry;exact PySem.EqNone.eq_none_none (fin_bl I q (by simp))
  | bl j=>cases ry;exact PySem.EqNone.eq_none_bool (fin_bl I q (by simp))
  | int j=>obtain ⟨t',rfl⟩:=ry;exact PySem.EqNone.eq_none_int (fin_bl I q (by simp))
  | str j=>obtain ⟨t',rfl⟩:=ry;exact PySem.EqNone.eq_none_str (fin_bl I q (by simp))
  | _=>exact absurd (show false=true from hs) Bool.false_ne_true
 | bl i =>
  cases rx
  cases y with
  | non=>cases ry;exact PySem.EqNone.eq_bool_none (fin_bl I q (by simp))
  | bl j=>cases ry;exact eq_bool (fin_bl I q dec_bl)
  | str j=>obtain ⟨t',rfl⟩:=ry;exact PySem.EqMixed.eq_bool_str (fin_bl I q (by simp))
  | _=>exact absurd (show false=true from hs) Bool.false_ne_true
 | int i =>
  obtain ⟨t,rfl⟩:=rx
  cases y with
  | non=>cases ry;exact PySem.EqNone.eq_int_none (fin_bl I q (by simp))
  | int j=>obtain ⟨t',rfl⟩:=ry;exact eq_int (fin_bl I q dec_int)
  | str j=>obtain ⟨t',rfl⟩:=ry;exact PySem.EqMixed.eq_int_str (fin_bl I q (by simp))
  | _=>exact absurd (show false=true from hs) Bool.false_ne_true
 | str i =>
  obtain ⟨t,rfl⟩:=rx
  cases y with
  | non=>cases ry;exact PySem.EqNone.eq_str_none (fin_bl I q (by simp))
  | bl j=>cases ry;exact PySem.EqMixed.eq_str_bool (fin_bl I q (by simp))
  | int j=>obtain ⟨t',rfl⟩:=ry;exact PySem.EqMixed.eq_str_int (fin_bl I q (by simp))
  | str j=>obtain ⟨t',rfl⟩:=ry;exact eq_str (fin_bl I q dec_str)
  | _=>exact absurd (show false=true from hs) Bool.false_ne_true
 | byt i =>
  obtain ⟨t,rfl⟩:=rx
  cases y with
  | byt j=>obtain ⟨t',rfl⟩:=ry;exact PySem.W.eq_bytes (fin_bl I q dec_byt)
  | _=>exact absurd (show false=true from hs) Bool.false_ne_true
 | _=>cases y <;> exact absurd (show false=true from hs) Bool.false_ne_true
theorem op_ne:OpR X (compareOp .NotEq) rNe:=by
 intro pins s σ H x y v u Q I rx ry h
 obtain ⟨hs,q⟩:=h
 cases x with
 | non =>
  cases rx
  cases y with
  | non=>cases ry;exact PySem.EqNone.ne_none_none (fin_bl I q (by simp))
  | bl j=>cases ry;exact PySem.EqNone.ne_none_bool (fin_bl I q (by simp))
  | int j=>obtain ⟨t',rfl⟩:=ry;exact PySem.EqNone.ne_none_int (fin_bl I q (by simp))
  | str j=>obtain ⟨t',rfl⟩:=ry;exact PySem.EqNone.ne_none_str (fin_bl I q (by simp))
  | _=>exact absurd (show false=true from hs) Bool.false_ne_true
 | bl i =>
  cases rx
  cases y with
  | non=>cases ry;exact PySem.EqNone.ne_bool_none (fin_bl I q (by simp))
  | bl j=>cases ry;exact ne_bool (fin_bl I q (congrArg not dec_bl))
  | str j=>obtain ⟨t',rfl⟩:=ry;exact PySem.EqMixed.ne_bool_str (fin_bl I q (by simp))
  | _=>exact absurd (show false=true from hs) Bool.false_ne_true
 | int i =>
  obtain ⟨t,rfl⟩:=rx
  cases y with
  | non=>cases ry;exact PySem.EqNone.ne_int_none (fin_bl I q (by simp))
  | int j=>obtain ⟨t',rfl⟩:=ry;exact ne_int (fin_bl I q (congrArg not dec_int))
  | str j=>obtain ⟨t',rfl⟩:=ry;exact PySem.EqMixed.ne_int_str (fin_bl I q (by simp))
  | _=>exact absurd (show false=true from hs) Bool.false_ne_true
 | str i =>
  obtain ⟨t,rfl⟩:=rx
  cases y with
  | non=>cases ry;exact PySem.EqNone.ne_str_none (fin_bl I q (by simp))
  | bl j=>cases ry;exact PySem.EqMixed.ne_str_bool (fin_bl I q (by simp))
  | int j=>obtain ⟨t',rfl⟩:=ry;exact PySem.EqMixed.ne_str_int (fin_bl I q (by simp))
  | str j=>obtain ⟨t',rfl⟩:=ry;exact ne_str (fin_bl I q (congrArg not dec_str))
  | _=>exact absurd (show false=true from hs) Bool.false_ne_true
 | byt i =>
  obtain ⟨t,rfl⟩:=rx
  cases y with
  | byt j=>obtain ⟨t',rfl⟩:=ry;exact PySem.W.ne_bytes (fin_bl I q (congrArg not dec_byt))
  | _=>exact absurd (show false=true from hs) Bool.false_ne_true
 | _=>cases y <;> exact absurd (show false=true from hs) Bool.false_ne_true
theorem op_lt:OpR X (compareOp .Lt) (rI0 fun i j=>.bl (decide (i<j))):=opB0 fun _ _ _ _ _ _ _ q=>lt_int q
theorem op_le:OpR X (compareOp .LtE) (rI0 fun i j=>.bl (decide (i≤j))):=opB0 fun _ _ _ _ _ _ _ q=>le_int q
theorem op_gt:OpR X (compareOp .Gt) (rI0 fun i j=>.bl (decide (j<i))):=opB0 fun _ _ _ _ _ _ _ q=>gt_int q
theorem op_ge:OpR X (compareOp .GtE) (rI0 fun i j=>.bl (decide (j≤i))):=opB0 fun _ _ _ _ _ _ _ q=>ge_int q
theorem op_in_str:OpR X (compareOp .In) (fun x y H Q=>∃ i j,x=.str i∧y=.str j∧Q (.bl (!(Builtin.Str.occurrences j i 0 j.length 1).isEmpty)) H):=by
 intro pins s σ H x y v u Q I rx ry h
 obtain ⟨i,j,rfl,rfl,q⟩:=h
 obtain ⟨t,rfl⟩:=rx
 obtain ⟨t',rfl⟩:=ry
 exact in_str (fin_bl I q rfl)
theorem nomark (b:Expr) {op:CmpOp} (h:op≠.In:=by decide) (h2:op≠.NotIn:=by decide):behindInMarks op b=false:=by
 have e1:(op == CmpOp.In)=false:=by cases op <;> first | rfl | exact absurd rfl h
 have e2:(op == CmpOp.NotIn)=false:=by cases op <;> first | rfl | exact absurd rfl h2
 cases b <;> simp [behindInMarks,e1,e2]
theorem pe_cmpR {op:CmpOp}{r:R2} (ho:OpR X (compareOp op) r) (ha:PE X a ta) (hb:PE X b tb) (hm:behindInMarks op b=false):PE X (.Compare a [op] [b] pos) (tOp r ta tb):=by
 intro pins s σ H Q I h
 exact wpAny_Compare1 (binT ha hb I h fun v u s2 x y H2 I2 rx ry q=>ho pins s2 σ H2 x y v u Q I2 rx ry q) hm
def tTest (t:TE):TT:=fun σ H Q=>t σ H fun x H'=>∃ k,x=.bl k∧Q k H'
theorem pt_cmpR {op:CmpOp}{r:R2} (ho:OpR X (compareOp op) r) (ha:PE X a ta) (hb:PE X b tb) (hm:behindInMarks op b=false):PT X (.Compare a [op] [b] pos) (tTest (tOp r ta tb)):=by
 intro pins s σ H Q I h
 refine wpAny_isTrue_Compare1 (thn (ha pins s σ H _ I h) fun v s1 ⟨x,H1,I1,r1,q1⟩=>thn (hb pins s1 σ H1 _ I1 q1) fun u s2 ⟨y,H2,I2,r2,q2⟩ =>
  thn (ho pins s2 σ H2 x y v u _ I2 r1 r2 q2) fun c s3 ⟨z,H3,I3,r3,k,e,q3⟩=>?_) hm
 subst e
 cases r3
 exact wpAny_truthy_bool ⟨H3,I3,q3⟩
def tChain (r r':R2) (ta tb tc:TE):TE:=fun σ H Q=>ta σ H fun x H1=>tb σ H1 fun y H2=>r x y H2 fun z H3=>∃ k,z=.bl k ∧
 (if k=true then tc σ H3 fun w' H4=>r' y w' H4 Q else Q (.bl false) H3)
theorem pe_chain {op op':CmpOp}{r r':R2} (ho:OpR X (compareOp op) r) (ho':OpR X (compareOp op') r') (ha:PE X a ta) (hb:PE X b tb) (hc:PE X c tc)
  (hm:lastMarks [op,op'] [b,c]=false:=by with_unfolding_all rfl):PE X (.Compare a [op,op'] [b,c] pos) (tChain r r' ta tb tc):=by
 intro pins s σ H Q I h
 refine Compare_chain (thn (ha pins s σ H _ I h) fun v s1 ⟨x,H1,I1,r1,q1⟩=>chain_link (thn (hb pins s1 σ H1 _ I1 q1) fun u s2 ⟨y,H2,I2,r2,q2⟩ =>
  thn (ho pins s2 σ H2 x y v u _ I2 r1 r2 q2) fun d s3 ⟨z,H3,I3,r3,k,e,q3⟩=>?_)) hm
 subst e
 cases r3
 refine wpAny_truthy_bool ?_
 cases k with
 | false=>exact ite_ff ⟨.bl false,H3,I3,rfl,q3⟩
 | true=>exact ite_tt (chain_last (thn (hc pins s3 σ H3 _ I3 q3) fun w' s4 ⟨z',H4,I4,r4,q4⟩=>ho' pins s4 σ H4 y z' u w' Q I4 r2 r4 q4))
theorem pt_chain {op op':CmpOp}{r r':R2} (ho:OpR X (compareOp op) r) (ho':OpR X (compareOp op') r') (ha:PE X a ta) (hb:PE X b tb) (hc:PE X c tc)
  (hm:lastMarks [op,op'] [b,c]=false:=by with_unfolding_all rfl):PT X (.Compare a [op,op'] [b,c] pos) (tTest (tChain r r' ta tb tc)):=by
 intro pins s σ H Q I h
 refine isTrue_chain (thn (ha pins s σ H _ I h) fun v s1 ⟨x,H1,I1,r1,q1⟩=>test_link (thn (hb pins s1 σ H1 _ I1 q1) fun u s2 ⟨y,H2,I2,r2,q2⟩ =>
  thn (ho pins s2 σ H2 x y v u _ I2 r1 r2 q2) fun d s3 ⟨z,H3,I3,r3,k,e,q3⟩=>?_)) hm
 subst e
 cases r3
 refine wpAny_truthy_bool ?_
 cases k with
 | false =>
  obtain ⟨k',e',q'⟩:=q3
  cases e'
  exact ite_ff ⟨H3,I3,q'⟩
 | true =>
  refine ite_tt (test_last (thn (hc pins s3 σ H3 _ I3 q3) fun w' s4 ⟨z',H4,I4,r4,q4⟩=>thn (ho' pins s4 σ H4 y z' u w' _ I4 r2 r4 q4) fun d' s5 ⟨z2,H5,I5,r5,k2,e2,q5⟩=>?_))
  subst e2
  cases r5
  exact wpAny_truthy_bool ⟨H5,I5,q5⟩
def TruV (K:PySem.W.Frag) (x:V) (H:Hp) (k:Bool):Prop :=
 match x with
 | .non=>k=false
 | .bl b=>k=b
 | .int i=>k=(i != 0)
 | .str y=>y.length≤sizeLine∧k=((y.length:Int) != 0)
 | .byt y=>y.size≤sizeLine∧k=((y.size:Int) != 0)
 | .ref p=>(∃ xs,SqL K H p xs∧k = !xs.isEmpty)∨(∃ xs,SqT K H p xs∧k = !xs.isEmpty)∨∃ kvs,H p=some (.dK kvs)∧k = !kvs.isEmpty
 | _=>False
theorem isEmpty_kv {κ:Type}{kvs:List (κ × V)}{vs:List (κ × Value)} (r:KV kvs vs):(!vs.isEmpty) = !kvs.isEmpty:=by
 cases r <;> rfl
theorem isEmpty_of {xs:List V}{its:List Value} (r:Vals xs its):(!its.toArray.isEmpty) = !xs.isEmpty:=by
 cases r <;> simp
theorem line63:(sizeLine:Nat)<2 ^ 63:=by rw [sizeLine_eq];decide
theorem tru_ok:TruR X (fun x H Q=>∃ k,TruV X.K x H k∧Q k H):=by
 intro pins s σ H x v Q I rx h
 obtain ⟨k,e,q⟩:=h
 have hl:=line63
 have hs:sizeLine=16777216:=sizeLine_eq
 cases x with
 | non =>
  cases rx
  have e':k=false:=e
  subst e'
  exact truthy_none ⟨H,I,q⟩
 | bl b =>
  cases rx
  have e':k=b:=e
  subst e'
  exact wpAny_truthy_bool ⟨H,I,q⟩
 | int i =>
  obtain ⟨t,rfl⟩:=rx
  have e':k=(i != 0):=e
  subst e'
  exact PySem.P.truthy_int ⟨H,I,q⟩
 | str y =>
  obtain ⟨t,rfl⟩:=rx
  obtain ⟨hy,e'⟩:y.length≤sizeLine∧k=((y.length:Int) != 0):=e
  subst e'
  exact PySem.P.truthy_str (by omega) ⟨H,I.tok _,q⟩
 | byt y =>
  obtain ⟨t,rfl⟩:=rx
  obtain ⟨hy,e'⟩:y.size≤sizeLine∧k=((y.size:Int) != 0):=e
  subst e'
  exact PySem.W.truthy_bytes (by omega) ⟨H,I.tok _,q⟩
 | ref p =>
  cases rx
  have e':(∃ xs,SqL X.K H p xs∧k = !xs.isEmpty)∨(∃ xs,SqT X.K H p xs∧k = !xs.isEmpty)∨∃ kvs,H p=some (.dK kvs)∧k = !kvs.isEmpty:=e
  rcases e' with ⟨xs,hx,e'⟩ | ⟨xs,hx,e'⟩ | ⟨kvs,hx,e'⟩
  ·subst e'
   obtain ⟨its,r,pl,hz⟩:=I.list hx
   have hlen:=r.length
   exact wpAny_truthy_list pl.isList (by simp only [List.size_toArray];omega) ⟨H,I.tok _,by rw [isEmpty_of r];exact q⟩
  ·subst e'
   obtain ⟨its,r,pl,hz⟩:=I.tuple hx
   have hlen:=r.length
   exact truthy_tuple pl (by simp only [List.size_toArray];omega) ⟨H,I.tok _,by rw [isEmpty_of r];exact q⟩
  ·subst e'
   obtain ⟨hz,hS,vs,r,m⟩:kvs.length≤sizeLine∧(p == sysModules)=false∧∃ vs,KV kvs vs∧s.heap.DictOf (mixKind X.prog X.w) p vs:=I.hok p _ hx
   have hlen:kvs.length=vs.length:=Paired.length r
   exact wpAny_truthy_dict hS m (by omega) ⟨H,I.tok _,by rw [isEmpty_kv r];exact q⟩
 | _=>exact (show False from e).elim
theorem pt_truth (ha:PE X a ta) (he:∀ whole,isTrue a X.env whole=(do let v ← whole;standAt a.pos;holding [v] (truthy v))) :
  PT X a (fun σ H Q=>ta σ H fun x H'=>∃ k,TruV X.K x H' k∧Q k H'):=by
 intro pins s σ H Q I h
 exact isTrue_plain (thn (ha pins s σ H _ I h) fun v s1 ⟨x,H1,I1,r1,q1⟩=>tru_ok pins s1 σ H1 x v Q I1 r1 q1) (he _)
theorem op_add_str:OpR X (binaryOp .Add) (fun x y H Q=>∃ i j,x=.str i∧y=.str j∧i.length+j.length≤sizeLine∧Q (.str (i ++ j)) H):=by
 intro pins s σ H x y v u Q I rx ry h
 obtain ⟨i,j,rfl,rfl,hz,q⟩:=h
 obtain ⟨t,rfl⟩:=rx
 obtain ⟨t',rfl⟩:=ry
 exact add_str (fun t' tk=>⟨.str (i ++ j),H,I.tok _,⟨_,rfl⟩,q⟩) hz
theorem vals1 {x:V}{us:List Value} (r:Vals [x] us):∃ u,us=[u]∧RelV x u:=by
 cases r with
 | cons r1 r2=>cases r2;exact ⟨_,rfl,r1⟩
theorem vals2 {x y:V}{us:List Value} (r:Vals [x,y] us):∃ u w',us=[u,w']∧RelV x u∧RelV y w':=by
 cases r with
 | cons r1 r2 =>
  cases r2 with
  | cons r3 r4=>cases r4;exact ⟨_,_,rfl,r1,r3⟩
theorem call_min2 (hc:X.calm=true):CallR X (.builtin "min") (fun xs H Q=>∃ i j,xs=[.int i,.int j]∧Q (.int (if j<i then j else i)) H):=by
 intro pins s σ H xs us Q I r h
 obtain ⟨i,j,rfl,q⟩:=h
 obtain ⟨u,w',rfl,⟨t,rfl⟩,⟨t',rfl⟩⟩:=vals2 r
 refine min_two_ints (I.ok.hd hc) fun h' tk k=>⟨_,H,I.kept k,?_,q⟩
 by_cases hj:j<i
 ·rw [if_pos hj,if_pos hj];exact ⟨_,rfl⟩
 ·rw [if_neg hj,if_neg hj];exact ⟨_,rfl⟩
theorem call_int1:CallR X (.type "int") (fun xs H Q=>(∃ i,xs=[.int i]∧Q (.int i) H)∨∃ k,xs=[.bl k]∧Q (.int (if k then 1 else 0)) H):=by
 intro pins s σ H xs us Q I r h
 rcases h with ⟨i,rfl,q⟩ | ⟨k,rfl,q⟩
 ·obtain ⟨u,rfl,t,rfl⟩:=vals1 r
  exact call_int_int ⟨.int i,H,I,⟨_,rfl⟩,q⟩
 ·obtain ⟨u,rfl,r1⟩:=vals1 r
  cases r1
  exact call_int_bool ⟨.int (if k then 1 else 0),H,I.tok _,⟨_,rfl⟩,q⟩
end
structure ObjM (h:Heap) (x dx C:Addr) (mA:Str→Option Value):Prop where
 obj:h.get? x=some (PySem.W.instObj C dx)
 ns:h.Ns1 dx mA
 ne:dx≠x
theorem lookIn_ns {h:Heap}{dx:Addr}{mA:Str→Option Value} (n:h.Ns1 dx mA):∃ od,h.get? dx=some od∧∀ name,PySem.W.lookIn name od=some (mA name):=by
 obtain ⟨o,es,ep,ho,hd,hk,_,hm⟩:=n
 refine ⟨o,ho,fun name=>?_⟩
 have e:=hm name
 unfold nsFind findBy at e
 rw [← Array.find?_toList] at e
 unfold PySem.W.lookIn
 rw [hd]
 dsimp only
 split
 ·rename_i y q
  rw [q] at e
  exact congrArg some e
 ·rename_i q
  rw [q] at e
  have a:es.toList.any (·.refKey)=false:=by
   rw [List.any_eq_false]
   intro y hy
   obtain ⟨z,t,hkey⟩:=hk y (Array.mem_toList_iff.mp hy)
   simp [DictEntry.refKey,hkey]
  have a':¬ es.toList.any (·.refKey)=true:=by rw [a];exact Bool.false_ne_true
  rw [if_neg a']
  exact congrArg some e
theorem ObjM.look {h:Heap}{x dx C:Addr}{mA:Str→Option Value} (I:ObjM h x dx C mA):∃ od,PySem.W.InstAt h x (PySem.W.instObj C dx) C (some od)∧∀ name,PySem.W.lookIn name od=some (mA name) :=
 let ⟨od,ho,hl⟩:=lookIn_ns I.ns
 ⟨od,⟨I.obj,rfl,rfl,ho⟩,hl⟩
section
variable {prog:Program}{w:World}{A:Around}{E:Value→Shared→Prop}{s:Shared}{K:PySem.W.Frag}{x dx C f:Addr}{mA:Str→Option Value}{name:Str}{v:Value}
theorem get_map {expr:Bool}{Q:Value→Shared→Prop} (X:K.In s.heap) (I:ObjM s.heap x dx C mA) (hg:PySem.W.plainGet K C name=true) (hh:PySem.W.hasDictIn K C=true)
  (ha:PySem.W.findIn K (.ref C) name=some none) (hv:mA name=some v) (hv':PySem.W.handedIn v=true) (h:Q v { s with toks:=s.toks+1 }) :
  wpAny (model prog w) A (getAttr (.ref x) name expr) Q E s:=by
 obtain ⟨od,J,hl⟩:=I.look
 exact PySem.W.get_value X J (PySem.W.plainGet_of hg).1 (PySem.W.findObj_own hh ha rfl (by rw [hl,hv])) hv' h
theorem set_map {ns:List Str}{Q:Unit→Shared→Prop} (X:K.In s.heap) (I:ObjM s.heap x dx C mA)
  (hs:PySem.W.findIn K (.ref C) "__setattr__" = some (some (.builtin "object.__setattr__"))) (hp:PySem.W.plainOver K C=true) (ht:PySem.W.takerIn K C name=some none) (hh:PySem.W.hasDictIn K C=true)
  (hw:PySem.Within mA ns) (hsz:ns.length≤sizeLine)
  (h:∀ h',ObjM h' x dx C (fun y=>if y=name then some v else mA y)→Heap.SameBut dx s.heap h'→Q () { s with heap:=h',toks:=s.toks+2 }) :
  wpAny (model prog w) A (setAttr (.ref x) name v) Q E s:=by
 obtain ⟨od,J,hl⟩:=I.look
 refine PySem.W.set_plain X J hs (PySem.W.osa_open (s:={ s with toks:=s.toks+1 }) (r:=none) X J hp ht fun b=>?_)
 obtain ⟨cd,hc,hd'⟩:=PySem.W.any_some hh
 have hx:s.heap.get? x=some ⟨.ref C,some dx,.plain,#[]⟩:=I.obj
 refine wpAny_bind (wpAny_pure (wpAny_bind (wpAny_bind (wpAny_loadPart hx (wpAny_bind (PySem.W.Looks.here (s:={ s with toks:=s.toks+1 }) (PySem.W.looks_clsIn X hc) ?_))))))
 rw [hd']
 refine wpAny_pure (a:=some dx) (wpAny_bind (wpAny_pure (wpAny_bind ?_)))
 refine wpAny_nsSet1 (s:={ s with toks:=s.toks+1 }) I.ns fun h' hn2 hs2=>?_
 obtain ⟨oD,esD,epD,hoD,hdD,hcD⟩:=hn2.count (PySem.Within.cons name v hw)
 refine wpAny_bind (wpAny_lookBehind hoD (by rw [hdD];exact pastItsLine_dict (Nat.le_trans hcD (by rw [List.length_cons];omega))) ?_)
 exact wpAny_pure (h _ ⟨(hs2.2 _ (Ne.symm I.ne)).trans I.obj,hn2,I.ne⟩ hs2)
theorem make_map {R:Result→Shared→Prop}{vs:List Value}{kw:List (Str × Value)} (X:K.In s.heap) (hm:PySem.W.makesIn K C=true)
  (hi:PySem.W.findIn K (.ref C) "__init__" = some (some (.ref f))) (hf:PySem.W.typeIn K (.ref f)=some (.type "function"))
  (h:codeAny (model prog w) (A.under (.builtin "type.__call__" ⟨.ref C :: vs,kw⟩)) (.call (.ref f) ⟨.ref (s.heap.objs.size+1) :: vs,kw⟩) (PySem.W.InitBack (s.heap.objs.size+1) R)
   { s with heap:=(s.heap.push PySem.W.emptyDict).push (PySem.W.instObj C s.heap.objs.size) }) :
  codeAny (model prog w) A (.call (.ref C) ⟨vs,kw⟩) R s:=by
 obtain ⟨hh,g,d,t,os⟩:=s
 exact PySem.W.make_core (PySem.W.makes_of X hm) (PySem.W.looks_findIn X hi) (fun self=>PySem.W.bind_fn X self hf) (.inl rfl) h
end
def putF (f:Str) (v:V):List (Str × V)→List (Str × V)
 | []=>[(f,v)]
 | (g,x) :: r=>if g=f then (g,v) :: r else (g,x) :: putF f v r
theorem lookup_putF (f g:Str) (v:V):∀ fs:List (Str × V),(putF f v fs).lookup g=if g=f then some v else fs.lookup g
 | []=>by
  show List.lookup g [(f,v)]=_
  by_cases h:g=f
  ·have hb:(g == f)=true:=beq_iff_eq.mpr h
   simp only [List.lookup,hb,if_pos h]
  ·have hb:(g == f)=false:=beq_eq_false_iff_ne.mpr h
   simp only [List.lookup,hb,if_neg h]
 | (k,x) :: r=>by
  have ih:=lookup_putF f g v r
  rw [show putF f v ((k,x) :: r)=(if k=f then (k,v) :: r else (k,x) :: putF f v r) from rfl]
  by_cases hk:k=f
  ·rw [if_pos hk]
   by_cases h:g=k
   ·have hb:(g == k)=true:=beq_iff_eq.mpr h
    simp only [List.lookup,hb,if_pos (h.trans hk)]
   ·have hb:(g == k)=false:=beq_eq_false_iff_ne.mpr h
    simp only [List.lookup,hb,if_neg (fun e:g=f=>h (e.trans hk.symm))]
  ·rw [if_neg hk]
   by_cases h:g=k
   ·have hb:(g == k)=true:=beq_iff_eq.mpr h
    simp only [List.lookup,hb,if_neg (fun e:g=f=>hk (h.symm.trans e))]
   ·have hb:(g == k)=false:=beq_eq_false_iff_ne.mpr h
    simp only [List.lookup,hb]
    exact ih
theorem keys_putF (f:Str) (v:V):∀ fs:List (Str × V),f∈(putF f v fs).map (·.1)∧∀ g,g∈fs.map (·.1)→g∈(putF f v fs).map (·.1)
 | []=>⟨by simp [putF],fun g h=>by simp at h⟩
 | (k,x) :: r=>by
  obtain ⟨i1,i2⟩:=keys_putF f v r
  rw [show putF f v ((k,x) :: r)=(if k=f then (k,v) :: r else (k,x) :: putF f v r) from rfl]
  by_cases hk:k=f
  ·rw [if_pos hk]
   subst hk
   exact ⟨by simp,fun g h=>by simpa using h⟩
  ·rw [if_neg hk]
   refine ⟨?_,fun g h=>?_⟩
   ·rw [List.map_cons]
    exact List.mem_cons_of_mem _ i1
   ·rw [List.map_cons] at h ⊢
    rcases List.mem_cons.mp h with e | e
    ·exact List.mem_cons.mpr (.inl e)
    ·exact List.mem_cons_of_mem _ (i2 g e)
theorem length_putF (f:Str) (v:V):∀ fs:List (Str × V),(putF f v fs).length≤fs.length+1
 | []=>by simp [putF]
 | (k,x) :: r=>by
  have ih:=length_putF f v r
  rw [show putF f v ((k,x) :: r)=(if k=f then (k,v) :: r else (k,x) :: putF f v r) from rfl]
  by_cases hk:k=f
  ·rw [if_pos hk,List.length_cons,List.length_cons];omega
  ·rw [if_neg hk,List.length_cons,List.length_cons];omega
theorem RelO.some_of {v:V}{o:Option Value} (r:RelO (some v) o):∃ u,o=some u∧RelV v u:=by
 cases o with
 | none=>exact (show False from r).elim
 | some u=>exact ⟨u,rfl,r⟩
theorem handed_of {v:V}{u:Value} (r:RelV v u):PySem.W.handedIn u=true:=by
 cases v with
 | non=>cases (show u=Value.none from r);rfl
 | bl b=>cases (show u=Value.bool b from r);rfl
 | int i=>obtain ⟨t,e⟩:=(show ∃ t,u=Value.int i t from r);cases e;rfl
 | str x=>obtain ⟨t,e⟩:=(show ∃ t,u=Value.str x t from r);cases e;rfl
 | byt b=>obtain ⟨t,e⟩:=(show ∃ t,u=Value.bytes b t from r);cases e;rfl
 | flt b=>obtain ⟨t,e⟩:=(show ∃ t,u=Value.float b t from r);cases e;rfl
 | ref a=>cases (show u=Value.ref a from r);rfl
 | ty n=>cases (show u=Value.type n from r);rfl
section
variable {P:Program}{w:World}{H H':Hp}{h h':Heap}{a C dx:Addr}{fs fs':List (Str × V)}
theorem ins_get (hok:HOk P w H h) (e:H a=some (.ins C dx fs)):∃ mA,ObjM h a dx C mA∧(∀ f,RelO (fs.lookup f) (mA f))∧PySem.Within mA (fs.map (·.1))∧fs.length≤1000∧H dx=some (.own a):=by
 obtain ⟨d,z,ne,ob,mA,n,r,q⟩:=(show ObjOk P w H h a (.ins C dx fs) from hok a _ e)
 exact ⟨mA,⟨ob,n,ne⟩,r,q,z,d⟩
end
structure Cls (K:PySem.W.Frag) (C:Addr):Prop where
 pg:PySem.W.plainGet K C Str.empty=true
 hd:PySem.W.hasDictIn K C=true
 po:PySem.W.plainOver K C=true
 sa:PySem.W.findIn K (.ref C) "__setattr__" = some (some (.builtin "object.__setattr__"))
theorem Cls.get {K:PySem.W.Frag}{C:Addr} (c:Cls K C) (f:Str):PySem.W.plainGet K C f=true:=c.pg
def NoAttr (K:PySem.W.Frag) (C:Addr) (f:Str):Prop:=PySem.W.findIn K (.ref C) f=some none
theorem NoAttr.taker {K:PySem.W.Frag}{C:Addr}{f:Str} (n:NoAttr K C f):PySem.W.takerIn K C f=some none:=by
 unfold PySem.W.takerIn
 rw [show PySem.W.findIn K (.ref C) f=some none from n]
 rfl
structure Con (K:PySem.W.Frag) (C:Addr) (f:Str) (v:V) (u:Value):Prop where
 at_:PySem.W.findIn K (.ref C) f=some (some u)
 rel:RelV v u
 get:PySem.W.specialIn K u "__get__" = some none
 cp:PySem.W.copiedNames.contains f=false
structure Meth (K:PySem.W.Frag) (C:Addr) (m:Str) (f:Addr):Prop where
 at_:PySem.W.findIn K (.ref C) m=some (some (.ref f))
 fn:PySem.W.isFn K (.ref f)=true
 kp:PySem.W.keepIn K (.ref f)=true
section
variable {X:Cx}{pins:List (Addr × Obj)}{σ:St}{H:Hp}{s:Shared}{a C dx:Addr}{fs:List (Str × V)}{f:Str}{v:V}{A:Around}{E:Value→Shared→Prop}
theorem getattr_ok {b:Bool}{Q:Value→Shared→Prop} (I:Inv X pins σ H s) (e:H a=some (.ins C dx fs)) (c:Cls X.K C) (n:NoAttr X.K C f) (l:fs.lookup f=some v)
  (h:∀ u s',Inv X pins σ H s'→RelV v u→Q u s'):wpAny (model X.prog X.w) A (getAttr (.ref a) f b) Q E s:=by
 obtain ⟨mA,O,r,_,_,_⟩:=ins_get I.hok e
 obtain ⟨u,hu,ru⟩:=RelO.some_of (v:=v) (o:=mA f) (by rw [← l];exact r f)
 exact get_map I.kIn O (c.get f) c.hd n hu (handed_of ru) (h u _ (I.tok _) ru)
theorem setattr_ok {y:V}{u:Value}{Q:Unit→Shared→Prop} (I:Inv X pins σ H s) (e:H a=some (.ins C dx fs)) (c:Cls X.K C) (n:NoAttr X.K C f) (hl:fs.length<1000) (ry:RelV y u)
  (h:∀ s',Inv X pins σ (upd H a (.ins C dx (putF f y fs))) s'→Q () s'):wpAny (model X.prog X.w) A (setAttr (.ref a) f u) Q E s:=by
 obtain ⟨mA,O,r,wi,_,ho⟩:=ins_get I.hok e
 have hz:(fs.map (·.1)).length≤sizeLine:=by rw [List.length_map,sizeLine_eq];omega
 refine set_map I.kIn O c.sa c.po n.taker c.hd wi hz fun h' O' sb=>h _ ?_
 have hd:∃ o,h'.get? dx=some o:=let ⟨o,_,_,e',_⟩:=O'.ns;⟨o,e'⟩
 refine I.write (x:=a) (e:=dx) (by rw [e];exact True.intro) (.inr ho) (fun b q hb z=>(sb.2 b hb).trans z) hd ?_
 refine ⟨by rw [upd_ne O.ne];exact ho,?_,O.ne,O'.obj,_,O'.ns,fun g=>?_,fun g hg=>?_⟩
 ·have:=length_putF f y fs;omega
 ·show RelO ((putF f y fs).lookup g) (if g=f then some u else mA g)
  rw [lookup_putF]
  by_cases q:g=f
  ·rw [if_pos q,if_pos q];exact ry
  ·rw [if_neg q,if_neg q];exact r g
 ·by_cases q:g=f
  ·rw [q];exact (keys_putF f y fs).1
  ·refine (keys_putF f y fs).2 g (wi g fun z=>hg ?_)
   show (if g=f then some u else mA g)=none
   rw [if_neg q];exact z
theorem Inv.made (I:Inv X pins σ H s):Inv X pins σ (upd (upd H s.heap.objs.size (.own (s.heap.objs.size+1))) (s.heap.objs.size+1) (.ins C s.heap.objs.size []))
  { s with heap:=(s.heap.push PySem.W.emptyDict).push (PySem.W.instObj C s.heap.objs.size) }:=by
 have e1:(s.heap.push PySem.W.emptyDict).get? s.heap.objs.size=some PySem.W.emptyDict:=Heap.get?_push_size s.heap rfl
 have e2:((s.heap.push PySem.W.emptyDict).push (PySem.W.instObj C s.heap.objs.size)).get? (s.heap.objs.size+1)=some (PySem.W.instObj C s.heap.objs.size):=by
  have:=Heap.get?_push_size (s.heap.push PySem.W.emptyDict) (o:=PySem.W.instObj C s.heap.objs.size) rfl
  rwa [Heap.size_push] at this
 have e3:(s.heap.push PySem.W.emptyDict).Ns s.heap.objs.size (fun _=>none):=⟨PySem.W.emptyDict,#[],_,e1,rfl,(fun e he=>absurd he (by simp)),fun _=>rfl⟩
 have I1:=I.laid (a:=s.heap.objs.size) (o:=.own (s.heap.objs.size+1)) (h':=s.heap.push PySem.W.emptyDict) (t':=s.toks) (fun b u q=>Heap.get?_push_of_some _ q) (Nat.le_refl _) ⟨_,e1⟩
 refine I1.laid (a:=s.heap.objs.size+1) (o:=.ins C s.heap.objs.size []) (t':=s.toks) (fun b u q=>Heap.get?_push_of_some _ q) (Nat.le_of_eq (Heap.size_push _ _)) ?_
 have ne:s.heap.objs.size≠s.heap.objs.size+1:=Nat.ne_of_lt (Nat.lt_succ_self _)
 refine ⟨by rw [upd_ne ne,upd_same],Nat.zero_le _,ne,e2,fun _=>none,(Heap.Ns1.of_empty e3).at fun o q=>Heap.get?_push_of_some _ q,fun _=>True.intro,fun y hy=>absurd rfl hy⟩
theorem attr_of {prog:Program}{w:World}{env:Env}{e:Expr}{f:Str}{pos:Pos}{s:Shared}{Q:Value→Shared→Prop} (hb:attributeBase e f env (eval e env)=eval e env)
  (h:wpAny (model prog w) A (eval e env) (fun o s₁=>wpAny (model prog w) A (getAttr o f true) Q E s₁) E s):wpAny (model prog w) A (eval (.Attribute e f pos) env) Q E s :=
 Attribute_any_ h (by rw [arm_eval_Attribute,hb])
end
def tFld (K:PySem.W.Frag) (ta:TE) (f:Str):TE:=fun σ H Q=>ta σ H fun x H1=>∃ a C dx fs v,x=.ref a∧H1 a=some (.ins C dx fs)∧Cls K C∧NoAttr K C f∧fs.lookup f=some v∧Q v H1
def sFld (K:PySem.W.Frag) (ta tv:TE) (f:Str):TS:=fun D σ H=>tv σ H fun y H1=>ta σ H1 fun x H2=>∃ a C dx fs,x=.ref a∧H2 a=some (.ins C dx fs)∧Cls K C∧NoAttr K C f∧fs.length<1000 ∧
 D.nx σ (upd H2 a (.ins C dx (putF f y fs)))
section
variable {X:Cx}{o e value:Expr}{f:Str}{pos pos' tpos:Pos}{ta tv:TE}
theorem pe_fld (he:PE X e ta) (hb:attributeBase e f X.env (eval e X.env)=eval e X.env):PE X (.Attribute e f pos) (tFld X.K ta f):=by
 intro pins s σ H Q I h
 refine attr_of hb (thn (he pins s σ H _ I h) fun u s1 ⟨x,H1,I1,rx,a,C,dx,fs,v,ex,ea,c,n,l,q⟩=>?_)
 subst ex
 obtain rfl:u=Value.ref a:=rx
 exact getattr_ok I1 ea c n l fun u' s2 I2 ru=>⟨v,H1,I2,ru,q⟩
theorem ps_fld (ha:PE X o ta) (hv:PE X value tv) (hs:swapsWith value (some (.Attribute o f pos')) pos.line X.env=pure false):PS X (.Assign [.Attribute o f pos'] value pos) (sFld X.K ta tv f):=by
 intro pins s σ H D I h
 refine plainObj_wpAny_Assign_Attribute (thn (hv pins s σ H _ I h) fun u s1 ⟨y,H1,I1,ry,q⟩=>thn (ha pins s1 σ H1 _ I1 q) fun ov s2 ⟨x,H2,I2,rx,a,C,dx,fs,ex,ea,c,n,l,q2⟩=>?_) hs
 subst ex
 obtain rfl:ov=Value.ref a:=rx
 exact setattr_ok I2 ea c n l ry fun s3 I3=>⟨σ,_,I3,q2⟩
end
section
variable {X:Cx}{pins:List (Addr × Obj)}{σ:St}{H:Hp}{s:Shared}{A:Around}{E:Value→Shared→Prop}{Q:Value→Shared→Prop}{c:Value}{b:Bool}
inductive TyOf (K:PySem.W.Frag) (H:Hp):V→Value→Prop where
 | non:TyOf K H .non (.type "NoneType")
 | bl (x:Bool):TyOf K H (.bl x) (.type "bool")
 | int (i:Int):TyOf K H (.int i) (.type "int")
 | str (x:Str):TyOf K H (.str x) (.type "str")
 | flt (x:UInt64):TyOf K H (.flt x) (.type "float")
 | lst {a:Addr}{xs:List V} (e:H a=some (.lst xs)):TyOf K H (.ref a) (.type "list")
 | frz {a:Addr}{o:Obj}{xs:List V} (e:H a=some (.frz o (.lst xs))):TyOf K H (.ref a) (.type "list")
 | tup {a:Addr}{xs:List V} (e:H a=some (.tup xs)):TyOf K H (.ref a) (.type "tuple")
 | dK {a:Addr}{kvs:List (Key × V)} (e:H a=some (.dK kvs)):TyOf K H (.ref a) (.type "dict")
 | dT {a:Addr}{kvs:List (List Key × V)} (e:H a=some (.dT kvs)):TyOf K H (.ref a) (.type "dict")
 | ins {a C dx:Addr}{fs:List (Str × V)} (e:H a=some (.ins C dx fs)) (cl:Cls K C) (ha:PySem.W.findIn K (.ref C) "__class__" = some (some (.builtin "object.__class__")))
   (hn:PySem.W.specialIn K (.builtin "object.__class__") "__get__" = some (some (.builtin "getset_descriptor.__get__"))) (htk:PySem.W.takesIn K (.builtin "object.__class__")=some true)
   (hm:PySem.W.mroIn K C (.type "object")=some true):TyOf K H (.ref a) (.ref C)
theorem isinst_ok {x:V}{u t:Value} (I:Inv X pins σ H s) (rx:RelV x u) (ty:TyOf X.K H x t) (e:PySem.W.kitOne X.K t c=some b) (h:∀ tk,Q (.bool b) { s with toks:=tk }) :
  wpAny (model X.prog X.w) A (call (.builtin "isinstance") [u,c]) Q E s:=by
 cases ty with
 | non=>cases (show u=Value.none from rx);exact PySem.W.kia_one PySem.W.kitx_none I.kIn True.intro e (fun z=>nomatch z) h
 | bl y=>cases (show u=Value.bool y from rx);exact PySem.W.kia_one PySem.W.kitx_bool I.kIn True.intro e (fun z=>nomatch z) h
 | int i=>obtain ⟨t,q⟩:=(show ∃ t,u=Value.int i t from rx);cases q;exact PySem.W.kia_one PySem.W.kitx_int I.kIn True.intro e (fun z=>nomatch z) h
 | str y=>obtain ⟨t,q⟩:=(show ∃ t,u=Value.str y t from rx);cases q;exact PySem.W.kia_one PySem.W.kitx_str I.kIn True.intro e (fun z=>nomatch z) h
 | flt y=>obtain ⟨t,q⟩:=(show ∃ t,u=Value.float y t from rx);cases q;exact PySem.W.kia_one PySem.W.kitx_float I.kIn True.intro e (fun z=>nomatch z) h
 | @lst a xs ea =>
  cases (show u=Value.ref a from rx)
  obtain ⟨_,_,n,_,h1⟩:=(show ObjOk X.prog X.w H s.heap a (.lst xs) from I.hok a _ ea)
  exact PySem.W.kia_one PySem.W.kitx_list I.kIn ⟨_,h1,rfl⟩ e (fun z=>nomatch z) h
 | @frz a ob xs ea =>
  cases (show u=Value.ref a from rx)
  obtain ⟨_,_,_,n,_,h1⟩:=(show ObjOk X.prog X.w H s.heap a (.frz ob (.lst xs)) from I.hok a _ ea)
  exact PySem.W.kia_one PySem.W.kitx_list I.kIn ⟨_,h1,rfl⟩ e (fun z=>nomatch z) h
 | @tup a xs ea =>
  cases (show u=Value.ref a from rx)
  obtain ⟨_,_,_,p⟩:=(show ObjOk X.prog X.w H s.heap a (.tup xs) from I.hok a _ ea)
  obtain ⟨o,h1,h2,_⟩:=p
  exact PySem.W.kia_one PySem.W.kitx_tuple I.kIn ⟨o,h1,h2⟩ e (fun z=>nomatch z) h
 | @dK a kvs ea =>
  cases (show u=Value.ref a from rx)
  obtain ⟨_,_,vs,_,p⟩:=(show ObjOk X.prog X.w H s.heap a (.dK kvs) from I.hok a _ ea)
  obtain ⟨o,es,ep,h1,h2,_⟩:=p
  exact PySem.W.kia_one PySem.W.kitx_dict I.kIn ⟨o,h1,h2.1⟩ e (fun z=>nomatch z) h
 | @dT a kvs ea =>
  cases (show u=Value.ref a from rx)
  obtain ⟨_,_,xs,_,o,es,ep,h1,h2,_⟩:=(show ObjOk X.prog X.w H s.heap a (.dT kvs) from I.hok a _ ea)
  exact PySem.W.kia_one PySem.W.kitx_dict I.kIn ⟨o,h1,h2.1⟩ e (fun z=>nomatch z) h
 | @ins a C dx fs ea cl ha hn htk hm =>
  cases (show u=Value.ref a from rx)
  obtain ⟨mA,O,_⟩:=ins_get I.hok ea
  obtain ⟨od,J,_⟩:=O.look
  exact PySem.W.kia_one (PySem.W.kitx_own (cl.get _) cl.hd ha hn htk hm) I.kIn J e (fun z=>nomatch z) h
end
structure Room (k:Nat) (A:Around):Prop where
 hd:A.handled=none
 dp:A.depth+3 * k+5<recursionLimit
 un:A.units+16 * k+200<cLine
theorem Room.mono {j k:Nat}{A:Around} (r:Room k A) (h:j≤k):Room j A:=⟨r.hd,by have:=r.dp;omega,by have:=r.un;omega⟩
theorem Room.deeper {k:Nat}{A:Around} (r:Room (k+1) A) (env:Env):Room k (A.deeper env) :=
 ⟨r.hd,by have:=r.dp;show A.depth+1+3 * k+5<_;omega,by have:=r.un;show A.units+3+16 * k+200<_;omega⟩
theorem Room.in1 {k:Nat}{A:Around} (r:Room (k+1) A):Room k A.in1 :=
 ⟨r.hd,by have:=r.dp;show A.depth+3 * k+5<_;omega,by have:=r.un;show A.units+1+16 * k+200<_;omega⟩
theorem make_depth {A:Around}{C:Addr}{us:List Value}{kw:List (Str × Value)}:(A.under (.builtin "type.__call__" ⟨.ref C :: us,kw⟩)).depth=A.depth+1:=by
 first | rfl | simp [Around.under,Code.weight,Code.isCreation,Code.isGuard,Code.isCaller,Code.frames,Code.isFrame,guardIds]
theorem make_units {A:Around}{C:Addr}{us:List Value}{kw:List (Str × Value)}:(A.under (.builtin "type.__call__" ⟨.ref C :: us,kw⟩)).units=A.units+1:=by
 first | rfl | simp [Around.under,Code.cUnits,Code.frames,Code.isFrame]
theorem Room.make {k:Nat}{A:Around} (r:Room (k+1) A) (C:Addr) (us:List Value) (kw:List (Str × Value)):Room k (A.under (.builtin "type.__call__" ⟨.ref C :: us,kw⟩)) :=
 ⟨r.hd,by have:=r.dp;rw [make_depth];omega,by have:=r.un;rw [make_units];omega⟩
theorem Room.depth {k:Nat}{A:Around} (r:Room k A):A.depth<recursionLimit:=by have:=r.dp;omega
theorem Room.units {k:Nat}{A:Around} (r:Room k A):A.units+64<cLine:=by have:=r.un;omega
def tNil:TA:=fun _ H Q=>Q [] H
def tCons (ta:TE) (tr:TA):TA:=fun σ H Q=>ta σ H fun x H1=>tr σ H1 fun xs H2=>Q (x :: xs) H2
section
variable {X:Cx}{e:Expr}{es:List Expr}{te:TE}{t:TA}{pos:Pos}
theorem pa_nil:PA X [] tNil:=fun _ _ _ _ H Q I h=>Calls.spliced_nil ⟨[],H,I,.nil,h⟩
theorem pa_cons (ha:PE X e te) (hr:PA X es t) (hs:starEach (e :: es) X.env=(false,eval e X.env) :: starEach es X.env:=by rfl):PA X (e :: es) (tCons te t):=by
 intro pos pins s σ H Q I h
 rw [hs]
 show wpAny _ _ (spliced ((false,eval e X.env) :: backTo pos (starEach es X.env))) _ _ s
 refine Calls.spliced_cons (thn (ha pins s σ H _ I h) fun u s1 ⟨x,H1,I1,r1,q1⟩=>?_)
 exact thn (hr pos pins s1 σ H1 _ I1 q1) fun us s2 ⟨xs,H2,I2,r2,q2⟩=>⟨x :: xs,H2,I2,.cons r1 r2,q2⟩
def tTup (t:TA):TE:=fun σ H Q=>t σ H fun xs H1=>xs.length≤sizeLine∧∀ p,H1 p=none→Q (.ref p) (upd H1 p (.tup xs))
def tLst (t:TA):TE:=fun σ H Q=>t σ H fun xs H1=>xs.length≤sizeLine∧∀ p,H1 p=none→Q (.ref p) (upd H1 p (.lst xs))
theorem pe_tup {x1} (h:PA X es t):PE X (.Tuple es x1 pos) (tTup t):=by
 intro pins s σ H Q I hq
 refine wpAny_Tuple_spliced (thn (h pos pins s σ H _ I hq) fun us s1 ⟨xs,H1,I1,r,z,q⟩=>⟨by rw [← r.length];exact z,?_⟩)
 have hf:H1 s1.heap.objs.size=none:=I1.hok.fresh (Nat.le_refl _)
 refine ⟨.ref s1.heap.objs.size,upd H1 s1.heap.objs.size (.tup xs),I1.laid (t':=s1.toks) (fun b u e=>Heap.get?_push_of_some _ e) (Nat.le_refl _) ?_,rfl,q _ hf⟩
 exact ⟨z,us,r,⟨_,Heap.get?_push_size _ rfl,rfl,_,rfl⟩⟩
theorem pe_lst (h:PA X es t):PE X (.List es pos) (tLst t):=by
 intro pins s σ H Q I hq
 refine wpAny_List_spliced (thn (h pos pins s σ H _ I hq) fun us s1 ⟨xs,H1,I1,r,z,q⟩=>⟨by rw [← r.length];exact z,?_⟩)
 have hf:H1 s1.heap.objs.size=none:=I1.hok.fresh (Nat.le_refl _)
 refine ⟨.ref s1.heap.objs.size,upd H1 s1.heap.objs.size (.lst xs),I1.laid (t':=s1.toks) (fun b u e=>Heap.get?_push_of_some _ e) (Nat.le_refl _) ?_,rfl,q _ hf⟩
 exact ⟨z,us,0,r,Heap.get?_push_size _ rfl⟩
end
abbrev Sp:=List V→Hp→VK→XK→Prop
abbrev CXT:=List Env→Hp→Shared→XK→Value→Shared→Prop
structure Env0 (P:Program) (w:World) (K:PySem.W.Frag) (mg:Str→Option Value) (base:Heap) (A:Around) (outer:List Env) (s:Shared) (H:Hp):Prop where
 frames:A.frames=some outer
 mod:Mod K mg base
 bs:∀ b o,base.get? b=some o→s.heap.get? b=some o∧H b=none
 bsz:base.objs.size≤s.heap.objs.size
 funs:s.heap.FunFrames base outer
 frf:∀ b∈frs outer,H b=none
 hok:HOk P w H s.heap
 bare:AllBare s.gens
def CE (outer:List Env) (P:Program) (w:World) (H:Hp) (s:Shared) (Q:VK) (u:Value) (s':Shared):Prop :=
 ∃ v H',s'.os=s.os∧AllBare s'.gens∧Un (frs outer) [] H H' s.heap s'.heap∧HOk P w H' s'.heap∧RelV v u∧Q v H'
def CR (CX:CXT) (outer:List Env) (P:Program) (w:World) (H:Hp) (s:Shared) (Q:VK) (E:XK) (r:Result) (s':Shared):Prop :=
 match r with
 | .ok (.ret u)=>CE outer P w H s Q u s'
 | .ok _=>False
 | .error e=>CX outer H s E e s'
structure FnOk (P:Program) (w:World) (K:PySem.W.Frag) (mg:Str→Option Value) (base:Heap) (CX:CXT) (k:Nat) (f:Addr) (fd:FuncData) (ps:List Str) (sp:Sp):Prop where
 len:∀ vs H Q E,sp vs H Q E→vs.length=ps.length
 run:∀ (A:Around) (outer:List Env) (s:Shared) (H:Hp) (args:Args) (us:List Value) (vs:List V) (Q:VK) (E:XK),Room k A→Env0 P w K mg base A outer s H→BindsTo s fd args (ps.zip us)→Vals vs us→sp vs H Q E →
  codeAny (model P w) A (.call (.ref f) args) (CR CX outer P w H s Q E) s
theorem Env0.make {P:Program}{w:World}{K:PySem.W.Frag}{mg:Str→Option Value}{base:Heap}{A:Around}{outer:List Env}{s:Shared}{H:Hp} (e:Env0 P w K mg base A outer s H) (C:Addr) (us:List Value) (kw:List (Str × Value)) :
  Env0 P w K mg base (A.under (.builtin "type.__call__" ⟨.ref C :: us,kw⟩)) outer s H:=⟨by first | exact e.frames | (simpa [Around.under,Code.envs,Code.isFrame,pushEnvs] using e.frames),e.mod,e.bs,e.bsz,e.funs,e.frf,e.hok,e.bare⟩
theorem Env0.in1 {P:Program}{w:World}{K:PySem.W.Frag}{mg:Str→Option Value}{base:Heap}{A:Around}{outer:List Env}{s:Shared}{H:Hp} (e:Env0 P w K mg base A outer s H) :
  Env0 P w K mg base A.in1 outer s H:=⟨e.frames,e.mod,e.bs,e.bsz,e.funs,e.frf,e.hok,e.bare⟩
section
variable {X:Cx}{pins:List (Addr × Obj)}{σ:St}{H:Hp}{s s':Shared}
theorem Inv.env0 (I:Inv X pins σ H s):Env0 X.prog X.w X.K X.mg X.base X.A X.stack s H :=
 ⟨I.ok.frames,I.ok.mod,I.bs,Nat.le_trans I.ok.bsz I.sz,I.stack,I.stkFree,I.hok,I.bare⟩
theorem Inv.after {Q:VK}{u:Value} (I:Inv X pins σ H s) (h:CE X.stack X.prog X.w H s Q u s'):EP X pins σ Q u s':=by
 obtain ⟨v,H',os,bare,un,hok,r,q⟩:=h
 obtain ⟨hh,g,d,t,os'⟩:=s'
 obtain rfl:os'=s.os:=os
 exact ⟨v,H',I.call (h':=hh) (g':=g) (d':=d) (t':=t) (ch:=[]) un hok bare (fun b z=>absurd z (by simp)),r,q⟩
end
def tCall (sp:Sp) (dvs:List V) (E:XK) (t:TA):TE:=fun σ H Q=>t σ H fun vs H1=>sp (vs ++ dvs) H1 Q E
def tMake (C:Addr) (sp:Sp) (dvs:List V) (E:XK) (t:TA):TE:=fun σ H Q=>t σ H fun vs H1=>∀ x dx,H1 x=none→H1 dx=none→dx≠x →
 sp (.ref x :: (vs ++ dvs)) (upd (upd H1 dx (.own x)) x (.ins C dx [])) (fun v H2=>v=.non∧Q (.ref x) H2) E
def Binds (K:PySem.W.Frag) (fd:FuncData) (ps:List Str) (ds:List Value):Prop :=
 ∀ (s:Shared) (us:List Value),K.In s.heap→(us ++ ds).length=ps.length→BindsTo s fd ⟨us,[]⟩ (ps.zip (us ++ ds))
theorem Binds.all {K:PySem.W.Frag}{fd:FuncData}{ps:List Str} (h:∀ us:List Value,us.length=ps.length→bindArgs fd ⟨us,[]⟩=pure (ps.zip us)):Binds K fd ps []:=fun s us _ hl=>by
 rw [List.append_nil] at hl ⊢
 exact .of_eq (h us hl)
def Passes (CX:CXT) (X:Cx) (E:XK):Prop:=∀ (pins:List (Addr × Obj)) (σ:St) (H:Hp) (s:Shared) (e:Value) (s':Shared),Inv X pins σ H s→CX X.stack H s E e s'→X.xe e s'
section
variable {X:Cx}{CX:CXT}{k:Nat}{f C:Addr}{fd:FuncData}{ps:List Str}{sp:Sp}{dvs:List V}{ds:List Value}{E:XK}{x m:Str}{p pos apos:Pos}{e o:Expr}{es:List Expr}{ta:TE}{t:TA}
theorem run_fn {pins:List (Addr × Obj)}{σ:St}{H:Hp}{s:Shared}{Q:VK}{us:List Value}{vs:List V} (F:FnOk X.prog X.w X.K X.mg X.base CX k f fd ps sp) (hr:Room k X.A) (hb:Binds X.K fd ps ds) (hd:Vals dvs ds) (hx:Passes CX X E)
  (I:Inv X pins σ H s) (r:Vals vs us) (h:sp (vs ++ dvs) H Q E):wpAny (model X.prog X.w) X.A (call (.ref f) us) (EP X pins σ Q) X.xe s:=by
 have r2:Vals (vs ++ dvs) (us ++ ds):=r.append hd
 have hl:(us ++ ds).length=ps.length:=by rw [← r2.length];exact F.len _ _ _ _ h
 refine wpAny_call (codeAny_mono (F.run X.A X.stack s H ⟨us,[]⟩ (us ++ ds) (vs ++ dvs) Q E hr I.env0 (hb s us I.kIn hl) r2 h) fun r s' hq=>?_)
 cases r with
 | error e=>exact hx pins σ H s e s' I hq
 | ok fl =>
  cases fl with
  | ret u=>exact I.after hq
  | next=>exact False.elim hq
  | brk=>exact False.elim hq
  | cont=>exact False.elim hq
theorem pe_call (F:FnOk X.prog X.w X.K X.mg X.base CX k f fd ps sp) (hr:Room k X.A) (hg:Gl X x) (hm:X.mg x=some (.ref f)) (hk:PySem.W.keepIn X.K (.ref f)=true) (hb:Binds X.K fd ps ds) (hd:Vals dvs ds) (hx:Passes CX X E)
  (ha:PA X (e :: es) t) (hdb:(x == ("__debug__" : Str))=false:=by decide) (he:starEach (e :: es) X.env=(false,eval e X.env) :: starEach es X.env:=by rfl) (hpl:(backTo pos (starEach es X.env)).any (·.1)=false:=by rfl) :
  PE X (.Call (.Name x p) (e :: es) [] pos) (tCall sp dvs E t):=by
 intro pins s σ H Q I h
 refine wpAny_Call_Name_kw (ld_glob I hg hm ?_ hdb)
 refine PySem.W.callWith_K (h₀:=X.base) I.ok.mod.kin hk (thn (ha pos pins s σ H _ I h) fun us s1 ⟨vs,H1,I1,r,q⟩=>⟨I1.kIn,?_⟩) he hpl
 exact run_fn F hr hb hd hx I1 r q
structure Mk (K:PySem.W.Frag) (C f:Addr):Prop where
 makes:PySem.W.makesIn K C=true
 init:PySem.W.findIn K (.ref C) "__init__" = some (some (.ref f))
 fn:PySem.W.isFn K (.ref f)=true
 kp:PySem.W.keepIn K (.ref C)=true
theorem run_make {pins:List (Addr × Obj)}{σ:St}{H:Hp}{s:Shared}{Q:VK}{us:List Value}{vs:List V} (M:Mk X.K C f) (F:FnOk X.prog X.w X.K X.mg X.base CX k f fd ps sp) (hr:Room (k+1) X.A) (hb:Binds X.K fd ps ds) (hd:Vals dvs ds)
  (hx:Passes CX X E) (I:Inv X pins σ H s) (r:Vals vs us)
  (h:∀ x dx,H x=none→H dx=none→dx≠x→sp (.ref x :: (vs ++ dvs)) (upd (upd H dx (.own x)) x (.ins C dx [])) (fun v H2=>v=.non∧Q (.ref x) H2) E) :
  wpAny (model X.prog X.w) X.A (call (.ref C) us) (EP X pins σ Q) X.xe s:=by
 have hq:=h (s.heap.objs.size+1) s.heap.objs.size (I.hok.fresh (Nat.le_succ _)) (I.hok.fresh (Nat.le_refl _)) (Nat.ne_of_lt (Nat.lt_succ_self _))
 have I2:=Inv.made (C:=C) I
 have r2:Vals (V.ref (s.heap.objs.size+1) :: (vs ++ dvs)) (Value.ref (s.heap.objs.size+1) :: (us ++ ds)):=.cons rfl (r.append hd)
 have hl:(Value.ref (s.heap.objs.size+1) :: us ++ ds).length=ps.length:=by
  have e:=r2.length
  rw [F.len _ _ _ _ hq] at e
  exact e.symm
 refine wpAny_call (make_map (f:=f) I.kIn M.makes M.init (beq_iff_eq.mp M.fn) (codeAny_mono (F.run _ X.stack _ _ ⟨Value.ref (s.heap.objs.size+1) :: us,[]⟩ (Value.ref (s.heap.objs.size+1) :: (us ++ ds)) _ _ E (hr.make C us [])
  (I2.env0.make C us []) (hb _ (Value.ref (s.heap.objs.size+1) :: us) I2.kIn hl) r2 hq) fun r s' hq'=>?_))
 cases r with
 | error e=>exact hx pins σ _ _ e s' I2 hq'
 | ok fl =>
  cases fl with
  | ret u =>
   obtain ⟨v,H',I3,rv,ev,q3⟩:=I2.after hq'
   subst ev
   exact ⟨rv,⟨V.ref (s.heap.objs.size+1),H',I3,rfl,q3⟩⟩
  | next=>exact False.elim hq'
  | brk=>exact False.elim hq'
  | cont=>exact False.elim hq'
theorem pe_make (M:Mk X.K C f) (F:FnOk X.prog X.w X.K X.mg X.base CX k f fd ps sp) (hr:Room (k+1) X.A) (hg:Gl X x) (hm:X.mg x=some (.ref C)) (hb:Binds X.K fd ps ds) (hd:Vals dvs ds) (hx:Passes CX X E)
  (ha:PA X (e :: es) t) (hdb:(x == ("__debug__" : Str))=false:=by decide) (he:starEach (e :: es) X.env=(false,eval e X.env) :: starEach es X.env:=by rfl) (hpl:(backTo pos (starEach es X.env)).any (·.1)=false:=by rfl) :
  PE X (.Call (.Name x p) (e :: es) [] pos) (tMake C sp dvs E t):=by
 intro pins s σ H Q I h
 refine wpAny_Call_Name_kw (ld_glob I hg hm ?_ hdb)
 refine PySem.W.callWith_K (h₀:=X.base) I.ok.mod.kin M.kp (thn (ha pos pins s σ H _ I h) fun us s1 ⟨vs,H1,I1,r,q⟩=>⟨I1.kIn,?_⟩) he hpl
 exact run_make M F hr hb hd hx I1 r q
end
def PK (X:Cx) (kws:List Keyword) (t:TA):Prop :=
 ∀ (pos:Pos) (pins:List (Addr × Obj)) (s:Shared) (σ:St) (H:Hp) (Q:List V→Hp→Prop),Inv X pins σ H s→t σ H Q→wpAny (model X.prog X.w) X.A (evalAll ((backToKw pos (keywordEach kws X.env)).map (·.2))) (AP X pins σ Q) X.xe s
section
variable {X:Cx}{CX:CXT}{k:Nat}{f C:Addr}{fd:FuncData}{ps ks:List Str}{sp:Sp}{E:XK}{x m:Str}{p pos apos kpos:Pos}{e o:Expr}{es:List Expr}{kws:List Keyword}{te ta:TE}{t tk:TA}{nm:Option Str}
structure KBinds (K:PySem.W.Frag) (fd:FuncData) (ps ks:List Str) (g:List Value→List Value→List Value) (gV:List V→List V→List V):Prop where
 to:∀ (s:Shared) (us ws:List Value),K.In s.heap→(g us ws).length=ps.length→BindsTo s fd ⟨us,ks.zip ws⟩ (ps.zip (g us ws))
 rel:∀ {vs:List V}{us:List Value}{zs:List V}{ws:List Value},Vals vs us→Vals zs ws→Vals (gV vs zs) (g us ws)
variable {g:List Value→List Value→List Value}{gV:List V→List V→List V}
end
structure FnScope (N P:List Str) (sc:Scope):Prop where
 kind:sc.kind=.function
 co:sc.isCoroutine=false
 gen:sc.isGenerator=false
 nd:N.Nodup
 pre:N.take P.length=P
 par:∀ x∈P,sc.names.lookup x=some .local∨sc.names.lookup x=some .cell
 nofree:∀ y∈sc.names,y.2≠.free
theorem bindL_out {kindOf:Str→Option NameKind}{x:Str}:∀ {binds:List (Str × Value)}{m:Str→Option Value},(∀ v,(x,v) ∉ binds)→bindL kindOf binds m x=m x
 | [],_,_=>rfl
 | (n,v) :: r,m,h=>by
  unfold bindL
  rw [bindL_out fun w hw=>h w (List.mem_cons_of_mem _ hw)]
  split
  ·have:x≠n:=by rintro rfl;exact h v List.mem_cons_self
   simp [this]
  ·rfl
theorem bindC_out {kindOf:Str→Option NameKind}{x:Str}:∀ {binds:List (Str × Value)}{m:Str→Option Value},(∀ v,(x,v) ∉ binds)→bindC kindOf binds m x=m x
 | [],_,_=>rfl
 | (n,v) :: r,m,h=>by
  unfold bindC
  rw [bindC_out fun w hw=>h w (List.mem_cons_of_mem _ hw)]
  split
  ·rfl
  ·have:x≠n:=by rintro rfl;exact h v List.mem_cons_self
   simp [this]
theorem bindL_get {kindOf:Str→Option NameKind}{x:Str}{v:Value}:∀ {P:List Str}{vs:List Value}{i:Nat}{m:Str→Option Value},P.Nodup→P[i]? = some x→vs[i]? = some v→kindOf x=some .local →
  bindL kindOf (P.zip vs) m x=some v
 | [],_,_,_,_,h,_,_=>by simp at h
 | _ :: _,[],_,_,_,_,h,_=>by simp at h
 | p :: P,w :: vs,0,m,nd,h1,h2,hk=>by
  simp at h1 h2;subst h1;subst h2
  show bindL kindOf ((p,w) :: P.zip vs) m p=_
  unfold bindL
  rw [bindL_out fun v hv=>(List.nodup_cons.mp nd).1 (List.of_mem_zip hv).1,if_pos hk]
  simp
 | p :: P,w :: vs,i+1,m,nd,h1,h2,hk=>by
  show bindL kindOf ((p,w) :: P.zip vs) m x=_
  unfold bindL
  exact bindL_get (i:=i) (List.nodup_cons.mp nd).2 (by simpa using h1) (by simpa using h2) hk
theorem bindC_get {kindOf:Str→Option NameKind}{x:Str}{v:Value}:∀ {P:List Str}{vs:List Value}{i:Nat}{m:Str→Option Value},P.Nodup→P[i]? = some x→vs[i]? = some v→kindOf x≠some .local →
  bindC kindOf (P.zip vs) m x=some v
 | [],_,_,_,_,h,_,_=>by simp at h
 | _ :: _,[],_,_,_,_,h,_=>by simp at h
 | p :: P,w :: vs,0,m,nd,h1,h2,hk=>by
  simp at h1 h2;subst h1;subst h2
  show bindC kindOf ((p,w) :: P.zip vs) m p=_
  unfold bindC
  rw [bindC_out fun v hv=>(List.nodup_cons.mp nd).1 (List.of_mem_zip hv).1,if_neg hk]
  simp
 | p :: P,w :: vs,i+1,m,nd,h1,h2,hk=>by
  show bindC kindOf ((p,w) :: P.zip vs) m x=_
  unfold bindC
  exact bindC_get (i:=i) (List.nodup_cons.mp nd).2 (by simpa using h1) (by simpa using h2) hk
def start (N:List Str) (vs:List V):St:=vs.map some ++ List.replicate (N.length - vs.length) none
def cxOf (CX:CXT) (P:Program) (w:World) (K:PySem.W.Frag) (mg:Str→Option Value) (base:Heap) (N:List Str) (qual:Str) (scope:Scope) (f:Addr) (cd:Value) (A:Around) (outer:List Env) (s:Shared) (H:Hp) (E:XK):Cx where
 prog:=P
 w:=w
 K:=K
 mg:=mg
 base:=base
 A:=A.deeper (envOfC qual scope s.heap.objs.size f cd)
 N:=N
 s₀:=s
 H₀:=H
 env:=envOfC qual scope s.heap.objs.size f cd
 outer:=outer
 stack:=envOfC qual scope s.heap.objs.size f cd :: outer
 ex:=[]
 calm:=true
 fn:=fun _=>true
 pn:=[]
 xe:=fun e s'=>wpAny (model P w) (A.deeper (envOfC qual scope s.heap.objs.size f cd)) (leaving (envOfC qual scope s.heap.objs.size f cd) e) (fun _ s''=>CX outer H s E e s'') (fun e' s''=>CX outer H s E e' s'') s'
theorem cell_has {sc:Scope}{n:Nat}{x:Str} (h:sc.names.lookup x=some .cell):∃ c,(cellsFrom n sc.names []).lookup x=some c:=by
 have q:=PySem.W.cellsFrom_some sc.names n [] (.inl h)
 exact Option.isSome_iff_exists.mp q
theorem inv_start {CX:CXT}{P:Program}{w:World}{K:PySem.W.Frag}{mg:Str→Option Value}{base:Heap}{N ps:List Str}{qual:Str}{scope:Scope}{f:Addr}{cd:Value}{A:Around}{outer:List Env}{s s1:Shared}{H:Hp}{E:XK}{us:List Value}{vs:List V}
  (S:FnScope N ps scope) (hd:A.handled=none) (e0:Env0 P w K mg base A outer s H) (hl:vs.length=ps.length) (r:Vals vs us)
  (x:InCallC s s.heap.objs.size (bindL (envOfC qual scope s.heap.objs.size f cd).kindOf (ps.zip us) fun _=>none) (cellsFrom (s.heap.objs.size+1) scope.names []) (bindC (envOfC qual scope s.heap.objs.size f cd).kindOf (ps.zip us) fun _=>none) s1) :
  Inv (cxOf CX P w K mg base N qual scope f cd A outer s H E) [] (start N vs) H s1:=by
 have hpl:ps.length≤N.length:=by have:=congrArg List.length S.pre;rw [List.length_take] at this;omega
 obtain ⟨h1,tk,rfl,hk⟩:=x.done
 have noA:∀ b:Addr,b ∉ (cxOf CX P w K mg base N qual scope f cd A outer s H E).ex:=fun b z=>absurd (show b∈([]:List Addr) from z) (by simp)
 refine ⟨⟨e0.mod,S.kind,rfl,rfl,Nat.le_refl _,fun y z c h1 h2=>?_,fun y hy=>?_,fun y c _ h=>?_,fun _=>hd,Around.frames_deeper e0.frames,.inr ⟨rfl,rfl⟩,fun b z=>absurd z (noA b),e0.bs,e0.bsz,fun b _ _=>noA b,fun b z=>absurd z (noA b),e0.funs,e0.frf⟩,
  rfl,e0.bare,Un.kept hk,⟨_,x.toInCall.ns,fun i y v h1 h2 h3=>?_⟩,fun y c h=>⟨_,x.cell y c h⟩,e0.hok.fresh (Nat.le_refl _),fun y c h=>?_,fun p hp=>absurd (show p∈([]:List (Addr × Obj)) from hp) (by simp),e0.hok.kept hk,?_⟩
 ·exact name_of_addr x.apart (PySem.mem_of_lookup h1) (PySem.mem_of_lookup h2)
 ·have hy:scope.names.lookup y=some .cell∨scope.names.lookup y=some .free:=hy
  rcases hy with hy | hy
  ·exact cell_has hy
  ·exact absurd rfl (S.nofree _ (PySem.mem_of_lookup hy))
 ·exact Nat.le_of_lt (x.above y c (PySem.mem_of_lookup h))
 ·have hi:i<vs.length:=by
   unfold start at h2
   by_cases hi:i<vs.length
   ·exact hi
   ·rw [List.getElem?_append_right (by simpa using hi)] at h2
    rw [List.getElem?_replicate] at h2
    split at h2 <;> cases h2
  have ha:vs[i]? = some v:=by
   unfold start at h2
   rw [List.getElem?_append_left (by simpa using hi),List.getElem?_map] at h2
   cases e:vs[i]? with
   | none=>rw [e] at h2;cases h2
   | some a=>rw [e] at h2;cases h2;rfl
  obtain ⟨u,hu,rv⟩:=r.get ha
  have hp:ps[i]? = some y:=by
   rw [← S.pre,List.getElem?_take_of_lt (by omega)];exact h1
  have ndP:ps.Nodup:=by rw [← S.pre];exact S.nd.sublist (List.take_sublist _ _)
  refine ⟨u,rv,?_⟩
  rcases S.par y (List.mem_of_getElem? hp) with k | k
  ·exact .inl ⟨k,bindL_get ndP hp hu k⟩
  ·obtain ⟨c,e⟩:=cell_has (n:=s.heap.objs.size+1) k
   refine .inr ⟨.inl k,c,e,?_⟩
   have q:=x.cell y c e
   rw [bindC_get ndP hp hu (by show scope.names.lookup y≠_;rw [k];decide)] at q
   exact q
 ·exact e0.hok.fresh (Nat.le_of_lt (x.above y c (PySem.mem_of_lookup h)))
 ·unfold start
  show _=N.length
  rw [List.length_append,List.length_map,List.length_replicate]
  omega
theorem fn_of {CX:CXT}{P:Program}{w:World}{K:PySem.W.Frag}{mg:Str→Option Value}{base:Heap}{k:Nat}{f:Addr}{name qual:Str}{params:Arguments}{body:List Stmt}{scope:Scope}{dV kV doc pm cdv ct oc:Value}{an od:Option Addr}
  {osl:Array (Option Value)}{N ps:List Str}{sp:Sp} (lk:K.lookup f=some ⟨oc,od,.func (PySem.W.fnOf name qual params body scope dV kV doc pm an cdv ct),osl⟩) (hcd:PySem.W.codeIn K cdv qual=true) (S:FnScope N ps scope)
  (len:∀ vs H Q E,sp vs H Q E→vs.length=ps.length)
  (hbody:∀ (A:Around) (outer:List Env) (s:Shared) (H:Hp) (vs:List V) (Q:VK) (E:XK),Room k (A.deeper (envOfC qual scope s.heap.objs.size f cdv))→sp vs H Q E →
   ∃ t,PSs (cxOf CX P w K mg base N qual scope f cdv A outer s H E) body t∧t { nx:=fun _ H'=>Q .non H',rt:=Q } (start N vs) H) :
  FnOk P w K mg base CX (k+1) f (PySem.W.fnOf name qual params body scope dV kV doc pm an cdv ct) ps sp:=by
 refine ⟨len,fun A outer s H args us vs Q E hr e0 hb r hsp=>?_⟩
 have hl:=len _ _ _ _ hsp
 have KX:K.In s.heap:=e0.mod.kin.keeps fun b o e=>(e0.bs b o e).1
 have lim:s.heap.NoLimit:=e0.mod.nolimit.keeps fun b o e=>(e0.bs b o e).1
 have hkind:∀ y∈ps.zip us,scope.names.lookup y.1=some .local∨(scope.names.lookup y.1=some .cell∧((cellsFrom (s.heap.objs.size+1) scope.names []).lookup y.1).isSome=true):=fun ⟨n,v⟩ hy=>by
  rcases S.par n (List.of_mem_zip hy).1 with q | q
  ·exact .inl q
  ·exact .inr ⟨q,PySem.W.cellsFrom_some _ _ _ (.inl q)⟩
 refine codeAny_call_function hr.depth (KX _ _ lk) rfl S.co S.gen rfl (PySem.W.codeRec_of KX hcd) (hb _ _ _ _ ?_)
 refine wpAny_newFunctionEnv_cells S.kind hkind fun env he s1 x=>?_
 subst he
 refine ⟨lim.keeps x.toInCall.keep,codeAny_func ?_⟩
 obtain ⟨t,ht,hq⟩:=hbody A outer s H vs Q E (hr.deeper _) hsp
 have I:Inv (cxOf CX P w K mg base N qual scope f cdv A outer s H E) [] (start N vs) H s1:=inv_start S hr.hd e0 hl r x
 refine wpAny_mono (ht [] s1 (start N vs) H _ I hq) (fun fl s' hs=>?_) fun e s' hs=>hs
 have fin:∀ {σ':St}{H':Hp}{v:V}{u:Value},Inv (cxOf CX P w K mg base N qual scope f cdv A outer s H E) [] σ' H' s'→RelV v u→Q v H'→CE outer P w H s Q u s' :=
  fun {σ' H' v u} J rv q=>⟨v,H',J.os,J.bare,J.base,J.hok,rv,q⟩
 cases fl with
 | ret u =>
  obtain ⟨v,σ',H',J,rv,q⟩:=hs
  exact fin J rv q
 | next =>
  obtain ⟨σ',H',J,q⟩:=hs
  exact fin (v:=V.non) (u:=Value.none) J rfl q
 | brk =>
  obtain ⟨_,_,_,q⟩:=hs
  exact False.elim q
 | cont =>
  obtain ⟨_,_,_,q⟩:=hs
  exact False.elim q
section
variable {X:Cx}{x:Str}{p pos:Pos}{e:Expr}{es:List Expr}{t:TA}{id T:String}{r:List V→Hp→VK→Prop}
def tCB (r:List V→Hp→VK→Prop) (t:TA):TE:=fun σ H Q=>t σ H fun vs H1=>r vs H1 Q
theorem pe_callB (hc:CallR X (.builtin id) r) (hg:Gl X x) (hm:X.mg x=none) (hv:bootBuiltins x=some (.builtin id)) (ha:PA X (e :: es) t) (hn:x ≠ "__name__":=by decide) (hdb:(x == ("__debug__" : Str))=false:=by decide)
  (he:starEach (e :: es) X.env=(false,eval e X.env) :: starEach es X.env:=by rfl) (hpl:(backTo pos (starEach es X.env)).any (·.1)=false:=by rfl):PE X (.Call (.Name x p) (e :: es) [] pos) (tCB r t):=by
 intro pins s σ H Q I h
 refine wpAny_Call_Name_kw (ld_blt I hg hm hv ?_ hn hdb)
 exact PyProof.Rows.callWith_builtin1 (thn (ha pos pins s σ H _ I h) fun us s1 ⟨vs,H1,I1,r1,q1⟩=>hc pins s1 σ H1 vs us Q I1 r1 q1) he hpl
theorem pe_callTy (hc:CallR X (.type T) r) (hg:Gl X x) (hm:X.mg x=none) (hv:bootBuiltins x=some (.type T)) (ha:PA X (e :: es) t) (hn:x ≠ "__name__":=by decide) (hdb:(x == ("__debug__" : Str))=false:=by decide)
  (he:starEach (e :: es) X.env=(false,eval e X.env) :: starEach es X.env:=by rfl) (hpl:(backTo pos (starEach es X.env)).any (·.1)=false:=by rfl):PE X (.Call (.Name x p) (e :: es) [] pos) (tCB r t):=by
 intro pins s σ H Q I h
 refine wpAny_Call_Name_kw (ld_blt I hg hm hv ?_ hn hdb)
 exact PyProof.Rows.callWith_type1 (thn (ha pos pins s σ H _ I h) fun us s1 ⟨vs,H1,I1,r1,q1⟩=>hc pins s1 σ H1 vs us Q I1 r1 q1) he hpl
end
end L2
namespace HT
open PySem PyProof.Rows
section
open PySem.SeqAt
open PySem.AutoSeq1 (wpAny_loadPart')
open PySem.MeetsSeq PySem.MeetsSeq2 PySem.MeetsSeq3
end
section
variable {prog:Program}{w:World}{A:Around}{E:Value→Shared→Prop}{s:Shared}
def sIx (n d:Nat):Option Int→Nat
 | none=>d
 | some v=>if v<0 then (v+(n:Int)).toNat else min v.toNat n
theorem sIx_none (n d:Nat):sIx n d none=d:=rfl
theorem sIx_nat (n d k:Nat):sIx n d (some (k:Int))=min k n:=by
 show (if (k:Int)<0 then ((k:Int)+(n:Int)).toNat else min (k:Int).toNat n)=min k n
 rw [if_neg (by omega),Int.toNat_natCast]
end
end HT
namespace L2
open PySem PySem.Spec PyProof.Rows
abbrev TO:=St→Hp→(Option Int→Hp→Prop)→Prop
def PO (X:Cx) (e:Option Expr) (t:TO):Prop :=
 ∀ (pins:List (Addr × Obj)) (s:Shared) (σ:St) (H:Hp) (Q:Option Int→Hp→Prop),Inv X pins σ H s→t σ H Q →
  wpAny (model X.prog X.w) X.A (evalPart e X.env) (fun u s'=>∃ o H',Inv X pins σ H' s'∧IsPart u o∧Q o H') X.xe s
def tNoPart:TO:=fun _ H Q=>Q none H
def tPart (t:TE):TO:=fun σ H Q=>t σ H fun x H1=>∃ i,x=.int i∧Q (some i) H1
section
variable {X:Cx}{e:Expr}{te:TE}{lo hi:Option Expr}{tl th:TO}{pos p2:Pos}
theorem po_none:PO X none tNoPart:=by
 intro pins s σ H Q I h
 rw [evalPart_none]
 exact wpAny_pure ⟨none,H,I,.none,h⟩
theorem po_some (h:PE X e te):PO X (some e) (tPart te):=by
 intro pins s σ H Q I hw
 rw [evalPart_some]
 refine thn (h pins s σ H _ I hw) fun u s1 ⟨x,H1,I1,r1,q1⟩=>?_
 obtain ⟨i,rfl,q⟩:=q1
 obtain ⟨t,rfl⟩:=r1
 exact ⟨some i,H1,I1,.int i t,q⟩
def SlR (X:Cx) (r:V→Option Int→Option Int→Hp→VK→Prop):Prop :=
 ∀ (pins:List (Addr × Obj)) (s:Shared) (σ:St) (H:Hp) (x:V) (v vl vu:Value) (lo hi:Option Int) (sl:Addr) (Q:VK),Inv X pins σ H s→RelV x v→s.heap.IsSliceOf sl vl vu .none→IsPart vl lo→IsPart vu hi→r x lo hi H Q →
  ∃ T id,typeLookup (.type T) "__getitem__" = pure (some (.builtin id))∧s.TypeIs v T∧wpAny (model X.prog X.w) X.A (getItem v (.ref sl)) (EP X pins σ Q) X.xe s
def tSl (r:V→Option Int→Option Int→Hp→VK→Prop) (te:TE) (tl th:TO):TE:=fun σ H Q=>te σ H fun x H1=>tl σ H1 fun l H2=>th σ H2 fun u H3=>r x l u H3 Q
theorem pe_slice {r:V→Option Int→Option Int→Hp→VK→Prop} (hr:SlR X r) (he:PE X e te) (hl:PO X lo tl) (hu:PO X hi th):PE X (.Subscript e (.Slice lo hi none p2) pos) (tSl r te tl th):=by
 intro pins s σ H Q I h
 refine Subscript_ (thn (he pins s σ H _ I h) fun v s1 ⟨x,H1,I1,r1,q1⟩=>?_)
 refine wpAny_Slice (thn (hl pins s1 σ H1 _ I1 q1) fun vl s2 ⟨l,H2,I2,pl,q2⟩=>thn (hu pins s2 σ H2 _ I2 q2) fun vu s3 ⟨u,H3,I3,pu,q3⟩=>?_)
 rw [evalPart_none]
 refine wpAny_pure ?_
 have I4:Inv X pins σ H3 { s3 with heap:=s3.heap.push { cls:=.type "slice",data:=.fields #[vl,vu,.none] } }:=I3.kept (t':=s3.toks) fun b ob q=>Heap.get?_push_of_some _ q
 obtain ⟨T,id,hT,ht,hg⟩:=hr pins { s3 with heap:=s3.heap.push { cls:=.type "slice",data:=.fields #[vl,vu,.none] } } σ H3 x v vl vu l u s3.heap.objs.size Q I4 r1 (Heap.IsSliceOf.new ..) pl pu q3
 show wpAny (model X.prog X.w) X.A (subscriptTail e (.Slice lo hi none p2) v (.ref s3.heap.objs.size)) (EP X pins σ Q) X.xe { s3 with heap:=s3.heap.push { cls:=.type "slice",data:=.fields #[vl,vu,.none] } }
 exact tail_any (ops:=[.ref s3.heap.objs.size,v]) ht hT hg (by with_unfolding_all rfl)
def cutV (xs:List V) (lo hi:Option Int):List V:=(xs.drop (HT.sIx xs.length 0 lo)).take (HT.sIx xs.length xs.length hi - HT.sIx xs.length 0 lo)
theorem cutV_length (xs:List V) (lo hi:Option Int):(cutV xs lo hi).length≤xs.length:=by
 unfold cutV
 rw [List.length_take,List.length_drop]
 omega
end
def ixN (n:Nat) (i:Int):Option Nat:=if 0≤i then (if i<n then some i.toNat else none) else if -(n:Int)≤i then some (i+n).toNat else none
def atI {α:Type} (xs:List α) (i:Int):Option α:=(ixN xs.length i).bind fun j=>xs[j]?
theorem ixN_seq {n:Nat}{i:Int}{j:Nat} (h:ixN n i=some j):seqIndex? i n=some j∧j<n ∧ -(n:Int)≤i∧i<n:=by
 unfold ixN at h
 by_cases h0:0≤i
 ·rw [if_pos h0] at h
  by_cases h1:i<n
  ·rw [if_pos h1] at h
   have e:i.toNat=j:=Option.some.inj h
   exact ⟨by rw [seqIndex_of h0 h1,e],by omega,by omega,h1⟩
  ·rw [if_neg h1] at h;cases h
 ·rw [if_neg h0] at h
  by_cases h1 : -(n:Int)≤i
  ·rw [if_pos h1] at h
   have e:(i+n).toNat=j:=Option.some.inj h
   exact ⟨by rw [seqIndex_neg (by omega) h1,e],by omega,h1,by omega⟩
  ·rw [if_neg h1] at h;cases h
theorem atI_get {α:Type}{xs:List α}{i:Int}{v:α} (h:atI xs i=some v):∃ j,seqIndex? i xs.length=some j∧xs[j]? = some v∧j<xs.length ∧ -(xs.length:Int)≤i∧i<xs.length:=by
 unfold atI at h
 cases e:ixN xs.length i with
 | none=>rw [e] at h;cases h
 | some j =>
  rw [e] at h
  obtain ⟨h1,h2,h3,h4⟩:=ixN_seq e
  exact ⟨j,h1,h,h2,h3,h4⟩
theorem atI_nat {α:Type}{xs:List α}{j:Nat}{v:α} (h:xs[j]? = some v):atI xs (j:Int)=some v:=by
 have hj:j<xs.length:=(List.getElem?_eq_some_iff.mp h).1
 have e:ixN xs.length (j:Int)=some j:=by
  unfold ixN
  rw [if_pos (by omega),if_pos (by omega)];simp
 unfold atI;rw [e];exact h
def PlainIx (b:Expr):Prop:=∀ o i,subscripted b false o i=operate [o,i] (getItem o i)
def IxR (X:Cx) (r:R2):Prop :=
 ∀ (value slice:Expr) (pins:List (Addr × Obj)) (s:Shared) (σ:St) (H:Hp) (x y:V) (v u:Value) (Q:VK),Inv X pins σ H s→RelV x v→RelV y u→r x y H Q →
  subscripted slice false v u=operate [v,u] (getItem v u)→wpAny (model X.prog X.w) X.A (subscriptTail value slice v u) (EP X pins σ Q) X.xe s
def MtR (X:Cx) (id:String) (r:V→List V→Hp→VK→Prop):Prop :=
 ∀ (pins:List (Addr × Obj)) (s:Shared) (σ:St) (H:Hp) (x:V) (xs:List V) (v:Value) (us:List Value) (Q:VK),Inv X pins σ H s→RelV x v→Vals xs us→r x xs H Q →
  wpAny (model X.prog X.w) X.A (call (.builtin id) (v :: us)) (EP X pins σ Q) X.xe s
section
variable {X:Cx}{a b:Expr}{ta tb:TE}{pos:Pos}
theorem IxR.or {r r':R2} (h:IxR X r) (h':IxR X r'):IxR X (fun x y H Q=>r x y H Q∨r' x y H Q):=by
 intro value slice pins s σ H x y v u Q I rx ry q hs
 rcases q with q | q
 ·exact h value slice pins s σ H x y v u Q I rx ry q hs
 ·exact h' value slice pins s σ H x y v u Q I rx ry q hs
theorem pe_ix {r:R2} (hr:IxR X r) (ha:PE X a ta) (hb:PE X b tb) (hs:PlainIx b):PE X (.Subscript a b pos) (tOp r ta tb):=by
 intro pins s σ H Q I h
 exact Subscript_ (binT ha hb I h fun v u s2 x y H2 I2 rx ry q=>hr a b pins s2 σ H2 x y v u Q I2 rx ry q (hs _ _))
def rIxL (K:PySem.W.Frag):R2:=fun x y H Q=>∃ p xs i v,x=.ref p∧y=.int i∧SqL K H p xs∧atI xs i=some v∧Q v H
def rIxT (K:PySem.W.Frag):R2:=fun x y H Q=>∃ p xs i v,x=.ref p∧y=.int i∧SqT K H p xs∧atI xs i=some v∧Q v H
def rIxS:R2:=fun x y H Q=>∃ z i c,x=.str z∧y=.int i∧z.length≤sizeLine∧atI z.cps.toList i=some c∧Q (.str ⟨#[c]⟩) H
theorem ix_list:IxR X (rIxL X.K):=by
 intro value slice pins s σ H x y v u Q I rx ry h hs
 obtain ⟨p,xs,i,z,rfl,rfl,hq,he,q⟩:=h
 cases rx
 obtain ⟨t,rfl⟩:=ry
 obtain ⟨its,r,pl,hz⟩:=I.list hq
 obtain ⟨j,h1,h2,h3,h4,h5⟩:=atI_get he
 obtain ⟨w,ew,rw'⟩:=r.get h2
 have hl:=r.length
 have hn:=line63
 have fin:EP X pins σ Q w s:=⟨z,H,I,rw',q⟩
 by_cases h0:0≤i
 ·have hj:i.toNat=j:=by
   rw [seqIndex_of h0 h5] at h1
   exact Option.some.inj h1
  exact item_listR pl.isList h0 (by omega) (by rw [hj];simpa using ew) fin hs
 ·have hj:(i+(its.toArray.size:Int)).toNat=j:=by
   rw [seqIndex_neg (by omega) h4] at h1
   rw [List.size_toArray,← hl]
   exact Option.some.inj h1
  exact subscriptTail_builtinR (x:=w) pl.isList.typeIs slot_list_getitem.lookup
   (wpAny_getItem_list_neg (Q:=fun r s'=>r=w∧EP X pins σ Q r s') pl.isList (by omega) (by rw [List.size_toArray] <;> omega) (by omega) (by rw [hj];simpa using ew) ⟨rfl,fin⟩) hs
theorem ix_tup:IxR X (rIxT X.K):=by
 intro value slice pins s σ H x y v u Q I rx ry h hs
 obtain ⟨p,xs,i,z,rfl,rfl,hq,he,q⟩:=h
 cases rx
 obtain ⟨t,rfl⟩:=ry
 obtain ⟨its,r,pl,hz⟩:=I.tuple hq
 obtain ⟨j,h1,h2,h3,h4,h5⟩:=atI_get he
 obtain ⟨w,ew,rw'⟩:=r.get h2
 have hl:=r.length
 have hn:=line63
 have fin:EP X pins σ Q w s:=⟨z,H,I,rw',q⟩
 exact subscriptTail_builtinR (x:=w) pl.typeIs slot_tuple_getitem.lookup
  (getItem_tuple (j:=j) (Q:=fun r s'=>r=w∧EP X pins σ Q r s') pl (by omega) (by omega) (by rw [List.size_toArray,← hl];exact h1) (by simpa using ew) ⟨rfl,fin⟩) hs
theorem ix_str:IxR X rIxS:=by
 intro value slice pins s σ H x y v u Q I rx ry h hs
 obtain ⟨z,i,c,rfl,rfl,hz,he,q⟩:=h
 obtain ⟨t,rfl⟩:=rx
 obtain ⟨t',rfl⟩:=ry
 obtain ⟨j,h1,h2,h3,h4,h5⟩:=atI_get he
 have hl:z.cps.toList.length=z.length:=by simp [Str.length]
 rw [hl] at h1 h4 h5
 have hn:=line63
 exact tail_any (typeIs_str s z t) slot_str_getitem.lookup (getItem_str (c:=c) (by
  have e1:decide (i < -(2 ^ 63:Int))=false:=decide_eq_false (by omega)
  have e2:decide (i ≥ 2 ^ 63)=false:=decide_eq_false (by omega)
  rw [e1,e2,Bool.or_false]) (by rw [h1];simpa using h2) ⟨.str ⟨#[c]⟩,H,I.tok _,⟨_,rfl⟩,q⟩) hs
def rIx (K:PySem.W.Frag):R2:=fun x y H Q=>rIxL K x y H Q∨rIxT K x y H Q∨rIxS x y H Q
theorem ix_seq:IxR X (rIx X.K):=ix_list.or (ix_tup.or ix_str)
theorem mapSeq_set (its:List Value) (n j:Nat) (u:Value):Obj.mapSeq (·.setIfInBounds j u) { cls:=.type "list",data:=.seq its.toArray n }={ cls:=.type "list",data:=.seq (its.set j u).toArray n }:=by
 simp [Obj.mapSeq]
theorem Inv.lst {pins:List (Addr × Obj)}{σ:St}{H:Hp}{s:Shared}{p:Addr}{xs:List V} (I:Inv X pins σ H s) (h:H p=some (.lst xs)) :
  ∃ (its:List Value) (n:Nat),Vals xs its∧s.heap.get? p=some { cls:=.type "list",data:=.seq its.toArray n }∧xs.length≤sizeLine:=by
 obtain ⟨z,its,n,r,e⟩:=I.hok p _ h
 exact ⟨its,n,r,e,z⟩
theorem Inv.lstUpd {pins:List (Addr × Obj)}{σ:St}{H:Hp}{s:Shared}{p:Addr}{xs ys:List V}{its its':List Value}{n n':Nat}{f:Obj→Obj} (I:Inv X pins σ H s) (h:H p=some (.lst xs))
  (ho:s.heap.get? p=some { cls:=.type "list",data:=.seq its.toArray n }) (hf:f { cls:=.type "list",data:=.seq its.toArray n }={ cls:=.type "list",data:=.seq its'.toArray n' }) (r:Vals ys its') (hz:ys.length≤sizeLine) (t:Nat) :
  Inv X pins σ (upd H p (.lst ys)) { s with heap:=s.heap.update p f,toks:=t }:=by
 have e:(s.heap.update p f).get? p=some { cls:=.type "list",data:=.seq its'.toArray n' }:=by
  rw [Heap.get?_update_self f ho (by rw [hf] <;> rfl),hf]
 refine I.write (x:=p) (e:=p) (by rw [h];trivial) (.inl rfl) (fun b u hb q=>(Heap.get?_update_other _ _ (Ne.symm hb)).trans q) ⟨_,e⟩ ?_
 exact ⟨hz,its',n',r,e⟩
def rSetL:V→V→V→Hp→(Hp→Prop)→Prop:=fun o i v H Q=>∃ p xs k j,o=.ref p∧i=.int k∧H p=some (.lst xs)∧ixN xs.length k=some j∧Q (upd H p (.lst (xs.set j v)))
theorem set_list:PSet X rSetL:=by
 intro pins s σ H o i v ov iv u Q I ro ri rv h
 obtain ⟨p,xs,k,j,rfl,rfl,hp,hj,q⟩:=h
 cases ro
 obtain ⟨t,rfl⟩:=ri
 obtain ⟨its,n,r,ho,hz⟩:=I.lst hp
 obtain ⟨h1,h2,h3,h4⟩:=ixN_seq hj
 have hl:=r.length
 have hn:=line63
 have I':Inv X pins σ (upd H p (.lst (xs.set j v))) { s with heap:=s.heap.update p (Obj.mapSeq (·.setIfInBounds j u)) } :=
  I.lstUpd hp ho (mapSeq_set its n j u) (r.set rv j) (by rw [List.length_set];exact hz) s.toks
 by_cases h0:0≤k
 ·have hk:k.toNat=j:=by
   rw [seqIndex_of h0 h4] at h1
   exact Option.some.inj h1
  exact PySem.W.ki_setAt ho h0 (by omega) (by rw [List.size_toArray,← hl];exact h4) (by rw [hk];exact ⟨_,I',q⟩)
 ·have hk:(k+(its.toArray.size:Int)).toNat=j:=by
   rw [seqIndex_neg (by omega) h3] at h1
   rw [List.size_toArray,← hl]
   exact Option.some.inj h1
  exact PySem.W.ki_setBack ho (by omega) (by rw [List.size_toArray,← hl];exact h3) (by omega) (by rw [hk];exact ⟨_,I',q⟩)
theorem slice_bounds (lo hi:Option Int) (n:Nat):(sliceBounds lo hi none n).1=((HT.sIx n 0 lo:Nat):Int)∧(sliceBounds lo hi none n).2.1=((HT.sIx n n hi:Nat):Int)∧(sliceBounds lo hi none n).2.2=1:=by
 refine ⟨?_,?_,rfl⟩
 ·cases lo with
  | none=>simp [sliceBounds,HT.sIx]
  | some i =>
   simp only [sliceBounds,HT.sIx,Option.getD_none,show (1:Int) > 0 by decide,if_true]
   by_cases h:i<0
   ·simp only [h,if_true] <;> omega
   ·simp only [h,if_false] <;> omega
 ·cases hi with
  | none=>simp [sliceBounds,HT.sIx]
  | some i =>
   simp only [sliceBounds,HT.sIx,Option.getD_none,show (1:Int) > 0 by decide,if_true]
   by_cases h:i<0
   ·simp only [h,if_true] <;> omega
   ·simp only [h,if_false] <;> omega
theorem slicePick_cut (its:List Value) (lo hi:Option Int):slicePick its.toArray lo hi none=((its.drop (HT.sIx its.length 0 lo)).take (HT.sIx its.length its.length hi - HT.sIx its.length 0 lo)).toArray:=by
 obtain ⟨h1,h2,h3⟩:=slice_bounds lo hi its.toArray.size
 unfold slicePick
 rw [h1,h2,h3]
 simp only [sliceRange_one,pick_run,List.size_toArray] <;> rfl
def rSlL (K:PySem.W.Frag):V→Option Int→Option Int→Hp→VK→Prop:=fun x lo hi H Q=>∃ a xs,x=.ref a∧SqL K H a xs∧∀ p,H p=none→Q (.ref p) (upd H p (.lst (cutV xs lo hi)))
theorem sl_list:SlR X (rSlL X.K):=by
 intro pins s σ H x v vl vu lo hi sl Q I rx hs pl pu h
 obtain ⟨a,xs,rfl,hx,q⟩:=h
 cases rx
 obtain ⟨its,r,ht,hz⟩:=I.list hx
 have hlen:=r.length
 refine ⟨"list",_,slot_list_getitem.lookup,ht.isList.typeIs,?_⟩
 refine wpAny_getItem_list_slice ht.isList hs pl pu .none (by simp) ?_ (by rw [List.size_toArray] <;> omega)
 rw [slicePick_cut,← hlen]
 refine ⟨.ref s.heap.objs.size,_,I.laid (t':=s.toks) (o:=.lst (cutV xs lo hi)) (fun b ob q=>Heap.get?_push_of_some _ q) (Nat.le_refl _) ?_,rfl,q _ (I.hok.fresh (Nat.le_refl _))⟩
 exact ⟨Nat.le_trans (cutV_length xs lo hi) hz,_,0,(r.drop (HT.sIx xs.length 0 lo)).take (HT.sIx xs.length xs.length hi - HT.sIx xs.length 0 lo),Heap.get?_push_size _ rfl⟩
def flatV:V→Bool
 | .non=>true
 | .bl _=>true
 | .int _=>true
 | .str _=>true
 | _=>false
def eqV:V→V→Bool
 | .non,.non=>true
 | .bl a,.bl b=>a == b
 | .bl a,.int b=>(if a then 1 else 0) == b
 | .int a,.bl b=>a == (if b then 1 else 0)
 | .int a,.int b=>a == b
 | .str a,.str b=>a == b
 | _,_=>false
theorem eqAt_V {A:Around}{s:Shared}{y x:V}{u v:Value} (ry:RelV y u) (rx:RelV x v) (fy:flatV y=true) (fx:flatV x=true):SeqAt.EqAt A s u v (eqV y x):=by
 cases y with
 | non =>
  cases ry
  cases x with
  | non=>cases rx;exact SeqAt.EqAt.same _
  | bl b=>cases rx;exact SeqAt.EqAt.none_bool b
  | int b=>obtain ⟨t,rfl⟩:=rx;exact SeqAt.EqAt.none_int b t
  | str b=>obtain ⟨t,rfl⟩:=rx;exact SeqAt.EqAt.none_str b t
  | _=>exact absurd (show false=true from fx) Bool.false_ne_true
 | bl a =>
  cases ry
  cases x with
  | non=>cases rx;exact SeqAt.EqAt.bool_none a
  | bl b=>cases rx;exact SeqAt.EqAt.bool_bool a b
  | int b=>obtain ⟨t,rfl⟩:=rx;exact SeqAt.EqAt.bool_int a b t
  | str b=>obtain ⟨t,rfl⟩:=rx;exact SeqAt.EqAt.bool_str a b t
  | _=>exact absurd (show false=true from fx) Bool.false_ne_true
 | int a =>
  obtain ⟨t',rfl⟩:=ry
  cases x with
  | non=>cases rx;exact SeqAt.EqAt.int_none a t'
  | bl b=>cases rx;exact SeqAt.EqAt.int_bool a t' b
  | int b=>obtain ⟨t,rfl⟩:=rx;exact SeqAt.EqAt.int_int a t' b t
  | str b=>obtain ⟨t,rfl⟩:=rx;exact SeqAt.EqAt.int_str a t' b t
  | _=>exact absurd (show false=true from fx) Bool.false_ne_true
 | str a =>
  obtain ⟨t',rfl⟩:=ry
  cases x with
  | non=>cases rx;exact SeqAt.EqAt.str_none a t'
  | bl b=>cases rx;exact SeqAt.EqAt.str_bool a t' b
  | int b=>obtain ⟨t,rfl⟩:=rx;exact SeqAt.EqAt.str_int a t' b t
  | str b=>obtain ⟨t,rfl⟩:=rx;exact SeqAt.EqAt.str_str a t' b t
  | _=>exact absurd (show false=true from fx) Bool.false_ne_true
 | _=>exact absurd (show false=true from fy) Bool.false_ne_true
def eqU (x:V) (u:Value):Bool:=match u with
 | .none=>eqV .non x
 | .bool b=>eqV (.bl b) x
 | .int i _=>eqV (.int i) x
 | .str z _=>eqV (.str z) x
 | _=>false
theorem eqU_of {x y:V}{u:Value} (r:RelV y u) (f:flatV y=true):eqU x u=eqV y x:=by
 cases y with
 | non=>cases r;rfl
 | bl b=>cases r;rfl
 | int i=>obtain ⟨t,rfl⟩:=r;rfl
 | str z=>obtain ⟨t,rfl⟩:=r;rfl
 | _=>exact absurd (show false=true from f) Bool.false_ne_true
theorem any_eqU {x:V}:∀ {xs:List V}{us:List Value},Vals xs us→xs.all flatV=true→us.any (eqU x)=xs.any fun y=>eqV y x
 | _,_,.nil,_=>rfl
 | y :: xs,u :: us,.cons r t,f=>by
  rw [List.all_cons,Bool.and_eq_true] at f
  rw [List.any_cons,List.any_cons,eqU_of r f.1,any_eqU t f.2]
theorem mem_eqAt {A:Around}{s:Shared}{x:V}{v:Value} (rx:RelV x v) (fx:flatV x=true):∀ {xs:List V}{us:List Value},Vals xs us→xs.all flatV=true→∀ u∈us,SeqAt.EqAt A s u v (eqU x u)
 | _,_,.nil,_=>fun u hu=>by cases hu
 | y :: xs,u :: us,.cons r t,f=>fun u' hu=>by
  rw [List.all_cons,Bool.and_eq_true] at f
  rcases List.mem_cons.mp hu with rfl | hu
  ·rw [eqU_of r f.1];exact eqAt_V r rx f.1 fx
  ·exact mem_eqAt rx fx t f.2 u' hu
def inV (x:V) (xs:List V):Bool:=xs.any fun y=>eqV y x
def rIn (K:PySem.W.Frag) (neg:Bool):R2:=fun x y H Q=>∃ p xs,y=.ref p∧(SqL K H p xs∨SqT K H p xs)∧flatV x=true∧xs.all flatV=true∧Q (.bl (if neg then !inV x xs else inV x xs)) H
theorem op_in_seq:OpR X (compareOp .In) (rIn X.K false):=by
 intro pins s σ H x y v u Q I rx ry h
 obtain ⟨p,xs,rfl,hq,fx,fs,q⟩:=h
 cases ry
 rcases hq with hq | hq
 ·obtain ⟨its,r,pl,hz⟩:=I.list hq
  refine SeqAt.in_listAt (eqU x) pl.isList (fun w hw=>mem_eqAt rx fx r fs w (by simpa using hw)) ⟨.bl _,H,I,rfl,?_⟩
  rw [show its.toArray.any (eqU x)=its.any (eqU x) by simp,any_eqU r fs]
  exact q
 ·obtain ⟨its,r,pl,hz⟩:=I.tuple hq
  refine SeqAt.in_tupleAt (eqU x) pl (fun w hw=>mem_eqAt rx fx r fs w (by simpa using hw)) ⟨.bl _,H,I,rfl,?_⟩
  rw [show its.toArray.any (eqU x)=its.any (eqU x) by simp,any_eqU r fs]
  exact q
theorem op_notIn_seq:OpR X (compareOp .NotIn) (rIn X.K true):=by
 intro pins s σ H x y v u Q I rx ry h
 obtain ⟨p,xs,rfl,hq,fx,fs,q⟩:=h
 cases ry
 rcases hq with hq | hq
 ·obtain ⟨its,r,pl,hz⟩:=I.list hq
  refine SeqAt.notIn_listAt (eqU x) pl.isList (fun w hw=>mem_eqAt rx fx r fs w (by simpa using hw)) ⟨.bl _,H,I,rfl,?_⟩
  rw [show its.toArray.any (eqU x)=its.any (eqU x) by simp,any_eqU r fs]
  exact q
 ·obtain ⟨its,r,pl,hz⟩:=I.tuple hq
  refine SeqAt.notIn_tupleAt (eqU x) pl (fun w hw=>mem_eqAt rx fx r fs w (by simpa using hw)) ⟨.bl _,H,I,rfl,?_⟩
  rw [show its.toArray.any (eqU x)=its.any (eqU x) by simp,any_eqU r fs]
  exact q
theorem op_notIn_str:OpR X (compareOp .NotIn) (fun x y H Q=>∃ i j,x=.str i∧y=.str j∧Q (.bl (!(!(Builtin.Str.occurrences j i 0 j.length 1).isEmpty))) H):=by
 intro pins s σ H x y v u Q I rx ry h
 obtain ⟨i,j,rfl,rfl,q⟩:=h
 obtain ⟨t,rfl⟩:=rx
 obtain ⟨t',rfl⟩:=ry
 exact notIn_str ⟨.bl _,H,I,rfl,q⟩
theorem call_len_seq:CallR X (.builtin "len") (fun xs H Q=>∃ p ys,xs=[.ref p]∧(SqL X.K H p ys∨SqT X.K H p ys)∧Q (.int ys.length) H):=by
 intro pins s σ H xs us Q I r h
 obtain ⟨p,ys,rfl,hq,q⟩:=h
 obtain ⟨u,rfl,rx⟩:=vals1 r
 cases rx
 have hn:=line63
 rcases hq with hq | hq
 ·obtain ⟨its,r',pl,hz⟩:=I.list hq
  have hlen:=r'.length
  exact Calls.call_len_list pl.isList (by simp only [List.size_toArray] <;> omega) ⟨.int ys.length,H,I.tok _,⟨s.toks+1,by rw [List.size_toArray,hlen]⟩,q⟩
 ·obtain ⟨its,r',pl,hz⟩:=I.tuple hq
  have hlen:=r'.length
  exact len_tuple pl (by simp only [List.size_toArray] <;> omega) ⟨.int ys.length,H,I.tok _,⟨s.toks+1,by rw [List.size_toArray,hlen]⟩,q⟩
theorem call_len_str:CallR X (.builtin "len") (fun xs H Q=>∃ z,xs=[.str z]∧z.length≤sizeLine∧Q (.int z.length) H):=by
 intro pins s σ H xs us Q I r h
 obtain ⟨z,rfl,hz,q⟩:=h
 obtain ⟨u,rfl,t,rfl⟩:=vals1 r
 have hn:=line63
 exact len_str (by omega) ⟨.int z.length,H,I.tok _,⟨_,rfl⟩,q⟩
theorem call_list_of:CallR X (.type "list") (fun xs H Q=>∃ p ys,xs=[.ref p]∧(SqL X.K H p ys∨SqT X.K H p ys)∧∀ l,H l=none→Q (.ref l) (upd H l (.lst ys))):=by
 intro pins s σ H xs us Q I r h
 obtain ⟨p,ys,rfl,hq,q⟩:=h
 obtain ⟨u,rfl,rx⟩:=vals1 r
 cases rx
 have fin:∀ (its:List Value),Vals ys its→ys.length≤sizeLine→∀ (h':Heap) (c':Nat),(∀ b o',s.heap.get? b=some o'→h'.get? b=some o') →
   h'.get? s.heap.objs.size=some { cls:=.type "list",dict:=none,data:=.seq its.toArray c',slots:=#[] }→EP X pins σ Q (.ref s.heap.objs.size) { s with heap:=h' }:=fun its r' hz h' c' kp e =>
  ⟨.ref s.heap.objs.size,_,I.laid (t':=s.toks) kp (Nat.le_refl _) (show ObjOk X.prog X.w _ h' _ (.lst ys) from ⟨hz,its,c',r',e⟩),rfl,q _ (I.hok.fresh (Nat.le_refl _))⟩
 rcases hq with hq | hq
 ·obtain ⟨its,r',pl,hz⟩:=I.list hq
  have hlen:=r'.length
  obtain ⟨o,ho,hc,n,hd⟩:=pl.isList
  exact call_list_seq p (.inl rfl) ho hc hd (fun h' c' kp e=>fin its r' hz h' c' kp e) (by simp only [List.size_toArray] <;> omega)
 ·obtain ⟨its,r',pl,hz⟩:=I.tuple hq
  have hlen:=r'.length
  obtain ⟨o,ho,hc,n,hd⟩:=pl
  exact call_list_seq p (.inr rfl) ho hc hd (fun h' c' kp e=>fin its r' hz h' c' kp e) (by simp only [List.size_toArray] <;> omega)
theorem call_tuple_of:CallR X (.type "tuple") (fun xs H Q=>∃ p ys,xs=[.ref p]∧((SqL X.K H p ys∧∀ l,H l=none→Q (.ref l) (upd H l (.tup ys)))∨(SqT X.K H p ys∧Q (.ref p) H))):=by
 intro pins s σ H xs us Q I r h
 obtain ⟨p,ys,rfl,h⟩:=h
 obtain ⟨u,rfl,rx⟩:=vals1 r
 cases rx
 rcases h with ⟨hq,q⟩ | ⟨hq,q⟩
 ·obtain ⟨its,r',pl,hz⟩:=I.list hq
  have hlen:=r'.length
  refine call_tuple_list pl.isList (fun h' kp=>?_) (by simp only [List.size_toArray] <;> omega)
  have I1:Inv X pins σ H { s with heap:=h' }:=I.kept (t':=s.toks) kp
  have I2:Inv X pins σ (upd H h'.objs.size (.tup ys)) { s with heap:=h'.push { cls:=.type "tuple",data:=.seq its.toArray } } :=
   I1.laid (t':=s.toks) (fun b o e=>Heap.get?_push_of_some _ e) (Nat.le_refl _) (show ObjOk X.prog X.w _ _ _ (.tup ys) from ⟨hz,its,r',IsTup.new _ _⟩)
  exact ⟨.ref h'.objs.size,_,I2,rfl,q _ (I1.hok.fresh (Nat.le_refl _))⟩
 ·obtain ⟨its,r',pl,hz⟩:=I.tuple hq
  exact call_tuple_same pl ⟨.ref p,H,I,rfl,q⟩
def tyV (K:PySem.W.Frag) (T:String) (x:V) (H:Hp):Prop:=match x with
 | .str _=>T = "str"
 | .int _=>T = "int"
 | .ref p=>(T = "list" ∧ ∃ xs,SqL K H p xs)∨(T = "tuple" ∧ ∃ o,K.lookup p=some o∧o.cls=.type "tuple" ∧ o.dict=none) ∨
   (T = "dict" ∧ ((∃ kvs,H p=some (.dK kvs))∨∃ kvs,H p=some (.dT kvs)))∨(T = "set" ∧ ∃ S n,H p=some (.set S n))
 | _=>False
theorem tyV_is {pins:List (Addr × Obj)}{σ:St}{H:Hp}{s:Shared}{T:String}{x:V}{v:Value} (I:Inv X pins σ H s) (r:RelV x v) (ty:tyV X.K T x H) :
  s.TypeIs v T∧∀ a,v=.ref a→∃ ob,s.heap.get? a=some ob∧ob.dict=none:=by
 cases x with
 | str z =>
  obtain ⟨t,rfl⟩:=r
  cases (show T = "str" from ty)
  exact ⟨typeIs_str s z t,fun _ e=>nomatch e⟩
 | int i =>
  obtain ⟨t,rfl⟩:=r
  cases (show T = "int" from ty)
  exact ⟨typeIs_int s i t,fun _ e=>nomatch e⟩
 | ref p =>
  cases r
  rcases ty with ⟨rfl,xs,hq⟩ | ⟨rfl,o,hk,hc,hd⟩ | ⟨rfl,hk⟩ | ⟨rfl,S,n,hk⟩
  ·obtain ⟨its,_,pl,_⟩:=I.list hq
   refine ⟨pl.isList.typeIs,fun a e=>?_⟩
   cases e
   obtain ⟨o,n,e,c,hd,_⟩:=pl
   exact ⟨o,e,hd⟩
  ·refine ⟨⟨o,I.kIn p o hk,hc⟩,fun a e=>?_⟩
   cases e
   exact ⟨o,I.kIn _ o hk,hd⟩
  ·have z:∃ o,s.heap.get? p=some o∧o.ExactDict:=by
    rcases hk with ⟨kvs,hk⟩ | ⟨kvs,hk⟩
    ·obtain ⟨_,_,_,_,o,_,_,e,ex,_⟩:=I.hok p _ hk
     exact ⟨o,e,ex⟩
    ·obtain ⟨_,_,_,_,o,_,_,e,ex,_⟩:=I.hok p _ hk
     exact ⟨o,e,ex⟩
   obtain ⟨o,e,ex⟩:=z
   refine ⟨⟨o,e,ex.1⟩,fun a e2=>?_⟩
   cases e2
   exact ⟨o,e,ex.2.1⟩
  ·obtain ⟨o,_,_,_,e,ex,_⟩:=I.hok p _ hk
   refine ⟨⟨o,e,ex.1⟩,fun a e2=>?_⟩
   cases e2
   exact ⟨o,e,ex.2.1⟩
 | _=>exact False.elim ty
def tBM0 (K:PySem.W.Frag) (T:String) (r:V→List V→Hp→VK→Prop) (to:TE):TE:=fun σ H Q=>to σ H fun x H1=>tyV K T x H1∧r x [] H1 Q
def tBM (K:PySem.W.Frag) (T:String) (r:V→List V→Hp→VK→Prop) (to:TE) (t:TA):TE:=fun σ H Q=>to σ H fun x H1=>tyV K T x H1∧t σ H1 fun xs H2=>r x xs H2 Q
variable {o e:Expr}{es:List Expr}{to:TE}{t:TA}{name:Str}{apos cpos:Pos}{T id:String}{r:V→List V→Hp→VK→Prop}
theorem pe_bm0 (pa:PlainAttrs T) (slot:Slot T name id) (hty:typeOf (.builtin id)=pure (.type "method_descriptor")) (hm:MtR X id r) (ho:PE X o to)
  (hbase:attributeBase o name X.env (eval o X.env)=eval o X.env:=by rfl) (hline:(apos.endLine == cpos.line)=true:=by rfl):PE X (.Call (.Attribute o name apos) [] [] cpos) (tBM0 X.K T r to):=by
 intro pins s σ H Q I h
 refine wpAny_Call_method0_late hbase hline (thn (ho pins s σ H _ I h) fun v s1 ⟨x,H1,I1,r1,ty,q1⟩=>?_)
 obtain ⟨h1,h2⟩:=tyV_is I1 r1 ty
 exact ⟨T,id,pa,slot,hty,h1,h2,Calls.callWith_builtin rfl (PySem.evalArgs_none (hm pins s1 σ H1 x [] v [] Q I1 r1 .nil q1))⟩
theorem pe_bm (pa:PlainAttrs T) (slot:Slot T name id) (hty:typeOf (.builtin id)=pure (.type "method_descriptor")) (hm:MtR X id r) (ho:PE X o to) (ha:PA X (e :: es) t)
  (hbase:attributeBase o name X.env (eval o X.env)=eval o X.env:=by rfl)
  (hfew:((backTo cpos (starEach (e :: es) X.env)).all (fun x=>!x.1) && (backToKw cpos (keywordEach [] X.env)).all (fun x=>x.1.isSome)
   && decide ((e :: es).length+([]:List Keyword).length+(if ([]:List Keyword).isEmpty then 0 else 1)<30))=true:=by rfl)
  (hline:(apos.endLine == cpos.line)=true:=by rfl) (hs:starEach (e :: es) X.env=(false,eval e X.env) :: starEach es X.env:=by rfl) (hplain:(backTo cpos (starEach es X.env)).any (·.1)=false:=by rfl) :
  PE X (.Call (.Attribute o name apos) (e :: es) [] cpos) (tBM X.K T r to t):=by
 intro pins s σ H Q I h
 refine wpAny_Call_method_late hbase hfew hline rfl (thn (ho pins s σ H _ I h) fun v s1 ⟨x,H1,I1,r1,ty,q1⟩=>?_)
 obtain ⟨h1,h2⟩:=tyV_is I1 r1 ty
 refine ⟨T,id,pa,slot,hty,h1,h2,?_⟩
 have hA:=ha cpos pins s1 σ H1 _ I1 q1
 rw [hs] at hA ⊢
 refine Calls.callWith_builtin (by show (false || (backTo cpos (starEach es X.env)).any (·.1))=false;rw [hplain] <;> rfl) (Calls.evalArgs_plain ?_)
 exact thn hA fun us s2 ⟨vs,H2,I2,r2,q2⟩=>hm pins s2 σ H2 x vs v us Q I2 r1 r2 q2
/- xs.append(e),list.index on a module's tuple .. are MtR facts of 06m -/
end
def MtM (X:Cx) (id:String) (r:V→List V→Hp→VK→Prop):Prop :=
 ∀ (pins:List (Addr × Obj)) (s:Shared) (σ:St) (H:Hp) (x:V) (xs:List V) (v:Value) (us:List Value) (Q:VK),Inv X pins σ H s→RelV x v→Vals xs us→r x xs H Q →
  wpAny (model X.prog X.w) X.A (call (.builtin id) (v :: us)) (EP X pins σ Q) X.xe s
theorem Vals.one:∀ {x:V}{us:List Value},Vals [x] us→∃ u,us=[u]∧RelV x u
 | _,_,.cons r .nil=>⟨_,rfl,r⟩
theorem Vals.two:∀ {x y:V}{us:List Value},Vals [x,y] us→∃ u v,us=[u,v]∧RelV x u∧RelV y v
 | _,_,_,.cons r (.cons q .nil)=>⟨_,_,rfl,r,q⟩
theorem Vals.zero:∀ {us:List Value},Vals [] us→us=[]
 | _,.nil=>rfl
theorem Vals.dropLast {xs:List V}{us:List Value} (h:Vals xs us):Vals xs.dropLast us.dropLast:=by
 induction h with
 | nil=>exact .nil
 | cons r t ih =>
  cases t with
  | nil=>exact .nil
  | cons q t'=>exact .cons r ih
theorem Vals.reverse {xs:List V}{us:List Value} (h:Vals xs us):Vals xs.reverse us.reverse:=by
 induction h with
 | nil=>exact .nil
 | cons r t ih=>rw [List.reverse_cons,List.reverse_cons];exact Vals.append ih (.cons r .nil)
section
variable {X:Cx}{pins:List (Addr × Obj)}{σ:St}{H:Hp}{s:Shared}{l b:Addr}{xs ys zs:List V}
theorem Inv.lset {its its':List Value}{n:Nat}{f:Array Value→Array Value}{t':Nat} (I:Inv X pins σ H s) (hH:H l=some (.lst xs))
  (e:s.heap.get? l=some { cls:=.type "list",data:=.seq its.toArray n }) (hf:f its.toArray=its'.toArray) (hv:Vals ys its') (hz:ys.length≤sizeLine) :
  Inv X pins σ (upd H l (.lst ys)) { s with heap:=s.heap.update l (Obj.mapSeq f),toks:=t' }:=by
 have q:=PySem.IsL.update e f
 rw [hf] at q
 refine I.write (x:=l) (e:=l) (by rw [hH];exact trivial) (.inl rfl) (fun b' u hb hu=>(Heap.get?_update_other s.heap (Obj.mapSeq f) (Ne.symm hb)).trans hu) ⟨_,q⟩ ?_
 exact ⟨hz,its',_,hv,q⟩
theorem Inv.lnew {its:List Value}{t':Nat} (I:Inv X pins σ H s) (hv:Vals ys its) (hz:ys.length≤sizeLine) :
  Inv X pins σ (upd H s.heap.objs.size (.lst ys)) { s with heap:=s.heap.push { cls:=.type "list",data:=.seq its.toArray },toks:=t' } :=
 I.laid (fun _ _ q=>Heap.get?_push_of_some _ q) (Nat.le_refl _) ⟨hz,its,0,hv,Heap.get?_push_size _ rfl⟩
theorem Inv.fresh (I:Inv X pins σ H s):H s.heap.objs.size=none:=I.hok.fresh (Nat.le_refl _)
theorem Inv.lstM (I:Inv X pins σ H s) (hH:H l=some (.lst xs)):xs.length≤sizeLine∧∃ (its:List Value) (n:Nat),Vals xs its∧xs.length=its.length∧s.heap.get? l=some { cls:=.type "list",data:=.seq its.toArray n }:=by
 obtain ⟨z,its,n,r,e⟩:=I.hok l _ hH
 exact ⟨z,its,n,r,r.length,e⟩
end
section
variable {X:Cx}
def rAppend:V→List V→Hp→VK→Prop:=fun x vs H Q=>∃ l xs y,x=.ref l∧vs=[y]∧H l=some (.lst xs)∧xs.length<sizeLine∧Q .non (upd H l (.lst (xs ++ [y])))
theorem mt_append:MtM X "list.append" rAppend:=by
 intro pins s σ H x vs v us Q I rx rv h
 obtain ⟨l,xs,y,rfl,rfl,hH,hz,q⟩:=h
 cases rx
 obtain ⟨u,rfl,ru⟩:=rv.one
 obtain ⟨z,its,n,r,hl,e⟩:=I.lstM hH
 refine call_meets F.slot_list_append ⟨_,e,rfl⟩ F.entry_list_append (F.args_list_append_2 _ _) (PySem.list_append l its.toArray n u (by rw [List.size_toArray];omega)) ⟨e,?_⟩
 refine ⟨.non,_,I.lset (its':=its ++ [u]) hH e (by simp) (r.append (.cons ru .nil)) ?_,rfl,q⟩
 rw [List.length_append,List.length_singleton]
 omega
def rCat:R2:=fun x y H Q=>∃ l b xs zs,x=.ref l∧y=.ref b∧H l=some (.lst xs)∧H b=some (.lst zs)∧xs.length+zs.length≤sizeLine∧∀ p,H p=none→Q (.ref p) (upd H p (.lst (xs ++ zs)))
theorem op_cat:OpR X (binaryOp .Add) rCat:=by
 intro pins s σ H x y v u Q I rx ry h
 obtain ⟨l,b,xs,zs,rfl,rfl,hH,hB,hz,q⟩:=h
 cases rx
 cases ry
 obtain ⟨z,its,n,r,hl,e⟩:=I.lstM hH
 obtain ⟨z2,its2,n2,r2,hl2,e2⟩:=I.lstM hB
 refine PySem.P.add_list e e2 ?_ (by rw [List.size_toArray,List.size_toArray];omega)
 have ea:its.toArray ++ its2.toArray=(its ++ its2).toArray:=by simp
 rw [ea]
 exact ⟨.ref _,_,I.lnew (t':=s.toks) (r.append r2) (by rw [List.length_append];omega),rfl,q _ I.fresh⟩
end
section
variable {prog:Program}{w:World}{A:Around}{E:Value→Shared→Prop}{s:Shared}
end
section
variable {X:Cx}
end
section
variable {κ:Type} [DecidableEq κ]
def valV (kvs:List (κ × V)) (k:κ):Option V:=(kvs.find? fun kv=>decide (kv.1=k)).map (·.2)
def putK (kvs:List (κ × V)) (k:κ) (v:V):List (κ × V) :=
 if (kvs.any fun kv=>decide (kv.1=k))=true then kvs.map (fun kv=>if kv.1=k then (kv.1,v) else kv) else kvs ++ [(k,v)]
theorem valV_pos {p:κ × V}{r:List (κ × V)}{k:κ} (e:p.1=k):valV (p :: r) k=some p.2:=by simp [valV,List.find?_cons,e]
theorem valV_neg {p:κ × V}{r:List (κ × V)}{k:κ} (e:¬ p.1=k):valV (p :: r) k=valV r k:=by simp [valV,List.find?_cons,e]
theorem valV_any (k:κ):∀ kvs:List (κ × V),(kvs.any fun kv=>decide (kv.1=k))=(valV kvs k).isSome
 | []=>rfl
 | p :: r=>by
  rw [List.any_cons]
  by_cases e:p.1=k
  ·simp only [valV_pos e,decide_eq_true e,Bool.true_or,Option.isSome_some]
  ·rw [valV_neg e,decide_eq_false e,Bool.false_or];exact valV_any k r
theorem valV_map (k j:κ) (y:V):∀ kvs:List (κ × V),valV (kvs.map fun kv=>if kv.1=k then (kv.1,y) else kv) j=(valV kvs j).map fun x=>if j=k then y else x
 | []=>rfl
 | p :: r=>by
  have ih:=valV_map k j y r
  rw [List.map_cons]
  by_cases h:p.1=k
  ·rw [if_pos h]
   by_cases e:p.1=j
   ·rw [valV_pos (p:=(p.1,y)) e,valV_pos e,Option.map_some,if_pos (e.symm.trans h)]
   ·rw [valV_neg (p:=(p.1,y)) e,valV_neg e,ih]
  ·rw [if_neg h]
   by_cases e:p.1=j
   ·rw [valV_pos (p:=p) e,valV_pos e,Option.map_some,if_neg (fun z=>h (e.trans z))]
   ·rw [valV_neg (p:=p) e,valV_neg e,ih]
theorem valV_snoc (k j:κ) (y:V):∀ kvs:List (κ × V),valV kvs k=none→valV (kvs ++ [(k,y)]) j=if j=k then some y else valV kvs j
 | [],_=>by
  by_cases e:k=j
  ·rw [if_pos e.symm];exact valV_pos (p:=(k,y)) e
  ·rw [if_neg (fun z=>e z.symm)];exact valV_neg (p:=(k,y)) e
 | p :: r,hn=>by
  rw [List.cons_append]
  have hk:¬ p.1=k:=fun z=>by rw [valV_pos z] at hn;cases hn
  rw [valV_neg hk] at hn
  have ih:=valV_snoc k j y r hn
  by_cases e:p.1=j
  ·rw [valV_pos e,valV_pos e,if_neg (fun z=>hk (e.trans z))]
  ·rw [valV_neg e,valV_neg e,ih]
theorem valV_put (kvs:List (κ × V)) (k j:κ) (y:V):valV (putK kvs k y) j=if j=k then some y else valV kvs j:=by
 unfold putK
 by_cases a:(kvs.any fun kv=>decide (kv.1=k))=true
 ·rw [if_pos a,valV_map]
  rw [valV_any] at a
  by_cases e:j=k
  ·obtain ⟨x,hx⟩:=Option.isSome_iff_exists.mp a
   rw [if_pos e,e,hx,Option.map_some,if_pos rfl]
  ·rw [if_neg e]
   cases valV kvs j with
   | none=>rfl
   | some x=>rw [Option.map_some,if_neg e]
 ·rw [if_neg a]
  refine valV_snoc k j y kvs ?_
  rw [valV_any] at a
  cases q:valV kvs k with
  | none=>rfl
  | some x=>rw [q] at a;exact (a rfl).elim
theorem length_putK (kvs:List (κ × V)) (k:κ) (v:V):(putK kvs k v).length≤kvs.length+1:=by
 unfold putK
 split
 ·rw [List.length_map];omega
 ·rw [List.length_append,List.length_cons,List.length_nil];omega
theorem RelO.isSome_eq {o:Option V}{u:Option Value} (r:RelO o u):o.isSome=u.isSome:=by
 cases o with
 | none=>cases u with
  | none=>rfl
  | some _=>exact (show False from r).elim
 | some _=>cases u with
  | none=>exact (show False from r).elim
  | some _=>rfl
theorem RelO.getD {o:Option V}{u:Option Value}{d:V}{d':Value} (r:RelO o u) (rd:RelV d d'):RelV (o.getD d) (u.getD d'):=by
 cases o with
 | none=>cases u with
  | none=>exact rd
  | some _=>exact (show False from r).elim
 | some _=>cases u with
  | none=>exact (show False from r).elim
  | some _=>exact r
theorem KV.val {kvs:List (κ × V)}{vs:List (κ × Value)} (r:KV kvs vs) (k:κ):RelO (valV kvs k) (valueAt vs k):=by
 unfold KV at r
 induction r with
 | nil=>exact True.intro
 | @cons p q ps qs h t ih =>
  obtain ⟨h1,h2⟩:=h
  by_cases e:p.1=k
  ·have e':q.1=k:=h1.symm.trans e
   have b:valueAt (q :: qs) k=some q.2:=by simp [valueAt,List.find?_cons,e']
   rw [valV_pos e,b];exact h2
  ·have e':¬ q.1=k:=fun z=>e (h1.trans z)
   have b:valueAt (q :: qs) k=valueAt qs k:=by simp [valueAt,List.find?_cons,e']
   rw [valV_neg e,b];exact ih
theorem KV.any {kvs:List (κ × V)}{vs:List (κ × Value)} (r:KV kvs vs) (k:κ):(kvs.any fun kv=>decide (kv.1=k))=vs.any fun kv=>decide (kv.1=k):=by
 unfold KV at r
 induction r with
 | nil=>rfl
 | cons h t ih=>rw [List.any_cons,List.any_cons,ih,h.1]
theorem KV.repl {kvs:List (κ × V)}{vs:List (κ × Value)} (r:KV kvs vs) (k:κ) {y:V}{u:Value} (ry:RelV y u) :
  KV (kvs.map fun kv=>if kv.1=k then (kv.1,y) else kv) (vs.map fun kv=>if kv.1=k then (kv.1,u) else kv):=by
 unfold KV at r ⊢
 induction r with
 | nil=>exact .nil
 | @cons p q ps qs h t ih =>
  rw [List.map_cons,List.map_cons]
  refine .cons ?_ ih
  obtain ⟨h1,h2⟩:=h
  by_cases e:p.1=k
  ·rw [if_pos e,if_pos (h1.symm.trans e)];exact ⟨h1,ry⟩
  ·rw [if_neg e,if_neg (fun z=>e (h1.trans z))];exact ⟨h1,h2⟩
theorem KV.put {kvs:List (κ × V)}{vs:List (κ × Value)} (r:KV kvs vs) (k:κ) {y:V}{u:Value} (ry:RelV y u):KV (putK kvs k y) (stored vs k u):=by
 unfold putK stored
 rw [r.any k]
 by_cases e:(vs.any fun kv=>decide (kv.1=k))=true
 ·rw [if_pos e,if_pos e];exact r.repl k ry
 ·rw [if_neg e,if_neg e];exact Paired.snoc r ⟨rfl,ry⟩
theorem KV.keys {kvs:List (κ × V)}{vs:List (κ × Value)} (r:KV kvs vs):kvs.map (·.1)=vs.map (·.1):=by
 unfold KV at r
 induction r with
 | nil=>rfl
 | cons h t ih=>rw [List.map_cons,List.map_cons,ih,h.1]
theorem KV.length {kvs:List (κ × V)}{vs:List (κ × Value)} (r:KV kvs vs):kvs.length=vs.length:=Paired.length r
end
theorem kV_is {P:Program}{w:World}{k:Key}{u:Value} (r:RelV (kV k) u):(mixKind P w).is k u=true:=by
 cases k with
 | inl i=>obtain ⟨t,e⟩:=(show ∃ t,u=Value.int i t from r);subst e;exact mixKind_int P w i t
 | inr x=>obtain ⟨t,e⟩:=(show ∃ t,u=Value.str x t from r);subst e;exact mixKind_str P w x t
theorem items_are {P:Program}{w:World}:∀ {ks:List Key}{us:List Value},Vals (ks.map kV) us→ItemsAre (mixKind P w) ks us
 | [],_,r=>by rw [List.map_nil] at r;cases r;exact .nil
 | k :: ks,_,r=>by
  rw [List.map_cons] at r
  cases r with
  | cons h t=>exact .cons (kV_is h) (items_are t)
abbrev KT (H:Hp):List (List Key × V)→List (List Key × Addr × Value)→Prop:=Paired fun p q=>p.1=q.1∧H q.2.1=some (.tup (p.1.map kV))∧RelV p.2 q.2.2
theorem KT.val {H:Hp}{kvs:List (List Key × V)}{xs:List (List Key × Addr × Value)} (r:KT H kvs xs) (k:List Key):RelO (valV kvs k) ((atKey xs k).map (·.2)):=by
 induction r with
 | nil=>exact True.intro
 | @cons p q ps qs h t ih =>
  obtain ⟨h1,_,h2⟩:=h
  by_cases e:p.1=k
  ·have e':q.1=k:=h1.symm.trans e
   have b:atKey (q :: qs) k=some q.2:=by simp [atKey,List.find?_cons,e']
   rw [valV_pos e,b];exact h2
  ·have e':¬ q.1=k:=fun z=>e (h1.trans z)
   have b:atKey (q :: qs) k=atKey qs k:=by simp [atKey,List.find?_cons,e']
   rw [valV_neg e,b];exact ih
theorem KT.repl {H:Hp}{kvs:List (List Key × V)}{xs:List (List Key × Addr × Value)} (r:KT H kvs xs) (k:List Key) {y:V}{u:Value} (ry:RelV y u) :
  KT H (kvs.map fun kv=>if kv.1=k then (kv.1,y) else kv) (xs.map (putAt k u)):=by
 induction r with
 | nil=>exact .nil
 | @cons p q ps qs h t ih =>
  rw [List.map_cons,List.map_cons]
  refine .cons ?_ ih
  obtain ⟨h1,h2,h3⟩:=h
  unfold putAt
  by_cases e:p.1=k
  ·rw [if_pos e,if_pos (h1.symm.trans e)];exact ⟨h1,h2,ry⟩
  ·rw [if_neg e,if_neg (fun z=>e (h1.trans z))];exact ⟨h1,h2,h3⟩
theorem KT.put {H:Hp}{kvs:List (List Key × V)}{xs:List (List Key × Addr × Value)} (r:KT H kvs xs) (k:List Key) {b:Addr}{y:V}{u:Value} (hb:H b=some (.tup (k.map kV))) (ry:RelV y u) :
  KT H (putK kvs k y) (storedH xs k b u):=by
 have e:(kvs.any fun kv=>decide (kv.1=k))=(atKey xs k).isSome:=by
  rw [valV_any,(r.val k).isSome_eq,Option.isSome_map]
 unfold putK storedH
 rw [e]
 by_cases q:(atKey xs k).isSome=true
 ·rw [if_pos q,if_pos q];exact r.repl k ry
 ·rw [if_neg q,if_neg q];exact Paired.snoc r ⟨rfl,hb,ry⟩
theorem KT.keeps {H H':Hp}{kvs:List (List Key × V)}{xs:List (List Key × Addr × Value)} (r:KT H kvs xs) (ht:∀ b ys,H b=some (.tup ys)→H' b=some (.tup ys)):KT H' kvs xs :=
 Paired.mapP r fun _ _ z=>⟨z.1,ht _ _ z.2.1,z.2.2⟩
section
variable {P:Program}{w:World}{H:Hp}{h:Heap}{a:Addr}
theorem rd_of {u:HO} (ok:HOk P w H h) (e:Rd H a u):ObjOk P w H h a u:=e.ok ok
theorem dk_rd {kvs:List (Key × V)} (ok:HOk P w H h) (e:Rd H a (.dK kvs)):kvs.length≤sizeLine∧(a == sysModules)=false∧∃ vs,KV kvs vs∧h.DictOf (mixKind P w) a vs :=
 show ObjOk P w H h a (.dK kvs) from rd_of ok e
theorem dk_of {kvs:List (Key × V)} (ok:HOk P w H h) (e:H a=some (.dK kvs)):kvs.length≤sizeLine∧(a == sysModules)=false∧∃ vs,KV kvs vs∧h.DictOf (mixKind P w) a vs:=dk_rd ok (.inl e)
theorem key_of {ks:List Key} (ok:HOk P w H h) (e:H a=some (.tup (ks.map kV))):(tupleKind (mixKind P w)).is h ks a:=by
 obtain ⟨_,its,r,o,h1,h2,n,h3⟩:=(show ObjOk P w H h a (.tup (ks.map kV)) from ok a _ e)
 exact ⟨o,its.toArray,n,h1,h2,h3,by simpa using items_are r⟩
theorem dt_rd {kvs:List (List Key × V)} (ok:HOk P w H h) (e:Rd H a (.dT kvs)):kvs.length≤sizeLine∧(a == sysModules)=false ∧
  ∃ xs,KT H kvs xs∧h.DictOfH (tupleKind (mixKind P w)) a xs:=by
 obtain ⟨z,y,xs,r,o,es,ep,h1,h2,h3,h4,h5⟩:=(show ObjOk P w H h a (.dT kvs) from rd_of ok e)
 refine ⟨z,y,xs,r,o,es,ep,h1,h2,h3,h4,fun x hx=>?_,h5⟩
 have all:∀ {l:List (List Key × V)}{m:List (List Key × Addr × Value)},KT H l m→∀ x∈m,(tupleKind (mixKind P w)).is h x.1 x.2.1:=by
  intro l m q
  induction q with
  | nil=>intro x hx;exact nomatch hx
  | @cons p q ps qs hq t ih =>
   intro x hx
   rcases List.mem_cons.mp hx with e | hx
   ·subst e
    exact key_of ok (by rw [← hq.1];exact hq.2.1)
   ·exact ih x hx
 exact all r x hx
theorem dt_of {kvs:List (List Key × V)} (ok:HOk P w H h) (e:H a=some (.dT kvs)):kvs.length≤sizeLine∧(a == sysModules)=false ∧
  ∃ xs,KT H kvs xs∧h.DictOfH (tupleKind (mixKind P w)) a xs:=dt_rd ok (.inl e)
end
def DGet (H:Hp) (a:Addr) (y:V) (r:Option V):Prop :=
 (∃ kvs k,Rd H a (.dK kvs)∧y=kV k∧r=valV kvs k)∨∃ kvs k b,Rd H a (.dT kvs)∧y=.ref b∧H b=some (.tup (k.map kV))∧r=valV kvs k
def DPut (H:Hp) (a:Addr) (y v:V) (H':Hp):Prop :=
 (∃ kvs k,H a=some (.dK kvs)∧y=kV k∧kvs.length<sizeLine∧H'=upd H a (.dK (putK kvs k v))) ∨
 ∃ kvs k b,H a=some (.dT kvs)∧y=.ref b∧H b=some (.tup (k.map kV))∧kvs.length<sizeLine∧H'=upd H a (.dT (putK kvs k v))
theorem DGet.k {H:Hp}{a:Addr}{kvs:List (Key × V)}{k:Key} (e:H a=some (.dK kvs)):DGet H a (kV k) (valV kvs k):=.inl ⟨kvs,k,.inl e,rfl,rfl⟩
theorem DGet.t {H:Hp}{a b:Addr}{kvs:List (List Key × V)}{k:List Key} (e:H a=some (.dT kvs)) (eb:H b=some (.tup (k.map kV))):DGet H a (.ref b) (valV kvs k):=.inr ⟨kvs,k,b,.inl e,rfl,eb,rfl⟩
theorem DPut.k {H:Hp}{a:Addr}{kvs:List (Key × V)}{k:Key}{v:V} (e:H a=some (.dK kvs)) (hl:kvs.length<sizeLine):DPut H a (kV k) v (upd H a (.dK (putK kvs k v))):=.inl ⟨kvs,k,e,rfl,hl,rfl⟩
theorem DPut.t {H:Hp}{a b:Addr}{kvs:List (List Key × V)}{k:List Key}{v:V} (e:H a=some (.dT kvs)) (eb:H b=some (.tup (k.map kV))) (hl:kvs.length<sizeLine) :
  DPut H a (.ref b) v (upd H a (.dT (putK kvs k v))):=.inr ⟨kvs,k,b,e,rfl,eb,hl,rfl⟩
section
variable {X:Cx}{pins:List (Addr × Obj)}{σ:St}{H:Hp}{s:Shared}{a:Addr}{y v:V}{u r:Value}{o:Option V}{A:Around}{E:Value→Shared→Prop}
theorem Inv.big (I:Inv X pins σ H s):sysModules<s.heap.objs.size:=by
 have h:mainGlobals<s.heap.objs.size:=(I.mod.glob.keeps I.bk).lt
 exact Nat.lt_trans (by decide) h
theorem d_in {Q:Value→Shared→Prop} (hu:A.units+1<cLine) (I:Inv X pins σ H s) (g:DGet H a y o) (ry:RelV y u) (h:∀ s',Inv X pins σ H s'→Q (.bool o.isSome) s') :
  wpAny (model X.prog X.w) A (compareOp .In u (.ref a)) Q E s:=by
 rcases g with ⟨kvs,k,e,ey,l⟩ | ⟨kvs,k,b,e,ey,eb,l⟩
 ·subst ey
  obtain ⟨z,hd,vs,rel,dd⟩:=dk_rd I.hok e
  refine wpAny_in_of (kV_is ry) hd dd.mapOf ?_
  rw [← (rel.val k).isSome_eq,← l]
  exact h _ (I.tok _)
 ·subst ey
  cases (show u=Value.ref b from ry)
  obtain ⟨z,hd,xs,rel,dd⟩:=dt_rd I.hok e
  refine wpAny_in_heap (tupleKind_room_in1 hu) (key_of I.hok eb) hd dd ?_
  have q:=(rel.val k).isSome_eq
  rw [Option.isSome_map] at q
  rw [← q,← l]
  exact h _ (I.tok _)
theorem d_notIn {Q:Value→Shared→Prop} (hu:A.units+1<cLine) (I:Inv X pins σ H s) (g:DGet H a y o) (ry:RelV y u) (h:∀ s',Inv X pins σ H s'→Q (.bool (!o.isSome)) s') :
  wpAny (model X.prog X.w) A (compareOp .NotIn u (.ref a)) Q E s:=by
 rcases g with ⟨kvs,k,e,ey,l⟩ | ⟨kvs,k,b,e,ey,eb,l⟩
 ·subst ey
  obtain ⟨z,hd,vs,rel,dd⟩:=dk_rd I.hok e
  refine wpAny_notIn_of (kV_is ry) hd dd.mapOf ?_
  rw [← (rel.val k).isSome_eq,← l]
  exact h _ (I.tok _)
 ·subst ey
  cases (show u=Value.ref b from ry)
  obtain ⟨z,hd,xs,rel,dd⟩:=dt_rd I.hok e
  refine wpAny_notIn_heap (tupleKind_room_in1 hu) (key_of I.hok eb) hd dd ?_
  have q:=(rel.val k).isSome_eq
  rw [Option.isSome_map] at q
  rw [← q,← l]
  exact h _ (I.tok _)
theorem d_write {h':Heap}{t':Nat}{ob:HO} (I:Inv X pins σ H s) (mu:Mut (H a)) (hs:Heap.SameBut a s.heap h') (he:∃ q,h'.get? a=some q) (new:ObjOk X.prog X.w (upd H a ob) h' a ob) :
  Inv X pins σ (upd H a ob) { s with heap:=h',toks:=t' } :=
 I.write (x:=a) (e:=a) mu (.inl rfl) (fun b q hb z=>(hs.2 b hb).trans z) he new
theorem dk_new {P:Program}{w:World}{H':Hp}{h':Heap}{kvs:List (Key × V)}{vs:List (Key × Value)} (z:kvs.length≤sizeLine) (hd:(a == sysModules)=false) (rel:KV kvs vs) (dd:h'.DictOf (mixKind P w) a vs) :
  ObjOk P w H' h' a (.dK kvs):=⟨z,hd,vs,rel,dd⟩
theorem d_setItem {H':Hp}{Q:Unit→Shared→Prop} (hu:A.units+1<cLine) (I:Inv X pins σ H s) (g:DPut H a y v H') (ry:RelV y u) (rv:RelV v r) (h:∀ s',Inv X pins σ H' s'→Q () s') :
  wpAny (model X.prog X.w) A (setItem (.ref a) u r) Q E s:=by
 rcases g with ⟨kvs,k,e,ey,l,eH⟩ | ⟨kvs,k,b,e,ey,eb,l,eH⟩
 ·subst ey eH
  obtain ⟨z,hd,vs,rel,dd⟩:=dk_of I.hok e
  have hz:vs.length≤sizeLine:=by rw [← rel.length];exact z
  have hl:(putK kvs k v).length≤sizeLine:=by have:=length_putK kvs k v;omega
  refine wpAny_setItem_pairs (hsz:=hz) (kV_is ry) dd fun h' dd' hs=>h _ ?_
  have he:∃ q,h'.get? a=some q:=let ⟨q,_,_,hq,_⟩:=dd';⟨q,hq⟩
  exact d_write I (by rw [e];exact True.intro) hs he (dk_new hl hd (rel.put k rv) dd')
 ·subst ey eH
  cases (show u=Value.ref b from ry)
  obtain ⟨z,hd,xs,rel,dd⟩:=dt_of I.hok e
  have hz:xs.length≤sizeLine:=by rw [← Paired.length rel];exact z
  have hl:(putK kvs k v).length≤sizeLine:=by have:=length_putK kvs k v;omega
  refine wpAny_setItem_heap (hsz:=hz) (tupleKind_room_in1 hu) (key_of I.hok eb) dd fun h' dd' hs=>h _ ?_
  obtain ⟨q,es,ep,hq,h2,h3,h4,_,h5⟩:=dd'
  refine d_write I (by rw [e];exact True.intro) hs ⟨q,hq⟩ ⟨hl,hd,_,(rel.put k eb rv).keeps fun c ys ec=>?_,q,es,ep,hq,h2,h3,h4,h5⟩
  rw [upd_ne (ne_of ec e (fun z=>nomatch z))]
  exact ec
end
section
variable {X:Cx}{pins:List (Addr × Obj)}{σ:St}{H:Hp}{s:Shared}{a:Addr}{kvs:List (Key × V)}{k:Key}{u:Value}{A:Around}{E:Value→Shared→Prop}
theorem d_len {Q:Value→Shared→Prop} (I:Inv X pins σ H s) (e:Rd H a (.dK kvs)) (h:∀ t s',Inv X pins σ H s'→Q (.int kvs.length t) s'):wpAny (model X.prog X.w) A (call (.builtin "len") [.ref a]) Q E s:=by
 obtain ⟨z,hd,vs,rel,dd⟩:=dk_rd I.hok e
 refine call_len_dict hd dd (by rw [← rel.length];rw [sizeLine_eq] at z;omega) ?_
 rw [← rel.length]
 exact h _ _ (I.tok _)
end
def NoSl (i:Expr):Prop:=∀ ov iv,subscripted i false ov iv=operate [ov,iv] (getItem ov iv)
theorem subD_of {prog:Program}{w:World}{A:Around}{E:Value→Shared→Prop}{s:Shared}{env:Env}{value slice:Expr}{pos:Pos}{T id:String}{Q:Value→Shared→Prop}
  (hl:typeLookup (.type T) "__getitem__" = pure (some (.builtin id))) (hs:NoSl slice)
  (h:wpAny (model prog w) A (eval value env) (fun o s₁=>wpAny (model prog w) A (eval slice env) (fun i s₂=>s₂.TypeIs o T∧wpAny (model prog w) A (getItem o i) Q E s₂) E s₁) E s) :
  wpAny (model prog w) A (eval (.Subscript value slice pos) env) Q E s:=by
 refine Subscript_ (wpAny_mono h (fun o s₁ h₁=>wpAny_mono h₁ (fun i s₂ h₂=>?_) fun _ _ x=>x) fun _ _ x=>x)
 obtain ⟨hT,h₂⟩:=h₂
 unfold subscriptTail
 refine wpAny_bind ?_
 rw [getitemInPython_of_ne hT.not_modules]
 refine wpAny_bind (wpAny_specialOf hT hl ?_)
 have fin:wpAny (model prog w) A (subscripted slice false o i) (fun r s₃=>wpAny (model prog w) A (letTemporaryGo value o r >>= fun _=>pure r) Q E s₃) E s₂:=by
  rw [hs o i]
  exact wpAny_operating (wpAny_mono h₂ (fun r s₃ h₃=>wpAny_bind (wpAny_letTemporaryGo (wpAny_pure h₃))) fun _ _ x=>x)
 first
  | exact wpAny_pure (wpAny_bind fin)
  | exact wpAny_bind (wpAny_pure (wpAny_bind fin))
  | exact wpAny_bind fin
def tDIn (ty td:TE):TE:=fun σ H Q=>ty σ H fun y H1=>td σ H1 fun x H2=>∃ a o,x=.ref a∧DGet H2 a y o∧Q (.bl o.isSome) H2
def tDNotIn (ty td:TE):TE:=fun σ H Q=>ty σ H fun y H1=>td σ H1 fun x H2=>∃ a o,x=.ref a∧DGet H2 a y o∧Q (.bl (!o.isSome)) H2
def sDPut (td ty tv:TE):TS:=fun D σ H=>tv σ H fun v H1=>td σ H1 fun x H2=>ty σ H2 fun y H3=>∃ a H4,x=.ref a∧DPut H3 a y v H4∧D.nx σ H4
section
variable {X:Cx}{o i e value:Expr}{pos pos' tpos:Pos}{td ty tv:TE}
theorem pc_din (hu:X.A.units+1<cLine) (hi:PE X i ty) (ho:PE X o td):PC X .In i o (tDIn ty td):=by
 intro pins s σ H Q I h
 refine thn (hi pins s σ H _ I h) fun iv s1 ⟨y,H1,I1,ry,q1⟩=>thn (ho pins s1 σ H1 _ I1 q1) fun u s2 ⟨x,H2,I2,rx,a,ov,ex,g,q2⟩=>?_
 subst ex
 obtain rfl:u=Value.ref a:=rx
 exact d_in hu I2 g ry fun s3 I3=>⟨.bl ov.isSome,H2,I3,rfl,q2⟩
theorem pc_dnotin (hu:X.A.units+1<cLine) (hi:PE X i ty) (ho:PE X o td):PC X .NotIn i o (tDNotIn ty td):=by
 intro pins s σ H Q I h
 refine thn (hi pins s σ H _ I h) fun iv s1 ⟨y,H1,I1,ry,q1⟩=>thn (ho pins s1 σ H1 _ I1 q1) fun u s2 ⟨x,H2,I2,rx,a,ov,ex,g,q2⟩=>?_
 subst ex
 obtain rfl:u=Value.ref a:=rx
 exact d_notIn hu I2 g ry fun s3 I3=>⟨.bl (!ov.isSome),H2,I3,rfl,q2⟩
theorem ps_dput (hu:X.A.units+1<cLine) (ho:PE X o td) (hi:PE X i ty) (hv:PE X value tv) (hs:swapsWith value (some (.Subscript o i pos')) pos.line X.env=pure false) :
  PS X (.Assign [.Subscript o i pos'] value pos) (sDPut td ty tv):=by
 intro pins s σ H D I h
 refine wpAny_Assign_Subscript (thn (hv pins s σ H _ I h) fun r s1 ⟨v,H1,I1,rv,q1⟩=>thn (ho pins s1 σ H1 _ I1 q1) fun u s2 ⟨x,H2,I2,rx,q2⟩=>thn (hi pins s2 σ H2 _ I2 q2) fun iv s3 ⟨y,H3,I3,ry,a,H4,ex,g,q3⟩=>?_) hs
 subst ex
 obtain rfl:u=Value.ref a:=rx
 exact d_setItem hu I3 g ry rv fun s4 I4=>⟨σ,H4,I4,q3⟩
end
theorem dk_empty {P:Program}{w:World}{H:Hp} (h:Heap) (hb:sysModules<h.objs.size):ObjOk P w H (h.push { cls:=.type "dict",data:=.dict #[] }) h.objs.size (.dK []) :=
 ⟨Nat.zero_le _,beq_eq_false_iff_ne.mpr (Ne.symm (Nat.ne_of_lt hb)),[],.nil,Heap.DictOf.new h⟩
section
variable {X:Cx}{pos:Pos}
end
def tPairs:List (TE × TE)→St→Hp→(List (V × V)→Hp→Prop)→Prop
 | [],_,H,Q=>Q [] H
 | (tk,tv) :: r,σ,H,Q=>tk σ H fun x H1=>tv σ H1 fun y H2=>tPairs r σ H2 fun ps H3=>Q ((x,y) :: ps) H3
abbrev VV:List (V × V)→List (Value × Value)→Prop:=Paired fun p q=>RelV p.1 q.1∧RelV p.2 q.2
def PPs (X:Cx) (pos:Pos) (keys:List (Option Expr)) (values:List Expr) (trs:List (TE × TE)):Prop :=
 ∀ (pins:List (Addr × Obj)) (s:Shared) (σ:St) (H:Hp) (Q:List (V × V)→Hp→Prop),Inv X pins σ H s→tPairs trs σ H Q →
  wpAny (model X.prog X.w) X.A (evalPairs (pairTrees keys values X.env pos)) (fun vs s'=>∃ ps H',Inv X pins σ H' s'∧VV ps vs∧Q ps H') X.xe s
theorem pps_nil {X:Cx}{pos:Pos}:PPs X pos [] [] []:=fun pins s σ H Q I h=>pairTrees_nil_walk ⟨[],H,I,.nil,h⟩
theorem pps_cons {X:Cx}{pos:Pos}{k v:Expr}{ks:List (Option Expr)}{vs:List Expr}{tk tv:TE}{trs:List (TE × TE)} (hk:PE X k tk) (hv:PE X v tv) (hr:PPs X pos ks vs trs) :
  PPs X pos (some k :: ks) (v :: vs) ((tk,tv) :: trs):=fun pins s σ H Q I h =>
 pairTrees_cons_walk (thn (hk pins s σ H _ I h) fun u s1 ⟨x,H1,I1,rx,q1⟩=>thn (hv pins s1 σ H1 _ I1 q1) fun w2 s2 ⟨y,H2,I2,ry,q2⟩ =>
  thn (hr pins s2 σ H2 _ I2 q2) fun ws s3 ⟨ps,H3,I3,rel,q3⟩=>⟨(x,y) :: ps,H3,I3,.cons ⟨rx,ry⟩ rel,q3⟩)
def mergeK (kvs more:List (Key × V)):List (Key × V):=more.foldl (fun acc kv=>putK acc kv.1 kv.2) kvs
theorem KV.merge:∀ {more:List (Key × V)}{rs:List (Key × Value)}{kvs:List (Key × V)}{vs:List (Key × Value)},KV more rs→KV kvs vs→KV (mergeK kvs more) (merged vs rs):=by
 intro more rs kvs vs r
 unfold KV at r
 induction r generalizing kvs vs with
 | nil=>intro q;exact q
 | @cons p q ps qs h t ih =>
  intro r0
  have e:KV (putK kvs p.1 p.2) (stored vs q.1 q.2):=by
   have:=r0.put p.1 h.2
   rw [← h.1];exact this
  exact ih e
theorem length_mergeK:∀ (more kvs:List (Key × V)),(mergeK kvs more).length≤kvs.length+more.length
 | [],kvs=>by show kvs.length≤kvs.length+0;omega
 | p :: r,kvs=>by
  have h1:=length_mergeK r (putK kvs p.1 p.2)
  have h2:=length_putK kvs p.1 p.2
  show (mergeK (putK kvs p.1 p.2) r).length≤_
  rw [List.length_cons];omega
theorem carries_of {P:Program}{w:World}:∀ {kvs:List (Key × V)}{ws:List (Value × Value)},VV (kvs.map fun kv=>(kV kv.1,kv.2)) ws→∃ rs,Carries (mixKind P w) ws rs∧KV kvs rs
 | [],_,r=>by rw [List.map_nil] at r;cases r;exact ⟨[],True.intro,.nil⟩
 | p :: kvs,_,r=>by
  rw [List.map_cons] at r
  cases r with
  | @cons a b as bs h t =>
   obtain ⟨rs,c,q⟩:=carries_of (P:=P) (w:=w) t
   obtain ⟨b1,b2⟩:=b
   exact ⟨(p.1,b2) :: rs,⟨kV_is h.1,rfl,c⟩,.cons ⟨rfl,h.2⟩ q⟩
def tDisp (trs:List (TE × TE)):TE:=fun σ H Q=>∀ p,H p=none→tPairs trs σ (upd H p (.dK [])) fun ps H2=>H2 p=some (.dK [])∧∃ kvs:List (Key × V),ps=kvs.map (fun kv=>(kV kv.1,kv.2))∧kvs.length≤15∧Q (.ref p) (upd H2 p (.dK (mergeK [] kvs)))
theorem pe_disp {X:Cx}{pos:Pos}{keys:List (Option Expr)}{values:List Expr}{trs:List (TE × TE)} (h:PPs X pos keys values trs) (hall:keys.all (·.isSome)=true) (hl:keys.length=values.length) (h0:keys≠[])
  (h15:keys.length≤15):PE X (.Dict keys values pos) (tDisp trs):=by
 intro pins s σ H Q I q
 have hn:=I.hok.fresh (Nat.le_refl s.heap.objs.size)
 have I1:=I.laid (a:=s.heap.objs.size) (o:=.dK []) (h':=s.heap.push { cls:=.type "dict",data:=.dict #[] }) (t':=s.toks) (fun _ _ q=>Heap.get?_push_of_some _ q) (Nat.le_refl _) (dk_empty s.heap I.big)
 refine wpAny_Dict_walk (knd:=mixKind X.prog X.w) hall hl h0 h15 (thn (h pins _ σ _ _ I1 (q _ hn)) fun ws s2 ⟨ps,H2,I2,rel,e,kvs,ep,lk,q2⟩=>?_)
 subst ep
 obtain ⟨rs,c,rk⟩:=carries_of (P:=X.prog) (w:=X.w) rel
 obtain ⟨z,hd,vs0,r0,dd⟩:=dk_of I2.hok e
 cases r0
 refine ⟨rs,c,dd,fun h' dd' hs=>⟨.ref s.heap.objs.size,_,?_,rfl,q2⟩⟩
 have hz:(mergeK [] kvs).length≤sizeLine:=by
  have h1:=length_mergeK kvs []
  rw [List.length_nil] at h1
  rw [sizeLine_eq];omega
 have he:∃ q,h'.get? s.heap.objs.size=some q:=let ⟨q,_,_,hq,_⟩:=dd';⟨q,hq⟩
 exact d_write I2 (by rw [e];exact True.intro) hs he (dk_new hz hd (rk.merge .nil) dd')
structure M1 (X:Cx) (o:Expr) (m:Str) (apos:Pos) (e:Expr) (cpos:Pos):Prop where
 base:attributeBase o m X.env (eval o X.env)=eval o X.env
 few:((backTo cpos (starEach [e] X.env)).all (fun x=>!x.1) && (backToKw cpos (keywordEach [] X.env)).all (fun x=>x.1.isSome)
  && decide (([e]:List Expr).length+([]:List Keyword).length+(if ([]:List Keyword).isEmpty then 0 else 1)<30))=true
 line:(apos.endLine == cpos.line)=true
 trees:backTo cpos (starEach [e] X.env)=[(false,eval e X.env)]
structure M2 (X:Cx) (o:Expr) (m:Str) (apos:Pos) (e f:Expr) (cpos:Pos):Prop where
 base:attributeBase o m X.env (eval o X.env)=eval o X.env
 few:((backTo cpos (starEach [e,f] X.env)).all (fun x=>!x.1) && (backToKw cpos (keywordEach [] X.env)).all (fun x=>x.1.isSome)
  && decide (([e,f]:List Expr).length+([]:List Keyword).length+(if ([]:List Keyword).isEmpty then 0 else 1)<30))=true
 line:(apos.endLine == cpos.line)=true
 trees:backTo cpos (starEach [e,f] X.env)=[(false,eval e X.env),(false,eval f X.env)]
def IsD (H:Hp) (a:Addr):Prop:=(∃ kvs,Rd H a (.dK kvs))∨∃ kvs,Rd H a (.dT kvs)
theorem isD_at {X:Cx}{pins:List (Addr × Obj)}{σ:St}{H:Hp}{s:Shared}{a:Addr} (I:Inv X pins σ H s) (d:IsD H a) :
  s.TypeIs (.ref a) "dict" ∧ (∀ b,Value.ref a=.ref b→∃ ob,s.heap.get? b=some ob∧ob.dict=none)∧(a == sysModules)=false:=by
 rcases d with ⟨kvs,e⟩ | ⟨kvs,e⟩
 ·obtain ⟨_,hd,vs,_,dd⟩:=dk_rd I.hok e
  refine ⟨dd.typeIs,fun b q=>?_,hd⟩
  cases q
  obtain ⟨ob,_,_,h1,h2,_⟩:=dd
  exact ⟨ob,h1,h2.2.1⟩
 ·obtain ⟨_,hd,xs,_,dd⟩:=dt_rd I.hok e
  refine ⟨dd.typeIs,fun b q=>?_,hd⟩
  cases q
  obtain ⟨ob,_,_,h1,h2,_⟩:=dd
  exact ⟨ob,h1,h2.2.1⟩
section
variable {X:Cx}{pins:List (Addr × Obj)}{σ:St}{H:Hp}{s:Shared}{a:Addr}{y d:V}{u r:Value}{o:Option V}{A:Around}{E:Value→Shared→Prop}
theorem d_get2 {Q:Value→Shared→Prop} (hu:A.units+1<cLine) (I:Inv X pins σ H s) (g:DGet H a y o) (ry:RelV y u) (rd:RelV d r) (h:∀ w' s',Inv X pins σ H s'→RelV (o.getD d) w'→Q w' s') :
  wpAny (model X.prog X.w) A (call (.builtin "dict.get") [.ref a,u,r]) Q E s:=by
 rcases g with ⟨kvs,k,e,ey,l⟩ | ⟨kvs,k,b,e,ey,eb,l⟩
 ·subst ey
  obtain ⟨z,hd,vs,rel,dd⟩:=dk_rd I.hok e
  refine call_meetsIn PySem.F.slot_dict_get dd.typeIs PySem.F.entry_dict_get (PySem.F.args_dict_get_3 _ _ _) (meets_dict_get_default (mixKind X.prog X.w) a (kV_is ry) hd r) ⟨_,dd.mapOf,h _ _ (I.tok _) ?_⟩
  rw [l]
  exact (rel.val k).getD rd
 ·subst ey
  cases (show u=Value.ref b from ry)
  obtain ⟨z,hd,xs,rel,dd⟩:=dt_rd I.hok e
  refine call_meetsIn PySem.F.slot_dict_get dd.typeIs PySem.F.entry_dict_get (PySem.F.args_dict_get_3 _ _ _) (meetsH_dict_get_default (tupleKind (mixKind X.prog X.w)) a b hd r) ⟨tupleKind_room_in1 hu,k,xs,key_of I.hok eb,dd,h _ _ (I.tok _) ?_⟩
  rw [l]
  exact (rel.val k).getD rd
end
def tDGet2 (td ty tx:TE):TE:=fun σ H Q=>td σ H fun x H1=>∃ a,x=.ref a∧IsD H1 a∧ty σ H1 fun y H2=>tx σ H2 fun z H3=>∃ o,DGet H3 a y o∧Q (o.getD z) H3
section
variable {X:Cx}{o e f:Expr}{apos cpos:Pos}{td ty tx:TE}
theorem pe_dget2 (hu:X.A.units+1<cLine) (ho:PE X o td) (he:PE X e ty) (hf:PE X f tx) (m:M2 X o "get" apos e f cpos):PE X (.Call (.Attribute o "get" apos) [e,f] [] cpos) (tDGet2 td ty tx):=by
 intro pins s σ H Q I h
 refine wpAny_Call_method m.base m.few m.line PySem.F.plainAttrs_dict PySem.F.slot_dict_get PySem.F.type_dict_get (thn (ho pins s σ H _ I h) fun u s1 ⟨x,H1,I1,rx,a,ex,d,q1⟩=>?_)
 subst ex
 obtain rfl:u=Value.ref a:=rx
 obtain ⟨t1,t2,_⟩:=isD_at I1 d
 refine ⟨t1,t2,?_⟩
 rw [m.trees]
 refine Calls.callWith_builtin rfl (Calls.evalArgs_plain (Calls.spliced_cons (thn (he pins s1 σ H1 _ I1 q1) fun iv s2 ⟨y,H2,I2,ry,q2⟩ =>
  Calls.spliced_cons (thn (hf pins s2 σ H2 _ I2 q2) fun fv s3 ⟨z,H3,I3,rz,ov,g,q3⟩=>Calls.spliced_nil ?_))))
 exact d_get2 hu I3 g ry rz fun w' s4 I4 rw'=>⟨_,H3,I4,rw',q3⟩
end
section
variable {X:Cx}{pins:List (Addr × Obj)}{σ:St}{H:Hp}{s:Shared}{a:Addr}{kvs:List (Key × V)}{A:Around}{E:Value→Shared→Prop}
end
section
variable {X:Cx}{pins:List (Addr × Obj)}{σ:St}{H:Hp}{s:Shared}{a:Addr}{y:V}{u:Value}{A:Around}{E:Value→Shared→Prop}
end
end L2
namespace Att
open PySem PySem.W PySem.Calls PyProof.Rows
theorem ints_of_wellAll {P:Params}{h:Heap}:∀ (ns:List Int) (vs:List Value),WellAll P h vs (ns.map WData.int)→IntsAre vs ns:=by
 intro ns
 induction ns with
 | nil =>
  intro vs w
  rw [List.map_nil] at w
  cases w
  exact .nil
 | cons n ns ih =>
  intro vs w
  rw [List.map_cons] at w
  cases w with
  | cons a b =>
   cases a
   exact .cons _ _ (ih _ b)
theorem script_of {l:OpenLaw}{n:Nat} (hn:l.most=some n) {P:Params}{h:Heap}{args:List WData}{vals:List Value}
  (hpre:l.row.toRowW.claim.pre args=true) (hwl:WellAll P h vals args) :
  ∃ a vs ns,vals=[Value.ref a]∧args=[WData.list (ns.map WData.int)]∧h.get? a=some { cls:=.type "list",data:=.seq vs.toArray }∧IntsAre vs ns∧ns.length≤n:=by
 have hsh:WShape.hasAll [] args [.list .int]=true:=(pre_splitW hpre).1
 have hc:l.pre.holds [] { args:=args }=true:=(pre_splitW hpre).2
 obtain ⟨d,r,rfl,h1,h2⟩:=hasAllW_cons hsh
 obtain rfl:=hasAllW_nil h2
 obtain ⟨xs,rfl,h3⟩:=hasW_list h1
 obtain ⟨ns,rfl⟩:=items_int h3
 have hlen:ns.length≤n:=by
  unfold OpenLaw.pre at hc
  have h4:(WTm.not (.lt (.lit (.int (n:Int))) (.len (.arg 0)))).holds [] { args:=[.list (ns.map .int)] }=true:=by
   have h4:=(holds_andW hc).1
   rw [hn] at h4
   exact h4
  have h5:=condW_of h4 (w_not (w_lt w_lit (w_len_list (w_arg rfl))))
  rw [List.length_map] at h5
  refine Nat.le_of_not_lt fun q=>?_
  have q':(n:Int)<((ns.length:Nat):Int):=by omega
  first
   | (rw [decide_eq_true q'] at h5;exact absurd h5 (by decide))
   | (simp at h5;omega)
 cases hwl with
 | cons w1 w2 =>
  cases w2
  cases w1 with
  | list ho hall=>exact ⟨_,_,ns,rfl,rfl,ho,ints_of_wellAll ns _ hall,hlen⟩
theorem post_true (l:OpenLaw) (args:List WData):l.row.toRowW.claim.post args (.bool true) args=true :=
 postW_of (r:=l.row.toRowW) (X:=(true == true))
  (show WShape.has [] (.bool true) .bool=true by first | rfl | decide | simp [WShape.has,WShape.arms,WShape.armsAll])
  (show (WTm.eq .res (.lit (.bool true))).value [] { args:=args,res:=some (.bool true),after:=args }=some (.bool (true == true)) from w_eq_bool (w_res rfl) w_lit) rfl
theorem attach_call {l:OpenLaw}{n:Nat}{q:Program}{loose:List Str}{XP:(Str→Option Value)→Heap→Prop}{YP:World→Heap→Prop}{d:DefRec}
  (hn:l.most=some n) (hdf:d.params.defaults=[])
  (call:∀ (w:World) (s₀ s₁:Shared) (mg mb:Str→Option Value) (fa:Addr) (o:Obj) (pm cd doc:Value) (a:Addr) (vs:List Value) (ns:List Int),
   Ground q loose [] XP w s₀ mg mb s₁.heap→YP w s₁.heap →
   s₁.heap.get? fa=some o→o.data=.func (docDef d.name d.params d.body d.scope pm cd doc)→s₁.heap.CodeRec cd d.name→mg d.name=some (.ref fa) →
   s₁.heap.get? a=some { cls:=.type "list",data:=.seq vs.toArray }→IntsAre vs ns→ns.length≤n→s₁.gens = #[] →
   codeAny (model l.prog w) callerA (.call (.ref fa) ⟨[.ref a],[]⟩) (fun r s'=>r=.ok (.ret (.bool true))∧OldK s₁.heap s'.heap∧s'.os=s₁.os∧AllBare s'.gens) s₁) :
  WalkO q loose XP YP l.row.toRowW d [] (fun f vs=>PySem.call f vs):=by
 intro w s₀ s₁ mg mb G Y fa o pm cd doc dV kV ho hd hcd hD hmg hg args vals as hpre hlay hrd hwl hlo
 obtain rfl:dV=.none:=Dflts.none hD hdf
 obtain rfl:kV=.none:=Dflts.noKw hD
 obtain ⟨a,vs,ns,rfl,rfl,hobj,hints,hlen⟩:=script_of hn hpre hwl
 refine enter_call (codeAny_mono (call w s₀ s₁ mg mb fa o pm cd doc a vs ns G Y ho (fd_plain hd) hcd hmg hobj hints hlen hg) fun r s' hq=>?_)
 obtain ⟨rfl,h2,h3,h4⟩:=hq
 exact ⟨.inl ⟨.bool true,.bool true,[],rfl,fun _=>rfl,.bool true,post_true l _,fun _=>⟨List.Pairwise.nil,fun _ hm=>(nomatch hm)⟩⟩,h2,h3,h4⟩
section
variable {prog:Program}{w:World}{A:Around}{E:Value→Shared→Prop}{s:Shared}{K:Frag}
def ledger (h:Heap) (L d:Addr):List (Addr × Obj):=(List.range h.objs.size).filterMap fun a=>if a=L∨a=d then none else (h.get? a).map fun o=>(a,o)
end
end Att
namespace L2
open PySem PySem.Spec PyProof.Rows
theorem vals_ints:∀ {vs:List Value}{ns:List Int},IntsAre vs ns→Vals (ns.map V.int) vs
 | _,_,.nil=>.nil
 | _,_,.cons n t h=>.cons ⟨t,rfl⟩ (vals_ints h)
def Only (H:Hp):Prop:=∀ b,H b=none∨∃ o xs,H b=some (.frz o (.lst xs))
theorem law_call {P:Program}{w:World}{K:PySem.W.Frag}{mg mb:Str→Option Value}{CX:CXT}{k:Nat}{fa a:Addr}{fd:FuncData}{x:Str}{sp:Sp}{s₁:Shared}{vs:List Value}{ns:List Int}
  (KX:K.In s₁.heap) (hns:s₁.heap.Ns mainGlobals mg) (hb:s₁.heap.Ns builtinsNs mb) (hbb:∀ x:Str,x ≠ "__name__" → mb x=bootBuiltins x) (hlim:s₁.heap.NoLimit) (hg:s₁.gens = #[])
  (ha:s₁.heap.get? a=some { cls:=.type "list",data:=.seq vs.toArray }) (hi:IntsAre vs ns) (hl:ns.length≤sizeLine) (hr:Room k callerA)
  (F:∀ base:Heap,K.In base→base.Ns mainGlobals mg→FnOk P w K mg base CX k fa fd [x] sp) (hbind:∀ (s:Shared) (u:Value),BindsTo s fd ⟨[u],[]⟩ [(x,u)])
  (hsp:∀ H:Hp,Only H→SqL K H a (ns.map V.int)→sp [.ref a] H (fun v _=>v=.bl true) fun _ _ _=>False)
  (hCX:∀ H e s',CX [] H s₁ (fun _ _ _=>False) e s'→False) :
  codeAny (model P w) callerA (.call (.ref fa) ⟨[.ref a],[]⟩) (fun r s'=>r=.ok (.ret (.bool true))∧OldK s₁.heap s'.heap∧s'.os=s₁.os∧AllBare s'.gens) s₁:=by
 have rv:=vals_ints hi
 have lenV:=hi.length
 -- from an abstract heap in which nothing but the script may be tracked
 have core:∀ H:Hp,Only H→SqL K H a (ns.map V.int)→HOk P w H s₁.heap→(∀ b,H b≠none→b=a)→(H a≠none→K.lookup a=none) →
   codeAny (model P w) callerA (.call (.ref fa) ⟨[.ref a],[]⟩) (fun r s'=>r=.ok (.ret (.bool true))∧OldK s₁.heap s'.heap∧s'.os=s₁.os∧AllBare s'.gens) s₁:=by
  intro H hO hS hok hA hK
  have base_of:∀ {b:Addr}{o:Obj},s₁.heap.get? b=some o→H b=none→(hidT s₁.heap H).get? b=some o:=fun e n=>hidT_get e n
  have noA:∀ {b:Addr}{o:Obj}{es:Array DictEntry}{ep:Nat},s₁.heap.get? b=some o→o.data=.dict es ep→H b=none:=fun {b o es ep} e d=>by
   cases q:H b with
   | none=>rfl
   | some u =>
    have e':b=a:=hA b (by rw [q];simp)
    subst e'
    rw [ha] at e;cases e
    have d':Data.seq vs.toArray _=Data.dict es ep:=d
    cases d'
  have nsK:∀ {b:Addr}{m:Str→Option Value},s₁.heap.Ns b m→(hidT s₁.heap H).Ns b m:=fun {b m} ⟨o,es,ep,e,d,r⟩=>⟨o,es,ep,base_of e (noA e d),d,r⟩
  have hKb:K.In (hidT s₁.heap H):=fun b o e=>base_of (KX b o e) (by
   cases q:H b with
   | none=>rfl
   | some u =>
    have e':b=a:=hA b (by rw [q];simp)
    subst e'
    rw [hK (by rw [q];simp)] at e;cases e)
  have hM:Mod K mg (hidT s₁.heap H):=⟨hKb,nsK hns,⟨mb,nsK hb,hbb⟩,let ⟨mc,h1,h2⟩:=hlim;⟨mc,nsK h1,h2⟩⟩
  have e0:Env0 P w K mg (hidT s₁.heap H) callerA [] s₁ H:=⟨rfl,hM,fun b o e=>of_hidT e,Nat.le_of_eq (hidT_size _ _),trivial,fun b hb=>absurd (show b∈([]:List Addr) from hb) (by simp),hok,.of_eq hg⟩
  refine codeAny_mono ((F _ hKb (nsK hns)).run callerA [] s₁ H ⟨[.ref a],[]⟩ [.ref a] [.ref a] _ _ hr e0 (hbind s₁ (.ref a)) (.cons rfl .nil) (hsp H hO hS)) fun r s' h=>?_
  cases r with
  | error e=>exact (hCX H e s' h).elim
  | ok fl =>
   cases fl with
   | next=>exact False.elim h
   | brk=>exact False.elim h
   | cont=>exact False.elim h
   | ret u =>
    obtain ⟨v,H',os,bare,un,hok',r',q⟩:=h
    have q':v=.bl true:=q
    subst q'
    obtain rfl:u=Value.bool true:=r'
    refine ⟨rfl,OldK.of_keep fun b o e=>?_,os,bare⟩
    cases q:H b with
    | none=>exact un.keep b o e q (by intro z;exact absurd (show b∈([]:List Addr) from z) (by simp)) (by simp)
    | some u =>
     rcases hO b with z | ⟨ob,xs,z⟩
     ·rw [q] at z;cases z
     ·have z2:=un.frzs b ob _ z
      obtain ⟨e1,_⟩:=hok b _ z
      obtain ⟨e2,_⟩:=hok' b _ z2
      rw [e] at e1;cases e1
      exact e2
 cases hk:K.lookup a with
 | some o =>
  -- the script is one of the module's own objects
  have e:=KX a o hk
  rw [ha] at e
  cases e
  refine core (fun _=>none) (fun _=>.inl rfl) (.inr ⟨_,vs.toArray,_,hk,rfl,rfl,rfl,by rw [List.size_toArray,lenV];exact hl,by simpa using rv⟩) (fun b u z=>by have z':(none:Option HO)=some u:=z;cases z') (fun b z=>absurd rfl z) fun z=>absurd rfl z
 | none =>
  refine core (fun b=>if b=a then some (.frz { cls:=.type "list",data:=.seq vs.toArray } (.lst (ns.map V.int))) else none) (fun b=>?_) (.inl (.inr ⟨{ cls:=.type "list",data:=.seq vs.toArray },if_pos rfl⟩)) (fun b u z=>?_) (fun b z=>?_) fun _=>hk
  ·by_cases hb:b=a
   ·exact .inr ⟨_,_,if_pos hb⟩
   ·exact .inl (if_neg hb)
  ·by_cases hb:b=a
   ·have z':=(if_pos hb).symm.trans z
    cases z'
    subst hb
    exact ⟨ha,by rw [List.length_map];exact hl,vs,_,rv,ha⟩
   ·have z':=(if_neg hb).symm.trans z
    cases z'
  ·by_cases hb:b=a
   ·exact hb
   ·exact absurd (if_neg hb) z
abbrev KOf {K:PySem.W.Frag}{h:Heap} (_:K.In h):PySem.W.Frag:=K
theorem walk_of {l:PySem.W.OpenLaw}{n k:Nat}{q:Program}{loose:List Str}{XP:(Str→Option Value)→Heap→Prop}{YP:World→Heap→Prop}{d:DefRec}{K:Params→PySem.W.Frag}{CX:World→CXT}{sp:World→Sp}{x:Str}
  (hn:l.most=some n) (hn2:n≤sizeLine) (hdf:d.params.defaults=[]) (hr:Room k callerA)
  (hY:∀ (w:World) (h:Heap),YP w h→(K w.params).In h)
  (F:∀ (w:World) (mg:Str→Option Value) (fa:Addr) (h:Heap),(K w.params).In h→h.Ns mainGlobals mg→mg d.name=some (.ref fa) →
   ∃ fd:FuncData,(∀ (s:Shared) (u:Value),BindsTo s fd ⟨[u],[]⟩ [(x,u)]) ∧
    ∀ base:Heap,(K w.params).In base→base.Ns mainGlobals mg→FnOk l.prog w (K w.params) mg base (CX w) k fa fd [x] (sp w))
  (hsp:∀ (w:World) (H:Hp) (a:Addr) (ns:List Int),ns.length≤n→Only H→SqL (K w.params) H a (ns.map V.int)→sp w [.ref a] H (fun v _=>v=.bl true) fun _ _ _=>False)
  (hCX:∀ (w:World) (H:Hp) (s:Shared) (e:Value) (s':Shared),CX w [] H s (fun _ _ _=>False) e s'→False) :
  PySem.W.WalkO q loose XP YP l.row.toRowW d [] (fun f vs=>PySem.call f vs):=by
 refine Att.attach_call hn hdf fun w s₀ s₁ mg mb fa o pm cd doc a vs ns G Y ho hd hcd hmg hobj hints hlen hg=>?_
 have KX:=hY w _ Y
 obtain ⟨fd,hb,hF⟩:=F w mg fa _ KX G.T.g hmg
 exact law_call KX G.T.g G.T.b G.T.builtins G.T.nolimit hg hobj hints (Nat.le_trans hlen hn2) hr hF hb (fun H hO hS=>hsp w H a ns hlen hO hS) fun H e s'=>hCX w H s₁ e s'
end L2
/- THE LAST THEOREM (shape;LID,My.* are yours):
   My.Adr: a structure of the addresses that your layer names (classes,functions);My.Txt K t: a structure (Prop) of the equations over K;
   My.txt_mk:{K}{implicit addresses ..} (e1:nsIn K mainGlobals "law" = some (some (.ref f))) (e2:K.lookup f=some ⟨oc,od,.func (fnOf "law" "law" params body scope dV kV doc pm an cdv ct),sl⟩) (e3:codeIn K cdv "law" = true) .. : ∃ t,My.Txt K t
set_option maxRecDepth 100000 in
set_option maxHeartbeats 0 in
theorem PySem.Challenge.cw_LID_holds : PySem.Challenge.rw_LID.Holds := by
 w_on;o_law;k_head;(case hw=>w_witness2)
 k_fill
 refine L2.walk_of (l:=PySem.Challenge.rw_LID) (n:=63) (k:=40) (x:="script") (CX:=fun w=>..) (sp:=fun _=>My.sp_law) rfl (by decide) rfl ⟨rfl,by decide,by decide⟩ (fun w h Y=>PySem.W.kIn_of Y) ?F ?S ?C
 case F =>
  intro w mg fa h KX G hmg
  have T:∃ t,My.Txt (L2.KOf KX) t:=by
   dsimp only [L2.KOf]                          -- K must stand as «<heap const> w.params» for k_is
   refine' My.txt_mk ?e1 ?e2 ?e3 ..
   (case e1 => PySem.W.k_is)                    -- in the order: a name -> its address -> its object -> its parts
   (case e2=>PySem.W.k_is)
   ..
  obtain ⟨t,T⟩:=T
  have e0:=hmg.symm.trans (PySem.W.mg_of KX G T.law)
  cases e0                                       -- fa is the law's own address
  exact ⟨_, fun s u => .of_eq rfl, fun base kb nb => My.law_fn T kb nb⟩     -- if «.of_eq rfl» comes too early: refine' ⟨_, ?b, fun base kb nb => My.law_fn T kb nb⟩; exact fun s u => .of_eq rfl
 case S=>exact fun w H a ns hl hO hS=>..
 case C=>exact ..
(the tactic k_is has no namespace: write k_is) -/
namespace L2
open PySem PySem.Spec PyProof.Rows
def inClass (s:Stmt) (j:Nat):Stmt:=match s with
 | .ClassDef _ _ _ body _ _ _ _ _ _ _=>body.getD j (.Pass ⟨0,0,0,0⟩)
 | _=>.Pass ⟨0,0,0,0⟩
def defArgs (s:Stmt):Arguments:=match s with
 | .FunctionDef _ a _ _ _ _ _ _ _ _=>a
 | _=>{ posonlyargs:=[],args:=[],vararg:=none,kwonlyargs:=[],kw_defaults:=[],kwarg:=none,defaults:=[] }
def defBody (s:Stmt):List Stmt:=match s with
 | .FunctionDef _ _ b _ _ _ _ _ _ _=>b
 | _=>[]
def defScope (s:Stmt):Scope:=match s with
 | .FunctionDef _ _ _ _ _ _ sc _ _ _=>sc
 | _=>{ kind:=.function,names:=[],isGenerator:=false,isCoroutine:=false }
abbrev CX0:CXT:=fun _ _ _ _ _ _=>False
abbrev E0:XK:=fun _ _ _=>False
theorem pass0 {X:Cx}:Passes CX0 X E0:=fun _ _ _ _ _ _ _ h=>h.elim
structure Fun (K:PySem.W.Frag) (x qual:Str) (st:Stmt) (f:Addr) (fd:FuncData):Prop where
 ex:∃ (oc:Value) (od:Option Addr) (kV doc pm:Value) (an:Option Addr) (cdv ct:Value) (osl:Array (Option Value)),
  fd=PySem.W.fnOf x qual (defArgs st) (defBody st) (defScope st) .none kV doc pm an cdv ct∧K.lookup f=some ⟨oc,od,.func fd,osl⟩∧PySem.W.codeIn K cdv qual=true
 kp:PySem.W.keepIn K (.ref f)=true
section
variable {P:Program}{w:World}{K:PySem.W.Frag}{mg:Str→Option Value}{base:Heap}
theorem Fun.ok {x qual:Str}{st:Stmt}{f:Addr}{fd:FuncData}{N ps:List Str}{k:Nat}{sp:Sp} (F:Fun K x qual st f fd) (S:FnScope N ps (defScope st)) (len:∀ vs H Q E,sp vs H Q E→vs.length=ps.length)
  (hbody:∀ (cdv:Value) (A:Around) (outer:List Env) (s:Shared) (H:Hp) (vs:List V) (Q:VK) (E:XK),Room k (A.deeper (envOfC qual (defScope st) s.heap.objs.size f cdv))→sp vs H Q E →
   ∃ t,PSs (cxOf CX0 P w K mg base N qual (defScope st) f cdv A outer s H E).nox (defBody st) t∧t { nx:=fun _ H'=>Q .non H',rt:=Q } (start N vs) H):FnOk P w K mg base CX0 (k+1) f fd ps sp:=by
 obtain ⟨oc,od,kV,doc,pm,an,cdv,ct,osl,rfl,lk,hcd⟩:=F.ex
 refine fn_of lk hcd S len fun A outer s H vs Q E hr hsp=>?_
 obtain ⟨t,h,q⟩:=hbody cdv A outer s H vs Q E hr hsp
 exact ⟨t,h.nox,q⟩
theorem Fun.binds {x qual:Str}{st:Stmt}{f:Addr}{fd:FuncData}{ps:List Str} (F:Fun K x qual st f fd)
  (h:∀ (kV doc pm:Value) (an:Option Addr) (cdv ct:Value) (us:List Value),us.length=ps.length→bindArgs (PySem.W.fnOf x qual (defArgs st) (defBody st) (defScope st) .none kV doc pm an cdv ct) ⟨us,[]⟩=pure (ps.zip us)):Binds K fd ps []:=by
 obtain ⟨oc,od,kV,doc,pm,an,cdv,ct,osl,rfl,lk,hcd⟩:=F.ex
 exact .all (h kV doc pm an cdv ct)
theorem fun_mk {x qual:Str}{st:Stmt}{f:Addr}{oc:Value}{od an:Option Addr}{osl:Array (Option Value)}{kV doc pm cdv ct:Value} (l:K.lookup f=some ⟨oc,od,.func (PySem.W.fnOf x qual (defArgs st) (defBody st) (defScope st) .none kV doc pm an cdv ct),osl⟩)
  (c:PySem.W.codeIn K cdv qual=true) (k:PySem.W.keepIn K (.ref f)=true):Fun K x qual st f (PySem.W.fnOf x qual (defArgs st) (defBody st) (defScope st) .none kV doc pm an cdv ct):=⟨⟨oc,od,kV,doc,pm,an,cdv,ct,osl,rfl,l,c⟩,k⟩
end
theorem hu_of {A:Around}{k:Nat} (hr:Room k A):A.units+1<cLine:=Nat.lt_of_le_of_lt (Nat.add_le_add_left (by decide:1≤64) _) hr.units
section
variable {X:Cx}
theorem call_lenD:CallR X (.builtin "len") (fun xs H Q=>∃ a kvs,xs=[V.ref a]∧H a=some (.dK kvs)∧Q (.int kvs.length) H):=by
 intro pins s σ H xs us Q I r h
 obtain ⟨a,kvs,rfl,ha,q⟩:=h
 obtain ⟨u,rfl,ru⟩:=vals1 r
 cases ru
 exact d_len I (.inl ha) fun t s' I'=>⟨.int kvs.length,H,I',⟨t,rfl⟩,q⟩
end
def Same (H H':Hp):Prop:=∀ b o,H b=some o→H' b=some o
theorem Same.refl (H:Hp):Same H H:=fun _ _ h=>h
theorem Same.trans {H H1 H2:Hp} (a:Same H H1) (b:Same H1 H2):Same H H2:=fun c o h=>b c o (a c o h)
theorem Same.free {H H':Hp} (e:Same H H') {l:Addr} (h:H' l=Option.none):H l=Option.none:=by
 cases q:H l with
 | none=>rfl
 | some o =>
  rw [e l o q] at h
  cases h
theorem Same.seq {K:PySem.W.Frag}{H H':Hp}{a:Addr}{xs:List V} (e:Same H H') (h:SqL K H a xs):SqL K H' a xs:=by
 rcases h with (h | ⟨o,h⟩) | h
 ·exact .inl (.inl (e _ _ h))
 ·exact .inl (.inr ⟨o,e _ _ h⟩)
 ·exact .inr h
section
variable {κ:Type} [DecidableEq κ]
end
def clOf (env:Env):List (Str × NameKind)→List (Str × Addr)→List (Str × Addr)
 | [],acc=>acc
 | (n,k) :: r,acc=>if (k == NameKind.free)=true then clOf env r ((n,(env.cells.lookup n).getD 0) :: acc) else clOf env r acc
theorem cellOf_eq {env:Env}{n:Str}{c:Addr} (h:env.cells.lookup n=some c):cellOf env n=pure c:=by
 unfold cellOf
 rw [h]
theorem closure_go {env:Env}:∀ (names:List (Str × NameKind)) (acc:List (Str × Addr)),(∀ x∈names,x.2=.free→∃ c,env.cells.lookup x.1=some c) →
  (forIn names acc fun (x:Str × NameKind) (cs:List (Str × Addr))=>(match x with | (name,kind)=>if (kind == NameKind.free)=true then (do let __do_lift ← cellOf env name;pure PUnit.unit;pure (ForInStep.yield ((name,__do_lift) :: cs)):Sem _) else (do pure PUnit.unit;pure (ForInStep.yield cs)):Sem (ForInStep (List (Str × Addr)))))=pure (clOf env names acc)
 | [],acc,_=>rfl
 | (n,k) :: r,acc,h=>by
  have ih:=fun a=>closure_go r a fun x hx=>h x (List.mem_cons_of_mem _ hx)
  rw [List.forIn_cons]
  by_cases hk:(k == NameKind.free)=true
  ·obtain ⟨c,hc⟩:=h (n,k) List.mem_cons_self (by simpa using hk)
   simp only [hk,if_true,clOf,cellOf_eq hc,hc,Option.getD_some,pure_bind]
   exact ih _
  ·simp only [hk,if_false,clOf,pure_bind]
   exact ih _
theorem closure_of {scope:Scope}{env:Env} (h:∀ x∈scope.names,x.2=.free→∃ c,env.cells.lookup x.1=some c):closureFor scope env=pure (clOf env scope.names []):=by
 unfold closureFor
 have q:=closure_go scope.names [] h
 exact (congrArg (fun m=>m >>= pure) q).trans (pure_bind _ _)
theorem clOf_sub {env:Env}:∀ (names:List (Str × NameKind)) (acc:List (Str × Addr)),(∀ x∈names,x.2=.free→∃ c,env.cells.lookup x.1=some c)→(∀ p∈acc,env.cells.lookup p.1=some p.2) →
  ∀ p∈clOf env names acc,env.cells.lookup p.1=some p.2
 | [],acc,_,ha=>ha
 | (n,k) :: r,acc,h,ha=>by
  by_cases hk:(k == NameKind.free)=true
  ·obtain ⟨c,hc⟩:=h (n,k) List.mem_cons_self (by simpa using hk)
   simp only [clOf,hk,if_true]
   refine clOf_sub r _ (fun x hx=>h x (List.mem_cons_of_mem _ hx)) fun p hp=>?_
   rcases List.mem_cons.mp hp with rfl | hp
   ·show env.cells.lookup n=some _
    rw [hc];rfl
   ·exact ha p hp
  ·simp only [clOf,hk,if_false]
   exact clOf_sub r _ (fun x hx=>h x (List.mem_cons_of_mem _ hx)) ha
theorem clOf_acc {env:Env}:∀ (names:List (Str × NameKind)) (acc:List (Str × Addr)) (p:Str × Addr),p∈acc→p∈clOf env names acc
 | [],_,_,h=>h
 | (n,k) :: r,acc,p,h=>by
  by_cases hk:(k == NameKind.free)=true
  ·simp only [clOf,hk,if_true]
   exact clOf_acc r _ p (List.mem_cons_of_mem _ h)
  ·simp only [clOf,hk,if_false]
   exact clOf_acc r _ p h
theorem clOf_has {env:Env}:∀ (names:List (Str × NameKind)) (acc:List (Str × Addr)) (x:Str),(x,NameKind.free)∈names→∃ c,(x,c)∈clOf env names acc
 | (n,k) :: r,acc,x,h=>by
  rcases List.mem_cons.mp h with e | h
  ·injection e with e1 e2
   subst e1;subst e2
   simp only [clOf,beq_self_eq_true,if_true]
   exact ⟨_,clOf_acc r _ _ List.mem_cons_self⟩
  ·by_cases hk:(k == NameKind.free)=true
   ·simp only [clOf,hk,if_true]
    exact clOf_has r _ x h
   ·simp only [clOf,hk,if_false]
    exact clOf_has r _ x h
theorem lookup_some_of_mem:∀ {l:List (Str × Addr)}{x:Str}{c:Addr},(x,c)∈l→∃ d,l.lookup x=some d
 | (n,d) :: r,x,c,h=>by
  by_cases e:x == n
  ·exact ⟨d,by simp [List.lookup_cons,e]⟩
  ·rcases List.mem_cons.mp h with q | q
   ·injection q with q1 _
    subst q1
    simp at e
   ·obtain ⟨d',hd⟩:=lookup_some_of_mem q
    exact ⟨d',by simp [List.lookup_cons,e,hd]⟩
theorem relabel_look {env:Env}:∀ {names:List (Str × NameKind)}{x:Str}{k:NameKind},
  (names.map fun (n,k)=>if (k == NameKind.free && env.scope.kind == .function && env.kindOf n == some .cell) then (n,NameKind.cell) else (n,k)).lookup x=some k →
  ∃ k',names.lookup x=some k'∧(k=k'∨k'=.free)
 | [],_,_,h=>by simp at h
 | (n,j) :: r,x,k,h=>by
  have ih:=@relabel_look env r x k
  by_cases hc:(j == NameKind.free && env.scope.kind == .function && env.kindOf n == some .cell)=true
  ·simp only [List.map_cons,hc,if_true,List.lookup_cons] at h ⊢
   cases e:x == n with
   | true =>
    rw [e] at h
    refine ⟨j,rfl,.inr ?_⟩
    simp only [Bool.and_eq_true,beq_iff_eq] at hc
    exact hc.1.1
   | false =>
    rw [e] at h
    exact ih h
  ·rw [List.map_cons] at h
   dsimp only at h
   rw [if_neg hc,List.lookup_cons] at h
   rw [List.lookup_cons]
   cases e:x == n with
   | true =>
    rw [e] at h
    exact ⟨j,rfl,.inl (by injection h with h;exact h.symm)⟩
   | false =>
    rw [e] at h
    exact ih h
theorem relabel_free {env:Env}:∀ {names:List (Str × NameKind)}{x:Str},names.lookup x=some .free →
  (names.map fun (n,k)=>if (k == NameKind.free && env.scope.kind == .function && env.kindOf n == some .cell) then (n,NameKind.cell) else (n,k)).lookup x=some .cell ∨
  (names.map fun (n,k)=>if (k == NameKind.free && env.scope.kind == .function && env.kindOf n == some .cell) then (n,NameKind.cell) else (n,k)).lookup x=some .free
 | [],_,h=>by simp at h
 | (n,j) :: r,x,h=>by
  have ih:=@relabel_free env r x
  cases e:x == n with
  | true =>
   rw [List.lookup_cons,e] at h
   injection h with h
   subst h
   rw [List.map_cons]
   dsimp only
   split
   ·exact .inl (by simp [List.lookup_cons,e])
   ·exact .inr (by simp [List.lookup_cons,e])
  | false =>
   rw [List.lookup_cons,e] at h
   rcases ih h with q | q
   ·left
    rw [List.map_cons]
    dsimp only
    split <;> simp only [List.lookup_cons,e] <;> exact q
   ·right
    rw [List.map_cons]
    dsimp only
    split <;> simp only [List.lookup_cons,e] <;> exact q
def ccx (X:Cx) (scope:Scope) (N:List Str) (C:Addr) (s:Shared) (H:Hp) (fp:List Addr):Cx :=
 { X with N:=N,s₀:=s,H₀:=H,env:=compEnvC scope (clOf X.env scope.names []) C X.env,outer:=X.stack,stack:=X.stack,ex:=fp,fn:=fun _=>false,pn:=[],xe:=fun _ _=>False }
structure CScope (X:Cx) (scope:Scope):Prop where
 kind:scope.kind=.function
 nocell:∀ y∈scope.names,y.2≠.cell
 names:∀ y∈scope.names,y.2=.local→scope.names.lookup y.1=some .local
 free:∀ y∈scope.names,y.2=.free→X.env.kindOf y.1=some .cell∨X.env.kindOf y.1=some .free
section
variable {X:Cx}{pins:List (Addr × Obj)}{σ:St}{H:Hp}{s:Shared}
theorem CScope.has {scope:Scope} (S:CScope X scope) (ok:X.Ok):∀ x∈scope.names,x.2=.free→∃ c,X.env.cells.lookup x.1=some c:=fun x hx h=>ok.has _ (S.free x hx h)
theorem cl_sub {scope:Scope} (S:CScope X scope) (ok:X.Ok) {x:Str}{c:Addr} (h:(clOf X.env scope.names []).lookup x=some c):X.env.cells.lookup x=some c :=
 clOf_sub scope.names [] (S.has ok) (fun p hp=>absurd hp (by simp)) (x,c) (PySem.mem_of_lookup h)
theorem cl_free {scope:Scope} (S:CScope X scope) (ok:X.Ok) {x:Str} (h:scope.names.lookup x=some .free):∃ c,(clOf X.env scope.names []).lookup x=some c∧X.env.cells.lookup x=some c:=by
 obtain ⟨c,hc⟩:=clOf_has (env:=X.env) scope.names [] x (PySem.mem_of_lookup h)
 obtain ⟨d,hd⟩:=lookup_some_of_mem hc
 exact ⟨d,hd,cl_sub S ok hd⟩
structure CNames (X:Cx) (scope:Scope) (N:List Str) (k:Nat) (sel:List Nat):Prop where
 len:N.length=k+sel.length
 fr:∀ (i j:Nat) (x:Str),sel[i]? = some j→N[k+i]? = some x→X.N[j]? = some x∧scope.names.lookup x=some .free
def cst (σ:St) (k:Nat) (sel:List Nat):St:=List.replicate k none ++ sel.map fun j=>(σ[j]?).join
theorem cst_len {k:Nat}{sel:List Nat}:(cst σ k sel).length=k+sel.length:=by
 unfold cst;rw [List.length_append,List.length_replicate,List.length_map]
theorem ccx_ok {scope:Scope}{N:List Str}{fp:List Addr} (S:CScope X scope) (I:Inv X pins σ H s) (hf:∀ b∈fp,FpOk X pins H b) (hlt:∀ b∈fp,b<s.heap.objs.size):(ccx X scope N s.heap.objs.size s H fp).Ok where
 mod:=I.ok.mod
 kind:=S.kind
 glob:=I.ok.glob
 blt:=I.ok.blt
 above:=Nat.le_refl _
 inj:=fun x y c h1 h2=>I.ok.inj x y c (cl_sub S I.ok h1) (cl_sub S I.ok h2)
 has:=fun x h=>by
  have h':(relabel scope X.env).names.lookup x=some .cell∨(relabel scope X.env).names.lookup x=some .free:=h
  rcases h' with h' | h'
  ·obtain ⟨k',e,q⟩:=relabel_look h'
   rcases q with q | q
   ·subst q
    exact absurd rfl (S.nocell _ (PySem.mem_of_lookup e))
   ·subst q
    obtain ⟨c,hc,_⟩:=cl_free S I.ok e
    exact ⟨c,hc⟩
  ·obtain ⟨k',e,q⟩:=relabel_look h'
   have:k'=.free:=by rcases q with q | q;exact q.symm;exact q
   subst this
   obtain ⟨c,hc,_⟩:=cl_free S I.ok e
   exact ⟨c,hc⟩
 cab:=fun x c h=>absurd (show false=true from h) (by simp)
 hd:=I.ok.hd
 frames:=I.ok.frames
 stk:=.inl rfl
 exf:=fun b hb=>⟨Nat.ne_of_lt (hlt b hb),fun x c h=>(hf b hb).2.2.2.2.1 x c (cl_sub S I.ok h)⟩
 bs:=I.bs
 bsz:=Nat.le_trans I.ok.bsz I.sz
 noex:=fun b o e hb=>by
  rcases (hf b hb).2.2.2.1 with z | z
  ·exact I.ok.noex b o e z
  ·exact absurd (Nat.lt_of_lt_of_le (Heap.lt_size e) (Nat.le_trans I.ok.bsz z)) (Nat.lt_irrefl _)
 exfs:=fun b hb z=>by
  rcases List.mem_cons.mp (I.stkSub b z) with q | q
  ·exact (hf b hb).2.1 q
  ·exact (hf b hb).2.2.1 q
 funs:=I.stack
 frf:=I.stkFree
theorem ccx_inv {scope:Scope}{N:List Str}{fp:List Addr}{k:Nat}{sel:List Nat}{h₁:Heap}{m:Str→Option Value}{t':Nat} (S:CScope X scope) (M:CNames X scope N k sel) (I:Inv X pins σ H s) (hf:∀ b∈fp,FpOk X pins H b) (hlt:∀ b∈fp,b<s.heap.objs.size)
  (hn:h₁.Ns s.heap.objs.size m) (hk:∀ b o,s.heap.get? b=some o→h₁.get? b=some o):Inv (ccx X scope N s.heap.objs.size s H fp) [] (cst σ k sel) H { s with heap:=h₁,toks:=t' }:=by
 refine ⟨ccx_ok S I hf hlt,rfl,I.bare,Un.kept hk,⟨m,hn,fun i x v e1 e2 e3=>?_⟩,fun x c e=>?_,I.hok.fresh (Nat.le_refl _),fun x c e=>I.freeC x c (cl_sub S I.ok e),fun p hp=>absurd (show p∈([]:List (Addr × Obj)) from hp) (by simp),I.hok.kept hk,?_⟩
 ·have hi:k≤i:=by
   by_cases hi:k≤i
   ·exact hi
   ·unfold cst at e2
    rw [List.getElem?_append_left (by simp;omega),List.getElem?_replicate] at e2
    split at e2 <;> cases e2
  obtain ⟨d,rfl⟩:∃ d,i=k+d:=⟨i - k,by omega⟩
  unfold cst at e2
  rw [List.getElem?_append_right (by simp),List.length_replicate,Nat.add_sub_cancel_left,List.getElem?_map] at e2
  cases ej:sel[d]? with
  | none=>rw [ej] at e2;cases e2
  | some j =>
   rw [ej] at e2
   have e2':(σ[j]?).join=some v:=Option.some.inj e2
   have e4:σ[j]? = some (some v):=by
    cases q:σ[j]? with
    | none=>rw [q] at e2';cases e2'
    | some o=>rw [q] at e2';cases o with
     | none=>cases e2'
     | some w=>cases e2';rfl
   obtain ⟨hN,hfr⟩:=M.fr d j x ej e1
   obtain ⟨mo,hno,hlo⟩:=I.loc
   have hkind:=S.free _ (PySem.mem_of_lookup hfr) rfl
   obtain ⟨u,ru,lu⟩:=hlo j x v hN e4 (by rcases hkind with q | q;exact .inr (.inl q);exact .inr (.inr q))
   obtain ⟨c,hc,hc'⟩:=cl_free S I.ok hfr
   refine ⟨u,ru,.inr ⟨?_,c,hc,?_⟩⟩
   ·exact relabel_free hfr
   ·rcases lu with ⟨kl,_⟩ | ⟨_,c',e5,z⟩
    ·rcases hkind with q | q
     ·rw [kl] at q;cases q
     ·rw [kl] at q;cases q
    ·rw [hc'] at e5;cases e5
     obtain ⟨o,ho,hd⟩:=z
     exact ⟨o,hk _ _ ho,hd⟩
 ·obtain ⟨v,o,ho,hd⟩:=I.cell x c (cl_sub S I.ok e)
  exact ⟨v,o,hk _ _ ho,hd⟩
 ·rw [cst_len];exact M.len.symm
end
def PTs (X:Cx) (ifs:List Expr) (t:TT):Prop :=
 ∀ (pins:List (Addr × Obj)) (s:Shared) (σ:St) (H:Hp) (Q:Bool→Hp→Prop),Inv X pins σ H s→t σ H Q →
  wpAny (model X.prog X.w) X.A (forIn ifs true fun c r=>if r=true then do let ok ← isTrue c X.env (eval c X.env);pure (ForInStep.yield ok) else pure (ForInStep.yield r)) (TP X pins σ Q) X.xe s
def tTrue:TT:=fun _ H Q=>Q true H
theorem pts_nil {X:Cx}:PTs X [] tTrue:=fun pins s σ H Q I h=>wpAny_tests_nil ⟨H,I,h⟩
def tComp (wi:TI) (k:Nat) (sel:List Nat) (g:TG) (tt:TT) (te:TE):TE:=fun σ H Q=>wi σ H fun J H1=>∀ p,H1 p=none →
 ∃ W:Nat→Nat→St→Hp→Prop,(∃ m,W 0 m (cst σ k sel) (upd H1 p (.lst [])))∧∀ i m σ2 H2,W i m σ2 H2 →
  (J.stop i H2∧Q (.ref p) H2)∨(J.go i H2∧∀ x H3,J.yld i H2 x H3→g x σ2 H3 fun σ4 H4=>tt σ4 H4 fun b H5 =>
   if b=true then te σ4 H5 fun v H6=>∃ ys,H6 p=some (.lst ys)∧ys.length<sizeLine∧∃ m',m'<m∧W (i+1) m' σ4 (upd H6 p (.lst (ys ++ [v]))) else ∃ m',m'<m∧W (i+1) m' σ4 H5)
theorem comp_loop {X:Cx}{elt tg iter:Expr}{ifs:List Expr}{scope:Scope}{pos:Pos}{it D:Addr}{fp:List Addr}{tn:Nat→Heap→Prop}{J:It}{g:TG}{tt:TT}{te:TE}{W:Nat→Nat→St→Hp→Prop}{R:Result→Shared→Prop}{QQ:Hp→Prop}
  (hx:X.xe=fun _ _=>False) (hc:X.calm=true) (T:Turn X.prog X.w X.K tg J fp it tn) (hg:PG X tg g) (ht:PTs X ifs tt) (he:PE X elt te)
  (hfp:∀ b∈fp,b≠X.env.locals∧b ∉ X.fs∧(b∈X.ex∨X.s₀.heap.objs.size≤b)∧(∀ x c,X.env.cells.lookup x=some c→c≠b)∧∀ p∈X.pn ++ [],p.1≠b)
  (turn:∀ i m σ2 H2,W i m σ2 H2 →
   (J.stop i H2∧QQ H2)∨(J.go i H2∧∀ x H3,J.yld i H2 x H3→g x σ2 H3 fun σ4 H4=>tt σ4 H4 fun b H5 =>
    if b=true then te σ4 H5 fun v H6=>∃ ys,H6 D=some (.lst ys)∧ys.length<sizeLine∧∃ m',m'<m∧W (i+1) m' σ4 (upd H6 D (.lst (ys ++ [v]))) else ∃ m',m'<m∧W (i+1) m' σ4 H5))
  (hR:∀ s' σ' H',Inv X [] σ' H' s'→QQ H'→R (.ok .next) s') {s:Shared} (m0:Nat) (h:∃ i σ' H',Inv X [] σ' H' s∧tn i s.heap∧(∀ b∈fp,H' b=none)∧W i m0 σ' H') :
  codeAny (model X.prog X.w) X.A (.compLoop (.ListComp elt [⟨tg,iter,ifs,0⟩] scope pos) 0 (.ref it) (.ref D) X.env) R s:=by
 have stat:∀ {H':Hp},(∀ b∈fp,H' b=none)→∀ b∈fp,FpOk X [] H' b:=fun hn b hb=>⟨hn b hb,hfp b hb⟩
 have noE:∀ {α:Type}{t:Sem α}{Q:α→Shared→Prop}{E:Value→Shared→Prop}{s:Shared},wpAny (model X.prog X.w) X.A t Q X.xe s→wpAny (model X.prog X.w) X.A t Q E s:=fun {α t Q E s} h=>by
  rw [hx] at h
  exact wpAny_noRaise h
 refine codeAny_loop rfl (fun n s'=>∃ i σ' H',Inv X [] σ' H' s'∧tn i s'.heap∧(∀ b∈fp,H' b=none)∧W i n σ' H') (fun n s3 hI=>?_) m0 h
 obtain ⟨i,σ3,H3,I3,st3,fr3,w3⟩:=hI
 show wpAny _ X.A ((compTurn (.ListComp elt [⟨tg,iter,ifs,0⟩] scope pos) 0 (.ref it) (.ref D) X.env).onRaise (fun x=>do noteFrame x X.env;theTreesLotGoes x)) _ _ s3
 refine wpAny_noted ?_
 rw [compTurn_list]
 rcases turn i n σ3 H3 w3 with ⟨stop,qn⟩ | ⟨go,step⟩
 ·refine wpAny_bind (wpAny_standAt (wpAny_bind (thn (noE (T.done X rfl rfl rfl hc i [] s3 σ3 H3 X.xe I3 (stat fr3) st3 stop)) fun r s4 ⟨hr,I4⟩=>?_)))
  subst hr
  exact wpAny_pure (hR s4 σ3 H3 I4 qn)
 ·refine wpAny_bind (wpAny_standAt (wpAny_bind (thn (noE (T.item X rfl rfl rfl hc i [] s3 σ3 H3 X.xe I3 (stat fr3) st3 go)) fun r s4 ⟨u,hr,h4⟩=>?_)))
  subst hr
  refine wpAny_bind (thn (noE h4) fun _ s5 ⟨x,H5,I5,r5,y5,st5,fr5⟩=>?_)
  have I5':=I5.pinned (stat fr5) (T.obj _ _ st5)
  refine wpAny_bind (thn (noE (hg _ s5 σ3 H5 x u _ I5' r5 (step x H5 y5))) fun _ s6 ⟨σ6,H6,I6,q6⟩=>?_)
  refine wpAny_bind (thn (noE (ht _ s6 σ6 H6 _ I6 q6)) fun ok s7 ⟨H7,I7,q7⟩=>?_)
  have again:∀ {s8:Shared}{H8:Hp},Inv X ([] ++ pinsAt fp s5.heap) σ6 H8 s8→(∃ m',m'<n∧W (i+1) m' σ6 H8)→∃ m,m<n∧∃ i σ' H',Inv X [] σ' H' s8∧tn i s8.heap∧(∀ b∈fp,H' b=none)∧W i m σ' H':=fun {s8 H8} I8 n8=>by
   obtain ⟨m',hm,w8⟩:=n8
   refine ⟨m',hm,i+1,σ6,H8,I8.unpinned,T.keep _ _ _ st5 fun b hb o e=>(I8.pin (b,o) (List.mem_append_right _ (List.mem_append_right _ (mem_pinsAt hb e)))).1,fun b hb=>?_,w8⟩
   obtain ⟨o,e,d⟩:=T.obj _ _ st5 b hb
   exact (I8.pin (b,o) (List.mem_append_right _ (List.mem_append_right _ (mem_pinsAt hb e)))).2.1
  cases ok with
  | false=>exact wpAny_pure ⟨rfl,again I7 q7⟩
  | true =>
   refine wpAny_bind (wpAny_bind (thn (noE (he _ s7 σ6 H7 _ I7 q7)) fun y s8 ⟨v,H8,I8,r8,ys,hys,hl,q8⟩=>?_))
   refine wpAny_bind (thn (noE (mt_append _ s8 σ6 H8 (.ref D) [v] (.ref D) [y] (fun _ H9=>∃ m',m'<n∧W (i+1) m' σ6 H9) I8 rfl (.cons r8 .nil) ⟨D,ys,v,rfl,rfl,hys,hl,q8⟩)) fun _ s9 ⟨_,H9,I9,_,q9⟩=>?_)
   exact wpAny_pure (wpAny_pure ⟨rfl,again I9 q9⟩)
structure CFree (X:Cx) (pins:List (Addr × Obj)) (H:Hp) (C:Addr) (s:Shared):Prop where
 none:H C=Option.none
 ne:C≠X.env.locals
 above:X.s₀.heap.objs.size≤C
 cells:∀ x c,X.env.cells.lookup x=some c→c≠C
 pins:∀ p∈X.pn ++ pins,p.1≠C
 ns:∃ m,s.heap.Ns C m
theorem comp_block {X:Cx}{pins:List (Addr × Obj)}{σ:St}{elt tg iter:Expr}{ifs:List Expr}{scope:Scope}{pos:Pos}{N:List Str}{k:Nat}{sel:List Nat}{g:TG}{tt:TT}{te:TE}{itv:Value}{s2:Shared}{QQ:VK}{use:Option (Value→Sem Unit)}{Qv:Value→Shared→Prop}
  (S:CScope X scope) (M:CNames X scope N k sel) (hc:X.calm=true)
  (hg:∀ C s H fp,PG (ccx X scope N C s H fp) tg g) (ht:∀ C s H fp,PTs (ccx X scope N C s H fp) ifs tt) (he:∀ C s H fp,PE (ccx X scope N C s H fp) elt te)
  (fin:∀ D C s' H',Inv X pins σ H' s'→CFree X pins H' C s'→QQ (.ref D) H'→compPost (model X.prog X.w) X.A X.xe use Qv (.ref D) C (.ok .next) s')
  (h2:PIE X pins σ tg (fun J H1=>∀ p,H1 p=none→∃ W:Nat→Nat→St→Hp→Prop,(∃ m,W 0 m (cst σ k sel) (upd H1 p (.lst [])))∧∀ i m σ2 H2,W i m σ2 H2 →
   (J.stop i H2∧QQ (.ref p) H2)∨(J.go i H2∧∀ x H3,J.yld i H2 x H3→g x σ2 H3 fun σ4 H4=>tt σ4 H4 fun b H5 =>
    if b=true then te σ4 H5 fun v H6=>∃ ys,H6 p=some (.lst ys)∧ys.length<sizeLine∧∃ m',m'<m∧W (i+1) m' σ4 (upd H6 p (.lst (ys ++ [v]))) else ∃ m',m'<m∧W (i+1) m' σ4 H5)) itv s2) :
  wpAny (model X.prog X.w) X.A (newList []) (fun acc s₃=>wpAny (model X.prog X.w) X.A (newFunctionEnv scope X.env.globals (clOf X.env scope.names []) [] X.env.qual none .none (some X.env)) (fun cenv s₄ =>
   codeAny (model X.prog X.w) X.A (.compStart (.ListComp elt [⟨tg,iter,ifs,0⟩] scope pos) 0 itv acc { cenv with scope:=relabel scope X.env }) (compPost (model X.prog X.w) X.A X.xe use Qv acc cenv.locals) s₄) X.xe s₃) X.xe s2:=by
 obtain ⟨it,fp,tn,J,H2,rfl,I2,T,st2,f2,R2⟩:=h2
 have hD:H2 s2.heap.objs.size=none:=I2.hok.fresh (Nat.le_refl _)
 obtain ⟨W,⟨m0,w0⟩,turn⟩:=R2 _ hD
 refine wpAny_newObj_type ?_
 have I3:=I2.lnew (its:=[]) (ys:=[]) (t':=s2.toks) .nil (Nat.zero_le _)
 generalize hs3:({ s2 with heap:=s2.heap.push { cls:=.type "list",data:=.seq ([]:List Value).toArray },toks:=s2.toks }:Shared)=s3 at I3
 have e3:({ s2 with heap:=s2.heap.push { cls:=.type "list",dict:=none,data:=.seq ([]:List Value).toArray } }:Shared)=s3:=by rw [← hs3]
 have up:∀ b o,s2.heap.get? b=some o→s3.heap.get? b=some o:=fun b o e=>by rw [← hs3];exact Heap.get?_push_of_some _ e
 have hsz:s2.heap.objs.size≤s3.heap.objs.size:=by rw [← hs3];show _≤(s2.heap.push _).objs.size;rw [Heap.size_push];exact Nat.le_succ _
 have hlt2:∀ b∈fp,b<s2.heap.objs.size:=fun b hb=>by
  obtain ⟨o,e,_⟩:=T.obj _ _ st2 b hb
  exact Heap.lt_size e
 have hlt:∀ b∈fp,b<s3.heap.objs.size:=fun b hb=>Nat.lt_of_lt_of_le (hlt2 b hb) hsz
 have f3:∀ b∈fp,FpOk X pins (upd H2 s2.heap.objs.size (.lst [])) b:=fun b hb=>⟨by rw [upd_ne (Nat.ne_of_lt (hlt2 b hb))];exact (f2 b hb).1,(f2 b hb).2⟩
 refine wpAny_newFunctionEnv S.nocell (by intro y hy;simp at hy) (fun h₁ hns₁ hsb₁=>?_) S.kind
 have up₁:∀ b o,s3.heap.get? b=some o→h₁.get? b=some o:=fun b o e=>hsb₁.extBut b o (Nat.ne_of_lt (Heap.lt_size e)) (Heap.get?_push_of_some _ e)
 have Ic:=ccx_inv (N:=N) (k:=k) (sel:=sel) (t':=s3.toks+([]:List (Str × Value)).length) S M I3 f3 hlt hns₁ up₁
 have st₁:tn 0 h₁:=T.keep _ _ _ st2 fun b hb o e=>up₁ b o (up b o e)
 have fr:∀ b∈fp,(upd H2 s2.heap.objs.size (.lst [])) b=none:=fun b hb=>(f3 b hb).1
 have loop:codeAny (model X.prog X.w) X.A (.compLoop (.ListComp elt [⟨tg,iter,ifs,0⟩] scope pos) 0 (.ref it) (.ref s2.heap.objs.size) (compEnvC scope (clOf X.env scope.names []) s3.heap.objs.size X.env))
   (compPost (model X.prog X.w) X.A X.xe use Qv (.ref s2.heap.objs.size) s3.heap.objs.size) { s3 with heap:=h₁,toks:=s3.toks+([]:List (Str × Value)).length }:=by
  refine comp_loop (X:=ccx X scope N s3.heap.objs.size s3 (upd H2 s2.heap.objs.size (.lst [])) fp) (QQ:=fun H'=>QQ (.ref s2.heap.objs.size) H') (W:=W) rfl hc T (hg _ _ _ _) (ht _ _ _ _) (he _ _ _ _) (fun b hb=>?_) turn (fun s' σ' H' I' q'=>?_) m0 ⟨0,cst σ k sel,_,Ic,st₁,fr,w0⟩
  ·refine ⟨Nat.ne_of_lt (hlt b hb),?_,.inl hb,fun x c h=>(f3 b hb).2.2.2.2.1 x c (cl_sub S I3.ok h),fun p hp=>absurd (show p∈([]:List (Addr × Obj)) from hp) (by simp)⟩
   exact (ccx_ok (N:=N) S I3 f3 hlt).exfs b hb
  ·have Ie:Inv X pins σ H' s':=I3.call' (ch:=fp) I'.os I'.base I'.hok I'.bare fun b hb=>⟨(f3 b hb).2.2.2.1,(f3 b hb).2.1,(f3 b hb).2.2.2.2.1,(f3 b hb).2.2.2.2.2⟩
   refine fin _ _ s' H' Ie ⟨I'.free,?_,Nat.le_trans I3.sz (Nat.le_refl _),fun x c e=>?_,fun p hp=>?_,?_⟩ q'
   ·exact Ne.symm (Nat.ne_of_lt I3.lt)
   ·obtain ⟨v,o,ho,_⟩:=I3.cell x c e
    exact Nat.ne_of_lt (Heap.lt_size ho)
   ·exact Nat.ne_of_lt (Heap.lt_size (I3.pin p hp).1)
   ·obtain ⟨m,hn,_⟩:=I'.loc
    exact ⟨m,hn⟩
 exact codeAny_compStart_list loop (T.self X.A 0 _ _ _ st₁ loop)
section
variable {X:Cx}{elt tg iter:Expr}{ifs:List Expr}{scope:Scope}{pos:Pos}{N:List Str}{k:Nat}{sel:List Nat}{wi:TI}{g:TG}{tt:TT}{te:TE}
theorem pe_comp (S:CScope X scope) (M:CNames X scope N k sel) (hc:X.calm=true) (hi:PI X tg iter wi)
  (hg:∀ C s H fp,PG (ccx X scope N C s H fp) tg g) (ht:∀ C s H fp,PTs (ccx X scope N C s H fp) ifs tt) (he:∀ C s H fp,PE (ccx X scope N C s H fp) elt te)
  (hs:∀ x,foldedSetIterable iter X.env x=pure x:=by intro _;rfl):PE X (.ListComp elt [⟨tg,iter,ifs,0⟩] scope pos) (tComp wi k sel g tt te):=by
 intro pins s σ H Q I h
 rw [eval_ListComp]
 refine wpAny_comprehension_free (use:=none) rfl hs (closure_of (S.has I.ok)) S.kind S.names (thn (hi pins s σ H _ I h) fun v s1 h1=>thn h1 fun itv s2 h2=>?_)
 refine comp_block (QQ:=Q) S M hc hg ht he (fun D C s' H' I' F q=>?_) h2
 obtain ⟨m,hn⟩:=F.ns
 exact ⟨m,hn,fun h' hsb=>⟨.ref D,H',I'.turned (t':=s'.toks) (fun b o hb e=>hsb.extBut b o hb e) F.none F.ne (.inr F.above) F.cells F.pins,rfl,q⟩⟩
theorem ps_setC {i:Nat}{y:Str}{py spos:Pos} (S:CScope X scope) (M:CNames X scope N k sel) (hc:X.calm=true) (hi:PI X tg iter wi)
  (hg:∀ C s H fp,PG (ccx X scope N C s H fp) tg g) (ht:∀ C s H fp,PTs (ccx X scope N C s H fp) ifs tt) (he:∀ C s H fp,PE (ccx X scope N C s H fp) elt te)
  (hN:X.N.Nodup) (hiy:X.N[i]? = some y) (hy:Loc X.env.scope y)
  (hsw:swapsWith (.ListComp elt [⟨tg,iter,ifs,0⟩] scope pos) (some (.Name y py)) spos.line X.env=pure true)
  (hs:∀ x,foldedSetIterable iter X.env x=pure x:=by intro _;rfl) (hf:X.fn y=true∨X.env.scope.names.lookup y=some .local:=by first | exact .inl rfl | exact .inr rfl | assumption) :
  PS X (.Assign [.Name y py] (.ListComp elt [⟨tg,iter,ifs,0⟩] scope pos) spos) (tAsg (tComp wi k sel g tt te) (gName i)):=by
 intro pins s σ H D I h
 rw [exec_Assign_Name_used _ _ _ _ hsw]
 refine wpAny_bind (wpAny_standAt (wpAny_bind ?_))
 show wpAny _ X.A (do let _ ← comprehension (.ListComp elt [⟨tg,iter,ifs,0⟩] scope pos) scope X.env _ (newList []) false (eval iter X.env) (some (assign (.Name y py) X.env))) _ _ s
 refine wpAny_bind (wpAny_mono (wpAny_comprehension_free (use:=some (assign (.Name y py) X.env)) (Q:=fun _ s'=>SP X pins D .next s') rfl hs (closure_of (S.has I.ok)) S.kind S.names
  (thn (hi pins s σ H _ I h) fun v s1 h1=>thn h1 fun itv s2 h2=>?_)) (fun _ s' hq=>wpAny_pure (wpAny_pure hq)) fun _ _ e=>e)
 refine comp_block (QQ:=fun v H1=>D.nx (σ.set i (some v)) H1) S M hc hg ht he (fun Da C s' H' I' F q=>?_) h2
 show wpAny _ X.A (assign (.Name y py) X.env (.ref Da)) _ _ _
 refine wpAny_assign_Name (store_ok2 I' hN hiy hy (v:=.ref Da) rfl (fun s'' I'' hch=>?_) hf)
 obtain ⟨m,hn⟩:=F.ns
 obtain ⟨a,hsb,ha⟩:=hch
 have haC:C≠a:=by
  rcases ha with ha | ha
  ·rw [ha];exact F.ne
  ·exact Ne.symm (F.cells _ _ ha)
 refine ⟨m,hn.sameBut hsb haC,fun h' hsb'=>⟨σ.set i (some (.ref Da)),H',I''.turned (t':=s''.toks) (fun b o hb e=>hsb'.extBut b o hb e) F.none F.ne (.inr F.above) F.cells F.pins,q⟩⟩
end
section
variable {X:Cx}
theorem PE.imp {e:Expr}{t t':TE} (h:PE X e t) (f:∀ σ H Q,t' σ H Q→t σ H Q):PE X e t':=fun pins s σ H Q I q=>h pins s σ H Q I (f σ H Q q)
theorem OpR.imp {g:Value→Value→Sem Value}{r r':R2} (h:OpR X g r) (f:∀ x y H Q,r' x y H Q→r x y H Q):OpR X g r':=fun pins s σ H x y v u Q I rx ry q=>h pins s σ H x y v u Q I rx ry (f x y H Q q)
theorem IxR.imp {r r':R2} (h:IxR X r) (f:∀ x y H Q,r' x y H Q→r x y H Q):IxR X r':=fun value slice pins s σ H x y v u Q I rx ry q=>h value slice pins s σ H x y v u Q I rx ry (f x y H Q q)
theorem SlR.imp {r r':V→Option Int→Option Int→Hp→VK→Prop} (h:SlR X r) (f:∀ x lo hi H Q,r' x lo hi H Q→r x lo hi H Q):SlR X r':=fun pins s σ H x v vl vu lo hi sl Q I rx hs pl pu q=>h pins s σ H x v vl vu lo hi sl Q I rx hs pl pu (f x lo hi H Q q)
def cVar (i:Nat):TE:=fun σ H Q=>match σ[i]? with | some (some v)=>Q v H | _=>False
theorem cVar_of {i:Nat}{σ:St}{H:Hp}{Q:VK} (h:cVar i σ H Q):tVar i σ H Q:=by
 unfold cVar at h
 split at h
 ·exact ⟨_,by assumption,h⟩
 ·exact h.elim
theorem cv (i:Nat) {x:Str}{pos:Pos} (hN:X.N[i]? = some x:=by rfl) (hv:Vis X.env.scope x:=by first | exact Or.inl rfl | exact Or.inr (Or.inl rfl) | exact Or.inr (Or.inr rfl)) (hd:(x == ("__debug__" : Str))=false:=by decide)
  (hcd:(x == ("__classdict__" : Str))=false:=by decide):PE X (.Name x pos) (cVar i):=(pe_var hN hv hd hcd).imp fun _ _ _ h=>cVar_of h
def cI2 (f:Int→Int→V):R2:=fun x y H Q=>match x,y with | .int i,.int j=>Q (f i j) H | _,_=>False
def cI2c (C:Int→Int→Prop) (f:Int→Int→V):R2:=fun x y H Q=>match x,y with | .int i,.int j=>C i j∧Q (f i j) H | _,_=>False
theorem cI2_of {f:Int→Int→V}{x y:V}{H:Hp}{Q:VK} (h:cI2 f x y H Q):rI0 f x y H Q:=by
 cases x <;> cases y <;> first | exact False.elim h | exact ⟨_,_,rfl,rfl,h⟩
theorem cI2c_of {C:Int→Int→Prop}{f:Int→Int→V}{x y:V}{H:Hp}{Q:VK} (h:cI2c C f x y H Q):rI C f x y H Q:=by
 cases x <;> cases y <;> first | exact False.elim h | exact ⟨_,_,rfl,rfl,h.1,h.2⟩
theorem o_sub:OpR X (binaryOp .Sub) (cI2 fun i j=>.int (i - j)):=op_sub.imp fun _ _ _ _ h=>cI2_of h
theorem o_fdiv:OpR X (binaryOp .FloorDiv) (cI2c CDiv fun i j=>.int (i / j)):=op_fdiv.imp fun _ _ _ _ h=>cI2c_of h
theorem o_mod:OpR X (binaryOp .Mod) (cI2c (fun _ j=>0<j) fun i j=>.int (i % j)):=op_mod.imp fun _ _ _ _ h=>cI2c_of h
theorem o_lt:OpR X (compareOp .Lt) (cI2 fun i j=>.bl (decide (i<j))):=op_lt.imp fun _ _ _ _ h=>cI2_of h
theorem o_le:OpR X (compareOp .LtE) (cI2 fun i j=>.bl (decide (i≤j))):=op_le.imp fun _ _ _ _ h=>cI2_of h
theorem o_gt:OpR X (compareOp .Gt) (cI2 fun i j=>.bl (decide (j<i))):=op_gt.imp fun _ _ _ _ h=>cI2_of h
theorem o_ge:OpR X (compareOp .GtE) (cI2 fun i j=>.bl (decide (j≤i))):=op_ge.imp fun _ _ _ _ h=>cI2_of h
def cAdd:R2:=fun x y H Q=>match x,y with
 | .int i,.int j=>Q (.int (i+j)) H
 | .str i,.str j=>i.length+j.length≤sizeLine∧Q (.str (i ++ j)) H
 | .ref l,.ref b=>∃ xs zs,H l=some (.lst xs)∧H b=some (.lst zs)∧xs.length+zs.length≤sizeLine∧∀ p,H p=none→Q (.ref p) (upd H p (.lst (xs ++ zs)))
 | _,_=>False
theorem o_add:OpR X (binaryOp .Add) cAdd:=by
 intro pins s σ H x y v u Q I rx ry h
 cases x <;> cases y <;> first
  | exact False.elim h
  | exact op_add pins s σ H _ _ v u Q I rx ry ⟨_,_,rfl,rfl,h⟩
  | exact op_add_str pins s σ H _ _ v u Q I rx ry ⟨_,_,rfl,rfl,h.1,h.2⟩
  | (obtain ⟨xs,zs,h1,h2,h3,h4⟩:=h;exact op_cat pins s σ H _ _ v u Q I rx ry ⟨_,_,xs,zs,rfl,rfl,h1,h2,h3,h4⟩)
inductive DeepEq (K:PySem.W.Frag) (H:Hp):Nat→V→V→Prop where
 | flat {n:Nat}{x:V} (f:flatV x=true):DeepEq K H n x x
 | lst {n:Nat}{a b:Addr}{xs ys:List V} (h1:SqL K H a xs) (h2:SqL K H b ys) (hl:xs.length=ys.length) (h:∀ (i:Nat) x y,xs[i]? = some x→ys[i]? = some y→DeepEq K H n x y):DeepEq K H (n+1) (.ref a) (.ref b)
 | tup {n:Nat}{a b:Addr}{xs ys:List V} (h1:SqT K H a xs) (h2:SqT K H b ys) (hl:xs.length=ys.length) (h:∀ (i:Nat) x y,xs[i]? = some x→ys[i]? = some y→DeepEq K H n x y):DeepEq K H (n+1) (.ref a) (.ref b)
theorem isListOf {pins:List (Addr × Obj)}{σ:St}{H:Hp}{s:Shared}{a:Addr}{xs:List V} (I:Inv X pins σ H s) (h:SqL X.K H a xs):∃ its:List Value,Vals xs its∧s.heap.IsList a its.toArray:=by
 obtain ⟨its,r,p,_⟩:=I.list h
 exact ⟨its,r,p.isList⟩
theorem units_in1 {A:Around}{n:Nat} (h:A.units+(n+1)<cLine):A.in1.units+n<cLine:=by
 have e:A.in1.units=A.units+1:=rfl
 omega
theorem deep_rc {pins:List (Addr × Obj)}{σ:St}{H:Hp}{s:Shared} (I:Inv X pins σ H s):∀ {n:Nat}{x y:V},DeepEq X.K H n x y→∀ (A:Around) {u v:Value},A.units+n<cLine→RelV x u→RelV y v→SeqAt.EqAt A s u v true
 | _,_,_,.flat f,A,u,v,hu,rx,ry=>by
  have e:=eqAt_V (A:=A) (s:=s) rx ry f f
  rename_i n x
  have q:eqV x x=true:=by cases x <;> first | rfl | (simp [eqV];done) | exact absurd f (by simp [flatV])
  rw [q] at e
  exact e
 | _,_,_,@DeepEq.lst _ _ n a b xs ys h1 h2 hl h,A,u,v,hu,rx,ry=>by
  cases rx;cases ry
  by_cases hab:a=b
  ·subst hab;exact SeqAt.EqAt.same _
  ·obtain ⟨its,r1,p1⟩:=isListOf I h1
   obtain ⟨its2,r2,p2⟩:=isListOf I h2
   have e1:=r1.length
   have e2:=r2.length
   have q:=SeqAt.RcAt.lists (A:=A) (e:=fun _=>true) p1 p2 (by simp;omega) (by omega) (fun j j1 j2=>by
    have j1':j<its.length:=by simpa using j1
    have j2':j<its2.length:=by simpa using j2
    obtain ⟨w1,q1,s1⟩:=r1.get (i:=j) (x:=xs[j]'(by omega)) (by simp)
    obtain ⟨w2,q2,s2⟩:=r2.get (i:=j) (x:=ys[j]'(by omega)) (by simp)
    have z1:its.toArray[j]=w1:=by
     have:=List.getElem?_eq_some_iff.mp q1
     obtain ⟨_,z⟩:=this
     simpa using z
    have z2:its2.toArray[j]=w2:=by
     have:=List.getElem?_eq_some_iff.mp q2
     obtain ⟨_,z⟩:=this
     simpa using z
    rw [z1,z2]
    exact deep_rc I (h j _ _ (by simp) (by simp)) A.in1 (units_in1 hu) s1 s2)
   have:((List.range its.toArray.size).all fun _=>true)=true:=by simp
   rw [this] at q
   exact SeqAt.EqAt.of_refs hab q
 | _,_,_,@DeepEq.tup _ _ n a b xs ys h1 h2 hl h,A,u,v,hu,rx,ry=>by
  cases rx;cases ry
  by_cases hab:a=b
  ·subst hab;exact SeqAt.EqAt.same _
  ·obtain ⟨its,r1,p1,_⟩:=I.tuple h1
   obtain ⟨its2,r2,p2,_⟩:=I.tuple h2
   have e1:=r1.length
   have e2:=r2.length
   have q:=SeqAt.RcAt.tuples (A:=A) (e:=fun _=>true) p1 p2 (by omega) (fun j j1 j2=>by
    have j1':j<its.length:=by simpa using j1
    have j2':j<its2.length:=by simpa using j2
    obtain ⟨w1,q1,s1⟩:=r1.get (i:=j) (x:=xs[j]'(by omega)) (by simp)
    obtain ⟨w2,q2,s2⟩:=r2.get (i:=j) (x:=ys[j]'(by omega)) (by simp)
    have z1:its.toArray[j]=w1:=by
     have:=List.getElem?_eq_some_iff.mp q1
     obtain ⟨_,z⟩:=this
     simpa using z
    have z2:its2.toArray[j]=w2:=by
     have:=List.getElem?_eq_some_iff.mp q2
     obtain ⟨_,z⟩:=this
     simpa using z
    rw [z1,z2]
    exact deep_rc I (h j _ _ (by simp) (by simp)) A.in1 (units_in1 hu) s1 s2)
   have:(((List.range (min its.toArray.size its2.toArray.size)).all fun _=>true) && its.toArray.size == its2.toArray.size)=true:=by simp;omega
   rw [this] at q
   exact SeqAt.EqAt.of_refs hab q
end
section
variable {X:Cx}{a b c:Expr}{ta tb tc:TE}{pos:Pos}
def eqVs (xs ys:List V):Bool:=xs.length == ys.length && (List.range xs.length).all fun i=>eqV (xs.getD i .non) (ys.getD i .non)
theorem eqVs_range {xs ys:List V}{us ws:List Value} (r1:Vals xs us) (r2:Vals ys ws) (f1:xs.all flatV=true) (f2:ys.all flatV=true) (A:Around) (s:Shared) :
  ∀ j (h1:j<us.toArray.size) (h2:j<ws.toArray.size),SeqAt.EqAt A s us.toArray[j] ws.toArray[j] (eqV (xs.getD j .non) (ys.getD j .non)):=fun j j1 j2=>by
 have e1:=r1.length
 have e2:=r2.length
 have j1':j<us.length:=by simpa using j1
 have j2':j<ws.length:=by simpa using j2
 have x1:j<xs.length:=by omega
 have y1:j<ys.length:=by omega
 obtain ⟨w1,q1,s1⟩:=r1.get (i:=j) (x:=xs[j]) (by simp)
 obtain ⟨w2,q2,s2⟩:=r2.get (i:=j) (x:=ys[j]) (by simp)
 have z1:us.toArray[j]=w1:=by
  obtain ⟨_,z⟩:=List.getElem?_eq_some_iff.mp q1
  simpa using z
 have z2:ws.toArray[j]=w2:=by
  obtain ⟨_,z⟩:=List.getElem?_eq_some_iff.mp q2
  simpa using z
 rw [z1,z2]
 have g1:xs.getD j .non=xs[j]:=by simp [List.getD,x1]
 have g2:ys.getD j .non=ys[j]:=by simp [List.getD,y1]
 rw [g1,g2]
 exact eqAt_V s1 s2 (List.all_eq_true.mp f1 _ (List.getElem_mem _)) (List.all_eq_true.mp f2 _ (List.getElem_mem _))
def EqRef (K:PySem.W.Frag) (H:Hp) (p q:Addr) (k:Bool):Prop :=
 (k=true∧DeepEq K H 4 (.ref p) (.ref q)) ∨
 (∃ xs ys,SqL K H p xs∧SqL K H q ys∧xs.all flatV=true∧ys.all flatV=true∧k=eqVs xs ys) ∨
 (k=false∧∃ xs ys,SqL K H p xs∧SqL K H q ys∧xs.length≠ys.length) ∨
 (∃ xs ys,SqT K H p xs∧SqT K H q ys∧xs.all flatV=true∧ys.all flatV=true∧k=eqVs xs ys)
theorem eqRef_rc {pins:List (Addr × Obj)}{σ:St}{H:Hp}{s:Shared}{p q:Addr}{k:Bool} (I:Inv X pins σ H s) (hu:X.A.units+8<cLine) (h:EqRef X.K H p q k) :
  SeqAt.RcAt X.A s (.ref p) (.ref q) k∧SeqAt.RcNeAt X.A s (.ref p) (.ref q) (!k):=by
 have deep:∀ {xs ys:List V}{n:Nat},n≤4→(SqL X.K H p xs∧SqL X.K H q ys∨SqT X.K H p xs∧SqT X.K H q ys)→xs.length=ys.length→(∀ (i:Nat) x y,xs[i]? = some x→ys[i]? = some y→DeepEq X.K H n x y) →
   SeqAt.RcAt X.A s (.ref p) (.ref q) true∧SeqAt.RcNeAt X.A s (.ref p) (.ref q) (!true):=fun {xs ys n} hn hq hl hd=>by
  have items:∀ {us ws:List Value},Vals xs us→Vals ys ws→∀ j (h1:j<us.toArray.size) (h2:j<ws.toArray.size),SeqAt.EqAt X.A.in1 s us.toArray[j] ws.toArray[j] true:=fun {us ws} r1 r2 j j1 j2=>by
   have e1:=r1.length
   have e2:=r2.length
   have j1':j<us.length:=by simpa using j1
   have j2':j<ws.length:=by simpa using j2
   obtain ⟨w1,q1,s1⟩:=r1.get (i:=j) (x:=xs[j]'(by omega)) (by simp)
   obtain ⟨w2,q2,s2⟩:=r2.get (i:=j) (x:=ys[j]'(by omega)) (by simp)
   have z1:us.toArray[j]=w1:=by
    obtain ⟨_,z⟩:=List.getElem?_eq_some_iff.mp q1
    simpa using z
   have z2:ws.toArray[j]=w2:=by
    obtain ⟨_,z⟩:=List.getElem?_eq_some_iff.mp q2
    simpa using z
   rw [z1,z2]
   exact deep_rc I (hd j _ _ (by simp) (by simp)) X.A.in1 (by have e:X.A.in1.units=X.A.units+1:=rfl;omega) s1 s2
  rcases hq with ⟨h1,h2⟩ | ⟨h1,h2⟩
  ·obtain ⟨its,r1,p1⟩:=isListOf I h1
   obtain ⟨its2,r2,p2⟩:=isListOf I h2
   have e1:=r1.length
   have e2:=r2.length
   have z:((List.range its.toArray.size).all fun _=>true)=true:=by simp
   have a1:=SeqAt.RcAt.lists (A:=X.A) (e:=fun _=>true) p1 p2 (by simp;omega) (by omega) (items r1 r2)
   have a2:=SeqAt.RcNeAt.lists (A:=X.A) (e:=fun _=>true) p1 p2 (by simp;omega) (by omega) (items r1 r2)
   rw [z] at a1 a2
   exact ⟨a1,a2⟩
  ·obtain ⟨its,r1,p1,_⟩:=I.tuple h1
   obtain ⟨its2,r2,p2,_⟩:=I.tuple h2
   have e1:=r1.length
   have e2:=r2.length
   have z:(((List.range (min its.toArray.size its2.toArray.size)).all fun _=>true) && its.toArray.size == its2.toArray.size)=true:=by simp;omega
   have a1:=SeqAt.RcAt.tuples (A:=X.A) (e:=fun _=>true) p1 p2 (by omega) (items r1 r2)
   have a2:=SeqAt.RcNeAt.tuples (A:=X.A) (e:=fun _=>true) p1 p2 (by omega) (items r1 r2)
   rw [z] at a1 a2
   exact ⟨a1,a2⟩
 have flatL:∀ {xs ys:List V},SqL X.K H p xs→SqL X.K H q ys→xs.length≠ys.length→SeqAt.RcAt X.A s (.ref p) (.ref q) false∧SeqAt.RcNeAt X.A s (.ref p) (.ref q) (!false):=fun {xs ys} h1 h2 hl=>by
  obtain ⟨its,r1,p1⟩:=isListOf I h1
  obtain ⟨its2,r2,p2⟩:=isListOf I h2
  have e1:=r1.length
  have e2:=r2.length
  have z:(its.toArray.size != its2.toArray.size)=true:=by simp;omega
  exact ⟨SeqAt.RcAt.lists_lengths p1 p2 z (by omega),SeqAt.RcNeAt.lists_lengths p1 p2 z (by omega)⟩
 rcases h with ⟨rfl,h⟩ | ⟨xs,ys,h1,h2,f1,f2,rfl⟩ | ⟨rfl,xs,ys,h1,h2,hl⟩ | ⟨xs,ys,h1,h2,f1,f2,rfl⟩
 ·cases h with
  | flat f=>simp [flatV] at f
  | lst h1 h2 hl hd=>exact deep (by decide) (.inl ⟨h1,h2⟩) hl hd
  | tup h1 h2 hl hd=>exact deep (by decide) (.inr ⟨h1,h2⟩) hl hd
 ·by_cases hl:xs.length=ys.length
  ·obtain ⟨its,r1,p1⟩:=isListOf I h1
   obtain ⟨its2,r2,p2⟩:=isListOf I h2
   have e1:=r1.length
   have e2:=r2.length
   have z:eqVs xs ys=(List.range its.toArray.size).all fun i=>eqV (xs.getD i .non) (ys.getD i .non):=by
    unfold eqVs
    rw [List.size_toArray,← e1,hl]
    simp
   rw [z]
   exact ⟨SeqAt.RcAt.lists p1 p2 (by simp;omega) (by omega) (eqVs_range r1 r2 f1 f2 _ _),SeqAt.RcNeAt.lists p1 p2 (by simp;omega) (by omega) (eqVs_range r1 r2 f1 f2 _ _)⟩
  ·have z:eqVs xs ys=false:=by unfold eqVs;simp [hl]
   rw [z]
   exact flatL h1 h2 hl
 ·exact flatL h1 h2 hl
 ·obtain ⟨its,r1,p1,_⟩:=I.tuple h1
  obtain ⟨its2,r2,p2,_⟩:=I.tuple h2
  have e1:=r1.length
  have e2:=r2.length
  by_cases hl:xs.length=ys.length
  ·have z:eqVs xs ys=((List.range (min its.toArray.size its2.toArray.size)).all (fun i=>eqV (xs.getD i .non) (ys.getD i .non)) && its.toArray.size == its2.toArray.size):=by
    unfold eqVs
    rw [List.size_toArray,List.size_toArray,← e1,← e2,hl]
    simp
   rw [z]
   exact ⟨SeqAt.RcAt.tuples p1 p2 (by omega) (eqVs_range r1 r2 f1 f2 _ _),SeqAt.RcNeAt.tuples p1 p2 (by omega) (eqVs_range r1 r2 f1 f2 _ _)⟩
  ·have z:eqVs xs ys=((List.range (min its.toArray.size its2.toArray.size)).all (fun i=>eqV (xs.getD i .non) (ys.getD i .non)) && its.toArray.size == its2.toArray.size):=by
    have z1:eqVs xs ys=false:=by unfold eqVs;simp [hl]
    have z2:(its.toArray.size == its2.toArray.size)=false:=by simp;omega
    rw [z1,z2,Bool.and_false]
   rw [z]
   exact ⟨SeqAt.RcAt.tuples p1 p2 (by omega) (eqVs_range r1 r2 f1 f2 _ _),SeqAt.RcNeAt.tuples p1 p2 (by omega) (eqVs_range r1 r2 f1 f2 _ _)⟩
def cEq (K:PySem.W.Frag):R2:=fun x y H Q=>match x,y with
 | .int i,.int j=>Q (.bl (decide (i=j))) H
 | .bl i,.bl j=>Q (.bl (decide (i=j))) H
 | .str i,.str j=>Q (.bl (decide (i=j))) H
 | .non,.non=>Q (.bl true) H
 | .non,.int _=>Q (.bl false) H
 | .int _,.non=>Q (.bl false) H
 | .non,.str _=>Q (.bl false) H
 | .str _,.non=>Q (.bl false) H
 | .non,.bl _=>Q (.bl false) H
 | .bl _,.non=>Q (.bl false) H
 | .ref p,.ref q=>∃ k,EqRef K H p q k∧Q (.bl k) H
 | _,_=>False
def cNe (K:PySem.W.Frag):R2:=fun x y H Q=>match x,y with
 | .int i,.int j=>Q (.bl (!decide (i=j))) H
 | .bl i,.bl j=>Q (.bl (!decide (i=j))) H
 | .str i,.str j=>Q (.bl (!decide (i=j))) H
 | .non,.non=>Q (.bl false) H
 | .non,.int _=>Q (.bl true) H
 | .int _,.non=>Q (.bl true) H
 | .non,.str _=>Q (.bl true) H
 | .str _,.non=>Q (.bl true) H
 | .non,.bl _=>Q (.bl true) H
 | .bl _,.non=>Q (.bl true) H
 | .ref p,.ref q=>∃ k,EqRef K H p q k∧Q (.bl (!k)) H
 | _,_=>False
theorem dcI {i j:Int}:decide (V.int i=V.int j)=decide (i=j):=by rw [decide_eq_decide];exact ⟨V.int.inj,congrArg _⟩
theorem dcB {i j:Bool}:decide (V.bl i=V.bl j)=decide (i=j):=by rw [decide_eq_decide];exact ⟨V.bl.inj,congrArg _⟩
theorem dcS {i j:Str}:decide (V.str i=V.str j)=decide (i=j):=by rw [decide_eq_decide];exact ⟨V.str.inj,congrArg _⟩
theorem o_eq (hu:X.A.units+8<cLine):OpR X (compareOp .Eq) (cEq X.K):=by
  intro pins s σ H x y v u Q I rx ry h
  have go:rEq x y H Q→wpAny (model X.prog X.w) X.A (compareOp .Eq v u) (EP X pins σ Q) X.xe s:=fun q=>op_eq pins s σ H _ _ v u Q I rx ry q
  cases x <;> cases y <;> first
    | exact False.elim h
    | exact go ⟨rfl,h⟩
    | exact go ⟨rfl,by rw [dcI];exact h⟩
    | exact go ⟨rfl,by rw [dcB];exact h⟩
    | exact go ⟨rfl,by rw [dcS];exact h⟩
    | (obtain ⟨k,e,q⟩:=h
       cases rx;cases ry
       exact (eqRef_rc I hu e).1 _ _ _ _ ⟨.bl k,H,I,rfl,q⟩)
theorem o_ne (hu:X.A.units+8<cLine):OpR X (compareOp .NotEq) (cNe X.K):=by
  intro pins s σ H x y v u Q I rx ry h
  have go:rNe x y H Q→wpAny (model X.prog X.w) X.A (compareOp .NotEq v u) (EP X pins σ Q) X.xe s:=fun q=>op_ne pins s σ H _ _ v u Q I rx ry q
  cases x <;> cases y <;> first
    | exact False.elim h
    | exact go ⟨rfl,h⟩
    | exact go ⟨rfl,by rw [dcI];exact h⟩
    | exact go ⟨rfl,by rw [dcB];exact h⟩
    | exact go ⟨rfl,by rw [dcS];exact h⟩
    | (obtain ⟨k,e,q⟩:=h
       cases rx;cases ry
       exact (eqRef_rc I hu e).2 _ _ _ _ ⟨.bl (!k),H,I,rfl,q⟩)
def cIsNot:R2:=fun x y H Q=>match x,y with
 | .bl i,.bl j=>Q (.bl (!decide (i=j))) H
 | x,.non=>Q (.bl (!decide (x=.non))) H
 | _,_=>False
def strIn (i j:Str):Bool:=!(Builtin.Str.occurrences j i 0 j.length 1).isEmpty
def cIn (K:PySem.W.Frag) (neg:Bool):R2:=fun x y H Q=>match y with
 | .ref p=>∃ xs,(SqL K H p xs∨SqT K H p xs)∧flatV x=true∧xs.all flatV=true∧Q (.bl (if neg then !inV x xs else inV x xs)) H
 | .str j=>match x with | .str i=>Q (.bl (if neg then !strIn i j else strIn i j)) H | _=>False
 | _=>False
theorem o_in:OpR X (compareOp .In) (cIn X.K false):=by
 intro pins s σ H x y v u Q I rx ry h
 cases y with
 | ref p =>
  obtain ⟨xs,h1,h2,h3,q⟩:=h
  exact op_in_seq pins s σ H _ _ v u Q I rx ry ⟨p,xs,rfl,h1,h2,h3,q⟩
 | str j =>
  cases x with
  | str i=>exact op_in_str pins s σ H _ _ v u Q I rx ry ⟨i,j,rfl,rfl,h⟩
  | _=>exact False.elim h
 | _=>exact False.elim h
theorem o_notin:OpR X (compareOp .NotIn) (cIn X.K true):=by
 intro pins s σ H x y v u Q I rx ry h
 cases y with
 | ref p =>
  obtain ⟨xs,h1,h2,h3,q⟩:=h
  exact op_notIn_seq pins s σ H _ _ v u Q I rx ry ⟨p,xs,rfl,h1,h2,h3,q⟩
 | str j =>
  cases x with
  | str i=>exact op_notIn_str pins s σ H _ _ v u Q I rx ry ⟨i,j,rfl,rfl,h⟩
  | _=>exact False.elim h
 | _=>exact False.elim h
def cBool (x:V) (k:Bool→Prop):Prop:=match x with | .bl b=>k b | _=>False
theorem cBool_of {x:V}{k:Bool→Prop} (h:cBool x k):∃ b,x=.bl b∧k b:=by
 cases x <;> first | exact False.elim h | exact ⟨_,rfl,h⟩
def cTst (t:TE):TT:=fun σ H Q=>t σ H fun x H'=>cBool x fun k=>Q k H'
def cTru (K:PySem.W.Frag) (t:TE):TT:=fun σ H Q=>t σ H fun x H'=>match x with
 | .non=>Q false H'
 | .bl b=>Q b H'
 | .int i=>Q (decide (i≠0)) H'
 | .str y=>y.length≤sizeLine∧Q (decide (y.length≠0)) H'
 | .ref p=>∃ k,TruV K (.ref p) H' k∧Q k H'
 | .byt p=>∃ k,TruV K (.byt p) H' k∧Q k H'
 | _=>False
theorem pt_tru {t:TE} (ha:PE X a t) (he:∀ whole,isTrue a X.env whole=(do let v ← whole;standAt a.pos;holding [v] (truthy v)):=by intro _;rfl):PT X a (cTru X.K t):=by
 have h:=pt_truth ha he
 have e:cTru X.K t=(fun σ H Q=>t σ H fun x H'=>∃ k,TruV X.K x H' k∧Q k H'):=by
  funext σ H Q
  unfold cTru
  congr 1
  funext x H'
  apply propext
  cases x with
  | non=>exact ⟨fun q=>⟨false,rfl,q⟩,fun ⟨k,h1,h2⟩=>by have h1:k=false:=h1;subst h1;exact h2⟩
  | bl b=>exact ⟨fun q=>⟨b,rfl,q⟩,fun ⟨k,h1,h2⟩=>by have h1:k=b:=h1;subst h1;exact h2⟩
  | int i =>
   have z:decide (i≠0)=(i != 0):=by by_cases e:i=0 <;> simp [e]
   exact ⟨fun q=>⟨decide (i≠0),z,q⟩,fun ⟨k,h1,h2⟩=>by have h1:k=(i != 0):=h1;rw [← z] at h1;subst h1;exact h2⟩
  | str y =>
   have z:decide (y.length≠0)=((y.length:Int) != 0):=by
    by_cases e:y.length=0
    ·simp [e]
    ·have:(y.length:Int)≠0:=by omega
     simp [e,this]
   exact ⟨fun q=>⟨decide (y.length≠0),⟨q.1,z⟩,q.2⟩,fun ⟨k,h1,h2⟩=>by
    have h1:y.length≤sizeLine∧k=((y.length:Int) != 0):=h1
    obtain ⟨h0,h1⟩:=h1
    rw [← z] at h1;subst h1;exact ⟨h0,h2⟩⟩
  | ref p=>exact Iff.rfl
  | byt y=>exact Iff.rfl
  | flt y=>exact ⟨fun q=>q.elim,fun ⟨k,h1,h2⟩=>h1.elim⟩
  | ty y=>exact ⟨fun q=>q.elim,fun ⟨k,h1,h2⟩=>h1.elim⟩
 rw [e]
 exact h
theorem cBool_eq {x:V}{k:Bool→Prop}:cBool x k = ∃ b,x=.bl b∧k b:=propext ⟨cBool_of,fun ⟨b,e,q⟩=>by subst e;exact q⟩
theorem cTst_eq (t:TE):cTst t=tTest t:=by
 funext σ H Q
 unfold cTst tTest
 congr 1
 funext x H'
 exact cBool_eq
theorem t_cmp {op:CmpOp}{r:R2} (ho:OpR X (compareOp op) r) (ha:PE X a ta) (hb:PE X b tb) (hm:behindInMarks op b=false):PT X (.Compare a [op] [b] pos) (cTst (tOp r ta tb)):=by
 rw [cTst_eq]
 exact pt_cmpR ho ha hb hm
def cChain (r r':R2) (ta tb tc:TE):TE:=fun σ H Q=>ta σ H fun x H1=>tb σ H1 fun y H2=>r x y H2 fun z H3=>cBool z fun k =>
 (if k=true then tc σ H3 fun w' H4=>r' y w' H4 Q else Q (.bl false) H3)
theorem cChain_eq (r r':R2) (ta tb tc:TE):cChain r r' ta tb tc=tChain r r' ta tb tc:=by
 funext σ H Q
 unfold cChain tChain
 congr 1
 funext x H1
 congr 1
 funext y H2
 congr 1
 funext z H3
 exact cBool_eq
theorem e_chain {op op':CmpOp}{r r':R2} (ho:OpR X (compareOp op) r) (ho':OpR X (compareOp op') r') (ha:PE X a ta) (hb:PE X b tb) (hc:PE X c tc)
  (hm:lastMarks [op,op'] [b,c]=false:=by with_unfolding_all rfl):PE X (.Compare a [op,op'] [b,c] pos) (cChain r r' ta tb tc):=by
 rw [cChain_eq]
 exact pe_chain ho ho' ha hb hc hm
theorem t_chain {op op':CmpOp}{r r':R2} (ho:OpR X (compareOp op) r) (ho':OpR X (compareOp op') r') (ha:PE X a ta) (hb:PE X b tb) (hc:PE X c tc)
  (hm:lastMarks [op,op'] [b,c]=false:=by with_unfolding_all rfl):PT X (.Compare a [op,op'] [b,c] pos) (cTst (cChain r r' ta tb tc)):=by
 rw [cTst_eq,cChain_eq]
 exact pt_chain ho ho' ha hb hc hm
def cOrV (ta tb:TE):TE:=fun σ H Q=>ta σ H fun x H1=>cBool x fun c=>if c=true then Q (.bl true) H1 else tb σ H1 Q
theorem cOrV_eq (ta tb:TE):cOrV ta tb=tOrV ta tb:=by
 funext σ H Q
 unfold cOrV tOrV
 congr 1
 funext x H'
 exact cBool_eq
variable {rest:List Expr}
theorem e_or (ha:PE X a ta) (hb:PE X (.BoolOp .Or (b :: rest) pos) tb):PE X (.BoolOp .Or (a :: b :: rest) pos) (cOrV ta tb):=by
 rw [cOrV_eq]
 exact pe_or ha hb
def cIx (K:PySem.W.Frag):R2:=fun x y H Q=>match x,y with
 | .ref p,.int i=>∃ xs v,(SqL K H p xs∨SqT K H p xs)∧atI xs i=some v∧Q v H
 | .str z,.int i=>z.length≤sizeLine∧∃ c,atI z.cps.toList i=some c∧Q (.str ⟨#[c]⟩) H
 | _,_=>False
theorem i_seq:IxR X (cIx X.K):=ix_seq.imp fun x y H Q h=>by
  cases x <;> cases y <;> first
    | exact False.elim h
    | (obtain ⟨xs,v,h1 | h1,h2,h3⟩:=h
       · exact .inl ⟨_,xs,_,v,rfl,rfl,h1,h2,h3⟩
       · exact .inr (.inl ⟨_,xs,_,v,rfl,rfl,h1,h2,h3⟩))
    | (obtain ⟨h1,c,h2,h3⟩:=h
       exact .inr (.inr ⟨_,_,c,rfl,rfl,h1,h2,h3⟩))
def cSlL (K:PySem.W.Frag):V→Option Int→Option Int→Hp→VK→Prop:=fun x lo hi H Q=>match x with
 | .ref p=>∃ xs,SqL K H p xs∧∀ q,H q=none→Q (.ref q) (upd H q (.lst (cutV xs lo hi)))
 | _=>False
theorem s_list:SlR X (cSlL X.K):=sl_list.imp fun x lo hi H Q h=>by
 cases x <;> first | exact False.elim h | (obtain ⟨xs,h1,h2⟩:=h;exact ⟨_,xs,rfl,h1,h2⟩)
def cLen (K:PySem.W.Frag):List V→Hp→VK→Prop:=fun vs H Q=>match vs with
 | [.str z]=>z.length≤sizeLine∧Q (.int z.length) H
 | [.ref p]=>(∃ ys,(SqL K H p ys∨SqT K H p ys)∧Q (.int ys.length) H)∨∃ kvs,H p=some (.dK kvs)∧Q (.int kvs.length) H
 | _=>False
theorem c_len:CallR X (.builtin "len") (cLen X.K):=by
 intro pins s σ H xs us Q I r h
 match xs,h with
 | [.str z],h=>exact call_len_str pins s σ H _ us Q I r ⟨z,rfl,h.1,h.2⟩
 | [.ref p],h =>
  rcases h with ⟨ys,h1,h2⟩ | ⟨kvs,h1,h2⟩
  ·exact call_len_seq pins s σ H _ us Q I r ⟨p,ys,rfl,h1,h2⟩
  ·exact call_lenD pins s σ H _ us Q I r ⟨p,kvs,rfl,h1,h2⟩
def cInt:List V→Hp→VK→Prop:=fun vs H Q=>match vs with
 | [.int i]=>Q (.int i) H
 | [.bl k]=>Q (.int (if k then 1 else 0)) H
 | _=>False
theorem c_int:CallR X (.type "int") cInt:=by
 intro pins s σ H xs us Q I r h
 match xs,h with
 | [.int i],h=>exact call_int1 pins s σ H _ us Q I r (.inl ⟨i,rfl,h⟩)
 | [.bl k],h=>exact call_int1 pins s σ H _ us Q I r (.inr ⟨k,rfl,h⟩)
def cList (K:PySem.W.Frag):List V→Hp→VK→Prop:=fun vs H Q=>match vs with
 | [.ref p]=>∃ ys,(SqL K H p ys∨SqT K H p ys)∧∀ l,H l=none→Q (.ref l) (upd H l (.lst ys))
 | _=>False
theorem c_list:CallR X (.type "list") (cList X.K):=by
 intro pins s σ H xs us Q I r h
 match xs,h with
 | [.ref p],h =>
  obtain ⟨ys,h1,h2⟩:=h
  exact call_list_of pins s σ H _ us Q I r ⟨p,ys,rfl,h1,h2⟩
def cTuple (K:PySem.W.Frag):List V→Hp→VK→Prop:=fun vs H Q=>match vs with
 | [.ref p]=>∃ ys,((SqL K H p ys∧∀ l,H l=none→Q (.ref l) (upd H l (.tup ys)))∨(SqT K H p ys∧Q (.ref p) H))
 | _=>False
theorem c_tuple:CallR X (.type "tuple") (cTuple X.K):=by
 intro pins s σ H xs us Q I r h
 match xs,h with
 | [.ref p],h =>
  obtain ⟨ys,h1⟩:=h
  exact call_tuple_of pins s σ H _ us Q I r ⟨p,ys,rfl,h1⟩
def cMin:List V→Hp→VK→Prop:=fun vs H Q=>match vs with
 | [.int i,.int j]=>Q (.int (if j<i then j else i)) H
 | _=>False
theorem c_min (hc:X.calm=true):CallR X (.builtin "min") cMin:=by
 intro pins s σ H xs us Q I r h
 match xs,h with
 | [.int i,.int j],h=>exact call_min2 hc pins s σ H _ us Q I r ⟨i,j,rfl,h⟩
def cIsinst (K:PySem.W.Frag):List V→Hp→VK→Prop:=fun vs H Q=>match vs with
 | [x,.ty T]=>∃ t b,TyOf K H x t∧PySem.W.kitOne K t (.type T)=some b∧Q (.bl b) H
 | [x,.ref C]=>∃ t b,TyOf K H x t∧PySem.W.kitOne K t (.ref C)=some b∧Q (.bl b) H
 | _=>False
theorem c_isinst:CallR X (.builtin "isinstance") (cIsinst X.K):=by
 intro pins s σ H xs us Q I r h
 match xs,h with
 | [x,.ty T],h =>
  obtain ⟨t,k,h1,h2,h3⟩:=h
  obtain ⟨u,w',rfl,r1,r2⟩:=vals2 r
  cases r2
  exact isinst_ok I r1 h1 h2 fun tk=>⟨.bl k,H,I.tok tk,rfl,h3⟩
 | [x,.ref C],h =>
  obtain ⟨t,k,h1,h2,h3⟩:=h
  obtain ⟨u,w',rfl,r1,r2⟩:=vals2 r
  cases r2
  exact isinst_ok I r1 h1 h2 fun tk=>⟨.bl k,H,I.tok tk,rfl,h3⟩
def csChk (onames:List (Str × NameKind)) (scope:Scope):Bool:=scope.names.all fun y=>decide (y.2≠.cell) && (decide (y.2≠.local) || decide (scope.names.lookup y.1=some .local)) && (decide (y.2≠.free) || decide (onames.lookup y.1=some .cell) || decide (onames.lookup y.1=some .free))
theorem CScope.of {scope:Scope} (onames:List (Str × NameKind)) (h:csChk onames scope=true) (k:scope.kind=.function:=by rfl) (e:X.env.scope.names=onames:=by rfl):CScope X scope:=by
 have q:=List.all_eq_true.mp h
 refine ⟨k,fun y hy=>?_,fun y hy hl=>?_,fun y hy hf=>?_⟩
 ·have z:=q y hy
  simp only [Bool.and_eq_true,decide_eq_true_eq] at z
  exact z.1.1
 ·have z:=q y hy
  simp only [Bool.and_eq_true,Bool.or_eq_true,decide_eq_true_eq] at z
  exact z.1.2.resolve_left fun w=>w hl
 ·have z:=q y hy
  simp only [Bool.and_eq_true,Bool.or_eq_true,decide_eq_true_eq] at z
  show X.env.scope.names.lookup y.1=_∨X.env.scope.names.lookup y.1=_
  rw [e]
  rcases z.2 with (w | w) | w
  ·exact absurd hf w
  ·exact .inl w
  ·exact .inr w
def cnChk (XN:List Str) (scope:Scope) (N:List Str) (k:Nat) (sel:List Nat):Bool:=decide (N.length=k+sel.length) && (List.range sel.length).all fun i=>match sel[i]?,N[k+i]? with
 | some j,some x=>decide (XN[j]? = some x) && decide (scope.names.lookup x=some .free)
 | _,_=>false
theorem CNames.of {scope:Scope}{N:List Str}{k:Nat}{sel:List Nat} (XN:List Str) (h:cnChk XN scope N k sel=true) (e:X.N=XN:=by rfl):CNames X scope N k sel:=by
 unfold cnChk at h
 simp only [Bool.and_eq_true,decide_eq_true_eq] at h
 refine ⟨h.1,fun i j x h1 h2=>?_⟩
 have hi:i<sel.length:=(List.getElem?_eq_some_iff.mp h1).1
 have q:=List.all_eq_true.mp h.2 i (List.mem_range.mpr hi)
 rw [h1,h2] at q
 simp only [Bool.and_eq_true,decide_eq_true_eq] at q
 rw [e]
 exact q
end
theorem hr8 {A:Around}{k:Nat} (hr:Room k A):A.units+8<cLine:=by have:=hr.units;omega
section
variable {X:Cx}{a b:Expr}{te:TE}
def cPart (t:TE):TO:=fun σ H Q=>t σ H fun x H1=>match x with | .int i=>Q (some i) H1 | _=>False
theorem cPart_eq (t:TE):cPart t=tPart t:=by
 funext σ H Q
 unfold cPart tPart
 congr 1
 funext x H'
 apply propext
 cases x <;> first
  | exact ⟨fun q=>⟨_,rfl,q⟩,fun ⟨i,e,q⟩=>by cases e;exact q⟩
  | exact ⟨fun q=>False.elim q,fun ⟨i,e,q⟩=>by cases e⟩
theorem e_part (h:PE X a te):PO X (some a) (cPart te):=by
 rw [cPart_eq]
 exact po_some h
def cNeg:V→Hp→VK→Prop:=fun x H Q=>match x with | .int i=>Q (.int (-i)) H | _=>False
theorem u_neg:UnR X (unaryOp .USub) cNeg:=fun pins s σ H x v Q I rx h=>by
 cases x <;> first | exact False.elim h | exact un_neg pins s σ H _ v Q I rx ⟨_,rfl,h⟩
theorem t_pc {op:CmpOp}{t:TE}{pos:Pos} (h:PC X op a b t) (h1:behindInMarks op b=false:=by first | exact nobehind _ (by decide) (by decide) | rfl | with_unfolding_all rfl):PT X (.Compare a [op] [b] pos) (cTst t):=by
 have e:cTst t=tB t:=by
  funext σ H Q
  unfold cTst tB
  congr 1
  funext x H'
  exact cBool_eq
 rw [e]
 exact pt_cmp h h1
end
section
variable {K:PySem.W.Frag}{σ:St}{sel:List Nat}{rest:St}{H:Hp}{p:Addr}{tt:TT}{te:TE}{Q:VK}
abbrev CompGoal (J:It) (σ:St) (k:Nat) (sel:List Nat) (g:TG) (tt:TT) (te:TE) (Q:VK) (H1:Hp) (p:Addr):Prop :=
 ∃ W:Nat→Nat→St→Hp→Prop,(∃ m,W 0 m (cst σ k sel) (upd H1 p (.lst [])))∧∀ i m σ2 H2,W i m σ2 H2 →
  (J.stop i H2∧Q (.ref p) H2)∨(J.go i H2∧∀ x H3,J.yld i H2 x H3→g x σ2 H3 fun σ4 H4=>tt σ4 H4 fun b H5 =>
   if b=true then te σ4 H5 fun v H6=>∃ ys,H6 p=some (.lst ys)∧ys.length<sizeLine∧∃ m',m'<m∧W (i+1) m' σ4 (upd H6 p (.lst (ys ++ [v]))) else ∃ m',m'<m∧W (i+1) m' σ4 H5)
theorem comp_inv {J:It}{n:Nat}{item:Nat→V} (Pv:Nat→Hp→Prop) (hr:sel.map (fun j=>(σ[j]?).join)=rest) (h0:Pv 0 (upd H p (.lst [])))
  (src:∀ i H2,i<n→Pv i H2→J.go i H2∧∀ x H3,J.yld i H2 x H3→H3=H2∧x=item i) (fin:∀ H2,Pv n H2→J.stop n H2)
  (step:∀ i H2 (R:Hp→Prop),i<n→Pv i H2→(∀ H',Pv (i+1) H'→R H')→tt (some (item i) :: rest) H2 fun b H5 =>
   if b=true then te (some (item i) :: rest) H5 fun v H6=>∃ ys,H6 p=some (.lst ys)∧ys.length<sizeLine∧R (upd H6 p (.lst (ys ++ [v]))) else R H5)
  (hQ:∀ H2,Pv n H2→Q (.ref p) H2):CompGoal J σ 1 sel (gName 0) tt te Q H p:=by
 refine ⟨fun i m σ2 H2=>i≤n∧m=n - i+1∧(∃ v,σ2=v :: rest)∧Pv i H2,⟨n+1,Nat.zero_le _,rfl,⟨none,?_⟩,h0⟩,?_⟩
 ·unfold cst;rw [hr];rfl
 ·rintro i m σ2 H2 ⟨hi,rfl,⟨v,rfl⟩,hP⟩
  by_cases hlt:i<n
  ·right
   obtain ⟨hg,hy⟩:=src i H2 hlt hP
   refine ⟨hg,fun x H3 hx=>?_⟩
   obtain ⟨rfl,rfl⟩:=hy x H3 hx
   exact step i H3 (fun H'=>∃ m',m'<n - i+1∧i+1≤n∧m'=n - (i+1)+1∧(∃ v,(some (item i) :: rest:St)=v :: rest)∧Pv (i+1) H') hlt hP fun H' h'=>⟨n - (i+1)+1,by omega,hlt,rfl,⟨_,rfl⟩,h'⟩
  ·left
   have e:i=n:=by omega
   subst e
   exact ⟨fin H2 hP,hQ H2 hP⟩
theorem src_list {a:Addr}{xs:List V}{Pv:Nat→Hp→Prop} (hl:∀ i H2,i≤xs.length→Pv i H2→SqL K H2 a xs):∀ i H2,i<xs.length→Pv i H2→(Itl K a).go i H2∧∀ x H3,(Itl K a).yld i H2 x H3→H3=H2∧x=xs.getD i .non:=fun i H2 hi hP=>by
 have q:=hl i H2 (Nat.le_of_lt hi) hP
 have e:xs[i]? = some (xs.getD i .non):=by simp [List.getD,hi]
 refine ⟨⟨xs,_,q,e⟩,fun x H3 ⟨h1,h2⟩=>⟨h1,?_⟩⟩
 have:=h2 xs q
 rw [e] at this
 exact (Option.some.inj this).symm
theorem src_rng {lo:Int}{n:Nat}{Pv:Nat→Hp→Prop}:∀ i H2,i<n→Pv i H2→(Itr lo n).go i H2∧∀ x H3,(Itr lo n).yld i H2 x H3→H3=H2∧x=.int (lo+i):=fun i H2 hi hP=>⟨hi,fun x H3 h=>h⟩
theorem same_upd {H:Hp}{p:Addr}{o:HO} (hp:H p=none):Same H (upd H p o):=fun b u e=>by rw [upd_ne (ne_of_none e hp)];exact e
end
def cRef (x:V) (k:Addr→Prop):Prop:=match x with | .ref p=>k p | _=>False
theorem cRef_eq {x:V}{k:Addr→Prop}:(∃ p,x=.ref p∧k p)=cRef x k:=by
 apply propext
 cases x <;> first
  | exact ⟨fun ⟨p,e,q⟩=>by cases e;exact q,fun q=>⟨_,rfl,q⟩⟩
  | exact ⟨fun ⟨p,e,q⟩=>(by cases e),fun q=>False.elim q⟩
def cInt1 (vs:List V) (k:Int→Prop):Prop:=match vs with | [.int j]=>k j | _=>False
theorem cInt1_eq {vs:List V}{k:Int→Prop}:(∃ j,vs=[.int j]∧k j)=cInt1 vs k:=by
 apply propext
 constructor
 ·rintro ⟨j,rfl,q⟩;exact q
 ·intro h
  unfold cInt1 at h
  split at h
  ·exact ⟨_,rfl,h⟩
  ·exact h.elim
def ForGoal (J:It) (g:TG) (tb:TS) (D:Ends) (σ:St) (H:Hp):Prop:=∃ W:Nat→Nat→St→Hp→Prop,(∃ m,W 0 m σ H)∧∀ i m σ H,W i m σ H →
 (J.stop i H∧D.nx σ H)∨(J.go i H∧∃ N:St→Hp→Prop,(∀ σ' H',N σ' H'→∃ m',m'<m∧W (i+1) m' σ' H')∧∀ x H',J.yld i H x H'→g x σ H' fun σ2 H2=>tb { D with nx:=N,ct:=N,bk:=D.nx } σ2 H2)
def CompG (J:It) (σ:St) (k:Nat) (sel:List Nat) (g:TG) (tt:TT) (te:TE) (Q:VK) (H1:Hp):Prop:=∀ p,H1 p=none→CompGoal J σ k sel g tt te Q H1 p
section
variable {K:PySem.W.Frag}{te:TE}{ta:TA}{g:TG}{tb:TS}{D:Ends}{σ:St}{H:Hp}{p:Addr}{xs:List V}{k:Nat}{sel:List Nat}{tt:TT}{el:TE}{Q:VK}
theorem tFor_list:tFor (iList K te) g tb D σ H=te σ H (fun x H1=>cRef x fun p=>(∃ xs,SqL K H1 p xs)∧ForGoal (Itl K p) g tb D σ H1):=by
 unfold tFor iList
 congr 1
 funext x H1
 exact cRef_eq
theorem tFor_tup:tFor (iTup K te) g tb D σ H=te σ H (fun x H1=>cRef x fun p=>(∃ xs,SqT K H1 p xs)∧ForGoal (Itt K p) g tb D σ H1):=by
 unfold tFor iTup
 congr 1
 funext x H1
 exact cRef_eq
theorem tFor_rng1:tFor (iRng1 ta) g tb D σ H=ta σ H (fun vs H1=>cInt1 vs fun j=>-(2 ^ 62)≤j∧j<2 ^ 62∧ForGoal (Itr 0 j.toNat) g tb D σ H1):=by
 unfold tFor iRng1
 congr 1
 funext x H1
 exact cInt1_eq
theorem tComp_list:tComp (iList K te) k sel g tt el σ H Q=te σ H (fun x H1=>cRef x fun p=>(∃ xs,SqL K H1 p xs)∧CompG (Itl K p) σ k sel g tt el Q H1):=by
 unfold tComp iList
 congr 1
 funext x H1
 exact cRef_eq
theorem tComp_tup:tComp (iTup K te) k sel g tt el σ H Q=te σ H (fun x H1=>cRef x fun p=>(∃ xs,SqT K H1 p xs)∧CompG (Itt K p) σ k sel g tt el Q H1):=by
 unfold tComp iTup
 congr 1
 funext x H1
 exact cRef_eq
theorem tComp_rng1:tComp (iRng1 ta) k sel g tt el σ H Q=ta σ H (fun vs H1=>cInt1 vs fun j=>-(2 ^ 62)≤j∧j<2 ^ 62∧CompG (Itr 0 j.toNat) σ k sel g tt el Q H1):=by
 unfold tComp iRng1
 congr 1
 funext x H1
 exact cInt1_eq
theorem for_listG (Pv:Nat→St→Hp→Prop) (h0:Pv 0 σ H) (hk:∀ i σ H,i≤xs.length→Pv i σ H→SqL K H p xs)
  (hs:∀ i x σ H,xs[i]? = some x→Pv i σ H→g x σ H fun σ2 H2=>tb { D with nx:=Pv (i+1),ct:=Pv (i+1),bk:=D.nx } σ2 H2) (hd:∀ σ H,Pv xs.length σ H→D.nx σ H):ForGoal (Itl K p) g tb D σ H:=for_list Pv h0 hk hs hd
theorem for_tupG (Pv:Nat→St→Hp→Prop) (h0:Pv 0 σ H) (hk:∀ i σ H,i≤xs.length→Pv i σ H→SqT K H p xs)
  (hs:∀ i x σ H,xs[i]? = some x→Pv i σ H→g x σ H fun σ2 H2=>tb { D with nx:=Pv (i+1),ct:=Pv (i+1),bk:=D.nx } σ2 H2) (hd:∀ σ H,Pv xs.length σ H→D.nx σ H):ForGoal (Itt K p) g tb D σ H:=for_tup Pv h0 hk hs hd
theorem for_rngG {lo:Int}{n:Nat} (Pv:Nat→St→Hp→Prop) (h0:Pv 0 σ H)
  (hs:∀ (i:Nat) σ H,i<n→Pv i σ H→g (.int (lo+i)) σ H fun σ2 H2=>tb { D with nx:=Pv (i+1),ct:=Pv (i+1),bk:=D.nx } σ2 H2) (hd:∀ σ H,Pv n σ H→D.nx σ H):ForGoal (Itr lo n) g tb D σ H:=for_range Pv h0 hs hd
end
theorem atI_ok {α:Type}{xs:List α}{i:Int} (d:α) (h0:0≤i) (h1:i<xs.length):atI xs i=some (xs.getD i.toNat d):=by
 obtain ⟨n,rfl⟩:=Int.eq_ofNat_of_zero_le h0
 have hn:n<xs.length:=by omega
 have e:xs[n]? = some (xs.getD n d):=by simp [List.getD,hn]
 exact atI_nat e
theorem getD_map {α β:Type} (f:α→β) (xs:List α) (n:Nat) (d:α):(xs.map f).getD n (f d)=f (xs.getD n d):=by
 simp [List.getD]
theorem atI_map {α β:Type}{f:α→β}{xs:List α}{i:Int} (d:α) (h0:0≤i) (h1:i<xs.length):atI (xs.map f) i=some (f (xs.getD i.toNat d)):=by
 rw [atI_ok (f d) h0 (by rw [List.length_map];exact h1),getD_map]
theorem get_map_of {α β:Type}{f:α→β}{xs:List α}{i:Nat}{y:β} (h:(xs.map f)[i]? = some y):∃ x,xs[i]? = some x∧y=f x:=by
 rw [List.getElem?_map] at h
 cases e:xs[i]? with
 | none=>rw [e] at h;cases h
 | some x=>rw [e] at h;exact ⟨x,rfl,(Option.some.inj h).symm⟩
theorem vals_of_abs:∀ {us:List Value}{xs:List V},us.mapM absV=some xs→Vals xs us
 | [],xs,h=>by
  have:xs=[]:=by simpa using h.symm
  subst this
  exact .nil
 | u :: r,xs,h=>by
  rw [List.mapM_cons] at h
  cases hu:absV u with
  | none=>rw [hu] at h;cases h
  | some x =>
   rw [hu] at h
   cases hr:r.mapM absV with
   | none=>rw [hr] at h;cases h
   | some ys =>
    rw [hr] at h
    have e:x :: ys=xs:=Option.some.inj h
    subst e
    refine .cons ?_ (vals_of_abs hr)
    cases u <;> simp only [absV,reduceCtorEq,Option.some.injEq] at hu <;> subst hu <;> first | rfl | exact ⟨_,rfl⟩
theorem sqT_mod {K:PySem.W.Frag}{H:Hp}{a:Addr}{o:Obj}{its:Array Value}{n:Nat}{xs:List V} (h1:K.lookup a=some o) (h2:o.cls=.type "tuple") (h3:o.data=.seq its n) (h4:its.toList.mapM absV=some xs) (h5:xs.length≤sizeLine):SqT K H a xs:=by
 have r:=vals_of_abs h4
 refine .inr ⟨o,its,n,h1,h2,h3,?_,r⟩
 have e:=r.length
 have e2:its.toList.length=its.size:=by simp
 omega
theorem pe_globE {X:Cx}{x:Str}{v:V}{pos:Pos} (hg:Gl X x) (hm:∃ u,X.mg x=some u∧RelV v u) (hd:(x == ("__debug__" : Str))=false:=by decide):PE X (.Name x pos) (tC v):=by
 obtain ⟨u,h1,h2⟩:=hm
 exact pe_glob hg h1 h2 hd
def constV:Expr→Option V
 | .Constant (.int i) _ _=>some (.int i)
 | .Constant (.bool b) _ _=>some (.bl b)
 | .Constant .none _ _=>some .non
 | .Constant (.str x) _ _=>some (.str x)
 | _=>none
def constVs:List Expr→Option (List V)
 | []=>some []
 | e :: r=>match constV e,constVs r with | some v,some vs=>some (v :: vs) | _,_=>none
def tVals (vs:List V):TA:=fun _ H Q=>Q vs H
theorem pe_constV {X:Cx}{e:Expr}{v:V} (h:constV e=some v):PE X e (tC v):=by
 unfold constV at h
 split at h <;> first
  | (cases h;exact pe_int)
  | (cases h;exact pe_bl)
  | (cases h;exact pe_non)
  | (cases h;exact pe_str)
  | cases h
theorem star_const {e:Expr}{es:List Expr}{env:Env}{v:V} (h:constV e=some v):starEach (e :: es) env=(false,eval e env) :: starEach es env:=by
 unfold constV at h
 split at h <;> first | rfl | cases h
theorem pa_consts {X:Cx}:∀ {es:List Expr}{vs:List V},constVs es=some vs→PA X es (tVals vs)
 | [],vs,h=>by
  have e:vs=[]:=(Option.some.inj h).symm
  subst e
  exact fun pos pins s σ H Q I q=>pa_nil pos pins s σ H Q I q
 | e :: r,vs,h=>by
  unfold constVs at h
  cases h1:constV e with
  | none=>rw [h1] at h;cases h
  | some v =>
   cases h2:constVs r with
   | none=>rw [h1,h2] at h;cases h
   | some ws =>
    rw [h1,h2] at h
    have e':v :: ws=vs:=Option.some.inj h
    subst e'
    exact fun pos pins s σ H Q I q=>pa_cons (pe_constV h1) (pa_consts h2) (star_const h1) pos pins s σ H Q I q
def constKs:List (Option Expr)→List Expr→Option (List (Key × V))
 | [],[]=>some []
 | some k :: ks,v :: vs=>match constV k,constV v,constKs ks vs with
  | some (.int i),some y,some r=>some ((.inl i,y) :: r)
  | some (.str x),some y,some r=>some ((.inr x,y) :: r)
  | _,_,_=>none
 | _,_=>none
theorem constKs_all:∀ {ks:List (Option Expr)}{vs:List Expr}{kvs:List (Key × V)},constKs ks vs=some kvs→ks.all (·.isSome)=true∧ks.length=vs.length∧kvs.length=ks.length
 | [],[],kvs,h=>by
  have e:kvs=[]:=(Option.some.inj h).symm
  subst e
  exact ⟨rfl,rfl,rfl⟩
 | [],_ :: _,_,h=>by cases h
 | none :: _,_,_,h=>by simp [constKs] at h
 | some k :: ks,[],_,h=>by cases h
 | some k :: ks,v :: vs,kvs,h=>by
  unfold constKs at h
  cases h3:constKs ks vs with
  | none =>
   rw [h3] at h
   split at h <;> first | (rename_i e;cases e;done) | (cases h;done)
  | some r =>
   obtain ⟨q1,q2,q3⟩:=constKs_all h3
   rw [h3] at h
   split at h
   ·rename_i e;cases e;cases h;exact ⟨by simpa using q1,by simp [q2],by simp [q3]⟩
   ·rename_i e;cases e;cases h;exact ⟨by simpa using q1,by simp [q2],by simp [q3]⟩
   ·cases h
def constPs:List (Key × V)→List (TE × TE):=fun kvs=>kvs.map fun kv=>(tC (kV kv.1),tC kv.2)
theorem pps_consts {X:Cx}{pos:Pos}:∀ {ks:List (Option Expr)}{vs:List Expr}{kvs:List (Key × V)},constKs ks vs=some kvs→PPs X pos ks vs (constPs kvs)
 | [],[],kvs,h=>by
  have e:kvs=[]:=(Option.some.inj h).symm
  subst e
  exact pps_nil
 | [],_ :: _,_,h=>by cases h
 | none :: _,_,_,h=>by simp [constKs] at h
 | some k :: ks,[],_,h=>by cases h
 | some k :: ks,v :: vs,kvs,h=>by
  unfold constKs at h
  cases h3:constKs ks vs with
  | none =>
   rw [h3] at h
   split at h <;> first | (rename_i e;cases e;done) | (cases h;done)
  | some r =>
   have ih:=pps_consts (X:=X) (pos:=pos) h3
   rw [h3] at h
   split at h
   ·rename_i e1 e2 e;cases e;cases h;exact pps_cons (pe_constV e1) (pe_constV e2) ih
   ·rename_i e1 e2 e;cases e;cases h;exact pps_cons (pe_constV e1) (pe_constV e2) ih
   ·cases h
theorem tPairs_consts {σ:St}{H:Hp}:∀ (kvs:List (Key × V)) (Q:List (V × V)→Hp→Prop),Q (kvs.map fun kv=>(kV kv.1,kv.2)) H→tPairs (constPs kvs) σ H Q
 | [],Q,h=>h
 | kv :: r,Q,h=>tPairs_consts r (fun ps H3=>Q ((kV kv.1,kv.2) :: ps) H3) h
def tDispC (kvs:List (Key × V)):TE:=fun _ H Q=>∀ p,H p=none→Q (.ref p) (upd H p (.dK kvs))
theorem e_dispC {X:Cx}{pos:Pos}{keys:List (Option Expr)}{values:List Expr} (kvs:List (Key × V)) (h:constKs keys values=some kvs) (hm:mergeK [] kvs=kvs) (hk:keys≠[]) (hl:kvs.length≤15):PE X (.Dict keys values pos) (tDispC kvs):=by
 obtain ⟨q1,q2,q3⟩:=constKs_all h
 refine (pe_disp (pps_consts h) q1 q2 hk (by omega)).imp fun σ H Q q p hp=>tPairs_consts kvs _ ⟨upd_same,kvs,rfl,hl,?_⟩
 rw [hm,upd_upd]
 exact q p hp
section
variable {X:Cx}{tg:Expr}
def cSlS:V→Option Int→Option Int→Hp→VK→Prop:=fun x lo hi H Q=>match x with
 | .str z=>z.length≤sizeLine∧Q (.str (Txt.slice z lo hi)) H
 | _=>False
theorem s_str:SlR X cSlS:=by
 intro pins s σ H x v vl vu lo hi sl Q I rx hs pl pu h
 cases x with
 | str z =>
  obtain ⟨t,rfl⟩:=rx
  obtain ⟨hz,q⟩:=h
  refine ⟨"str",_,F.slot_str_getitem.lookup,typeIs_str _ _ _,?_⟩
  have fin:∀ t' k,EP X pins σ Q (.str (Txt.slice z lo hi) t') { s with toks:=k }:=fun t' k=>⟨.str (Txt.slice z lo hi),H,I.tok k,⟨t',rfl⟩,q⟩
  cases pl with
  | none=>cases pu with
   | none=>exact wpAny_getItem_str_slice (l:=none) (u:=none) (st:=none) hs rfl (post_val_or_str ⟨Nat.le_trans (Txt.slice_le z _ _) hz,fin⟩)
   | int j uj=>exact wpAny_getItem_str_slice (l:=none) (u:=some (j,uj)) (st:=none) hs rfl (post_val_or_str ⟨Nat.le_trans (Txt.slice_le z _ _) hz,fin⟩)
  | int i ui=>cases pu with
   | none=>exact wpAny_getItem_str_slice (l:=some (i,ui)) (u:=none) (st:=none) hs rfl (post_val_or_str ⟨Nat.le_trans (Txt.slice_le z _ _) hz,fin⟩)
   | int j uj=>exact wpAny_getItem_str_slice (l:=some (i,ui)) (u:=some (j,uj)) (st:=none) hs rfl (post_val_or_str ⟨Nat.le_trans (Txt.slice_le z _ _) hz,fin⟩)
 | _=>exact False.elim h
def Its (z:Str):It:=⟨fun i _=>i<z.cps.size,fun i H x H'=>H'=H∧∃ c,z.cps[i]? = some c∧x=.str ⟨#[c]⟩,fun i _=>z.cps.size≤i⟩
theorem turn_str {P:Program}{w:World}{K:PySem.W.Frag}{tg:Expr} (it:Addr) (z:Str) (t:Tok) (ty:String) (hty:ty = "str_ascii_iterator" ∨ ty = "str_iterator") :
  Turn P w K tg (Its z) [it] it (fun i h=>h.IsStrIter it ty z t i) where
 mem:=by simp
 obj:=fun i h st b hb=>by
  have e:b=it:=by simpa using hb
  subst e
  obtain ⟨o,e,c,d⟩:=st
  exact ⟨o,e,fun v z=>by rw [d] at z;cases z⟩
 keep:=fun i h h' st k=>by
  obtain ⟨o,e,c,d⟩:=st
  exact ⟨o,k it (by simp) o e,c,d⟩
 item:=by
  intro X hP hw hK hc i pins s σ H E I hf st hg
  subst hP hw hK
  obtain ⟨f0,f1,f2,f3,f4,f5⟩:=hf it (by simp)
  have hi:i<z.cps.size:=hg
  have hx:z.cps[i]? = some z.cps[i]:=by simp [hi]
  have fin:∀ h',h'.IsStrIter it ty z t (i+1)→Heap.SameBut it s.heap h'→∃ u,(some (Value.str ⟨#[z.cps[i]]⟩ s.toks))=some u ∧
    wpAny (model X.prog X.w) X.A (letOwnedTupleGo tg (.ref it) u) (fun _ s2=>∃ x H',Inv X pins σ H' s2∧RelV x u∧(Its z).yld i H x H'∧s2.heap.IsStrIter it ty z t (i+1)∧∀ b∈[it],H' b=none) E { s with heap:=h',toks:=s.toks+1 }:=fun h' st' sb=>by
   have I1:Inv X pins σ H { s with heap:=h',toks:=s.toks+1 }:=I.turned (fun b o hb e=>(sb.2 b hb).trans e) f0 f1 f3 f4 f5
   obtain ⟨o,e,cl,d⟩:=id st'
   exact ⟨_,rfl,go_of (s:={ s with heap:=h',toks:=s.toks+1 }) e cl d (by rcases hty with q | q <;> subst q <;> decide) ⟨.str ⟨#[z.cps[i]]⟩,H,I1,⟨s.toks,rfl⟩,⟨rfl,_,hx,rfl⟩,st',fun b hb=>(hf b hb).1⟩⟩
  rcases hty with q | q
  ·subst q
   exact wpAny_pyNext_ascii_item st hx fin
  ·subst q
   exact wpAny_pyNext_wide_item st hx fin
 done:=by
  intro X hP hw hK hc i pins s σ H E I hf st hg
  subst hP hw hK
  obtain ⟨f0,f1,f2,f3,f4,f5⟩:=hf it (by simp)
  have hx:z.cps[i]? = none:=by
   have:z.cps.size≤i:=hg
   simp;exact this
  rcases hty with q | q
  ·subst q
   exact wpAny_pyNext_ascii_end (I.ok.hd hc) st hx fun h' eb=>⟨rfl,I.turned (t':=s.toks) (fun b o hb e=>eb b o hb e) f0 f1 f3 f4 f5⟩
  ·subst q
   exact wpAny_pyNext_wide_end (I.ok.hd hc) st hx fun h' eb=>⟨rfl,I.turned (t':=s.toks) (fun b o hb e=>eb b o hb e) f0 f1 f3 f4 f5⟩
 self:=fun A i s Q E st h=>by
  rcases hty with q | q
  ·subst q
   exact wpAny_pyIter_striter_ascii st h
  ·subst q
   exact wpAny_pyIter_striter_wide st h
def iStr (tl:TE):TI:=fun σ H R=>tl σ H fun x H1=>match x with | .str z=>R (Its z) H1 | _=>False
theorem pi_str {l:Expr}{tl:TE} (hl:PE X l tl):PI X tg l (iStr tl):=by
 intro pins s σ H R I h
 refine thn (hl pins s σ H _ I h) fun v s1 ⟨x,H1,I1,r1,q1⟩=>?_
 cases x with
 | str z =>
  obtain ⟨t,rfl⟩:=r1
  have fin:∀ (ty:String),(ty = "str_ascii_iterator" ∨ ty = "str_iterator")→PIE X pins σ tg R (.ref s1.heap.objs.size) { s1 with heap:=s1.heap.push { cls:=.type ty,data:=.fields #[.str z t,.int 0 0] } }:=fun ty hty=>by
   refine ⟨s1.heap.objs.size,[s1.heap.objs.size],_,_,H1,rfl,I1.kept (t':=s1.toks) fun b o e=>Heap.get?_push_of_some _ e,turn_str _ z t ty hty,⟨_,Heap.get?_push_size _ rfl,rfl,rfl⟩,fun b hb=>?_,q1⟩
   have e:b=s1.heap.objs.size:=by simpa using hb
   subst e
   exact I1.fpOk (Nat.le_refl _) (I1.hok.fresh (Nat.le_refl _))
  cases ha:z.cps.all (· < 128)
  ·exact wpAny_pyIter_wide ha (fin _ (.inr rfl))
  ·exact wpAny_pyIter_ascii ha (fin _ (.inl rfl))
 | _=>exact False.elim q1
variable {te:TE}{g:TG}{tb:TS}{D:Ends}{σ:St}{H:Hp}{k:Nat}{sel:List Nat}{tt:TT}{el:TE}{Q:VK}
theorem tFor_str:tFor (iStr te) g tb D σ H=te σ H (fun x H1=>match x with | .str z=>ForGoal (Its z) g tb D σ H1 | _=>False):=rfl
theorem tComp_str:tComp (iStr te) k sel g tt el σ H Q=te σ H (fun x H1=>match x with | .str z=>CompG (Its z) σ k sel g tt el Q H1 | _=>False):=by
 unfold tComp iStr CompG
 congr 1
theorem src_str {z:Str}{Pv:Nat→Hp→Prop}:∀ i H2,i<z.cps.size→Pv i H2→(Its z).go i H2∧∀ x H3,(Its z).yld i H2 x H3→H3=H2∧x=.str ⟨#[z.cps.getD i 0]⟩:=fun i H2 hi hP=>by
 refine ⟨hi,fun x H3 ⟨h1,c,h2,h3⟩=>⟨h1,?_⟩⟩
 have e:z.cps.getD i 0=c:=by
  have:z.cps[i]? = some z.cps[i]:=by simp [hi]
  rw [this] at h2
  cases h2
  simp [Array.getD,hi]
 rw [e];exact h3
theorem comp_str {rest:St}{p:Addr}{z:Str} (f:Nat→V) (hp:H p=none) (hr:sel.map (fun j=>(σ[j]?).join)=rest) (hz:z.cps.size≤sizeLine)
  (he:∀ c H' (Q':VK),c∈z.cps.toList→Same H H'→Q' (f c) H'→el (some (.str ⟨#[c]⟩) :: rest) H' Q') (hQ:Q (.ref p) (upd H p (.lst (z.cps.toList.map f)))):CompGoal (Its z) σ 1 sel (gName 0) tTrue el Q H p:=by
 have hlen:z.cps.toList.length=z.cps.size:=by simp
 refine comp_inv (n:=z.cps.size) (item:=fun i=>.str ⟨#[z.cps.getD i 0]⟩) (fun i H2=>H2=upd H p (.lst ((z.cps.toList.take i).map f))) hr (by simp) src_str ?_ ?_ ?_
 ·rintro H2 rfl
  exact Nat.le_refl _
 ·rintro i H2 R hi rfl hR
  unfold tTrue
  dsimp only
  rw [if_pos rfl]
  have e:z.cps.toList[i]? = some (z.cps.getD i 0):=by simp [Array.getD,hi]
  refine he _ _ _ (List.mem_of_getElem? e) (same_upd hp) ⟨_,upd_same,?_,hR _ ?_⟩
  ·rw [List.length_map,List.length_take];omega
  ·rw [upd_upd,List.take_add_one,e,List.map_append];rfl
 ·rintro H2 rfl
  rw [← hlen,List.take_length]
  exact hQ
def cAll (K:PySem.W.Frag):List V→Hp→VK→Prop:=fun vs H Q=>match vs with
 | [.ref p]=>∃ bs:List Bool,SqL K H p (bs.map V.bl)∧Q (.bl (bs.all id)) H
 | _=>False
theorem c_all (hc:X.calm=true):CallR X (.builtin "all") (cAll X.K):=by
 intro pins s σ H xs us Q I r h
 match xs,h with
 | [.ref p],h =>
  obtain ⟨bs,h1,q⟩:=h
  obtain ⟨u,rfl,ru⟩:=vals1 r
  cases ru
  obtain ⟨its,rv,pl,hz⟩:=I.list h1
  have hlen:=rv.length
  rw [List.length_map] at hlen
  have hlt:p<s.heap.objs.size:=by obtain ⟨_,e,_⟩:=pl.isList;exact Heap.lt_size e
  have hh:X.A.in1.handled=none:=I.ok.hd hc
  refine call_all_walk (wpAny_pyIter_list pl.isList ⟨s.heap.objs.size,_,_,its.toArray.size,_,_,fun i=>bs.getD i false,rfl,Walks.list hh s.heap.objs.size p (Nat.ne_of_lt hlt) its.toArray,⟨⟨_,Heap.get?_push_size _ rfl,rfl,rfl⟩,pl.isList.push _⟩,?_,?_⟩)
  ·intro i v Q' E' s' hv hq
   have hv':its[i]? = some v:=by simpa using hv
   have hi:i<its.length:=(List.getElem?_eq_some_iff.mp hv').1
   obtain ⟨u,hu,ru⟩:=rv.get (i:=i) (x:=.bl (bs.getD i false)) (by rw [List.getElem?_map];simp [List.getD,show i<bs.length by omega])
   rw [hv'] at hu
   cases hu
   cases ru
   exact wpAny_truthy_bool hq
  ·intro h' tk kk
   refine ⟨.bl (bs.all id),H,?_,?_,q⟩
   ·exact I.kept fun b o e=>kk b o (by simp;exact Nat.ne_of_lt (Heap.lt_size e)) (Heap.get?_push_of_some _ e)
   ·have e:((List.range its.toArray.size).all fun i=>bs.getD i false)=bs.all id:=by
     rw [List.size_toArray,← hlen]
     rw [Bool.eq_iff_iff]
     simp only [List.all_eq_true,List.mem_range,id_eq]
     constructor
     ·intro z b hb
      obtain ⟨i,hi,rfl⟩:=List.mem_iff_getElem.mp hb
      have:=z i hi
      simpa [List.getD,hi] using this
     ·intro z i hi
      have:=z bs[i] (List.getElem_mem _)
      simpa [List.getD,hi] using this
    rw [e];rfl
def cMul:R2:=fun x y H Q=>match x,y with
 | .int i,.int j=>CMul i j∧Q (.int (i * j)) H
 | .str z,.int n=>MulOk z n∧Q (.str (Txt.mul z n)) H
 | _,_=>False
theorem o_mul:OpR X (binaryOp .Mult) cMul:=by
  intro pins s σ H x y v u Q I rx ry h
  cases x <;> cases y <;> first
    | exact False.elim h
    | exact op_mul pins s σ H _ _ v u Q I rx ry ⟨_,_,rfl,rfl,h.1,h.2⟩
    | (obtain ⟨t,rfl⟩:=rx
       obtain ⟨t',rfl⟩:=ry
       exact SB.mul h.1 fun t'' k=>⟨.str _,H,I.tok k,⟨t'',rfl⟩,h.2⟩)
end
structure New (H:Hp) (p:Addr) (o:HO) (H':Hp):Prop where
 was:H p=none
 eq:H'=upd H p o
section
variable {H H':Hp}{p:Addr}{o:HO}
theorem New.same (n:New H p o H'):Same H H':=by rw [n.eq];exact same_upd n.was
theorem New.at_ (n:New H p o H'):H' p=some o:=by rw [n.eq];exact upd_same
theorem New.sq {K:PySem.W.Frag}{xs:List V} (n:New H p (.lst xs) H'):SqL K H' p xs:=.of n.at_
theorem New.sqT {K:PySem.W.Frag}{xs:List V} (n:New H p (.tup xs) H'):SqT K H' p xs:=.of n.at_
theorem new_eq {F:Addr→Hp→Prop}{o:HO}:(∀ p,H p=none→F p (upd H p o)) = ∀ p H',New H p o H'→F p H' :=
 propext ⟨fun h p H' n=>by rw [n.eq];exact h p n.was,fun h p hp=>h p _ ⟨hp,rfl⟩⟩
end
section
variable {K:PySem.W.Frag}{t:TA}{σ:St}{H:Hp}{Q:VK}{x:V}{lo hi:Option Int}{vs:List V}{kvs:List (Key × V)}
theorem tLst_n:tLst t σ H Q=t σ H fun xs H1=>xs.length≤sizeLine∧∀ p H',New H1 p (.lst xs) H'→Q (.ref p) H':=by
 unfold tLst;congr 1;funext xs H1;rw [new_eq (F:=fun p H'=>Q (.ref p) H')]
theorem tTup_n:tTup t σ H Q=t σ H fun xs H1=>xs.length≤sizeLine∧∀ p H',New H1 p (.tup xs) H'→Q (.ref p) H':=by
 unfold tTup;congr 1;funext xs H1;rw [new_eq (F:=fun p H'=>Q (.ref p) H')]
theorem tDispC_n:tDispC kvs σ H Q = ∀ p H',New H p (.dK kvs) H'→Q (.ref p) H':=by
 unfold tDispC;rw [new_eq (F:=fun p H'=>Q (.ref p) H')]
theorem cSlL_n {p:Addr}:cSlL K (.ref p) lo hi H Q = ∃ xs,SqL K H p xs∧∀ q H',New H q (.lst (cutV xs lo hi)) H'→Q (.ref q) H':=by
 unfold cSlL
 dsimp only
 congr 1;funext xs;rw [new_eq (F:=fun p H'=>Q (.ref p) H')]
theorem cList_n {p:Addr}:cList K [.ref p] H Q = ∃ ys,(SqL K H p ys∨SqT K H p ys)∧∀ l H',New H l (.lst ys) H'→Q (.ref l) H':=by
 unfold cList
 dsimp only
 congr 1;funext xs;rw [new_eq (F:=fun p H'=>Q (.ref p) H')]
theorem cTuple_n {p:Addr}:cTuple K [.ref p] H Q = ∃ ys,((SqL K H p ys∧∀ l H',New H l (.tup ys) H'→Q (.ref l) H')∨(SqT K H p ys∧Q (.ref p) H)):=by
 unfold cTuple
 dsimp only
 congr 1;funext xs;rw [new_eq (F:=fun p H'=>Q (.ref p) H')]
end
section
variable {K:PySem.W.Frag}{σ:St}{sel:List Nat}{rest:St}{H:Hp}{tt:TT}{te:TE}{Q:VK}
theorem compG_str {z:Str} (f:Nat→V) (hr:sel.map (fun j=>(σ[j]?).join)=rest) (hz:z.cps.size≤sizeLine)
  (he:∀ c H' (Q':VK),c∈z.cps.toList→Same H H'→Q' (f c) H'→te (some (.str ⟨#[c]⟩) :: rest) H' Q') (hQ:∀ p H',New H p (.lst (z.cps.toList.map f)) H'→Q (.ref p) H'):CompG (Its z) σ 1 sel (gName 0) tTrue te Q H :=
 fun p hp=>comp_str f hp hr hz he (hQ p _ ⟨hp,rfl⟩)
end
def cSlU (K:PySem.W.Frag):V→Option Int→Option Int→Hp→VK→Prop:=fun x lo hi H Q=>match x with
 | .ref p=>∃ xs,SqL K H p xs∧∀ q H',New H q (.lst (cutV xs lo hi)) H'→Q (.ref q) H'
 | .str z=>z.length≤sizeLine∧Q (.str (Txt.slice z lo hi)) H
 | _=>False
theorem s_u {X:Cx}:SlR X (cSlU X.K):=by
 intro pins s σ H x v vl vu lo hi sl Q I rx hs pl pu h
 cases x with
 | ref p=>exact s_list pins s σ H (.ref p) v vl vu lo hi sl Q I rx hs pl pu (by rw [cSlL_n];exact h)
 | str z=>exact s_str pins s σ H (.str z) v vl vu lo hi sl Q I rx hs pl pu h
 | _=>exact False.elim h
end L2
set_option maxHeartbeats 4000000
namespace DZ
open PySem
section
variable {prog:Program}{w:World}{A:Around}{E:Value→Shared→Prop}{s:Shared}
end
section
variable {M:Model}{A:Around}{E:Value→Shared→Prop}{s:Shared}
end
structure ZSt (z TI TO i1 i2 t l:Addr) (xs ys:Array Value) (i:Nat) (h:Heap):Prop where
 zo:∃ f0 f1,h.get? z=some { cls:=.type "zip",dict:=none,data:=.fields #[f0,.bool f1,.bool false,.ref TI,.ref TO],slots:=#[] } ∧
  (f0=.none∨∃ (T:Addr) (o:Obj),f0=rawInt T∧h.get? T=some o∧T≠z∧T≠TO∧T≠i1∧T≠i2)
 ti:IsPair h TI (.ref i1) (.ref i2)
 to:∃ a b,IsPair h TO a b
 a1:h.IsTupleIter i1 t i
 a2:h.IsListIter i2 l i
 l1:h.IsTuple t xs
 l2:h.IsList l ys
section
variable {prog:Program}{w:World}{A:Around}{E:Value→Shared→Prop}{s:Shared}
end
end DZ
set_option maxHeartbeats 4000000
namespace DZ
open PySem
section
variable {prog:Program}{w:World}{A:Around}{E:Value→Shared→Prop}{h:Heap}{g:Array GenState}{d:Drawn}{t:Nat}{os:OsState}{z:Addr}{vs:Array Value}
end
theorem mro_dict:mroOf (.type "dict")=pure [.type "dict",.type "object"]:=by rw [mroOf_type];kernel_rfl
theorem lk_dict_new:typeLookup (.type "dict") "__new__" = pure (some (.builtin "dict.__new__")):=by rw [typeLookup_type,builtinLookup_eq_fast];kernel_rfl
theorem called_dict:TypeCalled "dict" "dict.__new__" "dict.__init__" :=
 ⟨by decide +kernel,by decide +kernel,⟨_,_,mro_dict⟩,madeBy_type mro_dict lk_dict_new (by decide +kernel),by decide +kernel,by rw [isSubtype_type];kernel_rfl,F.slot_dict_init⟩
theorem typeCall_dict_1 (a:Value):checkTypeCall "dict" ⟨[a],[]⟩=pure ():=by kernel_rfl
theorem newCall_dict_1 (a:Value):checkBuiltinCall "dict.__new__" ⟨[.type "dict",a],[]⟩=pure ():=by kernel_rfl
theorem entry_dict_new:entryFor table "dict.__new__" = some Builtin.«dict.__new__»:=entryFor_of_tree (by kernel_rfl)
theorem entry_dict_loop:entryFor table "dict.update.loop" = some Builtin.«dict.update.loop»:=entryFor_of_tree (by kernel_rfl)
theorem plain_dict_new:plainId "dict.__new__" = true:=by decide +kernel
theorem plain_dict_loop:plainId "dict.update.loop" = true:=by decide +kernel
theorem sub_dict_self:isSubtype (.type "dict") (.type "dict")=pure true:=by rw [isSubtype_type];kernel_rfl
section
variable {prog:Program}{w:World}{A:Around}{E:Value→Shared→Prop}{s:Shared}
theorem dict_new (a:Value) {Q:Value→Shared→Prop} (h:Q (.ref s.heap.objs.size) { s with heap:=s.heap.push { cls:=.type "dict",data:=.dict #[] } }) :
  codeAny (model prog w) A (.call (.builtin "dict.__new__") ⟨[.type "dict",a],[]⟩) (wants Q E) s:=by
 refine codeAny_of_tree ?_
 show wpAny _ A.in1 (do checkBuiltinCall "dict.__new__" ⟨[.type "dict",a],[]⟩;again (.builtin "dict.__new__" ⟨[.type "dict",a],[]⟩)) _ _ s
 refine wpAny_bind (wpAny_of_eq (newCall_dict_1 a) (wpAny_pure ⟨plainId_quiet plain_dict_new _,codeAny_builtin entry_dict_new ?_⟩))
 rw [Around.under_plainId plain_dict_new _]
 have hsub:=sub_dict_self
 have hm:=mro_dict
 obtain ⟨hp,g,d,tk,os⟩:=s
 wp_walk
 exact h
end
end DZ
set_option maxHeartbeats 4000000
namespace DZ
open PySem
section
variable {prog:Program}{w:World}{A:Around}{E:Value→Shared→Prop}{s:Shared}
theorem len_stored {κ:Type} [DecidableEq κ] (kvs:List (κ × Value)) (k:κ) (v:Value):(stored kvs k v).length≤kvs.length+1:=by
 unfold stored
 split
 ·rw [List.length_map];exact Nat.le_succ _
 ·rw [List.length_append];exact Nat.le_refl _
variable {κ:Type} [DecidableEq κ] {knd:KeyKind prog w κ}
end
end DZ
set_option maxHeartbeats 4000000
namespace L2
open PySem PySem.Spec PyProof.Rows
section
variable {X:Cx}{pins:List (Addr × Obj)}{σ:St}{H:Hp}{s:Shared}{h':Heap}
theorem Inv.dz {t':Nat}{ch:List Addr}{d:Addr}{ob:HO} (I:Inv X pins σ H s) (hch:∀ b∈ch,FpOk X pins H b) (hd:s.heap.objs.size≤d) (k:∀ b o,b ∉ ch→s.heap.get? b=some o→h'.get? b=some o)
  (new:ObjOk X.prog X.w (upd H d ob) h' d ob):Inv X pins σ (upd H d ob) { s with heap:=h',toks:=t' }:=by
 have hn:H d=none:=I.hok.fresh hd
 have old:∀ {b o},s.heap.get? b=some o→b≠d:=fun e=>Nat.ne_of_lt (Nat.lt_of_lt_of_le (Heap.lt_size e) hd)
 have nch:∀ b u,H b=some u→b ∉ ch:=fun b u e z=>by rw [(hch b z).1] at e;cases e
 refine I.step (g':=s.gens) (d':=s.drawn) (ch:=ch) (fun b hb=>?_) (fun b o _ _ hc e _=>k b o hc e) (fun b o _ _ hc e _=>⟨o.slots,k b o hc e⟩) (fun b o _ e n=>by rw [upd_ne (old e)];exact n)
  (fun b o hc e=>⟨o,k b o hc e⟩) (fun b xs e=>by rw [upd_ne (ne_of_none e hn)];exact e) (fun b o u e=>by rw [upd_ne (ne_of_none e hn)];exact e) (fun b ps e=>⟨#[],by rw [upd_ne (ne_of_none e hn),e];simp⟩) (fun m hm=>?_) (fun b u e=>?_) I.bare
 ·obtain ⟨f0,f1,f2,f3,f4,f5⟩:=hch b hb
  exact ⟨f3,f1,f4,f5⟩
 ·obtain ⟨o,es,ep,ho,r⟩:=hm
  exact ⟨o,es,ep,k _ o (fun z=>(hch _ z).2.1 rfl) ho,r⟩
 ·by_cases hb:b=d
  ·subst hb
   rw [upd_same] at e
   cases e
   exact new
  ·rw [upd_ne hb] at e
   refine (I.hok b u e).stay (fun c v hc q=>k c v ?_ q) (fun c q=>by rw [upd_ne (ne_of_none q hn)];exact q) fun c xs q=>by rw [upd_ne (ne_of_none q hn)];exact q
   rcases hc with z | z
   ·rw [z];exact nch b u e
   ·exact nch c _ z
end
end L2
namespace NM
def okc (c:Nat):Prop:=97≤c∧c≤122
structure Nm (w:List Nat):Prop where
 pos:1≤w.length
 le:w.length≤8
 ok:∀ c∈w,okc c
def rank:List Nat→Nat:=fun w=>w.foldl (fun a c=>a * 26+(c - 96)) 0
def R:Nat→Nat | 0=>0 | n+1=>26 * R n+1
def M:Nat:=26 * R 8
theorem fold_app:∀ (s:List Nat) (a:Nat),s.foldl (fun a c=>a * 26+(c - 96)) a=a * 26 ^ s.length+rank s
 | [],a=>by simp [rank]
 | c :: s,a=>by
  have h1:=fold_app s (a * 26+(c - 96))
  have h2:=fold_app s (0 * 26+(c - 96))
  unfold rank
  rw [List.foldl_cons,List.foldl_cons,h1,h2,List.length_cons,Nat.pow_succ]
  rw [Nat.add_mul,Nat.add_mul,Nat.zero_mul,Nat.zero_add,Nat.mul_assoc,Nat.mul_comm 26 (26 ^ s.length),Nat.add_assoc]
theorem rank_app (p s:List Nat):rank (p ++ s)=rank p * 26 ^ s.length+rank s:=by
 show (p ++ s).foldl _ 0=_
 rw [List.foldl_append]
 exact fold_app s _
theorem rank_rep (c d:Nat) (hc:c=96+d):∀ k,rank (List.replicate k c)=d * R k
 | 0=>by simp [rank,R]
 | k+1=>by
  rw [List.replicate_succ',rank_app,rank_rep c d hc k]
  show d * R k * 26 ^ 1+(0 * 26+(c - 96))=d * R (k+1)
  have:c - 96=d:=by omega
  rw [this,Nat.zero_mul,Nat.zero_add,Nat.pow_one]
  show _=d * (26 * R k+1)
  rw [Nat.mul_add,Nat.mul_one,Nat.mul_assoc,Nat.mul_comm (R k) 26]
theorem R_pow:∀ k,26 * R k+1=R k+26 ^ k
 | 0=>by simp [R]
 | k+1=>by
  have h:=R_pow k
  show 26 * (26 * R k+1)+1=(26 * R k+1)+26 ^ (k+1)
  rw [Nat.pow_succ]
  omega
def nx (p:List Nat) (c k:Nat):List Nat:=p ++ (c+1) :: List.replicate k 97
theorem rank_nx (p:List Nat) (c k:Nat) (h:96≤c):rank (nx p c k)=rank (p ++ c :: List.replicate k 122)+1:=by
 unfold nx
 have e1:(p ++ (c+1) :: List.replicate k 97)=(p ++ [c+1]) ++ List.replicate k 97:=by simp
 have e2:(p ++ c :: List.replicate k 122)=(p ++ [c]) ++ List.replicate k 122:=by simp
 rw [e1,e2,rank_app,rank_app (p ++ [c]),rank_app p,rank_app p,rank_rep 97 1 rfl,rank_rep 122 26 rfl,List.length_replicate,List.length_replicate]
 have r1:rank [c+1]=rank [c]+1:=by
  show 0 * 26+(c+1 - 96)=0 * 26+(c - 96)+1
  omega
 rw [r1]
 have hk:=R_pow k
 show (rank p * 26 ^ 1+(rank [c]+1)) * 26 ^ k+1 * R k=(rank p * 26 ^ 1+rank [c]) * 26 ^ k+26 * R k+1
 rw [← Nat.add_assoc,Nat.add_mul (rank p * 26 ^ 1+rank [c]) 1]
 omega
theorem R_mono:∀ {a b:Nat},a≤b→R a≤R b:=by
 intro a b h
 induction h with
 | refl=>exact Nat.le_refl _
 | @step m _ ih=>show R a≤26 * R m+1;omega
theorem rank_le:∀ (w:List Nat),(∀ c∈w,okc c)→rank w≤26 * R w.length∧R w.length≤rank w:=by
 intro w
 induction w with
 | nil=>intro _;simp [rank,R]
 | cons c w ih =>
  intro h
  obtain ⟨i1,i2⟩:=ih fun d hd=>h d (List.mem_cons_of_mem _ hd)
  have hc:=h c List.mem_cons_self
  have e:rank (c :: w)=(c - 96) * 26 ^ w.length+rank w:=by
   have:=rank_app [c] w
   rw [List.singleton_append] at this
   rw [this]
   show (0 * 26+(c - 96)) * _+_=_
   rw [Nat.zero_mul,Nat.zero_add]
  have hk:=R_pow w.length
  have b1:(c - 96) * 26 ^ w.length≤26 * 26 ^ w.length:=Nat.mul_le_mul_right _ (by have:=hc.2;omega)
  have b2:1 * 26 ^ w.length≤(c - 96) * 26 ^ w.length:=Nat.mul_le_mul_right _ (by have:=hc.1;omega)
  rw [e,List.length_cons]
  show _≤26 * (26 * R w.length+1)∧26 * R w.length+1≤_
  omega
theorem Nm.rank_le {w:List Nat} (h:Nm w):1≤rank w∧rank w≤M:=by
 obtain ⟨h1,h2⟩:=NM.rank_le w h.ok
 have h3:R 1≤R w.length:=R_mono h.pos
 have h4:R w.length≤R 8:=R_mono h.le
 have:R 1=1:=rfl
 unfold M
 omega
inductive Nx:List Nat→List Nat→Prop where
 | at (p:List Nat) (c k:Nat):c≠122→Nx (p ++ c :: List.replicate k 122) (nx p c k)
 | all (n:Nat):Nx (List.replicate n 122) (List.replicate (n % 8+1) 97)
theorem Nx.nm {v w:List Nat} (h:Nx v w) (hv:Nm v):Nm w:=by
 cases h with
 | «at» p c k hc =>
  have hl:(nx p c k).length=(p ++ c :: List.replicate k 122).length:=by simp [nx]
  refine ⟨by rw [hl];exact hv.pos,by rw [hl];exact hv.le,fun d hd=>?_⟩
  unfold nx at hd
  rcases List.mem_append.mp hd with q | q
  ·exact hv.ok d (List.mem_append_left _ q)
  ·rcases List.mem_cons.mp q with q | q
   ·have:=hv.ok c (by simp)
    subst q
    exact ⟨Nat.le_succ_of_le this.1,by have:=this.2;omega⟩
   ·have:=(List.mem_replicate.mp q).2
    subst this
    exact ⟨Nat.le_refl _,by decide⟩
 | all n =>
  refine ⟨by simp,by rw [List.length_replicate];omega,fun d hd=>?_⟩
  have:=(List.mem_replicate.mp hd).2
  subst this
  exact ⟨Nat.le_refl _,by decide⟩
theorem Nx.rank {v w:List Nat} (h:Nx v w) (hv:Nm v):NM.rank w=NM.rank v % M+1:=by
 have hM:M=26 * R 8:=rfl
 have hw:=(h.nm hv).rank_le
 cases h with
 | «at» p c k hc =>
  have h1:=rank_nx p c k (by have:=(hv.ok c (by simp)).1;omega)
  rw [Nat.mod_eq_of_lt (by omega)]
  exact h1
 | all n =>
  have hn:n≤8:=by have:=hv.le;simpa using this
  have e1:=rank_rep 122 26 rfl n
  have e2:=rank_rep 97 1 rfl (n % 8+1)
  by_cases h8:n=8
  ·subst h8
   rw [e1,e2,← hM,Nat.mod_self]
   rfl
  ·have hlt:n<8:=by omega
   have hr:R (n+1)≤R 8:=R_mono hlt
   have:R (n+1)=26 * R n+1:=rfl
   rw [Nat.mod_eq_of_lt hlt,show R (n+1)=26 * R n+1 from rfl] at e2
   rw [Nat.mod_eq_of_lt hlt,e1,e2,Nat.mod_eq_of_lt (by omega)]
   omega
inductive Nxs:Nat→List Nat→List Nat→Prop where
 | zero (w:List Nat):Nxs 0 w w
 | succ {k:Nat}{u v w:List Nat}:Nx u v→Nxs k v w→Nxs (k+1) u w
def dropZ:List Nat→List Nat × Nat
 | []=>([],0)
 | c :: r=>if c=122 then let q:=dropZ r;(q.1,q.2+1) else (c :: r,0)
theorem dropZ_eq:∀ r:List Nat,r=List.replicate (dropZ r).2 122 ++ (dropZ r).1∧(∀ c s,(dropZ r).1=c :: s→c≠122)
 | []=>⟨rfl,fun c s e=>nomatch e⟩
 | c :: r=>by
  obtain ⟨h1,h2⟩:=dropZ_eq r
  unfold dropZ
  by_cases hc:c=122
  ·rw [if_pos hc]
   refine ⟨?_,h2⟩
   show c :: r=List.replicate ((dropZ r).2+1) 122 ++ (dropZ r).1
   rw [List.replicate_succ,List.cons_append,← h1,hc]
  ·rw [if_neg hc]
   refine ⟨rfl,fun d s e=>?_⟩
   cases e
   exact hc
def nextL (w:List Nat):List Nat :=
 match dropZ w.reverse with
 | ([],_)=>List.replicate (w.length % 8+1) 97
 | (c :: p,k)=>nx p.reverse c k
theorem nextL_nx (w:List Nat):Nx w (nextL w):=by
 obtain ⟨h1,h2⟩:=dropZ_eq w.reverse
 unfold nextL
 cases e:dropZ w.reverse with
 | mk q k =>
  rw [e] at h1 h2
  cases q with
  | nil =>
   have:w=List.replicate k 122:=by
    have:=congrArg List.reverse h1
    simpa using this
   subst this
   have z:=Nx.all k
   simpa using z
  | cons c p =>
   have:w=p.reverse ++ c :: List.replicate k 122:=by
    have:=congrArg List.reverse h1
    simpa using this
   subst this
   exact Nx.at p.reverse c k (h2 c p rfl)
theorem nextL_at (p:List Nat) (c k:Nat) (hc:c≠122):nextL (p ++ c :: List.replicate k 122)=nx p c k:=by
 have hd:∀ k,dropZ (List.replicate k 122 ++ c :: p.reverse)=(c :: p.reverse,k):=by
  intro k
  induction k with
  | zero=>simp [dropZ,hc]
  | succ k ih=>rw [List.replicate_succ,List.cons_append,dropZ,if_pos rfl,ih]
 unfold nextL
 have e:(p ++ c :: List.replicate k 122).reverse=List.replicate k 122 ++ c :: p.reverse:=by simp
 rw [e,hd]
 simp
theorem nextL_all (n:Nat):nextL (List.replicate n 122)=List.replicate (n % 8+1) 97:=by
 have hd:∀ k,dropZ (List.replicate k 122)=([],k):=by
  intro k
  induction k with
  | zero=>rfl
  | succ k ih=>rw [List.replicate_succ,dropZ,if_pos rfl,ih]
 unfold nextL
 rw [List.reverse_replicate,hd]
 simp
def iter:Nat→List Nat→List Nat | 0,w=>w | k+1,w=>iter k (nextL w)
theorem iter_rank:∀ (k:Nat) {w:List Nat},Nm w→rank (iter k w)=(rank w - 1+k) % M+1
 | 0,w,h=>by
  have:=h.rank_le
  show rank w=(rank w - 1+0) % M+1
  rw [Nat.mod_eq_of_lt (by omega)];omega
 | k+1,w,h=>by
  have h1:=iter_rank k ((nextL_nx w).nm h)
  have h2:=(nextL_nx w).rank h
  have h3:=h.rank_le
  show rank (iter k (nextL w))=_
  rw [h1,h2]
  congr 1
  by_cases e:rank w=M
  ·rw [e,Nat.mod_self]
   have:M - 1+(k+1)=k+M:=by omega
   rw [this,Nat.add_mod_right]
   congr 1
   omega
  ·rw [Nat.mod_eq_of_lt (show rank w<M by omega)]
   congr 1
   omega
theorem nodup_le {α:Type} [DecidableEq α]:∀ (l F:List α),l.Nodup→(∀ x∈l,x∈F)→l.length≤F.length
 | [],_,_,_=>Nat.zero_le _
 | a :: l,F,hn,hs=>by
  have ha:=hs a List.mem_cons_self
  rw [List.nodup_cons] at hn
  have ih:=nodup_le l (F.erase a) hn.2 fun x hx=>by
   have hne:x≠a:=fun e=>hn.1 (e ▸ hx)
   exact (List.mem_erase_of_ne hne).mpr (hs x (List.mem_cons_of_mem _ hx))
  rw [List.length_erase_of_mem ha] at ih
  have:0<F.length:=List.length_pos_of_mem ha
  rw [List.length_cons];omega
theorem out_of (F:List (List Nat)) {w:List Nat} (h:Nm w) (hF:F.length<M):∃ k,k≤F.length∧iter k w ∉ F:=by
 apply Classical.byContradiction
 intro hno
 have hall:∀ k,k≤F.length→iter k w∈F:=fun k hk=>Classical.byContradiction fun hn=>hno ⟨k,hk,hn⟩
 have hnd:((List.range (F.length+1)).map fun k=>iter k w).Nodup:=by
  rw [List.nodup_iff_pairwise_ne,List.pairwise_map]
  refine List.Pairwise.imp_of_mem ?_ (List.pairwise_lt_range (n:=F.length+1))
  intro a b ha hb hab e
  have ha':=List.mem_range.mp ha
  have hb':=List.mem_range.mp hb
  have ea:=iter_rank a h
  have eb:=iter_rank b h
  rw [e,eb] at ea
  have hr:=h.rank_le
  have hm:(rank w - 1+b) % M=(rank w - 1+a) % M:=by omega
  have d1:=Nat.div_add_mod (rank w - 1+a) M
  have d2:=Nat.div_add_mod (rank w - 1+b) M
  rw [hm] at d2
  have hlt:M * ((rank w - 1+b) / M)=M * ((rank w - 1+a) / M)+(b - a):=by omega
  by_cases hq:(rank w - 1+b) / M≤(rank w - 1+a) / M
  ·have:=Nat.mul_le_mul_left M hq
   omega
  ·have:=Nat.mul_le_mul_left M (show (rank w - 1+a) / M+1≤(rank w - 1+b) / M by omega)
   rw [Nat.mul_add,Nat.mul_one] at this
   omega
 have:=nodup_le _ F hnd (by
  intro x hx
  obtain ⟨k,hk,rfl⟩:=List.mem_map.mp hx
  exact hall k (by have:=List.mem_range.mp hk;omega))
 rw [List.length_map,List.length_range] at this
 omega
theorem M_big:1000<M:=by decide
end NM
namespace ME
section
variable {κ:Type} [DecidableEq κ] {α β:Type}
def m2 (f:α→β) (e:List (κ × α)):List (κ × β):=e.map fun p=>(p.1,f p.2)
abbrev Gt (κ:Type):=κ × κ × List κ
def WG (A:κ→Nat→Prop) (known:List κ):List (Gt κ)→Prop
 | []=>True
 | g :: r=>(∀ p∈g.2.2,p∈known)∧A g.2.1 g.2.2.length∧g.2.2.length≤6∧WG A (known ++ [g.1]) r
theorem WG_snoc {A:κ→Nat→Prop} (g:Gt κ):∀ (gs:List (Gt κ)) (known:List κ),WG A known gs→(∀ p∈g.2.2,p∈known ++ gs.map (·.1))→A g.2.1 g.2.2.length→g.2.2.length≤6→WG A known (gs ++ [g])
 | [],known,_,h1,h2,h3=>⟨by simpa using h1,h2,h3,True.intro⟩
 | x :: gs,known,⟨a,b,c,d⟩,h1,h2,h3=>⟨a,b,c,WG_snoc g gs _ d (by simpa using h1) h2 h3⟩
theorem WG.at {A:κ→Nat→Prop}:∀ {gs:List (Gt κ)}{known:List κ}{i:Nat}{g:Gt κ},WG A known gs→gs[i]? = some g →
  (∀ p∈g.2.2,p∈known ++ (gs.take i).map (·.1))∧A g.2.1 g.2.2.length∧g.2.2.length≤6
 | [],_,_,_,_,h=>by simp at h
 | x :: gs,known,0,g,⟨a,b,c,d⟩,h=>by
  simp at h;subst h
  exact ⟨by simpa using a,b,c⟩
 | x :: gs,known,i+1,g,⟨a,b,c,d⟩,h=>by
  have:=WG.at (i:=i) (g:=g) d (by simpa using h)
  simpa using this
end
end ME
namespace MC
end MC
namespace GM
open PySem
def Ar (w:Str) (n:Nat):Prop:=(w = "not" → n=1)∧(w = "choose" → n=3)∧(w = "most" → n=3)
end GM
set_option maxHeartbeats 4000000
namespace L2
open PySem PySem.Spec PyProof.Rows
def tMid (t u:TS):TS:=tSeq t u
theorem mid {t u:TS}{D:Ends}{σ:St}{H:Hp} (M:St→Hp→Prop) (h1:∀ N:St→Hp→Prop,(∀ σ' H',M σ' H'→N σ' H')→t { D with nx:=N } σ H) (h2:∀ σ' H',M σ' H'→u D σ' H'):tMid t u D σ H:=h1 _ h2
theorem pss_mid {X:Cx}{st:Stmt}{rest:List Stmt}{t u:TS} (h:PS X st t) (hr:PSs X rest u):PSs X (st :: rest) (tMid t u):=pss_cons h hr
theorem mtr {X:Cx}{id:String}{r:V→List V→Hp→VK→Prop} (h:MtM X id r):MtR X id r:=h
def rFind:V→List V→Hp→VK→Prop:=fun x vs H Q=>match x,vs with
 | .str z,[.str y]=>Q (.int (Txt.find z y)) H
 | _,_=>False
theorem mt_find {X:Cx}:MtR X "str.find" rFind:=by
 intro pins s σ H x vs v us Q I rx rv h
 cases x with
 | str z =>
  match vs,h with
  | [.str y],h =>
   obtain ⟨t,rfl⟩:=rx
   obtain ⟨u,rfl,ru⟩:=vals1 rv
   obtain ⟨t',rfl⟩:=ru
   exact SC.find ⟨.int _,H,I.tok _,⟨_,rfl⟩,h⟩
 | _=>exact False.elim h
theorem comp_gen {J:It}{σ:St}{k:Nat}{sel:List Nat}{g:TG}{tt:TT}{te:TE}{Q:VK}{H:Hp}{p:Addr}{n:Nat}{item:Nat→V} (Sv:St→Prop) (Pv:Nat→Hp→Prop)
  (hS:Sv (cst σ k sel)) (h0:Pv 0 (upd H p (.lst [])))
  (src:∀ i H2,i<n→Pv i H2→J.go i H2∧∀ x H3,J.yld i H2 x H3→H3=H2∧x=item i) (fin:∀ H2,Pv n H2→J.stop n H2)
  (step:∀ i σ2 H2 (R:St→Hp→Prop),i<n→Sv σ2→Pv i H2→(∀ σ' H',Sv σ'→Pv (i+1) H'→R σ' H')→g (item i) σ2 H2 fun σ4 H4=>tt σ4 H4 fun b H5 =>
   if b=true then te σ4 H5 fun v H6=>∃ ys,H6 p=some (.lst ys)∧ys.length<sizeLine∧R σ4 (upd H6 p (.lst (ys ++ [v]))) else R σ4 H5)
  (hQ:∀ H2,Pv n H2→Q (.ref p) H2):CompGoal J σ k sel g tt te Q H p:=by
 refine ⟨fun i m σ2 H2=>i≤n∧m=n - i+1∧Sv σ2∧Pv i H2,⟨n+1,Nat.zero_le _,rfl,hS,h0⟩,?_⟩
 rintro i m σ2 H2 ⟨hi,rfl,hs,hP⟩
 by_cases hlt:i<n
 ·right
  obtain ⟨hg,hy⟩:=src i H2 hlt hP
  refine ⟨hg,fun x H3 hx=>?_⟩
  obtain ⟨rfl,rfl⟩:=hy x H3 hx
  exact step i σ2 H3 (fun σ' H'=>∃ m',m'<n - i+1∧i+1≤n∧m'=n - (i+1)+1∧Sv σ'∧Pv (i+1) H') hlt hs hP fun σ' H' s' h'=>⟨n - (i+1)+1,by omega,hlt,rfl,s',h'⟩
 ·left
  have e:i=n:=by omega
  subst e
  exact ⟨fin H2 hP,hQ H2 hP⟩
def SameN (H H':Hp):Prop:=∀ b o,H b=some o→(∀ xs,o≠.lst xs)→H' b=some o
section
variable {K:PySem.W.Frag}{H H' H0 H1:Hp}{l a:Addr}{xs ys:List V}{o:HO}
theorem Same.n (s:Same H H'):SameN H H':=fun b o e _=>s b o e
theorem SameN.clear (h:H l=some (.lst xs)):SameN H (upd H l (.lst ys)):=fun b o e n=>by rw [upd_ne (ne_of e h (n xs))];exact e
theorem Same.put (s:Same H0 H) (h:H0 l=none):Same H0 (upd H l o):=fun b u e=>by rw [upd_ne (ne_of_none e h)];exact s b u e
theorem Same.tup (e:Same H H') (h:SqT K H a xs):SqT K H' a xs:=by
 rcases h with (h | ⟨o,h⟩) | h
 ·exact .inl (.inl (e _ _ h))
 ·exact .inl (.inr ⟨o,e _ _ h⟩)
 ·exact .inr h
def Keep (N:Addr→Prop) (H H':Hp):Prop:=∀ b o,N b→H b=some o→H' b=some o
theorem Same.keep {N:Addr→Prop} (s:Same H H'):Keep N H H':=fun b o _ e=>s b o e
theorem Keep.put {N:Addr→Prop} (h:¬ N l):Keep N H (upd H l o):=fun b u n e=>by
 have hne:b≠l:=fun z=>h (by rw [← z];exact n)
 rw [upd_ne hne];exact e
theorem Keep.seq {N:Addr→Prop} (e:Keep N H H') (n:N a) (h:SqL K H a xs):SqL K H' a xs:=by
 rcases h with (h | ⟨o,h⟩) | h
 ·exact .inl (.inl (e _ _ n h))
 ·exact .inl (.inr ⟨o,e _ _ n h⟩)
 ·exact .inr h
theorem Keep.tup {N:Addr→Prop} (e:Keep N H H') (n:N a) (h:SqT K H a xs):SqT K H' a xs:=by
 rcases h with (h | ⟨o,h⟩) | h
 ·exact .inl (.inl (e _ _ n h))
 ·exact .inl (.inr ⟨o,e _ _ n h⟩)
 ·exact .inr h
end
theorem cps_app (a b:Str):(a ++ b).cps.toList=a.cps.toList ++ b.cps.toList:=by
 show (a.cps ++ b.cps).toList=_
 simp
theorem len_cps (z:Str):z.cps.toList.length=z.length:=by
 show z.cps.toList.length=z.cps.size
 simp
theorem ext_cps {y z:Str} (h:y.cps.toList=z.cps.toList):y=z:=by
 cases y;cases z
 congr 1
 exact Array.toList_inj.mp h
theorem slice_to {z:Str}{j:Int} (h0:0≤j) (h1:j≤z.length):(Txt.slice z none (some j)).cps.toList=z.cps.toList.take j.toNat:=by
 have h:=slice_closes_to (x:=z) (j:=j) ⟨h0,by rw [len_cps];exact h1⟩
 rw [beq_iff_eq] at h
 rw [h]
 simp
theorem slice_from {z:Str}{i:Int} (h0:0≤i) (h1:i≤z.length):(Txt.slice z (some i) none).cps.toList=z.cps.toList.drop i.toNat:=by
 rw [slice_from_eq h0 h1 rfl]
 show ((z.cps.toList.drop i.toNat).take ((z.length:Int) - i).toNat)=_
 rw [List.take_of_length_le]
 rw [List.length_drop,len_cps]
 omega
theorem fold_rep (c:Nat):∀ (k:Nat) (acc:Array Nat),((List.replicate k (#[c]:Array Nat)).foldl (· ++ ·) acc).toList=acc.toList ++ List.replicate k c
 | 0,acc=>by simp
 | k+1,acc=>by
  rw [List.replicate_succ,List.foldl_cons,fold_rep c k,List.replicate_succ]
  simp
theorem mul_a (n:Int):(Txt.mul "a" n).cps.toList=List.replicate n.toNat 97:=by
 unfold Txt.mul
 by_cases h1:n<1
 ·rw [if_pos h1]
  have:n.toNat=0:=by omega
  rw [this]
  rfl
 ·rw [if_neg h1]
  by_cases h2:(n == 1 || Str.length "a" == 0)=true
  ·rw [if_pos h2]
   have h3:n=1:=by
    rw [Bool.or_eq_true] at h2
    rcases h2 with q | q
    ·exact beq_iff_eq.mp q
    ·exact absurd q (by decide +kernel)
   subst h3
   decide +kernel
  ·rw [if_neg h2]
   have e:Str.cps "a" = #[97]:=by decide +kernel
   show ((List.replicate n.toNat (Str.cps "a")).foldl (· ++ ·) #[]).toList=_
   rw [e,fold_rep]
   simp
theorem mulOk_a {n:Int} (h0:0≤n) (h1:n≤100):MulOk "a" n:=by
 have hl:Str.length "a" = 1:=by decide +kernel
 refine ⟨?_,fun h2 _ h3=>?_,fun _ _=>?_⟩
 ·rw [decide_eq_false (by omega),decide_eq_false (by omega)];rfl
 ·rw [hl] at h3
  have h4:(1:Int)≤(2 ^ 63 - 1) / n:=by
   rw [Int.le_ediv_iff_mul_le (by omega)]
   omega
  omega
 ·rw [hl,Nat.one_mul]
  obtain ⟨m,rfl⟩:=Int.eq_ofNat_of_zero_le h0
  have hm:m≤100:=by omega
  rw [Int.toNat_natCast]
  unfold Builtin.Str.tooLong
  have hb:(1000:Nat)≤sizeLine:=by decide
  simp
  omega
section
variable {K:PySem.W.Frag}{H:Hp}{p:Addr}{i:Int}{F:V→Prop}
theorem ixI {cs:List Int} (hS:SqL K H p (cs.map V.int)) (h0:0≤i) (h1:i<cs.length) (h:F (.int (cs.getD i.toNat 0))):∃ xs v,(SqL K H p xs∨SqT K H p xs)∧atI xs i=some v∧F v:=⟨_,_,.inl hS,atI_map 0 h0 h1,h⟩
theorem ixS {ss:List Str} (hS:SqL K H p (ss.map V.str)) (h0:0≤i) (h1:i<ss.length) (h:F (.str (ss.getD i.toNat ""))):∃ xs v,(SqL K H p xs∨SqT K H p xs)∧atI xs i=some v∧F v:=⟨_,_,.inl hS,atI_map ("" : Str) h0 h1,h⟩
end
end L2
set_option maxHeartbeats 4000000
namespace GM
open PySem L2
end GM
set_option maxHeartbeats 4000000
namespace L2
open PySem PySem.Spec PyProof.Rows
def cutW (f:Nat→Bool):List Nat→List Nat→List (List Nat)
 | [],run=>if run=[] then [] else [run]
 | c :: r,run=>if f c=true then (if run=[] then cutW f r [] else run :: cutW f r []) else cutW f r (run ++ [c])
theorem cutW_congr {f g:Nat→Bool}:∀ (l run:List Nat),(∀ c∈l,f c=g c)→cutW f l run=cutW g l run
 | [],_,_=>rfl
 | c :: r,run,h=>by
  unfold cutW
  rw [h c (List.mem_cons_self ..),cutW_congr r [] fun d hd=>h d (List.mem_cons_of_mem _ hd),cutW_congr r (run ++ [c]) fun d hd=>h d (List.mem_cons_of_mem _ hd)]
section
open Builtin Builtin.Str
def spL (s:Str) (p:Nat × Nat):List Nat:=(strSub s p.1 p.2).cps.toList
theorem spL_eq (s:Str) (i j:Nat):spL s (i,j)=(s.cps.toList.drop i).take (j - i):=by
 unfold spL strSub
 simp
theorem sw_cut (s:Str) (limit:Nat) (hl:s.length<limit):∀ (m cur:Nat) (words:Array (Nat × Nat)) (start:Option Nat),cur+m=s.length→words.size≤cur→(∀ b,start=some b→b<cur) →
  (StrLaws.swEnd s (forIn (List.range' cur m) ((none,words,start):StrLaws.SwSt) (StrLaws.swBody s limit)).run).map (spL s) =
   words.toList.map (spL s) ++ cutW Unicode.isSpace (s.cps.toList.drop cur) (match start with | some b=>spL s (b,cur) | none=>[])
 | 0,cur,words,start,hc,hw,hb=>by
  have hd:s.cps.toList.drop cur=[]:=List.drop_eq_nil_of_le (by
   show s.cps.toList.length≤cur
   have:s.cps.toList.length=s.length:=len_cps s
   omega)
  rw [hd]
  show (StrLaws.swEnd s (none,words,start)).map (spL s)=_
  unfold StrLaws.swEnd cutW
  cases start with
  | none=>simp
  | some b =>
   have hb':=hb b rfl
   have hn:¬ spL s (b,cur)=[]:=by
    rw [spL_eq]
    intro e
    have e2:=congrArg List.length e
    rw [List.length_take,List.length_drop,len_cps] at e2
    simp at e2
    omega
   have hcl:cur=s.length:=by omega
   subst hcl
   simp [hn]
 | m+1,cur,words,start,hc,hw,hb=>by
  have hlt:cur<s.cps.toList.length:=by rw [len_cps];omega
  have hgd:s.cps.getD cur 0=s.cps.toList[cur]:=by
   have:cur<s.cps.size:=by simpa using hlt
   simp [Array.getD,this]
  have hdr:s.cps.toList.drop cur=s.cps.toList[cur] :: s.cps.toList.drop (cur+1):=List.drop_eq_getElem_cons hlt
  rw [List.range'_succ,List.forIn_cons,hdr]
  have hsz:¬ ((words.size == limit)=true):=by
   rw [beq_iff_eq];omega
  unfold StrLaws.swBody
  simp only [hsz,if_false,hgd]
  have grow:∀ b,b<cur→spL s (b,cur) ++ [s.cps.toList[cur]]=spL s (b,cur+1):=by
   intro b hb'
   rw [spL_eq,spL_eq,show cur+1 - b=(cur - b)+1 by omega,List.take_succ]
   congr 1
   rw [List.getElem?_drop,show b+(cur - b)=cur by omega,List.getElem?_eq_getElem hlt]
   rfl
  have one:[s.cps.toList[cur]]=spL s (cur,cur+1):=by
   rw [spL_eq,show cur+1 - cur=0+1 by omega,List.take_succ,List.take_zero,List.nil_append,List.getElem?_drop,Nat.add_zero,List.getElem?_eq_getElem hlt]
   rfl
  cases start with
  | none =>
   cases hsp:Unicode.isSpace s.cps.toList[cur]
   ·have ih:=sw_cut s limit hl m (cur+1) words (some cur) (by omega) (by omega) (fun b e=>by cases e;omega)
    refine Eq.trans ih ?_
    congr 1
    rw [cutW,hsp]
    simp only [Bool.false_eq_true,if_false,List.nil_append,one]
   ·have ih:=sw_cut s limit hl m (cur+1) words none (by omega) (by omega) (fun b e=>by cases e)
    refine Eq.trans ih ?_
    congr 1
    rw [cutW,hsp]
    simp only [if_true]
  | some b =>
   have hb':=hb b rfl
   cases hsp:Unicode.isSpace s.cps.toList[cur]
   ·have ih:=sw_cut s limit hl m (cur+1) words (some b) (by omega) (by omega) (fun b' e=>by cases e;omega)
    refine Eq.trans ih ?_
    congr 1
    rw [cutW,hsp]
    simp only [Bool.false_eq_true,if_false,grow b hb']
   ·have ih:=sw_cut s limit hl m (cur+1) (words.push (b,cur)) none (by omega) (by rw [Array.size_push];omega) (fun b' e=>by cases e)
    refine Eq.trans ih ?_
    have hn:¬ spL s (b,cur)=[]:=by
     rw [spL_eq]
     intro e
     have e2:=congrArg List.length e
     rw [List.length_take,List.length_drop] at e2
     simp at e2
     have:s.cps.toList.length=s.cps.size:=by simp
     omega
    rw [cutW,hsp]
    simp only [if_true,hn,if_false]
    simp
theorem words_cut (x:Str):(Txt.words x).map (fun z=>z.cps.toList)=cutW Unicode.isSpace x.cps.toList []:=by
 have h:=sw_cut x (x.length+1) (Nat.lt_succ_self _) x.length 0 #[] none (by omega) (by simp) (fun b e=>by cases e)
 rw [← StrLaws.sw_eq] at h
 have h':(spaceWords x (x.length+1)).map (spL x)=cutW Unicode.isSpace x.cps.toList []:=by simpa using h
 unfold Txt.words
 by_cases hw:(spaceWords x (x.length+1) == [(0,x.length)])=true
 ·rw [if_pos hw,← h',beq_iff_eq.mp hw]
  show [x.cps.toList]=[spL x (0,x.length)]
  rw [spL_eq,List.drop_zero,Nat.sub_zero,List.take_of_length_le (by rw [len_cps];exact Nat.le_refl _)]
 ·rw [if_neg hw,← h']
  unfold wordsOf
  rw [List.map_map]
  rfl
theorem words_str (x:Str):Txt.words x=(cutW Unicode.isSpace x.cps.toList []).map fun l=>(⟨l.toArray⟩:Str):=by
 rw [← words_cut,List.map_map]
 have:((fun l=>(⟨l.toArray⟩:Str)) ∘ fun z:Str=>z.cps.toList)=fun z=>z:=by
  funext z
  cases z
  simp
 rw [this,List.map_id']
end
theorem vals_strs:∀ (l:List (Str × Tok)),Vals ((l.map (·.1)).map V.str) (strValues l)
 | []=>.nil
 | p :: r=>.cons ⟨p.2,rfl⟩ (vals_strs r)
theorem strs_vals:∀ {ts:List Str}{us:List Value},Vals (ts.map V.str) us→∃ l:List (Str × Tok),us=strValues l∧l.map (·.1)=ts
 | [],_,.nil=>⟨[],rfl,rfl⟩
 | z :: ts,_,.cons r t=>by
  obtain ⟨l,rfl,rfl⟩:=strs_vals t
  obtain ⟨tk,rfl⟩:=r
  exact ⟨(z,tk) :: l,rfl,rfl⟩
def rSplit:V→List V→Hp→VK→Prop:=fun x vs H Q=>match x,vs with
 | .str z,[]=>z.length+2≤sizeLine∧∀ p H',New H p (.lst ((Txt.words z).map V.str)) H'→Q (.ref p) H'
 | _,_=>False
theorem mt_split {X:Cx}:MtR X "str.split" rSplit:=by
 intro pins s σ H x vs v us Q I rx rv h
 cases x with
 | str z =>
  match vs,h with
  | [],h =>
   obtain ⟨hz,q⟩:=h
   obtain ⟨t,rfl⟩:=rx
   cases rv
   have hn:(Builtin.Str.spaceWords z (z.length+1)).length≤sizeLine:=by
    have e1:=(StrLaws.sw_weight z).1
    have e2:=StrLaws.len_le_wsum (Builtin.Str.spaceWords z (z.length+1))
    omega
   have key:∀ (l:List (Str × Tok)) (k:Nat),l.map (·.1)=Txt.words z→l.length≤sizeLine→EP X pins σ Q (.ref s.heap.objs.size) { s with heap:=s.heap.push { cls:=.type "list",data:=.seq (strValues l).toArray },toks:=k }:=by
    intro l k e hl
    refine ⟨.ref s.heap.objs.size,upd H s.heap.objs.size (.lst ((Txt.words z).map V.str)),I.lnew ?_ ?_,rfl,q _ _ ⟨I.fresh,rfl⟩⟩
    ·rw [← e];exact vals_strs l
    ·rw [List.length_map,← e,List.length_map];exact hl
   refine call_meets F.slot_str_split (typeIs_str _ _ _) F.entry_str_split (F.args_str_split_1 _) (meets_str_split_space z t (by omega) hn) ?_
   cases hw:Builtin.Str.spaceWords z (z.length+1) == [(0,z.length)]
   ·simp only [Bool.false_eq_true,if_false]
    rw [strsFrom_eq]
    refine key (numbered s.toks (wordsOf z)) _ ((numbered_texts _ _).trans (if_neg (ne_true_of_eq_false hw)).symm) ?_
    have:=congrArg List.length (numbered_texts s.toks (wordsOf z))
    rw [List.length_map] at this
    rw [this]
    unfold wordsOf
    rw [List.length_map]
    exact hn
   ·simp only [if_true]
    exact key [(z,t)] s.toks (if_pos hw).symm (by show 1≤sizeLine;decide)
 | _=>exact False.elim h
def rJoin (K:PySem.W.Frag):V→List V→Hp→VK→Prop:=fun x vs H Q=>match x,vs with
 | .str z,[.ref a]=>∃ ts:List Str,SqL K H a (ts.map V.str)∧(ts.map (·.length)).sum+ts.length≤1048576∧z.length≤16∧Q (.str (Str.join z ts)) H
 | _,_=>False
theorem mt_join {X:Cx}:MtR X "str.join" (rJoin X.K):=by
 intro pins s σ H x vs v us Q I rx rv h
 cases x with
 | str z =>
  match vs,h with
  | [.ref a],h =>
   obtain ⟨ts,hl,hw,hz,q⟩:=h
   obtain ⟨t,rfl⟩:=rx
   obtain ⟨u,rfl,ru⟩:=vals1 rv
   cases ru
   obtain ⟨its,r,pl,_⟩:=I.list hl
   obtain ⟨l,rfl,hlt⟩:=strs_vals r
   refine SC.join pl.isList hlt (joinOk_of_weight hw hz) fun t' k=>?_
   refine ⟨.str (Str.join z ts),H,I.tok _,⟨t',?_⟩,q⟩
   show Value.str (Builtin.Str.glued z ts) t'=_
   rw [StrLaws.glued_eq_join]
 | _=>exact False.elim h
theorem Same.nil {H H':Hp}{p:Addr} (s:Same H H') (h:H' p=none):H p=none:=by
 cases e:H p with
 | none=>rfl
 | some o=>rw [s _ _ e] at h;cases h
structure Mad (H:Hp) (p:Addr) (o:HO) (H':Hp):Prop where
 was:H p=none
 at_:H' p=some o
 same:Same H H'
theorem New.mad {H H':Hp}{p:Addr}{o:HO} (n:New H p o H'):Mad H p o H':=⟨n.was,n.at_,n.same⟩
theorem Mad.pre {H H0 H':Hp}{p:Addr}{o:HO} (s:Same H0 H) (n:Mad H p o H'):Mad H0 p o H':=⟨s.nil n.was,n.at_,s.trans n.same⟩
theorem Mad.sq {K:PySem.W.Frag}{H H':Hp}{p:Addr}{xs:List V} (n:Mad H p (.lst xs) H'):SqL K H' p xs:=.of n.at_
theorem mul_one (c:Nat) (n:Int):(Txt.mul ⟨#[c]⟩ n).cps.toList=List.replicate n.toNat c:=by
 unfold Txt.mul
 by_cases h1:n<1
 ·rw [if_pos h1]
  have:n.toNat=0:=by omega
  rw [this]
  rfl
 ·rw [if_neg h1]
  by_cases h2:(n == 1 || Str.length ⟨#[c]⟩ == 0)=true
  ·rw [if_pos h2]
   have h3:n=1:=by
    rw [Bool.or_eq_true] at h2
    rcases h2 with q | q
    ·exact beq_iff_eq.mp q
    ·exact absurd (beq_iff_eq.mp q) (by show ¬ (1:Nat)=0;decide)
   subst h3
   rfl
  ·rw [if_neg h2]
   show ((List.replicate n.toNat (#[c]:Array Nat)).foldl (· ++ ·) #[]).toList=_
   rw [fold_rep]
   simp
def lettersS:Str:="abcdefghijklmnopqrstuvwxyz"
theorem strIn_letter (c:Nat):strIn ⟨#[c]⟩ lettersS=decide (97≤c∧c≤122):=by
 by_cases h:97≤c∧c≤122
 ·rw [decide_eq_true h]
  have key:∀ d:Fin 26,strIn ⟨#[97+d.val]⟩ lettersS=true:=by decide +kernel
  have:=key ⟨c - 97,by omega⟩
  have e:97+(⟨c - 97,by omega⟩:Fin 26).val=c:=by show 97+(c - 97)=c;omega
  rw [e] at this
  exact this
 ·rw [decide_eq_false h]
  unfold strIn
  cases e:Builtin.Str.occurrences lettersS ⟨#[c]⟩ 0 lettersS.length 1 with
  | nil=>rfl
  | cons i r =>
   obtain ⟨h1,h2⟩:=StrLaws.occ_spec lettersS ⟨#[c]⟩ 0 lettersS.length 1 i (by rw [e];simp)
   unfold Builtin.Str.subAt at h2
   have h3:lettersS.cps.extract i (i+1) = #[c]:=beq_iff_eq.mp h2
   have h4:c∈lettersS.cps.toList:=by
    have h5:c∈(lettersS.cps.extract i (i+1)).toList:=by rw [h3];simp
    rw [Array.toList_extract] at h5
    exact List.mem_of_mem_drop (List.mem_of_mem_take h5)
   have key:∀ d∈lettersS.cps.toList,97≤d∧d≤122:=by decide +kernel
   exact absurd (key c h4) h
end L2
namespace MF
abbrev Pr:=Int × Int
def tn (t:Int):Int:=if t % 2=0 then t+1 else t - 1
def lo (s t:Int):Int:=if t<s then t else s
def hi (s t:Int):Int:=if t > s then t else s
def fnd:Int→List Pr→Pr→Option Int
 | _,[],_=>none
 | n,q :: r,p=>if q=p then some n else fnd (n+1) r p
def kp (m:Int) (ps:List Pr) (p:Pr):List Pr:=if (fnd (m+1) ps p).isSome then ps else ps ++ [p]
def Ok (m:Int) (ps:List Pr):Prop:=∀ (i:Nat) (p:Pr),ps[i]? = some p→2≤p.1∧p.1<p.2∧p.1 / 2≠p.2 / 2∧p.2<2 * (m+1+i)
end MF
namespace MF
abbrev RS:=Int × List Pr
def InT (m:Int) (ps:List Pr) (t:Int):Prop:=0≤t∧t<2 * (m+1+ps.length)
structure St (m:Int) (ps:List Pr) (n:Nat) (r:RS):Prop where
 ok:Ok m ps→Ok m r.2
 inn:InT m r.2 r.1
 lo:ps.length≤r.2.length
 hi:r.2.length≤ps.length+n
 pre:∃ e,r.2=ps ++ e
 nd:ps.Nodup→r.2.Nodup
theorem InT.tn {m t:Int}{ps:List Pr} (h:InT m ps t):InT m ps (tn t):=by
 have h1:=h.1
 have h2:=h.2
 unfold InT MF.tn
 split <;> omega
theorem St.tn {m:Int}{ps:List Pr}{n:Nat}{r:RS} (h:St m ps n r):St m ps n (tn r.1,r.2):=⟨h.ok,h.inn.tn,h.lo,h.hi,h.pre,h.nd⟩
end MF
set_option maxHeartbeats 4000000
namespace L2
open PySem PySem.Spec PyProof.Rows
def knK (p:MF.Pr):List Key:=[.inl p.1,.inl p.2]
def kvF:Int→List MF.Pr→List (List Key × V)
 | _,[]=>[]
 | n,p :: r=>(knK p,.int n) :: kvF (n+1) r
abbrev En:=Addr × MF.Pr
abbrev psOf (es:List En):List MF.Pr:=es.map (·.2)
structure PairsAt (H:Hp) (pl kl:Addr) (m:Int) (es:List En):Prop where
 lst:H pl=some (.lst (es.map fun e=>V.ref e.1))
 dct:H kl=some (.dT (kvF (m+1) (psOf es)))
 tup:∀ e∈es,H e.1=some (.tup [.int e.2.1,.int e.2.2])
section
variable {H H' H1:Hp}{pl kl p2 k2 f dx C:Addr}{m:Int}{es:List En}{o:HO}
structure FoldAt (C:Addr) (H:Hp) (f:Addr) (m:Int) (es:List En) (dx pl kl:Addr):Prop where
 ins:H f=some (.ins C dx [("many",.int m),("pairs",.ref pl),("knots",.ref kl)])
 prs:PairsAt H pl kl m es
end
end L2
set_option maxHeartbeats 4000000
namespace DL
open PySem DZ
theorem entry_list_ga:entryFor table "list.__getattribute__" = some Builtin.«object.__getattribute__» :=
 entryFor_alias (id':="object.__getattribute__") (by kernel_rfl) (by first | rfl | decide +kernel) (by decide +kernel) (by kernel_rfl)
theorem lk_list_keys:typeLookup (.type "list") "keys" = pure none:=by rw [typeLookup_type,builtinLookup_eq_fast];kernel_rfl
section
variable {prog:Program}{w:World}{A:Around}{E:Value→Shared→Prop}{h:Heap}{g:Array GenState}{d:Drawn}{t:Nat}{os:OsState}{z:Addr}{vs:Array Value}{n:Nat}
theorem keys_entry {tk:Tok}{Q:Fin→Shared→Prop} (hh:A.handled=none) (hz:h.get? z=some { cls:=.type "list",dict:=none,data:=.seq vs n,slots:=#[] })
  (hE:∀ h' e t',(∀ c o,h.get? c=some o→h'.get? c=some o)→(∃ o,h'.get? e=some o∧o.cls=.type "AttributeError")→E (.ref e) ⟨h',g,d,t',os⟩) :
  wpAny (model prog w) A (Builtin.«object.__getattribute__» ⟨[.ref z,.str "keys" tk],[]⟩) Q E ⟨h,g,d,t,os⟩:=by
 have hT:(⟨h,g,d,t,os⟩:Shared).TypeIs (.ref z) "list":=⟨_,hz,rfl⟩
 have f4:=lk_list_keys
 repeat (any_goals (first | assumption | wp_step))
 refine wpAny_raiseAttrError hh (fun h' tk' e x=>?_) (attrMsg_fits (by decide +kernel) (by decide +kernel))
 obtain ⟨t',u',he⟩:=x.there
 exact hE h' e tk' (fun c o q=>x.keeps c o q) ⟨_,he,rfl⟩
theorem keys_call {tk:Tok}{R:Result→Shared→Prop} (hh:A.handled=none) (hz:h.get? z=some { cls:=.type "list",dict:=none,data:=.seq vs n,slots:=#[] })
  (hE:∀ h' e t',(∀ c o,h.get? c=some o→h'.get? c=some o)→(∃ o,h'.get? e=some o∧o.cls=.type "AttributeError")→R (.error (.ref e)) ⟨h',g,d,t',os⟩) :
  codeAny (model prog w) A (.call (.builtin "list.__getattribute__") ⟨[.ref z,.str "keys" tk],[]⟩) R ⟨h,g,d,t,os⟩ :=
 codeAny_call_builtin F.slot_list_getattribute.plain entry_list_ga (F.slot_list_getattribute.check _ _ _ _ _ _ _ _ (show (⟨h,g,d,t,os⟩:Shared).TypeIs (.ref z) "list" from ⟨_,hz,rfl⟩) (F.args_list_getattribute_2 _ _) (keys_entry hh hz hE))
theorem keys_by {tk:Tok}{Q:Value→Shared→Prop} (hh:A.handled=none) (hz:h.get? z=some { cls:=.type "list",dict:=none,data:=.seq vs n,slots:=#[] })
  (hE:∀ h' e t',(∀ c o,h.get? c=some o→h'.get? c=some o)→(∃ o,h'.get? e=some o∧o.cls=.type "AttributeError")→E (.ref e) ⟨h',g,d,t',os⟩) :
  wpAny (model prog w) A (getAttrBy (.ref z) (.str "keys" tk) false) Q E ⟨h,g,d,t,os⟩:=by
 have hT:(⟨h,g,d,t,os⟩:Shared).TypeIs (.ref z) "list":=⟨_,hz,rfl⟩
 have f2:=F.slot_list_getattribute.lookup
 have f3:=F.slot_list_getattribute.bind (.ref z)
 have f1:=sub_AttributeError
 repeat (any_goals (first | assumption | wp_step))
 refine keys_call hh hz fun h' e t' k he=>?_
 obtain ⟨o,ho,hc⟩:=he
 have hTe:(⟨h',g,d,t',os⟩:Shared).TypeIs (.ref e) "AttributeError":=⟨o,ho,hc⟩
 have fin:=hE h' e t' k ⟨o,ho,hc⟩
 have f5:typeLookup (.type "list") "__getattr__" = pure none:=by rw [typeLookup_type,builtinLookup_eq_fast];kernel_rfl
 show wpAny _ _ (getattributeRaised _ _ _ _ _ _ _) _ _ _
 unfold getattributeRaised
 repeat (any_goals (first | assumption | wp_step))
theorem keys_none {Q:Option Value→Shared→Prop} (hh:A.handled=none) (hz:h.get? z=some { cls:=.type "list",dict:=none,data:=.seq vs n,slots:=#[] })
  (hq:∀ h' t',(∀ c o,h.get? c=some o→h'.get? c=some o)→Q none ⟨h',g,d,t',os⟩) :
  wpAny (model prog w) A (getAttr? (.ref z) "keys") Q E ⟨h,g,d,t,os⟩:=by
 unfold getAttr? getAttrBy?
 have f1:=sub_AttributeError
 refine wpAny_bind (wpAny_mkText ?_)
 refine wpAny_bind (wpAny_attempt (keys_by hh hz fun h' e t' k he=>?_))
 obtain ⟨o,ho,hc⟩:=he
 refine wpAny_bind (wpAny_isInstance (T:="AttributeError") (b:=true) ⟨o,ho,hc⟩ f1 ?_)
 exact wpAny_pure (hq _ _ k)
end
section
variable {prog:Program}{w:World}{A:Around}{E:Value→Shared→Prop}{s:Shared}{κ:Type} [DecidableEq κ] {knd:KeyKind prog w κ}
def Prs (knd:KeyKind prog w κ) (d it:Addr) (xs:Array Value) (es:List (κ × Value)) (h:Heap):Prop :=
 ∀ (j:Nat) p,es[j]? = some p→∃ T kx o m,xs[j]? = some (.ref T)∧T≠d∧T≠it∧knd.is p.1 kx=true∧h.get? T=some o∧o.cls=.type "tuple" ∧ o.data=.seq #[kx,p.2] m
theorem dict_loop {it l d:Addr}{xs:Array Value}{es:List (κ × Value)}{R:Result→Shared→Prop} (hh:A.handled=none) (n1:it≠d) (n2:l≠d) (n3:l≠it) (hk:es.length=xs.size) (hz:xs.size≤2000) :
  ∀ (m i:Nat) (s:Shared) (kvs:List (κ × Value)),i+m=xs.size→kvs.length≤i→s.heap.IsListIter it l i→s.heap.IsList l xs→Prs knd d it xs es s.heap→s.heap.DictOf knd d kvs →
   (∀ h' t',h'.DictOf knd d ((es.drop i).foldl (fun e p=>stored e p.1 p.2) kvs)→(∀ c o,c≠d→c≠it→s.heap.get? c=some o→h'.get? c=some o)→R (.ok (.ret .none)) { s with heap:=h',toks:=t' }) →
   codeAny (model prog w) A (.builtin "dict.update.loop" ⟨[.ref d,.ref it,rawInt i,.none],[]⟩) R s
 | 0,i,s,kvs,hm,hl,S,L,P,hd,hR=>by
  refine codeAny_builtin entry_dict_loop ?_
  rw [Around.under_plainId plain_dict_loop _]
  unfold Builtin.«dict.update.loop»
  refine wpAny_bind (wpAny_pyNext_list_end hh S L (Array.getElem?_eq_none (by omega)) fun h' eb=>?_)
  have e1:es.drop i=[]:=List.drop_eq_nil_of_le (by omega)
  rw [e1] at hR
  have hd':h'.DictOf knd d kvs:=by
   obtain ⟨o,es,ep,ho,r⟩:=hd
   exact ⟨o,es,ep,eb _ _ n1.symm ho,r⟩
  exact wpAny_bind (wpAny_pure (wpAny_pure (hR h' s.toks hd' fun c o c0 c1 e=>eb c o c1 e)))
 | m+1,i,s,kvs,hm,hl,S,L,P,hd,hR=>by
  refine codeAny_builtin entry_dict_loop ?_
  rw [Around.under_plainId plain_dict_loop _]
  unfold Builtin.«dict.update.loop»
  have hi:i<es.length:=by omega
  have hei:es[i]? = some es[i]:=List.getElem?_eq_getElem hi
  obtain ⟨T,kx,o,mm,hx,nd,nit,hkx,ho,hcl,hda⟩:=P i _ hei
  refine wpAny_bind (wpAny_pyNext_list_item S L (x:=.ref T) hx fun h1 S1 sb1=>?_)
  have k1:∀ c o,c≠it→s.heap.get? c=some o→h1.get? c=some o:=fun c o hc e=>(sb1.2 c hc).trans e
  refine wpAny_bind (wpAny_holding ?_)
  have hd1:h1.DictOf knd d kvs:=by
   obtain ⟨o,es,ep,ho,r⟩:=hd
   exact ⟨o,es,ep,k1 _ _ n1.symm ho,r⟩
  refine wpAny_bind (wpAny_tryCatch ?_)
  unfold Builtin.Dict.pairItems
  refine wpAny_bind (wpAny_typeOf (T:="tuple") ⟨o,k1 _ _ nit ho,hcl⟩ ?_)
  rw [if_pos (by decide)]
  refine wpAny_bind (wpAny_seqItems (k1 _ _ nit ho) hda (wpAny_pure ?_))
  refine wpAny_holding (wpAny_dictSet_pairs (knd:=knd) (s:={ s with heap:=h1 }) hkx hd1 (fun h2 d2 sb=>?_) (Nat.le_trans hl (Nat.le_trans (by omega) (show 2000≤sizeLine by decide))))
  have k2:∀ c o,c≠d→h1.get? c=some o→h2.get? c=some o:=fun c o hc e=>(sb.2 c hc).trans e
  have S2:h2.IsListIter it l (i+1):=S1.at fun o e=>k2 it o n1 e
  have L2:h2.IsList l xs:=L.at fun o e=>k2 l o n2 (k1 l o n3 e)
  have P2:Prs knd d it xs es h2:=fun j p hj=>by
   obtain ⟨T',kx',o',m',q1,q2,q3,q4,q5,q6,q7⟩:=P j p hj
   exact ⟨T',kx',o',m',q1,q2,q3,q4,k2 _ _ q2 (k1 _ _ q3 q5),q6,q7⟩
  refine wpAny_pure ⟨plainId_quiet plain_dict_loop _,?_⟩
  have e1:es.drop i=es[i] :: es.drop (i+1):=List.drop_eq_getElem_cons hi
  refine dict_loop hh n1 n2 n3 hk hz m (i+1) _ _ (by omega) ?_ S2 L2 P2 d2 ?_
  ·have:=len_stored kvs es[i].1 es[i].2
   omega
  ·intro h' t' d' k'
   rw [e1] at hR
   exact hR h' t' d' fun c o c0 c1 e=>k' c o c0 c1 (k2 c o c0 (k1 c o c1 e))
theorem iter_l {l:Addr}{xs:Array Value}{n:Nat}{Q:Value→Shared→Prop} (hz:s.heap.get? l=some { cls:=.type "list",dict:=none,data:=.seq xs n,slots:=#[] })
  (h:Q (.ref s.heap.objs.size) { s with heap:=s.heap.push { cls:=.type "list_iterator",data:=.fields #[.ref l,.int 0 0] } }):wpAny (model prog w) A (pyIter (.ref l)) Q E s:=wpAny_pyIter_list (items:=xs) ⟨_,hz,rfl,n,rfl⟩ h
theorem call_dict {l:Addr}{xs:Array Value}{n:Nat}{es:List (κ × Value)}{Q:Value→Shared→Prop} (hh:A.handled=none) (hl:s.heap.get? l=some { cls:=.type "list",dict:=none,data:=.seq xs n,slots:=#[] })
  (hk:es.length=xs.size) (hz:xs.size≤2000) (P:∀ (j:Nat) p,es[j]? = some p→∃ T kx o m,xs[j]? = some (.ref T)∧knd.is p.1 kx=true∧s.heap.get? T=some o∧o.cls=.type "tuple" ∧ o.data=.seq #[kx,p.2] m)
  (q:∀ h' t',h'.DictOf knd s.heap.objs.size (es.foldl (fun e p=>stored e p.1 p.2) [])→(∀ c o,s.heap.get? c=some o→h'.get? c=some o)→Q (.ref s.heap.objs.size) { s with heap:=h',toks:=t' }) :
  wpAny (model prog w) A (call (.type "dict") [.ref l]) Q E s:=by
 refine callType_codes (Q₁:=fun v s1=>v=.ref s.heap.objs.size∧s1={ s with heap:=s.heap.push { cls:=.type "dict",data:=.dict #[] } }) called_dict (typeCall_dict_1 _) F.entry_dict_init (dict_new _ ⟨rfl,rfl⟩) ?_
 rintro obj s1 ⟨rfl,rfl⟩
 refine ⟨⟨_,Heap.get?_push_size _ rfl,rfl⟩,F.args_dict_init_2 _ _,?_⟩
 obtain ⟨hp,g,d0,tk,os⟩:=s
 dsimp only at *
 have hl':=Heap.get?_push_of_some { cls:=.type "dict",data:=.dict #[] } hl
 have hTd:(⟨hp.push { cls:=.type "dict",data:=.dict #[] },g,d0,tk,os⟩:Shared).TypeIs (.ref hp.objs.size) "dict":=⟨_,Heap.get?_push_size _ rfl,rfl⟩
 have hTz:(⟨hp.push { cls:=.type "dict",data:=.dict #[] },g,d0,tk,os⟩:Shared).TypeIs (.ref l) "list":=⟨_,hl',rfl⟩
 have hsub:=sub_dict_self
 unfold Builtin.«dict.__init__»
 repeat (any_goals (first | assumption | (with_reducible refine keys_none hh hl' fun h' t' k=>?_) | (with_reducible refine iter_l (k _ _ hl') ?_) | wp_step))
 have lt:∀ {c:Addr}{o:Obj},hp.get? c=some o→c≠hp.objs.size:=fun e=>Nat.ne_of_lt (Heap.lt_size e)
 have up:∀ c o,hp.get? c=some o→h'.get? c=some o:=fun c o e=>k c o (Heap.get?_push_of_some _ e)
 have up2:∀ c o,hp.get? c=some o→(h'.push { cls:=.type "list_iterator",data:=.fields #[.ref l,.int 0 0] }).get? c=some o:=fun c o e=>Heap.get?_push_of_some _ (up c o e)
 have lt2:∀ {c:Addr}{o:Obj},hp.get? c=some o→c≠h'.objs.size:=fun e=>Nat.ne_of_lt (Heap.lt_size (up _ _ e))
 have nd:h'.objs.size≠hp.objs.size:=(Nat.ne_of_lt (Heap.lt_size (k _ _ (Heap.get?_push_size _ rfl)))).symm
 refine ⟨plainId_quiet plain_dict_loop _,dict_loop (A:=A.in1) (knd:=knd) (es:=es) (show A.in1.handled=none from hh) nd (lt hl) (lt2 hl) hk hz xs.size 0 _ [] (by omega) (by simp) ⟨_,Heap.get?_push_size _ rfl,rfl,rfl⟩ ⟨_,up2 _ _ hl,rfl,n,rfl⟩ (fun j p hj=>?_) ?_ ?_⟩
 ·obtain ⟨T,kx,o,m,q1,q2,q3,q4,q5⟩:=P j p hj
  exact ⟨T,kx,o,m,q1,lt q3,lt2 q3,q2,up2 _ _ q3,q4,q5⟩
 ·obtain ⟨o,es,ep,ho,r⟩:=Heap.DictOf.new (knd:=knd) hp
  exact ⟨o,es,ep,Heap.get?_push_of_some _ (k _ _ ho),r⟩
 ·intro h2 t2 d2 k2
  refine ⟨rfl,q h2 t2 ?_ fun c o e=>k2 c o (lt e) (lt2 e) (up2 c o e)⟩
  simpa using d2
end
end DL
namespace L2
open PySem PySem.Spec PyProof.Rows
def cDictP (_:PySem.W.Frag):List V→Hp→VK→Prop:=fun vs H Q=>match vs with
 | [.ref a]=>∃ (ys:List V) (ps:List (Key × V)),H a=some (.lst ys)∧ys.length=ps.length∧ps.length≤2000∧(∀ (j:Nat) p,ps[j]? = some p→∃ T,ys[j]? = some (.ref T)∧H T=some (.tup [kV p.1,p.2]))∧∀ p H',New H p (.dK (mergeK [] ps)) H'→Q (.ref p) H'
 | _=>False
theorem pairsKV {F:Nat→Key × V→Key × Value→Prop}:∀ (ps:List (Key × V)) (m:Nat),(∀ (j:Nat) p,ps[j]? = some p→∃ u,RelV p.2 u∧F (m+j) p (p.1,u)) →
  ∃ es:List (Key × Value),es.length=ps.length∧(∀ (j:Nat) e,es[j]? = some e→∃ p,ps[j]? = some p∧F (m+j) p e)∧∀ (kvs:List (Key × V)) (ws:List (Key × Value)),KV kvs ws→KV (ps.foldl (fun acc kv=>putK acc kv.1 kv.2) kvs) (es.foldl (fun e p=>stored e p.1 p.2) ws)
 | [],m,_=>⟨[],rfl,fun j e h=>by simp at h,fun kvs ws r=>r⟩
 | p :: r,m,h=>by
  obtain ⟨u,ru,fu⟩:=h 0 p rfl
  obtain ⟨es,hl,he,hk⟩:=pairsKV r (m+1) fun j p' hj=>by
   obtain ⟨u',h1,h2⟩:=h (j+1) p' (by simpa using hj)
   exact ⟨u',h1,by rw [show m+1+j=m+(j+1) by omega];exact h2⟩
  refine ⟨(p.1,u) :: es,by simp [hl],fun j e hj=>?_,fun kvs ws rr=>hk _ _ (rr.put p.1 ru)⟩
  cases j with
  | zero =>
   have:(p.1,u)=e:=by simpa using hj
   subst this
   exact ⟨p,rfl,fu⟩
  | succ j =>
   obtain ⟨p',h1,h2⟩:=he j e (by simpa using hj)
   exact ⟨p',by simpa using h1,by rw [show m+(j+1)=m+1+j by omega];exact h2⟩
theorem c_dictP {X:Cx} (hc:X.calm=true):CallR X (.type "dict") (cDictP X.K):=by
 intro pins s σ H xs us Q I r h
 match xs,h with
 | [.ref a],h =>
  obtain ⟨ys,ps,hL,hl,hz,hp,q⟩:=h
  obtain ⟨u1,rfl,e1⟩:=vals1 r
  cases e1
  obtain ⟨z,its,n,rv,hlen,hget⟩:=I.lstM hL
  have item:∀ (j:Nat) p,ps[j]? = some p→∃ u,RelV p.2 u∧∃ T kx o m,its[j]? = some (.ref T)∧(mixKind X.prog X.w).is p.1 kx=true∧s.heap.get? T=some o∧o.cls=.type "tuple" ∧ o.data=.seq #[kx,u] m:=fun j p hj=>by
   obtain ⟨T,hT,hH⟩:=hp j p hj
   obtain ⟨uT,h1,h2⟩:=rv.get hT
   cases h2
   obtain ⟨itt,rt,⟨o,ho,hcl,m,hda⟩,_⟩:=I.tuple (SqT.of hH)
   obtain ⟨w1,w2,rfl,r1,r2⟩:=Vals.two rt
   exact ⟨w2,r2,T,w1,o,m,h1,kV_is r1,ho,hcl,hda⟩
  obtain ⟨es,hel,hes,hkv⟩:=pairsKV (F:=fun j p e=>∃ T kx o m,its[j]? = some (.ref T)∧(mixKind X.prog X.w).is e.1 kx=true∧s.heap.get? T=some o∧o.cls=.type "tuple" ∧ o.data=.seq #[kx,e.2] m) ps 0 fun j p hj=>by
   obtain ⟨u,h1,T,kx,o,m,h2⟩:=item j p hj
   exact ⟨u,h1,T,kx,o,m,by rw [Nat.zero_add];exact h2⟩
  refine DL.call_dict (knd:=mixKind X.prog X.w) (es:=es) (I.ok.hd hc) hget (by rw [List.size_toArray];omega) (by rw [List.size_toArray];omega) (fun j p hj=>?_) fun h2 t2 dd k2=>?_
  ·obtain ⟨p',_,T,kx,o,m,q1,q2,q3,q4,q5⟩:=hes j p hj
   exact ⟨T,kx,o,m,by rw [Nat.zero_add] at q1;simpa using q1,q2,q3,q4,q5⟩
  ·have hfree:H s.heap.objs.size=none:=I.hok.fresh (Nat.le_refl _)
   have rel:KV (mergeK [] ps) (es.foldl (fun e p=>stored e p.1 p.2) []):=hkv [] [] .nil
   have hlen2:(mergeK [] ps).length≤sizeLine:=by
    have h1:=length_mergeK ps []
    rw [List.length_nil] at h1
    rw [sizeLine_eq];omega
   have hsm:((s.heap.objs.size:Addr) == sysModules)=false:=beq_eq_false_iff_ne.mpr (Ne.symm (Nat.ne_of_lt I.big))
   refine ⟨.ref s.heap.objs.size,upd H s.heap.objs.size (.dK (mergeK [] ps)),?_,rfl,q _ _ ⟨hfree,rfl⟩⟩
   exact I.dz (ch:=[]) (h':=h2) (t':=t2) (fun b hb=>nomatch hb) (Nat.le_refl _) (fun b o _ e=>k2 b o e) (dk_new hlen2 hsm rel dd)
end L2
set_option maxHeartbeats 4000000
namespace EX
open PySem
structure Lv (S:List Addr) (e:Addr) (old:List Addr) (cls:Value) (h h':Heap) (T:Addr):Prop where
 ge:h.objs.size≤T
 exc:∃ oe vs,h'.get? e=some oe∧oe.cls=cls∧oe.data=.fields vs∧vs[1]? = some (.ref T)∧oe.dict=none
 tb:∃ oT ts,h'.get? T=some oT∧oT.data=.fields ts∧ts[3]? = some .none
 keep:∀ b o,b ∉ S→b≠e→b ∉ old→h.get? b=some o→h'.get? b=some o
 slot:∀ b o,b∈S→h.get? b=some o→∃ sl,h'.get? b=some { o with slots:=sl }
theorem map_dict (f:Array Value→Array Value) (o:Obj):(Obj.mapFields f o).dict=o.dict:=by
 unfold Obj.mapFields
 split <;> rfl
section
variable {M:Model}{A:Around}{E:Value→Shared→Prop}{s:Shared}
theorem entry_ok {base:Heap}{env:Env}{outer:List Env}{L e:Addr}{oe:Obj}{vs:Array Value}{hd0:Value}{nx:Bool}{Q:Unit→Shared→Prop} (hfr:A.frames=some (env :: outer)) (hl:s.heap.FunFrames base (env :: outer)) (hf:env.frame=some L)
  (he:s.heap.get? e=some oe) (hdn:oe.dict=none) (hd:oe.data=.fields vs) (hsz:1<vs.size)
  (q:∀ h' T,Lv ((env :: outer).filterMap (·.frame)) e [] oe.cls s.heap h' T→Q () { s with heap:=h' }) :
  wpAny M A (do let a ← frameOf env;let pl ← entryPlaceOf L nx;let b ← EntryCells.newEntry hd0 a .none (rawInt L) .none pl;setField (.ref e) 1 b) (fun _ s'=>wpAny M A (setFlight (.ref e) none) Q E s') E s:=by
 have eS:e ∉ (env :: outer).filterMap (·.frame):=fun hm=>by
  obtain ⟨_,o,ho,hnf⟩:=hl.mem hm
  rw [he] at ho
  cases ho
  exact hnf vs hd
 refine wpAny_bind (wpAny_frameOf_fun hfr hl hf fun k1 x1=>wpAny_bind (wpAny_entryPlaceOf fun pl hpl=>?_))
 unfold EntryCells.newEntry newFields
 refine wpAny_bind (wpAny_newObj_type ?_ (hpl.sizeOk5 _ _ _ _ _))
 have e1:k1.get? e=some oe:=(x1.2.1 e eS).trans he
 generalize hob:({ cls:=.type "traceback",dict:=none,data:=.fields ([hd0,.ref L,.none,rawInt L,.none] ++ (if pl.isEmpty then List.replicate 6 Value.none else pl)).toArray }:Obj)=ob
 have hobf:∃ ts,ob.data=.fields ts∧3<ts.size:=⟨_,by rw [← hob],by simp only [List.size_toArray,List.length_append,List.length_cons,List.length_nil];omega⟩
 obtain ⟨ts,hts,hts3⟩:=hobf
 have hfreed:ob.isFreed=false:=by rw [← hob];rfl
 have e2:(k1.push ob).get? e=some oe:=Heap.get?_push_of_some _ e1
 refine wpAny_setField e2 hd hsz ?_
 have nTe:k1.objs.size≠e:=Nat.ne_of_gt (Heap.lt_size e1)
 have d3:=Obj.data_mapFields hd (·.setIfInBounds 1 (Value.ref k1.objs.size))
 have e3:=Heap.get?_update_self (Obj.mapFields (·.setIfInBounds 1 (Value.ref k1.objs.size))) e2 (Obj.isFreed_of_fields d3)
 have t3:=(Heap.get?_update_other (k1.push ob) (Obj.mapFields (·.setIfInBounds 1 (Value.ref k1.objs.size))) (Ne.symm nTe)).trans (Heap.get?_push_size k1 hfreed)
 unfold setFlight
 refine wpAny_bind (wpAny_field e3 d3 (x:=.ref k1.objs.size) (by simp [hsz]) ?_)
 rw [if_pos (show (Value.ref k1.objs.size != Value.none)=true by simp)]
 refine wpAny_setField t3 hts hts3 (q _ k1.objs.size ?_)
 have up:∀ b o,b≠e→k1.get? b=some o→(((k1.push ob).update e (Obj.mapFields (·.setIfInBounds 1 (Value.ref k1.objs.size)))).update k1.objs.size (Obj.mapFields (·.setIfInBounds 3 ((none:Option Addr).elim Value.none fun f=>rawInt f)))).get? b=some o:=fun b o nb hb=>by
  rw [Heap.get?_update_other _ _ (Nat.ne_of_gt (Heap.lt_size hb)),Heap.get?_update_other _ _ (Ne.symm nb)]
  exact Heap.get?_push_of_some _ hb
 refine ⟨by rw [x1.1];exact Nat.le_refl _,⟨_,_,(Heap.get?_update_other _ _ nTe).trans e3,Obj.cls_mapFields _ _,d3,by simp [hsz],(map_dict _ _).trans hdn⟩,?_,fun b o hb nb _ hbo=>up b o nb ((x1.2.1 b hb).trans hbo),fun b o hb hbo=>?_⟩
 ·have d4:=Obj.data_mapFields hts (·.setIfInBounds 3 ((none:Option Addr).elim Value.none fun f=>rawInt f))
  exact ⟨_,_,Heap.get?_update_self _ t3 (Obj.isFreed_of_fields d4),d4,by simp [hts3]⟩
 ·obtain ⟨sl,hs⟩:=x1.2.2 b o hbo
  exact ⟨sl,up b _ (fun z=>eS (z ▸ hb)) hs⟩
def Trc (h:Heap) (e:Addr) (vs:Array Value) (old:List Addr):Prop :=
 (vs[1]? = some .none∧old=[])∨∃ T0 oT ts,old=[T0]∧vs[1]? = some (.ref T0)∧T0≠e∧h.get? T0=some oT∧oT.data=.fields ts∧ts[3]? = some .none
theorem lands {base:Heap}{env:Env}{outer:List Env}{L e:Addr}{oe:Obj}{vs:Array Value}{old:List Addr}{Q:Unit→Shared→Prop} (hfr:A.frames=some (env :: outer)) (hl:s.heap.FunFrames base (env :: outer)) (hf:env.frame=some L)
  (he:s.heap.get? e=some oe) (hdn:oe.dict=none) (hd:oe.data=.fields vs) (tr:Trc s.heap e vs old)
  (q:∀ h' T,Lv ((env :: outer).filterMap (·.frame)) e old oe.cls s.heap h' T→Q () { s with heap:=h' }):wpAny M A (noteFrame (.ref e) env) (fun _ s'=>wpAny M A (setFlight (.ref e) none) Q E s') E s:=by
 unfold noteFrame
 simp only [hf]
 rcases tr with ⟨h1,rfl⟩ | ⟨T0,oT,ts,rfl,h1,nT,hT,hdT,h3⟩
 ·refine wpAny_bind (wpAny_field he hd h1 ?_)
  rw [if_neg (by decide)]
  exact entry_ok hfr hl hf he hdn hd (Array.getElem?_eq_some_iff.mp h1).1 q
 ·refine wpAny_bind (wpAny_field he hd h1 ?_)
  rw [if_pos (show (Value.ref T0 != Value.none)=true by simp)]
  refine wpAny_bind (wpAny_field hT hdT h3 ?_)
  rw [if_neg (show ¬ ((Value.none == rawInt L)=true) by simp [rawInt])]
  refine wpAny_bind (wpAny_setField hT hdT (Array.getElem?_eq_some_iff.mp h3).1 ?_)
  have ot:∀ b,b≠T0→(s.heap.update T0 (Obj.mapFields (·.setIfInBounds 3 Value.none))).get? b=s.heap.get? b:=fun b hb=>Heap.get?_update_other _ _ (Ne.symm hb)
  have nf:∀ b o,s.heap.get? b=some o→(∀ vs,o.data≠.fields vs)→b≠T0:=fun b o hb hnf z=>by
   rw [z,hT] at hb
   cases hb
   exact hnf ts hdT
  refine entry_ok hfr (hl.of_keeps fun b o hb hnf=>⟨o,(ot b (nf b o hb hnf)).trans hb,rfl⟩) hf ((ot e (Ne.symm nT)).trans he) hdn hd (Array.getElem?_eq_some_iff.mp h1).1 fun h' T x=>q h' T ⟨?_,x.exc,x.tb,fun b o hb nb no hbo=>?_,fun b o hb hbo=>?_⟩
  ·have:=x.ge
   rw [show (s.heap.update T0 (Obj.mapFields (·.setIfInBounds 3 Value.none))).objs.size=s.heap.objs.size from Heap.size_after_update ..] at this
   exact this
  ·exact x.keep b o hb nb (by simp) ((ot b (fun z=>no (by simp [z]))).trans hbo)
  ·obtain ⟨_,o',ho',hnf⟩:=hl.mem hb
   rw [hbo] at ho'
   cases ho'
   exact x.slot b o hb ((ot b (nf b o hbo hnf)).trans hbo)
theorem leaves {base:Heap}{env:Env}{outer:List Env}{L e:Addr}{oe:Obj}{vs:Array Value}{old:List Addr}{Q:Unit→Shared→Prop} (hfr:A.frames=some (env :: outer)) (hl:s.heap.FunFrames base (env :: outer)) (hf:env.frame=some L)
  (he:s.heap.get? e=some oe) (hdn:oe.dict=none) (hd:oe.data=.fields vs) (tr:Trc s.heap e vs old)
  (q:∀ h' T,Lv ((env :: outer).filterMap (·.frame)) e old oe.cls s.heap h' T→Q () { s with heap:=h' }):wpAny M A (leaving env (.ref e)) Q E s:=by
 unfold leaving
 exact wpAny_bind (lands hfr hl hf he hdn hd tr q)
end
end EX
set_option maxHeartbeats 4000000
namespace L2
open PySem PySem.Spec PyProof.Rows
def CX1 (P:Program) (w:World):CXT:=fun outer H s E er s'=>∃ e T C H',er=.ref e∧s'.os=s.os∧AllBare s'.gens∧Un (frs outer) [] H H' s.heap s'.heap∧HOk P w H' s'.heap∧s.heap.get? e=none∧s.heap.get? T=none∧T≠e∧H' e=none∧H' T=none ∧
 (∃ oe vs,s'.heap.get? e=some oe∧oe.cls=.ref C∧oe.data=.fields vs∧vs[1]? = some (.ref T)∧oe.dict=none)∧(∃ oT ts,s'.heap.get? T=some oT∧oT.data=.fields ts∧ts[3]? = some .none)∧E (.ref e) (some C) H'
theorem ObjOk.has {P:Program}{w:World}{H:Hp}{h:Heap}{a:Addr}{o:HO} (x:ObjOk P w H h a o):∃ u,h.get? a=some u:=by
 cases o with
 | lst xs=>obtain ⟨_,_,_,_,e⟩:=x;exact ⟨_,e⟩
 | tup xs=>obtain ⟨_,_,_,_,e,_⟩:=x;exact ⟨_,e⟩
 | dK kvs=>obtain ⟨_,_,_,_,o,_,_,e,_⟩:=x;exact ⟨_,e⟩
 | dT kvs=>obtain ⟨_,_,_,_,o,_,_,e,_⟩:=x;exact ⟨_,e⟩
 | set S n=>obtain ⟨o,_,_,_,e,_⟩:=x;exact ⟨_,e⟩
 | ins C dx fs=>obtain ⟨_,_,_,e,_⟩:=x;exact ⟨_,e⟩
 | own y=>exact x
 | xd fs=>obtain ⟨_,⟨_,_,_,e,_⟩,_⟩:=x;exact ⟨_,e⟩
 | rng lo hi=>obtain ⟨_,_,_,e⟩:=x;exact ⟨_,e⟩
 | frz ob u=>obtain ⟨e,_⟩:=x;exact ⟨_,e⟩
 | tbl ps=>exact ⟨_,(show h.get? a=some _ from x)⟩
 | met f y=>exact ⟨_,(show h.get? a=some _ from x)⟩
 | ext φ=>obtain ⟨_,e,_⟩:=x;exact e
theorem HOk.unseen {P:Program}{w:World}{H:Hp}{h:Heap}{a:Addr} (x:HOk P w H h) (e:h.get? a=none):H a=none:=by
 cases q:H a with
 | none=>rfl
 | some u =>
  obtain ⟨o,z⟩:=(x a u q).has
  rw [e] at z;cases z
def FlOk (X:Cx) (pins:List (Addr × Obj)) (H:Hp) (b:Addr):Prop :=
 H b=none∧b≠X.env.locals∧b ∉ X.fs∧(b∈X.ex∨X.s₀.heap.get? b=none)∧(∀ x c,X.env.cells.lookup x=some c→c≠b)∧∀ p∈X.pn ++ pins,p.1≠b
theorem Inv.flOk {X:Cx}{pins:List (Addr × Obj)}{σ:St}{H H':Hp}{s:Shared}{b:Addr} (I:Inv X pins σ H s) (hb:s.heap.get? b=none) (hn:H' b=none):FlOk X pins H' b:=by
 have no:∀ {o:Obj},s.heap.get? b=some o→False:=fun z=>by rw [hb] at z;cases z
 refine ⟨hn,fun z=>?_,fun z=>?_,?_,fun x c e z=>?_,fun p hp z=>?_⟩
 ·obtain ⟨m,⟨o,es,ep,ho,_⟩,_⟩:=I.loc
  rw [← z] at ho;exact no ho
 ·obtain ⟨_,o,ho,_⟩:=I.funs.mem z
  exact no ho
 ·by_cases hx:b∈X.ex
  ·exact .inl hx
  ·refine .inr ?_
   cases q:X.s₀.heap.get? b with
   | none=>rfl
   | some o =>
    obtain ⟨o',h'⟩:=I.base.there b o q hx
    exact (no h').elim
 ·obtain ⟨v,q⟩:=I.cell x c e
  rw [z] at q
  obtain ⟨o,ho,_⟩:=q
  exact no ho
 ·have:=(I.pin p hp).1
  rw [z] at this
  exact no this
structure Fly (X:Cx) (pins:List (Addr × Obj)) (H:Hp) (e C:Addr) (s:Shared):Prop where
 fe:FlOk X pins H e
 obj:∃ oe vs old,s.heap.get? e=some oe∧oe.cls=.ref C∧oe.data=.fields vs∧EX.Trc s.heap e vs old∧oe.dict=none∧∀ b∈old,FlOk X pins H b
def XOk (X:Cx) (E:XK):Prop:=∀ (pins:List (Addr × Obj)) (σ:St) (H:Hp) (s:Shared) (e C:Addr),Inv X pins σ H s→Fly X pins H e C s→E (.ref e) (some C) H→X.xe (.ref e) s
theorem fly_of {X:Cx}{pins:List (Addr × Obj)}{σ:St}{H:Hp}{s s':Shared}{E:XK}{er:Value} (I:Inv X pins σ H s) (h:CX1 X.prog X.w X.stack H s E er s'):∃ e C H',er=.ref e∧Inv X pins σ H' s'∧Fly X pins H' e C s'∧E (.ref e) (some C) H':=by
 obtain ⟨e,T,C,H',rfl,os,bare,un,hok,ge,gT,ne,he,hT,⟨oe,vs,h1,h2,h3,h4,h8⟩,⟨oT,ts,h5,h6,h7⟩,q⟩:=h
 obtain ⟨hh,g,d,t,os'⟩:=s'
 obtain rfl:os'=s.os:=os
 refine ⟨e,C,H',rfl,I.call (h':=hh) (g':=g) (d':=d) (t':=t) (ch:=[]) un hok bare (fun b z=>absurd z (by simp)),⟨I.flOk ge he,oe,vs,[T],h1,h2,h3,.inr ⟨T,oT,ts,rfl,h4,ne,h5,h6,h7⟩,h8,fun b hb=>?_⟩,q⟩
 rw [List.mem_singleton.mp hb]
 exact I.flOk gT hT
theorem pass1 {X:Cx}{E:XK} (h:XOk X E):Passes (CX1 X.prog X.w) X E:=fun pins σ H s er s' I hcx=>by
 obtain ⟨e,C,H',rfl,I',fl,q⟩:=fly_of I hcx
 exact h pins σ H' s' e C I' fl q
theorem passN {P:Program}{w:World}{X:Cx}:Passes (CX1 P w) X E0:=fun _ _ _ _ _ _ _ h=>by
 obtain ⟨_,_,_,_,_,_,_,_,_,_,_,_,_,_,_,_,q⟩:=h
 exact q.elim
section
variable {P:Program}{w:World}{K:PySem.W.Frag}{mg:Str→Option Value}{base:Heap}
theorem xok_fn {N:List Str}{qual:Str}{scope:Scope}{f:Addr}{cdv:Value}{A:Around}{outer:List Env}{s:Shared}{H:Hp}{E:XK}:XOk (cxOf (CX1 P w) P w K mg base N qual scope f cdv A outer s H E) E:=by
 intro pins σ H' s' e C I fl q
 obtain ⟨fe,oe,vs,old,h1,h2,h3,tr,hdn,fo⟩:=fl
 show wpAny (model P w) (A.deeper (envOfC qual scope s.heap.objs.size f cdv)) (leaving (envOfC qual scope s.heap.objs.size f cdv) (.ref e)) (fun _ s''=>CX1 P w outer H s E (.ref e) s'') (fun e' s''=>CX1 P w outer H s E e' s'') s'
 have fr:(A.deeper (envOfC qual scope s.heap.objs.size f cdv)).frames=some (envOfC qual scope s.heap.objs.size f cdv :: outer):=I.ok.frames
 have ff:s'.heap.FunFrames base (envOfC qual scope s.heap.objs.size f cdv :: outer):=I.stack
 have free:∀ b∈(envOfC qual scope s.heap.objs.size f cdv :: outer).filterMap (·.frame),H' b=none:=I.stkFree
 have big:∀ {b},FlOk (cxOf (CX1 P w) P w K mg base N qual scope f cdv A outer s H E) pins H' b→s.heap.get? b=none:=fun {b} hb=>by
  rcases hb.2.2.2.1 with z | z
  ·exact absurd z (by show b ∉ ([]:List Addr);simp)
  ·exact z
 have old_lt:∀ {b o},s.heap.get? b=some o→b≠e∧b ∉ old∧b≠s.heap.objs.size:=fun {b o} hb=>by
  have lt:=Heap.lt_size hb
  refine ⟨fun z=>?_,fun z=>?_,Nat.ne_of_lt lt⟩
  ·have:=big fe
   rw [← z,hb] at this;cases this
  ·have:=big (fo b z)
   rw [hb] at this;cases this
 refine EX.leaves (base:=base) fr ff rfl h1 hdn h3 tr fun h' T lv=>?_
 have inS:∀ {b},b∈(envOfC qual scope s.heap.objs.size f cdv :: outer).filterMap (·.frame)→b=s.heap.objs.size∨b∈frs outer:=fun {b} hb=>by
  rw [List.filterMap_cons] at hb
  exact List.mem_cons.mp hb
 have toS:∀ {b},b∈frs outer→b∈(envOfC qual scope s.heap.objs.size f cdv :: outer).filterMap (·.frame):=fun {b} hb=>by
  rw [List.filterMap_cons]
  exact List.mem_cons_of_mem _ hb
 have B:=I.base
 have sge:s.heap.objs.size≤s'.heap.objs.size:=I.sz
 have kp:∀ b u,H' b≠none→s'.heap.get? b=some u→h'.get? b=some u:=fun b u nb hb=>by
  refine lv.keep b u (fun z=>nb (free b z)) (fun z=>nb (by rw [z];exact fe.1)) (fun z=>nb (fo b z).1) hb
 refine ⟨e,T,C,H',rfl,I.os,I.bare,⟨fun b o e1 n hb hx=>?_,fun b o e1 n hb hx=>?_,fun b o e1 n hx=>B.free b o e1 n hx,fun b o e1 hx=>?_,B.tups,B.frzs,B.tbls⟩,fun b u e1=>?_,big fe,Heap.get?_none_of_le (Nat.le_trans sge lv.ge),?_,fe.1,I.hok.fresh lv.ge,?_,lv.tb,q⟩
 ·obtain ⟨z1,z2,z3⟩:=old_lt e1
  refine lv.keep b o (fun z=>?_) z1 z2 (B.keep b o e1 n hb hx)
  rcases inS z with z | z
  ·exact z3 z
  ·exact hb z
 ·obtain ⟨sl,e2⟩:=B.slot b o e1 n hb hx
  obtain ⟨sl',e3⟩:=lv.slot b _ (toS hb) e2
  exact ⟨sl',e3⟩
 ·obtain ⟨o',e2⟩:=B.there b o e1 hx
  obtain ⟨z1,z2,z3⟩:=old_lt e1
  by_cases hS:b∈(envOfC qual scope s.heap.objs.size f cdv :: outer).filterMap (·.frame)
  ·obtain ⟨sl,e3⟩:=lv.slot b _ hS e2
   exact ⟨_,e3⟩
  ·exact ⟨o',lv.keep b o' hS z1 z2 e2⟩
 ·refine (I.hok b u e1).stay (fun c v hc hv=>kp c v (fun z=>?_) hv) (fun _ z=>z) fun _ _ z=>z
  rcases hc with y | y
  ·rw [y,e1] at z;cases z
  ·rw [y] at z;cases z
 ·exact Nat.ne_of_gt (Nat.lt_of_lt_of_le (Heap.lt_size h1) lv.ge)
 ·obtain ⟨oe',vs',y1,y2,y3,y4,y5⟩:=lv.exc
  exact ⟨oe',vs',y1,y2.trans h2,y3,y4,y5⟩
theorem Fun.okX {x qual:Str}{st:Stmt}{f:Addr}{fd:FuncData}{N ps:List Str}{k:Nat}{sp:Sp} (F:Fun K x qual st f fd) (S:FnScope N ps (defScope st)) (len:∀ vs H Q E,sp vs H Q E→vs.length=ps.length)
  (hbody:∀ (cdv:Value) (A:Around) (outer:List Env) (s:Shared) (H:Hp) (vs:List V) (Q:VK) (E:XK),Room k (A.deeper (envOfC qual (defScope st) s.heap.objs.size f cdv))→sp vs H Q E →
   ∃ t,PSs (cxOf (CX1 P w) P w K mg base N qual (defScope st) f cdv A outer s H E) (defBody st) t∧t { nx:=fun _ H'=>Q .non H',rt:=Q } (start N vs) H):FnOk P w K mg base (CX1 P w) (k+1) f fd ps sp:=by
 obtain ⟨oc,od,kV,doc,pm,an,cdv,ct,osl,rfl,lk,hcd⟩:=F.ex
 exact fn_of lk hcd S len fun A outer s H vs Q E hr hsp=>hbody cdv A outer s H vs Q E hr hsp
end
section
open PySem.W
theorem cls_in {K:Frag}{h:Heap}{C:Addr}{bmB:List Value}{newId:String} (X:K.In h) (q:excIn K C bmB newId=true):∃ bm N nm qn bs hdct sn sub ab col dd k0 k1 k2 k3 k5 mN,
  h.get? C=some (excClassObj nm qn C N bs bm hdct sn sub ab col dd k0 k1 k2 k3 k5 newId)∧h.Ns N mN∧mN "__init__" = none∧OwnTail h bmB bm:=by
 have hk:=q
 revert hk
 rw [excIn]
 intro hk
 cases hl:K.lookup C with
 | none=>rw [hl] at hk;cases hk
 | some ob =>
  obtain ⟨c,dd,dt,sl⟩:=ob
  rw [hl] at hk
  split at hk
  next dd' cd sl' he =>
   cases he
   split at hk
   next C' bm k0 k1 k2 k3 n k5 hm hs =>
    simp only [Bool.and_eq_true,beq_iff_eq,Bool.not_eq_true'] at hk
    obtain ⟨⟨⟨⟨⟨hc,hn⟩,hdel⟩,ht⟩,hok⟩,hni⟩:=hk
    cases cd
    cases sl
    simp only at hm hdel hok hni hs
    rw [hm,hdel,hs] at hl
    rw [hc,hn] at hl
    exact ⟨_,_,_,_,_,_,_,_,_,_,_,_,_,_,_,_,_,X _ _ hl,.of_isNs (isNs_of_in X hok),nsMap_none_of_in X hok hni,tail_of_in X ht⟩
   next=>cases hk
  next=>cases hk
end
def tRaise (C:Addr) (t:TA) (E:XK):TS:=fun _ σ H=>t σ H fun vs H1=>vs.length≤sizeLine∧∀ e,H1 e=none→E (.ref e) (some C) H1
theorem ps_raise {X:Cx}{E:XK}{C:Addr}{x:Str}{bmB:List Value}{B newId initId:String}{e:Expr}{es:List Expr}{t:TA}{np cpos pos:Pos} (F:ExcBaseFacts B newId initId bmB) (q:PySem.W.excIn X.K C bmB newId=true) (hbase:bmB.contains (.type "BaseException")=true)
  (hg:Gl X x) (hm:X.mg x=some (.ref C)) (hc:X.calm=true) (hx:XOk X E) (ha:PA X (e :: es) t) (hdb:(x == ("__debug__" : Str))=false:=by decide) (he:starEach (e :: es) X.env=(false,eval e X.env) :: starEach es X.env:=by rfl)
  (hpl:(backTo cpos (starEach (e :: es) X.env)).any (·.1)=false:=by rfl):PS X (.Raise (some (.Call (.Name x np) (e :: es) [] cpos)) none pos) (tRaise C t E):=by
 intro pins s σ H D I h
 obtain ⟨bm,N,nm,qn,bs,hdct,sn,sub,ab,col,dd,k0,k1,k2,k3,k5,mN,hC,hN,hni,T⟩:=cls_in I.ok.mod.kin q
 refine wpAny_Raise_call_subT (nm:=nm) (q:=qn) (N:=N) (bs:=bs) (hdct:=hdct) (sn:=sn) (sub:=sub) (ab:=ab) (col:=col) (dd:=dd) (k0:=k0) (k1:=k1) (k2:=k2) (k3:=k3) (k5:=k5) F (T.hasType hbase) (I.ok.hd hc) hpl hni (ld_glob I hg hm ⟨rfl,?_⟩ hdb)
 have a1:=ha cpos pins s σ H _ I h
 rw [he] at a1 ⊢
 refine Calls.evalArgs_plain (thn a1 fun us s1 ⟨vs,H1,I1,r,hz,q1⟩=>⟨rfl,?_,I1.bk _ _ hC,hN.keeps I1.bk,T.keeps I1.bk,fun h' e' hme=>?_⟩)
 ·show us.length≤_
  rw [← r.length];exact hz
 ·have I2:Inv X pins σ H1 { s1 with heap:=h' }:=I1.kept (t':=s1.toks) hme.keeps
  obtain ⟨tt,t1,t2,t3⟩:=hme.there
  exact hx pins σ H1 _ e' C I2 ⟨I1.flOk hme.new (I1.hok.unseen hme.new),_,_,[],t1,rfl,rfl,.inl ⟨rfl,rfl⟩,rfl,fun b hb=>absurd hb (by simp)⟩ (q1 e' (I1.hok.unseen hme.new))
def Cx.plus (X:Cx) (l:List Addr):Cx:={ X with ex:=l ++ X.ex }
section
variable {X:Cx}{pins:List (Addr × Obj)}{σ:St}{H:Hp}{s:Shared}{l:List Addr}
theorem unseen_base (I:Inv X pins σ H s) {b:Addr} (hb:X.s₀.heap.get? b=none) (o:Obj):X.base.get? b≠some o:=fun z=>by
 have:=(I.ok.bs b o z).1
 rw [hb] at this;cases this
theorem Inv.plus (I:Inv X pins σ H s) (h:∀ b∈l,FlOk X pins H b):Inv (X.plus l) pins σ H s:=by
 have K:=I.ok
 refine ⟨⟨K.mod,K.kind,K.glob,K.blt,K.above,K.inj,K.has,K.cab,K.hd,K.frames,K.stk,fun b hb=>?_,K.bs,K.bsz,fun b o e hb=>?_,fun b hb=>?_,K.funs,K.frf⟩,I.os,I.bare,?_,I.loc,I.cell,I.free,I.freeC,I.pin,I.hok,I.len⟩
 ·rcases List.mem_append.mp hb with z | z
  ·exact ⟨(h b z).2.1,(h b z).2.2.2.2.1⟩
  ·exact K.exf b z
 ·rcases List.mem_append.mp hb with z | z
  ·rcases (h b z).2.2.2.1 with y | y
   ·exact K.noex b o e y
   ·exact unseen_base I y o e
  ·exact K.noex b o e z
 ·rcases List.mem_append.mp hb with z | z
  ·exact (h b z).2.2.1
  ·exact K.exfs b z
 ·have no:∀ {b:Addr},b ∉ l ++ X.ex→b ∉ X.ex:=fun hb z=>hb (List.mem_append_right _ z)
  exact ⟨fun b o e n hb hx=>I.base.keep b o e n hb (no hx),fun b o e n hb hx=>I.base.slot b o e n hb (no hx),fun b o e n hx=>I.base.free b o e n (no hx),fun b o e hx=>I.base.there b o e (no hx),I.base.tups,I.base.frzs,I.base.tbls⟩
theorem Inv.minus (I:Inv (X.plus l) pins σ H s) (K:X.Ok) (h:∀ b∈l,b∈X.ex∨X.s₀.heap.get? b=none):Inv X pins σ H s:=by
 have no:∀ {b:Addr}{o:Obj},X.s₀.heap.get? b=some o→b ∉ X.ex→b ∉ l ++ X.ex:=fun {b o} e hb z=>by
  rcases List.mem_append.mp z with y | y
  ·rcases h b y with u | u
   ·exact hb u
   ·rw [u] at e;cases e
  ·exact hb y
 exact ⟨K,I.os,I.bare,⟨fun b o e n hb hx=>I.base.keep b o e n hb (no e hx),fun b o e n hb hx=>I.base.slot b o e n hb (no e hx),fun b o e n hx=>I.base.free b o e n (no e hx),fun b o e hx=>I.base.there b o e (no e hx),I.base.tups,I.base.frzs,I.base.tbls⟩,
  I.loc,I.cell,I.free,I.freeC,I.pin,I.hok,I.len⟩
theorem Inv.turn {h':Heap} (I:Inv X pins σ H s) (h:∀ b∈l,FlOk X pins H b)
  (keep:∀ b o,b ∉ frs X.stack→b ∉ l→s.heap.get? b=some o→h'.get? b=some o) (slot:∀ b o,b∈frs X.stack→s.heap.get? b=some o→∃ sl,h'.get? b=some { o with slots:=sl }):Inv X pins σ H { s with heap:=h' }:=by
 have I1:=I.plus h
 have st:∀ b,H b≠none→b ∉ frs X.stack∧b ∉ l:=fun b n=>⟨fun z=>n (I.stkFree b z),fun z=>n (h b z).1⟩
 have u:Un (frs X.stack) l H H s.heap h':=by
  refine ⟨fun b o e n hb hx=>keep b o hb hx e,fun b o e n hb hx=>slot b o hb e,fun b o e n hx=>n,fun b o e hx=>?_,fun _ _ e=>e,fun _ _ _ e=>e,fun b ps e=>⟨#[],by rw [e];simp⟩⟩
  by_cases hb:b∈frs X.stack
  ·obtain ⟨sl,q⟩:=slot b o hb e
   exact ⟨_,q⟩
  ·exact ⟨o,keep b o hb hx e⟩
 have hok:HOk X.prog X.w H h':=fun b u e1=>by
  refine (I.hok b u e1).stay (fun c v hc hv=>?_) (fun _ z=>z) fun _ _ z=>z
  have n:H c≠none:=fun z=>by
   rcases hc with y | y
   ·rw [y,e1] at z;cases z
   ·rw [y] at z;cases z
  exact keep c v (st c n).1 (st c n).2 hv
 exact Inv.minus (l:=l) (I1.call (g':=s.gens) (d':=s.drawn) (t':=s.toks) (ch:=l) u hok I.bare fun b hb=>⟨.inl (List.mem_append_left _ hb),(h b hb).2.1,(h b hb).2.2.2.2.1,(h b hb).2.2.2.2.2⟩) I.ok fun b hb=>(h b hb).2.2.2.1
structure Held (X:Cx) (pins:List (Addr × Obj)) (H:Hp) (e C T:Addr) (s:Shared):Prop where
 fe:FlOk X pins H e
 fT:FlOk X pins H T
 ne:T≠e
 exc:∃ oe vs,s.heap.get? e=some oe∧oe.cls=.ref C∧oe.data=.fields vs∧vs[1]? = some (.ref T)∧oe.dict=none
 tb:∃ oT ts,s.heap.get? T=some oT∧oT.data=.fields ts∧ts[3]? = some .none
theorem land {e C:Addr}{Q:Unit→Shared→Prop} (I:Inv X pins σ H s) (hs:X.stack=X.env :: X.outer∧X.env.frame=some X.env.locals) (fl:Fly X pins H e C s)
  (q:∀ h' T,Inv X pins σ H { s with heap:=h' }→Held X pins H e C T { s with heap:=h' }→Q () { s with heap:=h' }) {E:Value→Shared→Prop} :
  wpAny (model X.prog X.w) X.A (noteFrame (.ref e) X.env) (fun _ s'=>wpAny (model X.prog X.w) X.A (setFlight (.ref e) none) Q E s') E s:=by
 obtain ⟨fe,oe,vs,old,h1,h2,h3,tr,hdn,fo⟩:=fl
 have fr:X.A.frames=some (X.env :: X.outer):=by rw [I.ok.frames,hs.1]
 have ff:s.heap.FunFrames X.base (X.env :: X.outer):=by rw [← hs.1];exact I.stack
 refine EX.lands fr ff hs.2 h1 hdn h3 tr fun h' T lv=>?_
 have es:frs X.stack=(X.env :: X.outer).filterMap (·.frame):=by rw [hs.1];rfl
 have I2:Inv X pins σ H { s with heap:=h' }:=by
  refine I.turn (l:=e :: old) (fun b hb=>?_) (fun b o hb hl ho=>?_) (fun b o hb ho=>?_)
  ·rcases List.mem_cons.mp hb with z | z
   ·rw [z];exact fe
   ·exact fo b z
  ·rw [es] at hb
   exact lv.keep b o hb (fun z=>hl (by simp [z])) (fun z=>hl (by simp [z])) ho
  ·rw [es] at hb
   exact lv.slot b o hb ho
 have gT:s.heap.get? T=none:=Heap.get?_none_of_le lv.ge
 refine q h' T I2 ⟨fe,I.flOk gT (I.hok.unseen gT),?_,?_,lv.tb⟩
 ·exact Nat.ne_of_gt (Nat.lt_of_lt_of_le (Heap.lt_size h1) lv.ge)
 ·obtain ⟨oe',vs',y1,y2,y3,y4,y5⟩:=lv.exc
  exact ⟨oe',vs',y1,y2.trans h2,y3,y4,y5⟩
theorem again {e C T:Addr}{Q:Unit→Shared→Prop}{A:Around} (I:Inv X pins σ H s) (hd:Held X pins H e C T s)
  (q:∀ h',Inv X pins σ H { s with heap:=h' }→Held X pins H e C T { s with heap:=h' }→Q () { s with heap:=h' }) {E:Value→Shared→Prop} :
  wpAny (model X.prog X.w) A (setFlight (.ref e) none) Q E s:=by
 obtain ⟨fe,fT,ne,⟨oe,vs,h1,h2,h3,h4,h5⟩,⟨oT,ts,t1,t2,t3⟩⟩:=hd
 unfold setFlight
 refine wpAny_bind (wpAny_field h1 h3 h4 ?_)
 rw [if_pos (show (Value.ref T != Value.none)=true by simp)]
 refine wpAny_setField t1 t2 (Array.getElem?_eq_some_iff.mp t3).1 ?_
 have d4:=Obj.data_mapFields t2 (·.setIfInBounds 3 ((none:Option Addr).elim Value.none fun f=>rawInt f))
 have ot:∀ b,b≠T→(s.heap.update T (Obj.mapFields (·.setIfInBounds 3 ((none:Option Addr).elim Value.none fun f=>rawInt f)))).get? b=s.heap.get? b:=fun b hb=>Heap.get?_update_other _ _ (Ne.symm hb)
 have notT:∀ b,b∈frs X.stack→b≠T:=fun b hb z=>by
  obtain ⟨_,o,ho,nf⟩:=I.stack.mem hb
  rw [z,t1] at ho;cases ho
  exact nf ts t2
 refine q _ (I.turn (l:=[T]) (fun b hb=>?_) (fun b o hb hl ho=>?_) fun b o hb ho=>?_) ⟨fe,fT,ne,⟨oe,vs,(ot e (Ne.symm ne)).trans h1,h2,h3,h4,h5⟩,⟨_,_,Heap.get?_update_self _ t1 (Obj.isFreed_of_fields d4),d4,?_⟩⟩
 ·rw [List.mem_singleton.mp hb];exact fT
 ·exact (ot b (fun z=>hl (by simp [z]))).trans ho
 ·exact ⟨o.slots,(ot b (notT b hb)).trans ho⟩
 ·simp [(Array.getElem?_eq_some_iff.mp t3).1]
end
def mroIn (K:PySem.W.Frag) (C:Addr):List Value:=match K.lookup C with
 | some ⟨_,_,.cls cd,_⟩=>cd.mro
 | _=>[]
section
open PySem.W
theorem exc_cls {K:Frag}{h:Heap}{C:Addr} (X:K.In h) (q:ktsIn K C "BaseException" = true):∃ nm qn N bs bm hdct sn sub ab col dd k0 k1 k2 k3 k5 newId,
  h.get? C=some (excClassObj nm qn C N bs bm hdct sn sub ab col dd k0 k1 k2 k3 k5 newId)∧bm.contains (.type "BaseException")=true∧mroIn K C=.ref C :: bm:=by
 obtain ⟨nm,qn,N,bs,bm,hdct,sn,sub,ab,col,dd,k0,k1,k2,k3,k5,newId,hC,hb,_⟩:=kts_cls X q
 refine ⟨nm,qn,N,bs,bm,hdct,sn,sub,ab,col,dd,k0,k1,k2,k3,k5,newId,hC,hb,?_⟩
 cases hl:K.lookup C with
 | none=>unfold ktsIn at q;rw [hl] at q;cases q
 | some ob =>
  have:=X _ _ hl
  rw [hC] at this
  cases this
  unfold mroIn
  rw [hl]
end
theorem matches_own {M:Model}{A:Around}{E:Value→Shared→Prop}{h:Heap}{g:Array GenState}{d:Drawn}{t:Nat}{os:OsState}{e C D:Addr}{oe:Obj}{K:PySem.W.Frag}{Q:Bool→Shared→Prop} (X:K.In h)
  (qC:PySem.W.ktsIn K C "BaseException" = true) (qD:PySem.W.ktsIn K D "BaseException" = true) (he:h.get? e=some oe) (hcls:oe.cls=.ref C) (hq:Q ((mroIn K C).contains (.ref D)) ⟨h,g,d,t,os⟩) :
  wpAny M A (excMatches (.ref e) (.ref D)) Q E ⟨h,g,d,t,os⟩:=by
 obtain ⟨nm,qn,N,bs,bm,hdct,sn,sub,ab,col,dd,k0,k1,k2,k3,k5,newId,hC,hbC,mC⟩:=exc_cls X qC
 obtain ⟨nm',qn',N',bs',bm',hdct',sn',sub',ab',col',dd',k0',k1',k2',k3',k5',newId',hD,hbD,mD⟩:=exc_cls X qD
 have hDB:(Value.ref D :: bm').contains (.type "BaseException")=true:=by rw [List.contains_cons,hbD,Bool.or_true]
 have f:=tc_notTuple
 rw [mC] at hq
 unfold excMatches
 repeat (first | (with_reducible refine wpAny_loadPart_at he ?_;rw [hcls]) | with_reducible refine wpAny_loadPart_at hD ?_ | (with_reducible refine wpAny_isSubtype_exc hD ?_;rw [hDB]) | with_reducible refine wpAny_isSubtype_exc hC ?_ | wp_step)
 all_goals (cases hb:(Value.ref C :: bm).contains (.ref D) <;> (rw [hb] at hq;wp_walk;exact hq))
def Cx.mk' (X:Cx) (e:Addr):Cx:={ X with A:=X.A.mark (some (.ref e)),calm:=false,xe:=fun _ _=>False }
def Cx.tr (X:Cx) (pins:List (Addr × Obj)) (Ex:St→XK):Cx :=
 { X with pn:=X.pn ++ pins,xe:=fun er s=>∃ σ e C H,er=.ref e∧Inv X pins σ H s∧Fly X pins H e C s∧Ex σ (.ref e) (some C) H }
section
variable {X:Cx}{pins:List (Addr × Obj)}{σ:St}{H:Hp}{s:Shared}{e C T:Addr}{D:Ends}{f:Flow}{Ex:St→XK}
theorem Inv.mk' (I:Inv X pins σ H s) (e:Addr):Inv (X.mk' e) pins σ H s :=
 ⟨⟨I.ok.mod,I.ok.kind,I.ok.glob,I.ok.blt,I.ok.above,I.ok.inj,I.ok.has,I.ok.cab,fun h=>Bool.noConfusion h,I.ok.frames,I.ok.stk,I.ok.exf,I.ok.bs,I.ok.bsz,I.ok.noex,I.ok.exfs,I.ok.funs,I.ok.frf⟩,I.os,I.bare,I.base,I.loc,I.cell,I.free,I.freeC,I.pin,I.hok,I.len⟩
theorem Inv.unmk (I:Inv (X.mk' e) pins σ H s) (K:X.Ok):Inv X pins σ H s:=⟨K,I.os,I.bare,I.base,I.loc,I.cell,I.free,I.freeC,I.pin,I.hok,I.len⟩
theorem Inv.tr (I:Inv X pins σ H s) (Ex:St→XK):Inv (X.tr pins Ex) [] σ H s :=
 ⟨⟨I.ok.mod,I.ok.kind,I.ok.glob,I.ok.blt,I.ok.above,I.ok.inj,I.ok.has,I.ok.cab,I.ok.hd,I.ok.frames,I.ok.stk,I.ok.exf,I.ok.bs,I.ok.bsz,I.ok.noex,I.ok.exfs,I.ok.funs,I.ok.frf⟩,I.os,I.bare,I.base,I.loc,I.cell,I.free,I.freeC,fun p hp=>I.pin p (by rw [List.append_nil] at hp;exact hp),I.hok,I.len⟩
theorem Inv.untr {pins':List (Addr × Obj)} (I:Inv (X.tr pins Ex) pins' σ H s):Inv X pins σ H s :=
 ⟨⟨I.ok.mod,I.ok.kind,I.ok.glob,I.ok.blt,I.ok.above,I.ok.inj,I.ok.has,I.ok.cab,I.ok.hd,I.ok.frames,I.ok.stk,I.ok.exf,I.ok.bs,I.ok.bsz,I.ok.noex,I.ok.exfs,I.ok.funs,I.ok.frf⟩,I.os,I.bare,I.base,I.loc,I.cell,I.free,I.freeC,fun p hp=>I.pin p (List.mem_append_left _ hp),I.hok,I.len⟩
theorem Fly.untr {pins':List (Addr × Obj)} (F:Fly (X.tr pins Ex) pins' H e C s):Fly X pins H e C s:=by
 have up:∀ {b},FlOk (X.tr pins Ex) pins' H b→FlOk X pins H b:=fun {b} h=>⟨h.1,h.2.1,h.2.2.1,h.2.2.2.1,h.2.2.2.2.1,fun p hp=>h.2.2.2.2.2 p (List.mem_append_left _ hp)⟩
 obtain ⟨oe,vs,old,h1,h2,h3,h4,h6,h5⟩:=F.obj
 exact ⟨up F.fe,oe,vs,old,h1,h2,h3,h4,h6,fun b hb=>up (h5 b hb)⟩
def XOkS (X:Cx) (Ex:St→XK):Prop:=∀ (pins:List (Addr × Obj)) (σ:St) (H:Hp) (s:Shared) (e C:Addr),Inv X pins σ H s→Fly X pins H e C s→Ex σ (.ref e) (some C) H→X.xe (.ref e) s
theorem xok_tr:XOkS (X.tr pins Ex) Ex:=fun pins' σ H s e C I fl q=>⟨σ,e,C,H,rfl,I.untr,fl.untr,q⟩
theorem XOk.toS {E:XK} (h:XOk X E):XOkS X fun _=>E:=fun pins σ H s e C I fl q=>h pins σ H s e C I fl q
theorem SP.unmk (h:SP (X.mk' e) pins D f s) (K:X.Ok):SP X pins D f s:=by
 cases f with
 | ret u=>obtain ⟨v,σ',H',I,r,q⟩:=h;exact ⟨v,σ',H',I.unmk K,r,q⟩
 | next=>obtain ⟨σ',H',I,q⟩:=h;exact ⟨σ',H',I.unmk K,q⟩
 | brk=>obtain ⟨σ',H',I,q⟩:=h;exact ⟨σ',H',I.unmk K,q⟩
 | cont=>obtain ⟨σ',H',I,q⟩:=h;exact ⟨σ',H',I.unmk K,q⟩
theorem SP.untr (h:SP (X.tr pins Ex) [] D f s):SP X pins D f s:=by
 cases f with
 | ret u=>obtain ⟨v,σ',H',I,r,q⟩:=h;exact ⟨v,σ',H',I.untr,r,q⟩
 | next=>obtain ⟨σ',H',I,q⟩:=h;exact ⟨σ',H',I.untr,q⟩
 | brk=>obtain ⟨σ',H',I,q⟩:=h;exact ⟨σ',H',I.untr,q⟩
 | cont=>obtain ⟨σ',H',I,q⟩:=h;exact ⟨σ',H',I.untr,q⟩
end
def PH (X:Cx) (hs:List ExceptHandler) (hd:Addr→Addr→TS):Prop :=
 ∀ (pins:List (Addr × Obj)) (s:Shared) (σ:St) (H:Hp) (D:Ends) (e C T:Addr),Inv X pins σ H s→Held X pins H e C T s→hd e C D σ H→wpAny (model X.prog X.w) X.A (handleBy (.ref e) X.env hs) (SP X pins D) X.xe s
def tNoH:Addr→Addr→TS:=fun _ _ _ _ _=>False
def tHd (K:PySem.W.Frag) (Dc:Addr) (su rest:Addr→Addr→TS):Addr→Addr→TS:=fun e C D σ H =>
 PySem.W.ktsIn K C "BaseException" = true∧if (mroIn K C).contains (.ref Dc) then su e C D σ H else rest e C D σ H
section
variable {X:Cx}{x:Str}{np pos:Pos}{Dc:Addr}{b₀:Stmt}{body:List Stmt}{rest:List ExceptHandler}{hd:Addr→Addr→TS}{ts:TS}
theorem ph_nil:PH X [] tNoH:=fun _ _ _ _ _ _ _ _ _ _ h=>h.elim
def tTry (tb:(St→XK)→TS) (hd:Addr→Addr→TS):TS:=fun D σ H=>tb (fun σ' er oc H'=>∃ e C,er=.ref e∧oc=some C∧hd e C D σ' H') D σ H
theorem ps_try {b:List Stmt}{h₀:ExceptHandler}{hs:List ExceptHandler}{tb:(St→XK)→TS} (st:X.stack=X.env :: X.outer∧X.env.frame=some X.env.locals) (hb:∀ pins Ex,PSs (X.tr pins Ex) b (tb Ex)) (hh:PH X (h₀ :: hs) hd):PS X (.Try b (h₀ :: hs) [] [] pos) (tTry tb hd):=by
 intro pins s σ H D I h
 refine wpAny_Try_except (wpAny_mono (hb pins _ [] s σ H D (I.tr _) h) (fun f s2 z=>?_) fun er s2 z=>?_)
 ·have z':=SP.untr z
  cases f with
  | next=>exact wpAny_pure z'
  | ret u=>exact z'
  | brk=>exact z'
  | cont=>exact z'
 ·obtain ⟨σ',e,C,H',rfl,I2,fl,e2,C2,r1,r2,q⟩:=z
  cases r1;cases r2
  exact land I2 st fl fun h' T I3 hl=>hh pins _ σ' H' D e C T I3 hl q
end
def tCallX (sp:Sp) (dvs:List V) (Ex:St→XK) (t:TA):TE:=fun σ H Q=>t σ H fun vs H1=>sp (vs ++ dvs) H1 Q (Ex σ)
section
variable {X:Cx}{k:Nat}{f C:Addr}{fd:FuncData}{ps:List Str}{sp:Sp}{dvs:List V}{ds:List Value}{Ex:St→XK}{x m:Str}{p pos apos:Pos}{e o:Expr}{es:List Expr}{ta:TE}{t:TA}
theorem run_fnX {pins:List (Addr × Obj)}{σ:St}{H:Hp}{s:Shared}{Q:VK}{us:List Value}{vs:List V} (hx:XOkS X Ex) (F:FnOk X.prog X.w X.K X.mg X.base (CX1 X.prog X.w) k f fd ps sp) (hr:Room k X.A) (hb:Binds X.K fd ps ds) (hd:Vals dvs ds)
  (I:Inv X pins σ H s) (r:Vals vs us) (h:sp (vs ++ dvs) H Q (Ex σ)):wpAny (model X.prog X.w) X.A (call (.ref f) us) (EP X pins σ Q) X.xe s:=by
 have all:=r.append hd
 have n1:=all.length
 rw [F.len _ _ _ _ h] at n1
 apply wpAny_call
 apply codeAny_mono (F.run X.A X.stack s H ⟨us,[]⟩ (us ++ ds) (vs ++ dvs) Q (Ex σ) hr I.env0 (hb s us I.kIn n1.symm) all h)
 intro res s2 q
 match res,q with
 | .ok (.ret u),q=>exact I.after q
 | .error er,q =>
  obtain ⟨e,C,H2,hr,I2,fl,q2⟩:=fly_of I q
  rw [hr]
  exact hx pins σ H2 s2 e C I2 fl q2
theorem pe_callX (hx:XOkS X Ex) (F:FnOk X.prog X.w X.K X.mg X.base (CX1 X.prog X.w) k f fd ps sp) (hr:Room k X.A) (hg:Gl X x) (hm:X.mg x=some (.ref f)) (hk:PySem.W.keepIn X.K (.ref f)=true) (hb:Binds X.K fd ps ds) (hd:Vals dvs ds)
  (ha:PA X (e :: es) t) (hdb:(x == ("__debug__" : Str))=false:=by decide) (he:starEach (e :: es) X.env=(false,eval e X.env) :: starEach es X.env:=by rfl) (hpl:(backTo pos (starEach es X.env)).any (·.1)=false:=by rfl) :
  PE X (.Call (.Name x p) (e :: es) [] pos) (tCallX sp dvs Ex t):=fun pins s σ H Q I h =>
 wpAny_Call_Name_kw (ld_glob I hg hm (PySem.W.callWith_K I.mod.kin hk (thn (ha pos pins s σ H _ I h) fun us s2 ⟨vs,H2,I2,r2,q2⟩=>⟨I2.kIn,run_fnX hx F hr hb hd I2 r2 q2⟩) he hpl) hdb)
end
def excAt (a C:Addr):Heap→Prop:=fun h=>∃ o vs,h.get? a=some o∧o.cls=.ref C∧o.data=.fields vs∧o.dict=none
def xo (a C:Addr):HO:=.ext (excAt a C)
section
variable {X:Cx}{pins:List (Addr × Obj)}{σ:St}{H:Hp}{s:Shared}{e C T:Addr}
theorem Inv.seen {oe:Obj} (I:Inv X pins σ H s) (fe:FlOk X pins H e) (ho:s.heap.get? e=some oe) (hc:oe.cls=.ref C) {vs:Array Value} (hf:oe.data=.fields vs) (hdn:oe.dict=none):Inv X pins σ (upd H e (xo e C)) s:=by
 have ne:∀ {b u},H b=some u→b≠e:=fun {b u} h z=>by rw [z,fe.1] at h;cases h
 have up:∀ {b u},H b=some u→upd H e (xo e C) b=some u:=fun {b u} h=>(upd_ne (ne h)).trans h
 refine ⟨I.ok,I.os,I.bare,⟨I.base.keep,I.base.slot,fun b o e1 n hx=>?_,I.base.there,fun b xs h=>up (I.base.tups b xs h),fun b o u h=>up (I.base.frzs b o u h),fun b ps h=>?_⟩,I.loc,I.cell,(upd_ne (Ne.symm fe.2.1)).trans I.free,fun x c h=>(upd_ne (fe.2.2.2.2.1 x c h)).trans (I.freeC x c h),fun p hp=>?_,fun b u h=>?_,I.len⟩
 ·refine (upd_ne fun z=>?_).trans (I.base.free b o e1 n hx)
  rcases fe.2.2.2.1 with y | y
  ·exact hx (z ▸ y)
  ·rw [z,y] at e1;cases e1
 ·obtain ⟨more,q⟩:=I.base.tbls b ps h
  exact ⟨more,up q⟩
 ·obtain ⟨a1,a2,a3⟩:=I.pin p hp
  exact ⟨a1,(upd_ne (fe.2.2.2.2.2 p hp)).trans a2,a3⟩
 ·by_cases hb:b=e
  ·rw [hb,upd_same] at h
   cases h
   rw [hb]
   exact ⟨⟨oe,vs,ho,hc,hf,hdn⟩,⟨oe,ho⟩,fun h1 h2 ⟨o,vs,p1,p2⟩ k=>⟨o,vs,k o p1,p2⟩⟩
  ·rw [upd_ne hb] at h
   exact (I.hok b u h).stay (fun c v _ q=>q) (fun c q=>up q) fun c xs q=>up q
theorem unbind_ok {M:Model}{A:Around}{E:Value→Shared→Prop}{i:Nat}{n:Str}{v:V}{Q:Unit→Shared→Prop} (I:Inv X pins σ H s) (hN:X.N.Nodup) (hi:X.N[i]? = some n) (hk:X.env.scope.names.lookup n=some .local) (hv:σ[i]? = some (some v))
  (h:∀ s',Inv X pins (σ.set i none) H s'→Q () s'):wpAny M A (unbindName X.env n) Q E s:=by
 obtain ⟨m,hn,hl⟩:=id I.loc
 obtain ⟨u,_,lk⟩:=hl i n v hi hv (.inl hk)
 have hm:m n=some u:=by
  rcases lk with z | ⟨z,_⟩
  ·exact z.2
  ·rw [show X.env.kindOf n=some .local from hk] at z
   rcases z with z | z <;> cases z
 refine wpAny_unbindName_local hk hn hm (by rw [I.ok.kind];rfl) fun h' u' hn' hs=>?_
 have old:∀ {b o},X.s₀.heap.get? b=some o→h'.get? b=s.heap.get? b:=fun {b o} e=>hs.2 b (Nat.ne_of_lt (Nat.lt_of_lt_of_le (Heap.lt_size e) I.ok.above))
 refine h _ ⟨I.ok,I.os,I.bare,⟨fun b o e n hb hx=>(old e).trans (I.base.keep b o e n hb hx),fun b o e n hb hx=>?_,I.base.free,fun b o e hx=>?_,I.base.tups,I.base.frzs,I.base.tbls⟩,⟨_,hn',fun j y w e1 e2 e3=>?_⟩,fun y c e=>?_,I.free,I.freeC,fun p hp=>?_,fun b ob e=>?_,by simpa using I.len⟩
 ·rw [show h'.get? b=s.heap.get? b from old e];exact I.base.slot b o e n hb hx
 ·rw [show h'.get? b=s.heap.get? b from old e];exact I.base.there b o e hx
 ·have hj:j≠i:=fun z=>by
   rw [z] at e2
   have hz:i<σ.length:=by rw [I.len];exact (List.getElem?_eq_some_iff.mp hi).1
   rw [List.getElem?_set_self hz] at e2
   cases e2
  rw [List.getElem?_set_ne (Ne.symm hj)] at e2
  obtain ⟨u2,r2,q⟩:=hl j y w e1 e2 e3
  refine ⟨u2,r2,?_⟩
  rcases q with ⟨k,z⟩ | ⟨k,c,z1,z2⟩
  ·refine .inl ⟨k,?_⟩
   have ny:y≠n:=fun z=>hj (nodup_ix hN e1 (z ▸ hi))
   simp only [ny,if_false,z]
  ·exact .inr ⟨k,c,z1,z2.sameBut hs (I.cne y c z1)⟩
 ·obtain ⟨w,z⟩:=I.cell y c e
  exact ⟨w,z.sameBut hs (I.cne y c e)⟩
 ·obtain ⟨a1,a2,a3,a4⟩:=I.pin p hp
  exact ⟨(hs.2 p.1 a3).trans a1,a2,a3,a4⟩
 ·refine (I.hok b ob e).stay (fun c v hc hv=>(hs.2 c fun z=>?_).trans hv) (fun _ q=>q) fun _ _ q=>q
  have fr:=I.free
  rw [← z] at fr
  rcases hc with y | y
  ·rw [← y,fr] at e;cases e
  ·rw [fr] at y;cases y
theorem handlers_as {prog:Program}{w:World}{A:Around}{s:Shared}{env:Env}{R:Result→Shared→Prop}{e:Value}{n:Str}{b₀:Stmt}{body:List Stmt}{pos:Pos}
  (h:wpAny (model prog w) A (setFlight e none) (fun _ s₁=>wpAny (model prog w) A (storeName env n e) (fun _ s₂=>wpAny (model prog w) A (execs (b₀ :: body) env) (fun f s₃=>R (.ok f) s₃) (fun _ _=>False) s₂) (fun _ _=>False) s₁) (fun _ _=>False) s) :
  codeAny (model prog w) A (.handlers e [.ExceptHandler none (some n) (b₀ :: body) pos] env) R s:=by
 refine codeAny_of_tree ?_
 show wpAny _ A (do return Fin.done (← (handleWith e env [.ExceptHandler none (some n) (b₀ :: body) pos]).onRaise (fun x=>do noteFrame x env;theTreesLotGoes x))) _ _ s
 refine wpAny_bind (wpAny_noted ?_)
 unfold handleWith
 refine wpAny_bind (wpAny_standAt (wpAny_bind (wpAny_mono h (fun _ s1 h1=>?_) fun _ _ z=>z.elim)))
 refine wpAny_bind (wpAny_bindName (wpAny_mono h1 (fun _ s2 h2=>?_) fun _ _ z=>z.elim))
 exact wpAny_bind (wpAny_attempt (wpAny_mono h2 (fun f s3 h3=>wpAny_pure (wpAny_pure h3)) fun _ _ z=>z.elim))
end
def tAs (i:Nat) (ts:TS):Addr→Addr→TS:=fun e C D σ H =>
 ts { nx:=fun σ' H'=>D.nx (σ'.set i none) H',rt:=D.rt,bk:=fun σ' H'=>D.bk (σ'.set i none) H',ct:=fun σ' H'=>D.ct (σ'.set i none) H' } (σ.set i (some (.ref e))) (upd H e (xo e C))
theorem ph_as {X:Cx}{i:Nat}{x n:Str}{np pos:Pos}{Dc:Addr}{b₀:Stmt}{body:List Stmt}{rest:List ExceptHandler}{hd:Addr→Addr→TS}{ts:TS} (q:PySem.W.ktsIn X.K Dc "BaseException" = true) (hg:Gl X x) (hm:X.mg x=some (.ref Dc))
  (hN:X.N.Nodup) (hi:X.N[i]? = some n) (hk:X.env.scope.names.lookup n=some .local) (hb:∀ e,PSs (X.mk' e) (b₀ :: body) ts) (hr:PH X rest hd) (hdb:(x == ("__debug__" : Str))=false:=by decide) :
  PH X (.ExceptHandler (some (.Name x np)) (some n) (b₀ :: body) pos :: rest) (tHd X.K Dc (tAs i ts) hd):=by
 intro pins s σ H D e C T I hl h
 obtain ⟨qC,h⟩:=h
 refine wpAny_handleBy_cons (codeAny_handlers_test ?_) (by intro z;cases z)
 refine ld_glob (X:=X.mk' e) (I.mk' e) hg hm ?_ hdb
 obtain ⟨oe,vs,h1,h2,h3,h4,h5⟩:=hl.exc
 obtain ⟨hp,g,d,t,os⟩:=s
 refine matches_own I.kIn qC q h1 h2 ?_
 cases hc:(mroIn X.K C).contains (.ref Dc) with
 | false =>
  rw [hc] at h
  exact hr pins _ σ H D e C T I hl h
 | true =>
  rw [hc] at h
  refine handlers_as (again (A:=X.A.mark (some (.ref e))) I hl fun h' I2 hl2=>?_)
  obtain ⟨oe2,vs2,g1,g2,g3,g4,g5⟩:=hl2.exc
  have I3:=I2.seen hl2.fe g1 g2 g3 g5
  refine store_ok (i:=i) I3 hN hi (.inl hk) (v:=.ref e) rfl (fun s4 I4=>?_) (.inr hk)
  refine wpAny_mono (hb e pins _ _ _ _ (I4.mk' e) h) (fun f s5 z=>?_) fun _ _ z=>z.elim
  have fin:∀ {σ' H'}{Q:Flow→Shared→Prop},Inv X pins σ' H' s5→(∀ s',Inv X pins (σ'.set i none) H' s'→Q f s')→wpAny (model X.prog X.w) X.A (do bindName X.env n .none;unbindBehindTheSuite X.env n pos) (fun _ s'=>Q f s') X.xe s5:=fun {σ' H' Q} I5 k=>by
   refine wpAny_bind (wpAny_bindName (store_ok (i:=i) I5 hN hi (.inl hk) (v:=.non) rfl (fun s6 I6=>?_) (.inr hk)))
   unfold unbindBehindTheSuite
   have hz:i<σ'.length:=by rw [I5.len];exact (List.getElem?_eq_some_iff.mp hi).1
   refine wpAny_onRaise (unbind_ok (i:=i) (v:=.non) I6 hN hi hk (List.getElem?_set_self hz) fun s7 I7=>k s7 ?_)
   rw [List.set_set] at I7
   exact I7
  have z':=SP.unmk z I.ok
  cases f with
  | next=>obtain ⟨σ',H',I5,q5⟩:=z';exact fin I5 fun s' I'=>⟨_,H',I',q5⟩
  | brk=>obtain ⟨σ',H',I5,q5⟩:=z';exact fin I5 fun s' I'=>⟨_,H',I',q5⟩
  | cont=>obtain ⟨σ',H',I5,q5⟩:=z';exact fin I5 fun s' I'=>⟨_,H',I',q5⟩
  | ret u=>obtain ⟨v,σ',H',I5,r5,q5⟩:=z';exact fin I5 fun s' I'=>⟨v,_,H',I',r5,q5⟩
def exq (K:PySem.W.Frag) (C:Addr):Bool :=
 (PySem.W.clsIn K C).isSome && PySem.W.findIn K (.ref C) "__getattribute__" == some (some (.builtin "BaseException.__getattribute__")) && PySem.W.findIn K (.ref C) "__getattr__" == some none
 && PySem.W.findIn K (.ref C) "__class__" == some (some (.builtin "object.__class__")) && PySem.W.specialIn K (.builtin "object.__class__") "__get__" == some (some (.builtin "getset_descriptor.__get__"))
 && PySem.W.takesIn K (.builtin "object.__class__") == some true && PySem.W.mroIn K C (.type "object") == some true && PySem.W.mroIn K C (.type "BaseException") == some true
section
open PySem.W PySem.Calls
variable {prog:Program}{w:World}{A:Around}{E:Value→Shared→Prop}{s:Shared}{K:Frag}{a C:Addr}
theorem exc_class {Q:Option Value→Shared→Prop} (q:exq K C=true) (X:K.In s.heap) (p:excAt a C s.heap) (k:Q (some (.ref C)) { s with toks:=s.toks+1 }):wpAny (model prog w) A (getAttr? (.ref a) "__class__") Q E s:=by
 unfold exq at q
 simp only [Bool.and_eq_true,beq_iff_eq] at q
 obtain ⟨⟨⟨⟨⟨⟨⟨hc,hga⟩,hgt⟩,ha⟩,hn⟩,htk⟩,hm⟩,hb⟩:=q
 obtain ⟨o,vs,h1,h2,h3,h4⟩:=p
 have I:InstAt s.heap a o C none:=⟨h1,h2,by unfold notCls;rw [h3],by rw [h4];trivial⟩
 have hf:findObj K C none "__class__" = some (.bind (.builtin "getset_descriptor.__get__") (.builtin "object.__class__")):=by
  obtain ⟨cd,hcd⟩:=Option.isSome_iff_exists.mp hc
  unfold findObj
  rw [hcd,Option.bind_some,ha,Option.bind_some]
  simp [hn,htk]
 obtain ⟨hh,g,d,t,os⟩:=s
 have L0:=I.type (M:=model prog w)
 have L1:=looks_findIn (M:=model prog w) X hga
 have L2:=looks_findIn (M:=model prog w) X hgt
 have L3:=looks_find (M:=model prog w) X I hf
 have L4:=looks_mroIn (M:=model prog w) X hb
 have f3:=F.attr_ValueError.ga.bind (.ref a)
 unfold getAttr? getAttrBy? getAttrBy
 refine wpAny_bind (wpAny_mkText (wpAny_bind (wpAny_attempt (wpAny_holding (wpAny_bind (L0.at (wpAny_bind (L1.at ?_))))))))
 show wpAny _ _ (if (onTheHeap (.ref C) && Value.builtin "BaseException.__getattribute__" == Value.builtin "object.__getattribute__")=true then _ else getAttrByItsOwn _ _ _ _ _ _) _ _ _
 have n1:(Value.builtin "BaseException.__getattribute__" == Value.builtin "object.__getattribute__")=false:=by decide +kernel
 rw [n1,Bool.and_false,if_neg (by decide)]
 unfold getAttrByItsOwn hookBefore
 rw [if_pos (show onTheHeap (.ref C)=true from rfl)]
 refine wpAny_bind (L2.at (wpAny_bind (wpAny_attempt (wpAny_holding ?_))))
 unfold callGetattribute
 rw [if_neg (by decide)]
 unfold boundAndCalled
 rw [f3]
 refine wpAny_bind (wpAny_pure ?_)
 show wpAny _ _ (call (.builtin "BaseException.__getattribute__") [.ref a,.str "__class__" t]) _ _ _
 refine wpAny_call (codeAny_call_builtin F.attr_ValueError.ga.plain F.entry_bexc_ga ?_)
 have hk:builtinKind "BaseException.__getattribute__" = some .slot:=by decide +kernel
 have hsplit:splitId "BaseException.__getattribute__" = some ("BaseException","__getattribute__"):=by decide +kernel
 have hao:=F.args_bexc_ga (.ref a) (.str "__class__" t)
 simp only [checkBuiltinCall,hk,hsplit]
 refine wpAny_bind ?_
 unfold isInstance
 refine wpAny_bind (L0.at (L4.at ?_))
 simp only [Bool.not_true,Bool.false_eq_true,if_false]
 have chk:∀ {Q':Unit→Shared→Prop}{E':Value→Shared→Prop}{A':Around}{s':Shared},Q' () s'→wpAny (model prog w) A' (match Manifest.signature? "BaseException.__getattribute__" with
   | some sig=>Bind.checkArgs "BaseException.__getattribute__" sig { pos:=[Value.ref a,Value.str (Str.ofString "__class__") t] }
   | x=>pure ()) Q' E' s':=fun {Q' E' A' s'} q=>by
  repeat (first | assumption | wp_step)
 refine chk ?_
 unfold Builtin.«object.__getattribute__»
 refine wpAny_bind (wpAny_pure ?_)
 refine wpAny_bind (wpAny_pure ?_)
 refine wpAny_bind (L0.at (wpAny_bind (L3.at ?_)))
 show wpAny _ _ (holding [Value.builtin "object.__class__"] (call (.builtin "getset_descriptor.__get__") [.builtin "object.__class__",.ref a,.ref C]) >>= ret) _ _ _
 refine wpAny_bind (wpAny_holding (wpAny_call (class_get (s:=⟨hh,g,d,t+1,os⟩) (od:=none) X I hm (wpAny_pure ?_))))
 exact handed_on rfl (wpAny_pure k)
theorem kitx_exc (q:exq K C=true):KitX K (.ref a) (.ref C) (excAt a C):=by
 have hc:(clsIn K C).isSome=true:=by
  unfold exq at q
  simp only [Bool.and_eq_true] at q
  exact q.1.1.1.1.1.1.1
 obtain ⟨cd,hcd⟩:=Option.isSome_iff_exists.mp hc
 unfold clsIn at hcd
 split at hcd
 next c' d' cd' sl' ho =>
  refine ⟨fun M h _ p=>?_,fun M h X _=>?_,fun h tp dd its n sl X htp=>?_,fun {_ _ _ _ _ _} X p k=>exc_class q X p k⟩
  ·obtain ⟨o,vs,h1,h2,_⟩:=p
   rw [← h2]
   exact (Looks.ld h1).andThen .now
  ·intro A' Q' E' s' k z
   unfold isType loadHead
   exact wpAny_bind (wpAny_loadPart (k _ _ (X _ _ ho)) (wpAny_pure z))
  ·refine Bool.eq_false_iff.mpr fun z=>?_
   cases Value.ref.inj (beq_iff_eq.mp z)
   have:=X _ _ ho
   rw [htp] at this
   cases this
 next=>cases hcd
end
def cIsX (K:PySem.W.Frag):List V→Hp→VK→Prop:=fun vs H Q=>match vs with
 | [.ref a,.ty T]=>∃ C b,H a=some (xo a C)∧exq K C=true∧PySem.W.kitOne K (.ref C) (.type T)=some b∧Q (.bl b) H
 | [.ref a,.ref D]=>∃ C b,H a=some (xo a C)∧exq K C=true∧(PySem.W.kitOne K (.ref C) (.ref D)=some b∨∃ cs:List Addr,H D=some (.tup (cs.map V.ref))∧PySem.W.kitAny K (.ref C) (cs.map Value.ref)=some b)∧Q (.bl b) H
 | _=>False
theorem vals_refs:∀ {cs:List Addr}{us:List Value},Vals (cs.map V.ref) us→us=cs.map Value.ref
 | [],_,.nil=>rfl
 | c :: cs,_,.cons r t=>by
  rw [show _=Value.ref c from r,vals_refs t]
  rfl
theorem c_isX {X:Cx}:CallR X (.builtin "isinstance") (cIsX X.K):=by
 intro pins s σ H xs us Q I r h
 match xs,h with
 | [.ref a,.ty T],h =>
  obtain ⟨C,b,h1,h2,h3,h4⟩:=h
  obtain ⟨u,w',rfl,r1,r2⟩:=vals2 r
  cases r1;cases r2
  exact PySem.W.kia_one (kitx_exc h2) I.kIn (show ObjOk X.prog X.w H s.heap a (xo a C) from I.hok a _ h1).1 h3 (fun z=>nomatch z) fun tk=>⟨.bl b,H,I.tok tk,rfl,h4⟩
 | [.ref a,.ref D],h =>
  obtain ⟨C,b,h1,h2,h3,h4⟩:=h
  obtain ⟨u,w',rfl,r1,r2⟩:=vals2 r
  cases r1;cases r2
  have p:=(show ObjOk X.prog X.w H s.heap a (xo a C) from I.hok a _ h1).1
  rcases h3 with h3 | ⟨cs,h5,h3⟩
  ·exact PySem.W.kia_one (kitx_exc h2) I.kIn p h3 (fun z=>nomatch z) fun tk=>⟨.bl b,H,I.tok tk,rfl,h4⟩
  ·obtain ⟨_,its,rv,ob,t1,t2,n,t3⟩:=(show ObjOk X.prog X.w H s.heap D (.tup (cs.map V.ref)) from I.hok D _ h5)
   obtain ⟨c0,dd,dt,sl⟩:=ob
   cases (show c0=_ from t2)
   cases (show dt=_ from t3)
   rw [vals_refs rv] at t1
   exact PySem.W.kia_tup (kitx_exc h2) I.kIn p t1 h3 (fun z=>nomatch z) fun tk=>⟨.bl b,H,I.tok tk,rfl,h4⟩
structure RoomM (k:Nat) (A:Around):Prop where
 dp:A.depth+3 * k+5<recursionLimit
 un:A.units+16 * k+200<cLine
theorem Room.m {k:Nat}{A:Around} (r:Room k A):RoomM k A:=⟨r.dp,r.un⟩
theorem RoomM.mark {k:Nat}{A:Around} (r:RoomM k A) (v:Option Value):RoomM k (A.mark v):=⟨r.dp,r.un⟩
structure FnOkM (P:Program) (w:World) (K:PySem.W.Frag) (mg:Str→Option Value) (base:Heap) (CX:CXT) (k:Nat) (f:Addr) (fd:FuncData) (ps:List Str) (sp:Sp):Prop where
 len:∀ vs H Q E,sp vs H Q E→vs.length=ps.length
 run:∀ (A:Around) (outer:List Env) (s:Shared) (H:Hp) (args:Args) (us:List Value) (vs:List V) (Q:VK) (E:XK),RoomM k A→Env0 P w K mg base A outer s H→BindsTo s fd args (ps.zip us)→Vals vs us→sp vs H Q E →
  codeAny (model P w) A (.call (.ref f) args) (CR CX outer P w H s Q E) s
section
variable {X:Cx}{CX:CXT}{k:Nat}{f C:Addr}{fd:FuncData}{ps:List Str}{sp:Sp}{dvs:List V}{ds:List Value}{E:XK}{x m:Str}{p pos apos:Pos}{e o:Expr}{es:List Expr}{ta:TE}{t:TA}
end
theorem passF {P:Program}{w:World}{K:PySem.W.Frag}{mg:Str→Option Value}{base:Heap}{N:List Str}{qual:Str}{scope:Scope}{f:Addr}{cdv:Value}{A:Around}{outer:List Env}{s:Shared}{H:Hp}{E:XK} :
  PassesOwn (model (cxOf (CX1 P w) P w K mg base N qual scope f cdv A outer s H E).prog (cxOf (CX1 P w) P w K mg base N qual scope f cdv A outer s H E).w) (cxOf (CX1 P w) P w K mg base N qual scope f cdv A outer s H E).A (cxOf (CX1 P w) P w K mg base N qual scope f cdv A outer s H E).env (cxOf (CX1 P w) P w K mg base N qual scope f cdv A outer s H E).xe:=fun _ _ h=>wpAny_leaving_again (SameStack.refl _) h
section
variable {X:Cx}{k:Nat}{f C:Addr}{fd:FuncData}{ps:List Str}{sp:Sp}{dvs:List V}{ds:List Value}{Ex:St→XK}{x:Str}{p pos:Pos}{e:Expr}{es:List Expr}{t:TA}
end
theorem boot_ValueError:bootBuiltins "ValueError" = some (.type "ValueError"):=by first | rfl | decide +kernel | kernel_rfl
end L2
set_option maxHeartbeats 4000000
namespace DT
open PySem
section
variable {prog:Program}{w:World}{A:Around}{E:Value→Shared→Prop}{s:Shared}{d it:Addr}{od:Obj}{es:Array DictEntry}{ep i:Nat}
end
end DT
namespace L2
open PySem PySem.Spec PyProof.Rows
section
variable {X:Cx}{pins:List (Addr × Obj)}{σ:St}{H:Hp}{s:Shared}{d:Addr}{kvs:List (List Key × V)}{o:Obj}
theorem Inv.dT (I:Inv X pins σ H s) (e:Rd H d (.dT kvs)):kvs.length≤sizeLine∧(d == sysModules)=false∧∃ (xs:List (List Key × Addr × Value)) (od:Obj) (es:Array DictEntry) (ep:Nat),KT H kvs xs∧s.heap.get? d=some od∧od.ExactDict∧od.data=.dict es ep∧es.size=kvs.length ∧
  ∀ (i:Nat) p,kvs[i]? = some p→∃ (b:Addr) (h:Int) (v:Value),es[i]? = some ⟨h,.ref b,v⟩∧H b=some (.tup (p.1.map kV)):=by
 obtain ⟨z,y,xs,r,od,es,ep,h1,h2,h3,h4,h5⟩:=(show ObjOk X.prog X.w H s.heap d (.dT kvs) from rd_of I.hok e)
 have hl:kvs.length=xs.length:=Paired.length r
 have hs:es.size=kvs.length:=by rw [hl,← Array.length_toList,h4,List.length_map]
 refine ⟨z,y,xs,od,es,ep,r,h1,h2,h3,hs,fun i p hp=>?_⟩
 have at_:∀ {l:List (List Key × V)}{m:List (List Key × Addr × Value)}{j:Nat}{q:List Key × V},KT H l m→l[j]? = some q→∃ x,m[j]? = some x∧H x.2.1=some (.tup (q.1.map kV)):=by
  intro l m j q t
  induction t generalizing j with
  | nil=>intro z;simp at z
  | @cons a b as bs hq _ ih =>
   intro z
   cases j with
   | zero =>
    have:a=q:=by simpa using z
    subst this
    exact ⟨b,rfl,hq.2.1⟩
   | succ j=>exact ih (by simpa using z)
 obtain ⟨x,hx,hH⟩:=at_ r hp
 have:es[i]? = some (entryOfKey (tupleKind (mixKind X.prog X.w)) x):=by rw [← Array.getElem?_toList,h4,List.getElem?_map,hx];rfl
 exact ⟨x.2.1,_,_,this,hH⟩
end
section
variable {X:Cx}{pins:List (Addr × Obj)}{σ:St}{H:Hp}{s:Shared}
theorem FpOk.fl {b:Addr} (h:FpOk X pins H b):FlOk X pins H b:=⟨h.1,h.2.1,h.2.2.1,h.2.2.2.1.imp id fun z=>by
 cases e:X.s₀.heap.get? b with
 | none=>rfl
 | some o=>exact absurd (Heap.lt_size e) (Nat.not_lt.mpr z),h.2.2.2.2.1,h.2.2.2.2.2⟩
end
section
variable {X:Cx}{tg:Expr}
end
end L2
set_option maxHeartbeats 4000000
namespace RR
open PySem
section
variable {prog:Program}{w:World}{A:Around}{E:Value→Shared→Prop}{s:Shared}
end
end RR
namespace L2
open PySem PySem.Spec PyProof.Rows
section
variable {X:Cx}{tg:Expr}
end
section
variable {K:PySem.W.Frag}{ta:TA}{g:TG}{tb:TS}{D:Ends}{σ:St}{H:Hp}
end
end L2
set_option maxHeartbeats 4000000
namespace RV
open PySem
section
variable {prog:Program}{w:World}{A:Around}{E:Value→Shared→Prop}{s:Shared}
end
end RV
namespace L2
open PySem PySem.Spec PyProof.Rows
end L2
set_option maxHeartbeats 4000000
namespace L2
open PySem PySem.Spec PyProof.Rows PySem.W
end L2
set_option maxRecDepth 20000
namespace L2
open PySem PySem.Spec PyProof.Rows
variable {X:Cx}
def eqP (H:Hp) (q:MF.Pr) (v:Value):Bool:=match v with
 | .ref a=>match H a with
  | some (.tup [.int i,.int j])=>decide ((i,j)=q)
  | _=>false
 | _=>false
structure PL (H:Hp) (p:Addr) (es:List En):Prop where
 lst:H p=some (.lst (es.map fun e=>V.ref e.1))
 tup:∀ e∈es,H e.1=some (.tup [.int e.2.1,.int e.2.2])
def cInP (_:PySem.W.Frag) (neg:Bool):R2:=fun x y H Q=>match x,y with
 | .ref t,.ref p=>∃ (es:List En) (q:MF.Pr),H t=some (.tup [.int q.1,.int q.2])∧PL H p es∧Q (.bl (if neg then !decide (q∈psOf es) else decide (q∈psOf es))) H
 | _,_=>False
def rIndexS:V→List V→Hp→VK→Prop:=fun x vs H Q=>match x,vs with
 | .ref l,[.str n]=>∃ (xs:List Str) (j:Nat),H l=some (.lst (xs.map V.str))∧xs[j]? = some n∧(∀ i,i<j→xs[i]? ≠ some n)∧Q (.int j) H
 | _,_=>False
theorem mt_indexS:MtR X "list.index" rIndexS:=by
 intro pins s σ H x vs v us Q I rx rv h
 match x,vs,h with
 | .ref l,[.str y],⟨xs,j,h1,h3,h4,k⟩ =>
  cases rx
  obtain ⟨u,rfl,ru⟩:=vals1 rv
  obtain ⟨z,its,n,r,hl,e⟩:=I.lstM h1
  have hlen:=r.length
  rw [List.length_map] at hlen
  have hj:j<xs.length:=by
   rcases Nat.lt_or_ge j xs.length with w | w
   ·exact w
   ·rw [List.getElem?_eq_none w] at h3;cases h3
  have fl:∀ zs:List Str,(zs.map V.str).all flatV=true:=fun zs=>by
   induction zs with
   | nil=>rfl
   | cons a b ih=>rw [List.map_cons,List.all_cons,ih];rfl
  have at_:∀ m (hm:m<its.toArray.size),eqU (.str y) its.toArray[m]=decide (xs[m]? = some y):=by
   intro m hm
   have hm':m<xs.length:=by rw [List.size_toArray] at hm;omega
   obtain ⟨u',g1,g2⟩:=r.get (show (xs.map V.str)[m]? = some (.str xs[m]) by rw [List.getElem?_map,List.getElem?_eq_getElem hm'];rfl)
   have e1:its.toArray[m]=u':=by
    have:its[m]? = some its.toArray[m]:=by simp
    rw [this] at g1
    exact Option.some.inj g1
   rw [e1,eqU_of g2 rfl,List.getElem?_eq_getElem hm']
   by_cases w:xs[m]=y <;> simp [eqV,w]
  refine call_meets PySem.F.slot_list_index ⟨_,e,rfl⟩ PySem.F.entry_list_index (PySem.F.args_list_index_2 _ _)
   (SeqAt.list_indexAt l _ n none #[] u (eqU (.str y)) j (by rw [List.size_toArray];omega) ?_ ?_ ?_) ⟨e,fun w hw=>mem_eqAt ru rfl r (fl xs) w (by simpa using hw),⟨.int j,H,I.tok _,⟨_,rfl⟩,k⟩⟩
  ·rw [List.length_map] at z
   have:sizeLine<2 ^ 62:=by decide
   omega
  ·rw [at_];exact decide_eq_true h3
  ·intro i hi hlt
   rw [at_];exact decide_eq_false (h4 i hlt)
end L2
set_option maxHeartbeats 4000000
namespace DT
open PySem
end DT
namespace L2
open PySem PySem.Spec PyProof.Rows
end L2
namespace SS
open PySem
def Ris (xs:Array Nat):Prop:=∀ i j,i<j→j<xs.size→xs.getD i 0<xs.getD j 0
structure Good (l:Bool) (t:SetTable):Prop where
 ris:Ris t.place
 led:t.led=l
end SS
set_option maxHeartbeats 4000000
namespace SS
open PySem
section
variable {prog:Program}{w:World}{A:Around}{E:Value→Shared→Prop}{s:Shared}
def Ent (prog:Program) (w:World) (e:Int × Value) (k:Int):Prop:=(intKind prog w).is k e.2=true∧e.1=(intKind prog w).hash k∧e.2.scannable=true
inductive All2 {α β:Type} (R:α→β→Prop):List α→List β→Prop
 | nil:All2 R [] []
 | cons {a b as bs}:R a b→All2 R as bs→All2 R (a :: as) (b :: bs)
theorem All2.mem {es:List (Int × Value)}{ks:List Int} (h:All2 (Ent prog w) es ks) (k:Int):k∈ks ↔ ∃ e∈es,(intKind prog w).is k e.2=true:=by
 induction h with
 | nil=>simp
 | @cons e k' es ks h _ ih =>
  rw [List.mem_cons,ih]
  constructor
  ·rintro (rfl | ⟨e',he,hk⟩)
   ·exact ⟨e,List.mem_cons_self ..,h.1⟩
   ·exact ⟨e',List.mem_cons_of_mem _ he,hk⟩
  ·rintro ⟨e',he,hk⟩
   rcases List.mem_cons.mp he with rfl | he
   ·exact .inl ((intKind prog w).inj _ _ _ hk h.1)
   ·exact .inr ⟨e',he,hk⟩
theorem All2.len {α β:Type}{R:α→β→Prop}{as:List α}{bs:List β} (h:All2 R as bs):as.length=bs.length:=by
 induction h with
 | nil=>rfl
 | cons _ _ ih=>simp [ih]
def GS (prog:Program) (w:World) (l:Bool) (h:Heap) (a:Addr) (ks:List Int):Prop :=
 ∃ o es ep t ks',h.get? a=some o∧o.ExactSet∧o.data=.set es ep t∧t.fits es.size=true∧Good l t∧All2 (Ent prog w) es.toList ks'∧ks'.Perm ks
theorem GS.stored {l:Bool}{h:Heap}{a:Addr}{o:Obj}{es es':Array (Int × Value)}{ep:Nat}{t t':SetTable}{ks' ks:List Int} (ho:h.get? a=some o) (hx:o.ExactSet) (hd:o.data=.set es ep t) (hf:t'.fits es'.size=true) (hg:Good l t') (ha:All2 (Ent prog w) es'.toList ks') (hp:ks'.Perm ks) :
  (h.update a (Obj.putSet es' t')).get? a=some { o with data:=.set es' (ep+1) t' }∧GS prog w l (h.update a (Obj.putSet es' t')) a ks:=by
 have g:(h.update a (Obj.putSet es' t')).get? a=some { o with data:=.set es' (ep+1) t' }:=by
  have q:=Heap.get?_update_self (Obj.putSet es' t') ho (by rw [putSet_of es' t' hd];rfl)
  rwa [putSet_of es' t' hd] at q
 exact ⟨g,_,es',ep+1,t',ks',g,hx,rfl,hf,hg,ha,hp⟩
theorem Good.off {l:Bool}{t:SetTable} (h:Good l t):Good l { t with plain:=false }:=⟨h.ris,h.led⟩
end
end SS
set_option maxHeartbeats 4000000
namespace SS
open PySem PySem.Spec PyProof.Rows
section
variable {prog:Program}{w:World}{A:Around}{E:Value→Shared→Prop}{s:Shared}
def led0 (w:World):Bool:=!w.params.followText "set-order"
theorem new_set (a:Value) {Q₁:Value→Shared→Prop} (q:Q₁ (.ref s.heap.objs.size) { s with heap:=s.heap.push { cls:=.type "set",dict:=none,data:=.set #[] 0 (.fresh 0 0 (led0 w)) } }) :
  codeAny (model prog w) A (.call (.builtin "set.__new__") ⟨[.type "set",a],[]⟩) (wants Q₁ E) s:=by
 refine codeAny_of_tree ?_
 show wpAny _ A.in1 (do checkBuiltinCall "set.__new__" ⟨[.type "set",a],[]⟩;again (.builtin "set.__new__" ⟨[.type "set",a],[]⟩)) _ _ s
 refine wpAny_bind (wpAny_of_eq (F.newCall_set_1 a) (wpAny_pure ⟨plainId_quiet F.plain_set_new _,codeAny_builtin F.entry_set_new ?_⟩));rw [Around.under_plainId F.plain_set_new _];unfold Builtin.«set.__new__» Builtin.Frozenset.newClass
 have hsub:=sub_set_self
 obtain ⟨hp,g,d,tk,os⟩:=s
 dsimp only
 wp_walk
 refine wpAny_askSetting (wpAny_pure ?_);dsimp only;simp only [newObj];refine wpAny_bind (wpAny_alloc (wpAny_pure ?_))
 exact wpAny_pure q
end
end SS
set_option maxHeartbeats 4000000
namespace ST
open PySem PySem.Spec PyProof.Rows
def dd (acc:List Str) (k:Str):List Str:=if k∈acc then acc else acc ++ [k]
def dds (ns:List Str):List Str:=ns.foldl dd []
theorem dds_snoc (ns:List Str) (k:Str):dds (ns ++ [k])=dd (dds ns) k:=by unfold dds;rw [List.foldl_append];rfl
theorem dds_facts (ns:List Str):(∀ k,k∈dds ns ↔ k∈ns)∧(dds ns).length≤ns.length∧((dds ns).length=ns.length ↔ ns.Nodup):=by
 rcases List.eq_nil_or_concat ns with rfl | ⟨r,x,rfl⟩
 ·exact ⟨fun k=>Iff.rfl,Nat.le_refl _,⟨fun _=>List.nodup_nil,fun _=>rfl⟩⟩
 ·rw [List.concat_eq_append,dds_snoc]
  obtain ⟨h2,h3,h4⟩:=dds_facts r
  have hn:(r ++ [x]).Nodup ↔ r.Nodup∧x ∉ r:=by
   rw [List.nodup_append]
   constructor
   ·rintro ⟨a,_,b⟩;exact ⟨a,fun z=>b x z x (List.mem_singleton.mpr rfl) rfl⟩
   ·rintro ⟨a,b⟩;exact ⟨a,by simp,fun y hy z hz e=>by rw [List.mem_singleton] at hz;subst hz e;exact b hy⟩
  unfold dd
  split
  ·rename_i hin
   refine ⟨fun k=>?_,by rw [List.length_append];omega,?_⟩
   ·rw [h2,List.mem_append,List.mem_singleton]
    exact ⟨.inl,fun z=>z.elim id fun e=>by rw [e];exact (h2 x).mp hin⟩
   ·rw [hn,List.length_append,List.length_singleton]
    exact ⟨fun z=>by omega,fun z=>absurd ((h2 x).mp hin) z.2⟩
  ·rename_i hin
   refine ⟨fun k=>?_,by rw [List.length_append,List.length_append];simp only [List.length_cons,List.length_nil];omega,?_⟩
   ·rw [List.mem_append,List.mem_append,h2]
   ·rw [hn,List.length_append,List.length_append]
    simp only [List.length_cons,List.length_nil]
    exact ⟨fun z=>⟨h4.mp (by omega),fun q=>hin ((h2 x).mpr q)⟩,fun z=>by have:=h4.mpr z.1;omega⟩
 termination_by ns.length
 decreasing_by all_goals simp_all
theorem step_m (σ:List Str) (y k:Str):(decide (k∈σ) || decide (k=y))=decide (k∈dd σ y):=by
 unfold dd
 split
 ·rename_i h
  by_cases e:k=y
  ·subst e;simp [h]
  ·simp [e]
 ·simp [List.mem_append]
theorem step_l (σ:List Str) (y:Str):(if decide (y∈σ)=true then σ.length else σ.length+1)=(dd σ y).length:=by
 unfold dd
 by_cases h:y∈σ
 ·rw [if_pos h,if_pos (decide_eq_true h)]
 ·rw [if_neg h,if_neg (by simpa using h),List.length_append];rfl
def GT (prog:Program) (w:World) (h:Heap) (a:Addr) (ks:List Str):Prop:=h.SetOf (strKind prog w) a (fun k=>decide (k∈ks)) ks.length
section
variable {prog:Program}{w:World}{A:Around}{E:Value→Shared→Prop}{s:Shared}
theorem GT.keep {h h':Heap}{a:Addr}{ks:List Str} (g:GT prog w h a ks) (k:∀ o,h.get? a=some o→h'.get? a=some o):GT prog w h' a ks:=by
 obtain ⟨o,es,ep,t,ho,rest⟩:=g
 exact ⟨o,es,ep,t,k o ho,rest⟩
theorem sIs (x:Str) (t:Tok):(strKind prog w).is x (.str x t)=true:=L2.keyIs_str x t
theorem upd_loop {R:Result→Shared→Prop}{I S:Addr}{fp wr:List Addr}{ns:List Str}{St:Nat→Heap→Prop} (W:Walks prog w A.in1 I fp wr ns.length (fun i v=>∃ t,v=.str (ns.getD i Str.empty) t) St) (hSf:S ∉ fp) (hb:ns.length+1<scanBound) :
  ∀ (k i:Nat) (s:Shared),ns.length - i=k→i≤ns.length→St i s.heap→GT prog w s.heap S (dds (ns.take i)) →
   (∀ h' tk,(∀ b o,b≠S→b ∉ wr→s.heap.get? b=some o→h'.get? b=some o)→GT prog w h' S (dds ns)→R (.ok (.ret .none)) { s with heap:=h',toks:=tk }) →
   codeAny (model prog w) A (.builtin "set.update.loop" ⟨[.ref S,.ref I],[]⟩) R s:=by
 have hSw:S ∉ wr:=fun z=>hSf (W.sub _ z)
 intro k
 induction k with
 | zero =>
  intro i s hk hi st hS hR
  have e:i=ns.length:=by omega
  subst e
  rw [List.take_length] at hS
  refine codeAny_builtin F.entry_set_update_loop ?_;rw [Around.under_plainId F.plain_set_update_loop _];show wpAny _ A.in1 (pyNext (.ref I) >>= _) _ _ s
  refine wpAny_bind (W.done s _ _ st fun h' tk kp=>?_)
  show wpAny _ A.in1 (ret Value.none) _ _ _
  exact wpAny_pure (hR h' tk (fun b o _ n e=>kp b o n e) (hS.keep fun o e=>kp S o hSw e))
 | succ k ih =>
  intro i s hk hi st hS hR
  have hlt:i<ns.length:=by omega
  have htk:ns.take (i+1)=ns.take i ++ [ns.getD i Str.empty]:=by
   rw [List.take_add_one,List.getD_eq_getElem?_getD,List.getElem?_eq_getElem hlt]
   rfl
  refine codeAny_builtin F.entry_set_update_loop ?_;rw [Around.under_plainId F.plain_set_update_loop _];show wpAny _ A.in1 (pyNext (.ref I) >>= _) _ _ s
  refine wpAny_bind (W.item i s _ _ hlt st fun v h1 tk hv st1 kp=>?_)
  obtain ⟨t,rfl⟩:=hv
  have hS1:GT prog w h1 S (dds (ns.take i)):=hS.keep fun o e=>kp S o hSw e
  show wpAny _ A.in1 (holding [Value.str (ns.getD i Str.empty) t] (setAdd S (.str (ns.getD i Str.empty) t)) >>= _) _ _ _
  refine wpAny_bind (wpAny_holding ?_);unfold setAdd;refine wpAny_holding (wpAny_bind ((strKind prog w).pyHash (k:=ns.getD i Str.empty) (sIs _ _) ?_))
  have hlen:(dds (ns.take i)).length+1<scanBound:=by
   have:=(dds_facts (ns.take i)).2.1
   rw [List.length_take] at this
   omega
  refine wpAny_setAddHashed_of (knd:=strKind prog w) (sIs _ _) rfl hS1 hlen fun h2 sb S2=>?_
  have S3:GT prog w h2 S (dds (ns.take (i+1))):=by
   rw [htk,dds_snoc]
   exact SetOf_congr S2 (step_m _ _) (step_l _ _)
  refine wpAny_pure ⟨plainId_quiet F.plain_set_update_loop _,ih (i+1) _ (by omega) hlt (W.frame _ h1 _ st1 fun b hb o e=>?_) S3 fun h3 tk3 kp3 S4=>?_⟩
  ·exact (sb.2 b (fun z=>hSf (z ▸ hb))).trans e
  ·exact hR h3 tk3 (fun b o n m e=>kp3 b o n m ((sb.2 b n).trans (kp b o m e))) S4
theorem fresh_gt {h:Heap}{a:Addr}{l:Bool} (g:h.get? a=some { cls:=.type "set",dict:=none,data:=.set #[] 0 (.fresh 0 0 l) }):GT prog w h a [] :=
 ⟨_,#[],0,_,g,⟨rfl,rfl,rfl⟩,rfl,(fun e he=>by simp at he),(fun k=>by simp),by decide,rfl,rfl⟩
theorem str_at:∀ {vs:List L2.V}{ns:List Str}{us:List Value},vs=ns.map L2.V.str→L2.Vals vs us→∀ (i:Nat) (v:Value),us[i]? = some v→∃ t,v=.str (ns.getD i Str.empty) t:=by
 intro vs ns us e r i v hv
 subst e
 induction ns generalizing us i with
 | nil=>cases r;simp at hv
 | cons x ns ih =>
  cases r with
  | cons r1 r2 =>
   obtain ⟨t,rfl⟩:=(show ∃ t,_=Value.str x t from r1)
   cases i with
   | zero=>simp at hv;exact ⟨t,hv.symm⟩
   | succ i=>exact ih i (by simpa using hv) r2
theorem call_set {l:Addr}{items:Array Value}{ns:List Str}{Q:Value→Shared→Prop} (hh:A.handled=none) (hl:s.heap.IsList l items) (hvl:L2.Vals (ns.map L2.V.str) items.toList) (hb:ns.length+1<scanBound)
  (q:∀ h' tk,GT prog w h' s.heap.objs.size (dds ns)→(∀ b o,b<s.heap.objs.size→s.heap.get? b=some o→h'.get? b=some o)→Q (.ref s.heap.objs.size) { s with heap:=h',toks:=tk }):wpAny (model prog w) A (call (.type "set") [.ref l]) Q E s:=by
 have hlen:items.size=ns.length:=by rw [← Array.length_toList];exact by have:=hvl.length;rw [List.length_map] at this;exact this.symm
 obtain ⟨c,tl,hmro⟩:=F.called_set.mro
 have hmade:=F.called_set.made
 have hsub:=F.called_set.sub
 refine wpAny_call (codeAny_of_tree ?_);show wpAny _ _ (callAny (.type "set") _) _ _ _;refine wpAny_pure ⟨Code.quiet_builtin _ (by decide +kernel),codeAny_builtin F.entry_type_call ?_⟩;rw [Around.under_plain (weight_type_call_type "set" [.ref l] []) rfl]
 have h1:=F.called_set.notType
 have h2:=F.called_set.canCreate
 have hct:=F.typeCall_set_1 (.ref l)
 repeat (any_goals (first | assumption | wp_step))
 refine codeAny_mono (SS.new_set (.ref l) (E:=E) (Q₁:=fun obj s1=>obj=.ref s.heap.objs.size∧s1={ s with heap:=s.heap.push { cls:=.type "set",dict:=none,data:=.set #[] 0 (.fresh 0 0 (SS.led0 w)) } }) ⟨rfl,rfl⟩) fun r s1 hr=>?_
 cases r with
 | error e=>exact hr
 | ok fl =>
  cases fl with
  | ret obj =>
   obtain ⟨rfl,rfl⟩:=hr
   have gS:(s.heap.push { cls:=.type "set",dict:=none,data:=.set #[] 0 (.fresh 0 0 (SS.led0 w)) }).get? s.heap.objs.size=some { cls:=.type "set",dict:=none,data:=.set #[] 0 (.fresh 0 0 (SS.led0 w)) }:=Heap.get?_push_size _ rfl
   have hT:Shared.TypeIs { s with heap:=s.heap.push { cls:=.type "set",dict:=none,data:=.set #[] 0 (.fresh 0 0 (SS.led0 w)) } } (.ref s.heap.objs.size) "set":=⟨_,gS,rfl⟩
   have hli:=F.called_set.init.lookup
   have hbi:=F.called_set.init.bind (.ref s.heap.objs.size)
   repeat (any_goals (first | assumption | wp_step))
   refine codeAny_mono (codeAny_call_builtin (R:=wants (fun r s2=>r=.none∧∃ h' tk,s2={ s with heap:=h',toks:=tk }∧GT prog w h' s.heap.objs.size (dds ns)∧(∀ b o,b<s.heap.objs.size→s.heap.get? b=some o→h'.get? b=some o)) E) F.called_set.init.plain F.entry_set_init (check_set_init_1 hT ?_)) fun r2 s2 hr2=>?_
   ·obtain ⟨ol,hol,hcl,nl,hdl⟩:=hl
    obtain ⟨ocls,odict,odata,oslots⟩:=ol
    simp only at hcl hdl
    subst hcl hdl
    have hol':=Heap.get?_push_of_some ({ cls:=.type "set",dict:=none,data:=.set #[] 0 (.fresh 0 0 (SS.led0 w)) }:Obj) hol
    have hsls:=F.sub_list_set
    have hslf:=F.sub_list_frozenset
    have hne:(Value.type "list" == Value.type "dict")=false:=by decide
    have hl1:(s.heap.push { cls:=.type "set",dict:=none,data:=.set #[] 0 (.fresh 0 0 (SS.led0 w)) }).IsList l items:=⟨_,hol',rfl,nl,rfl⟩
    have hlS:l<s.heap.objs.size:=Heap.lt_size hol
    unfold Builtin.«set.__init__» noKeywords Builtin.Frozenset.updateFrom
    generalize hPI:pyIter=PI
    wp_walk
    subst hPI
    refine wpAny_pyIter_list (s:={ s with heap:=s.heap.push { cls:=.type "set",dict:=none,data:=.set #[] 0 (.fresh 0 0 (SS.led0 w)) } }) hl1 ?_
    refine wpAny_bind (wpAny_runValue ?_)
    have hneI:l≠(s.heap.push { cls:=.type "set",dict:=none,data:=.set #[] 0 (.fresh 0 0 (SS.led0 w)) }).objs.size:=Nat.ne_of_lt (by rw [size_push'];exact Nat.lt_succ_of_lt hlS)
    have hSf:s.heap.objs.size ∉ [(s.heap.push { cls:=.type "set",dict:=none,data:=.set #[] 0 (.fresh 0 0 (SS.led0 w)) }).objs.size,l]:=by
     rw [size_push']
     intro z
     rcases List.mem_cons.mp z with z | z
     ·exact absurd z (Nat.ne_of_lt (Nat.lt_succ_self _))
     ·rw [List.mem_singleton] at z;exact absurd z (Nat.ne_of_gt hlS)
    have W:=Walks.list (prog:=prog) (w:=w) (A:=A.in1.in1.in1) (by simp [hh]) (s.heap.push { cls:=.type "set",dict:=none,data:=.set #[] 0 (.fresh 0 0 (SS.led0 w)) }).objs.size l hneI items
    have W2:Walks prog w A.in1.in1.in1 (s.heap.push { cls:=.type "set",dict:=none,data:=.set #[] 0 (.fresh 0 0 (SS.led0 w)) }).objs.size [(s.heap.push { cls:=.type "set",dict:=none,data:=.set #[] 0 (.fresh 0 0 (SS.led0 w)) }).objs.size,l] [(s.heap.push { cls:=.type "set",dict:=none,data:=.set #[] 0 (.fresh 0 0 (SS.led0 w)) }).objs.size] ns.length (fun i v=>∃ t,v=.str (ns.getD i Str.empty) t) (fun i h=>h.IsListIter (s.heap.push { cls:=.type "set",dict:=none,data:=.set #[] 0 (.fresh 0 0 (SS.led0 w)) }).objs.size l i∧h.IsList l items):=by
     rw [← hlen]
     exact ⟨W.sub,W.frame,fun i s Q E hi st k=>W.item i s Q E hi st fun v h' tk hv=>k v h' tk (str_at rfl hvl i v (by rw [Array.getElem?_toList];exact hv)),W.done,W.self⟩
    refine upd_loop W2 hSf hb (ns.length - 0) 0 _ (by omega) (Nat.zero_le _) ⟨⟨_,Heap.get?_push_size _ rfl,rfl,rfl⟩,hl1.push _⟩ (fresh_gt (Heap.get?_push_of_some _ gS)) fun h' tk kp g'=>?_
    show wpAny _ _ _ _ _ _
    refine wpAny_pure ?_
    show wpAny _ _ (ret Value.none) _ _ _
    refine wpAny_pure ⟨rfl,h',tk,rfl,g',fun b o hb e=>kp b o (Nat.ne_of_lt hb) (fun z=>?_) (Heap.get?_push_of_some _ (Heap.get?_push_of_some _ e))⟩
    rw [List.mem_singleton,size_push'] at z
    exact absurd z (Nat.ne_of_lt (Nat.lt_succ_of_lt hb))
   ·cases r2 with
    | error e=>exact hr2
    | ok fl2 =>
     cases fl2 with
     | ret r =>
      obtain ⟨rfl,h',tk,rfl,g',k'⟩:=hr2
      repeat (any_goals (first | assumption | wp_step))
      exact q _ _ g' k'
     | _=>exact hr2.elim
  | _=>exact hr.elim
end
end ST
set_option maxHeartbeats 4000000
namespace L2
open PySem PySem.Spec PyProof.Rows
def cLenSet (K:PySem.W.Frag) (t:TA):TE:=fun σ H Q=>t σ H fun vs H1=>match vs with
 | [.ref p]=>∃ xs:List Str,SqL K H1 p (xs.map V.str)∧xs.length<4000∧∀ n:Nat,n≤xs.length→(n=xs.length ↔ xs.Nodup)→Q (.int n) H1
 | _=>False
theorem e_lenset {X:Cx}{ea:Expr}{t:TA}{p1 p2 p3 p4:Pos} (hc:X.calm=true) (hg1:Gl X "len") (hg2:Gl X "set") (hm1:X.mg "len" = none) (hm2:X.mg "set" = none) (ha:PA X [ea] t)
  (he:starEach [ea] X.env=(false,eval ea X.env) :: starEach [] X.env:=by rfl) (hpl:(backTo p3 (starEach [] X.env)).any (·.1)=false:=by rfl)
  (he2:starEach [Expr.Call (.Name "set" p2) [ea] [] p3] X.env=(false,eval (Expr.Call (.Name "set" p2) [ea] [] p3) X.env) :: starEach [] X.env:=by rfl) (hpl2:(backTo p4 (starEach [] X.env)).any (·.1)=false:=by rfl) :
  PE X (.Call (.Name "len" p1) [.Call (.Name "set" p2) [ea] [] p3] [] p4) (cLenSet X.K t):=by
 intro pins s σ H Q I h
 refine wpAny_Call_Name_kw (ld_blt I hg1 hm1 PySem.boot_len ?_ (by decide) (by decide))
 refine PyProof.Rows.callWith_builtin1 ?_ he2 hpl2
 rw [he2]
 show wpAny _ _ (spliced ((false,eval (Expr.Call (.Name "set" p2) [ea] [] p3) X.env) :: backTo p4 (starEach [] X.env))) _ _ s
 refine Calls.spliced_cons ?_
 refine wpAny_Call_Name_kw (ld_blt I hg2 hm2 PyProof.Rows.boot_set ?_ (by decide) (by decide))
 refine PyProof.Rows.callWith_type1 (thn (ha p3 pins s σ H _ I h) fun us s1 ⟨vs,H1,I1,r1,q1⟩=>?_) he hpl
 match vs,q1 with
 | [.ref p],q1 =>
  obtain ⟨xs,hq,h64,q⟩:=q1
  obtain ⟨u,rfl,rx⟩:=vals1 r1
  cases rx
  obtain ⟨its,r',pl,hz⟩:=I1.list hq
  obtain ⟨f1,f2,f3⟩:=ST.dds_facts xs
  refine ST.call_set (s:=s1) (I.ok.hd hc) pl.isList (by simpa using r') (by unfold scanBound;omega) fun h2 t2 g2 k2=>Calls.spliced_nil ?_
  have I2:Inv X pins σ H1 { s1 with heap:=h2,toks:=t2 }:=I1.kept fun b o e=>k2 b o (Heap.lt_size e) e
  obtain ⟨o,es,ep,tb,ho,hex,hd,_,_,hb,hf,hn⟩:=g2
  have hs:(es.size:Int)<2 ^ 63:=by unfold scanBound at hb;omega
  refine call_len_set (s:={ s1 with heap:=h2,toks:=t2 }) ho hex hd hf hs ⟨.int es.size,H1,I2.tok _,⟨_,rfl⟩,?_⟩
  rw [hn]
  exact q _ f2 f3
def cAddL (K:PySem.W.Frag):R2:=fun x y H Q=>match x,y with
 | .ref l,.ref b=>∃ xs zs,SqL K H l xs∧SqL K H b zs∧xs.length+zs.length≤sizeLine∧∀ p H',New H p (.lst (xs ++ zs)) H'→Q (.ref p) H'
 | _,_=>False
theorem o_addL {X:Cx}:OpR X (binaryOp .Add) (cAddL X.K):=by
 intro pins s σ H x y v u Q I rx ry h
 cases x <;> cases y <;> first
  | exact False.elim h
  | skip
 rename_i l b
 obtain ⟨xs,zs,hH,hB,hz,q⟩:=h
 cases rx
 cases ry
 obtain ⟨its,r,pl,z⟩:=I.list hH
 obtain ⟨its2,r2,pl2,z2⟩:=I.list hB
 obtain ⟨⟨cls,dd,data,sl⟩,ho,hc,n,hd⟩:=pl.isList
 obtain ⟨⟨cls2,dd2,data2,sl2⟩,ho2,hc2,n2,hd2⟩:=pl2.isList
 simp only at hc hd hc2 hd2
 subst hc hd hc2 hd2
 have e:its.toArray ++ its2.toArray=(its ++ its2).toArray:=by simp
 have l1:=r.length
 have l2:=r2.length
 refine concat_meets ⟨_,ho,rfl⟩ ⟨_,ho2,rfl⟩ noFill_list_add seq_list_add PySem.F.slot_list_add PySem.F.entry_list_add (PySem.F.args_list_add_2 _ _) (list_addW l b its.toArray its2.toArray n n2 dd dd2 sl sl2 (by simp;omega)) ⟨ho,ho2,?_⟩
 rw [e]
 exact ⟨.ref _,_,I.lnew (t':=s.toks) (r.append r2) (by rw [List.length_append];omega),rfl,q _ _ ⟨I.fresh,rfl⟩⟩
def MP (w:World) (K:PySem.W.Frag):List DictEntry→List (Str × List V)→Prop
 | [],[]=>True
 | e :: es,kv :: kvs=>(∃ t,e.key=.str kv.1 t)∧e.hash=hashStr w kv.1∧(∃ p,e.val=.ref p∧∀ H,SqT K H p kv.2)∧MP w K es kvs
 | _,_=>False
def MDict (w:World) (K:PySem.W.Frag) (g:Addr) (kvs:List (Str × List V)):Prop:=(g == sysModules)=false∧∃ o es ep,K.lookup g=some o∧o.ExactDict∧o.data=.dict es ep∧MP w K es.toList kvs∧(kvs.map (·.1)).Nodup
def mdV (kvs:List (Str × List V)) (z:Str):Option (List V):=(kvs.find? fun kv=>decide (kv.1=z)).map (·.2)
def ML (w:World):List DictEntry→List (Str × Addr)→Prop
 | [],[]=>True
 | e :: es,kp :: kps=>(∃ t,e.key=.str kp.1 t)∧e.hash=hashStr w kp.1∧e.val=.ref kp.2∧ML w es kps
 | _,_=>False
inductive MS (K:PySem.W.Frag):List (Str × Addr)→List (Str × List V)→Prop
 | nil:MS K [] []
 | cons {x:Str}{p:Addr}{vs:List V}{kps:List (Str × Addr)}{kvs:List (Str × List V)}:(∀ H,SqT K H p vs)→MS K kps kvs→MS K ((x,p) :: kps) ((x,vs) :: kvs)
theorem mp_of {w:World}{K:PySem.W.Frag}{es:List DictEntry}{kps:List (Str × Addr)}{kvs:List (Str × List V)} (h:ML w es kps) (m:MS K kps kvs):MP w K es kvs:=by
 induction m generalizing es with
 | nil =>
  cases es with
  | nil=>exact True.intro
  | cons _ _=>exact h.elim
 | cons a r ih =>
  cases es with
  | nil=>exact h.elim
  | cons e es =>
   obtain ⟨h1,h2,h3,h4⟩:=h
   exact ⟨h1,h2,⟨_,h3,a⟩,ih h4⟩
theorem mp_vs {P:Program}{w:World}{K:PySem.W.Frag}:∀ (es:List DictEntry) (kvs:List (Str × List V)),MP w K es kvs→∃ vs:List (Key × Value),Pairs (mixKind P w) es vs∧vs.map (·.1)=kvs.map (fun kv=>Sum.inr kv.1) ∧
  (∀ e∈es,∃ k,(mixKind P w).is k e.key=true∧e.hash=(mixKind P w).hash k)∧∀ z,(mdV kvs z=none→valueAt vs (Sum.inr z)=none)∧∀ xs,mdV kvs z=some xs→∃ p,valueAt vs (Sum.inr z)=some (.ref p)∧∀ H,SqT K H p xs
 | [],[],_=>⟨[],.nil,rfl,fun e h=>by simp at h,fun z=>⟨fun _=>rfl,fun xs h=>by simp [mdV] at h⟩⟩
 | e :: es,kv :: kvs,⟨⟨t,h1⟩,h2,⟨p,h3,h4⟩,h5⟩=>by
  obtain ⟨vs,a1,a2,a3,a4⟩:=mp_vs (P:=P) es kvs h5
  have hk:(mixKind P w).is (Sum.inr kv.1) e.key=true:=by rw [h1];exact mixKind_str P w kv.1 t
  refine ⟨(Sum.inr kv.1,.ref p) :: vs,.cons hk h3 a1,by rw [List.map_cons,List.map_cons,a2],fun e' he'=>?_,fun z=>?_⟩
  ·rcases List.mem_cons.mp he' with rfl | he'
   ·exact ⟨_,hk,h2⟩
   ·exact a3 e' he'
  ·unfold mdV valueAt
   rw [List.find?_cons,List.find?_cons]
   by_cases ez:kv.1=z
   ·subst ez
    rw [decide_eq_true rfl,decide_eq_true rfl]
    exact ⟨fun h=>by simp at h,fun xs h=>⟨p,rfl,by simp at h;rw [← h];exact h4⟩⟩
   ·rw [decide_eq_false ez,decide_eq_false (fun q=>ez (Sum.inr.inj q))]
    exact a4 z
 | [],_ :: _,h=>h.elim
 | _ :: _,[],h=>h.elim
theorem MDict.at {P:Program}{w:World}{K:PySem.W.Frag}{g:Addr}{kvs:List (Str × List V)} (h:MDict w K g kvs) {hp:Heap} (k:K.In hp):(g == sysModules)=false∧∃ vs:List (Key × Value),hp.DictOf (mixKind P w) g vs ∧
  ∀ z,(mdV kvs z=none→valueAt vs (Sum.inr z)=none)∧∀ xs,mdV kvs z=some xs→∃ p,valueAt vs (Sum.inr z)=some (.ref p)∧∀ H,SqT K H p xs:=by
 obtain ⟨hg,o,es,ep,h1,h2,h3,h4,h5⟩:=h
 obtain ⟨vs,a1,a2,a3,a4⟩:=mp_vs (P:=P) _ _ h4
 refine ⟨hg,vs,⟨o,es,ep,k g o h1,h2,h3,fun e he=>a3 e (by simpa using he),a1,?_⟩,a4⟩
 rw [a2,show (fun kv:Str × List V=>(Sum.inr kv.1:Key))=(Sum.inr ∘ fun kv=>kv.1) from rfl,← List.map_map]
 exact List.pairwise_map.mpr (List.Pairwise.imp (fun h e=>h (Sum.inr.inj e)) h5)
def tMNotIn (kvs:List (Str × List V)) (ty:TE):TE:=fun σ H Q=>ty σ H fun y H1=>∃ z,y=.str z∧Q (.bl (!(mdV kvs z).isSome)) H1
def tMGet (K:PySem.W.Frag) (kvs:List (Str × List V)) (ty:TE):TE:=fun σ H Q=>ty σ H fun y H1=>∃ z xs,y=.str z∧mdV kvs z=some xs∧∀ p,(∀ H',SqT K H' p xs)→Q (.ref p) H1
section
variable {X:Cx}{o i:Expr}{pos:Pos}{ty:TE}{g:Addr}{kvs:List (Str × List V)}
theorem pc_mnotin (hd:MDict X.w X.K g kvs) (hi:PE X i ty) (ho:PE X o (tC (.ref g))):PC X .NotIn i o (tMNotIn kvs ty):=by
 intro pins s σ H Q I h
 refine thn (hi pins s σ H _ I h) fun iv s1 ⟨y,H1,I1,ry,z,ez,q1⟩=>thn (ho pins s1 σ H1 (fun v H2=>v=.ref g∧H2=H1) I1 ⟨rfl,rfl⟩) fun u s2 ⟨x,H2,I2,rx,ex,eH⟩=>?_
 subst ex ez eH
 obtain rfl:u=Value.ref g:=rx
 obtain ⟨hg,vs,dd,hv⟩:=hd.at (P:=X.prog) I2.kIn
 refine wpAny_notIn_of (k:=Sum.inr z) (kV_is ry) hg dd.mapOf ⟨.bl (!(valueAt vs (Sum.inr z)).isSome),_,I2.tok _,rfl,?_⟩
 obtain ⟨v1,v2⟩:=hv z
 cases hm:mdV kvs z with
 | none=>rw [hm] at q1;rw [v1 hm];exact q1
 | some xs=>rw [hm] at q1;obtain ⟨p,e,_⟩:=v2 xs hm;rw [e];exact q1
theorem pe_mget (hd:MDict X.w X.K g kvs) (ho:PE X o (tC (.ref g))) (hi:PE X i ty) (hs:NoSl i):PE X (.Subscript o i pos) (tMGet X.K kvs ty):=by
 intro pins s σ H Q I h
 refine subD_of PySem.F.slot_dict_getitem.lookup hs (thn (ho pins s σ H (fun v H2=>v=.ref g∧H2=H) I ⟨rfl,rfl⟩) fun u s1 ⟨x,H1,I1,rx,ex,eH⟩=>?_)
 subst ex eH
 obtain rfl:u=Value.ref g:=rx
 refine thn (hi pins s1 σ _ _ I1 h) fun iv s2 ⟨y,H2,I2,ry,z,xs,ez,hm,q2⟩=>?_
 subst ez
 obtain ⟨hg,vs,dd,hv⟩:=hd.at (P:=X.prog) I2.kIn
 obtain ⟨p,e,hp⟩:=(hv z).2 xs hm
 exact ⟨dd.typeIs,wpAny_getItem_of (k:=Sum.inr z) (kV_is ry) dd.mapOf e ⟨.ref p,H2,I2.tok _,rfl,q2 p hp⟩⟩
end
theorem compG_markS {K:PySem.W.Frag}{σ:L2.St}{sel:List Nat}{H:Hp}{Q:VK}{a:Addr}{ks:List Str} (hl:SqL K H a (ks.map V.str)) (hr:sel.map (fun j=>(σ[j]?).join)=[]) (hz:ks.length≤sizeLine)
  (hQ:∀ p H' us,H p=none→H' p=some (.lst us)→us.length=ks.length→Same H H'→(∀ (j:Nat) k,ks[j]? = some k→∃ t,us[j]? = some (.ref t)∧H' t=some (.tup [.str k,.bl true]))→Q (.ref p) H') :
  CompG (Itl K a) σ 1 sel (gName 0) tTrue (tTup (tCons (cVar 0) (tCons (tC (.bl true)) tNil))) Q H:=by
 intro p hp
 refine comp_inv (n:=(ks.map V.str).length) (item:=fun i=>(ks.map V.str).getD i .non) (fun i H2=>∃ us,H2 p=some (.lst us)∧us.length=i∧Same H H2∧∀ (j:Nat) k,j<i→ks[j]? = some k→∃ t,us[j]? = some (.ref t)∧H2 t=some (.tup [.str k,.bl true])) hr ⟨[],upd_same,rfl,same_upd hp,fun j k hj=>absurd hj (Nat.not_lt_zero _)⟩ (src_list ?_) ?_ ?_ ?_
 ·rintro i H2 hi ⟨us,_,_,s2,_⟩
  exact s2.seq hl
 ·rintro H2 ⟨us,_,_,s2,_⟩
  exact ⟨_,s2.seq hl,Nat.le_refl _⟩
 ·rintro i H2 R hi ⟨us,h1,h2,s2,h4⟩ hR
  have hi':i<ks.length:=by rw [List.length_map] at hi;exact hi
  have ei:(ks.map V.str).getD i .non=.str ks[i]:=by simp [List.getD,hi']
  unfold tTrue
  dsimp only
  rw [if_pos rfl]
  simp only [tTup_n,tCons,tNil,tC,cVar,List.getElem?_cons_zero]
  refine ⟨by show 2≤sizeLine;decide,fun t5 H5 n5=>?_⟩
  have hp5:=n5.same _ _ h1
  have npt:t5≠p:=(ne_of_none h1 n5.was).symm
  refine ⟨us,hp5,by omega,hR _ ⟨us ++ [.ref t5],upd_same,by rw [List.length_append,h2];rfl,(s2.trans n5.same).put hp,fun j k hj hk=>?_⟩⟩
  by_cases hji:j<i
  ·obtain ⟨t',g1,g2⟩:=h4 j k hji hk
   exact ⟨t',by rw [List.getElem?_append_left (by omega)];exact g1,by rw [upd_ne (ne_of g2 h1 (fun z=>nomatch z))];exact n5.same _ _ g2⟩
  ·have hj':j=i:=by omega
   subst hj'
   rw [List.getElem?_eq_getElem hi'] at hk
   cases hk
   refine ⟨t5,by rw [← h2];simp,?_⟩
   rw [upd_ne npt,n5.at_,ei]
 ·rintro H2 ⟨us,h1,h2,s2,h4⟩
  refine hQ p H2 us hp h1 (by rw [h2,List.length_map]) s2 fun j k hk=>h4 j k ?_ hk
  rw [List.length_map]
  exact (List.getElem?_eq_some_iff.mp hk).1
def cAddA (K:PySem.W.Frag):R2:=fun x y H Q=>match x,y with
 | .int i,.int j=>Q (.int (i+j)) H
 | .str i,.str j=>i.length+j.length≤sizeLine∧Q (.str (i ++ j)) H
 | .ref l,.ref b=>∃ xs zs,SqL K H l xs∧SqL K H b zs∧xs.length+zs.length≤sizeLine∧∀ p H',New H p (.lst (xs ++ zs)) H'→Q (.ref p) H'
 | _,_=>False
theorem o_addA {X:Cx}:OpR X (binaryOp .Add) (cAddA X.K):=by
 intro pins s σ H x y v u Q I rx ry h
 cases x <;> cases y <;> first
  | exact False.elim h
  | exact op_add pins s σ H _ _ v u Q I rx ry ⟨_,_,rfl,rfl,h⟩
  | exact op_add_str pins s σ H _ _ v u Q I rx ry ⟨_,_,rfl,rfl,h.1,h.2⟩
  | exact o_addL pins s σ H (.ref _) (.ref _) v u Q I rx ry h
abbrev TF:=St→Hp→(Hp→Prop)→Prop
def okF (v:V):Prop:=(∃ y:Str,v=.str y∧y.length≤10000)∨v=.int 10∨v=.int 16
def fNil:TF:=fun _ H Q=>Q H
def fVal (t:TE) (r:TF):TF:=fun σ H Q=>t σ H fun v H1=>okF v∧r σ H1 Q
def tFS (t:TF):TE:=fun σ H Q=>t σ H fun H1=>∀ z,Q (.str z) H1
def PF (X:Cx) (es:List Expr) (t:TF):Prop:=∀ (pins:List (Addr × Obj)) (s:Shared) (σ:St) (H:Hp) (out:Str) (Q:Hp→Prop),out.length+10000 * es.length≤100000→Inv X pins σ H s→t σ H Q →
 wpAny (model X.prog X.w) X.A (joinParts out (evalEach es X.env)) (fun u s1=>∃ z H1,Inv X pins σ H1 s1∧RelV (.str z) u∧Q H1) X.xe s
theorem big5:(100000:Nat)≤sizeLine:=by decide
section
variable {X:Cx}{es:List Expr}{t:TF}{pos:Pos}
theorem pf_nil:PF X [] fNil:=fun pins s σ H out Q hl I h=>joinParts_nil ⟨out,H,I.tok _,⟨_,rfl⟩,h⟩ (by have:=big5;simp only [List.length_nil] at hl;omega)
theorem pf_c {x:Str}{j:Nat} (hx:x.length≤10000) (hr:PF X es t):PF X (.Constant (.str x) j pos :: es) t:=by
 intro pins s σ H out Q hl I h
 have:=big5
 simp only [List.length_cons] at hl
 refine joinParts_cons (Calls.Constant_str ⟨by rw [PySem.Str.length_append];omega,?_⟩)
 exact hr pins _ σ H (out ++ x) Q (by rw [PySem.Str.length_append];omega) (I.tok _) h
theorem pf_v {e:Expr}{te:TE} (he:PE X e te) (hr:PF X es t):PF X (.FormattedValue e (-1) none pos :: es) (fVal te t):=by
 intro pins s σ H out Q hl I h
 have:=big5
 simp only [List.length_cons] at hl
 refine joinParts_cons (FormattedValue_plain (thn (he pins s σ H _ I h) fun u s1 ⟨v,H1,I1,rv,ok,h1⟩=>?_))
 have go:∀ (i:Int),i.natAbs.log2<1920→(Str.ofString (toString i)).length≤10000→RelV (.int i) u→wpAny (model X.prog X.w) X.A (formatField u Str.empty) (fun v s₁=>match v with | .str y _=>(out ++ y).length≤sizeLine∧wpAny (model X.prog X.w) X.A (joinParts (out ++ y) (evalEach es X.env)) (fun u s1=>∃ z H1,Inv X pins σ H1 s1∧RelV (.str z) u∧Q H1) X.xe s₁ | _=>False) X.xe s1:=by
  intro i hi hz ri
  obtain ⟨tk,rfl⟩:=(show ∃ tk,u=Value.int i tk from ri)
  refine formatField_int_small hi ⟨by rw [PySem.Str.length_append];omega,?_⟩
  exact hr pins _ σ H1 _ Q (by rw [PySem.Str.length_append];omega) (I1.tok _) h1
 rcases ok with ⟨y,rfl,hy⟩ | rfl | rfl
 ·obtain ⟨tk,rfl⟩:=(show ∃ tk,u=Value.str y tk from rv)
  refine formatField_str (fun t' tk'=>⟨by rw [PySem.Str.length_append];omega,?_⟩) (by omega)
  exact hr pins _ σ H1 (out ++ y) Q (by rw [PySem.Str.length_append];omega) (I1.tok _) h1
 ·exact go 10 (by decide +kernel) (by decide +kernel) rv
 ·exact go 16 (by decide +kernel) (by decide +kernel) rv
theorem pe_fstr {e1 e2:Expr} (h:PF X (e1 :: e2 :: es) t) (hl:(e1 :: e2 :: es).length≤10:=by decide):PE X (.JoinedStr (e1 :: e2 :: es) pos) (tFS t):=by
 intro pins s σ H Q I hq
 refine JoinedStr_many (thn (h pins s σ H Str.empty _ (by show 0+_≤_;omega) I hq) fun u s1 ⟨z,H1,I1,rz,q⟩=>⟨.str z,H1,I1,rz,q z⟩)
end
end L2
set_option maxHeartbeats 4000000
namespace K08
open PySem PySem.Spec PyProof.Rows L2 GM
def top (i:Nat):Stmt:=PySem.Challenge.pw_gatefold_k08_lines_refused.main.body.getD i (.Pass ⟨0,0,0,0⟩)
abbrev s_is_name:Stmt:=top 20
abbrev N_is_name:List Str:=["text"]
theorem sc_is_name:FnScope N_is_name ["text"] (defScope s_is_name):=⟨rfl,rfl,rfl,by decide +kernel,rfl,by decide +kernel,by decide +kernel⟩
abbrev s_has_parts:Stmt:=top 21
abbrev N_has_parts:List Str:=["word","count","bounds"]
theorem sc_has_parts:FnScope N_has_parts ["word","count"] (defScope s_has_parts):=⟨rfl,rfl,rfl,by decide +kernel,rfl,by decide +kernel,by decide +kernel⟩
abbrev s_Net___init__:Stmt:=inClass (top 30) 0
abbrev N_Net___init__:List Str:=["self","inputs","gates","outputs"]
theorem sc_Net___init__:FnScope N_Net___init__ ["self","inputs","gates","outputs"] (defScope s_Net___init__):=⟨rfl,rfl,rfl,by decide +kernel,rfl,by decide +kernel,by decide +kernel⟩
abbrev s_words:Stmt:=top 34
abbrev N_words:List Str:=["text"]
theorem sc_words:FnScope N_words ["text"] (defScope s_words):=⟨rfl,rfl,rfl,by decide +kernel,rfl,by decide +kernel,by decide +kernel⟩
abbrev s_written:Stmt:=top 35
abbrev N_written:List Str:=["net","lines","name","word","parts"]
theorem sc_written:FnScope N_written ["net"] (defScope s_written):=⟨rfl,rfl,rfl,by decide +kernel,rfl,by decide +kernel,by decide +kernel⟩
abbrev s_names_behind:Stmt:=top 36
abbrev N_names_behind:List Str:=["first","most","row"]
theorem sc_names_behind:FnScope N_names_behind ["first","most","row"] (defScope s_names_behind):=⟨rfl,rfl,rfl,by decide +kernel,rfl,by decide +kernel,by decide +kernel⟩
abbrev s_inputs_of:Stmt:=top 37
abbrev N_inputs_of:List Str:=["row","names","name"]
theorem sc_inputs_of:FnScope N_inputs_of ["row"] (defScope s_inputs_of):=⟨rfl,rfl,rfl,by decide +kernel,rfl,by decide +kernel,by decide +kernel⟩
abbrev s_gate_of:Stmt:=top 38
abbrev N_gate_of:List Str:=["row","known","name"]
theorem sc_gate_of:FnScope N_gate_of ["row","known"] (defScope s_gate_of):=⟨rfl,rfl,rfl,by decide +kernel,rfl,by decide +kernel,by decide +kernel⟩
abbrev s_outputs_of:Stmt:=top 39
abbrev N_outputs_of:List Str:=["row","known","names"]
theorem sc_outputs_of:FnScope N_outputs_of ["row","known"] (defScope s_outputs_of):=⟨rfl,rfl,rfl,by decide +kernel,rfl,by decide +kernel,by decide +kernel⟩
abbrev s_need_known:Stmt:=top 40
abbrev N_need_known:List Str:=["names","known","name"]
theorem sc_need_known:FnScope N_need_known ["names","known"] (defScope s_need_known):=⟨rfl,rfl,rfl,by decide +kernel,rfl,by decide +kernel,by decide +kernel⟩
abbrev s_net_of:Stmt:=top 41
abbrev N_net_of:List Str:=["lines","inputs","known","gates","line","gate"]
theorem sc_net_of:FnScope N_net_of ["lines"] (defScope s_net_of):=⟨rfl,rfl,rfl,by decide +kernel,rfl,by decide +kernel,by decide +kernel⟩
abbrev s_law_cell_at:Stmt:=top 43
abbrev N_law_cell_at:List Str:=["_law_script","_law_k"]
theorem sc_law_cell_at:FnScope N_law_cell_at ["_law_script","_law_k"] (defScope s_law_cell_at):=⟨rfl,rfl,rfl,by decide +kernel,rfl,by decide +kernel,by decide +kernel⟩
abbrev s_law_letters:Stmt:=top 44
abbrev N_law_letters:List Str:=["_law_seed","_law_size","_law_some","_law_name","_law_state","_law_k"]
theorem sc_law_letters:FnScope N_law_letters ["_law_seed","_law_size"] (defScope s_law_letters):=⟨rfl,rfl,rfl,by decide +kernel,rfl,by decide +kernel,by decide +kernel⟩
abbrev s_law_next:Stmt:=top 45
abbrev N_law_next:List Str:=["_law_name","_law_some","_law_at","_law_sign"]
theorem sc_law_next:FnScope N_law_next ["_law_name"] (defScope s_law_next):=⟨rfl,rfl,rfl,by decide +kernel,rfl,by decide +kernel,by decide +kernel⟩
abbrev s_law_one_name:Stmt:=top 46
abbrev N_law_one_name:List Str:=["_law_k","_law_cell","_law_some","_law_size","_law_word","_law_code","_law_place","_law_middle","_law_near"]
theorem sc_law_one_name:FnScope N_law_one_name ["_law_k","_law_cell"] (defScope s_law_one_name):=⟨rfl,rfl,rfl,by decide +kernel,rfl,by decide +kernel,by decide +kernel⟩
abbrev s_law_all_names:Stmt:=top 47
abbrev N_law_all_names:List Str:=["_law_count","_law_cell","_law_near","_law_names","_law_k","_law_name"]
theorem sc_law_all_names:FnScope N_law_all_names ["_law_count","_law_cell"] (defScope s_law_all_names):=⟨rfl,rfl,rfl,by decide +kernel,rfl,by decide +kernel,by decide +kernel⟩
abbrev s_law_drawn_gate:Stmt:=top 48
abbrev N_law_drawn_gate:List Str:=["_law_name","_law_known","_law_cell","_law_word","_law_more","_law_count","_law_span","_law_parts","_law_j","_law_at"]
theorem sc_law_drawn_gate:FnScope N_law_drawn_gate ["_law_name","_law_known","_law_cell"] (defScope s_law_drawn_gate):=⟨rfl,rfl,rfl,by decide +kernel,rfl,by decide +kernel,by decide +kernel⟩
abbrev s_law_drawn:Stmt:=top 49
abbrev N_law_drawn:List Str:=["_law_many","_law_cells","_law_cell","_law_outs","_law_names","_law_gates","_law_k","_law_outputs","_law_j","_law_back"]
theorem sc_law_drawn:FnScope N_law_drawn ["_law_many","_law_cells","_law_cell","_law_outs"] (defScope s_law_drawn):=⟨rfl,rfl,rfl,by decide +kernel,rfl,by decide +kernel,by decide +kernel⟩
abbrev s_law_rows:Stmt:=top 50
abbrev N_law_rows:List Str:=["_law_net","_law_rows_here","_law_name","_law_word","_law_parts"]
theorem sc_law_rows:FnScope N_law_rows ["_law_net"] (defScope s_law_rows):=⟨rfl,rfl,rfl,by decide +kernel,rfl,by decide +kernel,by decide +kernel⟩
abbrev s_law_wrong_gate:Stmt:=top 51
abbrev N_law_wrong_gate:List Str:=["_law_way","_law_cell","_law_known","_law_later","_law_name","_law_word","_law_count","_law_own","_law_part","_law_parts"]
theorem sc_law_wrong_gate:FnScope N_law_wrong_gate ["_law_way","_law_cell","_law_known","_law_later"] (defScope s_law_wrong_gate):=⟨rfl,rfl,rfl,by decide +kernel,rfl,by decide +kernel,by decide +kernel⟩
abbrev s_law_wrong_end:Stmt:=top 52
abbrev N_law_wrong_end:List Str:=["_law_way","_law_cell","_law_names","_law_word","_law_place","_law_bad"]
theorem sc_law_wrong_end:FnScope N_law_wrong_end ["_law_way","_law_cell","_law_names"] (defScope s_law_wrong_end):=⟨rfl,rfl,rfl,by decide +kernel,rfl,by decide +kernel,by decide +kernel⟩
abbrev s_law_spoilt:Stmt:=top 53
abbrev N_law_spoilt:List Str:=["_law_rows_here","_law_net","_law_way","_law_cell","_law_at","_law_place","_law_known","_law_later"]
theorem sc_law_spoilt:FnScope N_law_spoilt ["_law_rows_here","_law_net","_law_way","_law_cell","_law_at"] (defScope s_law_spoilt):=⟨rfl,rfl,rfl,by decide +kernel,rfl,by decide +kernel,by decide +kernel⟩
abbrev s_law_kinds:Stmt:=top 54
abbrev N_law_kinds:List Str:=["_law_lines","_law_kinds_here","_law_handed","e"]
theorem sc_law_kinds:FnScope N_law_kinds ["_law_lines"] (defScope s_law_kinds):=⟨rfl,rfl,rfl,by decide +kernel,rfl,by decide +kernel,by decide +kernel⟩
abbrev s_law:Stmt:=top 55
abbrev N_law:List Str:=["_law_script","_law_many","_law_net","_law_way","_law_cell","_law_rows_here","_law_spoilt_here","_law_more","_law_lines","_law_due","_law_good","_law_found","_law_k"]
theorem sc_law:FnScope N_law ["_law_script"] (defScope s_law):=⟨rfl,rfl,rfl,by decide +kernel,rfl,by decide +kernel,by decide +kernel⟩
structure Adr where
 f_is_name:Addr
 d_is_name:FuncData
 f_has_parts:Addr
 d_has_parts:FuncData
 f_Net___init__:Addr
 d_Net___init__:FuncData
 f_words:Addr
 d_words:FuncData
 f_written:Addr
 d_written:FuncData
 f_names_behind:Addr
 d_names_behind:FuncData
 f_inputs_of:Addr
 d_inputs_of:FuncData
 f_gate_of:Addr
 d_gate_of:FuncData
 f_outputs_of:Addr
 d_outputs_of:FuncData
 f_need_known:Addr
 d_need_known:FuncData
 f_net_of:Addr
 d_net_of:FuncData
 f_law_cell_at:Addr
 d_law_cell_at:FuncData
 f_law_letters:Addr
 d_law_letters:FuncData
 f_law_next:Addr
 d_law_next:FuncData
 f_law_one_name:Addr
 d_law_one_name:FuncData
 f_law_all_names:Addr
 d_law_all_names:FuncData
 f_law_drawn_gate:Addr
 d_law_drawn_gate:FuncData
 f_law_drawn:Addr
 d_law_drawn:FuncData
 f_law_rows:Addr
 d_law_rows:FuncData
 f_law_wrong_gate:Addr
 d_law_wrong_gate:FuncData
 f_law_wrong_end:Addr
 d_law_wrong_end:FuncData
 f_law_spoilt:Addr
 d_law_spoilt:FuncData
 f_law_kinds:Addr
 d_law_kinds:FuncData
 f_law:Addr
 d_law:FuncData
 c_Net:Addr
 c_FoldError:Addr
 c_NoBoard:Addr
 c_NoCut:Addr
 c_NoGoal:Addr
 c_NoKnot:Addr
 c_NoLine:Addr
 c_NoMatch:Addr
 c_NoName:Addr
 c_NoSize:Addr
 c_NoText:Addr
 c_NoTie:Addr
 g_KEPT_WORDS:Addr
 g_PART_COUNTS:Addr
def gv_KEPT_WORDS (a:Adr):V:=.ref a.g_KEPT_WORDS
def gl_KEPT_WORDS:List V:=[.str "in",.str "out",.str "is",.str "and",.str "or",.str "either",.str "not",.str "choose",.str "most",.str "yes",.str "no"]
def gv_LETTERS (_:Adr):V:=.str "abcdefghijklmnopqrstuvwxyz"
def gv_LONGEST_NAME (_:Adr):V:=.int 8
def gv_MOST_INPUTS (_:Adr):V:=.int 10
def gv_MOST_OUTPUTS (_:Adr):V:=.int 16
def gv_PART_COUNTS (a:Adr):V:=.ref a.g_PART_COUNTS
def gl_PART_COUNTS:List (Str × List V):=[("and",[.int 2,.int 6]),("or",[.int 2,.int 6]),("either",[.int 2,.int 6]),("not",[.int 1,.int 1]),("choose",[.int 3,.int 3]),("most",[.int 3,.int 3]),("yes",[.int 0,.int 0]),("no",[.int 0,.int 0])]
structure Txt (w:World) (K:PySem.W.Frag) (mg:Str→Option Value) (a:Adr):Prop where
 mg_is_name:mg "is_name" = some (.ref a.f_is_name)
 fn_is_name:Fun K "is_name" "is_name" s_is_name a.f_is_name a.d_is_name
 bi_is_name:Binds K a.d_is_name ["text"] []
 mg_has_parts:mg "has_parts" = some (.ref a.f_has_parts)
 fn_has_parts:Fun K "has_parts" "has_parts" s_has_parts a.f_has_parts a.d_has_parts
 bi_has_parts:Binds K a.d_has_parts ["word","count"] []
 fn_Net___init__:Fun K "__init__" "Net.__init__" s_Net___init__ a.f_Net___init__ a.d_Net___init__
 bi_Net___init__:Binds K a.d_Net___init__ ["self","inputs","gates","outputs"] []
 mg_words:mg "words" = some (.ref a.f_words)
 fn_words:Fun K "words" "words" s_words a.f_words a.d_words
 bi_words:Binds K a.d_words ["text"] []
 mg_written:mg "written" = some (.ref a.f_written)
 fn_written:Fun K "written" "written" s_written a.f_written a.d_written
 bi_written:Binds K a.d_written ["net"] []
 mg_names_behind:mg "names_behind" = some (.ref a.f_names_behind)
 fn_names_behind:Fun K "names_behind" "names_behind" s_names_behind a.f_names_behind a.d_names_behind
 bi_names_behind:Binds K a.d_names_behind ["first","most","row"] []
 mg_inputs_of:mg "inputs_of" = some (.ref a.f_inputs_of)
 fn_inputs_of:Fun K "inputs_of" "inputs_of" s_inputs_of a.f_inputs_of a.d_inputs_of
 bi_inputs_of:Binds K a.d_inputs_of ["row"] []
 mg_gate_of:mg "gate_of" = some (.ref a.f_gate_of)
 fn_gate_of:Fun K "gate_of" "gate_of" s_gate_of a.f_gate_of a.d_gate_of
 bi_gate_of:Binds K a.d_gate_of ["row","known"] []
 mg_outputs_of:mg "outputs_of" = some (.ref a.f_outputs_of)
 fn_outputs_of:Fun K "outputs_of" "outputs_of" s_outputs_of a.f_outputs_of a.d_outputs_of
 bi_outputs_of:Binds K a.d_outputs_of ["row","known"] []
 mg_need_known:mg "need_known" = some (.ref a.f_need_known)
 fn_need_known:Fun K "need_known" "need_known" s_need_known a.f_need_known a.d_need_known
 bi_need_known:Binds K a.d_need_known ["names","known"] []
 mg_net_of:mg "net_of" = some (.ref a.f_net_of)
 fn_net_of:Fun K "net_of" "net_of" s_net_of a.f_net_of a.d_net_of
 bi_net_of:Binds K a.d_net_of ["lines"] []
 mg_law_cell_at:mg "_law_cell_at" = some (.ref a.f_law_cell_at)
 fn_law_cell_at:Fun K "_law_cell_at" "_law_cell_at" s_law_cell_at a.f_law_cell_at a.d_law_cell_at
 bi_law_cell_at:Binds K a.d_law_cell_at ["_law_script","_law_k"] []
 mg_law_letters:mg "_law_letters" = some (.ref a.f_law_letters)
 fn_law_letters:Fun K "_law_letters" "_law_letters" s_law_letters a.f_law_letters a.d_law_letters
 bi_law_letters:Binds K a.d_law_letters ["_law_seed","_law_size"] []
 mg_law_next:mg "_law_next" = some (.ref a.f_law_next)
 fn_law_next:Fun K "_law_next" "_law_next" s_law_next a.f_law_next a.d_law_next
 bi_law_next:Binds K a.d_law_next ["_law_name"] []
 mg_law_one_name:mg "_law_one_name" = some (.ref a.f_law_one_name)
 fn_law_one_name:Fun K "_law_one_name" "_law_one_name" s_law_one_name a.f_law_one_name a.d_law_one_name
 bi_law_one_name:Binds K a.d_law_one_name ["_law_k","_law_cell"] []
 mg_law_all_names:mg "_law_all_names" = some (.ref a.f_law_all_names)
 fn_law_all_names:Fun K "_law_all_names" "_law_all_names" s_law_all_names a.f_law_all_names a.d_law_all_names
 bi_law_all_names:Binds K a.d_law_all_names ["_law_count","_law_cell"] []
 mg_law_drawn_gate:mg "_law_drawn_gate" = some (.ref a.f_law_drawn_gate)
 fn_law_drawn_gate:Fun K "_law_drawn_gate" "_law_drawn_gate" s_law_drawn_gate a.f_law_drawn_gate a.d_law_drawn_gate
 bi_law_drawn_gate:Binds K a.d_law_drawn_gate ["_law_name","_law_known","_law_cell"] []
 mg_law_drawn:mg "_law_drawn" = some (.ref a.f_law_drawn)
 fn_law_drawn:Fun K "_law_drawn" "_law_drawn" s_law_drawn a.f_law_drawn a.d_law_drawn
 bi_law_drawn:Binds K a.d_law_drawn ["_law_many","_law_cells","_law_cell","_law_outs"] []
 mg_law_rows:mg "_law_rows" = some (.ref a.f_law_rows)
 fn_law_rows:Fun K "_law_rows" "_law_rows" s_law_rows a.f_law_rows a.d_law_rows
 bi_law_rows:Binds K a.d_law_rows ["_law_net"] []
 mg_law_wrong_gate:mg "_law_wrong_gate" = some (.ref a.f_law_wrong_gate)
 fn_law_wrong_gate:Fun K "_law_wrong_gate" "_law_wrong_gate" s_law_wrong_gate a.f_law_wrong_gate a.d_law_wrong_gate
 bi_law_wrong_gate:Binds K a.d_law_wrong_gate ["_law_way","_law_cell","_law_known","_law_later"] []
 mg_law_wrong_end:mg "_law_wrong_end" = some (.ref a.f_law_wrong_end)
 fn_law_wrong_end:Fun K "_law_wrong_end" "_law_wrong_end" s_law_wrong_end a.f_law_wrong_end a.d_law_wrong_end
 bi_law_wrong_end:Binds K a.d_law_wrong_end ["_law_way","_law_cell","_law_names"] []
 mg_law_spoilt:mg "_law_spoilt" = some (.ref a.f_law_spoilt)
 fn_law_spoilt:Fun K "_law_spoilt" "_law_spoilt" s_law_spoilt a.f_law_spoilt a.d_law_spoilt
 bi_law_spoilt:Binds K a.d_law_spoilt ["_law_rows_here","_law_net","_law_way","_law_cell","_law_at"] []
 mg_law_kinds:mg "_law_kinds" = some (.ref a.f_law_kinds)
 fn_law_kinds:Fun K "_law_kinds" "_law_kinds" s_law_kinds a.f_law_kinds a.d_law_kinds
 bi_law_kinds:Binds K a.d_law_kinds ["_law_lines"] []
 mg_law:mg "law" = some (.ref a.f_law)
 fn_law:Fun K "law" "law" s_law a.f_law a.d_law
 bi_law:Binds K a.d_law ["_law_script"] []
 mg_Net:mg "Net" = some (.ref a.c_Net)
 cl_Net:Cls K a.c_Net
 mk_Net:Mk K a.c_Net a.f_Net___init__
 na_Net_inputs:NoAttr K a.c_Net "inputs"
 na_Net_gates:NoAttr K a.c_Net "gates"
 na_Net_outputs:NoAttr K a.c_Net "outputs"
 mg_FoldError:mg "FoldError" = some (.ref a.c_FoldError)
 mg_NoBoard:mg "NoBoard" = some (.ref a.c_NoBoard)
 mg_NoCut:mg "NoCut" = some (.ref a.c_NoCut)
 mg_NoGoal:mg "NoGoal" = some (.ref a.c_NoGoal)
 mg_NoKnot:mg "NoKnot" = some (.ref a.c_NoKnot)
 mg_NoLine:mg "NoLine" = some (.ref a.c_NoLine)
 mg_NoMatch:mg "NoMatch" = some (.ref a.c_NoMatch)
 mg_NoName:mg "NoName" = some (.ref a.c_NoName)
 mg_NoSize:mg "NoSize" = some (.ref a.c_NoSize)
 mg_NoText:mg "NoText" = some (.ref a.c_NoText)
 mg_NoTie:mg "NoTie" = some (.ref a.c_NoTie)
 xi_NoLine:PySem.W.excIn K a.c_NoLine [.type "ValueError",.type "Exception",.type "BaseException",.type "object"] "ValueError.__new__" = true
 xq_NoLine:exq K a.c_NoLine=true
 kv_NoLine:PySem.W.kitOne K (.ref a.c_NoLine) (.type "ValueError")=some true
 xm_NoLine_FoldError:(L2.mroIn K a.c_NoLine).contains (.ref a.c_FoldError)=true
 ko_NoLine_NoBoard:PySem.W.kitOne K (.ref a.c_NoLine) (.ref a.c_NoBoard)=some false
 ko_NoLine_NoCut:PySem.W.kitOne K (.ref a.c_NoLine) (.ref a.c_NoCut)=some false
 ko_NoLine_NoGoal:PySem.W.kitOne K (.ref a.c_NoLine) (.ref a.c_NoGoal)=some false
 ko_NoLine_NoKnot:PySem.W.kitOne K (.ref a.c_NoLine) (.ref a.c_NoKnot)=some false
 ko_NoLine_NoLine:PySem.W.kitOne K (.ref a.c_NoLine) (.ref a.c_NoLine)=some true
 ko_NoLine_NoMatch:PySem.W.kitOne K (.ref a.c_NoLine) (.ref a.c_NoMatch)=some false
 ko_NoLine_NoName:PySem.W.kitOne K (.ref a.c_NoLine) (.ref a.c_NoName)=some false
 ko_NoLine_NoSize:PySem.W.kitOne K (.ref a.c_NoLine) (.ref a.c_NoSize)=some false
 ko_NoLine_NoText:PySem.W.kitOne K (.ref a.c_NoLine) (.ref a.c_NoText)=some false
 ko_NoLine_NoTie:PySem.W.kitOne K (.ref a.c_NoLine) (.ref a.c_NoTie)=some false
 xi_NoName:PySem.W.excIn K a.c_NoName [.type "ValueError",.type "Exception",.type "BaseException",.type "object"] "ValueError.__new__" = true
 xq_NoName:exq K a.c_NoName=true
 kv_NoName:PySem.W.kitOne K (.ref a.c_NoName) (.type "ValueError")=some true
 xm_NoName_FoldError:(L2.mroIn K a.c_NoName).contains (.ref a.c_FoldError)=true
 ko_NoName_NoBoard:PySem.W.kitOne K (.ref a.c_NoName) (.ref a.c_NoBoard)=some false
 ko_NoName_NoCut:PySem.W.kitOne K (.ref a.c_NoName) (.ref a.c_NoCut)=some false
 ko_NoName_NoGoal:PySem.W.kitOne K (.ref a.c_NoName) (.ref a.c_NoGoal)=some false
 ko_NoName_NoKnot:PySem.W.kitOne K (.ref a.c_NoName) (.ref a.c_NoKnot)=some false
 ko_NoName_NoLine:PySem.W.kitOne K (.ref a.c_NoName) (.ref a.c_NoLine)=some false
 ko_NoName_NoMatch:PySem.W.kitOne K (.ref a.c_NoName) (.ref a.c_NoMatch)=some false
 ko_NoName_NoName:PySem.W.kitOne K (.ref a.c_NoName) (.ref a.c_NoName)=some true
 ko_NoName_NoSize:PySem.W.kitOne K (.ref a.c_NoName) (.ref a.c_NoSize)=some false
 ko_NoName_NoText:PySem.W.kitOne K (.ref a.c_NoName) (.ref a.c_NoText)=some false
 ko_NoName_NoTie:PySem.W.kitOne K (.ref a.c_NoName) (.ref a.c_NoTie)=some false
 xk_FoldError:PySem.W.ktsIn K a.c_FoldError "BaseException" = true
 xk_NoLine:PySem.W.ktsIn K a.c_NoLine "BaseException" = true
 xk_NoName:PySem.W.ktsIn K a.c_NoName "BaseException" = true
 gx_KEPT_WORDS:∃ u,mg "KEPT_WORDS" = some u∧RelV (gv_KEPT_WORDS a) u
 gs_KEPT_WORDS:∀ H,SqT K H a.g_KEPT_WORDS gl_KEPT_WORDS
 gx_LETTERS:∃ u,mg "LETTERS" = some u∧RelV (gv_LETTERS a) u
 gx_LONGEST_NAME:∃ u,mg "LONGEST_NAME" = some u∧RelV (gv_LONGEST_NAME a) u
 gx_MOST_INPUTS:∃ u,mg "MOST_INPUTS" = some u∧RelV (gv_MOST_INPUTS a) u
 gx_MOST_OUTPUTS:∃ u,mg "MOST_OUTPUTS" = some u∧RelV (gv_MOST_OUTPUTS a) u
 gx_PART_COUNTS:∃ u,mg "PART_COUNTS" = some u∧RelV (gv_PART_COUNTS a) u
 gm_PART_COUNTS:MDict w K a.g_PART_COUNTS gl_PART_COUNTS
 no_ValueError:mg "ValueError" = none
 no_all:mg "all" = none
 no_dict:mg "dict" = none
 no_int:mg "int" = none
 no_isinstance:mg "isinstance" = none
 no_len:mg "len" = none
 no_list:mg "list" = none
 no_min:mg "min" = none
 no_range:mg "range" = none
 no_set:mg "set" = none
 no_str:mg "str" = none
 no_tuple:mg "tuple" = none
seal PE PT PS PSs PA PG PGs PI PO PW PTs PPs PK PC PSet PIp OpR UnR CallR IxR SlR MtR MtM tMid
local macro_rules | `(tactic| walk_at "go")=>`(tactic| try simp only [tSeq,tAsg,gName,gTup,gCons,gNil,gSub,tOp,tC,cVar,cI2,cI2c,cAdd,cMul,cEq,cNe,cIn,cBool,cTst,cTru,cChain,tRet,tWhile,tDrop,tIfS,tCall,tCons,tNil,tNext,tCB,cLen,cInt,cIsinst,cMin,cAll,tNot,tOr,tAnd,cOrV,tUn,cNeg,tFor_list,tFor_tup,tFor_rng1,tFor_str,tComp_list,tComp_tup,tComp_rng1,tComp_str,cRef,cInt1,cIx,tSl,cSlU,cPart,tNoPart,tVals,tLst_n,tTup_n,tDispC_n,cList_n,cTuple_n,tDGet2,tDIn,tDNotIn,sDPut,tBM,tBM0,tMake,tFld,sFld,rFind,tyV,cLenSet,tMNotIn,tMGet,cAddA,tFS,fVal,fNil,tRaise,tTry,tHd,tAs,tNoH,tCallX,cIsX,cDictP,rIndexS,rSplit,rJoin,List.append_nil,List.cons_append,List.nil_append,List.getElem?_cons_zero,List.getElem?_cons_succ,List.set_cons_zero,List.set_cons_succ,decide_eq_true_eq,if_true,if_false,Bool.false_eq_true,eq_self,decide_true,decide_false,Bool.not_true,Bool.not_false,Bool.not_eq_true',decide_eq_false_iff_not,Bool.and_true,Bool.true_and])
local macro_rules | `(tactic| walk_at "sd")=>`(tactic| first | exact And.intro (by decide) (by decide) | decide | omega | exact Or.inl (And.intro (by omega) (by omega)) | exact Or.inr (And.intro (by omega) (by omega)) | exact And.intro (by omega) (And.intro (by omega) (by decide)) | exact And.intro (by omega) (by omega))
local macro_rules | `(tactic| walk_at "gs")=>`(tactic| (walk_at "go";repeat (first | (refine And.intro (by walk_at "sd") ?_;walk_at "go"))))
local macro_rules | `(tactic| walk_at "o")=>`(tactic| first | exact Or.inl rfl | exact Or.inr rfl)
variable {P:Program}{w:World}{K:PySem.W.Frag}{mg:Str→Option Value}{base:Heap}{a:Adr}
def lettersS:Str:="abcdefghijklmnopqrstuvwxyz"
def nearV:List V:=[.str "in",.str "out",.str "is",.str "and",.str "or",.str "either",.str "not",.str "choose",.str "most",.str "yes",.str "no"]
def nearStr:List Str:=["in","out","is","and","or","either","not","choose","most","yes","no"]
theorem letters_cps:lettersS.cps.toList=(List.range 26).map (97 + ·):=by decide +kernel
theorem letters_at {i:Int} (h0:0≤i) (h1:i<26):atI lettersS.cps.toList i=some (97+i.toNat):=by
 rw [letters_cps,atI_map 0 h0 (by rw [List.length_range];exact h1)]
 congr 2
 have:i.toNat<26:=by omega
 simp [List.getD,this]
theorem find_letter {c:Nat} (h:NM.okc c):Txt.find lettersS ⟨#[c]⟩=((c - 97:Nat):Int):=by
 have k:∀ k,k<26→Txt.find lettersS ⟨#[97+k]⟩=(k:Int):=by decide +kernel
 have:=k (c - 97) (by have:=h.2;omega)
 rw [show 97+(c - 97)=c by have:=h.1;omega] at this
 exact this
theorem size_big:(1000:Nat)≤sizeLine:=by decide
def sp_law_cell_at (K:PySem.W.Frag):Sp:=fun vs H Q _=>∃ (p:Addr) (ns:List Int) (k:Int),vs=[.ref p,.int k]∧SqL K H p (ns.map V.int)∧0≤k∧∀ c:Int,Q (.int c) H
def sp_law_letters (_:PySem.W.Frag):Sp:=fun vs H Q _=>∃ (c:Int) (n:Nat),vs=[.int c,.int n]∧n≤100∧∀ z:Str,z.length=n→(∀ d∈z.cps.toList,NM.okc d)→Q (.str z) H
def sp_law_next (_:PySem.W.Frag):Sp:=fun vs H Q _=>∃ z:Str,vs=[.str z]∧NM.Nm z.cps.toList∧∀ y:Str,y.cps.toList=NM.nextL z.cps.toList→Q (.str y) H
def sp_law_one_name (_:PySem.W.Frag):Sp:=fun vs H Q _=>∃ (k c:Int),vs=[.int k,.int c]∧0≤k∧k≤1000∧∀ (z:Str) H',NM.Nm z.cps.toList→Same H H'→Q (.str z) H'
def sp_law_all_names (_:PySem.W.Frag):Sp:=fun vs H Q _=>∃ (n:Nat) (c:Int),vs=[.int n,.int c]∧n≤200∧∀ (ns:List Str) p H',ns.length=n→ns.Nodup→(∀ z∈ns,NM.Nm z.cps.toList∧inV (.str z) nearV=false)→Same H H'→H p=none→H' p=some (.lst (ns.map V.str))→Q (.ref p) H'
def rd_law_cell_at (K:PySem.W.Frag):TS:=(tSeq (tIfS (cTst (tOp (cI2 fun i j=>.bl (decide (i<j))) (cVar 1) (tCB (cLen K) (tCons (cVar 0) tNil)))) (tRet (tOp (cIx K) (cVar 0) (cVar 1))) tNext)
  (tRet (tC (.int 0))))
theorem tm_law_cell_at (T:Txt w K mg a) {cdv:Value}{A:Around}{outer:List Env}{s:Shared}{H:Hp}{E:XK} (hr:Room 0 (A.deeper (envOfC "_law_cell_at" (defScope s_law_cell_at) s.heap.objs.size a.f_law_cell_at cdv))) :
  PSs (cxOf CX0 P w K mg base N_law_cell_at "_law_cell_at" (defScope s_law_cell_at) a.f_law_cell_at cdv A outer s H E).nox (defBody s_law_cell_at) (rd_law_cell_at K) :=
 (pss_cons (ps_if (t_cmp o_lt (cv 1) (pe_callB c_len (by rfl) T.no_len PySem.boot_len (pa_cons (cv 0) pa_nil)) (nomark _)) (pss_one (ps_ret (pe_ix i_seq (cv 0) (cv 1) (fun _ _=>rfl)))) pss_nil)
   (pss_one (ps_ret pe_int)))
theorem ok_law_cell_at (T:Txt w K mg a):FnOk P w K mg base CX0 1 a.f_law_cell_at a.d_law_cell_at ["_law_script","_law_k"] (sp_law_cell_at K):=by
 refine T.fn_law_cell_at.ok sc_law_cell_at (fun vs H Q E h=>?_) (fun cdv A outer s H vs Q E hr h=>⟨_,tm_law_cell_at T hr,?_⟩)
 ·obtain ⟨p,ns,k,rfl,_⟩:=h;rfl
 ·obtain ⟨p,ns,k,rfl,hS,hk,q⟩:=h
  show rd_law_cell_at K _ [some (.ref p),some (.int k)] H
  unfold rd_law_cell_at
  walk_at "go"
  refine .inl ⟨_,.inl hS,?_⟩
  rw [List.length_map]
  by_cases hlt:k<ns.length
  ·rw [if_pos hlt]
   exact ixI hS hk hlt (q _)
  ·rw [if_neg hlt]
   exact q 0
def rd_law_letters (K:PySem.W.Frag):TS:=(tSeq (tAsg (tC (.str "abcdefghijklmnopqrstuvwxyz")) (gName 2))
  (tSeq (tAsg (tC (.str "")) (gName 3))
  (tSeq (tAsg (tOp (cI2c (fun _ j=>0<j) fun i j=>.int (i % j)) (cVar 0) (tC (.int 2147483647))) (gName 4))
  (tSeq (tFor (iRng1 (tCons (cVar 1) tNil)) (gName 5) (tSeq (tAsg (tOp (cI2c (fun _ j=>0<j) fun i j=>.int (i % j)) (tOp cAdd (tOp cMul (cVar 4) (tC (.int 48271))) (tC (.int 7919))) (tC (.int 2147483647))) (gName 4))
  (tAsg (tOp cAdd (cVar 3) (tOp (cIx K) (cVar 2) (tOp (cI2c (fun _ j=>0<j) fun i j=>.int (i % j)) (tOp (cI2c CDiv fun i j=>.int (i / j)) (cVar 4) (tC (.int 64))) (tC (.int 26))))) (gName 3))))
  (tRet (cVar 3))))))
theorem tm_law_letters (T:Txt w K mg a) {cdv:Value}{A:Around}{outer:List Env}{s:Shared}{H:Hp}{E:XK} (hr:Room 0 (A.deeper (envOfC "_law_letters" (defScope s_law_letters) s.heap.objs.size a.f_law_letters cdv))) :
  PSs (cxOf CX0 P w K mg base N_law_letters "_law_letters" (defScope s_law_letters) a.f_law_letters cdv A outer s H E).nox (defBody s_law_letters) (rd_law_letters K) :=
 (pss_cons (ps_set (i:=2) sc_law_letters.nd rfl (by walk_at "o") pe_str)
   (pss_cons (ps_set (i:=3) sc_law_letters.nd rfl (by walk_at "o") pe_str)
   (pss_cons (ps_set (i:=4) sc_law_letters.nd rfl (by walk_at "o") (pe_op o_mod (cv 0) pe_int))
   (pss_cons (ps_for PassesOwn.never rfl (pi_range1 rfl T.no_range (pa_cons (cv 1) pa_nil)) (pg_name (i:=5) sc_law_letters.nd rfl (by walk_at "o")) (pss_cons (ps_set (i:=4) sc_law_letters.nd rfl (by walk_at "o") (pe_op o_mod (pe_op o_add (pe_op o_mul (cv 4) pe_int) pe_int) pe_int))
   (pss_one (ps_set (i:=3) sc_law_letters.nd rfl (by walk_at "o") (pe_op o_add (cv 3) (pe_ix i_seq (cv 2) (pe_op o_mod (pe_op o_fdiv (cv 4) pe_int) pe_int) (fun _ _=>rfl)))))))
   (pss_one (ps_ret (cv 3)))))))
theorem ok_law_letters (T:Txt w K mg a):FnOk P w K mg base CX0 1 a.f_law_letters a.d_law_letters ["_law_seed","_law_size"] (sp_law_letters K):=by
 refine T.fn_law_letters.ok sc_law_letters (fun vs H Q E h=>?_) (fun cdv A outer s H vs Q E hr h=>⟨_,tm_law_letters T hr,?_⟩)
 ·obtain ⟨c,n,rfl,_⟩:=h;rfl
 ·obtain ⟨c,n,rfl,hn,q⟩:=h
  show rd_law_letters K _ [some (.int c),some (.int n),none,none,none,none] H
  unfold rd_law_letters
  walk_at "go"
  refine ⟨by decide,by omega,by omega,?_⟩
  rw [Int.toNat_natCast]
  refine for_rngG (fun i σ H2=>H2=H∧∃ (z:Str) (st:Int) (v:Option V),z.length=i∧(∀ d∈z.cps.toList,NM.okc d)∧σ=[some (.int c),some (.int n),some (.str lettersS),some (.str z),some (.int st),v]) ⟨rfl,"",_,none,rfl,by intro d hd;exact absurd hd (by decide +kernel +revert),rfl⟩ ?_ ?_
  ·rintro i σ H2 hi ⟨rfl,z,st,v,hz,hok,rfl⟩
   walk_at "go"
   have hd:=letters_at (i:=(st * 48271+7919) % 2147483647 / 64 % 26) (by omega) (by omega)
   refine ⟨.inr ⟨by decide,by decide⟩,by decide,⟨by decide,by decide⟩,by decide,by decide,_,hd,?_,trivial,z ++ ⟨#[_]⟩,_,_,?_,?_,rfl⟩
   ·show z.length+1≤sizeLine
    have:=size_big
    omega
   ·rw [PySem.Str.length_append,hz];rfl
   ·intro d hd'
    rw [cps_app] at hd'
    rcases List.mem_append.mp hd' with e | e
    ·exact hok d e
    ·have e':d=97+((st * 48271+7919) % 2147483647 / 64 % 26).toNat:=by simpa using e
     subst e'
     exact ⟨by omega,by omega⟩
  ·rintro σ H2 ⟨rfl,z,st,v,hz,hok,rfl⟩
   walk_at "go"
   exact q z hz hok
theorem one_z (c:Nat):((⟨#[c]⟩:Str) = "z") ↔ c=122:=by
 constructor
 ·intro e
  have:(⟨#[c]⟩:Str).cps.toList=(Str.ofString "z").cps.toList:=by rw [e]
  have h2:(Str.ofString "z").cps.toList=[122]:=by decide +kernel
  rw [h2] at this
  simpa using this
 ·intro e
  subst e
  decide +kernel
def rd_law_next (K:PySem.W.Frag):TS:=(tSeq (tAsg (tC (.str "abcdefghijklmnopqrstuvwxyz")) (gName 1))
  (tSeq (tAsg (tOp (cI2 fun i j=>.int (i - j)) (tCB (cLen K) (tCons (cVar 0) tNil)) (tC (.int 1))) (gName 2))
  (tSeq (tWhile (tAnd (cTst (tOp (cI2 fun i j=>.bl (decide (j≤i))) (cVar 2) (tC (.int 0)))) (cTst (tOp (cEq K) (tOp (cIx K) (cVar 0) (cVar 2)) (tC (.str "z"))))) (tAsg (tOp (cI2 fun i j=>.int (i - j)) (cVar 2) (tC (.int 1))) (gName 2)))
  (tSeq (tIfS (cTst (tOp (cI2 fun i j=>.bl (decide (i<j))) (cVar 2) (tC (.int 0)))) (tRet (tOp cMul (tC (.str "a")) (tOp cAdd (tOp (cI2c (fun _ j=>0<j) fun i j=>.int (i % j)) (tCB (cLen K) (tCons (cVar 0) tNil)) (tC (.int 8))) (tC (.int 1))))) tNext)
  (tSeq (tAsg (tOp (cIx K) (cVar 1) (tOp cAdd (tBM K "str" rFind (cVar 1) (tCons (tOp (cIx K) (cVar 0) (cVar 2)) tNil)) (tC (.int 1)))) (gName 3))
  (tRet (tOp cAdd (tOp cAdd (tSl (cSlU K) (cVar 0) tNoPart (cPart (cVar 2))) (cVar 3)) (tOp cMul (tC (.str "a")) (tOp (cI2 fun i j=>.int (i - j)) (tOp (cI2 fun i j=>.int (i - j)) (tCB (cLen K) (tCons (cVar 0) tNil)) (tC (.int 1))) (cVar 2))))))))))
theorem tm_law_next (T:Txt w K mg a) {cdv:Value}{A:Around}{outer:List Env}{s:Shared}{H:Hp}{E:XK} (hr:Room 0 (A.deeper (envOfC "_law_next" (defScope s_law_next) s.heap.objs.size a.f_law_next cdv))) :
  PSs (cxOf CX0 P w K mg base N_law_next "_law_next" (defScope s_law_next) a.f_law_next cdv A outer s H E).nox (defBody s_law_next) (rd_law_next K) :=
 (pss_cons (ps_set (i:=1) sc_law_next.nd rfl (by walk_at "o") pe_str)
   (pss_cons (ps_set (i:=2) sc_law_next.nd rfl (by walk_at "o") (pe_op o_sub (pe_callB c_len (by rfl) T.no_len PySem.boot_len (pa_cons (cv 0) pa_nil)) pe_int))
   (pss_cons (ps_while PassesOwn.never (PW.pt (pw_and (t_cmp o_ge (cv 2) pe_int (nomark _)) (pw_and1 (t_cmp (o_eq (hr8 hr)) (pe_ix i_seq (cv 0) (cv 2) (fun _ _=>rfl)) pe_str (nomark _))))) (pss_one (ps_set (i:=2) sc_law_next.nd rfl (by walk_at "o") (pe_op o_sub (cv 2) pe_int))))
   (pss_cons (ps_if (t_cmp o_lt (cv 2) pe_int (nomark _)) (pss_one (ps_ret (pe_op o_mul pe_str (pe_op o_add (pe_op o_mod (pe_callB c_len (by rfl) T.no_len PySem.boot_len (pa_cons (cv 0) pa_nil)) pe_int) pe_int)))) pss_nil)
   (pss_cons (ps_set (i:=3) sc_law_next.nd rfl (by walk_at "o") (pe_ix i_seq (cv 1) (pe_op o_add (pe_bm PySem.F.plainAttrs_str PySem.F.slot_str_find PySem.F.type_str_find mt_find (cv 1) (pa_cons (pe_ix i_seq (cv 0) (cv 2) (fun _ _=>rfl)) pa_nil)) pe_int) (fun _ _=>rfl)))
   (pss_one (ps_ret (pe_op o_add (pe_op o_add (pe_slice s_u (cv 0) po_none (e_part (cv 2))) (cv 3)) (pe_op o_mul pe_str (pe_op o_sub (pe_op o_sub (pe_callB c_len (by rfl) T.no_len PySem.boot_len (pa_cons (cv 0) pa_nil)) pe_int) (cv 2)))))))))))
theorem ok_law_next (T:Txt w K mg a):FnOk P w K mg base CX0 1 a.f_law_next a.d_law_next ["_law_name"] (sp_law_next K):=by
 refine T.fn_law_next.ok sc_law_next (fun vs H Q E h=>?_) (fun cdv A outer s H vs Q E hr h=>⟨_,tm_law_next T hr,?_⟩)
 ·obtain ⟨z,rfl,_⟩:=h;rfl
 ·obtain ⟨z,rfl,hz,q⟩:=h
  show rd_law_next K _ [some (.str z),none,none,none] H
  unfold rd_law_next
  have hlen:=len_cps z
  have hle:=hz.le
  have hpos:=hz.pos
  have hsz:z.length≤sizeLine:=Nat.le_trans (by omega) size_big
  walk_at "go"
  refine ⟨hsz,?_⟩
  refine ⟨fun m σ H2=>H2=H∧∃ p:List Nat,m=p.length∧z.cps.toList=p ++ List.replicate (z.length - p.length) 122∧p.length≤z.length∧σ=[some (.str z),some (.str lettersS),some (.int ((p.length:Int) - 1)),none],⟨z.length,rfl,z.cps.toList,by rw [hlen],by rw [hlen];simp,by omega,by rw [hlen];rfl⟩,?_⟩
  rintro m σ H2 ⟨rfl,p,rfl,hp,hpl,rfl⟩
  walk_at "go"
  by_cases h0:(0:Int)≤(p.length:Int) - 1
  ·rw [if_pos h0]
   obtain ⟨p',c,rfl⟩:∃ p' c,p=p' ++ [c]:=⟨p.dropLast,p.getLast (by intro e;subst e;simp at h0),(List.dropLast_concat_getLast _).symm⟩
   have hpl':p'.length+1≤z.length:=by simpa using hpl
   have hi:((p' ++ [c]).length:Int) - 1=(p'.length:Int):=by simp
   have hcz:z.cps.toList=p' ++ c :: List.replicate (z.length - (p'.length+1)) 122:=by rw [hp];simp
   have hat:atI z.cps.toList (p'.length:Int)=some c:=by
    refine atI_nat ?_
    rw [hcz]
    simp
   have hokc:NM.okc c:=hz.ok c (by rw [hcz];simp)
   rw [hi]
   refine ⟨hsz,c,hat,?_⟩
   by_cases hc:c=122
   ·have hc':((⟨#[c]⟩:Str) = "z"):=(one_z c).mpr hc
    rw [if_pos hc']
    refine ⟨fun σ' H'=>H'=H2∧σ'=[some (.str z),some (.str lettersS),some (.int ((p'.length:Int) - 1)),none],?_,?_⟩
    ·rintro σ' H' ⟨rfl,rfl⟩
     refine ⟨p'.length,by simp,rfl,p',rfl,?_,by omega,rfl⟩
     rw [hcz,hc]
     have e:z.length - p'.length=(z.length - (p'.length+1))+1:=by omega
     rw [e,List.replicate_succ]
    ·walk_at "go"
     exact ⟨trivial,trivial⟩
   ·have hc':¬ ((⟨#[c]⟩:Str) = "z"):=fun e=>hc ((one_z c).mp e)
    rw [if_neg hc']
    walk_at "go"
    rw [if_neg (by omega)]
    have hf:=find_letter hokc
    refine ⟨trivial,hsz,c,hat,?_⟩
    rw [hf]
    have h1:=hokc.1
    have h2:=hokc.2
    refine ⟨by decide,_,letters_at (i:=((c - 97:Nat):Int)+1) (by omega) (by omega),?_⟩
    have l1:=Txt.slice_le z none (some (p'.length:Int))
    have lm:(Txt.mul "a" ((z.length:Int) - 1 - (p'.length:Int))).length=z.length - 1 - p'.length:=by
     rw [← len_cps,mul_a,List.length_replicate];omega
    have big:=size_big
    refine ⟨hsz,by show _+1≤sizeLine;omega,hsz,mulOk_a (by omega) (by omega),?_,?_⟩
    ·rw [PySem.Str.length_append]
     show _+1+(Txt.mul "a" _).length≤sizeLine
     rw [lm];omega
    ·refine q _ ?_
     rw [hcz,NM.nextL_at p' c _ hc,cps_app,cps_app,slice_to (by omega) (by omega),mul_a]
     have et:(((c - 97:Nat):Int)+1).toNat=c - 97+1:=by omega
     have e2:97+(c - 97+1)=c+1:=by omega
     have e3:((z.length:Int) - 1 - (p'.length:Int)).toNat=z.length - (p'.length+1):=by omega
     rw [hcz,et,e2,e3,Int.toNat_natCast]
     unfold NM.nx
     simp
  ·rw [if_neg h0]
   have hp0:p=[]:=by
    cases p with
    | nil=>rfl
    | cons a r=>simp at h0
   subst hp0
   walk_at "go"
   rw [if_pos (by decide)]
   refine ⟨hsz,by decide,mulOk_a (by omega) (by omega),q _ ?_⟩
   rw [mul_a]
   have e:z.cps.toList=List.replicate z.length 122:=by simpa using hp
   rw [e,NM.nextL_all]
   congr 1
def rd_law_one_name (K:PySem.W.Frag):TS:=(tSeq (tAsg (tC (.str "abcdefghijklmnopqrstuvwxyz")) (gName 2))
  (tSeq (tAsg (tOp cAdd (tC (.int 1)) (tOp (cI2c (fun _ j=>0<j) fun i j=>.int (i % j)) (tOp (cI2c CDiv fun i j=>.int (i / j)) (cVar 1) (tC (.int 4))) (tC (.int 8)))) (gName 3))
  (tSeq (tAsg (tCall (sp_law_letters K) [] E0 (tCons (cVar 1) (tCons (tC (.int 8)) tNil))) (gName 4))
  (tSeq (tIfS (cTst (tOp (cEq K) (tOp (cI2c (fun _ j=>0<j) fun i j=>.int (i % j)) (cVar 1) (tC (.int 4))) (tC (.int 0)))) (tSeq (tAsg (tOp (cI2c (fun _ j=>0<j) fun i j=>.int (i % j)) (tOp cAdd (tOp (cI2c CDiv fun i j=>.int (i / j)) (cVar 1) (tC (.int 32))) (tOp cMul (cVar 0) (tOp cAdd (tC (.int 1)) (tOp cMul (tC (.int 2)) (tOp (cI2c (fun _ j=>0<j) fun i j=>.int (i % j)) (tOp (cI2c CDiv fun i j=>.int (i / j)) (cVar 1) (tC (.int 64))) (tC (.int 6))))))) (tC (.int 676))) (gName 5))
  (tSeq (tAsg (tOp (cI2c (fun _ j=>0<j) fun i j=>.int (i % j)) (tOp (cI2c CDiv fun i j=>.int (i / j)) (cVar 1) (tC (.int 4))) (tC (.int 7))) (gName 6))
  (tSeq (tAsg (tOp cAdd (tOp (cIx K) (cVar 2) (tOp (cI2c CDiv fun i j=>.int (i / j)) (cVar 5) (tC (.int 26)))) (tOp (cIx K) (cVar 2) (tOp (cI2c (fun _ j=>0<j) fun i j=>.int (i % j)) (cVar 5) (tC (.int 26))))) (gName 7))
  (tRet (tOp cAdd (tOp cAdd (tSl (cSlU K) (cVar 4) tNoPart (cPart (cVar 6))) (cVar 7)) (tSl (cSlU K) (cVar 4) (cPart (tOp cAdd (cVar 6) (tC (.int 2)))) tNoPart)))))) tNext)
  (tSeq (tIfS (cTst (tOp (cEq K) (tOp (cI2c (fun _ j=>0<j) fun i j=>.int (i % j)) (cVar 1) (tC (.int 4))) (tC (.int 1)))) (tRet (tCall (sp_law_letters K) [] E0 (tCons (tOp cAdd (cVar 1) (tOp cMul (tC (.int 7919)) (cVar 0))) (tCons (tOp cAdd (tC (.int 1)) (tOp (cI2c (fun _ j=>0<j) fun i j=>.int (i % j)) (tOp cAdd (cVar 3) (tOp cMul (tC (.int 3)) (cVar 0))) (tC (.int 8)))) tNil)))) tNext)
  (tSeq (tIfS (cTst (tOp (cEq K) (tOp (cI2c (fun _ j=>0<j) fun i j=>.int (i % j)) (cVar 1) (tC (.int 4))) (tC (.int 2)))) (tRet (tSl (cSlU K) (cVar 4) tNoPart (cPart (tOp cAdd (tC (.int 1)) (tOp (cI2c (fun _ j=>0<j) fun i j=>.int (i % j)) (tOp cAdd (cVar 3) (cVar 0)) (tC (.int 8))))))) tNext)
  (tSeq (tAsg (tLst (tVals [(.str "in"),(.str "out"),(.str "is"),(.str "and"),(.str "or"),(.str "either"),(.str "not"),(.str "choose"),(.str "most"),(.str "yes"),(.str "no")])) (gName 8))
  (tRet (tOp cAdd (tOp (cIx K) (cVar 8) (tOp (cI2c (fun _ j=>0<j) fun i j=>.int (i % j)) (tOp cAdd (cVar 3) (cVar 0)) (tC (.int 11)))) (tOp (cIx K) (cVar 4) (tOp (cI2c (fun _ j=>0<j) fun i j=>.int (i % j)) (cVar 0) (tC (.int 8)))))))))))))
theorem tm_law_one_name (T:Txt w K mg a) {cdv:Value}{A:Around}{outer:List Env}{s:Shared}{H:Hp}{E:XK} (hr:Room 1 (A.deeper (envOfC "_law_one_name" (defScope s_law_one_name) s.heap.objs.size a.f_law_one_name cdv))) :
  PSs (cxOf CX0 P w K mg base N_law_one_name "_law_one_name" (defScope s_law_one_name) a.f_law_one_name cdv A outer s H E).nox (defBody s_law_one_name) (rd_law_one_name K) :=
 (pss_cons (ps_set (i:=2) sc_law_one_name.nd rfl (by walk_at "o") pe_str)
   (pss_cons (ps_set (i:=3) sc_law_one_name.nd rfl (by walk_at "o") (pe_op o_add pe_int (pe_op o_mod (pe_op o_fdiv (cv 1) pe_int) pe_int)))
   (pss_cons (ps_set (i:=4) sc_law_one_name.nd rfl (by walk_at "o") (pe_call (ok_law_letters T) (hr.mono (by decide)) rfl T.mg_law_letters T.fn_law_letters.kp T.bi_law_letters .nil pass0 (pa_cons (cv 1) (pa_cons pe_int pa_nil))))
   (pss_cons (ps_if (t_cmp (o_eq (hr8 hr)) (pe_op o_mod (cv 1) pe_int) pe_int (nomark _)) (pss_cons (ps_set (i:=5) sc_law_one_name.nd rfl (by walk_at "o") (pe_op o_mod (pe_op o_add (pe_op o_fdiv (cv 1) pe_int) (pe_op o_mul (cv 0) (pe_op o_add pe_int (pe_op o_mul pe_int (pe_op o_mod (pe_op o_fdiv (cv 1) pe_int) pe_int))))) pe_int))
   (pss_cons (ps_set (i:=6) sc_law_one_name.nd rfl (by walk_at "o") (pe_op o_mod (pe_op o_fdiv (cv 1) pe_int) pe_int))
   (pss_cons (ps_set (i:=7) sc_law_one_name.nd rfl (by walk_at "o") (pe_op o_add (pe_ix i_seq (cv 2) (pe_op o_fdiv (cv 5) pe_int) (fun _ _=>rfl)) (pe_ix i_seq (cv 2) (pe_op o_mod (cv 5) pe_int) (fun _ _=>rfl))))
   (pss_one (ps_ret (pe_op o_add (pe_op o_add (pe_slice s_u (cv 4) po_none (e_part (cv 6))) (cv 7)) (pe_slice s_u (cv 4) (e_part (pe_op o_add (cv 6) pe_int)) po_none))))))) pss_nil)
   (pss_cons (ps_if (t_cmp (o_eq (hr8 hr)) (pe_op o_mod (cv 1) pe_int) pe_int (nomark _)) (pss_one (ps_ret (pe_call (ok_law_letters T) (hr.mono (by decide)) rfl T.mg_law_letters T.fn_law_letters.kp T.bi_law_letters .nil pass0 (pa_cons (pe_op o_add (cv 1) (pe_op o_mul pe_int (cv 0))) (pa_cons (pe_op o_add pe_int (pe_op o_mod (pe_op o_add (cv 3) (pe_op o_mul pe_int (cv 0))) pe_int)) pa_nil))))) pss_nil)
   (pss_cons (ps_if (t_cmp (o_eq (hr8 hr)) (pe_op o_mod (cv 1) pe_int) pe_int (nomark _)) (pss_one (ps_ret (pe_slice s_u (cv 4) po_none (e_part (pe_op o_add pe_int (pe_op o_mod (pe_op o_add (cv 3) (cv 0)) pe_int)))))) pss_nil)
   (pss_cons (ps_set (i:=8) sc_law_one_name.nd rfl (by walk_at "o") (pe_lst (pa_consts (vs:=[(.str "in"),(.str "out"),(.str "is"),(.str "and"),(.str "or"),(.str "either"),(.str "not"),(.str "choose"),(.str "most"),(.str "yes"),(.str "no")]) rfl)))
   (pss_one (ps_ret (pe_op o_add (pe_ix i_seq (cv 8) (pe_op o_mod (pe_op o_add (cv 3) (cv 0)) pe_int) (fun _ _=>rfl)) (pe_ix i_seq (cv 4) (pe_op o_mod (cv 0) pe_int) (fun _ _=>rfl))))))))))))
theorem ok_law_one_name (T:Txt w K mg a):FnOk P w K mg base CX0 2 a.f_law_one_name a.d_law_one_name ["_law_k","_law_cell"] (sp_law_one_name K):=by
 refine T.fn_law_one_name.ok sc_law_one_name (fun vs H Q E h=>?_) (fun cdv A outer s H vs Q E hr h=>⟨_,tm_law_one_name T hr,?_⟩)
 ·obtain ⟨k,c,rfl,_⟩:=h;rfl
 ·obtain ⟨k,c,rfl,hk0,hk1,q⟩:=h
  show rd_law_one_name K _ [some (.int k),some (.int c),none,none,none,none,none,none,none] H
  unfold rd_law_one_name
  walk_at "gs"
  refine ⟨c,8,rfl,by decide,fun w8 hw8 hok8=>?_⟩
  walk_at "gs"
  have hl8:=len_cps w8
  have hbig:=size_big
  have hsz:w8.length≤sizeLine:=by omega
  have mk:∀ {z:Str},1≤z.length→z.length≤8→(∀ d∈z.cps.toList,NM.okc d)→NM.Nm z.cps.toList:=fun h1 h2 h3=>⟨by rw [len_cps];exact h1,by rw [len_cps];exact h2,h3⟩
  have okl:∀ (i:Int),0≤i→i<26→NM.okc (97+i.toNat):=fun i h0 h1=>⟨by omega,by omega⟩
  have one:∀ d:Nat,(⟨#[d]⟩:Str).length=1:=fun d=>rfl
  have onec:∀ d:Nat,(⟨#[d]⟩:Str).cps.toList=[d]:=fun d=>rfl
  by_cases h0:c % 4=0
  ·rw [if_pos h0]
   walk_at "gs"
   have k0:=Int.emod_nonneg (c / 32+k * (1+2 * (c / 64 % 6))) (show (676:Int)≠0 by decide)
   have k1:=Int.emod_lt_of_pos (c / 32+k * (1+2 * (c / 64 % 6))) (show (0:Int)<676 by decide)
   generalize (c / 32+k * (1+2 * (c / 64 % 6))) % 676=code at k0 k1
   refine ⟨_,letters_at (i:=code / 26) (by omega) (by omega),?_⟩
   walk_at "gs"
   refine ⟨_,letters_at (i:=code % 26) (by omega) (by omega),?_⟩
   have l1:=slice_to (z:=w8) (j:=c / 4 % 7) (by omega) (by omega)
   have l2:=slice_from (z:=w8) (i:=c / 4 % 7+2) (by omega) (by omega)
   have m1:(Txt.slice w8 none (some (c / 4 % 7))).length=(c / 4 % 7).toNat:=by
    rw [← len_cps,l1,List.length_take,hl8,hw8];omega
   have m2:(Txt.slice w8 (some (c / 4 % 7+2)) none).length=8 - (c / 4 % 7+2).toNat:=by
    rw [← len_cps,l2,List.length_drop,hl8,hw8]
   refine ⟨by rw [one,one];omega,hsz,?_,hsz,?_,q _ _ (mk ?_ ?_ ?_) (Same.refl _)⟩
   ·rw [PySem.Str.length_append,one,one,m1];omega
   ·rw [PySem.Str.length_append,PySem.Str.length_append,one,one,m1,m2];omega
   ·rw [PySem.Str.length_append,PySem.Str.length_append,PySem.Str.length_append,one,one,m1,m2];omega
   ·rw [PySem.Str.length_append,PySem.Str.length_append,PySem.Str.length_append,one,one,m1,m2];omega
   ·intro d hd
    rw [cps_app,cps_app,cps_app,l1,l2,onec,onec] at hd
    rcases List.mem_append.mp hd with e | e
    ·rcases List.mem_append.mp e with e | e
     ·exact hok8 d (List.mem_of_mem_take e)
     ·rcases List.mem_append.mp e with e | e
      ·rw [List.mem_singleton.mp e];exact okl _ (by omega) (by omega)
      ·rw [List.mem_singleton.mp e];exact okl _ (by omega) (by omega)
    ·exact hok8 d (List.mem_of_mem_drop e)
  rw [if_neg h0]
  walk_at "gs"
  by_cases h1:c % 4=1
  ·rw [if_pos h1]
   walk_at "gs"
   obtain ⟨n,hn⟩:=Int.eq_ofNat_of_zero_le (by omega:0≤1+(1+c / 4 % 8+3 * k) % 8)
   rw [hn]
   refine ⟨_,n,rfl,by omega,fun z hz hok=>q z H (mk (by omega) (by omega) hok) (Same.refl _)⟩
  rw [if_neg h1]
  walk_at "gs"
  by_cases h2:c % 4=2
  ·rw [if_pos h2]
   walk_at "gs"
   have l1:=slice_to (z:=w8) (j:=1+(1+c / 4 % 8+k) % 8) (by omega) (by omega)
   have m1:(Txt.slice w8 none (some (1+(1+c / 4 % 8+k) % 8))).length=(1+(1+c / 4 % 8+k) % 8).toNat:=by
    rw [← len_cps,l1,List.length_take,hl8,hw8];omega
   refine q _ _ (mk (by omega) (by omega) ?_) (Same.refl _)
   intro d hd
   rw [l1] at hd
   exact hok8 d (List.mem_of_mem_take hd)
  rw [if_neg h2]
  walk_at "gs"
  intro r H1 n1
  walk_at "gs"
  obtain ⟨wd,hwd,hwl,hwok⟩:∃ wd:Str,atI nearV ((1+c / 4 % 8+k) % 11)=some (.str wd)∧(1≤wd.length∧wd.length≤6)∧∀ d∈wd.cps.toList,NM.okc d:=by
   have hc:=Int.emod_nonneg (1+c / 4 % 8+k) (show (11:Int)≠0 by decide)
   have hc2:=Int.emod_lt_of_pos (1+c / 4 % 8+k) (show (0:Int)<11 by decide)
   generalize (1+c / 4 % 8+k) % 11=i at hc hc2
   have hi:i=0∨i=1∨i=2∨i=3∨i=4∨i=5∨i=6∨i=7∨i=8∨i=9∨i=10:=by omega
   unfold NM.okc
   rcases hi with e | e | e | e | e | e | e | e | e | e | e <;> rw [e] <;> exact ⟨_,rfl,by decide +kernel,by decide +kernel⟩
  refine ⟨_,_,.inl n1.sq,hwd,?_⟩
  walk_at "gs"
  obtain ⟨d,hd⟩:∃ d,atI w8.cps.toList (k % 8)=some d:=⟨_,atI_ok 0 (by omega) (by omega)⟩
  have hdm:d∈w8.cps.toList:=by
   have:=atI_ok (xs:=w8.cps.toList) (i:=k % 8) 0 (by omega) (by omega)
   rw [hd] at this
   rw [Option.some.inj this]
   have hlt:(k % 8).toNat<w8.cps.toList.length:=by omega
   have e5:w8.cps.toList.getD (k % 8).toNat 0=w8.cps.toList[(k % 8).toNat]:=by simp only [List.getD,List.getElem?_eq_getElem hlt,Option.getD_some]
   rw [e5]
   exact List.getElem_mem _
  refine ⟨d,hd,by rw [one];omega,q _ _ (mk ?_ ?_ ?_) n1.same⟩
  ·rw [PySem.Str.length_append,one];omega
  ·rw [PySem.Str.length_append,one];omega
  ·intro e he
   rw [cps_app,onec] at he
   rcases List.mem_append.mp he with z | z
   ·exact hwok e z
   ·rw [List.mem_singleton.mp z];exact hok8 d hdm
def rd_law_all_names (K:PySem.W.Frag):TS:=(tSeq (tAsg (tLst (tVals [(.str "in"),(.str "out"),(.str "is"),(.str "and"),(.str "or"),(.str "either"),(.str "not"),(.str "choose"),(.str "most"),(.str "yes"),(.str "no")])) (gName 2))
  (tSeq (tAsg (tLst tNil) (gName 3))
  (tSeq (tFor (iRng1 (tCons (cVar 0) tNil)) (gName 4) (tSeq (tAsg (tCall (sp_law_one_name K) [] E0 (tCons (cVar 4) (tCons (cVar 1) tNil))) (gName 5))
  (tSeq (tWhile (tOr (cTst (tOp (cIn K false) (cVar 5) (cVar 2))) (cTst (tOp (cIn K false) (cVar 5) (cVar 3)))) (tAsg (tCall (sp_law_next K) [] E0 (tCons (cVar 5) tNil)) (gName 5)))
  (tDrop (tBM K "list" rAppend (cVar 3) (tCons (cVar 5) tNil))))))
  (tRet (cVar 3)))))
theorem tm_law_all_names (T:Txt w K mg a) {cdv:Value}{A:Around}{outer:List Env}{s:Shared}{H:Hp}{E:XK} (hr:Room 2 (A.deeper (envOfC "_law_all_names" (defScope s_law_all_names) s.heap.objs.size a.f_law_all_names cdv))) :
  PSs (cxOf CX0 P w K mg base N_law_all_names "_law_all_names" (defScope s_law_all_names) a.f_law_all_names cdv A outer s H E).nox (defBody s_law_all_names) (rd_law_all_names K) :=
 (pss_cons (ps_set (i:=2) sc_law_all_names.nd rfl (by walk_at "o") (pe_lst (pa_consts (vs:=[(.str "in"),(.str "out"),(.str "is"),(.str "and"),(.str "or"),(.str "either"),(.str "not"),(.str "choose"),(.str "most"),(.str "yes"),(.str "no")]) rfl)))
   (pss_cons (ps_set (i:=3) sc_law_all_names.nd rfl (by walk_at "o") (pe_lst pa_nil))
   (pss_cons (ps_for PassesOwn.never rfl (pi_range1 rfl T.no_range (pa_cons (cv 0) pa_nil)) (pg_name (i:=4) sc_law_all_names.nd rfl (by walk_at "o")) (pss_cons (ps_set (i:=5) sc_law_all_names.nd rfl (by walk_at "o") (pe_call (ok_law_one_name T) (hr.mono (by decide)) rfl T.mg_law_one_name T.fn_law_one_name.kp T.bi_law_one_name .nil pass0 (pa_cons (cv 4) (pa_cons (cv 1) pa_nil))))
   (pss_cons (ps_while PassesOwn.never (PW.pt (pw_or (t_cmp o_in (cv 5) (cv 2) (by with_unfolding_all rfl)) (pw_or1 (t_cmp o_in (cv 5) (cv 3) (by with_unfolding_all rfl))))) (pss_one (ps_set (i:=5) sc_law_all_names.nd rfl (by walk_at "o") (pe_call (ok_law_next T) (hr.mono (by decide)) rfl T.mg_law_next T.fn_law_next.kp T.bi_law_next .nil pass0 (pa_cons (cv 5) pa_nil)))))
   (pss_one (ps_expr (pe_bm PySem.F.plainAttrs_list PySem.F.slot_list_append PySem.F.type_list_append (mtr mt_append) (cv 3) (pa_cons (cv 5) pa_nil)))))))
   (pss_one (ps_ret (cv 3))))))
theorem ok_law_all_names (T:Txt w K mg a):FnOk P w K mg base CX0 3 a.f_law_all_names a.d_law_all_names ["_law_count","_law_cell"] (sp_law_all_names K):=by
 refine T.fn_law_all_names.ok sc_law_all_names (fun vs H Q E h=>?_) (fun cdv A outer s H vs Q E hr h=>⟨_,tm_law_all_names T hr,?_⟩)
 ·obtain ⟨n,c,rfl,_⟩:=h;rfl
 ·obtain ⟨n,c,rfl,hn,q⟩:=h
  show rd_law_all_names K _ [some (.int n),some (.int c),none,none,none,none] H
  unfold rd_law_all_names
  have hbig:=size_big
  walk_at "gs"
  intro r1 H1 n1
  walk_at "gs"
  intro r2 H2 n2
  walk_at "gs"
  rw [Int.toNat_natCast]
  have flatS:∀ ss:List Str,(ss.map V.str).all flatV=true:=fun ss=>by
   rw [List.all_eq_true]
   intro x hx
   obtain ⟨y,_,rfl⟩:=List.mem_map.mp hx
   rfl
  have inS:∀ (z:Str) (ss:List Str),inV (.str z) (ss.map V.str)=decide (z∈ss):=fun z ss=>by
   unfold inV
   rw [List.any_map]
   rw [Bool.eq_iff_iff]
   simp only [List.any_eq_true,Function.comp,decide_eq_true_eq]
   constructor
   ·rintro ⟨y,hy,e⟩
    have:y=z:=by simpa [eqV] using e
    exact this ▸ hy
   ·intro hz
    exact ⟨z,hz,by simp [eqV]⟩
  have nearS:nearV=nearStr.map V.str:=rfl
  refine for_rngG (fun i σ H3=>∃ ns:List Str,ns.length=i∧ns.Nodup∧(∀ z∈ns,NM.Nm z.cps.toList∧inV (.str z) nearV=false)∧Same H1 H3∧H3 r2=some (.lst (ns.map V.str))∧∃ v1 v2,σ=[some (.int n),some (.int c),some (.ref r1),some (.ref r2),v1,v2])
   ⟨[],rfl,List.nodup_nil,by simp,n2.same,n2.at_,_,_,rfl⟩ ?_ ?_
  ·rintro i σ H3 hi ⟨ns,hnl,hnd,hnm,s3,at3,v1,v2,rfl⟩
   walk_at "gs"
   refine ⟨_,_,rfl,by omega,by omega,fun z0 H4 hz0 s4=>?_⟩
   walk_at "gs"
   have at4:=s4 _ _ at3
   have near4:SqL K H4 r1 nearV:=(s3.trans s4).seq n1.sq
   obtain ⟨m0,_,hm0⟩:=NM.out_of ((nearStr ++ ns).map fun z:Str=>z.cps.toList) hz0 (by
    rw [List.length_map,List.length_append]
    exact Nat.lt_trans (show _<1000 by rw [hnl];show 11+i<1000;omega) NM.M_big)
   refine ⟨fun m σ' H'=>H'=H4∧∃ z:Str,NM.Nm z.cps.toList∧NM.iter m z.cps.toList ∉ ((nearStr ++ ns).map fun z:Str=>z.cps.toList)∧σ'=[some (.int n),some (.int c),some (.ref r1),some (.ref r2),some (.int (0+(i:Int))),some (.str z)],⟨m0,rfl,z0,hz0,hm0,rfl⟩,?_⟩
   rintro m σ' H' ⟨rfl,z,hz,hm,rfl⟩
   walk_at "gs"
   refine ⟨nearV,.inl near4,rfl,by decide +kernel,?_⟩
   have turn:(z∈nearStr∨z∈ns)→∃ N:L2.St→Hp→Prop,(∀ σ'' H'',N σ'' H''→∃ m',m'<m∧H''=H'∧∃ z:Str,NM.Nm z.cps.toList∧NM.iter m' z.cps.toList ∉ ((nearStr ++ ns).map fun z:Str=>z.cps.toList)∧σ''=[some (.int n),some (.int c),some (.ref r1),some (.ref r2),some (.int (0+(i:Int))),some (.str z)])∧sp_law_next K [.str z] H' (fun v H''=>N [some (.int n),some (.int c),some (.ref r1),some (.ref r2),some (.int (0+(i:Int))),some v] H'') E0:=by
    intro hin
    refine ⟨fun σ'' H''=>H''=H'∧∃ y:Str,y.cps.toList=NM.nextL z.cps.toList∧σ''=[some (.int n),some (.int c),some (.ref r1),some (.ref r2),some (.int (0+(i:Int))),some (.str y)],?_,z,rfl,hz,fun y hy=>⟨rfl,y,hy,rfl⟩⟩
    rintro σ'' H'' ⟨rfl,y,hy,rfl⟩
    cases m with
    | zero =>
     exact absurd (List.mem_map.mpr ⟨z,List.mem_append.mpr hin,rfl⟩) hm
    | succ m =>
     refine ⟨m,Nat.lt_succ_self _,rfl,y,?_,?_,rfl⟩
     ·rw [hy];exact (NM.nextL_nx _).nm hz
     ·rw [hy];exact hm
   rw [nearS,inS]
   by_cases hA:z∈nearStr
   ·rw [if_pos (decide_eq_true hA)]
    walk_at "gs"
    exact turn (.inl hA)
   ·rw [if_neg (by rw [decide_eq_false hA];simp)]
    walk_at "gs"
    refine ⟨_,.inl (.of at4),rfl,flatS _,?_⟩
    rw [inS]
    by_cases hB:z∈ns
    ·rw [if_pos (decide_eq_true hB)]
     walk_at "gs"
     exact turn (.inr hB)
    ·rw [if_neg (by rw [decide_eq_false hB];simp)]
     walk_at "gs"
     refine ⟨.inl ⟨by trivial,_,.of at4⟩,r2,_,_,rfl,rfl,at4,by rw [List.length_map];omega,ns ++ [z],by rw [List.length_append,hnl];rfl,?_,?_,(s3.trans s4).put n2.was,by rw [upd_same,List.map_append];rfl,_,_,rfl⟩
     ·rw [List.nodup_append]
      refine ⟨hnd,by simp,?_⟩
      intro x hx y hy e
      rw [List.mem_singleton.mp hy] at e
      exact hB (e ▸ hx)
     ·intro y hy
      rcases List.mem_append.mp hy with e | e
      ·exact hnm y e
      ·rw [List.mem_singleton.mp e]
       exact ⟨hz,by rw [inS];exact decide_eq_false hA⟩
  ·rintro σ H3 ⟨ns,hnl,hnd,hnm,s3,at3,v1,v2,rfl⟩
   walk_at "gs"
   exact q ns r2 H3 hnl hnd hnm (n1.same.trans s3) (n1.same.free n2.was) at3
abbrev Gt:=ME.Gt Str
def GtsAt (N:Addr→Prop) (K:PySem.W.Frag) (H:Hp) (ts:List V) (gs:List Gt):Prop:=ts.length=gs.length∧∀ (i:Nat) (g:Gt),gs[i]? = some g→∃ t q,ts[i]? = some (.ref t)∧N t∧N q∧SqT K H t [.str g.1,.str g.2.1,.ref q]∧SqL K H q (g.2.2.map V.str)
section
variable {N N':Addr→Prop}{K:PySem.W.Frag}{H H':Hp}{ts:List V}{gs:List Gt}
theorem GtsAt.keep (k:Keep N H H') (h:GtsAt N K H ts gs):GtsAt N K H' ts gs:=⟨h.1,fun i g e=>let ⟨t,q,a,b,c,d,f⟩:=h.2 i g e;⟨t,q,a,b,c,k.tup b d,k.seq c f⟩⟩
theorem GtsAt.same (k:Same H H') (h:GtsAt N K H ts gs):GtsAt N K H' ts gs:=h.keep k.keep
theorem GtsAt.weak (w:∀ b,N b→N' b) (h:GtsAt N K H ts gs):GtsAt N' K H ts gs:=⟨h.1,fun i g e=>let ⟨t,q,a,b,c,d,f⟩:=h.2 i g e;⟨t,q,a,w _ b,w _ c,d,f⟩⟩
theorem GtsAt.nil:GtsAt N K H [] []:=⟨rfl,fun i g e=>by simp at e⟩
theorem GtsAt.snoc (h:GtsAt N K H ts gs) {t q:Addr}{g:Gt} (nt:N t) (nq:N q) (ht:SqT K H t [.str g.1,.str g.2.1,.ref q]) (hq:SqL K H q (g.2.2.map V.str)):GtsAt N K H (ts ++ [.ref t]) (gs ++ [g]):=by
 refine ⟨by rw [List.length_append,List.length_append,h.1];rfl,fun i g' e=>?_⟩
 by_cases hi:i<gs.length
 ·rw [List.getElem?_append_left hi] at e
  obtain ⟨t',q',a,r⟩:=h.2 i g' e
  exact ⟨t',q',by rw [List.getElem?_append_left (by rw [h.1];exact hi)];exact a,r⟩
 ·have hi':i=gs.length:=by
   have:=(List.getElem?_eq_some_iff.mp e).1
   rw [List.length_append] at this
   simp at this
   omega
  subst hi'
  have e':g=g':=by simpa using e
  subst e'
  exact ⟨t,q,by rw [← h.1];simp,nt,nq,ht,hq⟩
end
def wordsS:List Str:=["and","or","either","not","choose","most","yes","no"]
def Ar6 (w:Str) (n:Nat):Prop:=Ar w n∧w∈wordsS∧n≤6∧((w = "and" ∨ w = "or" ∨ w = "either")→2≤n)∧((w = "yes" ∨ w = "no")→n=0)
structure WN (ins:List Str) (gs:List Gt) (outs:List Str):Prop where
 i0:1≤ins.length
 i1:ins.length≤10
 gl:gs.length≤60
 o0:1≤outs.length
 o1:outs.length≤16
 wg:ME.WG Ar6 ins gs
 wo:∀ o∈outs,o∈ins ++ gs.map (·.1)
 nd:(ins ++ gs.map (·.1)).Nodup
 nm:∀ n∈ins ++ gs.map (·.1),NM.Nm n.cps.toList∧inV (.str n) nearV=false
def NetV (K:PySem.W.Frag) (H:Hp) (p:Addr) (ins:List Str) (gs:List Gt) (outs:List Str):Prop:=∃ a b c ts,SqT K H p [.ref a,.ref b,.ref c]∧SqL K H a (ins.map V.str)∧SqL K H b ts∧GtsAt (fun _=>True) K H ts gs∧SqL K H c (outs.map V.str)
theorem NetV.same {K:PySem.W.Frag}{H H':Hp}{p:Addr}{ins:List Str}{gs:List Gt}{outs:List Str} (s:Same H H') (h:NetV K H p ins gs outs):NetV K H' p ins gs outs :=
 let ⟨a,b,c,ts,h1,h2,h3,h4,h5⟩:=h;⟨a,b,c,ts,s.tup h1,s.seq h2,s.seq h3,h4.same s,s.seq h5⟩
def arsK:List (Key × V):=[(.inr "not",.int 1),(.inr "choose",.int 3),(.inr "most",.int 3),(.inr "yes",.int 0),(.inr "no",.int 0)]
theorem ar_of {wd:Str} (h:wd∈wordsS) (d:Int) (h0:2≤d) (h1:d≤6):∃ n:Nat,(valV arsK (Sum.inr wd)).getD (.int d)=.int n∧n≤6∧Ar wd n:=by
  obtain ⟨k,rfl⟩:=Int.eq_ofNat_of_zero_le (by omega:0≤d)
  have nn:∀ {w1 w2 w3:Prop}{n:Nat},¬ w1→¬ w2→¬ w3→(w1→n=1)∧(w2→n=3)∧(w3→n=3):=fun a b c=>⟨fun z=>absurd z a,fun z=>absurd z b,fun z=>absurd z c⟩
  unfold wordsS at h
  simp only [List.mem_cons,List.not_mem_nil,or_false] at h
  rcases h with rfl | rfl | rfl | rfl | rfl | rfl | rfl | rfl
  · exact ⟨k, (by have z : valV arsK (Sum.inr ("and" : Str)) = none := by decide +kernel
                  rw [z];rfl),by omega,nn (by decide +kernel) (by decide +kernel) (by decide +kernel)⟩
  · exact ⟨k, (by have z : valV arsK (Sum.inr ("or" : Str)) = none := by decide +kernel
                  rw [z];rfl),by omega,nn (by decide +kernel) (by decide +kernel) (by decide +kernel)⟩
  · exact ⟨k, (by have z : valV arsK (Sum.inr ("either" : Str)) = none := by decide +kernel
                  rw [z];rfl),by omega,nn (by decide +kernel) (by decide +kernel) (by decide +kernel)⟩
  · exact ⟨1, (by have z : valV arsK (Sum.inr ("not" : Str)) = some (.int 1) := by decide +kernel
                  rw [z];rfl),by omega,fun _=>rfl,fun z=>absurd z (by decide +kernel),fun z=>absurd z (by decide +kernel)⟩
  · exact ⟨3, (by have z : valV arsK (Sum.inr ("choose" : Str)) = some (.int 3) := by decide +kernel
                  rw [z];rfl),by omega,fun z=>absurd z (by decide +kernel),fun _=>rfl,fun z=>absurd z (by decide +kernel)⟩
  · exact ⟨3, (by have z : valV arsK (Sum.inr ("most" : Str)) = some (.int 3) := by decide +kernel
                  rw [z];rfl),by omega,fun z=>absurd z (by decide +kernel),fun z=>absurd z (by decide +kernel),fun _=>rfl⟩
  · exact ⟨0, (by have z : valV arsK (Sum.inr ("yes" : Str)) = some (.int 0) := by decide +kernel
                  rw [z];rfl),by omega,nn (by decide +kernel) (by decide +kernel) (by decide +kernel)⟩
  · exact ⟨0, (by have z : valV arsK (Sum.inr ("no" : Str)) = some (.int 0) := by decide +kernel
                  rw [z];rfl),by omega,nn (by decide +kernel) (by decide +kernel) (by decide +kernel)⟩
theorem ar6_of {wd:Str} (h:wd∈wordsS) (d:Int) (h0:2≤d) (h1:d≤6):∃ n:Nat,(valV arsK (Sum.inr wd)).getD (.int d)=.int n∧n≤6∧Ar6 wd n:=by
 obtain ⟨n,e,h6,ha⟩:=ar_of h d h0 h1
 refine ⟨n,e,h6,ha,h,h6,fun hw=>?_,fun hw=>?_⟩
 ·have z:valV arsK (Sum.inr wd)=none:=by rcases hw with rfl | rfl | rfl <;> decide +kernel
  rw [z] at e
  have:=V.int.inj e
  omega
 ·have z:valV arsK (Sum.inr wd)=some (.int 0):=by rcases hw with rfl | rfl <;> decide +kernel
  rw [z] at e
  have:=V.int.inj e
  omega
theorem tab8 (ws:List Str) (hl:ws.length=8) (hm:∀ w∈ws,w∈wordsS) (c:Int):∃ wd,atI (ws.map V.str) (c % 8)=some (.str wd)∧wd∈wordsS:=by
 have h0:0≤c % 8:=by omega
 have h1:c % 8<ws.length:=by rw [hl];omega
 refine ⟨_,atI_map ("" : Str) h0 h1,hm _ ?_⟩
 have:(c % 8).toNat<ws.length:=by omega
 simp [List.getD,this]
theorem getD_mem {α:Type}{xs:List α}{n:Nat} (d:α) (h:n<xs.length):xs.getD n d∈xs:=by simp [List.getD,h]
def sp_law_drawn_gate (K:PySem.W.Frag):Sp:=fun vs H Q _=>∃ (nm:Str) (p:Addr) (known:List Str) (c:Int),vs=[.str nm,.ref p,.int c]∧SqL K H p (known.map V.str)∧1≤known.length∧known.length≤200 ∧
 ∀ (wd:Str) (ps:List Str) t q H',(∀ x∈ps,x∈known)→Ar6 wd ps.length→ps.length≤6→wd∈wordsS→Same H H'→H t=none→H q=none→H' t=some (.tup [.str nm,.str wd,.ref q])→H' q=some (.lst (ps.map V.str))→Q (.ref t) H'
def rd_law_drawn_gate (K:PySem.W.Frag):TS:=(tSeq (tAsg (tOp (cIx K) (tLst (tVals [(.str "and"),(.str "either"),(.str "or"),(.str "not"),(.str "choose"),(.str "most"),(.str "and"),(.str "either")])) (tOp (cI2c (fun _ j=>0<j) fun i j=>.int (i % j)) (cVar 2) (tC (.int 8)))) (gName 3))
  (tMid (tIfS (cTst (tOp (cEq K) (tOp (cI2c (fun _ j=>0<j) fun i j=>.int (i % j)) (cVar 2) (tC (.int 64))) (tC (.int 62)))) (tAsg (tOp (cIx K) (tLst (tVals [(.str "yes"),(.str "no")])) (tOp (cI2c (fun _ j=>0<j) fun i j=>.int (i % j)) (tOp (cI2c CDiv fun i j=>.int (i / j)) (cVar 2) (tC (.int 64))) (tC (.int 2)))) (gName 3)) tNext)
  (tSeq (tAsg (tOp (cI2c CDiv fun i j=>.int (i / j)) (cVar 2) (tC (.int 8))) (gName 4))
  (tSeq (tAsg (tOp (cIx K) (tLst (tVals [(.int 2),(.int 2),(.int 3),(.int 2),(.int 4),(.int 2),(.int 5),(.int 6)])) (tOp (cI2c (fun _ j=>0<j) fun i j=>.int (i % j)) (cVar 4) (tC (.int 8)))) (gName 5))
  (tSeq (tAsg (tDGet2 (tDispC [(.inr "not",(.int 1)),(.inr "choose",(.int 3)),(.inr "most",(.int 3)),(.inr "yes",(.int 0)),(.inr "no",(.int 0))]) (cVar 3) (cVar 5)) (gName 5))
  (tSeq (tAsg (tCB (cLen K) (tCons (cVar 1) tNil)) (gName 6))
  (tMid (tIfS (cTst (tOp (cI2 fun i j=>.bl (decide (j<i))) (tOp (cI2c (fun _ j=>0<j) fun i j=>.int (i % j)) (cVar 4) (tC (.int 4))) (tC (.int 0)))) (tAsg (tCB cMin (tCons (cVar 6) (tCons (tC (.int 7)) tNil))) (gName 6)) tNext)
  (tSeq (tAsg (tLst tNil) (gName 7))
  (tSeq (tFor (iRng1 (tCons (cVar 5) tNil)) (gName 8) (tSeq (tAsg (tOp (cI2c (fun _ j=>0<j) fun i j=>.int (i % j)) (tOp cAdd (tOp (cI2c CDiv fun i j=>.int (i / j)) (cVar 4) (tC (.int 8))) (tOp cMul (cVar 8) (tOp cAdd (tC (.int 1)) (tOp (cI2c CDiv fun i j=>.int (i / j)) (cVar 4) (tC (.int 56)))))) (cVar 6)) (gName 9))
  (tDrop (tBM K "list" rAppend (cVar 7) (tCons (tOp (cIx K) (cVar 1) (tOp (cI2 fun i j=>.int (i - j)) (tOp (cI2 fun i j=>.int (i - j)) (tCB (cLen K) (tCons (cVar 1) tNil)) (tC (.int 1))) (cVar 9))) tNil)))))
  (tRet (tTup (tCons (cVar 0) (tCons (cVar 3) (tCons (cVar 7) tNil))))))))))))))
theorem tm_law_drawn_gate (T:Txt w K mg a) {cdv:Value}{A:Around}{outer:List Env}{s:Shared}{H:Hp}{E:XK} (hr:Room 0 (A.deeper (envOfC "_law_drawn_gate" (defScope s_law_drawn_gate) s.heap.objs.size a.f_law_drawn_gate cdv))) :
  PSs (cxOf CX0 P w K mg base N_law_drawn_gate "_law_drawn_gate" (defScope s_law_drawn_gate) a.f_law_drawn_gate cdv A outer s H E).nox (defBody s_law_drawn_gate) (rd_law_drawn_gate K) :=
 (pss_cons (ps_set (i:=3) sc_law_drawn_gate.nd rfl (by walk_at "o") (pe_ix i_seq (pe_lst (pa_consts (vs:=[(.str "and"),(.str "either"),(.str "or"),(.str "not"),(.str "choose"),(.str "most"),(.str "and"),(.str "either")]) rfl)) (pe_op o_mod (cv 2) pe_int) (fun _ _=>rfl)))
   (pss_mid (ps_if (t_cmp (o_eq (hr8 hr)) (pe_op o_mod (cv 2) pe_int) pe_int (nomark _)) (pss_one (ps_set (i:=3) sc_law_drawn_gate.nd rfl (by walk_at "o") (pe_ix i_seq (pe_lst (pa_consts (vs:=[(.str "yes"),(.str "no")]) rfl)) (pe_op o_mod (pe_op o_fdiv (cv 2) pe_int) pe_int) (fun _ _=>rfl)))) pss_nil)
   (pss_cons (ps_set (i:=4) sc_law_drawn_gate.nd rfl (by walk_at "o") (pe_op o_fdiv (cv 2) pe_int))
   (pss_cons (ps_set (i:=5) sc_law_drawn_gate.nd rfl (by walk_at "o") (pe_ix i_seq (pe_lst (pa_consts (vs:=[(.int 2),(.int 2),(.int 3),(.int 2),(.int 4),(.int 2),(.int 5),(.int 6)]) rfl)) (pe_op o_mod (cv 4) pe_int) (fun _ _=>rfl)))
   (pss_cons (ps_set (i:=5) sc_law_drawn_gate.nd rfl (by walk_at "o") (pe_dget2 (hu_of hr) (e_dispC [(.inr "not",(.int 1)),(.inr "choose",(.int 3)),(.inr "most",(.int 3)),(.inr "yes",(.int 0)),(.inr "no",(.int 0))] rfl (by decide +kernel) (by simp) (by decide)) (cv 3) (cv 5) ⟨rfl,rfl,rfl,rfl⟩))
   (pss_cons (ps_set (i:=6) sc_law_drawn_gate.nd rfl (by walk_at "o") (pe_callB c_len (by rfl) T.no_len PySem.boot_len (pa_cons (cv 1) pa_nil)))
   (pss_mid (ps_if (t_cmp o_gt (pe_op o_mod (cv 4) pe_int) pe_int (nomark _)) (pss_one (ps_set (i:=6) sc_law_drawn_gate.nd rfl (by walk_at "o") (pe_callB (c_min rfl) (by rfl) T.no_min PyProof.Rows.boot_min (pa_cons (cv 6) (pa_cons pe_int pa_nil))))) pss_nil)
   (pss_cons (ps_set (i:=7) sc_law_drawn_gate.nd rfl (by walk_at "o") (pe_lst pa_nil))
   (pss_cons (ps_for PassesOwn.never rfl (pi_range1 rfl T.no_range (pa_cons (cv 5) pa_nil)) (pg_name (i:=8) sc_law_drawn_gate.nd rfl (by walk_at "o")) (pss_cons (ps_set (i:=9) sc_law_drawn_gate.nd rfl (by walk_at "o") (pe_op o_mod (pe_op o_add (pe_op o_fdiv (cv 4) pe_int) (pe_op o_mul (cv 8) (pe_op o_add pe_int (pe_op o_fdiv (cv 4) pe_int)))) (cv 6)))
   (pss_one (ps_expr (pe_bm PySem.F.plainAttrs_list PySem.F.slot_list_append PySem.F.type_list_append (mtr mt_append) (cv 7) (pa_cons (pe_ix i_seq (cv 1) (pe_op o_sub (pe_op o_sub (pe_callB c_len (by rfl) T.no_len PySem.boot_len (pa_cons (cv 1) pa_nil)) pe_int) (cv 9)) (fun _ _=>rfl)) pa_nil))))))
   (pss_one (ps_ret (pe_tup (pa_cons (cv 0) (pa_cons (cv 3) (pa_cons (cv 7) pa_nil)))))))))))))))
theorem ok_law_drawn_gate (T:Txt w K mg a):FnOk P w K mg base CX0 1 a.f_law_drawn_gate a.d_law_drawn_gate ["_law_name","_law_known","_law_cell"] (sp_law_drawn_gate K):=by
 refine T.fn_law_drawn_gate.ok sc_law_drawn_gate (fun vs H Q E h=>?_) (fun cdv A outer s H vs Q E hr h=>⟨_,tm_law_drawn_gate T hr,?_⟩)
 ·obtain ⟨nm,p,known,c,rfl,_⟩:=h;rfl
 ·obtain ⟨nm,p,known,c,rfl,hS,hk1,hk2,q⟩:=h
  show rd_law_drawn_gate K _ [some (.str nm),some (.ref p),some (.int c),none,none,none,none,none,none,none] H
  unfold rd_law_drawn_gate
  walk_at "gs"
  intro r1 H1 n1
  walk_at "gs"
  obtain ⟨wd0,hw0,hm0⟩:=tab8 ["and","either","or","not","choose","most","and","either"] rfl (by decide +kernel) c
  refine ⟨_,_,.inl n1.sq,hw0,?_⟩
  walk_at "gs"
  refine mid (fun σ' H'=>∃ wd,wd∈wordsS∧Same H H'∧σ'=[some (.str nm),some (.ref p),some (.int c),some (.str wd),none,none,none,none,none,none]) (fun M hM=>?_) ?_
  ·walk_at "gs"
   by_cases h62:c % 64=62
   ·rw [if_pos h62]
    walk_at "gs"
    intro r2 H2 n2
    walk_at "gs"
    have hc:c / 64 % 2=0∨c / 64 % 2=1:=by omega
    rcases hc with e | e <;> rw [e]
    ·exact ⟨_,_,.inl n2.sq,rfl,hM _ _ ⟨_,by decide +kernel,n1.same.trans n2.same,rfl⟩⟩
    ·exact ⟨_,_,.inl n2.sq,rfl,hM _ _ ⟨_,by decide +kernel,n1.same.trans n2.same,rfl⟩⟩
   ·rw [if_neg h62]
    exact hM _ _ ⟨_,hm0,n1.same,rfl⟩
  rintro σ2 H2 ⟨wd,hwd,s2,rfl⟩
  walk_at "gs"
  intro r3 H3 n3
  walk_at "gs"
  obtain ⟨d,hd0,hd2,hd6⟩:∃ d:Int,atI [V.int 2,V.int 2,V.int 3,V.int 2,V.int 4,V.int 2,V.int 5,V.int 6] (c / 8 % 8)=some (.int d)∧2≤d∧d≤6:=by
   have hc:c / 8 % 8=0∨c / 8 % 8=1∨c / 8 % 8=2∨c / 8 % 8=3∨c / 8 % 8=4∨c / 8 % 8=5∨c / 8 % 8=6∨c / 8 % 8=7:=by omega
   rcases hc with e | e | e | e | e | e | e | e <;> rw [e] <;> exact ⟨_,rfl,by decide,by decide⟩
  refine ⟨_,_,.inl n3.sq,hd0,?_⟩
  walk_at "gs"
  intro r4 H4 n4
  obtain ⟨n,hn,hn6,har⟩:=ar6_of hwd d hd2 hd6
  refine ⟨r4,rfl,.inl ⟨_,.inl n4.at_⟩,?_⟩
  walk_at "gs"
  refine ⟨_,DGet.k (k:=.inr wd) n4.at_,?_⟩
  unfold arsK at hn
  rw [hn]
  walk_at "gs"
  have s4:=(s2.trans n3.same).trans n4.same
  refine .inl ⟨_,.inl (s4.seq hS),?_⟩
  rw [List.length_map]
  refine mid (fun σ' H'=>∃ sp:Int,1≤sp∧sp≤known.length∧H'=H4∧σ'=[some (.str nm),some (.ref p),some (.int c),some (.str wd),some (.int (c / 8)),some (.int n),some (.int sp),none,none,none]) (fun M hM=>?_) ?_
  ·walk_at "gs"
   by_cases h4:0<c / 8 % 4
   ·rw [if_pos h4]
    walk_at "gs"
    refine hM _ _ ⟨_,?_,?_,rfl,rfl⟩ <;> split <;> omega
   ·rw [if_neg h4]
    exact hM _ _ ⟨_,by omega,by omega,rfl,rfl⟩
  rintro σ5 H5 ⟨sp,hs1,hs2,rfl,rfl⟩
  walk_at "gs"
  intro r6 H6 n6
  walk_at "gs"
  rw [Int.toNat_natCast]
  refine for_rngG (fun i σ H2=>∃ ps:List Str,ps.length=i∧(∀ x∈ps,x∈known)∧H2=upd H5 r6 (.lst (ps.map V.str))∧∃ v1 v2,σ=[some (.str nm),some (.ref p),some (.int c),some (.str wd),some (.int (c / 8)),some (.int n),some (.int sp),some (.ref r6),v1,v2])
   ⟨[],rfl,by simp,n6.eq,_,_,rfl⟩ ?_ ?_
  ·rintro i σ H7 hi ⟨ps,hps,hmem,rfl,v1,v2,rfl⟩
   walk_at "gs"
   have s7:Same H (upd H5 r6 (.lst (ps.map V.str))):=s4.trans (same_upd n6.was)
   have m0:0≤(c / 8 / 8+(0+(i:Int)) * (1+c / 8 / 56)) % sp:=Int.emod_nonneg _ (by omega)
   have m1:(c / 8 / 8+(0+(i:Int)) * (1+c / 8 / 56)) % sp<sp:=Int.emod_lt_of_pos _ (by omega)
   refine ⟨.inl ⟨by trivial,_,.of upd_same⟩,.inl ⟨_,.inl (s7.seq hS),?_⟩⟩
   rw [List.length_map]
   refine ixS (s7.seq hS) (by omega) (by omega) ⟨r6,_,_,rfl,rfl,upd_same,?_,?_⟩
   ·rw [List.length_map]
    exact Nat.lt_of_lt_of_le (by omega) size_big
   ·refine ⟨ps ++ [known.getD _ ""],by rw [List.length_append,hps];rfl,?_,by rw [upd_upd,List.map_append];rfl,_,_,rfl⟩
    intro x hx
    rcases List.mem_append.mp hx with e | e
    ·exact hmem x e
    ·rw [List.mem_singleton.mp e]
     exact getD_mem _ (by omega)
  ·rintro σ H7 ⟨ps,hps,hmem,rfl,v1,v2,rfl⟩
   walk_at "gs"
   refine ⟨by show 3≤sizeLine;decide,fun t H8 n8=>?_⟩
   have s7:Same H (upd H5 r6 (.lst (ps.map V.str))):=s4.trans (same_upd n6.was)
   refine q wd ps t r6 H8 hmem (by rw [hps];exact har) (by omega) hwd (s7.trans n8.same) (s7.free n8.was) (s4.free n6.was) n8.at_ (n8.same _ _ upd_same)
theorem cut_to {xs:List Str}{i:Int}{n:Nat} (e:i=n) (hn:n≤xs.length):cutV (xs.map V.str) none (some i)=(xs.take n).map V.str:=by
 subst e
 unfold cutV
 have e1:HT.sIx (xs.map V.str).length 0 none=0:=rfl
 have e2:HT.sIx (xs.map V.str).length (xs.map V.str).length (some (n:Int))=n:=by
  rw [HT.sIx_nat,List.length_map]
  omega
 rw [e1,e2,List.drop_zero,Nat.sub_zero,List.map_take]
def sp_law_drawn (K:PySem.W.Frag):Sp:=fun vs H Q _=>∃ (many:Nat) (pc:Addr) (cells:List Int) (c o:Int),vs=[.int many,.ref pc,.int c,.int o]∧1≤many∧many≤10∧SqL K H pc (cells.map V.int)∧cells.length≤60 ∧
 ∀ (ins:List Str) (gs:List Gt) (outs:List Str) p H',WN ins gs outs→ins.length=many→Same H H'→NetV K H' p ins gs outs→Q (.ref p) H'
def rd_law_drawn (K:PySem.W.Frag):TS:=(tSeq (tAsg (tCall (sp_law_all_names K) [] E0 (tCons (tOp cAdd (cVar 0) (tCB (cLen K) (tCons (cVar 1) tNil))) (tCons (cVar 2) tNil))) (gName 4))
  (tSeq (tAsg (tLst tNil) (gName 5))
  (tSeq (tFor (iRng1 (tCons (tCB (cLen K) (tCons (cVar 1) tNil)) tNil)) (gName 6) (tDrop (tBM K "list" rAppend (cVar 5) (tCons (tCall (sp_law_drawn_gate K) [] E0 (tCons (tOp (cIx K) (cVar 4) (tOp cAdd (cVar 0) (cVar 6))) (tCons (tSl (cSlU K) (cVar 4) tNoPart (cPart (tOp cAdd (cVar 0) (cVar 6)))) (tCons (tOp (cIx K) (cVar 1) (cVar 6)) tNil)))) tNil))))
  (tSeq (tAsg (tLst tNil) (gName 7))
  (tSeq (tFor (iRng1 (tCons (tOp cAdd (tC (.int 1)) (tOp (cI2c (fun _ j=>0<j) fun i j=>.int (i % j)) (cVar 3) (tC (.int 16)))) tNil)) (gName 8) (tSeq (tAsg (tOp (cI2c (fun _ j=>0<j) fun i j=>.int (i % j)) (tOp cAdd (tOp cMul (tOp (cI2c CDiv fun i j=>.int (i / j)) (cVar 3) (tC (.int 16))) (cVar 8)) (tOp cMul (tC (.int 2)) (cVar 8))) (tCB (cLen K) (tCons (cVar 4) tNil))) (gName 9))
  (tDrop (tBM K "list" rAppend (cVar 7) (tCons (tOp (cIx K) (cVar 4) (tOp (cI2 fun i j=>.int (i - j)) (tOp (cI2 fun i j=>.int (i - j)) (tCB (cLen K) (tCons (cVar 4) tNil)) (tC (.int 1))) (cVar 9))) tNil)))))
  (tRet (tTup (tCons (tSl (cSlU K) (cVar 4) tNoPart (cPart (cVar 0))) (tCons (cVar 5) (tCons (cVar 7) tNil))))))))))
theorem tm_law_drawn (T:Txt w K mg a) {cdv:Value}{A:Around}{outer:List Env}{s:Shared}{H:Hp}{E:XK} (hr:Room 3 (A.deeper (envOfC "_law_drawn" (defScope s_law_drawn) s.heap.objs.size a.f_law_drawn cdv))) :
  PSs (cxOf CX0 P w K mg base N_law_drawn "_law_drawn" (defScope s_law_drawn) a.f_law_drawn cdv A outer s H E).nox (defBody s_law_drawn) (rd_law_drawn K) :=
 (pss_cons (ps_set (i:=4) sc_law_drawn.nd rfl (by walk_at "o") (pe_call (ok_law_all_names T) (hr.mono (by decide)) rfl T.mg_law_all_names T.fn_law_all_names.kp T.bi_law_all_names .nil pass0 (pa_cons (pe_op o_add (cv 0) (pe_callB c_len (by rfl) T.no_len PySem.boot_len (pa_cons (cv 1) pa_nil))) (pa_cons (cv 2) pa_nil))))
   (pss_cons (ps_set (i:=5) sc_law_drawn.nd rfl (by walk_at "o") (pe_lst pa_nil))
   (pss_cons (ps_for PassesOwn.never rfl (pi_range1 rfl T.no_range (pa_cons (pe_callB c_len (by rfl) T.no_len PySem.boot_len (pa_cons (cv 1) pa_nil)) pa_nil)) (pg_name (i:=6) sc_law_drawn.nd rfl (by walk_at "o")) (pss_one (ps_expr (pe_bm PySem.F.plainAttrs_list PySem.F.slot_list_append PySem.F.type_list_append (mtr mt_append) (cv 5) (pa_cons (pe_call (ok_law_drawn_gate T) (hr.mono (by decide)) rfl T.mg_law_drawn_gate T.fn_law_drawn_gate.kp T.bi_law_drawn_gate .nil pass0 (pa_cons (pe_ix i_seq (cv 4) (pe_op o_add (cv 0) (cv 6)) (fun _ _=>rfl)) (pa_cons (pe_slice s_u (cv 4) po_none (e_part (pe_op o_add (cv 0) (cv 6)))) (pa_cons (pe_ix i_seq (cv 1) (cv 6) (fun _ _=>rfl)) pa_nil)))) pa_nil)))))
   (pss_cons (ps_set (i:=7) sc_law_drawn.nd rfl (by walk_at "o") (pe_lst pa_nil))
   (pss_cons (ps_for PassesOwn.never rfl (pi_range1 rfl T.no_range (pa_cons (pe_op o_add pe_int (pe_op o_mod (cv 3) pe_int)) pa_nil)) (pg_name (i:=8) sc_law_drawn.nd rfl (by walk_at "o")) (pss_cons (ps_set (i:=9) sc_law_drawn.nd rfl (by walk_at "o") (pe_op o_mod (pe_op o_add (pe_op o_mul (pe_op o_fdiv (cv 3) pe_int) (cv 8)) (pe_op o_mul pe_int (cv 8))) (pe_callB c_len (by rfl) T.no_len PySem.boot_len (pa_cons (cv 4) pa_nil))))
   (pss_one (ps_expr (pe_bm PySem.F.plainAttrs_list PySem.F.slot_list_append PySem.F.type_list_append (mtr mt_append) (cv 7) (pa_cons (pe_ix i_seq (cv 4) (pe_op o_sub (pe_op o_sub (pe_callB c_len (by rfl) T.no_len PySem.boot_len (pa_cons (cv 4) pa_nil)) pe_int) (cv 9)) (fun _ _=>rfl)) pa_nil))))))
   (pss_one (ps_ret (pe_tup (pa_cons (pe_slice s_u (cv 4) po_none (e_part (cv 0))) (pa_cons (cv 5) (pa_cons (cv 7) pa_nil)))))))))))
theorem ok_law_drawn (T:Txt w K mg a):FnOk P w K mg base CX0 4 a.f_law_drawn a.d_law_drawn ["_law_many","_law_cells","_law_cell","_law_outs"] (sp_law_drawn K):=by
 refine T.fn_law_drawn.ok sc_law_drawn (fun vs H Q E h=>?_) (fun cdv A outer s H vs Q E hr h=>⟨_,tm_law_drawn T hr,?_⟩)
 ·obtain ⟨many,pc,cells,c,o,rfl,_⟩:=h;rfl
 ·obtain ⟨many,pc,cells,c,o,rfl,hm1,hm2,hC,hl,q⟩:=h
  show rd_law_drawn K _ [some (.int many),some (.ref pc),some (.int c),some (.int o),none,none,none,none,none,none] H
  unfold rd_law_drawn
  walk_at "gs"
  refine .inl ⟨_,.inl hC,?_⟩
  rw [List.length_map]
  refine ⟨many+cells.length,c,rfl,by omega,fun names pn H1 hnl hnd hnm s1 fr1 at1=>?_⟩
  have hN:∀ {H':Hp},Same H1 H'→SqL K H' pn (names.map V.str):=fun s=>s.seq (.of at1)
  walk_at "gs"
  intro g H2 n2
  walk_at "gs"
  refine .inl ⟨_,.inl ((s1.trans n2.same).seq hC),?_⟩
  rw [List.length_map]
  walk_at "gs"
  rw [Int.toNat_natCast]
  refine for_rngG (fun i σ H3=>∃ (ts:List V) (gs:List Gt),gs.length=i∧H3 g=some (.lst ts)∧GtsAt (· ≠ g) K H3 ts gs∧ME.WG Ar6 (names.take many) gs∧gs.map (·.1)=(names.drop many).take i∧Same H1 H3 ∧
    ∃ v,σ=[some (.int many),some (.ref pc),some (.int c),some (.int o),some (.ref pn),some (.ref g),v,none,none,none])
   ⟨[],[],rfl,n2.at_,.nil,True.intro,by simp,n2.same,_,rfl⟩ ?_ ?_
  ·rintro i σ H3 hi ⟨ts,gs,hgl,hg,hG,hW,hnames,s3,v,rfl⟩
   walk_at "gs"
   refine ⟨.inl ⟨by trivial,_,.of hg⟩,?_⟩
   refine ixS (hN s3) (by omega) (by omega) ?_
   walk_at "gs"
   refine ⟨_,hN s3,fun r H4 n4=>?_⟩
   rw [cut_to (n:=many+i) (by omega) (by omega)] at n4
   walk_at "gs"
   have s4:=s3.trans n4.same
   refine ixI ((s1.trans s4).seq hC) (by omega) (by omega) ?_
   have ei:((many:Int)+(0+(i:Int))).toNat=many+i:=by omega
   rw [ei]
   refine ⟨names.getD (many+i) "",r,names.take (many+i),_,rfl,n4.sq,by rw [List.length_take];omega,by rw [List.length_take];omega,fun wd ps t qa H5 hps har hp6 hwd s5 ft fq at5 aq5=>?_⟩
   walk_at "gs"
   have hg4:=n4.same _ _ hg
   have hg5:=s5 _ _ hg4
   have ntg:t≠g:=fun e=>by rw [e,hg4] at ft;cases ft
   have nqg:qa≠g:=fun e=>by rw [e,hg4] at fq;cases fq
   have hlt:ts.length=i:=by rw [hG.1];exact hgl
   refine ⟨g,ts,_,rfl,rfl,hg5,Nat.lt_of_lt_of_le (by omega) size_big,ts ++ [.ref t],gs ++ [(names.getD (many+i) "",wd,ps)],by rw [List.length_append,hgl];rfl,upd_same,?_,?_,?_,(s4.trans s5).put n2.was,_,rfl⟩
   ·have k5:Keep (· ≠ g) H5 (upd H5 g (.lst (ts ++ [.ref t]))):=Keep.put (fun z=>z rfl)
    exact GtsAt.snoc (((hG.same n4.same).same s5).keep k5) ntg nqg (k5.tup ntg (.of at5)) (k5.seq nqg (.of aq5))
   ·refine ME.WG_snoc _ _ _ hW ?_ har hp6
    intro x hx
    have:=hps x hx
    rw [List.take_add] at this
    rw [hnames]
    exact this
   ·rw [List.map_append,hnames,List.take_add_one]
    congr 1
    rw [List.getElem?_drop]
    simp [List.getD,show many+i<names.length by omega]
  ·rintro σ H3 ⟨ts,gs,hgl,hg,hG,hW,hnames,s3,v,rfl⟩
   walk_at "gs"
   intro r H4 n4
   walk_at "gs"
   have s4:=s3.trans n4.same
   obtain ⟨no,hno⟩:=Int.eq_ofNat_of_zero_le (by omega:0≤1+o % 16)
   rw [hno,Int.toNat_natCast]
   refine for_rngG (fun i σ H5=>∃ os:List Str,os.length=i∧(∀ x∈os,x∈names)∧H5=upd H3 r (.lst (os.map V.str))∧∃ v1 v2,σ=[some (.int many),some (.ref pc),some (.int c),some (.int o),some (.ref pn),some (.ref g),v,some (.ref r),v1,v2])
    ⟨[],rfl,by simp,n4.eq,_,_,rfl⟩ ?_ ?_
   ·rintro i σ H5 hi ⟨os,hol,hom,rfl,v1,v2,rfl⟩
    have s5:Same H1 (upd H3 r (.lst (os.map V.str))):=s3.trans (same_upd n4.was)
    walk_at "gs"
    refine .inl ⟨_,.inl (hN s5),?_⟩
    rw [List.length_map]
    walk_at "gs"
    have m0:0≤(o / 16 * (0+(i:Int))+2 * (0+(i:Int))) % (names.length:Int):=Int.emod_nonneg _ (by omega)
    have m1:(o / 16 * (0+(i:Int))+2 * (0+(i:Int))) % (names.length:Int)<names.length:=Int.emod_lt_of_pos _ (by omega)
    refine ⟨.inl ⟨by trivial,_,.of upd_same⟩,.inl ⟨_,.inl (hN s5),?_⟩⟩
    rw [List.length_map]
    refine ixS (hN s5) (by omega) (by omega) ⟨r,_,_,rfl,rfl,upd_same,?_,?_⟩
    ·rw [List.length_map]
     exact Nat.lt_of_lt_of_le (by omega) size_big
    ·refine ⟨os ++ [names.getD _ ""],by rw [List.length_append,hol];rfl,?_,by rw [upd_upd,List.map_append];rfl,_,_,rfl⟩
     intro x hx
     rcases List.mem_append.mp hx with e | e
     ·exact hom x e
     ·rw [List.mem_singleton.mp e]
      exact getD_mem _ (by omega)
   ·rintro σ H5 ⟨os,hol,hom,rfl,v1,v2,rfl⟩
    have s5:Same H1 (upd H3 r (.lst (os.map V.str))):=s3.trans (same_upd n4.was)
    walk_at "gs"
    refine ⟨_,hN s5,fun ra H6 n6=>?_⟩
    rw [cut_to (n:=many) rfl (by omega)] at n6
    walk_at "gs"
    refine ⟨by show 3≤sizeLine;decide,fun p H7 n7=>?_⟩
    have s6:=s5.trans n6.same
    have s7:=s6.trans n7.same
    have e1:names.take many ++ gs.map (·.1)=names:=by
     rw [hnames,← List.take_add,← hnl,List.take_length]
    refine q (names.take many) gs os p H7 ⟨by rw [List.length_take];omega,by rw [List.length_take];omega,by omega,by omega,by omega,hW,by rw [e1];exact hom,by rw [e1];exact hnd,by rw [e1];exact hnm⟩ (by rw [List.length_take];omega) (s1.trans s7) ?_
    have hs37:Same H3 H7:=((same_upd n4.was).trans n6.same).trans n7.same
    exact ⟨ra,g,r,ts,n7.sqT,n7.same.seq n6.sq,.of (hs37 _ _ hg),(hG.same hs37).weak fun _ _=>True.intro,.of (n7.same _ _ (n6.same _ _ upd_same))⟩
open GM
def GtT (H:Hp) (ts:List V) (gs:List Gt):Prop:=ts.length=gs.length∧∀ (i:Nat) (g:Gt),gs[i]? = some g→∃ t q,ts[i]? = some (.ref t)∧H t=some (.tup [.str g.1,.str g.2.1,.ref q])∧H q=some (.tup (g.2.2.map V.str))
def NetO (a:Adr) (H:Hp) (x:Addr) (ins:List Str) (gs:List Gt) (outs:List Str):Prop:=∃ dx t1 t2 t3 ts,H x=some (.ins a.c_Net dx [("inputs",.ref t1),("gates",.ref t2),("outputs",.ref t3)])∧H t1=some (.tup (ins.map V.str))∧H t2=some (.tup ts)∧GtT H ts gs∧H t3=some (.tup (outs.map V.str))
def sp_Net___init__ (a:Adr) (K:PySem.W.Frag):Sp:=fun vs H Q _=>∃ (x dx pi pg po:Addr) (ins:List Str) (gs:List Gt) (outs:List Str) (ts:List V),vs=[.ref x,.ref pi,.ref pg,.ref po]∧H x=some (.ins a.c_Net dx []) ∧
 SqL K H pi (ins.map V.str)∧SqL K H pg ts∧GtsAt (fun _=>True) K H ts gs∧SqL K H po (outs.map V.str)∧ins.length≤1000∧gs.length≤1000∧outs.length≤1000 ∧
 ∀ H',(∀ b o,b≠x→H b=some o→H' b=some o)→NetO a H' x ins gs outs→Q .non H'
def fromGate (g:Gt) (q:Addr):List V:=[.str g.1,.str g.2.1,.ref q]
def rd_Net___init__ (K:PySem.W.Frag):TS:=(tSeq (sFld K (cVar 0) (tCB (cTuple K) (tCons (cVar 1) tNil)) "inputs")
  (tSeq (sFld K (cVar 0) (tCB (cTuple K) (tCons (tComp (iList K (cVar 2)) 3 [] (gTup K 3 (gCons (gName 0) (gCons (gName 1) (gCons (gName 2) gNil)))) tTrue (tTup (tCons (cVar 0) (tCons (cVar 1) (tCons (tCB (cTuple K) (tCons (cVar 2) tNil)) tNil))))) tNil)) "gates")
  (sFld K (cVar 0) (tCB (cTuple K) (tCons (cVar 3) tNil)) "outputs")))
theorem tm_Net___init__ (T:Txt w K mg a) {cdv:Value}{A:Around}{outer:List Env}{s:Shared}{H:Hp}{E:XK} (hr:Room 0 (A.deeper (envOfC "Net.__init__" (defScope s_Net___init__) s.heap.objs.size a.f_Net___init__ cdv))) :
  PSs (cxOf CX0 P w K mg base N_Net___init__ "Net.__init__" (defScope s_Net___init__) a.f_Net___init__ cdv A outer s H E).nox (defBody s_Net___init__) (rd_Net___init__ K) :=
 (pss_cons (ps_fld (cv 0) (pe_callTy c_tuple (by rfl) T.no_tuple PyProof.Rows.boot_tuple (pa_cons (cv 1) pa_nil)) rfl)
   (pss_cons (ps_fld (cv 0) (pe_callTy c_tuple (by rfl) T.no_tuple PyProof.Rows.boot_tuple (pa_cons (pe_comp (N:=["name","word","parts"]) (k:=3) (sel:=[]) (CScope.of (defScope s_Net___init__).names (by decide +kernel)) (CNames.of N_Net___init__ (by decide +kernel)) rfl (pi_list (cv 2)) (fun _ _ _ _=>(pg_tup rfl (pgs_cons (pg_name (i:=0) (show List.Nodup (["name","word","parts"]:List Str) by decide +kernel) rfl (by walk_at "o")) (pgs_cons (pg_name (i:=1) (show List.Nodup (["name","word","parts"]:List Str) by decide +kernel) rfl (by walk_at "o")) (pgs_cons (pg_name (i:=2) (show List.Nodup (["name","word","parts"]:List Str) by decide +kernel) rfl (by walk_at "o")) pgs_nil))))) (fun _ _ _ _=>pts_nil) (fun _ _ _ _=>(pe_tup (pa_cons (cv 0) (pa_cons (cv 1) (pa_cons (pe_callTy c_tuple (by rfl) T.no_tuple PyProof.Rows.boot_tuple (pa_cons (cv 2) pa_nil)) pa_nil)))))) pa_nil)) rfl)
   (pss_one (ps_fld (cv 0) (pe_callTy c_tuple (by rfl) T.no_tuple PyProof.Rows.boot_tuple (pa_cons (cv 3) pa_nil)) rfl))))
theorem ok_Net___init__ (T:Txt w K mg a):FnOk P w K mg base CX0 1 a.f_Net___init__ a.d_Net___init__ ["self","inputs","gates","outputs"] (sp_Net___init__ a K):=by
 refine T.fn_Net___init__.ok sc_Net___init__ (fun vs H Q E h=>?_) (fun cdv A outer s H vs Q E hr h=>⟨_,tm_Net___init__ T hr,?_⟩)
 ·obtain ⟨x,dx,pi,pg,po,ins,gs,outs,ts,rfl,_⟩:=h;rfl
 ·obtain ⟨x,dx,pi,pg,po,ins,gs,outs,ts,rfl,hx,hI,hG,hGs,hO,l1,l2,l3,q⟩:=h
  show rd_Net___init__ K _ [some (.ref x),some (.ref pi),some (.ref pg),some (.ref po)] H
  unfold rd_Net___init__
  have hbig:=size_big
  have notS:∀ {b:Addr}{o:HO}{H':Hp}{fs:List (Str × V)},H' x=some (.ins a.c_Net dx fs)→H' b=some o→(∀ fs,o≠.ins a.c_Net dx fs)→b≠x:=fun e1 e2 n e=>by subst e;rw [e1] at e2;exact n _ (Option.some.inj e2).symm
  have keepX:∀ {H':Hp}{fs:List (Str × V)}{o:HO},H' x=some (.ins a.c_Net dx fs)→∀ {p:Addr}{xs:List V},SqL K H' p xs→SqL K (upd H' x o) p xs:=fun {H' fs o} e1 {p xs} hs=>by
   rcases hs with (hs | ⟨u,hs⟩) | hs
   ·exact .inl (.inl (by rw [upd_ne (notS e1 hs (fun _ z=>nomatch z))];exact hs))
   ·exact .inl (.inr ⟨u,by rw [upd_ne (notS e1 hs (fun _ z=>nomatch z))];exact hs⟩)
   ·exact .inr hs
  have keepT:∀ {H':Hp}{fs:List (Str × V)}{o:HO},H' x=some (.ins a.c_Net dx fs)→∀ {p:Addr}{xs:List V},SqT K H' p xs→SqT K (upd H' x o) p xs:=fun {H' fs o} e1 {p xs} hs=>by
   rcases hs with (hs | ⟨u,hs⟩) | hs
   ·exact .inl (.inl (by rw [upd_ne (notS e1 hs (fun _ z=>nomatch z))];exact hs))
   ·exact .inl (.inr ⟨u,by rw [upd_ne (notS e1 hs (fun _ z=>nomatch z))];exact hs⟩)
   ·exact .inr hs
  walk_at "gs"
  refine ⟨_,.inl ⟨hI,fun t1 H1 n1=>?_⟩⟩
  have hx1:=n1.same _ _ hx
  walk_at "gs"
  refine ⟨x,a.c_Net,dx,[],rfl,hx1,T.cl_Net,T.na_Net_inputs,by decide,?_⟩
  have hx2:upd H1 x (.ins a.c_Net dx (putF "inputs" (.ref t1) [])) x=some _:=upd_same
  have at2:upd H1 x (.ins a.c_Net dx (putF "inputs" (.ref t1) [])) t1=some (.tup (ins.map V.str)):=by rw [upd_ne (notS hx1 n1.at_ (fun _ z=>nomatch z))];exact n1.at_
  have hG2:SqL K (upd H1 x (.ins a.c_Net dx (putF "inputs" (.ref t1) []))) pg ts:=keepX hx1 (n1.same.seq hG)
  have hO2:SqL K (upd H1 x (.ins a.c_Net dx (putF "inputs" (.ref t1) []))) po (outs.map V.str):=keepX hx1 (n1.same.seq hO)
  have hGs2:GtsAt (fun _=>True) K (upd H1 x (.ins a.c_Net dx (putF "inputs" (.ref t1) []))) ts gs:=⟨hGs.1,fun i g e=>by
   obtain ⟨t,qq,e1,_,_,e2,e3⟩:=hGs.2 i g e
   exact ⟨t,qq,e1,True.intro,True.intro,keepT hx1 (n1.same.tup e2),keepX hx1 (n1.same.seq e3)⟩⟩
  have out2:∀ b o,b≠x→H b=some o→upd H1 x (.ins a.c_Net dx (putF "inputs" (.ref t1) [])) b=some o:=fun b o nb e=>by rw [upd_ne nb];exact n1.same _ _ e
  generalize upd H1 x (.ins a.c_Net dx (putF "inputs" (.ref t1) []))=H2 at hx2 at2 hG2 hO2 hGs2 out2
  walk_at "gs"
  refine ⟨⟨_,hG2⟩,fun p hp=>comp_gen (n:=ts.length) (item:=fun i=>ts.getD i .non) (fun σ=>σ.length=3) (fun i H3=>∃ us,H3 p=some (.lst us)∧us.length=i∧Same H2 H3∧∀ j g,j<i→gs[j]? = some g→∃ t q,us[j]? = some (.ref t)∧H3 t=some (.tup (fromGate g q))∧H3 q=some (.tup (g.2.2.map V.str))) rfl ⟨[],upd_same,rfl,same_upd hp,fun j g hj=>absurd hj (by omega)⟩ (src_list ?_) ?_ ?_ ?_⟩
  ·rintro i H3 hi ⟨us,h1,h2,s3,h4⟩
   exact s3.seq hG2
  ·rintro H3 ⟨us,h1,h2,s3,h4⟩
   exact ⟨ts,s3.seq hG2,Nat.le_refl _⟩
  ·rintro i σ2 H3 R hi hσ ⟨us,h1,h2,s3,h4⟩ hR
   have hi':i<gs.length:=by rw [← hGs2.1];exact hi
   obtain ⟨t,qq,e1,_,_,e2,e3⟩:=hGs2.2 i gs[i] (by simp [hi'])
   have et:ts.getD i .non=.ref t:=by simp [List.getD,e1]
   obtain ⟨w1,w2,w3,rfl⟩:∃ w1 w2 w3,σ2=[w1,w2,w3]:=by
    match σ2,hσ with
    | [w1,w2,w3],_=>exact ⟨w1,w2,w3,rfl⟩
   rw [et]
   walk_at "gs"
   refine ⟨t,_,rfl,s3.tup e2,rfl,_,_,rfl,_,_,rfl,_,_,rfl,rfl,?_⟩
   unfold tTrue
   walk_at "gs"
   refine ⟨_,.inl ⟨s3.seq e3,fun q4 H4 n4=>?_⟩⟩
   walk_at "gs"
   refine ⟨by show 3≤sizeLine;decide,fun t5 H5 n5=>?_⟩
   have hp5:=n5.same _ _ (n4.same _ _ h1)
   have npt:p≠t5:=fun e=>by have:=n5.was;rw [← e,n4.same _ _ h1] at this;cases this
   have npq:p≠q4:=fun e=>by have:=n4.was;rw [← e,h1] at this;cases this
   refine ⟨us,hp5,Nat.lt_of_lt_of_le (by omega) hbig,hR _ _ rfl ⟨us ++ [.ref t5],upd_same,by rw [List.length_append,h2];rfl,((s3.trans n4.same).trans n5.same).put hp,fun j g hj hg=>?_⟩⟩
   by_cases hji:j<i
   ·obtain ⟨t',q',f1,f2,f3⟩:=h4 j g hji hg
    have np:∀ {b:Addr}{ys:List V},H3 b=some (.tup ys)→b≠p:=fun e z=>by rw [z,h1] at e;cases e
    refine ⟨t',q',by rw [List.getElem?_append_left (by omega)];exact f1,?_,?_⟩
    ·rw [upd_ne (np f2)];exact n5.same _ _ (n4.same _ _ f2)
    ·rw [upd_ne (np f3)];exact n5.same _ _ (n4.same _ _ f3)
   ·have hj':j=i:=by omega
    subst hj'
    have eg:g=gs[j]:=by simpa [hi'] using hg.symm
    subst eg
    refine ⟨t5,q4,by rw [← h2];simp,?_,?_⟩
    ·rw [upd_ne (Ne.symm npt)];exact n5.at_
    ·rw [upd_ne (Ne.symm npq)];exact n5.same _ _ n4.at_
  ·rintro H3 ⟨us,h1,h2,s3,h4⟩
   walk_at "gs"
   refine ⟨_,.inl ⟨.of h1,fun t2 H4 n4=>?_⟩⟩
   walk_at "gs"
   have s4:=s3.trans n4.same
   refine ⟨x,a.c_Net,dx,_,rfl,s4 _ _ hx2,T.cl_Net,T.na_Net_gates,by have:=length_putF "inputs" (.ref t1) [];simp only [List.length_nil] at this;omega,?_⟩
   walk_at "gs"
   refine ⟨_,.inl ⟨keepX (s4 _ _ hx2) (s4.seq hO2),fun t3 H5 n5=>?_⟩⟩
   walk_at "gs"
   refine ⟨x,a.c_Net,dx,_,rfl,n5.same _ _ upd_same,T.cl_Net,T.na_Net_outputs,by have h7:=length_putF "inputs" (.ref t1) [];have h8:=length_putF "gates" (.ref t2) (putF "inputs" (.ref t1) []);simp only [List.length_nil] at h7;omega,?_⟩
   have ex:∀ b o,b≠x→H4 b=some o→upd H5 x (.ins a.c_Net dx (putF "outputs" (.ref t3) (putF "gates" (.ref t2) (putF "inputs" (.ref t1) [])))) b=some o:=fun b o nb e=>by
    rw [upd_ne nb]
    exact n5.same _ _ (by rw [upd_ne nb];exact e)
   have hx4:=s4 _ _ hx2
   refine q _ (fun b o nb e=>ex b o nb (s4 _ _ (out2 b o nb e))) ⟨dx,t1,t2,t3,us,?_,?_,?_,⟨?_,fun j g hg=>?_⟩,?_⟩
   ·rw [upd_same]
    have e1:putF "outputs" (.ref t3) (putF "gates" (.ref t2) (putF "inputs" (.ref t1) []))=([("inputs",V.ref t1),("gates",V.ref t2),("outputs",V.ref t3)]:List (Str × V)):=by
     have z1:¬ ("inputs" : Str) = "gates":=by decide +kernel
     have z2:¬ ("inputs" : Str) = "outputs":=by decide +kernel
     have z3:¬ ("gates" : Str) = "outputs":=by decide +kernel
     simp [putF,z1,z2,z3]
    rw [e1]
   ·exact ex _ _ (notS hx4 (s4 _ _ at2) (fun _ z=>nomatch z)) (s4 _ _ at2)
   ·exact ex _ _ (notS hx4 n4.at_ (fun _ z=>nomatch z)) n4.at_
   ·rw [h2];exact hGs2.1
   ·obtain ⟨t,qq,f1,f2,f3⟩:=h4 j g (by rw [hGs2.1];exact (List.getElem?_eq_some_iff.mp hg).1) hg
    exact ⟨t,qq,f1,ex _ _ (notS hx4 (n4.same _ _ f2) (fun _ z=>nomatch z)) (n4.same _ _ f2),ex _ _ (notS hx4 (n4.same _ _ f3) (fun _ z=>nomatch z)) (n4.same _ _ f3)⟩
   ·have nt3:t3≠x:=fun e=>by
     have:=n5.was
     rw [e,upd_same] at this;cases this
    rw [upd_ne nt3];exact n5.at_
theorem app_assoc (a b c:Str):a ++ b ++ c=a ++ (b ++ c):=ext_cps (by rw [cps_app,cps_app,cps_app,cps_app,List.append_assoc])
def jn (xs:List Str):Str:=Str.join " " xs
def jf (x:Str) (xs:List Str):Str:=xs.foldl (fun a y=>a ++ " " ++ y) x
theorem jf_app (a:Str):∀ (xs:List Str) (b:Str),jf (a ++ b) xs=a ++ jf b xs
 | [],_=>rfl
 | y :: r,b=>by
  show jf (a ++ b ++ " " ++ y) r=a ++ jf (b ++ " " ++ y) r
  rw [← jf_app a r (b ++ " " ++ y),app_assoc,app_assoc,← app_assoc b]
theorem jn_cons:∀ (xs:List Str) (x:Str),jn (x :: xs)=jf x xs
 | [],_=>rfl
 | y :: r,x=>by
  show x ++ " " ++ jn (y :: r)=jf (x ++ " " ++ y) r
  rw [jn_cons r y,jf_app]
theorem wt_ok {xs:List Str} (h:∀ y∈xs,y.length≤8) (hl:xs.length≤100):(xs.map (·.length)).sum+xs.length≤1048576:=by
 have key:∀ ys:List Str,(∀ y∈ys,y.length≤8)→(ys.map (·.length)).sum≤8 * ys.length:=by
  intro ys
  induction ys with
  | nil=>intro _;simp
  | cons y r ih =>
   intro h
   have h1:=ih fun z hz=>h z (List.mem_cons_of_mem _ hz)
   have h2:=h y (List.mem_cons_self ..)
   simp only [List.map_cons,List.sum_cons,List.length_cons]
   omega
 have:=key xs h
 omega
def gln (g:Gt):Str:=jn (g.1 :: "is" :: g.2.1 :: g.2.2)
def netL (ins:List Str) (gs:List Gt) (outs:List Str):List Str:=jn ("in" :: ins) :: (gs.map gln ++ [jn ("out" :: outs)])
structure Small (ins:List Str) (gs:List Gt) (outs:List Str):Prop where
 i:∀ n∈ins,n.length≤8
 g:∀ g∈gs,g.1.length≤8∧g.2.1.length≤8∧(∀ n∈g.2.2,n.length≤8)∧g.2.2.length≤6
 o:∀ n∈outs,n.length≤8
 il:ins.length≤20
 gl:gs.length≤100
 ol:outs.length≤20
theorem WN.small {ins:List Str}{gs:List Gt}{outs:List Str} (W:WN ins gs outs):Small ins gs outs:=by
 have nl:∀ n∈ins ++ gs.map (·.1),n.length≤8:=fun n hn=>by
  have:=(W.nm n hn).1
  have h2:=this.2
  rw [len_cps] at h2
  exact h2
 have wl:∀ w∈wordsS,w.length≤8:=by decide +kernel
 refine ⟨fun n hn=>nl n (List.mem_append_left _ hn),fun g hg=>?_,fun n hn=>nl n (W.wo n hn),by have:=W.i1;omega,by have:=W.gl;omega,by have:=W.o1;omega⟩
 obtain ⟨i,hi⟩:=List.getElem?_of_mem hg
 obtain ⟨h1,h2,h3⟩:=ME.WG.at W.wg hi
 refine ⟨nl _ (List.mem_append_right _ (List.mem_map.mpr ⟨g,hg,rfl⟩)),wl _ h2.2.1,fun n hn=>?_,h3⟩
 have:=h1 n hn
 refine nl n ?_
 rcases List.mem_append.mp this with e | e
 ·exact List.mem_append_left _ e
 ·refine List.mem_append_right _ ?_
  obtain ⟨g',hg',rfl⟩:=List.mem_map.mp e
  exact List.mem_map.mpr ⟨g',List.mem_of_mem_take hg',rfl⟩
def sp_written (a:Adr) (_:PySem.W.Frag):Sp:=fun vs H Q _=>∃ (x:Addr) (ins:List Str) (gs:List Gt) (outs:List Str),vs=[.ref x]∧NetO a H x ins gs outs∧Small ins gs outs∧∀ p H',Mad H p (.lst ((netL ins gs outs).map V.str)) H'→Q (.ref p) H'
def rd_written (K:PySem.W.Frag):TS:=(tSeq (tAsg (tLst (tCons (tBM K "str" (rJoin K) (tC (.str " ")) (tCons (tOp cAdd (tLst (tCons (tC (.str "in")) tNil)) (tCB (cList K) (tCons (tFld K (cVar 0) "inputs") tNil))) tNil)) tNil)) (gName 1))
  (tSeq (tFor (iTup K (tFld K (cVar 0) "gates")) (gTup K 3 (gCons (gName 2) (gCons (gName 3) (gCons (gName 4) gNil)))) (tDrop (tBM K "list" rAppend (cVar 1) (tCons (tBM K "str" (rJoin K) (tC (.str " ")) (tCons (tOp cAdd (tLst (tCons (cVar 2) (tCons (tC (.str "is")) (tCons (cVar 3) tNil)))) (tCB (cList K) (tCons (cVar 4) tNil))) tNil)) tNil))))
  (tSeq (tDrop (tBM K "list" rAppend (cVar 1) (tCons (tBM K "str" (rJoin K) (tC (.str " ")) (tCons (tOp cAdd (tLst (tCons (tC (.str "out")) tNil)) (tCB (cList K) (tCons (tFld K (cVar 0) "outputs") tNil))) tNil)) tNil)))
  (tRet (cVar 1)))))
theorem tm_written (T:Txt w K mg a) {cdv:Value}{A:Around}{outer:List Env}{s:Shared}{H:Hp}{E:XK} (hr:Room 0 (A.deeper (envOfC "written" (defScope s_written) s.heap.objs.size a.f_written cdv))) :
  PSs (cxOf CX0 P w K mg base N_written "written" (defScope s_written) a.f_written cdv A outer s H E).nox (defBody s_written) (rd_written K) :=
 (pss_cons (ps_set (i:=1) sc_written.nd rfl (by walk_at "o") (pe_lst (pa_cons (pe_bm PySem.F.plainAttrs_str PySem.F.slot_str_join PySem.F.type_str_join mt_join pe_str (pa_cons (pe_op o_add (pe_lst (pa_cons pe_str pa_nil)) (pe_callTy c_list (by rfl) T.no_list PyProof.Rows.boot_list (pa_cons (pe_fld (cv 0) rfl) pa_nil))) pa_nil)) pa_nil)))
   (pss_cons (ps_for PassesOwn.never rfl (pi_tup (pe_fld (cv 0) rfl)) (pg_tup rfl (pgs_cons (pg_name (i:=2) sc_written.nd rfl (by walk_at "o")) (pgs_cons (pg_name (i:=3) sc_written.nd rfl (by walk_at "o")) (pgs_cons (pg_name (i:=4) sc_written.nd rfl (by walk_at "o")) pgs_nil)))) (pss_one (ps_expr (pe_bm PySem.F.plainAttrs_list PySem.F.slot_list_append PySem.F.type_list_append (mtr mt_append) (cv 1) (pa_cons (pe_bm PySem.F.plainAttrs_str PySem.F.slot_str_join PySem.F.type_str_join mt_join pe_str (pa_cons (pe_op o_add (pe_lst (pa_cons (cv 2) (pa_cons pe_str (pa_cons (cv 3) pa_nil)))) (pe_callTy c_list (by rfl) T.no_list PyProof.Rows.boot_list (pa_cons (cv 4) pa_nil))) pa_nil)) pa_nil)))))
   (pss_cons (ps_expr (pe_bm PySem.F.plainAttrs_list PySem.F.slot_list_append PySem.F.type_list_append (mtr mt_append) (cv 1) (pa_cons (pe_bm PySem.F.plainAttrs_str PySem.F.slot_str_join PySem.F.type_str_join mt_join pe_str (pa_cons (pe_op o_add (pe_lst (pa_cons pe_str pa_nil)) (pe_callTy c_list (by rfl) T.no_list PyProof.Rows.boot_list (pa_cons (pe_fld (cv 0) rfl) pa_nil))) pa_nil)) pa_nil)))
   (pss_one (ps_ret (cv 1))))))
theorem ok_written (T:Txt w K mg a):FnOk P w K mg base CX0 1 a.f_written a.d_written ["net"] (sp_written a K):=by
 refine T.fn_written.ok sc_written (fun vs H Q E h=>?_) (fun cdv A outer s H vs Q E hr h=>⟨_,tm_written T hr,?_⟩)
 ·obtain ⟨x,ins,gs,outs,rfl,_⟩:=h;rfl
 ·obtain ⟨x,ins,gs,outs,rfl,hN,hS,q⟩:=h
  show rd_written K _ [some (.ref x),none,none,none,none] H
  unfold rd_written
  obtain ⟨dx,t1,t2,t3,ts,hx,h1,h2,h3,h4⟩:=hN
  have big:(1000:Nat)≤sizeLine:=by decide
  have hin:Str.length "in" = 2:=by decide +kernel
  have hout:Str.length "out" = 3:=by decide +kernel
  have his:Str.length "is" = 2:=by decide +kernel
  have hsp:Str.length " " = 1:=by decide +kernel
  have il:=hS.il
  have gl:=hS.gl
  have ol:=hS.ol
  walk_at "gs"
  intro r1 H1 n1
  refine ⟨x,a.c_Net,dx,_,_,rfl,n1.same _ _ hx,T.cl_Net,T.na_Net_inputs,rfl,?_⟩
  walk_at "gs"
  refine ⟨_,.inr (.of (n1.same _ _ h1)),fun r2 H2 n2=>?_⟩
  walk_at "gs"
  refine ⟨_,_,n2.same _ _ n1.at_,n2.at_,by simp only [List.length_map,List.length_cons,List.length_nil];omega,fun r3 hr3=>?_⟩
  walk_at "gs"
  have s3:Same H (upd H2 r3 (.lst (V.str "in" :: ins.map V.str))):=(n1.same.trans n2.same).trans (same_upd hr3)
  refine ⟨"in" :: ins,.of upd_same,wt_ok (fun y hy=>?_) (by simp only [List.length_cons];omega),by omega,?_⟩
  ·rcases List.mem_cons.mp hy with rfl | hy
   ·omega
   ·exact hS.i y hy
  generalize upd H2 r3 (.lst (V.str "in" :: ins.map V.str))=H3 at s3 ⊢
  walk_at "gs"
  refine ⟨by show 1≤sizeLine;omega,fun pl H4 n4=>?_⟩
  walk_at "gs"
  refine ⟨x,a.c_Net,dx,_,_,rfl,n4.same _ _ (s3 _ _ hx),T.cl_Net,T.na_Net_gates,rfl,?_⟩
  walk_at "gs"
  have hpl:H pl=none:=s3.nil n4.was
  refine ⟨⟨_,.of (n4.same _ _ (s3 _ _ h2))⟩,for_tupG (xs:=ts) (fun i σ H5=>Same H H5∧H5 pl=some (.lst ((jn ("in" :: ins) :: (gs.take i).map gln).map V.str))∧∃ v2 v3 v4,σ=[some (.ref x),some (.ref pl),v2,v3,v4]) ⟨s3.trans n4.same,n4.at_,_,_,_,rfl⟩ ?_ ?_ ?_⟩
  ·rintro i σ H5 _ ⟨s5,_⟩
   exact .of (s5 _ _ h2)
  ·rintro i v σ H5 hv ⟨s5,hp,v2,v3,v4,rfl⟩
   have hi:i<gs.length:=by rw [← h3.1];exact (List.getElem?_eq_some_iff.mp hv).1
   have hgi:gs[i]? = some gs[i]:=by simp [hi]
   obtain ⟨t,qq,e1,e2,e3⟩:=h3.2 i gs[i] hgi
   rw [hv] at e1
   cases e1
   obtain ⟨b1,b2,b3,b4⟩:=hS.g gs[i] (List.getElem_mem _)
   walk_at "gs"
   refine ⟨t,_,rfl,.of (s5 _ _ e2),rfl,_,_,rfl,_,_,rfl,_,_,rfl,rfl,?_⟩
   walk_at "gs"
   refine ⟨.inl ⟨by trivial,_,.of hp⟩,by trivial,by show 3≤sizeLine;omega,fun u1 H6 n6=>?_⟩
   walk_at "gs"
   refine ⟨_,.inr (.of (n6.same _ _ (s5 _ _ e3))),fun u2 H7 n7=>?_⟩
   walk_at "gs"
   refine ⟨_,_,n7.same _ _ n6.at_,n7.at_,by simp only [List.length_map,List.length_cons,List.length_nil];omega,fun u3 hu3=>?_⟩
   walk_at "gs"
   have s8:Same H5 (upd H7 u3 (.lst (V.str gs[i].1 :: V.str "is" :: V.str gs[i].2.1 :: gs[i].2.2.map V.str))):=(n6.same.trans n7.same).trans (same_upd hu3)
   refine ⟨gs[i].1 :: "is" :: gs[i].2.1 :: gs[i].2.2,.of upd_same,wt_ok (fun y hy=>?_) (by simp only [List.length_cons];omega),by omega,?_⟩
   ·rcases List.mem_cons.mp hy with rfl | hy
    ·exact b1
    rcases List.mem_cons.mp hy with rfl | hy
    ·omega
    rcases List.mem_cons.mp hy with rfl | hy
    ·exact b2
    ·exact b3 y hy
   refine ⟨pl,_,_,rfl,rfl,s8 _ _ hp,by simp only [List.length_map,List.length_cons,List.length_take];omega,(s5.trans s8).put hpl,?_,_,_,_,rfl⟩
   rw [upd_same,List.take_add_one,hgi,List.map_append,List.map_cons,List.map_cons,List.map_append]
   rfl
  ·rintro σ H5 ⟨s5,hp,v2,v3,v4,rfl⟩
   rw [h3.1,List.take_length] at hp
   walk_at "gs"
   refine ⟨.inl ⟨by trivial,_,.of hp⟩,by trivial,by show 1≤sizeLine;omega,fun u1 H6 n6=>?_⟩
   refine ⟨x,a.c_Net,dx,_,_,rfl,n6.same _ _ (s5 _ _ hx),T.cl_Net,T.na_Net_outputs,rfl,?_⟩
   walk_at "gs"
   refine ⟨_,.inr (.of (n6.same _ _ (s5 _ _ h4))),fun u2 H7 n7=>?_⟩
   walk_at "gs"
   refine ⟨_,_,n7.same _ _ n6.at_,n7.at_,by simp only [List.length_map,List.length_cons,List.length_nil];omega,fun u3 hu3=>?_⟩
   walk_at "gs"
   have s8:Same H5 (upd H7 u3 (.lst (V.str "out" :: outs.map V.str))):=(n6.same.trans n7.same).trans (same_upd hu3)
   refine ⟨"out" :: outs,.of upd_same,wt_ok (fun y hy=>?_) (by simp only [List.length_cons];omega),by omega,?_⟩
   ·rcases List.mem_cons.mp hy with rfl | hy
    ·omega
    ·exact hS.o y hy
   refine ⟨pl,_,_,rfl,rfl,s8 _ _ hp,by simp only [List.length_map,List.length_cons];omega,?_⟩
   walk_at "gs"
   refine q pl _ ⟨hpl,?_,(s5.trans s8).put hpl⟩
   rw [upd_same]
   unfold netL
   rw [List.map_cons,List.map_cons,List.map_append]
   rfl
def okC (c:Nat):Bool:=if c=32 then true else decide (97≤c∧c≤122)
def okT (z:Str):Bool:=z.cps.toList.all okC
def cutB (l:List Nat):List (List Nat):=cutW (fun c=>decide (c=32)) l []
def mkS (l:List Nat):Str:=⟨l.toArray⟩
def wrds (z:Str):List Str:=if okT z=true then (cutB z.cps.toList).map mkS else []
theorem space_ok {c:Nat} (h:okC c=true):Unicode.isSpace c=decide (c=32):=by
 unfold okC at h
 by_cases e:c=32
 ·subst e;decide +kernel
 ·rw [if_neg e] at h
  have h':=of_decide_eq_true h
  rw [decide_eq_false e]
  have key:∀ d:Fin 26,Unicode.isSpace (97+d.val)=false:=by decide +kernel
  have:=key ⟨c - 97,by omega⟩
  have e2:97+(⟨c - 97,by omega⟩:Fin 26).val=c:=by show 97+(c - 97)=c;omega
  rw [e2] at this
  exact this
theorem words_ok {z:Str} (h:okT z=true):Txt.words z=wrds z:=by
 unfold wrds
 rw [if_pos h,words_str]
 unfold cutB
 rw [cutW_congr z.cps.toList [] fun c hc=>space_ok (List.all_eq_true.mp h c hc)]
 rfl
theorem one_eq (c:Nat):(⟨#[c]⟩:Str) = " " ↔ c=32:=by
 have e:(" " : Str)=⟨#[32]⟩:=by decide +kernel
 rw [e]
 constructor
 ·intro h;simpa using congrArg (fun s:Str=>s.cps.toList) h
 ·rintro rfl;rfl
def sp_words (_:PySem.W.Frag):Sp:=fun vs H Q _=>∃ z:Str,vs=[.str z]∧z.length≤8000∧∀ p H',Mad H p (.lst ((wrds z).map V.str)) H'→Q (.ref p) H'
def rd_words (a:Adr) (K:PySem.W.Frag):TS:=(tSeq (tIfS (tNot (cTru K (tCB (cAll K) (tCons (tComp (iStr (cVar 0)) 1 [] (gName 0) tTrue (cOrV (tOp (cEq K) (cVar 0) (tC (.str " "))) (tOp (cIn K false) (cVar 0) (tC (gv_LETTERS a))))) tNil)))) (tRet (tLst tNil)) tNext)
  (tRet (tBM0 K "str" rSplit (cVar 0))))
theorem tm_words (T:Txt w K mg a) {cdv:Value}{A:Around}{outer:List Env}{s:Shared}{H:Hp}{E:XK} (hr:Room 0 (A.deeper (envOfC "words" (defScope s_words) s.heap.objs.size a.f_words cdv))) :
  PSs (cxOf CX0 P w K mg base N_words "words" (defScope s_words) a.f_words cdv A outer s H E).nox (defBody s_words) (rd_words a K) :=
 (pss_cons (ps_if (pt_not (pt_tru (pe_callB (c_all rfl) (by rfl) T.no_all PyProof.Rows.boot_all (pa_cons (pe_comp (N:=["sign"]) (k:=1) (sel:=[]) (CScope.of (defScope s_words).names (by decide +kernel)) (CNames.of N_words (by decide +kernel)) rfl (pi_str (cv 0)) (fun _ _ _ _=>(pg_name (i:=0) (show List.Nodup (["sign"]:List Str) by decide +kernel) rfl (by walk_at "o"))) (fun _ _ _ _=>pts_nil) (fun _ _ _ _=>(e_or (pe_cmpR (o_eq (hr8 hr)) (cv 0) pe_str (nomark _)) (pe_one (pe_cmpR o_in (cv 0) (pe_globE rfl T.gx_LETTERS) (by with_unfolding_all rfl)))))) pa_nil)))) (pss_one (ps_ret (pe_lst pa_nil))) pss_nil)
   (pss_one (ps_ret (pe_bm0 PySem.F.plainAttrs_str PySem.F.slot_str_split PySem.F.type_str_split mt_split (cv 0)))))
theorem ok_words (T:Txt w K mg a):FnOk P w K mg base CX0 1 a.f_words a.d_words ["text"] (sp_words K):=by
  refine T.fn_words.ok sc_words (fun vs H Q E h=>?_) (fun cdv A outer s H vs Q E hr h=>⟨_,tm_words T hr,?_⟩)
  · obtain ⟨z,rfl,_⟩:=h;rfl
  · obtain ⟨z,rfl,hz,q⟩:=h
    show rd_words a K _ [some (.str z)] H
    unfold rd_words gv_LETTERS
    walk_at "go"
    have hz':z.length≤sizeLine:=Nat.le_trans hz (by decide)
    refine compG_str (fun c=>.bl (okC c)) rfl hz' ?_ ?_
    · intro c H' Q' hc _ q'
      walk_at "go"
      unfold okC at q'
      by_cases e:c=32
      · rw [if_pos e] at q'
        rw [if_pos ((one_eq c).mpr e)]
        exact q'
      · rw [if_neg e] at q'
        rw [if_neg (fun z=>e ((one_eq c).mp z))]
        have:=strIn_letter c
        unfold L2.lettersS at this
        rw [this]
        exact q'
    · intro p H1 n1
      walk_at "go"
      refine ⟨z.cps.toList.map okC,by rw [List.map_map];exact n1.sq,?_⟩
      have e2:(z.cps.toList.map okC).all id=okT z:=by rw [List.all_map];rfl
      rw [e2]
      cases ho:okT z with
      | false =>
        walk_at "go"
        have e3:wrds z=[]:=by unfold wrds;rw [ho];rfl
        rw [e3] at q
        exact ⟨by decide,fun p2 H2 n2=>q _ _ ((Mad.pre n1.same n2.mad))⟩
      | true =>
        walk_at "go"
        refine ⟨by trivial, by have : (10000 : Nat) ≤ sizeLine := by decide
                               omega,fun p2 H2 n2=>q _ _ (Mad.pre n1.same ?_)⟩
        rw [← words_ok ho]
        exact n2.mad
open GM
def okSigns (z:Str):Bool:=z.cps.toList.all fun c=>strIn ⟨#[c]⟩ L2.lettersS
def isNm (z:Str):Bool:=if (z.length:Int)<1 then false else if (8:Int)<z.length then false else if inV (.str z) nearV=true then false else okSigns z
def sp_is_name (_:PySem.W.Frag):Sp:=fun vs H Q _=>∃ z:Str,vs=[.str z]∧z.length≤8000∧∀ H',Same H H'→Q (.bl (isNm z)) H'
def rd_is_name (a:Adr) (K:PySem.W.Frag):TS:=(tSeq (tIfS (tOr (cTst (tOp (cI2 fun i j=>.bl (decide (i<j))) (tCB (cLen K) (tCons (cVar 0) tNil)) (tC (.int 1)))) (tOr (cTst (tOp (cI2 fun i j=>.bl (decide (j<i))) (tCB (cLen K) (tCons (cVar 0) tNil)) (tC (gv_LONGEST_NAME a)))) (cTst (tOp (cIn K false) (cVar 0) (tC (gv_KEPT_WORDS a)))))) (tRet (tC (.bl false))) tNext)
  (tRet (tCB (cAll K) (tCons (tComp (iStr (cVar 0)) 1 [] (gName 0) tTrue (tOp (cIn K false) (cVar 0) (tC (gv_LETTERS a)))) tNil))))
theorem tm_is_name (T:Txt w K mg a) {cdv:Value}{A:Around}{outer:List Env}{s:Shared}{H:Hp}{E:XK} (hr:Room 0 (A.deeper (envOfC "is_name" (defScope s_is_name) s.heap.objs.size a.f_is_name cdv))) :
  PSs (cxOf CX0 P w K mg base N_is_name "is_name" (defScope s_is_name) a.f_is_name cdv A outer s H E).nox (defBody s_is_name) (rd_is_name a K) :=
 (pss_cons (ps_if (PW.pt (pw_or (t_cmp o_lt (pe_callB c_len (by rfl) T.no_len PySem.boot_len (pa_cons (cv 0) pa_nil)) pe_int (nomark _)) (pw_or (t_cmp o_gt (pe_callB c_len (by rfl) T.no_len PySem.boot_len (pa_cons (cv 0) pa_nil)) (pe_globE rfl T.gx_LONGEST_NAME) (nomark _)) (pw_or1 (t_cmp o_in (cv 0) (pe_globE rfl T.gx_KEPT_WORDS) (by with_unfolding_all rfl)))))) (pss_one (ps_ret pe_bl)) pss_nil)
   (pss_one (ps_ret (pe_callB (c_all rfl) (by rfl) T.no_all PyProof.Rows.boot_all (pa_cons (pe_comp (N:=["sign"]) (k:=1) (sel:=[]) (CScope.of (defScope s_is_name).names (by decide +kernel)) (CNames.of N_is_name (by decide +kernel)) rfl (pi_str (cv 0)) (fun _ _ _ _=>(pg_name (i:=0) (show List.Nodup (["sign"]:List Str) by decide +kernel) rfl (by walk_at "o"))) (fun _ _ _ _=>pts_nil) (fun _ _ _ _=>(pe_cmpR o_in (cv 0) (pe_globE rfl T.gx_LETTERS) (by with_unfolding_all rfl)))) pa_nil)))))
theorem ok_is_name (T:Txt w K mg a):FnOk P w K mg base CX0 1 a.f_is_name a.d_is_name ["text"] (sp_is_name K):=by
 refine T.fn_is_name.ok sc_is_name (fun vs H Q E h=>?_) (fun cdv A outer s H vs Q E hr h=>⟨_,tm_is_name T hr,?_⟩)
 ·obtain ⟨z,rfl,_⟩:=h;rfl
 ·obtain ⟨z,rfl,hz,q⟩:=h
  show rd_is_name a K _ [some (.str z)] H
  unfold rd_is_name gv_LETTERS gv_LONGEST_NAME gv_KEPT_WORDS
  walk_at "go"
  have hz':z.length≤sizeLine:=Nat.le_trans hz (by decide)
  unfold isNm at q
  refine ⟨hz',?_⟩
  by_cases h1:(z.length:Int)<1
  ·rw [if_pos h1] at q ⊢
   exact q H (Same.refl _)
  rw [if_neg h1] at q ⊢
  refine ⟨hz',?_⟩
  by_cases h2:(8:Int)<z.length
  ·rw [if_pos h2] at q ⊢
   exact q H (Same.refl _)
  rw [if_neg h2] at q ⊢
  refine ⟨gl_KEPT_WORDS,.inr (T.gs_KEPT_WORDS H),rfl,by decide +kernel,?_⟩
  have e:gl_KEPT_WORDS=nearV:=rfl
  rw [e]
  walk_at "go"
  by_cases h3:inV (.str z) nearV=true
  ·rw [if_pos h3] at q ⊢
   exact q H (Same.refl _)
  rw [if_neg h3] at q ⊢
  refine compG_str (fun c=>.bl (strIn ⟨#[c]⟩ L2.lettersS)) rfl hz' ?_ ?_
  ·intro c H' Q' hc _ q'
   walk_at "go"
   exact q'
  ·intro p H' n
   walk_at "go"
   refine ⟨z.cps.toList.map fun c=>strIn ⟨#[c]⟩ L2.lettersS,?_,?_⟩
   ·rw [List.map_map];exact n.sq
   ·have e2:(z.cps.toList.map fun c=>strIn ⟨#[c]⟩ L2.lettersS).all id=okSigns z:=by rw [List.all_map];rfl
    rw [e2]
    exact q H' n.same
def hasP (w:Str) (n:Nat):Bool:=match mdV gl_PART_COUNTS w with
 | some [.int lo,.int hi]=>decide (lo≤(n:Int)) && decide ((n:Int)≤hi)
 | _=>false
def pairI:List V→Bool | [.int _,.int _]=>true | _=>false
theorem pair_of {xs:List V} (h:pairI xs=true):∃ lo hi,xs=[.int lo,.int hi]:=by
 unfold pairI at h
 split at h
 ·exact ⟨_,_,rfl⟩
 ·cases h
theorem md_pair {w:Str}{xs:List V} (h:mdV gl_PART_COUNTS w=some xs):∃ lo hi,xs=[.int lo,.int hi]:=by
 unfold mdV at h
 obtain ⟨kv,h1,h2⟩:=Option.map_eq_some_iff.mp h
 have hm:=List.mem_of_find?_eq_some h1
 have key:gl_PART_COUNTS.all (fun kv=>pairI kv.2)=true:=by decide +kernel
 rw [← h2]
 exact pair_of (List.all_eq_true.mp key kv hm)
def sp_has_parts (_:PySem.W.Frag):Sp:=fun vs H Q _=>∃ (w:Str) (n:Nat),vs=[.str w,.int n]∧Q (.bl (hasP w n)) H
def rd_has_parts (K:PySem.W.Frag):TS:=(tSeq (tIfS (cTst (tMNotIn gl_PART_COUNTS (cVar 0))) (tRet (tC (.bl false))) tNext)
  (tSeq (tAsg (tMGet K gl_PART_COUNTS (cVar 0)) (gName 2))
  (tRet (cChain (cI2 fun i j=>.bl (decide (i≤j))) (cI2 fun i j=>.bl (decide (i≤j))) (tOp (cIx K) (cVar 2) (tC (.int 0))) (cVar 1) (tOp (cIx K) (cVar 2) (tC (.int 1)))))))
theorem tm_has_parts (T:Txt w K mg a) {cdv:Value}{A:Around}{outer:List Env}{s:Shared}{H:Hp}{E:XK} (hr:Room 0 (A.deeper (envOfC "has_parts" (defScope s_has_parts) s.heap.objs.size a.f_has_parts cdv))) :
  PSs (cxOf CX0 P w K mg base N_has_parts "has_parts" (defScope s_has_parts) a.f_has_parts cdv A outer s H E).nox (defBody s_has_parts) (rd_has_parts K) :=
 (pss_cons (ps_if (t_pc (pc_mnotin T.gm_PART_COUNTS (cv 0) (pe_globE rfl T.gx_PART_COUNTS))) (pss_one (ps_ret pe_bl)) pss_nil)
   (pss_cons (ps_set (i:=2) sc_has_parts.nd rfl (by walk_at "o") (pe_mget T.gm_PART_COUNTS (pe_globE rfl T.gx_PART_COUNTS) (cv 0) (fun _ _=>rfl)))
   (pss_one (ps_ret (e_chain o_le o_le (pe_ix i_seq (cv 2) pe_int (fun _ _=>rfl)) (cv 1) (pe_ix i_seq (cv 2) pe_int (fun _ _=>rfl)))))))
theorem ok_has_parts (T:Txt w K mg a):FnOk P w K mg base CX0 1 a.f_has_parts a.d_has_parts ["word","count"] (sp_has_parts K):=by
 refine T.fn_has_parts.ok sc_has_parts (fun vs H Q E h=>?_) (fun cdv A outer s H vs Q E hr h=>⟨_,tm_has_parts T hr,?_⟩)
 ·obtain ⟨w,n,rfl,_⟩:=h;rfl
 ·obtain ⟨wd,n,rfl,q⟩:=h
  show rd_has_parts K _ [some (.str wd),some (.int n),none] H
  unfold rd_has_parts
  walk_at "go"
  unfold hasP at q
  refine ⟨wd,rfl,?_⟩
  cases hm:mdV gl_PART_COUNTS wd with
  | none =>
   rw [hm] at q
   rw [if_pos (show (none:Option (List V)).isSome=false from rfl)]
   exact q
  | some xs =>
   obtain ⟨lo,hi,rfl⟩:=md_pair hm
   rw [hm] at q
   rw [if_neg (by simp)]
   refine ⟨wd,_,rfl,hm,fun p hp=>⟨_,_,.inr (hp H),rfl,?_⟩⟩
   show if lo≤(n:Int) then _ else _
   by_cases h1:lo≤(n:Int)
   ·rw [if_pos h1]
    refine ⟨_,_,.inr (hp H),rfl,?_⟩
    simpa [h1] using q
   ·rw [if_neg h1]
    simpa [h1] using q
theorem isNm_of {z:Str} (h:NM.Nm z.cps.toList) (hn:inV (.str z) nearV=false):isNm z=true:=by
 have l1:=h.1
 have l2:=h.2
 rw [len_cps] at l1 l2
 unfold isNm
 rw [if_neg (by omega),if_neg (by omega),if_neg (by rw [hn];simp)]
 unfold okSigns
 rw [List.all_eq_true]
 intro c hc
 rw [strIn_letter]
 exact decide_eq_true (h.3 c hc)
theorem hasP_of {w:Str}{n:Nat} (h:Ar6 w n):hasP w n=true:=by
 obtain ⟨⟨a1,a2,a3⟩,hw,h6,h2,h0⟩:=h
 unfold wordsS at hw
 simp only [List.mem_cons,List.not_mem_nil,or_false] at hw
 have b1:∀ n:Nat,hasP "and" n=(decide ((2:Int)≤n) && decide ((n:Int)≤6)):=fun _=>rfl
 have b2:∀ n:Nat,hasP "or" n=(decide ((2:Int)≤n) && decide ((n:Int)≤6)):=fun _=>rfl
 have b3:∀ n:Nat,hasP "either" n=(decide ((2:Int)≤n) && decide ((n:Int)≤6)):=fun _=>rfl
 rcases hw with rfl | rfl | rfl | rfl | rfl | rfl | rfl | rfl
 ·have:=h2 (.inl rfl);rw [b1];simp only [Bool.and_eq_true,decide_eq_true_eq];omega
 ·have:=h2 (.inr (.inl rfl));rw [b2];simp only [Bool.and_eq_true,decide_eq_true_eq];omega
 ·have:=h2 (.inr (.inr rfl));rw [b3];simp only [Bool.and_eq_true,decide_eq_true_eq];omega
 ·rw [a1 rfl];rfl
 ·rw [a2 rfl];rfl
 ·rw [a3 rfl];rfl
 ·rw [h0 (.inl rfl)];rfl
 ·rw [h0 (.inr rfl)];rfl
theorem at0 (f:Str) (xs:List Str):atI ((f :: xs).map V.str) 0=some (.str f):=by
 rw [atI_ok .non (by omega) (by rw [List.length_map,List.length_cons];omega)];rfl
theorem at1 (f g:Str) (xs:List Str):atI ((f :: g :: xs).map V.str) 1=some (.str g):=by
 rw [atI_ok .non (by omega) (by rw [List.length_map,List.length_cons,List.length_cons];omega)];rfl
theorem at2 (f g h:Str) (xs:List Str):atI ((f :: g :: h :: xs).map V.str) 2=some (.str h):=by
 rw [atI_ok .non (by omega) (by rw [List.length_map,List.length_cons,List.length_cons,List.length_cons];omega)];rfl
theorem cutN {xs:List Str}{k:Nat} (h:k≤xs.length):cutV (xs.map V.str) (some (k:Int)) none=(xs.drop k).map V.str:=by
 unfold cutV
 have e1:HT.sIx (xs.map V.str).length 0 (some (k:Int))=k:=by rw [HT.sIx_nat,List.length_map];omega
 have e2:HT.sIx (xs.map V.str).length (xs.map V.str).length none=xs.length:=by rw [HT.sIx_none,List.length_map]
 rw [e1,e2,← List.map_drop,List.take_of_length_le (by rw [List.length_map,List.length_drop];exact Nat.le_refl _)]
def KS (H:Hp) (d:Addr) (L:List Str):Prop:=∃ kvs:List (Key × V),H d=some (.dK kvs)∧kvs.length≤L.length∧∀ z:Str,(valV kvs (Sum.inr z)).isSome=true ↔ z∈L
theorem KS.same {H H':Hp}{d:Addr}{L:List Str} (s:Same H H') (h:KS H d L):KS H' d L:=let ⟨kvs,a,b⟩:=h;⟨kvs,s _ _ a,b⟩
def Flies (H:Hp) (C:Addr) (E:XK):Prop:=∀ H' e,Same H H'→H' e=none→E (.ref e) (some C) H'
theorem Flies.pre {H H':Hp}{C:Addr}{E:XK} (s:Same H H') (f:Flies H C E):Flies H' C E:=fun H2 e s2 he=>f H2 e (s.trans s2) he
def sp_names_behind (a:Adr) (K:PySem.W.Frag):Sp:=fun vs H Q E=>∃ (f:Str) (m:Nat) (p:Addr) (row:List Str),vs=[.str f,.int m,.ref p]∧SqL K H p (row.map V.str)∧f.length≤100∧(m=10∨m=16) ∧
 ((∃ xs,row=f :: xs∧1≤xs.length∧xs.length≤m∧∀ q H',New H q (.lst (xs.map V.str)) H'→Q (.ref q) H')∨((¬ ∃ xs,row=f :: xs∧1≤xs.length∧xs.length≤m)∧Flies H a.c_NoLine E))
def rd_names_behind (a:Adr) (K:PySem.W.Frag) (E:XK):TS:=(tSeq (tIfS (tOr (cTst (tOp (cI2 fun i j=>.bl (decide (i<j))) (tCB (cLen K) (tCons (cVar 2) tNil)) (tC (.int 2)))) (tOr (cTst (tOp (cI2 fun i j=>.bl (decide (j<i))) (tCB (cLen K) (tCons (cVar 2) tNil)) (tOp cAdd (cVar 1) (tC (.int 1))))) (cTst (tOp (cNe K) (tOp (cIx K) (cVar 2) (tC (.int 0))) (cVar 0))))) (tRaise a.c_NoLine (tCons (tFS (fVal (cVar 0) (fVal (cVar 1) fNil))) tNil) E) tNext)
  (tRet (tSl (cSlU K) (cVar 2) (cPart (tC (.int 1))) tNoPart)))
theorem tm_names_behind (T:Txt w K mg a) {cdv:Value}{A:Around}{outer:List Env}{s:Shared}{H:Hp}{E:XK} (hr:Room 0 (A.deeper (envOfC "names_behind" (defScope s_names_behind) s.heap.objs.size a.f_names_behind cdv))) :
  PSs (cxOf (CX1 P w) P w K mg base N_names_behind "names_behind" (defScope s_names_behind) a.f_names_behind cdv A outer s H E) (defBody s_names_behind) (rd_names_behind a K E) :=
 (pss_cons (ps_if (PW.pt (pw_or (t_cmp o_lt (pe_callB c_len (by rfl) T.no_len PySem.boot_len (pa_cons (cv 2) pa_nil)) pe_int (nomark _)) (pw_or (t_cmp o_gt (pe_callB c_len (by rfl) T.no_len PySem.boot_len (pa_cons (cv 2) pa_nil)) (pe_op o_add (cv 1) pe_int) (nomark _)) (pw_or1 (t_cmp (o_ne (hr8 hr)) (pe_ix i_seq (cv 2) pe_int (fun _ _=>rfl)) (cv 0) (nomark _)))))) (pss_one (ps_raise PySem.F.excBase_ValueError T.xi_NoLine (by decide) rfl T.mg_NoLine rfl xok_fn (pa_cons (pe_fstr (pf_c (by decide +kernel) (pf_v (cv 0) (pf_c (by decide +kernel) (pf_v (cv 1) (pf_c (by decide +kernel) pf_nil)))))) pa_nil))) pss_nil)
   (pss_one (ps_ret (pe_slice s_u (cv 2) (e_part pe_int) po_none))))
theorem ok_names_behind (T:Txt w K mg a):FnOk P w K mg base (CX1 P w) 1 a.f_names_behind a.d_names_behind ["first","most","row"] (sp_names_behind a K):=by
 refine T.fn_names_behind.okX sc_names_behind (fun vs H Q E h=>?_) (fun cdv A outer s H vs Q E hr h=>⟨_,tm_names_behind T hr,?_⟩)
 ·obtain ⟨f,m,p,row,rfl,_⟩:=h;rfl
 ·obtain ⟨f,m,p,row,rfl,hp,hf,hm,hq⟩:=h
  show rd_names_behind a K E _ [some (.str f),some (.int m),some (.ref p)] H
  unfold rd_names_behind
  walk_at "go"
  rcases hq with ⟨xs,rfl,h1,h2,q⟩ | ⟨hno,fl⟩
  ·have hl:((f :: xs).map V.str).length=xs.length+1:=by rw [List.length_map];rfl
   refine .inl ⟨_,.inl hp,?_⟩
   rw [hl,if_neg (by omega)]
   refine .inl ⟨_,.inl hp,?_⟩
   rw [hl,if_neg (by omega)]
   refine ⟨_,_,.inl hp,at0 _ _,?_⟩
   show if ¬ f=f then _ else _
   rw [if_neg (fun z=>z rfl)]
   refine ⟨_,hp,fun r H' n=>?_⟩
   have e:=cutN (xs:=f :: xs) (k:=1) (by rw [List.length_cons];omega)
   rw [show ((1:Nat):Int)=1 from rfl] at e
   rw [e] at n
   exact q r H' n
  ·have rz:okF (.str f)∧okF (.int (m:Int))∧∀ z:Str,[V.str z].length≤sizeLine∧∀ e:Addr,H e=none→E (.ref e) (some a.c_NoLine) H :=
    ⟨.inl ⟨f,rfl,by omega⟩,by rcases hm with rfl | rfl;exact .inr (.inl rfl);exact .inr (.inr rfl),fun z=>⟨by show 1≤sizeLine;decide,fun e he=>fl H e (Same.refl _) he⟩⟩
   refine .inl ⟨_,.inl hp,?_⟩
   rw [List.length_map]
   by_cases l1:(row.length:Int)<2
   ·rw [if_pos l1];exact rz
   rw [if_neg l1]
   refine .inl ⟨_,.inl hp,?_⟩
   rw [List.length_map]
   by_cases l2:(m:Int)+1<row.length
   ·rw [if_pos l2];exact rz
   rw [if_neg l2]
   match row,l1,l2,hno,hp with
   | [],l1,_,_,_=>exact absurd l1 (by simp)
   | x :: xs,l1,l2,hno,hp =>
    rw [List.length_cons] at l1 l2
    refine ⟨_,_,.inl hp,at0 _ _,?_⟩
    show if ¬ x=f then _ else _
    by_cases e:x=f
    ·subst e;exact absurd ⟨xs,rfl,by omega,by omega⟩ hno
    ·rw [if_pos e];exact rz
def sp_need_known (a:Adr) (K:PySem.W.Frag):Sp:=fun vs H Q E=>∃ (p d:Addr) (xs L:List Str),vs=[.ref p,.ref d]∧SqL K H p (xs.map V.str)∧KS H d L∧(∀ x∈xs,x.length≤8000) ∧
 (((∀ x∈xs,x∈L)∧Q .non H)∨((¬ ∀ x∈xs,x∈L)∧Flies H a.c_NoName E))
def rd_need_known (a:Adr) (K:PySem.W.Frag) (E:XK):TS:=(tFor (iList K (cVar 0)) (gName 2) (tIfS (cTst (tDNotIn (cVar 2) (cVar 1))) (tRaise a.c_NoName (tCons (tFS (fVal (cVar 2) fNil)) tNil) E) tNext))
theorem tm_need_known (T:Txt w K mg a) {cdv:Value}{A:Around}{outer:List Env}{s:Shared}{H:Hp}{E:XK} (hr:Room 0 (A.deeper (envOfC "need_known" (defScope s_need_known) s.heap.objs.size a.f_need_known cdv))) :
  PSs (cxOf (CX1 P w) P w K mg base N_need_known "need_known" (defScope s_need_known) a.f_need_known cdv A outer s H E) (defBody s_need_known) (rd_need_known a K E) :=
 (pss_one (ps_for passF rfl (pi_list (cv 0)) (pg_name (i:=2) sc_need_known.nd rfl (by walk_at "o")) (pss_one (ps_if (t_pc (pc_dnotin (hu_of hr) (cv 2) (cv 1))) (pss_one (ps_raise PySem.F.excBase_ValueError T.xi_NoName (by decide) rfl T.mg_NoName rfl xok_fn (pa_cons (pe_fstr (pf_v (cv 2) (pf_c (by decide +kernel) pf_nil))) pa_nil))) pss_nil))))
theorem ok_need_known (T:Txt w K mg a):FnOk P w K mg base (CX1 P w) 1 a.f_need_known a.d_need_known ["names","known"] (sp_need_known a K):=by
 refine T.fn_need_known.okX sc_need_known (fun vs H Q E h=>?_) (fun cdv A outer s H vs Q E hr h=>⟨_,tm_need_known T hr,?_⟩)
 ·obtain ⟨p,d,xs,L,rfl,_⟩:=h;rfl
 ·obtain ⟨p,d,xs,L,rfl,hp,hk,hx,hq⟩:=h
  show rd_need_known a K E _ [some (.ref p),some (.ref d),none] H
  unfold rd_need_known
  walk_at "go"
  refine ⟨⟨_,hp⟩,for_listG (xs:=xs.map V.str) (fun i σ H2=>H2=H∧(∀ x∈xs.take i,x∈L)∧∃ v,σ=[some (.ref p),some (.ref d),v]) ⟨rfl,by simp,_,rfl⟩ ?_ ?_ ?_⟩
  ·rintro i σ H2 _ ⟨rfl,_⟩
   exact hp
  ·rintro i x σ H2 hx' ⟨rfl,ht,v,rfl⟩
   obtain ⟨z,hz,rfl⟩:=get_map_of hx'
   have hzl:=hx z (List.mem_of_getElem? hz)
   obtain ⟨kvs,h1,h2,h3⟩:=id hk
   walk_at "go"
   refine ⟨d,_,rfl,.inl ⟨kvs,Sum.inr z,.inl h1,rfl,rfl⟩,?_⟩
   by_cases hin:z∈L
   ·rw [if_neg (by rw [(h3 z).mpr hin];decide)]
    refine ⟨trivial,fun y hy=>?_,_,rfl⟩
    rw [List.take_add_one,hz] at hy
    rcases List.mem_append.mp hy with e | e
    ·exact ht y e
    ·rw [List.mem_singleton.mp e];exact hin
   ·rw [if_pos (by cases hv:(valV kvs (Sum.inr z)).isSome with | false=>rfl | true=>exact absurd ((h3 z).mp hv) hin)]
    rcases hq with ⟨hall,_⟩ | ⟨_,fl⟩
    ·exact absurd (hall z (List.mem_of_getElem? hz)) hin
    ·exact ⟨.inl ⟨z,rfl,by omega⟩,fun y=>⟨by show 1≤sizeLine;decide,fun e he=>fl _ e (Same.refl _) he⟩⟩
  ·rintro σ H2 ⟨rfl,ht,v,rfl⟩
   rw [List.length_map,List.take_length] at ht
   walk_at "go"
   rcases hq with ⟨_,q⟩ | ⟨hn,_⟩
   ·exact q
   ·exact absurd ht hn
def InOk (ins:List Str):Prop:=(∀ z∈ins,isNm z=true)∧ins.Nodup
def sp_inputs_of (a:Adr) (K:PySem.W.Frag):Sp:=fun vs H Q E=>∃ (p:Addr) (row:List Str),vs=[.ref p]∧SqL K H p (row.map V.str)∧(∀ x∈row,x.length≤8000) ∧
 ((∃ ins:List Str,row=("in" : Str) :: ins∧1≤ins.length∧ins.length≤10∧((InOk ins∧∀ q H',Mad H q (.lst (ins.map V.str)) H'→Q (.ref q) H')∨(¬ InOk ins∧Flies H a.c_NoName E))) ∨
  ((¬ ∃ ins:List Str,row=("in" : Str) :: ins∧1≤ins.length∧ins.length≤10)∧Flies H a.c_NoLine E))
def rd_inputs_of (a:Adr) (K:PySem.W.Frag) (E:XK):TS:=(tSeq (tAsg (tCall (sp_names_behind a K) [] E (tCons (tC (.str "in")) (tCons (tC (gv_MOST_INPUTS a)) (tCons (cVar 0) tNil)))) (gName 1))
  (tSeq (tFor (iList K (cVar 1)) (gName 2) (tIfS (tNot (cTru K (tCall (sp_is_name K) [] E0 (tCons (cVar 2) tNil)))) (tRaise a.c_NoName (tCons (tFS (fVal (cVar 2) fNil)) tNil) E) tNext))
  (tSeq (tIfS (cTst (tOp (cI2 fun i j=>.bl (decide (i<j))) (cLenSet K (tCons (cVar 1) tNil)) (tCB (cLen K) (tCons (cVar 1) tNil)))) (tRaise a.c_NoName (tCons (tC (.str "an input is told twice")) tNil) E) tNext)
  (tRet (cVar 1)))))
theorem tm_inputs_of (T:Txt w K mg a) {cdv:Value}{A:Around}{outer:List Env}{s:Shared}{H:Hp}{E:XK} (hr:Room 1 (A.deeper (envOfC "inputs_of" (defScope s_inputs_of) s.heap.objs.size a.f_inputs_of cdv))) :
  PSs (cxOf (CX1 P w) P w K mg base N_inputs_of "inputs_of" (defScope s_inputs_of) a.f_inputs_of cdv A outer s H E) (defBody s_inputs_of) (rd_inputs_of a K E) :=
 (pss_cons (ps_set (i:=1) sc_inputs_of.nd rfl (by walk_at "o") (pe_call (ok_names_behind T) (hr.mono (by decide)) rfl T.mg_names_behind T.fn_names_behind.kp T.bi_names_behind .nil (pass1 xok_fn) (pa_cons pe_str (pa_cons (pe_globE rfl T.gx_MOST_INPUTS) (pa_cons (cv 0) pa_nil)))))
   (pss_cons (ps_for passF rfl (pi_list (cv 1)) (pg_name (i:=2) sc_inputs_of.nd rfl (by walk_at "o")) (pss_one (ps_if (pt_not (pt_tru (pe_call (ok_is_name T) (hr.mono (by decide)) rfl T.mg_is_name T.fn_is_name.kp T.bi_is_name .nil pass0 (pa_cons (cv 2) pa_nil)))) (pss_one (ps_raise PySem.F.excBase_ValueError T.xi_NoName (by decide) rfl T.mg_NoName rfl xok_fn (pa_cons (pe_fstr (pf_v (cv 2) (pf_c (by decide +kernel) pf_nil))) pa_nil))) pss_nil)))
   (pss_cons (ps_if (t_cmp o_lt (e_lenset rfl rfl rfl T.no_len T.no_set (pa_cons (cv 1) pa_nil)) (pe_callB c_len (by rfl) T.no_len PySem.boot_len (pa_cons (cv 1) pa_nil)) (nomark _)) (pss_one (ps_raise PySem.F.excBase_ValueError T.xi_NoName (by decide) rfl T.mg_NoName rfl xok_fn (pa_cons pe_str pa_nil))) pss_nil)
   (pss_one (ps_ret (cv 1))))))
theorem ok_inputs_of (T:Txt w K mg a):FnOk P w K mg base (CX1 P w) 2 a.f_inputs_of a.d_inputs_of ["row"] (sp_inputs_of a K):=by
 refine T.fn_inputs_of.okX sc_inputs_of (fun vs H Q E h=>?_) (fun cdv A outer s H vs Q E hr h=>⟨_,tm_inputs_of T hr,?_⟩)
 ·obtain ⟨p,row,rfl,_⟩:=h;rfl
 ·obtain ⟨p,row,rfl,hp,hrl,hq⟩:=h
  show rd_inputs_of a K E _ [some (.ref p),none,none] H
  unfold rd_inputs_of gv_MOST_INPUTS
  walk_at "go"
  refine ⟨"in",10,p,row,rfl,hp,by decide +kernel,.inl rfl,?_⟩
  rcases hq with ⟨ins,rfl,h1,h2,hq⟩ | ⟨hno,fl⟩
  ·refine .inl ⟨ins,rfl,h1,h2,fun r H1 n1=>?_⟩
   walk_at "go"
   refine ⟨⟨_,n1.sq⟩,for_listG (xs:=ins.map V.str) (fun i σ H2=>Same H1 H2∧(∀ z∈ins.take i,isNm z=true)∧∃ v,σ=[some (.ref p),some (.ref r),v]) ⟨Same.refl _,by simp,_,rfl⟩ ?_ ?_ ?_⟩
   ·rintro i σ H2 _ ⟨s2,_⟩
    exact s2.seq n1.sq
   ·rintro i x σ H2 hx' ⟨s2,ht,v,rfl⟩
    obtain ⟨z,hz,rfl⟩:=get_map_of hx'
    have hzl:=hrl z (List.mem_cons_of_mem _ (List.mem_of_getElem? hz))
    walk_at "go"
    refine ⟨z,rfl,hzl,fun H3 s3=>?_⟩
    cases hz':isNm z with
    | true =>
     walk_at "go"
     rw [if_neg (by decide)]
     refine ⟨s2.trans s3,fun y hy=>?_,_,rfl⟩
     rw [List.take_add_one,hz] at hy
     rcases List.mem_append.mp hy with e | e
     ·exact ht y e
     ·rw [List.mem_singleton.mp e];exact hz'
    | false =>
     walk_at "go"
     rcases hq with ⟨ok,_⟩ | ⟨_,fl⟩
     ·have:=ok.1 z (List.mem_of_getElem? hz);rw [hz'] at this;cases this
     ·exact ⟨.inl ⟨z,rfl,by omega⟩,fun y=>⟨by show 1≤sizeLine;decide,fun e he=>fl _ e (n1.same.trans (s2.trans s3)) he⟩⟩
   ·rintro σ H2 ⟨s2,ht,v,rfl⟩
    rw [List.length_map,List.take_length] at ht
    walk_at "go"
    refine ⟨ins,s2.seq n1.sq,by omega,fun n hn1 hn=>.inl ⟨_,.inl (s2.seq n1.sq),?_⟩⟩
    rw [List.length_map]
    rcases hq with ⟨ok,q⟩ | ⟨hn',fl⟩
    ·rw [hn.mpr ok.2,if_neg (by omega)]
     exact q _ _ ⟨n1.was,s2 _ _ n1.at_,n1.same.trans s2⟩
    ·have hne:n≠ins.length:=fun e=>hn' ⟨ht,hn.mp e⟩
     rw [if_pos (by omega)]
     exact ⟨by show 1≤sizeLine;decide,fun e he=>fl _ e (n1.same.trans s2) he⟩
  ·exact .inr ⟨hno,fl⟩
def rowG (g:Gt):List Str:=g.1 :: "is" :: g.2.1 :: g.2.2
def rowsL (ins:List Str) (gs:List Gt) (outs:List Str):List (List Str):=(("in" : Str) :: ins) :: (gs.map rowG ++ [("out" : Str) :: outs])
def GateOk (L:List Str) (g:Gt):Prop:=isNm g.1=true∧g.1 ∉ L∧∀ x∈g.2.2,x∈L
def sp_gate_of (a:Adr) (K:PySem.W.Frag):Sp:=fun vs H Q E=>∃ (p d:Addr) (L row:List Str),vs=[.ref p,.ref d]∧SqL K H p (row.map V.str)∧(∀ x∈row,x.length≤8000)∧row.length≤100∧KS H d L ∧
 ((∃ g,row=rowG g∧hasP g.2.1 g.2.2.length=true∧((GateOk L g∧∀ t q H',Same H H'→H t=none→H q=none→H' t=some (.tup [.str g.1,.str g.2.1,.ref q])→H' q=some (.lst (g.2.2.map V.str))→Q (.ref t) H')∨(¬ GateOk L g∧Flies H a.c_NoName E))) ∨
  ((¬ ∃ g,row=rowG g∧hasP g.2.1 g.2.2.length=true)∧Flies H a.c_NoLine E))
def rd_gate_of (a:Adr) (K:PySem.W.Frag) (E:XK):TS:=(tSeq (tIfS (tOr (cTst (tOp (cI2 fun i j=>.bl (decide (i<j))) (tCB (cLen K) (tCons (cVar 0) tNil)) (tC (.int 3)))) (tOr (cTst (tOp (cNe K) (tOp (cIx K) (cVar 0) (tC (.int 1))) (tC (.str "is")))) (tNot (cTru K (tCall (sp_has_parts K) [] E0 (tCons (tOp (cIx K) (cVar 0) (tC (.int 2))) (tCons (tOp (cI2 fun i j=>.int (i - j)) (tCB (cLen K) (tCons (cVar 0) tNil)) (tC (.int 3))) tNil))))))) (tRaise a.c_NoLine (tCons (tC (.str "not a name, is, the word of a gate and its parts")) tNil) E) tNext)
  (tSeq (tAsg (tOp (cIx K) (cVar 0) (tC (.int 0))) (gName 2))
  (tSeq (tIfS (tOr (tNot (cTru K (tCall (sp_is_name K) [] E0 (tCons (cVar 2) tNil)))) (cTst (tDIn (cVar 2) (cVar 1)))) (tRaise a.c_NoName (tCons (tFS (fVal (cVar 2) fNil)) tNil) E) tNext)
  (tSeq (tDrop (tCall (sp_need_known a K) [] E (tCons (tSl (cSlU K) (cVar 0) (cPart (tC (.int 3))) tNoPart) (tCons (cVar 1) tNil))))
  (tRet (tTup (tCons (cVar 2) (tCons (tOp (cIx K) (cVar 0) (tC (.int 2))) (tCons (tSl (cSlU K) (cVar 0) (cPart (tC (.int 3))) tNoPart) tNil)))))))))
theorem tm_gate_of (T:Txt w K mg a) {cdv:Value}{A:Around}{outer:List Env}{s:Shared}{H:Hp}{E:XK} (hr:Room 1 (A.deeper (envOfC "gate_of" (defScope s_gate_of) s.heap.objs.size a.f_gate_of cdv))) :
  PSs (cxOf (CX1 P w) P w K mg base N_gate_of "gate_of" (defScope s_gate_of) a.f_gate_of cdv A outer s H E) (defBody s_gate_of) (rd_gate_of a K E) :=
 (pss_cons (ps_if (PW.pt (pw_or (t_cmp o_lt (pe_callB c_len (by rfl) T.no_len PySem.boot_len (pa_cons (cv 0) pa_nil)) pe_int (nomark _)) (pw_or (t_cmp (o_ne (hr8 hr)) (pe_ix i_seq (cv 0) pe_int (fun _ _=>rfl)) pe_str (nomark _)) (pw_or1 (pt_not (pt_tru (pe_call (ok_has_parts T) (hr.mono (by decide)) rfl T.mg_has_parts T.fn_has_parts.kp T.bi_has_parts .nil pass0 (pa_cons (pe_ix i_seq (cv 0) pe_int (fun _ _=>rfl)) (pa_cons (pe_op o_sub (pe_callB c_len (by rfl) T.no_len PySem.boot_len (pa_cons (cv 0) pa_nil)) pe_int) pa_nil))))))))) (pss_one (ps_raise PySem.F.excBase_ValueError T.xi_NoLine (by decide) rfl T.mg_NoLine rfl xok_fn (pa_cons pe_str pa_nil))) pss_nil)
   (pss_cons (ps_set (i:=2) sc_gate_of.nd rfl (by walk_at "o") (pe_ix i_seq (cv 0) pe_int (fun _ _=>rfl)))
   (pss_cons (ps_if (PW.pt (pw_or (pt_not (pt_tru (pe_call (ok_is_name T) (hr.mono (by decide)) rfl T.mg_is_name T.fn_is_name.kp T.bi_is_name .nil pass0 (pa_cons (cv 2) pa_nil)))) (pw_or1 (t_pc (pc_din (hu_of hr) (cv 2) (cv 1)))))) (pss_one (ps_raise PySem.F.excBase_ValueError T.xi_NoName (by decide) rfl T.mg_NoName rfl xok_fn (pa_cons (pe_fstr (pf_v (cv 2) (pf_c (by decide +kernel) pf_nil))) pa_nil))) pss_nil)
   (pss_cons (ps_expr (pe_call (ok_need_known T) (hr.mono (by decide)) rfl T.mg_need_known T.fn_need_known.kp T.bi_need_known .nil (pass1 xok_fn) (pa_cons (pe_slice s_u (cv 0) (e_part pe_int) po_none) (pa_cons (cv 1) pa_nil))))
   (pss_one (ps_ret (pe_tup (pa_cons (cv 2) (pa_cons (pe_ix i_seq (cv 0) pe_int (fun _ _=>rfl)) (pa_cons (pe_slice s_u (cv 0) (e_part pe_int) po_none) pa_nil))))))))))
theorem ok_gate_of (T:Txt w K mg a):FnOk P w K mg base (CX1 P w) 2 a.f_gate_of a.d_gate_of ["row","known"] (sp_gate_of a K):=by
 refine T.fn_gate_of.okX sc_gate_of (fun vs H Q E h=>?_) (fun cdv A outer s H vs Q E hr h=>⟨_,tm_gate_of T hr,?_⟩)
 ·obtain ⟨p,d,L,row,rfl,_⟩:=h;rfl
 ·obtain ⟨p,d,L,row,rfl,hp,hrl,hr1,hk,hq⟩:=h
  show rd_gate_of a K E _ [some (.ref p),some (.ref d),none] H
  unfold rd_gate_of
  walk_at "go"
  obtain ⟨kvs,k1,k2,k3⟩:=id hk
  refine .inl ⟨_,.inl hp,?_⟩
  rw [List.length_map]
  rcases hq with ⟨g,rfl,h4,hq⟩ | ⟨hno,fl⟩
  ·unfold rowG at *
   have hl:(g.1 :: "is" :: g.2.1 :: g.2.2).length=g.2.2.length+3:=rfl
   have b2:=hrl g.1 (by simp)
   have hcut:=cutN (xs:=g.1 :: "is" :: g.2.1 :: g.2.2) (k:=3) (by simp only [List.length_cons];omega)
   rw [show ((3:Nat):Int)=3 from rfl] at hcut
   rw [hl,if_neg (by omega)]
   refine ⟨_,_,.inl hp,at1 _ _ _,?_⟩
   show if ¬ ("is" : Str) = "is" then _ else _
   rw [if_neg (fun z=>z rfl)]
   refine ⟨_,_,.inl hp,at2 _ _ _ _,.inl ⟨_,.inl hp,?_⟩⟩
   rw [List.length_map,hl]
   refine ⟨g.2.1,g.2.2.length,by rw [show ((g.2.2.length+3:Nat):Int) - 3=(g.2.2.length:Int) by omega],?_⟩
   rw [h4]
   walk_at "go"
   rw [if_neg (by decide)]
   refine ⟨_,_,.inl hp,at0 _ _,g.1,rfl,b2,fun H1 s1=>?_⟩
   cases h1:isNm g.1 with
   | false =>
    walk_at "go"
    rcases hq with ⟨ok,_⟩ | ⟨_,fl⟩
    ·have:=ok.1;rw [h1] at this;cases this
    ·exact ⟨.inl ⟨g.1,rfl,by omega⟩,fun y=>⟨by show 1≤sizeLine;decide,fun e he=>fl _ e s1 he⟩⟩
   | true =>
    walk_at "go"
    rw [if_neg (by decide)]
    refine ⟨d,_,rfl,.inl ⟨kvs,Sum.inr g.1,.inl (s1 _ _ k1),rfl,rfl⟩,?_⟩
    by_cases h3:g.1∈L
    ·rw [if_pos ((k3 _).mpr h3)]
     rcases hq with ⟨ok,_⟩ | ⟨_,fl⟩
     ·exact absurd h3 ok.2.1
     ·exact ⟨.inl ⟨g.1,rfl,by omega⟩,fun y=>⟨by show 1≤sizeLine;decide,fun e he=>fl _ e s1 he⟩⟩
    rw [if_neg (fun z=>h3 ((k3 _).mp z))]
    refine ⟨_,s1.seq hp,fun r H2 n2=>?_⟩
    rw [hcut] at n2
    have s2:=s1.trans n2.same
    refine ⟨r,d,g.2.2,L,rfl,n2.sq,⟨kvs,n2.same _ _ (s1 _ _ k1),k2,k3⟩,fun x hx=>hrl x (List.mem_cons_of_mem _ (List.mem_cons_of_mem _ (List.mem_cons_of_mem _ hx))),?_⟩
    rcases hq with ⟨ok,q⟩ | ⟨hn',fl⟩
    ·refine .inl ⟨ok.2.2,?_⟩
     refine ⟨_,_,.inl (s2.seq hp),at2 _ _ _ _,_,s2.seq hp,fun r2 H3 n3=>?_⟩
     rw [hcut] at n3
     have s3:=s2.trans n3.same
     walk_at "go"
     refine ⟨by show 3≤sizeLine;decide,fun t H4 n4=>?_⟩
     exact q t r2 H4 (s3.trans n4.same) (s3.free n4.was) (s2.free n3.was) n4.at_ (n4.same _ _ n3.at_)
    ·exact .inr ⟨fun hall=>hn' ⟨h1,h3,hall⟩,fl.pre s2⟩
  ·have rz:∀ {H'},Same H H'→[V.str "not a name, is, the word of a gate and its parts"].length≤sizeLine∧∀ e:Addr,H' e=none→E (.ref e) (some a.c_NoLine) H':=fun s=>⟨by show 1≤sizeLine;decide,fun e he=>fl _ e s he⟩
   by_cases l1:(row.length:Int)<3
   ·rw [if_pos l1];exact rz (Same.refl _)
   rw [if_neg l1]
   match row,l1,hno,hp,hr1 with
   | [],l1,_,_,_=>exact absurd l1 (by simp)
   | [_],l1,_,_,_=>exact absurd l1 (by simp)
   | [_,_],l1,_,_,_=>exact absurd l1 (by simp)
   | x :: y :: z :: ps,l1,hno,hp,hr1 =>
    refine ⟨_,_,.inl hp,at1 _ _ _,?_⟩
    show if ¬ y = "is" then _ else _
    by_cases ey:y = "is"
    ·subst ey
     rw [if_neg (fun z=>z rfl)]
     refine ⟨_,_,.inl hp,at2 _ _ _ _,.inl ⟨_,.inl hp,?_⟩⟩
     have hl:(x :: "is" :: z :: ps).length=ps.length+3:=rfl
     rw [List.length_map,hl]
     refine ⟨z,ps.length,by rw [show ((ps.length+3:Nat):Int) - 3=(ps.length:Int) by omega],?_⟩
     cases hh:hasP z ps.length with
     | true=>exact absurd ⟨(x,z,ps),rfl,hh⟩ hno
     | false =>
      walk_at "go"
      exact rz (Same.refl _)
    ·rw [if_pos ey]
     exact rz (Same.refl _)
def sp_outputs_of (a:Adr) (K:PySem.W.Frag):Sp:=fun vs H Q E=>∃ (p d:Addr) (L row:List Str),vs=[.ref p,.ref d]∧SqL K H p (row.map V.str)∧(∀ x∈row,x.length≤8000)∧KS H d L ∧
 ((∃ outs:List Str,row=("out" : Str) :: outs∧1≤outs.length∧outs.length≤16∧(((∀ x∈outs,x∈L)∧∀ q H',Mad H q (.lst (outs.map V.str)) H'→Q (.ref q) H')∨((¬ ∀ x∈outs,x∈L)∧Flies H a.c_NoName E))) ∨
  ((¬ ∃ outs:List Str,row=("out" : Str) :: outs∧1≤outs.length∧outs.length≤16)∧Flies H a.c_NoLine E))
def rd_outputs_of (a:Adr) (K:PySem.W.Frag) (E:XK):TS:=(tSeq (tAsg (tCall (sp_names_behind a K) [] E (tCons (tC (.str "out")) (tCons (tC (gv_MOST_OUTPUTS a)) (tCons (cVar 0) tNil)))) (gName 2))
  (tSeq (tDrop (tCall (sp_need_known a K) [] E (tCons (cVar 2) (tCons (cVar 1) tNil))))
  (tRet (cVar 2))))
theorem tm_outputs_of (T:Txt w K mg a) {cdv:Value}{A:Around}{outer:List Env}{s:Shared}{H:Hp}{E:XK} (hr:Room 1 (A.deeper (envOfC "outputs_of" (defScope s_outputs_of) s.heap.objs.size a.f_outputs_of cdv))) :
  PSs (cxOf (CX1 P w) P w K mg base N_outputs_of "outputs_of" (defScope s_outputs_of) a.f_outputs_of cdv A outer s H E) (defBody s_outputs_of) (rd_outputs_of a K E) :=
 (pss_cons (ps_set (i:=2) sc_outputs_of.nd rfl (by walk_at "o") (pe_call (ok_names_behind T) (hr.mono (by decide)) rfl T.mg_names_behind T.fn_names_behind.kp T.bi_names_behind .nil (pass1 xok_fn) (pa_cons pe_str (pa_cons (pe_globE rfl T.gx_MOST_OUTPUTS) (pa_cons (cv 0) pa_nil)))))
   (pss_cons (ps_expr (pe_call (ok_need_known T) (hr.mono (by decide)) rfl T.mg_need_known T.fn_need_known.kp T.bi_need_known .nil (pass1 xok_fn) (pa_cons (cv 2) (pa_cons (cv 1) pa_nil))))
   (pss_one (ps_ret (cv 2)))))
theorem ok_outputs_of (T:Txt w K mg a):FnOk P w K mg base (CX1 P w) 2 a.f_outputs_of a.d_outputs_of ["row","known"] (sp_outputs_of a K):=by
 refine T.fn_outputs_of.okX sc_outputs_of (fun vs H Q E h=>?_) (fun cdv A outer s H vs Q E hr h=>⟨_,tm_outputs_of T hr,?_⟩)
 ·obtain ⟨p,d,L,row,rfl,_⟩:=h;rfl
 ·obtain ⟨p,d,L,row,rfl,hp,hrl,hk,hq⟩:=h
  show rd_outputs_of a K E _ [some (.ref p),some (.ref d),none] H
  unfold rd_outputs_of gv_MOST_OUTPUTS
  walk_at "go"
  refine ⟨"out",16,p,row,rfl,hp,by decide +kernel,.inr rfl,?_⟩
  rcases hq with ⟨outs,rfl,h1,h2,hq⟩ | ⟨hno,fl⟩
  ·refine .inl ⟨outs,rfl,h1,h2,fun r H1 n1=>?_⟩
   walk_at "go"
   refine ⟨r,d,outs,L,rfl,n1.sq,hk.same n1.same,fun x hx=>hrl x (List.mem_cons_of_mem _ hx),?_⟩
   rcases hq with ⟨ok,q⟩ | ⟨hn,fl⟩
   ·exact .inl ⟨ok,q _ _ n1.mad⟩
   ·exact .inr ⟨hn,fl.pre n1.same⟩
  ·exact .inr ⟨hno,fl⟩
open GM
theorem val_mergeS (z:Str):∀ (xs:List Str) (kvs:List (Key × V)),(valV (mergeK kvs (xs.map fun x=>((Sum.inr x:Key),V.bl true))) (Sum.inr z)).isSome=true ↔ (valV kvs (Sum.inr z)).isSome=true∨z∈xs
 | [],kvs=>by simp [mergeK]
 | x :: xs,kvs=>by
  show (valV (mergeK (putK kvs (Sum.inr x) (.bl true)) (xs.map fun x=>((Sum.inr x:Key),V.bl true))) (Sum.inr z)).isSome=true ↔ _
  rw [val_mergeS z xs,valV_put]
  by_cases e:z=x
  ·subst e;simp
  ·rw [if_neg (fun q=>e (Sum.inr.inj q))];simp [e]
theorem KS.put {H:Hp}{d:Addr}{L:List Str}{kvs:List (Key × V)}{x:Str} (h2:kvs.length≤L.length) (h3:∀ z:Str,(valV kvs (Sum.inr z)).isSome=true ↔ z∈L):KS (upd H d (.dK (putK kvs (Sum.inr x) (.bl true)))) d (L ++ [x]):=by
 refine ⟨_,upd_same,by have:=length_putK kvs (Sum.inr x:Key) (.bl true);rw [List.length_append,List.length_singleton];omega,fun z=>?_⟩
 rw [valV_put,List.mem_append,List.mem_singleton]
 by_cases e:z=x
 ·subst e;simp
 ·rw [if_neg (fun q=>e (Sum.inr.inj q)),h3];simp [e]
theorem rows_split {α β:Type}{f:α→β}{ls:List α}{x z:β}{ys:List β} (h:ls.map f=x :: (ys ++ [z])):∃ l0 mid ln,ls=l0 :: (mid ++ [ln])∧f l0=x∧mid.map f=ys∧f ln=z:=by
 obtain ⟨l0,t,rfl,h1,h2⟩:=List.map_eq_cons_iff.mp h
 obtain ⟨m,e,rfl,h3,h4⟩:=List.map_eq_append_iff.mp h2
 obtain ⟨ln,t2,rfl,h5,h6⟩:=List.map_eq_cons_iff.mp h4
 rw [List.map_eq_nil_iff.mp h6]
 exact ⟨l0,m,ln,rfl,h1,h3,h5⟩
theorem at_last (l0 ln:Str) (mid:List Str):atI ((l0 :: (mid ++ [ln])).map V.str) (-1)=some (.str ln):=by
 have hl:((l0 :: (mid ++ [ln])).map V.str).length=mid.length+2:=by simp
 have e:ixN ((l0 :: (mid ++ [ln])).map V.str).length (-1)=some (mid.length+1):=by
  unfold ixN
  rw [hl,if_neg (by omega),if_pos (by omega)]
  congr 1
  omega
 unfold atI
 rw [e]
 show ((l0 :: (mid ++ [ln])).map V.str)[mid.length+1]? = _
 simp
theorem cut_mid (l0 ln:Str) (mid:List Str):cutV ((l0 :: (mid ++ [ln])).map V.str) (some 1) (some (-1))=mid.map V.str:=by
 have hl:((l0 :: (mid ++ [ln])).map V.str).length=mid.length+2:=by simp
 unfold cutV
 rw [hl]
 have e1:HT.sIx (mid.length+2) 0 (some 1)=1:=by
  have:=HT.sIx_nat (mid.length+2) 0 1
  rw [show ((1:Nat):Int)=1 from rfl] at this
  rw [this];omega
 have e2:HT.sIx (mid.length+2) (mid.length+2) (some (-1))=mid.length+1:=by
  unfold HT.sIx
  dsimp only
  rw [if_pos (by omega)];omega
 rw [e1,e2]
 simp
structure GP (ins:List Str) (gs:List Gt):Prop where
 i0:1≤ins.length
 i1:ins.length≤10
 gl:gs.length≤60
 wg:ME.WG Ar6 ins gs
 nd:(ins ++ gs.map (·.1)).Nodup
 nm:∀ n∈ins ++ gs.map (·.1),NM.Nm n.cps.toList∧inV (.str n) nearV=false
theorem WN.gp {ins:List Str}{gs:List Gt}{outs:List Str} (W:WN ins gs outs):GP ins gs:=⟨W.i0,W.i1,W.gl,W.wg,W.nd,W.nm⟩
def BadIn (a:Adr) (C:Addr) (row:List Str):Prop:=(C=a.c_NoLine∧¬ ∃ ins:List Str,row=("in" : Str) :: ins∧1≤ins.length∧ins.length≤10)∨(C=a.c_NoName∧∃ ins:List Str,row=("in" : Str) :: ins∧1≤ins.length∧ins.length≤10∧¬ InOk ins)
def BadGate (a:Adr) (C:Addr) (L row:List Str):Prop:=(C=a.c_NoLine∧¬ ∃ g,row=rowG g∧hasP g.2.1 g.2.2.length=true)∨(C=a.c_NoName∧∃ g,row=rowG g∧hasP g.2.1 g.2.2.length=true∧¬ GateOk L g)
def BadOut (a:Adr) (C:Addr) (L row:List Str):Prop:=(C=a.c_NoLine∧¬ ∃ outs:List Str,row=("out" : Str) :: outs∧1≤outs.length∧outs.length≤16)∨(C=a.c_NoName∧∃ outs:List Str,row=("out" : Str) :: outs∧1≤outs.length∧outs.length≤16∧¬ ∀ x∈outs,x∈L)
def Behind (a:Adr) (C:Addr) (ins:List Str) (gs:List Gt) (mid:List (List Str)) (ln:List Str):Prop :=
 (∃ bad r,mid=gs.map rowG ++ bad :: r∧BadGate a C (ins ++ gs.map (·.1)) bad)∨(mid=gs.map rowG∧BadOut a C (ins ++ gs.map (·.1)) ln)
def BadR (a:Adr) (C:Addr) (rows:List (List Str)):Prop:=(rows.length<2∧C=a.c_NoLine) ∨
 ∃ r0 mid ln,rows=r0 :: (mid ++ [ln])∧(BadIn a C r0∨∃ ins gs,r0=("in" : Str) :: ins∧GP ins gs∧Behind a C ins gs mid ln)
def sp_net_of (a:Adr) (K:PySem.W.Frag):Sp:=fun vs H Q E=>∃ (p:Addr) (lines:List Str),vs=[.ref p]∧SqL K H p (lines.map V.str)∧lines.length≤100∧(∀ l∈lines,l.length≤8000∧(wrds l).length≤100∧∀ x∈wrds l,x.length≤8000) ∧
 ((∃ (ins:List Str) (gs:List Gt) (outs:List Str),WN ins gs outs∧lines.map wrds=rowsL ins gs outs∧∀ x H',Same H H'→NetO a H' x ins gs outs→Q (.ref x) H')∨∃ C,BadR a C (lines.map wrds)∧Flies H C E)
def rd_net_of (a:Adr) (K:PySem.W.Frag) (E:XK):TS:=(tSeq (tIfS (cTst (tOp (cI2 fun i j=>.bl (decide (i<j))) (tCB (cLen K) (tCons (cVar 0) tNil)) (tC (.int 2)))) (tRaise a.c_NoLine (tCons (tC (.str "a net has two lines or more")) tNil) E) tNext)
  (tSeq (tAsg (tCall (sp_inputs_of a K) [] E (tCons (tCall (sp_words K) [] E0 (tCons (tOp (cIx K) (cVar 0) (tC (.int 0))) tNil)) tNil)) (gName 1))
  (tSeq (tAsg (tCB (cDictP K) (tCons (tComp (iList K (cVar 1)) 1 [] (gName 0) tTrue (tTup (tCons (cVar 0) (tCons (tC (.bl true)) tNil)))) tNil)) (gName 2))
  (tSeq (tAsg (tLst tNil) (gName 3))
  (tSeq (tFor (iList K (tSl (cSlU K) (cVar 0) (cPart (tC (.int 1))) (cPart (tUn cNeg (tC (.int 1)))))) (gName 4) (tSeq (tAsg (tCall (sp_gate_of a K) [] E (tCons (tCall (sp_words K) [] E0 (tCons (cVar 4) tNil)) (tCons (cVar 2) tNil))) (gName 5))
  (tSeq (sDPut (cVar 2) (tOp (cIx K) (cVar 5) (tC (.int 0))) (tC (.bl true)))
  (tDrop (tBM K "list" rAppend (cVar 3) (tCons (cVar 5) tNil))))))
  (tRet (tMake a.c_Net (sp_Net___init__ a K) [] E0 (tCons (cVar 1) (tCons (cVar 3) (tCons (tCall (sp_outputs_of a K) [] E (tCons (tCall (sp_words K) [] E0 (tCons (tOp (cIx K) (cVar 0) (tUn cNeg (tC (.int 1)))) tNil)) (tCons (cVar 2) tNil))) tNil))))))))))
theorem tm_net_of (T:Txt w K mg a) {cdv:Value}{A:Around}{outer:List Env}{s:Shared}{H:Hp}{E:XK} (hr:Room 2 (A.deeper (envOfC "net_of" (defScope s_net_of) s.heap.objs.size a.f_net_of cdv))) :
  PSs (cxOf (CX1 P w) P w K mg base N_net_of "net_of" (defScope s_net_of) a.f_net_of cdv A outer s H E) (defBody s_net_of) (rd_net_of a K E) :=
 (pss_cons (ps_if (t_cmp o_lt (pe_callB c_len (by rfl) T.no_len PySem.boot_len (pa_cons (cv 0) pa_nil)) pe_int (nomark _)) (pss_one (ps_raise PySem.F.excBase_ValueError T.xi_NoLine (by decide) rfl T.mg_NoLine rfl xok_fn (pa_cons pe_str pa_nil))) pss_nil)
   (pss_cons (ps_set (i:=1) sc_net_of.nd rfl (by walk_at "o") (pe_call (ok_inputs_of T) (hr.mono (by decide)) rfl T.mg_inputs_of T.fn_inputs_of.kp T.bi_inputs_of .nil (pass1 xok_fn) (pa_cons (pe_call (ok_words T) (hr.mono (by decide)) rfl T.mg_words T.fn_words.kp T.bi_words .nil pass0 (pa_cons (pe_ix i_seq (cv 0) pe_int (fun _ _=>rfl)) pa_nil)) pa_nil)))
   (pss_cons (ps_set (i:=2) sc_net_of.nd rfl (by walk_at "o") (pe_callTy (c_dictP rfl) (by rfl) T.no_dict PyProof.Rows.boot_dict (pa_cons (pe_comp (N:=["name"]) (k:=1) (sel:=[]) (CScope.of (defScope s_net_of).names (by decide +kernel)) (CNames.of N_net_of (by decide +kernel)) rfl (pi_list (cv 1)) (fun _ _ _ _=>(pg_name (i:=0) (show List.Nodup (["name"]:List Str) by decide +kernel) rfl (by walk_at "o"))) (fun _ _ _ _=>pts_nil) (fun _ _ _ _=>(pe_tup (pa_cons (cv 0) (pa_cons pe_bl pa_nil))))) pa_nil)))
   (pss_cons (ps_set (i:=3) sc_net_of.nd rfl (by walk_at "o") (pe_lst pa_nil))
   (pss_cons (ps_for passF rfl (pi_list (pe_slice s_u (cv 0) (e_part pe_int) (e_part (pe_un u_neg pe_int)))) (pg_name (i:=4) sc_net_of.nd rfl (by walk_at "o")) (pss_cons (ps_set (i:=5) sc_net_of.nd rfl (by walk_at "o") (pe_call (ok_gate_of T) (hr.mono (by decide)) rfl T.mg_gate_of T.fn_gate_of.kp T.bi_gate_of .nil (pass1 xok_fn) (pa_cons (pe_call (ok_words T) (hr.mono (by decide)) rfl T.mg_words T.fn_words.kp T.bi_words .nil pass0 (pa_cons (cv 4) pa_nil)) (pa_cons (cv 2) pa_nil))))
   (pss_cons (ps_dput (hu_of hr) (cv 2) (pe_ix i_seq (cv 5) pe_int (fun _ _=>rfl)) pe_bl rfl)
   (pss_one (ps_expr (pe_bm PySem.F.plainAttrs_list PySem.F.slot_list_append PySem.F.type_list_append (mtr mt_append) (cv 3) (pa_cons (cv 5) pa_nil)))))))
   (pss_one (ps_ret (pe_make T.mk_Net (ok_Net___init__ T) (hr.mono (by decide)) rfl T.mg_Net T.bi_Net___init__ .nil pass0 (pa_cons (cv 1) (pa_cons (cv 3) (pa_cons (pe_call (ok_outputs_of T) (hr.mono (by decide)) rfl T.mg_outputs_of T.fn_outputs_of.kp T.bi_outputs_of .nil (pass1 xok_fn) (pa_cons (pe_call (ok_words T) (hr.mono (by decide)) rfl T.mg_words T.fn_words.kp T.bi_words .nil pass0 (pa_cons (pe_ix i_seq (cv 0) (pe_un u_neg pe_int) (fun _ _=>rfl)) pa_nil)) (pa_cons (cv 2) pa_nil))) pa_nil)))))))))))
theorem ok_net_of (T:Txt w K mg a):FnOk P w K mg base (CX1 P w) 3 a.f_net_of a.d_net_of ["lines"] (sp_net_of a K):=by
 refine T.fn_net_of.okX sc_net_of (fun vs H Q E h=>?_) (fun cdv A outer s H vs Q E hr h=>⟨_,tm_net_of T hr,?_⟩)
 ·obtain ⟨p,lines,rfl,_⟩:=h;rfl
 ·obtain ⟨p,lines,rfl,hp,hll,hle0,hq⟩:=h
  have hle:∀ l∈lines,l.length≤8000:=fun l hl=>(hle0 l hl).1
  show rd_net_of a K E _ [some (.ref p),none,none,none,none,none] H
  unfold rd_net_of
  have hbig:=size_big
  walk_at "go"
  refine .inl ⟨_,.inl hp,?_⟩
  rw [List.length_map]
  by_cases l2:(lines.length:Int)<2
  ·rw [if_pos l2]
   rcases hq with ⟨ins,gs,outs,_,hw,_⟩ | ⟨C,hb,fl⟩
   ·have:=congrArg List.length hw;unfold rowsL at this;simp at this;omega
   ·rcases hb with ⟨_,rfl⟩ | ⟨r0,mid,ln,hw,_⟩
    ·exact ⟨by show 1≤sizeLine;decide,fun e he=>fl _ e (Same.refl _) he⟩
    ·have:=congrArg List.length hw;simp at this;omega
  rw [if_neg l2]
  have hcase:∃ r0 rm rl,lines.map wrds=r0 :: (rm ++ [rl])∧((∃ C,BadIn a C r0∧Flies H C E)∨∃ ins gs,r0=("in" : Str) :: ins∧GP ins gs∧((∃ C,Behind a C ins gs rm rl∧Flies H C E)∨∃ outs,WN ins gs outs∧rm=gs.map rowG∧rl=("out" : Str) :: outs∧∀ x H',Same H H'→NetO a H' x ins gs outs→Q (.ref x) H')):=by
   rcases hq with ⟨ins,gs,outs,W,hw,q⟩ | ⟨C,hb,fl⟩
   ·exact ⟨_,_,_,hw,.inr ⟨ins,gs,rfl,W.gp,.inr ⟨outs,W,rfl,rfl,q⟩⟩⟩
   ·rcases hb with ⟨h2,_⟩ | ⟨r0,mid,ln,hw,hb⟩
    ·rw [List.length_map] at h2;omega
    ·rcases hb with hb | ⟨ins,gs,e,gp,hb⟩
     ·exact ⟨_,_,_,hw,.inl ⟨C,hb,fl⟩⟩
     ·exact ⟨_,_,_,hw,.inr ⟨ins,gs,e,gp,.inl ⟨C,hb,fl⟩⟩⟩
  clear hq
  obtain ⟨r0,rm,rl,hw,hq⟩:=hcase
  obtain ⟨l0,mid,ln,rfl,w0,wm,wn⟩:=rows_split hw
  have hmm:mid.length≤98:=by simp at hll;omega
  refine ⟨_,_,.inl hp,at0 _ _,l0,rfl,hle _ (by simp),fun pw H1 m1=>?_⟩
  have hw0:=hle0 l0 (by simp)
  rw [w0] at m1 hw0
  rcases hq with ⟨C,hb,fl⟩ | ⟨ins,gs,rfl,W,hq⟩
  ·refine ⟨pw,r0,rfl,m1.sq,hw0.2.2,?_⟩
   rcases hb with ⟨rfl,hb⟩ | ⟨rfl,ins,e,e1,e2,hb⟩
   ·exact .inr ⟨hb,fl.pre m1.same⟩
   ·exact .inl ⟨ins,e,e1,e2,.inr ⟨hb,fl.pre m1.same⟩⟩
  have i0:=W.i0
  have i1:=W.i1
  have gl:=W.gl
  have nmI:∀ z∈ins ++ gs.map (·.1),isNm z=true∧z.length≤8:=fun z hz=>by
   obtain ⟨x1,x2⟩:=W.nm z hz
   have:=x1.2
   rw [len_cps] at this
   exact ⟨isNm_of x1 x2,this⟩
  have ndI:ins.Nodup:=(List.nodup_append.mp W.nd).1
  refine ⟨pw,_,rfl,m1.sq,hw0.2.2,.inl ⟨ins,rfl,i0,i1,.inl ⟨⟨fun z hz=>(nmI z (List.mem_append_left _ hz)).1,ndI⟩,fun pin H2 m2=>?_⟩⟩⟩
  have s2:=m1.same.trans m2.same
  walk_at "go"
  refine ⟨⟨_,m2.sq⟩,compG_markS m2.sq rfl (by omega) fun mp H3 us hmp h3 hus s3 hu=>?_⟩
  walk_at "go"
  refine ⟨us,ins.map fun x=>(.inr x,.bl true),h3,by rw [hus,List.length_map],by rw [List.length_map];omega,fun j pr hj=>?_,fun dk H4 n4=>?_⟩
  ·rw [List.getElem?_map] at hj
   cases hx:ins[j]? with
   | none=>rw [hx] at hj;cases hj
   | some x=>rw [hx] at hj;cases hj;exact hu j x hx
  have s4:=s2.trans (s3.trans n4.same)
  walk_at "go"
  refine ⟨by decide,fun pg H5 n5=>⟨_,(s4.trans n5.same).seq hp,fun pm H6 n6=>?_⟩⟩
  rw [cut_mid] at n6
  have s6:=s4.trans (n5.same.trans n6.same)
  have frg:H pg=none:=s4.free n5.was
  have frd:H dk=none:=(s2.trans s3).free n4.was
  have frm:H pm=none:=(s4.trans n5.same).free n6.was
  have ngd:pg≠dk:=Ne.symm (ne_of_none n4.at_ n5.was)
  have nmg:pm≠pg:=Ne.symm (ne_of_none n5.at_ n6.was)
  have nmd:pm≠dk:=Ne.symm (ne_of_none (n5.same _ _ n4.at_) n6.was)
  have nid:pin≠dk:=ne_of_none (s3 _ _ m2.at_) n4.was
  have nig:pin≠pg:=ne_of_none (n4.same _ _ (s3 _ _ m2.at_)) n5.was
  have ks4:KS H4 dk ins:=by
   refine ⟨_,n4.at_,by have:=length_mergeK (ins.map fun x=>((Sum.inr x:Key),V.bl true)) [];simpa using this,fun z=>?_⟩
   rw [val_mergeS]
   simp [valV]
  have hrm:∃ tl,rm=gs.map rowG ++ tl∧(tl=[]∨∃ C bad r,tl=bad :: r∧BadGate a C (ins ++ gs.map (·.1)) bad∧Flies H C E):=by
   rcases hq with ⟨C,hb,fl⟩ | ⟨outs,_,e,_⟩
   ·rcases hb with ⟨bad,r,e,hb⟩ | ⟨e,_⟩
    ·exact ⟨_,e,.inr ⟨C,bad,r,rfl,hb,fl⟩⟩
    ·exact ⟨[],by rw [e,List.append_nil],.inl rfl⟩
   ·exact ⟨[],by rw [e,List.append_nil],.inl rfl⟩
  obtain ⟨tl,htl,hbad⟩:=hrm
  have hrl:rm.length=mid.length:=by rw [← wm,List.length_map]
  refine ⟨⟨_,n6.sq⟩,for_listG (xs:=mid.map V.str) (fun i σ H9=>∃ ts v1 v2,i≤gs.length∧Same H H9∧H9 pm=some (.lst (mid.map V.str))∧H9 pin=some (.lst (ins.map V.str))∧H9 pg=some (.lst ts)∧GtsAt (fun b=>b≠pg∧b≠dk) K H9 ts (gs.take i)∧KS H9 dk (ins ++ (gs.take i).map (·.1))∧σ=[some (.ref p),some (.ref pin),some (.ref dk),some (.ref pg),v1,v2])
   ⟨[],none,none,Nat.zero_le _,s6,n6.at_,n6.same _ _ (n5.same _ _ (n4.same _ _ (s3 _ _ m2.at_))),n6.same _ _ n5.at_,.nil,by simpa using (ks4.same n5.same).same n6.same,rfl⟩ ?_ ?_ ?_⟩
  ·rintro i σ H9 _ ⟨ts,v1,v2,_,s9,a1,_⟩
   exact .of a1
  ·rintro i x σ H9 hx' ⟨ts,v1,v2,hig,s9,a1,a2,a3,hG,hK,rfl⟩
   obtain ⟨z,hz,rfl⟩:=get_map_of hx'
   have hzm:z∈l0 :: (mid ++ [ln]):=List.mem_cons_of_mem _ (List.mem_append_left _ (List.mem_of_getElem? hz))
   have hwl:=hle0 z hzm
   have hri:rm[i]? = some (wrds z):=by rw [← wm,List.getElem?_map,hz];rfl
   by_cases hi:i<gs.length
   case neg =>
    have hieq:i=gs.length:=by omega
    subst hieq
    rcases hbad with rfl | ⟨C,bad,r,rfl,hb,fl⟩
    ·rw [List.append_nil] at htl
     have:=(List.getElem?_eq_some_iff.mp hri).1
     rw [htl,List.length_map] at this
     omega
    have hwb:wrds z=bad:=by
     rw [htl,List.getElem?_append_right (by simp),List.length_map,Nat.sub_self] at hri
     exact (Option.some.inj hri).symm
    rw [hwb] at hwl
    rw [List.take_length] at hK
    walk_at "go"
    refine ⟨z,rfl,hle z hzm,fun pw H10 m10=>?_⟩
    rw [hwb] at m10
    have flx:Flies H10 C E:=fl.pre (s9.trans m10.same)
    refine ⟨pw,dk,_,bad,rfl,m10.sq,hwl.2.2,hwl.2.1,hK.same m10.same,?_⟩
    rcases hb with ⟨rfl,hb⟩ | ⟨rfl,g,e1,e2,hb⟩
    ·exact .inr ⟨hb,flx⟩
    ·exact .inl ⟨g,e1,e2,.inr ⟨hb,flx⟩⟩
   have hgi:gs[i]? = some gs[i]:=List.getElem?_eq_getElem hi
   have hwz:wrds z=rowG gs[i]:=by
    rw [htl,List.getElem?_append_left (by rw [List.length_map];exact hi),List.getElem?_map,hgi] at hri
    exact (Option.some.inj hri).symm
   rw [hwz] at hwl
   obtain ⟨p1,p2,p3⟩:=ME.WG.at W.wg hgi
   have hnew:gs[i].1 ∉ ins ++ (gs.take i).map (·.1):=by
    intro hin
    have hnd:=W.nd
    have e2:gs.map (·.1)=(gs.take i).map (·.1) ++ (gs[i].1 :: (gs.drop (i+1)).map (·.1)):=by
     conv=>lhs;rw [← List.take_append_drop i gs,List.drop_eq_getElem_cons hi,List.map_append,List.map_cons]
    rw [e2,← List.append_assoc,List.nodup_append] at hnd
    exact hnd.2.2 _ hin _ (List.mem_cons_self) rfl
   have htk:gs.take (i+1)=gs.take i ++ [gs[i]]:=by rw [List.take_add_one,hgi];rfl
   obtain ⟨b1,b2⟩:=nmI gs[i].1 (List.mem_append_right _ (List.mem_map.mpr ⟨_,List.getElem_mem hi,rfl⟩))
   generalize gs[i]=g at hwz p1 p2 p3 hnew htk b1 b2 hwl
   walk_at "go"
   refine ⟨z,rfl,hle z (List.mem_cons_of_mem _ (List.mem_append_left _ (List.mem_of_getElem? hz))),fun pw H10 m10=>?_⟩
   rw [hwz] at m10
   refine ⟨pw,dk,ins ++ (gs.take i).map (·.1),_,rfl,m10.sq,hwl.2.2,hwl.2.1,hK.same m10.same,.inl ⟨g,rfl,hasP_of p2,.inl ⟨⟨b1,hnew,p1⟩,fun t qq H11 s11 ft fq at11 aq11=>?_⟩⟩⟩
   walk_at "go"
   refine ⟨_,_,.inr (.of at11),rfl,?_⟩
   obtain ⟨kvs,k1,k2,k3⟩:=hK
   have k11:=s11 _ _ (m10.same _ _ k1)
   have g10:=m10.same _ _ a3
   have g11:=s11 _ _ g10
   have ntg:t≠pg:=Ne.symm (ne_of_none g10 ft)
   have nqg:qq≠pg:=Ne.symm (ne_of_none g10 fq)
   have ntd:t≠dk:=Ne.symm (ne_of_none (m10.same _ _ k1) ft)
   have nqd:qq≠dk:=Ne.symm (ne_of_none (m10.same _ _ k1) fq)
   have hkl:kvs.length<sizeLine:=Nat.lt_of_lt_of_le (by rw [List.length_append,List.length_map,List.length_take] at k2;omega) hbig
   have htl:ts.length≤60:=by rw [hG.1,List.length_take];omega
   refine ⟨dk,_,rfl,DPut.k (k:=Sum.inr g.1) k11 hkl,?_⟩
   have g12:upd H11 dk (.dK (putK kvs (Sum.inr g.1) (.bl true))) pg=some (.lst ts):=by rw [upd_ne ngd];exact g11
   refine ⟨.inl ⟨by trivial,_,.of g12⟩,pg,ts,_,rfl,rfl,g12,Nat.lt_of_lt_of_le (by omega) hbig,?_⟩
   have kp:Keep (fun b=>b≠pg∧b≠dk) H11 (upd (upd H11 dk (.dK (putK kvs (Sum.inr g.1) (.bl true)))) pg (.lst (ts ++ [.ref t]))):=fun b o nb e=>by rw [upd_ne nb.1,upd_ne nb.2];exact e
   have o11:∀ {b o},b≠pg→b≠dk→H9 b=some o→upd (upd H11 dk (.dK (putK kvs (Sum.inr g.1) (.bl true)))) pg (.lst (ts ++ [.ref t])) b=some o:=fun n1 n2 e=>by rw [upd_ne n1,upd_ne n2];exact s11 _ _ (m10.same _ _ e)
   refine ⟨ts ++ [.ref t],_,_,hi,((s9.trans (m10.same.trans s11)).put frd).put frg,o11 nmg nmd a1,o11 nig nid a2,upd_same,?_,?_,rfl⟩
   ·rw [htk]
    exact GtsAt.snoc (((hG.same m10.same).same s11).keep kp) ⟨ntg,ntd⟩ ⟨nqg,nqd⟩ (kp.tup ⟨ntg,ntd⟩ (.of at11)) (kp.seq ⟨nqg,nqd⟩ (.of aq11))
   ·rw [htk,List.map_append,← List.append_assoc]
    obtain ⟨kv',c1,c2⟩:=KS.put (H:=H11) (d:=dk) (x:=g.1) k2 k3
    exact ⟨kv',by rw [upd_ne (Ne.symm ngd)];exact c1,c2⟩
  ·rintro σ H9 ⟨ts,v1,v2,hig,s9,a1,a2,a3,hG,hK,rfl⟩
   rw [List.length_map] at hig
   have htl0:tl=[]:=by
    have:=congrArg List.length htl
    rw [List.length_append,List.length_map] at this
    exact List.length_eq_zero_iff.mp (by omega)
   subst htl0
   rw [List.append_nil] at htl
   have hml:mid.length=gs.length:=by rw [← hrl,htl,List.length_map]
   rw [List.length_map,hml,List.take_length] at hG hK
   have hln:=hle0 ln (by simp)
   rw [wn] at hln
   walk_at "go"
   refine ⟨_,_,.inl (s9.seq hp),at_last _ _ _,ln,rfl,hle _ (by simp),fun pw H10 m10=>?_⟩
   rw [wn] at m10
   refine ⟨pw,dk,_,rl,rfl,m10.sq,hln.2.2,hK.same m10.same,?_⟩
   rcases hq with ⟨C,hb,fl⟩ | ⟨outs,Wn,_,rfl,q⟩
   ·have flx:Flies H10 C E:=fl.pre (s9.trans m10.same)
    rcases hb with ⟨bad,r,e,_⟩ | ⟨_,hb⟩
    ·have:=congrArg List.length e
     rw [htl,List.length_append,List.length_cons] at this
     omega
    rcases hb with ⟨rfl,hb⟩ | ⟨rfl,outs,e,e1,e2,hb⟩
    ·exact .inr ⟨hb,flx⟩
    ·exact .inl ⟨outs,e,e1,e2,.inr ⟨hb,flx⟩⟩
   refine .inl ⟨outs,rfl,Wn.o0,Wn.o1,.inl ⟨Wn.wo,fun po H11 m11=>?_⟩⟩
   walk_at "go"
   intro x dx fx fdx nex
   have s911:=m10.same.trans m11.same
   have nxo:∀ {b:Addr}{o:HO},H11 b=some o→b≠x∧b≠dx:=fun e=>⟨ne_of_none e fx,ne_of_none e fdx⟩
   have s7:Same H11 (upd (upd H11 dx (.own x)) x (.ins a.c_Net dx [])):=fun b o e=>by rw [upd_ne (nxo e).1,upd_ne (nxo e).2];exact e
   have o1:=Wn.o1
   refine ⟨x,dx,pin,pg,po,ins,gs,outs,ts,rfl,upd_same,.of (s7 _ _ (s911 _ _ a2)),.of (s7 _ _ (s911 _ _ a3)),((hG.weak fun _ _=>True.intro).same s911).same s7,.of (s7 _ _ m11.at_),by omega,by omega,by omega,fun H8 k8 hO8=>⟨rfl,?_⟩⟩
   exact q x H8 ((s9.trans s911).trans fun b o e=>k8 b o (nxo e).1 (s7 b o e)) hO8
open GM
def RowsAt (H:Hp) (us:List V) (rs:List (List Str)):Prop:=us.length=rs.length∧∀ (i:Nat) (r:List Str),rs[i]? = some r→∃ t,us[i]? = some (.ref t)∧H t=some (.lst (r.map V.str))
theorem RowsAt.same {H H':Hp}{us:List V}{rs:List (List Str)} (s:Same H H') (h:RowsAt H us rs):RowsAt H' us rs:=⟨h.1,fun i r e=>let ⟨t,a,b⟩:=h.2 i r e;⟨t,a,s _ _ b⟩⟩
theorem RowsAt.snoc {H H':Hp}{us:List V}{rs:List (List Str)}{t:Addr}{r:List Str} (h:RowsAt H us rs) (k:∀ (b:Addr) (xs:List Str),(.ref b)∈us→H b=some (.lst (xs.map V.str))→H' b=some (.lst (xs.map V.str))) (ht:H' t=some (.lst (r.map V.str))):RowsAt H' (us ++ [.ref t]) (rs ++ [r]):=by
 refine ⟨by rw [List.length_append,List.length_append,h.1];rfl,fun i r' e=>?_⟩
 by_cases hi:i<rs.length
 ·rw [List.getElem?_append_left hi] at e
  obtain ⟨t',a,b⟩:=h.2 i r' e
  exact ⟨t',by rw [List.getElem?_append_left (by rw [h.1];exact hi)];exact a,k t' r' (List.mem_of_getElem? a) b⟩
 ·have hl:=(List.getElem?_eq_some_iff.mp e).1
  rw [List.length_append,List.length_singleton] at hl
  have:i=rs.length:=by omega
  subst this
  rw [List.getElem?_append_right (Nat.le_refl _),Nat.sub_self] at e
  cases e
  exact ⟨t,by rw [← h.1,List.getElem?_append_right (Nat.le_refl _),Nat.sub_self];rfl,ht⟩
def sp_law_rows (K:PySem.W.Frag):Sp:=fun vs H Q _=>∃ (p:Addr) (ins:List Str) (gs:List Gt) (outs:List Str),vs=[.ref p]∧NetV K H p ins gs outs∧WN ins gs outs ∧
 ∀ r us H',Same H H'→H r=none→H' r=some (.lst us)→RowsAt H' us (rowsL ins gs outs)→Q (.ref r) H'
def rd_law_rows (K:PySem.W.Frag):TS:=(tSeq (tAsg (tLst (tCons (tOp (cAddA K) (tLst (tCons (tC (.str "in")) tNil)) (tOp (cIx K) (cVar 0) (tC (.int 0)))) tNil)) (gName 1))
  (tSeq (tFor (iList K (tOp (cIx K) (cVar 0) (tC (.int 1)))) (gTup K 3 (gCons (gName 2) (gCons (gName 3) (gCons (gName 4) gNil)))) (tDrop (tBM K "list" rAppend (cVar 1) (tCons (tOp (cAddA K) (tLst (tCons (cVar 2) (tCons (tC (.str "is")) (tCons (cVar 3) tNil)))) (cVar 4)) tNil))))
  (tRet (tOp (cAddA K) (cVar 1) (tLst (tCons (tOp (cAddA K) (tLst (tCons (tC (.str "out")) tNil)) (tOp (cIx K) (cVar 0) (tC (.int 2)))) tNil))))))
theorem tm_law_rows (T:Txt w K mg a) {cdv:Value}{A:Around}{outer:List Env}{s:Shared}{H:Hp}{E:XK} (hr:Room 0 (A.deeper (envOfC "_law_rows" (defScope s_law_rows) s.heap.objs.size a.f_law_rows cdv))) :
  PSs (cxOf CX0 P w K mg base N_law_rows "_law_rows" (defScope s_law_rows) a.f_law_rows cdv A outer s H E).nox (defBody s_law_rows) (rd_law_rows K) :=
 (pss_cons (ps_set (i:=1) sc_law_rows.nd rfl (by walk_at "o") (pe_lst (pa_cons (pe_op o_addA (pe_lst (pa_cons pe_str pa_nil)) (pe_ix i_seq (cv 0) pe_int (fun _ _=>rfl))) pa_nil)))
   (pss_cons (ps_for PassesOwn.never rfl (pi_list (pe_ix i_seq (cv 0) pe_int (fun _ _=>rfl))) (pg_tup rfl (pgs_cons (pg_name (i:=2) sc_law_rows.nd rfl (by walk_at "o")) (pgs_cons (pg_name (i:=3) sc_law_rows.nd rfl (by walk_at "o")) (pgs_cons (pg_name (i:=4) sc_law_rows.nd rfl (by walk_at "o")) pgs_nil)))) (pss_one (ps_expr (pe_bm PySem.F.plainAttrs_list PySem.F.slot_list_append PySem.F.type_list_append (mtr mt_append) (cv 1) (pa_cons (pe_op o_addA (pe_lst (pa_cons (cv 2) (pa_cons pe_str (pa_cons (cv 3) pa_nil)))) (cv 4)) pa_nil)))))
   (pss_one (ps_ret (pe_op o_addA (cv 1) (pe_lst (pa_cons (pe_op o_addA (pe_lst (pa_cons pe_str pa_nil)) (pe_ix i_seq (cv 0) pe_int (fun _ _=>rfl))) pa_nil)))))))
theorem ok_law_rows (T:Txt w K mg a):FnOk P w K mg base CX0 1 a.f_law_rows a.d_law_rows ["_law_net"] (sp_law_rows K):=by
 refine T.fn_law_rows.ok sc_law_rows (fun vs H Q E h=>?_) (fun cdv A outer s H vs Q E hr h=>⟨_,tm_law_rows T hr,?_⟩)
 ·obtain ⟨p,ins,gs,outs,rfl,_⟩:=h;rfl
 ·obtain ⟨p,ins,gs,outs,rfl,hN,W,q⟩:=h
  show rd_law_rows K _ [some (.ref p),none,none,none,none] H
  unfold rd_law_rows
  obtain ⟨pa,pb,pc,ts,h0,hA,hB,hG,hC⟩:=hN
  have big:(1000:Nat)≤sizeLine:=by decide
  have i1:=W.i1
  have gl:=W.gl
  have o1:=W.o1
  walk_at "gs"
  intro p1 H1 n1
  walk_at "gs"
  refine ⟨_,_,.inr (n1.same.tup h0),rfl,?_⟩
  walk_at "gs"
  refine ⟨_,_,n1.sq,n1.same.seq hA,by rw [List.length_map];simp only [List.length_cons,List.length_nil];omega,fun p2 H2 n2=>?_⟩
  walk_at "gs"
  refine ⟨by show 1≤sizeLine;decide,?_⟩
  intro pr H3 n3
  have s3:=(n1.same.trans n2.same).trans n3.same
  have frr:H pr=none:=(n1.same.trans n2.same).free n3.was
  walk_at "gs"
  refine ⟨_,_,.inr (s3.tup h0),rfl,?_⟩
  walk_at "gs"
  refine ⟨⟨_,s3.seq hB⟩,for_listG (xs:=ts) (fun i σ H4=>∃ us v2 v3 v4,Same H H4∧H4 pr=some (.lst us)∧(∀ t,V.ref t∈us→t≠pr)∧RowsAt H4 us ((("in" : Str) :: ins) :: (gs.take i).map rowG)∧σ=[some (.ref p),some (.ref pr),v2,v3,v4])
   ⟨[.ref p2],none,none,none,s3,n3.at_,fun t ht=>by cases List.mem_singleton.mp ht;exact ne_of_none n2.at_ n3.was,⟨rfl,fun i r e=>?_⟩,rfl⟩ ?_ ?_ ?_⟩
  ·match i,e with
   | 0,e=>cases e;exact ⟨p2,rfl,n3.same _ _ n2.at_⟩
  ·rintro i σ H4 _ ⟨us,v2,v3,v4,s4,_⟩
   exact s4.seq hB
  ·rintro i v σ H4 hv ⟨us,v2,v3,v4,s4,hpr,hne,hR,rfl⟩
   have hi:i<gs.length:=by rw [← hG.1];exact (List.getElem?_eq_some_iff.mp hv).1
   have hgi:gs[i]? = some gs[i]:=by simp [hi]
   obtain ⟨t,qq,e1,_,_,e2,e3⟩:=hG.2 i gs[i] hgi
   rw [hv] at e1
   cases e1
   obtain ⟨_,_,b4⟩:=ME.WG.at W.wg hgi
   have htk:gs.take (i+1)=gs.take i ++ [gs[i]]:=by rw [List.take_add_one,hgi];rfl
   generalize gs[i]=g at e2 e3 b4 htk
   have hul:us.length=i+1:=by rw [hR.1,List.length_cons,List.length_map,List.length_take];omega
   walk_at "gs"
   refine ⟨t,_,rfl,s4.tup e2,rfl,_,_,rfl,_,_,rfl,_,_,rfl,rfl,?_⟩
   walk_at "gs"
   refine ⟨.inl ⟨by trivial,_,.of hpr⟩,?_⟩
   walk_at "gs"
   refine ⟨by show 3≤sizeLine;decide,?_⟩
   intro p5 H5 n5
   walk_at "gs"
   refine ⟨_,_,n5.sq,(s4.trans n5.same).seq e3,by rw [List.length_map];simp only [List.length_cons,List.length_nil];omega,fun p6 H6 n6=>?_⟩
   have k6:=n5.same.trans n6.same
   have hpr6:=k6 _ _ hpr
   have n6r:p6≠pr:=Ne.symm (ne_of_none (n5.same _ _ hpr) n6.was)
   refine ⟨pr,us,_,rfl,rfl,hpr6,by omega,us ++ [.ref p6],_,_,_,(s4.trans k6).put frr,upd_same,fun t' ht=>?_,?_,rfl⟩
   ·rcases List.mem_append.mp ht with z | z
    ·exact hne t' z
    ·cases List.mem_singleton.mp z;exact n6r
   ·rw [htk,List.map_append]
    refine RowsAt.snoc (H:=H4) (rs:=(("in" : Str) :: ins) :: (gs.take i).map rowG) (r:=rowG g) hR (fun b xs hb e=>?_) ?_
    ·rw [upd_ne (hne b hb)];exact k6 _ _ e
    ·rw [upd_ne n6r];exact n6.at_
  ·rintro σ H4 ⟨us,v2,v3,v4,s4,hpr,hne,hR,rfl⟩
   rw [hG.1,List.take_length] at hR
   have hul:us.length=gs.length+1:=by rw [hR.1,List.length_cons,List.length_map]
   walk_at "gs"
   intro p7 H7 n7
   walk_at "gs"
   refine ⟨_,_,.inr ((s4.trans n7.same).tup h0),rfl,?_⟩
   walk_at "gs"
   refine ⟨_,_,n7.sq,(s4.trans n7.same).seq hC,by rw [List.length_map];simp only [List.length_cons,List.length_nil];omega,fun p8 H8 n8=>?_⟩
   walk_at "gs"
   refine ⟨by show 1≤sizeLine;decide,?_⟩
   intro p9 H9 n9
   have k9:=(n7.same.trans n8.same).trans n9.same
   walk_at "gs"
   refine ⟨us,_,.of (k9 _ _ hpr),n9.sq,by rw [hul];simp only [List.length_cons,List.length_nil];omega,fun p10 H10 n10=>?_⟩
   have k10:=k9.trans n10.same
   refine q p10 _ H10 (s4.trans k10) ((s4.trans k9).free n10.was) n10.at_ ?_
   exact RowsAt.snoc (H:=H4) (rs:=(("in" : Str) :: ins) :: gs.map rowG) (r:=("out" : Str) :: outs) hR (fun b xs hb e=>k10 _ _ e) (n10.same _ _ (n9.same _ _ n8.at_))
abbrev bl32:Nat→Bool:=fun c=>decide (c=32)
theorem cutW_cons (f:Nat→Bool) (c:Nat) (r run:List Nat):cutW f (c :: r) run=if f c=true then (if run=[] then cutW f r [] else run :: cutW f r []) else cutW f r (run ++ [c]):=rfl
theorem cut_word:∀ (w t run:List Nat),(∀ c∈w,c≠32)→cutW bl32 (w ++ t) run=cutW bl32 t (run ++ w)
 | [],t,run,_=>by rw [List.nil_append,List.append_nil]
 | c :: w,t,run,h=>by
  rw [List.cons_append,cutW_cons,if_neg (by simpa using h c List.mem_cons_self),cut_word w t _ fun d hd=>h d (List.mem_cons_of_mem _ hd),List.append_assoc]
  rfl
theorem ltrOk {x:Str} (h:∀ c∈x.cps.toList,NM.okc c):okT x=true:=by
 unfold okT
 rw [List.all_eq_true]
 intro c hc
 have:=h c hc
 unfold NM.okc at this
 unfold okC
 rw [if_neg (by omega)]
 exact decide_eq_true this
theorem eqS (xs:List Str) (i:Nat) (h:i<xs.length):atI (xs.map V.str) (i:Int)=some (.str (xs.getD i "")):=by
 rw [atI_ok .non (by omega) (by rw [List.length_map];omega)]
 simp [List.getD,h]
def ltrs (w:Str):Prop:=w.cps.toList≠[]∧w.length≤20∧∀ c∈w.cps.toList,NM.okc c
def LR (r:List Str):Prop:=(∀ w∈r,ltrs w)∧r.length≤30
theorem ltrs_nm {z:Str} (h:NM.Nm z.cps.toList):ltrs z:=by
 have l1:=h.1
 have l2:=h.2
 refine ⟨fun e=>by rw [e] at l1;exact absurd l1 (by decide),by rw [len_cps] at l2;omega,h.3⟩
def ltrsB (w:Str):Bool:=decide (w.cps.toList≠[]) && (decide (w.length≤20) && w.cps.toList.all fun c=>decide (97≤c∧c≤122))
theorem ltrs_of {w:Str} (h:ltrsB w=true):ltrs w:=by
 unfold ltrsB at h
 simp only [Bool.and_eq_true,decide_eq_true_eq,List.all_eq_true] at h
 exact ⟨h.1,h.2.1,fun c hc=>h.2.2 c hc⟩
theorem jf_cps:∀ (xs:List Str) (x:Str),(jf x xs).cps.toList=x.cps.toList ++ xs.flatMap fun y=>32 :: y.cps.toList
 | [],x=>by simp [jf]
 | y :: r,x=>by
  show (jf (x ++ " " ++ y) r).cps.toList=_
  rw [jf_cps r,cps_app,cps_app,List.flatMap_cons,show (" " : Str).cps.toList=[32] by decide +kernel]
  simp
theorem cut_flat:∀ (xs:List Str) (run:List Nat),run≠[]→(∀ w∈xs,ltrs w)→cutW bl32 (xs.flatMap fun y=>32 :: y.cps.toList) run=run :: xs.map (·.cps.toList)
 | [],run,h,_=>by show cutW bl32 [] run=_;unfold cutW;rw [if_neg h];rfl
 | y :: r,run,h,hl=>by
  have hy:=hl y List.mem_cons_self
  rw [List.flatMap_cons,List.cons_append,cutW_cons,if_pos (by decide),if_neg h,cut_word _ _ _ (fun c hc=>by have:=hy.2.2 c hc;unfold NM.okc at this;omega),List.nil_append,cut_flat r _ hy.1 fun w hw=>hl w (List.mem_cons_of_mem _ hw),List.map_cons]
theorem okT_jf:∀ (xs:List Str) (x:Str),okT x=true→(∀ w∈xs,ltrs w)→okT (jf x xs)=true
 | [],x,h,_=>h
 | y :: r,x,h,hl=>okT_jf r _ (by
   have hy:=ltrOk (hl y List.mem_cons_self).2.2
   unfold okT at *
   rw [cps_app,cps_app,List.all_append,List.all_append,h,hy];decide +kernel) fun w hw=>hl w (List.mem_cons_of_mem _ hw)
theorem wrds_jn {row:List Str} (h:∀ w∈row,ltrs w):wrds (jn row)=row:=by
 cases row with
 | nil=>decide +kernel
 | cons x xs =>
  have hx:=h x List.mem_cons_self
  have hxs:∀ w∈xs,ltrs w:=fun w hw=>h w (List.mem_cons_of_mem _ hw)
  rw [jn_cons]
  unfold wrds
  rw [if_pos (okT_jf xs x (ltrOk hx.2.2) hxs)]
  have e4:cutB (jf x xs).cps.toList=(x :: xs).map (·.cps.toList):=by
   unfold cutB
   rw [jf_cps,cut_word _ _ _ (fun c hc=>by have:=hx.2.2 c hc;unfold NM.okc at this;omega),List.nil_append,cut_flat xs _ hx.1 hxs]
   rfl
  rw [e4,List.map_map]
  conv=>rhs;rw [← List.map_id (x :: xs)]
  congr 1
theorem jn_len {row:List Str} (h:LR row):(jn row).length≤1000:=by
 cases row with
 | nil=>decide +kernel
 | cons x xs =>
  rw [jn_cons,← len_cps,jf_cps,List.length_append,len_cps]
  have:∀ (ys:List Str),(∀ w∈ys,w.length≤20)→(ys.flatMap fun y=>32 :: y.cps.toList).length≤21 * ys.length:=by
   intro ys
   induction ys with
   | nil=>intro _;simp
   | cons y r ih =>
    intro hy
    rw [List.flatMap_cons,List.length_append,List.length_cons,List.length_cons,len_cps]
    have:=ih fun w hw=>hy w (List.mem_cons_of_mem _ hw)
    have:=hy y List.mem_cons_self
    omega
  have h1:=this xs fun w hw=>(h.1 w (List.mem_cons_of_mem _ hw)).2.1
  have h2:=(h.1 x List.mem_cons_self).2.1
  have h3:=h.2
  rw [List.length_cons] at h3
  omega
theorem wsum {row:List Str} (h:LR row):(row.map (·.length)).sum+row.length≤1048576:=by
 have:∀ (ys:List Str),(∀ w∈ys,w.length≤20)→(ys.map (·.length)).sum≤20 * ys.length:=by
  intro ys
  induction ys with
  | nil=>intro _;simp
  | cons y r ih =>
   intro hy
   rw [List.map_cons,List.sum_cons,List.length_cons]
   have:=ih fun w hw=>hy w (List.mem_cons_of_mem _ hw)
   have:=hy y List.mem_cons_self
   omega
 have h1:=this row fun w hw=>(h.1 w hw).2.1
 have h2:=h.2
 omega
def PreBad (a:Adr) (C:Addr) (q:List (List Str)):Prop:=(∃ bad,q=[bad]∧BadIn a C bad)∨∃ ins gs bad,q=(("in" : Str) :: ins) :: (gs.map rowG ++ [bad])∧GP ins gs∧BadGate a C (ins ++ gs.map (·.1)) bad
theorem PreBad.badR {a:Adr}{C:Addr}{q post:List (List Str)} (h:PreBad a C q) (hp:post≠[]):BadR a C (q ++ post):=by
 rcases List.eq_nil_or_concat post with e | ⟨p0,l,rfl⟩
 ·exact absurd e hp
 rw [List.concat_eq_append]
 rcases h with ⟨bad,rfl,hb⟩ | ⟨ins,gs,bad,rfl,gp,hb⟩
 ·exact .inr ⟨bad,p0,l,rfl,.inl hb⟩
 ·exact .inr ⟨("in" : Str) :: ins,gs.map rowG ++ bad :: p0,l,by simp,.inr ⟨ins,gs,rfl,gp,.inl ⟨bad,p0,rfl,hb⟩⟩⟩
def kindC (a:Adr) (k:Bool):Addr:=if k then a.c_NoName else a.c_NoLine
def sp_law_kinds (a:Adr) (K:PySem.W.Frag):Sp:=fun vs H Q _=>∃ (p:Addr) (lines:List Str) (k:Bool),vs=[.ref p]∧SqL K H p (lines.map V.str)∧lines.length≤100∧(∀ l∈lines,l.length≤8000∧(wrds l).length≤100∧∀ x∈wrds l,x.length≤8000) ∧
 BadR a (kindC a k) (lines.map wrds)∧∀ kp H',Same H H'→H kp=none→H' kp=some (.lst [.bl (!k),.bl k,.bl true,.bl false,.bl false])→Q (.ref kp) H'
theorem eq_strs {K:PySem.W.Frag}{H:Hp}{p q:Addr}{ss:List Str} (h1:SqL K H p (ss.map V.str)) (h2:SqL K H q (ss.map V.str)):EqRef K H p q true:=by
 refine .inl ⟨rfl,DeepEq.lst (n:=3) h1 h2 rfl fun i x y hx hy=>?_⟩
 rw [hx] at hy
 cases hy
 obtain ⟨s,_,rfl⟩:=get_map_of hx
 exact .flat rfl
def rd_law_kinds (a:Adr) (K:PySem.W.Frag):TS:=(tSeq (tAsg (tLst tNil) (gName 1))
  (tSeq (tAsg (tCB (cList K) (tCons (cVar 0) tNil)) (gName 2))
  (tSeq (tTry (fun Ex=>(tDrop (tCallX (sp_net_of a K) [] Ex (tCons (cVar 2) tNil)))) (tHd K a.c_FoldError (tAs 3 (tSeq (tAsg (tLst (tCons (tCB (cIsX K) (tCons (cVar 3) (tCons (tC (.ref a.c_NoLine)) tNil))) (tCons (tCB (cIsX K) (tCons (cVar 3) (tCons (tC (.ref a.c_NoName)) tNil))) (tCons (tCB (cIsX K) (tCons (cVar 3) (tCons (tC (.ty "ValueError")) tNil))) tNil)))) (gName 1))
  (tSeq (tDrop (tBM K "list" rAppend (cVar 1) (tCons (tCB (cIsX K) (tCons (cVar 3) (tCons (tTup (tCons (tC (.ref a.c_NoBoard)) (tCons (tC (.ref a.c_NoCut)) (tCons (tC (.ref a.c_NoGoal)) (tCons (tC (.ref a.c_NoKnot)) tNil))))) tNil))) tNil)))
  (tDrop (tBM K "list" rAppend (cVar 1) (tCons (tCB (cIsX K) (tCons (cVar 3) (tCons (tTup (tCons (tC (.ref a.c_NoMatch)) (tCons (tC (.ref a.c_NoSize)) (tCons (tC (.ref a.c_NoText)) (tCons (tC (.ref a.c_NoTie)) tNil))))) tNil))) tNil)))))) tNoH))
  (tSeq (tIfS (cTst (tOp (cNe K) (cVar 2) (cVar 0))) (tRet (tLst tNil)) tNext)
  (tRet (cVar 1))))))
theorem tm_law_kinds (T:Txt w K mg a) {cdv:Value}{A:Around}{outer:List Env}{s:Shared}{H:Hp}{E:XK} (hr:Room 3 (A.deeper (envOfC "_law_kinds" (defScope s_law_kinds) s.heap.objs.size a.f_law_kinds cdv))) :
  PSs (cxOf CX0 P w K mg base N_law_kinds "_law_kinds" (defScope s_law_kinds) a.f_law_kinds cdv A outer s H E).nox (defBody s_law_kinds) (rd_law_kinds a K) :=
 (pss_cons (ps_set (i:=1) sc_law_kinds.nd rfl (by walk_at "o") (pe_lst pa_nil))
   (pss_cons (ps_set (i:=2) sc_law_kinds.nd rfl (by walk_at "o") (pe_callTy c_list (by rfl) T.no_list PyProof.Rows.boot_list (pa_cons (cv 0) pa_nil)))
   (pss_cons (ps_try ⟨rfl,rfl⟩ (fun _ Ex=>(pss_one (ps_expr (pe_callX xok_tr (ok_net_of T) (hr.mono (by decide)) rfl T.mg_net_of T.fn_net_of.kp T.bi_net_of .nil (pa_cons (cv 2) pa_nil))))) (ph_as (i:=3) T.xk_FoldError rfl T.mg_FoldError sc_law_kinds.nd rfl rfl (fun _=>(pss_cons (ps_set (i:=1) sc_law_kinds.nd rfl (by walk_at "o") (pe_lst (pa_cons (pe_callB c_isX (by rfl) T.no_isinstance PyProof.Rows.boot_isinstance (pa_cons (cv 3) (pa_cons (pe_glob (v:=.ref a.c_NoLine) rfl T.mg_NoLine rfl) pa_nil))) (pa_cons (pe_callB c_isX (by rfl) T.no_isinstance PyProof.Rows.boot_isinstance (pa_cons (cv 3) (pa_cons (pe_glob (v:=.ref a.c_NoName) rfl T.mg_NoName rfl) pa_nil))) (pa_cons (pe_callB c_isX (by rfl) T.no_isinstance PyProof.Rows.boot_isinstance (pa_cons (cv 3) (pa_cons (pe_bltn (v:=.ty "ValueError") rfl T.no_ValueError boot_ValueError rfl) pa_nil))) pa_nil)))))
   (pss_cons (ps_expr (pe_bm PySem.F.plainAttrs_list PySem.F.slot_list_append PySem.F.type_list_append (mtr mt_append) (cv 1) (pa_cons (pe_callB c_isX (by rfl) T.no_isinstance PyProof.Rows.boot_isinstance (pa_cons (cv 3) (pa_cons (pe_tup (pa_cons (pe_glob (v:=.ref a.c_NoBoard) rfl T.mg_NoBoard rfl) (pa_cons (pe_glob (v:=.ref a.c_NoCut) rfl T.mg_NoCut rfl) (pa_cons (pe_glob (v:=.ref a.c_NoGoal) rfl T.mg_NoGoal rfl) (pa_cons (pe_glob (v:=.ref a.c_NoKnot) rfl T.mg_NoKnot rfl) pa_nil))))) pa_nil))) pa_nil)))
   (pss_one (ps_expr (pe_bm PySem.F.plainAttrs_list PySem.F.slot_list_append PySem.F.type_list_append (mtr mt_append) (cv 1) (pa_cons (pe_callB c_isX (by rfl) T.no_isinstance PyProof.Rows.boot_isinstance (pa_cons (cv 3) (pa_cons (pe_tup (pa_cons (pe_glob (v:=.ref a.c_NoMatch) rfl T.mg_NoMatch rfl) (pa_cons (pe_glob (v:=.ref a.c_NoSize) rfl T.mg_NoSize rfl) (pa_cons (pe_glob (v:=.ref a.c_NoText) rfl T.mg_NoText rfl) (pa_cons (pe_glob (v:=.ref a.c_NoTie) rfl T.mg_NoTie rfl) pa_nil))))) pa_nil))) pa_nil))))))) ph_nil))
   (pss_cons (ps_if (t_cmp (o_ne (hr8 hr)) (cv 2) (cv 0) (nomark _)) (pss_one (ps_ret (pe_lst pa_nil))) pss_nil)
   (pss_one (ps_ret (cv 1)))))))
theorem ok_law_kinds (T:Txt w K mg a):FnOk P w K mg base CX0 4 a.f_law_kinds a.d_law_kinds ["_law_lines"] (sp_law_kinds a K):=by
 refine T.fn_law_kinds.ok sc_law_kinds (fun vs H Q E h=>?_) (fun cdv A outer s H vs Q E hr h=>⟨_,tm_law_kinds T hr,?_⟩)
 ·obtain ⟨p,lines,k,rfl,_⟩:=h;rfl
 ·obtain ⟨p,lines,k,rfl,hp,hl,hle,hb,q⟩:=h
  show rd_law_kinds a K _ [some (.ref p),none,none,none] H
  unfold rd_law_kinds
  have big:(20000:Nat)≤sizeLine:=by decide
  walk_at "gs"
  intro k0 H1 n1
  walk_at "gs"
  refine ⟨_,.inl (n1.same.seq hp),fun ph H2 n2=>?_⟩
  have s02:=n1.same.trans n2.same
  walk_at "gs"
  refine ⟨ph,lines,rfl,n2.sq,hl,hle,.inr ⟨_,hb,fun H3 e s3 he=>?_⟩⟩
  have f1:PySem.W.ktsIn K (kindC a k) "BaseException" = true:=by cases k;exact T.xk_NoLine;exact T.xk_NoName
  have f2:(mroIn K (kindC a k)).contains (.ref a.c_FoldError)=true:=by cases k;exact T.xm_NoLine_FoldError;exact T.xm_NoName_FoldError
  have f3:exq K (kindC a k)=true:=by cases k;exact T.xq_NoLine;exact T.xq_NoName
  have f4:PySem.W.kitOne K (.ref (kindC a k)) (.ref a.c_NoLine)=some (!k):=by cases k;exact T.ko_NoLine_NoLine;exact T.ko_NoName_NoLine
  have f5:PySem.W.kitOne K (.ref (kindC a k)) (.ref a.c_NoName)=some k:=by cases k;exact T.ko_NoLine_NoName;exact T.ko_NoName_NoName
  have f6:PySem.W.kitOne K (.ref (kindC a k)) (.type "ValueError")=some true:=by cases k;exact T.kv_NoLine;exact T.kv_NoName
  have e0:PySem.W.kitOne K (.ref (kindC a k)) (.ref a.c_NoBoard)=some false:=by cases k;exact T.ko_NoLine_NoBoard;exact T.ko_NoName_NoBoard
  have e1:PySem.W.kitOne K (.ref (kindC a k)) (.ref a.c_NoCut)=some false:=by cases k;exact T.ko_NoLine_NoCut;exact T.ko_NoName_NoCut
  have e2:PySem.W.kitOne K (.ref (kindC a k)) (.ref a.c_NoGoal)=some false:=by cases k;exact T.ko_NoLine_NoGoal;exact T.ko_NoName_NoGoal
  have e3:PySem.W.kitOne K (.ref (kindC a k)) (.ref a.c_NoKnot)=some false:=by cases k;exact T.ko_NoLine_NoKnot;exact T.ko_NoName_NoKnot
  have e4:PySem.W.kitOne K (.ref (kindC a k)) (.ref a.c_NoMatch)=some false:=by cases k;exact T.ko_NoLine_NoMatch;exact T.ko_NoName_NoMatch
  have e5:PySem.W.kitOne K (.ref (kindC a k)) (.ref a.c_NoSize)=some false:=by cases k;exact T.ko_NoLine_NoSize;exact T.ko_NoName_NoSize
  have e6:PySem.W.kitOne K (.ref (kindC a k)) (.ref a.c_NoText)=some false:=by cases k;exact T.ko_NoLine_NoText;exact T.ko_NoName_NoText
  have e7:PySem.W.kitOne K (.ref (kindC a k)) (.ref a.c_NoTie)=some false:=by cases k;exact T.ko_NoLine_NoTie;exact T.ko_NoName_NoTie
  generalize kindC a k=C at *
  refine ⟨e,_,rfl,rfl,f1,?_⟩
  rw [f2]
  walk_at "gs"
  refine ⟨_,!k,upd_same,f3,.inl f4,_,k,upd_same,f3,.inl f5,_,true,upd_same,f3,f6,by show 3≤sizeLine;decide,fun kp H5 n5=>?_⟩
  have he5:=n5.same _ _ (upd_same (H:=H3) (a:=e) (o:=xo e C))
  refine ⟨.inl ⟨by trivial,_,.of n5.at_⟩,by show 4≤sizeLine;decide,fun t6 H6 n6=>?_⟩
  refine ⟨_,false,n6.same _ _ he5,f3,.inr ⟨[a.c_NoBoard,a.c_NoCut,a.c_NoGoal,a.c_NoKnot],n6.at_,?_⟩,?_⟩
  ·simp only [List.map_cons,List.map_nil,PySem.W.kitAny,e0,e1,e2,e3]
  have fk4:H3 kp=none:=(same_upd he).nil n5.was
  have nek:e≠kp:=ne_of_none (upd_same (H:=H3) (a:=e) (o:=xo e C)) n5.was
  refine ⟨kp,_,_,rfl,rfl,n6.same _ _ n5.at_,by show 3<sizeLine;decide,.inl ⟨by trivial,_,.of upd_same⟩,by show 4≤sizeLine;decide,fun t8 H8 n8=>?_⟩
  refine ⟨_,false,n8.same _ _ (by rw [upd_ne nek];exact n6.same _ _ he5),f3,.inr ⟨[a.c_NoMatch,a.c_NoSize,a.c_NoText,a.c_NoTie],n8.at_,?_⟩,?_⟩
  ·simp only [List.map_cons,List.map_nil,PySem.W.kitAny,e4,e5,e6,e7]
  refine ⟨kp,_,_,rfl,rfl,n8.same _ _ upd_same,by show 4<sizeLine;decide,?_⟩
  have s39:Same H3 (upd H8 kp (.lst [.bl (!k),.bl k,.bl true,.bl false,.bl false])):=((((((same_upd he).trans n5.same).trans n6.same).put fk4).trans n8.same).put fk4)
  have s09:=s02.trans (s3.trans s39)
  refine ⟨true,eq_strs (.of ((s3.trans s39) _ _ n2.at_)) (s09.seq hp),?_⟩
  rw [if_neg (by decide)]
  exact q kp _ s09 ((s02.trans s3).free fk4) upd_same
open GM
structure KL (L:List Str):Prop where
 l0:1≤L.length
 l1:L.length≤100
 nm:∀ n∈L,NM.Nm n.cps.toList∧inV (.str n) nearV=false
theorem KL.ltrs {L:List Str} (h:KL L) {n:Str} (hn:n∈L):ltrs n:=ltrs_nm (h.nm n hn).1
theorem near_no {n w:Str} (h:inV (.str n) nearV=false) (hw:w∈nearStr):n≠w:=by
 rintro rfl
 have key:∀ x∈nearStr,inV (.str x) nearV=true:=by decide +kernel
 rw [key n hw] at h
 cases h
theorem KL.near {L:List Str} (h:KL L) {w:Str} (hw:w∈nearStr):w ∉ L:=fun hn=>near_no (h.nm w hn).2 hw rfl
theorem KL.long {L:List Str} (h:KL L) {w:Str} (hw:9≤w.length):w ∉ L:=fun hn=>by
 have:=(h.nm w hn).1.2
 rw [len_cps] at this
 omega
theorem hasP_no {L:List Str} (h:KL L) {n:Str} (hn:n∈L) (c:Nat):hasP n c=false:=by
 have:mdV gl_PART_COUNTS n=none:=by
  unfold mdV
  rw [Option.map_eq_none_iff,List.find?_eq_none]
  intro kv hkv
  have key:∀ kv∈gl_PART_COUNTS,kv.1∈nearStr:=by decide +kernel
  simpa using fun e=>near_no (h.nm n hn).2 (key kv hkv) e.symm
 unfold hasP
 rw [this]
theorem no_gate2 {row:List Str} (h:row.length<3):¬ ∃ g,row=rowG g∧hasP g.2.1 g.2.2.length=true:=by
 rintro ⟨g,rfl,_⟩
 unfold rowG at h
 simp only [List.length_cons] at h
 omega
theorem no_gate_is {x y:Str}{r:List Str} (h:y ≠ "is"):¬ ∃ g,x :: y :: r=rowG g∧hasP g.2.1 g.2.2.length=true:=by
 rintro ⟨g,e,_⟩
 unfold rowG at e
 injection e with _ e
 injection e with e _
 exact h e
theorem no_gate_p {x w:Str}{r:List Str} (h:hasP w r.length=false):¬ ∃ g,x :: "is" :: w :: r=rowG g∧hasP g.2.1 g.2.2.length=true:=by
 rintro ⟨g,e,hp⟩
 unfold rowG at e
 injection e with _ e
 injection e with _ e
 injection e with e1 e2
 rw [← e1,← e2,h] at hp
 cases hp
theorem lrc {x:Str}{r:List Str} (hx:ltrs x) (h:∀ w∈r,ltrs w):∀ w∈x :: r,ltrs w:=List.forall_mem_cons.mpr ⟨hx,h⟩
theorem lrn:∀ w∈([]:List Str),ltrs w:=fun _ h=>by simp at h
theorem emod_nat (c:Int) (n:Nat) (h:0<n):∃ j:Nat,j<n∧c % (n:Int)=j:=by
 have h0:=Int.emod_nonneg c (show (n:Int)≠0 by omega)
 have h1:=Int.emod_lt_of_pos c (show (0:Int)<n by omega)
 exact ⟨(c % (n:Int)).toNat,by omega,by omega⟩
theorem at_lastG (xs:List Str) (h:1≤xs.length):∃ z∈xs,atI (xs.map V.str) (-1)=some (.str z):=by
 rcases List.eq_nil_or_concat xs with rfl | ⟨r,z,rfl⟩
 ·simp at h
 rw [List.concat_eq_append]
 refine ⟨z,by simp,?_⟩
 have e:ixN ((r ++ [z]).map V.str).length (-1)=some r.length:=by
  have hl:((r ++ [z]).map V.str).length=r.length+1:=by simp
  unfold ixN
  rw [hl,if_neg (by omega),if_pos (by omega)]
  congr 1
  omega
 unfold atI
 rw [e]
 show ((r ++ [z]).map V.str)[r.length]? = _
 simp
def cnt8:List (List V):=[[.int 1,.int 7],[.int 0,.int 8],[.int 1,.int 9],[.int 0,.int 2],[.int 2,.int 4],[.int 2,.int 4],[.int 1,.int 2],[.int 1,.int 3]]
def cntOk (j i:Nat):Bool:=match atI (cnt8.getD j []) (i:Int) with
 | some (.int n)=>decide (0≤n) && (decide (n≤9) && !hasP (wordsS.getD j "") n.toNat)
 | _=>false
def sp_law_wrong_gate (a:Adr) (K:PySem.W.Frag):Sp:=fun vs H Q _=>∃ (way cell:Int) (pk:Addr) (L:List Str) (later:Str),vs=[.int way,.int cell,.ref pk,.str later]∧SqL K H pk (L.map V.str)∧KL L∧ltrs later∧later.length≤8∧(way=4∨way=5∨way=6∨way=8∨way=9) ∧
 ∀ p row H',Mad H p (.lst (row.map V.str)) H'→LR row→BadGate a (kindC a (decide (6<way))) L row→Q (.ref p) H'
def rd_law_wrong_gate (K:PySem.W.Frag):TS:=(tSeq (tAsg (tOp (cIx K) (cVar 2) (tOp (cI2c (fun _ j=>0<j) fun i j=>.int (i % j)) (tOp (cI2c CDiv fun i j=>.int (i / j)) (cVar 1) (tC (.int 4))) (tCB (cLen K) (tCons (cVar 2) tNil)))) (gName 4))
  (tSeq (tIfS (cTst (tOp (cEq K) (cVar 0) (tC (.int 4)))) (tRet (tOp (cIx K) (tLst (tCons (tLst (tCons (cVar 3) tNil)) (tCons (tLst (tCons (cVar 3) (tCons (tC (.str "is")) tNil))) (tCons (tLst (tCons (tC (.str "out")) (tCons (cVar 4) tNil))) (tCons (tLst (tCons (tC (.str "in")) (tCons (cVar 4) (tCons (cVar 4) tNil)))) (tCons (tLst (tCons (cVar 3) (tCons (tC (.str "and")) (tCons (tC (.str "is")) (tCons (cVar 4) (tCons (cVar 4) tNil)))))) tNil)))))) (tOp (cI2c (fun _ j=>0<j) fun i j=>.int (i % j)) (cVar 1) (tC (.int 5))))) tNext)
  (tSeq (tIfS (cTst (tOp (cEq K) (cVar 0) (tC (.int 5)))) (tRet (tLst (tCons (cVar 3) (tCons (tC (.str "is")) (tCons (tOp (cIx K) (tLst (tCons (tC (.str "in")) (tCons (tC (.str "is")) (tCons (tC (.str "nor")) (tCons (tC (.str "ands")) (tCons (cVar 4) tNil)))))) (tOp (cI2c (fun _ j=>0<j) fun i j=>.int (i % j)) (cVar 1) (tC (.int 5)))) (tCons (cVar 4) (tCons (cVar 4) tNil))))))) tNext)
  (tSeq (tIfS (cTst (tOp (cEq K) (cVar 0) (tC (.int 6)))) (tSeq (tAsg (tOp (cIx K) (tLst (tVals [(.str "and"),(.str "or"),(.str "either"),(.str "not"),(.str "choose"),(.str "most"),(.str "yes"),(.str "no")])) (tOp (cI2c (fun _ j=>0<j) fun i j=>.int (i % j)) (cVar 1) (tC (.int 8)))) (gName 5))
  (tSeq (tAsg (tOp (cIx K) (tOp (cIx K) (tLst (tCons (tLst (tVals [(.int 1),(.int 7)])) (tCons (tLst (tVals [(.int 0),(.int 8)])) (tCons (tLst (tVals [(.int 1),(.int 9)])) (tCons (tLst (tVals [(.int 0),(.int 2)])) (tCons (tLst (tVals [(.int 2),(.int 4)])) (tCons (tLst (tVals [(.int 2),(.int 4)])) (tCons (tLst (tVals [(.int 1),(.int 2)])) (tCons (tLst (tVals [(.int 1),(.int 3)])) tNil))))))))) (tOp (cI2c (fun _ j=>0<j) fun i j=>.int (i % j)) (cVar 1) (tC (.int 8)))) (tOp (cI2c (fun _ j=>0<j) fun i j=>.int (i % j)) (tOp (cI2c CDiv fun i j=>.int (i / j)) (cVar 1) (tC (.int 8))) (tC (.int 2)))) (gName 6))
  (tRet (tOp (cAddA K) (tLst (tCons (cVar 4) (tCons (tC (.str "is")) (tCons (cVar 5) tNil)))) (tComp (iRng1 (tCons (cVar 6) tNil)) 1 [4,3,1] (gName 0) tTrue (tOp (cIx K) (tLst (tCons (cVar 1) (tCons (tC (.str "is")) (tCons (cVar 2) tNil)))) (tOp (cI2c (fun _ j=>0<j) fun i j=>.int (i % j)) (tOp (cAddA K) (tOp (cI2c CDiv fun i j=>.int (i / j)) (cVar 3) (tC (.int 16))) (cVar 0)) (tC (.int 3))))))))) tNext)
  (tSeq (tIfS (cTst (tOp (cEq K) (cVar 0) (tC (.int 8)))) (tSeq (tAsg (tOp (cIx K) (tLst (tCons (tC (.str "is")) (tCons (tC (.str "most")) (tCons (tCall (sp_law_letters K) [] E0 (tCons (cVar 1) (tCons (tOp (cAddA K) (tC (.int 9)) (tOp (cI2c (fun _ j=>0<j) fun i j=>.int (i % j)) (tOp (cI2c CDiv fun i j=>.int (i / j)) (cVar 1) (tC (.int 6))) (tC (.int 3)))) tNil))) (tCons (cVar 4) (tCons (cVar 4) (tCons (tOp (cIx K) (cVar 2) (tC (.int 0))) tNil))))))) (tOp (cI2c (fun _ j=>0<j) fun i j=>.int (i % j)) (cVar 1) (tC (.int 6)))) (gName 7))
  (tRet (tLst (tCons (cVar 7) (tCons (tC (.str "is")) (tCons (tC (.str "and")) (tCons (cVar 4) (tCons (tOp (cIx K) (cVar 2) (tUn cNeg (tC (.int 1)))) tNil)))))))) tNext)
  (tSeq (tAsg (tOp (cIx K) (tLst (tCons (cVar 3) (tCons (tOp (cAddA K) (cVar 3) (tC (.str "aaaaaaaa"))) (tCons (tC (.str "not")) (tCons (tOp (cAddA K) (tOp (cIx K) (cVar 2) (tC (.int 0))) (tC (.str "bbbbbbbb"))) tNil))))) (tOp (cI2c (fun _ j=>0<j) fun i j=>.int (i % j)) (cVar 1) (tC (.int 4)))) (gName 8))
  (tSeq (tAsg (tLst (tCons (cVar 4) (tCons (cVar 4) (tCons (cVar 4) tNil)))) (gName 9))
  (tSeq (tAsg (cVar 8) (gSub (cVar 9) (tOp (cI2c (fun _ j=>0<j) fun i j=>.int (i % j)) (tOp (cI2c CDiv fun i j=>.int (i / j)) (cVar 1) (tC (.int 4))) (tC (.int 3))) rSetL))
  (tRet (tOp (cAddA K) (tLst (tCons (cVar 3) (tCons (tC (.str "is")) (tCons (tOp (cIx K) (tLst (tVals [(.str "choose"),(.str "most"),(.str "and"),(.str "either")])) (tOp (cI2c (fun _ j=>0<j) fun i j=>.int (i % j)) (tOp (cI2c CDiv fun i j=>.int (i / j)) (cVar 1) (tC (.int 12))) (tC (.int 4)))) tNil)))) (cVar 9)))))))))))
theorem tm_law_wrong_gate (T:Txt w K mg a) {cdv:Value}{A:Around}{outer:List Env}{s:Shared}{H:Hp}{E:XK} (hr:Room 1 (A.deeper (envOfC "_law_wrong_gate" (defScope s_law_wrong_gate) s.heap.objs.size a.f_law_wrong_gate cdv))) :
  PSs (cxOf CX0 P w K mg base N_law_wrong_gate "_law_wrong_gate" (defScope s_law_wrong_gate) a.f_law_wrong_gate cdv A outer s H E).nox (defBody s_law_wrong_gate) (rd_law_wrong_gate K) :=
 (pss_cons (ps_set (i:=4) sc_law_wrong_gate.nd rfl (by walk_at "o") (pe_ix i_seq (cv 2) (pe_op o_mod (pe_op o_fdiv (cv 1) pe_int) (pe_callB c_len (by rfl) T.no_len PySem.boot_len (pa_cons (cv 2) pa_nil))) (fun _ _=>rfl)))
   (pss_cons (ps_if (t_cmp (o_eq (hr8 hr)) (cv 0) pe_int (nomark _)) (pss_one (ps_ret (pe_ix i_seq (pe_lst (pa_cons (pe_lst (pa_cons (cv 3) pa_nil)) (pa_cons (pe_lst (pa_cons (cv 3) (pa_cons pe_str pa_nil))) (pa_cons (pe_lst (pa_cons pe_str (pa_cons (cv 4) pa_nil))) (pa_cons (pe_lst (pa_cons pe_str (pa_cons (cv 4) (pa_cons (cv 4) pa_nil)))) (pa_cons (pe_lst (pa_cons (cv 3) (pa_cons pe_str (pa_cons pe_str (pa_cons (cv 4) (pa_cons (cv 4) pa_nil)))))) pa_nil)))))) (pe_op o_mod (cv 1) pe_int) (fun _ _=>rfl)))) pss_nil)
   (pss_cons (ps_if (t_cmp (o_eq (hr8 hr)) (cv 0) pe_int (nomark _)) (pss_one (ps_ret (pe_lst (pa_cons (cv 3) (pa_cons pe_str (pa_cons (pe_ix i_seq (pe_lst (pa_cons pe_str (pa_cons pe_str (pa_cons pe_str (pa_cons pe_str (pa_cons (cv 4) pa_nil)))))) (pe_op o_mod (cv 1) pe_int) (fun _ _=>rfl)) (pa_cons (cv 4) (pa_cons (cv 4) pa_nil)))))))) pss_nil)
   (pss_cons (ps_if (t_cmp (o_eq (hr8 hr)) (cv 0) pe_int (nomark _)) (pss_cons (ps_set (i:=5) sc_law_wrong_gate.nd rfl (by walk_at "o") (pe_ix i_seq (pe_lst (pa_consts (vs:=[(.str "and"),(.str "or"),(.str "either"),(.str "not"),(.str "choose"),(.str "most"),(.str "yes"),(.str "no")]) rfl)) (pe_op o_mod (cv 1) pe_int) (fun _ _=>rfl)))
   (pss_cons (ps_set (i:=6) sc_law_wrong_gate.nd rfl (by walk_at "o") (pe_ix i_seq (pe_ix i_seq (pe_lst (pa_cons (pe_lst (pa_consts (vs:=[(.int 1),(.int 7)]) rfl)) (pa_cons (pe_lst (pa_consts (vs:=[(.int 0),(.int 8)]) rfl)) (pa_cons (pe_lst (pa_consts (vs:=[(.int 1),(.int 9)]) rfl)) (pa_cons (pe_lst (pa_consts (vs:=[(.int 0),(.int 2)]) rfl)) (pa_cons (pe_lst (pa_consts (vs:=[(.int 2),(.int 4)]) rfl)) (pa_cons (pe_lst (pa_consts (vs:=[(.int 2),(.int 4)]) rfl)) (pa_cons (pe_lst (pa_consts (vs:=[(.int 1),(.int 2)]) rfl)) (pa_cons (pe_lst (pa_consts (vs:=[(.int 1),(.int 3)]) rfl)) pa_nil))))))))) (pe_op o_mod (cv 1) pe_int) (fun _ _=>rfl)) (pe_op o_mod (pe_op o_fdiv (cv 1) pe_int) pe_int) (fun _ _=>rfl)))
   (pss_one (ps_ret (pe_op o_addA (pe_lst (pa_cons (cv 4) (pa_cons pe_str (pa_cons (cv 5) pa_nil)))) (pe_comp (N:=["_law_k","_law_name","_law_later","_law_cell"]) (k:=1) (sel:=[4,3,1]) (CScope.of (defScope s_law_wrong_gate).names (by decide +kernel)) (CNames.of N_law_wrong_gate (by decide +kernel)) rfl (pi_range1 rfl T.no_range (pa_cons (cv 6) pa_nil)) (fun _ _ _ _=>(pg_name (i:=0) (show List.Nodup (["_law_k","_law_name","_law_later","_law_cell"]:List Str) by decide +kernel) rfl (by walk_at "o"))) (fun _ _ _ _=>pts_nil) (fun _ _ _ _=>(pe_ix i_seq (pe_lst (pa_cons (cv 1) (pa_cons pe_str (pa_cons (cv 2) pa_nil)))) (pe_op o_mod (pe_op o_addA (pe_op o_fdiv (cv 3) pe_int) (cv 0)) pe_int) (fun _ _=>rfl))))))))) pss_nil)
   (pss_cons (ps_if (t_cmp (o_eq (hr8 hr)) (cv 0) pe_int (nomark _)) (pss_cons (ps_set (i:=7) sc_law_wrong_gate.nd rfl (by walk_at "o") (pe_ix i_seq (pe_lst (pa_cons pe_str (pa_cons pe_str (pa_cons (pe_call (ok_law_letters T) (hr.mono (by decide)) rfl T.mg_law_letters T.fn_law_letters.kp T.bi_law_letters .nil pass0 (pa_cons (cv 1) (pa_cons (pe_op o_addA pe_int (pe_op o_mod (pe_op o_fdiv (cv 1) pe_int) pe_int)) pa_nil))) (pa_cons (cv 4) (pa_cons (cv 4) (pa_cons (pe_ix i_seq (cv 2) pe_int (fun _ _=>rfl)) pa_nil))))))) (pe_op o_mod (cv 1) pe_int) (fun _ _=>rfl)))
   (pss_one (ps_ret (pe_lst (pa_cons (cv 7) (pa_cons pe_str (pa_cons pe_str (pa_cons (cv 4) (pa_cons (pe_ix i_seq (cv 2) (pe_un u_neg pe_int) (fun _ _=>rfl)) pa_nil))))))))) pss_nil)
   (pss_cons (ps_set (i:=8) sc_law_wrong_gate.nd rfl (by walk_at "o") (pe_ix i_seq (pe_lst (pa_cons (cv 3) (pa_cons (pe_op o_addA (cv 3) pe_str) (pa_cons pe_str (pa_cons (pe_op o_addA (pe_ix i_seq (cv 2) pe_int (fun _ _=>rfl)) pe_str) pa_nil))))) (pe_op o_mod (cv 1) pe_int) (fun _ _=>rfl)))
   (pss_cons (ps_set (i:=9) sc_law_wrong_gate.nd rfl (by walk_at "o") (pe_lst (pa_cons (cv 4) (pa_cons (cv 4) (pa_cons (cv 4) pa_nil)))))
   (pss_cons (ps_asg (cv 8) (pg_sub (cv 9) (pe_op o_mod (pe_op o_fdiv (cv 1) pe_int) pe_int) set_list))
   (pss_one (ps_ret (pe_op o_addA (pe_lst (pa_cons (cv 3) (pa_cons pe_str (pa_cons (pe_ix i_seq (pe_lst (pa_consts (vs:=[(.str "choose"),(.str "most"),(.str "and"),(.str "either")]) rfl)) (pe_op o_mod (pe_op o_fdiv (cv 1) pe_int) pe_int) (fun _ _=>rfl)) pa_nil)))) (cv 9))))))))))))
theorem ok_law_wrong_gate (T:Txt w K mg a):FnOk P w K mg base CX0 2 a.f_law_wrong_gate a.d_law_wrong_gate ["_law_way","_law_cell","_law_known","_law_later"] (sp_law_wrong_gate a K):=by
 refine T.fn_law_wrong_gate.ok sc_law_wrong_gate (fun vs H Q E h=>?_) (fun cdv A outer s H vs Q E hr h=>⟨_,tm_law_wrong_gate T hr,?_⟩)
 ·obtain ⟨way,cell,pk,L,later,rfl,_⟩:=h;rfl
 ·obtain ⟨way,cell,pk,L,later,rfl,hk,kl,hlt,hl8,hw,q⟩:=h
  show rd_law_wrong_gate K _ [some (.int way),some (.int cell),some (.ref pk),some (.str later),none,none,none,none,none,none] H
  unfold rd_law_wrong_gate
  have big:(20000:Nat)≤sizeLine:=by decide
  have l0:=kl.l0
  have l1:=kl.l1
  walk_at "gs"
  refine .inl ⟨_,.inl hk,?_⟩
  rw [List.length_map]
  have m0:0≤cell / 4 % (L.length:Int):=Int.emod_nonneg _ (by omega)
  have m1:cell / 4 % (L.length:Int)<L.length:=Int.emod_lt_of_pos _ (by omega)
  refine ⟨by omega,?_⟩
  refine ixS hk m0 m1 ?_
  have hnm:L.getD (cell / 4 % (L.length:Int)).toNat "" ∈ L:=getD_mem _ (by omega)
  generalize L.getD (cell / 4 % (L.length:Int)).toNat "" = name at hnm
  have hnl:=kl.ltrs hnm
  walk_at "gs"
  have lis:ltrs "is":=ltrs_of (by decide +kernel)
  rcases hw with rfl | rfl | rfl | rfl | rfl
  ·rw [if_pos rfl]
   refine ⟨by show 1≤sizeLine;decide,fun p1 H1 n1=>⟨by show 2≤sizeLine;decide,fun p2 H2 n2=>⟨by show 2≤sizeLine;decide,fun p3 H3 n3=>⟨by show 3≤sizeLine;decide,fun p4 H4 n4=>⟨by show 5≤sizeLine;decide,fun p5 H5 n5=>⟨by show 5≤sizeLine;decide,fun p6 H6 n6=>⟨by decide,?_⟩⟩⟩⟩⟩⟩⟩
   obtain ⟨j,hj,ej⟩:=emod_nat cell 5 (by decide)
   rw [show ((5:Nat):Int)=5 from rfl] at ej
   rw [ej]
   have s6:=n6.same
   have s5:=n5.same.trans s6
   have s4:=n4.same.trans s5
   have s3:=n3.same.trans s4
   have s2:=n2.same.trans s3
   have z2:=n1.same
   have z3:=z2.trans n2.same
   have z4:=z3.trans n3.same
   have z5:=z4.trans n4.same
   have z6:=z5.trans (n5.same.trans s6)
   match j,hj with
   | 0,_=>exact ⟨_,_,.inl n6.sq,rfl,q p1 [later] H6 ⟨n1.was,s2 _ _ n1.at_,z6⟩ ⟨lrc hlt lrn,by simp⟩ (.inl ⟨rfl,no_gate2 (by simp)⟩)⟩
   | 1,_=>exact ⟨_,_,.inl n6.sq,rfl,q p2 [later,"is"] H6 ⟨z2.free n2.was,s3 _ _ n2.at_,z6⟩ ⟨lrc hlt (lrc lis lrn),by simp⟩ (.inl ⟨rfl,no_gate2 (by simp)⟩)⟩
   | 2,_=>exact ⟨_,_,.inl n6.sq,rfl,q p3 ["out",name] H6 ⟨z3.free n3.was,s4 _ _ n3.at_,z6⟩ ⟨lrc (ltrs_of (by decide +kernel)) (lrc hnl lrn),by simp⟩ (.inl ⟨rfl,no_gate2 (by simp)⟩)⟩
   | 3,_=>exact ⟨_,_,.inl n6.sq,rfl,q p4 ["in",name,name] H6 ⟨z4.free n4.was,s5 _ _ n4.at_,z6⟩ ⟨lrc (ltrs_of (by decide +kernel)) (lrc hnl (lrc hnl lrn)),by simp⟩ (.inl ⟨rfl,no_gate_is (near_no (kl.nm name hnm).2 (by decide +kernel))⟩)⟩
   | 4,_=>exact ⟨_,_,.inl n6.sq,rfl,q p5 [later,"and","is",name,name] H6 ⟨z5.free n5.was,s6 _ _ n5.at_,z6⟩ ⟨lrc hlt (lrc (ltrs_of (by decide +kernel)) (lrc lis (lrc hnl (lrc hnl lrn)))),by simp⟩ (.inl ⟨rfl,no_gate_is (by decide +kernel)⟩)⟩
  ·rw [if_neg (by decide),if_pos rfl]
   refine ⟨by show 5≤sizeLine;decide,fun p1 H1 n1=>⟨by decide,?_⟩⟩
   have fin:∀ w:Str,ltrs w→hasP w 2=false→[V.str later,V.str "is",V.str w,V.str name,V.str name].length≤sizeLine∧∀ (p:Addr) (H':Hp),New H1 p (.lst [V.str later,V.str "is",V.str w,V.str name,V.str name]) H'→Q (.ref p) H':=fun w hw hp =>
    ⟨by show 5≤sizeLine;decide,fun p2 H2 n2=>q p2 [later,"is",w,name,name] H2 ⟨n1.same.free n2.was,n2.at_,n1.same.trans n2.same⟩ ⟨lrc hlt (lrc lis (lrc hw (lrc hnl (lrc hnl lrn)))),by simp⟩ (.inl ⟨rfl,no_gate_p (r:=[name,name]) hp⟩)⟩
   obtain ⟨j,hj,ej⟩:=emod_nat cell 5 (by decide)
   rw [show ((5:Nat):Int)=5 from rfl] at ej
   rw [ej]
   match j,hj with
   | 0,_=>exact ⟨_,_,.inl n1.sq,rfl,fin "in" (ltrs_of (by decide +kernel)) (by decide +kernel)⟩
   | 1,_=>exact ⟨_,_,.inl n1.sq,rfl,fin "is" lis (by decide +kernel)⟩
   | 2,_=>exact ⟨_,_,.inl n1.sq,rfl,fin "nor" (ltrs_of (by decide +kernel)) (by decide +kernel)⟩
   | 3,_=>exact ⟨_,_,.inl n1.sq,rfl,fin "ands" (ltrs_of (by decide +kernel)) (by decide +kernel)⟩
   | 4,_=>exact ⟨_,_,.inl n1.sq,rfl,fin name hnl (hasP_no kl hnm 2)⟩
  ·rw [if_neg (by decide),if_neg (by decide),if_pos rfl]
   obtain ⟨j,hj,ej⟩:=emod_nat cell 8 (by decide)
   rw [show ((8:Nat):Int)=8 from rfl] at ej
   obtain ⟨i2,hi2,ei2⟩:=emod_nat (cell / 8) 2 (by decide)
   rw [show ((2:Nat):Int)=2 from rfl] at ei2
   have w8:atI [V.str "and",V.str "or",V.str "either",V.str "not",V.str "choose",V.str "most",V.str "yes",V.str "no"] (j:Int)=some (.str (wordsS.getD j "")):=by
    match j,hj with
    | 0,_=>rfl
    | 1,_=>rfl
    | 2,_=>rfl
    | 3,_=>rfl
    | 4,_=>rfl
    | 5,_=>rfl
    | 6,_=>rfl
    | 7,_=>rfl
   have wl:ltrs (wordsS.getD j ""):=by
    have key:∀ j:Fin 8,ltrsB (wordsS.getD j.val "")=true:=by decide +kernel
    exact ltrs_of (key ⟨j,hj⟩)
   have wc:∃ n:Nat,n≤9∧atI (cnt8.getD j []) (i2:Int)=some (.int n)∧hasP (wordsS.getD j "") n=false:=by
    have key:∀ (j:Fin 8) (i:Fin 2),cntOk j.val i.val=true:=by decide +kernel
    have:=key ⟨j,hj⟩ ⟨i2,hi2⟩
    unfold cntOk at this
    dsimp only at this
    split at this
    ·rename_i n hn
     rw [Bool.and_eq_true,Bool.and_eq_true] at this
     obtain ⟨x1,x2,x3⟩:=this
     have y1:=of_decide_eq_true x1
     have y2:=of_decide_eq_true x2
     refine ⟨n.toNat,by omega,by rw [hn];congr 2;omega,by simpa using x3⟩
    ·cases this
   obtain ⟨n,hn9,hat2,hbad⟩:=wc
   generalize hwd:wordsS.getD j "" = wd at w8 wl hbad
   rw [ej]
   refine ⟨by show 8≤sizeLine;decide,fun p0 H0 n0=>⟨by decide,_,_,.inl n0.sq,w8,by show 2≤sizeLine;decide,fun p1 H1 n1=>⟨by show 2≤sizeLine;decide,fun p2 H2 n2=>⟨by show 2≤sizeLine;decide,fun p3 H3 n3=>⟨by show 2≤sizeLine;decide,fun p4 H4 n4=>⟨by show 2≤sizeLine;decide,fun p5 H5 n5=>⟨by show 2≤sizeLine;decide,fun p6 H6 n6=>⟨by show 2≤sizeLine;decide,fun p7 H7 n7=>⟨by show 2≤sizeLine;decide,fun p8 H8 n8=>⟨by show 8≤sizeLine;decide,fun p9 H9 n9=>?_⟩⟩⟩⟩⟩⟩⟩⟩⟩⟩
   have u8:=n8.same.trans n9.same
   have u7:=n7.same.trans u8
   have u6:=n6.same.trans u7
   have u5:=n5.same.trans u6
   have u4:=n4.same.trans u5
   have u3:=n3.same.trans u4
   have u2:=n2.same.trans u3
   have u1:=n1.same.trans u2
   have s9:Same H H9:=n0.same.trans u1
   have hpc:∃ pc,atI [V.ref p1,V.ref p2,V.ref p3,V.ref p4,V.ref p5,V.ref p6,V.ref p7,V.ref p8] (j:Int)=some (.ref pc)∧H9 pc=some (.lst (cnt8.getD j [])):=by
    match j,hj with
    | 0,_=>exact ⟨p1,rfl,u2 _ _ n1.at_⟩
    | 1,_=>exact ⟨p2,rfl,u3 _ _ n2.at_⟩
    | 2,_=>exact ⟨p3,rfl,u4 _ _ n3.at_⟩
    | 3,_=>exact ⟨p4,rfl,u5 _ _ n4.at_⟩
    | 4,_=>exact ⟨p5,rfl,u6 _ _ n5.at_⟩
    | 5,_=>exact ⟨p6,rfl,u7 _ _ n6.at_⟩
    | 6,_=>exact ⟨p7,rfl,u8 _ _ n7.at_⟩
    | 7,_=>exact ⟨p8,rfl,n9.same _ _ n8.at_⟩
   obtain ⟨pc,hpa,hpc⟩:=hpc
   walk_at "gs"
   refine ⟨_,_,.inl n9.sq,hpa,?_⟩
   walk_at "gs"
   rw [ei2]
   refine ⟨_,_,.inl (.of hpc),hat2,by show 3≤sizeLine;decide,fun p10 H10 n10=>?_⟩
   walk_at "gs"
   rw [Int.toNat_natCast]
   intro pl hpl
   refine comp_inv (n:=n) (item:=fun i=>.int (0+i)) (fun i H11=>∃ ys:List Str,H11 pl=some (.lst (ys.map V.str))∧ys.length=i∧(∀ w∈ys,ltrs w)∧Same H10 H11) rfl ⟨[],upd_same,rfl,lrn,same_upd hpl⟩ src_rng ?_ ?_ ?_
   ·rintro H11 ⟨ys,_⟩
    exact Nat.le_refl _
   ·rintro i H11 R hi ⟨ys,a1,a2,a3,s11⟩ hR
    unfold tTrue
    walk_at "gs"
    refine ⟨by show 3≤sizeLine;decide,fun p11 H12 n12=>?_⟩
    walk_at "gs"
    have hwx:∃ x,atI [V.str name,V.str "is",V.str later] ((cell / 16+(0+(i:Int))) % 3)=some (.str x)∧ltrs x:=by
     obtain ⟨j,hj,ej⟩:=emod_nat (cell / 16+(0+(i:Int))) 3 (by decide)
     rw [show ((3:Nat):Int)=3 from rfl] at ej
     rw [ej]
     match j,hj with
     | 0,_=>exact ⟨_,rfl,hnl⟩
     | 1,_=>exact ⟨_,rfl,lis⟩
     | 2,_=>exact ⟨_,rfl,hlt⟩
    obtain ⟨x,hx,hxl⟩:=hwx
    refine ⟨_,_,.inl n12.sq,hx,_,n12.same _ _ a1,by rw [List.length_map];omega,hR _ ⟨ys ++ [x],by rw [upd_same,List.map_append];rfl,by rw [List.length_append,a2];rfl,fun w hw=>?_,(s11.trans n12.same).put hpl⟩⟩
    rcases List.mem_append.mp hw with z | z
    ·exact a3 w z
    ·rw [List.mem_singleton.mp z];exact hxl
   ·rintro H11 ⟨ys,a1,a2,a3,s11⟩
    walk_at "gs"
    have s011:=s9.trans (n10.same.trans s11)
    refine ⟨_,_,.of (s11 _ _ n10.at_),.of a1,by rw [List.length_map,a2];show 3+n≤sizeLine;omega,fun p12 H13 n13=>?_⟩
    exact q p12 (name :: "is" :: wd :: ys) H13 ⟨s011.free n13.was,n13.at_,s011.trans n13.same⟩ ⟨lrc hnl (lrc lis (lrc wl a3)),by simp only [List.length_cons];omega⟩ (.inl ⟨rfl,no_gate_p (by rw [a2];exact hbad)⟩)
  ·rw [if_neg (by decide),if_neg (by decide),if_neg (by decide),if_pos rfl]
   walk_at "gs"
   obtain ⟨n9,hn9⟩:=Int.eq_ofNat_of_zero_le (by omega:0≤9+cell / 6 % 3)
   rw [hn9]
   refine ⟨cell,n9,rfl,by omega,fun z hz hzl=>?_⟩
   walk_at "gs"
   refine ixS (i:=0) hk (by omega) (by omega) ?_
   have hk0:L.getD (0:Int).toNat "" ∈ L:=getD_mem _ (by show 0<L.length;omega)
   generalize L.getD (0:Int).toNat "" = k0 at hk0
   refine ⟨by show 6≤sizeLine;decide,fun p1 H1 n1=>⟨by decide,?_⟩⟩
   have hown:∃ own,atI [V.str "is",V.str "most",V.str z,V.str name,V.str name,V.str k0] (cell % 6)=some (.str own)∧ltrs own∧(isNm own=false∨own∈L):=by
    obtain ⟨j,hj,ej⟩:=emod_nat cell 6 (by decide)
    rw [show ((6:Nat):Int)=6 from rfl] at ej
    rw [ej]
    match j,hj with
    | 0,_=>exact ⟨_,rfl,lis,.inl (by decide +kernel)⟩
    | 1,_=>exact ⟨_,rfl,ltrs_of (by decide +kernel),.inl (by decide +kernel)⟩
    | 2,_ =>
     refine ⟨z,rfl,⟨fun e=>?_,by omega,hzl⟩,.inl ?_⟩
     ·have:=len_cps z;rw [e] at this;simp at this;omega
     ·unfold isNm;rw [if_neg (by omega),if_pos (by omega)]
    | 3,_=>exact ⟨_,rfl,hnl,.inr hnm⟩
    | 4,_=>exact ⟨_,rfl,hnl,.inr hnm⟩
    | 5,_=>exact ⟨_,rfl,kl.ltrs hk0,.inr hk0⟩
   obtain ⟨own,hat,hol,hob⟩:=hown
   obtain ⟨zl,hzm,hzl'⟩:=at_lastG L kl.l0
   refine ⟨_,_,.inl n1.sq,hat,_,_,.inl (n1.same.seq hk),hzl',by show 5≤sizeLine;decide,fun p2 H2 n2=>?_⟩
   refine q p2 [own,"is","and",name,zl] H2 ⟨n1.same.free n2.was,n2.at_,n1.same.trans n2.same⟩ ⟨lrc hol (lrc lis (lrc (ltrs_of (by decide +kernel)) (lrc hnl (lrc (kl.ltrs hzm) lrn)))),by simp⟩ (.inr ⟨rfl,(own,"and",[name,zl]),rfl,(show hasP "and" 2=true by decide +kernel),fun ok=>?_⟩)
   rcases hob with h | h
   ·have:=ok.1;rw [show isNm own=false from h] at this;cases this
   ·exact ok.2.1 h
  ·rw [if_neg (by decide),if_neg (by decide),if_neg (by decide),if_neg (by decide)]
   have ha:Str.length "aaaaaaaa" = 8:=by decide +kernel
   have hb8:Str.length "bbbbbbbb" = 8:=by decide +kernel
   refine ⟨by omega,?_⟩
   refine ixS (i:=0) hk (by omega) (by omega) ?_
   have hk0:L.getD (0:Int).toNat "" ∈ L:=getD_mem _ (by show 0<L.length;omega)
   generalize L.getD (0:Int).toNat "" = k0 at hk0
   have hk8:k0.length≤8:=by have:=(kl.nm k0 hk0).1.2;rw [len_cps] at this;exact this
   walk_at "gs"
   refine ⟨by show 4≤sizeLine;decide,fun p1 H1 n1=>?_⟩
   have appL:∀ (x y:Str),ltrs x→x.length≤8→y.length=8→ltrsB y=true→ltrs (x ++ y):=fun x y hx h1 h2 hy=>by
    have hy':=ltrs_of hy
    refine ⟨fun e=>?_,by rw [PySem.Str.length_append];omega,fun c hc=>?_⟩
    ·rw [cps_app] at e;exact hx.1 (List.append_eq_nil_iff.mp e).1
    ·rw [cps_app] at hc
     rcases List.mem_append.mp hc with z | z
     ·exact hx.2.2 c z
     ·exact hy'.2.2 c z
   have one:∀ x:Str,ltrs x→1≤x.length:=fun x hx=>by
    rw [← len_cps]
    cases h:x.cps.toList with
    | nil=>exact absurd h hx.1
    | cons _ _=>simp
   have hpart:∃ part,atI [V.str later,V.str (later ++ "aaaaaaaa"),V.str "not",V.str (k0 ++ "bbbbbbbb")] (cell % 4)=some (.str part)∧ltrs part∧(part ∉ L∨later∈L):=by
    obtain ⟨j,hj,ej⟩:=emod_nat cell 4 (by decide)
    rw [show ((4:Nat):Int)=4 from rfl] at ej
    rw [ej]
    match j,hj with
    | 0,_=>exact ⟨later,rfl,hlt,Decidable.em (later∈L) |>.symm⟩
    | 1,_=>exact ⟨_,rfl,appL _ _ hlt hl8 ha (by decide +kernel),.inl (kl.long (by have:=one _ hlt;rw [PySem.Str.length_append];omega))⟩
    | 2,_=>exact ⟨_,rfl,ltrs_of (by decide +kernel),.inl (kl.near (by decide +kernel))⟩
    | 3,_=>exact ⟨_,rfl,appL _ _ (kl.ltrs hk0) hk8 hb8 (by decide +kernel),.inl (kl.long (by have:=one _ (kl.ltrs hk0);rw [PySem.Str.length_append];omega))⟩
   obtain ⟨part,hat,hpl,hpn⟩:=hpart
   refine ⟨by decide,_,_,.inl n1.sq,hat,by show 3≤sizeLine;decide,fun p2 H2 n2=>?_⟩
   walk_at "gs"
   obtain ⟨j,hj,ej⟩:=emod_nat (cell / 4) 3 (by decide)
   rw [show ((3:Nat):Int)=3 from rfl] at ej
   rw [ej]
   refine ⟨p2,_,_,j,rfl,rfl,n2.at_,by show ixN 3 (j:Int)=some j;unfold ixN;rw [if_pos (by omega),if_pos (by omega),Int.toNat_natCast],?_⟩
   have epar:[V.str name,V.str name,V.str name].set j (.str part)=([name,name,name].set j part).map V.str:=by rw [List.map_set];rfl
   rw [epar]
   have pin:part∈[name,name,name].set j part:=List.mem_set (by simpa using hj) _
   have pall:∀ w∈[name,name,name].set j part,ltrs w:=fun w hw=>by
    rcases List.mem_or_eq_of_mem_set hw with h | h
    ·have:w=name:=by simpa using h
     rw [this];exact hnl
    ·rw [h];exact hpl
   have plen:([name,name,name].set j part).length=3:=by simp
   generalize [name,name,name].set j part=parts at pin pall plen
   have s2:Same H (upd H2 p2 (.lst (parts.map V.str))):=(n1.same.trans n2.same).put (n1.same.free n2.was)
   refine ⟨by show 4≤sizeLine;decide,fun p3 H3 n3=>?_⟩
   walk_at "gs"
   have hwd:∃ wd,atI [V.str "choose",V.str "most",V.str "and",V.str "either"] (cell / 12 % 4)=some (.str wd)∧ltrs wd∧hasP wd 3=true:=by
    obtain ⟨j,hj,ej⟩:=emod_nat (cell / 12) 4 (by decide)
    rw [show ((4:Nat):Int)=4 from rfl] at ej
    rw [ej]
    match j,hj with
    | 0,_=>exact ⟨_,rfl,ltrs_of (by decide +kernel),by decide +kernel⟩
    | 1,_=>exact ⟨_,rfl,ltrs_of (by decide +kernel),by decide +kernel⟩
    | 2,_=>exact ⟨_,rfl,ltrs_of (by decide +kernel),by decide +kernel⟩
    | 3,_=>exact ⟨_,rfl,ltrs_of (by decide +kernel),by decide +kernel⟩
   obtain ⟨wd,hat3,hwl,hwp⟩:=hwd
   refine ⟨_,_,.inl n3.sq,hat3,by show 3≤sizeLine;decide,fun p4 H4 n4=>?_⟩
   walk_at "gs"
   have a2:H4 p2=some (.lst (parts.map V.str)):=n4.same _ _ (n3.same _ _ upd_same)
   have s4:=s2.trans (n3.same.trans n4.same)
   refine ⟨_,_,n4.sq,.of a2,by rw [List.length_map,plen];show 6≤sizeLine;decide,fun p5 H5 n5=>?_⟩
   refine q p5 (later :: "is" :: wd :: parts) H5 ⟨s4.free n5.was,n5.at_,s4.trans n5.same⟩ ⟨lrc hlt (lrc lis (lrc hwl pall)),by simp only [List.length_cons];omega⟩ (.inr ⟨rfl,(later,wd,parts),rfl,by show hasP wd parts.length=true;rw [plen];exact hwp,fun ok=>?_⟩)
   rcases hpn with h | h
   ·exact h (ok.2.2 part pin)
   ·exact ok.2.1 h
open GM
def EndBad (a:Adr) (way:Int) (L row:List Str):Prop:=((way=2∨way=7)→BadIn a (kindC a (decide (6<way))) row)∧((way=3∨way=10)→BadOut a (kindC a (decide (6<way))) L row)
def sp_law_wrong_end (a:Adr) (K:PySem.W.Frag):Sp:=fun vs H Q _=>∃ (way cell:Int) (pn:Addr) (ns L:List Str),vs=[.int way,.int cell,.ref pn]∧SqL K H pn (ns.map V.str)∧KL ns∧KL L∧ns.length≤16∧(way=7→ns.length≤10)∧(way=2∨way=3∨way=7∨way=10) ∧
 ∀ p row H',Mad H p (.lst (row.map V.str)) H'→LR row→EndBad a way L row→Q (.ref p) H'
def rd_law_wrong_end (K:PySem.W.Frag):TS:=(tMid (tAsg (tOp (cIx K) (tLst (tVals [(.str "in"),(.str "out")])) (tCB cInt (tCons (cOrV (tOp (cEq K) (cVar 0) (tC (.int 3))) (tOp (cEq K) (cVar 0) (tC (.int 10)))) tNil))) (gName 3))
  (tSeq (tIfS (tAnd (cTst (tOp (cI2 fun i j=>.bl (decide (i<j))) (cVar 0) (tC (.int 4)))) (cTst (tOp (cI2 fun i j=>.bl (decide (i<j))) (tOp (cI2c (fun _ j=>0<j) fun i j=>.int (i % j)) (cVar 1) (tC (.int 4))) (tC (.int 2))))) (tRet (tOp (cIx K) (tLst (tCons (tLst (tCons (tC (.str "ins")) (tCons (tOp (cIx K) (cVar 2) (tC (.int 0))) tNil))) (tCons (tLst (tCons (cVar 3) tNil)) tNil))) (tOp (cI2c (fun _ j=>0<j) fun i j=>.int (i % j)) (cVar 1) (tC (.int 4))))) tNext)
  (tSeq (tIfS (cTst (tOp (cEq K) (cVar 0) (tC (.int 2)))) (tRet (tOp (cAddA K) (tLst (tCons (cVar 3) tNil)) (tComp (iRng1 (tCons (tOp (cAddA K) (tC (.int 11)) (tOp (cI2c (fun _ j=>0<j) fun i j=>.int (i % j)) (cVar 1) (tC (.int 3)))) tNil)) 1 [2] (gName 0) tTrue (tOp (cIx K) (cVar 1) (tOp (cI2c (fun _ j=>0<j) fun i j=>.int (i % j)) (cVar 0) (tCB (cLen K) (tCons (cVar 1) tNil))))))) tNext)
  (tSeq (tIfS (cTst (tOp (cEq K) (cVar 0) (tC (.int 3)))) (tRet (tOp (cAddA K) (tLst (tCons (cVar 3) tNil)) (tComp (iRng1 (tCons (tOp (cAddA K) (tC (.int 17)) (tOp (cI2c (fun _ j=>0<j) fun i j=>.int (i % j)) (cVar 1) (tC (.int 3)))) tNil)) 1 [2] (gName 0) tTrue (tOp (cIx K) (tLst (tCons (tC (.str "is")) (tCons (tOp (cIx K) (cVar 1) (tC (.int 0))) tNil))) (tOp (cI2c (fun _ j=>0<j) fun i j=>.int (i % j)) (cVar 0) (tC (.int 2))))))) tNext)
  (tSeq (tAsg (tOp (cI2c (fun _ j=>0<j) fun i j=>.int (i % j)) (tOp (cI2c CDiv fun i j=>.int (i / j)) (cVar 1) (tC (.int 3))) (tCB (cLen K) (tCons (cVar 2) tNil))) (gName 4))
  (tSeq (tAsg (tOp (cIx K) (tLst (tCons (tC (.str "is")) (tCons (tCall (sp_law_letters K) [] E0 (tCons (cVar 1) (tCons (tC (.int 9)) tNil))) (tCons (tC (.str "either")) (tCons (tC (.str "out")) (tCons (tC (.str "yes")) tNil)))))) (tOp (cI2c (fun _ j=>0<j) fun i j=>.int (i % j)) (tOp (cI2c CDiv fun i j=>.int (i / j)) (cVar 1) (tC (.int 3))) (tC (.int 5)))) (gName 5))
  (tMid (tIfS (tAnd (cTst (tOp (cEq K) (tOp (cI2c (fun _ j=>0<j) fun i j=>.int (i % j)) (cVar 1) (tC (.int 3))) (tC (.int 1)))) (tAnd (cTst (tOp (cI2 fun i j=>.bl (decide (j<i))) (tCB (cLen K) (tCons (cVar 2) tNil)) (tC (.int 1)))) (cTst (tOp (cEq K) (cVar 0) (tC (.int 7)))))) (tAsg (tOp (cIx K) (cVar 2) (tOp (cI2c (fun _ j=>0<j) fun i j=>.int (i % j)) (tOp (cAddA K) (cVar 4) (tC (.int 1))) (tCB (cLen K) (tCons (cVar 2) tNil)))) (gName 5)) tNext)
  (tMid (tIfS (tAnd (cTst (tOp (cEq K) (tOp (cI2c (fun _ j=>0<j) fun i j=>.int (i % j)) (cVar 1) (tC (.int 3))) (tC (.int 2)))) (cTst (tOp (cEq K) (cVar 0) (tC (.int 10))))) (tAsg (tOp (cAddA K) (tOp (cIx K) (cVar 2) (cVar 4)) (tC (.str "cccccccc"))) (gName 5)) tNext)
  (tRet (tOp (cAddA K) (tOp (cAddA K) (tOp (cAddA K) (tLst (tCons (cVar 3) tNil)) (tSl (cSlU K) (cVar 2) tNoPart (cPart (cVar 4)))) (tLst (tCons (cVar 5) tNil))) (tSl (cSlU K) (cVar 2) (cPart (tOp (cAddA K) (cVar 4) (tC (.int 1)))) tNoPart)))))))))))
theorem tm_law_wrong_end (T:Txt w K mg a) {cdv:Value}{A:Around}{outer:List Env}{s:Shared}{H:Hp}{E:XK} (hr:Room 1 (A.deeper (envOfC "_law_wrong_end" (defScope s_law_wrong_end) s.heap.objs.size a.f_law_wrong_end cdv))) :
  PSs (cxOf CX0 P w K mg base N_law_wrong_end "_law_wrong_end" (defScope s_law_wrong_end) a.f_law_wrong_end cdv A outer s H E).nox (defBody s_law_wrong_end) (rd_law_wrong_end K) :=
 (pss_mid (ps_set (i:=3) sc_law_wrong_end.nd rfl (by walk_at "o") (pe_ix i_seq (pe_lst (pa_consts (vs:=[(.str "in"),(.str "out")]) rfl)) (pe_callTy c_int (by rfl) T.no_int PyProof.Rows.boot_int (pa_cons (e_or (pe_cmpR (o_eq (hr8 hr)) (cv 0) pe_int (nomark _)) (pe_one (pe_cmpR (o_eq (hr8 hr)) (cv 0) pe_int (nomark _)))) pa_nil)) (fun _ _=>rfl)))
   (pss_cons (ps_if (PW.pt (pw_and (t_cmp o_lt (cv 0) pe_int (nomark _)) (pw_and1 (t_cmp o_lt (pe_op o_mod (cv 1) pe_int) pe_int (nomark _))))) (pss_one (ps_ret (pe_ix i_seq (pe_lst (pa_cons (pe_lst (pa_cons pe_str (pa_cons (pe_ix i_seq (cv 2) pe_int (fun _ _=>rfl)) pa_nil))) (pa_cons (pe_lst (pa_cons (cv 3) pa_nil)) pa_nil))) (pe_op o_mod (cv 1) pe_int) (fun _ _=>rfl)))) pss_nil)
   (pss_cons (ps_if (t_cmp (o_eq (hr8 hr)) (cv 0) pe_int (nomark _)) (pss_one (ps_ret (pe_op o_addA (pe_lst (pa_cons (cv 3) pa_nil)) (pe_comp (N:=["_law_k","_law_names"]) (k:=1) (sel:=[2]) (CScope.of (defScope s_law_wrong_end).names (by decide +kernel)) (CNames.of N_law_wrong_end (by decide +kernel)) rfl (pi_range1 rfl T.no_range (pa_cons (pe_op o_addA pe_int (pe_op o_mod (cv 1) pe_int)) pa_nil)) (fun _ _ _ _=>(pg_name (i:=0) (show List.Nodup (["_law_k","_law_names"]:List Str) by decide +kernel) rfl (by walk_at "o"))) (fun _ _ _ _=>pts_nil) (fun _ _ _ _=>(pe_ix i_seq (cv 1) (pe_op o_mod (cv 0) (pe_callB c_len (by rfl) T.no_len PySem.boot_len (pa_cons (cv 1) pa_nil))) (fun _ _=>rfl))))))) pss_nil)
   (pss_cons (ps_if (t_cmp (o_eq (hr8 hr)) (cv 0) pe_int (nomark _)) (pss_one (ps_ret (pe_op o_addA (pe_lst (pa_cons (cv 3) pa_nil)) (pe_comp (N:=["_law_k","_law_names"]) (k:=1) (sel:=[2]) (CScope.of (defScope s_law_wrong_end).names (by decide +kernel)) (CNames.of N_law_wrong_end (by decide +kernel)) rfl (pi_range1 rfl T.no_range (pa_cons (pe_op o_addA pe_int (pe_op o_mod (cv 1) pe_int)) pa_nil)) (fun _ _ _ _=>(pg_name (i:=0) (show List.Nodup (["_law_k","_law_names"]:List Str) by decide +kernel) rfl (by walk_at "o"))) (fun _ _ _ _=>pts_nil) (fun _ _ _ _=>(pe_ix i_seq (pe_lst (pa_cons pe_str (pa_cons (pe_ix i_seq (cv 1) pe_int (fun _ _=>rfl)) pa_nil))) (pe_op o_mod (cv 0) pe_int) (fun _ _=>rfl))))))) pss_nil)
   (pss_cons (ps_set (i:=4) sc_law_wrong_end.nd rfl (by walk_at "o") (pe_op o_mod (pe_op o_fdiv (cv 1) pe_int) (pe_callB c_len (by rfl) T.no_len PySem.boot_len (pa_cons (cv 2) pa_nil))))
   (pss_cons (ps_set (i:=5) sc_law_wrong_end.nd rfl (by walk_at "o") (pe_ix i_seq (pe_lst (pa_cons pe_str (pa_cons (pe_call (ok_law_letters T) (hr.mono (by decide)) rfl T.mg_law_letters T.fn_law_letters.kp T.bi_law_letters .nil pass0 (pa_cons (cv 1) (pa_cons pe_int pa_nil))) (pa_cons pe_str (pa_cons pe_str (pa_cons pe_str pa_nil)))))) (pe_op o_mod (pe_op o_fdiv (cv 1) pe_int) pe_int) (fun _ _=>rfl)))
   (pss_mid (ps_if (PW.pt (pw_and (t_cmp (o_eq (hr8 hr)) (pe_op o_mod (cv 1) pe_int) pe_int (nomark _)) (pw_and (t_cmp o_gt (pe_callB c_len (by rfl) T.no_len PySem.boot_len (pa_cons (cv 2) pa_nil)) pe_int (nomark _)) (pw_and1 (t_cmp (o_eq (hr8 hr)) (cv 0) pe_int (nomark _)))))) (pss_one (ps_set (i:=5) sc_law_wrong_end.nd rfl (by walk_at "o") (pe_ix i_seq (cv 2) (pe_op o_mod (pe_op o_addA (cv 4) pe_int) (pe_callB c_len (by rfl) T.no_len PySem.boot_len (pa_cons (cv 2) pa_nil))) (fun _ _=>rfl)))) pss_nil)
   (pss_mid (ps_if (PW.pt (pw_and (t_cmp (o_eq (hr8 hr)) (pe_op o_mod (cv 1) pe_int) pe_int (nomark _)) (pw_and1 (t_cmp (o_eq (hr8 hr)) (cv 0) pe_int (nomark _))))) (pss_one (ps_set (i:=5) sc_law_wrong_end.nd rfl (by walk_at "o") (pe_op o_addA (pe_ix i_seq (cv 2) (cv 4) (fun _ _=>rfl)) pe_str))) pss_nil)
   (pss_one (ps_ret (pe_op o_addA (pe_op o_addA (pe_op o_addA (pe_lst (pa_cons (cv 3) pa_nil)) (pe_slice s_u (cv 2) po_none (e_part (cv 4)))) (pe_lst (pa_cons (cv 5) pa_nil))) (pe_slice s_u (cv 2) (e_part (pe_op o_addA (cv 4) pe_int)) po_none))))))))))))
theorem ok_law_wrong_end (T:Txt w K mg a):FnOk P w K mg base CX0 2 a.f_law_wrong_end a.d_law_wrong_end ["_law_way","_law_cell","_law_names"] (sp_law_wrong_end a K):=by
 refine T.fn_law_wrong_end.ok sc_law_wrong_end (fun vs H Q E h=>?_) (fun cdv A outer s H vs Q E hr h=>⟨_,tm_law_wrong_end T hr,?_⟩)
 ·obtain ⟨way,cell,pn,ns,L,rfl,_⟩:=h;rfl
 ·obtain ⟨way,cell,pn,ns,L,rfl,hk,kl,kL,hl16,hl10,hw,q⟩:=h
  show rd_law_wrong_end K _ [some (.int way),some (.int cell),some (.ref pn),none,none,none] H
  unfold rd_law_wrong_end
  have big:(20000:Nat)≤sizeLine:=by decide
  have l0:=kl.l0
  have l1:=kl.l1
  walk_at "gs"
  refine mid (fun σ' H'=>∃ wd:Str,Same H H'∧ltrs wd∧((way=2∨way=7)→wd = "in")∧((way=3∨way=10)→wd = "out")∧σ'=[some (.int way),some (.int cell),some (.ref pn),some (.str wd),none,none]) ?_ ?_
  ·intro N hN
   walk_at "gs"
   intro p1 H1 n1
   walk_at "gs"
   have lin:ltrs "in":=ltrs_of (by decide +kernel)
   have lout:ltrs "out":=ltrs_of (by decide +kernel)
   rcases hw with rfl | rfl | rfl | rfl
   ·rw [if_neg (by decide),if_neg (by decide)]
    exact ⟨_,_,.inl n1.sq,rfl,hN _ _ ⟨"in",n1.same,lin,fun _=>rfl,fun h=>absurd h (by decide),rfl⟩⟩
   ·rw [if_pos rfl]
    exact ⟨_,_,.inl n1.sq,rfl,hN _ _ ⟨"out",n1.same,lout,fun h=>absurd h (by decide),fun _=>rfl,rfl⟩⟩
   ·rw [if_neg (by decide),if_neg (by decide)]
    exact ⟨_,_,.inl n1.sq,rfl,hN _ _ ⟨"in",n1.same,lin,fun _=>rfl,fun h=>absurd h (by decide),rfl⟩⟩
   ·rw [if_neg (by decide),if_pos rfl]
    exact ⟨_,_,.inl n1.sq,rfl,hN _ _ ⟨"out",n1.same,lout,fun h=>absurd h (by decide),fun _=>rfl,rfl⟩⟩
  rintro σ' H0 ⟨wd,s0,hwl,hin,hout,rfl⟩
  walk_at "gs"
  have hk:=s0.seq hk
  have hk0:ns.getD (0:Int).toNat "" ∈ ns:=getD_mem _ (by show 0<ns.length;omega)
  by_cases h4:way<4
  ·have kc:kindC a (decide (6<way))=a.c_NoLine:=by unfold kindC;rw [if_neg (by simp;omega)]
   unfold EndBad at q
   rw [kc] at q
   rw [if_pos h4]
   have fin:∀ p row H',Mad H p (.lst (row.map V.str)) H'→LR row→(¬ ∃ ins:List Str,row=("in" : Str) :: ins∧1≤ins.length∧ins.length≤10∧way=2)→(¬ ∃ outs:List Str,row=("out" : Str) :: outs∧1≤outs.length∧outs.length≤16∧way=3)→Q (.ref p) H':=fun p row H' m lr h1 h2 =>
    q p row H' m lr ⟨fun h=>.inl ⟨rfl,fun ⟨ins,e,e1,e2⟩=>h1 ⟨ins,e,e1,e2,by omega⟩⟩,fun h=>.inl ⟨rfl,fun ⟨outs,e,e1,e2⟩=>h2 ⟨outs,e,e1,e2,by omega⟩⟩⟩
   refine ⟨by decide,?_⟩
   by_cases hc:cell % 4<2
   ·rw [if_pos hc]
    refine ixS (i:=0) hk (by omega) (by omega) ?_
    generalize ns.getD (0:Int).toNat "" = n0 at hk0
    refine ⟨by show 2≤sizeLine;decide,fun p1 H1 n1=>⟨by show 1≤sizeLine;decide,fun p2 H2 n2=>⟨by show 2≤sizeLine;decide,fun p3 H3 n3=>⟨by decide,?_⟩⟩⟩⟩
    have s3:=s0.trans (n1.same.trans (n2.same.trans n3.same))
    obtain ⟨j,hj,ej⟩:∃ j:Nat,j<2∧cell % 4=j:=⟨(cell % 4).toNat,by omega,by omega⟩
    rw [ej]
    match j,hj with
    | 0,_ =>
     refine ⟨_,_,.inl n3.sq,rfl,fin p1 ["ins",n0] H3 ⟨s0.free n1.was,n3.same _ _ (n2.same _ _ n1.at_),s3⟩ ⟨lrc (ltrs_of (by decide +kernel)) (lrc (kl.ltrs hk0) lrn),by simp⟩ ?_ ?_⟩
     ·rintro ⟨ins,e,_⟩;injection e with e _;exact absurd e (by decide +kernel)
     ·rintro ⟨ins,e,_⟩;injection e with e _;exact absurd e (by decide +kernel)
    | 1,_ =>
     refine ⟨_,_,.inl n3.sq,rfl,fin p2 [wd] H3 ⟨(s0.trans n1.same).free n2.was,n3.same _ _ n2.at_,s3⟩ ⟨lrc hwl lrn,by simp⟩ ?_ ?_⟩
     ·rintro ⟨ins,e,e1,_⟩;injection e with _ e;rw [← e] at e1;simp at e1
     ·rintro ⟨ins,e,e1,_⟩;injection e with _ e;rw [← e] at e1;simp at e1
   rw [if_neg hc]
   by_cases h2:way=2
   ·rw [if_pos h2]
    refine ⟨by show 1≤sizeLine;decide,fun p1 H1 n1=>⟨by decide,by omega,by omega,?_⟩⟩
    obtain ⟨m,hm⟩:=Int.eq_ofNat_of_zero_le (by omega:0≤11+cell % 3)
    rw [hm,Int.toNat_natCast]
    intro pl hpl
    refine comp_inv (n:=m) (item:=fun i=>.int (0+i)) (fun i H2=>∃ ys:List Str,H2=upd H1 pl (.lst (ys.map V.str))∧ys.length=i∧∀ w∈ys,ltrs w) rfl ⟨[],rfl,rfl,lrn⟩ src_rng ?_ ?_ ?_
    ·rintro H2 ⟨ys,_⟩
     exact Nat.le_refl _
    ·rintro i H2 R hi ⟨ys,rfl,a2,a3⟩ hR
     have hk2:=(n1.same.trans (same_upd hpl (o:=.lst (ys.map V.str)))).seq hk
     unfold tTrue
     walk_at "gs"
     refine .inl ⟨_,.inl hk2,?_⟩
     rw [List.length_map]
     have m0:0≤(0+(i:Int)) % (ns.length:Int):=Int.emod_nonneg _ (by omega)
     have m1:(0+(i:Int)) % (ns.length:Int)<ns.length:=Int.emod_lt_of_pos _ (by omega)
     refine ⟨by omega,?_⟩
     refine ixS hk2 m0 m1 ?_
     have hm:ns.getD ((0+(i:Int)) % (ns.length:Int)).toNat "" ∈ ns:=getD_mem _ (by omega)
     refine ⟨_,upd_same,by rw [List.length_map];omega,hR _ ⟨ys ++ [_],by rw [upd_upd,List.map_append];rfl,by rw [List.length_append,a2];rfl,fun w hw=>?_⟩⟩
     rcases List.mem_append.mp hw with z | z
     ·exact a3 w z
     ·rw [List.mem_singleton.mp z];exact kl.ltrs hm
    ·rintro H2 ⟨ys,rfl,a2,a3⟩
     walk_at "gs"
     have s2:=s0.trans (n1.same.trans (same_upd hpl (o:=.lst (ys.map V.str))))
     refine ⟨_,_,.of ((same_upd hpl) _ _ n1.at_),.of upd_same,by rw [List.length_map,a2];show 1+m≤sizeLine;omega,fun p4 H4 n4=>?_⟩
     refine fin p4 (wd :: ys) H4 ⟨s2.free n4.was,n4.at_,s2.trans n4.same⟩ ⟨lrc hwl a3,by rw [List.length_cons];omega⟩ ?_ ?_
     ·rintro ⟨ins,e,e1,e2,_⟩;injection e with _ e;rw [← e] at e2;omega
     ·rintro ⟨ins,e,e1,e2,e3⟩;omega
   ·rw [if_neg h2,if_pos (by omega)]
    refine ⟨by show 1≤sizeLine;decide,fun p1 H1 n1=>⟨by decide,by omega,by omega,?_⟩⟩
    obtain ⟨m,hm⟩:=Int.eq_ofNat_of_zero_le (by omega:0≤17+cell % 3)
    rw [hm,Int.toNat_natCast]
    intro pl hpl
    refine comp_inv (n:=m) (item:=fun i=>.int (0+i)) (fun i H2=>∃ ys:List Str,H2 pl=some (.lst (ys.map V.str))∧ys.length=i∧(∀ w∈ys,ltrs w)∧Same H1 H2) rfl ⟨[],upd_same,rfl,lrn,same_upd hpl⟩ src_rng ?_ ?_ ?_
    ·rintro H2 ⟨ys,_⟩
     exact Nat.le_refl _
    ·rintro i H2 R hi ⟨ys,a1,a2,a3,s2⟩ hR
     unfold tTrue
     walk_at "gs"
     refine ixS (i:=0) ((n1.same.trans s2).seq hk) (by omega) (by omega) ?_
     refine ⟨by show 2≤sizeLine;decide,fun p5 H5 n5=>?_⟩
     walk_at "gs"
     have hx:∃ x,atI [V.str "is",V.str (ns.getD (0:Int).toNat "")] ((0+(i:Int)) % 2)=some (.str x)∧ltrs x:=by
      obtain ⟨j,hj,ej⟩:=emod_nat (0+(i:Int)) 2 (by decide)
      rw [show ((2:Nat):Int)=2 from rfl] at ej
      rw [ej]
      match j,hj with
      | 0,_=>exact ⟨_,rfl,ltrs_of (by decide +kernel)⟩
      | 1,_=>exact ⟨_,rfl,kl.ltrs hk0⟩
     obtain ⟨x,hx,hxl⟩:=hx
     refine ⟨_,_,.inl n5.sq,hx,_,n5.same _ _ a1,by rw [List.length_map];omega,hR _ ⟨ys ++ [x],by rw [upd_same,List.map_append];rfl,by rw [List.length_append,a2];rfl,fun w hw=>?_,(s2.trans n5.same).put hpl⟩⟩
     rcases List.mem_append.mp hw with z | z
     ·exact a3 w z
     ·rw [List.mem_singleton.mp z];exact hxl
    ·rintro H2 ⟨ys,a1,a2,a3,s2⟩
     walk_at "gs"
     have s02:=s0.trans (n1.same.trans s2)
     refine ⟨_,_,.of (s2 _ _ n1.at_),.of a1,by rw [List.length_map,a2];show 1+m≤sizeLine;omega,fun p4 H4 n4=>?_⟩
     refine fin p4 (wd :: ys) H4 ⟨s02.free n4.was,n4.at_,s02.trans n4.same⟩ ⟨lrc hwl a3,by rw [List.length_cons];omega⟩ ?_ ?_
     ·rintro ⟨ins,e,e1,e2,e3⟩;omega
     ·rintro ⟨ins,e,e1,e2,_⟩;injection e with _ e;rw [← e] at e2;omega
  ·have kc:kindC a (decide (6<way))=a.c_NoName:=by unfold kindC;rw [if_pos (by simp;omega)]
   unfold EndBad at q
   rw [kc] at q
   rw [if_neg h4,if_neg (by omega),if_neg (by omega)]
   have hw':way=7∨way=10:=by omega
   refine ⟨by walk_at "sd",.inl ⟨_,.inl hk,?_⟩⟩
   rw [List.length_map]
   refine ⟨by omega,cell,9,rfl,by decide,fun z hz hzl=>?_⟩
   refine ⟨by show 5≤sizeLine;decide,fun p1 H1 n1=>⟨by walk_at "sd",by decide,?_⟩⟩
   have hb0:∃ b0,atI [V.str "is",V.str z,V.str "either",V.str "out",V.str "yes"] (cell / 3 % 5)=some (.str b0)∧ltrs b0∧isNm b0=false∧b0 ∉ L:=by
    obtain ⟨j,hj,ej⟩:=emod_nat (cell / 3) 5 (by decide)
    rw [show ((5:Nat):Int)=5 from rfl] at ej
    rw [ej]
    match j,hj with
    | 0,_=>exact ⟨_,rfl,ltrs_of (by decide +kernel),by decide +kernel,kL.near (by decide +kernel)⟩
    | 1,_ =>
     refine ⟨z,rfl,⟨fun e=>?_,by omega,hzl⟩,?_,kL.long (by omega)⟩
     ·have:=len_cps z;rw [e] at this;simp at this;omega
     ·unfold isNm;rw [if_neg (by omega),if_pos (by omega)]
    | 2,_=>exact ⟨_,rfl,ltrs_of (by decide +kernel),by decide +kernel,kL.near (by decide +kernel)⟩
    | 3,_=>exact ⟨_,rfl,ltrs_of (by decide +kernel),by decide +kernel,kL.near (by decide +kernel)⟩
    | 4,_=>exact ⟨_,rfl,ltrs_of (by decide +kernel),by decide +kernel,kL.near (by decide +kernel)⟩
   obtain ⟨b0,hat,hb1,hb2,hb3⟩:=hb0
   refine ⟨_,_,.inl n1.sq,hat,?_⟩
   obtain ⟨pl,hpl,epl⟩:=emod_nat (cell / 3) ns.length (by omega)
   rw [epl]
   have hk1:=n1.same.seq hk
   have s1:=s0.trans n1.same
   refine mid (fun σ' H'=>H'=H1∧∃ bad:Str,ltrs bad∧(way=7→isNm bad=false∨∃ i,i≠pl∧ns[i]? = some bad)∧(way=10→bad ∉ L)∧σ'=[some (.int way),some (.int cell),some (.ref pn),some (.str wd),some (.int (pl:Int)),some (.str bad)]) ?_ ?_
   ·intro N hN
    walk_at "gs"
    have nx:N [some (.int way),some (.int cell),some (.ref pn),some (.str wd),some (.int (pl:Int)),some (.str b0)] H1:=hN _ _ ⟨rfl,b0,hb1,fun _=>.inl hb2,fun _=>hb3,rfl⟩
    by_cases c3:cell % 3=1
    ·rw [if_pos c3]
     refine .inl ⟨_,.inl hk1,?_⟩
     rw [List.length_map]
     by_cases c4:(1:Int)<ns.length
     ·rw [if_pos c4]
      by_cases c7:way=7
      ·rw [if_pos c7]
       refine .inl ⟨_,.inl hk1,?_⟩
       rw [List.length_map]
       have m0:0≤((pl:Int)+1) % (ns.length:Int):=Int.emod_nonneg _ (by omega)
       have m1:((pl:Int)+1) % (ns.length:Int)<ns.length:=Int.emod_lt_of_pos _ (by omega)
       refine ⟨by omega,?_⟩
       refine ixS hk1 m0 m1 ?_
       have hne:(((pl:Int)+1) % (ns.length:Int)).toNat≠pl:=by
        intro e
        by_cases h:(pl:Int)+1<ns.length
        ·rw [Int.emod_eq_of_lt (by omega) h] at e;omega
        ·have:(pl:Int)+1=ns.length:=by omega
         rw [this,Int.emod_self] at e
         omega
       have hlt:(((pl:Int)+1) % (ns.length:Int)).toNat<ns.length:=by omega
       generalize (((pl:Int)+1) % (ns.length:Int)).toNat=i at hne hlt
       have hgi:ns[i]? = some (ns.getD i ""):=by simp [List.getD,hlt]
       refine hN _ _ ⟨rfl,ns.getD i "",kl.ltrs (List.mem_of_getElem? hgi),fun _=>.inr ⟨i,hne,hgi⟩,fun h=>by omega,rfl⟩
      ·rw [if_neg c7];exact nx
     ·rw [if_neg c4];exact nx
    ·rw [if_neg c3];exact nx
   rintro σ1 H1' ⟨rfl,bad1,x1,x2,x3,rfl⟩
   refine mid (fun σ' H'=>H'=H1'∧∃ bad:Str,ltrs bad∧(way=7→isNm bad=false∨∃ i,i≠pl∧ns[i]? = some bad)∧(way=10→bad ∉ L)∧σ'=[some (.int way),some (.int cell),some (.ref pn),some (.str wd),some (.int (pl:Int)),some (.str bad)]) ?_ ?_
   ·intro N hN
    walk_at "gs"
    have nx:N [some (.int way),some (.int cell),some (.ref pn),some (.str wd),some (.int (pl:Int)),some (.str bad1)] H1':=hN _ _ ⟨rfl,bad1,x1,x2,x3,rfl⟩
    by_cases c3:cell % 3=2
    ·rw [if_pos c3]
     by_cases c7:way=10
     ·rw [if_pos c7]
      refine ixS hk1 (by omega) (by omega) ?_
      have hgm:ns.getD ((pl:Int)).toNat "" ∈ ns:=getD_mem _ (by omega)
      generalize ns.getD ((pl:Int)).toNat "" = nm at hgm
      have hc8:Str.length "cccccccc" = 8:=by decide +kernel
      have hn8:nm.length≤8:=by have:=(kl.nm nm hgm).1.2;rw [len_cps] at this;exact this
      have hn1:1≤nm.length:=by have:=(kl.nm nm hgm).1.1;rw [len_cps] at this;exact this
      walk_at "gs"
      refine hN _ _ ⟨rfl,_,?_,fun h=>by omega,fun _=>kL.long (by rw [PySem.Str.length_append];omega),rfl⟩
      have hx:=kl.ltrs hgm
      have hy:=ltrs_of (w:="cccccccc") (by decide +kernel)
      refine ⟨fun e=>?_,by rw [PySem.Str.length_append];omega,fun c hc=>?_⟩
      ·rw [cps_app] at e;exact hx.1 (List.append_eq_nil_iff.mp e).1
      ·rw [cps_app] at hc
       rcases List.mem_append.mp hc with u | u
       ·exact hx.2.2 c u
       ·exact hy.2.2 c u
     ·rw [if_neg c7];exact nx
    ·rw [if_neg c3];exact nx
   rintro σ2 H2 ⟨rfl,bad,y1,y2,y3,rfl⟩
   walk_at "gs"
   refine ⟨by show 1≤sizeLine;decide,fun p3 H3 n3=>⟨_,n3.same.seq hk1,fun p4 H4 n4=>?_⟩⟩
   rw [cut_to (n:=pl) rfl (by omega)] at n4
   refine ⟨_,_,.of (n4.same _ _ n3.at_),n4.sq,by rw [List.length_map,List.length_take];simp only [List.length_cons,List.length_nil];omega,fun p5 H5 n5=>⟨by show 1≤sizeLine;decide,fun p6 H6 n6=>⟨_,_,.of (n6.same _ _ n5.at_),n6.sq,by rw [List.length_append,List.length_map,List.length_take];simp only [List.length_cons,List.length_nil];omega,fun p7 H7 n7=>?_⟩⟩⟩
   have s27:=n3.same.trans (n4.same.trans (n5.same.trans (n6.same.trans n7.same)))
   refine ⟨_,s27.seq hk1,fun p8 H8 n8=>?_⟩
   rw [show (pl:Int)+1=((pl+1:Nat):Int) from rfl,cutN (by omega)] at n8
   refine ⟨_,_,.of (n8.same _ _ n7.at_),n8.sq,by rw [List.length_append,List.length_append,List.length_map,List.length_map,List.length_take,List.length_drop];simp only [List.length_cons,List.length_nil];omega,fun p9 H9 n9=>?_⟩
   have erow:([V.str wd] ++ (ns.take pl).map V.str ++ [V.str bad] ++ (ns.drop (pl+1)).map V.str)=(wd :: (ns.take pl ++ bad :: ns.drop (pl+1))).map V.str:=by simp
   rw [erow] at n9
   have s28:=s1.trans (s27.trans n8.same)
   have hlen:(ns.take pl ++ bad :: ns.drop (pl+1)).length=ns.length:=by
    rw [List.length_append,List.length_cons,List.length_take,List.length_drop];omega
   have hall:∀ w∈ns.take pl ++ bad :: ns.drop (pl+1),ltrs w:=fun w hw=>by
    rcases List.mem_append.mp hw with u | u
    ·exact kl.ltrs (List.mem_of_mem_take u)
    ·rcases List.mem_cons.mp u with rfl | u
     ·exact y1
     ·exact kl.ltrs (List.mem_of_mem_drop u)
   have hbm:bad∈ns.take pl ++ bad :: ns.drop (pl+1):=by simp
   refine q p9 _ H9 ⟨s28.free n9.was,n9.at_,s28.trans n9.same⟩ ⟨lrc hwl hall,by rw [List.length_cons,hlen];omega⟩ ⟨fun h=>.inr ⟨rfl,_,by rw [hin h],by omega,by rw [hlen];exact hl10 (by omega),fun ok=>?_⟩,fun h=>.inr ⟨rfl,_,by rw [hout h],by omega,by omega,fun hal=>y3 (by omega) (hal bad hbm)⟩⟩
   rcases y2 (by omega) with u | ⟨i,hi,hgi⟩
   ·have:=ok.1 bad hbm;rw [u] at this;cases this
   ·have hnd:=ok.2
    rw [List.nodup_append,List.nodup_cons] at hnd
    rcases Nat.lt_or_ge i pl with g | g
    ·have:bad∈ns.take pl:=List.mem_of_getElem? (i:=i) (by rw [List.getElem?_take,if_pos g];exact hgi)
     exact hnd.2.2 bad this bad (List.mem_cons_self) rfl
    ·have:bad∈ns.drop (pl+1):=List.mem_of_getElem? (i:=i - (pl+1)) (by rw [List.getElem?_drop,show pl+1+(i - (pl+1))=i by omega];exact hgi)
     exact hnd.2.1.1 this
open GM
theorem RowsAt.take {H:Hp}{us:List V}{rs:List (List Str)} (h:RowsAt H us rs) (k:Nat):RowsAt H (us.take k) (rs.take k):=by
 refine ⟨by rw [List.length_take,List.length_take,h.1],fun i r e=>?_⟩
 rw [List.getElem?_take] at e
 split at e
 ·rename_i hi
  obtain ⟨t,a,b⟩:=h.2 i r e
  exact ⟨t,by rw [List.getElem?_take,if_pos hi];exact a,b⟩
 ·cases e
theorem RowsAt.drop {H:Hp}{us:List V}{rs:List (List Str)} (h:RowsAt H us rs) (k:Nat):RowsAt H (us.drop k) (rs.drop k):=by
 refine ⟨by rw [List.length_drop,List.length_drop,h.1],fun i r e=>?_⟩
 rw [List.getElem?_drop] at e
 obtain ⟨t,a,b⟩:=h.2 _ r e
 exact ⟨t,by rw [List.getElem?_drop];exact a,b⟩
theorem RowsAt.app {H:Hp}{us vs:List V}{rs qs:List (List Str)} (h:RowsAt H us rs) (g:RowsAt H vs qs):RowsAt H (us ++ vs) (rs ++ qs):=by
 refine ⟨by rw [List.length_append,List.length_append,h.1,g.1],fun i r e=>?_⟩
 by_cases hi:i<rs.length
 ·rw [List.getElem?_append_left hi] at e
  obtain ⟨t,a,b⟩:=h.2 i r e
  exact ⟨t,by rw [List.getElem?_append_left (by rw [h.1];exact hi)];exact a,b⟩
 ·rw [List.getElem?_append_right (by omega)] at e
  obtain ⟨t,a,b⟩:=g.2 _ r e
  exact ⟨t,by rw [List.getElem?_append_right (by rw [h.1];omega),h.1];exact a,b⟩
theorem RowsAt.one {H:Hp}{t:Addr}{r:List Str} (h:H t=some (.lst (r.map V.str))):RowsAt H [.ref t] [r]:=⟨rfl,fun i r' e=>by
 match i,e with
 | 0,e=>cases e;exact ⟨t,rfl,h⟩⟩
theorem cutTo {xs:List V}{n:Nat} (hn:n≤xs.length):cutV xs none (some (n:Int))=xs.take n:=by
 unfold cutV
 rw [HT.sIx_nat,HT.sIx_none,List.drop_zero,Nat.sub_zero,Nat.min_eq_left hn]
theorem cutFrom {xs:List V}{n:Nat} (hn:n≤xs.length):cutV xs (some (n:Int)) none=xs.drop n:=by
 unfold cutV
 rw [HT.sIx_nat,HT.sIx_none,Nat.min_eq_left hn,List.take_of_length_le (by rw [List.length_drop];exact Nat.le_refl _)]
theorem sIx_neg {n:Nat} (d:Nat) (h:1≤n):HT.sIx n d (some (-1))=n - 1:=by
 unfold HT.sIx
 dsimp only
 rw [if_pos (by omega)]
 omega
theorem cutToL {xs:List V} (h:1≤xs.length):cutV xs none (some (-1))=xs.take (xs.length - 1):=by
 unfold cutV
 rw [sIx_neg _ h,HT.sIx_none,List.drop_zero,Nat.sub_zero]
theorem cutFromL {xs:List V} (h:1≤xs.length):cutV xs (some (-1)) none=xs.drop (xs.length - 1):=by
 unfold cutV
 rw [sIx_neg _ h,HT.sIx_none,List.take_of_length_le (by rw [List.length_drop];exact Nat.le_refl _)]
structure SpW (a:Adr) (way:Int) (rows:List (List Str)):Prop where
 w0:way=0→rows.length<2
 w3:way=3∨way=10→∃ ins gs bad,rows=(("in" : Str) :: ins) :: (gs.map rowG ++ [bad])∧GP ins gs∧BadOut a (kindC a (decide (6<way))) (ins ++ gs.map (·.1)) bad
 wp:way≠0→way≠3→way≠10→∃ q post,rows=q ++ post∧post≠[]∧PreBad a (kindC a (decide (6<way))) q
 w1:way=1→∃ pre post,rows=pre ++ [] :: post∧post≠[]∧∀ r∈pre,r≠[]
 lr:∀ r∈rows,LR r
 ln:rows.length≤70
theorem GP.take {ins:List Str}{gs:List Gt} (h:GP ins gs) (k:Nat):GP ins (gs.take k):=by
 refine ⟨h.i0,h.i1,by rw [List.length_take];have:=h.gl;omega,?_,?_,?_⟩
 ·have:∀ {gs:List Gt}{known:List Str} (k:Nat),ME.WG Ar6 known gs→ME.WG Ar6 known (gs.take k):=by
   intro gs
   induction gs with
   | nil=>intro known k h;rw [List.take_nil];exact h
   | cons g r ih =>
    intro known k h
    cases k with
    | zero=>exact True.intro
    | succ k=>exact ⟨h.1,h.2.1,h.2.2.1,ih k h.2.2.2⟩
  exact this k h.wg
 ·exact List.Nodup.sublist (List.Sublist.append_left (List.Sublist.map _ (List.take_sublist k gs)) ins) h.nd
 ·intro n hn
  refine h.nm n ?_
  rcases List.mem_append.mp hn with e | e
  ·exact List.mem_append_left _ e
  ·refine List.mem_append_right _ ?_
   obtain ⟨g,hg,rfl⟩:=List.mem_map.mp e
   exact List.mem_map.mpr ⟨g,List.mem_of_mem_take hg,rfl⟩
theorem GP.kl {ins:List Str}{gs:List Gt} (h:GP ins gs):KL (ins ++ gs.map (·.1)):=⟨by rw [List.length_append];have:=h.i0;omega,by rw [List.length_append,List.length_map];have:=h.i1;have:=h.gl;omega,h.nm⟩
theorem rows_take {ins:List Str}{gs:List Gt}{outs:List Str}{k:Nat} (hk:k≤gs.length):(rowsL ins gs outs).take (k+1)=(("in" : Str) :: ins) :: (gs.take k).map rowG:=by
 unfold rowsL
 rw [List.take_succ_cons,List.take_append_of_le_length (by rw [List.length_map];exact hk),List.map_take]
theorem row_ltrs {ins:List Str}{gs:List Gt}{outs:List Str} (W:WN ins gs outs):∀ r∈rowsL ins gs outs,LR r∧r≠[]:=by
 have nl:∀ n∈ins ++ gs.map (·.1),ltrs n:=fun n hn=>ltrs_nm (W.nm n hn).1
 have wl:∀ w∈wordsS,ltrsB w=true:=by decide +kernel
 have i1:=W.i1
 have o1:=W.o1
 intro r hr
 rcases List.mem_cons.mp hr with rfl | hr
 ·exact ⟨⟨lrc (ltrs_of (by decide +kernel)) fun w hw=>nl w (List.mem_append_left _ hw),by rw [List.length_cons];omega⟩,by simp⟩
 rcases List.mem_append.mp hr with hr | hr
 ·obtain ⟨g,hg,rfl⟩:=List.mem_map.mp hr
  obtain ⟨i,hi⟩:=List.getElem?_of_mem hg
  obtain ⟨h1,h2,h3⟩:=ME.WG.at W.wg hi
  unfold rowG
  refine ⟨⟨lrc (nl _ (List.mem_append_right _ (List.mem_map.mpr ⟨g,hg,rfl⟩))) (lrc (ltrs_of (by decide +kernel)) (lrc (ltrs_of (wl _ h2.2.1)) fun w hw=>nl w ?_)),by simp only [List.length_cons];omega⟩,by simp⟩
  rcases List.mem_append.mp (h1 w hw) with e | e
  ·exact List.mem_append_left _ e
  ·refine List.mem_append_right _ ?_
   obtain ⟨g',hg',rfl⟩:=List.mem_map.mp e
   exact List.mem_map.mpr ⟨g',List.mem_of_mem_take hg',rfl⟩
 ·cases List.mem_singleton.mp hr
  exact ⟨⟨lrc (ltrs_of (by decide +kernel)) fun w hw=>nl w (W.wo w hw),by rw [List.length_cons];omega⟩,by simp⟩
def sp_law_spoilt (a:Adr) (K:PySem.W.Frag):Sp:=fun vs H Q _=>∃ (pr pn:Addr) (way cell at_:Int) (us:List V) (ins:List Str) (gs:List Gt) (outs:List Str),vs=[.ref pr,.ref pn,.int way,.int cell,.int at_]∧H pr=some (.lst us)∧RowsAt H us (rowsL ins gs outs)∧NetV K H pn ins gs outs∧WN ins gs outs∧0≤way∧way≤10 ∧
 ∀ r us' rows' H',Same H H'→H r=none→H' r=some (.lst us')→RowsAt H' us' rows'→SpW a way rows'→Q (.ref r) H'
def rd_law_spoilt (a:Adr) (K:PySem.W.Frag):TS:=(tSeq (tAsg (tOp (cAddA K) (tC (.int 1)) (tOp (cI2c (fun _ j=>0<j) fun i j=>.int (i % j)) (cVar 4) (tOp (cI2 fun i j=>.int (i - j)) (tCB (cLen K) (tCons (cVar 0) tNil)) (tC (.int 1))))) (gName 5))
  (tSeq (tIfS (cTst (tOp (cEq K) (cVar 2) (tC (.int 0)))) (tRet (tOp (cIx K) (tLst (tCons (tLst tNil) (tCons (tSl (cSlU K) (cVar 0) tNoPart (cPart (tC (.int 1)))) (tCons (tSl (cSlU K) (cVar 0) (cPart (tUn cNeg (tC (.int 1)))) tNoPart) tNil)))) (tOp (cI2c (fun _ j=>0<j) fun i j=>.int (i % j)) (cVar 3) (tC (.int 3))))) tNext)
  (tSeq (tIfS (cTst (tOp (cEq K) (cVar 2) (tC (.int 1)))) (tRet (tOp (cAddA K) (tOp (cAddA K) (tSl (cSlU K) (cVar 0) tNoPart (cPart (tOp (cI2 fun i j=>.int (i - j)) (cVar 5) (tC (.int 1))))) (tLst (tCons (tLst tNil) tNil))) (tSl (cSlU K) (cVar 0) (cPart (tOp (cI2 fun i j=>.int (i - j)) (cVar 5) (tC (.int 1)))) tNoPart))) tNext)
  (tSeq (tIfS (tOr (cTst (tOp (cEq K) (cVar 2) (tC (.int 2)))) (cTst (tOp (cEq K) (cVar 2) (tC (.int 7))))) (tRet (tOp (cAddA K) (tLst (tCons (tCall (sp_law_wrong_end a K) [] E0 (tCons (cVar 2) (tCons (cVar 3) (tCons (tOp (cIx K) (cVar 1) (tC (.int 0))) tNil)))) tNil)) (tSl (cSlU K) (cVar 0) (cPart (tC (.int 1))) tNoPart))) tNext)
  (tSeq (tIfS (tOr (cTst (tOp (cEq K) (cVar 2) (tC (.int 3)))) (cTst (tOp (cEq K) (cVar 2) (tC (.int 10))))) (tRet (tOp (cAddA K) (tSl (cSlU K) (cVar 0) tNoPart (cPart (tUn cNeg (tC (.int 1))))) (tLst (tCons (tCall (sp_law_wrong_end a K) [] E0 (tCons (cVar 2) (tCons (cVar 3) (tCons (tOp (cIx K) (cVar 1) (tC (.int 2))) tNil)))) tNil)))) tNext)
  (tSeq (tAsg (tOp (cAddA K) (tOp (cIx K) (cVar 1) (tC (.int 0))) (tComp (iList K (tSl (cSlU K) (tOp (cIx K) (cVar 1) (tC (.int 1))) tNoPart (cPart (tOp (cI2 fun i j=>.int (i - j)) (cVar 5) (tC (.int 1)))))) 1 [] (gName 0) tTrue (tOp (cIx K) (cVar 0) (tC (.int 0))))) (gName 6))
  (tSeq (tAsg (tC (.str "zzzzzzzz")) (gName 7))
  (tMid (tIfS (cTst (tOp (cI2 fun i j=>.bl (decide (i≤j))) (cVar 5) (tCB (cLen K) (tCons (tOp (cIx K) (cVar 1) (tC (.int 1))) tNil)))) (tAsg (tOp (cIx K) (tOp (cIx K) (tOp (cIx K) (cVar 1) (tC (.int 1))) (tOp (cI2 fun i j=>.int (i - j)) (cVar 5) (tC (.int 1)))) (tC (.int 0))) (gName 7)) tNext)
  (tRet (tOp (cAddA K) (tOp (cAddA K) (tSl (cSlU K) (cVar 0) tNoPart (cPart (cVar 5))) (tLst (tCons (tCall (sp_law_wrong_gate a K) [] E0 (tCons (cVar 2) (tCons (cVar 3) (tCons (cVar 6) (tCons (cVar 7) tNil))))) tNil))) (tSl (cSlU K) (cVar 0) (cPart (cVar 5)) tNoPart)))))))))))
theorem tm_law_spoilt (T:Txt w K mg a) {cdv:Value}{A:Around}{outer:List Env}{s:Shared}{H:Hp}{E:XK} (hr:Room 2 (A.deeper (envOfC "_law_spoilt" (defScope s_law_spoilt) s.heap.objs.size a.f_law_spoilt cdv))) :
  PSs (cxOf CX0 P w K mg base N_law_spoilt "_law_spoilt" (defScope s_law_spoilt) a.f_law_spoilt cdv A outer s H E).nox (defBody s_law_spoilt) (rd_law_spoilt a K) :=
 (pss_cons (ps_set (i:=5) sc_law_spoilt.nd rfl (by walk_at "o") (pe_op o_addA pe_int (pe_op o_mod (cv 4) (pe_op o_sub (pe_callB c_len (by rfl) T.no_len PySem.boot_len (pa_cons (cv 0) pa_nil)) pe_int))))
   (pss_cons (ps_if (t_cmp (o_eq (hr8 hr)) (cv 2) pe_int (nomark _)) (pss_one (ps_ret (pe_ix i_seq (pe_lst (pa_cons (pe_lst pa_nil) (pa_cons (pe_slice s_u (cv 0) po_none (e_part pe_int)) (pa_cons (pe_slice s_u (cv 0) (e_part (pe_un u_neg pe_int)) po_none) pa_nil)))) (pe_op o_mod (cv 3) pe_int) (fun _ _=>rfl)))) pss_nil)
   (pss_cons (ps_if (t_cmp (o_eq (hr8 hr)) (cv 2) pe_int (nomark _)) (pss_one (ps_ret (pe_op o_addA (pe_op o_addA (pe_slice s_u (cv 0) po_none (e_part (pe_op o_sub (cv 5) pe_int))) (pe_lst (pa_cons (pe_lst pa_nil) pa_nil))) (pe_slice s_u (cv 0) (e_part (pe_op o_sub (cv 5) pe_int)) po_none)))) pss_nil)
   (pss_cons (ps_if (PW.pt (pw_or (t_cmp (o_eq (hr8 hr)) (cv 2) pe_int (nomark _)) (pw_or1 (t_cmp (o_eq (hr8 hr)) (cv 2) pe_int (nomark _))))) (pss_one (ps_ret (pe_op o_addA (pe_lst (pa_cons (pe_call (ok_law_wrong_end T) (hr.mono (by decide)) rfl T.mg_law_wrong_end T.fn_law_wrong_end.kp T.bi_law_wrong_end .nil pass0 (pa_cons (cv 2) (pa_cons (cv 3) (pa_cons (pe_ix i_seq (cv 1) pe_int (fun _ _=>rfl)) pa_nil)))) pa_nil)) (pe_slice s_u (cv 0) (e_part pe_int) po_none)))) pss_nil)
   (pss_cons (ps_if (PW.pt (pw_or (t_cmp (o_eq (hr8 hr)) (cv 2) pe_int (nomark _)) (pw_or1 (t_cmp (o_eq (hr8 hr)) (cv 2) pe_int (nomark _))))) (pss_one (ps_ret (pe_op o_addA (pe_slice s_u (cv 0) po_none (e_part (pe_un u_neg pe_int))) (pe_lst (pa_cons (pe_call (ok_law_wrong_end T) (hr.mono (by decide)) rfl T.mg_law_wrong_end T.fn_law_wrong_end.kp T.bi_law_wrong_end .nil pass0 (pa_cons (cv 2) (pa_cons (cv 3) (pa_cons (pe_ix i_seq (cv 1) pe_int (fun _ _=>rfl)) pa_nil)))) pa_nil))))) pss_nil)
   (pss_cons (ps_set (i:=6) sc_law_spoilt.nd rfl (by walk_at "o") (pe_op o_addA (pe_ix i_seq (cv 1) pe_int (fun _ _=>rfl)) (pe_comp (N:=["_law_gate"]) (k:=1) (sel:=[]) (CScope.of (defScope s_law_spoilt).names (by decide +kernel)) (CNames.of N_law_spoilt (by decide +kernel)) rfl (pi_list (pe_slice s_u (pe_ix i_seq (cv 1) pe_int (fun _ _=>rfl)) po_none (e_part (pe_op o_sub (cv 5) pe_int)))) (fun _ _ _ _=>(pg_name (i:=0) (show List.Nodup (["_law_gate"]:List Str) by decide +kernel) rfl (by walk_at "o"))) (fun _ _ _ _=>pts_nil) (fun _ _ _ _=>(pe_ix i_seq (cv 0) pe_int (fun _ _=>rfl))))))
   (pss_cons (ps_set (i:=7) sc_law_spoilt.nd rfl (by walk_at "o") pe_str)
   (pss_mid (ps_if (t_cmp o_le (cv 5) (pe_callB c_len (by rfl) T.no_len PySem.boot_len (pa_cons (pe_ix i_seq (cv 1) pe_int (fun _ _=>rfl)) pa_nil)) (nomark _)) (pss_one (ps_set (i:=7) sc_law_spoilt.nd rfl (by walk_at "o") (pe_ix i_seq (pe_ix i_seq (pe_ix i_seq (cv 1) pe_int (fun _ _=>rfl)) (pe_op o_sub (cv 5) pe_int) (fun _ _=>rfl)) pe_int (fun _ _=>rfl)))) pss_nil)
   (pss_one (ps_ret (pe_op o_addA (pe_op o_addA (pe_slice s_u (cv 0) po_none (e_part (cv 5))) (pe_lst (pa_cons (pe_call (ok_law_wrong_gate T) (hr.mono (by decide)) rfl T.mg_law_wrong_gate T.fn_law_wrong_gate.kp T.bi_law_wrong_gate .nil pass0 (pa_cons (cv 2) (pa_cons (cv 3) (pa_cons (cv 6) (pa_cons (cv 7) pa_nil))))) pa_nil))) (pe_slice s_u (cv 0) (e_part (cv 5)) po_none))))))))))))
theorem ok_law_spoilt (T:Txt w K mg a):FnOk P w K mg base CX0 3 a.f_law_spoilt a.d_law_spoilt ["_law_rows_here","_law_net","_law_way","_law_cell","_law_at"] (sp_law_spoilt a K):=by
 refine T.fn_law_spoilt.ok sc_law_spoilt (fun vs H Q E h=>?_) (fun cdv A outer s H vs Q E hr h=>⟨_,tm_law_spoilt T hr,?_⟩)
 ·obtain ⟨pr,pn,way,cell,at_,us,ins,gs,outs,rfl,_⟩:=h;rfl
 ·obtain ⟨pr,pn,way,cell,at_,us,ins,gs,outs,rfl,apr,hR,hN,W,w0,w10,q⟩:=h
  show rd_law_spoilt a K _ [some (.ref pr),some (.ref pn),some (.int way),some (.int cell),some (.int at_),none,none,none] H
  unfold rd_law_spoilt
  have big:(20000:Nat)≤sizeLine:=by decide
  have gl:=W.gl
  have hrl:(rowsL ins gs outs).length=gs.length+2:=by unfold rowsL;simp
  have hul:us.length=gs.length+2:=by rw [hR.1,hrl]
  walk_at "gs"
  refine .inl ⟨_,.inl (.of apr),?_⟩
  rw [hul]
  obtain ⟨j,hj,ej⟩:∃ j:Nat,j≤gs.length∧at_ % (((gs.length+2:Nat):Int) - 1)=j:=by
   have h0:=Int.emod_nonneg at_ (show ((gs.length+2:Nat):Int) - 1≠0 by omega)
   have h1:=Int.emod_lt_of_pos at_ (show (0:Int)<((gs.length+2:Nat):Int) - 1 by omega)
   exact ⟨(at_ % (((gs.length+2:Nat):Int) - 1)).toNat,by omega,by omega⟩
  rw [ej]
  have ep:1+(j:Int) - 1=(j:Int):=by omega
  have ep1:1+(j:Int)=((j+1:Nat):Int):=by omega
  refine ⟨by omega,?_⟩
  have lrT:∀ k,∀ r∈(rowsL ins gs outs).take k,LR r:=fun k r hr=>(row_ltrs W r (List.mem_of_mem_take hr)).1
  have lrD:∀ k,∀ r∈(rowsL ins gs outs).drop k,LR r:=fun k r hr=>(row_ltrs W r (List.mem_of_mem_drop hr)).1
  have ndr:∀ k,k<gs.length+2→(rowsL ins gs outs).drop k≠[]:=fun k hk e=>by
   have:=congrArg List.length e
   rw [List.length_drop,hrl] at this
   simp only [List.length_nil] at this
   omega
  have klL:∀ k,KL (ins ++ (gs.take k).map (·.1)):=fun k=>(W.gp.take k).kl
  have klI:KL ins:=⟨W.i0,by have:=W.i1;omega,fun n hn=>W.nm n (List.mem_append_left _ hn)⟩
  have klO:KL outs:=⟨W.o0,by have:=W.o1;omega,fun n hn=>W.nm n (W.wo n hn)⟩
  have i1:=W.i1
  have o1:=W.o1
  obtain ⟨pa,pb,pc,ts,h0,hA,hB,hG,hC⟩:=id hN
  by_cases c0:way=0
  ·subst c0
   rw [if_pos rfl]
   refine ⟨by decide,fun p1 H1 n1=>⟨_,n1.same.seq (.of apr),fun p2 H2 n2=>⟨_,(n1.same.trans n2.same).seq (.of apr),fun p3 H3 n3=>⟨by show 3≤sizeLine;decide,fun p4 H4 n4=>⟨by decide,?_⟩⟩⟩⟩⟩
   rw [show (1:Int)=((1:Nat):Int) from rfl,cutTo (by omega)] at n2
   rw [cutFromL (by omega)] at n3
   have s4:=n1.same.trans (n2.same.trans (n3.same.trans n4.same))
   have mk:∀ rows',rows'.length<2→(∀ r∈rows',LR r)→SpW a 0 rows':=fun rows' h lr=>⟨fun _=>h,fun h=>absurd h (by decide),fun h=>absurd rfl h,fun h=>absurd h (by decide),lr,by omega⟩
   obtain ⟨j3,hj3,ej3⟩:=emod_nat cell 3 (by decide)
   rw [show ((3:Nat):Int)=3 from rfl] at ej3
   rw [ej3]
   match j3,hj3 with
   | 0,_=>exact ⟨_,_,.inl n4.sq,rfl,q p1 [] [] H4 s4 n1.was (n4.same _ _ (n3.same _ _ (n2.same _ _ n1.at_))) ⟨rfl,fun i r e=>by simp at e⟩ (mk _ (by simp) (by simp))⟩
   | 1,_=>exact ⟨_,_,.inl n4.sq,rfl,q p2 _ _ H4 s4 (n1.same.free n2.was) (n4.same _ _ (n3.same _ _ n2.at_)) ((hR.same s4).take 1) (mk _ (by rw [List.length_take];omega) (lrT 1))⟩
   | 2,_=>exact ⟨_,_,.inl n4.sq,rfl,q p3 _ _ H4 s4 ((n1.same.trans n2.same).free n3.was) (n4.same _ _ n3.at_) ((hR.same s4).drop _) (mk _ (by rw [List.length_drop,hrl];omega) (lrD _))⟩
  rw [if_neg c0]
  by_cases c1:way=1
  ·subst c1
   rw [if_pos rfl,ep]
   refine ⟨_,.of apr,fun p1 H1 n1=>⟨by decide,fun p2 H2 n2=>⟨by show 1≤sizeLine;decide,fun p3 H3 n3=>?_⟩⟩⟩
   rw [cutTo (by omega)] at n1
   refine ⟨_,_,.of (n3.same _ _ (n2.same _ _ n1.at_)),n3.sq,by rw [List.length_take];simp only [List.length_cons,List.length_nil];omega,fun p4 H4 n4=>?_⟩
   have s4:=n1.same.trans (n2.same.trans (n3.same.trans n4.same))
   refine ⟨_,.of (s4 _ _ apr),fun p5 H5 n5=>?_⟩
   rw [cutFrom (by omega)] at n5
   refine ⟨_,_,.of (n5.same _ _ n4.at_),n5.sq,by rw [List.length_append,List.length_take,List.length_drop];simp only [List.length_cons,List.length_nil];omega,fun p6 H6 n6=>?_⟩
   have s6:=s4.trans (n5.same.trans n6.same)
   have k26:Same H2 H6:=n3.same.trans (n4.same.trans (n5.same.trans n6.same))
   have hR6:=hR.same s6
   refine q p6 _ ((rowsL ins gs outs).take j ++ [[]] ++ (rowsL ins gs outs).drop j) H6 s6 ((s4.trans n5.same).free n6.was) n6.at_ (((hR6.take j).app (RowsAt.one (r:=[]) (k26 _ _ n2.at_))).app (hR6.drop j)) ⟨fun h=>absurd h (by decide),fun h=>absurd h (by decide),fun _ _ _=>⟨_,_,rfl,ndr j (by omega),?_⟩,fun _=>⟨(rowsL ins gs outs).take j,(rowsL ins gs outs).drop j,by simp,ndr j (by omega),fun r hr=>(row_ltrs W r (List.mem_of_mem_take hr)).2⟩,fun r hr=>?_,?_⟩
   ·cases j with
    | zero=>exact .inl ⟨[],rfl,.inl ⟨rfl,fun ⟨ins,e,_⟩=>nomatch e⟩⟩
    | succ k =>
     rw [rows_take (by omega)]
     exact .inr ⟨ins,gs.take k,[],rfl,W.gp.take k,.inl ⟨rfl,no_gate2 (by simp)⟩⟩
   ·rcases List.mem_append.mp hr with e | e
    ·rcases List.mem_append.mp e with e | e
     ·exact lrT j r e
     ·rw [List.mem_singleton.mp e];exact ⟨lrn,by simp⟩
    ·exact lrD j r e
   ·rw [List.length_append,List.length_append,List.length_take,List.length_drop,hrl];simp only [List.length_cons,List.length_nil];omega
  rw [if_neg c1]
  by_cases c2:way=2∨way=7
  ·have fin:∃ xs v,(SqL K H pn xs∨SqT K H pn xs)∧atI xs 0=some v∧sp_law_wrong_end a K [V.int way,V.int cell,v] H (fun x H1=>[x].length≤sizeLine∧∀ (p:Addr) (H':Hp),New H1 p (.lst [x]) H'→∃ xs,SqL K H' pr xs∧∀ (q:Addr) (H'_1:Hp),New H' q (.lst (cutV xs (some 1) none)) H'_1→∃ xs zs,SqL K H'_1 p xs∧SqL K H'_1 q zs∧xs.length+zs.length≤sizeLine∧∀ (p:Addr) (H':Hp),New H'_1 p (.lst (xs ++ zs)) H'→Q (.ref p) H') E0:=by
    refine ⟨_,_,.inr h0,rfl,way,cell,pa,ins,ins,rfl,hA,klI,klI,by omega,fun _=>i1,by omega,fun p1 row H1 m1 lr eb=>⟨by show 1≤sizeLine;decide,fun p2 H2 n2=>⟨_,.of ((m1.same.trans n2.same) _ _ apr),fun p3 H3 n3=>?_⟩⟩⟩
    rw [show (1:Int)=((1:Nat):Int) from rfl,cutFrom (by omega)] at n3
    refine ⟨_,_,.of (n3.same _ _ n2.at_),n3.sq,by rw [List.length_drop];simp only [List.length_cons,List.length_nil];omega,fun p4 H4 n4=>?_⟩
    have s4:=m1.same.trans (n2.same.trans (n3.same.trans n4.same))
    refine q p4 _ ([row] ++ (rowsL ins gs outs).drop 1) H4 s4 ((m1.same.trans (n2.same.trans n3.same)).free n4.was) n4.at_ ((RowsAt.one (n4.same _ _ (n3.same _ _ (n2.same _ _ m1.at_)))).app ((hR.same s4).drop 1)) ⟨fun h=>by omega,fun h=>by omega,fun _ _ _=>⟨[row],_,rfl,ndr 1 (by omega),.inl ⟨row,rfl,eb.1 c2⟩⟩,fun h=>by omega,fun r hr=>?_,?_⟩
    ·rcases List.mem_append.mp hr with e | e
     ·rw [List.mem_singleton.mp e];exact lr
     ·exact lrD 1 r e
    ·rw [List.length_append,List.length_drop,hrl];simp only [List.length_cons,List.length_nil];omega
   by_cases c22:way=2
   ·rw [if_pos c22];exact fin
   ·rw [if_neg c22,if_pos (by omega)];exact fin
  rw [if_neg (by omega),if_neg (by omega)]
  by_cases c3:way=3∨way=10
  ·have fin:∃ xs,SqL K H pr xs∧∀ (q:Addr) (H':Hp),New H q (.lst (cutV xs none (some (-1)))) H'→∃ xs v,(SqL K H' pn xs∨SqT K H' pn xs)∧atI xs 2=some v∧sp_law_wrong_end a K [V.int way,V.int cell,v] H' (fun x H1=>[x].length≤sizeLine∧∀ (p:Addr) (H':Hp),New H1 p (.lst [x]) H'→∃ xs zs,SqL K H' q xs∧SqL K H' p zs∧xs.length+zs.length≤sizeLine∧∀ (p:Addr) (H'_1:Hp),New H' p (.lst (xs ++ zs)) H'_1→Q (.ref p) H'_1) E0:=by
    refine ⟨_,.of apr,fun p1 H1 n1=>?_⟩
    rw [cutToL (by omega)] at n1
    refine ⟨_,_,.inr (n1.same.tup h0),rfl,way,cell,pc,outs,ins ++ (gs.take gs.length).map (·.1),rfl,n1.same.seq hC,klO,klL _,o1,fun h=>by omega,by omega,fun p2 row H2 m2 lr eb=>⟨by show 1≤sizeLine;decide,fun p3 H3 n3=>?_⟩⟩
    refine ⟨_,_,.of (n3.same _ _ (m2.same _ _ n1.at_)),n3.sq,by rw [List.length_take];simp only [List.length_cons,List.length_nil];omega,fun p4 H4 n4=>?_⟩
    have s4:=n1.same.trans (m2.same.trans (n3.same.trans n4.same))
    have etk:us.length - 1=gs.length+1:=by omega
    rw [etk] at n4
    have hRR:=((hR.same s4).take (gs.length+1)).app (RowsAt.one (n4.same _ _ (n3.same _ _ m2.at_)))
    rw [rows_take (Nat.le_refl _),List.take_length] at hRR
    rw [List.take_length] at eb
    refine q p4 _ _ H4 s4 ((n1.same.trans (m2.same.trans n3.same)).free n4.was) n4.at_ hRR ⟨fun h=>by omega,fun h=>⟨ins,gs,row,rfl,W.gp,eb.2 c3⟩,fun _ h1 h2=>by omega,fun h=>by omega,fun r hr=>?_,?_⟩
    ·rcases List.mem_append.mp hr with e | e
     ·have e2:=rows_take (ins:=ins) (gs:=gs) (outs:=outs) (Nat.le_refl _)
      rw [List.take_length] at e2
      exact lrT (gs.length+1) r (by rw [e2];exact e)
     ·rw [List.mem_singleton.mp e];exact lr
    ·rw [List.length_append,List.length_cons,List.length_map];simp only [List.length_cons,List.length_nil];omega
   by_cases c33:way=3
   ·rw [if_pos c33];exact fin
   ·rw [if_neg c33,if_pos (by omega)];exact fin
  rw [if_neg (by omega),if_neg (by omega)]
  refine ⟨_,_,.inr h0,rfl,_,_,.inr h0,rfl,?_⟩
  walk_at "gs"
  rw [ep]
  refine ⟨_,hB,fun p1 H1 n1=>?_⟩
  have hts:ts.length=gs.length:=hG.1
  rw [cutTo (by omega)] at n1
  refine ⟨⟨_,n1.sq⟩,fun pl hpl=>comp_inv (n:=(ts.take j).length) (item:=fun i=>(ts.take j).getD i .non) (fun i H2=>H2=upd H1 pl (.lst (((gs.take j).take i).map fun g=>V.str g.1))) rfl (by simp) (src_list ?_) ?_ ?_ ?_⟩
  ·rintro i H2 hi rfl
   exact (same_upd hpl).seq n1.sq
  ·rintro H2 rfl
   exact ⟨_,(same_upd hpl).seq n1.sq,Nat.le_refl _⟩
  ·rintro i H2 R hi rfl hR'
   rw [List.length_take,hts] at hi
   have hgi:gs[i]? = some (gs[i]'(by omega)):=List.getElem?_eq_getElem _
   obtain ⟨t,qq,e1,_,_,e2,e3⟩:=hG.2 i _ hgi
   have et:(ts.take j).getD i .non=.ref t:=by
    rw [List.getD_eq_getElem?_getD,List.getElem?_take,if_pos (by omega),e1];rfl
   have htk:(gs.take j).take (i+1)=(gs.take j).take i ++ [gs[i]'(by omega)]:=by
    rw [List.take_add_one,List.getElem?_take,if_pos (by omega),hgi];rfl
   generalize gs[i]'(by omega)=g at e2 e3 htk
   rw [et]
   unfold tTrue
   walk_at "gs"
   refine ⟨_,_,.inr ((n1.same.trans (same_upd hpl)).tup e2),rfl,_,upd_same,by rw [List.length_map,List.length_take,List.length_take];omega,hR' _ ?_⟩
   rw [upd_upd,htk,List.map_append]
   rfl
  ·rintro H2 rfl
   have ey:((gs.take j).take (ts.take j).length).map (fun g=>V.str g.1)=((gs.take j).map (·.1)).map V.str:=by
    rw [List.take_of_length_le (by rw [List.length_take,List.length_take,hts];exact Nat.le_refl _),List.map_map];rfl
   rw [ey]
   have s2:Same H (upd H1 pl (.lst (((gs.take j).map (·.1)).map V.str))):=n1.same.trans (same_upd hpl)
   have apl:upd H1 pl (.lst (((gs.take j).map (·.1)).map V.str)) pl=some (.lst (((gs.take j).map (·.1)).map V.str)):=upd_same
   generalize upd H1 pl (.lst (((gs.take j).map (·.1)).map V.str))=H2 at s2 apl
   walk_at "gs"
   refine ⟨_,_,s2.seq hA,.of apl,by rw [List.length_map,List.length_map,List.length_map,List.length_take];omega,fun pk H3 n3=>?_⟩
   rw [← List.map_append] at n3
   have s3:=s2.trans n3.same
   refine mid (fun σ' H'=>H'=H3∧∃ later:Str,ltrs later∧later.length≤8∧σ'=[some (.ref pr),some (.ref pn),some (.int way),some (.int cell),some (.int at_),some (.int (1+(j:Int))),some (.ref pk),some (.str later)]) ?_ ?_
   ·intro N hN
    walk_at "gs"
    refine ⟨_,_,.inr (s3.tup h0),rfl,.inl ⟨_,.inl (s3.seq hB),?_⟩⟩
    rw [hts]
    by_cases cj:1+(j:Int)≤gs.length
    ·rw [if_pos cj]
     have hgi:gs[j]? = some (gs[j]'(by omega)):=List.getElem?_eq_getElem _
     obtain ⟨t,qq,e1,_,_,e2,e3⟩:=hG.2 j _ hgi
     have hnm:=W.nm _ (List.mem_append_right ins (List.mem_map.mpr ⟨_,List.mem_of_getElem? hgi,rfl⟩))
     generalize gs[j]'(by omega)=g at e2 e3 hnm
     have hat:atI ts (1+(j:Int) - 1)=some (.ref t):=by
      rw [ep,atI_ok .non (by omega) (by omega),Int.toNat_natCast]
      simp [List.getD,e1]
     refine ⟨_,_,.inr (s3.tup h0),rfl,_,_,.inl (s3.seq hB),hat,_,_,.inr (s3.tup e2),rfl,hN _ _ ⟨rfl,g.1,ltrs_nm hnm.1,by have:=hnm.1.2;rw [len_cps] at this;exact this,rfl⟩⟩
    ·rw [if_neg cj]
     exact hN _ _ ⟨rfl,"zzzzzzzz",ltrs_of (by decide +kernel),by decide +kernel,rfl⟩
   rintro σ' H3' ⟨rfl,later,lt1,lt2,rfl⟩
   walk_at "gs"
   rw [ep1]
   refine ⟨_,.of (s3 _ _ apr),fun p4 H4 n4=>?_⟩
   rw [cutTo (by omega)] at n4
   refine ⟨way,cell,pk,ins ++ (gs.take j).map (·.1),later,rfl,n4.same.seq n3.sq,klL j,lt1,lt2,by omega,fun p5 row H5 m5 lr bg=>⟨by show 1≤sizeLine;decide,fun p6 H6 n6=>?_⟩⟩
   refine ⟨_,_,.of (n6.same _ _ (m5.same _ _ n4.at_)),n6.sq,by rw [List.length_take];simp only [List.length_cons,List.length_nil];omega,fun p7 H7 n7=>?_⟩
   have s7:=s3.trans (n4.same.trans (m5.same.trans (n6.same.trans n7.same)))
   refine ⟨_,.of (s7 _ _ apr),fun p8 H8 n8=>?_⟩
   rw [cutFrom (by omega)] at n8
   refine ⟨_,_,.of (n8.same _ _ n7.at_),n8.sq,by rw [List.length_append,List.length_take,List.length_drop];simp only [List.length_cons,List.length_nil];omega,fun p9 H9 n9=>?_⟩
   have s9:=s7.trans (n8.same.trans n9.same)
   have k59:Same H5 H9:=n6.same.trans (n7.same.trans (n8.same.trans n9.same))
   have hR9:=hR.same s9
   refine q p9 _ ((rowsL ins gs outs).take (j+1) ++ [row] ++ (rowsL ins gs outs).drop (j+1)) H9 s9 ((s7.trans n8.same).free n9.was) n9.at_ (((hR9.take (j+1)).app (RowsAt.one (k59 _ _ m5.at_))).app (hR9.drop (j+1))) ⟨fun h=>by omega,fun h=>by omega,fun _ _ _=>⟨_,_,rfl,ndr (j+1) (by omega),.inr ⟨ins,gs.take j,row,by rw [rows_take hj];rfl,W.gp.take j,bg⟩⟩,fun h=>by omega,fun r hr=>?_,?_⟩
   ·rcases List.mem_append.mp hr with e | e
    ·rcases List.mem_append.mp e with e | e
     ·exact lrT (j+1) r e
     ·rw [List.mem_singleton.mp e];exact lr
    ·exact lrD (j+1) r e
   ·rw [List.length_append,List.length_append,List.length_take,List.length_drop,hrl];simp only [List.length_cons,List.length_nil];omega
open GM
def sp_law (K:PySem.W.Frag):Sp:=fun vs H Q _=>∃ (p:Addr) (ns:List Int),vs=[.ref p]∧SqL K H p (ns.map V.int)∧ns.length≤63∧∀ H',Q (.bl true) H'
theorem cut5 (ns:List Int) (hl:ns.length≤63):∃ cs:List Int,cutV (ns.map V.int) (some 5) (some 25)=cs.map V.int∧cs.length≤60:=by
 unfold cutV
 have e1:HT.sIx (ns.map V.int).length 0 (some 5)=min 5 (ns.map V.int).length:=by
  have:=HT.sIx_nat (ns.map V.int).length 0 5
  rw [show ((5:Nat):Int)=5 from rfl] at this
  rw [this]
 have e2:HT.sIx (ns.map V.int).length (ns.map V.int).length (some 25)=min 25 (ns.map V.int).length:=by
  have:=HT.sIx_nat (ns.map V.int).length (ns.map V.int).length 25
  rw [show ((25:Nat):Int)=25 from rfl] at this
  rw [this]
 rw [e1,e2,List.length_map]
 refine ⟨(ns.drop (min 5 ns.length)).take (min 25 ns.length - min 5 ns.length),by rw [List.map_take,List.map_drop],?_⟩
 rw [List.length_take,List.length_drop]
 omega
structure SpV (a:Adr) (way:Int) (rows:List (List Str)):Prop where
 w0:way=0→rows.length<2
 w3:way=3∨way=10→∃ ins gs bad,rows=(("in" : Str) :: ins) :: (gs.map rowG ++ [bad])∧GP ins gs∧BadOut a (kindC a (decide (6<way))) (ins ++ gs.map (·.1)) bad
 wp:way≠0→way≠3→way≠10→∃ q post,rows=q ++ post∧post≠[]∧PreBad a (kindC a (decide (6<way))) q
 w1:way=1→∃ pre post,rows=pre ++ [] :: post∧post≠[]∧∀ r∈pre,r≠[]
 lr:∀ r∈rows,LR r
theorem SpW.v {a:Adr}{way:Int}{rows:List (List Str)} (h:SpW a way rows):SpV a way rows:=⟨h.w0,h.w3,h.wp,h.w1,h.lr⟩
theorem SpV.badR {a:Adr}{way:Int}{rows:List (List Str)} (h:SpV a way rows):BadR a (kindC a (decide (6<way))) rows:=by
 by_cases c0:way=0
 ·subst c0
  exact .inl ⟨h.w0 rfl,rfl⟩
 by_cases c3:way=3∨way=10
 ·obtain ⟨ins,gs,bad,e,gp,hb⟩:=h.w3 c3
  exact .inr ⟨_,_,_,e,.inr ⟨ins,gs,rfl,gp,.inr ⟨rfl,hb⟩⟩⟩
 ·obtain ⟨q,post,e,hp,hb⟩:=h.wp c0 (by omega) (by omega)
  rw [e]
  exact hb.badR hp
theorem last_split {α:Type}{l q post:List α} (h:l=q ++ post) (hp:post≠[]):∃ p0 z,post=p0 ++ [z]∧l.take (l.length - 1)=q ++ p0∧l.drop (l.length - 1)=[z]:=by
 rcases List.eq_nil_or_concat post with e | ⟨p0,z,rfl⟩
 ·exact absurd e hp
 rw [List.concat_eq_append] at *
 have e:l=(q ++ p0) ++ [z]:=by rw [h,List.append_assoc]
 subst e
 have hl:((q ++ p0) ++ [z]).length - 1=(q ++ p0).length:=by simp
 rw [hl]
 exact ⟨p0,z,rfl,List.take_left,List.drop_left⟩
theorem SpV.put {a:Adr}{way:Int}{rows ms:List (List Str)} (h:SpV a way rows) (c0:way≠0) (c3:way≠3) (c10:way≠10) (hm:ms≠[]) (hl:∀ r∈ms,LR r):SpV a way (rows.take (rows.length - 1) ++ ms):=by
 have app_ne:∀ p0:List (List Str),p0 ++ ms≠[]:=fun p0 e=>hm (List.append_eq_nil_iff.mp e).2
 refine ⟨fun e=>absurd e c0,fun e=>by omega,fun _ _ _=>?_,fun e=>?_,fun r hr=>?_⟩
 ·obtain ⟨q,post,e,hp,hb⟩:=h.wp c0 c3 c10
  obtain ⟨p0,z,_,e1,_⟩:=last_split e hp
  exact ⟨q,p0 ++ ms,by rw [e1,List.append_assoc],app_ne p0,hb⟩
 ·obtain ⟨pre,post,e1,hp,hb⟩:=h.w1 e
  obtain ⟨p0,z,_,e2,_⟩:=last_split (l:=rows) (q:=pre ++ [[]]) (post:=post) (by rw [e1];simp) hp
  exact ⟨pre,p0 ++ ms,by rw [e2];simp,app_ne p0,hb⟩
 ·rcases List.mem_append.mp hr with e | e
  ·exact h.lr r (List.mem_of_mem_take e)
  ·exact hl r e
theorem set_last {α:Type}{l:List α} (v:α) (h:1≤l.length):l.set (l.length - 1) v=l.take (l.length - 1) ++ [v]:=by
 rcases List.eq_nil_or_concat l with rfl | ⟨q,z,rfl⟩
 ·simp at h
 rw [List.concat_eq_append]
 have e:(q ++ [z]).length - 1=q.length:=by simp
 rw [e,List.set_append_right _ _ (Nat.le_refl _),List.take_left,Nat.sub_self]
 rfl
theorem RowsAt.ne {H:Hp}{us:List V}{rs:List (List Str)}{r:Addr} (h:RowsAt H us rs) (hr:H r=some (.lst us)) {i:Nat}{x:List Str} (hx:rs[i]? = some x) {t:Addr} (ht:us[i]? = some (.ref t)) (hh:H t=some (.lst (x.map V.str))):t≠r:=by
 rintro rfl
 rw [hr] at hh
 have e:us=x.map V.str:=by injection Option.some.inj hh
 rw [e,List.getElem?_map] at ht
 cases hxi:x[i]? with
 | none=>rw [hxi] at ht;cases ht
 | some y=>rw [hxi] at ht;cases ht
def LnOk (l:Str):Prop:=l.length≤8000∧(wrds l).length≤100∧∀ x∈wrds l,x.length≤8000
theorem lnOk_jn {r:List Str} (h:LR r):LnOk (jn r):=by
 have e:=wrds_jn h.1
 refine ⟨by have:=jn_len h;omega,by rw [e];have:=h.2;omega,fun x hx=>?_⟩
 rw [e] at hx
 have:=(h.1 x hx).2.1
 omega
def rd_law (a:Adr) (K:PySem.W.Frag):TS:=(tSeq (tAsg (tOp (cAddA K) (tC (.int 1)) (tOp (cI2c (fun _ j=>0<j) fun i j=>.int (i % j)) (tCall (sp_law_cell_at K) [] E0 (tCons (cVar 0) (tCons (tC (.int 0)) tNil))) (tC (.int 10)))) (gName 1))
  (tSeq (tAsg (tCall (sp_law_drawn K) [] E0 (tCons (cVar 1) (tCons (tSl (cSlU K) (cVar 0) (cPart (tC (.int 5))) (cPart (tC (.int 25)))) (tCons (tCall (sp_law_cell_at K) [] E0 (tCons (cVar 0) (tCons (tC (.int 1)) tNil))) (tCons (tCall (sp_law_cell_at K) [] E0 (tCons (cVar 0) (tCons (tC (.int 2)) tNil))) tNil))))) (gName 2))
  (tSeq (tAsg (tOp (cI2c (fun _ j=>0<j) fun i j=>.int (i % j)) (tCall (sp_law_cell_at K) [] E0 (tCons (cVar 0) (tCons (tC (.int 3)) tNil))) (tC (.int 11))) (gName 3))
  (tSeq (tAsg (tOp (cI2c CDiv fun i j=>.int (i / j)) (tCall (sp_law_cell_at K) [] E0 (tCons (cVar 0) (tCons (tC (.int 3)) tNil))) (tC (.int 11))) (gName 4))
  (tSeq (tAsg (tCall (sp_law_rows K) [] E0 (tCons (cVar 2) tNil)) (gName 5))
  (tSeq (tAsg (tCall (sp_law_spoilt a K) [] E0 (tCons (cVar 5) (tCons (cVar 2) (tCons (cVar 3) (tCons (cVar 4) (tCons (tCall (sp_law_cell_at K) [] E0 (tCons (cVar 0) (tCons (tC (.int 4)) tNil))) tNil)))))) (gName 6))
  (tMid (tIfS (tAnd (cTst (tOp (cIn K true) (cVar 3) (tTup (tVals [(.int 0),(.int 3),(.int 10)])))) (cTst (tOp (cEq K) (tOp (cI2c (fun _ j=>0<j) fun i j=>.int (i % j)) (cVar 4) (tC (.int 2))) (tC (.int 1))))) (tSeq (tAsg (tOp (cIx K) (tLst (tCons (tLst (tCons (tC (.str "is")) tNil)) (tCons (tLst (tVals [(.str "zz"),(.str "is"),(.str "not"),(.str "out")])) tNil))) (tOp (cI2c (fun _ j=>0<j) fun i j=>.int (i % j)) (tOp (cI2c CDiv fun i j=>.int (i / j)) (cVar 4) (tC (.int 2))) (tC (.int 2)))) (gName 7))
  (tAsg (tOp (cAddA K) (tOp (cAddA K) (tSl (cSlU K) (cVar 6) tNoPart (cPart (tUn cNeg (tC (.int 1))))) (tLst (tCons (cVar 7) tNil))) (tSl (cSlU K) (cVar 6) (cPart (tUn cNeg (tC (.int 1)))) tNoPart)) (gName 6))) tNext)
  (tMid (tIfS (tAnd (cTst (cChain (cI2 fun i j=>.bl (decide (i<j))) (cI2 fun i j=>.bl (decide (i<j))) (tC (.int 3)) (cVar 3) (tC (.int 10)))) (cTst (tOp (cI2 fun i j=>.bl (decide (i<j))) (tOp (cI2c (fun _ j=>0<j) fun i j=>.int (i % j)) (cVar 4) (tC (.int 6))) (tC (.int 2))))) (tAsg (tOp (cIx K) (tLst (tCons (tLst (tCons (tC (.str "out")) tNil)) (tCons (tLst (tVals [(.str "outs"),(.str "zz")])) (tCons (tLst (tCons (tC (.str "zz")) tNil)) tNil)))) (tOp (cI2c (fun _ j=>0<j) fun i j=>.int (i % j)) (tOp (cI2c CDiv fun i j=>.int (i / j)) (cVar 4) (tC (.int 6))) (tC (.int 3)))) (gSub (cVar 6) (tUn cNeg (tC (.int 1))) rSetL)) tNext)
  (tSeq (tAsg (tComp (iList K (cVar 6)) 1 [] (gName 0) tTrue (tBM K "str" (rJoin K) (tC (.str " ")) (tCons (cVar 0) tNil))) (gName 8))
  (tMid (tIfS (tAnd (cTst (tOp (cEq K) (cVar 3) (tC (.int 1)))) (cTst (tOp (cI2 fun i j=>.bl (decide (j<i))) (tOp (cI2c (fun _ j=>0<j) fun i j=>.int (i % j)) (cVar 4) (tC (.int 3))) (tC (.int 0))))) (tAsg (tOp (cIx K) (tLst (tVals [(.str "  "),(.str "zz is not a."),(.str "Zz is yes"),(.str "in\ta")])) (tOp (cI2c (fun _ j=>0<j) fun i j=>.int (i % j)) (tOp (cI2c CDiv fun i j=>.int (i / j)) (cVar 4) (tC (.int 3))) (tC (.int 4)))) (gSub (cVar 8) (tBM K "list" rIndexS (cVar 8) (tCons (tC (.str "")) tNil)) rSetL)) tNext)
  (tSeq (tAsg (tCB cInt (tCons (tOp (cI2 fun i j=>.bl (decide (j<i))) (cVar 3) (tC (.int 6))) tNil)) (gName 9))
  (tSeq (tIfS (cTst (tOp (cNe K) (tCall (sp_law_kinds a K) [] E0 (tCons (cVar 8) tNil)) (tLst (tCons (tOp (cEq K) (cVar 9) (tC (.int 0))) (tCons (tOp (cEq K) (cVar 9) (tC (.int 1))) (tCons (tC (.bl true)) (tCons (tC (.bl false)) (tCons (tC (.bl false)) tNil)))))))) (tRet (tC (.bl false))) tNext)
  (tSeq (tAsg (tComp (iList K (cVar 5)) 1 [] (gName 0) tTrue (tBM K "str" (rJoin K) (tC (.str " ")) (tCons (cVar 0) tNil))) (gName 10))
  (tSeq (tAsg (tCall (sp_written a K) [] E0 (tCons (tCall (sp_net_of a K) [] E0 (tCons (tCB (cList K) (tCons (cVar 10) tNil)) tNil)) tNil)) (gName 11))
  (tSeq (tIfS (tOr (tNot (cTru K (tCB (cIsinst K) (tCons (cVar 11) (tCons (tC (.ty "list")) tNil))))) (cTst (tOp (cNe K) (tCB (cLen K) (tCons (cVar 11) tNil)) (tCB (cLen K) (tCons (cVar 10) tNil))))) (tRet (tC (.bl false))) tNext)
  (tSeq (tFor (iRng1 (tCons (tCB (cLen K) (tCons (cVar 10) tNil)) tNil)) (gName 12) (tIfS (tOr (tNot (cTru K (tCB (cIsinst K) (tCons (tOp (cIx K) (cVar 11) (cVar 12)) (tCons (tC (.ty "str")) tNil))))) (cTst (tOp (cNe K) (tOp (cIx K) (cVar 11) (cVar 12)) (tOp (cIx K) (cVar 10) (cVar 12))))) (tRet (tC (.bl false))) tNext))
  (tRet (tC (.bl true)))))))))))))))))))
theorem tm_law (T:Txt w K mg a) {cdv:Value}{A:Around}{outer:List Env}{s:Shared}{H:Hp}{E:XK} (hr:Room 4 (A.deeper (envOfC "law" (defScope s_law) s.heap.objs.size a.f_law cdv))) :
  PSs (cxOf CX0 P w K mg base N_law "law" (defScope s_law) a.f_law cdv A outer s H E).nox (defBody s_law) (rd_law a K) :=
 (pss_cons (ps_set (i:=1) sc_law.nd rfl (by walk_at "o") (pe_op o_addA pe_int (pe_op o_mod (pe_call (ok_law_cell_at T) (hr.mono (by decide)) rfl T.mg_law_cell_at T.fn_law_cell_at.kp T.bi_law_cell_at .nil pass0 (pa_cons (cv 0) (pa_cons pe_int pa_nil))) pe_int)))
   (pss_cons (ps_set (i:=2) sc_law.nd rfl (by walk_at "o") (pe_call (ok_law_drawn T) (hr.mono (by decide)) rfl T.mg_law_drawn T.fn_law_drawn.kp T.bi_law_drawn .nil pass0 (pa_cons (cv 1) (pa_cons (pe_slice s_u (cv 0) (e_part pe_int) (e_part pe_int)) (pa_cons (pe_call (ok_law_cell_at T) (hr.mono (by decide)) rfl T.mg_law_cell_at T.fn_law_cell_at.kp T.bi_law_cell_at .nil pass0 (pa_cons (cv 0) (pa_cons pe_int pa_nil))) (pa_cons (pe_call (ok_law_cell_at T) (hr.mono (by decide)) rfl T.mg_law_cell_at T.fn_law_cell_at.kp T.bi_law_cell_at .nil pass0 (pa_cons (cv 0) (pa_cons pe_int pa_nil))) pa_nil))))))
   (pss_cons (ps_set (i:=3) sc_law.nd rfl (by walk_at "o") (pe_op o_mod (pe_call (ok_law_cell_at T) (hr.mono (by decide)) rfl T.mg_law_cell_at T.fn_law_cell_at.kp T.bi_law_cell_at .nil pass0 (pa_cons (cv 0) (pa_cons pe_int pa_nil))) pe_int))
   (pss_cons (ps_set (i:=4) sc_law.nd rfl (by walk_at "o") (pe_op o_fdiv (pe_call (ok_law_cell_at T) (hr.mono (by decide)) rfl T.mg_law_cell_at T.fn_law_cell_at.kp T.bi_law_cell_at .nil pass0 (pa_cons (cv 0) (pa_cons pe_int pa_nil))) pe_int))
   (pss_cons (ps_set (i:=5) sc_law.nd rfl (by walk_at "o") (pe_call (ok_law_rows T) (hr.mono (by decide)) rfl T.mg_law_rows T.fn_law_rows.kp T.bi_law_rows .nil pass0 (pa_cons (cv 2) pa_nil)))
   (pss_cons (ps_set (i:=6) sc_law.nd rfl (by walk_at "o") (pe_call (ok_law_spoilt T) (hr.mono (by decide)) rfl T.mg_law_spoilt T.fn_law_spoilt.kp T.bi_law_spoilt .nil pass0 (pa_cons (cv 5) (pa_cons (cv 2) (pa_cons (cv 3) (pa_cons (cv 4) (pa_cons (pe_call (ok_law_cell_at T) (hr.mono (by decide)) rfl T.mg_law_cell_at T.fn_law_cell_at.kp T.bi_law_cell_at .nil pass0 (pa_cons (cv 0) (pa_cons pe_int pa_nil))) pa_nil)))))))
   (pss_mid (ps_if (PW.pt (pw_and (t_cmp o_notin (cv 3) (pe_tup (pa_consts (vs:=[(.int 0),(.int 3),(.int 10)]) rfl)) (by with_unfolding_all rfl)) (pw_and1 (t_cmp (o_eq (hr8 hr)) (pe_op o_mod (cv 4) pe_int) pe_int (nomark _))))) (pss_cons (ps_set (i:=7) sc_law.nd rfl (by walk_at "o") (pe_ix i_seq (pe_lst (pa_cons (pe_lst (pa_cons pe_str pa_nil)) (pa_cons (pe_lst (pa_consts (vs:=[(.str "zz"),(.str "is"),(.str "not"),(.str "out")]) rfl)) pa_nil))) (pe_op o_mod (pe_op o_fdiv (cv 4) pe_int) pe_int) (fun _ _=>rfl)))
   (pss_one (ps_set (i:=6) sc_law.nd rfl (by walk_at "o") (pe_op o_addA (pe_op o_addA (pe_slice s_u (cv 6) po_none (e_part (pe_un u_neg pe_int))) (pe_lst (pa_cons (cv 7) pa_nil))) (pe_slice s_u (cv 6) (e_part (pe_un u_neg pe_int)) po_none))))) pss_nil)
   (pss_mid (ps_if (PW.pt (pw_and (t_chain o_lt o_lt pe_int (cv 3) pe_int) (pw_and1 (t_cmp o_lt (pe_op o_mod (cv 4) pe_int) pe_int (nomark _))))) (pss_one (ps_asg (pe_ix i_seq (pe_lst (pa_cons (pe_lst (pa_cons pe_str pa_nil)) (pa_cons (pe_lst (pa_consts (vs:=[(.str "outs"),(.str "zz")]) rfl)) (pa_cons (pe_lst (pa_cons pe_str pa_nil)) pa_nil)))) (pe_op o_mod (pe_op o_fdiv (cv 4) pe_int) pe_int) (fun _ _=>rfl)) (pg_sub (cv 6) (pe_un u_neg pe_int) set_list))) pss_nil)
   (pss_cons (ps_setC (i:=8) (N:=["_law_some"]) (k:=1) (sel:=[]) (CScope.of (defScope s_law).names (by decide +kernel)) (CNames.of N_law (by decide +kernel)) rfl (pi_list (cv 6)) (fun _ _ _ _=>(pg_name (i:=0) (show List.Nodup (["_law_some"]:List Str) by decide +kernel) rfl (by walk_at "o"))) (fun _ _ _ _=>pts_nil) (fun _ _ _ _=>(pe_bm PySem.F.plainAttrs_str PySem.F.slot_str_join PySem.F.type_str_join mt_join pe_str (pa_cons (cv 0) pa_nil))) sc_law.nd rfl (by walk_at "o") rfl)
   (pss_mid (ps_if (PW.pt (pw_and (t_cmp (o_eq (hr8 hr)) (cv 3) pe_int (nomark _)) (pw_and1 (t_cmp o_gt (pe_op o_mod (cv 4) pe_int) pe_int (nomark _))))) (pss_one (ps_asg (pe_ix i_seq (pe_lst (pa_consts (vs:=[(.str "  "),(.str "zz is not a."),(.str "Zz is yes"),(.str "in\ta")]) rfl)) (pe_op o_mod (pe_op o_fdiv (cv 4) pe_int) pe_int) (fun _ _=>rfl)) (pg_sub (cv 8) (pe_bm PySem.F.plainAttrs_list PySem.F.slot_list_index PySem.F.type_list_index mt_indexS (cv 8) (pa_cons pe_str pa_nil)) set_list))) pss_nil)
   (pss_cons (ps_set (i:=9) sc_law.nd rfl (by walk_at "o") (pe_callTy c_int (by rfl) T.no_int PyProof.Rows.boot_int (pa_cons (pe_cmpR o_gt (cv 3) pe_int (nomark _)) pa_nil)))
   (pss_cons (ps_if (t_cmp (o_ne (hr8 hr)) (pe_call (ok_law_kinds T) (hr.mono (by decide)) rfl T.mg_law_kinds T.fn_law_kinds.kp T.bi_law_kinds .nil pass0 (pa_cons (cv 8) pa_nil)) (pe_lst (pa_cons (pe_cmpR (o_eq (hr8 hr)) (cv 9) pe_int (nomark _)) (pa_cons (pe_cmpR (o_eq (hr8 hr)) (cv 9) pe_int (nomark _)) (pa_cons pe_bl (pa_cons pe_bl (pa_cons pe_bl pa_nil)))))) (nomark _)) (pss_one (ps_ret pe_bl)) pss_nil)
   (pss_cons (ps_setC (i:=10) (N:=["_law_some"]) (k:=1) (sel:=[]) (CScope.of (defScope s_law).names (by decide +kernel)) (CNames.of N_law (by decide +kernel)) rfl (pi_list (cv 5)) (fun _ _ _ _=>(pg_name (i:=0) (show List.Nodup (["_law_some"]:List Str) by decide +kernel) rfl (by walk_at "o"))) (fun _ _ _ _=>pts_nil) (fun _ _ _ _=>(pe_bm PySem.F.plainAttrs_str PySem.F.slot_str_join PySem.F.type_str_join mt_join pe_str (pa_cons (cv 0) pa_nil))) sc_law.nd rfl (by walk_at "o") rfl)
   (pss_cons (ps_set (i:=11) sc_law.nd rfl (by walk_at "o") (pe_call (ok_written T) (hr.mono (by decide)) rfl T.mg_written T.fn_written.kp T.bi_written .nil pass0 (pa_cons (pe_call (ok_net_of T) (hr.mono (by decide)) rfl T.mg_net_of T.fn_net_of.kp T.bi_net_of .nil passN (pa_cons (pe_callTy c_list (by rfl) T.no_list PyProof.Rows.boot_list (pa_cons (cv 10) pa_nil)) pa_nil)) pa_nil)))
   (pss_cons (ps_if (PW.pt (pw_or (pt_not (pt_tru (pe_callB c_isinst (by rfl) T.no_isinstance PyProof.Rows.boot_isinstance (pa_cons (cv 11) (pa_cons (pe_bltn (v:=.ty "list") rfl T.no_list PyProof.Rows.boot_list rfl) pa_nil))))) (pw_or1 (t_cmp (o_ne (hr8 hr)) (pe_callB c_len (by rfl) T.no_len PySem.boot_len (pa_cons (cv 11) pa_nil)) (pe_callB c_len (by rfl) T.no_len PySem.boot_len (pa_cons (cv 10) pa_nil)) (nomark _))))) (pss_one (ps_ret pe_bl)) pss_nil)
   (pss_cons (ps_for PassesOwn.never rfl (pi_range1 rfl T.no_range (pa_cons (pe_callB c_len (by rfl) T.no_len PySem.boot_len (pa_cons (cv 10) pa_nil)) pa_nil)) (pg_name (i:=12) sc_law.nd rfl (by walk_at "o")) (pss_one (ps_if (PW.pt (pw_or (pt_not (pt_tru (pe_callB c_isinst (by rfl) T.no_isinstance PyProof.Rows.boot_isinstance (pa_cons (pe_ix i_seq (cv 11) (cv 12) (fun _ _=>rfl)) (pa_cons (pe_bltn (v:=.ty "str") rfl T.no_str PyProof.Rows.boot_str rfl) pa_nil))))) (pw_or1 (t_cmp (o_ne (hr8 hr)) (pe_ix i_seq (cv 11) (cv 12) (fun _ _=>rfl)) (pe_ix i_seq (cv 10) (cv 12) (fun _ _=>rfl)) (nomark _))))) (pss_one (ps_ret pe_bl)) pss_nil)))
   (pss_one (ps_ret pe_bl))))))))))))))))))
theorem ok_law (T:Txt w K mg a):FnOk P w K mg base CX0 5 a.f_law a.d_law ["_law_script"] (sp_law K):=by
 refine T.fn_law.ok sc_law (fun vs H Q E h=>?_) (fun cdv A outer s H vs Q E hr h=>⟨_,tm_law T hr,?_⟩)
 ·obtain ⟨p,ns,rfl,_⟩:=h;rfl
 ·obtain ⟨p,ns,rfl,hS,hl,k⟩:=h
  show rd_law a K _ [some (.ref p),none,none,none,none,none,none,none,none,none,none,none,none] H
  unfold rd_law
  have hbig:=size_big
  walk_at "gs"
  refine ⟨p,ns,0,rfl,hS,by decide,fun c0=>?_⟩
  walk_at "gs"
  obtain ⟨many,hmany⟩:=Int.eq_ofNat_of_zero_le (by omega:0≤1+c0 % 10)
  rw [hmany]
  refine ⟨_,hS,fun rc H1 nc1=>?_⟩
  obtain ⟨cs,hcs,hcl⟩:=cut5 ns hl
  rw [hcs] at nc1
  walk_at "gs"
  refine ⟨p,ns,1,rfl,nc1.same.seq hS,by decide,fun c1=>?_⟩
  walk_at "gs"
  refine ⟨p,ns,2,rfl,nc1.same.seq hS,by decide,fun c2=>?_⟩
  walk_at "gs"
  refine ⟨many,rc,cs,c1,c2,rfl,by omega,by omega,nc1.sq,hcl,fun ins gs outs pn H2 W hil s12 hN=>?_⟩
  have s2:=nc1.same.trans s12
  have gl:=W.gl
  walk_at "gs"
  refine ⟨p,ns,3,rfl,s2.seq hS,by decide,fun c3=>?_⟩
  walk_at "gs"
  refine ⟨p,ns,3,rfl,s2.seq hS,by decide,fun c3'=>?_⟩
  walk_at "gs"
  refine ⟨pn,ins,gs,outs,rfl,hN,W,fun pr us H3 s3 fpr apr hR=>?_⟩
  have s03:=s2.trans s3
  have hrl:(rowsL ins gs outs).length=gs.length+2:=by unfold rowsL;simp
  walk_at "gs"
  refine ⟨p,ns,4,rfl,s03.seq hS,by decide,fun c4=>?_⟩
  walk_at "gs"
  refine ⟨pr,pn,_,_,_,us,ins,gs,outs,rfl,apr,hR,hN.same s3,W,by omega,by omega,fun r us1 rows1 H4 s4 fr ar hR1 sp1=>?_⟩
  walk_at "gs"
  have w0:0≤c3 % 11:=by omega
  have w10:c3 % 11≤10:=by omega
  generalize c3 % 11=way at *
  generalize c3' / 11=cell at *
  have s34:=s4
  refine mid (fun σ' H'=>∃ r us rows v7,Same H3 H'∧H3 r=none∧H' r=some (.lst us)∧RowsAt H' us rows∧SpV a way rows∧rows.length≤71∧σ'=[some (.ref p),some (.int many),some (.ref pn),some (.int way),some (.int cell),some (.ref pr),some (.ref r),v7,none,none,none,none,none]) ?_ ?_
  ·intro N hN
   have nx:∀ H',Same H4 H'→N [some (.ref p),some (.int many),some (.ref pn),some (.int way),some (.int cell),some (.ref pr),some (.ref r),none,none,none,none,none,none] H':=fun H' s=>hN _ _ ⟨r,us1,rows1,none,s4.trans s,fr,s _ _ ar,hR1.same s,sp1.v,by have:=sp1.ln;omega,rfl⟩
   walk_at "gs"
   intro pt Ht nt
   refine ⟨_,.inr nt.sqT,rfl,rfl,?_⟩
   by_cases c:way=0∨way=3∨way=10
   ·rw [if_neg (by rcases c with rfl | rfl | rfl <;> decide)]
    exact nx _ nt.same
   rw [if_pos (by
    unfold inV
    simp only [List.any_cons,List.any_nil,eqV,Bool.or_false,Bool.or_eq_false_iff]
    refine ⟨?_,?_,?_⟩ <;> (simp;omega))]
   refine ⟨by decide,?_⟩
   by_cases c2:cell % 2=1
   ·rw [if_pos c2]
    refine ⟨by show 1≤sizeLine;decide,fun p2 H5 n5=>⟨by show 4≤sizeLine;decide,fun p3 H6 n6=>⟨by show 2≤sizeLine;decide,fun p4 H7 n7=>⟨by walk_at "sd",by decide,?_⟩⟩⟩⟩
    have hm:∃ pm more,atI [V.ref p2,V.ref p3] (cell / 2 % 2)=some (.ref pm)∧H7 pm=some (.lst (more.map V.str))∧LR more:=by
     obtain ⟨j,hj,ej⟩:=emod_nat (cell / 2) 2 (by decide)
     rw [show ((2:Nat):Int)=2 from rfl] at ej
     rw [ej]
     have lis:ltrs "is":=ltrs_of (by decide +kernel)
     match j,hj with
     | 0,_=>exact ⟨p2,["is"],rfl,n7.same _ _ (n6.same _ _ n5.at_),lrc lis lrn,by simp⟩
     | 1,_=>exact ⟨p3,["zz","is","not","out"],rfl,n7.same _ _ n6.at_,lrc (ltrs_of (by decide +kernel)) (lrc lis (lrc (ltrs_of (by decide +kernel)) (lrc (ltrs_of (by decide +kernel)) lrn))),by simp⟩
    obtain ⟨pm,more,hat,hpm,lrm⟩:=hm
    have k47:Same H4 H7:=nt.same.trans (n5.same.trans (n6.same.trans n7.same))
    have hl1:1≤rows1.length:=by
     obtain ⟨q,post,e,hp,_⟩:=sp1.wp (by omega) (by omega) (by omega)
     rw [e,List.length_append]
     have:0<post.length:=List.length_pos_iff.mpr hp
     omega
    have ln1:=sp1.ln
    have hu1:=hR1.1
    refine ⟨_,_,.inl n7.sq,hat,_,.of (k47 _ _ ar),fun p5 H8 n8=>⟨by show 1≤sizeLine;decide,fun p6 H9 n9=>?_⟩⟩
    rw [cutToL (by omega),hu1] at n8
    refine ⟨_,_,.of (n9.same _ _ n8.at_),n9.sq,by rw [List.length_take];simp only [List.length_cons,List.length_nil];omega,fun p7 H10 n10=>?_⟩
    have k410:Same H4 H10:=k47.trans (n8.same.trans (n9.same.trans n10.same))
    refine ⟨_,.of (k410 _ _ ar),fun p8 H11 n11=>?_⟩
    rw [cutFromL (by omega),hu1] at n11
    refine ⟨_,_,.of (n11.same _ _ n10.at_),n11.sq,by rw [List.length_append,List.length_take,List.length_drop];simp only [List.length_cons,List.length_nil];omega,fun p9 H12 n12=>?_⟩
    have k412:=k410.trans (n11.same.trans n12.same)
    have k712:Same H7 H12:=n8.same.trans (n9.same.trans (n10.same.trans (n11.same.trans n12.same)))
    have hRR:=(((hR1.same k412).take (rows1.length - 1)).app (RowsAt.one (k712 _ _ hpm))).app ((hR1.same k412).drop (rows1.length - 1))
    rw [List.append_assoc (rows1.take (rows1.length - 1))] at hRR
    refine hN _ _ ⟨p9,_,_,_,s4.trans k412,(s4.trans (k410.trans n11.same)).free n12.was,n12.at_,hRR,sp1.v.put (by omega) (by omega) (by omega) (by simp) (fun x hx=>?_),?_,rfl⟩
    ·rcases List.mem_append.mp hx with e | e
     ·rw [List.mem_singleton.mp e];exact lrm
     ·exact sp1.lr x (List.mem_of_mem_drop e)
    ·rw [List.length_append,List.length_append,List.length_take,List.length_drop];simp only [List.length_cons,List.length_nil];omega
   ·rw [if_neg c2]
    exact nx _ nt.same
  rintro σ5 H5 ⟨r5,us5,rows5,v7,s5,fr5,ar5,hR5,sp5,ln5,rfl⟩
  walk_at "gs"
  refine mid (fun σ' H'=>∃ rows us,Same H3 H'∧H' r5=some (.lst us)∧RowsAt H' us rows∧SpV a way rows∧rows.length≤71∧σ'=[some (.ref p),some (.int many),some (.ref pn),some (.int way),some (.int cell),some (.ref pr),some (.ref r5),v7,none,none,none,none,none]) ?_ ?_
  ·intro N hN
   have nx:N [some (.ref p),some (.int many),some (.ref pn),some (.int way),some (.int cell),some (.ref pr),some (.ref r5),v7,none,none,none,none,none] H5:=hN _ _ ⟨rows5,us5,s5,ar5,hR5,sp5,ln5,rfl⟩
   walk_at "gs"
   by_cases c1:3<way
   ·rw [if_pos c1]
    by_cases c2:way<10
    ·rw [if_pos c2]
     refine ⟨by decide,?_⟩
     by_cases c6:cell % 6<2
     ·rw [if_pos c6]
      refine ⟨by show 1≤sizeLine;decide,fun p1 H6 n6=>⟨by show 2≤sizeLine;decide,fun p2 H7 n7=>⟨by show 1≤sizeLine;decide,fun p3 H8 n8=>⟨by show 3≤sizeLine;decide,fun p4 H9 n9=>⟨by walk_at "sd",by decide,?_⟩⟩⟩⟩⟩
      have hm:∃ pm more,atI [V.ref p1,V.ref p2,V.ref p3] (cell / 6 % 3)=some (.ref pm)∧H9 pm=some (.lst (more.map V.str))∧LR more∧pm≠r5:=by
       obtain ⟨j,hj,ej⟩:=emod_nat (cell / 6) 3 (by decide)
       rw [show ((3:Nat):Int)=3 from rfl] at ej
       rw [ej]
       match j,hj with
       | 0,_=>exact ⟨p1,["out"],rfl,n9.same _ _ (n8.same _ _ (n7.same _ _ n6.at_)),⟨lrc (ltrs_of (by decide +kernel)) lrn,by simp⟩,Ne.symm (ne_of_none ar5 n6.was)⟩
       | 1,_=>exact ⟨p2,["outs","zz"],rfl,n9.same _ _ (n8.same _ _ n7.at_),⟨lrc (ltrs_of (by decide +kernel)) (lrc (ltrs_of (by decide +kernel)) lrn),by simp⟩,Ne.symm (ne_of_none (n6.same _ _ ar5) n7.was)⟩
       | 2,_=>exact ⟨p3,["zz"],rfl,n9.same _ _ n8.at_,⟨lrc (ltrs_of (by decide +kernel)) lrn,by simp⟩,Ne.symm (ne_of_none (n7.same _ _ (n6.same _ _ ar5)) n8.was)⟩
      obtain ⟨pm,more,hat,hpm,lrm,npm⟩:=hm
      have k59:Same H5 H9:=n6.same.trans (n7.same.trans (n8.same.trans n9.same))
      have hl5:1≤rows5.length:=by
       obtain ⟨q,post,e,hp,_⟩:=sp5.wp (by omega) (by omega) (by omega)
       rw [e,List.length_append]
       have:0<post.length:=List.length_pos_iff.mpr hp
       omega
      have hu5:=hR5.1
      have hix:ixN us5.length (-1)=some (us5.length - 1):=by
       unfold ixN
       rw [if_neg (by omega),if_pos (by omega)]
       congr 1
       omega
      refine ⟨_,_,.inl n9.sq,hat,?_⟩
      refine ⟨r5,us5,-1,us5.length - 1,rfl,rfl,k59 _ _ ar5,hix,?_⟩
      rw [set_last _ (by omega),hu5]
      have hR9:=hR5.same k59
      have hR10:RowsAt (upd H9 r5 (.lst (us5.take (rows5.length - 1) ++ [.ref pm]))) (us5.take (rows5.length - 1) ++ [.ref pm]) (rows5.take (rows5.length - 1) ++ [more]):=by
       refine RowsAt.app ⟨(hR9.take _).1,fun i x e=>?_⟩ (RowsAt.one (by rw [upd_ne npm];exact hpm))
       obtain ⟨t,u1,u2⟩:=(hR9.take (rows5.length - 1)).2 i x e
       refine ⟨t,u1,?_⟩
       have hi:i<rows5.length - 1:=by have:=(List.getElem?_eq_some_iff.mp e).1;rw [List.length_take] at this;omega
       rw [List.getElem?_take,if_pos hi] at e u1
       rw [upd_ne (hR9.ne (k59 _ _ ar5) e u1 u2)]
       exact u2
      refine hN _ _ ⟨_,_,(s5.trans k59).put fr5,upd_same,hR10,sp5.put (by omega) (by omega) (by omega) (by simp) (fun x hx=>by rw [List.mem_singleton.mp hx];exact lrm),by rw [List.length_append,List.length_take];simp only [List.length_cons,List.length_nil];omega,rfl⟩
     ·rw [if_neg c6];exact nx
    ·rw [if_neg c2];exact nx
   ·rw [if_neg c1];exact nx
  clear hR5 sp5 ln5 ar5
  rintro σ6 H6 ⟨rows6,us6,s6,ar6,hR6,sp6,ln6,rfl⟩
  walk_at "gs"
  have hu6:=hR6.1
  refine ⟨⟨_,.of ar6⟩,fun pl hpl=>comp_inv (n:=us6.length) (item:=fun i=>us6.getD i .non) (fun i H7=>H7=upd H6 pl (.lst (((rows6.take i).map jn).map V.str))) rfl (by simp) (src_list ?_) ?_ ?_ ?_⟩
  ·rintro i H7 hi rfl
   exact (same_upd hpl).seq (.of ar6)
  ·rintro H7 rfl
   exact ⟨_,(same_upd hpl).seq (.of ar6),Nat.le_refl _⟩
  ·rintro i H7 R hi rfl hR'
   have hri:rows6[i]? = some (rows6[i]'(by omega)):=List.getElem?_eq_getElem _
   obtain ⟨t,u1,u2⟩:=hR6.2 i _ hri
   have hlr:=sp6.lr _ (List.mem_of_getElem? hri)
   have htk:rows6.take (i+1)=rows6.take i ++ [rows6[i]'(by omega)]:=by rw [List.take_add_one,hri];rfl
   generalize rows6[i]'(by omega)=row at u2 hlr htk
   have et:us6.getD i .non=.ref t:=by simp [List.getD,u1]
   rw [et]
   unfold tTrue
   walk_at "gs"
   refine ⟨row,.of ((same_upd hpl) _ _ u2),wsum hlr,by decide +kernel,_,upd_same,by rw [List.length_map,List.length_map,List.length_take];omega,hR' _ ?_⟩
   rw [upd_upd,htk,List.map_append,List.map_append]
   rfl
  rintro H7 rfl
  rw [hu6,List.take_length]
  have s7:Same H3 (upd H6 pl (.lst ((rows6.map jn).map V.str))):=s6.trans (same_upd hpl)
  have apl:upd H6 pl (.lst ((rows6.map jn).map V.str)) pl=some (.lst ((rows6.map jn).map V.str)):=upd_same
  have f3:H3 pl=none:=s6.free hpl
  generalize upd H6 pl (.lst ((rows6.map jn).map V.str))=H7 at s7 apl
  have hw6:(rows6.map jn).map wrds=rows6:=by
   rw [List.map_map]
   conv=>rhs;rw [← List.map_id rows6]
   exact List.map_congr_left fun r hr=>wrds_jn (sp6.lr r hr).1
  have hl6:∀ l∈rows6.map jn,LnOk l:=fun l hl=>by
   obtain ⟨r,hr,rfl⟩:=List.mem_map.mp hl
   exact lnOk_jn (sp6.lr r hr)
  refine mid (fun σ' H'=>∃ lines:List Str,Same H3 H'∧H' pl=some (.lst (lines.map V.str))∧lines.map wrds=rows6∧(∀ l∈lines,LnOk l)∧σ'=[some (.ref p),some (.int many),some (.ref pn),some (.int way),some (.int cell),some (.ref pr),some (.ref r5),v7,some (.ref pl),none,none,none,none]) ?_ ?_
  ·intro N hN
   have nx:N [some (.ref p),some (.int many),some (.ref pn),some (.int way),some (.int cell),some (.ref pr),some (.ref r5),v7,some (.ref pl),none,none,none,none] H7:=hN _ _ ⟨_,s7,apl,hw6,hl6,rfl⟩
   walk_at "gs"
   by_cases c1:way=1
   ·rw [if_pos c1]
    refine ⟨by decide,?_⟩
    by_cases c2:0<cell % 3
    ·rw [if_pos c2]
     refine ⟨by show 4≤sizeLine;decide,fun p1 H8 n8=>?_⟩
     walk_at "gs"
     have htx:∃ tx,atI [V.str "  ",V.str "zz is not a.",V.str "Zz is yes",V.str "in\ta"] (cell / 3 % 4)=some (.str tx)∧wrds tx=[]∧tx.length≤100:=by
      obtain ⟨j,hj,ej⟩:=emod_nat (cell / 3) 4 (by decide)
      rw [show ((4:Nat):Int)=4 from rfl] at ej
      rw [ej]
      match j,hj with
      | 0,_=>exact ⟨_,rfl,by decide +kernel,by decide +kernel⟩
      | 1,_=>exact ⟨_,rfl,by decide +kernel,by decide +kernel⟩
      | 2,_=>exact ⟨_,rfl,by decide +kernel,by decide +kernel⟩
      | 3,_=>exact ⟨_,rfl,by decide +kernel,by decide +kernel⟩
     obtain ⟨tx,hat,htw,htl⟩:=htx
     refine ⟨_,_,.inl n8.sq,hat,?_⟩
     walk_at "gs"
     obtain ⟨pre,post,e6,hpo,hpre⟩:=sp6.w1 c1
     have apl8:=n8.same _ _ apl
     have hpl6:pre.length<rows6.length:=by rw [e6,List.length_append,List.length_cons];omega
     refine ⟨.inl ⟨trivial,_,.of apl8⟩,rows6.map jn,pre.length,apl8,?_,?_,?_⟩
     ·rw [List.getElem?_map,e6,List.getElem?_append_right (Nat.le_refl _),Nat.sub_self]
      exact congrArg some (by decide +kernel)
     ·intro i hi
      rw [List.getElem?_map,e6,List.getElem?_append_left hi]
      cases hp:pre[i]? with
      | none=>simp
      | some r =>
       intro e
       have ej:jn r = "":=Option.some.inj e
       have hr:=List.mem_of_getElem? hp
       have:=wrds_jn (sp6.lr r (by rw [e6];exact List.mem_append_left _ hr)).1
       rw [ej] at this
       exact hpre r hr (this.symm.trans (by decide +kernel))
     ·refine ⟨pl,_,_,pre.length,rfl,rfl,apl8,?_,hN _ _ ⟨(rows6.map jn).set pre.length tx,(s7.trans n8.same).put f3,by rw [upd_same,List.map_set],?_,fun x hx=>?_,rfl⟩⟩
      ·unfold ixN
       rw [if_pos (by omega),if_pos (by rw [List.length_map,List.length_map];omega),Int.toNat_natCast]
      ·rw [List.map_set,hw6,htw,e6,List.set_append_right _ _ (Nat.le_refl _),Nat.sub_self]
       rfl
      ·rcases List.mem_or_eq_of_mem_set hx with h | h
       ·exact hl6 x h
       ·rw [h];exact ⟨by omega,by rw [htw];simp,fun y hy=>by rw [htw] at hy;simp at hy⟩
    ·rw [if_neg c2];exact nx
   ·rw [if_neg c1];exact nx
  rintro σ8 H8 ⟨lines,s8,apl8,hw8,hl8,rfl⟩
  walk_at "gs"
  have hll:lines.length=rows6.length:=by rw [← hw8,List.length_map]
  refine ⟨pl,lines,decide (6<way),rfl,.of apl8,by omega,hl8,by rw [hw8];exact sp6.badR,fun kp H9 s9 fk ak=>⟨by show 5≤sizeLine;decide,fun p9 H10 n10=>?_⟩⟩
  have ebl:[V.bl (decide ((if 6<way then (1:Int) else 0)=0)),V.bl (decide ((if 6<way then (1:Int) else 0)=1)),V.bl true,V.bl false,V.bl false]=[V.bl (!decide (6<way)),V.bl (decide (6<way)),V.bl true,V.bl false,V.bl false]:=by
   by_cases c:6<way <;> simp [c]
  rw [ebl] at n10
  have hbl:∀ x∈[V.bl (!decide (6<way)),V.bl (decide (6<way)),V.bl true,V.bl false,V.bl false],flatV x=true:=by
   intro x hx
   simp only [List.mem_cons,List.not_mem_nil,or_false] at hx
   rcases hx with rfl | rfl | rfl | rfl | rfl <;> rfl
  walk_at "gs"
  refine ⟨true,.inl ⟨rfl,DeepEq.lst (n:=3) (.of (n10.same _ _ ak)) n10.sq rfl fun i x y hx hy=>?_⟩,?_⟩
  ·rw [hx] at hy
   cases hy
   exact .flat (hbl x (List.mem_of_getElem? hx))
  walk_at "gs"
  have s310:Same H3 H10:=s8.trans (s9.trans n10.same)
  have apr10:=s310 _ _ apr
  have hR10:=hR.same s310
  have hul:us.length=gs.length+2:=by rw [hR.1,hrl]
  refine ⟨⟨_,.of apr10⟩,fun pg hpg=>comp_inv (n:=us.length) (item:=fun i=>us.getD i .non) (fun i H7=>H7=upd H10 pg (.lst ((((rowsL ins gs outs).take i).map jn).map V.str))) rfl (by simp) (src_list ?_) ?_ ?_ ?_⟩
  ·rintro i H7 hi rfl
   exact (same_upd hpg).seq (.of apr10)
  ·rintro H7 rfl
   exact ⟨_,(same_upd hpg).seq (.of apr10),Nat.le_refl _⟩
  ·rintro i H7 R hi rfl hR'
   have hri:(rowsL ins gs outs)[i]? = some ((rowsL ins gs outs)[i]'(by omega)):=List.getElem?_eq_getElem _
   obtain ⟨t,u1,u2⟩:=hR10.2 i _ hri
   have hlr:=(row_ltrs W _ (List.mem_of_getElem? hri)).1
   have htk:(rowsL ins gs outs).take (i+1)=(rowsL ins gs outs).take i ++ [(rowsL ins gs outs)[i]'(by omega)]:=by rw [List.take_add_one,hri];rfl
   generalize (rowsL ins gs outs)[i]'(by omega)=row at u2 hlr htk
   have et:us.getD i .non=.ref t:=by simp [List.getD,u1]
   rw [et]
   unfold tTrue
   walk_at "gs"
   refine ⟨row,.of ((same_upd hpg) _ _ u2),wsum hlr,by decide +kernel,_,upd_same,by rw [List.length_map,List.length_map,List.length_take];omega,hR' _ ?_⟩
   rw [upd_upd,htk,List.map_append,List.map_append]
   rfl
  rintro H7 rfl
  have hnl:(netL ins gs outs).length=gs.length+2:=by unfold netL;simp
  have hrow:(rowsL ins gs outs).map jn=netL ins gs outs:=by
   unfold netL rowsL
   rw [List.map_cons,List.map_append,List.map_map]
   rfl
  rw [hul,← hrl,List.take_length,hrow]
  have apg:upd H10 pg (.lst ((netL ins gs outs).map V.str)) pg=some (.lst ((netL ins gs outs).map V.str)):=upd_same
  generalize upd H10 pg (.lst ((netL ins gs outs).map V.str))=H11 at apg
  have hwg:(netL ins gs outs).map wrds=rowsL ins gs outs:=by
   rw [← hrow,List.map_map]
   conv=>rhs;rw [← List.map_id (rowsL ins gs outs)]
   exact List.map_congr_left fun r hr=>wrds_jn (row_ltrs W r hr).1.1
  walk_at "gs"
  refine ⟨_,.inl (.of apg),fun ph H12 n12=>?_⟩
  refine ⟨ph,netL ins gs outs,rfl,n12.sq,by omega,fun l hl'=>?_,.inl ⟨ins,gs,outs,W,hwg,fun x H13 s13 hO=>?_⟩⟩
  ·rw [← hrow] at hl'
   obtain ⟨r,hr,rfl⟩:=List.mem_map.mp hl'
   exact lnOk_jn (row_ltrs W r hr).1
  refine ⟨x,ins,gs,outs,rfl,hO,W.small,fun pf H14 m14=>?_⟩
  have apg14:=m14.same _ _ (s13 _ _ (n12.same _ _ apg))
  walk_at "gs"
  refine ⟨_,true,.lst m14.at_,rfl,?_⟩
  walk_at "gs"
  refine .inl ⟨_,.inl m14.sq,.inl ⟨_,.inl (.of apg14),?_⟩⟩
  walk_at "gs"
  refine .inl ⟨_,.inl (.of apg14),?_⟩
  rw [List.length_map]
  walk_at "gs"
  rw [Int.toNat_natCast]
  refine for_rngG (fun i σ H15=>H15=H14∧∃ v,σ=[some (.ref p),some (.int many),some (.ref pn),some (.int way),some (.int cell),some (.ref pr),some (.ref r5),v7,some (.ref pl),some (.int (if 6<way then 1 else 0)),some (.ref pg),some (.ref pf),v]) ⟨rfl,_,rfl⟩ ?_ ?_
  ·rintro i σ H15 hi ⟨rfl,v,rfl⟩
   walk_at "gs"
   rw [Int.zero_add]
   refine ⟨_,_,.inl m14.sq,eqS _ i hi,?_⟩
   walk_at "gs"
   refine ⟨_,true,.str _,rfl,?_⟩
   walk_at "gs"
   refine ⟨_,_,.inl m14.sq,eqS _ i hi,_,_,.inl (.of apg14),eqS _ i hi,?_⟩
   walk_at "gs"
   exact ⟨_,rfl⟩
  ·rintro σ H15 ⟨rfl,v,rfl⟩
   walk_at "gs"
   exact k _
open GM
theorem lenN1 {us:List Value} (h:us.length=1):∃ a,us=[a]:=List.length_eq_one_iff.mp h
theorem lenN2 {us:List Value} (h:us.length=2):∃ a b,us=[a,b]:=by
 obtain _ | ⟨a,t⟩:=us
 ·cases h
 ·obtain ⟨b,rfl⟩:=lenN1 (Nat.succ.inj h)
  exact ⟨a,b,rfl⟩
theorem lenN3 {us:List Value} (h:us.length=3):∃ a b c,us=[a,b,c]:=by
 obtain _ | ⟨a,t⟩:=us
 ·cases h
 ·obtain ⟨b,c,rfl⟩:=lenN2 (Nat.succ.inj h)
  exact ⟨a,b,c,rfl⟩
theorem lenN4 {us:List Value} (h:us.length=4):∃ a b c d,us=[a,b,c,d]:=by
 obtain _ | ⟨a,t⟩:=us
 ·cases h
 ·obtain ⟨b,c,d,rfl⟩:=lenN3 (Nat.succ.inj h)
  exact ⟨a,b,c,d,rfl⟩
theorem lenN5 {us:List Value} (h:us.length=5):∃ a b c d e,us=[a,b,c,d,e]:=by
 obtain _ | ⟨a,t⟩:=us
 ·cases h
 ·obtain ⟨b,c,d,e,rfl⟩:=lenN4 (Nat.succ.inj h)
  exact ⟨a,b,c,d,e,rfl⟩
theorem all_mk {l:PySem.W.OpenLaw}{w:World}{K:PySem.W.Frag}{h:Heap}{mg:Str→Option Value}{fa:Addr} (X:K.In h) (G:h.Ns mainGlobals mg) (hfa:mg "law" = some (.ref fa))
  {f0:Addr}{od0 an0:Option Addr}{sl0:Array (Option Value)}{oc0 kV0 dc0 pm0 cd0 ct0:Value}{f1:Addr}{od1 an1:Option Addr}{sl1:Array (Option Value)}{oc1 kV1 dc1 pm1 cd1 ct1:Value}{f2:Addr}{od2 an2:Option Addr}{sl2:Array (Option Value)}{oc2 kV2 dc2 pm2 cd2 ct2:Value}{f3:Addr}{od3 an3:Option Addr}{sl3:Array (Option Value)}{oc3 kV3 dc3 pm3 cd3 ct3:Value}{f4:Addr}{od4 an4:Option Addr}{sl4:Array (Option Value)}{oc4 kV4 dc4 pm4 cd4 ct4:Value}{f5:Addr}{od5 an5:Option Addr}{sl5:Array (Option Value)}{oc5 kV5 dc5 pm5 cd5 ct5:Value}{f6:Addr}{od6 an6:Option Addr}{sl6:Array (Option Value)}{oc6 kV6 dc6 pm6 cd6 ct6:Value}{f7:Addr}{od7 an7:Option Addr}{sl7:Array (Option Value)}{oc7 kV7 dc7 pm7 cd7 ct7:Value}{f8:Addr}{od8 an8:Option Addr}{sl8:Array (Option Value)}{oc8 kV8 dc8 pm8 cd8 ct8:Value}{f9:Addr}{od9 an9:Option Addr}{sl9:Array (Option Value)}{oc9 kV9 dc9 pm9 cd9 ct9:Value}{f10:Addr}{od10 an10:Option Addr}{sl10:Array (Option Value)}{oc10 kV10 dc10 pm10 cd10 ct10:Value}{f11:Addr}{od11 an11:Option Addr}{sl11:Array (Option Value)}{oc11 kV11 dc11 pm11 cd11 ct11:Value}{f12:Addr}{od12 an12:Option Addr}{sl12:Array (Option Value)}{oc12 kV12 dc12 pm12 cd12 ct12:Value}{f13:Addr}{od13 an13:Option Addr}{sl13:Array (Option Value)}{oc13 kV13 dc13 pm13 cd13 ct13:Value}{f14:Addr}{od14 an14:Option Addr}{sl14:Array (Option Value)}{oc14 kV14 dc14 pm14 cd14 ct14:Value}{f15:Addr}{od15 an15:Option Addr}{sl15:Array (Option Value)}{oc15 kV15 dc15 pm15 cd15 ct15:Value}{f16:Addr}{od16 an16:Option Addr}{sl16:Array (Option Value)}{oc16 kV16 dc16 pm16 cd16 ct16:Value}{f17:Addr}{od17 an17:Option Addr}{sl17:Array (Option Value)}{oc17 kV17 dc17 pm17 cd17 ct17:Value}{f18:Addr}{od18 an18:Option Addr}{sl18:Array (Option Value)}{oc18 kV18 dc18 pm18 cd18 ct18:Value}{f19:Addr}{od19 an19:Option Addr}{sl19:Array (Option Value)}{oc19 kV19 dc19 pm19 cd19 ct19:Value}{f20:Addr}{od20 an20:Option Addr}{sl20:Array (Option Value)}{oc20 kV20 dc20 pm20 cd20 ct20:Value}{f21:Addr}{od21 an21:Option Addr}{sl21:Array (Option Value)}{oc21 kV21 dc21 pm21 cd21 ct21:Value}{f22:Addr}{od22 an22:Option Addr}{sl22:Array (Option Value)}{oc22 kV22 dc22 pm22 cd22 ct22:Value}{f23:Addr}{od23 an23:Option Addr}{sl23:Array (Option Value)}{oc23 kV23 dc23 pm23 cd23 ct23:Value}{C_Net:Addr}{C_FoldError:Addr}{C_NoBoard:Addr}{C_NoCut:Addr}{C_NoGoal:Addr}{C_NoKnot:Addr}{C_NoLine:Addr}{C_NoMatch:Addr}{C_NoName:Addr}{C_NoSize:Addr}{C_NoText:Addr}{C_NoTie:Addr}{G_KEPT_WORDS:Addr}{og_KEPT_WORDS:Obj}{ig_KEPT_WORDS:Array Value}{ng_KEPT_WORDS:Nat}{ug_LETTERS:Tok}{ug_LONGEST_NAME:Tok}{ug_MOST_INPUTS:Tok}{ug_MOST_OUTPUTS:Tok}{G_PART_COUNTS:Addr}{og_PART_COUNTS:Obj}{ig_PART_COUNTS:Array DictEntry}{ng_PART_COUNTS:Nat}{P0_PART_COUNTS:Addr}{op0_PART_COUNTS:Obj}{ip0_PART_COUNTS:Array Value}{np0_PART_COUNTS:Nat}{P1_PART_COUNTS:Addr}{op1_PART_COUNTS:Obj}{ip1_PART_COUNTS:Array Value}{np1_PART_COUNTS:Nat}{P2_PART_COUNTS:Addr}{op2_PART_COUNTS:Obj}{ip2_PART_COUNTS:Array Value}{np2_PART_COUNTS:Nat}{P3_PART_COUNTS:Addr}{op3_PART_COUNTS:Obj}{ip3_PART_COUNTS:Array Value}{np3_PART_COUNTS:Nat}{P4_PART_COUNTS:Addr}{op4_PART_COUNTS:Obj}{ip4_PART_COUNTS:Array Value}{np4_PART_COUNTS:Nat}{P5_PART_COUNTS:Addr}{op5_PART_COUNTS:Obj}{ip5_PART_COUNTS:Array Value}{np5_PART_COUNTS:Nat}{P6_PART_COUNTS:Addr}{op6_PART_COUNTS:Obj}{ip6_PART_COUNTS:Array Value}{np6_PART_COUNTS:Nat}{P7_PART_COUNTS:Addr}{op7_PART_COUNTS:Obj}{ip7_PART_COUNTS:Array Value}{np7_PART_COUNTS:Nat}
  (aC_Net:PySem.W.nsIn K mainGlobals "Net" = some (some (.ref C_Net)))
  (aC_FoldError:PySem.W.nsIn K mainGlobals "FoldError" = some (some (.ref C_FoldError)))
  (aC_NoBoard:PySem.W.nsIn K mainGlobals "NoBoard" = some (some (.ref C_NoBoard)))
  (aC_NoCut:PySem.W.nsIn K mainGlobals "NoCut" = some (some (.ref C_NoCut)))
  (aC_NoGoal:PySem.W.nsIn K mainGlobals "NoGoal" = some (some (.ref C_NoGoal)))
  (aC_NoKnot:PySem.W.nsIn K mainGlobals "NoKnot" = some (some (.ref C_NoKnot)))
  (aC_NoLine:PySem.W.nsIn K mainGlobals "NoLine" = some (some (.ref C_NoLine)))
  (aC_NoMatch:PySem.W.nsIn K mainGlobals "NoMatch" = some (some (.ref C_NoMatch)))
  (aC_NoName:PySem.W.nsIn K mainGlobals "NoName" = some (some (.ref C_NoName)))
  (aC_NoSize:PySem.W.nsIn K mainGlobals "NoSize" = some (some (.ref C_NoSize)))
  (aC_NoText:PySem.W.nsIn K mainGlobals "NoText" = some (some (.ref C_NoText)))
  (aC_NoTie:PySem.W.nsIn K mainGlobals "NoTie" = some (some (.ref C_NoTie)))
  (a0:PySem.W.nsIn K mainGlobals "is_name" = some (some (.ref f0)))
  (l0:K.lookup f0=some ⟨oc0,od0,.func (PySem.W.fnOf "is_name" "is_name" (defArgs s_is_name) (defBody s_is_name) (defScope s_is_name) .none kV0 dc0 pm0 an0 cd0 ct0),sl0⟩)
  (c0:PySem.W.codeIn K cd0 "is_name" = true)
  (k0:PySem.W.keepIn K (.ref f0)=true)
  (a1:PySem.W.nsIn K mainGlobals "has_parts" = some (some (.ref f1)))
  (l1:K.lookup f1=some ⟨oc1,od1,.func (PySem.W.fnOf "has_parts" "has_parts" (defArgs s_has_parts) (defBody s_has_parts) (defScope s_has_parts) .none kV1 dc1 pm1 an1 cd1 ct1),sl1⟩)
  (c1:PySem.W.codeIn K cd1 "has_parts" = true)
  (k1:PySem.W.keepIn K (.ref f1)=true)
  (a2:PySem.W.findIn K (.ref C_Net) "__init__" = some (some (.ref f2)))
  (i2:PySem.W.isFn K (.ref f2)=true)
  (l2:K.lookup f2=some ⟨oc2,od2,.func (PySem.W.fnOf "__init__" "Net.__init__" (defArgs s_Net___init__) (defBody s_Net___init__) (defScope s_Net___init__) .none kV2 dc2 pm2 an2 cd2 ct2),sl2⟩)
  (c2:PySem.W.codeIn K cd2 "Net.__init__" = true)
  (k2:PySem.W.keepIn K (.ref f2)=true)
  (a3:PySem.W.nsIn K mainGlobals "words" = some (some (.ref f3)))
  (l3:K.lookup f3=some ⟨oc3,od3,.func (PySem.W.fnOf "words" "words" (defArgs s_words) (defBody s_words) (defScope s_words) .none kV3 dc3 pm3 an3 cd3 ct3),sl3⟩)
  (c3:PySem.W.codeIn K cd3 "words" = true)
  (k3:PySem.W.keepIn K (.ref f3)=true)
  (a4:PySem.W.nsIn K mainGlobals "written" = some (some (.ref f4)))
  (l4:K.lookup f4=some ⟨oc4,od4,.func (PySem.W.fnOf "written" "written" (defArgs s_written) (defBody s_written) (defScope s_written) .none kV4 dc4 pm4 an4 cd4 ct4),sl4⟩)
  (c4:PySem.W.codeIn K cd4 "written" = true)
  (k4:PySem.W.keepIn K (.ref f4)=true)
  (a5:PySem.W.nsIn K mainGlobals "names_behind" = some (some (.ref f5)))
  (l5:K.lookup f5=some ⟨oc5,od5,.func (PySem.W.fnOf "names_behind" "names_behind" (defArgs s_names_behind) (defBody s_names_behind) (defScope s_names_behind) .none kV5 dc5 pm5 an5 cd5 ct5),sl5⟩)
  (c5:PySem.W.codeIn K cd5 "names_behind" = true)
  (k5:PySem.W.keepIn K (.ref f5)=true)
  (a6:PySem.W.nsIn K mainGlobals "inputs_of" = some (some (.ref f6)))
  (l6:K.lookup f6=some ⟨oc6,od6,.func (PySem.W.fnOf "inputs_of" "inputs_of" (defArgs s_inputs_of) (defBody s_inputs_of) (defScope s_inputs_of) .none kV6 dc6 pm6 an6 cd6 ct6),sl6⟩)
  (c6:PySem.W.codeIn K cd6 "inputs_of" = true)
  (k6:PySem.W.keepIn K (.ref f6)=true)
  (a7:PySem.W.nsIn K mainGlobals "gate_of" = some (some (.ref f7)))
  (l7:K.lookup f7=some ⟨oc7,od7,.func (PySem.W.fnOf "gate_of" "gate_of" (defArgs s_gate_of) (defBody s_gate_of) (defScope s_gate_of) .none kV7 dc7 pm7 an7 cd7 ct7),sl7⟩)
  (c7:PySem.W.codeIn K cd7 "gate_of" = true)
  (k7:PySem.W.keepIn K (.ref f7)=true)
  (a8:PySem.W.nsIn K mainGlobals "outputs_of" = some (some (.ref f8)))
  (l8:K.lookup f8=some ⟨oc8,od8,.func (PySem.W.fnOf "outputs_of" "outputs_of" (defArgs s_outputs_of) (defBody s_outputs_of) (defScope s_outputs_of) .none kV8 dc8 pm8 an8 cd8 ct8),sl8⟩)
  (c8:PySem.W.codeIn K cd8 "outputs_of" = true)
  (k8:PySem.W.keepIn K (.ref f8)=true)
  (a9:PySem.W.nsIn K mainGlobals "need_known" = some (some (.ref f9)))
  (l9:K.lookup f9=some ⟨oc9,od9,.func (PySem.W.fnOf "need_known" "need_known" (defArgs s_need_known) (defBody s_need_known) (defScope s_need_known) .none kV9 dc9 pm9 an9 cd9 ct9),sl9⟩)
  (c9:PySem.W.codeIn K cd9 "need_known" = true)
  (k9:PySem.W.keepIn K (.ref f9)=true)
  (a10:PySem.W.nsIn K mainGlobals "net_of" = some (some (.ref f10)))
  (l10:K.lookup f10=some ⟨oc10,od10,.func (PySem.W.fnOf "net_of" "net_of" (defArgs s_net_of) (defBody s_net_of) (defScope s_net_of) .none kV10 dc10 pm10 an10 cd10 ct10),sl10⟩)
  (c10:PySem.W.codeIn K cd10 "net_of" = true)
  (k10:PySem.W.keepIn K (.ref f10)=true)
  (a11:PySem.W.nsIn K mainGlobals "_law_cell_at" = some (some (.ref f11)))
  (l11:K.lookup f11=some ⟨oc11,od11,.func (PySem.W.fnOf "_law_cell_at" "_law_cell_at" (defArgs s_law_cell_at) (defBody s_law_cell_at) (defScope s_law_cell_at) .none kV11 dc11 pm11 an11 cd11 ct11),sl11⟩)
  (c11:PySem.W.codeIn K cd11 "_law_cell_at" = true)
  (k11:PySem.W.keepIn K (.ref f11)=true)
  (a12:PySem.W.nsIn K mainGlobals "_law_letters" = some (some (.ref f12)))
  (l12:K.lookup f12=some ⟨oc12,od12,.func (PySem.W.fnOf "_law_letters" "_law_letters" (defArgs s_law_letters) (defBody s_law_letters) (defScope s_law_letters) .none kV12 dc12 pm12 an12 cd12 ct12),sl12⟩)
  (c12:PySem.W.codeIn K cd12 "_law_letters" = true)
  (k12:PySem.W.keepIn K (.ref f12)=true)
  (a13:PySem.W.nsIn K mainGlobals "_law_next" = some (some (.ref f13)))
  (l13:K.lookup f13=some ⟨oc13,od13,.func (PySem.W.fnOf "_law_next" "_law_next" (defArgs s_law_next) (defBody s_law_next) (defScope s_law_next) .none kV13 dc13 pm13 an13 cd13 ct13),sl13⟩)
  (c13:PySem.W.codeIn K cd13 "_law_next" = true)
  (k13:PySem.W.keepIn K (.ref f13)=true)
  (a14:PySem.W.nsIn K mainGlobals "_law_one_name" = some (some (.ref f14)))
  (l14:K.lookup f14=some ⟨oc14,od14,.func (PySem.W.fnOf "_law_one_name" "_law_one_name" (defArgs s_law_one_name) (defBody s_law_one_name) (defScope s_law_one_name) .none kV14 dc14 pm14 an14 cd14 ct14),sl14⟩)
  (c14:PySem.W.codeIn K cd14 "_law_one_name" = true)
  (k14:PySem.W.keepIn K (.ref f14)=true)
  (a15:PySem.W.nsIn K mainGlobals "_law_all_names" = some (some (.ref f15)))
  (l15:K.lookup f15=some ⟨oc15,od15,.func (PySem.W.fnOf "_law_all_names" "_law_all_names" (defArgs s_law_all_names) (defBody s_law_all_names) (defScope s_law_all_names) .none kV15 dc15 pm15 an15 cd15 ct15),sl15⟩)
  (c15:PySem.W.codeIn K cd15 "_law_all_names" = true)
  (k15:PySem.W.keepIn K (.ref f15)=true)
  (a16:PySem.W.nsIn K mainGlobals "_law_drawn_gate" = some (some (.ref f16)))
  (l16:K.lookup f16=some ⟨oc16,od16,.func (PySem.W.fnOf "_law_drawn_gate" "_law_drawn_gate" (defArgs s_law_drawn_gate) (defBody s_law_drawn_gate) (defScope s_law_drawn_gate) .none kV16 dc16 pm16 an16 cd16 ct16),sl16⟩)
  (c16:PySem.W.codeIn K cd16 "_law_drawn_gate" = true)
  (k16:PySem.W.keepIn K (.ref f16)=true)
  (a17:PySem.W.nsIn K mainGlobals "_law_drawn" = some (some (.ref f17)))
  (l17:K.lookup f17=some ⟨oc17,od17,.func (PySem.W.fnOf "_law_drawn" "_law_drawn" (defArgs s_law_drawn) (defBody s_law_drawn) (defScope s_law_drawn) .none kV17 dc17 pm17 an17 cd17 ct17),sl17⟩)
  (c17:PySem.W.codeIn K cd17 "_law_drawn" = true)
  (k17:PySem.W.keepIn K (.ref f17)=true)
  (a18:PySem.W.nsIn K mainGlobals "_law_rows" = some (some (.ref f18)))
  (l18:K.lookup f18=some ⟨oc18,od18,.func (PySem.W.fnOf "_law_rows" "_law_rows" (defArgs s_law_rows) (defBody s_law_rows) (defScope s_law_rows) .none kV18 dc18 pm18 an18 cd18 ct18),sl18⟩)
  (c18:PySem.W.codeIn K cd18 "_law_rows" = true)
  (k18:PySem.W.keepIn K (.ref f18)=true)
  (a19:PySem.W.nsIn K mainGlobals "_law_wrong_gate" = some (some (.ref f19)))
  (l19:K.lookup f19=some ⟨oc19,od19,.func (PySem.W.fnOf "_law_wrong_gate" "_law_wrong_gate" (defArgs s_law_wrong_gate) (defBody s_law_wrong_gate) (defScope s_law_wrong_gate) .none kV19 dc19 pm19 an19 cd19 ct19),sl19⟩)
  (c19:PySem.W.codeIn K cd19 "_law_wrong_gate" = true)
  (k19:PySem.W.keepIn K (.ref f19)=true)
  (a20:PySem.W.nsIn K mainGlobals "_law_wrong_end" = some (some (.ref f20)))
  (l20:K.lookup f20=some ⟨oc20,od20,.func (PySem.W.fnOf "_law_wrong_end" "_law_wrong_end" (defArgs s_law_wrong_end) (defBody s_law_wrong_end) (defScope s_law_wrong_end) .none kV20 dc20 pm20 an20 cd20 ct20),sl20⟩)
  (c20:PySem.W.codeIn K cd20 "_law_wrong_end" = true)
  (k20:PySem.W.keepIn K (.ref f20)=true)
  (a21:PySem.W.nsIn K mainGlobals "_law_spoilt" = some (some (.ref f21)))
  (l21:K.lookup f21=some ⟨oc21,od21,.func (PySem.W.fnOf "_law_spoilt" "_law_spoilt" (defArgs s_law_spoilt) (defBody s_law_spoilt) (defScope s_law_spoilt) .none kV21 dc21 pm21 an21 cd21 ct21),sl21⟩)
  (c21:PySem.W.codeIn K cd21 "_law_spoilt" = true)
  (k21:PySem.W.keepIn K (.ref f21)=true)
  (a22:PySem.W.nsIn K mainGlobals "_law_kinds" = some (some (.ref f22)))
  (l22:K.lookup f22=some ⟨oc22,od22,.func (PySem.W.fnOf "_law_kinds" "_law_kinds" (defArgs s_law_kinds) (defBody s_law_kinds) (defScope s_law_kinds) .none kV22 dc22 pm22 an22 cd22 ct22),sl22⟩)
  (c22:PySem.W.codeIn K cd22 "_law_kinds" = true)
  (k22:PySem.W.keepIn K (.ref f22)=true)
  (a23:PySem.W.nsIn K mainGlobals "law" = some (some (.ref f23)))
  (l23:K.lookup f23=some ⟨oc23,od23,.func (PySem.W.fnOf "law" "law" (defArgs s_law) (defBody s_law) (defScope s_law) .none kV23 dc23 pm23 an23 cd23 ct23),sl23⟩)
  (c23:PySem.W.codeIn K cd23 "law" = true)
  (k23:PySem.W.keepIn K (.ref f23)=true)
  (xi_NoLine:PySem.W.excIn K C_NoLine [.type "ValueError",.type "Exception",.type "BaseException",.type "object"] "ValueError.__new__" = true)
  (xq_NoLine:exq K C_NoLine=true)
  (kv_NoLine:PySem.W.kitOne K (.ref C_NoLine) (.type "ValueError")=some true)
  (xm_NoLine_FoldError:(L2.mroIn K C_NoLine).contains (.ref C_FoldError)=true)
  (ko_NoLine_NoBoard:PySem.W.kitOne K (.ref C_NoLine) (.ref C_NoBoard)=some false)
  (ko_NoLine_NoCut:PySem.W.kitOne K (.ref C_NoLine) (.ref C_NoCut)=some false)
  (ko_NoLine_NoGoal:PySem.W.kitOne K (.ref C_NoLine) (.ref C_NoGoal)=some false)
  (ko_NoLine_NoKnot:PySem.W.kitOne K (.ref C_NoLine) (.ref C_NoKnot)=some false)
  (ko_NoLine_NoLine:PySem.W.kitOne K (.ref C_NoLine) (.ref C_NoLine)=some true)
  (ko_NoLine_NoMatch:PySem.W.kitOne K (.ref C_NoLine) (.ref C_NoMatch)=some false)
  (ko_NoLine_NoName:PySem.W.kitOne K (.ref C_NoLine) (.ref C_NoName)=some false)
  (ko_NoLine_NoSize:PySem.W.kitOne K (.ref C_NoLine) (.ref C_NoSize)=some false)
  (ko_NoLine_NoText:PySem.W.kitOne K (.ref C_NoLine) (.ref C_NoText)=some false)
  (ko_NoLine_NoTie:PySem.W.kitOne K (.ref C_NoLine) (.ref C_NoTie)=some false)
  (xi_NoName:PySem.W.excIn K C_NoName [.type "ValueError",.type "Exception",.type "BaseException",.type "object"] "ValueError.__new__" = true)
  (xq_NoName:exq K C_NoName=true)
  (kv_NoName:PySem.W.kitOne K (.ref C_NoName) (.type "ValueError")=some true)
  (xm_NoName_FoldError:(L2.mroIn K C_NoName).contains (.ref C_FoldError)=true)
  (ko_NoName_NoBoard:PySem.W.kitOne K (.ref C_NoName) (.ref C_NoBoard)=some false)
  (ko_NoName_NoCut:PySem.W.kitOne K (.ref C_NoName) (.ref C_NoCut)=some false)
  (ko_NoName_NoGoal:PySem.W.kitOne K (.ref C_NoName) (.ref C_NoGoal)=some false)
  (ko_NoName_NoKnot:PySem.W.kitOne K (.ref C_NoName) (.ref C_NoKnot)=some false)
  (ko_NoName_NoLine:PySem.W.kitOne K (.ref C_NoName) (.ref C_NoLine)=some false)
  (ko_NoName_NoMatch:PySem.W.kitOne K (.ref C_NoName) (.ref C_NoMatch)=some false)
  (ko_NoName_NoName:PySem.W.kitOne K (.ref C_NoName) (.ref C_NoName)=some true)
  (ko_NoName_NoSize:PySem.W.kitOne K (.ref C_NoName) (.ref C_NoSize)=some false)
  (ko_NoName_NoText:PySem.W.kitOne K (.ref C_NoName) (.ref C_NoText)=some false)
  (ko_NoName_NoTie:PySem.W.kitOne K (.ref C_NoName) (.ref C_NoTie)=some false)
  (xk_FoldError:PySem.W.ktsIn K C_FoldError "BaseException" = true)
  (xk_NoLine:PySem.W.ktsIn K C_NoLine "BaseException" = true)
  (xk_NoName:PySem.W.ktsIn K C_NoName "BaseException" = true)
  (pg_Net:PySem.W.plainGet K C_Net Str.empty=true)
  (hd_Net:PySem.W.hasDictIn K C_Net=true)
  (po_Net:PySem.W.plainOver K C_Net=true)
  (sa_Net:PySem.W.findIn K (.ref C_Net) "__setattr__" = some (some (.builtin "object.__setattr__")))
  (mk_Net:PySem.W.makesIn K C_Net=true)
  (kc_Net:PySem.W.keepIn K (.ref C_Net)=true)
  (n_Net_inputs:PySem.W.findIn K (.ref C_Net) "inputs" = some none)
  (n_Net_gates:PySem.W.findIn K (.ref C_Net) "gates" = some none)
  (n_Net_outputs:PySem.W.findIn K (.ref C_Net) "outputs" = some none)
  (g_KEPT_WORDS:PySem.W.nsIn K mainGlobals "KEPT_WORDS" = some (some (.ref G_KEPT_WORDS)))
  (go_KEPT_WORDS:K.lookup G_KEPT_WORDS=some og_KEPT_WORDS)
  (gc_KEPT_WORDS:og_KEPT_WORDS.cls=.type "tuple")
  (gd_KEPT_WORDS:og_KEPT_WORDS.data=.seq ig_KEPT_WORDS ng_KEPT_WORDS)
  (gv_KEPT_WORDS:ig_KEPT_WORDS.toList.mapM absV=some gl_KEPT_WORDS)
  (g_LETTERS:PySem.W.nsIn K mainGlobals "LETTERS" = some (some (.str "abcdefghijklmnopqrstuvwxyz" ug_LETTERS)))
  (g_LONGEST_NAME:PySem.W.nsIn K mainGlobals "LONGEST_NAME" = some (some (.int 8 ug_LONGEST_NAME)))
  (g_MOST_INPUTS:PySem.W.nsIn K mainGlobals "MOST_INPUTS" = some (some (.int 10 ug_MOST_INPUTS)))
  (g_MOST_OUTPUTS:PySem.W.nsIn K mainGlobals "MOST_OUTPUTS" = some (some (.int 16 ug_MOST_OUTPUTS)))
  (g_PART_COUNTS:PySem.W.nsIn K mainGlobals "PART_COUNTS" = some (some (.ref G_PART_COUNTS)))
  (gn_PART_COUNTS:(G_PART_COUNTS == sysModules)=false)
  (go_PART_COUNTS:K.lookup G_PART_COUNTS=some og_PART_COUNTS)
  (gc_PART_COUNTS:og_PART_COUNTS.cls=.type "dict")
  (gc2_PART_COUNTS:og_PART_COUNTS.dict=none)
  (gc3_PART_COUNTS:og_PART_COUNTS.slots = #[])
  (gd_PART_COUNTS:og_PART_COUNTS.data=.dict ig_PART_COUNTS ng_PART_COUNTS)
  (gk_PART_COUNTS:ML w ig_PART_COUNTS.toList [("and",P0_PART_COUNTS),("or",P1_PART_COUNTS),("either",P2_PART_COUNTS),("not",P3_PART_COUNTS),("choose",P4_PART_COUNTS),("most",P5_PART_COUNTS),("yes",P6_PART_COUNTS),("no",P7_PART_COUNTS)])
  (go0_PART_COUNTS:K.lookup P0_PART_COUNTS=some op0_PART_COUNTS)
  (gc0t_PART_COUNTS:op0_PART_COUNTS.cls=.type "tuple")
  (gd0_PART_COUNTS:op0_PART_COUNTS.data=.seq ip0_PART_COUNTS np0_PART_COUNTS)
  (gv0_PART_COUNTS:ip0_PART_COUNTS.toList.mapM absV=some [.int 2,.int 6])
  (go1_PART_COUNTS:K.lookup P1_PART_COUNTS=some op1_PART_COUNTS)
  (gc1t_PART_COUNTS:op1_PART_COUNTS.cls=.type "tuple")
  (gd1_PART_COUNTS:op1_PART_COUNTS.data=.seq ip1_PART_COUNTS np1_PART_COUNTS)
  (gv1_PART_COUNTS:ip1_PART_COUNTS.toList.mapM absV=some [.int 2,.int 6])
  (go2_PART_COUNTS:K.lookup P2_PART_COUNTS=some op2_PART_COUNTS)
  (gc2t_PART_COUNTS:op2_PART_COUNTS.cls=.type "tuple")
  (gd2_PART_COUNTS:op2_PART_COUNTS.data=.seq ip2_PART_COUNTS np2_PART_COUNTS)
  (gv2_PART_COUNTS:ip2_PART_COUNTS.toList.mapM absV=some [.int 2,.int 6])
  (go3_PART_COUNTS:K.lookup P3_PART_COUNTS=some op3_PART_COUNTS)
  (gc3t_PART_COUNTS:op3_PART_COUNTS.cls=.type "tuple")
  (gd3_PART_COUNTS:op3_PART_COUNTS.data=.seq ip3_PART_COUNTS np3_PART_COUNTS)
  (gv3_PART_COUNTS:ip3_PART_COUNTS.toList.mapM absV=some [.int 1,.int 1])
  (go4_PART_COUNTS:K.lookup P4_PART_COUNTS=some op4_PART_COUNTS)
  (gc4t_PART_COUNTS:op4_PART_COUNTS.cls=.type "tuple")
  (gd4_PART_COUNTS:op4_PART_COUNTS.data=.seq ip4_PART_COUNTS np4_PART_COUNTS)
  (gv4_PART_COUNTS:ip4_PART_COUNTS.toList.mapM absV=some [.int 3,.int 3])
  (go5_PART_COUNTS:K.lookup P5_PART_COUNTS=some op5_PART_COUNTS)
  (gc5t_PART_COUNTS:op5_PART_COUNTS.cls=.type "tuple")
  (gd5_PART_COUNTS:op5_PART_COUNTS.data=.seq ip5_PART_COUNTS np5_PART_COUNTS)
  (gv5_PART_COUNTS:ip5_PART_COUNTS.toList.mapM absV=some [.int 3,.int 3])
  (go6_PART_COUNTS:K.lookup P6_PART_COUNTS=some op6_PART_COUNTS)
  (gc6t_PART_COUNTS:op6_PART_COUNTS.cls=.type "tuple")
  (gd6_PART_COUNTS:op6_PART_COUNTS.data=.seq ip6_PART_COUNTS np6_PART_COUNTS)
  (gv6_PART_COUNTS:ip6_PART_COUNTS.toList.mapM absV=some [.int 0,.int 0])
  (go7_PART_COUNTS:K.lookup P7_PART_COUNTS=some op7_PART_COUNTS)
  (gc7t_PART_COUNTS:op7_PART_COUNTS.cls=.type "tuple")
  (gd7_PART_COUNTS:op7_PART_COUNTS.data=.seq ip7_PART_COUNTS np7_PART_COUNTS)
  (gv7_PART_COUNTS:ip7_PART_COUNTS.toList.mapM absV=some [.int 0,.int 0])
  (z_ValueError:PySem.W.nsIn K mainGlobals "ValueError" = some none)
  (z_all:PySem.W.nsIn K mainGlobals "all" = some none)
  (z_dict:PySem.W.nsIn K mainGlobals "dict" = some none)
  (z_int:PySem.W.nsIn K mainGlobals "int" = some none)
  (z_isinstance:PySem.W.nsIn K mainGlobals "isinstance" = some none)
  (z_len:PySem.W.nsIn K mainGlobals "len" = some none)
  (z_list:PySem.W.nsIn K mainGlobals "list" = some none)
  (z_min:PySem.W.nsIn K mainGlobals "min" = some none)
  (z_range:PySem.W.nsIn K mainGlobals "range" = some none)
  (z_set:PySem.W.nsIn K mainGlobals "set" = some none)
  (z_str:PySem.W.nsIn K mainGlobals "str" = some none)
  (z_tuple:PySem.W.nsIn K mainGlobals "tuple" = some none) :
  ∃ fd:FuncData,(∀ (s:Shared) (v:Value),BindsTo s fd ⟨[v],[]⟩ [("_law_script",v)])∧∀ base:Heap,K.In base→base.Ns mainGlobals mg→FnOk l.prog w K mg base CX0 5 fa fd ["_law_script"] (sp_law K):=by
 have e:=hfa.symm.trans (PySem.W.mg_of X G a23)
 cases e
 have F0:=fun_mk (st:=s_is_name) l0 c0 k0
 have B0:=F0.binds (ps:=["text"]) fun _ _ _ _ _ _ us hl=>by obtain ⟨_,rfl⟩:=lenN1 hl;rfl
 have F1:=fun_mk (st:=s_has_parts) l1 c1 k1
 have B1:=F1.binds (ps:=["word","count"]) fun _ _ _ _ _ _ us hl=>by obtain ⟨_,_,rfl⟩:=lenN2 hl;rfl
 have F2:=fun_mk (st:=s_Net___init__) l2 c2 k2
 have B2:=F2.binds (ps:=["self","inputs","gates","outputs"]) fun _ _ _ _ _ _ us hl=>by obtain ⟨_,_,_,_,rfl⟩:=lenN4 hl;rfl
 have F3:=fun_mk (st:=s_words) l3 c3 k3
 have B3:=F3.binds (ps:=["text"]) fun _ _ _ _ _ _ us hl=>by obtain ⟨_,rfl⟩:=lenN1 hl;rfl
 have F4:=fun_mk (st:=s_written) l4 c4 k4
 have B4:=F4.binds (ps:=["net"]) fun _ _ _ _ _ _ us hl=>by obtain ⟨_,rfl⟩:=lenN1 hl;rfl
 have F5:=fun_mk (st:=s_names_behind) l5 c5 k5
 have B5:=F5.binds (ps:=["first","most","row"]) fun _ _ _ _ _ _ us hl=>by obtain ⟨_,_,_,rfl⟩:=lenN3 hl;rfl
 have F6:=fun_mk (st:=s_inputs_of) l6 c6 k6
 have B6:=F6.binds (ps:=["row"]) fun _ _ _ _ _ _ us hl=>by obtain ⟨_,rfl⟩:=lenN1 hl;rfl
 have F7:=fun_mk (st:=s_gate_of) l7 c7 k7
 have B7:=F7.binds (ps:=["row","known"]) fun _ _ _ _ _ _ us hl=>by obtain ⟨_,_,rfl⟩:=lenN2 hl;rfl
 have F8:=fun_mk (st:=s_outputs_of) l8 c8 k8
 have B8:=F8.binds (ps:=["row","known"]) fun _ _ _ _ _ _ us hl=>by obtain ⟨_,_,rfl⟩:=lenN2 hl;rfl
 have F9:=fun_mk (st:=s_need_known) l9 c9 k9
 have B9:=F9.binds (ps:=["names","known"]) fun _ _ _ _ _ _ us hl=>by obtain ⟨_,_,rfl⟩:=lenN2 hl;rfl
 have F10:=fun_mk (st:=s_net_of) l10 c10 k10
 have B10:=F10.binds (ps:=["lines"]) fun _ _ _ _ _ _ us hl=>by obtain ⟨_,rfl⟩:=lenN1 hl;rfl
 have F11:=fun_mk (st:=s_law_cell_at) l11 c11 k11
 have B11:=F11.binds (ps:=["_law_script","_law_k"]) fun _ _ _ _ _ _ us hl=>by obtain ⟨_,_,rfl⟩:=lenN2 hl;rfl
 have F12:=fun_mk (st:=s_law_letters) l12 c12 k12
 have B12:=F12.binds (ps:=["_law_seed","_law_size"]) fun _ _ _ _ _ _ us hl=>by obtain ⟨_,_,rfl⟩:=lenN2 hl;rfl
 have F13:=fun_mk (st:=s_law_next) l13 c13 k13
 have B13:=F13.binds (ps:=["_law_name"]) fun _ _ _ _ _ _ us hl=>by obtain ⟨_,rfl⟩:=lenN1 hl;rfl
 have F14:=fun_mk (st:=s_law_one_name) l14 c14 k14
 have B14:=F14.binds (ps:=["_law_k","_law_cell"]) fun _ _ _ _ _ _ us hl=>by obtain ⟨_,_,rfl⟩:=lenN2 hl;rfl
 have F15:=fun_mk (st:=s_law_all_names) l15 c15 k15
 have B15:=F15.binds (ps:=["_law_count","_law_cell"]) fun _ _ _ _ _ _ us hl=>by obtain ⟨_,_,rfl⟩:=lenN2 hl;rfl
 have F16:=fun_mk (st:=s_law_drawn_gate) l16 c16 k16
 have B16:=F16.binds (ps:=["_law_name","_law_known","_law_cell"]) fun _ _ _ _ _ _ us hl=>by obtain ⟨_,_,_,rfl⟩:=lenN3 hl;rfl
 have F17:=fun_mk (st:=s_law_drawn) l17 c17 k17
 have B17:=F17.binds (ps:=["_law_many","_law_cells","_law_cell","_law_outs"]) fun _ _ _ _ _ _ us hl=>by obtain ⟨_,_,_,_,rfl⟩:=lenN4 hl;rfl
 have F18:=fun_mk (st:=s_law_rows) l18 c18 k18
 have B18:=F18.binds (ps:=["_law_net"]) fun _ _ _ _ _ _ us hl=>by obtain ⟨_,rfl⟩:=lenN1 hl;rfl
 have F19:=fun_mk (st:=s_law_wrong_gate) l19 c19 k19
 have B19:=F19.binds (ps:=["_law_way","_law_cell","_law_known","_law_later"]) fun _ _ _ _ _ _ us hl=>by obtain ⟨_,_,_,_,rfl⟩:=lenN4 hl;rfl
 have F20:=fun_mk (st:=s_law_wrong_end) l20 c20 k20
 have B20:=F20.binds (ps:=["_law_way","_law_cell","_law_names"]) fun _ _ _ _ _ _ us hl=>by obtain ⟨_,_,_,rfl⟩:=lenN3 hl;rfl
 have F21:=fun_mk (st:=s_law_spoilt) l21 c21 k21
 have B21:=F21.binds (ps:=["_law_rows_here","_law_net","_law_way","_law_cell","_law_at"]) fun _ _ _ _ _ _ us hl=>by obtain ⟨_,_,_,_,_,rfl⟩:=lenN5 hl;rfl
 have F22:=fun_mk (st:=s_law_kinds) l22 c22 k22
 have B22:=F22.binds (ps:=["_law_lines"]) fun _ _ _ _ _ _ us hl=>by obtain ⟨_,rfl⟩:=lenN1 hl;rfl
 have F23:=fun_mk (st:=s_law) l23 c23 k23
 have B23:=F23.binds (ps:=["_law_script"]) fun _ _ _ _ _ _ us hl=>by obtain ⟨_,rfl⟩:=lenN1 hl;rfl
 have T:Txt w K mg ⟨f0,_,f1,_,f2,_,f3,_,f4,_,f5,_,f6,_,f7,_,f8,_,f9,_,f10,_,f11,_,f12,_,f13,_,f14,_,f15,_,f16,_,f17,_,f18,_,f19,_,f20,_,f21,_,f22,_,_,_,C_Net,C_FoldError,C_NoBoard,C_NoCut,C_NoGoal,C_NoKnot,C_NoLine,C_NoMatch,C_NoName,C_NoSize,C_NoText,C_NoTie,G_KEPT_WORDS,G_PART_COUNTS⟩:=⟨PySem.W.mg_of X G a0,F0,B0,PySem.W.mg_of X G a1,F1,B1,F2,B2,PySem.W.mg_of X G a3,F3,B3,PySem.W.mg_of X G a4,F4,B4,PySem.W.mg_of X G a5,F5,B5,PySem.W.mg_of X G a6,F6,B6,PySem.W.mg_of X G a7,F7,B7,PySem.W.mg_of X G a8,F8,B8,PySem.W.mg_of X G a9,F9,B9,PySem.W.mg_of X G a10,F10,B10,PySem.W.mg_of X G a11,F11,B11,PySem.W.mg_of X G a12,F12,B12,PySem.W.mg_of X G a13,F13,B13,PySem.W.mg_of X G a14,F14,B14,PySem.W.mg_of X G a15,F15,B15,PySem.W.mg_of X G a16,F16,B16,PySem.W.mg_of X G a17,F17,B17,PySem.W.mg_of X G a18,F18,B18,PySem.W.mg_of X G a19,F19,B19,PySem.W.mg_of X G a20,F20,B20,PySem.W.mg_of X G a21,F21,B21,PySem.W.mg_of X G a22,F22,B22,PySem.W.mg_of X G a23,F23,B23,PySem.W.mg_of X G aC_Net,⟨pg_Net,hd_Net,po_Net,sa_Net⟩,⟨mk_Net,a2,i2,kc_Net⟩,n_Net_inputs,n_Net_gates,n_Net_outputs,PySem.W.mg_of X G aC_FoldError,PySem.W.mg_of X G aC_NoBoard,PySem.W.mg_of X G aC_NoCut,PySem.W.mg_of X G aC_NoGoal,PySem.W.mg_of X G aC_NoKnot,PySem.W.mg_of X G aC_NoLine,PySem.W.mg_of X G aC_NoMatch,PySem.W.mg_of X G aC_NoName,PySem.W.mg_of X G aC_NoSize,PySem.W.mg_of X G aC_NoText,PySem.W.mg_of X G aC_NoTie,xi_NoLine,xq_NoLine,kv_NoLine,xm_NoLine_FoldError,ko_NoLine_NoBoard,ko_NoLine_NoCut,ko_NoLine_NoGoal,ko_NoLine_NoKnot,ko_NoLine_NoLine,ko_NoLine_NoMatch,ko_NoLine_NoName,ko_NoLine_NoSize,ko_NoLine_NoText,ko_NoLine_NoTie,xi_NoName,xq_NoName,kv_NoName,xm_NoName_FoldError,ko_NoName_NoBoard,ko_NoName_NoCut,ko_NoName_NoGoal,ko_NoName_NoKnot,ko_NoName_NoLine,ko_NoName_NoMatch,ko_NoName_NoName,ko_NoName_NoSize,ko_NoName_NoText,ko_NoName_NoTie,xk_FoldError,xk_NoLine,xk_NoName,⟨_,PySem.W.mg_of X G g_KEPT_WORDS,rfl⟩,fun H=>sqT_mod go_KEPT_WORDS gc_KEPT_WORDS gd_KEPT_WORDS gv_KEPT_WORDS (by decide),⟨_,PySem.W.mg_of X G g_LETTERS,⟨_,rfl⟩⟩,⟨_,PySem.W.mg_of X G g_LONGEST_NAME,⟨_,rfl⟩⟩,⟨_,PySem.W.mg_of X G g_MOST_INPUTS,⟨_,rfl⟩⟩,⟨_,PySem.W.mg_of X G g_MOST_OUTPUTS,⟨_,rfl⟩⟩,⟨_,PySem.W.mg_of X G g_PART_COUNTS,rfl⟩,⟨gn_PART_COUNTS,_,_,_,go_PART_COUNTS,⟨gc_PART_COUNTS,gc2_PART_COUNTS,gc3_PART_COUNTS⟩,gd_PART_COUNTS,mp_of gk_PART_COUNTS (.cons (fun H=>sqT_mod go0_PART_COUNTS gc0t_PART_COUNTS gd0_PART_COUNTS gv0_PART_COUNTS (by decide)) (.cons (fun H=>sqT_mod go1_PART_COUNTS gc1t_PART_COUNTS gd1_PART_COUNTS gv1_PART_COUNTS (by decide)) (.cons (fun H=>sqT_mod go2_PART_COUNTS gc2t_PART_COUNTS gd2_PART_COUNTS gv2_PART_COUNTS (by decide)) (.cons (fun H=>sqT_mod go3_PART_COUNTS gc3t_PART_COUNTS gd3_PART_COUNTS gv3_PART_COUNTS (by decide)) (.cons (fun H=>sqT_mod go4_PART_COUNTS gc4t_PART_COUNTS gd4_PART_COUNTS gv4_PART_COUNTS (by decide)) (.cons (fun H=>sqT_mod go5_PART_COUNTS gc5t_PART_COUNTS gd5_PART_COUNTS gv5_PART_COUNTS (by decide)) (.cons (fun H=>sqT_mod go6_PART_COUNTS gc6t_PART_COUNTS gd6_PART_COUNTS gv6_PART_COUNTS (by decide)) (.cons (fun H=>sqT_mod go7_PART_COUNTS gc7t_PART_COUNTS gd7_PART_COUNTS gv7_PART_COUNTS (by decide)) (.nil))))))))),by decide +kernel⟩,PySem.W.mg_none_of X G z_ValueError,PySem.W.mg_none_of X G z_all,PySem.W.mg_none_of X G z_dict,PySem.W.mg_none_of X G z_int,PySem.W.mg_none_of X G z_isinstance,PySem.W.mg_none_of X G z_len,PySem.W.mg_none_of X G z_list,PySem.W.mg_none_of X G z_min,PySem.W.mg_none_of X G z_range,PySem.W.mg_none_of X G z_set,PySem.W.mg_none_of X G z_str,PySem.W.mg_none_of X G z_tuple⟩
 exact ⟨_,fun s v=>.of_eq rfl,fun base _ _=>ok_law T⟩
theorem walk {l:PySem.W.OpenLaw}{q:Program}{loose:List Str}{XP:(Str→Option Value)→Heap→Prop}{YP:World→Heap→Prop}{d:DefRec}{K:Params→PySem.W.Frag} (hn:l.most=some 63) (hdf:d.params.defaults=[])
  (hY:∀ (w:World) (h:Heap),YP w h→(K w.params).In h)
  (F:∀ (w:World) (mg:Str→Option Value) (fa:Addr) (h:Heap),(K w.params).In h→h.Ns mainGlobals mg→mg d.name=some (.ref fa) →
   ∃ fd:FuncData,(∀ (s:Shared) (u:Value),BindsTo s fd ⟨[u],[]⟩ [("_law_script",u)])∧∀ base:Heap,(K w.params).In base→base.Ns mainGlobals mg→FnOk l.prog w (K w.params) mg base CX0 5 fa fd ["_law_script"] (sp_law (K w.params))) :
  PySem.W.WalkO q loose XP YP l.row.toRowW d [] (fun f vs=>PySem.call f vs) :=
 L2.walk_of (n:=63) (k:=5) (x:="_law_script") (CX:=fun _=>CX0) (sp:=fun w=>sp_law (K w.params)) hn (by decide) hdf ⟨rfl,by decide,by decide⟩ hY F (fun _ _ a ns hl _ hS=>⟨a,ns,rfl,hS,hl,fun _=>rfl⟩) fun _ _ _ _ _ z=>z
end K08
lay_quick PySem.Challenge.pw_gatefold_k08_lines_refused
namespace OT
open PySem PySem.W PySem.Spec PyProof.Rows L2
noncomputable section
abbrev PM:=Params
abbrev OB:=Obj
abbrev TP:Program:=PySem.W.Fast.tw17080068924636381628
def tT (i:Nat):Stmt:=TP.main.body.getD i (.Pass ⟨0,0,0,0⟩)
abbrev vs (s:Str) (t:Nat):Value:=.str s t
abbrev vr (a:Nat):Value:=.ref a
abbrev vi (a:Int) (t:Nat):Value:=.int a t
abbrev vn:Value:=.none
abbrev df (a:Array Value):Data:=.fields a
abbrev dq (a:Array Value) (n:Nat):Data:=.seq a n
abbrev dd (a:Array DictEntry) (n:Nat):Data:=.dict a n
abbrev de (P:Params) (s:Str) (t:Nat) (v:Value):DictEntry:=.mk (PyData.keyHash P s) (.str s t) v
abbrev ob (t:String) (d:Data) (sl:Array (Option Value)):Obj:=⟨.type t,none,d,sl⟩
abbrev nd:=BT.node
abbrev nl:=BT.nil
abbrev Zl (P:PM):BT:=BT.nil
abbrev N (f:PM→OB) (a b:PM→BT) (P:PM):BT:=BT.node (f P) (a P) (b P)
abbrev M (f:PM→OB) (a:PM→BT) (P:PM):BT:=BT.node (f P) (a P) BT.nil
abbrev L (f:PM→OB) (P:PM):BT:=BT.node (f P) BT.nil BT.nil
abbrev bF:Value:=.bool false
abbrev bT:Value:=.bool true
abbrev vb (y:String):Value:=.builtin y
abbrev vt (y:String):Value:=.type y
abbrev sr (a:Nat):Option Value:=some (.ref a)
abbrev ss (s:Str) (t:Nat):Option Value:=some (.str s t)
abbrev z0:Value:=.int 0 0
abbrev of (y:String) (l:List Value):Obj:=⟨.type y,none,.fields ⟨l⟩,⟨[]⟩⟩
abbrev oq (y:String) (l:List Value) (n:Nat):Obj:=⟨.type y,none,.seq ⟨l⟩ n,⟨[]⟩⟩
abbrev od (y:String) (l:List DictEntry) (n:Nat):Obj:=⟨.type y,none,.dict ⟨l⟩ n,⟨[]⟩⟩
abbrev y0:String:=PySem.W.SL.s2766695959194262286x5
abbrev y1:String:=PySem.W.SL.s5856160107412720595x4
abbrev y2:String:=PySem.W.SL.s658472552662922059x5
abbrev y3:String:=PySem.W.SL.s14018661285674007319x4
abbrev y4:String:=PySem.W.SL.s7097527257260152453x26
abbrev y5:String:=PySem.W.SL.s6070975301684473832x10
abbrev y6:String:=PySem.W.SL.s11030030927630378310x26
abbrev y7:String:=PySem.W.SL.s10062305145149207511x16
abbrev y8:String:=PySem.W.SL.s17162191345867700912x4
abbrev y9:String:=PySem.W.SL.s5946037652744460706x9
abbrev y10:String:=PySem.W.SL.s4278001404047624695x13
abbrev y11:String:=PySem.W.SL.s2742458400755230247x6
abbrev y12:String:=PySem.W.SL.s4209523147560561109x18
abbrev y13:String:=PySem.W.SL.s14755015743595814543x17
abbrev y14:String:=PySem.W.SL.s10220274742760427390x26
abbrev y15:String:=PySem.W.SL.s4290257624100764138x5
abbrev y16:String:=PySem.W.SL.s4860613602091757760x24
abbrev y17:String:=PySem.W.SL.s7174869446012820540x8
abbrev y18:String:=PySem.W.SL.s11443829558043349243x14
abbrev y19:String:=PySem.W.SL.s6511155373996960695x17
abbrev y20:String:=PySem.W.SL.s12411053484034534018x21
abbrev b0 (P:PM):OB:=PySem.W.boot_o_0 P
abbrev b1 (P:PM):OB:=PySem.W.boot_o_1 P
abbrev b2 (P:PM):OB:=PySem.W.boot_o_2 P
abbrev b3 (P:PM):OB:=PySem.W.boot_o_3 P
abbrev b4 (P:PM):OB:=PySem.W.boot_o_4 P
abbrev b5 (P:PM):OB:=PySem.W.boot_o_5 P
abbrev b6 (P:PM):OB:=PySem.W.boot_o_6 P
abbrev b7 (P:PM):OB:=PySem.W.boot_o_7 P
abbrev b8 (P:PM):OB:=PySem.W.boot_o_8 P
abbrev b9 (P:PM):OB:=PySem.W.boot_o_9 P
abbrev b10 (P:PM):OB:=PySem.W.boot_o_10 P
abbrev j0 (a b:Str) (s:Stmt):OB:=⟨vn,none,.func (.mk a b (defArgs s) (.stmts (defBody s)) (defScope s) 0 [] vn vn vn vn none vn vn 0),⟨[]⟩⟩
abbrev j1 (a b:Str) (s:Stmt) (q:Str) (t n:Nat):OB:=⟨(vt y17),none,.func (.mk a b (defArgs s) (.stmts (defBody s)) (defScope s) 3 [] vn vn vn (vs q t) none (vr n) vn 0),⟨[]⟩⟩
abbrev q0:Str:=⟨⟨[95,95,119,101,97,107,114,101,102,95,95]⟩⟩
abbrev q1:Str:=⟨⟨[95,95,109,111,100,117,108,101,95,95]⟩⟩
abbrev q2:Str:=⟨⟨[103,97,116,101,102,111,108,100,46,101,114,114,111,114,115]⟩⟩
abbrev q3:Str:=⟨⟨[95,95,113,117,97,108,110,97,109,101,95,95]⟩⟩
abbrev q4:Str:=⟨⟨[78,111,67,117,116]⟩⟩
abbrev q5:Str:=⟨⟨[95,95,102,105,114,115,116,108,105,110,101,110,111,95,95]⟩⟩
abbrev q6:Str:=⟨⟨[95,95,115,116,97,116,105,99,95,97,116,116,114,105,98,117,116,101,115,95,95]⟩⟩
abbrev q7:Str:=⟨⟨[110,101,116,95,111,102]⟩⟩
abbrev q8:Str:=⟨⟨[47,99,108,97,105,109,47,99,117,116,46,112,121]⟩⟩
abbrev q9:Str:=⟨⟨[70,111,108,100,69,114,114,111,114]⟩⟩
abbrev q10:Str:=⟨⟨[95,108,97,119,95,110,101,120,116]⟩⟩
abbrev q11:Str:=⟨⟨[95,108,97,119,95,110,97,109,101]⟩⟩
abbrev q12:Str:=⟨⟨[95,108,97,119,95,115,111,109,101]⟩⟩
abbrev q13:Str:=⟨⟨[97,98,99,100,101,102,103,104,105,106,107,108,109,110,111,112,113,114,115,116,117,118,119,120,121,122]⟩⟩
abbrev q14:Str:=⟨⟨[95,108,97,119,95,97,116]⟩⟩
abbrev q18:Str:=⟨⟨[95,108,97,119,95,115,105,103,110]⟩⟩
abbrev q20:Str:=⟨⟨[108,97,119,95,103,97,116,101,102,111,108,100,95,107,48,56,95,108,105,110,101,115,95,114,101,102,117,115,101,100]⟩⟩
abbrev q21:Str:=⟨⟨[78,111,77,97,116,99,104]⟩⟩
abbrev q22:Str:=⟨⟨[78,111,84,101,120,116]⟩⟩
abbrev q23:Str:=⟨⟨[119,114,105,116,116,101,110]⟩⟩
abbrev q24:Str:=⟨⟨[110,101,116]⟩⟩
abbrev q25:Str:=⟨⟨[108,105,110,101,115]⟩⟩
abbrev q28:Str:=⟨⟨[105,110]⟩⟩
abbrev q30:Str:=⟨⟨[105,110,112,117,116,115]⟩⟩
abbrev q31:Str:=⟨⟨[110,97,109,101]⟩⟩
abbrev q32:Str:=⟨⟨[119,111,114,100]⟩⟩
abbrev q33:Str:=⟨⟨[112,97,114,116,115]⟩⟩
abbrev q34:Str:=⟨⟨[103,97,116,101,115]⟩⟩
abbrev q36:Str:=⟨⟨[105,115]⟩⟩
abbrev q37:Str:=⟨⟨[111,117,116]⟩⟩
abbrev q38:Str:=⟨⟨[111,117,116,112,117,116,115]⟩⟩
abbrev q39:Str:=⟨⟨[95,95,110,97,109,101,95,95]⟩⟩
abbrev q40:Str:=⟨⟨[95,95,100,111,99,95,95]⟩⟩
abbrev q41:Str:=⟨⟨[95,95,112,97,99,107,97,103,101,95,95]⟩⟩
abbrev q42:Str:=⟨⟨[95,95,108,111,97,100,101,114,95,95]⟩⟩
abbrev q43:Str:=⟨⟨[95,95,115,112,101,99,95,95]⟩⟩
abbrev q44:Str:=⟨⟨[95,95,97,110,110,111,116,97,116,105,111,110,115,95,95]⟩⟩
abbrev q45:Str:=⟨⟨[95,95,98,117,105,108,116,105,110,115,95,95]⟩⟩
abbrev q46:Str:=⟨⟨[95,95,102,105,108,101,95,95]⟩⟩
abbrev q47:Str:=⟨⟨[95,95,99,97,99,104,101,100,95,95]⟩⟩
abbrev q48:Str:=⟨⟨[78,111,76,105,110,101]⟩⟩
abbrev q49:Str:=⟨⟨[78,111,78,97,109,101]⟩⟩
abbrev q50:Str:=⟨⟨[78,111,84,105,101]⟩⟩
abbrev q51:Str:=⟨⟨[78,111,75,110,111,116]⟩⟩
abbrev q52:Str:=⟨⟨[95,108,97,119,95,108,101,116,116,101,114,115]⟩⟩
abbrev q53:Str:=⟨⟨[102,117,108,108,95,99,111,108,117,109,110]⟩⟩
abbrev q54:Str:=⟨⟨[109,97,110,121]⟩⟩
abbrev q55:Str:=⟨⟨[103,97,116,101,102,111,108,100,46,98,105,116,115]⟩⟩
abbrev q56:Str:=⟨⟨[78,111,71,111,97,108]⟩⟩
abbrev q57:Str:=⟨⟨[95,108,97,119,95,100,114,97,119,110]⟩⟩
abbrev q58:Str:=⟨⟨[95,108,97,119,95,109,97,110,121]⟩⟩
abbrev q59:Str:=⟨⟨[95,108,97,119,95,99,101,108,108,115]⟩⟩
abbrev q60:Str:=⟨⟨[95,108,97,119,95,99,101,108,108]⟩⟩
abbrev q61:Str:=⟨⟨[95,108,97,119,95,111,117,116,115]⟩⟩
abbrev q62:Str:=⟨⟨[95,108,97,119,95,110,97,109,101,115]⟩⟩
abbrev q63:Str:=⟨⟨[95,108,97,119,95,97,108,108,95,110,97,109,101,115]⟩⟩
abbrev q64:Str:=⟨⟨[95,108,97,119,95,103,97,116,101,115]⟩⟩
abbrev q65:Str:=⟨⟨[95,108,97,119,95,107]⟩⟩
abbrev q67:Str:=⟨⟨[95,108,97,119,95,100,114,97,119,110,95,103,97,116,101]⟩⟩
abbrev q68:Str:=⟨⟨[95,108,97,119,95,111,117,116,112,117,116,115]⟩⟩
abbrev q69:Str:=⟨⟨[95,108,97,119,95,106]⟩⟩
abbrev q70:Str:=⟨⟨[95,108,97,119,95,98,97,99,107]⟩⟩
abbrev q71:Str:=⟨⟨[60,109,111,100,117,108,101,62]⟩⟩
abbrev q72:Str:=⟨⟨[78,111,83,105,122,101]⟩⟩
abbrev q73:Str:=⟨⟨[78,111,66,111,97,114,100]⟩⟩
abbrev q74:Str:=⟨⟨[105,115,95,110,97,109,101]⟩⟩
abbrev q76:Str:=⟨⟨[76,79,78,71,69,83,84,95,78,65,77,69]⟩⟩
abbrev q77:Str:=⟨⟨[75,69,80,84,95,87,79,82,68,83]⟩⟩
abbrev q80:Str:=⟨⟨[76,69,84,84,69,82,83]⟩⟩
abbrev q83:Str:=⟨⟨[103,97,116,101,102,111,108,100,46,103,97,116,101,115]⟩⟩
abbrev q84:Str:=⟨⟨[105,110,112,117,116,95,99,111,108,117,109,110,115]⟩⟩
abbrev q85:Str:=⟨⟨[80,65,82,84,95,67,79,85,78,84,83]⟩⟩
abbrev q86:Str:=⟨⟨[104,97,115,95,112,97,114,116,115]⟩⟩
abbrev q87:Str:=⟨⟨[97,108,108,95,108,105,116]⟩⟩
abbrev q88:Str:=⟨⟨[115,111,109,101,95,108,105,116]⟩⟩
abbrev q89:Str:=⟨⟨[111,100,100,95,108,105,116]⟩⟩
abbrev q90:Str:=⟨⟨[99,104,111,115,101,110,95,108,105,116]⟩⟩
abbrev q91:Str:=⟨⟨[109,111,115,116,95,108,105,116]⟩⟩
abbrev q92:Str:=⟨⟨[99,111,108,117,109,110,95,98,121]⟩⟩
abbrev q93:Str:=⟨⟨[116,114,117,116,104,95,99,111,108,117,109,110,115]⟩⟩
abbrev q94:Str:=⟨⟨[78,101,116]⟩⟩
abbrev q95:Str:=⟨⟨[77,79,83,84,95,73,78,80,85,84,83]⟩⟩
abbrev q96:Str:=⟨⟨[77,79,83,84,95,79,85,84,80,85,84,83]⟩⟩
abbrev q97:Str:=⟨⟨[119,111,114,100,115]⟩⟩
abbrev q98:Str:=⟨⟨[110,97,109,101,115,95,98,101,104,105,110,100]⟩⟩
abbrev q99:Str:=⟨⟨[105,110,112,117,116,115,95,111,102]⟩⟩
abbrev q100:Str:=⟨⟨[103,97,116,101,95,111,102]⟩⟩
abbrev q101:Str:=⟨⟨[111,117,116,112,117,116,115,95,111,102]⟩⟩
abbrev q102:Str:=⟨⟨[110,101,101,100,95,107,110,111,119,110]⟩⟩
abbrev q103:Str:=⟨⟨[95,108,97,119,95,99,101,108,108,95,97,116]⟩⟩
abbrev q104:Str:=⟨⟨[95,108,97,119,95,111,110,101,95,110,97,109,101]⟩⟩
abbrev q106:Str:=⟨⟨[103,97,116,101,102,111,108,100,46,110,101,116,108,105,110,101,115]⟩⟩
abbrev q107:Str:=⟨⟨[108,97,119]⟩⟩
abbrev q108:Str:=⟨⟨[95,108,97,119,95,115,99,114,105,112,116]⟩⟩
abbrev q109:Str:=⟨⟨[95,108,97,119,95,110,101,116]⟩⟩
abbrev q111:Str:=⟨⟨[95,108,97,119,95,114,111,119,115,95,104,101,114,101]⟩⟩
abbrev q112:Str:=⟨⟨[95,108,97,119,95,114,111,119,115]⟩⟩
abbrev q114:Str:=⟨⟨[95,108,97,119,95,115,112,111,105,108,116]⟩⟩
abbrev q115:Str:=⟨⟨[95,108,97,119,95,109,111,114,101]⟩⟩
abbrev q117:Str:=⟨⟨[110,111,116]⟩⟩
abbrev q119:Str:=⟨⟨[95,108,97,119,95,108,105,110,101,115]⟩⟩
abbrev q128:Str:=⟨⟨[95,108,97,119,95,107,105,110,100,115]⟩⟩
abbrev q133:Str:=⟨⟨[114,111,119]⟩⟩
abbrev q134:Str:=⟨⟨[107,110,111,119,110]⟩⟩
abbrev q137:Str:=⟨⟨[99,111,117,110,116]⟩⟩
abbrev q138:Str:=⟨⟨[98,111,117,110,100,115]⟩⟩
abbrev q139:Str:=⟨⟨[103,97,116,101,102,111,108,100,46,110,101,116,115]⟩⟩
abbrev q140:Str:=⟨⟨[95,108,97,119,95,119,114,111,110,103,95,101,110,100]⟩⟩
abbrev q141:Str:=⟨⟨[95,108,97,119,95,119,111,114,100]⟩⟩
abbrev q143:Str:=⟨⟨[95,108,97,119,95,112,108,97,99,101]⟩⟩
abbrev q145:Str:=⟨⟨[101,105,116,104,101,114]⟩⟩
abbrev q146:Str:=⟨⟨[121,101,115]⟩⟩
abbrev q148:Str:=⟨⟨[110,97,109,101,115]⟩⟩
abbrev q150:Str:=⟨⟨[95,108,97,119,95,107,110,111,119,110]⟩⟩
abbrev q154:Str:=⟨⟨[95,108,97,119,95,119,114,111,110,103,95,103,97,116,101]⟩⟩
abbrev q155:Str:=⟨⟨[99,111,108,117,109,110,115]⟩⟩
abbrev q156:Str:=⟨⟨[108,105,116]⟩⟩
abbrev q157:Str:=⟨⟨[99,111,108,117,109,110]⟩⟩
abbrev q160:Str:=⟨⟨[97,110,100]⟩⟩
abbrev q163:Str:=⟨⟨[111,114]⟩⟩
abbrev q164:Str:=⟨⟨[99,104,111,111,115,101]⟩⟩
abbrev q165:Str:=⟨⟨[109,111,115,116]⟩⟩
abbrev q166:Str:=⟨⟨[110,111]⟩⟩
abbrev q167:Str:=⟨⟨[95,108,97,119,95,99,111,117,110,116]⟩⟩
abbrev q172:Str:=⟨⟨[95,108,97,119,95,112,97,114,116,115]⟩⟩
abbrev q173:Str:=⟨⟨[101,118,101,114,121]⟩⟩
abbrev q180:Str:=⟨⟨[78,101,116,46,99,111,108,117,109,110,115]⟩⟩
abbrev q181:Str:=⟨⟨[115,101,108,102]⟩⟩
abbrev q182:Str:=⟨⟨[99,97,114,114,105,101,100]⟩⟩
abbrev q186:Str:=⟨⟨[95,108,97,119,95,107,105,110,100,115,95,104,101,114,101]⟩⟩
abbrev q187:Str:=⟨⟨[95,108,97,119,95,104,97,110,100,101,100]⟩⟩
abbrev q188:Str:=⟨⟨[101]⟩⟩
abbrev q190:Str:=⟨⟨[95,95,100,105,99,116,95,95]⟩⟩
abbrev q191:Str:=⟨⟨[78,101,116,46,99,97,114,114,105,101,100]⟩⟩
abbrev q192:Str:=⟨⟨[95,108,97,119,95,115,105,122,101]⟩⟩
abbrev q193:Str:=⟨⟨[95,108,97,119,95,99,111,100,101]⟩⟩
abbrev q194:Str:=⟨⟨[95,108,97,119,95,109,105,100,100,108,101]⟩⟩
abbrev q195:Str:=⟨⟨[95,108,97,119,95,110,101,97,114]⟩⟩
abbrev q196:Str:=⟨⟨[95,108,97,119,95,115,101,101,100]⟩⟩
abbrev q197:Str:=⟨⟨[95,108,97,119,95,115,116,97,116,101]⟩⟩
abbrev q200:Str:=⟨⟨[95,95,105,110,105,116,95,95]⟩⟩
abbrev q201:Str:=⟨⟨[78,101,116,46,95,95,105,110,105,116,95,95]⟩⟩
abbrev q203:Str:=⟨⟨[102,105,114,115,116]⟩⟩
abbrev q207:Str:=⟨⟨[116,111,108,100]⟩⟩
abbrev q208:Str:=⟨⟨[78,101,116,46,116,111,108,100]⟩⟩
abbrev q210:Str:=⟨⟨[95,108,97,119,95,115,112,97,110]⟩⟩
abbrev q212:Str:=⟨⟨[95,95,109,97,105,110,95,95]⟩⟩
def o43 (P:PM):OB:=oq y0 [] 0
abbrev e:=L o43
def o44 (P:PM):OB:=(Obj.mk vn none (df ⟨[]⟩) ⟨[]⟩)
def o45 (P:PM):OB:=of y1 [vs q71 182,vs q71 183,vs q8 184,vi 1 0,z0,z0,z0,z0,vr 11,bF,vi 181 0,vr 12,vn,vn,vn,vn,vi 185 0,vi 1 0,vs q8 186]
def o46 (P:PM):OB:=(ob y2 Data.plain ⟨[(sr 13),(sr 3),(sr 3),none,(ss q212 164),none,(sr 0)]⟩)
def o49 (P:PM):OB:=od y3 [de P q39 165 (vs q2 187),de P q40 166 vn,de P q41 167 vn,de P q42 168 (vb y4),de P q43 169 vn,de P q44 170 (vr 6),de P q45 171 (vr 4),de P q46 173 (vs q8 172),de P q47 174 vn,de P q9 206 (vr 24)] 10
def o50 (P:PM):OB:=(Obj.mk vn none (df ⟨[vi 2 0,z0,vr 20]⟩) ⟨[]⟩)
def o51 (P:PM):OB:=oq y0 [(vt y5)] 0
def o52 (P:PM):OB:=of y6 [(vb y7),(vt y8)]
def o53 (P:PM):OB:=od y3 [de P q1 196 (vs q2 187),de P q3 198 (vs q9 197),de P q5 200 (vi 2 199),de P q6 201 (vr 22)] 4
def o56 (P:PM):OB:=of y1 [vs q9 191,vs q9 192,vs q8 193,vi 2 0,z0,z0,z0,z0,vr 18,bF,vi 181 0,vr 19,vn,vn,vn,vn,vi 194 0,vi 2 0,vs q8 195]
def o57 (P:PM):OB:=(ob y2 Data.plain ⟨[(sr 20),(sr 3),(sr 17),none,(ss q2 187),none,(sr 0)]⟩)
def o59 (P:PM):OB:=od y3 [de P q1 196 (vs q2 187),de P q5 200 (vi 2 199),de P q6 201 (vr 22),de P q0 203 (vr 25),de P q40 204 vn] 3
def o60 (P:PM):OB:=(ob y8 (Data.cls (ClassData.mk q9 [(vt y5)] [vr 24,(vt y5),(vt y9),(vt y10),(vt y11)] 23 q9 true [] [] false none false)) ⟨[(sr 15),none,(ss q9 189),(ss q9 197),(some (vb y12)),(some bT)]⟩)
def o61 (P:PM):OB:=of y13 [vs q0 202,vr 24,(vb y14),vn]
def o62 (P:PM):OB:=of y15 [vr 24,vr 24,vr 24]
def o63 (P:PM):OB:=of y6 [(vb y16),vr 24]
def o64 (P:PM):OB:=od y3 [de P q39 165 (vs q2 187),de P q40 166 vn,de P q41 167 vn,de P q42 168 (vb y4),de P q43 169 vn,de P q44 170 (vr 6),de P q45 171 (vr 4),de P q46 173 (vs q8 172),de P q47 174 vn,de P q9 206 (vr 24),de P q48 222 (vr 37)] 11
def o65 (P:PM):OB:=(Obj.mk vn none (df ⟨[vi 2 0,z0,vr 20,vi 4 0,z0,vr 33]⟩) ⟨[]⟩)
def o66 (P:PM):OB:=(ob y8 (Data.cls (ClassData.mk q9 [(vt y5)] [vr 24,(vt y5),(vt y9),(vt y10),(vt y11)] 23 q9 true [] [vr 37] false none false)) ⟨[(sr 15),none,(ss q9 189),(ss q9 197),(some (vb y12)),(some bT)]⟩)
def o67 (P:PM):OB:=oq y0 [vr 24] 0
def o69 (P:PM):OB:=od y3 [de P q1 214 (vs q2 187),de P q3 216 (vs q48 215),de P q5 218 (vi 4 217),de P q6 219 (vr 35)] 4
def o72 (P:PM):OB:=of y1 [vs q48 209,vs q48 210,vs q8 211,vi 4 0,z0,z0,z0,z0,vr 31,bF,vi 181 0,vr 32,vn,vn,vn,vn,vi 212 0,vi 4 0,vs q8 213]
def o73 (P:PM):OB:=(ob y2 Data.plain ⟨[(sr 33),(sr 3),(sr 30),none,(ss q2 187),none,(sr 0)]⟩)
def o75 (P:PM):OB:=od y3 [de P q1 214 (vs q2 187),de P q5 218 (vi 4 217),de P q6 219 (vr 35),de P q40 220 vn] 2
def o76 (P:PM):OB:=(ob y8 (Data.cls (ClassData.mk q48 [vr 24] [vr 37,vr 24,(vt y5),(vt y9),(vt y10),(vt y11)] 36 q48 true [] [] false none false)) ⟨[(sr 28),none,(ss q48 207),(ss q48 215),(some (vb y12)),(some bT)]⟩)
def o77 (P:PM):OB:=of y15 [vr 37,vr 37,vr 37]
def o78 (P:PM):OB:=of y6 [(vb y16),vr 37]
def o79 (P:PM):OB:=od y3 [de P q39 165 (vs q2 187),de P q40 166 vn,de P q41 167 vn,de P q42 168 (vb y4),de P q43 169 vn,de P q44 170 (vr 6),de P q45 171 (vr 4),de P q46 173 (vs q8 172),de P q47 174 vn,de P q9 206 (vr 24),de P q48 222 (vr 37),de P q49 238 (vr 49)] 12
def o80 (P:PM):OB:=(Obj.mk vn none (df ⟨[vi 2 0,z0,vr 20,vi 4 0,z0,vr 33,vi 6 0,z0,vr 45]⟩) ⟨[]⟩)
def o81 (P:PM):OB:=(ob y8 (Data.cls (ClassData.mk q9 [(vt y5)] [vr 24,(vt y5),(vt y9),(vt y10),(vt y11)] 23 q9 true [] [vr 37,vr 49] false none false)) ⟨[(sr 15),none,(ss q9 189),(ss q9 197),(some (vb y12)),(some bT)]⟩)
def o84 (P:PM):OB:=od y3 [de P q1 230 (vs q2 187),de P q3 232 (vs q49 231),de P q5 234 (vi 6 233),de P q6 235 (vr 47)] 4
def o87 (P:PM):OB:=of y1 [vs q49 225,vs q49 226,vs q8 227,vi 6 0,z0,z0,z0,z0,vr 43,bF,vi 181 0,vr 44,vn,vn,vn,vn,vi 228 0,vi 6 0,vs q8 229]
def o88 (P:PM):OB:=(ob y2 Data.plain ⟨[(sr 45),(sr 3),(sr 42),none,(ss q2 187),none,(sr 0)]⟩)
def o90 (P:PM):OB:=od y3 [de P q1 230 (vs q2 187),de P q5 234 (vi 6 233),de P q6 235 (vr 47),de P q40 236 vn] 2
def o91 (P:PM):OB:=(ob y8 (Data.cls (ClassData.mk q49 [vr 24] [vr 49,vr 24,(vt y5),(vt y9),(vt y10),(vt y11)] 48 q49 true [] [] false none false)) ⟨[(sr 40),none,(ss q49 223),(ss q49 231),(some (vb y12)),(some bT)]⟩)
def o92 (P:PM):OB:=of y15 [vr 49,vr 49,vr 49]
def o93 (P:PM):OB:=of y6 [(vb y16),vr 49]
def o94 (P:PM):OB:=od y3 [de P q39 165 (vs q2 187),de P q40 166 vn,de P q41 167 vn,de P q42 168 (vb y4),de P q43 169 vn,de P q44 170 (vr 6),de P q45 171 (vr 4),de P q46 173 (vs q8 172),de P q47 174 vn,de P q9 206 (vr 24),de P q48 222 (vr 37),de P q49 238 (vr 49),de P q50 254 (vr 61)] 13
def o95 (P:PM):OB:=(Obj.mk vn none (df ⟨[vi 2 0,z0,vr 20,vi 4 0,z0,vr 33,vi 6 0,z0,vr 45,vi 8 0,z0,vr 57]⟩) ⟨[]⟩)
def o96 (P:PM):OB:=(ob y8 (Data.cls (ClassData.mk q9 [(vt y5)] [vr 24,(vt y5),(vt y9),(vt y10),(vt y11)] 23 q9 true [] [vr 37,vr 49,vr 61] false none false)) ⟨[(sr 15),none,(ss q9 189),(ss q9 197),(some (vb y12)),(some bT)]⟩)
def o99 (P:PM):OB:=od y3 [de P q1 246 (vs q2 187),de P q3 248 (vs q50 247),de P q5 250 (vi 8 249),de P q6 251 (vr 59)] 4
def o102 (P:PM):OB:=of y1 [vs q50 241,vs q50 242,vs q8 243,vi 8 0,z0,z0,z0,z0,vr 55,bF,vi 181 0,vr 56,vn,vn,vn,vn,vi 244 0,vi 8 0,vs q8 245]
def o103 (P:PM):OB:=(ob y2 Data.plain ⟨[(sr 57),(sr 3),(sr 54),none,(ss q2 187),none,(sr 0)]⟩)
def o105 (P:PM):OB:=od y3 [de P q1 246 (vs q2 187),de P q5 250 (vi 8 249),de P q6 251 (vr 59),de P q40 252 vn] 2
def o106 (P:PM):OB:=(ob y8 (Data.cls (ClassData.mk q50 [vr 24] [vr 61,vr 24,(vt y5),(vt y9),(vt y10),(vt y11)] 60 q50 true [] [] false none false)) ⟨[(sr 52),none,(ss q50 239),(ss q50 247),(some (vb y12)),(some bT)]⟩)
def o107 (P:PM):OB:=of y15 [vr 61,vr 61,vr 61]
def o108 (P:PM):OB:=of y6 [(vb y16),vr 61]
def o109 (P:PM):OB:=od y3 [de P q39 165 (vs q2 187),de P q40 166 vn,de P q41 167 vn,de P q42 168 (vb y4),de P q43 169 vn,de P q44 170 (vr 6),de P q45 171 (vr 4),de P q46 173 (vs q8 172),de P q47 174 vn,de P q9 206 (vr 24),de P q48 222 (vr 37),de P q49 238 (vr 49),de P q50 254 (vr 61),de P q51 270 (vr 73)] 14
def o110 (P:PM):OB:=(Obj.mk vn none (df ⟨[vi 2 0,z0,vr 20,vi 4 0,z0,vr 33,vi 6 0,z0,vr 45,vi 8 0,z0,vr 57,vi 10 0,z0,vr 69]⟩) ⟨[]⟩)
def o111 (P:PM):OB:=(ob y8 (Data.cls (ClassData.mk q9 [(vt y5)] [vr 24,(vt y5),(vt y9),(vt y10),(vt y11)] 23 q9 true [] [vr 37,vr 49,vr 61,vr 73] false none false)) ⟨[(sr 15),none,(ss q9 189),(ss q9 197),(some (vb y12)),(some bT)]⟩)
def o114 (P:PM):OB:=od y3 [de P q1 262 (vs q2 187),de P q3 264 (vs q51 263),de P q5 266 (vi 10 265),de P q6 267 (vr 71)] 4
def o117 (P:PM):OB:=of y1 [vs q51 257,vs q51 258,vs q8 259,vi 10 0,z0,z0,z0,z0,vr 67,bF,vi 181 0,vr 68,vn,vn,vn,vn,vi 260 0,vi 10 0,vs q8 261]
def o118 (P:PM):OB:=(ob y2 Data.plain ⟨[(sr 69),(sr 3),(sr 66),none,(ss q2 187),none,(sr 0)]⟩)
def o120 (P:PM):OB:=od y3 [de P q1 262 (vs q2 187),de P q5 266 (vi 10 265),de P q6 267 (vr 71),de P q40 268 vn] 2
def o121 (P:PM):OB:=(ob y8 (Data.cls (ClassData.mk q51 [vr 24] [vr 73,vr 24,(vt y5),(vt y9),(vt y10),(vt y11)] 72 q51 true [] [] false none false)) ⟨[(sr 64),none,(ss q51 255),(ss q51 263),(some (vb y12)),(some bT)]⟩)
def o122 (P:PM):OB:=of y15 [vr 73,vr 73,vr 73]
def o123 (P:PM):OB:=of y6 [(vb y16),vr 73]
def o124 (P:PM):OB:=od y3 [de P q39 165 (vs q2 187),de P q40 166 vn,de P q41 167 vn,de P q42 168 (vb y4),de P q43 169 vn,de P q44 170 (vr 6),de P q45 171 (vr 4),de P q46 173 (vs q8 172),de P q47 174 vn,de P q9 206 (vr 24),de P q48 222 (vr 37),de P q49 238 (vr 49),de P q50 254 (vr 61),de P q51 270 (vr 73),de P q4 286 (vr 85)] 15
def o125 (P:PM):OB:=(Obj.mk vn none (df ⟨[vi 2 0,z0,vr 20,vi 4 0,z0,vr 33,vi 6 0,z0,vr 45,vi 8 0,z0,vr 57,vi 10 0,z0,vr 69,vi 12 0,z0,vr 81]⟩) ⟨[]⟩)
def o126 (P:PM):OB:=(ob y8 (Data.cls (ClassData.mk q9 [(vt y5)] [vr 24,(vt y5),(vt y9),(vt y10),(vt y11)] 23 q9 true [] [vr 37,vr 49,vr 61,vr 73,vr 85] false none false)) ⟨[(sr 15),none,(ss q9 189),(ss q9 197),(some (vb y12)),(some bT)]⟩)
def o129 (P:PM):OB:=od y3 [de P q1 278 (vs q2 187),de P q3 280 (vs q4 279),de P q5 282 (vi 12 281),de P q6 283 (vr 83)] 4
def o132 (P:PM):OB:=of y1 [vs q4 273,vs q4 274,vs q8 275,vi 12 0,z0,z0,z0,z0,vr 79,bF,vi 181 0,vr 80,vn,vn,vn,vn,vi 276 0,vi 12 0,vs q8 277]
def o133 (P:PM):OB:=(ob y2 Data.plain ⟨[(sr 81),(sr 3),(sr 78),none,(ss q2 187),none,(sr 0)]⟩)
def o135 (P:PM):OB:=od y3 [de P q1 278 (vs q2 187),de P q5 282 (vi 12 281),de P q6 283 (vr 83),de P q40 284 vn] 2
def o136 (P:PM):OB:=(ob y8 (Data.cls (ClassData.mk q4 [vr 24] [vr 85,vr 24,(vt y5),(vt y9),(vt y10),(vt y11)] 84 q4 true [] [] false none false)) ⟨[(sr 76),none,(ss q4 271),(ss q4 279),(some (vb y12)),(some bT)]⟩)
def o137 (P:PM):OB:=of y15 [vr 85,vr 85,vr 85]
def o138 (P:PM):OB:=of y6 [(vb y16),vr 85]
def o139 (P:PM):OB:=od y3 [de P q39 165 (vs q2 187),de P q40 166 vn,de P q41 167 vn,de P q42 168 (vb y4),de P q43 169 vn,de P q44 170 (vr 6),de P q45 171 (vr 4),de P q46 173 (vs q8 172),de P q47 174 vn,de P q9 206 (vr 24),de P q48 222 (vr 37),de P q49 238 (vr 49),de P q50 254 (vr 61),de P q51 270 (vr 73),de P q4 286 (vr 85),de P q56 302 (vr 97)] 16
def o140 (P:PM):OB:=(Obj.mk vn none (df ⟨[vi 2 0,z0,vr 20,vi 4 0,z0,vr 33,vi 6 0,z0,vr 45,vi 8 0,z0,vr 57,vi 10 0,z0,vr 69,vi 12 0,z0,vr 81,vi 14 0,z0,vr 93]⟩) ⟨[]⟩)
def o141 (P:PM):OB:=(ob y8 (Data.cls (ClassData.mk q9 [(vt y5)] [vr 24,(vt y5),(vt y9),(vt y10),(vt y11)] 23 q9 true [] [vr 37,vr 49,vr 61,vr 73,vr 85,vr 97] false none false)) ⟨[(sr 15),none,(ss q9 189),(ss q9 197),(some (vb y12)),(some bT)]⟩)
def o144 (P:PM):OB:=od y3 [de P q1 294 (vs q2 187),de P q3 296 (vs q56 295),de P q5 298 (vi 14 297),de P q6 299 (vr 95)] 4
def o147 (P:PM):OB:=of y1 [vs q56 289,vs q56 290,vs q8 291,vi 14 0,z0,z0,z0,z0,vr 91,bF,vi 181 0,vr 92,vn,vn,vn,vn,vi 292 0,vi 14 0,vs q8 293]
def o148 (P:PM):OB:=(ob y2 Data.plain ⟨[(sr 93),(sr 3),(sr 90),none,(ss q2 187),none,(sr 0)]⟩)
def o150 (P:PM):OB:=od y3 [de P q1 294 (vs q2 187),de P q5 298 (vi 14 297),de P q6 299 (vr 95),de P q40 300 vn] 2
def o151 (P:PM):OB:=(ob y8 (Data.cls (ClassData.mk q56 [vr 24] [vr 97,vr 24,(vt y5),(vt y9),(vt y10),(vt y11)] 96 q56 true [] [] false none false)) ⟨[(sr 88),none,(ss q56 287),(ss q56 295),(some (vb y12)),(some bT)]⟩)
def o152 (P:PM):OB:=of y15 [vr 97,vr 97,vr 97]
def o153 (P:PM):OB:=of y6 [(vb y16),vr 97]
def o154 (P:PM):OB:=od y3 [de P q39 165 (vs q2 187),de P q40 166 vn,de P q41 167 vn,de P q42 168 (vb y4),de P q43 169 vn,de P q44 170 (vr 6),de P q45 171 (vr 4),de P q46 173 (vs q8 172),de P q47 174 vn,de P q9 206 (vr 24),de P q48 222 (vr 37),de P q49 238 (vr 49),de P q50 254 (vr 61),de P q51 270 (vr 73),de P q4 286 (vr 85),de P q56 302 (vr 97),de P q72 318 (vr 109)] 17
def o155 (P:PM):OB:=(Obj.mk vn none (df ⟨[vi 2 0,z0,vr 20,vi 4 0,z0,vr 33,vi 6 0,z0,vr 45,vi 8 0,z0,vr 57,vi 10 0,z0,vr 69,vi 12 0,z0,vr 81,vi 14 0,z0,vr 93,vi 16 0,z0,vr 105]⟩) ⟨[]⟩)
def o156 (P:PM):OB:=(ob y8 (Data.cls (ClassData.mk q9 [(vt y5)] [vr 24,(vt y5),(vt y9),(vt y10),(vt y11)] 23 q9 true [] [vr 37,vr 49,vr 61,vr 73,vr 85,vr 97,vr 109] false none false)) ⟨[(sr 15),none,(ss q9 189),(ss q9 197),(some (vb y12)),(some bT)]⟩)
def o159 (P:PM):OB:=od y3 [de P q1 310 (vs q2 187),de P q3 312 (vs q72 311),de P q5 314 (vi 16 313),de P q6 315 (vr 107)] 4
def o162 (P:PM):OB:=of y1 [vs q72 305,vs q72 306,vs q8 307,vi 16 0,z0,z0,z0,z0,vr 103,bF,vi 181 0,vr 104,vn,vn,vn,vn,vi 308 0,vi 16 0,vs q8 309]
def o163 (P:PM):OB:=(ob y2 Data.plain ⟨[(sr 105),(sr 3),(sr 102),none,(ss q2 187),none,(sr 0)]⟩)
def o165 (P:PM):OB:=od y3 [de P q1 310 (vs q2 187),de P q5 314 (vi 16 313),de P q6 315 (vr 107),de P q40 316 vn] 2
def o166 (P:PM):OB:=(ob y8 (Data.cls (ClassData.mk q72 [vr 24] [vr 109,vr 24,(vt y5),(vt y9),(vt y10),(vt y11)] 108 q72 true [] [] false none false)) ⟨[(sr 100),none,(ss q72 303),(ss q72 311),(some (vb y12)),(some bT)]⟩)
def o167 (P:PM):OB:=of y15 [vr 109,vr 109,vr 109]
def o168 (P:PM):OB:=of y6 [(vb y16),vr 109]
def o169 (P:PM):OB:=od y3 [de P q39 165 (vs q2 187),de P q40 166 vn,de P q41 167 vn,de P q42 168 (vb y4),de P q43 169 vn,de P q44 170 (vr 6),de P q45 171 (vr 4),de P q46 173 (vs q8 172),de P q47 174 vn,de P q9 206 (vr 24),de P q48 222 (vr 37),de P q49 238 (vr 49),de P q50 254 (vr 61),de P q51 270 (vr 73),de P q4 286 (vr 85),de P q56 302 (vr 97),de P q72 318 (vr 109),de P q73 334 (vr 121)] 18
def o170 (P:PM):OB:=(Obj.mk vn none (df ⟨[vi 2 0,z0,vr 20,vi 4 0,z0,vr 33,vi 6 0,z0,vr 45,vi 8 0,z0,vr 57,vi 10 0,z0,vr 69,vi 12 0,z0,vr 81,vi 14 0,z0,vr 93,vi 16 0,z0,vr 105,vi 18 0,z0,vr 117]⟩) ⟨[]⟩)
def o171 (P:PM):OB:=(ob y8 (Data.cls (ClassData.mk q9 [(vt y5)] [vr 24,(vt y5),(vt y9),(vt y10),(vt y11)] 23 q9 true [] [vr 37,vr 49,vr 61,vr 73,vr 85,vr 97,vr 109,vr 121] false none false)) ⟨[(sr 15),none,(ss q9 189),(ss q9 197),(some (vb y12)),(some bT)]⟩)
def o174 (P:PM):OB:=od y3 [de P q1 326 (vs q2 187),de P q3 328 (vs q73 327),de P q5 330 (vi 18 329),de P q6 331 (vr 119)] 4
def o177 (P:PM):OB:=of y1 [vs q73 321,vs q73 322,vs q8 323,vi 18 0,z0,z0,z0,z0,vr 115,bF,vi 181 0,vr 116,vn,vn,vn,vn,vi 324 0,vi 18 0,vs q8 325]
def o178 (P:PM):OB:=(ob y2 Data.plain ⟨[(sr 117),(sr 3),(sr 114),none,(ss q2 187),none,(sr 0)]⟩)
def o180 (P:PM):OB:=od y3 [de P q1 326 (vs q2 187),de P q5 330 (vi 18 329),de P q6 331 (vr 119),de P q40 332 vn] 2
def o181 (P:PM):OB:=(ob y8 (Data.cls (ClassData.mk q73 [vr 24] [vr 121,vr 24,(vt y5),(vt y9),(vt y10),(vt y11)] 120 q73 true [] [] false none false)) ⟨[(sr 112),none,(ss q73 319),(ss q73 327),(some (vb y12)),(some bT)]⟩)
def o182 (P:PM):OB:=of y15 [vr 121,vr 121,vr 121]
def o183 (P:PM):OB:=of y6 [(vb y16),vr 121]
def o184 (P:PM):OB:=od y3 [de P q39 165 (vs q2 187),de P q40 166 vn,de P q41 167 vn,de P q42 168 (vb y4),de P q43 169 vn,de P q44 170 (vr 6),de P q45 171 (vr 4),de P q46 173 (vs q8 172),de P q47 174 vn,de P q9 206 (vr 24),de P q48 222 (vr 37),de P q49 238 (vr 49),de P q50 254 (vr 61),de P q51 270 (vr 73),de P q4 286 (vr 85),de P q56 302 (vr 97),de P q72 318 (vr 109),de P q73 334 (vr 121),de P q22 350 (vr 133)] 19
def o185 (P:PM):OB:=(Obj.mk vn none (df ⟨[vi 2 0,z0,vr 20,vi 4 0,z0,vr 33,vi 6 0,z0,vr 45,vi 8 0,z0,vr 57,vi 10 0,z0,vr 69,vi 12 0,z0,vr 81,vi 14 0,z0,vr 93,vi 16 0,z0,vr 105,vi 18 0,z0,vr 117,vi 20 0,z0,vr 129]⟩) ⟨[]⟩)
def o186 (P:PM):OB:=(ob y8 (Data.cls (ClassData.mk q9 [(vt y5)] [vr 24,(vt y5),(vt y9),(vt y10),(vt y11)] 23 q9 true [] [vr 37,vr 49,vr 61,vr 73,vr 85,vr 97,vr 109,vr 121,vr 133] false none false)) ⟨[(sr 15),none,(ss q9 189),(ss q9 197),(some (vb y12)),(some bT)]⟩)
def o189 (P:PM):OB:=od y3 [de P q1 342 (vs q2 187),de P q3 344 (vs q22 343),de P q5 346 (vi 20 345),de P q6 347 (vr 131)] 4
def o192 (P:PM):OB:=of y1 [vs q22 337,vs q22 338,vs q8 339,vi 20 0,z0,z0,z0,z0,vr 127,bF,vi 181 0,vr 128,vn,vn,vn,vn,vi 340 0,vi 20 0,vs q8 341]
def o193 (P:PM):OB:=(ob y2 Data.plain ⟨[(sr 129),(sr 3),(sr 126),none,(ss q2 187),none,(sr 0)]⟩)
def o195 (P:PM):OB:=od y3 [de P q1 342 (vs q2 187),de P q5 346 (vi 20 345),de P q6 347 (vr 131),de P q40 348 vn] 2
def o196 (P:PM):OB:=(ob y8 (Data.cls (ClassData.mk q22 [vr 24] [vr 133,vr 24,(vt y5),(vt y9),(vt y10),(vt y11)] 132 q22 true [] [] false none false)) ⟨[(sr 124),none,(ss q22 335),(ss q22 343),(some (vb y12)),(some bT)]⟩)
def o197 (P:PM):OB:=of y15 [vr 133,vr 133,vr 133]
def o198 (P:PM):OB:=of y6 [(vb y16),vr 133]
def o199 (P:PM):OB:=od y3 [de P q39 165 (vs q83 382),de P q40 166 vn,de P q41 167 vn,de P q42 168 (vb y4),de P q43 169 vn,de P q44 170 (vr 6),de P q45 171 (vr 4),de P q46 173 (vs q8 172),de P q47 174 vn,de P q9 206 (vr 24),de P q48 222 (vr 37),de P q49 238 (vr 49),de P q50 254 (vr 61),de P q51 270 (vr 73),de P q4 286 (vr 85),de P q56 302 (vr 97),de P q72 318 (vr 109),de P q73 334 (vr 121),de P q22 350 (vr 133),de P q21 366 (vr 145),de P q53 375 (vr 154),de P q84 381 (vr 159),de P q80 385 (vs q13 384),de P q76 387 (vi 8 386),de P q77 399 (vr 160)] 25
def o200 (P:PM):OB:=(Obj.mk vn none (df ⟨[vi 2 0,z0,vr 20,vi 4 0,z0,vr 33,vi 6 0,z0,vr 45,vi 8 0,z0,vr 57,vi 10 0,z0,vr 69,vi 12 0,z0,vr 81,vi 14 0,z0,vr 93,vi 16 0,z0,vr 105,vi 18 0,z0,vr 117,vi 20 0,z0,vr 129,vi 22 0,z0,vr 141,vi 25 0,z0,vr 153,vi 27 0,z0,vr 158]⟩) ⟨[]⟩)
def o201 (P:PM):OB:=(ob y8 (Data.cls (ClassData.mk q9 [(vt y5)] [vr 24,(vt y5),(vt y9),(vt y10),(vt y11)] 23 q9 true [] [vr 37,vr 49,vr 61,vr 73,vr 85,vr 97,vr 109,vr 121,vr 133,vr 145] false none false)) ⟨[(sr 15),none,(ss q9 189),(ss q9 197),(some (vb y12)),(some bT)]⟩)
def o204 (P:PM):OB:=od y3 [de P q1 358 (vs q2 187),de P q3 360 (vs q21 359),de P q5 362 (vi 22 361),de P q6 363 (vr 143)] 4
def o207 (P:PM):OB:=of y1 [vs q21 353,vs q21 354,vs q8 355,vi 22 0,z0,z0,z0,z0,vr 139,bF,vi 181 0,vr 140,vn,vn,vn,vn,vi 356 0,vi 22 0,vs q8 357]
def o208 (P:PM):OB:=(ob y2 Data.plain ⟨[(sr 141),(sr 3),(sr 138),none,(ss q2 187),none,(sr 0)]⟩)
def o210 (P:PM):OB:=od y3 [de P q1 358 (vs q2 187),de P q5 362 (vi 22 361),de P q6 363 (vr 143),de P q40 364 vn] 2
def o211 (P:PM):OB:=(ob y8 (Data.cls (ClassData.mk q21 [vr 24] [vr 145,vr 24,(vt y5),(vt y9),(vt y10),(vt y11)] 144 q21 true [] [] false none false)) ⟨[(sr 136),none,(ss q21 351),(ss q21 359),(some (vb y12)),(some bT)]⟩)
def o212 (P:PM):OB:=of y15 [vr 145,vr 145,vr 145]
def o213 (P:PM):OB:=of y6 [(vb y16),vr 145]
def o216 (P:PM):OB:=oq y0 [vs q54 372] 0
def o218 (P:PM):OB:=j0 q53 q53 (tT 13)
def o219 (P:PM):OB:=of y1 [vs q53 369,vs q53 370,vs q8 371,vi 25 0,vi 1 0,z0,z0,vi 3 0,vr 148,bT,vi 181 0,vr 149,vn,vr 150,vr 151,vr 152,vi 373 0,vi 25 0,vs q8 374]
def o220 (P:PM):OB:=j1 q53 q53 (tT 13) q55 367 153
def o223 (P:PM):OB:=j0 q84 q84 (tT 14)
def o224 (P:PM):OB:=of y1 [vs q84 376,vs q84 377,vs q8 378,vi 27 0,vi 1 0,z0,z0,vi 3 0,vr 155,bT,vi 181 0,vr 156,vn,vn,vn,vr 157,vi 379 0,vi 27 0,vs q8 380]
def o225 (P:PM):OB:=j1 q84 q84 (tT 14) q55 367 158
def o226 (P:PM):OB:=oq y0 [vs q28 388,vs q37 389,vs q36 390,vs q160 391,vs q163 392,vs q145 393,vs q117 394,vs q164 395,vs q165 396,vs q146 397,vs q166 398] 0
def o227 (P:PM):OB:=od y3 [de P q39 165 (vs q83 382),de P q40 166 vn,de P q41 167 vn,de P q42 168 (vb y4),de P q43 169 vn,de P q44 170 (vr 6),de P q45 171 (vr 4),de P q46 173 (vs q8 172),de P q47 174 vn,de P q9 206 (vr 24),de P q48 222 (vr 37),de P q49 238 (vr 49),de P q50 254 (vr 61),de P q51 270 (vr 73),de P q4 286 (vr 85),de P q56 302 (vr 97),de P q72 318 (vr 109),de P q73 334 (vr 121),de P q22 350 (vr 133),de P q21 366 (vr 145),de P q53 375 (vr 154),de P q84 381 (vr 159),de P q80 385 (vs q13 384),de P q76 387 (vi 8 386),de P q77 399 (vr 160),de P q85 432 (vr 161),de P q74 438 (vr 174),de P q86 447 (vr 181),de P q87 457 (vr 188),de P q88 466 (vr 195),de P q89 475 (vr 202),de P q90 484 (vr 209),de P q91 491 (vr 216),de P q92 500 (vr 223)] 34
def o228 (P:PM):OB:=(Obj.mk vn none (df ⟨[vi 2 0,z0,vr 20,vi 4 0,z0,vr 33,vi 6 0,z0,vr 45,vi 8 0,z0,vr 57,vi 10 0,z0,vr 69,vi 12 0,z0,vr 81,vi 14 0,z0,vr 93,vi 16 0,z0,vr 105,vi 18 0,z0,vr 117,vi 20 0,z0,vr 129,vi 22 0,z0,vr 141,vi 25 0,z0,vr 153,vi 27 0,z0,vr 158,vi 42 0,z0,vr 173,vi 46 0,z0,vr 180,vi 51 0,z0,vr 187,vi 56 0,z0,vr 194,vi 61 0,z0,vr 201,vi 66 0,z0,vr 208,vi 69 0,z0,vr 215,vi 71 0,z0,vr 222]⟩) ⟨[]⟩)
def o229 (P:PM):OB:=od y3 [de P q160 400 (vr 162),de P q163 403 (vr 163),de P q145 406 (vr 164),de P q117 409 (vr 165),de P q164 412 (vr 166),de P q165 415 (vr 167),de P q146 418 (vr 168),de P q166 421 (vr 169)] 8
def o230 (P:PM):OB:=oq y0 [vi 2 401,vi 6 402] 0
def o231 (P:PM):OB:=oq y0 [vi 2 404,vi 6 405] 0
def o232 (P:PM):OB:=oq y0 [vi 2 407,vi 6 408] 0
def o233 (P:PM):OB:=oq y0 [vi 1 410,vi 1 411] 0
def o234 (P:PM):OB:=oq y0 [vi 3 413,vi 3 414] 0
def o235 (P:PM):OB:=oq y0 [vi 3 416,vi 3 417] 0
def o236 (P:PM):OB:=oq y0 [vi 0 419,vi 0 420] 0
def o237 (P:PM):OB:=oq y0 [vi 0 422,vi 0 423] 0
def o240 (P:PM):OB:=j0 q74 q74 (tT 20)
def o241 (P:PM):OB:=of y1 [vs q74 433,vs q74 434,vs q8 435,vi 42 0,vi 1 0,z0,z0,vi 3 0,vr 170,bT,vi 181 0,vr 171,vn,vn,vn,vr 172,vi 436 0,vi 42 0,vs q8 437]
def o242 (P:PM):OB:=j1 q74 q74 (tT 20) q83 382 173
def o245 (P:PM):OB:=oq y0 [vs q32 442,vs q137 443,vs q138 444] 0
def o247 (P:PM):OB:=j0 q86 q86 (tT 21)
def o248 (P:PM):OB:=of y1 [vs q86 439,vs q86 440,vs q8 441,vi 46 0,vi 2 0,z0,z0,vi 3 0,vr 175,bT,vi 181 0,vr 176,vn,vr 177,vr 178,vr 179,vi 445 0,vi 46 0,vs q8 446]
def o249 (P:PM):OB:=j1 q86 q86 (tT 21) q83 382 180
def o252 (P:PM):OB:=oq y0 [vs q155 451,vs q173 452,vs q156 453,vs q157 454] 0
def o254 (P:PM):OB:=j0 q87 q87 (tT 22)
def o255 (P:PM):OB:=of y1 [vs q87 448,vs q87 449,vs q8 450,vi 51 0,vi 2 0,z0,z0,vi 3 0,vr 182,bT,vi 181 0,vr 183,vn,vr 184,vr 185,vr 186,vi 455 0,vi 51 0,vs q8 456]
def o256 (P:PM):OB:=j1 q87 q87 (tT 22) q83 382 187
def o259 (P:PM):OB:=oq y0 [vs q155 461,vs q156 462,vs q157 463] 0
def o261 (P:PM):OB:=j0 q88 q88 (tT 23)
def o262 (P:PM):OB:=of y1 [vs q88 458,vs q88 459,vs q8 460,vi 56 0,vi 1 0,z0,z0,vi 3 0,vr 189,bT,vi 181 0,vr 190,vn,vr 191,vr 192,vr 193,vi 464 0,vi 56 0,vs q8 465]
def o263 (P:PM):OB:=j1 q88 q88 (tT 23) q83 382 194
def o266 (P:PM):OB:=oq y0 [vs q155 470,vs q156 471,vs q157 472] 0
def o268 (P:PM):OB:=j0 q89 q89 (tT 24)
def o269 (P:PM):OB:=of y1 [vs q89 467,vs q89 468,vs q8 469,vi 61 0,vi 1 0,z0,z0,vi 3 0,vr 196,bT,vi 181 0,vr 197,vn,vr 198,vr 199,vr 200,vi 473 0,vi 61 0,vs q8 474]
def o270 (P:PM):OB:=j1 q89 q89 (tT 24) q83 382 201
def o273 (P:PM):OB:=oq y0 [vs q155 479,vs q173 480,vs q203 481] 0
def o275 (P:PM):OB:=j0 q90 q90 (tT 25)
def o276 (P:PM):OB:=of y1 [vs q90 476,vs q90 477,vs q8 478,vi 66 0,vi 2 0,z0,z0,vi 3 0,vr 203,bT,vi 181 0,vr 204,vn,vr 205,vr 206,vr 207,vi 482 0,vi 66 0,vs q8 483]
def o277 (P:PM):OB:=j1 q90 q90 (tT 25) q83 382 208
def o280 (P:PM):OB:=oq y0 [vs q155 488] 0
def o282 (P:PM):OB:=j0 q91 q91 (tT 26)
def o283 (P:PM):OB:=of y1 [vs q91 485,vs q91 486,vs q8 487,vi 69 0,vi 1 0,z0,z0,vi 3 0,vr 210,bT,vi 181 0,vr 211,vn,vr 212,vr 213,vr 214,vi 489 0,vi 69 0,vs q8 490]
def o284 (P:PM):OB:=j1 q91 q91 (tT 26) q83 382 215
def o287 (P:PM):OB:=oq y0 [vs q32 495,vs q155 496,vs q173 497] 0
def o289 (P:PM):OB:=j0 q92 q92 (tT 27)
def o290 (P:PM):OB:=of y1 [vs q92 492,vs q92 493,vs q8 494,vi 71 0,vi 3 0,z0,z0,vi 3 0,vr 217,bT,vi 181 0,vr 218,vn,vr 219,vr 220,vr 221,vi 498 0,vi 71 0,vs q8 499]
def o291 (P:PM):OB:=j1 q92 q92 (tT 27) q83 382 222
def o294 (P:PM):OB:=od y3 [de P q39 165 (vs q106 558),de P q40 166 vn,de P q41 167 vn,de P q42 168 (vb y4),de P q43 169 vn,de P q44 170 (vr 6),de P q45 171 (vr 4),de P q46 173 (vs q8 172),de P q47 174 vn,de P q9 206 (vr 24),de P q48 222 (vr 37),de P q49 238 (vr 49),de P q50 254 (vr 61),de P q51 270 (vr 73),de P q4 286 (vr 85),de P q56 302 (vr 97),de P q72 318 (vr 109),de P q73 334 (vr 121),de P q22 350 (vr 133),de P q21 366 (vr 145),de P q53 375 (vr 154),de P q84 381 (vr 159),de P q80 385 (vs q13 384),de P q76 387 (vi 8 386),de P q77 399 (vr 160),de P q85 432 (vr 161),de P q74 438 (vr 174),de P q86 447 (vr 181),de P q87 457 (vr 188),de P q88 466 (vr 195),de P q89 475 (vr 202),de P q90 484 (vr 209),de P q91 491 (vr 216),de P q92 500 (vr 223),de P q93 506 (vr 228),de P q94 557 (vr 260),de P q95 561 (vi 10 560),de P q96 563 (vi 16 562),de P q97 569 (vr 269)] 39
def o295 (P:PM):OB:=(Obj.mk vn none (df ⟨[vi 2 0,z0,vr 20,vi 4 0,z0,vr 33,vi 6 0,z0,vr 45,vi 8 0,z0,vr 57,vi 10 0,z0,vr 69,vi 12 0,z0,vr 81,vi 14 0,z0,vr 93,vi 16 0,z0,vr 105,vi 18 0,z0,vr 117,vi 20 0,z0,vr 129,vi 22 0,z0,vr 141,vi 25 0,z0,vr 153,vi 27 0,z0,vr 158,vi 42 0,z0,vr 173,vi 46 0,z0,vr 180,vi 51 0,z0,vr 187,vi 56 0,z0,vr 194,vi 61 0,z0,vr 201,vi 66 0,z0,vr 208,vi 69 0,z0,vr 215,vi 71 0,z0,vr 222,vi 85 0,z0,vr 227,vi 88 0,z0,vr 234,vi 111 0,z0,vr 268]⟩) ⟨[]⟩)
def o298 (P:PM):OB:=j0 q93 q93 (tT 28)
def o299 (P:PM):OB:=of y1 [vs q93 501,vs q93 502,vs q8 503,vi 85 0,vi 1 0,z0,z0,vi 3 0,vr 224,bT,vi 181 0,vr 225,vn,vn,vn,vr 226,vi 504 0,vi 85 0,vs q8 505]
def o300 (P:PM):OB:=j1 q93 q93 (tT 28) q83 382 227
def o303 (P:PM):OB:=od y3 [de P q1 516 (vs q139 507),de P q3 518 (vs q94 517),de P q5 520 (vi 88 519),de P q200 526 (vr 240),de P q207 532 (vr 245),de P q155 540 (vr 252),de P q182 546 (vr 257),de P q6 550 (vr 258)] 8
def o305 (P:PM):OB:=(Obj.mk vn none (df ⟨[vi 90 0,vi 4 0,vr 239,vi 95 0,vi 4 0,vr 244,vi 99 0,vi 4 0,vr 251,vi 103 0,vi 4 0,vr 256]⟩) ⟨[]⟩)
def o306 (P:PM):OB:=of y1 [vs q94 511,vs q94 512,vs q8 513,vi 88 0,z0,z0,z0,z0,vr 232,bF,vi 181 0,vr 233,vn,vn,vn,vn,vi 514 0,vi 88 0,vs q8 515]
def o307 (P:PM):OB:=(ob y2 Data.plain ⟨[(sr 234),(sr 3),(sr 231),none,(ss q139 507),none,(sr 0)]⟩)
def o310 (P:PM):OB:=j0 q200 q201 (inClass (tT 30) 0)
def o311 (P:PM):OB:=of y1 [vs q200 521,vs q201 522,vs q8 523,vi 90 0,vi 4 0,z0,z0,vi 3 0,vr 236,bT,vi 181 0,vr 237,vn,vn,vn,vr 238,vi 524 0,vi 90 0,vs q8 525]
def o312 (P:PM):OB:=j1 q200 q201 (inClass (tT 30) 0) q139 507 239
def o315 (P:PM):OB:=j0 q207 q208 (inClass (tT 30) 1)
def o316 (P:PM):OB:=of y1 [vs q207 527,vs q208 528,vs q8 529,vi 95 0,vi 2 0,z0,z0,vi 3 0,vr 241,bT,vi 181 0,vr 242,vn,vn,vn,vr 243,vi 530 0,vi 95 0,vs q8 531]
def o317 (P:PM):OB:=j1 q207 q208 (inClass (tT 30) 1) q139 507 244
def o320 (P:PM):OB:=oq y0 [vs q181 536,vs q54 537] 0
def o322 (P:PM):OB:=j0 q155 q180 (inClass (tT 30) 2)
def o323 (P:PM):OB:=of y1 [vs q155 533,vs q180 534,vs q8 535,vi 99 0,vi 1 0,z0,z0,vi 3 0,vr 246,bT,vi 181 0,vr 247,vn,vr 248,vr 249,vr 250,vi 538 0,vi 99 0,vs q8 539]
def o324 (P:PM):OB:=j1 q155 q180 (inClass (tT 30) 2) q139 507 251
def o327 (P:PM):OB:=j0 q182 q191 (inClass (tT 30) 3)
def o328 (P:PM):OB:=of y1 [vs q182 541,vs q191 542,vs q8 543,vi 103 0,vi 3 0,z0,z0,vi 3 0,vr 253,bT,vi 181 0,vr 254,vn,vn,vn,vr 255,vi 544 0,vi 103 0,vs q8 545]
def o329 (P:PM):OB:=j1 q182 q191 (inClass (tT 30) 3) q139 507 256
def o330 (P:PM):OB:=oq y0 [vs q34 547,vs q30 548,vs q38 549] 0
def o331 (P:PM):OB:=od y3 [de P q1 516 (vs q139 507),de P q5 520 (vi 88 519),de P q200 526 (vr 240),de P q207 532 (vr 245),de P q155 540 (vr 252),de P q182 546 (vr 257),de P q6 550 (vr 258),de P q190 552 (vr 261),de P q0 554 (vr 262),de P q40 555 vn] 4
def o332 (P:PM):OB:=(ob y8 (Data.cls (ClassData.mk q94 [(vt y11)] [vr 260,(vt y11)] 259 q94 true [] [] false none false)) ⟨[none,none,(ss q94 509),(ss q94 517),(some (vb y18)),(some bT)]⟩)
def o333 (P:PM):OB:=of y13 [vs q190 551,vr 260,(vb y19),(vb y20)]
def o334 (P:PM):OB:=of y13 [vs q0 553,vr 260,(vb y14),vn]
def o335 (P:PM):OB:=of y15 [vr 260,vr 260,vr 260]
def o336 (P:PM):OB:=of y6 [(vb y16),vr 260]
def o339 (P:PM):OB:=j0 q97 q97 (tT 34)
def o340 (P:PM):OB:=of y1 [vs q97 564,vs q97 565,vs q8 566,vi 111 0,vi 1 0,z0,z0,vi 3 0,vr 265,bT,vi 181 0,vr 266,vn,vn,vn,vr 267,vi 567 0,vi 111 0,vs q8 568]
def o341 (P:PM):OB:=j1 q97 q97 (tT 34) q106 558 268
def o342 (P:PM):OB:=od y3 [de P q39 165 (vs q20 632),de P q40 166 vn,de P q41 167 vn,de P q42 168 (vb y4),de P q43 169 vn,de P q44 170 (vr 6),de P q45 171 (vr 4),de P q46 173 (vs q8 172),de P q47 174 vn,de P q9 206 (vr 24),de P q48 222 (vr 37),de P q49 238 (vr 49),de P q50 254 (vr 61),de P q51 270 (vr 73),de P q4 286 (vr 85),de P q56 302 (vr 97),de P q72 318 (vr 109),de P q73 334 (vr 121),de P q22 350 (vr 133),de P q21 366 (vr 145),de P q53 375 (vr 154),de P q84 381 (vr 159),de P q80 385 (vs q13 384),de P q76 387 (vi 8 386),de P q77 399 (vr 160),de P q85 432 (vr 161),de P q74 438 (vr 174),de P q86 447 (vr 181),de P q87 457 (vr 188),de P q88 466 (vr 195),de P q89 475 (vr 202),de P q90 484 (vr 209),de P q91 491 (vr 216),de P q92 500 (vr 223),de P q93 506 (vr 228),de P q94 557 (vr 260),de P q95 561 (vi 10 560),de P q96 563 (vi 16 562),de P q97 569 (vr 269),de P q23 580 (vr 276),de P q98 589 (vr 283),de P q99 598 (vr 290),de P q100 607 (vr 297),de P q101 616 (vr 304),de P q102 625 (vr 311),de P q7 631 (vr 316),de P q103 641 (vr 323),de P q52 653 (vr 330),de P q10 663 (vr 337),de P q104 678 (vr 344),de P q63 690 (vr 351)] 51
def o343 (P:PM):OB:=(Obj.mk vn none (df ⟨[vi 2 0,z0,vr 20,vi 4 0,z0,vr 33,vi 6 0,z0,vr 45,vi 8 0,z0,vr 57,vi 10 0,z0,vr 69,vi 12 0,z0,vr 81,vi 14 0,z0,vr 93,vi 16 0,z0,vr 105,vi 18 0,z0,vr 117,vi 20 0,z0,vr 129,vi 22 0,z0,vr 141,vi 25 0,z0,vr 153,vi 27 0,z0,vr 158,vi 42 0,z0,vr 173,vi 46 0,z0,vr 180,vi 51 0,z0,vr 187,vi 56 0,z0,vr 194,vi 61 0,z0,vr 201,vi 66 0,z0,vr 208,vi 69 0,z0,vr 215,vi 71 0,z0,vr 222,vi 85 0,z0,vr 227,vi 88 0,z0,vr 234,vi 111 0,z0,vr 268,vi 115 0,z0,vr 275,vi 121 0,z0,vr 282,vi 125 0,z0,vr 289,vi 133 0,z0,vr 296,vi 141 0,z0,vr 303,vi 145 0,z0,vr 310,vi 149 0,z0,vr 315,vi 161 0,z0,vr 322,vi 165 0,z0,vr 329,vi 173 0,z0,vr 336,vi 182 0,z0,vr 343,vi 197 0,z0,vr 350]⟩) ⟨[]⟩)
def o346 (P:PM):OB:=oq y0 [vs q24 573,vs q25 574,vs q31 575,vs q32 576,vs q33 577] 0
def o348 (P:PM):OB:=j0 q23 q23 (tT 35)
def o349 (P:PM):OB:=of y1 [vs q23 570,vs q23 571,vs q8 572,vi 115 0,vi 1 0,z0,z0,vi 3 0,vr 270,bT,vi 181 0,vr 271,vn,vr 272,vr 273,vr 274,vi 578 0,vi 115 0,vs q8 579]
def o350 (P:PM):OB:=j1 q23 q23 (tT 35) q106 558 275
def o353 (P:PM):OB:=oq y0 [vs q203 584,vs q165 585,vs q133 586] 0
def o355 (P:PM):OB:=j0 q98 q98 (tT 36)
def o356 (P:PM):OB:=of y1 [vs q98 581,vs q98 582,vs q8 583,vi 121 0,vi 3 0,z0,z0,vi 3 0,vr 277,bT,vi 181 0,vr 278,vn,vr 279,vr 280,vr 281,vi 587 0,vi 121 0,vs q8 588]
def o357 (P:PM):OB:=j1 q98 q98 (tT 36) q106 558 282
def o360 (P:PM):OB:=oq y0 [vs q133 593,vs q148 594,vs q31 595] 0
def o362 (P:PM):OB:=j0 q99 q99 (tT 37)
def o363 (P:PM):OB:=of y1 [vs q99 590,vs q99 591,vs q8 592,vi 125 0,vi 1 0,z0,z0,vi 3 0,vr 284,bT,vi 181 0,vr 285,vn,vr 286,vr 287,vr 288,vi 596 0,vi 125 0,vs q8 597]
def o364 (P:PM):OB:=j1 q99 q99 (tT 37) q106 558 289
def o367 (P:PM):OB:=oq y0 [vs q133 602,vs q134 603,vs q31 604] 0
def o369 (P:PM):OB:=j0 q100 q100 (tT 38)
def o370 (P:PM):OB:=of y1 [vs q100 599,vs q100 600,vs q8 601,vi 133 0,vi 2 0,z0,z0,vi 3 0,vr 291,bT,vi 181 0,vr 292,vn,vr 293,vr 294,vr 295,vi 605 0,vi 133 0,vs q8 606]
def o371 (P:PM):OB:=j1 q100 q100 (tT 38) q106 558 296
def o374 (P:PM):OB:=oq y0 [vs q133 611,vs q134 612,vs q148 613] 0
def o376 (P:PM):OB:=j0 q101 q101 (tT 39)
def o377 (P:PM):OB:=of y1 [vs q101 608,vs q101 609,vs q8 610,vi 141 0,vi 2 0,z0,z0,vi 3 0,vr 298,bT,vi 181 0,vr 299,vn,vr 300,vr 301,vr 302,vi 614 0,vi 141 0,vs q8 615]
def o378 (P:PM):OB:=j1 q101 q101 (tT 39) q106 558 303
def o381 (P:PM):OB:=oq y0 [vs q148 620,vs q134 621,vs q31 622] 0
def o383 (P:PM):OB:=j0 q102 q102 (tT 40)
def o384 (P:PM):OB:=of y1 [vs q102 617,vs q102 618,vs q8 619,vi 145 0,vi 2 0,z0,z0,vi 3 0,vr 305,bT,vi 181 0,vr 306,vn,vr 307,vr 308,vr 309,vi 623 0,vi 145 0,vs q8 624]
def o385 (P:PM):OB:=j1 q102 q102 (tT 40) q106 558 310
def o388 (P:PM):OB:=j0 q7 q7 (tT 41)
def o389 (P:PM):OB:=of y1 [vs q7 626,vs q7 627,vs q8 628,vi 149 0,vi 1 0,z0,z0,vi 3 0,vr 312,bT,vi 181 0,vr 313,vn,vn,vn,vr 314,vi 629 0,vi 149 0,vs q8 630]
def o390 (P:PM):OB:=j1 q7 q7 (tT 41) q106 558 315
def o393 (P:PM):OB:=oq y0 [vs q108 637,vs q65 638] 0
def o395 (P:PM):OB:=j0 q103 q103 (tT 43)
def o396 (P:PM):OB:=of y1 [vs q103 634,vs q103 635,vs q8 636,vi 161 0,vi 2 0,z0,z0,vi 3 0,vr 317,bT,vi 181 0,vr 318,vn,vr 319,vr 320,vr 321,vi 639 0,vi 161 0,vs q8 640]
def o397 (P:PM):OB:=j1 q103 q103 (tT 43) q20 632 322
def o400 (P:PM):OB:=oq y0 [vs q196 645,vs q192 646,vs q12 647,vs q11 648,vs q197 649,vs q65 650] 0
def o402 (P:PM):OB:=j0 q52 q52 (tT 44)
def o403 (P:PM):OB:=of y1 [vs q52 642,vs q52 643,vs q8 644,vi 165 0,vi 2 0,z0,z0,vi 3 0,vr 324,bT,vi 181 0,vr 325,vn,vr 326,vr 327,vr 328,vi 651 0,vi 165 0,vs q8 652]
def o404 (P:PM):OB:=j1 q52 q52 (tT 44) q20 632 329
def o407 (P:PM):OB:=oq y0 [vs q11 657,vs q12 658,vs q14 659,vs q18 660] 0
def o409 (P:PM):OB:=j0 q10 q10 (tT 45)
def o410 (P:PM):OB:=of y1 [vs q10 654,vs q10 655,vs q8 656,vi 173 0,vi 1 0,z0,z0,vi 3 0,vr 331,bT,vi 181 0,vr 332,vn,vr 333,vr 334,vr 335,vi 661 0,vi 173 0,vs q8 662]
def o411 (P:PM):OB:=j1 q10 q10 (tT 45) q20 632 336
def o414 (P:PM):OB:=oq y0 [vs q65 667,vs q60 668,vs q12 669,vs q192 670,vs q141 671,vs q193 672,vs q143 673,vs q194 674,vs q195 675] 0
def o416 (P:PM):OB:=j0 q104 q104 (tT 46)
def o417 (P:PM):OB:=of y1 [vs q104 664,vs q104 665,vs q8 666,vi 182 0,vi 2 0,z0,z0,vi 3 0,vr 338,bT,vi 181 0,vr 339,vn,vr 340,vr 341,vr 342,vi 676 0,vi 182 0,vs q8 677]
def o418 (P:PM):OB:=j1 q104 q104 (tT 46) q20 632 343
def o421 (P:PM):OB:=oq y0 [vs q167 682,vs q60 683,vs q195 684,vs q62 685,vs q65 686,vs q11 687] 0
def o423 (P:PM):OB:=j0 q63 q63 (tT 47)
def o424 (P:PM):OB:=of y1 [vs q63 679,vs q63 680,vs q8 681,vi 197 0,vi 2 0,z0,z0,vi 3 0,vr 345,bT,vi 181 0,vr 346,vn,vr 347,vr 348,vr 349,vi 688 0,vi 197 0,vs q8 689]
def o425 (P:PM):OB:=j1 q63 q63 (tT 47) q20 632 350
def o426 (P:PM):OB:=od y3 [de P q39 165 (vs q20 632),de P q40 166 vn,de P q41 167 vn,de P q42 168 (vb y4),de P q43 169 vn,de P q44 170 (vr 6),de P q45 171 (vr 4),de P q46 173 (vs q8 172),de P q47 174 vn,de P q9 206 (vr 24),de P q48 222 (vr 37),de P q49 238 (vr 49),de P q50 254 (vr 61),de P q51 270 (vr 73),de P q4 286 (vr 85),de P q56 302 (vr 97),de P q72 318 (vr 109),de P q73 334 (vr 121),de P q22 350 (vr 133),de P q21 366 (vr 145),de P q53 375 (vr 154),de P q84 381 (vr 159),de P q80 385 (vs q13 384),de P q76 387 (vi 8 386),de P q77 399 (vr 160),de P q85 432 (vr 161),de P q74 438 (vr 174),de P q86 447 (vr 181),de P q87 457 (vr 188),de P q88 466 (vr 195),de P q89 475 (vr 202),de P q90 484 (vr 209),de P q91 491 (vr 216),de P q92 500 (vr 223),de P q93 506 (vr 228),de P q94 557 (vr 260),de P q95 561 (vi 10 560),de P q96 563 (vi 16 562),de P q97 569 (vr 269),de P q23 580 (vr 276),de P q98 589 (vr 283),de P q99 598 (vr 290),de P q100 607 (vr 297),de P q101 616 (vr 304),de P q102 625 (vr 311),de P q7 631 (vr 316),de P q103 641 (vr 323),de P q52 653 (vr 330),de P q10 663 (vr 337),de P q104 678 (vr 344),de P q63 690 (vr 351),de P q67 706 (vr 358),de P q57 722 (vr 365),de P q112 733 (vr 372),de P q154 739 (vr 377),de P q140 745 (vr 382),de P q114 751 (vr 387),de P q128 761 (vr 394),de P q107 767 (vr 399)] 59
def o427 (P:PM):OB:=(Obj.mk vn none (df ⟨[vi 2 0,z0,vr 20,vi 4 0,z0,vr 33,vi 6 0,z0,vr 45,vi 8 0,z0,vr 57,vi 10 0,z0,vr 69,vi 12 0,z0,vr 81,vi 14 0,z0,vr 93,vi 16 0,z0,vr 105,vi 18 0,z0,vr 117,vi 20 0,z0,vr 129,vi 22 0,z0,vr 141,vi 25 0,z0,vr 153,vi 27 0,z0,vr 158,vi 42 0,z0,vr 173,vi 46 0,z0,vr 180,vi 51 0,z0,vr 187,vi 56 0,z0,vr 194,vi 61 0,z0,vr 201,vi 66 0,z0,vr 208,vi 69 0,z0,vr 215,vi 71 0,z0,vr 222,vi 85 0,z0,vr 227,vi 88 0,z0,vr 234,vi 111 0,z0,vr 268,vi 115 0,z0,vr 275,vi 121 0,z0,vr 282,vi 125 0,z0,vr 289,vi 133 0,z0,vr 296,vi 141 0,z0,vr 303,vi 145 0,z0,vr 310,vi 149 0,z0,vr 315,vi 161 0,z0,vr 322,vi 165 0,z0,vr 329,vi 173 0,z0,vr 336,vi 182 0,z0,vr 343,vi 197 0,z0,vr 350,vi 206 0,z0,vr 357,vi 221 0,z0,vr 364,vi 231 0,z0,vr 371,vi 236 0,z0,vr 376,vi 253 0,z0,vr 381,vi 268 0,z0,vr 386,vi 283 0,z0,vr 393,vi 295 0,z0,vr 398]⟩) ⟨[]⟩)
def o430 (P:PM):OB:=oq y0 [vs q11 694,vs q150 695,vs q60 696,vs q141 697,vs q115 698,vs q167 699,vs q210 700,vs q172 701,vs q69 702,vs q14 703] 0
def o432 (P:PM):OB:=j0 q67 q67 (tT 48)
def o433 (P:PM):OB:=of y1 [vs q67 691,vs q67 692,vs q8 693,vi 206 0,vi 3 0,z0,z0,vi 3 0,vr 352,bT,vi 181 0,vr 353,vn,vr 354,vr 355,vr 356,vi 704 0,vi 206 0,vs q8 705]
def o434 (P:PM):OB:=j1 q67 q67 (tT 48) q20 632 357
def o437 (P:PM):OB:=oq y0 [vs q58 710,vs q59 711,vs q60 712,vs q61 713,vs q62 714,vs q64 715,vs q65 716,vs q68 717,vs q69 718,vs q70 719] 0
def o439 (P:PM):OB:=j0 q57 q57 (tT 49)
def o440 (P:PM):OB:=of y1 [vs q57 707,vs q57 708,vs q8 709,vi 221 0,vi 4 0,z0,z0,vi 3 0,vr 359,bT,vi 181 0,vr 360,vn,vr 361,vr 362,vr 363,vi 720 0,vi 221 0,vs q8 721]
def o441 (P:PM):OB:=j1 q57 q57 (tT 49) q20 632 364
def o444 (P:PM):OB:=oq y0 [vs q109 726,vs q111 727,vs q11 728,vs q141 729,vs q172 730] 0
def o446 (P:PM):OB:=j0 q112 q112 (tT 50)
def o447 (P:PM):OB:=of y1 [vs q112 723,vs q112 724,vs q8 725,vi 231 0,vi 1 0,z0,z0,vi 3 0,vr 366,bT,vi 181 0,vr 367,vn,vr 368,vr 369,vr 370,vi 731 0,vi 231 0,vs q8 732]
def o448 (P:PM):OB:=j1 q112 q112 (tT 50) q20 632 371
def o451 (P:PM):OB:=j0 q154 q154 (tT 51)
def o452 (P:PM):OB:=of y1 [vs q154 734,vs q154 735,vs q8 736,vi 236 0,vi 4 0,z0,z0,vi 3 0,vr 373,bT,vi 181 0,vr 374,vn,vn,vn,vr 375,vi 737 0,vi 236 0,vs q8 738]
def o453 (P:PM):OB:=j1 q154 q154 (tT 51) q20 632 376
def o456 (P:PM):OB:=j0 q140 q140 (tT 52)
def o457 (P:PM):OB:=of y1 [vs q140 740,vs q140 741,vs q8 742,vi 253 0,vi 3 0,z0,z0,vi 3 0,vr 378,bT,vi 181 0,vr 379,vn,vn,vn,vr 380,vi 743 0,vi 253 0,vs q8 744]
def o458 (P:PM):OB:=j1 q140 q140 (tT 52) q20 632 381
def o461 (P:PM):OB:=j0 q114 q114 (tT 53)
def o462 (P:PM):OB:=of y1 [vs q114 746,vs q114 747,vs q8 748,vi 268 0,vi 5 0,z0,z0,vi 3 0,vr 383,bT,vi 181 0,vr 384,vn,vn,vn,vr 385,vi 749 0,vi 268 0,vs q8 750]
def o463 (P:PM):OB:=j1 q114 q114 (tT 53) q20 632 386
def o466 (P:PM):OB:=oq y0 [vs q119 755,vs q186 756,vs q187 757,vs q188 758] 0
def o468 (P:PM):OB:=j0 q128 q128 (tT 54)
def o469 (P:PM):OB:=of y1 [vs q128 752,vs q128 753,vs q8 754,vi 283 0,vi 1 0,z0,z0,vi 3 0,vr 388,bT,vi 181 0,vr 389,vn,vr 390,vr 391,vr 392,vi 759 0,vi 283 0,vs q8 760]
def o470 (P:PM):OB:=j1 q128 q128 (tT 54) q20 632 393
def o473 (P:PM):OB:=j0 q107 q107 (tT 55)
def o474 (P:PM):OB:=of y1 [vs q107 762,vs q107 763,vs q8 764,vi 295 0,vi 1 0,z0,z0,vi 3 0,vr 395,bT,vi 181 0,vr 396,vn,vn,vn,vr 397,vi 765 0,vi 295 0,vs q8 766]
def o475 (P:PM):OB:=j1 q107 q107 (tT 55) q20 632 398
def heap_46 (P:Params):Heap:=(Heap.mk ⟨[b0 P,b1 P,b2 P,b3 P,b4 P,b5 P,b6 P,b7 P,b8 P,b9 P,b10 P,o43 P,o44 P,o45 P,o46 P]⟩ (PySem.Life.mk [] [] [] 0 [] [] false ⟨[]⟩ [] 0 false false false 0 [2000,10,10] false 0 true [] [] 0 false))
def tree_47 (P:PM):BT:=(N b0 (N b1 (N b3 (L b7) e) (N b5 (L b9) (L o45))) (N b2 (N b4 (L b8) (L o44)) (N b6 (L b10) (L o46)))) P
def tree_63 (P:PM):BT:=(N b0 (N b1 (N o49 (N b7 (L o51) (L o59)) (N o43 (L o44) (L o63))) (N b5 (N b9 (L o53) (L o61)) (M o45 (L o57)))) (N b2 (N b4 (N b8 (L o52) (L o60)) (M o50 (L o56))) (N b6 (N b10 e (L o62)) (M o46 e)))) P
def tree_78 (P:PM):BT:=(N b0 (N b1 (N o64 (N b7 (M o51 e) (M o59 (L o78))) (N o43 (M o44 e) (L o63))) (N b5 (N b9 (M o53 (L o72)) (L o61)) (N o45 (M o57 (L o76)) (L o52)))) (N b2 (N b4 (N b8 (M o52 (L o44)) (L o66)) (N o65 (M o56 (L o75)) (L o67))) (N b6 (N b10 (M o43 (L o73)) (L o62)) (N o46 (M o43 (L o77)) (L o69))))) P
def tree_93 (P:PM):BT:=(N b0 (N b1 (N o79 (N b7 (N o51 e e) (M o59 (L o78))) (N o43 (N o44 e (L o93)) (M o63 e))) (N b5 (N b9 (N o53 (L o72) (L o91)) (M o61 (L o52))) (N o45 (M o57 (L o76)) (M o52 (L o87))))) (N b2 (N b4 (N b8 (N o52 (L o44) (L o90)) (M o81 (L o67))) (N o80 (M o56 (L o75)) (M o67 (L o44)))) (N b6 (N b10 (N o43 (L o73) (L o92)) (M o62 (L o84))) (N o46 (M o43 (L o77)) (M o69 (L o88)))))) P
def tree_108 (P:PM):BT:=(N b0 (N b1 (N o94 (N b7 (N o51 (M o43 (L o108)) e) (N o59 (L o78) e)) (N o43 (N o44 e (L o93)) (N o63 e e))) (N b5 (N b9 (N o53 (L o72) (L o91)) (N o61 (L o52) (L o102))) (N o45 (N o57 (L o76) (L o52)) (N o52 (L o87) (L o106))))) (N b2 (N b4 (N b8 (N o52 (L o44) (L o90)) (N o96 (L o67) (L o44))) (N o95 (N o56 (L o75) (L o67)) (N o67 (L o44) (L o105)))) (N b6 (N b10 (N o43 (L o73) (L o92)) (N o62 (L o84) (L o103))) (N o46 (N o43 (L o77) (L o99)) (N o69 (L o88) (L o107)))))) P
def tree_123 (P:PM):BT:=(N b0 (N b1 (N o109 (N b7 (N o51 (M o43 (L o108)) e) (N o59 (M o78 e) e)) (N o43 (N o44 (M o43 e) (L o93)) (N o63 (M o43 (L o123)) e))) (N b5 (N b9 (N o53 (M o72 (L o52)) (L o91)) (N o61 (M o52 (L o121)) (L o102))) (N o45 (N o57 (M o76 (L o117)) (L o52)) (N o52 (L o87) (L o106))))) (N b2 (N b4 (N b8 (N o52 (M o44 (L o67)) (L o90)) (N o111 (M o67 (L o120)) (L o44))) (N o110 (N o56 (M o75 (L o44)) (L o67)) (N o67 (L o44) (L o105)))) (N b6 (N b10 (N o43 (M o73 (L o114)) (L o92)) (N o62 (M o84 (L o122)) (L o103))) (N o46 (N o43 (M o77 (L o118)) (L o99)) (N o69 (L o88) (L o107)))))) P
def tree_138 (P:PM):BT:=(N b0 (N b1 (N o124 (N b7 (N o51 (M o43 (L o108)) (M o43 e)) (N o59 (M o78 e) (M o43 (L o138)))) (N o43 (N o44 (M o43 e) (M o93 e)) (N o63 (M o43 (L o123)) e))) (N b5 (N b9 (N o53 (M o72 (L o52)) (M o91 (L o132))) (N o61 (M o52 (L o121)) (L o102))) (N o45 (N o57 (M o76 (L o117)) (M o52 (L o136))) (N o52 (M o87 (L o52)) (L o106))))) (N b2 (N b4 (N b8 (N o52 (M o44 (L o67)) (M o90 (L o44))) (N o126 (M o67 (L o120)) (L o44))) (N o125 (N o56 (M o75 (L o44)) (M o67 (L o135))) (N o67 (M o44 (L o67)) (L o105)))) (N b6 (N b10 (N o43 (M o73 (L o114)) (M o92 (L o133))) (N o62 (M o84 (L o122)) (L o103))) (N o46 (N o43 (M o77 (L o118)) (M o99 (L o137))) (N o69 (M o88 (L o129)) (L o107)))))) P
def tree_153 (P:PM):BT:=(N b0 (N b1 (N o139 (N b7 (N o51 (N o43 (L o108) e) (M o43 e)) (N o59 (M o78 e) (M o43 (L o138)))) (N o43 (N o44 (N o43 e (L o153)) (M o93 e)) (N o63 (M o43 (L o123)) (M o43 e)))) (N b5 (N b9 (N o53 (N o72 (L o52) (L o151)) (M o91 (L o132))) (N o61 (M o52 (L o121)) (M o102 (L o52)))) (N o45 (N o57 (M o76 (L o117)) (M o52 (L o136))) (N o52 (M o87 (L o52)) (M o106 (L o147)))))) (N b2 (N b4 (N b8 (N o52 (N o44 (L o67) (L o150)) (M o90 (L o44))) (N o141 (M o67 (L o120)) (M o44 (L o67)))) (N o140 (N o56 (M o75 (L o44)) (M o67 (L o135))) (N o67 (M o44 (L o67)) (M o105 (L o44))))) (N b6 (N b10 (N o43 (N o73 (L o114) (L o152)) (M o92 (L o133))) (N o62 (M o84 (L o122)) (M o103 (L o144)))) (N o46 (N o43 (M o77 (L o118)) (M o99 (L o137))) (N o69 (M o88 (L o129)) (M o107 (L o148))))))) P
def tree_168 (P:PM):BT:=(N b0 (N b1 (N o154 (N b7 (N o51 (N o43 (L o108) e) (N o43 e (L o168))) (N o59 (N o78 e e) (M o43 (L o138)))) (N o43 (N o44 (N o43 e (L o153)) (M o93 e)) (N o63 (N o43 (L o123) e) (M o43 e)))) (N b5 (N b9 (N o53 (N o72 (L o52) (L o151)) (M o91 (L o132))) (N o61 (N o52 (L o121) (L o162)) (M o102 (L o52)))) (N o45 (N o57 (N o76 (L o117) (L o52)) (M o52 (L o136))) (N o52 (N o87 (L o52) (L o166)) (M o106 (L o147)))))) (N b2 (N b4 (N b8 (N o52 (N o44 (L o67) (L o150)) (M o90 (L o44))) (N o156 (N o67 (L o120) (L o44)) (M o44 (L o67)))) (N o155 (N o56 (N o75 (L o44) (L o67)) (M o67 (L o135))) (N o67 (N o44 (L o67) (L o165)) (M o105 (L o44))))) (N b6 (N b10 (N o43 (N o73 (L o114) (L o152)) (M o92 (L o133))) (N o62 (N o84 (L o122) (L o163)) (M o103 (L o144)))) (N o46 (N o43 (N o77 (L o118) (L o159)) (M o99 (L o137))) (N o69 (N o88 (L o129) (L o167)) (M o107 (L o148))))))) P
def tree_183 (P:PM):BT:=(N b0 (N b1 (N o169 (N b7 (N o51 (N o43 (L o108) e) (N o43 e (L o168))) (N o59 (N o78 e e) (N o43 (L o138) e))) (N o43 (N o44 (N o43 e (L o153)) (N o93 e e)) (N o63 (N o43 (L o123) e) (N o43 e (L o183))))) (N b5 (N b9 (N o53 (N o72 (L o52) (L o151)) (N o91 (L o132) (L o52))) (N o61 (N o52 (L o121) (L o162)) (N o102 (L o52) (L o181)))) (N o45 (N o57 (N o76 (L o117) (L o52)) (N o52 (L o136) (L o177))) (N o52 (N o87 (L o52) (L o166)) (M o106 (L o147)))))) (N b2 (N b4 (N b8 (N o52 (N o44 (L o67) (L o150)) (N o90 (L o44) (L o67))) (N o171 (N o67 (L o120) (L o44)) (N o44 (L o67) (L o180)))) (N o170 (N o56 (N o75 (L o44) (L o67)) (N o67 (L o135) (L o44))) (N o67 (N o44 (L o67) (L o165)) (M o105 (L o44))))) (N b6 (N b10 (N o43 (N o73 (L o114) (L o152)) (N o92 (L o133) (L o174))) (N o62 (N o84 (L o122) (L o163)) (N o103 (L o144) (L o182)))) (N o46 (N o43 (N o77 (L o118) (L o159)) (N o99 (L o137) (L o178))) (N o69 (N o88 (L o129) (L o167)) (M o107 (L o148))))))) P
def tree_198 (P:PM):BT:=(N b0 (N b1 (N o184 (N b7 (N o51 (N o43 (M o108 e) e) (N o43 e (L o168))) (N o59 (N o78 (M o43 (L o198)) e) (N o43 (L o138) e))) (N o43 (N o44 (N o43 (M o43 e) (L o153)) (N o93 e e)) (N o63 (N o43 (L o123) e) (N o43 e (L o183))))) (N b5 (N b9 (N o53 (N o72 (M o52 (L o192)) (L o151)) (N o91 (L o132) (L o52))) (N o61 (N o52 (L o121) (L o162)) (N o102 (L o52) (L o181)))) (N o45 (N o57 (N o76 (M o117 (L o196)) (L o52)) (N o52 (L o136) (L o177))) (N o52 (N o87 (L o52) (L o166)) (N o106 (L o147) (L o52)))))) (N b2 (N b4 (N b8 (N o52 (N o44 (M o67 (L o44)) (L o150)) (N o90 (L o44) (L o67))) (N o186 (N o67 (L o120) (L o44)) (N o44 (L o67) (L o180)))) (N o185 (N o56 (N o75 (M o44 (L o195)) (L o67)) (N o67 (L o135) (L o44))) (N o67 (N o44 (L o67) (L o165)) (N o105 (L o44) (L o67))))) (N b6 (N b10 (N o43 (N o73 (M o114 (L o193)) (L o152)) (N o92 (L o133) (L o174))) (N o62 (N o84 (L o122) (L o163)) (N o103 (L o144) (L o182)))) (N o46 (N o43 (N o77 (M o118 (L o197)) (L o159)) (N o99 (L o137) (L o178))) (N o69 (N o88 (L o129) (L o167)) (N o107 (L o148) (L o189))))))) P
def tree_226 (P:PM):BT:=(N b0 (N b1 (N o199 (N b7 (N o51 (N o43 (M o108 e) (M o43 (L o225))) (N o43 (M o43 e) (L o168))) (N o59 (N o78 (M o43 (L o198)) e) (N o43 (M o138 e) e))) (N o43 (N o44 (N o43 (M o43 e) (L o153)) (N o93 (M o43 (L o213)) e)) (N o63 (N o43 (M o123 e) e) (N o43 (M o43 e) (L o183))))) (N b5 (N b9 (N o53 (N o72 (M o52 (L o192)) (L o151)) (N o91 (M o132 (L o211)) (L o52))) (N o61 (N o52 (M o121 (L o52)) (L o162)) (N o102 (M o52 (L o219)) (L o181)))) (N o45 (N o57 (N o76 (M o117 (L o196)) (L o52)) (N o52 (M o136 (L o44)) (L o177))) (N o52 (N o87 (M o52 (L o207)) (L o166)) (N o106 (M o147 (L o223)) (L o52)))))) (N b2 (N b4 (N b8 (N o52 (N o44 (M o67 (L o44)) (M o150 (L o226))) (N o90 (M o44 (L o210)) (L o67))) (N o201 (N o67 (M o120 (L o67)) (L o44)) (N o44 (M o67 (L o218)) (L o180)))) (N o200 (N o56 (N o75 (M o44 (L o195)) (L o67)) (N o67 (M o135 e) (L o44))) (N o67 (N o44 (M o67 (L o44)) (L o165)) (N o105 (M o44 (L o44)) (L o67))))) (N b6 (N b10 (N o43 (N o73 (M o114 (L o193)) (L o152)) (N o92 (M o133 (L o212)) (L o174))) (N o62 (N o84 (M o122 (L o204)) (L o163)) (N o103 (M o144 (L o220)) (L o182)))) (N o46 (N o43 (N o77 (M o118 (L o197)) (L o159)) (N o99 (M o137 (L o216)) (L o178))) (N o69 (N o88 (M o129 (L o208)) (L o167)) (N o107 (M o148 (L o224)) (L o189))))))) P
def tree_291 (P:PM):BT:=(N b0 (N b1 (N o227 (N b7 (N o51 (N o43 (N o108 e (L o259)) (N o43 (L o225) (L o291))) (N o43 (N o43 e (L o275)) (M o168 e))) (N o59 (N o78 (N o43 (L o198) e) (M o43 (L o235))) (N o43 (N o138 e (L o283)) (M o43 (L o44))))) (N o43 (N o44 (N o43 (N o43 e (L o263)) (M o153 (L o231))) (N o93 (N o43 (L o213) (L o44)) (M o43 (L o247)))) (N o63 (N o43 (N o123 e e) (M o43 (L o44))) (N o43 (N o43 e (L o287)) (M o183 (L o255)))))) (N b5 (N b9 (N o53 (N o72 (N o52 (L o192) (L o261)) (M o151 (L o229))) (N o91 (N o132 (L o211) (L o277)) (M o52 (L o245)))) (N o61 (N o52 (N o121 (L o52) (L o269)) (M o162 (L o237))) (N o102 (N o52 (L o219) e) (M o181 e)))) (N o45 (N o57 (N o76 (N o117 (L o196) (L o44)) (M o52 (L o233))) (N o52 (N o136 (L o44) e) (M o177 (L o249)))) (N o52 (N o87 (N o52 (L o207) (L o273)) (M o166 (L o241))) (N o106 (N o147 (L o223) (L o289)) (M o52 e)))))) (N b2 (N b4 (N b8 (N o52 (N o44 (N o67 (L o44) e) (M o150 (L o226))) (N o90 (N o44 (L o210) (L o276)) (M o67 (L o44)))) (N o201 (N o67 (N o120 (L o67) (L o268)) (M o44 (L o236))) (N o44 (N o67 (L o218) (L o284)) (M o180 (L o252))))) (N o228 (N o56 (N o75 (N o44 (L o195) e) (M o67 (L o232))) (N o67 (N o135 e (L o280)) (M o44 (L o248)))) (N o67 (N o44 (N o67 (L o44) (L o44)) (M o165 (L o240))) (N o105 (N o44 (L o44) e) (M o67 (L o256)))))) (N b6 (N b10 (N o43 (N o73 (N o114 (L o193) (L o262)) (M o152 (L o230))) (N o92 (N o133 (L o212) e) (M o174 e))) (N o62 (N o84 (N o122 (L o204) (L o270)) (M o163 e)) (N o103 (N o144 (L o220) (L o44)) (M o182 (L o254))))) (N o46 (N o43 (N o77 (N o118 (L o197) (L o266)) (M o159 (L o234))) (N o99 (N o137 (L o216) (L o282)) (M o178 e))) (N o69 (N o88 (N o129 (L o208) e) (M o167 (L o242))) (N o107 (N o148 (L o224) (L o290)) (M o189 (L o44)))))))) P
def tree_341 (P:PM):BT:=(N b0 (N b1 (N o294 (N b7 (N o51 (N o43 (N o108 (M o43 (L o327)) (L o259)) (N o43 (L o225) (L o291))) (N o43 (N o43 e (L o275)) (N o168 e (L o311)))) (N o59 (N o78 (N o43 (M o198 (L o335)) e) (N o43 (L o235) (L o303))) (N o43 (N o138 e (L o283)) (N o43 (L o44) (L o44))))) (N o43 (N o44 (N o43 (N o43 (M o43 (L o331)) (L o263)) (N o153 (L o231) (L o299))) (N o93 (N o43 (L o213) (L o44)) (N o43 (L o247) (L o315)))) (N o63 (N o43 (N o123 (M o43 (L o339)) e) (N o43 (L o44) (L o307))) (N o43 (N o43 e (L o287)) (N o183 (L o255) (L o323)))))) (N b5 (N b9 (N o53 (N o72 (N o52 (M o192 (L o329)) (L o261)) (N o151 (L o229) (L o44))) (N o91 (N o132 (L o211) (L o277)) (N o52 (L o245) e))) (N o61 (N o52 (N o121 (M o52 e) (L o269)) (N o162 (L o237) (L o305))) (N o102 (N o52 (L o219) e) (N o181 e e)))) (N o45 (N o57 (N o76 (N o117 (M o196 (L o333)) (L o44)) (N o52 (L o233) e)) (N o52 (N o136 (L o44) e) (N o177 (L o249) (L o317)))) (N o52 (N o87 (N o52 (M o207 (L o341)) (L o273)) (N o166 (L o241) (L o44))) (N o106 (N o147 (L o223) (L o289)) (N o52 e e)))))) (N b2 (N b4 (N b8 (N o52 (N o44 (N o67 (M o44 (L o328)) e) (N o150 (L o226) e)) (N o90 (N o44 (L o210) (L o276)) (N o67 (L o44) (L o312)))) (N o201 (N o67 (N o120 (M o67 (L o336)) (L o268)) (N o44 (L o236) e)) (N o44 (N o67 (L o218) (L o284)) (N o180 (L o252) (L o320))))) (N o295 (N o56 (N o75 (N o44 (M o195 (L o332)) e) (N o67 (L o232) (L o300))) (N o67 (N o135 e (L o280)) (N o44 (L o248) (L o316)))) (N o67 (N o44 (N o67 (M o44 (L o340)) (L o44)) (N o165 (L o240) e)) (N o105 (N o44 (L o44) e) (N o67 (L o256) (L o324)))))) (N b6 (N b10 (N o43 (N o73 (N o114 (M o193 (L o330)) (L o262)) (N o152 (L o230) (L o298))) (N o92 (N o133 (L o212) e) (N o174 e (L o44)))) (N o62 (N o84 (N o122 (M o204 (L o44)) (L o270)) (N o163 e (L o306))) (N o103 (N o144 (L o220) (L o44)) (N o182 (L o254) (L o322))))) (N o46 (N o43 (N o77 (N o118 (M o197 (L o334)) (L o266)) (N o159 (L o234) (L o52))) (N o99 (N o137 (L o216) (L o282)) (N o178 e e))) (N o69 (N o88 (N o129 (L o208) e) (N o167 (L o242) (L o310))) (N o107 (N o148 (L o224) (L o290)) (N o189 (L o44) (L o44)))))))) P
def tree_425 (P:PM):BT:=(N b0 (N b1 (N o342 (N b7 (N o51 (N o43 (N o108 (M o43 (L o327)) (M o259 (L o393))) (N o43 (M o225 e) (M o291 (L o425)))) (N o43 (N o43 (M o43 (L o44)) (M o275 (L o409))) (N o168 (M o43 (L o377)) (L o311)))) (N o59 (N o78 (N o43 (M o198 (L o335)) (M o43 e)) (N o43 (M o235 (L o369)) (L o303))) (N o43 (N o138 (M o43 (L o353)) (M o283 (L o417))) (N o43 (M o44 (L o385)) (L o44))))) (N o43 (N o44 (N o43 (N o43 (M o43 (L o331)) (M o263 (L o397))) (N o153 (M o231 e) (L o299))) (N o93 (N o43 (M o213 (L o349)) (M o44 (L o44))) (N o43 (M o247 (L o381)) (L o315)))) (N o63 (N o43 (N o123 (M o43 (L o339)) (M o43 e)) (N o43 (M o44 (L o44)) (L o307))) (N o43 (N o43 (M o43 (L o357)) (M o287 (L o421))) (N o183 (M o255 (L o389)) (L o323)))))) (N b5 (N b9 (N o53 (N o72 (N o52 (M o192 (L o329)) (M o261 (L o395))) (N o151 (M o229 (L o363)) (L o44))) (N o91 (N o132 (M o211 e) (M o277 (L o411))) (N o52 (M o245 e) e))) (N o61 (N o52 (N o121 (M o52 e) (M o269 (L o403))) (N o162 (M o237 (L o371)) (L o305))) (N o102 (N o52 (M o219 (L o355)) (M o43 e)) (N o181 (M o43 (L o44)) e)))) (N o45 (N o57 (N o76 (N o117 (M o196 (L o333)) (M o44 (L o44))) (N o52 (M o233 (L o367)) e)) (N o52 (N o136 (M o44 e) (M o43 e)) (N o177 (M o249 (L o383)) (L o317)))) (N o52 (N o87 (N o52 (M o207 (L o341)) (M o273 (L o407))) (N o166 (M o241 e) (L o44))) (N o106 (N o147 (M o223 (L o44)) (M o289 (L o423))) (N o52 (M o43 e) e)))))) (N b2 (N b4 (N b8 (N o52 (N o44 (N o67 (M o44 (L o328)) (M o43 e)) (N o150 (M o226 (L o362)) e)) (N o90 (N o44 (M o210 (L o346)) (M o276 (L o410))) (N o67 (M o44 (L o378)) (L o312)))) (N o201 (N o67 (N o120 (M o67 (L o336)) (M o268 (L o402))) (N o44 (M o236 (L o370)) e)) (N o44 (N o67 (M o218 e) (M o284 (L o418))) (N o180 (M o252 e) (L o320))))) (N o343 (N o56 (N o75 (N o44 (M o195 (L o332)) (M o43 e)) (N o67 (M o232 (L o44)) (L o300))) (N o67 (N o135 (M o43 (L o350)) (M o280 (L o414))) (N o44 (M o248 e) (L o316)))) (N o67 (N o44 (N o67 (M o44 (L o340)) (M o44 (L o44))) (N o165 (M o240 (L o374)) e)) (N o105 (N o44 (M o44 e) (M o43 e)) (N o67 (M o256 (L o390)) (L o324)))))) (N b6 (N b10 (N o43 (N o73 (N o114 (M o193 (L o330)) (M o262 (L o396))) (N o152 (M o230 (L o364)) (L o298))) (N o92 (N o133 (M o212 (L o348)) (M o43 e)) (N o174 (M o43 (L o44)) (L o44)))) (N o62 (N o84 (N o122 (M o204 (L o44)) (M o270 (L o404))) (N o163 (M o43 e) (L o306))) (N o103 (N o144 (M o220 (L o356)) (M o44 (L o44))) (N o182 (M o254 (L o388)) (L o322))))) (N o46 (N o43 (N o77 (N o118 (M o197 (L o334)) (M o266 (L o400))) (N o159 (M o234 e) (L o52))) (N o99 (N o137 (M o216 (L o44)) (M o282 (L o416))) (N o178 (M o43 (L o384)) e))) (N o69 (N o88 (N o129 (M o208 e) (M o43 e)) (N o167 (M o242 (L o376)) (L o310))) (N o107 (N o148 (M o224 (L o360)) (M o290 (L o424))) (N o189 (M o44 (L o44)) (L o44)))))))) P
def tree_475 (P:PM):BT:=(N b0 (N b1 (N o426 (N b7 (N o51 (N o43 (N o108 (N o43 (L o327) e) (M o259 (L o393))) (N o43 (M o225 e) (M o291 (L o425)))) (N o43 (N o43 (N o43 (L o44) (L o475)) (M o275 (L o409))) (N o168 (M o43 (L o377)) (M o311 (L o44))))) (N o59 (N o78 (N o43 (N o198 (L o335) e) (M o43 e)) (N o43 (M o235 (L o369)) (M o303 e))) (N o43 (N o138 (M o43 (L o353)) (M o283 (L o417))) (N o43 (M o44 (L o385)) (M o44 (L o451)))))) (N o43 (N o44 (N o43 (N o43 (N o43 (L o331) (L o463)) (M o263 (L o397))) (N o153 (M o231 e) (M o299 e))) (N o93 (N o43 (M o213 (L o349)) (M o44 (L o44))) (N o43 (M o247 (L o381)) (M o315 (L o447))))) (N o63 (N o43 (N o123 (N o43 (L o339) e) (M o43 e)) (N o43 (M o44 (L o44)) (M o307 (L o439)))) (N o43 (N o43 (M o43 (L o357)) (M o287 (L o421))) (N o183 (M o255 (L o389)) (M o323 (L o44))))))) (N b5 (N b9 (N o53 (N o72 (N o52 (N o192 (L o329) (L o461)) (M o261 (L o395))) (N o151 (M o229 (L o363)) (M o44 (L o44)))) (N o91 (N o132 (M o211 e) (M o277 (L o411))) (N o52 (M o245 e) (M o43 e)))) (N o61 (N o52 (N o121 (N o52 e (L o469)) (M o269 (L o403))) (N o162 (M o237 (L o371)) (M o305 (L o437)))) (N o102 (N o52 (M o219 (L o355)) (M o43 e)) (N o181 (M o43 (L o44)) (M o43 (L o453)))))) (N o45 (N o57 (N o76 (N o117 (N o196 (L o333) (L o44)) (M o44 (L o44))) (N o52 (M o233 (L o367)) (M o43 (L o433)))) (N o52 (N o136 (M o44 e) (M o43 e)) (N o177 (M o249 (L o383)) (M o317 e)))) (N o52 (N o87 (N o52 (N o207 (L o341) (L o473)) (M o273 (L o407))) (N o166 (M o241 e) (M o44 (L o441)))) (N o106 (N o147 (M o223 (L o44)) (M o289 (L o423))) (N o52 (M o43 e) (M o43 (L o457)))))))) (N b2 (N b4 (N b8 (N o52 (N o44 (N o67 (N o44 (L o328) (L o44)) (M o43 e)) (N o150 (M o226 (L o362)) (M o43 e))) (N o90 (N o44 (M o210 (L o346)) (M o276 (L o410))) (N o67 (M o44 (L o378)) (M o312 (L o444))))) (N o201 (N o67 (N o120 (N o67 (L o336) (L o468)) (M o268 (L o402))) (N o44 (M o236 (L o370)) (M o43 (L o44)))) (N o44 (N o67 (M o218 e) (M o284 (L o418))) (N o180 (M o252 e) (M o320 (L o452)))))) (N o427 (N o56 (N o75 (N o44 (N o195 (L o332) e) (M o43 e)) (N o67 (M o232 (L o44)) (M o300 (L o432)))) (N o67 (N o135 (M o43 (L o350)) (M o280 (L o414))) (N o44 (M o248 e) (M o316 (L o448))))) (N o67 (N o44 (N o67 (N o44 (L o340) (L o44)) (M o44 (L o44))) (N o165 (M o240 (L o374)) (M o43 (L o440)))) (N o105 (N o44 (M o44 e) (M o43 e)) (N o67 (M o256 (L o390)) (M o324 (L o456))))))) (N b6 (N b10 (N o43 (N o73 (N o114 (N o193 (L o330) (L o462)) (M o262 (L o396))) (N o152 (M o230 (L o364)) (M o298 (L o430)))) (N o92 (N o133 (M o212 (L o348)) (M o43 e)) (N o174 (M o43 (L o44)) (M o44 (L o446))))) (N o62 (N o84 (N o122 (N o204 (L o44) (L o470)) (M o270 (L o404))) (N o163 (M o43 e) (M o306 e))) (N o103 (N o144 (M o220 (L o356)) (M o44 (L o44))) (N o182 (M o254 (L o388)) (M o322 e))))) (N o46 (N o43 (N o77 (N o118 (N o197 (L o334) (L o466)) (M o266 (L o400))) (N o159 (M o234 e) (M o52 (L o434)))) (N o99 (N o137 (M o216 (L o44)) (M o282 (L o416))) (N o178 (M o43 (L o384)) (M o43 (L o44))))) (N o69 (N o88 (N o129 (N o208 e (L o474)) (M o43 e)) (N o167 (M o242 (L o376)) (M o310 e))) (N o107 (N o148 (M o224 (L o360)) (M o290 (L o424))) (N o189 (M o44 (L o44)) (M o44 (L o458))))))))) P
def heap_476 (P:Params):Heap:=(Heap.mk ⟨[b0 P,b1 P,b2 P,o426 P,b4 P,b5 P,b6 P,b7 P,b8 P,b9 P,b10 P,o43 P,o427 P,o45 P,o46 P,o51 P,o52 P,o53 P,o43 P,o44 P,o56 P,o57 P,o43 P,o59 P,o201 P,o61 P,o62 P,o63 P,o67 P,o52 P,o69 P,o43 P,o44 P,o72 P,o73 P,o43 P,o75 P,o76 P,o77 P,o78 P,o67 P,o52 P,o84 P,o43 P,o44 P,o87 P,o88 P,o43 P,o90 P,o91 P,o92 P,o93 P,o67 P,o52 P,o99 P,o43 P,o44 P,o102 P,o103 P,o43 P,o105 P,o106 P,o107 P,o108 P,o67 P,o52 P,o114 P,o43 P,o44 P,o117 P,o118 P,o43 P,o120 P,o121 P,o122 P,o123 P,o67 P,o52 P,o129 P,o43 P,o44 P,o132 P,o133 P,o43 P,o135 P,o136 P,o137 P,o138 P,o67 P,o52 P,o144 P,o43 P,o44 P,o147 P,o148 P,o43 P,o150 P,o151 P,o152 P,o153 P,o67 P,o52 P,o159 P,o43 P,o44 P,o162 P,o163 P,o43 P,o165 P,o166 P,o167 P,o168 P,o67 P,o52 P,o174 P,o43 P,o44 P,o177 P,o178 P,o43 P,o180 P,o181 P,o182 P,o183 P,o67 P,o52 P,o189 P,o43 P,o44 P,o192 P,o193 P,o43 P,o195 P,o196 P,o197 P,o198 P,o67 P,o52 P,o204 P,o43 P,o44 P,o207 P,o208 P,o43 P,o210 P,o211 P,o212 P,o213 P,o43 P,o44 P,o216 P,o43 P,o218 P,o219 P,o220 P,o43 P,o44 P,o223 P,o224 P,o225 P,o226 P,o229 P,o230 P,o231 P,o232 P,o233 P,o234 P,o235 P,o236 P,o237 P,o43 P,o44 P,o240 P,o241 P,o242 P,o43 P,o44 P,o245 P,o43 P,o247 P,o248 P,o249 P,o43 P,o44 P,o252 P,o43 P,o254 P,o255 P,o256 P,o43 P,o44 P,o259 P,o43 P,o261 P,o262 P,o263 P,o43 P,o44 P,o266 P,o43 P,o268 P,o269 P,o270 P,o43 P,o44 P,o273 P,o43 P,o275 P,o276 P,o277 P,o43 P,o44 P,o280 P,o43 P,o282 P,o283 P,o284 P,o43 P,o44 P,o287 P,o43 P,o289 P,o290 P,o291 P,o43 P,o44 P,o298 P,o299 P,o300 P,o43 P,o52 P,o303 P,o43 P,o305 P,o306 P,o307 P,o43 P,o44 P,o310 P,o311 P,o312 P,o43 P,o44 P,o315 P,o316 P,o317 P,o43 P,o44 P,o320 P,o43 P,o322 P,o323 P,o324 P,o43 P,o44 P,o327 P,o328 P,o329 P,o330 P,o331 P,o332 P,o333 P,o334 P,o335 P,o336 P,o43 P,o44 P,o339 P,o340 P,o341 P,o43 P,o44 P,o346 P,o43 P,o348 P,o349 P,o350 P,o43 P,o44 P,o353 P,o43 P,o355 P,o356 P,o357 P,o43 P,o44 P,o360 P,o43 P,o362 P,o363 P,o364 P,o43 P,o44 P,o367 P,o43 P,o369 P,o370 P,o371 P,o43 P,o44 P,o374 P,o43 P,o376 P,o377 P,o378 P,o43 P,o44 P,o381 P,o43 P,o383 P,o384 P,o385 P,o43 P,o44 P,o388 P,o389 P,o390 P,o43 P,o44 P,o393 P,o43 P,o395 P,o396 P,o397 P,o43 P,o44 P,o400 P,o43 P,o402 P,o403 P,o404 P,o43 P,o44 P,o407 P,o43 P,o409 P,o410 P,o411 P,o43 P,o44 P,o414 P,o43 P,o416 P,o417 P,o418 P,o43 P,o44 P,o421 P,o43 P,o423 P,o424 P,o425 P,o43 P,o44 P,o430 P,o43 P,o432 P,o433 P,o434 P,o43 P,o44 P,o437 P,o43 P,o439 P,o440 P,o441 P,o43 P,o44 P,o444 P,o43 P,o446 P,o447 P,o448 P,o43 P,o44 P,o451 P,o452 P,o453 P,o43 P,o44 P,o456 P,o457 P,o458 P,o43 P,o44 P,o461 P,o462 P,o463 P,o43 P,o44 P,o466 P,o43 P,o468 P,o469 P,o470 P,o43 P,o44 P,o473 P,o474 P,o475 P]⟩ (PySem.Life.mk [] [] [] 0 [] [] false ⟨[]⟩ [] 0 false false false 0 [2000,10,10] false 0 true [] [] 0 false))
def ev (p:Program):Env:=Env.mk p.main.scope mainNs mainNs [] Str.empty none (.ref 13) (some 14) 0
def cE (p:Program):Code:=.body (behindTheImports p) (ev p)
def st (p:Program) (i k:Nat):List Stmt:=((behindTheImports p).drop i).take k
def LF:Life:=Life.mk [] [] [] 0 [] [] false #[] [] 0 false false false 0 [2000,10,10] false 0 true [] [] 0 false
def SS (T:Params→BT) (n k:Nat) (w:World) (os:OsState):SharedT:=⟨T w.params,n,LF,⟨[]⟩,⟨0,0,0,0⟩,k,os⟩
def Pc (f:(String→Option Builtin)→Program→World→Nat→Option Value→Nat→Nat→SharedT→Thread→Option (Flow × SharedT × Code × Pos)) (tb:String→Option Builtin) (p:Program) (N i k:Nat) (pos pos':Pos) (T T':Params→BT) (n t n' t':Nat):Prop :=
 ∀ (w:World) (os:OsState),f tb p w 11 (some (.ref 6)) 1 N (SS T n t w os) (piecesOf (st p i k) (ev p) (cE p) pos [topFrame ⟨0,0,0,0⟩])=some (.next,SS T' n' t' w os,cE p,pos')
theorem Pc.plain {N i k:Nat}{pos pos':Pos}{T T':Params→BT}{n t n' t':Nat} (h:Pc PySem.W.Fast.tw10110043849684766642 PySem.W.Fast.tw14364793385576792824 TP N i k pos pos' T T' n t n' t'):Pc segRunT treeTable PySem.Challenge.pw_gatefold_k08_lines_refused N i k pos pos' T T' n t n' t':=by
 rw [PySem.W.Fast.te10110043849684766642,PySem.W.Fast.te14364793385576792824,PySem.W.Fast.te17080068924636381628]
 exact h
theorem Pc.two {f:(String→Option Builtin)→Program→World→Nat→Option Value→Nat→Nat→SharedT→Thread→Option (Flow × SharedT × Code × Pos)}{tb:String→Option Builtin}{p:Program}{N i k:Nat}{pos pos':Pos}{T T':Params→BT}{n t n' t':Nat} (row:String)
  (hf:∀ (w:World) (os:OsState),f tb p (w.withFollow row false) 11 (some (.ref 6)) 1 N (SS T n t (w.withFollow row false) os) (piecesOf (st p i k) (ev p) (cE p) pos [topFrame ⟨0,0,0,0⟩])=some (.next,SS T' n' t' (w.withFollow row false) os,cE p,pos'))
  (ht:∀ (w:World) (os:OsState),f tb p (w.withFollow row true) 11 (some (.ref 6)) 1 N (SS T n t (w.withFollow row true) os) (piecesOf (st p i k) (ev p) (cE p) pos [topFrame ⟨0,0,0,0⟩])=some (.next,SS T' n' t' (w.withFollow row true) os,cE p,pos')):Pc f tb p N i k pos pos' T T' n t n' t' :=
 fun w=>PySem.W.byRow2 row (P:=fun w=>∀ os,f tb p w 11 (some (.ref 6)) 1 N (SS T n t w os) (piecesOf (st p i k) (ev p) (cE p) pos [topFrame ⟨0,0,0,0⟩])=some (.next,SS T' n' t' w os,cE p,pos')) hf ht w
theorem c0:Pc segRunT treeTable PySem.Challenge.pw_gatefold_k08_lines_refused 196 0 2 ⟨0,0,0,0⟩ ⟨2,0,3,8⟩ tree_47 tree_63 15 187 28 207:=Pc.plain (fun w os=>by kernel_rfl)
theorem c1:Pc segRunT treeTable PySem.Challenge.pw_gatefold_k08_lines_refused 214 2 1 ⟨2,0,3,8⟩ ⟨4,0,5,8⟩ tree_63 tree_78 28 207 40 223:=Pc.plain (fun w os=>by kernel_rfl)
theorem c2:Pc segRunT treeTable PySem.Challenge.pw_gatefold_k08_lines_refused 214 3 1 ⟨4,0,5,8⟩ ⟨6,0,7,8⟩ tree_78 tree_93 40 223 52 239:=Pc.plain (fun w os=>by kernel_rfl)
theorem c3:Pc segRunT treeTable PySem.Challenge.pw_gatefold_k08_lines_refused 214 4 1 ⟨6,0,7,8⟩ ⟨8,0,9,8⟩ tree_93 tree_108 52 239 64 255:=Pc.plain (fun w os=>by kernel_rfl)
theorem c4:Pc segRunT treeTable PySem.Challenge.pw_gatefold_k08_lines_refused 214 5 1 ⟨8,0,9,8⟩ ⟨10,0,11,8⟩ tree_108 tree_123 64 255 76 271:=Pc.plain (fun w os=>by kernel_rfl)
theorem c5:Pc segRunT treeTable PySem.Challenge.pw_gatefold_k08_lines_refused 214 6 1 ⟨10,0,11,8⟩ ⟨12,0,13,8⟩ tree_123 tree_138 76 271 88 287:=Pc.plain (fun w os=>by kernel_rfl)
theorem c6:Pc segRunT treeTable PySem.Challenge.pw_gatefold_k08_lines_refused 214 7 1 ⟨12,0,13,8⟩ ⟨14,0,15,8⟩ tree_138 tree_153 88 287 100 303:=Pc.plain (fun w os=>by kernel_rfl)
theorem c7:Pc segRunT treeTable PySem.Challenge.pw_gatefold_k08_lines_refused 214 8 1 ⟨14,0,15,8⟩ ⟨16,0,17,8⟩ tree_153 tree_168 100 303 112 319:=Pc.plain (fun w os=>by kernel_rfl)
theorem c8:Pc segRunT treeTable PySem.Challenge.pw_gatefold_k08_lines_refused 214 9 1 ⟨16,0,17,8⟩ ⟨18,0,19,8⟩ tree_168 tree_183 112 319 124 335:=Pc.plain (fun w os=>by kernel_rfl)
theorem c9:Pc segRunT treeTable PySem.Challenge.pw_gatefold_k08_lines_refused 214 10 1 ⟨18,0,19,8⟩ ⟨20,0,21,8⟩ tree_183 tree_198 124 335 136 351:=Pc.plain (fun w os=>by kernel_rfl)
theorem c10:Pc segRunT treeTable PySem.Challenge.pw_gatefold_k08_lines_refused 326 11 8 ⟨20,0,21,8⟩ ⟨40,0,40,10⟩ tree_198 tree_226 136 351 161 400:=Pc.plain (fun w os=>by kernel_rfl)
theorem c11:Pc segRunT treeTable PySem.Challenge.pw_gatefold_k08_lines_refused 397 19 9 ⟨40,0,40,10⟩ ⟨71,0,84,40⟩ tree_226 tree_291 161 400 224 501:=Pc.plain (Pc.two "special-get-raises" (fun w os=>by kernel_rfl) (fun w os=>by kernel_rfl))
theorem c12:Pc segRunT treeTable PySem.Challenge.pw_gatefold_k08_lines_refused 397 28 7 ⟨71,0,84,40⟩ ⟨111,0,114,23⟩ tree_291 tree_341 224 501 270 570:=Pc.plain (fun w os=>by kernel_rfl)
theorem c13:Pc segRunT treeTable PySem.Challenge.pw_gatefold_k08_lines_refused 391 35 13 ⟨111,0,114,23⟩ ⟨197,0,205,21⟩ tree_341 tree_425 270 570 352 691:=Pc.plain (fun w os=>by kernel_rfl)
theorem c14:Pc segRunT treeTable PySem.Challenge.pw_gatefold_k08_lines_refused 246 48 8 ⟨197,0,205,21⟩ ⟨295,0,320,15⟩ tree_425 tree_475 352 691 400 768:=Pc.plain (fun w os=>by kernel_rfl)
abbrev PW:Program:=PySem.Challenge.pw_gatefold_k08_lines_refused
abbrev B0:List Frame:=[topFrame ⟨0,0,0,0⟩]
theorem step {p:Program}{N i k:Nat}{pos pos':Pos}{T T':Params→BT}{n t n' t':Nat} (c:Pc segRunT treeTable p N i k pos pos' T T' n t n' t') {M:Nat}{r:Shared}{w:World}{os:OsState}
  (h:topRun treeTable p w 11 (some (.ref 6)) M (SS T' n' t' w os).abs (restOf ((behindTheImports p).drop (i+k)) (ev p) (cE p) pos' [topFrame ⟨0,0,0,0⟩])=some r) :
  topRun treeTable p w 11 (some (.ref 6)) (N+M) (SS T n t w os).abs (restOf ((behindTheImports p).drop i) (ev p) (cE p) pos [topFrame ⟨0,0,0,0⟩])=some r:=by
 have e:(behindTheImports p).drop i=st p i k ++ (behindTheImports p).drop (i+k):=by
  unfold st
  rw [← List.drop_drop]
  exact (List.take_append_drop _ _).symm
 rw [e]
 exact piece_app (segRun_of (c w os)) h
def Fn (f:(String→Option Builtin)→Program→World→Nat→Option Value→Nat→Shared→Thread→Option Shared) (tb:String→Option Builtin) (p:Program):Prop :=
 ∀ (w:World) (os:OsState),f tb p w 11 (some (.ref 6)) 2 (SS tree_475 400 768 w os).abs ⟨doneF .next,cE p,⟨295,0,320,15⟩,[topFrame ⟨0,0,0,0⟩]⟩=some ⟨heap_476 w.params,⟨[]⟩,⟨0,0,0,0⟩,768,os⟩
theorem fin:Fn topRun treeTable PW:=by
 rw [PySem.W.Fast.te14082659384304107361,PySem.W.Fast.te14364793385576792824,show PW=TP from PySem.W.Fast.te17080068924636381628]
 exact fun w os=>by kernel_rfl
def Pr (f:(String→Option Builtin)→Program→World→Nat→Option Value→Nat→Shared→Thread→Option (Shared × Thread)) (d:(String→Option Builtin)→Code→Sem Fin) (tb:String→Option Builtin) (p:Program):Prop :=
 ∀ (w:World) (os:OsState),f tb p w 11 (some (.ref 6)) 12 ⟨boot_heap w.params,⟨[]⟩,boot_drawn,boot_toks,os⟩ (topStub p)=some (⟨heap_46 w.params,⟨[]⟩,⟨0,0,0,0⟩,187,os⟩,⟨d tb (cE p),cE p,⟨0,0,0,0⟩,[topFrame ⟨0,0,0,0⟩]⟩)
theorem preT:Pr topGo denote treeTable PW:=by
 rw [PySem.W.Fast.te15667345088766844465,PySem.W.Fast.te11892475500146522536,PySem.W.Fast.te14364793385576792824,show PW=TP from PySem.W.Fast.te17080068924636381628]
 exact fun w os=>by kernel_rfl
def Bl (f:(String→Option Builtin)→Program→World→Nat→Option Value→Nat→Nat→Shared→Thread→Option (Flow × Shared × Code × Pos)) (tb:String→Option Builtin) (p:Program):Prop :=
 ∀ (w:World) (os:OsState),f tb p w 11 (some (.ref 6)) 1 1 ⟨heap_46 w.params,⟨[]⟩,⟨0,0,0,0⟩,187,os⟩ (blockOf (behindTheImports p) (ev p) (cE p) ⟨0,0,0,0⟩ [topFrame ⟨0,0,0,0⟩])=some (.next,(SS tree_47 15 187 w os).abs,cE p,⟨0,0,0,0⟩)
theorem blk:Bl segRun treeTable PW:=by
 rw [PySem.W.Fast.te14374325043358763698,PySem.W.Fast.te14364793385576792824,show PW=TP from PySem.W.Fast.te17080068924636381628]
 exact fun w os=>by kernel_rfl
theorem d44:(behindTheImports PW).drop 56=[]:=by kernel_rfl
theorem run (w:World) (os:OsState):topRun treeTable PW w 11 (some (.ref 6)) (12+(1+(196+(214+(214+(214+(214+(214+(214+(214+(214+(214+(326+(397+(397+(391+(246+2))))))))))))))))) ⟨boot_heap w.params,⟨[]⟩,boot_drawn,boot_toks,os⟩ (topStub PW)=some ⟨heap_476 w.params,⟨[]⟩,⟨0,0,0,0⟩,768,os⟩:=by
 refine go_top (preT w os) ?_
 refine piece_block (blk w os) ?_
 refine step c0 (step c1 (step c2 (step c3 (step c4 (step c5 (step c6 (step c7 (step c8 (step c9 (step c10 (step c11 (step c12 (step c13 (step c14 ?_))))))))))))))
 rw [d44]
 exact fin w os
theorem size (w:World):((boot_heap w.params).isNs mainGlobals && (Array.mk ([]:List GenState)).size == 0,(boot_heap w.params).objs.size,(boot_heap w.params).nsMap mainGlobals "__annotations__")=(true,11,some (.ref 6)):=by kernel_rfl
theorem op:∀ w:World,(fencedOpening treeTable PW w 7868).map (fun s=>(s.heap,s.gens,s.drawn,s.toks))=some (boot_heap w.params,Array.mk [],boot_drawn,boot_toks) :=
 boot_open (by kernel_rfl) (by decide) (fun s=>by kernel_rfl)
def KP:List Nat:=[1,2,3,4,5,6,7,8,9,10,11,13,14,16,17,18,19,20,21,22,23,24,25,26,27,28,30,32,33,34,35,36,37,38,39,40,41,43,44,45,46,47,48,49,50,51,52,53,54,55]
def VW (p:Program):Program:={ p with main:={ p.main with body:=KP.filterMap fun i=>p.main.body[i]? } }
abbrev S9 (w:World) (os:OsState):Shared:=⟨heap_476 w.params,⟨[]⟩,⟨0,0,0,0⟩,768,os⟩
def LA (im:List Stmt→List Str) (p:Program):Prop :=
 ∀ (w:World) (os:OsState),(staticsOk (im p.main.body) (boot_heap w.params) (heap_476 w.params) && namesBound p (heap_476 w.params) && gensDone (S9 w os) && laidKept (boot_heap w.params) (heap_476 w.params))=true
theorem la:LA importedModules PW:=by
 rw [PySem.W.Fast.te5923862056798008813,show PW=TP from PySem.W.Fast.te17080068924636381628]
 exact fun w os=>by kernel_rfl
abbrev XT (q:Program):Shared→Bool:=fun s=>xlAt q [] s && recOk [] s
abbrev LSX:List Str:=[(⟨⟨[80,65,82,84,95,67,79,85,78,84,83]⟩⟩:Str)]
theorem lb0 (w:World) (os:OsState):PySem.W.Fast.tw4187177175401517315 (VW TP) LSX (PySem.W.Fast.tw5923862056798008813 TP.main.body) (XT (VW TP)) true (S9 w os)=openGood (VW TP) LSX:=by kernel_rfl
end
end OT
namespace K08
open PySem PySem.Spec PyProof.Rows L2
noncomputable abbrev Q (l:List Nat):Str:=⟨⟨l⟩⟩
noncomputable abbrev fq (b c:Str) (s:Stmt) (q:Str) (t n:Nat):Obj:=⟨(Value.type "function"),none,.func (PySem.W.fnOf b c (defArgs s) (defBody s) (defScope s) Value.none Value.none Value.none (Value.str q t) none (Value.ref n) Value.none),⟨[]⟩⟩
set_option maxRecDepth 100000 in
noncomputable def KF:Params→PySem.W.Frag:=fun P =>
 (nat_lit 174,fq "is_name" "is_name" s_is_name OT.q83 382 173) ::
 (nat_lit 181,fq "has_parts" "has_parts" s_has_parts OT.q83 382 180) ::
 (nat_lit 240,fq "__init__" "Net.__init__" s_Net___init__ OT.q139 507 239) ::
 (nat_lit 269,fq "words" "words" s_words OT.q106 558 268) ::
 (nat_lit 276,fq "written" "written" s_written OT.q106 558 275) ::
 (nat_lit 283,fq "names_behind" "names_behind" s_names_behind OT.q106 558 282) ::
 (nat_lit 290,fq "inputs_of" "inputs_of" s_inputs_of OT.q106 558 289) ::
 (nat_lit 297,fq "gate_of" "gate_of" s_gate_of OT.q106 558 296) ::
 (nat_lit 304,fq "outputs_of" "outputs_of" s_outputs_of OT.q106 558 303) ::
 (nat_lit 311,fq "need_known" "need_known" s_need_known OT.q106 558 310) ::
 (nat_lit 316,fq "net_of" "net_of" s_net_of OT.q106 558 315) ::
 (nat_lit 323,fq "_law_cell_at" "_law_cell_at" s_law_cell_at OT.q20 632 322) ::
 (nat_lit 330,fq "_law_letters" "_law_letters" s_law_letters OT.q20 632 329) ::
 (nat_lit 337,fq "_law_next" "_law_next" s_law_next OT.q20 632 336) ::
 (nat_lit 344,fq "_law_one_name" "_law_one_name" s_law_one_name OT.q20 632 343) ::
 (nat_lit 351,fq "_law_all_names" "_law_all_names" s_law_all_names OT.q20 632 350) ::
 (nat_lit 358,fq "_law_drawn_gate" "_law_drawn_gate" s_law_drawn_gate OT.q20 632 357) ::
 (nat_lit 365,fq "_law_drawn" "_law_drawn" s_law_drawn OT.q20 632 364) ::
 (nat_lit 372,fq "_law_rows" "_law_rows" s_law_rows OT.q20 632 371) ::
 (nat_lit 377,fq "_law_wrong_gate" "_law_wrong_gate" s_law_wrong_gate OT.q20 632 376) ::
 (nat_lit 382,fq "_law_wrong_end" "_law_wrong_end" s_law_wrong_end OT.q20 632 381) ::
 (nat_lit 387,fq "_law_spoilt" "_law_spoilt" s_law_spoilt OT.q20 632 386) ::
 (nat_lit 394,fq "_law_kinds" "_law_kinds" s_law_kinds OT.q20 632 393) ::
 (nat_lit 399,fq "law" "law" s_law OT.q20 632 398) ::
 (nat_lit 173,OT.o241 P) ::
 (nat_lit 180,OT.o248 P) ::
 (nat_lit 239,OT.o311 P) ::
 (nat_lit 268,OT.o340 P) ::
 (nat_lit 275,OT.o349 P) ::
 (nat_lit 282,OT.o356 P) ::
 (nat_lit 289,OT.o363 P) ::
 (nat_lit 296,OT.o370 P) ::
 (nat_lit 303,OT.o377 P) ::
 (nat_lit 310,OT.o384 P) ::
 (nat_lit 315,OT.o389 P) ::
 (nat_lit 322,OT.o396 P) ::
 (nat_lit 329,OT.o403 P) ::
 (nat_lit 336,OT.o410 P) ::
 (nat_lit 343,OT.o417 P) ::
 (nat_lit 350,OT.o424 P) ::
 (nat_lit 357,OT.o433 P) ::
 (nat_lit 364,OT.o440 P) ::
 (nat_lit 371,OT.o447 P) ::
 (nat_lit 376,OT.o452 P) ::
 (nat_lit 381,OT.o457 P) ::
 (nat_lit 386,OT.o462 P) ::
 (nat_lit 393,OT.o469 P) ::
 (nat_lit 398,OT.o474 P) ::
 (nat_lit 2,OT.b2 P) ::
 (nat_lit 3,OT.o426 P) ::
 (nat_lit 24,OT.o201 P) ::
 (nat_lit 23,OT.o59 P) ::
 (nat_lit 37,OT.o76 P) ::
 (nat_lit 36,OT.o75 P) ::
 (nat_lit 49,OT.o91 P) ::
 (nat_lit 48,OT.o90 P) ::
 (nat_lit 61,OT.o106 P) ::
 (nat_lit 60,OT.o105 P) ::
 (nat_lit 73,OT.o121 P) ::
 (nat_lit 72,OT.o120 P) ::
 (nat_lit 85,OT.o136 P) ::
 (nat_lit 84,OT.o135 P) ::
 (nat_lit 97,OT.o151 P) ::
 (nat_lit 96,OT.o150 P) ::
 (nat_lit 109,OT.o166 P) ::
 (nat_lit 108,OT.o165 P) ::
 (nat_lit 121,OT.o181 P) ::
 (nat_lit 120,OT.o180 P) ::
 (nat_lit 133,OT.o196 P) ::
 (nat_lit 132,OT.o195 P) ::
 (nat_lit 145,OT.o211 P) ::
 (nat_lit 144,OT.o210 P) ::
 (nat_lit 260,OT.o332 P) ::
 (nat_lit 259,OT.o331 P) ::
 (nat_lit 160,OT.o226 P) ::
 (nat_lit 161,OT.o229 P) ::
 (nat_lit 162,OT.o230 P) ::
 (nat_lit 163,OT.o231 P) ::
 (nat_lit 164,OT.o232 P) ::
 (nat_lit 165,OT.o233 P) ::
 (nat_lit 166,OT.o234 P) ::
 (nat_lit 167,OT.o235 P) ::
 (nat_lit 168,OT.o236 P) ::
 (nat_lit 169,OT.o237 P) :: []
end K08
namespace OT
open PySem PySem.W PySem.Spec
noncomputable abbrev AS:List Addr:=(nat_lit 174 :: nat_lit 181 :: nat_lit 240 :: nat_lit 269 :: nat_lit 276 :: nat_lit 283 :: nat_lit 290 :: nat_lit 297 :: nat_lit 304 :: nat_lit 311 :: nat_lit 316 :: nat_lit 323 :: nat_lit 330 :: nat_lit 337 :: nat_lit 344 :: nat_lit 351 :: nat_lit 358 :: nat_lit 365 :: nat_lit 372 :: nat_lit 377 :: nat_lit 382 :: nat_lit 387 :: nat_lit 394 :: nat_lit 399 :: nat_lit 173 :: nat_lit 180 :: nat_lit 239 :: nat_lit 268 :: nat_lit 275 :: nat_lit 282 :: nat_lit 289 :: nat_lit 296 :: nat_lit 303 :: nat_lit 310 :: nat_lit 315 :: nat_lit 322 :: nat_lit 329 :: nat_lit 336 :: nat_lit 343 :: nat_lit 350 :: nat_lit 357 :: nat_lit 364 :: nat_lit 371 :: nat_lit 376 :: nat_lit 381 :: nat_lit 386 :: nat_lit 393 :: nat_lit 398 :: nat_lit 2 :: nat_lit 3 :: nat_lit 24 :: nat_lit 23 :: nat_lit 37 :: nat_lit 36 :: nat_lit 49 :: nat_lit 48 :: nat_lit 61 :: nat_lit 60 :: nat_lit 73 :: nat_lit 72 :: nat_lit 85 :: nat_lit 84 :: nat_lit 97 :: nat_lit 96 :: nat_lit 109 :: nat_lit 108 :: nat_lit 121 :: nat_lit 120 :: nat_lit 133 :: nat_lit 132 :: nat_lit 145 :: nat_lit 144 :: nat_lit 260 :: nat_lit 259 :: nat_lit 160 :: nat_lit 161 :: nat_lit 162 :: nat_lit 163 :: nat_lit 164 :: nat_lit 165 :: nat_lit 166 :: nat_lit 167 :: nat_lit 168 :: nat_lit 169 :: [])
noncomputable abbrev HK:Hook:=kHook K08.KF AS (fun _=>by kernel_rfl)
theorem lb (w:World) (os:OsState):openSeen (VW PW) LSX (importedModules PW.main.body) (XT (VW PW)) true (S9 w os)=openGood (VW PW) LSX:=by
 rw [PySem.W.Fast.te4187177175401517315,PySem.W.Fast.te5923862056798008813,show PW=TP from PySem.W.Fast.te17080068924636381628]
 exact lb0 w os
theorem lc (w:World) (os:OsState):HK.obs (S9 w os)=HK.val w:=by kernel_rfl
theorem left:LeftO PW (VW PW) LSX (XT (VW PW)) HK.obs HK.val 7868 :=
 LeftO.of_pieces op size run (by decide) fun w=>funext fun os=>by
  rw [la w os,lb w os,lc w os]
end OT
open PySem PySem.W PyProof.Rows
set_option maxRecDepth 100000 in
set_option maxHeartbeats 0 in
theorem PySem.Challenge.cw_gatefold_k08_lines_refused_holds : PySem.Challenge.rw_gatefold_k08_lines_refused.Holds := by
 w_on;o_law
 refine holds_open (q:=OT.VW OT.PW) (loose:=OT.LSX) (Xt:=OT.XT (OT.VW OT.PW)) (XP:=XL (OT.VW OT.PW) []) (Yf:=OT.HK.obs) (Ya:=OT.HK.val) (YP:=OT.HK.says) (N:=7868) OT.left OT.HK.of OT.HK.keeps
  (fun s e=>xl_of s (Bool.and_eq_true_iff.mp e).1) XL.keeps (by rfl) (by rfl) (by rfl)
  (fun s e=>recFacts_of (Bool.and_eq_true_iff.mp e).2) (by rfl) (by first | assumption | decide +kernel)
  (by decide +kernel)
  ⟨rfl,rfl,rfl,rfl,rfl,by decide +kernel⟩ ?hw ?hc
 case hw=>w_witness2
 refine K08.walk (l:=PySem.Challenge.rw_gatefold_k08_lines_refused) (K:=K08.KF) rfl rfl (fun w h Y=>PySem.W.kIn_of Y) ?F
 case F =>
  intro w mg fa h KX G hmg
  k_fill
  refine' K08.all_mk KX G hmg ?aC_Net ?aC_FoldError ?aC_NoBoard ?aC_NoCut ?aC_NoGoal ?aC_NoKnot ?aC_NoLine ?aC_NoMatch ?aC_NoName ?aC_NoSize ?aC_NoText ?aC_NoTie ?a0 ?l0 ?c0 ?k0 ?a1 ?l1 ?c1 ?k1 ?a2 ?i2 ?l2 ?c2 ?k2 ?a3 ?l3 ?c3 ?k3 ?a4 ?l4 ?c4 ?k4 ?a5 ?l5 ?c5 ?k5 ?a6 ?l6 ?c6 ?k6 ?a7 ?l7 ?c7 ?k7 ?a8 ?l8 ?c8 ?k8 ?a9 ?l9 ?c9 ?k9 ?a10 ?l10 ?c10 ?k10 ?a11 ?l11 ?c11 ?k11 ?a12 ?l12 ?c12 ?k12 ?a13 ?l13 ?c13 ?k13 ?a14 ?l14 ?c14 ?k14 ?a15 ?l15 ?c15 ?k15 ?a16 ?l16 ?c16 ?k16 ?a17 ?l17 ?c17 ?k17 ?a18 ?l18 ?c18 ?k18 ?a19 ?l19 ?c19 ?k19 ?a20 ?l20 ?c20 ?k20 ?a21 ?l21 ?c21 ?k21 ?a22 ?l22 ?c22 ?k22 ?a23 ?l23 ?c23 ?k23 ?xi_NoLine ?xq_NoLine ?kv_NoLine ?xm_NoLine_FoldError ?ko_NoLine_NoBoard ?ko_NoLine_NoCut ?ko_NoLine_NoGoal ?ko_NoLine_NoKnot ?ko_NoLine_NoLine ?ko_NoLine_NoMatch ?ko_NoLine_NoName ?ko_NoLine_NoSize ?ko_NoLine_NoText ?ko_NoLine_NoTie ?xi_NoName ?xq_NoName ?kv_NoName ?xm_NoName_FoldError ?ko_NoName_NoBoard ?ko_NoName_NoCut ?ko_NoName_NoGoal ?ko_NoName_NoKnot ?ko_NoName_NoLine ?ko_NoName_NoMatch ?ko_NoName_NoName ?ko_NoName_NoSize ?ko_NoName_NoText ?ko_NoName_NoTie ?xk_FoldError ?xk_NoLine ?xk_NoName ?pg_Net ?hd_Net ?po_Net ?sa_Net ?mk_Net ?kc_Net ?n_Net_inputs ?n_Net_gates ?n_Net_outputs ?g_KEPT_WORDS ?go_KEPT_WORDS ?gc_KEPT_WORDS ?gd_KEPT_WORDS ?gv_KEPT_WORDS ?g_LETTERS ?g_LONGEST_NAME ?g_MOST_INPUTS ?g_MOST_OUTPUTS ?g_PART_COUNTS ?gn_PART_COUNTS ?go_PART_COUNTS ?gc_PART_COUNTS ?gc2_PART_COUNTS ?gc3_PART_COUNTS ?gd_PART_COUNTS ?gk_PART_COUNTS ?go0_PART_COUNTS ?gc0t_PART_COUNTS ?gd0_PART_COUNTS ?gv0_PART_COUNTS ?go1_PART_COUNTS ?gc1t_PART_COUNTS ?gd1_PART_COUNTS ?gv1_PART_COUNTS ?go2_PART_COUNTS ?gc2t_PART_COUNTS ?gd2_PART_COUNTS ?gv2_PART_COUNTS ?go3_PART_COUNTS ?gc3t_PART_COUNTS ?gd3_PART_COUNTS ?gv3_PART_COUNTS ?go4_PART_COUNTS ?gc4t_PART_COUNTS ?gd4_PART_COUNTS ?gv4_PART_COUNTS ?go5_PART_COUNTS ?gc5t_PART_COUNTS ?gd5_PART_COUNTS ?gv5_PART_COUNTS ?go6_PART_COUNTS ?gc6t_PART_COUNTS ?gd6_PART_COUNTS ?gv6_PART_COUNTS ?go7_PART_COUNTS ?gc7t_PART_COUNTS ?gd7_PART_COUNTS ?gv7_PART_COUNTS ?z_ValueError ?z_all ?z_dict ?z_int ?z_isinstance ?z_len ?z_list ?z_min ?z_range ?z_set ?z_str ?z_tuple
  (case aC_Net | aC_FoldError | aC_NoBoard | aC_NoCut | aC_NoGoal | aC_NoKnot | aC_NoLine | aC_NoMatch | aC_NoName | aC_NoSize | aC_NoText | aC_NoTie | a0 | l0 | c0 | k0 | a1 | l1 | c1 | k1 | a2 | i2 | l2 | c2 | k2 | a3 | l3 | c3 | k3 | a4 | l4 | c4 | k4 | a5 | l5 | c5 | k5 | a6 | l6 | c6 | k6 | a7 | l7 | c7 | k7 | a8 | l8 | c8 | k8 | a9 | l9 | c9 | k9 | a10 | l10 | c10 | k10 | a11 | l11 | c11 | k11 | a12 | l12 | c12 | k12 | a13 | l13 | c13 | k13 | a14 | l14 | c14 | k14 | a15 | l15 | c15 | k15 | a16 | l16 | c16 | k16 | a17 | l17 | c17 | k17 | a18 | l18 | c18 | k18 | a19 | l19 | c19 | k19 | a20 | l20 | c20 | k20 | a21 | l21 | c21 | k21 | a22 | l22 | c22 | k22 | a23 | l23 | c23 | k23=>k_is)
  (case xi_NoLine=>kernel_rfl)
  (case xq_NoLine=>first | rfl | decide +kernel | k_is)
  (case kv_NoLine=>first | rfl | decide +kernel | k_is)
  (case xm_NoLine_FoldError=>first | rfl | decide +kernel | k_is)
  (case ko_NoLine_NoBoard=>first | rfl | decide +kernel | k_is)
  (case ko_NoLine_NoCut=>first | rfl | decide +kernel | k_is)
  (case ko_NoLine_NoGoal=>first | rfl | decide +kernel | k_is)
  (case ko_NoLine_NoKnot=>first | rfl | decide +kernel | k_is)
  (case ko_NoLine_NoLine=>first | rfl | decide +kernel | k_is)
  (case ko_NoLine_NoMatch=>first | rfl | decide +kernel | k_is)
  (case ko_NoLine_NoName=>first | rfl | decide +kernel | k_is)
  (case ko_NoLine_NoSize=>first | rfl | decide +kernel | k_is)
  (case ko_NoLine_NoText=>first | rfl | decide +kernel | k_is)
  (case ko_NoLine_NoTie=>first | rfl | decide +kernel | k_is)
  (case xi_NoName=>kernel_rfl)
  (case xq_NoName=>first | rfl | decide +kernel | k_is)
  (case kv_NoName=>first | rfl | decide +kernel | k_is)
  (case xm_NoName_FoldError=>first | rfl | decide +kernel | k_is)
  (case ko_NoName_NoBoard=>first | rfl | decide +kernel | k_is)
  (case ko_NoName_NoCut=>first | rfl | decide +kernel | k_is)
  (case ko_NoName_NoGoal=>first | rfl | decide +kernel | k_is)
  (case ko_NoName_NoKnot=>first | rfl | decide +kernel | k_is)
  (case ko_NoName_NoLine=>first | rfl | decide +kernel | k_is)
  (case ko_NoName_NoMatch=>first | rfl | decide +kernel | k_is)
  (case ko_NoName_NoName=>first | rfl | decide +kernel | k_is)
  (case ko_NoName_NoSize=>first | rfl | decide +kernel | k_is)
  (case ko_NoName_NoText=>first | rfl | decide +kernel | k_is)
  (case ko_NoName_NoTie=>first | rfl | decide +kernel | k_is)
  (case xk_FoldError=>first | rfl | decide +kernel | k_is)
  (case xk_NoLine=>first | rfl | decide +kernel | k_is)
  (case xk_NoName=>first | rfl | decide +kernel | k_is)
  (case pg_Net | hd_Net | po_Net | sa_Net | mk_Net | kc_Net | n_Net_inputs | n_Net_gates | n_Net_outputs | g_KEPT_WORDS | go_KEPT_WORDS=>k_is)
  (case gc_KEPT_WORDS=>rfl)
  (case gd_KEPT_WORDS=>rfl)
  (case gv_KEPT_WORDS=>rfl)
  (case g_LETTERS | g_LONGEST_NAME | g_MOST_INPUTS | g_MOST_OUTPUTS | g_PART_COUNTS=>k_is)
  (case gn_PART_COUNTS=>decide)
  (case go_PART_COUNTS=>k_is)
  (case gc_PART_COUNTS=>rfl)
  (case gc2_PART_COUNTS=>rfl)
  (case gc3_PART_COUNTS=>rfl)
  (case gd_PART_COUNTS=>rfl)
  (case gk_PART_COUNTS=>exact ⟨⟨_,rfl⟩,rfl,rfl,⟨⟨_,rfl⟩,rfl,rfl,⟨⟨_,rfl⟩,rfl,rfl,⟨⟨_,rfl⟩,rfl,rfl,⟨⟨_,rfl⟩,rfl,rfl,⟨⟨_,rfl⟩,rfl,rfl,⟨⟨_,rfl⟩,rfl,rfl,⟨⟨_,rfl⟩,rfl,rfl,trivial⟩⟩⟩⟩⟩⟩⟩⟩)
  (case go0_PART_COUNTS=>k_is)
  (case gc0t_PART_COUNTS=>rfl)
  (case gd0_PART_COUNTS=>rfl)
  (case gv0_PART_COUNTS=>rfl)
  (case go1_PART_COUNTS=>k_is)
  (case gc1t_PART_COUNTS=>rfl)
  (case gd1_PART_COUNTS=>rfl)
  (case gv1_PART_COUNTS=>rfl)
  (case go2_PART_COUNTS=>k_is)
  (case gc2t_PART_COUNTS=>rfl)
  (case gd2_PART_COUNTS=>rfl)
  (case gv2_PART_COUNTS=>rfl)
  (case go3_PART_COUNTS=>k_is)
  (case gc3t_PART_COUNTS=>rfl)
  (case gd3_PART_COUNTS=>rfl)
  (case gv3_PART_COUNTS=>rfl)
  (case go4_PART_COUNTS=>k_is)
  (case gc4t_PART_COUNTS=>rfl)
  (case gd4_PART_COUNTS=>rfl)
  (case gv4_PART_COUNTS=>rfl)
  (case go5_PART_COUNTS=>k_is)
  (case gc5t_PART_COUNTS=>rfl)
  (case gd5_PART_COUNTS=>rfl)
  (case gv5_PART_COUNTS=>rfl)
  (case go6_PART_COUNTS=>k_is)
  (case gc6t_PART_COUNTS=>rfl)
  (case gd6_PART_COUNTS=>rfl)
  (case gv6_PART_COUNTS=>rfl)
  (case go7_PART_COUNTS=>k_is)
  (case gc7t_PART_COUNTS=>rfl)
  (case gd7_PART_COUNTS=>rfl)
  (case gv7_PART_COUNTS=>rfl)
  (case z_ValueError | z_all | z_dict | z_int | z_isinstance | z_len | z_list | z_min | z_range | z_set | z_str | z_tuple=>k_is)

