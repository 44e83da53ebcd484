import PyProof.Rows.All
import Wide.All
import OpenK.AllK
import Wide.FinOn
import Lean
import PyProof.EqAt
import PyProof.EqKinds
import PyProof.TupleCall
import PyProof.ZipIter
import PyProof.WalksMore
import PyProof.ListNew
import PyProof.IsiBase
import PyProof.DictList
import PyProof.AttrMiss
import PyProof.FactsAll.dict
import PyProof.ListRange
import PyProof.StrLawsWords
import PyProof.StationsW
import KE.KIsAll
import PyProof.PassesOwn
import PyProof.DictIter
import KE.KRevIter
import KE.KRangeStep
import KE.RegMulBits
import KE.KDictList
import PyProof.SetKind
import PyProof.Rows.SetFrom
import PyProof.Rows.SortShell
import PyProof.SetRoads
import PySem.Challenge.RW_gatefold_k34_board_made
set_option Elab.async false
set_option linter.all false
set_option maxRecDepth 100000
namespace L2
open PySem PySem.Spec PyProof.Rows
abbrev Key:=Sum Int Str
def keyIs:Key→Value→Bool
 | .inl k,v=>Value.isInt k v
 | .inr x,v=>Value.isStrOf x v
def keyH (w:World):Key→Int
 | .inl k=>hashInt k
 | .inr x=>hashStr w x
theorem keyIs_shape:∀ {k:Key}{v:Value},keyIs k v=true→(∃ i t,k=Sum.inl i∧v=Value.int i t)∨(∃ x t,k=Sum.inr x∧v=Value.str x t)
 | .inl i,v,h=>by
  obtain ⟨t,e⟩:=Value.isInt_shape (k:=i) (v:=v) h
  exact .inl ⟨i,t,rfl,e⟩
 | .inr x,v,h=>by
  obtain ⟨t,e⟩:=Value.isStrOf_shape (x:=x) (v:=v) h
  exact .inr ⟨x,t,rfl,e⟩
theorem keyIs_int (i:Int) (t:Tok):keyIs (.inl i) (.int i t)=true:=by simp [keyIs,Value.isInt]
theorem keyIs_str (x:Str) (t:Tok):keyIs (.inr x) (.str x t)=true:=by simp [keyIs,Value.isStrOf]
theorem key_ll (a b:Int):decide ((Sum.inl a:Key)=Sum.inl b)=(a == b):=by
 by_cases e:a=b
 ·subst e;simp
 ·have h:¬ (Sum.inl a:Key)=Sum.inl b:=fun q=>e (Sum.inl.inj q)
  rw [decide_eq_false h]
  exact (beq_eq_false_iff_ne.mpr e).symm
theorem key_rr (a b:Str):decide ((Sum.inr a:Key)=Sum.inr b)=decide (a=b):=by
 by_cases e:a=b
 ·subst e;simp
 ·have h:¬ (Sum.inr a:Key)=Sum.inr b:=fun q=>e (Sum.inr.inj q)
  rw [decide_eq_false h,decide_eq_false e]
theorem key_lr (a:Int) (b:Str):decide ((Sum.inl a:Key)=Sum.inr b)=false:=decide_eq_false (fun q=>nomatch q)
theorem key_rl (a:Str) (b:Int):decide ((Sum.inr a:Key)=Sum.inl b)=false:=decide_eq_false (fun q=>nomatch q)
def mixKind (prog:Program) (w:World):PySem.KeyKind prog w Key where
 is:=keyIs
 hash:=keyH w
 inj:=fun v a b ha hb=>by
  rcases keyIs_shape ha with ⟨i,t,rfl,rfl⟩ | ⟨x,t,rfl,rfl⟩
  ·rcases keyIs_shape hb with ⟨j,u,rfl,e⟩ | ⟨y,u,rfl,e⟩
   ·injection e with e1 _;rw [e1]
   ·exact nomatch e
  ·rcases keyIs_shape hb with ⟨j,u,rfl,e⟩ | ⟨y,u,rfl,e⟩
   ·exact nomatch e
   ·injection e with e1 _;rw [e1]
 byValue:=fun k v h=>by
  rcases keyIs_shape h with ⟨i,t,rfl,rfl⟩ | ⟨x,t,rfl,rfl⟩ <;> rfl
 pyHash:=fun hv h=>by
  rcases keyIs_shape hv with ⟨i,t,rfl,rfl⟩ | ⟨x,t,rfl,rfl⟩
  ·exact wpAny_pyHash_int h
  ·exact wpAny_pyHash_str h
 eqBool:=fun hu hv h=>by
  rcases keyIs_shape hu with ⟨i,t,rfl,rfl⟩ | ⟨x,t,rfl,rfl⟩
  ·rcases keyIs_shape hv with ⟨j,u,rfl,rfl⟩ | ⟨y,u,rfl,rfl⟩
   ·rw [key_ll] at h;exact wpAny_eqBool_int h
   ·rw [key_lr] at h;exact SeqAt.EqAt.int_str i t y u _ _ _ _ h
  ·rcases keyIs_shape hv with ⟨j,u,rfl,rfl⟩ | ⟨y,u,rfl,rfl⟩
   ·rw [key_rl] at h;exact SeqAt.EqAt.str_int x t j u _ _ _ _ h
   ·rw [key_rr] at h;exact wpAny_eqBool_str h
 «strs»:=fun k x t v h=>by
  rcases keyIs_shape h with ⟨i,u,rfl,e⟩ | ⟨y,u,rfl,e⟩
  ·exact nomatch e
  ·injection e with e1 _
   subst e1
   cases v <;> rfl
theorem mixKind_int (prog:Program) (w:World) (i:Int) (t:Tok):(mixKind prog w).is (.inl i) (.int i t)=true:=keyIs_int i t
theorem mixKind_str (prog:Program) (w:World) (x:Str) (t:Tok):(mixKind prog w).is (.inr x) (.str x t)=true:=keyIs_str x t
inductive V where
 | non | bl (b:Bool) | int (i:Int) | str (x:Str) | byt (b:Array UInt8) | flt (b:UInt64) | ref (a:Addr) | ty (n:String)
 deriving DecidableEq
def RelV:V→Value→Prop
 | .non,u=>u=Value.none
 | .bl b,u=>u=Value.bool b
 | .int i,u=>∃ t,u=Value.int i t
 | .str x,u=>∃ t,u=Value.str x t
 | .byt b,u=>∃ t,u=Value.bytes b t
 | .flt b,u=>∃ t,u=Value.float b t
 | .ref a,u=>u=Value.ref a
 | .ty n,u=>u=Value.type n
abbrev Vals:List V→List Value→Prop:=Paired RelV
theorem Vals.length {xs:List V}{us:List Value} (r:Vals xs us):xs.length=us.length:=Paired.length r
theorem Vals.get:∀ {xs:List V}{us:List Value}{i:Nat}{x:V},Vals xs us→xs[i]? = some x→∃ u,us[i]? = some u∧RelV x u
 | _,_,_,_,.nil,e=>by simp at e
 | _,_,0,_,.cons r _,e=>by simp at e;subst e;exact ⟨_,rfl,r⟩
 | _,_,i+1,x,.cons _ t,e=>by
  obtain ⟨u,h1,h2⟩:=Vals.get (i:=i) (x:=x) t (by simpa using e)
  exact ⟨u,by simpa using h1,h2⟩
theorem Vals.set {x:V}{u:Value} (r:RelV x u):∀ {xs:List V}{us:List Value} (i:Nat),Vals xs us→Vals (xs.set i x) (us.set i u)
 | _,_,_,.nil=>.nil
 | _,_,0,.cons _ t=>.cons r t
 | _,_,i+1,.cons q t=>.cons q (Vals.set r i t)
theorem Vals.append:∀ {xs ys:List V}{us ws:List Value},Vals xs us→Vals ys ws→Vals (xs ++ ys) (us ++ ws)
 | _,_,_,_,.nil,s=>s
 | _,_,_,_,.cons r t,s=>.cons r (Vals.append t s)
theorem Vals.take:∀ {xs:List V}{us:List Value} (n:Nat),Vals xs us→Vals (xs.take n) (us.take n)
 | _,_,0,_=>.nil
 | _,_,_+1,.nil=>.nil
 | _,_,n+1,.cons r t=>.cons r (Vals.take n t)
theorem Vals.drop:∀ {xs:List V}{us:List Value} (n:Nat),Vals xs us→Vals (xs.drop n) (us.drop n)
 | _,_,0,r=>r
 | _,_,_+1,.nil=>.nil
 | _,_,n+1,.cons _ t=>Vals.drop n t
def RelO:Option V→Option Value→Prop
 | some v,some u=>RelV v u
 | none,none=>True
 | _,_=>False
def KV {κ:Type}:List (κ × V)→List (κ × Value)→Prop:=Paired fun (p:κ × V) (q:κ × Value)=>p.1=q.1∧RelV p.2 q.2
def kV:Key→V
 | .inl i=>.int i
 | .inr x=>.str x
inductive HO where
  | lst (xs:List V)
  | tup (xs:List V)
  | dK (kvs:List (Key × V)) | dT (kvs:List (List Key × V))
  | set (S:Int→Bool) (n:Nat)
  | ins (C dx:Addr) (fs:List (Str × V))
  | own (x:Addr)
  | xd (fs:List (Str × V))
  | met (f x:Addr)
  | rng (lo hi:Int)
  | frz (o:Obj) (u:HO)
  | tbl (ps:Array Value)
  | ext (φ:Heap→Prop)
abbrev Hp:=Addr→Option HO
def upd (H:Hp) (a:Addr) (o:HO):Hp:=fun b=>if b=a then some o else H b
theorem upd_same {H:Hp}{a:Addr}{o:HO}:upd H a o a=some o:=by unfold upd;rw [if_pos rfl]
theorem upd_ne {H:Hp}{a b:Addr}{o:HO} (h:b≠a):upd H a o b=H b:=by unfold upd;rw [if_neg h]
theorem upd_upd {H:Hp}{a:Addr}{o u:HO}:upd (upd H a o) a u=upd H a u:=by
 funext b;unfold upd;split <;> rfl
theorem ne_of {H:Hp}{a b:Addr}{o u:HO} (h:H a=some o) (h':H b=some u) (d:o≠u):a≠b:=by
 intro e;subst e;rw [h] at h';exact d (Option.some.inj h')
theorem ne_of_none {H:Hp}{a b:Addr}{o:HO} (h:H a=some o) (h':H b=none):a≠b:=by
 intro e;subst e;rw [h] at h';cases h'
section
variable (P:Program) (w:World)
def ObjOk (H:Hp) (h:Heap) (a:Addr):HO→Prop
 | .lst xs=>xs.length≤sizeLine∧∃ (its:List Value) (n:Nat),Vals xs its∧h.get? a=some { cls:=.type "list",data:=.seq its.toArray n }
 | .tup xs=>xs.length≤sizeLine∧∃ its:List Value,Vals xs its∧IsTup h a its.toArray
 | .dK kvs=>kvs.length≤sizeLine∧(a == sysModules)=false∧∃ vs,KV kvs vs∧h.DictOf (mixKind P w) a vs
 | .dT kvs=>kvs.length≤sizeLine∧(a == sysModules)=false∧∃ xs:List (List Key × Addr × Value),
   Paired (fun (p:List Key × V) (q:List Key × Addr × Value)=>p.1=q.1∧H q.2.1=some (.tup (p.1.map kV))∧RelV p.2 q.2.2) kvs xs ∧
   ∃ o es ep,h.get? a=some o∧o.ExactDict∧o.data=.dict es ep∧es.toList=xs.map (entryOfKey (tupleKind (mixKind P w)))∧(xs.map (·.1)).Nodup
 | .set S n=>h.SetOf (intKind P w) a S n
 | .ins C dx fs=>H dx=some (.own a)∧fs.length≤1000∧dx≠a∧h.get? a=some (PySem.W.instObj C dx) ∧
   ∃ mA,h.Ns1 dx mA∧(∀ f,RelO (fs.lookup f) (mA f))∧PySem.Within mA (fs.map (·.1))
 | .own _=>∃ o,h.get? a=some o
 | .xd fs=>∃ mA,h.Ns1 a mA∧∀ f,RelO (fs.lookup f) (mA f)
 | .rng lo hi=>∃ t u v,h.get? a=some { cls:=.type "range",data:=.fields #[.int lo t,.int hi u,.int 1 v] }
 | .frz o u=>h.get? a=some o∧ObjOk H h a u
 | .tbl ps=>h.get? a=some { cls:=.none,data:=.fields ps }
 | .met f x=>h.get? a=some (PySem.W.methodObj (.ref f) (.ref x))
 | .ext φ=>φ h∧(∃ o,h.get? a=some o)∧∀ h1 h2:Heap,φ h1→(∀ o,h1.get? a=some o→h2.get? a=some o)→φ h2
def HOk (H:Hp) (h:Heap):Prop:=∀ a o,H a=some o→ObjOk P w H h a o
end
section
variable {P:Program}{w:World}{H H':Hp}{h h':Heap}{a:Addr}{o:HO}
theorem ObjOk.lt (x:ObjOk P w H h a o):a<h.objs.size:=by
 cases o with
 | lst xs=>obtain ⟨_,_,_,_,e⟩:=x;exact Heap.lt_size e
 | tup xs=>obtain ⟨_,_,_,p⟩:=x;exact p.lt
 | dK kvs=>obtain ⟨_,_,_,_,o,_,_,e,_⟩:=x;exact Heap.lt_size e
 | dT kvs=>obtain ⟨_,_,_,_,o,_,_,e,_⟩:=x;exact Heap.lt_size e
 | set S n=>obtain ⟨o,_,_,_,e,_⟩:=x;exact Heap.lt_size e
 | ins C dx fs=>obtain ⟨_,_,_,e,_⟩:=x;exact Heap.lt_size e
 | own y=>obtain ⟨_,e⟩:=x;exact Heap.lt_size e
 | xd fs=>obtain ⟨_,⟨_,_,_,e,_⟩,_⟩:=x;exact Heap.lt_size e
 | rng lo hi=>obtain ⟨_,_,_,e⟩:=x;exact Heap.lt_size e
 | frz ob u=>obtain ⟨e,_⟩:=x;exact Heap.lt_size e
 | tbl ps=>exact Heap.lt_size (show h.get? a=some _ from x)
 | met f y=>exact Heap.lt_size (show h.get? a=some _ from x)
 | ext φ=>obtain ⟨_,⟨_,e⟩,_⟩:=x;exact Heap.lt_size e
theorem Paired.mapP {α β:Type}{F G:α→β→Prop}:∀ {l₁:List α}{l₂:List β},Paired F l₁ l₂→(∀ a b,F a b→G a b)→Paired G l₁ l₂
 | _,_,.nil,_=>.nil
 | _,_,.cons r t,f=>.cons (f _ _ r) (Paired.mapP t f)
theorem ObjOk.stay (x:ObjOk P w H h a o) (k:∀ b u,(b=a∨H b=some (.own a))→h.get? b=some u→h'.get? b=some u)
  (ho:∀ b,H b=some (.own a)→H' b=some (.own a)) (ht:∀ b xs,H b=some (.tup xs)→H' b=some (.tup xs)):ObjOk P w H' h' a o:=by
 induction o with
 | lst xs=>obtain ⟨z,its,n,r,e⟩:=x;exact ⟨z,its,n,r,k _ _ (.inl rfl) e⟩
 | tup xs=>obtain ⟨z,its,r,ob,e,c⟩:=x;exact ⟨z,its,r,ob,k _ _ (.inl rfl) e,c⟩
 | dK kvs=>obtain ⟨z,y,vs,r,ob,es,ep,e,c⟩:=x;exact ⟨z,y,vs,r,ob,es,ep,k _ _ (.inl rfl) e,c⟩
 | dT kvs =>
  obtain ⟨z,y,xs,r,ob,es,ep,e,c⟩:=x
  exact ⟨z,y,xs,Paired.mapP r fun p q z=>⟨z.1,ht _ _ z.2.1,z.2.2⟩,ob,es,ep,k _ _ (.inl rfl) e,c⟩
 | set S n=>obtain ⟨ob,es,ep,t,e,c⟩:=x;exact ⟨ob,es,ep,t,k _ _ (.inl rfl) e,c⟩
 | ins C dx fs =>
  obtain ⟨d,z,ne,e,mA,⟨od,es,ep,e2,c⟩,r⟩:=x
  exact ⟨ho _ d,z,ne,k _ _ (.inl rfl) e,mA,⟨od,es,ep,k _ _ (.inr d) e2,c⟩,r⟩
 | own y=>obtain ⟨ob,e⟩:=x;exact ⟨ob,k _ _ (.inl rfl) e⟩
 | xd fs=>obtain ⟨mA,⟨od,es,ep,e,c⟩,r⟩:=x;exact ⟨mA,⟨od,es,ep,k _ _ (.inl rfl) e,c⟩,r⟩
 | rng lo hi=>obtain ⟨t,u,v,e⟩:=x;exact ⟨t,u,v,k _ _ (.inl rfl) e⟩
 | frz ob u ih=>obtain ⟨e,q⟩:=x;exact ⟨k _ _ (.inl rfl) e,ih q⟩
 | tbl ps =>
  have e:h.get? a=some { cls:=.none,data:=.fields ps }:=x
  show h'.get? a=some { cls:=.none,data:=.fields ps }
  exact k a _ (.inl rfl) e
 | met f y =>
  have e:h.get? a=some (PySem.W.methodObj (.ref f) (.ref y)):=x
  show h'.get? a=some (PySem.W.methodObj (.ref f) (.ref y))
  exact k a _ (.inl rfl) e
 | ext φ=>obtain ⟨p,⟨o,e⟩,st⟩:=x;exact ⟨st _ _ p fun o q=>k _ _ (.inl rfl) q,⟨o,k _ _ (.inl rfl) e⟩,st⟩
theorem HOk.lt (x:HOk P w H h) (e:H a=some o):a<h.objs.size:=(x a o e).lt
theorem HOk.fresh (x:HOk P w H h) (e:h.objs.size≤a):H a=none:=by
 cases q:H a with
 | none=>rfl
 | some u=>exact absurd (Nat.lt_of_lt_of_le (x.lt q) e) (Nat.lt_irrefl _)
theorem HOk.kept (x:HOk P w H h) (k:∀ b u,h.get? b=some u→h'.get? b=some u):HOk P w H h':=fun a o e =>
 (x a o e).stay (fun b u _ q=>k b u q) (fun _ q=>q) fun _ _ q=>q
theorem HOk.laid (x:HOk P w H h) (k:∀ b u,h.get? b=some u→h'.get? b=some u) (hp:h.objs.size≤a) (new:ObjOk P w (upd H a o) h' a o):HOk P w (upd H a o) h':=fun b u e=>by
 have hn:=x.fresh hp
 by_cases hb:b=a
 ·subst hb;rw [upd_same] at e;cases e;exact new
 ·rw [upd_ne hb] at e
  exact (x b u e).stay (fun c v _ q=>k c v q) (fun c q=>by rw [upd_ne (ne_of_none q hn)];exact q) fun c xs q=>by rw [upd_ne (ne_of_none q hn)];exact q
end
def Rd (H:Hp) (a:Addr) (u:HO):Prop:=H a=some u∨∃ o,H a=some (.frz o u)
theorem Rd.ok {P:Program}{w:World}{H:Hp}{h:Heap}{a:Addr}{u:HO} (r:Rd H a u) (x:HOk P w H h):ObjOk P w H h a u:=by
 rcases r with r | ⟨o,r⟩
 ·exact x a u r
 ·obtain ⟨_,q⟩:=x a _ r
  exact q
def Mut:Option HO→Prop
 | some (.lst _)=>True
 | some (.dK _)=>True
 | some (.dT _)=>True
 | some (.set _ _)=>True
 | some (.ins _ _ _)=>True
 | some (.ext _)=>True
 | _=>False
section
variable {P:Program}{w:World}{H:Hp}{h h':Heap}{x e:Addr}{o':HO}
theorem HOk.write (ok:HOk P w H h) (mu:Mut (H x)) (he:e=x∨H e=some (.own x)) (k:∀ b u,b≠e→h.get? b=some u→h'.get? b=some u) (heo:∃ u,h'.get? e=some u)
  (new:ObjOk P w (upd H x o') h' x o'):HOk P w (upd H x o') h':=fun b u q=>by
 have nown:∀ c y,H c=some (.own y)→c≠x:=fun c y r z=>by subst z;rw [r] at mu;exact mu
 have ntup:∀ c xs,H c=some (.tup xs)→c≠x:=fun c xs r z=>by subst z;rw [r] at mu;exact mu
 by_cases hb:b=x
 ·subst hb;rw [upd_same] at q;cases q;exact new
 ·rw [upd_ne hb] at q
  by_cases hbe:b=e
  ·have q':H b=some (.own x):=by
    rcases he with z | z
    ·exact absurd (hbe.trans z) hb
    ·rw [hbe];exact z
   rw [q] at q';cases q'
   obtain ⟨v,hv⟩:=heo
   exact ⟨v,by rw [hbe];exact hv⟩
  ·refine (ok b u q).stay (fun c v hc r=>k c v ?_ r) (fun c r=>by rw [upd_ne (nown c b r)];exact r) fun c xs r=>by rw [upd_ne (ntup c xs r)];exact r
   rcases hc with rfl | hc
   ·exact hbe
   ·rintro rfl
    rcases he with z | z
    ·exact nown c b hc z
    ·rw [hc] at z;cases z;exact hb rfl
end
structure Un (fs ex:List Addr) (H H':Hp) (h h':Heap):Prop where
 keep:∀ b o,h.get? b=some o→H b=none→b ∉ fs→b ∉ ex→h'.get? b=some o
 slot:∀ b o,h.get? b=some o→H b=none→b∈fs→b ∉ ex→∃ sl,h'.get? b=some { o with slots:=sl }
 free:∀ b o,h.get? b=some o→H b=none→b ∉ ex→H' b=none
 there:∀ b o,h.get? b=some o→b ∉ ex→∃ o',h'.get? b=some o'
 tups:∀ b xs,H b=some (.tup xs)→H' b=some (.tup xs)
 frzs:∀ b o u,H b=some (.frz o u)→H' b=some (.frz o u)
 tbls:∀ b ps,H b=some (.tbl ps)→∃ more,H' b=some (.tbl (ps ++ more))
section
variable {fs fs' ex ex':List Addr}{H H1 H2:Hp}{h h1 h2 h':Heap}{a x e:Addr}{o:HO}
theorem Un.any (u:Un fs ex H H1 h h1) {b:Addr}{ob:Obj} (q:h.get? b=some ob) (n:H b=none) (hx:b ∉ ex):∃ sl,h1.get? b=some { ob with slots:=sl }:=by
 by_cases hb:b∈fs
 ·exact u.slot b ob q n hb hx
 ·exact ⟨ob.slots,u.keep b ob q n hb hx⟩
theorem Un.kept (k:∀ b u,h.get? b=some u→h'.get? b=some u):Un fs ex H H h h' :=
 ⟨fun b ob q _ _ _=>k b ob q,fun b ob q _ _ _=>⟨ob.slots,k b ob q⟩,fun _ _ _ n _=>n,fun b ob q _=>⟨ob,k b ob q⟩,fun _ _ q=>q,fun _ _ _ q=>q,fun _ ps q=>⟨#[],by rw [q];simp⟩⟩
theorem Un.refl:Un fs ex H H h h:=Un.kept fun _ _ q=>q
theorem Un.laid (k:∀ b u,h.get? b=some u→h'.get? b=some u) (hp:h.objs.size≤a) (hn:H a=none):Un fs ex H (upd H a o) h h' where
 keep:=fun b u q _ _ _=>k b u q
 slot:=fun b u q _ _ _=>⟨u.slots,k b u q⟩
 free:=fun b u q n _=>by rw [upd_ne (Nat.ne_of_lt (Nat.lt_of_lt_of_le (Heap.lt_size q) hp))];exact n
 there:=fun b u q _=>⟨u,k b u q⟩
 tups:=fun b xs q=>by rw [upd_ne (ne_of_none q hn)];exact q
 frzs:=fun b u xs q=>by rw [upd_ne (ne_of_none q hn)];exact q
 tbls:=fun b ps q=>⟨#[],by rw [upd_ne (ne_of_none q hn),q];simp⟩
theorem Un.write (mu:Mut (H x)) (he:e=x∨H e=some (.own x)) (k:∀ b u,b≠e→h.get? b=some u→h'.get? b=some u) (heo:∃ u,h'.get? e=some u):Un fs ex H (upd H x o) h h':=by
 have hx:∀ b,H b=none→b≠x:=fun b n z=>by subst z;rw [n] at mu;exact mu
 have hb:∀ b,H b=none→b≠e:=fun b n z=>by
  subst z
  rcases he with r | r
  ·exact hx b n r
  ·rw [n] at r;cases r
 have hm:∀ b u,H b=some u→¬ Mut (some u)→b≠x:=fun b u q nm z=>by subst z;rw [q] at mu;exact nm mu
 refine ⟨fun b u q n _ _=>k b u (hb b n) q,fun b u q n _ _=>⟨u.slots,k b u (hb b n) q⟩,fun b u q n _=>by rw [upd_ne (hx b n)];exact n,fun b u q _=>?_,
  fun b xs q=>by rw [upd_ne (hm b _ q fun z=>z)];exact q,fun b u xs q=>by rw [upd_ne (hm b _ q fun z=>z)];exact q,fun b ps q=>⟨#[],by rw [upd_ne (hm b _ q fun z=>z),q];simp⟩⟩
 by_cases hbe:b=e
 ·subst hbe;exact heo
 ·exact ⟨u,k b u hbe q⟩
end
def trk (h:Heap) (H:Hp):List Addr:=(List.range h.objs.size).filter fun a=>(H a).isSome
def hidT (h:Heap) (H:Hp):Heap:=PySem.W.hideAll h (trk h H)
theorem hidT_size (h:Heap) (H:Hp):(hidT h H).objs.size=h.objs.size:=PySem.W.hideAll_size _ _
theorem hidT_get {h:Heap}{H:Hp}{b:Addr}{o:Obj} (e:h.get? b=some o) (n:H b=none):(hidT h H).get? b=some o :=
 PySem.W.hideAll_get _ e fun hm=>by
  have q:(H b).isSome=true:=(List.mem_filter.mp hm).2
  rw [n] at q;simp at q
theorem of_hidT {h:Heap}{H:Hp}{b:Addr}{o:Obj} (e:(hidT h H).get? b=some o):h.get? b=some o∧H b=none:=by
 have e':h.get? b=some o:=PySem.W.of_hideAll (trk h H) e
 refine ⟨e',?_⟩
 cases q:H b with
 | none=>rfl
 | some x =>
  have hm:b∈trk h H:=List.mem_filter.mpr ⟨List.mem_range.mpr (Heap.lt_size e'),by simp [q]⟩
  have z:(hidT h H).get? b=none:=PySem.W.hideAll_none (trk h H) hm
  rw [z] at e;cases e
def allNews (g h:Heap) (L:Addr):List (Addr × Obj):=(List.range h.objs.size).filterMap fun a=>if a=L∨(g.get? a).isSome=true then none else (h.get? a).map fun o=>(a,o)
def rest (g h:Heap) (L d:Addr):List (Addr × Obj):=(allNews g h L).filter fun p=>decide (p.1≠d)
structure Mod (K:PySem.W.Frag) (mg:Str→Option Value) (base:Heap):Prop where
 kin:K.In base
 glob:base.Ns mainGlobals mg
 blt:∃ mb,base.Ns builtinsNs mb∧∀ x:Str,x ≠ "__name__" → mb x=bootBuiltins x
 nolimit:base.NoLimit
structure Cx where
 prog:Program
 w:World
 K:PySem.W.Frag
 mg:Str→Option Value
 base:Heap
 A:Around
 N:List Str
 s₀:Shared
 H₀:Hp
 env:Env
 outer:List Env
 stack:List Env
 ex:List Addr
 fn:Str→Bool
 calm:Bool
 pn:List (Addr × Obj)
 xe:Value→Shared→Prop
def frs (l:List Env):List Addr:=l.filterMap (·.frame)
abbrev Cx.fs (X:Cx):List Addr:=frs X.outer
def Vis (sc:Scope) (x:Str):Prop:=sc.names.lookup x=some .local∨sc.names.lookup x=some .cell∨sc.names.lookup x=some .free
def Loc (sc:Scope) (x:Str):Prop:=sc.names.lookup x=some .local∨sc.names.lookup x=some .cell
def Look (env:Env) (h:Heap) (m:Str→Option Value) (x:Str) (u:Value):Prop :=
 (env.kindOf x=some .local∧m x=some u)∨((env.kindOf x=some .cell∨env.kindOf x=some .free)∧∃ c,env.cells.lookup x=some c∧h.IsCell c (some u))
structure Cx.Ok (X:Cx):Prop where
 mod:Mod X.K X.mg X.base
 kind:X.env.scope.kind=.function
 glob:X.env.globals=mainGlobals
 blt:X.env.builtins=builtinsNs
 above:X.s₀.heap.objs.size≤X.env.locals
 inj:∀ x y c,X.env.cells.lookup x=some c→X.env.cells.lookup y=some c→x=y
 has:∀ x,(X.env.kindOf x=some .cell∨X.env.kindOf x=some .free)→∃ c,X.env.cells.lookup x=some c
 cab:∀ x c,X.fn x=true→X.env.cells.lookup x=some c→X.s₀.heap.objs.size≤c
 hd:X.calm=true→X.A.handled=none
 frames:X.A.frames=some X.stack
 stk:X.stack=X.outer∨(X.stack=X.env :: X.outer∧X.env.frame=some X.env.locals)
 exf:∀ b∈X.ex,b≠X.env.locals∧∀ x c,X.env.cells.lookup x=some c→c≠b
 bs:∀ b o,X.base.get? b=some o→X.s₀.heap.get? b=some o∧X.H₀ b=none
 bsz:X.base.objs.size≤X.s₀.heap.objs.size
 noex:∀ b o,X.base.get? b=some o→b ∉ X.ex
 exfs:∀ b∈X.ex,b ∉ X.fs
 funs:X.s₀.heap.FunFrames X.base X.outer
 frf:∀ b∈X.fs,X.H₀ b=none
structure Inv (X:Cx) (pins:List (Addr × Obj)) (σ:List (Option V)) (H:Hp) (s:Shared):Prop where
 ok:X.Ok
 os:s.os=X.s₀.os
 bare:AllBare s.gens
 base:Un X.fs X.ex X.H₀ H X.s₀.heap s.heap
 loc:∃ m,s.heap.Ns X.env.locals m∧∀ (i:Nat) (x:Str) (v:V),X.N[i]? = some x→σ[i]? = some (some v)→Vis X.env.scope x→∃ u,RelV v u∧Look X.env s.heap m x u
 cell:∀ x c,X.env.cells.lookup x=some c→∃ v,s.heap.IsCell c v
 free:H X.env.locals=none
 freeC:∀ x c,X.env.cells.lookup x=some c→H c=none
 pin:∀ p∈X.pn ++ pins,s.heap.get? p.1=some p.2∧H p.1=none∧p.1≠X.env.locals∧p.1 ∉ X.fs∧∀ v,p.2.data≠.cell v
 hok:HOk X.prog X.w H s.heap
 len:σ.length=X.N.length
section
variable {X:Cx}{pins:List (Addr × Obj)}{σ:List (Option V)}{H H':Hp}{s:Shared}{h':Heap}
theorem Cx.Ok.nofr (ok:X.Ok) {b:Addr}{o:Obj} (e:X.base.get? b=some o):b ∉ X.fs:=fun hb=>by
 have:=(ok.funs.mem hb).1
 rw [e] at this;cases this
theorem Inv.bs (I:Inv X pins σ H s):∀ b o,X.base.get? b=some o→s.heap.get? b=some o∧H b=none:=fun b o e =>
 ⟨I.base.keep b o (I.ok.bs b o e).1 (I.ok.bs b o e).2 (I.ok.nofr e) (I.ok.noex b o e),I.base.free b o (I.ok.bs b o e).1 (I.ok.bs b o e).2 (I.ok.noex b o e)⟩
theorem Inv.bk (I:Inv X pins σ H s):∀ b o,X.base.get? b=some o→s.heap.get? b=some o:=fun b o e=>(I.bs b o e).1
theorem Inv.mod (I:Inv X pins σ H s):Mod X.K X.mg X.base:=I.ok.mod
theorem Inv.kIn (I:Inv X pins σ H s):X.K.In s.heap:=I.ok.mod.kin.keeps I.bk
theorem Inv.nolimit (I:Inv X pins σ H s):s.heap.NoLimit:=I.ok.mod.nolimit.keeps I.bk
theorem Inv.fr (I:Inv X pins σ H s):∃ m,Fr X.base X.env.locals s.heap m :=
 let ⟨m,hn,_⟩:=I.loc
 ⟨m,hn,I.bk,Nat.le_trans I.ok.bsz I.ok.above⟩
theorem Inv.lt (I:Inv X pins σ H s):X.env.locals<s.heap.objs.size:=let ⟨_,hn,_⟩:=I.loc;hn.lt
theorem Inv.sz (I:Inv X pins σ H s):X.s₀.heap.objs.size≤s.heap.objs.size:=Nat.le_trans I.ok.above (Nat.le_of_lt I.lt)
theorem Inv.nofs (I:Inv X pins σ H s) {a:Addr} (h:s.heap.objs.size≤a):a ∉ X.fs:=fun hb=>by
 obtain ⟨_,o,ho,_⟩:=I.ok.funs.mem hb
 exact absurd (Nat.lt_of_lt_of_le (Heap.lt_size ho) (Nat.le_trans I.sz h)) (Nat.lt_irrefl _)
theorem Inv.cne (I:Inv X pins σ H s):∀ x c,X.env.cells.lookup x=some c→c≠X.env.locals:=fun x c e z=>by
 obtain ⟨v,o,ho,hd⟩:=I.cell x c e
 obtain ⟨m,⟨o',es,ep,ho',hd',_⟩,_⟩:=I.loc
 rw [z,ho'] at ho;cases ho;rw [hd'] at hd;cases hd
theorem Inv.funs (I:Inv X pins σ H s):s.heap.FunFrames X.base X.outer:=by
 have all:∀ (l:List Env),(∀ b∈frs l,b∈X.fs)→X.s₀.heap.FunFrames X.base l→s.heap.FunFrames X.base l:=by
  intro l
  induction l with
  | nil=>intro _ _;trivial
  | cons env r ih =>
   intro hs hl
   obtain ⟨hk,⟨L,o,hf,hn,ho,hd⟩,hr⟩:=hl
   have hL:L∈X.fs:=hs L (by unfold frs;rw [List.filterMap_cons,hf];exact List.mem_cons_self)
   obtain ⟨sl,e⟩:=I.base.slot L o ho (I.ok.frf L hL) hL fun z=>I.ok.exfs L z hL
   exact ⟨hk,⟨L,_,hf,hn,e,hd⟩,ih (fun b hb=>hs b (by unfold frs;rw [List.filterMap_cons,hf];exact List.mem_cons_of_mem _ hb)) hr⟩
 exact all X.outer (fun _ hb=>hb) I.ok.funs
theorem Inv.stack (I:Inv X pins σ H s):s.heap.FunFrames X.base X.stack:=by
 rcases I.ok.stk with e | ⟨e,hf⟩
 ·rw [e];exact I.funs
 ·rw [e]
  obtain ⟨m,hn,_⟩:=I.loc
  refine .cons (by rw [I.ok.kind];decide) hf hn ?_ I.funs
  exact Heap.get?_none_of_le (Nat.le_trans I.ok.bsz I.ok.above)
theorem Inv.stkSub (I:Inv X pins σ H s):∀ b∈frs X.stack,b∈X.env.locals :: X.fs:=fun b hb=>by
 rcases I.ok.stk with e | ⟨e,hf⟩
 ·rw [e] at hb;exact List.mem_cons_of_mem _ hb
 ·rw [e] at hb
  unfold frs at hb
  rw [List.filterMap_cons,hf] at hb
  exact hb
theorem Inv.stkFree (I:Inv X pins σ H s):∀ b∈frs X.stack,H b=none:=fun b hb=>by
 rcases List.mem_cons.mp (I.stkSub b hb) with e | hb
 ·rw [e];exact I.free
 ·obtain ⟨_,o,ho,_⟩:=I.ok.funs.mem hb
  exact I.base.free b o ho (I.ok.frf b hb) fun z=>I.ok.exfs b z hb
theorem Inv.step {g':Array GenState}{t':Nat}{d':Drawn}{ch:List Addr} (I:Inv X pins σ H s)
  (hch:∀ b∈ch,(b∈X.ex∨X.s₀.heap.objs.size≤b)∧b≠X.env.locals∧(∀ x c,X.env.cells.lookup x=some c→c≠b)∧∀ p∈X.pn ++ pins,p.1≠b)
  (keep:∀ b o,b≠X.env.locals→b ∉ X.fs→b ∉ ch→s.heap.get? b=some o→H b=none→h'.get? b=some o)
  (slot:∀ b o,b≠X.env.locals→b∈X.fs→b ∉ ch→s.heap.get? b=some o→H b=none→∃ sl,h'.get? b=some { o with slots:=sl }) (free:∀ b o,b ∉ ch→s.heap.get? b=some o→H b=none→H' b=none)
  (there:∀ b o,b ∉ ch→s.heap.get? b=some o→∃ o',h'.get? b=some o')
  (tups:∀ b xs,H b=some (.tup xs)→H' b=some (.tup xs)) (frzs:∀ b o u,H b=some (.frz o u)→H' b=some (.frz o u)) (tbls:∀ b ps,H b=some (.tbl ps)→∃ more,H' b=some (.tbl (ps ++ more)))
  (ns:∀ m,s.heap.Ns X.env.locals m→h'.Ns X.env.locals m) (hok:HOk X.prog X.w H' h') (hg:AllBare g') :
  Inv X pins σ H' { s with heap:=h',gens:=g',drawn:=d',toks:=t' }:=by
 have neL:∀ b o,X.s₀.heap.get? b=some o→b≠X.env.locals:=fun b o e=>Nat.ne_of_lt (Nat.lt_of_lt_of_le (Heap.lt_size e) I.ok.above)
 have neC:∀ b o,X.s₀.heap.get? b=some o→b ∉ X.ex→b ∉ ch:=fun b o e hx hb=>by
  rcases (hch b hb).1 with z | z
  ·exact hx z
  ·exact absurd (Nat.lt_of_lt_of_le (Heap.lt_size e) z) (Nat.lt_irrefl _)
 have cellK:∀ x c,X.env.cells.lookup x=some c→∀ v,s.heap.IsCell c v→h'.IsCell c v:=fun x c e v ⟨o,ho,hd⟩=>by
  have nch:c ∉ ch:=fun z=>(hch c z).2.2.1 x c e rfl
  by_cases hc:c∈X.fs
  ·obtain ⟨sl,q⟩:=slot c o (I.cne x c e) hc nch ho (I.freeC x c e)
   exact ⟨_,q,hd⟩
  ·exact ⟨o,keep c o (I.cne x c e) hc nch ho (I.freeC x c e),hd⟩
 refine ⟨I.ok,I.os,hg,⟨fun b o e n hb hx=>?_,fun b o e n hb hx=>?_,fun b o e n hx=>?_,fun b o e hx=>?_,fun b xs e=>tups b xs (I.base.tups b xs e),fun b o xs e=>frzs b o xs (I.base.frzs b o xs e),fun b ps e=>?_⟩,?_,fun x c e=>?_,?_,fun x c e=>?_,fun p hp=>?_,hok,I.len⟩
 ·exact keep b o (neL b o e) hb (neC b o e hx) (I.base.keep b o e n hb hx) (I.base.free b o e n hx)
 ·obtain ⟨sl,e1⟩:=I.base.slot b o e n hb hx
  obtain ⟨sl',e2⟩:=slot b _ (neL b o e) hb (neC b o e hx) e1 (I.base.free b o e n hx)
  exact ⟨sl',e2⟩
 ·obtain ⟨o',e1⟩:=I.base.there b o e hx
  exact free b o' (neC b o e hx) e1 (I.base.free b o e n hx)
 ·obtain ⟨o',e1⟩:=I.base.there b o e hx
  exact there b o' (neC b o e hx) e1
 ·obtain ⟨m1,e1⟩:=I.base.tbls b ps e
  obtain ⟨m2,e2⟩:=tbls b _ e1
  exact ⟨m1 ++ m2,by rw [e2,Array.append_assoc]⟩
 ·obtain ⟨m,hn,hl⟩:=I.loc
  refine ⟨m,ns m hn,fun i x v e1 e2 e3=>?_⟩
  obtain ⟨u,r,l⟩:=hl i x v e1 e2 e3
  refine ⟨u,r,?_⟩
  rcases l with l | ⟨k,c,e,z⟩
  ·exact .inl l
  ·exact .inr ⟨k,c,e,cellK x c e _ z⟩
 ·obtain ⟨v,z⟩:=I.cell x c e
  exact ⟨v,cellK x c e v z⟩
 ·obtain ⟨m,⟨o,_,_,ho,_⟩,_⟩:=I.loc
  exact free _ o (fun z=>(hch _ z).2.1 rfl) ho I.free
 ·obtain ⟨v,o,ho,hd⟩:=I.cell x c e
  exact free c o (fun z=>(hch c z).2.2.1 x c e rfl) ho (I.freeC x c e)
 ·obtain ⟨e,n,ne,nf,d⟩:=I.pin p hp
  have nch:p.1 ∉ ch:=fun z=>(hch p.1 z).2.2.2 p hp rfl
  exact ⟨keep p.1 p.2 ne nf nch e n,free p.1 p.2 nch e n,ne,nf,d⟩
theorem Inv.un {t':Nat} (I:Inv X pins σ H s) (u:Un X.fs [] H H' s.heap h') (hok:HOk X.prog X.w H' h'):Inv X pins σ H' { s with heap:=h',toks:=t' }:=by
 obtain ⟨m,⟨o,es,ep,ho,r⟩,_⟩:=id I.loc
 obtain ⟨sl,hL⟩:=u.any ho I.free (by simp)
 exact I.step (g':=s.gens) (d':=s.drawn) (ch:=[]) (fun _ z=>nomatch z) (fun b o _ hb _ e n=>u.keep b o e n hb (by simp)) (fun b o _ hb _ e n=>u.slot b o e n hb (by simp)) (fun b o _ e n=>u.free b o e n (by simp)) (fun b o _ e=>u.there b o e (by simp)) u.tups u.frzs u.tbls (fun m' hm=>by
  obtain ⟨o',es',ep',ho',r'⟩:=hm
  rw [ho] at ho';cases ho'
  exact ⟨_,es',ep',hL,r'⟩) hok I.bare
theorem Inv.call {g':Array GenState}{t':Nat}{d':Drawn}{ch:List Addr} (I:Inv X pins σ H s) (u:Un (frs X.stack) ch H H' s.heap h') (hok:HOk X.prog X.w H' h') (hg:AllBare g')
  (hch:∀ b∈ch,(b∈X.ex∨X.s₀.heap.objs.size≤b)∧b≠X.env.locals∧(∀ x c,X.env.cells.lookup x=some c→c≠b)∧∀ p∈X.pn ++ pins,p.1≠b) :
  Inv X pins σ H' { s with heap:=h',gens:=g',drawn:=d',toks:=t' }:=by
 obtain ⟨m,⟨o,es,ep,ho,r⟩,_⟩:=id I.loc
 obtain ⟨sl,hL⟩:=u.any ho I.free fun z=>(hch _ z).2.1 rfl
 exact I.step (ch:=ch) hch (fun b o hL hb hc e n=>u.keep b o e n (fun z=>(List.mem_cons.mp (I.stkSub b z)).elim hL hb) hc) (fun b o _ _ hc e n=>u.any e n hc) (fun b o hc e n=>u.free b o e n hc) (fun b o hc e=>u.there b o e hc) u.tups u.frzs u.tbls (fun m' hm=>by
  obtain ⟨o',es',ep',ho',r'⟩:=hm
  rw [ho] at ho';cases ho'
  exact ⟨_,es',ep',hL,r'⟩) hok hg
theorem Inv.turned {t':Nat}{it:Addr} (I:Inv X pins σ H s) (k:∀ b o,b≠it→s.heap.get? b=some o→h'.get? b=some o) (hn:H it=none) (hL:it≠X.env.locals)
  (h1:it∈X.ex∨X.s₀.heap.objs.size≤it) (h2:∀ x c,X.env.cells.lookup x=some c→c≠it) (h3:∀ p∈X.pn ++ pins,p.1≠it):Inv X pins σ H { s with heap:=h',toks:=t' }:=by
 have nit:∀ b u,H b=some u→b≠it:=fun b u e z=>by rw [z,hn] at e;cases e
 refine I.step (g':=s.gens) (d':=s.drawn) (ch:=[it]) (fun b hb=>?_) (fun b o _ _ hc e _=>k b o (fun z=>hc (by simp [z])) e) (fun b o _ _ hc e _=>⟨o.slots,k b o (fun z=>hc (by simp [z])) e⟩) (fun _ _ _ _ n=>n)
  (fun b o hc e=>⟨o,k b o (fun z=>hc (by simp [z])) e⟩) (fun _ _ e=>e) (fun _ _ _ e=>e) (fun b ps e=>⟨#[],by rw [e];simp⟩) (fun m hm=>?_) (fun b u e=>?_) I.bare
 ·have e:b=it:=by simpa using hb
  subst e
  exact ⟨h1,hL,h2,h3⟩
 ·obtain ⟨o,es,ep,ho,r⟩:=hm
  exact ⟨o,es,ep,k _ o (Ne.symm hL) ho,r⟩
 ·refine (I.hok b u e).stay (fun c v hc q=>k c v ?_ q) (fun _ q=>q) fun _ _ q=>q
  rcases hc with z | z
  ·rw [z];exact nit b u e
  ·exact nit c _ z
theorem Inv.tok (I:Inv X pins σ H s) (t:Nat):Inv X pins σ H { s with toks:=t }:=I.un (h':=s.heap) (t':=t) Un.refl I.hok
theorem Inv.kept {t':Nat} (I:Inv X pins σ H s) (k:∀ b u,s.heap.get? b=some u→h'.get? b=some u):Inv X pins σ H { s with heap:=h',toks:=t' }:=I.un (Un.kept k) (I.hok.kept k)
theorem Inv.laid {a:Addr}{o:HO}{t':Nat} (I:Inv X pins σ H s) (k:∀ b u,s.heap.get? b=some u→h'.get? b=some u) (hp:s.heap.objs.size≤a) (new:ObjOk X.prog X.w (upd H a o) h' a o) :
  Inv X pins σ (upd H a o) { s with heap:=h',toks:=t' }:=I.un (Un.laid k hp (I.hok.fresh hp)) (I.hok.laid k hp new)
theorem Inv.write {x e:Addr}{o:HO}{t':Nat} (I:Inv X pins σ H s) (mu:Mut (H x)) (he:e=x∨H e=some (.own x)) (k:∀ b u,b≠e→s.heap.get? b=some u→h'.get? b=some u) (heo:∃ u,h'.get? e=some u)
  (new:ObjOk X.prog X.w (upd H x o) h' x o):Inv X pins σ (upd H x o) { s with heap:=h',toks:=t' }:=I.un (Un.write mu he k heo) (I.hok.write mu he k heo new)
theorem Inv.pins_of {pins':List (Addr × Obj)} (I:Inv X pins σ H s) (h:∀ p∈pins',s.heap.get? p.1=some p.2∧H p.1=none∧p.1≠X.env.locals∧p.1 ∉ X.fs∧∀ v,p.2.data≠.cell v):Inv X pins' σ H s :=
 ⟨I.ok,I.os,I.bare,I.base,I.loc,I.cell,I.free,I.freeC,fun p hp=>(List.mem_append.mp hp).elim (fun z=>I.pin p (List.mem_append_left _ z)) (h p),I.hok,I.len⟩
theorem nodup_ix {N:List Str} (hN:N.Nodup) {i j:Nat}{x:Str} (a:N[i]? = some x) (b:N[j]? = some x):i=j:=by
 obtain ⟨h1,e1⟩:=List.getElem?_eq_some_iff.mp a
 obtain ⟨h2,e2⟩:=List.getElem?_eq_some_iff.mp b
 exact (List.getElem_inj hN).mp (e1.trans e2.symm)
theorem store_ok2 {M:Model}{A:Around}{E:Value→Shared→Prop}{i:Nat}{x:Str}{v:V}{u:Value}{Q:Unit→Shared→Prop} (I:Inv X pins σ H s) (hN:X.N.Nodup) (hi:X.N[i]? = some x) (hx:Loc X.env.scope x) (r:RelV v u)
  (h:∀ s',Inv X pins (σ.set i (some v)) H s'→(∃ a,Heap.SameBut a s.heap s'.heap∧(a=X.env.locals∨X.env.cells.lookup x=some a))→Q () s') (hf:X.fn x=true∨X.env.scope.names.lookup x=some .local:=by first | exact .inl rfl | exact .inr rfl | assumption):wpAny M A (storeName X.env x u) Q E s:=by
 obtain ⟨m,hn,hl⟩:=id I.loc
 have hcls:(X.env.scope.kind == .class || (X.env.scope.kind == .module && X.env.locals != X.env.globals))=false:=by rw [I.ok.kind];rfl
 have hiσ:i<σ.length:=by rw [I.len];exact (List.getElem?_eq_some_iff.mp hi).1
 have cne:=I.cne
 have tracked:∀ {a:Addr}{h':Heap},(∃ o,s.heap.get? a=some o∧H a=none)→Heap.SameBut a s.heap h'→HOk X.prog X.w H h':=fun {a h'} ha hs b ob e=>by
  obtain ⟨_,_,hfree⟩:=ha
  refine (I.hok b ob e).stay (fun c w' hc q=>(hs.2 c ?_).trans q) (fun _ q=>q) fun _ _ q=>q
  rintro rfl
  rcases hc with rfl | hc
  ·rw [hfree] at e;cases e
  ·rw [hfree] at hc;cases hc
 rcases hx with hk | hk
 ·refine wpAny_storeName_local hk hn (fun h' hn' hs=>?_) hcls
  obtain ⟨oL,_,_,hoL,_⟩:=id hn
  refine h _ ⟨I.ok,I.os,I.bare,⟨fun b o e n hb hx=>?_,fun b o e n hb hx=>?_,I.base.free,fun b o e hx=>?_,I.base.tups,I.base.frzs,I.base.tbls⟩,⟨_,hn',fun j y v' e1 e2 e3=>?_⟩,fun y c e=>?_,I.free,I.freeC,fun p hp=>?_,tracked ⟨oL,hoL,I.free⟩ hs,by simpa using I.len⟩ ⟨_,hs,.inl rfl⟩
  ·exact (hs.2 b (Nat.ne_of_lt (Nat.lt_of_lt_of_le (Heap.lt_size e) I.ok.above))).trans (I.base.keep b o e n hb hx)
  ·obtain ⟨sl,e1⟩:=I.base.slot b o e n hb hx
   exact ⟨sl,(hs.2 b (Nat.ne_of_lt (Nat.lt_of_lt_of_le (Heap.lt_size e) I.ok.above))).trans e1⟩
  ·obtain ⟨o',e1⟩:=I.base.there b o e hx
   exact ⟨o',(hs.2 b (Nat.ne_of_lt (Nat.lt_of_lt_of_le (Heap.lt_size e) I.ok.above))).trans e1⟩
  ·by_cases hj:j=i
   ·subst hj
    rw [hi] at e1;cases e1
    rw [List.getElem?_set_self hiσ] at e2
    cases e2
    exact ⟨u,r,.inl ⟨hk,by simp⟩⟩
   ·rw [List.getElem?_set_ne (Ne.symm hj)] at e2
    obtain ⟨u',r',q⟩:=hl j y v' e1 e2 e3
    refine ⟨u',r',?_⟩
    rcases q with ⟨k,e⟩ | ⟨k,c,e,z⟩
    ·refine .inl ⟨k,?_⟩
     have:y≠x:=fun e=>hj (nodup_ix hN e1 (e ▸ hi))
     simp [this,e]
    ·exact .inr ⟨k,c,e,z.sameBut hs (cne y c e)⟩
  ·obtain ⟨w',z⟩:=I.cell y c e
   exact ⟨w',z.sameBut hs (cne y c e)⟩
  ·obtain ⟨e,n,ne,nf,d⟩:=I.pin p hp
   exact ⟨(hs.2 p.1 ne).trans e,n,ne,nf,d⟩
 ·have hfn:X.fn x=true:=by
   rcases hf with z | z
   ·exact z
   ·rw [z] at hk;cases hk
  obtain ⟨c,hc⟩:=I.ok.has x (.inl hk)
  obtain ⟨w',z⟩:=I.cell x c hc
  refine wpAny_storeName_cell I.ok.kind hk hc z (fun h' hc' hs=>?_)
  obtain ⟨oc,hoc,hocd⟩:=id z
  refine h { s with heap:=h' } ⟨I.ok,I.os,I.bare,⟨fun b o e n hb hx=>?_,fun b o e n hb hx=>?_,I.base.free,fun b o e hx=>?_,I.base.tups,I.base.frzs,I.base.tbls⟩,⟨m,hn.sameBut hs (Ne.symm (cne x c hc)),fun j y v' e1 e2 e3=>?_⟩,fun y c' e=>?_,I.free,I.freeC,fun p hp=>?_,tracked ⟨oc,hoc,I.freeC x c hc⟩ hs,by simpa using I.len⟩ ⟨c,hs,.inr hc⟩
  ·exact (hs.2 b (Nat.ne_of_lt (Nat.lt_of_lt_of_le (Heap.lt_size e) (I.ok.cab x c hfn hc)))).trans (I.base.keep b o e n hb hx)
  ·obtain ⟨sl,e1⟩:=I.base.slot b o e n hb hx
   exact ⟨sl,(hs.2 b (Nat.ne_of_lt (Nat.lt_of_lt_of_le (Heap.lt_size e) (I.ok.cab x c hfn hc)))).trans e1⟩
  ·obtain ⟨o',e1⟩:=I.base.there b o e hx
   exact ⟨o',(hs.2 b (Nat.ne_of_lt (Nat.lt_of_lt_of_le (Heap.lt_size e) (I.ok.cab x c hfn hc)))).trans e1⟩
  ·by_cases hj:j=i
   ·subst hj
    rw [hi] at e1;cases e1
    rw [List.getElem?_set_self hiσ] at e2
    cases e2
    exact ⟨u,r,.inr ⟨.inl hk,c,hc,hc'⟩⟩
   ·rw [List.getElem?_set_ne (Ne.symm hj)] at e2
    obtain ⟨u',r',q⟩:=hl j y v' e1 e2 e3
    refine ⟨u',r',?_⟩
    rcases q with q | ⟨k,c',e,z'⟩
    ·exact .inl q
    ·refine .inr ⟨k,c',e,z'.sameBut hs ?_⟩
     rintro rfl
     exact hj (nodup_ix hN e1 (I.ok.inj _ _ _ e hc ▸ hi))
  ·by_cases hcc:c'=c
   ·subst hcc;exact ⟨_,hc'⟩
   ·obtain ⟨w2,z2⟩:=I.cell y c' e
    exact ⟨w2,z2.sameBut hs hcc⟩
  ·obtain ⟨e,n,ne,nf,d⟩:=I.pin p hp
   refine ⟨(hs.2 p.1 ?_).trans e,n,ne,nf,d⟩
   intro q
   rw [q,hoc] at e
   have q':oc=p.2:=Option.some.inj e
   exact d w' (by rw [← q'];exact hocd)
theorem store_ok {M:Model}{A:Around}{E:Value→Shared→Prop}{i:Nat}{x:Str}{v:V}{u:Value}{Q:Unit→Shared→Prop} (I:Inv X pins σ H s) (hN:X.N.Nodup) (hi:X.N[i]? = some x) (hx:Loc X.env.scope x) (r:RelV v u)
  (h:∀ s',Inv X pins (σ.set i (some v)) H s'→Q () s') (hf:X.fn x=true∨X.env.scope.names.lookup x=some .local:=by first | exact .inl rfl | exact .inr rfl | assumption):wpAny M A (storeName X.env x u) Q E s :=
 store_ok2 I hN hi hx r (fun s' I' _=>h s' I') hf
theorem Inv.call' {s':Shared}{ch:List Addr} (I:Inv X pins σ H s) (ho:s'.os=s.os) (u:Un (frs X.stack) ch H H' s.heap s'.heap) (hok:HOk X.prog X.w H' s'.heap) (hg:AllBare s'.gens)
  (hch:∀ b∈ch,(b∈X.ex∨X.s₀.heap.objs.size≤b)∧b≠X.env.locals∧(∀ x c,X.env.cells.lookup x=some c→c≠b)∧∀ p∈X.pn ++ pins,p.1≠b):Inv X pins σ H' s':=by
 obtain ⟨h',g',d',t',o'⟩:=s'
 have e:o'=s.os:=ho
 subst e
 exact I.call (g':=g') (t':=t') (d':=d') u hok hg hch
end
abbrev XK:=Value→Option Addr→Hp→Prop
abbrev St:=List (Option V)
abbrev VK:=V→Hp→Prop
abbrev TE:=St→Hp→VK→Prop
abbrev TT:=St→Hp→(Bool→Hp→Prop)→Prop
abbrev TA:=St→Hp→(List V→Hp→Prop)→Prop
structure Ends where
 nx:St→Hp→Prop
 rt:VK
 bk:St→Hp→Prop:=fun _ _=>False
 ct:St→Hp→Prop:=fun _ _=>False
abbrev TS:=Ends→St→Hp→Prop
def EP (X:Cx) (pins:List (Addr × Obj)) (σ:St) (Q:VK) (u:Value) (s':Shared):Prop:=∃ v H',Inv X pins σ H' s'∧RelV v u∧Q v H'
def TP (X:Cx) (pins:List (Addr × Obj)) (σ:St) (Q:Bool→Hp→Prop) (b:Bool) (s':Shared):Prop:=∃ H',Inv X pins σ H' s'∧Q b H'
def AP (X:Cx) (pins:List (Addr × Obj)) (σ:St) (Q:List V→Hp→Prop) (us:List Value) (s':Shared):Prop:=∃ vs H',Inv X pins σ H' s'∧Vals vs us∧Q vs H'
def SP (X:Cx) (pins:List (Addr × Obj)) (D:Ends) (f:Flow) (s':Shared):Prop :=
 match f with
 | .next=>∃ σ' H',Inv X pins σ' H' s'∧D.nx σ' H'
 | .brk=>∃ σ' H',Inv X pins σ' H' s'∧D.bk σ' H'
 | .cont=>∃ σ' H',Inv X pins σ' H' s'∧D.ct σ' H'
 | .ret u=>∃ v σ' H',Inv X pins σ' H' s'∧RelV v u∧D.rt v H'
def PE (X:Cx) (e:Expr) (t:TE):Prop :=
 ∀ (pins:List (Addr × Obj)) (s:Shared) (σ:St) (H:Hp) (Q:VK),Inv X pins σ H s→t σ H Q→wpAny (model X.prog X.w) X.A (eval e X.env) (EP X pins σ Q) X.xe s
def PT (X:Cx) (e:Expr) (t:TT):Prop :=
 ∀ (pins:List (Addr × Obj)) (s:Shared) (σ:St) (H:Hp) (Q:Bool→Hp→Prop),Inv X pins σ H s→t σ H Q→wpAny (model X.prog X.w) X.A (isTrue e X.env (eval e X.env)) (TP X pins σ Q) X.xe s
def PW (X:Cx) (e:Expr) (t:TT):Prop :=
 ∀ (whole:Sem Value) (pins:List (Addr × Obj)) (s:Shared) (σ:St) (H:Hp) (Q:Bool→Hp→Prop),Inv X pins σ H s→t σ H Q→wpAny (model X.prog X.w) X.A (isTrue e X.env whole) (TP X pins σ Q) X.xe s
theorem PW.pt {X:Cx}{e:Expr}{t:TT} (h:PW X e t):PT X e t:=h _
def PA (X:Cx) (es:List Expr) (t:TA):Prop :=
 ∀ (pos:Pos) (pins:List (Addr × Obj)) (s:Shared) (σ:St) (H:Hp) (Q:List V→Hp→Prop),Inv X pins σ H s→t σ H Q→wpAny (model X.prog X.w) X.A (spliced (backTo pos (starEach es X.env))) (AP X pins σ Q) X.xe s
def PS (X:Cx) (st:Stmt) (t:TS):Prop :=
 ∀ (pins:List (Addr × Obj)) (s:Shared) (σ:St) (H:Hp) (D:Ends),Inv X pins σ H s→t D σ H→wpAny (model X.prog X.w) X.A (exec st X.env) (SP X pins D) X.xe s
def PSs (X:Cx) (st:List Stmt) (t:TS):Prop :=
 ∀ (pins:List (Addr × Obj)) (s:Shared) (σ:St) (H:Hp) (D:Ends),Inv X pins σ H s→t D σ H→wpAny (model X.prog X.w) X.A (execs st X.env) (SP X pins D) X.xe s
theorem thn {α:Type}{t:Sem α}{Q Q':α→Shared→Prop}{M:Model}{A:Around}{E:Value→Shared→Prop}{s:Shared} (h:wpAny M A t Q E s) (hQ:∀ a s,Q a s→Q' a s):wpAny M A t Q' E s:=wpAny_mono h hQ fun _ _ x=>x
section
variable {X:Cx}
theorem bin {a b:Expr}{ta tb:TE} (ha:PE X a ta) (hb:PE X b tb) {pins:List (Addr × Obj)}{s:Shared}{σ:St}{H:Hp}{R:V→V→Hp→Prop} (I:Inv X pins σ H s) (h:ta σ H fun x H1=>tb σ H1 fun y H2=>R x y H2)
  {α:Type}{Q:α→Shared→Prop}{f:Value→Value→Sem α}
  (hf:∀ v u s2 x y H2,Inv X pins σ H2 s2→RelV x v→RelV y u→R x y H2→wpAny (model X.prog X.w) X.A (f v u) Q X.xe s2) :
  wpAny (model X.prog X.w) X.A (eval a X.env) (fun v s₁=>wpAny (model X.prog X.w) X.A (eval b X.env) (fun u s₂=>wpAny (model X.prog X.w) X.A (f v u) Q X.xe s₂) X.xe s₁) X.xe s:=by
 refine thn (ha pins s σ H _ I h) fun v s1 ⟨x,H1,I1,r1,q1⟩=>?_
 refine thn (hb pins s1 σ H1 _ I1 q1) fun u s2 ⟨y,H2,I2,r2,q2⟩=>?_
 exact hf v u s2 x y H2 I2 r1 r2 q2
def tVar (i:Nat):TE:=fun σ H Q=>∃ v,σ[i]? = some (some v)∧Q v H
def tC (v:V):TE:=fun _ H Q=>Q v H
theorem pe_var {i:Nat}{x:Str}{pos:Pos} (hN:X.N[i]? = some x) (hv:Vis X.env.scope x) (hd:(x == ("__debug__" : Str))=false:=by decide) (hcd:(x == ("__classdict__" : Str))=false:=by decide):PE X (.Name x pos) (tVar i):=by
 intro pins s σ H Q I h
 obtain ⟨v,e,h⟩:=h
 obtain ⟨m,hn,hl⟩:=I.loc
 obtain ⟨u,r,l⟩:=hl i x v hN e hv
 have fin:EP X pins σ Q u s:=⟨v,H,I,r,h⟩
 rcases l with ⟨hk,hm⟩ | ⟨hk,c,hc,hcell⟩
 ·exact wpAny_Name (wpAny_loadName_local I.ok.kind hk hn hm fin) hd
 ·rcases hk with hk | hk
  ·exact wpAny_Name (wpAny_loadName_cell I.ok.kind hk hc hcell fin) hd
  ·exact wpAny_Name (wpAny_loadName_free I.ok.kind hk hc hcell fin hcd) hd
theorem pe_int {i j pos}:PE X (.Constant (.int i) j pos) (tC (.int i)):=fun _ _ _ H _ I h=>wpAny_Constant_int ⟨.int i,H,I.tok _,⟨_,rfl⟩,h⟩
theorem pe_bl {b j pos}:PE X (.Constant (.bool b) j pos) (tC (.bl b)):=fun _ _ _ H _ I h=>Constant_bool ⟨.bl b,H,I,rfl,h⟩
theorem pe_non {j pos}:PE X (.Constant .none j pos) (tC .non):=fun _ _ _ H _ I h=>Constant_none ⟨.non,H,I,rfl,h⟩
theorem pe_str {x j pos}:PE X (.Constant (.str x) j pos) (tC (.str x)):=fun _ _ _ H _ I h=>Calls.Constant_str ⟨.str x,H,I.tok _,⟨_,rfl⟩,h⟩
def Gl (X:Cx) (x:Str):Prop:=X.env.kindOf x=some .globalImplicit
theorem ld_glob {E:Value→Shared→Prop}{pins:List (Addr × Obj)}{s:Shared}{σ:St}{H:Hp}{x:Str}{u:Value}{pos:Pos}{Q:Value→Shared→Prop} (I:Inv X pins σ H s) (hg:Gl X x) (hm:X.mg x=some u) (h:Q u s)
  (hd:(x == ("__debug__" : Str))=false:=by decide):wpAny (model X.prog X.w) X.A (eval (.Name x pos) X.env) Q E s :=
 Calls.Name_function_global I.ok.kind hg (Calls.loadGlobal_global (by rw [I.ok.glob];exact I.mod.glob.keeps I.bk) hm h) hd
theorem ld_blt {E:Value→Shared→Prop}{pins:List (Addr × Obj)}{s:Shared}{σ:St}{H:Hp}{x:Str}{u:Value}{pos:Pos}{Q:Value→Shared→Prop} (I:Inv X pins σ H s) (hg:Gl X x) (hm:X.mg x=none) (hv:bootBuiltins x=some u) (h:Q u s)
  (hn:x ≠ "__name__":=by decide) (hd:(x == ("__debug__" : Str))=false:=by decide):wpAny (model X.prog X.w) X.A (eval (.Name x pos) X.env) Q E s:=by
 obtain ⟨mb,h1,h2⟩:=I.mod.blt
 exact Calls.Name_function_global I.ok.kind hg (Calls.loadGlobal_builtin (by rw [I.ok.glob];exact I.mod.glob.keeps I.bk) hm (by rw [I.ok.blt];exact h1.keeps I.bk) ((h2 x hn).trans hv) h) hd
theorem pe_glob {x:Str}{v:V}{u:Value}{pos:Pos} (hg:Gl X x) (hm:X.mg x=some u) (r:RelV v u) (hd:(x == ("__debug__" : Str))=false:=by decide):PE X (.Name x pos) (tC v) :=
 fun _ _ _ H _ I h=>ld_glob I hg hm ⟨v,H,I,r,h⟩ hd
theorem pe_bltn {x:Str}{v:V}{u:Value}{pos:Pos} (hg:Gl X x) (hm:X.mg x=none) (hv:bootBuiltins x=some u) (r:RelV v u) (hn:x ≠ "__name__":=by decide) (hd:(x == ("__debug__" : Str))=false:=by decide):PE X (.Name x pos) (tC v) :=
 fun _ _ _ H _ I h=>ld_blt I hg hm hv ⟨v,H,I,r,h⟩ hn hd
variable {a b:Expr}{ta tb:TE}{pos:Pos}
def PC (X:Cx) (op:CmpOp) (a b:Expr) (t:TE):Prop :=
 ∀ (pins:List (Addr × Obj)) (s:Shared) (σ:St) (H:Hp) (Q:VK),Inv X pins σ H s→t σ H Q →
  wpAny (model X.prog X.w) X.A (eval a X.env) (fun v s₁=>wpAny (model X.prog X.w) X.A (eval b X.env) (fun u s₂=>wpAny (model X.prog X.w) X.A (compareOp op v u) (EP X pins σ Q) X.xe s₂) X.xe s₁) X.xe s
theorem nobehind (b:Expr) {op:CmpOp} (h:op≠.In) (h2:op≠.NotIn):behindInMarks op b=false:=by
 have e1:(op == CmpOp.In)=false:=by cases op <;> first | rfl | exact absurd rfl h
 have e2:(op == CmpOp.NotIn)=false:=by cases op <;> first | rfl | exact absurd rfl h2
 cases b <;> simp [behindInMarks,e1,e2]
def tB (t:TE):TT:=fun σ H Q=>t σ H fun x H1=>∃ c,x=.bl c∧Q c H1
theorem pe_cmp {op:CmpOp}{t:TE} (h:PC X op a b t) (h1:behindInMarks op b=false:=by first | exact nobehind _ (by decide) (by decide) | rfl):PE X (.Compare a [op] [b] pos) t:=fun pins s σ H Q I hw=>wpAny_Compare1 (h pins s σ H Q I hw) h1
theorem pt_cmp {op:CmpOp}{t:TE} (h:PC X op a b t) (h1:behindInMarks op b=false:=by first | exact nobehind _ (by decide) (by decide) | rfl):PT X (.Compare a [op] [b] pos) (tB t):=by
 intro pins s σ H Q I hw
 refine wpAny_isTrue_Compare1 (thn (h pins s σ H _ I hw) fun v s1 h1=>thn h1 fun u s2 h2=>thn h2 fun c s3 ⟨x,H1,I1,r1,q1⟩=>?_) h1
 obtain ⟨d,rfl,q⟩:=q1
 cases r1
 exact wpAny_truthy_bool ⟨H1,I1,q⟩
variable {tA tB':TT}{rest:List Expr}
def tAnd (t u:TT):TT:=fun σ H Q=>t σ H fun c H1=>if c=true then u σ H1 Q else Q false H1
def tOr (t u:TT):TT:=fun σ H Q=>t σ H fun c H1=>if c=true then Q true H1 else u σ H1 Q
def tNot (t:TT):TT:=fun σ H Q=>t σ H fun c H1=>Q (!c) H1
theorem pw_and1 (ha:PT X a tA):PW X (.BoolOp .And [a] pos) tA:=by
 intro wh pins s σ H Q I h
 refine isTrue_and (thn (ha pins s σ H Q I h) fun c s1 e=>?_)
 cases c with
 | true=>exact isTrue_and_nil e
 | false=>exact e
theorem pw_or1 (ha:PT X a tA):PW X (.BoolOp .Or [a] pos) tA:=by
 intro wh pins s σ H Q I h
 refine isTrue_or (thn (ha pins s σ H Q I h) fun c s1 e=>?_)
 cases c with
 | false=>exact isTrue_or_nil e
 | true=>exact e
theorem pw_and (ha:PT X a tA) (hb:PW X (.BoolOp .And (b :: rest) pos) tB'):PW X (.BoolOp .And (a :: b :: rest) pos) (tAnd tA tB'):=by
 intro wh pins s σ H Q I h
 refine isTrue_and (thn (ha pins s σ H _ I h) fun c s1 ⟨H1,I1,q1⟩=>?_)
 cases c with
 | true=>exact hb wh pins s1 σ H1 Q I1 q1
 | false=>exact ⟨H1,I1,q1⟩
theorem pw_or (ha:PT X a tA) (hb:PW X (.BoolOp .Or (b :: rest) pos) tB'):PW X (.BoolOp .Or (a :: b :: rest) pos) (tOr tA tB'):=by
 intro wh pins s σ H Q I h
 refine isTrue_or (thn (ha pins s σ H _ I h) fun c s1 ⟨H1,I1,q1⟩=>?_)
 cases c with
 | true=>exact ⟨H1,I1,q1⟩
 | false=>exact hb wh pins s1 σ H1 Q I1 q1
theorem pt_not (ha:PT X a tA):PT X (.UnaryOp .Not a pos) (tNot tA):=by
 intro pins s σ H Q I h
 exact isTrue_not (ha pins s σ H (fun c H1=>Q (!c) H1) I h)
def tAndV (ta tb:TE):TE:=fun σ H Q=>ta σ H fun x H1=>∃ c,x=.bl c∧if c=true then tb σ H1 Q else Q (.bl false) H1
def tNotV (ta:TE):TE:=fun σ H Q=>ta σ H fun x H1=>∃ c,x=.bl c∧Q (.bl (!c)) H1
theorem pe_one {op}{t:TE} (h:PE X a t):PE X (.BoolOp op [a] pos) t:=fun pins s σ H Q I hw=>BoolOp_one (h pins s σ H Q I hw)
theorem pe_and (ha:PE X a ta) (hb:PE X (.BoolOp .And (b :: rest) pos) tb):PE X (.BoolOp .And (a :: b :: rest) pos) (tAndV ta tb):=by
 intro pins s σ H Q I h
 refine BoolOp_and (thn (ha pins s σ H _ I h) fun v s1 ⟨x,H1,I1,r1,q1⟩=>?_)
 obtain ⟨c,rfl,q1⟩:=q1
 cases r1
 refine wpAny_truthy_bool ?_
 cases c with
 | true=>exact hb pins s1 σ H1 Q I1 q1
 | false=>exact ⟨.bl false,H1,I1,rfl,q1⟩
theorem pe_not (ha:PE X a ta):PE X (.UnaryOp .Not a pos) (tNotV ta):=by
 intro pins s σ H Q I h
 refine UnaryOp_ (thn (ha pins s σ H _ I h) fun v s1 ⟨x,H1,I1,r1,q1⟩=>?_)
 obtain ⟨c,rfl,q1⟩:=q1
 cases r1
 exact not_of (wpAny_truthy_bool ⟨.bl (!c),H1,I1,rfl,q1⟩)
end
def SqL (K:PySem.W.Frag) (H:Hp) (a:Addr) (xs:List V):Prop :=
 Rd H a (.lst xs) ∨
  ∃ (o:Obj) (its:Array Value) (n:Nat),K.lookup a=some o∧o.cls=.type "list" ∧ o.dict=none∧o.data=.seq its n∧its.size≤sizeLine∧Vals xs its.toList
def SqT (K:PySem.W.Frag) (H:Hp) (a:Addr) (xs:List V):Prop :=
 Rd H a (.tup xs) ∨
  ∃ (o:Obj) (its:Array Value) (n:Nat),K.lookup a=some o∧o.cls=.type "tuple" ∧ o.data=.seq its n∧its.size≤sizeLine∧Vals xs its.toList
def absV:Value→Option V
 | .none=>some .non
 | .bool b=>some (.bl b)
 | .int i _=>some (.int i)
 | .str x _=>some (.str x)
 | .bytes b _=>some (.byt b)
 | .float b _=>some (.flt b)
 | .ref a=>some (.ref a)
 | .type n=>some (.ty n)
 | _=>none
theorem RelV.abs {x:V}{u:Value} (r:RelV x u):absV u=some x:=by
 cases x with
 | non=>cases r;rfl
 | bl _=>cases r;rfl
 | int _=>obtain ⟨t,rfl⟩:=r;rfl
 | str _=>obtain ⟨t,rfl⟩:=r;rfl
 | byt _=>obtain ⟨t,rfl⟩:=r;rfl
 | flt _=>obtain ⟨t,rfl⟩:=r;rfl
 | ref _=>cases r;rfl
 | ty _=>cases r;rfl
theorem RelV.inj {x y:V}{u:Value} (r:RelV x u) (q:RelV y u):x=y:=Option.some.inj (r.abs.symm.trans q.abs)
theorem Vals.inj:∀ {xs ys:List V}{us:List Value},Vals xs us→Vals ys us→xs=ys
 | _,_,_,.nil,.nil=>rfl
 | _,_,_,.cons r t,.cons r' t'=>by rw [r.inj r',Vals.inj t t']
section
variable {X:Cx}{pins:List (Addr × Obj)}{σ:St}{H:Hp}{s:Shared}{a:Addr}{xs ys:List V}
theorem SqL.of {K:PySem.W.Frag} (h:H a=some (.lst xs)):SqL K H a xs:=.inl (.inl h)
theorem SqT.of {K:PySem.W.Frag} (h:H a=some (.tup xs)):SqT K H a xs:=.inl (.inl h)
theorem Inv.list (I:Inv X pins σ H s) (h:SqL X.K H a xs):∃ its:List Value,Vals xs its∧PlainL s.heap a its.toArray∧xs.length≤sizeLine:=by
 rcases h with h | ⟨o,its,n,hk,hc,hd,hs,hz,r⟩
 ·obtain ⟨z,its,n,r,e⟩:=h.ok I.hok
  exact ⟨its,r,⟨_,n,e,rfl,rfl,rfl⟩,z⟩
 ·refine ⟨its.toList,r,⟨o,n,I.kIn a o hk,hc,hd,by simpa using hs⟩,?_⟩
  have e:=r.length
  simp only [Array.length_toList] at e
  omega
theorem Inv.tuple (I:Inv X pins σ H s) (h:SqT X.K H a xs):∃ its:List Value,Vals xs its∧IsTup s.heap a its.toArray∧xs.length≤sizeLine:=by
 rcases h with h | ⟨o,its,n,hk,hc,hs,hz,r⟩
 ·obtain ⟨z,its,r,p⟩:=h.ok I.hok
  exact ⟨its,r,p,z⟩
 ·refine ⟨its.toList,r,⟨o,I.kIn a o hk,hc,n,by simpa using hs⟩,?_⟩
  have e:=r.length
  simp only [Array.length_toList] at e
  omega
theorem Inv.list_inj (I:Inv X pins σ H s) (h:SqL X.K H a xs) (h':SqL X.K H a ys):xs=ys:=by
 obtain ⟨its,r,⟨o,n,e,_,_,d⟩,_⟩:=I.list h
 obtain ⟨its',r',⟨o',n',e',_,_,d'⟩,_⟩:=I.list h'
 rw [e] at e';cases e'
 rw [d] at d'
 injection d' with d1 _
 have:its=its':=by simpa using congrArg Array.toList d1
 subst this
 exact r.inj r'
theorem Inv.tuple_inj (I:Inv X pins σ H s) (h:SqT X.K H a xs) (h':SqT X.K H a ys):xs=ys:=by
 obtain ⟨its,r,⟨o,e,_,n,d⟩,_⟩:=I.tuple h
 obtain ⟨its',r',⟨o',e',_,n',d'⟩,_⟩:=I.tuple h'
 rw [e] at e';cases e'
 rw [d] at d'
 injection d' with d1 _
 have:its=its':=by simpa using congrArg Array.toList d1
 subst this
 exact r.inj r'
end
abbrev Cx.wish (X:Cx) (E:Value→Shared→Prop):Cx:={ X with xe:=E }
abbrev Cx.nox (X:Cx):Cx:=X.wish fun _ _=>False
theorem Cx.Ok.wish {X:Cx} (ok:X.Ok) (E:Value→Shared→Prop):(X.wish E).Ok :=
 ⟨ok.mod,ok.kind,ok.glob,ok.blt,ok.above,ok.inj,ok.has,ok.cab,ok.hd,ok.frames,ok.stk,ok.exf,ok.bs,ok.bsz,ok.noex,ok.exfs,ok.funs,ok.frf⟩
theorem Cx.Ok.unwish {X:Cx}{E:Value→Shared→Prop} (ok:(X.wish E).Ok):X.Ok :=
 ⟨ok.mod,ok.kind,ok.glob,ok.blt,ok.above,ok.inj,ok.has,ok.cab,ok.hd,ok.frames,ok.stk,ok.exf,ok.bs,ok.bsz,ok.noex,ok.exfs,ok.funs,ok.frf⟩
section
variable {X:Cx}{pins:List (Addr × Obj)}{σ:St}{H:Hp}{s:Shared}{E:Value→Shared→Prop}
theorem Inv.wish (I:Inv X pins σ H s) (E:Value→Shared→Prop):Inv (X.wish E) pins σ H s:=⟨I.ok.wish E,I.os,I.bare,I.base,I.loc,I.cell,I.free,I.freeC,I.pin,I.hok,I.len⟩
theorem Inv.unwish (I:Inv (X.wish E) pins σ H s):Inv X pins σ H s:=⟨I.ok.unwish,I.os,I.bare,I.base,I.loc,I.cell,I.free,I.freeC,I.pin,I.hok,I.len⟩
theorem SP.unwish {D:Ends}{f:Flow}{s':Shared} (h:SP (X.wish E) pins D f s'):SP X pins D f s':=by
 cases f with
 | next=>obtain ⟨σ',H',I,q⟩:=h;exact ⟨σ',H',I.unwish,q⟩
 | brk=>obtain ⟨σ',H',I,q⟩:=h;exact ⟨σ',H',I.unwish,q⟩
 | cont=>obtain ⟨σ',H',I,q⟩:=h;exact ⟨σ',H',I.unwish,q⟩
 | ret u=>obtain ⟨v,σ',H',I,r,q⟩:=h;exact ⟨v,σ',H',I.unwish,r,q⟩
theorem PSs.nox {st:List Stmt}{t:TS} (h:PSs X.nox st t):PSs X st t:=fun pins s σ H D I hw =>
 wpAny_mono (h pins s σ H D (I.wish _) hw) (fun _ _ q=>q.unwish) fun _ _ z=>False.elim z
end
section
variable {X:Cx}{st:Stmt}{rest:List Stmt}{t u:TS}{e:Expr}{te:TE}{pos:Pos}
def tNext:TS:=fun D σ H=>D.nx σ H
def tSeq (t u:TS):TS:=fun D σ H=>t { D with nx:=u D } σ H
theorem pss_nil:PSs X [] tNext:=fun _ _ σ H _ I h=>wpAny_execs_nil ⟨σ,H,I,h⟩
theorem pss_cons (h1:PS X st t) (h2:PSs X rest u):PSs X (st :: rest) (tSeq t u):=by
 intro pins s σ H D I h
 refine wpAny_execs_cons (thn (h1 pins s σ H { D with nx:=u D } I h) fun f s1 q=>?_)
 cases f with
 | next =>
  obtain ⟨σ',H',I',q⟩:=q
  exact h2 pins s1 σ' H' D I' q
 | ret v=>exact q
 | brk=>exact q
 | cont=>exact q
theorem pss_one (h1:PS X st t):PSs X [st] t:=by
 intro pins s σ H D I h
 refine wpAny_execs_cons (thn (h1 pins s σ H D I h) fun f s1 q=>?_)
 cases f with
 | next=>exact wpAny_execs_nil q
 | ret v=>exact q
 | brk=>exact q
 | cont=>exact q
def tCont:TS:=fun D σ H=>D.ct σ H
theorem ps_continue:PS X (.Continue pos) tCont:=fun _ _ σ H _ I h=>wpAny_Continue ⟨σ,H,I,h⟩
theorem Inv.quiet {pins:List (Addr × Obj)}{σ:St}{H:Hp}{s:Shared} (I:Inv X pins σ H s):interactive X.env=false:=by simp [interactive,I.ok.kind]
def tDrop (te:TE):TS:=fun D σ H=>te σ H fun _ H1=>D.nx σ H1
theorem ps_expr (he:PE X e te) (hs:swapsWith e none pos.line X.env=pure false:=by rfl):PS X (.Expr e pos) (tDrop te):=by
 intro pins s σ H D I h
 exact wpAny_Expr_any (thn (he pins s σ H _ I h) fun v s1 ⟨x,H1,I1,r1,q1⟩=>⟨σ,H1,I1,q1⟩) I.quiet hs
def tRet (te:TE):TS:=fun D σ H=>te σ H D.rt
theorem ps_ret (he:PE X e te):PS X (.Return (some e) pos) (tRet te):=by
 intro pins s σ H D I h
 exact wpAny_Return_some (thn (he pins s σ H _ I h) fun v s1 ⟨x,H1,I1,r1,q1⟩=>⟨x,σ,H1,I1,r1,q1⟩)
def tIfS (c:TT) (t u:TS):TS:=fun D σ H=>c σ H fun b H1=>if b=true then t D σ H1 else u D σ H1
theorem ps_if {c:Expr}{a b:List Stmt}{tc:TT} (hc:PT X c tc) (ha:PSs X a t) (hb:PSs X b u):PS X (.If c a b pos) (tIfS tc t u):=by
 intro pins s σ H D I h
 refine wpAny_If (thn (hc pins s σ H _ I h) fun d s1 ⟨H1,I1,q1⟩=>?_)
 cases d with
 | true=>exact ha pins s1 σ H1 D I1 q1
 | false=>exact hb pins s1 σ H1 D I1 q1
end
abbrev TG:=V→St→Hp→(St→Hp→Prop)→Prop
abbrev TGs:=List V→St→Hp→(St→Hp→Prop)→Prop
def PG (X:Cx) (target:Expr) (t:TG):Prop :=
 ∀ (pins:List (Addr × Obj)) (s:Shared) (σ:St) (H:Hp) (v:V) (u:Value) (Q:St→Hp→Prop),Inv X pins σ H s→RelV v u→t v σ H Q →
  wpAny (model X.prog X.w) X.A (assign target X.env u) (fun _ s'=>∃ σ' H',Inv X pins σ' H' s'∧Q σ' H') X.xe s
def PGs (X:Cx) (ts:List Expr) (t:TGs):Prop :=
 ∀ (pins:List (Addr × Obj)) (s:Shared) (σ:St) (H:Hp) (vs:List V) (us:List Value) (Q:St→Hp→Prop),Inv X pins σ H s→Vals vs us→t vs σ H Q →
  wpAny (model X.prog X.w) X.A (assignInOrder ((assignEach ts X.env).map (·.2)) us) (fun _ s'=>∃ σ' H',Inv X pins σ' H' s'∧Q σ' H') X.xe s
abbrev TSet:=V→V→V→Hp→(Hp→Prop)→Prop
def PSet (X:Cx) (t:TSet):Prop :=
 ∀ (pins:List (Addr × Obj)) (s:Shared) (σ:St) (H:Hp) (o i v:V) (ov iv u:Value) (Q:Hp→Prop),Inv X pins σ H s→RelV o ov→RelV i iv→RelV v u→t o i v H Q →
  wpAny (model X.prog X.w) X.A (setItem ov iv u) (fun _ s'=>∃ H',Inv X pins σ H' s'∧Q H') X.xe s
abbrev TIp:=V→V→Hp→VK→Prop
def PIp (X:Cx) (op:Operator) (t:TIp):Prop :=
 ∀ (pins:List (Addr × Obj)) (s:Shared) (σ:St) (H:Hp) (x y:V) (v u:Value) (Q:VK),Inv X pins σ H s→RelV x v→RelV y u→t x y H Q →
  wpAny (model X.prog X.w) X.A (inplaceOp op v u) (EP X pins σ Q) X.xe s
section
variable {X:Cx}{pos:Pos}
def gName (i:Nat):TG:=fun v σ H Q=>Q (σ.set i (some v)) H
theorem pg_name {i:Nat}{x:Str} (hN:X.N.Nodup) (hi:X.N[i]? = some x) (hx:Loc X.env.scope x) (hf:X.fn x=true∨X.env.scope.names.lookup x=some .local:=by first | exact .inl rfl | exact .inr rfl | assumption):PG X (.Name x pos) (gName i):=by
 intro pins s σ H v u Q I r h
 exact wpAny_assign_Name (store_ok I hN hi hx r (fun s' I'=>⟨_,H,I',h⟩) hf)
def gNil:TGs:=fun vs σ H Q=>vs=[]∧Q σ H
def gCons (t:TG) (u:TGs):TGs:=fun vs σ H Q=>∃ v r,vs=v :: r∧t v σ H fun σ' H'=>u r σ' H' Q
theorem pgs_nil:PGs X [] gNil:=by
 intro pins s σ H vs us Q I r h
 obtain ⟨e,h⟩:=h
 subst e
 cases r
 exact assignInOrder_nil ⟨σ,H,I,h⟩
theorem pgs_cons {e:Expr}{es:List Expr}{t:TG}{u:TGs} (h1:PG X e t) (h2:PGs X es u)
  (hs:(assignEach (e :: es) X.env).map (·.2)=assign e X.env :: (assignEach es X.env).map (·.2):=by rfl):PGs X (e :: es) (gCons t u):=by
 intro pins s σ H vs us Q I r h
 obtain ⟨v,vr,e1,h⟩:=h
 subst e1
 cases r with
 | cons r rr =>
  rw [hs]
  refine assignInOrder_cons (thn (h1 pins s σ H _ _ _ I r h) fun _ s1 ⟨σ1,H1,I1,q1⟩=>?_)
  exact h2 pins s1 σ1 H1 _ _ Q I1 rr q1
def gTup (K:PySem.W.Frag) (n:Nat) (t:TGs):TG:=fun v σ H Q=>∃ a xs,v=.ref a∧SqT K H a xs∧xs.length=n∧t xs σ H Q
theorem pg_tup {es:List Expr}{k:Nat}{t:TGs}{n:Nat} (hc:X.calm=true) (h:PGs X es t)
  (hn:(assignEach es X.env).length=n:=by rfl) (hst:(assignEach es X.env).findIdx? (·.1)=none:=by rfl):PG X (.Tuple es k pos) (gTup X.K n t):=by
 intro pins s σ H v u Q I r hw
 obtain ⟨a,xs,e1,hq,hl,hw⟩:=hw
 subst e1
 cases r
 obtain ⟨its,rv,ht,hz⟩:=I.tuple hq
 refine assign_Tuple_tuple (I.ok.hd hc) ht (by simp [hn,← hl,rv.length]) hst fun h' hx=>?_
 have I1:Inv X pins σ H { s with heap:=h' }:=I.kept (t':=s.toks) fun b o e=>hx b o (Nat.ne_of_lt (Heap.lt_size e)) e
 exact h pins _ σ H xs _ Q I1 (by simpa using rv) hw
def gSub (to ti:TE) (t:TSet):TG:=fun v σ H Q=>to σ H fun o H1=>ti σ H1 fun i H2=>t o i v H2 fun H3=>Q σ H3
theorem pg_sub {o i:Expr}{to ti:TE}{t:TSet} (ho:PE X o to) (hi:PE X i ti) (hs:PSet X t)
  (ha:∀ v,assign (.Subscript o i pos) X.env v=(do
   let ov ← holding [v] (eval o X.env)
   let iv ← holding [v,ov] (eval i X.env)
   standAt pos
   holding [v,ov,iv] (setItem ov iv v)
   release [v,ov,iv] []):=by intro _;rfl):PG X (.Subscript o i pos) (gSub to ti t):=by
 intro pins s σ H v u Q I r h
 rw [ha]
 refine wpAny_bind (wpAny_holding (thn (ho pins s σ H _ I h) fun ov s1 ⟨x,H1,I1,r1,q1⟩=>?_))
 refine wpAny_bind (wpAny_holding (thn (hi pins s1 σ H1 _ I1 q1) fun iv s2 ⟨y,H2,I2,r2,q2⟩=>?_))
 refine wpAny_bind (wpAny_standAt (wpAny_bind (wpAny_holding (thn (hs pins s2 σ H2 x y v ov iv u _ I2 r1 r2 r q2) fun _ s3 ⟨H3,I3,q3⟩=>?_))))
 exact wpAny_release ⟨σ,H3,I3,q3⟩
def tAsg (te:TE) (g:TG):TS:=fun D σ H=>te σ H fun x H1=>g x σ H1 D.nx
theorem ps_asg {tg e:Expr}{te:TE}{g:TG} (he:PE X e te) (hg:PG X tg g) (hs:swapsWithSole [tg] e pos.line X.env=pure false:=by rfl) (hw:swappedStores [tg] e X.env=pure none:=by rfl)
  (h1:(assignEach [tg] X.env).map (·.2)=[assign tg X.env]:=by rfl):PS X (.Assign [tg] e pos) (tAsg te g):=by
 intro pins s σ H D I h
 refine wpAny_Assign_stores (thn (he pins s σ H _ I h) fun v s1 ⟨x,H1,I1,r1,q1⟩=>?_) hs hw
 rw [h1]
 exact thn (hg pins s1 σ H1 x v _ I1 r1 q1) fun _ s2 q=>q
theorem ps_set {i:Nat}{x:Str}{e:Expr}{te:TE}{pos':Pos} (hN:X.N.Nodup) (hi:X.N[i]? = some x) (hx:Loc X.env.scope x) (he:PE X e te) (hs:swapsWith e (some (.Name x pos')) pos.line X.env=pure false:=by rfl) (hf:X.fn x=true∨X.env.scope.names.lookup x=some .local:=by first | exact .inl rfl | exact .inr rfl | assumption) :
  PS X (.Assign [.Name x pos'] e pos) (tAsg te (gName i)):=by
 intro pins s σ H D I h
 refine wpAny_Assign_Name (thn (he pins s σ H _ I h) fun v s1 ⟨y,H1,I1,r1,q1⟩=>?_) hs
 exact store_ok I1 hN hi hx r1 (fun s2 I2=>⟨_,H1,I2,q1⟩) hf
end
section
variable {X:Cx}{pos:Pos}
def tWhile (c:TT) (tb:TS):TS:=fun D σ H=>∃ W:Nat→St→Hp→Prop,(∃ m,W m σ H)∧∀ m σ H,W m σ H →
 c σ H fun b H1=>if b=true then ∃ N:St→Hp→Prop,(∀ σ' H',N σ' H'→∃ m',m'<m∧W m' σ' H')∧tb { D with nx:=N,ct:=N,bk:=D.nx } σ H1 else D.nx σ H1
theorem ps_while {c:Expr}{body:List Stmt}{tc:TT}{tb:TS} (hp:PassesOwn (model X.prog X.w) X.A X.env X.xe) (hc:PT X c tc) (hb:PSs X body tb):PS X (.While c body [] pos) (tWhile tc tb):=by
 intro pins s σ H D I h
 obtain ⟨W,⟨m0,w0⟩,turn⟩:=h
 refine wpAny_While (codeAny_whileLoop (fun n s'=>∃ σ' H',Inv X pins σ' H' s'∧W n σ' H') ?_ m0 ⟨σ,H,I,w0⟩)
 rintro n s1 ⟨σ1,H1,I1,w1⟩
 refine wpAny_passesOwn hp (thn (hc pins s1 σ1 H1 _ I1 (turn n σ1 H1 w1)) fun b s2 ⟨H2,I2,q2⟩=>?_)
 cases b with
 | true =>
  obtain ⟨N,hN,q2⟩:=q2
  rw [if_pos rfl]
  refine wpAny_passesOwn hp (thn (hb pins s2 σ1 H2 _ I2 q2) fun f s3 q3=>?_)
  cases f with
  | next =>
   obtain ⟨σ3,H3,I3,n3⟩:=q3
   obtain ⟨m',hm,w3⟩:=hN σ3 H3 n3
   exact ⟨m',hm,σ3,H3,I3,w3⟩
  | cont =>
   obtain ⟨σ3,H3,I3,n3⟩:=q3
   obtain ⟨m',hm,w3⟩:=hN σ3 H3 n3
   exact ⟨m',hm,σ3,H3,I3,w3⟩
  | brk=>exact q3
  | ret v=>exact q3
 | false =>
  rw [if_neg Bool.false_ne_true]
  exact wpAny_execs_nil ⟨σ1,H2,I2,q2⟩
end
structure It where
 go:Nat→Hp→Prop
 yld:Nat→Hp→V→Hp→Prop
 stop:Nat→Hp→Prop
def FpOk (X:Cx) (pins:List (Addr × Obj)) (H:Hp) (b:Addr):Prop :=
 H b=none∧b≠X.env.locals∧b ∉ X.fs∧(b∈X.ex∨X.s₀.heap.objs.size≤b)∧(∀ x c,X.env.cells.lookup x=some c→c≠b)∧∀ p∈X.pn ++ pins,p.1≠b
theorem Inv.fpOk {X:Cx}{pins:List (Addr × Obj)}{σ:St}{H H':Hp}{s:Shared}{b:Addr} (I:Inv X pins σ H s) (hb:s.heap.objs.size≤b) (hn:H' b=none):FpOk X pins H' b:=by
 refine ⟨hn,Nat.ne_of_gt (Nat.lt_of_lt_of_le I.lt hb),I.nofs hb,.inr (Nat.le_trans I.sz hb),fun x c e z=>?_,fun p hp z=>?_⟩
 ·obtain ⟨v,q⟩:=I.cell x c e
  exact absurd (Nat.lt_of_lt_of_le q.lt (by rw [z];exact hb)) (Nat.lt_irrefl _)
 ·exact absurd (Nat.lt_of_lt_of_le (Heap.lt_size (I.pin p hp).1) (by rw [z];exact hb)) (Nat.lt_irrefl _)
structure Turn (P:Program) (w:World) (K:PySem.W.Frag) (tg:Expr) (J:It) (fp:List Addr) (it:Addr) (tn:Nat→Heap→Prop):Prop where
 mem:it∈fp
 obj:∀ i h,tn i h→∀ b∈fp,∃ o,h.get? b=some o∧∀ v,o.data≠.cell v
 keep:∀ i h h',tn i h→(∀ b∈fp,∀ o,h.get? b=some o→h'.get? b=some o)→tn i h'
 item:∀ (X:Cx),X.prog=P→X.w=w→X.K=K→X.calm=true→∀ (i:Nat) (pins:List (Addr × Obj)) (s:Shared) (σ:St) (H:Hp) (E:Value→Shared→Prop),Inv X pins σ H s→(∀ b∈fp,FpOk X pins H b)→tn i s.heap→J.go i H →
  wpAny (model P w) X.A (pyNext (.ref it)) (fun r s1=>∃ u,r=some u ∧
   wpAny (model P w) X.A (letOwnedTupleGo tg (.ref it) u) (fun _ s2=>∃ x H',Inv X pins σ H' s2∧RelV x u∧J.yld i H x H'∧tn (i+1) s2.heap∧∀ b∈fp,H' b=none) E s1) E s
 done:∀ (X:Cx),X.prog=P→X.w=w→X.K=K→X.calm=true→∀ (i:Nat) (pins:List (Addr × Obj)) (s:Shared) (σ:St) (H:Hp) (E:Value→Shared→Prop),Inv X pins σ H s→(∀ b∈fp,FpOk X pins H b)→tn i s.heap→J.stop i H →
  wpAny (model P w) X.A (pyNext (.ref it)) (fun r s1=>r=none∧Inv X pins σ H s1) E s
 self:∀ (A:Around) (i:Nat) (s:Shared) (Q:Value→Shared→Prop) (E:Value→Shared→Prop),tn i s.heap→Q (.ref it) s→wpAny (model P w) A (pyIter (.ref it)) Q E s
abbrev TI:=St→Hp→(It→Hp→Prop)→Prop
def PIE (X:Cx) (pins:List (Addr × Obj)) (σ:St) (tg:Expr) (R:It→Hp→Prop) (itv:Value) (s2:Shared):Prop :=
 ∃ (it:Addr) (fp:List Addr) (tn:Nat→Heap→Prop) (J:It) (H':Hp),itv=.ref it∧Inv X pins σ H' s2∧Turn X.prog X.w X.K tg J fp it tn∧tn 0 s2.heap∧(∀ b∈fp,FpOk X pins H' b)∧R J H'
def PI (X:Cx) (tg iter:Expr) (wi:TI):Prop :=
 ∀ (pins:List (Addr × Obj)) (s:Shared) (σ:St) (H:Hp) (R:It→Hp→Prop),Inv X pins σ H s→wi σ H R →
  wpAny (model X.prog X.w) X.A (eval iter X.env) (fun v s1=>wpAny (model X.prog X.w) X.A (pyIter v) (PIE X pins σ tg R) X.xe s1) X.xe s
theorem go_of {M:Model}{A:Around}{E:Value→Shared→Prop}{s:Shared}{tg:Expr}{it:Addr}{u:Value}{o:Obj}{n:String}{vs:Array Value}{Q:Unit→Shared→Prop} (ho:s.heap.get? it=some o) (hc:o.cls=.type n) (hd:o.data=.fields vs)
    (hn:["enumerate","zip","dict_itemiterator","dict_reverseitemiterator","odict_iterator","itertools.zip_longest","itertools.pairwise"].contains n=false) (hQ:Q () s):wpAny M A (letOwnedTupleGo tg (.ref it) u) Q E s:=by
  unfold letOwnedTupleGo
  cases tg <;> first
    | exact wpAny_pure hQ
    | (cases u <;> first
        | exact wpAny_pure hQ
        | (refine wpAny_bind (wpAny_load ho ?_)
           rw [hc,hd]
           show wpAny M A (if (["enumerate","zip","dict_itemiterator","dict_reverseitemiterator","odict_iterator","itertools.zip_longest","itertools.pairwise"].contains n && vs[0]? == some (rawInt _))=true then _ else _) Q E s
           rw [if_neg (by intro h;rw [hn,Bool.false_and] at h;cases h)]
           exact wpAny_pure hQ))
def Itl (K:PySem.W.Frag) (a:Addr):It :=
 ⟨fun i H=>∃ xs x,SqL K H a xs∧xs[i]? = some x,fun i H x H'=>H'=H∧∀ xs,SqL K H a xs→xs[i]? = some x,fun i H=>∃ xs,SqL K H a xs∧xs.length≤i⟩
def Itt (K:PySem.W.Frag) (a:Addr):It :=
 ⟨fun i H=>∃ xs x,SqT K H a xs∧xs[i]? = some x,fun i H x H'=>H'=H∧∀ xs,SqT K H a xs→xs[i]? = some x,fun i H=>∃ xs,SqT K H a xs∧xs.length≤i⟩
def Itr (lo:Int) (n:Nat):It:=⟨fun i _=>i<n,fun i H x H'=>H'=H∧x=.int (lo+i),fun i _=>n≤i⟩
theorem turn_list {P:Program}{w:World}{K:PySem.W.Frag}{tg:Expr} (a it:Addr):Turn P w K tg (Itl K a) [it] it (fun i h=>h.IsListIter it a i) where
 mem:=by simp
 obj:=fun i h st b hb=>by
  have e:b=it:=by simpa using hb
  subst e
  obtain ⟨o,e,c,d⟩:=st
  exact ⟨o,e,fun v z=>by rw [d] at z;cases z⟩
 keep:=fun i h h' st k=>st.at fun o e=>k it (by simp) o e
 item:=by
  intro X hP hw hK hc i pins s σ H E I hf st hg
  subst hP hw hK
  obtain ⟨xs,x,hq,hx⟩:=hg
  obtain ⟨its,rv,p,hz⟩:=I.list hq
  obtain ⟨u,hu,ru⟩:=rv.get hx
  obtain ⟨f0,f1,f2,f3,f4,f5⟩:=hf it (by simp)
  refine wpAny_pyNext_list_item st p.isList (x:=u) (by simpa using hu) fun h' st' sb=>?_
  have I1:Inv X pins σ H { s with heap:=h' }:=I.turned (t':=s.toks) (fun b o hb e=>(sb.2 b hb).trans e) f0 f1 f3 f4 f5
  obtain ⟨o,e,c,d⟩:=id st'
  exact ⟨u,rfl,go_of (s:={ s with heap:=h' }) e c d (by decide) ⟨x,H,I1,ru,⟨rfl,fun ys hy=>by rw [I.list_inj hy hq];exact hx⟩,st',fun b hb=>(hf b hb).1⟩⟩
 done:=by
  intro X hP hw hK hc i pins s σ H E I hf st hg
  subst hP hw hK
  obtain ⟨xs,hq,hx⟩:=hg
  obtain ⟨its,rv,p,hz⟩:=I.list hq
  obtain ⟨f0,f1,f2,f3,f4,f5⟩:=hf it (by simp)
  have hl:=rv.length
  exact wpAny_pyNext_list_end (I.ok.hd hc) st p.isList (by simp;omega) fun h' eb=>⟨rfl,I.turned (t':=s.toks) (fun b o hb e=>eb b o hb e) f0 f1 f3 f4 f5⟩
 self:=fun _ _ _ _ _ st h=>wpAny_pyIter_listiter st h
theorem turn_tuple {P:Program}{w:World}{K:PySem.W.Frag}{tg:Expr} (a it:Addr):Turn P w K tg (Itt K a) [it] it (fun i h=>h.IsTupleIter it a i) where
 mem:=by simp
 obj:=fun i h st b hb=>by
  have e:b=it:=by simpa using hb
  subst e
  obtain ⟨o,e,c,d⟩:=st
  exact ⟨o,e,fun v z=>by rw [d] at z;cases z⟩
 keep:=fun i h h' st k=>st.at fun o e=>k it (by simp) o e
 item:=by
  intro X hP hw hK hc i pins s σ H E I hf st hg
  subst hP hw hK
  obtain ⟨xs,x,hq,hx⟩:=hg
  obtain ⟨its,rv,p,hz⟩:=I.tuple hq
  obtain ⟨u,hu,ru⟩:=rv.get hx
  obtain ⟨f0,f1,f2,f3,f4,f5⟩:=hf it (by simp)
  refine wpAny_pyNext_tuple_item st (show s.heap.IsTuple a its.toArray from p) (x:=u) (by simpa using hu) fun h' st' sb=>?_
  have I1:Inv X pins σ H { s with heap:=h' }:=I.turned (t':=s.toks) (fun b o hb e=>(sb.2 b hb).trans e) f0 f1 f3 f4 f5
  obtain ⟨o,e,c,d⟩:=id st'
  exact ⟨u,rfl,go_of (s:={ s with heap:=h' }) e c d (by decide) ⟨x,H,I1,ru,⟨rfl,fun ys hy=>by rw [I.tuple_inj hy hq];exact hx⟩,st',fun b hb=>(hf b hb).1⟩⟩
 done:=by
  intro X hP hw hK hc i pins s σ H E I hf st hg
  subst hP hw hK
  obtain ⟨xs,hq,hx⟩:=hg
  obtain ⟨its,rv,p,hz⟩:=I.tuple hq
  obtain ⟨f0,f1,f2,f3,f4,f5⟩:=hf it (by simp)
  have hl:=rv.length
  exact wpAny_pyNext_tuple_end (I.ok.hd hc) st (show s.heap.IsTuple a its.toArray from p) (by simp;omega) fun h' eb=>⟨rfl,I.turned (t':=s.toks) (fun b o hb e=>eb b o hb e) f0 f1 f3 f4 f5⟩
 self:=fun _ _ _ _ _ st h=>wpAny_pyIter_tupleiter st h
theorem turn_range {P:Program}{w:World}{K:PySem.W.Frag}{tg:Expr} (it:Addr) (lo:Int) (n:Nat):Turn P w K tg (Itr lo n) [it] it (fun i h=>IsRangeIter h it (lo+(i:Nat) * 1) ((n:Int) - (i:Nat)) 1) where
 mem:=by simp
 obj:=fun i h st b hb=>by
  have e:b=it:=by simpa using hb
  subst e
  exact ⟨_,st,fun v z=>by
   have z':Data.fields _=Data.cell v:=z
   cases z'⟩
 keep:=fun i h h' st k=>k it (by simp) _ st
 item:=by
  intro X hP hw hK hc i pins s σ H E I hf st hg
  subst hP hw hK
  obtain ⟨f0,f1,f2,f3,f4,f5⟩:=hf it (by simp)
  have W:=Walks.range (prog:=X.prog) (w:=X.w) (I.ok.hd hc) it lo 1 n
  refine W.item i s _ _ hg st fun v h' tk hv st' kk=>?_
  obtain ⟨t,rfl⟩:=hv
  have I1:Inv X pins σ H { s with heap:=h',toks:=tk }:=I.turned (fun b o hb e=>kk b o (by simpa using hb) e) f0 f1 f3 f4 f5
  refine ⟨_,rfl,go_of (s:={ s with heap:=h',toks:=tk }) (n:="range_iterator") st' rfl rfl (by decide) ⟨.int (lo+i),H,I1,⟨t,?_⟩,⟨rfl,rfl⟩,st',fun b hb=>(hf b hb).1⟩⟩
  rw [Int.mul_one]
 done:=by
  intro X hP hw hK hc i pins s σ H E I hf st hg
  subst hP hw hK
  obtain ⟨f0,f1,f2,f3,f4,f5⟩:=hf it (by simp)
  exact wpAny_pyNext_range_end (I.ok.hd hc) st (by have:n≤i:=hg;omega) fun h' eb=>⟨rfl,I.turned (t':=s.toks) (fun b o hb e=>eb b o hb e) f0 f1 f3 f4 f5⟩
 self:=fun _ _ _ _ _ st h=>wpAny_pyIter_rangeiter st h
section
variable {X:Cx}{tg:Expr}
def iList (K:PySem.W.Frag) (tl:TE):TI:=fun σ H R=>tl σ H fun x H1=>∃ a,x=.ref a∧(∃ xs,SqL K H1 a xs)∧R (Itl K a) H1
def iTup (K:PySem.W.Frag) (tl:TE):TI:=fun σ H R=>tl σ H fun x H1=>∃ a,x=.ref a∧(∃ xs,SqT K H1 a xs)∧R (Itt K a) H1
theorem pi_list {l:Expr}{tl:TE} (hl:PE X l tl):PI X tg l (iList X.K tl):=by
 intro pins s σ H R I h
 refine thn (hl pins s σ H _ I h) fun v s1 ⟨x,H1,I1,r1,q1⟩=>?_
 obtain ⟨a,e,⟨xs,hq⟩,q⟩:=q1
 subst e
 cases r1
 obtain ⟨its,rv,p,hz⟩:=I1.list hq
 refine wpAny_pyIter_list p.isList ?_
 refine ⟨s1.heap.objs.size,[s1.heap.objs.size],_,_,H1,rfl,I1.kept (t':=s1.toks) fun b o e=>Heap.get?_push_of_some _ e,turn_list a _,⟨_,Heap.get?_push_size _ rfl,rfl,rfl⟩,fun b hb=>?_,q⟩
 have e:b=s1.heap.objs.size:=by simpa using hb
 subst e
 exact I1.fpOk (Nat.le_refl _) (I1.hok.fresh (Nat.le_refl _))
theorem pi_tup {l:Expr}{tl:TE} (hl:PE X l tl):PI X tg l (iTup X.K tl):=by
 intro pins s σ H R I h
 refine thn (hl pins s σ H _ I h) fun v s1 ⟨x,H1,I1,r1,q1⟩=>?_
 obtain ⟨a,e,⟨xs,hq⟩,q⟩:=q1
 subst e
 cases r1
 obtain ⟨its,rv,p,hz⟩:=I1.tuple hq
 refine wpAny_pyIter_tuple (show s1.heap.IsTuple a its.toArray from p) ?_
 refine ⟨s1.heap.objs.size,[s1.heap.objs.size],_,_,H1,rfl,I1.kept (t':=s1.toks) fun b o e=>Heap.get?_push_of_some _ e,turn_tuple a _,⟨_,Heap.get?_push_size _ rfl,rfl,rfl⟩,fun b hb=>?_,q⟩
 have e:b=s1.heap.objs.size:=by simpa using hb
 subst e
 exact I1.fpOk (Nat.le_refl _) (I1.hok.fresh (Nat.le_refl _))
theorem range_it {pins:List (Addr × Obj)}{σ:St}{H:Hp}{s:Shared}{R:It→Hp→Prop}{E:Value→Shared→Prop}{lo hi:Int}{t u v:Tok}{tk:Nat} (I:Inv X pins σ H s) (h1 : -(2 ^ 62)≤lo) (h2:lo<2 ^ 62) (h3 : -(2 ^ 62)≤hi) (h4:hi<2 ^ 62)
  (q:R (Itr lo (hi - lo).toNat) H):wpAny (model X.prog X.w) X.A (pyIter (.ref s.heap.objs.size)) (PIE X pins σ tg R) E { s with heap:=s.heap.push { cls:=.type "range",data:=.fields #[.int lo t,.int hi u,.int 1 v] },toks:=tk }:=by
 refine wpAny_pyIter_range (IsRange.new ..) (small_one h1 h2 h3 h4) ?_
 have I1:Inv X pins σ H { s with heap:=s.heap.push { cls:=.type "range",data:=.fields #[.int lo t,.int hi u,.int 1 v] },toks:=tk }:=I.kept fun b o e=>Heap.get?_push_of_some _ e
 refine ⟨(s.heap.push { cls:=.type "range",data:=.fields #[.int lo t,.int hi u,.int 1 v] }).objs.size,[(s.heap.push { cls:=.type "range",data:=.fields #[.int lo t,.int hi u,.int 1 v] }).objs.size],_,_,H,rfl,
  I1.kept (t':=tk) fun b o e=>Heap.get?_push_of_some _ e,turn_range _ lo (hi - lo).toNat,?_,fun b hb=>?_,q⟩
 ·have e1:lo+((0:Nat):Int) * 1=lo:=by simp
  have e2:(((hi - lo).toNat:Nat):Int) - ((0:Nat):Int)=Builtin.Range.rangeSize lo hi 1:=by rw [rangeSize_one];split <;> omega
  show IsRangeIter _ _ (lo+((0:Nat):Int) * 1) ((((hi - lo).toNat:Nat):Int) - ((0:Nat):Int)) 1
  rw [e1,e2]
  exact Heap.get?_push_size _ rfl
 ·have e:b=(s.heap.push { cls:=.type "range",data:=.fields #[.int lo t,.int hi u,.int 1 v] }).objs.size:=by simpa using hb
  subst e
  exact I1.fpOk (Nat.le_refl _) (I1.hok.fresh (Nat.le_refl _))
def iRng1 (ta:TA):TI:=fun σ H R=>ta σ H fun vs H1=>∃ j:Int,vs=[.int j] ∧ -(2 ^ 62)≤j∧j<2 ^ 62∧R (Itr 0 j.toNat) H1
def iRng2 (ta:TA):TI:=fun σ H R=>ta σ H fun vs H1=>∃ i j:Int,vs=[.int i,.int j]∧(-(2 ^ 62)≤i∧i<2 ^ 62 ∧ -(2 ^ 62)≤j∧j<2 ^ 62)∧R (Itr i (j - i).toNat) H1
theorem pi_range1 {a:Expr}{ta:TA}{p pos:Pos} (hg:Gl X "range") (hm:X.mg "range" = none) (ha:PA X [a] ta) (hs:starEach [a] X.env=[(false,eval a X.env)]:=by rfl):PI X tg (.Call (.Name "range" p) [a] [] pos) (iRng1 ta):=by
 intro pins s σ H R I h
 refine Call_ (ld_blt I hg hm boot_range (PyProof.Rows.callWith_type1 (thn (ha pos pins s σ H _ I h) fun us s1 ⟨vs,H1,I1,r1,q1⟩=>?_) hs rfl))
 obtain ⟨j,e,q1,q2,q⟩:=q1
 subst e
 cases r1 with
 | cons r rr =>
  cases rr
  obtain ⟨t,rfl⟩:=r
  exact call_range_1 (range_it I1 (by omega) (by omega) q1 q2 (by simpa using q))
theorem pi_range2 {a b:Expr}{ta:TA}{p pos:Pos} (hg:Gl X "range") (hm:X.mg "range" = none) (ha:PA X [a,b] ta) (hs:starEach [a,b] X.env=[(false,eval a X.env),(false,eval b X.env)]:=by rfl) (hs2:starEach [b] X.env=[(false,eval b X.env)]:=by rfl) :
  PI X tg (.Call (.Name "range" p) [a,b] [] pos) (iRng2 ta):=by
 intro pins s σ H R I h
 refine Call_ (ld_blt I hg hm boot_range (PyProof.Rows.callWith_type1 (thn (ha pos pins s σ H _ I h) fun us s1 ⟨vs,H1,I1,r1,q1⟩=>?_) (by rw [hs,hs2]) (by rw [hs2];rfl)))
 obtain ⟨i,j,e,⟨q1,q2,q3,q4⟩,q⟩:=q1
 subst e
 cases r1 with
 | cons r rr =>
  cases rr with
  | cons r' rr =>
   cases rr
   obtain ⟨t,rfl⟩:=r
   obtain ⟨t',rfl⟩:=r'
   exact call_range_2 (range_it I1 q1 q2 q3 q4 q)
def tFor (wi:TI) (g:TG) (tb:TS):TS:=fun D σ H=>wi σ H fun J H1=>∃ W:Nat→Nat→St→Hp→Prop,(∃ m,W 0 m σ H1)∧∀ i m σ H,W i m σ H →
 (J.stop i H∧D.nx σ H)∨(J.go i H∧∃ N:St→Hp→Prop,(∀ σ' H',N σ' H'→∃ m',m'<m∧W (i+1) m' σ' H')∧∀ x H',J.yld i H x H'→g x σ H' fun σ2 H2=>tb { D with nx:=N,ct:=N,bk:=D.nx } σ2 H2)
def pinsAt (fp:List Addr) (h:Heap):List (Addr × Obj):=fp.filterMap fun b=>(h.get? b).map fun o=>(b,o)
theorem mem_pinsAt {fp:List Addr}{h:Heap}{b:Addr}{o:Obj} (hb:b∈fp) (e:h.get? b=some o):(b,o)∈pinsAt fp h:=List.mem_filterMap.mpr ⟨b,hb,by rw [e];rfl⟩
theorem of_pinsAt {fp:List Addr}{h:Heap}{p:Addr × Obj} (hp:p∈pinsAt fp h):p.1∈fp∧h.get? p.1=some p.2:=by
 obtain ⟨b,hb,e⟩:=List.mem_filterMap.mp hp
 cases q:h.get? b with
 | none=>rw [q] at e;cases e
 | some o =>
  rw [q] at e
  have e':(b,o)=p:=Option.some.inj e
  subst e'
  exact ⟨hb,q⟩
theorem Inv.pinned {pins:List (Addr × Obj)}{σ:St}{H:Hp}{s:Shared}{fp:List Addr} (I:Inv X pins σ H s) (hf:∀ b∈fp,FpOk X pins H b) (ho:∀ b∈fp,∃ o,s.heap.get? b=some o∧∀ v,o.data≠.cell v):Inv X (pins ++ pinsAt fp s.heap) σ H s :=
 I.pins_of fun p hp=>(List.mem_append.mp hp).elim (fun z=>I.pin p (List.mem_append_right _ z)) fun z=>by
  obtain ⟨hb,e⟩:=of_pinsAt z
  obtain ⟨f0,f1,f2,_⟩:=hf p.1 hb
  obtain ⟨o,e',d⟩:=ho p.1 hb
  rw [e] at e';cases e'
  exact ⟨e,f0,f1,f2,d⟩
theorem Inv.unpinned {pins pl:List (Addr × Obj)}{σ:St}{H:Hp}{s:Shared} (I:Inv X (pins ++ pl) σ H s):Inv X pins σ H s:=I.pins_of fun p hp=>I.pin p (List.mem_append_right _ (List.mem_append_left _ hp))
theorem ps_for {iter:Expr}{body:List Stmt}{wi:TI}{g:TG}{tb:TS}{pos:Pos} (hp:PassesOwn (model X.prog X.w) X.A X.env X.xe) (hc:X.calm=true) (hi:PI X tg iter wi) (hg:PG X tg g) (hb:PSs X body tb)
  (hs:∀ x,foldedSetIterable iter X.env x=pure x:=by intro _;rfl):PS X (.For tg iter body [] pos) (tFor wi g tb):=by
 intro pins s σ H D I h
 refine wpAny_For (thn (hi pins s σ H _ I h) fun v s1 h1=>thn h1 fun itv s2 h2=>?_) hs
 obtain ⟨it,fp,tn,J,H2,e,I2,T,st2,f2,W,⟨m0,w0⟩,turn⟩:=h2
 subst e
 -- what stays true of the iterator's objects through the loop
 have stat:∀ {H':Hp},(∀ b∈fp,H' b=none)→∀ b∈fp,FpOk X pins H' b:=fun hn b hb=>⟨hn b hb,(f2 b hb).2⟩
 refine codeAny_forLoop_any (fun n s'=>∃ i σ' H',Inv X pins σ' H' s'∧tn i s'.heap∧(∀ b∈fp,H' b=none)∧W i n σ' H') ?_ m0 ⟨0,σ,H2,I2,st2,fun b hb=>(f2 b hb).1,w0⟩
 rintro n s3 ⟨i,σ3,H3,I3,st3,fr3,w3⟩
 rcases turn i n σ3 H3 w3 with ⟨stop,qn⟩ | ⟨go,N,hN,step⟩
 ·refine wpAny_passesOwn hp (thn (T.done X rfl rfl rfl hc i pins s3 σ3 H3 X.xe I3 (stat fr3) st3 stop) fun r s4 ⟨hr,I4⟩=>?_)
  subst hr
  exact wpAny_execs_nil ⟨σ3,H3,I4,qn⟩
 ·refine wpAny_passesOwn hp (thn (T.item X rfl rfl rfl hc i pins s3 σ3 H3 X.xe I3 (stat fr3) st3 go) fun r s4 ⟨u,hr,h4⟩=>?_)
  subst hr
  refine wpAny_passesOwn hp (thn h4 fun _ s5 ⟨x,H5,I5,r5,y5,st5,fr5⟩=>?_)
  have I5':=I5.pinned (stat fr5) (T.obj _ _ st5)
  refine wpAny_passesOwn hp (thn (hg _ s5 σ3 H5 x u _ I5' r5 (step x H5 y5)) fun _ s6 ⟨σ6,H6,I6,q6⟩=>?_)
  refine wpAny_passesOwn hp (thn (hb _ s6 σ6 H6 _ I6 q6) fun f s7 q7=>?_)
  have again:∀ {σ7:St}{H7:Hp},Inv X (pins ++ pinsAt fp s5.heap) σ7 H7 s7→N σ7 H7→∃ m,m<n∧∃ i σ' H',Inv X pins σ' H' s7∧tn i s7.heap∧(∀ b∈fp,H' b=none)∧W i m σ' H':=fun {σ7 H7} I7 n7=>by
   obtain ⟨m',hm,w7⟩:=hN σ7 H7 n7
   refine ⟨m',hm,i+1,σ7,H7,I7.unpinned,T.keep _ _ _ st5 fun b hb o e=>(I7.pin (b,o) (List.mem_append_right _ (List.mem_append_right _ (mem_pinsAt hb e)))).1,fun b hb=>?_,w7⟩
   obtain ⟨o,e,d⟩:=T.obj _ _ st5 b hb
   exact (I7.pin (b,o) (List.mem_append_right _ (List.mem_append_right _ (mem_pinsAt hb e)))).2.1
  cases f with
  | next=>obtain ⟨σ7,H7,I7,n7⟩:=q7;exact again I7 n7
  | cont=>obtain ⟨σ7,H7,I7,n7⟩:=q7;exact again I7 n7
  | brk=>obtain ⟨σ7,H7,I7,q7⟩:=q7;exact ⟨σ7,H7,I7.unpinned,q7⟩
  | ret v=>obtain ⟨x7,σ7,H7,I7,r7,q7⟩:=q7;exact ⟨x7,σ7,H7,I7.unpinned,r7,q7⟩
end
theorem for_list {K:PySem.W.Frag}{a:Addr}{xs:List V}{g:TG}{tb:TS}{D:Ends}{σ:St}{H:Hp} (Pv:Nat→St→Hp→Prop) (h0:Pv 0 σ H) (hl:∀ i σ H,i≤xs.length→Pv i σ H→SqL K H a xs)
  (hs:∀ i x σ H,xs[i]? = some x→Pv i σ H→g x σ H fun σ2 H2=>tb { D with nx:=Pv (i+1),ct:=Pv (i+1),bk:=D.nx } σ2 H2) (hd:∀ σ H,Pv xs.length σ H→D.nx σ H) :
  ∃ W:Nat→Nat→St→Hp→Prop,(∃ m,W 0 m σ H)∧∀ i m σ H,W i m σ H →
   ((Itl K a).stop i H∧D.nx σ H)∨((Itl K a).go i H∧∃ N:St→Hp→Prop,(∀ σ' H',N σ' H'→∃ m',m'<m∧W (i+1) m' σ' H')∧∀ x H',(Itl K a).yld i H x H'→g x σ H' fun σ2 H2=>tb { D with nx:=N,ct:=N,bk:=D.nx } σ2 H2):=by
 refine ⟨fun i m σ H=>m=xs.length - i∧i≤xs.length∧Pv i σ H,⟨xs.length,by simp,Nat.zero_le _,h0⟩,?_⟩
 rintro i m σ H ⟨rfl,hi,p⟩
 have q:=hl i σ H hi p
 by_cases hlt:i<xs.length
 ·refine .inr ⟨⟨xs,xs[i],q,by simp [hlt]⟩,Pv (i+1),fun σ' H' p'=>⟨xs.length - (i+1),by omega,rfl,hlt,p'⟩,fun x H' y=>?_⟩
  obtain ⟨e,y⟩:=y
  subst e
  exact hs i x σ _ (y xs q) p
 ·have e:i=xs.length:=by omega
  subst e
  exact .inl ⟨⟨xs,q,Nat.le_refl _⟩,hd σ H p⟩
theorem for_range {lo:Int}{n:Nat}{g:TG}{tb:TS}{D:Ends}{σ:St}{H:Hp} (Pv:Nat→St→Hp→Prop) (h0:Pv 0 σ H)
  (hs:∀ i σ H,i<n→Pv i σ H→g (.int (lo+i)) σ H fun σ2 H2=>tb { D with nx:=Pv (i+1),ct:=Pv (i+1),bk:=D.nx } σ2 H2) (hd:∀ σ H,Pv n σ H→D.nx σ H) :
  ∃ W:Nat→Nat→St→Hp→Prop,(∃ m,W 0 m σ H)∧∀ i m σ H,W i m σ H →
   ((Itr lo n).stop i H∧D.nx σ H)∨((Itr lo n).go i H∧∃ N:St→Hp→Prop,(∀ σ' H',N σ' H'→∃ m',m'<m∧W (i+1) m' σ' H')∧∀ x H',(Itr lo n).yld i H x H'→g x σ H' fun σ2 H2=>tb { D with nx:=N,ct:=N,bk:=D.nx } σ2 H2):=by
 refine ⟨fun i m σ H=>m=n - i∧i≤n∧Pv i σ H,⟨n,by simp,Nat.zero_le _,h0⟩,?_⟩
 rintro i m σ H ⟨rfl,hi,p⟩
 by_cases hlt:i<n
 ·refine .inr ⟨hlt,Pv (i+1),fun σ' H' p'=>⟨n - (i+1),by omega,rfl,hlt,p'⟩,fun x H' y=>?_⟩
  obtain ⟨e,y⟩:=y
  subst e y
  exact hs i σ _ hlt p
 ·have e:i=n:=by omega
  subst e
  exact .inl ⟨Nat.le_refl _,hd σ H p⟩
abbrev R2:=V→V→Hp→VK→Prop
def OpR (X:Cx) (f:Value→Value→Sem Value) (r:R2):Prop :=
 ∀ (pins:List (Addr × Obj)) (s:Shared) (σ:St) (H:Hp) (x y:V) (v u:Value) (Q:VK),Inv X pins σ H s→RelV x v→RelV y u→r x y H Q →
  wpAny (model X.prog X.w) X.A (f v u) (EP X pins σ Q) X.xe s
def UnR (X:Cx) (f:Value→Sem Value) (r:V→Hp→VK→Prop):Prop :=
 ∀ (pins:List (Addr × Obj)) (s:Shared) (σ:St) (H:Hp) (x:V) (v:Value) (Q:VK),Inv X pins σ H s→RelV x v→r x H Q →
  wpAny (model X.prog X.w) X.A (f v) (EP X pins σ Q) X.xe s
def CallR (X:Cx) (f:Value) (r:List V→Hp→VK→Prop):Prop :=
 ∀ (pins:List (Addr × Obj)) (s:Shared) (σ:St) (H:Hp) (xs:List V) (us:List Value) (Q:VK),Inv X pins σ H s→Vals xs us→r xs H Q →
  wpAny (model X.prog X.w) X.A (call f us) (EP X pins σ Q) X.xe s
def TruR (X:Cx) (r:V→Hp→(Bool→Hp→Prop)→Prop):Prop :=
 ∀ (pins:List (Addr × Obj)) (s:Shared) (σ:St) (H:Hp) (x:V) (v:Value) (Q:Bool→Hp→Prop),Inv X pins σ H s→RelV x v→r x H Q →
  wpAny (model X.prog X.w) X.A (truthy v) (TP X pins σ Q) X.xe s
def tOp (r:R2) (ta tb:TE):TE:=fun σ H Q=>ta σ H fun x H1=>tb σ H1 fun y H2=>r x y H2 Q
def tUn (r:V→Hp→VK→Prop) (ta:TE):TE:=fun σ H Q=>ta σ H fun x H1=>r x H1 Q
def rI (C:Int→Int→Prop) (g:Int→Int→V):R2:=fun x y H Q=>∃ i j,x=.int i∧y=.int j∧C i j∧Q (g i j) H
def rI0 (g:Int→Int→V):R2:=fun x y H Q=>∃ i j,x=.int i∧y=.int j∧Q (g i j) H
def rU (g:Int→V):V→Hp→VK→Prop:=fun x H Q=>∃ i,x=.int i∧Q (g i) H
section
variable {X:Cx}{a b c:Expr}{ta tb tc:TE}{pos:Pos}
theorem binT (ha:PE X a ta) (hb:PE X b tb) {pins:List (Addr × Obj)}{s:Shared}{σ:St}{H:Hp}{R:V→V→Hp→Prop} (I:Inv X pins σ H s)
  (h:ta σ H fun x H1=>tb σ H1 fun y H2=>R x y H2) {Q:Value→Shared→Prop}{f:Value→Value→Sem Value}
  (hf:∀ v u s2 x y H2,Inv X pins σ H2 s2→RelV x v→RelV y u→R x y H2→wpAny (model X.prog X.w) X.A (f v u) Q X.xe s2) :
  wpAny (model X.prog X.w) X.A (eval a X.env) (fun v s₁=>wpAny (model X.prog X.w) X.A (eval b X.env) (fun u s₂=>wpAny (model X.prog X.w) X.A (f v u) Q X.xe s₂) X.xe s₁) X.xe s:=by
 refine thn (ha pins s σ H _ I h) fun v s1 ⟨x,H1,I1,r1,q1⟩=>?_
 refine thn (hb pins s1 σ H1 _ I1 q1) fun u s2 ⟨y,H2,I2,r2,q2⟩=>?_
 exact hf v u s2 x y H2 I2 r1 r2 q2
theorem pe_op {op:Operator}{r:R2} (ho:OpR X (binaryOp op) r) (ha:PE X a ta) (hb:PE X b tb):PE X (.BinOp a op b pos) (tOp r ta tb):=by
 intro pins s σ H Q I h
 exact wpAny_BinOp (binT ha hb I h fun v u s2 x y H2 I2 rx ry q=>ho pins s2 σ H2 x y v u Q I2 rx ry q)
theorem pe_un {op:UnaryOp}{r:V→Hp→VK→Prop} (ho:UnR X (unaryOp op) r) (ha:PE X a ta):PE X (.UnaryOp op a pos) (tUn r ta):=by
 intro pins s σ H Q I h
 exact UnaryOp_ (thn (ha pins s σ H _ I h) fun v s1 ⟨x,H1,I1,r1,q1⟩=>ho pins s1 σ H1 x v Q I1 r1 q1)
theorem opI {f:Value→Value→Sem Value}{C:Int→Int→Prop}{g:Int→Int→Int}
  (rule:∀ (i j:Int) (t u:Tok) (s:Shared) (Q:Value→Shared→Prop) (E:Value→Shared→Prop),C i j→Q (.int (g i j) s.toks) { s with toks:=s.toks+1 }→wpAny (model X.prog X.w) X.A (f (.int i t) (.int j u)) Q E s) :
  OpR X f (rI C fun i j=>.int (g i j)):=by
 intro pins s σ H x y v u Q I rx ry h
 obtain ⟨i,j,rfl,rfl,hc,q⟩:=h
 obtain ⟨t,rfl⟩:=rx
 obtain ⟨t',rfl⟩:=ry
 exact rule i j t t' s _ _ hc ⟨.int (g i j),H,I.tok _,⟨_,rfl⟩,q⟩
theorem opI0 {f:Value→Value→Sem Value}{g:Int→Int→Int}
  (rule:∀ (i j:Int) (t u:Tok) (s:Shared) (Q:Value→Shared→Prop) (E:Value→Shared→Prop),Q (.int (g i j) s.toks) { s with toks:=s.toks+1 }→wpAny (model X.prog X.w) X.A (f (.int i t) (.int j u)) Q E s) :
  OpR X f (rI0 fun i j=>.int (g i j)):=by
 intro pins s σ H x y v u Q I rx ry h
 obtain ⟨i,j,rfl,rfl,q⟩:=h
 obtain ⟨t,rfl⟩:=rx
 obtain ⟨t',rfl⟩:=ry
 exact rule i j t t' s _ _ ⟨.int (g i j),H,I.tok _,⟨_,rfl⟩,q⟩
theorem opB0 {f:Value→Value→Sem Value}{g:Int→Int→Bool}
  (rule:∀ (i j:Int) (t u:Tok) (s:Shared) (Q:Value→Shared→Prop) (E:Value→Shared→Prop),Q (.bool (g i j)) s→wpAny (model X.prog X.w) X.A (f (.int i t) (.int j u)) Q E s) :
  OpR X f (rI0 fun i j=>.bl (g i j)):=by
 intro pins s σ H x y v u Q I rx ry h
 obtain ⟨i,j,rfl,rfl,q⟩:=h
 obtain ⟨t,rfl⟩:=rx
 obtain ⟨t',rfl⟩:=ry
 exact rule i j t t' s _ _ ⟨.bl (g i j),H,I,rfl,q⟩
def CDiv (i j:Int):Prop:=0<j∧j<1073741824
def CPow (i j:Int):Prop:=0≤j∧j≤1000000∧i.natAbs<2 ^ 64
def CMul (i j:Int):Prop:=(-(2 ^ 64)<i∧i<2 ^ 64)∨(-(2 ^ 64)<j∧j<2 ^ 64)
theorem CMul.ok {i j:Int} (h:CMul i j):IntMulOk i j:=by
 rcases h with ⟨h1,h2⟩ | ⟨h1,h2⟩
 ·exact .of_left (intBits_le_64 h1 h2)
 ·exact .of_right (intBits_le_64 h1 h2)
theorem op_add:OpR X (binaryOp .Add) (rI0 fun i j=>.int (i+j)):=opI0 fun _ _ _ _ _ _ _ q=>add_int q
theorem op_sub:OpR X (binaryOp .Sub) (rI0 fun i j=>.int (i - j)):=opI0 fun _ _ _ _ _ _ _ q=>sub_int q
theorem op_mul:OpR X (binaryOp .Mult) (rI CMul fun i j=>.int (i * j)):=opI fun _ _ _ _ _ _ _ hc q=>mul_int q hc.ok
theorem op_fdiv:OpR X (binaryOp .FloorDiv) (rI CDiv fun i j=>.int (i / j)):=opI fun i j _ _ _ _ _ hc q=>by
 have h1:(0:Int)<j:=hc.1
 have h2:j<1073741824:=hc.2
 exact floordiv_int (by omega) (by rw [Int.fdiv_eq_ediv_of_nonneg i (by omega)];exact q) (.inl (PyProof.noPylong_small (by omega)))
theorem op_mod:OpR X (binaryOp .Mod) (rI (fun _ j=>0<j) fun i j=>.int (i % j)):=opI fun i j _ _ _ _ _ hc q=>by
 have h1:(0:Int)<j:=hc
 exact mod_int' (by omega) (by rw [Int.fmod_eq_emod_of_nonneg i (by omega)];exact q)
theorem op_pow:OpR X (binaryOp .Pow) (rI CPow fun i j=>.int (i ^ j.toNat)):=opI fun _ _ _ _ _ _ _ hc q=>pow_int_small hc.1 hc.2.1 hc.2.2 q
theorem op_shl:OpR X (binaryOp .LShift) (rI CPow fun i j=>.int (i * 2 ^ j.toNat)):=opI fun _ _ _ _ _ _ _ hc q=>lshift_int_small hc.1 hc.2.1 hc.2.2 q
theorem unI {f:Value→Sem Value}{g:Int→Int}
  (rule:∀ (i:Int) (t:Tok) (s:Shared) (Q:Value→Shared→Prop) (E:Value→Shared→Prop),Q (.int (g i) s.toks) { s with toks:=s.toks+1 }→wpAny (model X.prog X.w) X.A (f (.int i t)) Q E s) :
  UnR X f (rU fun i=>.int (g i)):=by
 intro pins s σ H x v Q I rx h
 obtain ⟨i,rfl,q⟩:=h
 obtain ⟨t,rfl⟩:=rx
 exact rule i t s _ _ ⟨.int (g i),H,I.tok _,⟨_,rfl⟩,q⟩
theorem un_neg:UnR X (unaryOp .USub) (rU fun i=>.int (-i)):=unI fun _ _ _ _ _ q=>neg_int q
end
def scal:V→V→Bool
 | .non,.non=>true | .non,.int _=>true | .int _,.non=>true | .non,.bl _=>true | .bl _,.non=>true | .non,.str _=>true | .str _,.non=>true
 | .int _,.int _=>true | .bl _,.bl _=>true | .str _,.str _=>true | .byt _,.byt _=>true
 | .int _,.str _=>true | .str _,.int _=>true | .bl _,.str _=>true | .str _,.bl _=>true
 | _,_=>false
def rEq:R2:=fun x y H Q=>scal x y=true∧Q (.bl (decide (x=y))) H
def rNe:R2:=fun x y H Q=>scal x y=true∧Q (.bl (!decide (x=y))) H
theorem dec_int {i j:Int}:decide (V.int i=V.int j)=(i == j):=by
 rw [Bool.eq_iff_iff]
 simp
theorem dec_bl {i j:Bool}:decide (V.bl i=V.bl j)=(i == j):=by
 rw [Bool.eq_iff_iff]
 simp
theorem dec_str {i j:Str}:decide (V.str i=V.str j)=(i == j):=by
 rw [Bool.eq_iff_iff]
 simp
theorem dec_byt {i j:Array UInt8}:decide (V.byt i=V.byt j)=(i.toList == j.toList):=by
 rw [Bool.eq_iff_iff]
 cases i
 cases j
 simp
section
variable {X:Cx}{a b c:Expr}{ta tb tc:TE}{pos:Pos}
theorem fin_bl {pins:List (Addr × Obj)}{σ:St}{H:Hp}{s:Shared}{Q:VK}{k k':Bool} (I:Inv X pins σ H s) (q:Q (.bl k) H) (e:k=k'):EP X pins σ Q (.bool k') s:=by
 subst e
 exact ⟨.bl k,H,I,rfl,q⟩
theorem op_eq:OpR X (compareOp .Eq) rEq:=by
 intro pins s σ H x y v u Q I rx ry h
 obtain ⟨hs,q⟩:=h
 cases x with
 | non =>
  cases rx
  cases y with
  | non=>cases ry;exact PySem.EqNone.eq_none_none (fin_bl I q (by simp))
  | bl j=>cases ry;exact PySem.EqNone.eq_none_bool (fin_bl I q (by simp))
  | int j=>obtain ⟨t',rfl⟩:=ry;exact PySem.EqNone.eq_none_int (fin_bl I q (by simp))
  | str j=>obtain ⟨t',rfl⟩:=ry;exact PySem.EqNone.eq_none_str (fin_bl I q (by simp))
  | _=>exact absurd (show false=true from hs) Bool.false_ne_true
 | bl i =>
  cases rx
  cases y with
  | non=>cases ry;exact PySem.EqNone.eq_bool_none (fin_bl I q (by simp))
  | bl j=>cases ry;exact eq_bool (fin_bl I q dec_bl)
  | str j=>obtain ⟨t',rfl⟩:=ry;exact PySem.EqMixed.eq_bool_str (fin_bl I q (by simp))
  | _=>exact absurd (show false=true from hs) Bool.false_ne_true
 | int i =>
  obtain ⟨t,rfl⟩:=rx
  cases y with
  | non=>cases ry;exact PySem.EqNone.eq_int_none (fin_bl I q (by simp))
  | int j=>obtain ⟨t',rfl⟩:=ry;exact eq_int (fin_bl I q dec_int)
  | str j=>obtain ⟨t',rfl⟩:=ry;exact PySem.EqMixed.eq_int_str (fin_bl I q (by simp))
  | _=>exact absurd (show false=true from hs) Bool.false_ne_true
 | str i =>
  obtain ⟨t,rfl⟩:=rx
  cases y with
  | non=>cases ry;exact PySem.EqNone.eq_str_none (fin_bl I q (by simp))
  | bl j=>cases ry;exact PySem.EqMixed.eq_str_bool (fin_bl I q (by simp))
  | int j=>obtain ⟨t',rfl⟩:=ry;exact PySem.EqMixed.eq_str_int (fin_bl I q (by simp))
  | str j=>obtain ⟨t',rfl⟩:=ry;exact eq_str (fin_bl I q dec_str)
  | _=>exact absurd (show false=true from hs) Bool.false_ne_true
 | byt i =>
  obtain ⟨t,rfl⟩:=rx
  cases y with
  | byt j=>obtain ⟨t',rfl⟩:=ry;exact PySem.W.eq_bytes (fin_bl I q dec_byt)
  | _=>exact absurd (show false=true from hs) Bool.false_ne_true
 | _=>cases y <;> exact absurd (show false=true from hs) Bool.false_ne_true
theorem op_ne:OpR X (compareOp .NotEq) rNe:=by
 intro pins s σ H x y v u Q I rx ry h
 obtain ⟨hs,q⟩:=h
 cases x with
 | non =>
  cases rx
  cases y with
  | non=>cases ry;exact PySem.EqNone.ne_none_none (fin_bl I q (by simp))
  | bl j=>cases ry;exact PySem.EqNone.ne_none_bool (fin_bl I q (by simp))
  | int j=>obtain ⟨t',rfl⟩:=ry;exact PySem.EqNone.ne_none_int (fin_bl I q (by simp))
  | str j=>obtain ⟨t',rfl⟩:=ry;exact PySem.EqNone.ne_none_str (fin_bl I q (by simp))
  | _=>exact absurd (show false=true from hs) Bool.false_ne_true
 | bl i =>
  cases rx
  cases y with
  | non=>cases ry;exact PySem.EqNone.ne_bool_none (fin_bl I q (by simp))
  | bl j=>cases ry;exact ne_bool (fin_bl I q (congrArg not dec_bl))
  | str j=>obtain ⟨t',rfl⟩:=ry;exact PySem.EqMixed.ne_bool_str (fin_bl I q (by simp))
  | _=>exact absurd (show false=true from hs) Bool.false_ne_true
 | int i =>
  obtain ⟨t,rfl⟩:=rx
  cases y with
  | non=>cases ry;exact PySem.EqNone.ne_int_none (fin_bl I q (by simp))
  | int j=>obtain ⟨t',rfl⟩:=ry;exact ne_int (fin_bl I q (congrArg not dec_int))
  | str j=>obtain ⟨t',rfl⟩:=ry;exact PySem.EqMixed.ne_int_str (fin_bl I q (by simp))
  | _=>exact absurd (show false=true from hs) Bool.false_ne_true
 | str i =>
  obtain ⟨t,rfl⟩:=rx
  cases y with
  | non=>cases ry;exact PySem.EqNone.ne_str_none (fin_bl I q (by simp))
  | bl j=>cases ry;exact PySem.EqMixed.ne_str_bool (fin_bl I q (by simp))
  | int j=>obtain ⟨t',rfl⟩:=ry;exact PySem.EqMixed.ne_str_int (fin_bl I q (by simp))
  | str j=>obtain ⟨t',rfl⟩:=ry;exact ne_str (fin_bl I q (congrArg not dec_str))
  | _=>exact absurd (show false=true from hs) Bool.false_ne_true
 | byt i =>
  obtain ⟨t,rfl⟩:=rx
  cases y with
  | byt j=>obtain ⟨t',rfl⟩:=ry;exact PySem.W.ne_bytes (fin_bl I q (congrArg not dec_byt))
  | _=>exact absurd (show false=true from hs) Bool.false_ne_true
 | _=>cases y <;> exact absurd (show false=true from hs) Bool.false_ne_true
theorem op_lt:OpR X (compareOp .Lt) (rI0 fun i j=>.bl (decide (i<j))):=opB0 fun _ _ _ _ _ _ _ q=>lt_int q
theorem op_le:OpR X (compareOp .LtE) (rI0 fun i j=>.bl (decide (i≤j))):=opB0 fun _ _ _ _ _ _ _ q=>le_int q
theorem op_gt:OpR X (compareOp .Gt) (rI0 fun i j=>.bl (decide (j<i))):=opB0 fun _ _ _ _ _ _ _ q=>gt_int q
theorem op_in_str:OpR X (compareOp .In) (fun x y H Q=>∃ i j,x=.str i∧y=.str j∧Q (.bl (!(Builtin.Str.occurrences j i 0 j.length 1).isEmpty)) H):=by
 intro pins s σ H x y v u Q I rx ry h
 obtain ⟨i,j,rfl,rfl,q⟩:=h
 obtain ⟨t,rfl⟩:=rx
 obtain ⟨t',rfl⟩:=ry
 exact in_str (fin_bl I q rfl)
theorem nomark (b:Expr) {op:CmpOp} (h:op≠.In:=by decide) (h2:op≠.NotIn:=by decide):behindInMarks op b=false:=by
 have e1:(op == CmpOp.In)=false:=by cases op <;> first | rfl | exact absurd rfl h
 have e2:(op == CmpOp.NotIn)=false:=by cases op <;> first | rfl | exact absurd rfl h2
 cases b <;> simp [behindInMarks,e1,e2]
theorem pe_cmpR {op:CmpOp}{r:R2} (ho:OpR X (compareOp op) r) (ha:PE X a ta) (hb:PE X b tb) (hm:behindInMarks op b=false):PE X (.Compare a [op] [b] pos) (tOp r ta tb):=by
 intro pins s σ H Q I h
 exact wpAny_Compare1 (binT ha hb I h fun v u s2 x y H2 I2 rx ry q=>ho pins s2 σ H2 x y v u Q I2 rx ry q) hm
def tTest (t:TE):TT:=fun σ H Q=>t σ H fun x H'=>∃ k,x=.bl k∧Q k H'
theorem pt_cmpR {op:CmpOp}{r:R2} (ho:OpR X (compareOp op) r) (ha:PE X a ta) (hb:PE X b tb) (hm:behindInMarks op b=false):PT X (.Compare a [op] [b] pos) (tTest (tOp r ta tb)):=by
 intro pins s σ H Q I h
 refine wpAny_isTrue_Compare1 (thn (ha pins s σ H _ I h) fun v s1 ⟨x,H1,I1,r1,q1⟩=>thn (hb pins s1 σ H1 _ I1 q1) fun u s2 ⟨y,H2,I2,r2,q2⟩ =>
  thn (ho pins s2 σ H2 x y v u _ I2 r1 r2 q2) fun c s3 ⟨z,H3,I3,r3,k,e,q3⟩=>?_) hm
 subst e
 cases r3
 exact wpAny_truthy_bool ⟨H3,I3,q3⟩
def tChain (r r':R2) (ta tb tc:TE):TE:=fun σ H Q=>ta σ H fun x H1=>tb σ H1 fun y H2=>r x y H2 fun z H3=>∃ k,z=.bl k ∧
 (if k=true then tc σ H3 fun w' H4=>r' y w' H4 Q else Q (.bl false) H3)
theorem pe_chain {op op':CmpOp}{r r':R2} (ho:OpR X (compareOp op) r) (ho':OpR X (compareOp op') r') (ha:PE X a ta) (hb:PE X b tb) (hc:PE X c tc)
  (hm:lastMarks [op,op'] [b,c]=false:=by with_unfolding_all rfl):PE X (.Compare a [op,op'] [b,c] pos) (tChain r r' ta tb tc):=by
 intro pins s σ H Q I h
 refine Compare_chain (thn (ha pins s σ H _ I h) fun v s1 ⟨x,H1,I1,r1,q1⟩=>chain_link (thn (hb pins s1 σ H1 _ I1 q1) fun u s2 ⟨y,H2,I2,r2,q2⟩ =>
  thn (ho pins s2 σ H2 x y v u _ I2 r1 r2 q2) fun d s3 ⟨z,H3,I3,r3,k,e,q3⟩=>?_)) hm
 subst e
 cases r3
 refine wpAny_truthy_bool ?_
 cases k with
 | false=>exact ite_ff ⟨.bl false,H3,I3,rfl,q3⟩
 | true=>exact ite_tt (chain_last (thn (hc pins s3 σ H3 _ I3 q3) fun w' s4 ⟨z',H4,I4,r4,q4⟩=>ho' pins s4 σ H4 y z' u w' Q I4 r2 r4 q4))
theorem pt_chain {op op':CmpOp}{r r':R2} (ho:OpR X (compareOp op) r) (ho':OpR X (compareOp op') r') (ha:PE X a ta) (hb:PE X b tb) (hc:PE X c tc)
  (hm:lastMarks [op,op'] [b,c]=false:=by with_unfolding_all rfl):PT X (.Compare a [op,op'] [b,c] pos) (tTest (tChain r r' ta tb tc)):=by
 intro pins s σ H Q I h
 refine isTrue_chain (thn (ha pins s σ H _ I h) fun v s1 ⟨x,H1,I1,r1,q1⟩=>test_link (thn (hb pins s1 σ H1 _ I1 q1) fun u s2 ⟨y,H2,I2,r2,q2⟩ =>
  thn (ho pins s2 σ H2 x y v u _ I2 r1 r2 q2) fun d s3 ⟨z,H3,I3,r3,k,e,q3⟩=>?_)) hm
 subst e
 cases r3
 refine wpAny_truthy_bool ?_
 cases k with
 | false =>
  obtain ⟨k',e',q'⟩:=q3
  cases e'
  exact ite_ff ⟨H3,I3,q'⟩
 | true =>
  refine ite_tt (test_last (thn (hc pins s3 σ H3 _ I3 q3) fun w' s4 ⟨z',H4,I4,r4,q4⟩=>thn (ho' pins s4 σ H4 y z' u w' _ I4 r2 r4 q4) fun d' s5 ⟨z2,H5,I5,r5,k2,e2,q5⟩=>?_))
  subst e2
  cases r5
  exact wpAny_truthy_bool ⟨H5,I5,q5⟩
def TruV (K:PySem.W.Frag) (x:V) (H:Hp) (k:Bool):Prop :=
 match x with
 | .non=>k=false
 | .bl b=>k=b
 | .int i=>k=(i != 0)
 | .str y=>y.length≤sizeLine∧k=((y.length:Int) != 0)
 | .byt y=>y.size≤sizeLine∧k=((y.size:Int) != 0)
 | .ref p=>(∃ xs,SqL K H p xs∧k = !xs.isEmpty)∨(∃ xs,SqT K H p xs∧k = !xs.isEmpty)∨∃ kvs,H p=some (.dK kvs)∧k = !kvs.isEmpty
 | _=>False
theorem isEmpty_kv {κ:Type}{kvs:List (κ × V)}{vs:List (κ × Value)} (r:KV kvs vs):(!vs.isEmpty) = !kvs.isEmpty:=by
 cases r <;> rfl
theorem isEmpty_of {xs:List V}{its:List Value} (r:Vals xs its):(!its.toArray.isEmpty) = !xs.isEmpty:=by
 cases r <;> simp
theorem line63:(sizeLine:Nat)<2 ^ 63:=by rw [sizeLine_eq];decide
theorem tru_ok:TruR X (fun x H Q=>∃ k,TruV X.K x H k∧Q k H):=by
 intro pins s σ H x v Q I rx h
 obtain ⟨k,e,q⟩:=h
 have hl:=line63
 have hs:sizeLine=16777216:=sizeLine_eq
 cases x with
 | non =>
  cases rx
  have e':k=false:=e
  subst e'
  exact truthy_none ⟨H,I,q⟩
 | bl b =>
  cases rx
  have e':k=b:=e
  subst e'
  exact wpAny_truthy_bool ⟨H,I,q⟩
 | int i =>
  obtain ⟨t,rfl⟩:=rx
  have e':k=(i != 0):=e
  subst e'
  exact PySem.P.truthy_int ⟨H,I,q⟩
 | str y =>
  obtain ⟨t,rfl⟩:=rx
  obtain ⟨hy,e'⟩:y.length≤sizeLine∧k=((y.length:Int) != 0):=e
  subst e'
  exact PySem.P.truthy_str (by omega) ⟨H,I.tok _,q⟩
 | byt y =>
  obtain ⟨t,rfl⟩:=rx
  obtain ⟨hy,e'⟩:y.size≤sizeLine∧k=((y.size:Int) != 0):=e
  subst e'
  exact PySem.W.truthy_bytes (by omega) ⟨H,I.tok _,q⟩
 | ref p =>
  cases rx
  have e':(∃ xs,SqL X.K H p xs∧k = !xs.isEmpty)∨(∃ xs,SqT X.K H p xs∧k = !xs.isEmpty)∨∃ kvs,H p=some (.dK kvs)∧k = !kvs.isEmpty:=e
  rcases e' with ⟨xs,hx,e'⟩ | ⟨xs,hx,e'⟩ | ⟨kvs,hx,e'⟩
  ·subst e'
   obtain ⟨its,r,pl,hz⟩:=I.list hx
   have hlen:=r.length
   exact wpAny_truthy_list pl.isList (by simp only [List.size_toArray];omega) ⟨H,I.tok _,by rw [isEmpty_of r];exact q⟩
  ·subst e'
   obtain ⟨its,r,pl,hz⟩:=I.tuple hx
   have hlen:=r.length
   exact truthy_tuple pl (by simp only [List.size_toArray];omega) ⟨H,I.tok _,by rw [isEmpty_of r];exact q⟩
  ·subst e'
   obtain ⟨hz,hS,vs,r,m⟩:kvs.length≤sizeLine∧(p == sysModules)=false∧∃ vs,KV kvs vs∧s.heap.DictOf (mixKind X.prog X.w) p vs:=I.hok p _ hx
   have hlen:kvs.length=vs.length:=Paired.length r
   exact wpAny_truthy_dict hS m (by omega) ⟨H,I.tok _,by rw [isEmpty_kv r];exact q⟩
 | _=>exact (show False from e).elim
theorem pt_truth (ha:PE X a ta) (he:∀ whole,isTrue a X.env whole=(do let v ← whole;standAt a.pos;holding [v] (truthy v))) :
  PT X a (fun σ H Q=>ta σ H fun x H'=>∃ k,TruV X.K x H' k∧Q k H'):=by
 intro pins s σ H Q I h
 exact isTrue_plain (thn (ha pins s σ H _ I h) fun v s1 ⟨x,H1,I1,r1,q1⟩=>tru_ok pins s1 σ H1 x v Q I1 r1 q1) (he _)
theorem op_add_str:OpR X (binaryOp .Add) (fun x y H Q=>∃ i j,x=.str i∧y=.str j∧i.length+j.length≤sizeLine∧Q (.str (i ++ j)) H):=by
 intro pins s σ H x y v u Q I rx ry h
 obtain ⟨i,j,rfl,rfl,hz,q⟩:=h
 obtain ⟨t,rfl⟩:=rx
 obtain ⟨t',rfl⟩:=ry
 exact add_str (fun t' tk=>⟨.str (i ++ j),H,I.tok _,⟨_,rfl⟩,q⟩) hz
theorem vals1 {x:V}{us:List Value} (r:Vals [x] us):∃ u,us=[u]∧RelV x u:=by
 cases r with
 | cons r1 r2=>cases r2;exact ⟨_,rfl,r1⟩
theorem vals2 {x y:V}{us:List Value} (r:Vals [x,y] us):∃ u w',us=[u,w']∧RelV x u∧RelV y w':=by
 cases r with
 | cons r1 r2 =>
  cases r2 with
  | cons r3 r4=>cases r4;exact ⟨_,_,rfl,r1,r3⟩
theorem call_min2 (hc:X.calm=true):CallR X (.builtin "min") (fun xs H Q=>∃ i j,xs=[.int i,.int j]∧Q (.int (if j<i then j else i)) H):=by
 intro pins s σ H xs us Q I r h
 obtain ⟨i,j,rfl,q⟩:=h
 obtain ⟨u,w',rfl,⟨t,rfl⟩,⟨t',rfl⟩⟩:=vals2 r
 refine min_two_ints (I.ok.hd hc) fun h' tk k=>⟨_,H,I.kept k,?_,q⟩
 by_cases hj:j<i
 ·rw [if_pos hj,if_pos hj];exact ⟨_,rfl⟩
 ·rw [if_neg hj,if_neg hj];exact ⟨_,rfl⟩
end
structure ObjM (h:Heap) (x dx C:Addr) (mA:Str→Option Value):Prop where
 obj:h.get? x=some (PySem.W.instObj C dx)
 ns:h.Ns1 dx mA
 ne:dx≠x
theorem lookIn_ns {h:Heap}{dx:Addr}{mA:Str→Option Value} (n:h.Ns1 dx mA):∃ od,h.get? dx=some od∧∀ name,PySem.W.lookIn name od=some (mA name):=by
 obtain ⟨o,es,ep,ho,hd,hk,_,hm⟩:=n
 refine ⟨o,ho,fun name=>?_⟩
 have e:=hm name
 unfold nsFind findBy at e
 rw [← Array.find?_toList] at e
 unfold PySem.W.lookIn
 rw [hd]
 dsimp only
 split
 ·rename_i y q
  rw [q] at e
  exact congrArg some e
 ·rename_i q
  rw [q] at e
  have a:es.toList.any (·.refKey)=false:=by
   rw [List.any_eq_false]
   intro y hy
   obtain ⟨z,t,hkey⟩:=hk y (Array.mem_toList_iff.mp hy)
   simp [DictEntry.refKey,hkey]
  have a':¬ es.toList.any (·.refKey)=true:=by rw [a];exact Bool.false_ne_true
  rw [if_neg a']
  exact congrArg some e
theorem ObjM.look {h:Heap}{x dx C:Addr}{mA:Str→Option Value} (I:ObjM h x dx C mA):∃ od,PySem.W.InstAt h x (PySem.W.instObj C dx) C (some od)∧∀ name,PySem.W.lookIn name od=some (mA name) :=
 let ⟨od,ho,hl⟩:=lookIn_ns I.ns
 ⟨od,⟨I.obj,rfl,rfl,ho⟩,hl⟩
section
variable {prog:Program}{w:World}{A:Around}{E:Value→Shared→Prop}{s:Shared}{K:PySem.W.Frag}{x dx C f:Addr}{mA:Str→Option Value}{name:Str}{v:Value}
theorem get_map {expr:Bool}{Q:Value→Shared→Prop} (X:K.In s.heap) (I:ObjM s.heap x dx C mA) (hg:PySem.W.plainGet K C name=true) (hh:PySem.W.hasDictIn K C=true)
  (ha:PySem.W.findIn K (.ref C) name=some none) (hv:mA name=some v) (hv':PySem.W.handedIn v=true) (h:Q v { s with toks:=s.toks+1 }) :
  wpAny (model prog w) A (getAttr (.ref x) name expr) Q E s:=by
 obtain ⟨od,J,hl⟩:=I.look
 exact PySem.W.get_value X J (PySem.W.plainGet_of hg).1 (PySem.W.findObj_own hh ha rfl (by rw [hl,hv])) hv' h
theorem get_meth {pl:Sem Bool}{Q:Value × List Value→Shared→Prop} (X:K.In s.heap) (I:ObjM s.heap x dx C mA) (hg:PySem.W.plainGet K C name=true)
  (hf:PySem.W.findIn K (.ref C) name=some (some (.ref f))) (ht:PySem.W.isFn K (.ref f)=true) (hv:mA name=none) (h:Q (.ref f,[.ref x]) s) :
  wpAny (model prog w) A (getMethod (.ref x) name pl) Q E s:=by
 obtain ⟨od,J,hl⟩:=I.look
 exact PySem.W.method_fn X J (PySem.W.plainGet_of hg).1 (PySem.W.plainGet_of hg).2 hf (beq_iff_eq.mp ht) (by show (PySem.W.lookIn name od).map (·.isSome)=some false;rw [hl,hv];rfl) h
theorem set_map {ns:List Str}{Q:Unit→Shared→Prop} (X:K.In s.heap) (I:ObjM s.heap x dx C mA)
  (hs:PySem.W.findIn K (.ref C) "__setattr__" = some (some (.builtin "object.__setattr__"))) (hp:PySem.W.plainOver K C=true) (ht:PySem.W.takerIn K C name=some none) (hh:PySem.W.hasDictIn K C=true)
  (hw:PySem.Within mA ns) (hsz:ns.length≤sizeLine)
  (h:∀ h',ObjM h' x dx C (fun y=>if y=name then some v else mA y)→Heap.SameBut dx s.heap h'→Q () { s with heap:=h',toks:=s.toks+2 }) :
  wpAny (model prog w) A (setAttr (.ref x) name v) Q E s:=by
 obtain ⟨od,J,hl⟩:=I.look
 refine PySem.W.set_plain X J hs (PySem.W.osa_open (s:={ s with toks:=s.toks+1 }) (r:=none) X J hp ht fun b=>?_)
 obtain ⟨cd,hc,hd'⟩:=PySem.W.any_some hh
 have hx:s.heap.get? x=some ⟨.ref C,some dx,.plain,#[]⟩:=I.obj
 refine wpAny_bind (wpAny_pure (wpAny_bind (wpAny_bind (wpAny_loadPart hx (wpAny_bind (PySem.W.Looks.here (s:={ s with toks:=s.toks+1 }) (PySem.W.looks_clsIn X hc) ?_))))))
 rw [hd']
 refine wpAny_pure (a:=some dx) (wpAny_bind (wpAny_pure (wpAny_bind ?_)))
 refine wpAny_nsSet1 (s:={ s with toks:=s.toks+1 }) I.ns fun h' hn2 hs2=>?_
 obtain ⟨oD,esD,epD,hoD,hdD,hcD⟩:=hn2.count (PySem.Within.cons name v hw)
 refine wpAny_bind (wpAny_lookBehind hoD (by rw [hdD];exact pastItsLine_dict (Nat.le_trans hcD (by rw [List.length_cons];omega))) ?_)
 exact wpAny_pure (h _ ⟨(hs2.2 _ (Ne.symm I.ne)).trans I.obj,hn2,I.ne⟩ hs2)
theorem make_map {R:Result→Shared→Prop}{vs:List Value}{kw:List (Str × Value)} (X:K.In s.heap) (hm:PySem.W.makesIn K C=true)
  (hi:PySem.W.findIn K (.ref C) "__init__" = some (some (.ref f))) (hf:PySem.W.typeIn K (.ref f)=some (.type "function"))
  (h:codeAny (model prog w) (A.under (.builtin "type.__call__" ⟨.ref C :: vs,kw⟩)) (.call (.ref f) ⟨.ref (s.heap.objs.size+1) :: vs,kw⟩) (PySem.W.InitBack (s.heap.objs.size+1) R)
   { s with heap:=(s.heap.push PySem.W.emptyDict).push (PySem.W.instObj C s.heap.objs.size) }) :
  codeAny (model prog w) A (.call (.ref C) ⟨vs,kw⟩) R s:=by
 obtain ⟨hh,g,d,t,os⟩:=s
 exact PySem.W.make_core (PySem.W.makes_of X hm) (PySem.W.looks_findIn X hi) (fun self=>PySem.W.bind_fn X self hf) (.inl rfl) h
end
def putF (f:Str) (v:V):List (Str × V)→List (Str × V)
 | []=>[(f,v)]
 | (g,x) :: r=>if g=f then (g,v) :: r else (g,x) :: putF f v r
theorem lookup_putF (f g:Str) (v:V):∀ fs:List (Str × V),(putF f v fs).lookup g=if g=f then some v else fs.lookup g
 | []=>by
  show List.lookup g [(f,v)]=_
  by_cases h:g=f
  ·have hb:(g == f)=true:=beq_iff_eq.mpr h
   simp only [List.lookup,hb,if_pos h]
  ·have hb:(g == f)=false:=beq_eq_false_iff_ne.mpr h
   simp only [List.lookup,hb,if_neg h]
 | (k,x) :: r=>by
  have ih:=lookup_putF f g v r
  rw [show putF f v ((k,x) :: r)=(if k=f then (k,v) :: r else (k,x) :: putF f v r) from rfl]
  by_cases hk:k=f
  ·rw [if_pos hk]
   by_cases h:g=k
   ·have hb:(g == k)=true:=beq_iff_eq.mpr h
    simp only [List.lookup,hb,if_pos (h.trans hk)]
   ·have hb:(g == k)=false:=beq_eq_false_iff_ne.mpr h
    simp only [List.lookup,hb,if_neg (fun e:g=f=>h (e.trans hk.symm))]
  ·rw [if_neg hk]
   by_cases h:g=k
   ·have hb:(g == k)=true:=beq_iff_eq.mpr h
    simp only [List.lookup,hb,if_neg (fun e:g=f=>hk (h.symm.trans e))]
   ·have hb:(g == k)=false:=beq_eq_false_iff_ne.mpr h
    simp only [List.lookup,hb]
    exact ih
theorem keys_putF (f:Str) (v:V):∀ fs:List (Str × V),f∈(putF f v fs).map (·.1)∧∀ g,g∈fs.map (·.1)→g∈(putF f v fs).map (·.1)
 | []=>⟨by simp [putF],fun g h=>by simp at h⟩
 | (k,x) :: r=>by
  obtain ⟨i1,i2⟩:=keys_putF f v r
  rw [show putF f v ((k,x) :: r)=(if k=f then (k,v) :: r else (k,x) :: putF f v r) from rfl]
  by_cases hk:k=f
  ·rw [if_pos hk]
   subst hk
   exact ⟨by simp,fun g h=>by simpa using h⟩
  ·rw [if_neg hk]
   refine ⟨?_,fun g h=>?_⟩
   ·rw [List.map_cons]
    exact List.mem_cons_of_mem _ i1
   ·rw [List.map_cons] at h ⊢
    rcases List.mem_cons.mp h with e | e
    ·exact List.mem_cons.mpr (.inl e)
    ·exact List.mem_cons_of_mem _ (i2 g e)
theorem length_putF (f:Str) (v:V):∀ fs:List (Str × V),(putF f v fs).length≤fs.length+1
 | []=>by simp [putF]
 | (k,x) :: r=>by
  have ih:=length_putF f v r
  rw [show putF f v ((k,x) :: r)=(if k=f then (k,v) :: r else (k,x) :: putF f v r) from rfl]
  by_cases hk:k=f
  ·rw [if_pos hk,List.length_cons,List.length_cons];omega
  ·rw [if_neg hk,List.length_cons,List.length_cons];omega
theorem RelO.some_of {v:V}{o:Option Value} (r:RelO (some v) o):∃ u,o=some u∧RelV v u:=by
 cases o with
 | none=>exact (show False from r).elim
 | some u=>exact ⟨u,rfl,r⟩
theorem RelO.none_of {o:Option Value} (r:RelO none o):o=none:=by
 cases o with
 | none=>rfl
 | some u=>exact (show False from r).elim
theorem handed_of {v:V}{u:Value} (r:RelV v u):PySem.W.handedIn u=true:=by
 cases v with
 | non=>cases (show u=Value.none from r);rfl
 | bl b=>cases (show u=Value.bool b from r);rfl
 | int i=>obtain ⟨t,e⟩:=(show ∃ t,u=Value.int i t from r);cases e;rfl
 | str x=>obtain ⟨t,e⟩:=(show ∃ t,u=Value.str x t from r);cases e;rfl
 | byt b=>obtain ⟨t,e⟩:=(show ∃ t,u=Value.bytes b t from r);cases e;rfl
 | flt b=>obtain ⟨t,e⟩:=(show ∃ t,u=Value.float b t from r);cases e;rfl
 | ref a=>cases (show u=Value.ref a from r);rfl
 | ty n=>cases (show u=Value.type n from r);rfl
section
variable {P:Program}{w:World}{H H':Hp}{h h':Heap}{a C dx:Addr}{fs fs':List (Str × V)}
theorem ins_get (hok:HOk P w H h) (e:H a=some (.ins C dx fs)):∃ mA,ObjM h a dx C mA∧(∀ f,RelO (fs.lookup f) (mA f))∧PySem.Within mA (fs.map (·.1))∧fs.length≤1000∧H dx=some (.own a):=by
 obtain ⟨d,z,ne,ob,mA,n,r,q⟩:=(show ObjOk P w H h a (.ins C dx fs) from hok a _ e)
 exact ⟨mA,⟨ob,n,ne⟩,r,q,z,d⟩
end
structure Cls (K:PySem.W.Frag) (C:Addr):Prop where
 pg:PySem.W.plainGet K C Str.empty=true
 hd:PySem.W.hasDictIn K C=true
 po:PySem.W.plainOver K C=true
 sa:PySem.W.findIn K (.ref C) "__setattr__" = some (some (.builtin "object.__setattr__"))
theorem Cls.get {K:PySem.W.Frag}{C:Addr} (c:Cls K C) (f:Str):PySem.W.plainGet K C f=true:=c.pg
def NoAttr (K:PySem.W.Frag) (C:Addr) (f:Str):Prop:=PySem.W.findIn K (.ref C) f=some none
theorem NoAttr.taker {K:PySem.W.Frag}{C:Addr}{f:Str} (n:NoAttr K C f):PySem.W.takerIn K C f=some none:=by
 unfold PySem.W.takerIn
 rw [show PySem.W.findIn K (.ref C) f=some none from n]
 rfl
structure Con (K:PySem.W.Frag) (C:Addr) (f:Str) (v:V) (u:Value):Prop where
 at_:PySem.W.findIn K (.ref C) f=some (some u)
 rel:RelV v u
 get:PySem.W.specialIn K u "__get__" = some none
 cp:PySem.W.copiedNames.contains f=false
structure Meth (K:PySem.W.Frag) (C:Addr) (m:Str) (f:Addr):Prop where
 at_:PySem.W.findIn K (.ref C) m=some (some (.ref f))
 fn:PySem.W.isFn K (.ref f)=true
 kp:PySem.W.keepIn K (.ref f)=true
section
variable {X:Cx}{pins:List (Addr × Obj)}{σ:St}{H:Hp}{s:Shared}{a C dx:Addr}{fs:List (Str × V)}{f:Str}{v:V}{A:Around}{E:Value→Shared→Prop}
theorem getattr_ok {b:Bool}{Q:Value→Shared→Prop} (I:Inv X pins σ H s) (e:H a=some (.ins C dx fs)) (c:Cls X.K C) (n:NoAttr X.K C f) (l:fs.lookup f=some v)
  (h:∀ u s',Inv X pins σ H s'→RelV v u→Q u s'):wpAny (model X.prog X.w) A (getAttr (.ref a) f b) Q E s:=by
 obtain ⟨mA,O,r,_,_,_⟩:=ins_get I.hok e
 obtain ⟨u,hu,ru⟩:=RelO.some_of (v:=v) (o:=mA f) (by rw [← l];exact r f)
 exact get_map I.kIn O (c.get f) c.hd n hu (handed_of ru) (h u _ (I.tok _) ru)
theorem getmeth_ok {m:Str}{g:Addr}{pl:Sem Bool}{Q:Value × List Value→Shared→Prop} (I:Inv X pins σ H s) (e:H a=some (.ins C dx fs)) (c:Cls X.K C) (k:Meth X.K C m g) (l:fs.lookup m=none)
  (h:Q (.ref g,[.ref a]) s):wpAny (model X.prog X.w) A (getMethod (.ref a) m pl) Q E s:=by
 obtain ⟨mA,O,r,_,_,_⟩:=ins_get I.hok e
 have hn:mA m=none:=RelO.none_of (by rw [← l];exact r m)
 exact get_meth I.kIn O (c.get m) k.at_ k.fn hn h
theorem setattr_ok {y:V}{u:Value}{Q:Unit→Shared→Prop} (I:Inv X pins σ H s) (e:H a=some (.ins C dx fs)) (c:Cls X.K C) (n:NoAttr X.K C f) (hl:fs.length<1000) (ry:RelV y u)
  (h:∀ s',Inv X pins σ (upd H a (.ins C dx (putF f y fs))) s'→Q () s'):wpAny (model X.prog X.w) A (setAttr (.ref a) f u) Q E s:=by
 obtain ⟨mA,O,r,wi,_,ho⟩:=ins_get I.hok e
 have hz:(fs.map (·.1)).length≤sizeLine:=by rw [List.length_map,sizeLine_eq];omega
 refine set_map I.kIn O c.sa c.po n.taker c.hd wi hz fun h' O' sb=>h _ ?_
 have hd:∃ o,h'.get? dx=some o:=let ⟨o,_,_,e',_⟩:=O'.ns;⟨o,e'⟩
 refine I.write (x:=a) (e:=dx) (by rw [e];exact True.intro) (.inr ho) (fun b q hb z=>(sb.2 b hb).trans z) hd ?_
 refine ⟨by rw [upd_ne O.ne];exact ho,?_,O.ne,O'.obj,_,O'.ns,fun g=>?_,fun g hg=>?_⟩
 ·have:=length_putF f y fs;omega
 ·show RelO ((putF f y fs).lookup g) (if g=f then some u else mA g)
  rw [lookup_putF]
  by_cases q:g=f
  ·rw [if_pos q,if_pos q];exact ry
  ·rw [if_neg q,if_neg q];exact r g
 ·by_cases q:g=f
  ·rw [q];exact (keys_putF f y fs).1
  ·refine (keys_putF f y fs).2 g (wi g fun z=>hg ?_)
   show (if g=f then some u else mA g)=none
   rw [if_neg q];exact z
theorem Inv.made (I:Inv X pins σ H s):Inv X pins σ (upd (upd H s.heap.objs.size (.own (s.heap.objs.size+1))) (s.heap.objs.size+1) (.ins C s.heap.objs.size []))
  { s with heap:=(s.heap.push PySem.W.emptyDict).push (PySem.W.instObj C s.heap.objs.size) }:=by
 have e1:(s.heap.push PySem.W.emptyDict).get? s.heap.objs.size=some PySem.W.emptyDict:=Heap.get?_push_size s.heap rfl
 have e2:((s.heap.push PySem.W.emptyDict).push (PySem.W.instObj C s.heap.objs.size)).get? (s.heap.objs.size+1)=some (PySem.W.instObj C s.heap.objs.size):=by
  have:=Heap.get?_push_size (s.heap.push PySem.W.emptyDict) (o:=PySem.W.instObj C s.heap.objs.size) rfl
  rwa [Heap.size_push] at this
 have e3:(s.heap.push PySem.W.emptyDict).Ns s.heap.objs.size (fun _=>none):=⟨PySem.W.emptyDict,#[],_,e1,rfl,(fun e he=>absurd he (by simp)),fun _=>rfl⟩
 have I1:=I.laid (a:=s.heap.objs.size) (o:=.own (s.heap.objs.size+1)) (h':=s.heap.push PySem.W.emptyDict) (t':=s.toks) (fun b u q=>Heap.get?_push_of_some _ q) (Nat.le_refl _) ⟨_,e1⟩
 refine I1.laid (a:=s.heap.objs.size+1) (o:=.ins C s.heap.objs.size []) (t':=s.toks) (fun b u q=>Heap.get?_push_of_some _ q) (Nat.le_of_eq (Heap.size_push _ _)) ?_
 have ne:s.heap.objs.size≠s.heap.objs.size+1:=Nat.ne_of_lt (Nat.lt_succ_self _)
 refine ⟨by rw [upd_ne ne,upd_same],Nat.zero_le _,ne,e2,fun _=>none,(Heap.Ns1.of_empty e3).at fun o q=>Heap.get?_push_of_some _ q,fun _=>True.intro,fun y hy=>absurd rfl hy⟩
theorem attr_of {prog:Program}{w:World}{env:Env}{e:Expr}{f:Str}{pos:Pos}{s:Shared}{Q:Value→Shared→Prop} (hb:attributeBase e f env (eval e env)=eval e env)
  (h:wpAny (model prog w) A (eval e env) (fun o s₁=>wpAny (model prog w) A (getAttr o f true) Q E s₁) E s):wpAny (model prog w) A (eval (.Attribute e f pos) env) Q E s :=
 Attribute_any_ h (by rw [arm_eval_Attribute,hb])
end
def tFld (K:PySem.W.Frag) (ta:TE) (f:Str):TE:=fun σ H Q=>ta σ H fun x H1=>∃ a C dx fs v,x=.ref a∧H1 a=some (.ins C dx fs)∧Cls K C∧NoAttr K C f∧fs.lookup f=some v∧Q v H1
def sFld (K:PySem.W.Frag) (ta tv:TE) (f:Str):TS:=fun D σ H=>tv σ H fun y H1=>ta σ H1 fun x H2=>∃ a C dx fs,x=.ref a∧H2 a=some (.ins C dx fs)∧Cls K C∧NoAttr K C f∧fs.length<1000 ∧
 D.nx σ (upd H2 a (.ins C dx (putF f y fs)))
section
variable {X:Cx}{o e value:Expr}{f:Str}{pos pos' tpos:Pos}{ta tv:TE}
theorem pe_fld (he:PE X e ta) (hb:attributeBase e f X.env (eval e X.env)=eval e X.env):PE X (.Attribute e f pos) (tFld X.K ta f):=by
 intro pins s σ H Q I h
 refine attr_of hb (thn (he pins s σ H _ I h) fun u s1 ⟨x,H1,I1,rx,a,C,dx,fs,v,ex,ea,c,n,l,q⟩=>?_)
 subst ex
 obtain rfl:u=Value.ref a:=rx
 exact getattr_ok I1 ea c n l fun u' s2 I2 ru=>⟨v,H1,I2,ru,q⟩
theorem ps_fld (ha:PE X o ta) (hv:PE X value tv) (hs:swapsWith value (some (.Attribute o f pos')) pos.line X.env=pure false):PS X (.Assign [.Attribute o f pos'] value pos) (sFld X.K ta tv f):=by
 intro pins s σ H D I h
 refine plainObj_wpAny_Assign_Attribute (thn (hv pins s σ H _ I h) fun u s1 ⟨y,H1,I1,ry,q⟩=>thn (ha pins s1 σ H1 _ I1 q) fun ov s2 ⟨x,H2,I2,rx,a,C,dx,fs,ex,ea,c,n,l,q2⟩=>?_) hs
 subst ex
 obtain rfl:ov=Value.ref a:=rx
 exact setattr_ok I2 ea c n l ry fun s3 I3=>⟨σ,_,I3,q2⟩
theorem methcall_of {pl:Sem Bool}{m:Str}{apos:Pos}{args:List Expr}{pins:List (Addr × Obj)}{s:Shared}{σ:St}{H:Hp}{Q:Value→Shared→Prop}{te:TE} (he:PE X e te) (I:Inv X pins σ H s)
  (h:te σ H fun x H1=>∃ a C dx fs g,x=.ref a∧H1 a=some (.ins C dx fs)∧Cls X.K C∧Meth X.K C m g∧fs.lookup m=none ∧
   ∀ s1,Inv X pins σ H1 s1→wpAny (model X.prog X.w) X.A (callWith pos (.ref g) [.ref a] (backTo pos (starEach args X.env)) (backToKw pos (keywordEach [] X.env))) Q X.xe s1)
  (ht:eval (.Call (.Attribute e m apos) args [] pos) X.env=(do
   let ov ← eval e X.env
   standAt apos.atName
   let (f,first) ← holding [ov] (getMethod ov m pl)
   callWith pos f first (backTo pos (starEach args X.env)) (backToKw pos (keywordEach [] X.env)))) :
  wpAny (model X.prog X.w) X.A (eval (.Call (.Attribute e m apos) args [] pos) X.env) Q X.xe s:=by
 refine PySem.W.methodCall_KW (pl:=pl) (thn (he pins s σ H _ I h) fun u s1 ⟨x,H1,I1,rx,a,C,dx,fs,g,ex,ea,c,k,l,q⟩=>?_) ht
 subst ex
 obtain rfl:u=Value.ref a:=rx
 exact getmeth_ok I1 ea c k l (q s1 I1)
end
section
variable {X:Cx}{pins:List (Addr × Obj)}{σ:St}{H:Hp}{s:Shared}{A:Around}{E:Value→Shared→Prop}{Q:Value→Shared→Prop}{c:Value}{b:Bool}
inductive TyOf (K:PySem.W.Frag) (H:Hp):V→Value→Prop where
 | non:TyOf K H .non (.type "NoneType")
 | bl (x:Bool):TyOf K H (.bl x) (.type "bool")
 | int (i:Int):TyOf K H (.int i) (.type "int")
 | str (x:Str):TyOf K H (.str x) (.type "str")
 | flt (x:UInt64):TyOf K H (.flt x) (.type "float")
 | lst {a:Addr}{xs:List V} (e:H a=some (.lst xs)):TyOf K H (.ref a) (.type "list")
 | frz {a:Addr}{o:Obj}{xs:List V} (e:H a=some (.frz o (.lst xs))):TyOf K H (.ref a) (.type "list")
 | tup {a:Addr}{xs:List V} (e:H a=some (.tup xs)):TyOf K H (.ref a) (.type "tuple")
 | dK {a:Addr}{kvs:List (Key × V)} (e:H a=some (.dK kvs)):TyOf K H (.ref a) (.type "dict")
 | dT {a:Addr}{kvs:List (List Key × V)} (e:H a=some (.dT kvs)):TyOf K H (.ref a) (.type "dict")
 | ins {a C dx:Addr}{fs:List (Str × V)} (e:H a=some (.ins C dx fs)) (cl:Cls K C) (ha:PySem.W.findIn K (.ref C) "__class__" = some (some (.builtin "object.__class__")))
   (hn:PySem.W.specialIn K (.builtin "object.__class__") "__get__" = some (some (.builtin "getset_descriptor.__get__"))) (htk:PySem.W.takesIn K (.builtin "object.__class__")=some true)
   (hm:PySem.W.mroIn K C (.type "object")=some true):TyOf K H (.ref a) (.ref C)
theorem isinst_ok {x:V}{u t:Value} (I:Inv X pins σ H s) (rx:RelV x u) (ty:TyOf X.K H x t) (e:PySem.W.kitOne X.K t c=some b) (h:∀ tk,Q (.bool b) { s with toks:=tk }) :
  wpAny (model X.prog X.w) A (call (.builtin "isinstance") [u,c]) Q E s:=by
 cases ty with
 | non=>cases (show u=Value.none from rx);exact PySem.W.kia_one PySem.W.kitx_none I.kIn True.intro e (fun z=>nomatch z) h
 | bl y=>cases (show u=Value.bool y from rx);exact PySem.W.kia_one PySem.W.kitx_bool I.kIn True.intro e (fun z=>nomatch z) h
 | int i=>obtain ⟨t,q⟩:=(show ∃ t,u=Value.int i t from rx);cases q;exact PySem.W.kia_one PySem.W.kitx_int I.kIn True.intro e (fun z=>nomatch z) h
 | str y=>obtain ⟨t,q⟩:=(show ∃ t,u=Value.str y t from rx);cases q;exact PySem.W.kia_one PySem.W.kitx_str I.kIn True.intro e (fun z=>nomatch z) h
 | flt y=>obtain ⟨t,q⟩:=(show ∃ t,u=Value.float y t from rx);cases q;exact PySem.W.kia_one PySem.W.kitx_float I.kIn True.intro e (fun z=>nomatch z) h
 | @lst a xs ea =>
  cases (show u=Value.ref a from rx)
  obtain ⟨_,_,n,_,h1⟩:=(show ObjOk X.prog X.w H s.heap a (.lst xs) from I.hok a _ ea)
  exact PySem.W.kia_one PySem.W.kitx_list I.kIn ⟨_,h1,rfl⟩ e (fun z=>nomatch z) h
 | @frz a ob xs ea =>
  cases (show u=Value.ref a from rx)
  obtain ⟨_,_,_,n,_,h1⟩:=(show ObjOk X.prog X.w H s.heap a (.frz ob (.lst xs)) from I.hok a _ ea)
  exact PySem.W.kia_one PySem.W.kitx_list I.kIn ⟨_,h1,rfl⟩ e (fun z=>nomatch z) h
 | @tup a xs ea =>
  cases (show u=Value.ref a from rx)
  obtain ⟨_,_,_,p⟩:=(show ObjOk X.prog X.w H s.heap a (.tup xs) from I.hok a _ ea)
  obtain ⟨o,h1,h2,_⟩:=p
  exact PySem.W.kia_one PySem.W.kitx_tuple I.kIn ⟨o,h1,h2⟩ e (fun z=>nomatch z) h
 | @dK a kvs ea =>
  cases (show u=Value.ref a from rx)
  obtain ⟨_,_,vs,_,p⟩:=(show ObjOk X.prog X.w H s.heap a (.dK kvs) from I.hok a _ ea)
  obtain ⟨o,es,ep,h1,h2,_⟩:=p
  exact PySem.W.kia_one PySem.W.kitx_dict I.kIn ⟨o,h1,h2.1⟩ e (fun z=>nomatch z) h
 | @dT a kvs ea =>
  cases (show u=Value.ref a from rx)
  obtain ⟨_,_,xs,_,o,es,ep,h1,h2,_⟩:=(show ObjOk X.prog X.w H s.heap a (.dT kvs) from I.hok a _ ea)
  exact PySem.W.kia_one PySem.W.kitx_dict I.kIn ⟨o,h1,h2.1⟩ e (fun z=>nomatch z) h
 | @ins a C dx fs ea cl ha hn htk hm =>
  cases (show u=Value.ref a from rx)
  obtain ⟨mA,O,_⟩:=ins_get I.hok ea
  obtain ⟨od,J,_⟩:=O.look
  exact PySem.W.kia_one (PySem.W.kitx_own (cl.get _) cl.hd ha hn htk hm) I.kIn J e (fun z=>nomatch z) h
end
structure Room (k:Nat) (A:Around):Prop where
 hd:A.handled=none
 dp:A.depth+3 * k+5<recursionLimit
 un:A.units+16 * k+200<cLine
theorem Room.mono {j k:Nat}{A:Around} (r:Room k A) (h:j≤k):Room j A:=⟨r.hd,by have:=r.dp;omega,by have:=r.un;omega⟩
theorem Room.deeper {k:Nat}{A:Around} (r:Room (k+1) A) (env:Env):Room k (A.deeper env) :=
 ⟨r.hd,by have:=r.dp;show A.depth+1+3 * k+5<_;omega,by have:=r.un;show A.units+3+16 * k+200<_;omega⟩
theorem Room.in1 {k:Nat}{A:Around} (r:Room (k+1) A):Room k A.in1 :=
 ⟨r.hd,by have:=r.dp;show A.depth+3 * k+5<_;omega,by have:=r.un;show A.units+1+16 * k+200<_;omega⟩
theorem make_depth {A:Around}{C:Addr}{us:List Value}{kw:List (Str × Value)}:(A.under (.builtin "type.__call__" ⟨.ref C :: us,kw⟩)).depth=A.depth+1:=by
 first | rfl | simp [Around.under,Code.weight,Code.isCreation,Code.isGuard,Code.isCaller,Code.frames,Code.isFrame,guardIds]
theorem make_units {A:Around}{C:Addr}{us:List Value}{kw:List (Str × Value)}:(A.under (.builtin "type.__call__" ⟨.ref C :: us,kw⟩)).units=A.units+1:=by
 first | rfl | simp [Around.under,Code.cUnits,Code.frames,Code.isFrame]
theorem Room.make {k:Nat}{A:Around} (r:Room (k+1) A) (C:Addr) (us:List Value) (kw:List (Str × Value)):Room k (A.under (.builtin "type.__call__" ⟨.ref C :: us,kw⟩)) :=
 ⟨r.hd,by have:=r.dp;rw [make_depth];omega,by have:=r.un;rw [make_units];omega⟩
theorem Room.depth {k:Nat}{A:Around} (r:Room k A):A.depth<recursionLimit:=by have:=r.dp;omega
theorem Room.units {k:Nat}{A:Around} (r:Room k A):A.units+64<cLine:=by have:=r.un;omega
def tNil:TA:=fun _ H Q=>Q [] H
def tCons (ta:TE) (tr:TA):TA:=fun σ H Q=>ta σ H fun x H1=>tr σ H1 fun xs H2=>Q (x :: xs) H2
section
variable {X:Cx}{e:Expr}{es:List Expr}{te:TE}{t:TA}{pos:Pos}
theorem pa_nil:PA X [] tNil:=fun _ _ _ _ H Q I h=>Calls.spliced_nil ⟨[],H,I,.nil,h⟩
theorem pa_cons (ha:PE X e te) (hr:PA X es t) (hs:starEach (e :: es) X.env=(false,eval e X.env) :: starEach es X.env:=by rfl):PA X (e :: es) (tCons te t):=by
 intro pos pins s σ H Q I h
 rw [hs]
 show wpAny _ _ (spliced ((false,eval e X.env) :: backTo pos (starEach es X.env))) _ _ s
 refine Calls.spliced_cons (thn (ha pins s σ H _ I h) fun u s1 ⟨x,H1,I1,r1,q1⟩=>?_)
 exact thn (hr pos pins s1 σ H1 _ I1 q1) fun us s2 ⟨xs,H2,I2,r2,q2⟩=>⟨x :: xs,H2,I2,.cons r1 r2,q2⟩
def tTup (t:TA):TE:=fun σ H Q=>t σ H fun xs H1=>xs.length≤sizeLine∧∀ p,H1 p=none→Q (.ref p) (upd H1 p (.tup xs))
def tLst (t:TA):TE:=fun σ H Q=>t σ H fun xs H1=>xs.length≤sizeLine∧∀ p,H1 p=none→Q (.ref p) (upd H1 p (.lst xs))
theorem pe_tup {x1} (h:PA X es t):PE X (.Tuple es x1 pos) (tTup t):=by
 intro pins s σ H Q I hq
 refine wpAny_Tuple_spliced (thn (h pos pins s σ H _ I hq) fun us s1 ⟨xs,H1,I1,r,z,q⟩=>⟨by rw [← r.length];exact z,?_⟩)
 have hf:H1 s1.heap.objs.size=none:=I1.hok.fresh (Nat.le_refl _)
 refine ⟨.ref s1.heap.objs.size,upd H1 s1.heap.objs.size (.tup xs),I1.laid (t':=s1.toks) (fun b u e=>Heap.get?_push_of_some _ e) (Nat.le_refl _) ?_,rfl,q _ hf⟩
 exact ⟨z,us,r,⟨_,Heap.get?_push_size _ rfl,rfl,_,rfl⟩⟩
theorem pe_lst (h:PA X es t):PE X (.List es pos) (tLst t):=by
 intro pins s σ H Q I hq
 refine wpAny_List_spliced (thn (h pos pins s σ H _ I hq) fun us s1 ⟨xs,H1,I1,r,z,q⟩=>⟨by rw [← r.length];exact z,?_⟩)
 have hf:H1 s1.heap.objs.size=none:=I1.hok.fresh (Nat.le_refl _)
 refine ⟨.ref s1.heap.objs.size,upd H1 s1.heap.objs.size (.lst xs),I1.laid (t':=s1.toks) (fun b u e=>Heap.get?_push_of_some _ e) (Nat.le_refl _) ?_,rfl,q _ hf⟩
 exact ⟨z,us,0,r,Heap.get?_push_size _ rfl⟩
end
abbrev Sp:=List V→Hp→VK→XK→Prop
abbrev CXT:=List Env→Hp→Shared→XK→Value→Shared→Prop
structure Env0 (P:Program) (w:World) (K:PySem.W.Frag) (mg:Str→Option Value) (base:Heap) (A:Around) (outer:List Env) (s:Shared) (H:Hp):Prop where
 frames:A.frames=some outer
 mod:Mod K mg base
 bs:∀ b o,base.get? b=some o→s.heap.get? b=some o∧H b=none
 bsz:base.objs.size≤s.heap.objs.size
 funs:s.heap.FunFrames base outer
 frf:∀ b∈frs outer,H b=none
 hok:HOk P w H s.heap
 bare:AllBare s.gens
def CE (outer:List Env) (P:Program) (w:World) (H:Hp) (s:Shared) (Q:VK) (u:Value) (s':Shared):Prop :=
 ∃ v H',s'.os=s.os∧AllBare s'.gens∧Un (frs outer) [] H H' s.heap s'.heap∧HOk P w H' s'.heap∧RelV v u∧Q v H'
def CR (CX:CXT) (outer:List Env) (P:Program) (w:World) (H:Hp) (s:Shared) (Q:VK) (E:XK) (r:Result) (s':Shared):Prop :=
 match r with
 | .ok (.ret u)=>CE outer P w H s Q u s'
 | .ok _=>False
 | .error e=>CX outer H s E e s'
structure FnOk (P:Program) (w:World) (K:PySem.W.Frag) (mg:Str→Option Value) (base:Heap) (CX:CXT) (k:Nat) (f:Addr) (fd:FuncData) (ps:List Str) (sp:Sp):Prop where
 len:∀ vs H Q E,sp vs H Q E→vs.length=ps.length
 run:∀ (A:Around) (outer:List Env) (s:Shared) (H:Hp) (args:Args) (us:List Value) (vs:List V) (Q:VK) (E:XK),Room k A→Env0 P w K mg base A outer s H→BindsTo s fd args (ps.zip us)→Vals vs us→sp vs H Q E →
  codeAny (model P w) A (.call (.ref f) args) (CR CX outer P w H s Q E) s
theorem Env0.make {P:Program}{w:World}{K:PySem.W.Frag}{mg:Str→Option Value}{base:Heap}{A:Around}{outer:List Env}{s:Shared}{H:Hp} (e:Env0 P w K mg base A outer s H) (C:Addr) (us:List Value) (kw:List (Str × Value)) :
  Env0 P w K mg base (A.under (.builtin "type.__call__" ⟨.ref C :: us,kw⟩)) outer s H:=⟨by first | exact e.frames | (simpa [Around.under,Code.envs,Code.isFrame,pushEnvs] using e.frames),e.mod,e.bs,e.bsz,e.funs,e.frf,e.hok,e.bare⟩
theorem Env0.in1 {P:Program}{w:World}{K:PySem.W.Frag}{mg:Str→Option Value}{base:Heap}{A:Around}{outer:List Env}{s:Shared}{H:Hp} (e:Env0 P w K mg base A outer s H) :
  Env0 P w K mg base A.in1 outer s H:=⟨e.frames,e.mod,e.bs,e.bsz,e.funs,e.frf,e.hok,e.bare⟩
section
variable {X:Cx}{pins:List (Addr × Obj)}{σ:St}{H:Hp}{s s':Shared}
theorem Inv.env0 (I:Inv X pins σ H s):Env0 X.prog X.w X.K X.mg X.base X.A X.stack s H :=
 ⟨I.ok.frames,I.ok.mod,I.bs,Nat.le_trans I.ok.bsz I.sz,I.stack,I.stkFree,I.hok,I.bare⟩
theorem Inv.after {Q:VK}{u:Value} (I:Inv X pins σ H s) (h:CE X.stack X.prog X.w H s Q u s'):EP X pins σ Q u s':=by
 obtain ⟨v,H',os,bare,un,hok,r,q⟩:=h
 obtain ⟨hh,g,d,t,os'⟩:=s'
 obtain rfl:os'=s.os:=os
 exact ⟨v,H',I.call (h':=hh) (g':=g) (d':=d) (t':=t) (ch:=[]) un hok bare (fun b z=>absurd z (by simp)),r,q⟩
end
def tCall (sp:Sp) (dvs:List V) (E:XK) (t:TA):TE:=fun σ H Q=>t σ H fun vs H1=>sp (vs ++ dvs) H1 Q E
def tMeth (C:Addr) (m:Str) (sp:Sp) (dvs:List V) (E:XK) (ta:TE) (t:TA):TE:=fun σ H Q=>ta σ H fun x H1=>∃ a dx fs,x=.ref a∧H1 a=some (.ins C dx fs)∧fs.lookup m=none ∧
 t σ H1 fun vs H2=>sp (x :: (vs ++ dvs)) H2 Q E
def tMake (C:Addr) (sp:Sp) (dvs:List V) (E:XK) (t:TA):TE:=fun σ H Q=>t σ H fun vs H1=>∀ x dx,H1 x=none→H1 dx=none→dx≠x →
 sp (.ref x :: (vs ++ dvs)) (upd (upd H1 dx (.own x)) x (.ins C dx [])) (fun v H2=>v=.non∧Q (.ref x) H2) E
def Binds (K:PySem.W.Frag) (fd:FuncData) (ps:List Str) (ds:List Value):Prop :=
 ∀ (s:Shared) (us:List Value),K.In s.heap→(us ++ ds).length=ps.length→BindsTo s fd ⟨us,[]⟩ (ps.zip (us ++ ds))
theorem Binds.all {K:PySem.W.Frag}{fd:FuncData}{ps:List Str} (h:∀ us:List Value,us.length=ps.length→bindArgs fd ⟨us,[]⟩=pure (ps.zip us)):Binds K fd ps []:=fun s us _ hl=>by
 rw [List.append_nil] at hl ⊢
 exact .of_eq (h us hl)
def Passes (CX:CXT) (X:Cx) (E:XK):Prop:=∀ (pins:List (Addr × Obj)) (σ:St) (H:Hp) (s:Shared) (e:Value) (s':Shared),Inv X pins σ H s→CX X.stack H s E e s'→X.xe e s'
section
variable {X:Cx}{CX:CXT}{k:Nat}{f C:Addr}{fd:FuncData}{ps:List Str}{sp:Sp}{dvs:List V}{ds:List Value}{E:XK}{x m:Str}{p pos apos:Pos}{e o:Expr}{es:List Expr}{ta:TE}{t:TA}
theorem run_fn {pins:List (Addr × Obj)}{σ:St}{H:Hp}{s:Shared}{Q:VK}{us:List Value}{vs:List V} (F:FnOk X.prog X.w X.K X.mg X.base CX k f fd ps sp) (hr:Room k X.A) (hb:Binds X.K fd ps ds) (hd:Vals dvs ds) (hx:Passes CX X E)
  (I:Inv X pins σ H s) (r:Vals vs us) (h:sp (vs ++ dvs) H Q E):wpAny (model X.prog X.w) X.A (call (.ref f) us) (EP X pins σ Q) X.xe s:=by
 have r2:Vals (vs ++ dvs) (us ++ ds):=r.append hd
 have hl:(us ++ ds).length=ps.length:=by rw [← r2.length];exact F.len _ _ _ _ h
 refine wpAny_call (codeAny_mono (F.run X.A X.stack s H ⟨us,[]⟩ (us ++ ds) (vs ++ dvs) Q E hr I.env0 (hb s us I.kIn hl) r2 h) fun r s' hq=>?_)
 cases r with
 | error e=>exact hx pins σ H s e s' I hq
 | ok fl =>
  cases fl with
  | ret u=>exact I.after hq
  | next=>exact False.elim hq
  | brk=>exact False.elim hq
  | cont=>exact False.elim hq
theorem pe_call (F:FnOk X.prog X.w X.K X.mg X.base CX k f fd ps sp) (hr:Room k X.A) (hg:Gl X x) (hm:X.mg x=some (.ref f)) (hk:PySem.W.keepIn X.K (.ref f)=true) (hb:Binds X.K fd ps ds) (hd:Vals dvs ds) (hx:Passes CX X E)
  (ha:PA X (e :: es) t) (hdb:(x == ("__debug__" : Str))=false:=by decide) (he:starEach (e :: es) X.env=(false,eval e X.env) :: starEach es X.env:=by rfl) (hpl:(backTo pos (starEach es X.env)).any (·.1)=false:=by rfl) :
  PE X (.Call (.Name x p) (e :: es) [] pos) (tCall sp dvs E t):=by
 intro pins s σ H Q I h
 refine wpAny_Call_Name_kw (ld_glob I hg hm ?_ hdb)
 refine PySem.W.callWith_K (h₀:=X.base) I.ok.mod.kin hk (thn (ha pos pins s σ H _ I h) fun us s1 ⟨vs,H1,I1,r,q⟩=>⟨I1.kIn,?_⟩) he hpl
 exact run_fn F hr hb hd hx I1 r q
theorem pe_meth0 {pl:Sem Bool} (he:PE X o ta) (c:Cls X.K C) (hm:Meth X.K C m f) (F:FnOk X.prog X.w X.K X.mg X.base CX k f fd ps sp) (hr:Room k X.A) (hb:Binds X.K fd ps ds) (hd:Vals dvs ds) (hx:Passes CX X E)
  (ht:eval (.Call (.Attribute o m apos) [] [] pos) X.env=(do
   let ov ← eval o X.env
   standAt apos.atName
   let (f,first) ← holding [ov] (getMethod ov m pl)
   callWith pos f first (backTo pos (starEach [] X.env)) (backToKw pos (keywordEach [] X.env))):=by rfl) :
  PE X (.Call (.Attribute o m apos) [] [] pos) (tMeth C m sp dvs E ta tNil):=by
 intro pins s σ H Q I h
 refine PySem.W.methodCall_KW (pl:=pl) (thn (he pins s σ H _ I h) fun u s1 ⟨x,H1,I1,rx,a,dx,fs,ex,ea,l,q⟩=>?_) ht
 subst ex
 obtain rfl:u=Value.ref a:=rx
 refine getmeth_ok I1 ea c hm l ?_
 exact PySem.W.callWith_K0 (first:=[.ref a]) I1.kIn hm.kp (run_fn (us:=[.ref a]) (vs:=[.ref a]) F hr hb hd hx I1 (.cons rfl .nil) q)
structure Mk (K:PySem.W.Frag) (C f:Addr):Prop where
 makes:PySem.W.makesIn K C=true
 init:PySem.W.findIn K (.ref C) "__init__" = some (some (.ref f))
 fn:PySem.W.isFn K (.ref f)=true
 kp:PySem.W.keepIn K (.ref C)=true
theorem run_make {pins:List (Addr × Obj)}{σ:St}{H:Hp}{s:Shared}{Q:VK}{us:List Value}{vs:List V} (M:Mk X.K C f) (F:FnOk X.prog X.w X.K X.mg X.base CX k f fd ps sp) (hr:Room (k+1) X.A) (hb:Binds X.K fd ps ds) (hd:Vals dvs ds)
  (hx:Passes CX X E) (I:Inv X pins σ H s) (r:Vals vs us)
  (h:∀ x dx,H x=none→H dx=none→dx≠x→sp (.ref x :: (vs ++ dvs)) (upd (upd H dx (.own x)) x (.ins C dx [])) (fun v H2=>v=.non∧Q (.ref x) H2) E) :
  wpAny (model X.prog X.w) X.A (call (.ref C) us) (EP X pins σ Q) X.xe s:=by
 have hq:=h (s.heap.objs.size+1) s.heap.objs.size (I.hok.fresh (Nat.le_succ _)) (I.hok.fresh (Nat.le_refl _)) (Nat.ne_of_lt (Nat.lt_succ_self _))
 have I2:=Inv.made (C:=C) I
 have r2:Vals (V.ref (s.heap.objs.size+1) :: (vs ++ dvs)) (Value.ref (s.heap.objs.size+1) :: (us ++ ds)):=.cons rfl (r.append hd)
 have hl:(Value.ref (s.heap.objs.size+1) :: us ++ ds).length=ps.length:=by
  have e:=r2.length
  rw [F.len _ _ _ _ hq] at e
  exact e.symm
 refine wpAny_call (make_map (f:=f) I.kIn M.makes M.init (beq_iff_eq.mp M.fn) (codeAny_mono (F.run _ X.stack _ _ ⟨Value.ref (s.heap.objs.size+1) :: us,[]⟩ (Value.ref (s.heap.objs.size+1) :: (us ++ ds)) _ _ E (hr.make C us [])
  (I2.env0.make C us []) (hb _ (Value.ref (s.heap.objs.size+1) :: us) I2.kIn hl) r2 hq) fun r s' hq'=>?_))
 cases r with
 | error e=>exact hx pins σ _ _ e s' I2 hq'
 | ok fl =>
  cases fl with
  | ret u =>
   obtain ⟨v,H',I3,rv,ev,q3⟩:=I2.after hq'
   subst ev
   exact ⟨rv,⟨V.ref (s.heap.objs.size+1),H',I3,rfl,q3⟩⟩
  | next=>exact False.elim hq'
  | brk=>exact False.elim hq'
  | cont=>exact False.elim hq'
theorem pe_make (M:Mk X.K C f) (F:FnOk X.prog X.w X.K X.mg X.base CX k f fd ps sp) (hr:Room (k+1) X.A) (hg:Gl X x) (hm:X.mg x=some (.ref C)) (hb:Binds X.K fd ps ds) (hd:Vals dvs ds) (hx:Passes CX X E)
  (ha:PA X (e :: es) t) (hdb:(x == ("__debug__" : Str))=false:=by decide) (he:starEach (e :: es) X.env=(false,eval e X.env) :: starEach es X.env:=by rfl) (hpl:(backTo pos (starEach es X.env)).any (·.1)=false:=by rfl) :
  PE X (.Call (.Name x p) (e :: es) [] pos) (tMake C sp dvs E t):=by
 intro pins s σ H Q I h
 refine wpAny_Call_Name_kw (ld_glob I hg hm ?_ hdb)
 refine PySem.W.callWith_K (h₀:=X.base) I.ok.mod.kin M.kp (thn (ha pos pins s σ H _ I h) fun us s1 ⟨vs,H1,I1,r,q⟩=>⟨I1.kIn,?_⟩) he hpl
 exact run_make M F hr hb hd hx I1 r q
end
def PK (X:Cx) (kws:List Keyword) (t:TA):Prop :=
 ∀ (pos:Pos) (pins:List (Addr × Obj)) (s:Shared) (σ:St) (H:Hp) (Q:List V→Hp→Prop),Inv X pins σ H s→t σ H Q→wpAny (model X.prog X.w) X.A (evalAll ((backToKw pos (keywordEach kws X.env)).map (·.2))) (AP X pins σ Q) X.xe s
section
variable {X:Cx}{CX:CXT}{k:Nat}{f C:Addr}{fd:FuncData}{ps ks:List Str}{sp:Sp}{E:XK}{x m:Str}{p pos apos kpos:Pos}{e o:Expr}{es:List Expr}{kws:List Keyword}{te ta:TE}{t tk:TA}{nm:Option Str}
structure KBinds (K:PySem.W.Frag) (fd:FuncData) (ps ks:List Str) (g:List Value→List Value→List Value) (gV:List V→List V→List V):Prop where
 to:∀ (s:Shared) (us ws:List Value),K.In s.heap→(g us ws).length=ps.length→BindsTo s fd ⟨us,ks.zip ws⟩ (ps.zip (g us ws))
 rel:∀ {vs:List V}{us:List Value}{zs:List V}{ws:List Value},Vals vs us→Vals zs ws→Vals (gV vs zs) (g us ws)
variable {g:List Value→List Value→List Value}{gV:List V→List V→List V}
end
structure FnScope (N P:List Str) (sc:Scope):Prop where
 kind:sc.kind=.function
 co:sc.isCoroutine=false
 gen:sc.isGenerator=false
 nd:N.Nodup
 pre:N.take P.length=P
 par:∀ x∈P,sc.names.lookup x=some .local∨sc.names.lookup x=some .cell
 nofree:∀ y∈sc.names,y.2≠.free
theorem bindL_out {kindOf:Str→Option NameKind}{x:Str}:∀ {binds:List (Str × Value)}{m:Str→Option Value},(∀ v,(x,v) ∉ binds)→bindL kindOf binds m x=m x
 | [],_,_=>rfl
 | (n,v) :: r,m,h=>by
  unfold bindL
  rw [bindL_out fun w hw=>h w (List.mem_cons_of_mem _ hw)]
  split
  ·have:x≠n:=by rintro rfl;exact h v List.mem_cons_self
   simp [this]
  ·rfl
theorem bindC_out {kindOf:Str→Option NameKind}{x:Str}:∀ {binds:List (Str × Value)}{m:Str→Option Value},(∀ v,(x,v) ∉ binds)→bindC kindOf binds m x=m x
 | [],_,_=>rfl
 | (n,v) :: r,m,h=>by
  unfold bindC
  rw [bindC_out fun w hw=>h w (List.mem_cons_of_mem _ hw)]
  split
  ·rfl
  ·have:x≠n:=by rintro rfl;exact h v List.mem_cons_self
   simp [this]
theorem bindL_get {kindOf:Str→Option NameKind}{x:Str}{v:Value}:∀ {P:List Str}{vs:List Value}{i:Nat}{m:Str→Option Value},P.Nodup→P[i]? = some x→vs[i]? = some v→kindOf x=some .local →
  bindL kindOf (P.zip vs) m x=some v
 | [],_,_,_,_,h,_,_=>by simp at h
 | _ :: _,[],_,_,_,_,h,_=>by simp at h
 | p :: P,w :: vs,0,m,nd,h1,h2,hk=>by
  simp at h1 h2;subst h1;subst h2
  show bindL kindOf ((p,w) :: P.zip vs) m p=_
  unfold bindL
  rw [bindL_out fun v hv=>(List.nodup_cons.mp nd).1 (List.of_mem_zip hv).1,if_pos hk]
  simp
 | p :: P,w :: vs,i+1,m,nd,h1,h2,hk=>by
  show bindL kindOf ((p,w) :: P.zip vs) m x=_
  unfold bindL
  exact bindL_get (i:=i) (List.nodup_cons.mp nd).2 (by simpa using h1) (by simpa using h2) hk
theorem bindC_get {kindOf:Str→Option NameKind}{x:Str}{v:Value}:∀ {P:List Str}{vs:List Value}{i:Nat}{m:Str→Option Value},P.Nodup→P[i]? = some x→vs[i]? = some v→kindOf x≠some .local →
  bindC kindOf (P.zip vs) m x=some v
 | [],_,_,_,_,h,_,_=>by simp at h
 | _ :: _,[],_,_,_,_,h,_=>by simp at h
 | p :: P,w :: vs,0,m,nd,h1,h2,hk=>by
  simp at h1 h2;subst h1;subst h2
  show bindC kindOf ((p,w) :: P.zip vs) m p=_
  unfold bindC
  rw [bindC_out fun v hv=>(List.nodup_cons.mp nd).1 (List.of_mem_zip hv).1,if_neg hk]
  simp
 | p :: P,w :: vs,i+1,m,nd,h1,h2,hk=>by
  show bindC kindOf ((p,w) :: P.zip vs) m x=_
  unfold bindC
  exact bindC_get (i:=i) (List.nodup_cons.mp nd).2 (by simpa using h1) (by simpa using h2) hk
def start (N:List Str) (vs:List V):St:=vs.map some ++ List.replicate (N.length - vs.length) none
def cxOf (CX:CXT) (P:Program) (w:World) (K:PySem.W.Frag) (mg:Str→Option Value) (base:Heap) (N:List Str) (qual:Str) (scope:Scope) (f:Addr) (cd:Value) (A:Around) (outer:List Env) (s:Shared) (H:Hp) (E:XK):Cx where
 prog:=P
 w:=w
 K:=K
 mg:=mg
 base:=base
 A:=A.deeper (envOfC qual scope s.heap.objs.size f cd)
 N:=N
 s₀:=s
 H₀:=H
 env:=envOfC qual scope s.heap.objs.size f cd
 outer:=outer
 stack:=envOfC qual scope s.heap.objs.size f cd :: outer
 ex:=[]
 calm:=true
 fn:=fun _=>true
 pn:=[]
 xe:=fun e s'=>wpAny (model P w) (A.deeper (envOfC qual scope s.heap.objs.size f cd)) (leaving (envOfC qual scope s.heap.objs.size f cd) e) (fun _ s''=>CX outer H s E e s'') (fun e' s''=>CX outer H s E e' s'') s'
theorem cell_has {sc:Scope}{n:Nat}{x:Str} (h:sc.names.lookup x=some .cell):∃ c,(cellsFrom n sc.names []).lookup x=some c:=by
 have q:=PySem.W.cellsFrom_some sc.names n [] (.inl h)
 exact Option.isSome_iff_exists.mp q
theorem inv_start {CX:CXT}{P:Program}{w:World}{K:PySem.W.Frag}{mg:Str→Option Value}{base:Heap}{N ps:List Str}{qual:Str}{scope:Scope}{f:Addr}{cd:Value}{A:Around}{outer:List Env}{s s1:Shared}{H:Hp}{E:XK}{us:List Value}{vs:List V}
  (S:FnScope N ps scope) (hd:A.handled=none) (e0:Env0 P w K mg base A outer s H) (hl:vs.length=ps.length) (r:Vals vs us)
  (x:InCallC s s.heap.objs.size (bindL (envOfC qual scope s.heap.objs.size f cd).kindOf (ps.zip us) fun _=>none) (cellsFrom (s.heap.objs.size+1) scope.names []) (bindC (envOfC qual scope s.heap.objs.size f cd).kindOf (ps.zip us) fun _=>none) s1) :
  Inv (cxOf CX P w K mg base N qual scope f cd A outer s H E) [] (start N vs) H s1:=by
 have hpl:ps.length≤N.length:=by have:=congrArg List.length S.pre;rw [List.length_take] at this;omega
 obtain ⟨h1,tk,rfl,hk⟩:=x.done
 have noA:∀ b:Addr,b ∉ (cxOf CX P w K mg base N qual scope f cd A outer s H E).ex:=fun b z=>absurd (show b∈([]:List Addr) from z) (by simp)
 refine ⟨⟨e0.mod,S.kind,rfl,rfl,Nat.le_refl _,fun y z c h1 h2=>?_,fun y hy=>?_,fun y c _ h=>?_,fun _=>hd,Around.frames_deeper e0.frames,.inr ⟨rfl,rfl⟩,fun b z=>absurd z (noA b),e0.bs,e0.bsz,fun b _ _=>noA b,fun b z=>absurd z (noA b),e0.funs,e0.frf⟩,
  rfl,e0.bare,Un.kept hk,⟨_,x.toInCall.ns,fun i y v h1 h2 h3=>?_⟩,fun y c h=>⟨_,x.cell y c h⟩,e0.hok.fresh (Nat.le_refl _),fun y c h=>?_,fun p hp=>absurd (show p∈([]:List (Addr × Obj)) from hp) (by simp),e0.hok.kept hk,?_⟩
 ·exact name_of_addr x.apart (PySem.mem_of_lookup h1) (PySem.mem_of_lookup h2)
 ·have hy:scope.names.lookup y=some .cell∨scope.names.lookup y=some .free:=hy
  rcases hy with hy | hy
  ·exact cell_has hy
  ·exact absurd rfl (S.nofree _ (PySem.mem_of_lookup hy))
 ·exact Nat.le_of_lt (x.above y c (PySem.mem_of_lookup h))
 ·have hi:i<vs.length:=by
   unfold start at h2
   by_cases hi:i<vs.length
   ·exact hi
   ·rw [List.getElem?_append_right (by simpa using hi)] at h2
    rw [List.getElem?_replicate] at h2
    split at h2 <;> cases h2
  have ha:vs[i]? = some v:=by
   unfold start at h2
   rw [List.getElem?_append_left (by simpa using hi),List.getElem?_map] at h2
   cases e:vs[i]? with
   | none=>rw [e] at h2;cases h2
   | some a=>rw [e] at h2;cases h2;rfl
  obtain ⟨u,hu,rv⟩:=r.get ha
  have hp:ps[i]? = some y:=by
   rw [← S.pre,List.getElem?_take_of_lt (by omega)];exact h1
  have ndP:ps.Nodup:=by rw [← S.pre];exact S.nd.sublist (List.take_sublist _ _)
  refine ⟨u,rv,?_⟩
  rcases S.par y (List.mem_of_getElem? hp) with k | k
  ·exact .inl ⟨k,bindL_get ndP hp hu k⟩
  ·obtain ⟨c,e⟩:=cell_has (n:=s.heap.objs.size+1) k
   refine .inr ⟨.inl k,c,e,?_⟩
   have q:=x.cell y c e
   rw [bindC_get ndP hp hu (by show scope.names.lookup y≠_;rw [k];decide)] at q
   exact q
 ·exact e0.hok.fresh (Nat.le_of_lt (x.above y c (PySem.mem_of_lookup h)))
 ·unfold start
  show _=N.length
  rw [List.length_append,List.length_map,List.length_replicate]
  omega
theorem fn_of {CX:CXT}{P:Program}{w:World}{K:PySem.W.Frag}{mg:Str→Option Value}{base:Heap}{k:Nat}{f:Addr}{name qual:Str}{params:Arguments}{body:List Stmt}{scope:Scope}{dV kV doc pm cdv ct oc:Value}{an od:Option Addr}
  {osl:Array (Option Value)}{N ps:List Str}{sp:Sp} (lk:K.lookup f=some ⟨oc,od,.func (PySem.W.fnOf name qual params body scope dV kV doc pm an cdv ct),osl⟩) (hcd:PySem.W.codeIn K cdv qual=true) (S:FnScope N ps scope)
  (len:∀ vs H Q E,sp vs H Q E→vs.length=ps.length)
  (hbody:∀ (A:Around) (outer:List Env) (s:Shared) (H:Hp) (vs:List V) (Q:VK) (E:XK),Room k (A.deeper (envOfC qual scope s.heap.objs.size f cdv))→sp vs H Q E →
   ∃ t,PSs (cxOf CX P w K mg base N qual scope f cdv A outer s H E) body t∧t { nx:=fun _ H'=>Q .non H',rt:=Q } (start N vs) H) :
  FnOk P w K mg base CX (k+1) f (PySem.W.fnOf name qual params body scope dV kV doc pm an cdv ct) ps sp:=by
 refine ⟨len,fun A outer s H args us vs Q E hr e0 hb r hsp=>?_⟩
 have hl:=len _ _ _ _ hsp
 have KX:K.In s.heap:=e0.mod.kin.keeps fun b o e=>(e0.bs b o e).1
 have lim:s.heap.NoLimit:=e0.mod.nolimit.keeps fun b o e=>(e0.bs b o e).1
 have hkind:∀ y∈ps.zip us,scope.names.lookup y.1=some .local∨(scope.names.lookup y.1=some .cell∧((cellsFrom (s.heap.objs.size+1) scope.names []).lookup y.1).isSome=true):=fun ⟨n,v⟩ hy=>by
  rcases S.par n (List.of_mem_zip hy).1 with q | q
  ·exact .inl q
  ·exact .inr ⟨q,PySem.W.cellsFrom_some _ _ _ (.inl q)⟩
 refine codeAny_call_function hr.depth (KX _ _ lk) rfl S.co S.gen rfl (PySem.W.codeRec_of KX hcd) (hb _ _ _ _ ?_)
 refine wpAny_newFunctionEnv_cells S.kind hkind fun env he s1 x=>?_
 subst he
 refine ⟨lim.keeps x.toInCall.keep,codeAny_func ?_⟩
 obtain ⟨t,ht,hq⟩:=hbody A outer s H vs Q E (hr.deeper _) hsp
 have I:Inv (cxOf CX P w K mg base N qual scope f cdv A outer s H E) [] (start N vs) H s1:=inv_start S hr.hd e0 hl r x
 refine wpAny_mono (ht [] s1 (start N vs) H _ I hq) (fun fl s' hs=>?_) fun e s' hs=>hs
 have fin:∀ {σ':St}{H':Hp}{v:V}{u:Value},Inv (cxOf CX P w K mg base N qual scope f cdv A outer s H E) [] σ' H' s'→RelV v u→Q v H'→CE outer P w H s Q u s' :=
  fun {σ' H' v u} J rv q=>⟨v,H',J.os,J.bare,J.base,J.hok,rv,q⟩
 cases fl with
 | ret u =>
  obtain ⟨v,σ',H',J,rv,q⟩:=hs
  exact fin J rv q
 | next =>
  obtain ⟨σ',H',J,q⟩:=hs
  exact fin (v:=V.non) (u:=Value.none) J rfl q
 | brk =>
  obtain ⟨_,_,_,q⟩:=hs
  exact False.elim q
 | cont =>
  obtain ⟨_,_,_,q⟩:=hs
  exact False.elim q
section
variable {X:Cx}{x:Str}{p pos:Pos}{e:Expr}{es:List Expr}{t:TA}{id T:String}{r:List V→Hp→VK→Prop}
def tCB (r:List V→Hp→VK→Prop) (t:TA):TE:=fun σ H Q=>t σ H fun vs H1=>r vs H1 Q
theorem pe_callB (hc:CallR X (.builtin id) r) (hg:Gl X x) (hm:X.mg x=none) (hv:bootBuiltins x=some (.builtin id)) (ha:PA X (e :: es) t) (hn:x ≠ "__name__":=by decide) (hdb:(x == ("__debug__" : Str))=false:=by decide)
  (he:starEach (e :: es) X.env=(false,eval e X.env) :: starEach es X.env:=by rfl) (hpl:(backTo pos (starEach es X.env)).any (·.1)=false:=by rfl):PE X (.Call (.Name x p) (e :: es) [] pos) (tCB r t):=by
 intro pins s σ H Q I h
 refine wpAny_Call_Name_kw (ld_blt I hg hm hv ?_ hn hdb)
 exact PyProof.Rows.callWith_builtin1 (thn (ha pos pins s σ H _ I h) fun us s1 ⟨vs,H1,I1,r1,q1⟩=>hc pins s1 σ H1 vs us Q I1 r1 q1) he hpl
theorem pe_callTy (hc:CallR X (.type T) r) (hg:Gl X x) (hm:X.mg x=none) (hv:bootBuiltins x=some (.type T)) (ha:PA X (e :: es) t) (hn:x ≠ "__name__":=by decide) (hdb:(x == ("__debug__" : Str))=false:=by decide)
  (he:starEach (e :: es) X.env=(false,eval e X.env) :: starEach es X.env:=by rfl) (hpl:(backTo pos (starEach es X.env)).any (·.1)=false:=by rfl):PE X (.Call (.Name x p) (e :: es) [] pos) (tCB r t):=by
 intro pins s σ H Q I h
 refine wpAny_Call_Name_kw (ld_blt I hg hm hv ?_ hn hdb)
 exact PyProof.Rows.callWith_type1 (thn (ha pos pins s σ H _ I h) fun us s1 ⟨vs,H1,I1,r1,q1⟩=>hc pins s1 σ H1 vs us Q I1 r1 q1) he hpl
end
end L2
namespace HT
open PySem PyProof.Rows
section
open PySem.SeqAt
open PySem.AutoSeq1 (wpAny_loadPart')
open PySem.MeetsSeq PySem.MeetsSeq2 PySem.MeetsSeq3
end
section
variable {prog:Program}{w:World}{A:Around}{E:Value→Shared→Prop}{s:Shared}
def sIx (n d:Nat):Option Int→Nat
 | none=>d
 | some v=>if v<0 then (v+(n:Int)).toNat else min v.toNat n
theorem sIx_none (n d:Nat):sIx n d none=d:=rfl
theorem sIx_nat (n d k:Nat):sIx n d (some (k:Int))=min k n:=by
 show (if (k:Int)<0 then ((k:Int)+(n:Int)).toNat else min (k:Int).toNat n)=min k n
 rw [if_neg (by omega),Int.toNat_natCast]
end
end HT
namespace L2
open PySem PySem.Spec PyProof.Rows
abbrev TO:=St→Hp→(Option Int→Hp→Prop)→Prop
def PO (X:Cx) (e:Option Expr) (t:TO):Prop :=
 ∀ (pins:List (Addr × Obj)) (s:Shared) (σ:St) (H:Hp) (Q:Option Int→Hp→Prop),Inv X pins σ H s→t σ H Q →
  wpAny (model X.prog X.w) X.A (evalPart e X.env) (fun u s'=>∃ o H',Inv X pins σ H' s'∧IsPart u o∧Q o H') X.xe s
def tNoPart:TO:=fun _ H Q=>Q none H
def tPart (t:TE):TO:=fun σ H Q=>t σ H fun x H1=>∃ i,x=.int i∧Q (some i) H1
theorem intsAre_of {ns:List Int}:∀ {us:List Value},Vals (ns.map V.int) us→IntsAre us ns:=by
 induction ns with
 | nil=>intro us r;rw [List.map_nil] at r;cases r;exact .nil
 | cons n ns ih =>
  intro us r
  rw [List.map_cons] at r
  cases r with
  | cons r1 r2 =>
   obtain ⟨t,e⟩:=r1
   subst e
   exact .cons n t (ih r2)
section
variable {X:Cx}{e:Expr}{te:TE}{lo hi:Option Expr}{tl th:TO}{pos p2:Pos}
theorem po_none:PO X none tNoPart:=by
 intro pins s σ H Q I h
 rw [evalPart_none]
 exact wpAny_pure ⟨none,H,I,.none,h⟩
theorem po_some (h:PE X e te):PO X (some e) (tPart te):=by
 intro pins s σ H Q I hw
 rw [evalPart_some]
 refine thn (h pins s σ H _ I hw) fun u s1 ⟨x,H1,I1,r1,q1⟩=>?_
 obtain ⟨i,rfl,q⟩:=q1
 obtain ⟨t,rfl⟩:=r1
 exact ⟨some i,H1,I1,.int i t,q⟩
def SlR (X:Cx) (r:V→Option Int→Option Int→Hp→VK→Prop):Prop :=
 ∀ (pins:List (Addr × Obj)) (s:Shared) (σ:St) (H:Hp) (x:V) (v vl vu:Value) (lo hi:Option Int) (sl:Addr) (Q:VK),Inv X pins σ H s→RelV x v→s.heap.IsSliceOf sl vl vu .none→IsPart vl lo→IsPart vu hi→r x lo hi H Q →
  ∃ T id,typeLookup (.type T) "__getitem__" = pure (some (.builtin id))∧s.TypeIs v T∧wpAny (model X.prog X.w) X.A (getItem v (.ref sl)) (EP X pins σ Q) X.xe s
def tSl (r:V→Option Int→Option Int→Hp→VK→Prop) (te:TE) (tl th:TO):TE:=fun σ H Q=>te σ H fun x H1=>tl σ H1 fun l H2=>th σ H2 fun u H3=>r x l u H3 Q
theorem pe_slice {r:V→Option Int→Option Int→Hp→VK→Prop} (hr:SlR X r) (he:PE X e te) (hl:PO X lo tl) (hu:PO X hi th):PE X (.Subscript e (.Slice lo hi none p2) pos) (tSl r te tl th):=by
 intro pins s σ H Q I h
 refine Subscript_ (thn (he pins s σ H _ I h) fun v s1 ⟨x,H1,I1,r1,q1⟩=>?_)
 refine wpAny_Slice (thn (hl pins s1 σ H1 _ I1 q1) fun vl s2 ⟨l,H2,I2,pl,q2⟩=>thn (hu pins s2 σ H2 _ I2 q2) fun vu s3 ⟨u,H3,I3,pu,q3⟩=>?_)
 rw [evalPart_none]
 refine wpAny_pure ?_
 have I4:Inv X pins σ H3 { s3 with heap:=s3.heap.push { cls:=.type "slice",data:=.fields #[vl,vu,.none] } }:=I3.kept (t':=s3.toks) fun b ob q=>Heap.get?_push_of_some _ q
 obtain ⟨T,id,hT,ht,hg⟩:=hr pins { s3 with heap:=s3.heap.push { cls:=.type "slice",data:=.fields #[vl,vu,.none] } } σ H3 x v vl vu l u s3.heap.objs.size Q I4 r1 (Heap.IsSliceOf.new ..) pl pu q3
 show wpAny (model X.prog X.w) X.A (subscriptTail e (.Slice lo hi none p2) v (.ref s3.heap.objs.size)) (EP X pins σ Q) X.xe { s3 with heap:=s3.heap.push { cls:=.type "slice",data:=.fields #[vl,vu,.none] } }
 exact tail_any (ops:=[.ref s3.heap.objs.size,v]) ht hT hg (by with_unfolding_all rfl)
def cutV (xs:List V) (lo hi:Option Int):List V:=(xs.drop (HT.sIx xs.length 0 lo)).take (HT.sIx xs.length xs.length hi - HT.sIx xs.length 0 lo)
theorem cutV_length (xs:List V) (lo hi:Option Int):(cutV xs lo hi).length≤xs.length:=by
 unfold cutV
 rw [List.length_take,List.length_drop]
 omega
end
def ixN (n:Nat) (i:Int):Option Nat:=if 0≤i then (if i<n then some i.toNat else none) else if -(n:Int)≤i then some (i+n).toNat else none
def atI {α:Type} (xs:List α) (i:Int):Option α:=(ixN xs.length i).bind fun j=>xs[j]?
theorem ixN_seq {n:Nat}{i:Int}{j:Nat} (h:ixN n i=some j):seqIndex? i n=some j∧j<n ∧ -(n:Int)≤i∧i<n:=by
 unfold ixN at h
 by_cases h0:0≤i
 ·rw [if_pos h0] at h
  by_cases h1:i<n
  ·rw [if_pos h1] at h
   have e:i.toNat=j:=Option.some.inj h
   exact ⟨by rw [seqIndex_of h0 h1,e],by omega,by omega,h1⟩
  ·rw [if_neg h1] at h;cases h
 ·rw [if_neg h0] at h
  by_cases h1 : -(n:Int)≤i
  ·rw [if_pos h1] at h
   have e:(i+n).toNat=j:=Option.some.inj h
   exact ⟨by rw [seqIndex_neg (by omega) h1,e],by omega,h1,by omega⟩
  ·rw [if_neg h1] at h;cases h
theorem atI_get {α:Type}{xs:List α}{i:Int}{v:α} (h:atI xs i=some v):∃ j,seqIndex? i xs.length=some j∧xs[j]? = some v∧j<xs.length ∧ -(xs.length:Int)≤i∧i<xs.length:=by
 unfold atI at h
 cases e:ixN xs.length i with
 | none=>rw [e] at h;cases h
 | some j =>
  rw [e] at h
  obtain ⟨h1,h2,h3,h4⟩:=ixN_seq e
  exact ⟨j,h1,h,h2,h3,h4⟩
theorem atI_nat {α:Type}{xs:List α}{j:Nat}{v:α} (h:xs[j]? = some v):atI xs (j:Int)=some v:=by
 have hj:j<xs.length:=(List.getElem?_eq_some_iff.mp h).1
 have e:ixN xs.length (j:Int)=some j:=by
  unfold ixN
  rw [if_pos (by omega),if_pos (by omega)];simp
 unfold atI;rw [e];exact h
def PlainIx (b:Expr):Prop:=∀ o i,subscripted b false o i=operate [o,i] (getItem o i)
def IxR (X:Cx) (r:R2):Prop :=
 ∀ (value slice:Expr) (pins:List (Addr × Obj)) (s:Shared) (σ:St) (H:Hp) (x y:V) (v u:Value) (Q:VK),Inv X pins σ H s→RelV x v→RelV y u→r x y H Q →
  subscripted slice false v u=operate [v,u] (getItem v u)→wpAny (model X.prog X.w) X.A (subscriptTail value slice v u) (EP X pins σ Q) X.xe s
def MtR (X:Cx) (id:String) (r:V→List V→Hp→VK→Prop):Prop :=
 ∀ (pins:List (Addr × Obj)) (s:Shared) (σ:St) (H:Hp) (x:V) (xs:List V) (v:Value) (us:List Value) (Q:VK),Inv X pins σ H s→RelV x v→Vals xs us→r x xs H Q →
  wpAny (model X.prog X.w) X.A (call (.builtin id) (v :: us)) (EP X pins σ Q) X.xe s
section
variable {X:Cx}{a b:Expr}{ta tb:TE}{pos:Pos}
theorem IxR.or {r r':R2} (h:IxR X r) (h':IxR X r'):IxR X (fun x y H Q=>r x y H Q∨r' x y H Q):=by
 intro value slice pins s σ H x y v u Q I rx ry q hs
 rcases q with q | q
 ·exact h value slice pins s σ H x y v u Q I rx ry q hs
 ·exact h' value slice pins s σ H x y v u Q I rx ry q hs
theorem pe_ix {r:R2} (hr:IxR X r) (ha:PE X a ta) (hb:PE X b tb) (hs:PlainIx b):PE X (.Subscript a b pos) (tOp r ta tb):=by
 intro pins s σ H Q I h
 exact Subscript_ (binT ha hb I h fun v u s2 x y H2 I2 rx ry q=>hr a b pins s2 σ H2 x y v u Q I2 rx ry q (hs _ _))
def rIxL (K:PySem.W.Frag):R2:=fun x y H Q=>∃ p xs i v,x=.ref p∧y=.int i∧SqL K H p xs∧atI xs i=some v∧Q v H
def rIxT (K:PySem.W.Frag):R2:=fun x y H Q=>∃ p xs i v,x=.ref p∧y=.int i∧SqT K H p xs∧atI xs i=some v∧Q v H
def rIxS:R2:=fun x y H Q=>∃ z i c,x=.str z∧y=.int i∧z.length≤sizeLine∧atI z.cps.toList i=some c∧Q (.str ⟨#[c]⟩) H
theorem ix_list:IxR X (rIxL X.K):=by
 intro value slice pins s σ H x y v u Q I rx ry h hs
 obtain ⟨p,xs,i,z,rfl,rfl,hq,he,q⟩:=h
 cases rx
 obtain ⟨t,rfl⟩:=ry
 obtain ⟨its,r,pl,hz⟩:=I.list hq
 obtain ⟨j,h1,h2,h3,h4,h5⟩:=atI_get he
 obtain ⟨w,ew,rw'⟩:=r.get h2
 have hl:=r.length
 have hn:=line63
 have fin:EP X pins σ Q w s:=⟨z,H,I,rw',q⟩
 by_cases h0:0≤i
 ·have hj:i.toNat=j:=by
   rw [seqIndex_of h0 h5] at h1
   exact Option.some.inj h1
  exact item_listR pl.isList h0 (by omega) (by rw [hj];simpa using ew) fin hs
 ·have hj:(i+(its.toArray.size:Int)).toNat=j:=by
   rw [seqIndex_neg (by omega) h4] at h1
   rw [List.size_toArray,← hl]
   exact Option.some.inj h1
  exact subscriptTail_builtinR (x:=w) pl.isList.typeIs slot_list_getitem.lookup
   (wpAny_getItem_list_neg (Q:=fun r s'=>r=w∧EP X pins σ Q r s') pl.isList (by omega) (by rw [List.size_toArray] <;> omega) (by omega) (by rw [hj];simpa using ew) ⟨rfl,fin⟩) hs
theorem ix_tup:IxR X (rIxT X.K):=by
 intro value slice pins s σ H x y v u Q I rx ry h hs
 obtain ⟨p,xs,i,z,rfl,rfl,hq,he,q⟩:=h
 cases rx
 obtain ⟨t,rfl⟩:=ry
 obtain ⟨its,r,pl,hz⟩:=I.tuple hq
 obtain ⟨j,h1,h2,h3,h4,h5⟩:=atI_get he
 obtain ⟨w,ew,rw'⟩:=r.get h2
 have hl:=r.length
 have hn:=line63
 have fin:EP X pins σ Q w s:=⟨z,H,I,rw',q⟩
 exact subscriptTail_builtinR (x:=w) pl.typeIs slot_tuple_getitem.lookup
  (getItem_tuple (j:=j) (Q:=fun r s'=>r=w∧EP X pins σ Q r s') pl (by omega) (by omega) (by rw [List.size_toArray,← hl];exact h1) (by simpa using ew) ⟨rfl,fin⟩) hs
theorem ix_str:IxR X rIxS:=by
 intro value slice pins s σ H x y v u Q I rx ry h hs
 obtain ⟨z,i,c,rfl,rfl,hz,he,q⟩:=h
 obtain ⟨t,rfl⟩:=rx
 obtain ⟨t',rfl⟩:=ry
 obtain ⟨j,h1,h2,h3,h4,h5⟩:=atI_get he
 have hl:z.cps.toList.length=z.length:=by simp [Str.length]
 rw [hl] at h1 h4 h5
 have hn:=line63
 exact tail_any (typeIs_str s z t) slot_str_getitem.lookup (getItem_str (c:=c) (by
  have e1:decide (i < -(2 ^ 63:Int))=false:=decide_eq_false (by omega)
  have e2:decide (i ≥ 2 ^ 63)=false:=decide_eq_false (by omega)
  rw [e1,e2,Bool.or_false]) (by rw [h1];simpa using h2) ⟨.str ⟨#[c]⟩,H,I.tok _,⟨_,rfl⟩,q⟩) hs
def rIx (K:PySem.W.Frag):R2:=fun x y H Q=>rIxL K x y H Q∨rIxT K x y H Q∨rIxS x y H Q
theorem ix_seq:IxR X (rIx X.K):=ix_list.or (ix_tup.or ix_str)
theorem mapSeq_set (its:List Value) (n j:Nat) (u:Value):Obj.mapSeq (·.setIfInBounds j u) { cls:=.type "list",data:=.seq its.toArray n }={ cls:=.type "list",data:=.seq (its.set j u).toArray n }:=by
 simp [Obj.mapSeq]
theorem Inv.lst {pins:List (Addr × Obj)}{σ:St}{H:Hp}{s:Shared}{p:Addr}{xs:List V} (I:Inv X pins σ H s) (h:H p=some (.lst xs)) :
  ∃ (its:List Value) (n:Nat),Vals xs its∧s.heap.get? p=some { cls:=.type "list",data:=.seq its.toArray n }∧xs.length≤sizeLine:=by
 obtain ⟨z,its,n,r,e⟩:=I.hok p _ h
 exact ⟨its,n,r,e,z⟩
theorem Inv.lstUpd {pins:List (Addr × Obj)}{σ:St}{H:Hp}{s:Shared}{p:Addr}{xs ys:List V}{its its':List Value}{n n':Nat}{f:Obj→Obj} (I:Inv X pins σ H s) (h:H p=some (.lst xs))
  (ho:s.heap.get? p=some { cls:=.type "list",data:=.seq its.toArray n }) (hf:f { cls:=.type "list",data:=.seq its.toArray n }={ cls:=.type "list",data:=.seq its'.toArray n' }) (r:Vals ys its') (hz:ys.length≤sizeLine) (t:Nat) :
  Inv X pins σ (upd H p (.lst ys)) { s with heap:=s.heap.update p f,toks:=t }:=by
 have e:(s.heap.update p f).get? p=some { cls:=.type "list",data:=.seq its'.toArray n' }:=by
  rw [Heap.get?_update_self f ho (by rw [hf] <;> rfl),hf]
 refine I.write (x:=p) (e:=p) (by rw [h];trivial) (.inl rfl) (fun b u hb q=>(Heap.get?_update_other _ _ (Ne.symm hb)).trans q) ⟨_,e⟩ ?_
 exact ⟨hz,its',n',r,e⟩
def rSetL:V→V→V→Hp→(Hp→Prop)→Prop:=fun o i v H Q=>∃ p xs k j,o=.ref p∧i=.int k∧H p=some (.lst xs)∧ixN xs.length k=some j∧Q (upd H p (.lst (xs.set j v)))
theorem set_list:PSet X rSetL:=by
 intro pins s σ H o i v ov iv u Q I ro ri rv h
 obtain ⟨p,xs,k,j,rfl,rfl,hp,hj,q⟩:=h
 cases ro
 obtain ⟨t,rfl⟩:=ri
 obtain ⟨its,n,r,ho,hz⟩:=I.lst hp
 obtain ⟨h1,h2,h3,h4⟩:=ixN_seq hj
 have hl:=r.length
 have hn:=line63
 have I':Inv X pins σ (upd H p (.lst (xs.set j v))) { s with heap:=s.heap.update p (Obj.mapSeq (·.setIfInBounds j u)) } :=
  I.lstUpd hp ho (mapSeq_set its n j u) (r.set rv j) (by rw [List.length_set];exact hz) s.toks
 by_cases h0:0≤k
 ·have hk:k.toNat=j:=by
   rw [seqIndex_of h0 h4] at h1
   exact Option.some.inj h1
  exact PySem.W.ki_setAt ho h0 (by omega) (by rw [List.size_toArray,← hl];exact h4) (by rw [hk];exact ⟨_,I',q⟩)
 ·have hk:(k+(its.toArray.size:Int)).toNat=j:=by
   rw [seqIndex_neg (by omega) h3] at h1
   rw [List.size_toArray,← hl]
   exact Option.some.inj h1
  exact PySem.W.ki_setBack ho (by omega) (by rw [List.size_toArray,← hl];exact h3) (by omega) (by rw [hk];exact ⟨_,I',q⟩)
theorem slice_bounds (lo hi:Option Int) (n:Nat):(sliceBounds lo hi none n).1=((HT.sIx n 0 lo:Nat):Int)∧(sliceBounds lo hi none n).2.1=((HT.sIx n n hi:Nat):Int)∧(sliceBounds lo hi none n).2.2=1:=by
 refine ⟨?_,?_,rfl⟩
 ·cases lo with
  | none=>simp [sliceBounds,HT.sIx]
  | some i =>
   simp only [sliceBounds,HT.sIx,Option.getD_none,show (1:Int) > 0 by decide,if_true]
   by_cases h:i<0
   ·simp only [h,if_true] <;> omega
   ·simp only [h,if_false] <;> omega
 ·cases hi with
  | none=>simp [sliceBounds,HT.sIx]
  | some i =>
   simp only [sliceBounds,HT.sIx,Option.getD_none,show (1:Int) > 0 by decide,if_true]
   by_cases h:i<0
   ·simp only [h,if_true] <;> omega
   ·simp only [h,if_false] <;> omega
theorem slicePick_cut (its:List Value) (lo hi:Option Int):slicePick its.toArray lo hi none=((its.drop (HT.sIx its.length 0 lo)).take (HT.sIx its.length its.length hi - HT.sIx its.length 0 lo)).toArray:=by
 obtain ⟨h1,h2,h3⟩:=slice_bounds lo hi its.toArray.size
 unfold slicePick
 rw [h1,h2,h3]
 simp only [sliceRange_one,pick_run,List.size_toArray] <;> rfl
def rSlL (K:PySem.W.Frag):V→Option Int→Option Int→Hp→VK→Prop:=fun x lo hi H Q=>∃ a xs,x=.ref a∧SqL K H a xs∧∀ p,H p=none→Q (.ref p) (upd H p (.lst (cutV xs lo hi)))
theorem sl_list:SlR X (rSlL X.K):=by
 intro pins s σ H x v vl vu lo hi sl Q I rx hs pl pu h
 obtain ⟨a,xs,rfl,hx,q⟩:=h
 cases rx
 obtain ⟨its,r,ht,hz⟩:=I.list hx
 have hlen:=r.length
 refine ⟨"list",_,slot_list_getitem.lookup,ht.isList.typeIs,?_⟩
 refine wpAny_getItem_list_slice ht.isList hs pl pu .none (by simp) ?_ (by rw [List.size_toArray] <;> omega)
 rw [slicePick_cut,← hlen]
 refine ⟨.ref s.heap.objs.size,_,I.laid (t':=s.toks) (o:=.lst (cutV xs lo hi)) (fun b ob q=>Heap.get?_push_of_some _ q) (Nat.le_refl _) ?_,rfl,q _ (I.hok.fresh (Nat.le_refl _))⟩
 exact ⟨Nat.le_trans (cutV_length xs lo hi) hz,_,0,(r.drop (HT.sIx xs.length 0 lo)).take (HT.sIx xs.length xs.length hi - HT.sIx xs.length 0 lo),Heap.get?_push_size _ rfl⟩
def flatV:V→Bool
 | .non=>true
 | .bl _=>true
 | .int _=>true
 | .str _=>true
 | _=>false
def eqV:V→V→Bool
 | .non,.non=>true
 | .bl a,.bl b=>a == b
 | .bl a,.int b=>(if a then 1 else 0) == b
 | .int a,.bl b=>a == (if b then 1 else 0)
 | .int a,.int b=>a == b
 | .str a,.str b=>a == b
 | _,_=>false
theorem eqAt_V {A:Around}{s:Shared}{y x:V}{u v:Value} (ry:RelV y u) (rx:RelV x v) (fy:flatV y=true) (fx:flatV x=true):SeqAt.EqAt A s u v (eqV y x):=by
 cases y with
 | non =>
  cases ry
  cases x with
  | non=>cases rx;exact SeqAt.EqAt.same _
  | bl b=>cases rx;exact SeqAt.EqAt.none_bool b
  | int b=>obtain ⟨t,rfl⟩:=rx;exact SeqAt.EqAt.none_int b t
  | str b=>obtain ⟨t,rfl⟩:=rx;exact SeqAt.EqAt.none_str b t
  | _=>exact absurd (show false=true from fx) Bool.false_ne_true
 | bl a =>
  cases ry
  cases x with
  | non=>cases rx;exact SeqAt.EqAt.bool_none a
  | bl b=>cases rx;exact SeqAt.EqAt.bool_bool a b
  | int b=>obtain ⟨t,rfl⟩:=rx;exact SeqAt.EqAt.bool_int a b t
  | str b=>obtain ⟨t,rfl⟩:=rx;exact SeqAt.EqAt.bool_str a b t
  | _=>exact absurd (show false=true from fx) Bool.false_ne_true
 | int a =>
  obtain ⟨t',rfl⟩:=ry
  cases x with
  | non=>cases rx;exact SeqAt.EqAt.int_none a t'
  | bl b=>cases rx;exact SeqAt.EqAt.int_bool a t' b
  | int b=>obtain ⟨t,rfl⟩:=rx;exact SeqAt.EqAt.int_int a t' b t
  | str b=>obtain ⟨t,rfl⟩:=rx;exact SeqAt.EqAt.int_str a t' b t
  | _=>exact absurd (show false=true from fx) Bool.false_ne_true
 | str a =>
  obtain ⟨t',rfl⟩:=ry
  cases x with
  | non=>cases rx;exact SeqAt.EqAt.str_none a t'
  | bl b=>cases rx;exact SeqAt.EqAt.str_bool a t' b
  | int b=>obtain ⟨t,rfl⟩:=rx;exact SeqAt.EqAt.str_int a t' b t
  | str b=>obtain ⟨t,rfl⟩:=rx;exact SeqAt.EqAt.str_str a t' b t
  | _=>exact absurd (show false=true from fx) Bool.false_ne_true
 | _=>exact absurd (show false=true from fy) Bool.false_ne_true
def eqU (x:V) (u:Value):Bool:=match u with
 | .none=>eqV .non x
 | .bool b=>eqV (.bl b) x
 | .int i _=>eqV (.int i) x
 | .str z _=>eqV (.str z) x
 | _=>false
theorem eqU_of {x y:V}{u:Value} (r:RelV y u) (f:flatV y=true):eqU x u=eqV y x:=by
 cases y with
 | non=>cases r;rfl
 | bl b=>cases r;rfl
 | int i=>obtain ⟨t,rfl⟩:=r;rfl
 | str z=>obtain ⟨t,rfl⟩:=r;rfl
 | _=>exact absurd (show false=true from f) Bool.false_ne_true
theorem any_eqU {x:V}:∀ {xs:List V}{us:List Value},Vals xs us→xs.all flatV=true→us.any (eqU x)=xs.any fun y=>eqV y x
 | _,_,.nil,_=>rfl
 | y :: xs,u :: us,.cons r t,f=>by
  rw [List.all_cons,Bool.and_eq_true] at f
  rw [List.any_cons,List.any_cons,eqU_of r f.1,any_eqU t f.2]
theorem mem_eqAt {A:Around}{s:Shared}{x:V}{v:Value} (rx:RelV x v) (fx:flatV x=true):∀ {xs:List V}{us:List Value},Vals xs us→xs.all flatV=true→∀ u∈us,SeqAt.EqAt A s u v (eqU x u)
 | _,_,.nil,_=>fun u hu=>by cases hu
 | y :: xs,u :: us,.cons r t,f=>fun u' hu=>by
  rw [List.all_cons,Bool.and_eq_true] at f
  rcases List.mem_cons.mp hu with rfl | hu
  ·rw [eqU_of r f.1];exact eqAt_V r rx f.1 fx
  ·exact mem_eqAt rx fx t f.2 u' hu
def inV (x:V) (xs:List V):Bool:=xs.any fun y=>eqV y x
def rIn (K:PySem.W.Frag) (neg:Bool):R2:=fun x y H Q=>∃ p xs,y=.ref p∧(SqL K H p xs∨SqT K H p xs)∧flatV x=true∧xs.all flatV=true∧Q (.bl (if neg then !inV x xs else inV x xs)) H
theorem op_in_seq:OpR X (compareOp .In) (rIn X.K false):=by
 intro pins s σ H x y v u Q I rx ry h
 obtain ⟨p,xs,rfl,hq,fx,fs,q⟩:=h
 cases ry
 rcases hq with hq | hq
 ·obtain ⟨its,r,pl,hz⟩:=I.list hq
  refine SeqAt.in_listAt (eqU x) pl.isList (fun w hw=>mem_eqAt rx fx r fs w (by simpa using hw)) ⟨.bl _,H,I,rfl,?_⟩
  rw [show its.toArray.any (eqU x)=its.any (eqU x) by simp,any_eqU r fs]
  exact q
 ·obtain ⟨its,r,pl,hz⟩:=I.tuple hq
  refine SeqAt.in_tupleAt (eqU x) pl (fun w hw=>mem_eqAt rx fx r fs w (by simpa using hw)) ⟨.bl _,H,I,rfl,?_⟩
  rw [show its.toArray.any (eqU x)=its.any (eqU x) by simp,any_eqU r fs]
  exact q
theorem call_len_seq:CallR X (.builtin "len") (fun xs H Q=>∃ p ys,xs=[.ref p]∧(SqL X.K H p ys∨SqT X.K H p ys)∧Q (.int ys.length) H):=by
 intro pins s σ H xs us Q I r h
 obtain ⟨p,ys,rfl,hq,q⟩:=h
 obtain ⟨u,rfl,rx⟩:=vals1 r
 cases rx
 have hn:=line63
 rcases hq with hq | hq
 ·obtain ⟨its,r',pl,hz⟩:=I.list hq
  have hlen:=r'.length
  exact Calls.call_len_list pl.isList (by simp only [List.size_toArray] <;> omega) ⟨.int ys.length,H,I.tok _,⟨s.toks+1,by rw [List.size_toArray,hlen]⟩,q⟩
 ·obtain ⟨its,r',pl,hz⟩:=I.tuple hq
  have hlen:=r'.length
  exact len_tuple pl (by simp only [List.size_toArray] <;> omega) ⟨.int ys.length,H,I.tok _,⟨s.toks+1,by rw [List.size_toArray,hlen]⟩,q⟩
theorem call_len_str:CallR X (.builtin "len") (fun xs H Q=>∃ z,xs=[.str z]∧z.length≤sizeLine∧Q (.int z.length) H):=by
 intro pins s σ H xs us Q I r h
 obtain ⟨z,rfl,hz,q⟩:=h
 obtain ⟨u,rfl,t,rfl⟩:=vals1 r
 have hn:=line63
 exact len_str (by omega) ⟨.int z.length,H,I.tok _,⟨_,rfl⟩,q⟩
theorem call_list_of:CallR X (.type "list") (fun xs H Q=>∃ p ys,xs=[.ref p]∧(SqL X.K H p ys∨SqT X.K H p ys)∧∀ l,H l=none→Q (.ref l) (upd H l (.lst ys))):=by
 intro pins s σ H xs us Q I r h
 obtain ⟨p,ys,rfl,hq,q⟩:=h
 obtain ⟨u,rfl,rx⟩:=vals1 r
 cases rx
 have fin:∀ (its:List Value),Vals ys its→ys.length≤sizeLine→∀ (h':Heap) (c':Nat),(∀ b o',s.heap.get? b=some o'→h'.get? b=some o') →
   h'.get? s.heap.objs.size=some { cls:=.type "list",dict:=none,data:=.seq its.toArray c',slots:=#[] }→EP X pins σ Q (.ref s.heap.objs.size) { s with heap:=h' }:=fun its r' hz h' c' kp e =>
  ⟨.ref s.heap.objs.size,_,I.laid (t':=s.toks) kp (Nat.le_refl _) (show ObjOk X.prog X.w _ h' _ (.lst ys) from ⟨hz,its,c',r',e⟩),rfl,q _ (I.hok.fresh (Nat.le_refl _))⟩
 rcases hq with hq | hq
 ·obtain ⟨its,r',pl,hz⟩:=I.list hq
  have hlen:=r'.length
  obtain ⟨o,ho,hc,n,hd⟩:=pl.isList
  exact call_list_seq p (.inl rfl) ho hc hd (fun h' c' kp e=>fin its r' hz h' c' kp e) (by simp only [List.size_toArray] <;> omega)
 ·obtain ⟨its,r',pl,hz⟩:=I.tuple hq
  have hlen:=r'.length
  obtain ⟨o,ho,hc,n,hd⟩:=pl
  exact call_list_seq p (.inr rfl) ho hc hd (fun h' c' kp e=>fin its r' hz h' c' kp e) (by simp only [List.size_toArray] <;> omega)
theorem call_tuple_of:CallR X (.type "tuple") (fun xs H Q=>∃ p ys,xs=[.ref p]∧((SqL X.K H p ys∧∀ l,H l=none→Q (.ref l) (upd H l (.tup ys)))∨(SqT X.K H p ys∧Q (.ref p) H))):=by
 intro pins s σ H xs us Q I r h
 obtain ⟨p,ys,rfl,h⟩:=h
 obtain ⟨u,rfl,rx⟩:=vals1 r
 cases rx
 rcases h with ⟨hq,q⟩ | ⟨hq,q⟩
 ·obtain ⟨its,r',pl,hz⟩:=I.list hq
  have hlen:=r'.length
  refine call_tuple_list pl.isList (fun h' kp=>?_) (by simp only [List.size_toArray] <;> omega)
  have I1:Inv X pins σ H { s with heap:=h' }:=I.kept (t':=s.toks) kp
  have I2:Inv X pins σ (upd H h'.objs.size (.tup ys)) { s with heap:=h'.push { cls:=.type "tuple",data:=.seq its.toArray } } :=
   I1.laid (t':=s.toks) (fun b o e=>Heap.get?_push_of_some _ e) (Nat.le_refl _) (show ObjOk X.prog X.w _ _ _ (.tup ys) from ⟨hz,its,r',IsTup.new _ _⟩)
  exact ⟨.ref h'.objs.size,_,I2,rfl,q _ (I1.hok.fresh (Nat.le_refl _))⟩
 ·obtain ⟨its,r',pl,hz⟩:=I.tuple hq
  exact call_tuple_same pl ⟨.ref p,H,I,rfl,q⟩
def tyV (K:PySem.W.Frag) (T:String) (x:V) (H:Hp):Prop:=match x with
 | .str _=>T = "str"
 | .int _=>T = "int"
 | .ref p=>(T = "list" ∧ ∃ xs,SqL K H p xs)∨(T = "tuple" ∧ ∃ o,K.lookup p=some o∧o.cls=.type "tuple" ∧ o.dict=none) ∨
   (T = "dict" ∧ ((∃ kvs,H p=some (.dK kvs))∨∃ kvs,H p=some (.dT kvs)))∨(T = "set" ∧ ∃ S n,H p=some (.set S n))
 | _=>False
theorem tyV_is {pins:List (Addr × Obj)}{σ:St}{H:Hp}{s:Shared}{T:String}{x:V}{v:Value} (I:Inv X pins σ H s) (r:RelV x v) (ty:tyV X.K T x H) :
  s.TypeIs v T∧∀ a,v=.ref a→∃ ob,s.heap.get? a=some ob∧ob.dict=none:=by
 cases x with
 | str z =>
  obtain ⟨t,rfl⟩:=r
  cases (show T = "str" from ty)
  exact ⟨typeIs_str s z t,fun _ e=>nomatch e⟩
 | int i =>
  obtain ⟨t,rfl⟩:=r
  cases (show T = "int" from ty)
  exact ⟨typeIs_int s i t,fun _ e=>nomatch e⟩
 | ref p =>
  cases r
  rcases ty with ⟨rfl,xs,hq⟩ | ⟨rfl,o,hk,hc,hd⟩ | ⟨rfl,hk⟩ | ⟨rfl,S,n,hk⟩
  ·obtain ⟨its,_,pl,_⟩:=I.list hq
   refine ⟨pl.isList.typeIs,fun a e=>?_⟩
   cases e
   obtain ⟨o,n,e,c,hd,_⟩:=pl
   exact ⟨o,e,hd⟩
  ·refine ⟨⟨o,I.kIn p o hk,hc⟩,fun a e=>?_⟩
   cases e
   exact ⟨o,I.kIn _ o hk,hd⟩
  ·have z:∃ o,s.heap.get? p=some o∧o.ExactDict:=by
    rcases hk with ⟨kvs,hk⟩ | ⟨kvs,hk⟩
    ·obtain ⟨_,_,_,_,o,_,_,e,ex,_⟩:=I.hok p _ hk
     exact ⟨o,e,ex⟩
    ·obtain ⟨_,_,_,_,o,_,_,e,ex,_⟩:=I.hok p _ hk
     exact ⟨o,e,ex⟩
   obtain ⟨o,e,ex⟩:=z
   refine ⟨⟨o,e,ex.1⟩,fun a e2=>?_⟩
   cases e2
   exact ⟨o,e,ex.2.1⟩
  ·obtain ⟨o,_,_,_,e,ex,_⟩:=I.hok p _ hk
   refine ⟨⟨o,e,ex.1⟩,fun a e2=>?_⟩
   cases e2
   exact ⟨o,e,ex.2.1⟩
 | _=>exact False.elim ty
def tBM0 (K:PySem.W.Frag) (T:String) (r:V→List V→Hp→VK→Prop) (to:TE):TE:=fun σ H Q=>to σ H fun x H1=>tyV K T x H1∧r x [] H1 Q
def tBM (K:PySem.W.Frag) (T:String) (r:V→List V→Hp→VK→Prop) (to:TE) (t:TA):TE:=fun σ H Q=>to σ H fun x H1=>tyV K T x H1∧t σ H1 fun xs H2=>r x xs H2 Q
variable {o e:Expr}{es:List Expr}{to:TE}{t:TA}{name:Str}{apos cpos:Pos}{T id:String}{r:V→List V→Hp→VK→Prop}
theorem pe_bm0 (pa:PlainAttrs T) (slot:Slot T name id) (hty:typeOf (.builtin id)=pure (.type "method_descriptor")) (hm:MtR X id r) (ho:PE X o to)
  (hbase:attributeBase o name X.env (eval o X.env)=eval o X.env:=by rfl) (hline:(apos.endLine == cpos.line)=true:=by rfl):PE X (.Call (.Attribute o name apos) [] [] cpos) (tBM0 X.K T r to):=by
 intro pins s σ H Q I h
 refine wpAny_Call_method0_late hbase hline (thn (ho pins s σ H _ I h) fun v s1 ⟨x,H1,I1,r1,ty,q1⟩=>?_)
 obtain ⟨h1,h2⟩:=tyV_is I1 r1 ty
 exact ⟨T,id,pa,slot,hty,h1,h2,Calls.callWith_builtin rfl (PySem.evalArgs_none (hm pins s1 σ H1 x [] v [] Q I1 r1 .nil q1))⟩
theorem pe_bm (pa:PlainAttrs T) (slot:Slot T name id) (hty:typeOf (.builtin id)=pure (.type "method_descriptor")) (hm:MtR X id r) (ho:PE X o to) (ha:PA X (e :: es) t)
  (hbase:attributeBase o name X.env (eval o X.env)=eval o X.env:=by rfl)
  (hfew:((backTo cpos (starEach (e :: es) X.env)).all (fun x=>!x.1) && (backToKw cpos (keywordEach [] X.env)).all (fun x=>x.1.isSome)
   && decide ((e :: es).length+([]:List Keyword).length+(if ([]:List Keyword).isEmpty then 0 else 1)<30))=true:=by rfl)
  (hline:(apos.endLine == cpos.line)=true:=by rfl) (hs:starEach (e :: es) X.env=(false,eval e X.env) :: starEach es X.env:=by rfl) (hplain:(backTo cpos (starEach es X.env)).any (·.1)=false:=by rfl) :
  PE X (.Call (.Attribute o name apos) (e :: es) [] cpos) (tBM X.K T r to t):=by
 intro pins s σ H Q I h
 refine wpAny_Call_method_late hbase hfew hline rfl (thn (ho pins s σ H _ I h) fun v s1 ⟨x,H1,I1,r1,ty,q1⟩=>?_)
 obtain ⟨h1,h2⟩:=tyV_is I1 r1 ty
 refine ⟨T,id,pa,slot,hty,h1,h2,?_⟩
 have hA:=ha cpos pins s1 σ H1 _ I1 q1
 rw [hs] at hA ⊢
 refine Calls.callWith_builtin (by show (false || (backTo cpos (starEach es X.env)).any (·.1))=false;rw [hplain] <;> rfl) (Calls.evalArgs_plain ?_)
 exact thn hA fun us s2 ⟨vs,H2,I2,r2,q2⟩=>hm pins s2 σ H2 x vs v us Q I2 r1 r2 q2
/- xs.append(e),list.index on a module's tuple .. are MtR facts of 06m -/
end
def MtM (X:Cx) (id:String) (r:V→List V→Hp→VK→Prop):Prop :=
 ∀ (pins:List (Addr × Obj)) (s:Shared) (σ:St) (H:Hp) (x:V) (xs:List V) (v:Value) (us:List Value) (Q:VK),Inv X pins σ H s→RelV x v→Vals xs us→r x xs H Q →
  wpAny (model X.prog X.w) X.A (call (.builtin id) (v :: us)) (EP X pins σ Q) X.xe s
theorem Vals.one:∀ {x:V}{us:List Value},Vals [x] us→∃ u,us=[u]∧RelV x u
 | _,_,.cons r .nil=>⟨_,rfl,r⟩
theorem Vals.two:∀ {x y:V}{us:List Value},Vals [x,y] us→∃ u v,us=[u,v]∧RelV x u∧RelV y v
 | _,_,_,.cons r (.cons q .nil)=>⟨_,_,rfl,r,q⟩
theorem Vals.zero:∀ {us:List Value},Vals [] us→us=[]
 | _,.nil=>rfl
theorem Vals.dropLast {xs:List V}{us:List Value} (h:Vals xs us):Vals xs.dropLast us.dropLast:=by
 induction h with
 | nil=>exact .nil
 | cons r t ih =>
  cases t with
  | nil=>exact .nil
  | cons q t'=>exact .cons r ih
theorem Vals.eraseIdx:∀ {xs:List V}{us:List Value} (i:Nat),Vals xs us→Vals (xs.eraseIdx i) (us.eraseIdx i)
 | _,_,_,.nil=>.nil
 | _,_,0,.cons _ t=>t
 | _,_,i+1,.cons r t=>.cons r (Vals.eraseIdx i t)
theorem erase_last {α:Type} (l:List α):l.eraseIdx (l.length - 1)=l.dropLast:=by
 induction l with
 | nil=>rfl
 | cons a r ih =>
  cases r with
  | nil=>rfl
  | cons b r =>
   have e:(a :: b :: r).length - 1=((b :: r).length - 1)+1:=by
    have h1:(a :: b :: r).length=r.length+2:=rfl
    have h2:(b :: r).length=r.length+1:=rfl
    omega
   rw [e,List.eraseIdx_cons_succ,ih]
   all_goals rfl
section
variable {X:Cx}{pins:List (Addr × Obj)}{σ:St}{H:Hp}{s:Shared}{l b:Addr}{xs ys zs:List V}
theorem Inv.lset {its its':List Value}{n:Nat}{f:Array Value→Array Value}{t':Nat} (I:Inv X pins σ H s) (hH:H l=some (.lst xs))
  (e:s.heap.get? l=some { cls:=.type "list",data:=.seq its.toArray n }) (hf:f its.toArray=its'.toArray) (hv:Vals ys its') (hz:ys.length≤sizeLine) :
  Inv X pins σ (upd H l (.lst ys)) { s with heap:=s.heap.update l (Obj.mapSeq f),toks:=t' }:=by
 have q:=PySem.IsL.update e f
 rw [hf] at q
 refine I.write (x:=l) (e:=l) (by rw [hH];exact trivial) (.inl rfl) (fun b' u hb hu=>(Heap.get?_update_other s.heap (Obj.mapSeq f) (Ne.symm hb)).trans hu) ⟨_,q⟩ ?_
 exact ⟨hz,its',_,hv,q⟩
theorem Inv.lnew {its:List Value}{t':Nat} (I:Inv X pins σ H s) (hv:Vals ys its) (hz:ys.length≤sizeLine) :
  Inv X pins σ (upd H s.heap.objs.size (.lst ys)) { s with heap:=s.heap.push { cls:=.type "list",data:=.seq its.toArray },toks:=t' } :=
 I.laid (fun _ _ q=>Heap.get?_push_of_some _ q) (Nat.le_refl _) ⟨hz,its,0,hv,Heap.get?_push_size _ rfl⟩
theorem Inv.fresh (I:Inv X pins σ H s):H s.heap.objs.size=none:=I.hok.fresh (Nat.le_refl _)
theorem Inv.lstM (I:Inv X pins σ H s) (hH:H l=some (.lst xs)):xs.length≤sizeLine∧∃ (its:List Value) (n:Nat),Vals xs its∧xs.length=its.length∧s.heap.get? l=some { cls:=.type "list",data:=.seq its.toArray n }:=by
 obtain ⟨z,its,n,r,e⟩:=I.hok l _ hH
 exact ⟨z,its,n,r,r.length,e⟩
theorem notLongL {n:Nat} (h:n≤sizeLine):Builtin.List.listTooLong n=false:=by
 unfold Builtin.List.listTooLong
 exact decide_eq_false (by omega)
end
section
variable {X:Cx}
def rAppend:V→List V→Hp→VK→Prop:=fun x vs H Q=>∃ l xs y,x=.ref l∧vs=[y]∧H l=some (.lst xs)∧xs.length<sizeLine∧Q .non (upd H l (.lst (xs ++ [y])))
theorem mt_append:MtM X "list.append" rAppend:=by
 intro pins s σ H x vs v us Q I rx rv h
 obtain ⟨l,xs,y,rfl,rfl,hH,hz,q⟩:=h
 cases rx
 obtain ⟨u,rfl,ru⟩:=rv.one
 obtain ⟨z,its,n,r,hl,e⟩:=I.lstM hH
 refine call_meets F.slot_list_append ⟨_,e,rfl⟩ F.entry_list_append (F.args_list_append_2 _ _) (PySem.list_append l its.toArray n u (by rw [List.size_toArray];omega)) ⟨e,?_⟩
 refine ⟨.non,_,I.lset (its':=its ++ [u]) hH e (by simp) (r.append (.cons ru .nil)) ?_,rfl,q⟩
 rw [List.length_append,List.length_singleton]
 omega
def rExtend:V→List V→Hp→VK→Prop:=fun x vs H Q=>∃ l b xs zs,x=.ref l∧vs=[.ref b]∧H l=some (.lst xs)∧H b=some (.lst zs)∧xs.length+zs.length≤sizeLine∧Q .non (upd H l (.lst (xs ++ zs)))
theorem mt_extend:MtM X "list.extend" rExtend:=by
 intro pins s σ H x vs v us Q I rx rv h
 obtain ⟨l,b,xs,zs,rfl,rfl,hH,hB,hz,q⟩:=h
 cases rx
 obtain ⟨u,rfl,ru⟩:=rv.one
 cases ru
 obtain ⟨z,its,n,r,hl,e⟩:=I.lstM hH
 obtain ⟨z2,its2,n2,r2,hl2,e2⟩:=I.lstM hB
 have hsz:its.toArray.size+its2.toArray.size≤sizeLine:=by rw [List.size_toArray,List.size_toArray];omega
 have hlong:¬ (!its.toArray.isEmpty && Builtin.List.listTooLong (its.toArray.size+its2.toArray.size))=true:=by
  rw [notLongL hsz,Bool.and_false]
  exact Bool.false_ne_true
 refine call_meets F.slot_list_extend ⟨_,e,rfl⟩ F.entry_list_extend (F.args_list_extend_2 _ _)
  (AutoSeq1.list_extend_list_list_0 l its.toArray n b its2.toArray n2 hlong (by rw [List.size_toArray];omega) (by omega)) ⟨e,e2,?_⟩
 refine ⟨.non,_,I.lset (its':=its ++ its2) hH e (by simp) (r.append r2) ?_,rfl,q⟩
 rw [List.length_append]
 omega
def rPop:V→List V→Hp→VK→Prop:=fun x vs H Q=>∃ l xs y,x=.ref l∧vs=[]∧H l=some (.lst xs)∧xs[xs.length - 1]? = some y∧Q y (upd H l (.lst xs.dropLast))
theorem mt_pop:MtM X "list.pop" rPop:=by
 intro pins s σ H x vs v us Q I rx rv h
 obtain ⟨l,xs,y,rfl,rfl,hH,hy,q⟩:=h
 cases rx
 have hus:=rv.zero
 subst hus
 obtain ⟨z,its,n,r,hl,e⟩:=I.lstM hH
 obtain ⟨u,hu,ru⟩:=r.get hy
 have hy':its.toArray[its.toArray.size - 1]? = some u:=by
  show its.toArray[its.length - 1]? = some u
  rw [← Array.getElem?_toList,← hl]
  exact hu
 refine call_meets F.slot_list_pop ⟨_,e,rfl⟩ F.entry_list_pop (F.args_list_pop_1 _) (MeetsSeq.list_pop_last l its.toArray n u hy' (by rw [List.size_toArray];omega)) ⟨e,?_⟩
 refine ⟨y,_,I.lset (its':=its.dropLast) hH e ?_ r.dropLast ?_,ru,q⟩
 ·show its.toArray.eraseIdxIfInBounds (its.toArray.size - 1)=its.dropLast.toArray
  rw [List.size_toArray,List.eraseIdxIfInBounds_toArray,erase_last]
 ·rw [List.length_dropLast]
  omega
def rClear:V→List V→Hp→VK→Prop:=fun x vs H Q=>∃ l xs,x=.ref l∧vs=[]∧H l=some (.lst xs)∧Q .non (upd H l (.lst []))
theorem mt_clear:MtM X "list.clear" rClear:=by
 intro pins s σ H x vs v us Q I rx rv h
 obtain ⟨l,xs,rfl,rfl,hH,q⟩:=h
 cases rx
 have hus:=rv.zero
 subst hus
 obtain ⟨z,its,n,r,hl,e⟩:=I.lstM hH
 refine call_meets F.slot_list_clear ⟨_,e,rfl⟩ F.entry_list_clear (F.args_list_clear_1 _) (AutoSeq1.list_clear_list_0 l its.toArray n (by rw [List.size_toArray];omega)) ⟨e,?_⟩
 exact ⟨.non,_,I.lset (its':=[]) (ys:=[]) hH e rfl .nil (Nat.zero_le _),rfl,q⟩
def rCat:R2:=fun x y H Q=>∃ l b xs zs,x=.ref l∧y=.ref b∧H l=some (.lst xs)∧H b=some (.lst zs)∧xs.length+zs.length≤sizeLine∧∀ p,H p=none→Q (.ref p) (upd H p (.lst (xs ++ zs)))
theorem op_cat:OpR X (binaryOp .Add) rCat:=by
 intro pins s σ H x y v u Q I rx ry h
 obtain ⟨l,b,xs,zs,rfl,rfl,hH,hB,hz,q⟩:=h
 cases rx
 cases ry
 obtain ⟨z,its,n,r,hl,e⟩:=I.lstM hH
 obtain ⟨z2,its2,n2,r2,hl2,e2⟩:=I.lstM hB
 refine PySem.P.add_list e e2 ?_ (by rw [List.size_toArray,List.size_toArray];omega)
 have ea:its.toArray ++ its2.toArray=(its ++ its2).toArray:=by simp
 rw [ea]
 exact ⟨.ref _,_,I.lnew (t':=s.toks) (r.append r2) (by rw [List.length_append];omega),rfl,q _ I.fresh⟩
end
section
variable {prog:Program}{w:World}{A:Around}{E:Value→Shared→Prop}{s:Shared}
end
section
variable {X:Cx}
end
section
variable {κ:Type} [DecidableEq κ]
def valV (kvs:List (κ × V)) (k:κ):Option V:=(kvs.find? fun kv=>decide (kv.1=k)).map (·.2)
def putK (kvs:List (κ × V)) (k:κ) (v:V):List (κ × V) :=
 if (kvs.any fun kv=>decide (kv.1=k))=true then kvs.map (fun kv=>if kv.1=k then (kv.1,v) else kv) else kvs ++ [(k,v)]
theorem valV_pos {p:κ × V}{r:List (κ × V)}{k:κ} (e:p.1=k):valV (p :: r) k=some p.2:=by simp [valV,List.find?_cons,e]
theorem valV_neg {p:κ × V}{r:List (κ × V)}{k:κ} (e:¬ p.1=k):valV (p :: r) k=valV r k:=by simp [valV,List.find?_cons,e]
theorem valV_any (k:κ):∀ kvs:List (κ × V),(kvs.any fun kv=>decide (kv.1=k))=(valV kvs k).isSome
 | []=>rfl
 | p :: r=>by
  rw [List.any_cons]
  by_cases e:p.1=k
  ·simp only [valV_pos e,decide_eq_true e,Bool.true_or,Option.isSome_some]
  ·rw [valV_neg e,decide_eq_false e,Bool.false_or];exact valV_any k r
theorem valV_map (k j:κ) (y:V):∀ kvs:List (κ × V),valV (kvs.map fun kv=>if kv.1=k then (kv.1,y) else kv) j=(valV kvs j).map fun x=>if j=k then y else x
 | []=>rfl
 | p :: r=>by
  have ih:=valV_map k j y r
  rw [List.map_cons]
  by_cases h:p.1=k
  ·rw [if_pos h]
   by_cases e:p.1=j
   ·rw [valV_pos (p:=(p.1,y)) e,valV_pos e,Option.map_some,if_pos (e.symm.trans h)]
   ·rw [valV_neg (p:=(p.1,y)) e,valV_neg e,ih]
  ·rw [if_neg h]
   by_cases e:p.1=j
   ·rw [valV_pos (p:=p) e,valV_pos e,Option.map_some,if_neg (fun z=>h (e.trans z))]
   ·rw [valV_neg (p:=p) e,valV_neg e,ih]
theorem valV_snoc (k j:κ) (y:V):∀ kvs:List (κ × V),valV kvs k=none→valV (kvs ++ [(k,y)]) j=if j=k then some y else valV kvs j
 | [],_=>by
  by_cases e:k=j
  ·rw [if_pos e.symm];exact valV_pos (p:=(k,y)) e
  ·rw [if_neg (fun z=>e z.symm)];exact valV_neg (p:=(k,y)) e
 | p :: r,hn=>by
  rw [List.cons_append]
  have hk:¬ p.1=k:=fun z=>by rw [valV_pos z] at hn;cases hn
  rw [valV_neg hk] at hn
  have ih:=valV_snoc k j y r hn
  by_cases e:p.1=j
  ·rw [valV_pos e,valV_pos e,if_neg (fun z=>hk (e.trans z))]
  ·rw [valV_neg e,valV_neg e,ih]
theorem valV_put (kvs:List (κ × V)) (k j:κ) (y:V):valV (putK kvs k y) j=if j=k then some y else valV kvs j:=by
 unfold putK
 by_cases a:(kvs.any fun kv=>decide (kv.1=k))=true
 ·rw [if_pos a,valV_map]
  rw [valV_any] at a
  by_cases e:j=k
  ·obtain ⟨x,hx⟩:=Option.isSome_iff_exists.mp a
   rw [if_pos e,e,hx,Option.map_some,if_pos rfl]
  ·rw [if_neg e]
   cases valV kvs j with
   | none=>rfl
   | some x=>rw [Option.map_some,if_neg e]
 ·rw [if_neg a]
  refine valV_snoc k j y kvs ?_
  rw [valV_any] at a
  cases q:valV kvs k with
  | none=>rfl
  | some x=>rw [q] at a;exact (a rfl).elim
theorem length_putK (kvs:List (κ × V)) (k:κ) (v:V):(putK kvs k v).length≤kvs.length+1:=by
 unfold putK
 split
 ·rw [List.length_map];omega
 ·rw [List.length_append,List.length_cons,List.length_nil];omega
theorem RelO.isSome_eq {o:Option V}{u:Option Value} (r:RelO o u):o.isSome=u.isSome:=by
 cases o with
 | none=>cases u with
  | none=>rfl
  | some _=>exact (show False from r).elim
 | some _=>cases u with
  | none=>exact (show False from r).elim
  | some _=>rfl
theorem RelO.getD {o:Option V}{u:Option Value}{d:V}{d':Value} (r:RelO o u) (rd:RelV d d'):RelV (o.getD d) (u.getD d'):=by
 cases o with
 | none=>cases u with
  | none=>exact rd
  | some _=>exact (show False from r).elim
 | some _=>cases u with
  | none=>exact (show False from r).elim
  | some _=>exact r
theorem KV.val {kvs:List (κ × V)}{vs:List (κ × Value)} (r:KV kvs vs) (k:κ):RelO (valV kvs k) (valueAt vs k):=by
 unfold KV at r
 induction r with
 | nil=>exact True.intro
 | @cons p q ps qs h t ih =>
  obtain ⟨h1,h2⟩:=h
  by_cases e:p.1=k
  ·have e':q.1=k:=h1.symm.trans e
   have b:valueAt (q :: qs) k=some q.2:=by simp [valueAt,List.find?_cons,e']
   rw [valV_pos e,b];exact h2
  ·have e':¬ q.1=k:=fun z=>e (h1.trans z)
   have b:valueAt (q :: qs) k=valueAt qs k:=by simp [valueAt,List.find?_cons,e']
   rw [valV_neg e,b];exact ih
theorem KV.any {kvs:List (κ × V)}{vs:List (κ × Value)} (r:KV kvs vs) (k:κ):(kvs.any fun kv=>decide (kv.1=k))=vs.any fun kv=>decide (kv.1=k):=by
 unfold KV at r
 induction r with
 | nil=>rfl
 | cons h t ih=>rw [List.any_cons,List.any_cons,ih,h.1]
theorem KV.repl {kvs:List (κ × V)}{vs:List (κ × Value)} (r:KV kvs vs) (k:κ) {y:V}{u:Value} (ry:RelV y u) :
  KV (kvs.map fun kv=>if kv.1=k then (kv.1,y) else kv) (vs.map fun kv=>if kv.1=k then (kv.1,u) else kv):=by
 unfold KV at r ⊢
 induction r with
 | nil=>exact .nil
 | @cons p q ps qs h t ih =>
  rw [List.map_cons,List.map_cons]
  refine .cons ?_ ih
  obtain ⟨h1,h2⟩:=h
  by_cases e:p.1=k
  ·rw [if_pos e,if_pos (h1.symm.trans e)];exact ⟨h1,ry⟩
  ·rw [if_neg e,if_neg (fun z=>e (h1.trans z))];exact ⟨h1,h2⟩
theorem KV.put {kvs:List (κ × V)}{vs:List (κ × Value)} (r:KV kvs vs) (k:κ) {y:V}{u:Value} (ry:RelV y u):KV (putK kvs k y) (stored vs k u):=by
 unfold putK stored
 rw [r.any k]
 by_cases e:(vs.any fun kv=>decide (kv.1=k))=true
 ·rw [if_pos e,if_pos e];exact r.repl k ry
 ·rw [if_neg e,if_neg e];exact Paired.snoc r ⟨rfl,ry⟩
theorem KV.keys {kvs:List (κ × V)}{vs:List (κ × Value)} (r:KV kvs vs):kvs.map (·.1)=vs.map (·.1):=by
 unfold KV at r
 induction r with
 | nil=>rfl
 | cons h t ih=>rw [List.map_cons,List.map_cons,ih,h.1]
theorem KV.length {kvs:List (κ × V)}{vs:List (κ × Value)} (r:KV kvs vs):kvs.length=vs.length:=Paired.length r
end
theorem kV_is {P:Program}{w:World}{k:Key}{u:Value} (r:RelV (kV k) u):(mixKind P w).is k u=true:=by
 cases k with
 | inl i=>obtain ⟨t,e⟩:=(show ∃ t,u=Value.int i t from r);subst e;exact mixKind_int P w i t
 | inr x=>obtain ⟨t,e⟩:=(show ∃ t,u=Value.str x t from r);subst e;exact mixKind_str P w x t
theorem items_are {P:Program}{w:World}:∀ {ks:List Key}{us:List Value},Vals (ks.map kV) us→ItemsAre (mixKind P w) ks us
 | [],_,r=>by rw [List.map_nil] at r;cases r;exact .nil
 | k :: ks,_,r=>by
  rw [List.map_cons] at r
  cases r with
  | cons h t=>exact .cons (kV_is h) (items_are t)
abbrev KT (H:Hp):List (List Key × V)→List (List Key × Addr × Value)→Prop:=Paired fun p q=>p.1=q.1∧H q.2.1=some (.tup (p.1.map kV))∧RelV p.2 q.2.2
theorem KT.val {H:Hp}{kvs:List (List Key × V)}{xs:List (List Key × Addr × Value)} (r:KT H kvs xs) (k:List Key):RelO (valV kvs k) ((atKey xs k).map (·.2)):=by
 induction r with
 | nil=>exact True.intro
 | @cons p q ps qs h t ih =>
  obtain ⟨h1,_,h2⟩:=h
  by_cases e:p.1=k
  ·have e':q.1=k:=h1.symm.trans e
   have b:atKey (q :: qs) k=some q.2:=by simp [atKey,List.find?_cons,e']
   rw [valV_pos e,b];exact h2
  ·have e':¬ q.1=k:=fun z=>e (h1.trans z)
   have b:atKey (q :: qs) k=atKey qs k:=by simp [atKey,List.find?_cons,e']
   rw [valV_neg e,b];exact ih
theorem KT.repl {H:Hp}{kvs:List (List Key × V)}{xs:List (List Key × Addr × Value)} (r:KT H kvs xs) (k:List Key) {y:V}{u:Value} (ry:RelV y u) :
  KT H (kvs.map fun kv=>if kv.1=k then (kv.1,y) else kv) (xs.map (putAt k u)):=by
 induction r with
 | nil=>exact .nil
 | @cons p q ps qs h t ih =>
  rw [List.map_cons,List.map_cons]
  refine .cons ?_ ih
  obtain ⟨h1,h2,h3⟩:=h
  unfold putAt
  by_cases e:p.1=k
  ·rw [if_pos e,if_pos (h1.symm.trans e)];exact ⟨h1,h2,ry⟩
  ·rw [if_neg e,if_neg (fun z=>e (h1.trans z))];exact ⟨h1,h2,h3⟩
theorem KT.put {H:Hp}{kvs:List (List Key × V)}{xs:List (List Key × Addr × Value)} (r:KT H kvs xs) (k:List Key) {b:Addr}{y:V}{u:Value} (hb:H b=some (.tup (k.map kV))) (ry:RelV y u) :
  KT H (putK kvs k y) (storedH xs k b u):=by
 have e:(kvs.any fun kv=>decide (kv.1=k))=(atKey xs k).isSome:=by
  rw [valV_any,(r.val k).isSome_eq,Option.isSome_map]
 unfold putK storedH
 rw [e]
 by_cases q:(atKey xs k).isSome=true
 ·rw [if_pos q,if_pos q];exact r.repl k ry
 ·rw [if_neg q,if_neg q];exact Paired.snoc r ⟨rfl,hb,ry⟩
theorem KT.keeps {H H':Hp}{kvs:List (List Key × V)}{xs:List (List Key × Addr × Value)} (r:KT H kvs xs) (ht:∀ b ys,H b=some (.tup ys)→H' b=some (.tup ys)):KT H' kvs xs :=
 Paired.mapP r fun _ _ z=>⟨z.1,ht _ _ z.2.1,z.2.2⟩
section
variable {P:Program}{w:World}{H:Hp}{h:Heap}{a:Addr}
theorem rd_of {u:HO} (ok:HOk P w H h) (e:Rd H a u):ObjOk P w H h a u:=e.ok ok
theorem dk_rd {kvs:List (Key × V)} (ok:HOk P w H h) (e:Rd H a (.dK kvs)):kvs.length≤sizeLine∧(a == sysModules)=false∧∃ vs,KV kvs vs∧h.DictOf (mixKind P w) a vs :=
 show ObjOk P w H h a (.dK kvs) from rd_of ok e
theorem dk_of {kvs:List (Key × V)} (ok:HOk P w H h) (e:H a=some (.dK kvs)):kvs.length≤sizeLine∧(a == sysModules)=false∧∃ vs,KV kvs vs∧h.DictOf (mixKind P w) a vs:=dk_rd ok (.inl e)
theorem key_of {ks:List Key} (ok:HOk P w H h) (e:H a=some (.tup (ks.map kV))):(tupleKind (mixKind P w)).is h ks a:=by
 obtain ⟨_,its,r,o,h1,h2,n,h3⟩:=(show ObjOk P w H h a (.tup (ks.map kV)) from ok a _ e)
 exact ⟨o,its.toArray,n,h1,h2,h3,by simpa using items_are r⟩
theorem dt_rd {kvs:List (List Key × V)} (ok:HOk P w H h) (e:Rd H a (.dT kvs)):kvs.length≤sizeLine∧(a == sysModules)=false ∧
  ∃ xs,KT H kvs xs∧h.DictOfH (tupleKind (mixKind P w)) a xs:=by
 obtain ⟨z,y,xs,r,o,es,ep,h1,h2,h3,h4,h5⟩:=(show ObjOk P w H h a (.dT kvs) from rd_of ok e)
 refine ⟨z,y,xs,r,o,es,ep,h1,h2,h3,h4,fun x hx=>?_,h5⟩
 have all:∀ {l:List (List Key × V)}{m:List (List Key × Addr × Value)},KT H l m→∀ x∈m,(tupleKind (mixKind P w)).is h x.1 x.2.1:=by
  intro l m q
  induction q with
  | nil=>intro x hx;exact nomatch hx
  | @cons p q ps qs hq t ih =>
   intro x hx
   rcases List.mem_cons.mp hx with e | hx
   ·subst e
    exact key_of ok (by rw [← hq.1];exact hq.2.1)
   ·exact ih x hx
 exact all r x hx
theorem dt_of {kvs:List (List Key × V)} (ok:HOk P w H h) (e:H a=some (.dT kvs)):kvs.length≤sizeLine∧(a == sysModules)=false ∧
  ∃ xs,KT H kvs xs∧h.DictOfH (tupleKind (mixKind P w)) a xs:=dt_rd ok (.inl e)
end
def DGet (H:Hp) (a:Addr) (y:V) (r:Option V):Prop :=
 (∃ kvs k,Rd H a (.dK kvs)∧y=kV k∧r=valV kvs k)∨∃ kvs k b,Rd H a (.dT kvs)∧y=.ref b∧H b=some (.tup (k.map kV))∧r=valV kvs k
def DPut (H:Hp) (a:Addr) (y v:V) (H':Hp):Prop :=
 (∃ kvs k,H a=some (.dK kvs)∧y=kV k∧kvs.length<sizeLine∧H'=upd H a (.dK (putK kvs k v))) ∨
 ∃ kvs k b,H a=some (.dT kvs)∧y=.ref b∧H b=some (.tup (k.map kV))∧kvs.length<sizeLine∧H'=upd H a (.dT (putK kvs k v))
theorem DGet.k {H:Hp}{a:Addr}{kvs:List (Key × V)}{k:Key} (e:H a=some (.dK kvs)):DGet H a (kV k) (valV kvs k):=.inl ⟨kvs,k,.inl e,rfl,rfl⟩
theorem DGet.t {H:Hp}{a b:Addr}{kvs:List (List Key × V)}{k:List Key} (e:H a=some (.dT kvs)) (eb:H b=some (.tup (k.map kV))):DGet H a (.ref b) (valV kvs k):=.inr ⟨kvs,k,b,.inl e,rfl,eb,rfl⟩
theorem DPut.k {H:Hp}{a:Addr}{kvs:List (Key × V)}{k:Key}{v:V} (e:H a=some (.dK kvs)) (hl:kvs.length<sizeLine):DPut H a (kV k) v (upd H a (.dK (putK kvs k v))):=.inl ⟨kvs,k,e,rfl,hl,rfl⟩
theorem DPut.t {H:Hp}{a b:Addr}{kvs:List (List Key × V)}{k:List Key}{v:V} (e:H a=some (.dT kvs)) (eb:H b=some (.tup (k.map kV))) (hl:kvs.length<sizeLine) :
  DPut H a (.ref b) v (upd H a (.dT (putK kvs k v))):=.inr ⟨kvs,k,b,e,rfl,eb,hl,rfl⟩
section
variable {X:Cx}{pins:List (Addr × Obj)}{σ:St}{H:Hp}{s:Shared}{a:Addr}{y v:V}{u r:Value}{o:Option V}{A:Around}{E:Value→Shared→Prop}
theorem Inv.big (I:Inv X pins σ H s):sysModules<s.heap.objs.size:=by
 have h:mainGlobals<s.heap.objs.size:=(I.mod.glob.keeps I.bk).lt
 exact Nat.lt_trans (by decide) h
theorem d_in {Q:Value→Shared→Prop} (hu:A.units+1<cLine) (I:Inv X pins σ H s) (g:DGet H a y o) (ry:RelV y u) (h:∀ s',Inv X pins σ H s'→Q (.bool o.isSome) s') :
  wpAny (model X.prog X.w) A (compareOp .In u (.ref a)) Q E s:=by
 rcases g with ⟨kvs,k,e,ey,l⟩ | ⟨kvs,k,b,e,ey,eb,l⟩
 ·subst ey
  obtain ⟨z,hd,vs,rel,dd⟩:=dk_rd I.hok e
  refine wpAny_in_of (kV_is ry) hd dd.mapOf ?_
  rw [← (rel.val k).isSome_eq,← l]
  exact h _ (I.tok _)
 ·subst ey
  cases (show u=Value.ref b from ry)
  obtain ⟨z,hd,xs,rel,dd⟩:=dt_rd I.hok e
  refine wpAny_in_heap (tupleKind_room_in1 hu) (key_of I.hok eb) hd dd ?_
  have q:=(rel.val k).isSome_eq
  rw [Option.isSome_map] at q
  rw [← q,← l]
  exact h _ (I.tok _)
theorem d_notIn {Q:Value→Shared→Prop} (hu:A.units+1<cLine) (I:Inv X pins σ H s) (g:DGet H a y o) (ry:RelV y u) (h:∀ s',Inv X pins σ H s'→Q (.bool (!o.isSome)) s') :
  wpAny (model X.prog X.w) A (compareOp .NotIn u (.ref a)) Q E s:=by
 rcases g with ⟨kvs,k,e,ey,l⟩ | ⟨kvs,k,b,e,ey,eb,l⟩
 ·subst ey
  obtain ⟨z,hd,vs,rel,dd⟩:=dk_rd I.hok e
  refine wpAny_notIn_of (kV_is ry) hd dd.mapOf ?_
  rw [← (rel.val k).isSome_eq,← l]
  exact h _ (I.tok _)
 ·subst ey
  cases (show u=Value.ref b from ry)
  obtain ⟨z,hd,xs,rel,dd⟩:=dt_rd I.hok e
  refine wpAny_notIn_heap (tupleKind_room_in1 hu) (key_of I.hok eb) hd dd ?_
  have q:=(rel.val k).isSome_eq
  rw [Option.isSome_map] at q
  rw [← q,← l]
  exact h _ (I.tok _)
theorem d_write {h':Heap}{t':Nat}{ob:HO} (I:Inv X pins σ H s) (mu:Mut (H a)) (hs:Heap.SameBut a s.heap h') (he:∃ q,h'.get? a=some q) (new:ObjOk X.prog X.w (upd H a ob) h' a ob) :
  Inv X pins σ (upd H a ob) { s with heap:=h',toks:=t' } :=
 I.write (x:=a) (e:=a) mu (.inl rfl) (fun b q hb z=>(hs.2 b hb).trans z) he new
theorem dk_new {P:Program}{w:World}{H':Hp}{h':Heap}{kvs:List (Key × V)}{vs:List (Key × Value)} (z:kvs.length≤sizeLine) (hd:(a == sysModules)=false) (rel:KV kvs vs) (dd:h'.DictOf (mixKind P w) a vs) :
  ObjOk P w H' h' a (.dK kvs):=⟨z,hd,vs,rel,dd⟩
theorem d_setItem {H':Hp}{Q:Unit→Shared→Prop} (hu:A.units+1<cLine) (I:Inv X pins σ H s) (g:DPut H a y v H') (ry:RelV y u) (rv:RelV v r) (h:∀ s',Inv X pins σ H' s'→Q () s') :
  wpAny (model X.prog X.w) A (setItem (.ref a) u r) Q E s:=by
 rcases g with ⟨kvs,k,e,ey,l,eH⟩ | ⟨kvs,k,b,e,ey,eb,l,eH⟩
 ·subst ey eH
  obtain ⟨z,hd,vs,rel,dd⟩:=dk_of I.hok e
  have hz:vs.length≤sizeLine:=by rw [← rel.length];exact z
  have hl:(putK kvs k v).length≤sizeLine:=by have:=length_putK kvs k v;omega
  refine wpAny_setItem_pairs (hsz:=hz) (kV_is ry) dd fun h' dd' hs=>h _ ?_
  have he:∃ q,h'.get? a=some q:=let ⟨q,_,_,hq,_⟩:=dd';⟨q,hq⟩
  exact d_write I (by rw [e];exact True.intro) hs he (dk_new hl hd (rel.put k rv) dd')
 ·subst ey eH
  cases (show u=Value.ref b from ry)
  obtain ⟨z,hd,xs,rel,dd⟩:=dt_of I.hok e
  have hz:xs.length≤sizeLine:=by rw [← Paired.length rel];exact z
  have hl:(putK kvs k v).length≤sizeLine:=by have:=length_putK kvs k v;omega
  refine wpAny_setItem_heap (hsz:=hz) (tupleKind_room_in1 hu) (key_of I.hok eb) dd fun h' dd' hs=>h _ ?_
  obtain ⟨q,es,ep,hq,h2,h3,h4,_,h5⟩:=dd'
  refine d_write I (by rw [e];exact True.intro) hs ⟨q,hq⟩ ⟨hl,hd,_,(rel.put k eb rv).keeps fun c ys ec=>?_,q,es,ep,hq,h2,h3,h4,h5⟩
  rw [upd_ne (ne_of ec e (fun z=>nomatch z))]
  exact ec
end
section
variable {X:Cx}{pins:List (Addr × Obj)}{σ:St}{H:Hp}{s:Shared}{a:Addr}{kvs:List (Key × V)}{k:Key}{u:Value}{A:Around}{E:Value→Shared→Prop}
theorem d_len {Q:Value→Shared→Prop} (I:Inv X pins σ H s) (e:Rd H a (.dK kvs)) (h:∀ t s',Inv X pins σ H s'→Q (.int kvs.length t) s'):wpAny (model X.prog X.w) A (call (.builtin "len") [.ref a]) Q E s:=by
 obtain ⟨z,hd,vs,rel,dd⟩:=dk_rd I.hok e
 refine call_len_dict hd dd (by rw [← rel.length];rw [sizeLine_eq] at z;omega) ?_
 rw [← rel.length]
 exact h _ _ (I.tok _)
end
def tDIn (ty td:TE):TE:=fun σ H Q=>ty σ H fun y H1=>td σ H1 fun x H2=>∃ a o,x=.ref a∧DGet H2 a y o∧Q (.bl o.isSome) H2
def tDNotIn (ty td:TE):TE:=fun σ H Q=>ty σ H fun y H1=>td σ H1 fun x H2=>∃ a o,x=.ref a∧DGet H2 a y o∧Q (.bl (!o.isSome)) H2
def sDPut (td ty tv:TE):TS:=fun D σ H=>tv σ H fun v H1=>td σ H1 fun x H2=>ty σ H2 fun y H3=>∃ a H4,x=.ref a∧DPut H3 a y v H4∧D.nx σ H4
section
variable {X:Cx}{o i e value:Expr}{pos pos' tpos:Pos}{td ty tv:TE}
theorem pc_din (hu:X.A.units+1<cLine) (hi:PE X i ty) (ho:PE X o td):PC X .In i o (tDIn ty td):=by
 intro pins s σ H Q I h
 refine thn (hi pins s σ H _ I h) fun iv s1 ⟨y,H1,I1,ry,q1⟩=>thn (ho pins s1 σ H1 _ I1 q1) fun u s2 ⟨x,H2,I2,rx,a,ov,ex,g,q2⟩=>?_
 subst ex
 obtain rfl:u=Value.ref a:=rx
 exact d_in hu I2 g ry fun s3 I3=>⟨.bl ov.isSome,H2,I3,rfl,q2⟩
theorem pc_dnotin (hu:X.A.units+1<cLine) (hi:PE X i ty) (ho:PE X o td):PC X .NotIn i o (tDNotIn ty td):=by
 intro pins s σ H Q I h
 refine thn (hi pins s σ H _ I h) fun iv s1 ⟨y,H1,I1,ry,q1⟩=>thn (ho pins s1 σ H1 _ I1 q1) fun u s2 ⟨x,H2,I2,rx,a,ov,ex,g,q2⟩=>?_
 subst ex
 obtain rfl:u=Value.ref a:=rx
 exact d_notIn hu I2 g ry fun s3 I3=>⟨.bl (!ov.isSome),H2,I3,rfl,q2⟩
theorem ps_dput (hu:X.A.units+1<cLine) (ho:PE X o td) (hi:PE X i ty) (hv:PE X value tv) (hs:swapsWith value (some (.Subscript o i pos')) pos.line X.env=pure false) :
  PS X (.Assign [.Subscript o i pos'] value pos) (sDPut td ty tv):=by
 intro pins s σ H D I h
 refine wpAny_Assign_Subscript (thn (hv pins s σ H _ I h) fun r s1 ⟨v,H1,I1,rv,q1⟩=>thn (ho pins s1 σ H1 _ I1 q1) fun u s2 ⟨x,H2,I2,rx,q2⟩=>thn (hi pins s2 σ H2 _ I2 q2) fun iv s3 ⟨y,H3,I3,ry,a,H4,ex,g,q3⟩=>?_) hs
 subst ex
 obtain rfl:u=Value.ref a:=rx
 exact d_setItem hu I3 g ry rv fun s4 I4=>⟨σ,H4,I4,q3⟩
end
section
variable {X:Cx}{pos:Pos}
end
def tPairs:List (TE × TE)→St→Hp→(List (V × V)→Hp→Prop)→Prop
 | [],_,H,Q=>Q [] H
 | (tk,tv) :: r,σ,H,Q=>tk σ H fun x H1=>tv σ H1 fun y H2=>tPairs r σ H2 fun ps H3=>Q ((x,y) :: ps) H3
abbrev VV:List (V × V)→List (Value × Value)→Prop:=Paired fun p q=>RelV p.1 q.1∧RelV p.2 q.2
def PPs (X:Cx) (pos:Pos) (keys:List (Option Expr)) (values:List Expr) (trs:List (TE × TE)):Prop :=
 ∀ (pins:List (Addr × Obj)) (s:Shared) (σ:St) (H:Hp) (Q:List (V × V)→Hp→Prop),Inv X pins σ H s→tPairs trs σ H Q →
  wpAny (model X.prog X.w) X.A (evalPairs (pairTrees keys values X.env pos)) (fun vs s'=>∃ ps H',Inv X pins σ H' s'∧VV ps vs∧Q ps H') X.xe s
def mergeK (kvs more:List (Key × V)):List (Key × V):=more.foldl (fun acc kv=>putK acc kv.1 kv.2) kvs
theorem length_mergeK:∀ (more kvs:List (Key × V)),(mergeK kvs more).length≤kvs.length+more.length
 | [],kvs=>by show kvs.length≤kvs.length+0;omega
 | p :: r,kvs=>by
  have h1:=length_mergeK r (putK kvs p.1 p.2)
  have h2:=length_putK kvs p.1 p.2
  show (mergeK (putK kvs p.1 p.2) r).length≤_
  rw [List.length_cons];omega
structure M1 (X:Cx) (o:Expr) (m:Str) (apos:Pos) (e:Expr) (cpos:Pos):Prop where
 base:attributeBase o m X.env (eval o X.env)=eval o X.env
 few:((backTo cpos (starEach [e] X.env)).all (fun x=>!x.1) && (backToKw cpos (keywordEach [] X.env)).all (fun x=>x.1.isSome)
  && decide (([e]:List Expr).length+([]:List Keyword).length+(if ([]:List Keyword).isEmpty then 0 else 1)<30))=true
 line:(apos.endLine == cpos.line)=true
 trees:backTo cpos (starEach [e] X.env)=[(false,eval e X.env)]
structure M2 (X:Cx) (o:Expr) (m:Str) (apos:Pos) (e f:Expr) (cpos:Pos):Prop where
 base:attributeBase o m X.env (eval o X.env)=eval o X.env
 few:((backTo cpos (starEach [e,f] X.env)).all (fun x=>!x.1) && (backToKw cpos (keywordEach [] X.env)).all (fun x=>x.1.isSome)
  && decide (([e,f]:List Expr).length+([]:List Keyword).length+(if ([]:List Keyword).isEmpty then 0 else 1)<30))=true
 line:(apos.endLine == cpos.line)=true
 trees:backTo cpos (starEach [e,f] X.env)=[(false,eval e X.env),(false,eval f X.env)]
section
variable {X:Cx}{pins:List (Addr × Obj)}{σ:St}{H:Hp}{s:Shared}{a:Addr}{y d:V}{u r:Value}{o:Option V}{A:Around}{E:Value→Shared→Prop}
end
section
variable {X:Cx}{o e f:Expr}{apos cpos:Pos}{td ty tx:TE}
end
section
variable {X:Cx}{pins:List (Addr × Obj)}{σ:St}{H:Hp}{s:Shared}{a:Addr}{kvs:List (Key × V)}{A:Around}{E:Value→Shared→Prop}
end
section
variable {X:Cx}{pins:List (Addr × Obj)}{σ:St}{H:Hp}{s:Shared}{a:Addr}{y:V}{u:Value}{A:Around}{E:Value→Shared→Prop}
end
end L2
namespace Att
open PySem PySem.W PySem.Calls PyProof.Rows
theorem ints_of_wellAll {P:Params}{h:Heap}:∀ (ns:List Int) (vs:List Value),WellAll P h vs (ns.map WData.int)→IntsAre vs ns:=by
 intro ns
 induction ns with
 | nil =>
  intro vs w
  rw [List.map_nil] at w
  cases w
  exact .nil
 | cons n ns ih =>
  intro vs w
  rw [List.map_cons] at w
  cases w with
  | cons a b =>
   cases a
   exact .cons _ _ (ih _ b)
theorem script_of {l:OpenLaw}{n:Nat} (hn:l.most=some n) {P:Params}{h:Heap}{args:List WData}{vals:List Value}
  (hpre:l.row.toRowW.claim.pre args=true) (hwl:WellAll P h vals args) :
  ∃ a vs ns,vals=[Value.ref a]∧args=[WData.list (ns.map WData.int)]∧h.get? a=some { cls:=.type "list",data:=.seq vs.toArray }∧IntsAre vs ns∧ns.length≤n:=by
 have hsh:WShape.hasAll [] args [.list .int]=true:=(pre_splitW hpre).1
 have hc:l.pre.holds [] { args:=args }=true:=(pre_splitW hpre).2
 obtain ⟨d,r,rfl,h1,h2⟩:=hasAllW_cons hsh
 obtain rfl:=hasAllW_nil h2
 obtain ⟨xs,rfl,h3⟩:=hasW_list h1
 obtain ⟨ns,rfl⟩:=items_int h3
 have hlen:ns.length≤n:=by
  unfold OpenLaw.pre at hc
  have h4:(WTm.not (.lt (.lit (.int (n:Int))) (.len (.arg 0)))).holds [] { args:=[.list (ns.map .int)] }=true:=by
   have h4:=(holds_andW hc).1
   rw [hn] at h4
   exact h4
  have h5:=condW_of h4 (w_not (w_lt w_lit (w_len_list (w_arg rfl))))
  rw [List.length_map] at h5
  refine Nat.le_of_not_lt fun q=>?_
  have q':(n:Int)<((ns.length:Nat):Int):=by omega
  first
   | (rw [decide_eq_true q'] at h5;exact absurd h5 (by decide))
   | (simp at h5;omega)
 cases hwl with
 | cons w1 w2 =>
  cases w2
  cases w1 with
  | list ho hall=>exact ⟨_,_,ns,rfl,rfl,ho,ints_of_wellAll ns _ hall,hlen⟩
theorem post_true (l:OpenLaw) (args:List WData):l.row.toRowW.claim.post args (.bool true) args=true :=
 postW_of (r:=l.row.toRowW) (X:=(true == true))
  (show WShape.has [] (.bool true) .bool=true by first | rfl | decide | simp [WShape.has,WShape.arms,WShape.armsAll])
  (show (WTm.eq .res (.lit (.bool true))).value [] { args:=args,res:=some (.bool true),after:=args }=some (.bool (true == true)) from w_eq_bool (w_res rfl) w_lit) rfl
theorem attach_call {l:OpenLaw}{n:Nat}{q:Program}{loose:List Str}{XP:(Str→Option Value)→Heap→Prop}{YP:World→Heap→Prop}{d:DefRec}
  (hn:l.most=some n) (hdf:d.params.defaults=[])
  (call:∀ (w:World) (s₀ s₁:Shared) (mg mb:Str→Option Value) (fa:Addr) (o:Obj) (pm cd doc:Value) (a:Addr) (vs:List Value) (ns:List Int),
   Ground q loose [] XP w s₀ mg mb s₁.heap→YP w s₁.heap →
   s₁.heap.get? fa=some o→o.data=.func (docDef d.name d.params d.body d.scope pm cd doc)→s₁.heap.CodeRec cd d.name→mg d.name=some (.ref fa) →
   s₁.heap.get? a=some { cls:=.type "list",data:=.seq vs.toArray }→IntsAre vs ns→ns.length≤n→s₁.gens = #[] →
   codeAny (model l.prog w) callerA (.call (.ref fa) ⟨[.ref a],[]⟩) (fun r s'=>r=.ok (.ret (.bool true))∧OldK s₁.heap s'.heap∧s'.os=s₁.os∧AllBare s'.gens) s₁) :
  WalkO q loose XP YP l.row.toRowW d [] (fun f vs=>PySem.call f vs):=by
 intro w s₀ s₁ mg mb G Y fa o pm cd doc dV kV ho hd hcd hD hmg hg args vals as hpre hlay hrd hwl hlo
 obtain rfl:dV=.none:=Dflts.none hD hdf
 obtain rfl:kV=.none:=Dflts.noKw hD
 obtain ⟨a,vs,ns,rfl,rfl,hobj,hints,hlen⟩:=script_of hn hpre hwl
 refine enter_call (codeAny_mono (call w s₀ s₁ mg mb fa o pm cd doc a vs ns G Y ho (fd_plain hd) hcd hmg hobj hints hlen hg) fun r s' hq=>?_)
 obtain ⟨rfl,h2,h3,h4⟩:=hq
 exact ⟨.inl ⟨.bool true,.bool true,[],rfl,fun _=>rfl,.bool true,post_true l _,fun _=>⟨List.Pairwise.nil,fun _ hm=>(nomatch hm)⟩⟩,h2,h3,h4⟩
section
variable {prog:Program}{w:World}{A:Around}{E:Value→Shared→Prop}{s:Shared}{K:Frag}
def ledger (h:Heap) (L d:Addr):List (Addr × Obj):=(List.range h.objs.size).filterMap fun a=>if a=L∨a=d then none else (h.get? a).map fun o=>(a,o)
end
end Att
namespace L2
open PySem PySem.Spec PyProof.Rows
theorem vals_ints:∀ {vs:List Value}{ns:List Int},IntsAre vs ns→Vals (ns.map V.int) vs
 | _,_,.nil=>.nil
 | _,_,.cons n t h=>.cons ⟨t,rfl⟩ (vals_ints h)
def Only (H:Hp):Prop:=∀ b,H b=none∨∃ o xs,H b=some (.frz o (.lst xs))
theorem law_call {P:Program}{w:World}{K:PySem.W.Frag}{mg mb:Str→Option Value}{CX:CXT}{k:Nat}{fa a:Addr}{fd:FuncData}{x:Str}{sp:Sp}{s₁:Shared}{vs:List Value}{ns:List Int}
  (KX:K.In s₁.heap) (hns:s₁.heap.Ns mainGlobals mg) (hb:s₁.heap.Ns builtinsNs mb) (hbb:∀ x:Str,x ≠ "__name__" → mb x=bootBuiltins x) (hlim:s₁.heap.NoLimit) (hg:s₁.gens = #[])
  (ha:s₁.heap.get? a=some { cls:=.type "list",data:=.seq vs.toArray }) (hi:IntsAre vs ns) (hl:ns.length≤sizeLine) (hr:Room k callerA)
  (F:∀ base:Heap,K.In base→base.Ns mainGlobals mg→FnOk P w K mg base CX k fa fd [x] sp) (hbind:∀ (s:Shared) (u:Value),BindsTo s fd ⟨[u],[]⟩ [(x,u)])
  (hsp:∀ H:Hp,Only H→SqL K H a (ns.map V.int)→sp [.ref a] H (fun v _=>v=.bl true) fun _ _ _=>False)
  (hCX:∀ H e s',CX [] H s₁ (fun _ _ _=>False) e s'→False) :
  codeAny (model P w) callerA (.call (.ref fa) ⟨[.ref a],[]⟩) (fun r s'=>r=.ok (.ret (.bool true))∧OldK s₁.heap s'.heap∧s'.os=s₁.os∧AllBare s'.gens) s₁:=by
 have rv:=vals_ints hi
 have lenV:=hi.length
 -- from an abstract heap in which nothing but the script may be tracked
 have core:∀ H:Hp,Only H→SqL K H a (ns.map V.int)→HOk P w H s₁.heap→(∀ b,H b≠none→b=a)→(H a≠none→K.lookup a=none) →
   codeAny (model P w) callerA (.call (.ref fa) ⟨[.ref a],[]⟩) (fun r s'=>r=.ok (.ret (.bool true))∧OldK s₁.heap s'.heap∧s'.os=s₁.os∧AllBare s'.gens) s₁:=by
  intro H hO hS hok hA hK
  have base_of:∀ {b:Addr}{o:Obj},s₁.heap.get? b=some o→H b=none→(hidT s₁.heap H).get? b=some o:=fun e n=>hidT_get e n
  have noA:∀ {b:Addr}{o:Obj}{es:Array DictEntry}{ep:Nat},s₁.heap.get? b=some o→o.data=.dict es ep→H b=none:=fun {b o es ep} e d=>by
   cases q:H b with
   | none=>rfl
   | some u =>
    have e':b=a:=hA b (by rw [q];simp)
    subst e'
    rw [ha] at e;cases e
    have d':Data.seq vs.toArray _=Data.dict es ep:=d
    cases d'
  have nsK:∀ {b:Addr}{m:Str→Option Value},s₁.heap.Ns b m→(hidT s₁.heap H).Ns b m:=fun {b m} ⟨o,es,ep,e,d,r⟩=>⟨o,es,ep,base_of e (noA e d),d,r⟩
  have hKb:K.In (hidT s₁.heap H):=fun b o e=>base_of (KX b o e) (by
   cases q:H b with
   | none=>rfl
   | some u =>
    have e':b=a:=hA b (by rw [q];simp)
    subst e'
    rw [hK (by rw [q];simp)] at e;cases e)
  have hM:Mod K mg (hidT s₁.heap H):=⟨hKb,nsK hns,⟨mb,nsK hb,hbb⟩,let ⟨mc,h1,h2⟩:=hlim;⟨mc,nsK h1,h2⟩⟩
  have e0:Env0 P w K mg (hidT s₁.heap H) callerA [] s₁ H:=⟨rfl,hM,fun b o e=>of_hidT e,Nat.le_of_eq (hidT_size _ _),trivial,fun b hb=>absurd (show b∈([]:List Addr) from hb) (by simp),hok,.of_eq hg⟩
  refine codeAny_mono ((F _ hKb (nsK hns)).run callerA [] s₁ H ⟨[.ref a],[]⟩ [.ref a] [.ref a] _ _ hr e0 (hbind s₁ (.ref a)) (.cons rfl .nil) (hsp H hO hS)) fun r s' h=>?_
  cases r with
  | error e=>exact (hCX H e s' h).elim
  | ok fl =>
   cases fl with
   | next=>exact False.elim h
   | brk=>exact False.elim h
   | cont=>exact False.elim h
   | ret u =>
    obtain ⟨v,H',os,bare,un,hok',r',q⟩:=h
    have q':v=.bl true:=q
    subst q'
    obtain rfl:u=Value.bool true:=r'
    refine ⟨rfl,OldK.of_keep fun b o e=>?_,os,bare⟩
    cases q:H b with
    | none=>exact un.keep b o e q (by intro z;exact absurd (show b∈([]:List Addr) from z) (by simp)) (by simp)
    | some u =>
     rcases hO b with z | ⟨ob,xs,z⟩
     ·rw [q] at z;cases z
     ·have z2:=un.frzs b ob _ z
      obtain ⟨e1,_⟩:=hok b _ z
      obtain ⟨e2,_⟩:=hok' b _ z2
      rw [e] at e1;cases e1
      exact e2
 cases hk:K.lookup a with
 | some o =>
  -- the script is one of the module's own objects
  have e:=KX a o hk
  rw [ha] at e
  cases e
  refine core (fun _=>none) (fun _=>.inl rfl) (.inr ⟨_,vs.toArray,_,hk,rfl,rfl,rfl,by rw [List.size_toArray,lenV];exact hl,by simpa using rv⟩) (fun b u z=>by have z':(none:Option HO)=some u:=z;cases z') (fun b z=>absurd rfl z) fun z=>absurd rfl z
 | none =>
  refine core (fun b=>if b=a then some (.frz { cls:=.type "list",data:=.seq vs.toArray } (.lst (ns.map V.int))) else none) (fun b=>?_) (.inl (.inr ⟨{ cls:=.type "list",data:=.seq vs.toArray },if_pos rfl⟩)) (fun b u z=>?_) (fun b z=>?_) fun _=>hk
  ·by_cases hb:b=a
   ·exact .inr ⟨_,_,if_pos hb⟩
   ·exact .inl (if_neg hb)
  ·by_cases hb:b=a
   ·have z':=(if_pos hb).symm.trans z
    cases z'
    subst hb
    exact ⟨ha,by rw [List.length_map];exact hl,vs,_,rv,ha⟩
   ·have z':=(if_neg hb).symm.trans z
    cases z'
  ·by_cases hb:b=a
   ·exact hb
   ·exact absurd (if_neg hb) z
abbrev KOf {K:PySem.W.Frag}{h:Heap} (_:K.In h):PySem.W.Frag:=K
theorem walk_of {l:PySem.W.OpenLaw}{n k:Nat}{q:Program}{loose:List Str}{XP:(Str→Option Value)→Heap→Prop}{YP:World→Heap→Prop}{d:DefRec}{K:Params→PySem.W.Frag}{CX:World→CXT}{sp:World→Sp}{x:Str}
  (hn:l.most=some n) (hn2:n≤sizeLine) (hdf:d.params.defaults=[]) (hr:Room k callerA)
  (hY:∀ (w:World) (h:Heap),YP w h→(K w.params).In h)
  (F:∀ (w:World) (mg:Str→Option Value) (fa:Addr) (h:Heap),(K w.params).In h→h.Ns mainGlobals mg→mg d.name=some (.ref fa) →
   ∃ fd:FuncData,(∀ (s:Shared) (u:Value),BindsTo s fd ⟨[u],[]⟩ [(x,u)]) ∧
    ∀ base:Heap,(K w.params).In base→base.Ns mainGlobals mg→FnOk l.prog w (K w.params) mg base (CX w) k fa fd [x] (sp w))
  (hsp:∀ (w:World) (H:Hp) (a:Addr) (ns:List Int),ns.length≤n→Only H→SqL (K w.params) H a (ns.map V.int)→sp w [.ref a] H (fun v _=>v=.bl true) fun _ _ _=>False)
  (hCX:∀ (w:World) (H:Hp) (s:Shared) (e:Value) (s':Shared),CX w [] H s (fun _ _ _=>False) e s'→False) :
  PySem.W.WalkO q loose XP YP l.row.toRowW d [] (fun f vs=>PySem.call f vs):=by
 refine Att.attach_call hn hdf fun w s₀ s₁ mg mb fa o pm cd doc a vs ns G Y ho hd hcd hmg hobj hints hlen hg=>?_
 have KX:=hY w _ Y
 obtain ⟨fd,hb,hF⟩:=F w mg fa _ KX G.T.g hmg
 exact law_call KX G.T.g G.T.b G.T.builtins G.T.nolimit hg hobj hints (Nat.le_trans hlen hn2) hr hF hb (fun H hO hS=>hsp w H a ns hlen hO hS) fun H e s'=>hCX w H s₁ e s'
end L2
/- THE LAST THEOREM (shape;LID,My.* are yours):
   My.Adr: a structure of the addresses that your layer names (classes,functions);My.Txt K t: a structure (Prop) of the equations over K;
   My.txt_mk:{K}{implicit addresses ..} (e1:nsIn K mainGlobals "law" = some (some (.ref f))) (e2:K.lookup f=some ⟨oc,od,.func (fnOf "law" "law" params body scope dV kV doc pm an cdv ct),sl⟩) (e3:codeIn K cdv "law" = true) .. : ∃ t,My.Txt K t
set_option maxRecDepth 100000 in
set_option maxHeartbeats 0 in
theorem PySem.Challenge.cw_LID_holds : PySem.Challenge.rw_LID.Holds := by
 w_on;o_law;k_head;(case hw=>w_witness2)
 k_fill
 refine L2.walk_of (l:=PySem.Challenge.rw_LID) (n:=63) (k:=40) (x:="script") (CX:=fun w=>..) (sp:=fun _=>My.sp_law) rfl (by decide) rfl ⟨rfl,by decide,by decide⟩ (fun w h Y=>PySem.W.kIn_of Y) ?F ?S ?C
 case F =>
  intro w mg fa h KX G hmg
  have T:∃ t,My.Txt (L2.KOf KX) t:=by
   dsimp only [L2.KOf]                          -- K must stand as «<heap const> w.params» for k_is
   refine' My.txt_mk ?e1 ?e2 ?e3 ..
   (case e1 => PySem.W.k_is)                    -- in the order: a name -> its address -> its object -> its parts
   (case e2=>PySem.W.k_is)
   ..
  obtain ⟨t,T⟩:=T
  have e0:=hmg.symm.trans (PySem.W.mg_of KX G T.law)
  cases e0                                       -- fa is the law's own address
  exact ⟨_, fun s u => .of_eq rfl, fun base kb nb => My.law_fn T kb nb⟩     -- if «.of_eq rfl» comes too early: refine' ⟨_, ?b, fun base kb nb => My.law_fn T kb nb⟩; exact fun s u => .of_eq rfl
 case S=>exact fun w H a ns hl hO hS=>..
 case C=>exact ..
(the tactic k_is has no namespace: write k_is) -/
namespace L2
open PySem PySem.Spec PyProof.Rows
def inClass (s:Stmt) (j:Nat):Stmt:=match s with
 | .ClassDef _ _ _ body _ _ _ _ _ _ _=>body.getD j (.Pass ⟨0,0,0,0⟩)
 | _=>.Pass ⟨0,0,0,0⟩
def defArgs (s:Stmt):Arguments:=match s with
 | .FunctionDef _ a _ _ _ _ _ _ _ _=>a
 | _=>{ posonlyargs:=[],args:=[],vararg:=none,kwonlyargs:=[],kw_defaults:=[],kwarg:=none,defaults:=[] }
def defBody (s:Stmt):List Stmt:=match s with
 | .FunctionDef _ _ b _ _ _ _ _ _ _=>b
 | _=>[]
def defScope (s:Stmt):Scope:=match s with
 | .FunctionDef _ _ _ _ _ _ sc _ _ _=>sc
 | _=>{ kind:=.function,names:=[],isGenerator:=false,isCoroutine:=false }
abbrev CX0:CXT:=fun _ _ _ _ _ _=>False
abbrev E0:XK:=fun _ _ _=>False
theorem pass0 {X:Cx}:Passes CX0 X E0:=fun _ _ _ _ _ _ _ h=>h.elim
structure Fun (K:PySem.W.Frag) (x qual:Str) (st:Stmt) (f:Addr) (fd:FuncData):Prop where
 ex:∃ (oc:Value) (od:Option Addr) (kV doc pm:Value) (an:Option Addr) (cdv ct:Value) (osl:Array (Option Value)),
  fd=PySem.W.fnOf x qual (defArgs st) (defBody st) (defScope st) .none kV doc pm an cdv ct∧K.lookup f=some ⟨oc,od,.func fd,osl⟩∧PySem.W.codeIn K cdv qual=true
 kp:PySem.W.keepIn K (.ref f)=true
section
variable {P:Program}{w:World}{K:PySem.W.Frag}{mg:Str→Option Value}{base:Heap}
theorem Fun.ok {x qual:Str}{st:Stmt}{f:Addr}{fd:FuncData}{N ps:List Str}{k:Nat}{sp:Sp} (F:Fun K x qual st f fd) (S:FnScope N ps (defScope st)) (len:∀ vs H Q E,sp vs H Q E→vs.length=ps.length)
  (hbody:∀ (cdv:Value) (A:Around) (outer:List Env) (s:Shared) (H:Hp) (vs:List V) (Q:VK) (E:XK),Room k (A.deeper (envOfC qual (defScope st) s.heap.objs.size f cdv))→sp vs H Q E →
   ∃ t,PSs (cxOf CX0 P w K mg base N qual (defScope st) f cdv A outer s H E).nox (defBody st) t∧t { nx:=fun _ H'=>Q .non H',rt:=Q } (start N vs) H):FnOk P w K mg base CX0 (k+1) f fd ps sp:=by
 obtain ⟨oc,od,kV,doc,pm,an,cdv,ct,osl,rfl,lk,hcd⟩:=F.ex
 refine fn_of lk hcd S len fun A outer s H vs Q E hr hsp=>?_
 obtain ⟨t,h,q⟩:=hbody cdv A outer s H vs Q E hr hsp
 exact ⟨t,h.nox,q⟩
theorem Fun.binds {x qual:Str}{st:Stmt}{f:Addr}{fd:FuncData}{ps:List Str} (F:Fun K x qual st f fd)
  (h:∀ (kV doc pm:Value) (an:Option Addr) (cdv ct:Value) (us:List Value),us.length=ps.length→bindArgs (PySem.W.fnOf x qual (defArgs st) (defBody st) (defScope st) .none kV doc pm an cdv ct) ⟨us,[]⟩=pure (ps.zip us)):Binds K fd ps []:=by
 obtain ⟨oc,od,kV,doc,pm,an,cdv,ct,osl,rfl,lk,hcd⟩:=F.ex
 exact .all (h kV doc pm an cdv ct)
theorem fun_mk {x qual:Str}{st:Stmt}{f:Addr}{oc:Value}{od an:Option Addr}{osl:Array (Option Value)}{kV doc pm cdv ct:Value} (l:K.lookup f=some ⟨oc,od,.func (PySem.W.fnOf x qual (defArgs st) (defBody st) (defScope st) .none kV doc pm an cdv ct),osl⟩)
  (c:PySem.W.codeIn K cdv qual=true) (k:PySem.W.keepIn K (.ref f)=true):Fun K x qual st f (PySem.W.fnOf x qual (defArgs st) (defBody st) (defScope st) .none kV doc pm an cdv ct):=⟨⟨oc,od,kV,doc,pm,an,cdv,ct,osl,rfl,l,c⟩,k⟩
end
theorem hu_of {A:Around}{k:Nat} (hr:Room k A):A.units+1<cLine:=Nat.lt_of_le_of_lt (Nat.add_le_add_left (by decide:1≤64) _) hr.units
section
variable {X:Cx}
theorem call_lenD:CallR X (.builtin "len") (fun xs H Q=>∃ a kvs,xs=[V.ref a]∧H a=some (.dK kvs)∧Q (.int kvs.length) H):=by
 intro pins s σ H xs us Q I r h
 obtain ⟨a,kvs,rfl,ha,q⟩:=h
 obtain ⟨u,rfl,ru⟩:=vals1 r
 cases ru
 exact d_len I (.inl ha) fun t s' I'=>⟨.int kvs.length,H,I',⟨t,rfl⟩,q⟩
end
def Same (H H':Hp):Prop:=∀ b o,H b=some o→H' b=some o
theorem Same.trans {H H1 H2:Hp} (a:Same H H1) (b:Same H1 H2):Same H H2:=fun c o h=>b c o (a c o h)
theorem Same.free {H H':Hp} (e:Same H H') {l:Addr} (h:H' l=Option.none):H l=Option.none:=by
 cases q:H l with
 | none=>rfl
 | some o =>
  rw [e l o q] at h
  cases h
theorem Same.seq {K:PySem.W.Frag}{H H':Hp}{a:Addr}{xs:List V} (e:Same H H') (h:SqL K H a xs):SqL K H' a xs:=by
 rcases h with (h | ⟨o,h⟩) | h
 ·exact .inl (.inl (e _ _ h))
 ·exact .inl (.inr ⟨o,e _ _ h⟩)
 ·exact .inr h
section
variable {κ:Type} [DecidableEq κ]
end
def clOf (env:Env):List (Str × NameKind)→List (Str × Addr)→List (Str × Addr)
 | [],acc=>acc
 | (n,k) :: r,acc=>if (k == NameKind.free)=true then clOf env r ((n,(env.cells.lookup n).getD 0) :: acc) else clOf env r acc
theorem cellOf_eq {env:Env}{n:Str}{c:Addr} (h:env.cells.lookup n=some c):cellOf env n=pure c:=by
 unfold cellOf
 rw [h]
theorem closure_go {env:Env}:∀ (names:List (Str × NameKind)) (acc:List (Str × Addr)),(∀ x∈names,x.2=.free→∃ c,env.cells.lookup x.1=some c) →
  (forIn names acc fun (x:Str × NameKind) (cs:List (Str × Addr))=>(match x with | (name,kind)=>if (kind == NameKind.free)=true then (do let __do_lift ← cellOf env name;pure PUnit.unit;pure (ForInStep.yield ((name,__do_lift) :: cs)):Sem _) else (do pure PUnit.unit;pure (ForInStep.yield cs)):Sem (ForInStep (List (Str × Addr)))))=pure (clOf env names acc)
 | [],acc,_=>rfl
 | (n,k) :: r,acc,h=>by
  have ih:=fun a=>closure_go r a fun x hx=>h x (List.mem_cons_of_mem _ hx)
  rw [List.forIn_cons]
  by_cases hk:(k == NameKind.free)=true
  ·obtain ⟨c,hc⟩:=h (n,k) List.mem_cons_self (by simpa using hk)
   simp only [hk,if_true,clOf,cellOf_eq hc,hc,Option.getD_some,pure_bind]
   exact ih _
  ·simp only [hk,if_false,clOf,pure_bind]
   exact ih _
theorem closure_of {scope:Scope}{env:Env} (h:∀ x∈scope.names,x.2=.free→∃ c,env.cells.lookup x.1=some c):closureFor scope env=pure (clOf env scope.names []):=by
 unfold closureFor
 have q:=closure_go scope.names [] h
 exact (congrArg (fun m=>m >>= pure) q).trans (pure_bind _ _)
theorem clOf_sub {env:Env}:∀ (names:List (Str × NameKind)) (acc:List (Str × Addr)),(∀ x∈names,x.2=.free→∃ c,env.cells.lookup x.1=some c)→(∀ p∈acc,env.cells.lookup p.1=some p.2) →
  ∀ p∈clOf env names acc,env.cells.lookup p.1=some p.2
 | [],acc,_,ha=>ha
 | (n,k) :: r,acc,h,ha=>by
  by_cases hk:(k == NameKind.free)=true
  ·obtain ⟨c,hc⟩:=h (n,k) List.mem_cons_self (by simpa using hk)
   simp only [clOf,hk,if_true]
   refine clOf_sub r _ (fun x hx=>h x (List.mem_cons_of_mem _ hx)) fun p hp=>?_
   rcases List.mem_cons.mp hp with rfl | hp
   ·show env.cells.lookup n=some _
    rw [hc];rfl
   ·exact ha p hp
  ·simp only [clOf,hk,if_false]
   exact clOf_sub r _ (fun x hx=>h x (List.mem_cons_of_mem _ hx)) ha
theorem clOf_acc {env:Env}:∀ (names:List (Str × NameKind)) (acc:List (Str × Addr)) (p:Str × Addr),p∈acc→p∈clOf env names acc
 | [],_,_,h=>h
 | (n,k) :: r,acc,p,h=>by
  by_cases hk:(k == NameKind.free)=true
  ·simp only [clOf,hk,if_true]
   exact clOf_acc r _ p (List.mem_cons_of_mem _ h)
  ·simp only [clOf,hk,if_false]
   exact clOf_acc r _ p h
theorem clOf_has {env:Env}:∀ (names:List (Str × NameKind)) (acc:List (Str × Addr)) (x:Str),(x,NameKind.free)∈names→∃ c,(x,c)∈clOf env names acc
 | (n,k) :: r,acc,x,h=>by
  rcases List.mem_cons.mp h with e | h
  ·injection e with e1 e2
   subst e1;subst e2
   simp only [clOf,beq_self_eq_true,if_true]
   exact ⟨_,clOf_acc r _ _ List.mem_cons_self⟩
  ·by_cases hk:(k == NameKind.free)=true
   ·simp only [clOf,hk,if_true]
    exact clOf_has r _ x h
   ·simp only [clOf,hk,if_false]
    exact clOf_has r _ x h
theorem lookup_some_of_mem:∀ {l:List (Str × Addr)}{x:Str}{c:Addr},(x,c)∈l→∃ d,l.lookup x=some d
 | (n,d) :: r,x,c,h=>by
  by_cases e:x == n
  ·exact ⟨d,by simp [List.lookup_cons,e]⟩
  ·rcases List.mem_cons.mp h with q | q
   ·injection q with q1 _
    subst q1
    simp at e
   ·obtain ⟨d',hd⟩:=lookup_some_of_mem q
    exact ⟨d',by simp [List.lookup_cons,e,hd]⟩
theorem relabel_look {env:Env}:∀ {names:List (Str × NameKind)}{x:Str}{k:NameKind},
  (names.map fun (n,k)=>if (k == NameKind.free && env.scope.kind == .function && env.kindOf n == some .cell) then (n,NameKind.cell) else (n,k)).lookup x=some k →
  ∃ k',names.lookup x=some k'∧(k=k'∨k'=.free)
 | [],_,_,h=>by simp at h
 | (n,j) :: r,x,k,h=>by
  have ih:=@relabel_look env r x k
  by_cases hc:(j == NameKind.free && env.scope.kind == .function && env.kindOf n == some .cell)=true
  ·simp only [List.map_cons,hc,if_true,List.lookup_cons] at h ⊢
   cases e:x == n with
   | true =>
    rw [e] at h
    refine ⟨j,rfl,.inr ?_⟩
    simp only [Bool.and_eq_true,beq_iff_eq] at hc
    exact hc.1.1
   | false =>
    rw [e] at h
    exact ih h
  ·rw [List.map_cons] at h
   dsimp only at h
   rw [if_neg hc,List.lookup_cons] at h
   rw [List.lookup_cons]
   cases e:x == n with
   | true =>
    rw [e] at h
    exact ⟨j,rfl,.inl (by injection h with h;exact h.symm)⟩
   | false =>
    rw [e] at h
    exact ih h
theorem relabel_free {env:Env}:∀ {names:List (Str × NameKind)}{x:Str},names.lookup x=some .free →
  (names.map fun (n,k)=>if (k == NameKind.free && env.scope.kind == .function && env.kindOf n == some .cell) then (n,NameKind.cell) else (n,k)).lookup x=some .cell ∨
  (names.map fun (n,k)=>if (k == NameKind.free && env.scope.kind == .function && env.kindOf n == some .cell) then (n,NameKind.cell) else (n,k)).lookup x=some .free
 | [],_,h=>by simp at h
 | (n,j) :: r,x,h=>by
  have ih:=@relabel_free env r x
  cases e:x == n with
  | true =>
   rw [List.lookup_cons,e] at h
   injection h with h
   subst h
   rw [List.map_cons]
   dsimp only
   split
   ·exact .inl (by simp [List.lookup_cons,e])
   ·exact .inr (by simp [List.lookup_cons,e])
  | false =>
   rw [List.lookup_cons,e] at h
   rcases ih h with q | q
   ·left
    rw [List.map_cons]
    dsimp only
    split <;> simp only [List.lookup_cons,e] <;> exact q
   ·right
    rw [List.map_cons]
    dsimp only
    split <;> simp only [List.lookup_cons,e] <;> exact q
def ccx (X:Cx) (scope:Scope) (N:List Str) (C:Addr) (s:Shared) (H:Hp) (fp:List Addr):Cx :=
 { X with N:=N,s₀:=s,H₀:=H,env:=compEnvC scope (clOf X.env scope.names []) C X.env,outer:=X.stack,stack:=X.stack,ex:=fp,fn:=fun _=>false,pn:=[],xe:=fun _ _=>False }
structure CScope (X:Cx) (scope:Scope):Prop where
 kind:scope.kind=.function
 nocell:∀ y∈scope.names,y.2≠.cell
 names:∀ y∈scope.names,y.2=.local→scope.names.lookup y.1=some .local
 free:∀ y∈scope.names,y.2=.free→X.env.kindOf y.1=some .cell∨X.env.kindOf y.1=some .free
section
variable {X:Cx}{pins:List (Addr × Obj)}{σ:St}{H:Hp}{s:Shared}
theorem CScope.has {scope:Scope} (S:CScope X scope) (ok:X.Ok):∀ x∈scope.names,x.2=.free→∃ c,X.env.cells.lookup x.1=some c:=fun x hx h=>ok.has _ (S.free x hx h)
theorem cl_sub {scope:Scope} (S:CScope X scope) (ok:X.Ok) {x:Str}{c:Addr} (h:(clOf X.env scope.names []).lookup x=some c):X.env.cells.lookup x=some c :=
 clOf_sub scope.names [] (S.has ok) (fun p hp=>absurd hp (by simp)) (x,c) (PySem.mem_of_lookup h)
theorem cl_free {scope:Scope} (S:CScope X scope) (ok:X.Ok) {x:Str} (h:scope.names.lookup x=some .free):∃ c,(clOf X.env scope.names []).lookup x=some c∧X.env.cells.lookup x=some c:=by
 obtain ⟨c,hc⟩:=clOf_has (env:=X.env) scope.names [] x (PySem.mem_of_lookup h)
 obtain ⟨d,hd⟩:=lookup_some_of_mem hc
 exact ⟨d,hd,cl_sub S ok hd⟩
structure CNames (X:Cx) (scope:Scope) (N:List Str) (k:Nat) (sel:List Nat):Prop where
 len:N.length=k+sel.length
 fr:∀ (i j:Nat) (x:Str),sel[i]? = some j→N[k+i]? = some x→X.N[j]? = some x∧scope.names.lookup x=some .free
def cst (σ:St) (k:Nat) (sel:List Nat):St:=List.replicate k none ++ sel.map fun j=>(σ[j]?).join
theorem cst_len {k:Nat}{sel:List Nat}:(cst σ k sel).length=k+sel.length:=by
 unfold cst;rw [List.length_append,List.length_replicate,List.length_map]
theorem ccx_ok {scope:Scope}{N:List Str}{fp:List Addr} (S:CScope X scope) (I:Inv X pins σ H s) (hf:∀ b∈fp,FpOk X pins H b) (hlt:∀ b∈fp,b<s.heap.objs.size):(ccx X scope N s.heap.objs.size s H fp).Ok where
 mod:=I.ok.mod
 kind:=S.kind
 glob:=I.ok.glob
 blt:=I.ok.blt
 above:=Nat.le_refl _
 inj:=fun x y c h1 h2=>I.ok.inj x y c (cl_sub S I.ok h1) (cl_sub S I.ok h2)
 has:=fun x h=>by
  have h':(relabel scope X.env).names.lookup x=some .cell∨(relabel scope X.env).names.lookup x=some .free:=h
  rcases h' with h' | h'
  ·obtain ⟨k',e,q⟩:=relabel_look h'
   rcases q with q | q
   ·subst q
    exact absurd rfl (S.nocell _ (PySem.mem_of_lookup e))
   ·subst q
    obtain ⟨c,hc,_⟩:=cl_free S I.ok e
    exact ⟨c,hc⟩
  ·obtain ⟨k',e,q⟩:=relabel_look h'
   have:k'=.free:=by rcases q with q | q;exact q.symm;exact q
   subst this
   obtain ⟨c,hc,_⟩:=cl_free S I.ok e
   exact ⟨c,hc⟩
 cab:=fun x c h=>absurd (show false=true from h) (by simp)
 hd:=I.ok.hd
 frames:=I.ok.frames
 stk:=.inl rfl
 exf:=fun b hb=>⟨Nat.ne_of_lt (hlt b hb),fun x c h=>(hf b hb).2.2.2.2.1 x c (cl_sub S I.ok h)⟩
 bs:=I.bs
 bsz:=Nat.le_trans I.ok.bsz I.sz
 noex:=fun b o e hb=>by
  rcases (hf b hb).2.2.2.1 with z | z
  ·exact I.ok.noex b o e z
  ·exact absurd (Nat.lt_of_lt_of_le (Heap.lt_size e) (Nat.le_trans I.ok.bsz z)) (Nat.lt_irrefl _)
 exfs:=fun b hb z=>by
  rcases List.mem_cons.mp (I.stkSub b z) with q | q
  ·exact (hf b hb).2.1 q
  ·exact (hf b hb).2.2.1 q
 funs:=I.stack
 frf:=I.stkFree
theorem ccx_inv {scope:Scope}{N:List Str}{fp:List Addr}{k:Nat}{sel:List Nat}{h₁:Heap}{m:Str→Option Value}{t':Nat} (S:CScope X scope) (M:CNames X scope N k sel) (I:Inv X pins σ H s) (hf:∀ b∈fp,FpOk X pins H b) (hlt:∀ b∈fp,b<s.heap.objs.size)
  (hn:h₁.Ns s.heap.objs.size m) (hk:∀ b o,s.heap.get? b=some o→h₁.get? b=some o):Inv (ccx X scope N s.heap.objs.size s H fp) [] (cst σ k sel) H { s with heap:=h₁,toks:=t' }:=by
 refine ⟨ccx_ok S I hf hlt,rfl,I.bare,Un.kept hk,⟨m,hn,fun i x v e1 e2 e3=>?_⟩,fun x c e=>?_,I.hok.fresh (Nat.le_refl _),fun x c e=>I.freeC x c (cl_sub S I.ok e),fun p hp=>absurd (show p∈([]:List (Addr × Obj)) from hp) (by simp),I.hok.kept hk,?_⟩
 ·have hi:k≤i:=by
   by_cases hi:k≤i
   ·exact hi
   ·unfold cst at e2
    rw [List.getElem?_append_left (by simp;omega),List.getElem?_replicate] at e2
    split at e2 <;> cases e2
  obtain ⟨d,rfl⟩:∃ d,i=k+d:=⟨i - k,by omega⟩
  unfold cst at e2
  rw [List.getElem?_append_right (by simp),List.length_replicate,Nat.add_sub_cancel_left,List.getElem?_map] at e2
  cases ej:sel[d]? with
  | none=>rw [ej] at e2;cases e2
  | some j =>
   rw [ej] at e2
   have e2':(σ[j]?).join=some v:=Option.some.inj e2
   have e4:σ[j]? = some (some v):=by
    cases q:σ[j]? with
    | none=>rw [q] at e2';cases e2'
    | some o=>rw [q] at e2';cases o with
     | none=>cases e2'
     | some w=>cases e2';rfl
   obtain ⟨hN,hfr⟩:=M.fr d j x ej e1
   obtain ⟨mo,hno,hlo⟩:=I.loc
   have hkind:=S.free _ (PySem.mem_of_lookup hfr) rfl
   obtain ⟨u,ru,lu⟩:=hlo j x v hN e4 (by rcases hkind with q | q;exact .inr (.inl q);exact .inr (.inr q))
   obtain ⟨c,hc,hc'⟩:=cl_free S I.ok hfr
   refine ⟨u,ru,.inr ⟨?_,c,hc,?_⟩⟩
   ·exact relabel_free hfr
   ·rcases lu with ⟨kl,_⟩ | ⟨_,c',e5,z⟩
    ·rcases hkind with q | q
     ·rw [kl] at q;cases q
     ·rw [kl] at q;cases q
    ·rw [hc'] at e5;cases e5
     obtain ⟨o,ho,hd⟩:=z
     exact ⟨o,hk _ _ ho,hd⟩
 ·obtain ⟨v,o,ho,hd⟩:=I.cell x c (cl_sub S I.ok e)
  exact ⟨v,o,hk _ _ ho,hd⟩
 ·rw [cst_len];exact M.len.symm
end
def PTs (X:Cx) (ifs:List Expr) (t:TT):Prop :=
 ∀ (pins:List (Addr × Obj)) (s:Shared) (σ:St) (H:Hp) (Q:Bool→Hp→Prop),Inv X pins σ H s→t σ H Q →
  wpAny (model X.prog X.w) X.A (forIn ifs true fun c r=>if r=true then do let ok ← isTrue c X.env (eval c X.env);pure (ForInStep.yield ok) else pure (ForInStep.yield r)) (TP X pins σ Q) X.xe s
def tTrue:TT:=fun _ H Q=>Q true H
theorem pts_nil {X:Cx}:PTs X [] tTrue:=fun pins s σ H Q I h=>wpAny_tests_nil ⟨H,I,h⟩
def tComp (wi:TI) (k:Nat) (sel:List Nat) (g:TG) (tt:TT) (te:TE):TE:=fun σ H Q=>wi σ H fun J H1=>∀ p,H1 p=none →
 ∃ W:Nat→Nat→St→Hp→Prop,(∃ m,W 0 m (cst σ k sel) (upd H1 p (.lst [])))∧∀ i m σ2 H2,W i m σ2 H2 →
  (J.stop i H2∧Q (.ref p) H2)∨(J.go i H2∧∀ x H3,J.yld i H2 x H3→g x σ2 H3 fun σ4 H4=>tt σ4 H4 fun b H5 =>
   if b=true then te σ4 H5 fun v H6=>∃ ys,H6 p=some (.lst ys)∧ys.length<sizeLine∧∃ m',m'<m∧W (i+1) m' σ4 (upd H6 p (.lst (ys ++ [v]))) else ∃ m',m'<m∧W (i+1) m' σ4 H5)
theorem comp_loop {X:Cx}{elt tg iter:Expr}{ifs:List Expr}{scope:Scope}{pos:Pos}{it D:Addr}{fp:List Addr}{tn:Nat→Heap→Prop}{J:It}{g:TG}{tt:TT}{te:TE}{W:Nat→Nat→St→Hp→Prop}{R:Result→Shared→Prop}{QQ:Hp→Prop}
  (hx:X.xe=fun _ _=>False) (hc:X.calm=true) (T:Turn X.prog X.w X.K tg J fp it tn) (hg:PG X tg g) (ht:PTs X ifs tt) (he:PE X elt te)
  (hfp:∀ b∈fp,b≠X.env.locals∧b ∉ X.fs∧(b∈X.ex∨X.s₀.heap.objs.size≤b)∧(∀ x c,X.env.cells.lookup x=some c→c≠b)∧∀ p∈X.pn ++ [],p.1≠b)
  (turn:∀ i m σ2 H2,W i m σ2 H2 →
   (J.stop i H2∧QQ H2)∨(J.go i H2∧∀ x H3,J.yld i H2 x H3→g x σ2 H3 fun σ4 H4=>tt σ4 H4 fun b H5 =>
    if b=true then te σ4 H5 fun v H6=>∃ ys,H6 D=some (.lst ys)∧ys.length<sizeLine∧∃ m',m'<m∧W (i+1) m' σ4 (upd H6 D (.lst (ys ++ [v]))) else ∃ m',m'<m∧W (i+1) m' σ4 H5))
  (hR:∀ s' σ' H',Inv X [] σ' H' s'→QQ H'→R (.ok .next) s') {s:Shared} (m0:Nat) (h:∃ i σ' H',Inv X [] σ' H' s∧tn i s.heap∧(∀ b∈fp,H' b=none)∧W i m0 σ' H') :
  codeAny (model X.prog X.w) X.A (.compLoop (.ListComp elt [⟨tg,iter,ifs,0⟩] scope pos) 0 (.ref it) (.ref D) X.env) R s:=by
 have stat:∀ {H':Hp},(∀ b∈fp,H' b=none)→∀ b∈fp,FpOk X [] H' b:=fun hn b hb=>⟨hn b hb,hfp b hb⟩
 have noE:∀ {α:Type}{t:Sem α}{Q:α→Shared→Prop}{E:Value→Shared→Prop}{s:Shared},wpAny (model X.prog X.w) X.A t Q X.xe s→wpAny (model X.prog X.w) X.A t Q E s:=fun {α t Q E s} h=>by
  rw [hx] at h
  exact wpAny_noRaise h
 refine codeAny_loop rfl (fun n s'=>∃ i σ' H',Inv X [] σ' H' s'∧tn i s'.heap∧(∀ b∈fp,H' b=none)∧W i n σ' H') (fun n s3 hI=>?_) m0 h
 obtain ⟨i,σ3,H3,I3,st3,fr3,w3⟩:=hI
 show wpAny _ X.A ((compTurn (.ListComp elt [⟨tg,iter,ifs,0⟩] scope pos) 0 (.ref it) (.ref D) X.env).onRaise (fun x=>do noteFrame x X.env;theTreesLotGoes x)) _ _ s3
 refine wpAny_noted ?_
 rw [compTurn_list]
 rcases turn i n σ3 H3 w3 with ⟨stop,qn⟩ | ⟨go,step⟩
 ·refine wpAny_bind (wpAny_standAt (wpAny_bind (thn (noE (T.done X rfl rfl rfl hc i [] s3 σ3 H3 X.xe I3 (stat fr3) st3 stop)) fun r s4 ⟨hr,I4⟩=>?_)))
  subst hr
  exact wpAny_pure (hR s4 σ3 H3 I4 qn)
 ·refine wpAny_bind (wpAny_standAt (wpAny_bind (thn (noE (T.item X rfl rfl rfl hc i [] s3 σ3 H3 X.xe I3 (stat fr3) st3 go)) fun r s4 ⟨u,hr,h4⟩=>?_)))
  subst hr
  refine wpAny_bind (thn (noE h4) fun _ s5 ⟨x,H5,I5,r5,y5,st5,fr5⟩=>?_)
  have I5':=I5.pinned (stat fr5) (T.obj _ _ st5)
  refine wpAny_bind (thn (noE (hg _ s5 σ3 H5 x u _ I5' r5 (step x H5 y5))) fun _ s6 ⟨σ6,H6,I6,q6⟩=>?_)
  refine wpAny_bind (thn (noE (ht _ s6 σ6 H6 _ I6 q6)) fun ok s7 ⟨H7,I7,q7⟩=>?_)
  have again:∀ {s8:Shared}{H8:Hp},Inv X ([] ++ pinsAt fp s5.heap) σ6 H8 s8→(∃ m',m'<n∧W (i+1) m' σ6 H8)→∃ m,m<n∧∃ i σ' H',Inv X [] σ' H' s8∧tn i s8.heap∧(∀ b∈fp,H' b=none)∧W i m σ' H':=fun {s8 H8} I8 n8=>by
   obtain ⟨m',hm,w8⟩:=n8
   refine ⟨m',hm,i+1,σ6,H8,I8.unpinned,T.keep _ _ _ st5 fun b hb o e=>(I8.pin (b,o) (List.mem_append_right _ (List.mem_append_right _ (mem_pinsAt hb e)))).1,fun b hb=>?_,w8⟩
   obtain ⟨o,e,d⟩:=T.obj _ _ st5 b hb
   exact (I8.pin (b,o) (List.mem_append_right _ (List.mem_append_right _ (mem_pinsAt hb e)))).2.1
  cases ok with
  | false=>exact wpAny_pure ⟨rfl,again I7 q7⟩
  | true =>
   refine wpAny_bind (wpAny_bind (thn (noE (he _ s7 σ6 H7 _ I7 q7)) fun y s8 ⟨v,H8,I8,r8,ys,hys,hl,q8⟩=>?_))
   refine wpAny_bind (thn (noE (mt_append _ s8 σ6 H8 (.ref D) [v] (.ref D) [y] (fun _ H9=>∃ m',m'<n∧W (i+1) m' σ6 H9) I8 rfl (.cons r8 .nil) ⟨D,ys,v,rfl,rfl,hys,hl,q8⟩)) fun _ s9 ⟨_,H9,I9,_,q9⟩=>?_)
   exact wpAny_pure (wpAny_pure ⟨rfl,again I9 q9⟩)
structure CFree (X:Cx) (pins:List (Addr × Obj)) (H:Hp) (C:Addr) (s:Shared):Prop where
 none:H C=Option.none
 ne:C≠X.env.locals
 above:X.s₀.heap.objs.size≤C
 cells:∀ x c,X.env.cells.lookup x=some c→c≠C
 pins:∀ p∈X.pn ++ pins,p.1≠C
 ns:∃ m,s.heap.Ns C m
theorem comp_block {X:Cx}{pins:List (Addr × Obj)}{σ:St}{elt tg iter:Expr}{ifs:List Expr}{scope:Scope}{pos:Pos}{N:List Str}{k:Nat}{sel:List Nat}{g:TG}{tt:TT}{te:TE}{itv:Value}{s2:Shared}{QQ:VK}{use:Option (Value→Sem Unit)}{Qv:Value→Shared→Prop}
  (S:CScope X scope) (M:CNames X scope N k sel) (hc:X.calm=true)
  (hg:∀ C s H fp,PG (ccx X scope N C s H fp) tg g) (ht:∀ C s H fp,PTs (ccx X scope N C s H fp) ifs tt) (he:∀ C s H fp,PE (ccx X scope N C s H fp) elt te)
  (fin:∀ D C s' H',Inv X pins σ H' s'→CFree X pins H' C s'→QQ (.ref D) H'→compPost (model X.prog X.w) X.A X.xe use Qv (.ref D) C (.ok .next) s')
  (h2:PIE X pins σ tg (fun J H1=>∀ p,H1 p=none→∃ W:Nat→Nat→St→Hp→Prop,(∃ m,W 0 m (cst σ k sel) (upd H1 p (.lst [])))∧∀ i m σ2 H2,W i m σ2 H2 →
   (J.stop i H2∧QQ (.ref p) H2)∨(J.go i H2∧∀ x H3,J.yld i H2 x H3→g x σ2 H3 fun σ4 H4=>tt σ4 H4 fun b H5 =>
    if b=true then te σ4 H5 fun v H6=>∃ ys,H6 p=some (.lst ys)∧ys.length<sizeLine∧∃ m',m'<m∧W (i+1) m' σ4 (upd H6 p (.lst (ys ++ [v]))) else ∃ m',m'<m∧W (i+1) m' σ4 H5)) itv s2) :
  wpAny (model X.prog X.w) X.A (newList []) (fun acc s₃=>wpAny (model X.prog X.w) X.A (newFunctionEnv scope X.env.globals (clOf X.env scope.names []) [] X.env.qual none .none (some X.env)) (fun cenv s₄ =>
   codeAny (model X.prog X.w) X.A (.compStart (.ListComp elt [⟨tg,iter,ifs,0⟩] scope pos) 0 itv acc { cenv with scope:=relabel scope X.env }) (compPost (model X.prog X.w) X.A X.xe use Qv acc cenv.locals) s₄) X.xe s₃) X.xe s2:=by
 obtain ⟨it,fp,tn,J,H2,rfl,I2,T,st2,f2,R2⟩:=h2
 have hD:H2 s2.heap.objs.size=none:=I2.hok.fresh (Nat.le_refl _)
 obtain ⟨W,⟨m0,w0⟩,turn⟩:=R2 _ hD
 refine wpAny_newObj_type ?_
 have I3:=I2.lnew (its:=[]) (ys:=[]) (t':=s2.toks) .nil (Nat.zero_le _)
 generalize hs3:({ s2 with heap:=s2.heap.push { cls:=.type "list",data:=.seq ([]:List Value).toArray },toks:=s2.toks }:Shared)=s3 at I3
 have e3:({ s2 with heap:=s2.heap.push { cls:=.type "list",dict:=none,data:=.seq ([]:List Value).toArray } }:Shared)=s3:=by rw [← hs3]
 have up:∀ b o,s2.heap.get? b=some o→s3.heap.get? b=some o:=fun b o e=>by rw [← hs3];exact Heap.get?_push_of_some _ e
 have hsz:s2.heap.objs.size≤s3.heap.objs.size:=by rw [← hs3];show _≤(s2.heap.push _).objs.size;rw [Heap.size_push];exact Nat.le_succ _
 have hlt2:∀ b∈fp,b<s2.heap.objs.size:=fun b hb=>by
  obtain ⟨o,e,_⟩:=T.obj _ _ st2 b hb
  exact Heap.lt_size e
 have hlt:∀ b∈fp,b<s3.heap.objs.size:=fun b hb=>Nat.lt_of_lt_of_le (hlt2 b hb) hsz
 have f3:∀ b∈fp,FpOk X pins (upd H2 s2.heap.objs.size (.lst [])) b:=fun b hb=>⟨by rw [upd_ne (Nat.ne_of_lt (hlt2 b hb))];exact (f2 b hb).1,(f2 b hb).2⟩
 refine wpAny_newFunctionEnv S.nocell (by intro y hy;simp at hy) (fun h₁ hns₁ hsb₁=>?_) S.kind
 have up₁:∀ b o,s3.heap.get? b=some o→h₁.get? b=some o:=fun b o e=>hsb₁.extBut b o (Nat.ne_of_lt (Heap.lt_size e)) (Heap.get?_push_of_some _ e)
 have Ic:=ccx_inv (N:=N) (k:=k) (sel:=sel) (t':=s3.toks+([]:List (Str × Value)).length) S M I3 f3 hlt hns₁ up₁
 have st₁:tn 0 h₁:=T.keep _ _ _ st2 fun b hb o e=>up₁ b o (up b o e)
 have fr:∀ b∈fp,(upd H2 s2.heap.objs.size (.lst [])) b=none:=fun b hb=>(f3 b hb).1
 have loop:codeAny (model X.prog X.w) X.A (.compLoop (.ListComp elt [⟨tg,iter,ifs,0⟩] scope pos) 0 (.ref it) (.ref s2.heap.objs.size) (compEnvC scope (clOf X.env scope.names []) s3.heap.objs.size X.env))
   (compPost (model X.prog X.w) X.A X.xe use Qv (.ref s2.heap.objs.size) s3.heap.objs.size) { s3 with heap:=h₁,toks:=s3.toks+([]:List (Str × Value)).length }:=by
  refine comp_loop (X:=ccx X scope N s3.heap.objs.size s3 (upd H2 s2.heap.objs.size (.lst [])) fp) (QQ:=fun H'=>QQ (.ref s2.heap.objs.size) H') (W:=W) rfl hc T (hg _ _ _ _) (ht _ _ _ _) (he _ _ _ _) (fun b hb=>?_) turn (fun s' σ' H' I' q'=>?_) m0 ⟨0,cst σ k sel,_,Ic,st₁,fr,w0⟩
  ·refine ⟨Nat.ne_of_lt (hlt b hb),?_,.inl hb,fun x c h=>(f3 b hb).2.2.2.2.1 x c (cl_sub S I3.ok h),fun p hp=>absurd (show p∈([]:List (Addr × Obj)) from hp) (by simp)⟩
   exact (ccx_ok (N:=N) S I3 f3 hlt).exfs b hb
  ·have Ie:Inv X pins σ H' s':=I3.call' (ch:=fp) I'.os I'.base I'.hok I'.bare fun b hb=>⟨(f3 b hb).2.2.2.1,(f3 b hb).2.1,(f3 b hb).2.2.2.2.1,(f3 b hb).2.2.2.2.2⟩
   refine fin _ _ s' H' Ie ⟨I'.free,?_,Nat.le_trans I3.sz (Nat.le_refl _),fun x c e=>?_,fun p hp=>?_,?_⟩ q'
   ·exact Ne.symm (Nat.ne_of_lt I3.lt)
   ·obtain ⟨v,o,ho,_⟩:=I3.cell x c e
    exact Nat.ne_of_lt (Heap.lt_size ho)
   ·exact Nat.ne_of_lt (Heap.lt_size (I3.pin p hp).1)
   ·obtain ⟨m,hn,_⟩:=I'.loc
    exact ⟨m,hn⟩
 exact codeAny_compStart_list loop (T.self X.A 0 _ _ _ st₁ loop)
section
variable {X:Cx}{elt tg iter:Expr}{ifs:List Expr}{scope:Scope}{pos:Pos}{N:List Str}{k:Nat}{sel:List Nat}{wi:TI}{g:TG}{tt:TT}{te:TE}
theorem pe_comp (S:CScope X scope) (M:CNames X scope N k sel) (hc:X.calm=true) (hi:PI X tg iter wi)
  (hg:∀ C s H fp,PG (ccx X scope N C s H fp) tg g) (ht:∀ C s H fp,PTs (ccx X scope N C s H fp) ifs tt) (he:∀ C s H fp,PE (ccx X scope N C s H fp) elt te)
  (hs:∀ x,foldedSetIterable iter X.env x=pure x:=by intro _;rfl):PE X (.ListComp elt [⟨tg,iter,ifs,0⟩] scope pos) (tComp wi k sel g tt te):=by
 intro pins s σ H Q I h
 rw [eval_ListComp]
 refine wpAny_comprehension_free (use:=none) rfl hs (closure_of (S.has I.ok)) S.kind S.names (thn (hi pins s σ H _ I h) fun v s1 h1=>thn h1 fun itv s2 h2=>?_)
 refine comp_block (QQ:=Q) S M hc hg ht he (fun D C s' H' I' F q=>?_) h2
 obtain ⟨m,hn⟩:=F.ns
 exact ⟨m,hn,fun h' hsb=>⟨.ref D,H',I'.turned (t':=s'.toks) (fun b o hb e=>hsb.extBut b o hb e) F.none F.ne (.inr F.above) F.cells F.pins,rfl,q⟩⟩
theorem ps_setC {i:Nat}{y:Str}{py spos:Pos} (S:CScope X scope) (M:CNames X scope N k sel) (hc:X.calm=true) (hi:PI X tg iter wi)
  (hg:∀ C s H fp,PG (ccx X scope N C s H fp) tg g) (ht:∀ C s H fp,PTs (ccx X scope N C s H fp) ifs tt) (he:∀ C s H fp,PE (ccx X scope N C s H fp) elt te)
  (hN:X.N.Nodup) (hiy:X.N[i]? = some y) (hy:Loc X.env.scope y)
  (hsw:swapsWith (.ListComp elt [⟨tg,iter,ifs,0⟩] scope pos) (some (.Name y py)) spos.line X.env=pure true)
  (hs:∀ x,foldedSetIterable iter X.env x=pure x:=by intro _;rfl) (hf:X.fn y=true∨X.env.scope.names.lookup y=some .local:=by first | exact .inl rfl | exact .inr rfl | assumption) :
  PS X (.Assign [.Name y py] (.ListComp elt [⟨tg,iter,ifs,0⟩] scope pos) spos) (tAsg (tComp wi k sel g tt te) (gName i)):=by
 intro pins s σ H D I h
 rw [exec_Assign_Name_used _ _ _ _ hsw]
 refine wpAny_bind (wpAny_standAt (wpAny_bind ?_))
 show wpAny _ X.A (do let _ ← comprehension (.ListComp elt [⟨tg,iter,ifs,0⟩] scope pos) scope X.env _ (newList []) false (eval iter X.env) (some (assign (.Name y py) X.env))) _ _ s
 refine wpAny_bind (wpAny_mono (wpAny_comprehension_free (use:=some (assign (.Name y py) X.env)) (Q:=fun _ s'=>SP X pins D .next s') rfl hs (closure_of (S.has I.ok)) S.kind S.names
  (thn (hi pins s σ H _ I h) fun v s1 h1=>thn h1 fun itv s2 h2=>?_)) (fun _ s' hq=>wpAny_pure (wpAny_pure hq)) fun _ _ e=>e)
 refine comp_block (QQ:=fun v H1=>D.nx (σ.set i (some v)) H1) S M hc hg ht he (fun Da C s' H' I' F q=>?_) h2
 show wpAny _ X.A (assign (.Name y py) X.env (.ref Da)) _ _ _
 refine wpAny_assign_Name (store_ok2 I' hN hiy hy (v:=.ref Da) rfl (fun s'' I'' hch=>?_) hf)
 obtain ⟨m,hn⟩:=F.ns
 obtain ⟨a,hsb,ha⟩:=hch
 have haC:C≠a:=by
  rcases ha with ha | ha
  ·rw [ha];exact F.ne
  ·exact Ne.symm (F.cells _ _ ha)
 refine ⟨m,hn.sameBut hsb haC,fun h' hsb'=>⟨σ.set i (some (.ref Da)),H',I''.turned (t':=s''.toks) (fun b o hb e=>hsb'.extBut b o hb e) F.none F.ne (.inr F.above) F.cells F.pins,q⟩⟩
end
section
variable {X:Cx}
theorem PE.imp {e:Expr}{t t':TE} (h:PE X e t) (f:∀ σ H Q,t' σ H Q→t σ H Q):PE X e t':=fun pins s σ H Q I q=>h pins s σ H Q I (f σ H Q q)
theorem OpR.imp {g:Value→Value→Sem Value}{r r':R2} (h:OpR X g r) (f:∀ x y H Q,r' x y H Q→r x y H Q):OpR X g r':=fun pins s σ H x y v u Q I rx ry q=>h pins s σ H x y v u Q I rx ry (f x y H Q q)
theorem IxR.imp {r r':R2} (h:IxR X r) (f:∀ x y H Q,r' x y H Q→r x y H Q):IxR X r':=fun value slice pins s σ H x y v u Q I rx ry q=>h value slice pins s σ H x y v u Q I rx ry (f x y H Q q)
theorem SlR.imp {r r':V→Option Int→Option Int→Hp→VK→Prop} (h:SlR X r) (f:∀ x lo hi H Q,r' x lo hi H Q→r x lo hi H Q):SlR X r':=fun pins s σ H x v vl vu lo hi sl Q I rx hs pl pu q=>h pins s σ H x v vl vu lo hi sl Q I rx hs pl pu (f x lo hi H Q q)
def cVar (i:Nat):TE:=fun σ H Q=>match σ[i]? with | some (some v)=>Q v H | _=>False
theorem cVar_of {i:Nat}{σ:St}{H:Hp}{Q:VK} (h:cVar i σ H Q):tVar i σ H Q:=by
 unfold cVar at h
 split at h
 ·exact ⟨_,by assumption,h⟩
 ·exact h.elim
theorem cv (i:Nat) {x:Str}{pos:Pos} (hN:X.N[i]? = some x:=by rfl) (hv:Vis X.env.scope x:=by first | exact Or.inl rfl | exact Or.inr (Or.inl rfl) | exact Or.inr (Or.inr rfl)) (hd:(x == ("__debug__" : Str))=false:=by decide)
  (hcd:(x == ("__classdict__" : Str))=false:=by decide):PE X (.Name x pos) (cVar i):=(pe_var hN hv hd hcd).imp fun _ _ _ h=>cVar_of h
def cI2 (f:Int→Int→V):R2:=fun x y H Q=>match x,y with | .int i,.int j=>Q (f i j) H | _,_=>False
def cI2c (C:Int→Int→Prop) (f:Int→Int→V):R2:=fun x y H Q=>match x,y with | .int i,.int j=>C i j∧Q (f i j) H | _,_=>False
theorem cI2_of {f:Int→Int→V}{x y:V}{H:Hp}{Q:VK} (h:cI2 f x y H Q):rI0 f x y H Q:=by
 cases x <;> cases y <;> first | exact False.elim h | exact ⟨_,_,rfl,rfl,h⟩
theorem cI2c_of {C:Int→Int→Prop}{f:Int→Int→V}{x y:V}{H:Hp}{Q:VK} (h:cI2c C f x y H Q):rI C f x y H Q:=by
 cases x <;> cases y <;> first | exact False.elim h | exact ⟨_,_,rfl,rfl,h.1,h.2⟩
theorem o_sub:OpR X (binaryOp .Sub) (cI2 fun i j=>.int (i - j)):=op_sub.imp fun _ _ _ _ h=>cI2_of h
theorem o_fdiv:OpR X (binaryOp .FloorDiv) (cI2c CDiv fun i j=>.int (i / j)):=op_fdiv.imp fun _ _ _ _ h=>cI2c_of h
theorem o_mod:OpR X (binaryOp .Mod) (cI2c (fun _ j=>0<j) fun i j=>.int (i % j)):=op_mod.imp fun _ _ _ _ h=>cI2c_of h
theorem o_shl:OpR X (binaryOp .LShift) (cI2c CPow fun i j=>.int (i * 2 ^ j.toNat)):=op_shl.imp fun _ _ _ _ h=>cI2c_of h
theorem o_lt:OpR X (compareOp .Lt) (cI2 fun i j=>.bl (decide (i<j))):=op_lt.imp fun _ _ _ _ h=>cI2_of h
theorem o_le:OpR X (compareOp .LtE) (cI2 fun i j=>.bl (decide (i≤j))):=op_le.imp fun _ _ _ _ h=>cI2_of h
theorem o_gt:OpR X (compareOp .Gt) (cI2 fun i j=>.bl (decide (j<i))):=op_gt.imp fun _ _ _ _ h=>cI2_of h
def cAdd:R2:=fun x y H Q=>match x,y with
 | .int i,.int j=>Q (.int (i+j)) H
 | .str i,.str j=>i.length+j.length≤sizeLine∧Q (.str (i ++ j)) H
 | .ref l,.ref b=>∃ xs zs,H l=some (.lst xs)∧H b=some (.lst zs)∧xs.length+zs.length≤sizeLine∧∀ p,H p=none→Q (.ref p) (upd H p (.lst (xs ++ zs)))
 | _,_=>False
theorem o_add:OpR X (binaryOp .Add) cAdd:=by
 intro pins s σ H x y v u Q I rx ry h
 cases x <;> cases y <;> first
  | exact False.elim h
  | exact op_add pins s σ H _ _ v u Q I rx ry ⟨_,_,rfl,rfl,h⟩
  | exact op_add_str pins s σ H _ _ v u Q I rx ry ⟨_,_,rfl,rfl,h.1,h.2⟩
  | (obtain ⟨xs,zs,h1,h2,h3,h4⟩:=h;exact op_cat pins s σ H _ _ v u Q I rx ry ⟨_,_,xs,zs,rfl,rfl,h1,h2,h3,h4⟩)
inductive DeepEq (K:PySem.W.Frag) (H:Hp):Nat→V→V→Prop where
 | flat {n:Nat}{x:V} (f:flatV x=true):DeepEq K H n x x
 | lst {n:Nat}{a b:Addr}{xs ys:List V} (h1:SqL K H a xs) (h2:SqL K H b ys) (hl:xs.length=ys.length) (h:∀ (i:Nat) x y,xs[i]? = some x→ys[i]? = some y→DeepEq K H n x y):DeepEq K H (n+1) (.ref a) (.ref b)
 | tup {n:Nat}{a b:Addr}{xs ys:List V} (h1:SqT K H a xs) (h2:SqT K H b ys) (hl:xs.length=ys.length) (h:∀ (i:Nat) x y,xs[i]? = some x→ys[i]? = some y→DeepEq K H n x y):DeepEq K H (n+1) (.ref a) (.ref b)
theorem isListOf {pins:List (Addr × Obj)}{σ:St}{H:Hp}{s:Shared}{a:Addr}{xs:List V} (I:Inv X pins σ H s) (h:SqL X.K H a xs):∃ its:List Value,Vals xs its∧s.heap.IsList a its.toArray:=by
 obtain ⟨its,r,p,_⟩:=I.list h
 exact ⟨its,r,p.isList⟩
theorem units_in1 {A:Around}{n:Nat} (h:A.units+(n+1)<cLine):A.in1.units+n<cLine:=by
 have e:A.in1.units=A.units+1:=rfl
 omega
theorem deep_rc {pins:List (Addr × Obj)}{σ:St}{H:Hp}{s:Shared} (I:Inv X pins σ H s):∀ {n:Nat}{x y:V},DeepEq X.K H n x y→∀ (A:Around) {u v:Value},A.units+n<cLine→RelV x u→RelV y v→SeqAt.EqAt A s u v true
 | _,_,_,.flat f,A,u,v,hu,rx,ry=>by
  have e:=eqAt_V (A:=A) (s:=s) rx ry f f
  rename_i n x
  have q:eqV x x=true:=by cases x <;> first | rfl | (simp [eqV];done) | exact absurd f (by simp [flatV])
  rw [q] at e
  exact e
 | _,_,_,@DeepEq.lst _ _ n a b xs ys h1 h2 hl h,A,u,v,hu,rx,ry=>by
  cases rx;cases ry
  by_cases hab:a=b
  ·subst hab;exact SeqAt.EqAt.same _
  ·obtain ⟨its,r1,p1⟩:=isListOf I h1
   obtain ⟨its2,r2,p2⟩:=isListOf I h2
   have e1:=r1.length
   have e2:=r2.length
   have q:=SeqAt.RcAt.lists (A:=A) (e:=fun _=>true) p1 p2 (by simp;omega) (by omega) (fun j j1 j2=>by
    have j1':j<its.length:=by simpa using j1
    have j2':j<its2.length:=by simpa using j2
    obtain ⟨w1,q1,s1⟩:=r1.get (i:=j) (x:=xs[j]'(by omega)) (by simp)
    obtain ⟨w2,q2,s2⟩:=r2.get (i:=j) (x:=ys[j]'(by omega)) (by simp)
    have z1:its.toArray[j]=w1:=by
     have:=List.getElem?_eq_some_iff.mp q1
     obtain ⟨_,z⟩:=this
     simpa using z
    have z2:its2.toArray[j]=w2:=by
     have:=List.getElem?_eq_some_iff.mp q2
     obtain ⟨_,z⟩:=this
     simpa using z
    rw [z1,z2]
    exact deep_rc I (h j _ _ (by simp) (by simp)) A.in1 (units_in1 hu) s1 s2)
   have:((List.range its.toArray.size).all fun _=>true)=true:=by simp
   rw [this] at q
   exact SeqAt.EqAt.of_refs hab q
 | _,_,_,@DeepEq.tup _ _ n a b xs ys h1 h2 hl h,A,u,v,hu,rx,ry=>by
  cases rx;cases ry
  by_cases hab:a=b
  ·subst hab;exact SeqAt.EqAt.same _
  ·obtain ⟨its,r1,p1,_⟩:=I.tuple h1
   obtain ⟨its2,r2,p2,_⟩:=I.tuple h2
   have e1:=r1.length
   have e2:=r2.length
   have q:=SeqAt.RcAt.tuples (A:=A) (e:=fun _=>true) p1 p2 (by omega) (fun j j1 j2=>by
    have j1':j<its.length:=by simpa using j1
    have j2':j<its2.length:=by simpa using j2
    obtain ⟨w1,q1,s1⟩:=r1.get (i:=j) (x:=xs[j]'(by omega)) (by simp)
    obtain ⟨w2,q2,s2⟩:=r2.get (i:=j) (x:=ys[j]'(by omega)) (by simp)
    have z1:its.toArray[j]=w1:=by
     have:=List.getElem?_eq_some_iff.mp q1
     obtain ⟨_,z⟩:=this
     simpa using z
    have z2:its2.toArray[j]=w2:=by
     have:=List.getElem?_eq_some_iff.mp q2
     obtain ⟨_,z⟩:=this
     simpa using z
    rw [z1,z2]
    exact deep_rc I (h j _ _ (by simp) (by simp)) A.in1 (units_in1 hu) s1 s2)
   have:(((List.range (min its.toArray.size its2.toArray.size)).all fun _=>true) && its.toArray.size == its2.toArray.size)=true:=by simp;omega
   rw [this] at q
   exact SeqAt.EqAt.of_refs hab q
end
section
variable {X:Cx}{a b c:Expr}{ta tb tc:TE}{pos:Pos}
def eqVs (xs ys:List V):Bool:=xs.length == ys.length && (List.range xs.length).all fun i=>eqV (xs.getD i .non) (ys.getD i .non)
theorem eqVs_range {xs ys:List V}{us ws:List Value} (r1:Vals xs us) (r2:Vals ys ws) (f1:xs.all flatV=true) (f2:ys.all flatV=true) (A:Around) (s:Shared) :
  ∀ j (h1:j<us.toArray.size) (h2:j<ws.toArray.size),SeqAt.EqAt A s us.toArray[j] ws.toArray[j] (eqV (xs.getD j .non) (ys.getD j .non)):=fun j j1 j2=>by
 have e1:=r1.length
 have e2:=r2.length
 have j1':j<us.length:=by simpa using j1
 have j2':j<ws.length:=by simpa using j2
 have x1:j<xs.length:=by omega
 have y1:j<ys.length:=by omega
 obtain ⟨w1,q1,s1⟩:=r1.get (i:=j) (x:=xs[j]) (by simp)
 obtain ⟨w2,q2,s2⟩:=r2.get (i:=j) (x:=ys[j]) (by simp)
 have z1:us.toArray[j]=w1:=by
  obtain ⟨_,z⟩:=List.getElem?_eq_some_iff.mp q1
  simpa using z
 have z2:ws.toArray[j]=w2:=by
  obtain ⟨_,z⟩:=List.getElem?_eq_some_iff.mp q2
  simpa using z
 rw [z1,z2]
 have g1:xs.getD j .non=xs[j]:=by simp [List.getD,x1]
 have g2:ys.getD j .non=ys[j]:=by simp [List.getD,y1]
 rw [g1,g2]
 exact eqAt_V s1 s2 (List.all_eq_true.mp f1 _ (List.getElem_mem _)) (List.all_eq_true.mp f2 _ (List.getElem_mem _))
def EqRef (K:PySem.W.Frag) (H:Hp) (p q:Addr) (k:Bool):Prop :=
 (k=true∧DeepEq K H 4 (.ref p) (.ref q)) ∨
 (∃ xs ys,SqL K H p xs∧SqL K H q ys∧xs.all flatV=true∧ys.all flatV=true∧k=eqVs xs ys) ∨
 (k=false∧∃ xs ys,SqL K H p xs∧SqL K H q ys∧xs.length≠ys.length) ∨
 (∃ xs ys,SqT K H p xs∧SqT K H q ys∧xs.all flatV=true∧ys.all flatV=true∧k=eqVs xs ys)
theorem eqRef_rc {pins:List (Addr × Obj)}{σ:St}{H:Hp}{s:Shared}{p q:Addr}{k:Bool} (I:Inv X pins σ H s) (hu:X.A.units+8<cLine) (h:EqRef X.K H p q k) :
  SeqAt.RcAt X.A s (.ref p) (.ref q) k∧SeqAt.RcNeAt X.A s (.ref p) (.ref q) (!k):=by
 have deep:∀ {xs ys:List V}{n:Nat},n≤4→(SqL X.K H p xs∧SqL X.K H q ys∨SqT X.K H p xs∧SqT X.K H q ys)→xs.length=ys.length→(∀ (i:Nat) x y,xs[i]? = some x→ys[i]? = some y→DeepEq X.K H n x y) →
   SeqAt.RcAt X.A s (.ref p) (.ref q) true∧SeqAt.RcNeAt X.A s (.ref p) (.ref q) (!true):=fun {xs ys n} hn hq hl hd=>by
  have items:∀ {us ws:List Value},Vals xs us→Vals ys ws→∀ j (h1:j<us.toArray.size) (h2:j<ws.toArray.size),SeqAt.EqAt X.A.in1 s us.toArray[j] ws.toArray[j] true:=fun {us ws} r1 r2 j j1 j2=>by
   have e1:=r1.length
   have e2:=r2.length
   have j1':j<us.length:=by simpa using j1
   have j2':j<ws.length:=by simpa using j2
   obtain ⟨w1,q1,s1⟩:=r1.get (i:=j) (x:=xs[j]'(by omega)) (by simp)
   obtain ⟨w2,q2,s2⟩:=r2.get (i:=j) (x:=ys[j]'(by omega)) (by simp)
   have z1:us.toArray[j]=w1:=by
    obtain ⟨_,z⟩:=List.getElem?_eq_some_iff.mp q1
    simpa using z
   have z2:ws.toArray[j]=w2:=by
    obtain ⟨_,z⟩:=List.getElem?_eq_some_iff.mp q2
    simpa using z
   rw [z1,z2]
   exact deep_rc I (hd j _ _ (by simp) (by simp)) X.A.in1 (by have e:X.A.in1.units=X.A.units+1:=rfl;omega) s1 s2
  rcases hq with ⟨h1,h2⟩ | ⟨h1,h2⟩
  ·obtain ⟨its,r1,p1⟩:=isListOf I h1
   obtain ⟨its2,r2,p2⟩:=isListOf I h2
   have e1:=r1.length
   have e2:=r2.length
   have z:((List.range its.toArray.size).all fun _=>true)=true:=by simp
   have a1:=SeqAt.RcAt.lists (A:=X.A) (e:=fun _=>true) p1 p2 (by simp;omega) (by omega) (items r1 r2)
   have a2:=SeqAt.RcNeAt.lists (A:=X.A) (e:=fun _=>true) p1 p2 (by simp;omega) (by omega) (items r1 r2)
   rw [z] at a1 a2
   exact ⟨a1,a2⟩
  ·obtain ⟨its,r1,p1,_⟩:=I.tuple h1
   obtain ⟨its2,r2,p2,_⟩:=I.tuple h2
   have e1:=r1.length
   have e2:=r2.length
   have z:(((List.range (min its.toArray.size its2.toArray.size)).all fun _=>true) && its.toArray.size == its2.toArray.size)=true:=by simp;omega
   have a1:=SeqAt.RcAt.tuples (A:=X.A) (e:=fun _=>true) p1 p2 (by omega) (items r1 r2)
   have a2:=SeqAt.RcNeAt.tuples (A:=X.A) (e:=fun _=>true) p1 p2 (by omega) (items r1 r2)
   rw [z] at a1 a2
   exact ⟨a1,a2⟩
 have flatL:∀ {xs ys:List V},SqL X.K H p xs→SqL X.K H q ys→xs.length≠ys.length→SeqAt.RcAt X.A s (.ref p) (.ref q) false∧SeqAt.RcNeAt X.A s (.ref p) (.ref q) (!false):=fun {xs ys} h1 h2 hl=>by
  obtain ⟨its,r1,p1⟩:=isListOf I h1
  obtain ⟨its2,r2,p2⟩:=isListOf I h2
  have e1:=r1.length
  have e2:=r2.length
  have z:(its.toArray.size != its2.toArray.size)=true:=by simp;omega
  exact ⟨SeqAt.RcAt.lists_lengths p1 p2 z (by omega),SeqAt.RcNeAt.lists_lengths p1 p2 z (by omega)⟩
 rcases h with ⟨rfl,h⟩ | ⟨xs,ys,h1,h2,f1,f2,rfl⟩ | ⟨rfl,xs,ys,h1,h2,hl⟩ | ⟨xs,ys,h1,h2,f1,f2,rfl⟩
 ·cases h with
  | flat f=>simp [flatV] at f
  | lst h1 h2 hl hd=>exact deep (by decide) (.inl ⟨h1,h2⟩) hl hd
  | tup h1 h2 hl hd=>exact deep (by decide) (.inr ⟨h1,h2⟩) hl hd
 ·by_cases hl:xs.length=ys.length
  ·obtain ⟨its,r1,p1⟩:=isListOf I h1
   obtain ⟨its2,r2,p2⟩:=isListOf I h2
   have e1:=r1.length
   have e2:=r2.length
   have z:eqVs xs ys=(List.range its.toArray.size).all fun i=>eqV (xs.getD i .non) (ys.getD i .non):=by
    unfold eqVs
    rw [List.size_toArray,← e1,hl]
    simp
   rw [z]
   exact ⟨SeqAt.RcAt.lists p1 p2 (by simp;omega) (by omega) (eqVs_range r1 r2 f1 f2 _ _),SeqAt.RcNeAt.lists p1 p2 (by simp;omega) (by omega) (eqVs_range r1 r2 f1 f2 _ _)⟩
  ·have z:eqVs xs ys=false:=by unfold eqVs;simp [hl]
   rw [z]
   exact flatL h1 h2 hl
 ·exact flatL h1 h2 hl
 ·obtain ⟨its,r1,p1,_⟩:=I.tuple h1
  obtain ⟨its2,r2,p2,_⟩:=I.tuple h2
  have e1:=r1.length
  have e2:=r2.length
  by_cases hl:xs.length=ys.length
  ·have z:eqVs xs ys=((List.range (min its.toArray.size its2.toArray.size)).all (fun i=>eqV (xs.getD i .non) (ys.getD i .non)) && its.toArray.size == its2.toArray.size):=by
    unfold eqVs
    rw [List.size_toArray,List.size_toArray,← e1,← e2,hl]
    simp
   rw [z]
   exact ⟨SeqAt.RcAt.tuples p1 p2 (by omega) (eqVs_range r1 r2 f1 f2 _ _),SeqAt.RcNeAt.tuples p1 p2 (by omega) (eqVs_range r1 r2 f1 f2 _ _)⟩
  ·have z:eqVs xs ys=((List.range (min its.toArray.size its2.toArray.size)).all (fun i=>eqV (xs.getD i .non) (ys.getD i .non)) && its.toArray.size == its2.toArray.size):=by
    have z1:eqVs xs ys=false:=by unfold eqVs;simp [hl]
    have z2:(its.toArray.size == its2.toArray.size)=false:=by simp;omega
    rw [z1,z2,Bool.and_false]
   rw [z]
   exact ⟨SeqAt.RcAt.tuples p1 p2 (by omega) (eqVs_range r1 r2 f1 f2 _ _),SeqAt.RcNeAt.tuples p1 p2 (by omega) (eqVs_range r1 r2 f1 f2 _ _)⟩
def cEq (K:PySem.W.Frag):R2:=fun x y H Q=>match x,y with
 | .int i,.int j=>Q (.bl (decide (i=j))) H
 | .bl i,.bl j=>Q (.bl (decide (i=j))) H
 | .str i,.str j=>Q (.bl (decide (i=j))) H
 | .non,.non=>Q (.bl true) H
 | .non,.int _=>Q (.bl false) H
 | .int _,.non=>Q (.bl false) H
 | .non,.str _=>Q (.bl false) H
 | .str _,.non=>Q (.bl false) H
 | .non,.bl _=>Q (.bl false) H
 | .bl _,.non=>Q (.bl false) H
 | .ref p,.ref q=>∃ k,EqRef K H p q k∧Q (.bl k) H
 | _,_=>False
def cNe (K:PySem.W.Frag):R2:=fun x y H Q=>match x,y with
 | .int i,.int j=>Q (.bl (!decide (i=j))) H
 | .bl i,.bl j=>Q (.bl (!decide (i=j))) H
 | .str i,.str j=>Q (.bl (!decide (i=j))) H
 | .non,.non=>Q (.bl false) H
 | .non,.int _=>Q (.bl true) H
 | .int _,.non=>Q (.bl true) H
 | .non,.str _=>Q (.bl true) H
 | .str _,.non=>Q (.bl true) H
 | .non,.bl _=>Q (.bl true) H
 | .bl _,.non=>Q (.bl true) H
 | .ref p,.ref q=>∃ k,EqRef K H p q k∧Q (.bl (!k)) H
 | _,_=>False
theorem dcI {i j:Int}:decide (V.int i=V.int j)=decide (i=j):=by rw [decide_eq_decide];exact ⟨V.int.inj,congrArg _⟩
theorem dcB {i j:Bool}:decide (V.bl i=V.bl j)=decide (i=j):=by rw [decide_eq_decide];exact ⟨V.bl.inj,congrArg _⟩
theorem dcS {i j:Str}:decide (V.str i=V.str j)=decide (i=j):=by rw [decide_eq_decide];exact ⟨V.str.inj,congrArg _⟩
theorem o_eq (hu:X.A.units+8<cLine):OpR X (compareOp .Eq) (cEq X.K):=by
  intro pins s σ H x y v u Q I rx ry h
  have go:rEq x y H Q→wpAny (model X.prog X.w) X.A (compareOp .Eq v u) (EP X pins σ Q) X.xe s:=fun q=>op_eq pins s σ H _ _ v u Q I rx ry q
  cases x <;> cases y <;> first
    | exact False.elim h
    | exact go ⟨rfl,h⟩
    | exact go ⟨rfl,by rw [dcI];exact h⟩
    | exact go ⟨rfl,by rw [dcB];exact h⟩
    | exact go ⟨rfl,by rw [dcS];exact h⟩
    | (obtain ⟨k,e,q⟩:=h
       cases rx;cases ry
       exact (eqRef_rc I hu e).1 _ _ _ _ ⟨.bl k,H,I,rfl,q⟩)
theorem o_ne (hu:X.A.units+8<cLine):OpR X (compareOp .NotEq) (cNe X.K):=by
  intro pins s σ H x y v u Q I rx ry h
  have go:rNe x y H Q→wpAny (model X.prog X.w) X.A (compareOp .NotEq v u) (EP X pins σ Q) X.xe s:=fun q=>op_ne pins s σ H _ _ v u Q I rx ry q
  cases x <;> cases y <;> first
    | exact False.elim h
    | exact go ⟨rfl,h⟩
    | exact go ⟨rfl,by rw [dcI];exact h⟩
    | exact go ⟨rfl,by rw [dcB];exact h⟩
    | exact go ⟨rfl,by rw [dcS];exact h⟩
    | (obtain ⟨k,e,q⟩:=h
       cases rx;cases ry
       exact (eqRef_rc I hu e).2 _ _ _ _ ⟨.bl (!k),H,I,rfl,q⟩)
def cIsNot:R2:=fun x y H Q=>match x,y with
 | .bl i,.bl j=>Q (.bl (!decide (i=j))) H
 | x,.non=>Q (.bl (!decide (x=.non))) H
 | _,_=>False
def strIn (i j:Str):Bool:=!(Builtin.Str.occurrences j i 0 j.length 1).isEmpty
def cIn (K:PySem.W.Frag) (neg:Bool):R2:=fun x y H Q=>match y with
 | .ref p=>∃ xs,(SqL K H p xs∨SqT K H p xs)∧flatV x=true∧xs.all flatV=true∧Q (.bl (if neg then !inV x xs else inV x xs)) H
 | .str j=>match x with | .str i=>Q (.bl (if neg then !strIn i j else strIn i j)) H | _=>False
 | _=>False
theorem o_in:OpR X (compareOp .In) (cIn X.K false):=by
 intro pins s σ H x y v u Q I rx ry h
 cases y with
 | ref p =>
  obtain ⟨xs,h1,h2,h3,q⟩:=h
  exact op_in_seq pins s σ H _ _ v u Q I rx ry ⟨p,xs,rfl,h1,h2,h3,q⟩
 | str j =>
  cases x with
  | str i=>exact op_in_str pins s σ H _ _ v u Q I rx ry ⟨i,j,rfl,rfl,h⟩
  | _=>exact False.elim h
 | _=>exact False.elim h
def cBool (x:V) (k:Bool→Prop):Prop:=match x with | .bl b=>k b | _=>False
theorem cBool_of {x:V}{k:Bool→Prop} (h:cBool x k):∃ b,x=.bl b∧k b:=by
 cases x <;> first | exact False.elim h | exact ⟨_,rfl,h⟩
def cTst (t:TE):TT:=fun σ H Q=>t σ H fun x H'=>cBool x fun k=>Q k H'
def cTru (K:PySem.W.Frag) (t:TE):TT:=fun σ H Q=>t σ H fun x H'=>match x with
 | .non=>Q false H'
 | .bl b=>Q b H'
 | .int i=>Q (decide (i≠0)) H'
 | .str y=>y.length≤sizeLine∧Q (decide (y.length≠0)) H'
 | .ref p=>∃ k,TruV K (.ref p) H' k∧Q k H'
 | .byt p=>∃ k,TruV K (.byt p) H' k∧Q k H'
 | _=>False
theorem pt_tru {t:TE} (ha:PE X a t) (he:∀ whole,isTrue a X.env whole=(do let v ← whole;standAt a.pos;holding [v] (truthy v)):=by intro _;rfl):PT X a (cTru X.K t):=by
 have h:=pt_truth ha he
 have e:cTru X.K t=(fun σ H Q=>t σ H fun x H'=>∃ k,TruV X.K x H' k∧Q k H'):=by
  funext σ H Q
  unfold cTru
  congr 1
  funext x H'
  apply propext
  cases x with
  | non=>exact ⟨fun q=>⟨false,rfl,q⟩,fun ⟨k,h1,h2⟩=>by have h1:k=false:=h1;subst h1;exact h2⟩
  | bl b=>exact ⟨fun q=>⟨b,rfl,q⟩,fun ⟨k,h1,h2⟩=>by have h1:k=b:=h1;subst h1;exact h2⟩
  | int i =>
   have z:decide (i≠0)=(i != 0):=by by_cases e:i=0 <;> simp [e]
   exact ⟨fun q=>⟨decide (i≠0),z,q⟩,fun ⟨k,h1,h2⟩=>by have h1:k=(i != 0):=h1;rw [← z] at h1;subst h1;exact h2⟩
  | str y =>
   have z:decide (y.length≠0)=((y.length:Int) != 0):=by
    by_cases e:y.length=0
    ·simp [e]
    ·have:(y.length:Int)≠0:=by omega
     simp [e,this]
   exact ⟨fun q=>⟨decide (y.length≠0),⟨q.1,z⟩,q.2⟩,fun ⟨k,h1,h2⟩=>by
    have h1:y.length≤sizeLine∧k=((y.length:Int) != 0):=h1
    obtain ⟨h0,h1⟩:=h1
    rw [← z] at h1;subst h1;exact ⟨h0,h2⟩⟩
  | ref p=>exact Iff.rfl
  | byt y=>exact Iff.rfl
  | flt y=>exact ⟨fun q=>q.elim,fun ⟨k,h1,h2⟩=>h1.elim⟩
  | ty y=>exact ⟨fun q=>q.elim,fun ⟨k,h1,h2⟩=>h1.elim⟩
 rw [e]
 exact h
theorem cBool_eq {x:V}{k:Bool→Prop}:cBool x k = ∃ b,x=.bl b∧k b:=propext ⟨cBool_of,fun ⟨b,e,q⟩=>by subst e;exact q⟩
theorem cTst_eq (t:TE):cTst t=tTest t:=by
 funext σ H Q
 unfold cTst tTest
 congr 1
 funext x H'
 exact cBool_eq
theorem t_cmp {op:CmpOp}{r:R2} (ho:OpR X (compareOp op) r) (ha:PE X a ta) (hb:PE X b tb) (hm:behindInMarks op b=false):PT X (.Compare a [op] [b] pos) (cTst (tOp r ta tb)):=by
 rw [cTst_eq]
 exact pt_cmpR ho ha hb hm
def cChain (r r':R2) (ta tb tc:TE):TE:=fun σ H Q=>ta σ H fun x H1=>tb σ H1 fun y H2=>r x y H2 fun z H3=>cBool z fun k =>
 (if k=true then tc σ H3 fun w' H4=>r' y w' H4 Q else Q (.bl false) H3)
theorem cChain_eq (r r':R2) (ta tb tc:TE):cChain r r' ta tb tc=tChain r r' ta tb tc:=by
 funext σ H Q
 unfold cChain tChain
 congr 1
 funext x H1
 congr 1
 funext y H2
 congr 1
 funext z H3
 exact cBool_eq
theorem e_chain {op op':CmpOp}{r r':R2} (ho:OpR X (compareOp op) r) (ho':OpR X (compareOp op') r') (ha:PE X a ta) (hb:PE X b tb) (hc:PE X c tc)
  (hm:lastMarks [op,op'] [b,c]=false:=by with_unfolding_all rfl):PE X (.Compare a [op,op'] [b,c] pos) (cChain r r' ta tb tc):=by
 rw [cChain_eq]
 exact pe_chain ho ho' ha hb hc hm
theorem t_chain {op op':CmpOp}{r r':R2} (ho:OpR X (compareOp op) r) (ho':OpR X (compareOp op') r') (ha:PE X a ta) (hb:PE X b tb) (hc:PE X c tc)
  (hm:lastMarks [op,op'] [b,c]=false:=by with_unfolding_all rfl):PT X (.Compare a [op,op'] [b,c] pos) (cTst (cChain r r' ta tb tc)):=by
 rw [cTst_eq,cChain_eq]
 exact pt_chain ho ho' ha hb hc hm
def cAndV (ta tb:TE):TE:=fun σ H Q=>ta σ H fun x H1=>cBool x fun c=>if c=true then tb σ H1 Q else Q (.bl false) H1
def cNotV (ta:TE):TE:=fun σ H Q=>ta σ H fun x H1=>cBool x fun c=>Q (.bl (!c)) H1
theorem cAndV_eq (ta tb:TE):cAndV ta tb=tAndV ta tb:=by
 funext σ H Q
 unfold cAndV tAndV
 congr 1
 funext x H'
 exact cBool_eq
theorem cNotV_eq (ta:TE):cNotV ta=tNotV ta:=by
 funext σ H Q
 unfold cNotV tNotV
 congr 1
 funext x H'
 exact cBool_eq
variable {rest:List Expr}
theorem e_and (ha:PE X a ta) (hb:PE X (.BoolOp .And (b :: rest) pos) tb):PE X (.BoolOp .And (a :: b :: rest) pos) (cAndV ta tb):=by
 rw [cAndV_eq]
 exact pe_and ha hb
theorem e_not (ha:PE X a ta):PE X (.UnaryOp .Not a pos) (cNotV ta):=by
 rw [cNotV_eq]
 exact pe_not ha
def cIx (K:PySem.W.Frag):R2:=fun x y H Q=>match x,y with
 | .ref p,.int i=>∃ xs v,(SqL K H p xs∨SqT K H p xs)∧atI xs i=some v∧Q v H
 | .str z,.int i=>z.length≤sizeLine∧∃ c,atI z.cps.toList i=some c∧Q (.str ⟨#[c]⟩) H
 | _,_=>False
theorem i_seq:IxR X (cIx X.K):=ix_seq.imp fun x y H Q h=>by
  cases x <;> cases y <;> first
    | exact False.elim h
    | (obtain ⟨xs,v,h1 | h1,h2,h3⟩:=h
       · exact .inl ⟨_,xs,_,v,rfl,rfl,h1,h2,h3⟩
       · exact .inr (.inl ⟨_,xs,_,v,rfl,rfl,h1,h2,h3⟩))
    | (obtain ⟨h1,c,h2,h3⟩:=h
       exact .inr (.inr ⟨_,_,c,rfl,rfl,h1,h2,h3⟩))
def cSlL (K:PySem.W.Frag):V→Option Int→Option Int→Hp→VK→Prop:=fun x lo hi H Q=>match x with
 | .ref p=>∃ xs,SqL K H p xs∧∀ q,H q=none→Q (.ref q) (upd H q (.lst (cutV xs lo hi)))
 | _=>False
theorem s_list:SlR X (cSlL X.K):=sl_list.imp fun x lo hi H Q h=>by
 cases x <;> first | exact False.elim h | (obtain ⟨xs,h1,h2⟩:=h;exact ⟨_,xs,rfl,h1,h2⟩)
def cLen (K:PySem.W.Frag):List V→Hp→VK→Prop:=fun vs H Q=>match vs with
 | [.str z]=>z.length≤sizeLine∧Q (.int z.length) H
 | [.ref p]=>(∃ ys,(SqL K H p ys∨SqT K H p ys)∧Q (.int ys.length) H)∨∃ kvs,H p=some (.dK kvs)∧Q (.int kvs.length) H
 | _=>False
theorem c_len:CallR X (.builtin "len") (cLen X.K):=by
 intro pins s σ H xs us Q I r h
 match xs,h with
 | [.str z],h=>exact call_len_str pins s σ H _ us Q I r ⟨z,rfl,h.1,h.2⟩
 | [.ref p],h =>
  rcases h with ⟨ys,h1,h2⟩ | ⟨kvs,h1,h2⟩
  ·exact call_len_seq pins s σ H _ us Q I r ⟨p,ys,rfl,h1,h2⟩
  ·exact call_lenD pins s σ H _ us Q I r ⟨p,kvs,rfl,h1,h2⟩
def cList (K:PySem.W.Frag):List V→Hp→VK→Prop:=fun vs H Q=>match vs with
 | [.ref p]=>∃ ys,(SqL K H p ys∨SqT K H p ys)∧∀ l,H l=none→Q (.ref l) (upd H l (.lst ys))
 | _=>False
theorem c_list:CallR X (.type "list") (cList X.K):=by
 intro pins s σ H xs us Q I r h
 match xs,h with
 | [.ref p],h =>
  obtain ⟨ys,h1,h2⟩:=h
  exact call_list_of pins s σ H _ us Q I r ⟨p,ys,rfl,h1,h2⟩
def cTuple (K:PySem.W.Frag):List V→Hp→VK→Prop:=fun vs H Q=>match vs with
 | [.ref p]=>∃ ys,((SqL K H p ys∧∀ l,H l=none→Q (.ref l) (upd H l (.tup ys)))∨(SqT K H p ys∧Q (.ref p) H))
 | _=>False
theorem c_tuple:CallR X (.type "tuple") (cTuple X.K):=by
 intro pins s σ H xs us Q I r h
 match xs,h with
 | [.ref p],h =>
  obtain ⟨ys,h1⟩:=h
  exact call_tuple_of pins s σ H _ us Q I r ⟨p,ys,rfl,h1⟩
def cMin:List V→Hp→VK→Prop:=fun vs H Q=>match vs with
 | [.int i,.int j]=>Q (.int (if j<i then j else i)) H
 | _=>False
theorem c_min (hc:X.calm=true):CallR X (.builtin "min") cMin:=by
 intro pins s σ H xs us Q I r h
 match xs,h with
 | [.int i,.int j],h=>exact call_min2 hc pins s σ H _ us Q I r ⟨i,j,rfl,h⟩
def cIsinst (K:PySem.W.Frag):List V→Hp→VK→Prop:=fun vs H Q=>match vs with
 | [x,.ty T]=>∃ t b,TyOf K H x t∧PySem.W.kitOne K t (.type T)=some b∧Q (.bl b) H
 | [x,.ref C]=>∃ t b,TyOf K H x t∧PySem.W.kitOne K t (.ref C)=some b∧Q (.bl b) H
 | _=>False
theorem c_isinst:CallR X (.builtin "isinstance") (cIsinst X.K):=by
 intro pins s σ H xs us Q I r h
 match xs,h with
 | [x,.ty T],h =>
  obtain ⟨t,k,h1,h2,h3⟩:=h
  obtain ⟨u,w',rfl,r1,r2⟩:=vals2 r
  cases r2
  exact isinst_ok I r1 h1 h2 fun tk=>⟨.bl k,H,I.tok tk,rfl,h3⟩
 | [x,.ref C],h =>
  obtain ⟨t,k,h1,h2,h3⟩:=h
  obtain ⟨u,w',rfl,r1,r2⟩:=vals2 r
  cases r2
  exact isinst_ok I r1 h1 h2 fun tk=>⟨.bl k,H,I.tok tk,rfl,h3⟩
def csChk (onames:List (Str × NameKind)) (scope:Scope):Bool:=scope.names.all fun y=>decide (y.2≠.cell) && (decide (y.2≠.local) || decide (scope.names.lookup y.1=some .local)) && (decide (y.2≠.free) || decide (onames.lookup y.1=some .cell) || decide (onames.lookup y.1=some .free))
theorem CScope.of {scope:Scope} (onames:List (Str × NameKind)) (h:csChk onames scope=true) (k:scope.kind=.function:=by rfl) (e:X.env.scope.names=onames:=by rfl):CScope X scope:=by
 have q:=List.all_eq_true.mp h
 refine ⟨k,fun y hy=>?_,fun y hy hl=>?_,fun y hy hf=>?_⟩
 ·have z:=q y hy
  simp only [Bool.and_eq_true,decide_eq_true_eq] at z
  exact z.1.1
 ·have z:=q y hy
  simp only [Bool.and_eq_true,Bool.or_eq_true,decide_eq_true_eq] at z
  exact z.1.2.resolve_left fun w=>w hl
 ·have z:=q y hy
  simp only [Bool.and_eq_true,Bool.or_eq_true,decide_eq_true_eq] at z
  show X.env.scope.names.lookup y.1=_∨X.env.scope.names.lookup y.1=_
  rw [e]
  rcases z.2 with (w | w) | w
  ·exact absurd hf w
  ·exact .inl w
  ·exact .inr w
def cnChk (XN:List Str) (scope:Scope) (N:List Str) (k:Nat) (sel:List Nat):Bool:=decide (N.length=k+sel.length) && (List.range sel.length).all fun i=>match sel[i]?,N[k+i]? with
 | some j,some x=>decide (XN[j]? = some x) && decide (scope.names.lookup x=some .free)
 | _,_=>false
theorem CNames.of {scope:Scope}{N:List Str}{k:Nat}{sel:List Nat} (XN:List Str) (h:cnChk XN scope N k sel=true) (e:X.N=XN:=by rfl):CNames X scope N k sel:=by
 unfold cnChk at h
 simp only [Bool.and_eq_true,decide_eq_true_eq] at h
 refine ⟨h.1,fun i j x h1 h2=>?_⟩
 have hi:i<sel.length:=(List.getElem?_eq_some_iff.mp h1).1
 have q:=List.all_eq_true.mp h.2 i (List.mem_range.mpr hi)
 rw [h1,h2] at q
 simp only [Bool.and_eq_true,decide_eq_true_eq] at q
 rw [e]
 exact q
end
theorem hr8 {A:Around}{k:Nat} (hr:Room k A):A.units+8<cLine:=by have:=hr.units;omega
section
variable {X:Cx}{a b:Expr}{te:TE}
def cPart (t:TE):TO:=fun σ H Q=>t σ H fun x H1=>match x with | .int i=>Q (some i) H1 | _=>False
theorem cPart_eq (t:TE):cPart t=tPart t:=by
 funext σ H Q
 unfold cPart tPart
 congr 1
 funext x H'
 apply propext
 cases x <;> first
  | exact ⟨fun q=>⟨_,rfl,q⟩,fun ⟨i,e,q⟩=>by cases e;exact q⟩
  | exact ⟨fun q=>False.elim q,fun ⟨i,e,q⟩=>by cases e⟩
theorem e_part (h:PE X a te):PO X (some a) (cPart te):=by
 rw [cPart_eq]
 exact po_some h
def cNeg:V→Hp→VK→Prop:=fun x H Q=>match x with | .int i=>Q (.int (-i)) H | _=>False
theorem u_neg:UnR X (unaryOp .USub) cNeg:=fun pins s σ H x v Q I rx h=>by
 cases x <;> first | exact False.elim h | exact un_neg pins s σ H _ v Q I rx ⟨_,rfl,h⟩
theorem t_pc {op:CmpOp}{t:TE}{pos:Pos} (h:PC X op a b t) (h1:behindInMarks op b=false:=by first | exact nobehind _ (by decide) (by decide) | rfl | with_unfolding_all rfl):PT X (.Compare a [op] [b] pos) (cTst t):=by
 have e:cTst t=tB t:=by
  funext σ H Q
  unfold cTst tB
  congr 1
  funext x H'
  exact cBool_eq
 rw [e]
 exact pt_cmp h h1
end
section
variable {K:PySem.W.Frag}{σ:St}{sel:List Nat}{rest:St}{H:Hp}{p:Addr}{tt:TT}{te:TE}{Q:VK}
abbrev CompGoal (J:It) (σ:St) (k:Nat) (sel:List Nat) (g:TG) (tt:TT) (te:TE) (Q:VK) (H1:Hp) (p:Addr):Prop :=
 ∃ W:Nat→Nat→St→Hp→Prop,(∃ m,W 0 m (cst σ k sel) (upd H1 p (.lst [])))∧∀ i m σ2 H2,W i m σ2 H2 →
  (J.stop i H2∧Q (.ref p) H2)∨(J.go i H2∧∀ x H3,J.yld i H2 x H3→g x σ2 H3 fun σ4 H4=>tt σ4 H4 fun b H5 =>
   if b=true then te σ4 H5 fun v H6=>∃ ys,H6 p=some (.lst ys)∧ys.length<sizeLine∧∃ m',m'<m∧W (i+1) m' σ4 (upd H6 p (.lst (ys ++ [v]))) else ∃ m',m'<m∧W (i+1) m' σ4 H5)
theorem comp_inv {J:It}{n:Nat}{item:Nat→V} (Pv:Nat→Hp→Prop) (hr:sel.map (fun j=>(σ[j]?).join)=rest) (h0:Pv 0 (upd H p (.lst [])))
  (src:∀ i H2,i<n→Pv i H2→J.go i H2∧∀ x H3,J.yld i H2 x H3→H3=H2∧x=item i) (fin:∀ H2,Pv n H2→J.stop n H2)
  (step:∀ i H2 (R:Hp→Prop),i<n→Pv i H2→(∀ H',Pv (i+1) H'→R H')→tt (some (item i) :: rest) H2 fun b H5 =>
   if b=true then te (some (item i) :: rest) H5 fun v H6=>∃ ys,H6 p=some (.lst ys)∧ys.length<sizeLine∧R (upd H6 p (.lst (ys ++ [v]))) else R H5)
  (hQ:∀ H2,Pv n H2→Q (.ref p) H2):CompGoal J σ 1 sel (gName 0) tt te Q H p:=by
 refine ⟨fun i m σ2 H2=>i≤n∧m=n - i+1∧(∃ v,σ2=v :: rest)∧Pv i H2,⟨n+1,Nat.zero_le _,rfl,⟨none,?_⟩,h0⟩,?_⟩
 ·unfold cst;rw [hr];rfl
 ·rintro i m σ2 H2 ⟨hi,rfl,⟨v,rfl⟩,hP⟩
  by_cases hlt:i<n
  ·right
   obtain ⟨hg,hy⟩:=src i H2 hlt hP
   refine ⟨hg,fun x H3 hx=>?_⟩
   obtain ⟨rfl,rfl⟩:=hy x H3 hx
   exact step i H3 (fun H'=>∃ m',m'<n - i+1∧i+1≤n∧m'=n - (i+1)+1∧(∃ v,(some (item i) :: rest:St)=v :: rest)∧Pv (i+1) H') hlt hP fun H' h'=>⟨n - (i+1)+1,by omega,hlt,rfl,⟨_,rfl⟩,h'⟩
  ·left
   have e:i=n:=by omega
   subst e
   exact ⟨fin H2 hP,hQ H2 hP⟩
theorem src_list {a:Addr}{xs:List V}{Pv:Nat→Hp→Prop} (hl:∀ i H2,i≤xs.length→Pv i H2→SqL K H2 a xs):∀ i H2,i<xs.length→Pv i H2→(Itl K a).go i H2∧∀ x H3,(Itl K a).yld i H2 x H3→H3=H2∧x=xs.getD i .non:=fun i H2 hi hP=>by
 have q:=hl i H2 (Nat.le_of_lt hi) hP
 have e:xs[i]? = some (xs.getD i .non):=by simp [List.getD,hi]
 refine ⟨⟨xs,_,q,e⟩,fun x H3 ⟨h1,h2⟩=>⟨h1,?_⟩⟩
 have:=h2 xs q
 rw [e] at this
 exact (Option.some.inj this).symm
theorem src_tup {a:Addr}{xs:List V}{Pv:Nat→Hp→Prop} (hl:∀ i H2,i≤xs.length→Pv i H2→SqT K H2 a xs):∀ i H2,i<xs.length→Pv i H2→(Itt K a).go i H2∧∀ x H3,(Itt K a).yld i H2 x H3→H3=H2∧x=xs.getD i .non:=fun i H2 hi hP=>by
 have q:=hl i H2 (Nat.le_of_lt hi) hP
 have e:xs[i]? = some (xs.getD i .non):=by simp [List.getD,hi]
 refine ⟨⟨xs,_,q,e⟩,fun x H3 ⟨h1,h2⟩=>⟨h1,?_⟩⟩
 have:=h2 xs q
 rw [e] at this
 exact (Option.some.inj this).symm
theorem src_rng {lo:Int}{n:Nat}{Pv:Nat→Hp→Prop}:∀ i H2,i<n→Pv i H2→(Itr lo n).go i H2∧∀ x H3,(Itr lo n).yld i H2 x H3→H3=H2∧x=.int (lo+i):=fun i H2 hi hP=>⟨hi,fun x H3 h=>h⟩
theorem same_upd {H:Hp}{p:Addr}{o:HO} (hp:H p=none):Same H (upd H p o):=fun b u e=>by rw [upd_ne (ne_of_none e hp)];exact e
theorem take_map_snoc {xs:List V}{f:V→V}{i:Nat} (hi:i<xs.length):(xs.take i).map f ++ [f (xs.getD i .non)]=(xs.take (i+1)).map f:=by
 rw [List.take_add_one,List.map_append]
 congr 1
 simp [List.getD,hi]
theorem comp_list {a:Addr}{xs:List V} (f:V→V) (hl:SqL K H a xs) (hp:H p=none) (hr:sel.map (fun j=>(σ[j]?).join)=rest) (hz:xs.length≤sizeLine)
  (he:∀ x H' (Q':VK),x∈xs→Same H H'→Q' (f x) H'→te (some x :: rest) H' Q') (hQ:Q (.ref p) (upd H p (.lst (xs.map f)))):CompGoal (Itl K a) σ 1 sel (gName 0) tTrue te Q H p:=by
 refine comp_inv (n:=xs.length) (item:=fun i=>xs.getD i .non) (fun i H2=>H2=upd H p (.lst ((xs.take i).map f))) hr (by simp) (src_list ?_) ?_ ?_ ?_
 ·rintro i H2 hi rfl
  exact (same_upd hp).seq hl
 ·rintro H2 rfl
  exact ⟨xs,(same_upd hp).seq hl,Nat.le_refl _⟩
 ·rintro i H2 R hi rfl hR
  unfold tTrue
  dsimp only
  rw [if_pos rfl]
  refine he _ _ _ (by rw [show xs.getD i .non=xs[i] from by simp [List.getD,hi]];exact List.getElem_mem _) (same_upd hp) ⟨_,upd_same,?_,hR _ ?_⟩
  ·rw [List.length_map,List.length_take];omega
  ·rw [upd_upd,take_map_snoc hi]
 ·rintro H2 rfl
  rw [List.take_length]
  exact hQ
theorem comp_rng {lo:Int}{n:Nat} (f:Int→V) (hp:H p=none) (hr:sel.map (fun j=>(σ[j]?).join)=rest) (hz:n≤sizeLine)
  (he:∀ (i:Nat) H' (Q':VK),i<n→Same H H'→Q' (f (lo+i)) H'→te (some (.int (lo+i)) :: rest) H' Q') (hQ:Q (.ref p) (upd H p (.lst ((List.range n).map fun i=>f (lo+(i:Nat)))))):CompGoal (Itr lo n) σ 1 sel (gName 0) tTrue te Q H p:=by
 refine comp_inv (n:=n) (item:=fun i=>.int (lo+i)) (fun i H2=>H2=upd H p (.lst ((List.range i).map fun i=>f (lo+(i:Nat))))) hr (by simp) src_rng ?_ ?_ ?_
 ·rintro H2 rfl
  exact Nat.le_refl _
 ·rintro i H2 R hi rfl hR
  unfold tTrue
  dsimp only
  rw [if_pos rfl]
  refine he i _ _ hi (same_upd hp) ⟨_,upd_same,?_,hR _ ?_⟩
  ·rw [List.length_map,List.length_range];omega
  ·rw [upd_upd,List.range_succ,List.map_append];rfl
 ·rintro H2 rfl
  exact hQ
end
def cRef (x:V) (k:Addr→Prop):Prop:=match x with | .ref p=>k p | _=>False
theorem cRef_eq {x:V}{k:Addr→Prop}:(∃ p,x=.ref p∧k p)=cRef x k:=by
 apply propext
 cases x <;> first
  | exact ⟨fun ⟨p,e,q⟩=>by cases e;exact q,fun q=>⟨_,rfl,q⟩⟩
  | exact ⟨fun ⟨p,e,q⟩=>(by cases e),fun q=>False.elim q⟩
def cInt1 (vs:List V) (k:Int→Prop):Prop:=match vs with | [.int j]=>k j | _=>False
theorem cInt1_eq {vs:List V}{k:Int→Prop}:(∃ j,vs=[.int j]∧k j)=cInt1 vs k:=by
 apply propext
 constructor
 ·rintro ⟨j,rfl,q⟩;exact q
 ·intro h
  unfold cInt1 at h
  split at h
  ·exact ⟨_,rfl,h⟩
  ·exact h.elim
def cInt2 (vs:List V) (k:Int→Int→Prop):Prop:=match vs with | [.int i,.int j]=>k i j | _=>False
theorem cInt2_eq {vs:List V}{k:Int→Int→Prop}:(∃ i j,vs=[.int i,.int j]∧k i j)=cInt2 vs k:=by
 apply propext
 constructor
 ·rintro ⟨i,j,rfl,q⟩;exact q
 ·intro h
  unfold cInt2 at h
  split at h
  ·exact ⟨_,_,rfl,h⟩
  ·exact h.elim
def ForGoal (J:It) (g:TG) (tb:TS) (D:Ends) (σ:St) (H:Hp):Prop:=∃ W:Nat→Nat→St→Hp→Prop,(∃ m,W 0 m σ H)∧∀ i m σ H,W i m σ H →
 (J.stop i H∧D.nx σ H)∨(J.go i H∧∃ N:St→Hp→Prop,(∀ σ' H',N σ' H'→∃ m',m'<m∧W (i+1) m' σ' H')∧∀ x H',J.yld i H x H'→g x σ H' fun σ2 H2=>tb { D with nx:=N,ct:=N,bk:=D.nx } σ2 H2)
def CompG (J:It) (σ:St) (k:Nat) (sel:List Nat) (g:TG) (tt:TT) (te:TE) (Q:VK) (H1:Hp):Prop:=∀ p,H1 p=none→CompGoal J σ k sel g tt te Q H1 p
section
variable {K:PySem.W.Frag}{te:TE}{ta:TA}{g:TG}{tb:TS}{D:Ends}{σ:St}{H:Hp}{p:Addr}{xs:List V}{k:Nat}{sel:List Nat}{tt:TT}{el:TE}{Q:VK}
theorem tFor_list:tFor (iList K te) g tb D σ H=te σ H (fun x H1=>cRef x fun p=>(∃ xs,SqL K H1 p xs)∧ForGoal (Itl K p) g tb D σ H1):=by
 unfold tFor iList
 congr 1
 funext x H1
 exact cRef_eq
theorem tFor_tup:tFor (iTup K te) g tb D σ H=te σ H (fun x H1=>cRef x fun p=>(∃ xs,SqT K H1 p xs)∧ForGoal (Itt K p) g tb D σ H1):=by
 unfold tFor iTup
 congr 1
 funext x H1
 exact cRef_eq
theorem tFor_rng1:tFor (iRng1 ta) g tb D σ H=ta σ H (fun vs H1=>cInt1 vs fun j=>-(2 ^ 62)≤j∧j<2 ^ 62∧ForGoal (Itr 0 j.toNat) g tb D σ H1):=by
 unfold tFor iRng1
 congr 1
 funext x H1
 exact cInt1_eq
theorem tFor_rng2:tFor (iRng2 ta) g tb D σ H=ta σ H (fun vs H1=>cInt2 vs fun i j=>(-(2 ^ 62)≤i∧i<2 ^ 62 ∧ -(2 ^ 62)≤j∧j<2 ^ 62)∧ForGoal (Itr i (j - i).toNat) g tb D σ H1):=by
 unfold tFor iRng2
 congr 1
 funext x H1
 exact cInt2_eq
theorem tComp_list:tComp (iList K te) k sel g tt el σ H Q=te σ H (fun x H1=>cRef x fun p=>(∃ xs,SqL K H1 p xs)∧CompG (Itl K p) σ k sel g tt el Q H1):=by
 unfold tComp iList
 congr 1
 funext x H1
 exact cRef_eq
theorem tComp_tup:tComp (iTup K te) k sel g tt el σ H Q=te σ H (fun x H1=>cRef x fun p=>(∃ xs,SqT K H1 p xs)∧CompG (Itt K p) σ k sel g tt el Q H1):=by
 unfold tComp iTup
 congr 1
 funext x H1
 exact cRef_eq
theorem tComp_rng1:tComp (iRng1 ta) k sel g tt el σ H Q=ta σ H (fun vs H1=>cInt1 vs fun j=>-(2 ^ 62)≤j∧j<2 ^ 62∧CompG (Itr 0 j.toNat) σ k sel g tt el Q H1):=by
 unfold tComp iRng1
 congr 1
 funext x H1
 exact cInt1_eq
theorem for_listG (Pv:Nat→St→Hp→Prop) (h0:Pv 0 σ H) (hk:∀ i σ H,i≤xs.length→Pv i σ H→SqL K H p xs)
  (hs:∀ i x σ H,xs[i]? = some x→Pv i σ H→g x σ H fun σ2 H2=>tb { D with nx:=Pv (i+1),ct:=Pv (i+1),bk:=D.nx } σ2 H2) (hd:∀ σ H,Pv xs.length σ H→D.nx σ H):ForGoal (Itl K p) g tb D σ H:=for_list Pv h0 hk hs hd
theorem for_rngG {lo:Int}{n:Nat} (Pv:Nat→St→Hp→Prop) (h0:Pv 0 σ H)
  (hs:∀ (i:Nat) σ H,i<n→Pv i σ H→g (.int (lo+i)) σ H fun σ2 H2=>tb { D with nx:=Pv (i+1),ct:=Pv (i+1),bk:=D.nx } σ2 H2) (hd:∀ σ H,Pv n σ H→D.nx σ H):ForGoal (Itr lo n) g tb D σ H:=for_range Pv h0 hs hd
end
theorem atI_ok {α:Type}{xs:List α}{i:Int} (d:α) (h0:0≤i) (h1:i<xs.length):atI xs i=some (xs.getD i.toNat d):=by
 obtain ⟨n,rfl⟩:=Int.eq_ofNat_of_zero_le h0
 have hn:n<xs.length:=by omega
 have e:xs[n]? = some (xs.getD n d):=by simp [List.getD,hn]
 exact atI_nat e
theorem getD_map {α β:Type} (f:α→β) (xs:List α) (n:Nat) (d:α):(xs.map f).getD n (f d)=f (xs.getD n d):=by
 simp [List.getD]
theorem atI_map {α β:Type}{f:α→β}{xs:List α}{i:Int} (d:α) (h0:0≤i) (h1:i<xs.length):atI (xs.map f) i=some (f (xs.getD i.toNat d)):=by
 rw [atI_ok (f d) h0 (by rw [List.length_map];exact h1),getD_map]
theorem get_map_of {α β:Type}{f:α→β}{xs:List α}{i:Nat}{y:β} (h:(xs.map f)[i]? = some y):∃ x,xs[i]? = some x∧y=f x:=by
 rw [List.getElem?_map] at h
 cases e:xs[i]? with
 | none=>rw [e] at h;cases h
 | some x=>rw [e] at h;exact ⟨x,rfl,(Option.some.inj h).symm⟩
theorem pe_globE {X:Cx}{x:Str}{v:V}{pos:Pos} (hg:Gl X x) (hm:∃ u,X.mg x=some u∧RelV v u) (hd:(x == ("__debug__" : Str))=false:=by decide):PE X (.Name x pos) (tC v):=by
 obtain ⟨u,h1,h2⟩:=hm
 exact pe_glob hg h1 h2 hd
def constV:Expr→Option V
 | .Constant (.int i) _ _=>some (.int i)
 | .Constant (.bool b) _ _=>some (.bl b)
 | .Constant .none _ _=>some .non
 | .Constant (.str x) _ _=>some (.str x)
 | _=>none
def constVs:List Expr→Option (List V)
 | []=>some []
 | e :: r=>match constV e,constVs r with | some v,some vs=>some (v :: vs) | _,_=>none
def tVals (vs:List V):TA:=fun _ H Q=>Q vs H
theorem pe_constV {X:Cx}{e:Expr}{v:V} (h:constV e=some v):PE X e (tC v):=by
 unfold constV at h
 split at h <;> first
  | (cases h;exact pe_int)
  | (cases h;exact pe_bl)
  | (cases h;exact pe_non)
  | (cases h;exact pe_str)
  | cases h
theorem star_const {e:Expr}{es:List Expr}{env:Env}{v:V} (h:constV e=some v):starEach (e :: es) env=(false,eval e env) :: starEach es env:=by
 unfold constV at h
 split at h <;> first | rfl | cases h
theorem pa_consts {X:Cx}:∀ {es:List Expr}{vs:List V},constVs es=some vs→PA X es (tVals vs)
 | [],vs,h=>by
  have e:vs=[]:=(Option.some.inj h).symm
  subst e
  exact fun pos pins s σ H Q I q=>pa_nil pos pins s σ H Q I q
 | e :: r,vs,h=>by
  unfold constVs at h
  cases h1:constV e with
  | none=>rw [h1] at h;cases h
  | some v =>
   cases h2:constVs r with
   | none=>rw [h1,h2] at h;cases h
   | some ws =>
    rw [h1,h2] at h
    have e':v :: ws=vs:=Option.some.inj h
    subst e'
    exact fun pos pins s σ H Q I q=>pa_cons (pe_constV h1) (pa_consts h2) (star_const h1) pos pins s σ H Q I q
section
variable {X:Cx}{tg:Expr}
def cSlS:V→Option Int→Option Int→Hp→VK→Prop:=fun x lo hi H Q=>match x with
 | .str z=>z.length≤sizeLine∧Q (.str (Txt.slice z lo hi)) H
 | _=>False
theorem s_str:SlR X cSlS:=by
 intro pins s σ H x v vl vu lo hi sl Q I rx hs pl pu h
 cases x with
 | str z =>
  obtain ⟨t,rfl⟩:=rx
  obtain ⟨hz,q⟩:=h
  refine ⟨"str",_,F.slot_str_getitem.lookup,typeIs_str _ _ _,?_⟩
  have fin:∀ t' k,EP X pins σ Q (.str (Txt.slice z lo hi) t') { s with toks:=k }:=fun t' k=>⟨.str (Txt.slice z lo hi),H,I.tok k,⟨t',rfl⟩,q⟩
  cases pl with
  | none=>cases pu with
   | none=>exact wpAny_getItem_str_slice (l:=none) (u:=none) (st:=none) hs rfl (post_val_or_str ⟨Nat.le_trans (Txt.slice_le z _ _) hz,fin⟩)
   | int j uj=>exact wpAny_getItem_str_slice (l:=none) (u:=some (j,uj)) (st:=none) hs rfl (post_val_or_str ⟨Nat.le_trans (Txt.slice_le z _ _) hz,fin⟩)
  | int i ui=>cases pu with
   | none=>exact wpAny_getItem_str_slice (l:=some (i,ui)) (u:=none) (st:=none) hs rfl (post_val_or_str ⟨Nat.le_trans (Txt.slice_le z _ _) hz,fin⟩)
   | int j uj=>exact wpAny_getItem_str_slice (l:=some (i,ui)) (u:=some (j,uj)) (st:=none) hs rfl (post_val_or_str ⟨Nat.le_trans (Txt.slice_le z _ _) hz,fin⟩)
 | _=>exact False.elim h
variable {te:TE}{g:TG}{tb:TS}{D:Ends}{σ:St}{H:Hp}{k:Nat}{sel:List Nat}{tt:TT}{el:TE}{Q:VK}
def cAll (K:PySem.W.Frag):List V→Hp→VK→Prop:=fun vs H Q=>match vs with
 | [.ref p]=>∃ bs:List Bool,SqL K H p (bs.map V.bl)∧Q (.bl (bs.all id)) H
 | _=>False
theorem c_all (hc:X.calm=true):CallR X (.builtin "all") (cAll X.K):=by
 intro pins s σ H xs us Q I r h
 match xs,h with
 | [.ref p],h =>
  obtain ⟨bs,h1,q⟩:=h
  obtain ⟨u,rfl,ru⟩:=vals1 r
  cases ru
  obtain ⟨its,rv,pl,hz⟩:=I.list h1
  have hlen:=rv.length
  rw [List.length_map] at hlen
  have hlt:p<s.heap.objs.size:=by obtain ⟨_,e,_⟩:=pl.isList;exact Heap.lt_size e
  have hh:X.A.in1.handled=none:=I.ok.hd hc
  refine call_all_walk (wpAny_pyIter_list pl.isList ⟨s.heap.objs.size,_,_,its.toArray.size,_,_,fun i=>bs.getD i false,rfl,Walks.list hh s.heap.objs.size p (Nat.ne_of_lt hlt) its.toArray,⟨⟨_,Heap.get?_push_size _ rfl,rfl,rfl⟩,pl.isList.push _⟩,?_,?_⟩)
  ·intro i v Q' E' s' hv hq
   have hv':its[i]? = some v:=by simpa using hv
   have hi:i<its.length:=(List.getElem?_eq_some_iff.mp hv').1
   obtain ⟨u,hu,ru⟩:=rv.get (i:=i) (x:=.bl (bs.getD i false)) (by rw [List.getElem?_map];simp [List.getD,show i<bs.length by omega])
   rw [hv'] at hu
   cases hu
   cases ru
   exact wpAny_truthy_bool hq
  ·intro h' tk kk
   refine ⟨.bl (bs.all id),H,?_,?_,q⟩
   ·exact I.kept fun b o e=>kk b o (by simp;exact Nat.ne_of_lt (Heap.lt_size e)) (Heap.get?_push_of_some _ e)
   ·have e:((List.range its.toArray.size).all fun i=>bs.getD i false)=bs.all id:=by
     rw [List.size_toArray,← hlen]
     rw [Bool.eq_iff_iff]
     simp only [List.all_eq_true,List.mem_range,id_eq]
     constructor
     ·intro z b hb
      obtain ⟨i,hi,rfl⟩:=List.mem_iff_getElem.mp hb
      have:=z i hi
      simpa [List.getD,hi] using this
     ·intro z i hi
      have:=z bs[i] (List.getElem_mem _)
      simpa [List.getD,hi] using this
    rw [e];rfl
def cMul:R2:=fun x y H Q=>match x,y with
 | .int i,.int j=>CMul i j∧Q (.int (i * j)) H
 | .str z,.int n=>MulOk z n∧Q (.str (Txt.mul z n)) H
 | _,_=>False
theorem o_mul:OpR X (binaryOp .Mult) cMul:=by
  intro pins s σ H x y v u Q I rx ry h
  cases x <;> cases y <;> first
    | exact False.elim h
    | exact op_mul pins s σ H _ _ v u Q I rx ry ⟨_,_,rfl,rfl,h.1,h.2⟩
    | (obtain ⟨t,rfl⟩:=rx
       obtain ⟨t',rfl⟩:=ry
       exact SB.mul h.1 fun t'' k=>⟨.str _,H,I.tok k,⟨t'',rfl⟩,h.2⟩)
end
structure New (H:Hp) (p:Addr) (o:HO) (H':Hp):Prop where
 was:H p=none
 eq:H'=upd H p o
section
variable {H H':Hp}{p:Addr}{o:HO}
theorem New.same (n:New H p o H'):Same H H':=by rw [n.eq];exact same_upd n.was
theorem New.at_ (n:New H p o H'):H' p=some o:=by rw [n.eq];exact upd_same
theorem New.ne (n:New H p o H') {b:Addr} (h:b≠p):H' b=H b:=by rw [n.eq];exact upd_ne h
theorem New.sq {K:PySem.W.Frag}{xs:List V} (n:New H p (.lst xs) H'):SqL K H' p xs:=.of n.at_
theorem new_eq {F:Addr→Hp→Prop}{o:HO}:(∀ p,H p=none→F p (upd H p o)) = ∀ p H',New H p o H'→F p H' :=
 propext ⟨fun h p H' n=>by rw [n.eq];exact h p n.was,fun h p hp=>h p _ ⟨hp,rfl⟩⟩
end
section
variable {K:PySem.W.Frag}{t:TA}{σ:St}{H:Hp}{Q:VK}{x:V}{lo hi:Option Int}{vs:List V}{kvs:List (Key × V)}
theorem tLst_n:tLst t σ H Q=t σ H fun xs H1=>xs.length≤sizeLine∧∀ p H',New H1 p (.lst xs) H'→Q (.ref p) H':=by
 unfold tLst;congr 1;funext xs H1;rw [new_eq (F:=fun p H'=>Q (.ref p) H')]
theorem tTup_n:tTup t σ H Q=t σ H fun xs H1=>xs.length≤sizeLine∧∀ p H',New H1 p (.tup xs) H'→Q (.ref p) H':=by
 unfold tTup;congr 1;funext xs H1;rw [new_eq (F:=fun p H'=>Q (.ref p) H')]
theorem cSlL_n {p:Addr}:cSlL K (.ref p) lo hi H Q = ∃ xs,SqL K H p xs∧∀ q H',New H q (.lst (cutV xs lo hi)) H'→Q (.ref q) H':=by
 unfold cSlL
 dsimp only
 congr 1;funext xs;rw [new_eq (F:=fun p H'=>Q (.ref p) H')]
theorem cList_n {p:Addr}:cList K [.ref p] H Q = ∃ ys,(SqL K H p ys∨SqT K H p ys)∧∀ l H',New H l (.lst ys) H'→Q (.ref l) H':=by
 unfold cList
 dsimp only
 congr 1;funext xs;rw [new_eq (F:=fun p H'=>Q (.ref p) H')]
theorem cTuple_n {p:Addr}:cTuple K [.ref p] H Q = ∃ ys,((SqL K H p ys∧∀ l H',New H l (.tup ys) H'→Q (.ref l) H')∨(SqT K H p ys∧Q (.ref p) H)):=by
 unfold cTuple
 dsimp only
 congr 1;funext xs;rw [new_eq (F:=fun p H'=>Q (.ref p) H')]
end
section
variable {K:PySem.W.Frag}{σ:St}{sel:List Nat}{rest:St}{H:Hp}{tt:TT}{te:TE}{Q:VK}
theorem compG_list {a:Addr}{xs:List V} (f:V→V) (hl:SqL K H a xs) (hr:sel.map (fun j=>(σ[j]?).join)=rest) (hz:xs.length≤sizeLine)
  (he:∀ x H' (Q':VK),x∈xs→Same H H'→Q' (f x) H'→te (some x :: rest) H' Q') (hQ:∀ p H',New H p (.lst (xs.map f)) H'→Q (.ref p) H'):CompG (Itl K a) σ 1 sel (gName 0) tTrue te Q H :=
 fun p hp=>comp_list f hl hp hr hz he (hQ p _ ⟨hp,rfl⟩)
theorem compG_rng {lo:Int}{n:Nat} (f:Int→V) (hr:sel.map (fun j=>(σ[j]?).join)=rest) (hz:n≤sizeLine)
  (he:∀ (i:Nat) H' (Q':VK),i<n→Same H H'→Q' (f (lo+i)) H'→te (some (.int (lo+i)) :: rest) H' Q') (hQ:∀ p H',New H p (.lst ((List.range n).map fun i=>f (lo+(i:Nat)))) H'→Q (.ref p) H'):CompG (Itr lo n) σ 1 sel (gName 0) tTrue te Q H :=
 fun p hp=>comp_rng f hp hr hz he (hQ p _ ⟨hp,rfl⟩)
end
def cSlU (K:PySem.W.Frag):V→Option Int→Option Int→Hp→VK→Prop:=fun x lo hi H Q=>match x with
 | .ref p=>∃ xs,SqL K H p xs∧∀ q H',New H q (.lst (cutV xs lo hi)) H'→Q (.ref q) H'
 | .str z=>z.length≤sizeLine∧Q (.str (Txt.slice z lo hi)) H
 | _=>False
theorem s_u {X:Cx}:SlR X (cSlU X.K):=by
 intro pins s σ H x v vl vu lo hi sl Q I rx hs pl pu h
 cases x with
 | ref p=>exact s_list pins s σ H (.ref p) v vl vu lo hi sl Q I rx hs pl pu (by rw [cSlL_n];exact h)
 | str z=>exact s_str pins s σ H (.str z) v vl vu lo hi sl Q I rx hs pl pu h
 | _=>exact False.elim h
end L2
set_option maxHeartbeats 4000000
namespace DZ
open PySem
section
variable {prog:Program}{w:World}{A:Around}{E:Value→Shared→Prop}{s:Shared}
end
section
variable {M:Model}{A:Around}{E:Value→Shared→Prop}{s:Shared}
end
structure ZSt (z TI TO i1 i2 t l:Addr) (xs ys:Array Value) (i:Nat) (h:Heap):Prop where
 zo:∃ f0 f1,h.get? z=some { cls:=.type "zip",dict:=none,data:=.fields #[f0,.bool f1,.bool false,.ref TI,.ref TO],slots:=#[] } ∧
  (f0=.none∨∃ (T:Addr) (o:Obj),f0=rawInt T∧h.get? T=some o∧T≠z∧T≠TO∧T≠i1∧T≠i2)
 ti:IsPair h TI (.ref i1) (.ref i2)
 to:∃ a b,IsPair h TO a b
 a1:h.IsTupleIter i1 t i
 a2:h.IsListIter i2 l i
 l1:h.IsTuple t xs
 l2:h.IsList l ys
section
variable {prog:Program}{w:World}{A:Around}{E:Value→Shared→Prop}{s:Shared}
end
end DZ
set_option maxHeartbeats 4000000
namespace DZ
open PySem
section
variable {prog:Program}{w:World}{A:Around}{E:Value→Shared→Prop}{h:Heap}{g:Array GenState}{d:Drawn}{t:Nat}{os:OsState}{z:Addr}{vs:Array Value}
end
theorem mro_dict:mroOf (.type "dict")=pure [.type "dict",.type "object"]:=by rw [mroOf_type];kernel_rfl
theorem lk_dict_new:typeLookup (.type "dict") "__new__" = pure (some (.builtin "dict.__new__")):=by rw [typeLookup_type,builtinLookup_eq_fast];kernel_rfl
theorem called_dict:TypeCalled "dict" "dict.__new__" "dict.__init__" :=
 ⟨by decide +kernel,by decide +kernel,⟨_,_,mro_dict⟩,madeBy_type mro_dict lk_dict_new (by decide +kernel),by decide +kernel,by rw [isSubtype_type];kernel_rfl,F.slot_dict_init⟩
theorem typeCall_dict_1 (a:Value):checkTypeCall "dict" ⟨[a],[]⟩=pure ():=by kernel_rfl
theorem newCall_dict_1 (a:Value):checkBuiltinCall "dict.__new__" ⟨[.type "dict",a],[]⟩=pure ():=by kernel_rfl
theorem entry_dict_new:entryFor table "dict.__new__" = some Builtin.«dict.__new__»:=entryFor_of_tree (by kernel_rfl)
theorem entry_dict_loop:entryFor table "dict.update.loop" = some Builtin.«dict.update.loop»:=entryFor_of_tree (by kernel_rfl)
theorem plain_dict_new:plainId "dict.__new__" = true:=by decide +kernel
theorem plain_dict_loop:plainId "dict.update.loop" = true:=by decide +kernel
theorem sub_dict_self:isSubtype (.type "dict") (.type "dict")=pure true:=by rw [isSubtype_type];kernel_rfl
section
variable {prog:Program}{w:World}{A:Around}{E:Value→Shared→Prop}{s:Shared}
theorem dict_new (a:Value) {Q:Value→Shared→Prop} (h:Q (.ref s.heap.objs.size) { s with heap:=s.heap.push { cls:=.type "dict",data:=.dict #[] } }) :
  codeAny (model prog w) A (.call (.builtin "dict.__new__") ⟨[.type "dict",a],[]⟩) (wants Q E) s:=by
 refine codeAny_of_tree ?_
 show wpAny _ A.in1 (do checkBuiltinCall "dict.__new__" ⟨[.type "dict",a],[]⟩;again (.builtin "dict.__new__" ⟨[.type "dict",a],[]⟩)) _ _ s
 refine wpAny_bind (wpAny_of_eq (newCall_dict_1 a) (wpAny_pure ⟨plainId_quiet plain_dict_new _,codeAny_builtin entry_dict_new ?_⟩))
 rw [Around.under_plainId plain_dict_new _]
 have hsub:=sub_dict_self
 have hm:=mro_dict
 obtain ⟨hp,g,d,tk,os⟩:=s
 wp_walk
 exact h
end
end DZ
set_option maxHeartbeats 4000000
namespace DZ
open PySem
section
variable {prog:Program}{w:World}{A:Around}{E:Value→Shared→Prop}{s:Shared}
theorem len_stored {κ:Type} [DecidableEq κ] (kvs:List (κ × Value)) (k:κ) (v:Value):(stored kvs k v).length≤kvs.length+1:=by
 unfold stored
 split
 ·rw [List.length_map];exact Nat.le_succ _
 ·rw [List.length_append];exact Nat.le_refl _
variable {κ:Type} [DecidableEq κ] {knd:KeyKind prog w κ}
end
end DZ
set_option maxHeartbeats 4000000
namespace L2
open PySem PySem.Spec PyProof.Rows
section
variable {X:Cx}{pins:List (Addr × Obj)}{σ:St}{H:Hp}{s:Shared}{h':Heap}
theorem Inv.dz {t':Nat}{ch:List Addr}{d:Addr}{ob:HO} (I:Inv X pins σ H s) (hch:∀ b∈ch,FpOk X pins H b) (hd:s.heap.objs.size≤d) (k:∀ b o,b ∉ ch→s.heap.get? b=some o→h'.get? b=some o)
  (new:ObjOk X.prog X.w (upd H d ob) h' d ob):Inv X pins σ (upd H d ob) { s with heap:=h',toks:=t' }:=by
 have hn:H d=none:=I.hok.fresh hd
 have old:∀ {b o},s.heap.get? b=some o→b≠d:=fun e=>Nat.ne_of_lt (Nat.lt_of_lt_of_le (Heap.lt_size e) hd)
 have nch:∀ b u,H b=some u→b ∉ ch:=fun b u e z=>by rw [(hch b z).1] at e;cases e
 refine I.step (g':=s.gens) (d':=s.drawn) (ch:=ch) (fun b hb=>?_) (fun b o _ _ hc e _=>k b o hc e) (fun b o _ _ hc e _=>⟨o.slots,k b o hc e⟩) (fun b o _ e n=>by rw [upd_ne (old e)];exact n)
  (fun b o hc e=>⟨o,k b o hc e⟩) (fun b xs e=>by rw [upd_ne (ne_of_none e hn)];exact e) (fun b o u e=>by rw [upd_ne (ne_of_none e hn)];exact e) (fun b ps e=>⟨#[],by rw [upd_ne (ne_of_none e hn),e];simp⟩) (fun m hm=>?_) (fun b u e=>?_) I.bare
 ·obtain ⟨f0,f1,f2,f3,f4,f5⟩:=hch b hb
  exact ⟨f3,f1,f4,f5⟩
 ·obtain ⟨o,es,ep,ho,r⟩:=hm
  exact ⟨o,es,ep,k _ o (fun z=>(hch _ z).2.1 rfl) ho,r⟩
 ·by_cases hb:b=d
  ·subst hb
   rw [upd_same] at e
   cases e
   exact new
  ·rw [upd_ne hb] at e
   refine (I.hok b u e).stay (fun c v hc q=>k c v ?_ q) (fun c q=>by rw [upd_ne (ne_of_none q hn)];exact q) fun c xs q=>by rw [upd_ne (ne_of_none q hn)];exact q
   rcases hc with z | z
   ·rw [z];exact nch b u e
   ·exact nch c _ z
end
end L2
namespace NM
def okc (c:Nat):Prop:=97≤c∧c≤122
structure Nm (w:List Nat):Prop where
 pos:1≤w.length
 le:w.length≤8
 ok:∀ c∈w,okc c
def nx (p:List Nat) (c k:Nat):List Nat:=p ++ (c+1) :: List.replicate k 97
inductive Nx:List Nat→List Nat→Prop where
 | at (p:List Nat) (c k:Nat):c≠122→Nx (p ++ c :: List.replicate k 122) (nx p c k)
 | all (n:Nat):Nx (List.replicate n 122) (List.replicate (n % 8+1) 97)
inductive Nxs:Nat→List Nat→List Nat→Prop where
 | zero (w:List Nat):Nxs 0 w w
 | succ {k:Nat}{u v w:List Nat}:Nx u v→Nxs k v w→Nxs (k+1) u w
end NM
namespace ME
section
variable {κ:Type} [DecidableEq κ] {α β:Type}
def m2 (f:α→β) (e:List (κ × α)):List (κ × β):=e.map fun p=>(p.1,f p.2)
abbrev Gt (κ:Type):=κ × κ × List κ
def WG (A:κ→Nat→Prop) (known:List κ):List (Gt κ)→Prop
 | []=>True
 | g :: r=>(∀ p∈g.2.2,p∈known)∧A g.2.1 g.2.2.length∧g.2.2.length≤6∧WG A (known ++ [g.1]) r
theorem WG.at {A:κ→Nat→Prop}:∀ {gs:List (Gt κ)}{known:List κ}{i:Nat}{g:Gt κ},WG A known gs→gs[i]? = some g →
  (∀ p∈g.2.2,p∈known ++ (gs.take i).map (·.1))∧A g.2.1 g.2.2.length∧g.2.2.length≤6
 | [],_,_,_,_,h=>by simp at h
 | x :: gs,known,0,g,⟨a,b,c,d⟩,h=>by
  simp at h;subst h
  exact ⟨by simpa using a,b,c⟩
 | x :: gs,known,i+1,g,⟨a,b,c,d⟩,h=>by
  have:=WG.at (i:=i) (g:=g) d (by simpa using h)
  simpa using this
end
end ME
namespace MC
end MC
namespace GM
open PySem
end GM
set_option maxHeartbeats 4000000
namespace L2
open PySem PySem.Spec PyProof.Rows
def tMid (t u:TS):TS:=tSeq t u
theorem mid {t u:TS}{D:Ends}{σ:St}{H:Hp} (M:St→Hp→Prop) (h1:∀ N:St→Hp→Prop,(∀ σ' H',M σ' H'→N σ' H')→t { D with nx:=N } σ H) (h2:∀ σ' H',M σ' H'→u D σ' H'):tMid t u D σ H:=h1 _ h2
theorem pss_mid {X:Cx}{st:Stmt}{rest:List Stmt}{t u:TS} (h:PS X st t) (hr:PSs X rest u):PSs X (st :: rest) (tMid t u):=pss_cons h hr
theorem mtr {X:Cx}{id:String}{r:V→List V→Hp→VK→Prop} (h:MtM X id r):MtR X id r:=h
theorem comp_gen {J:It}{σ:St}{k:Nat}{sel:List Nat}{g:TG}{tt:TT}{te:TE}{Q:VK}{H:Hp}{p:Addr}{n:Nat}{item:Nat→V} (Sv:St→Prop) (Pv:Nat→Hp→Prop)
  (hS:Sv (cst σ k sel)) (h0:Pv 0 (upd H p (.lst [])))
  (src:∀ i H2,i<n→Pv i H2→J.go i H2∧∀ x H3,J.yld i H2 x H3→H3=H2∧x=item i) (fin:∀ H2,Pv n H2→J.stop n H2)
  (step:∀ i σ2 H2 (R:St→Hp→Prop),i<n→Sv σ2→Pv i H2→(∀ σ' H',Sv σ'→Pv (i+1) H'→R σ' H')→g (item i) σ2 H2 fun σ4 H4=>tt σ4 H4 fun b H5 =>
   if b=true then te σ4 H5 fun v H6=>∃ ys,H6 p=some (.lst ys)∧ys.length<sizeLine∧R σ4 (upd H6 p (.lst (ys ++ [v]))) else R σ4 H5)
  (hQ:∀ H2,Pv n H2→Q (.ref p) H2):CompGoal J σ k sel g tt te Q H p:=by
 refine ⟨fun i m σ2 H2=>i≤n∧m=n - i+1∧Sv σ2∧Pv i H2,⟨n+1,Nat.zero_le _,rfl,hS,h0⟩,?_⟩
 rintro i m σ2 H2 ⟨hi,rfl,hs,hP⟩
 by_cases hlt:i<n
 ·right
  obtain ⟨hg,hy⟩:=src i H2 hlt hP
  refine ⟨hg,fun x H3 hx=>?_⟩
  obtain ⟨rfl,rfl⟩:=hy x H3 hx
  exact step i σ2 H3 (fun σ' H'=>∃ m',m'<n - i+1∧i+1≤n∧m'=n - (i+1)+1∧Sv σ'∧Pv (i+1) H') hlt hs hP fun σ' H' s' h'=>⟨n - (i+1)+1,by omega,hlt,rfl,s',h'⟩
 ·left
  have e:i=n:=by omega
  subst e
  exact ⟨fin H2 hP,hQ H2 hP⟩
def SameN (H H':Hp):Prop:=∀ b o,H b=some o→(∀ xs,o≠.lst xs)→H' b=some o
section
variable {K:PySem.W.Frag}{H H' H0 H1:Hp}{l a:Addr}{xs ys:List V}{o:HO}
theorem Same.n (s:Same H H'):SameN H H':=fun b o e _=>s b o e
theorem SameN.clear (h:H l=some (.lst xs)):SameN H (upd H l (.lst ys)):=fun b o e n=>by rw [upd_ne (ne_of e h (n xs))];exact e
theorem Same.put (s:Same H0 H) (h:H0 l=none):Same H0 (upd H l o):=fun b u e=>by rw [upd_ne (ne_of_none e h)];exact s b u e
theorem Same.tup (e:Same H H') (h:SqT K H a xs):SqT K H' a xs:=by
 rcases h with (h | ⟨o,h⟩) | h
 ·exact .inl (.inl (e _ _ h))
 ·exact .inl (.inr ⟨o,e _ _ h⟩)
 ·exact .inr h
def Keep (N:Addr→Prop) (H H':Hp):Prop:=∀ b o,N b→H b=some o→H' b=some o
theorem Keep.tup {N:Addr→Prop} (e:Keep N H H') (n:N a) (h:SqT K H a xs):SqT K H' a xs:=by
 rcases h with (h | ⟨o,h⟩) | h
 ·exact .inl (.inl (e _ _ n h))
 ·exact .inl (.inr ⟨o,e _ _ n h⟩)
 ·exact .inr h
theorem New.free (n:New H a o H'):H a=none:=n.was
end
theorem fold_rep (c:Nat):∀ (k:Nat) (acc:Array Nat),((List.replicate k (#[c]:Array Nat)).foldl (· ++ ·) acc).toList=acc.toList ++ List.replicate k c
 | 0,acc=>by simp
 | k+1,acc=>by
  rw [List.replicate_succ,List.foldl_cons,fold_rep c k,List.replicate_succ]
  simp
section
variable {K:PySem.W.Frag}{H:Hp}{p:Addr}{i:Int}{F:V→Prop}
theorem ixI {cs:List Int} (hS:SqL K H p (cs.map V.int)) (h0:0≤i) (h1:i<cs.length) (h:F (.int (cs.getD i.toNat 0))):∃ xs v,(SqL K H p xs∨SqT K H p xs)∧atI xs i=some v∧F v:=⟨_,_,.inl hS,atI_map 0 h0 h1,h⟩
end
theorem shl_val (c w:Nat):((c:Int) * 2 ^ ((w:Int)).toNat:Int)=((c * 2 ^ w:Nat):Int):=by simp
end L2
set_option maxHeartbeats 4000000
namespace GM
open PySem L2
end GM
set_option maxHeartbeats 4000000
namespace L2
open PySem PySem.Spec PyProof.Rows
theorem o_pow {X:Cx}:OpR X (binaryOp .Pow) (cI2c CPow fun i j=>.int (i ^ j.toNat)):=op_pow.imp fun _ _ _ _ h=>cI2c_of h
section
open Builtin Builtin.Str
end
theorem Same.nil {H H':Hp}{p:Addr} (s:Same H H') (h:H' p=none):H p=none:=by
 cases e:H p with
 | none=>rfl
 | some o=>rw [s _ _ e] at h;cases h
structure Mad (H:Hp) (p:Addr) (o:HO) (H':Hp):Prop where
 was:H p=none
 at_:H' p=some o
 same:Same H H'
theorem Mad.pre {H H0 H':Hp}{p:Addr}{o:HO} (s:Same H0 H) (n:Mad H p o H'):Mad H0 p o H':=⟨s.nil n.was,n.at_,s.trans n.same⟩
theorem mul_one (c:Nat) (n:Int):(Txt.mul ⟨#[c]⟩ n).cps.toList=List.replicate n.toNat c:=by
 unfold Txt.mul
 by_cases h1:n<1
 ·rw [if_pos h1]
  have:n.toNat=0:=by omega
  rw [this]
  rfl
 ·rw [if_neg h1]
  by_cases h2:(n == 1 || Str.length ⟨#[c]⟩ == 0)=true
  ·rw [if_pos h2]
   have h3:n=1:=by
    rw [Bool.or_eq_true] at h2
    rcases h2 with q | q
    ·exact beq_iff_eq.mp q
    ·exact absurd (beq_iff_eq.mp q) (by show ¬ (1:Nat)=0;decide)
   subst h3
   rfl
  ·rw [if_neg h2]
   show ((List.replicate n.toNat (#[c]:Array Nat)).foldl (· ++ ·) #[]).toList=_
   rw [fold_rep]
   simp
end L2
namespace MF
abbrev Pr:=Int × Int
def tn (t:Int):Int:=if t % 2=0 then t+1 else t - 1
def lo (s t:Int):Int:=if t<s then t else s
def hi (s t:Int):Int:=if t > s then t else s
def fnd:Int→List Pr→Pr→Option Int
 | _,[],_=>none
 | n,q :: r,p=>if q=p then some n else fnd (n+1) r p
def sure (s t:Int):Option Int :=
 if lo s t=0 then some 0 else if lo s t=1∨lo s t=hi s t then some (hi s t) else if lo s t=tn (hi s t) then some 0 else none
def kn (m:Int) (ps:List Pr) (p:Pr):Int:=(fnd (m+1) ps p).getD (m+1+ps.length)
def kp (m:Int) (ps:List Pr) (p:Pr):List Pr:=if (fnd (m+1) ps p).isSome then ps else ps ++ [p]
def bt (m:Int) (ps:List Pr) (s t:Int):Int:=match sure s t with | some v=>v | none=>2 * kn m ps (lo s t,hi s t)
def Ok (m:Int) (ps:List Pr):Prop:=∀ (i:Nat) (p:Pr),ps[i]? = some p→2≤p.1∧p.1<p.2∧p.1 / 2≠p.2 / 2∧p.2<2 * (m+1+i)
end MF
namespace MF
abbrev RS:=Int × List Pr
def InT (m:Int) (ps:List Pr) (t:Int):Prop:=0≤t∧t<2 * (m+1+ps.length)
structure St (m:Int) (ps:List Pr) (n:Nat) (r:RS):Prop where
 ok:Ok m ps→Ok m r.2
 inn:InT m r.2 r.1
 lo:ps.length≤r.2.length
 hi:r.2.length≤ps.length+n
 pre:∃ e,r.2=ps ++ e
 nd:ps.Nodup→r.2.Nodup
theorem InT.tn {m t:Int}{ps:List Pr} (h:InT m ps t):InT m ps (tn t):=by
 have h1:=h.1
 have h2:=h.2
 unfold InT MF.tn
 split <;> omega
theorem St.tn {m:Int}{ps:List Pr}{n:Nat}{r:RS} (h:St m ps n r):St m ps n (tn r.1,r.2):=⟨h.ok,h.inn.tn,h.lo,h.hi,h.pre,h.nd⟩
end MF
namespace MF
def Sub (F x:Nat):Prop:=∀ j,x.testBit j=true→F.testBit j=true
theorem sub_zero (F:Nat):Sub F 0:=fun j h=>by simp at h
theorem Sub.and {F x y:Nat} (h:Sub F x):Sub F (x &&& y):=fun j hj=>h j (by rw [Nat.testBit_and,Bool.and_eq_true] at hj;exact hj.1)
theorem Sub.neg {F x:Nat} (h:Sub F x):Sub F (F ^^^ x):=fun j hj=>by
 rw [Nat.testBit_xor] at hj
 cases hf:F.testBit j with
 | true=>rfl
 | false =>
  rw [hf] at hj
  have:=h j (by simpa using hj)
  rw [hf] at this
  exact this
def litC (F:Nat) (cs:List Nat) (t:Int):Nat:=if t % 2=1 then F ^^^ cs.getD (t / 2).toNat 0 else cs.getD (t / 2).toNat 0
def growC (F:Nat):List Nat→List Pr→List Nat
 | cs,[]=>cs
 | cs,p :: r=>growC F (cs ++ [litC F cs p.1 &&& litC F cs p.2]) r
theorem growC_app (F:Nat):∀ (ps qs:List Pr) (cs:List Nat),growC F cs (ps ++ qs)=growC F (growC F cs ps) qs
 | [],qs,cs=>rfl
 | p :: r,qs,cs=>growC_app F r qs _
theorem growC_len (F:Nat):∀ (ps:List Pr) (cs:List Nat),(growC F cs ps).length=cs.length+ps.length
 | [],cs=>rfl
 | p :: r,cs=>by
  show (growC F (cs ++ [_]) r).length=_
  rw [growC_len F r]
  simp only [List.length_append,List.length_cons,List.length_nil]
  omega
theorem growC_pre (F:Nat):∀ (ps:List Pr) (cs:List Nat),∃ e,growC F cs ps=cs ++ e
 | [],cs=>⟨[],by simp [growC]⟩
 | p :: r,cs=>by
  obtain ⟨e,h⟩:=growC_pre F r (cs ++ [litC F cs p.1 &&& litC F cs p.2])
  exact ⟨[litC F cs p.1 &&& litC F cs p.2] ++ e,by show growC F (cs ++ [_]) r=_;rw [h,List.append_assoc]⟩
theorem litC_app {F:Nat}{cs e:List Nat}{t:Int} (h0:0≤t) (h:t<2 * cs.length):litC F (cs ++ e) t=litC F cs t:=by
 have hl:(t / 2).toNat<cs.length:=by omega
 unfold litC
 have:(cs ++ e).getD (t / 2).toNat 0=cs.getD (t / 2).toNat 0:=by
  simp [List.getD,List.getElem?_append_left hl]
 rw [this]
def AllSub (F:Nat) (cs:List Nat):Prop:=∀ c∈cs,Sub F c
theorem AllSub.getD {F:Nat}{cs:List Nat} (h:AllSub F cs) (i:Nat):Sub F (cs.getD i 0):=by
 rcases Nat.lt_or_ge i cs.length with hi | hi
 ·have:cs.getD i 0=cs[i]:=by simp [List.getD,hi]
  rw [this]
  exact h _ (List.getElem_mem hi)
 ·have:cs.getD i 0=0:=by simp [List.getD,hi]
  rw [this]
  exact sub_zero F
theorem AllSub.lit {F:Nat}{cs:List Nat} (h:AllSub F cs) (t:Int):Sub F (litC F cs t):=by
 unfold litC
 split
 ·exact (h.getD _).neg
 ·exact h.getD _
theorem AllSub.grow {F:Nat}:∀ (ps:List Pr) (cs:List Nat),AllSub F cs→AllSub F (growC F cs ps)
 | [],cs,h=>h
 | p :: r,cs,h=>by
  refine AllSub.grow r _ fun c hc=>?_
  rcases List.mem_append.mp hc with hc | hc
  ·exact h c hc
  ·rw [List.mem_singleton.mp hc]
   exact (h.lit p.1).and
structure Base (F:Nat) (m:Int) (b:List Nat):Prop where
 len:(b.length:Int)=m+1
 zero:b.getD 0 0=0
 sub:AllSub F b
section
variable {F:Nat}{m:Int}{b:List Nat}
abbrev L (F:Nat) (b:List Nat) (ps:List Pr) (t:Int):Nat:=litC F (growC F b ps) t
theorem L_ext (B:Base F m b) {ps e:List Pr}{t:Int} (h:InT m ps t):L F b (ps ++ e) t=L F b ps t:=by
 unfold L
 rw [growC_app]
 obtain ⟨x,hx⟩:=growC_pre F e (growC F b ps)
 rw [hx]
 refine litC_app h.1 ?_
 have h2:=h.2
 have h3:=growC_len F ps b
 have h4:=B.len
 omega
theorem St.lit (B:Base F m b) {ps:List Pr}{n:Nat}{r:RS} (h:St m ps n r) {x:Int} (hx:InT m ps x):L F b r.2 x=L F b ps x:=by
 obtain ⟨e,he⟩:=h.pre
 rw [he]
 exact L_ext B hx
end
end MF
set_option maxHeartbeats 4000000
namespace L2
open PySem PySem.Spec PyProof.Rows
def knK (p:MF.Pr):List Key:=[.inl p.1,.inl p.2]
def kvF:Int→List MF.Pr→List (List Key × V)
 | _,[]=>[]
 | n,p :: r=>(knK p,.int n) :: kvF (n+1) r
abbrev En:=Addr × MF.Pr
abbrev psOf (es:List En):List MF.Pr:=es.map (·.2)
structure PairsAt (H:Hp) (pl kl:Addr) (m:Int) (es:List En):Prop where
 lst:H pl=some (.lst (es.map fun e=>V.ref e.1))
 dct:H kl=some (.dT (kvF (m+1) (psOf es)))
 tup:∀ e∈es,H e.1=some (.tup [.int e.2.1,.int e.2.2])
section
variable {H H' H1:Hp}{pl kl p2 k2 f dx C:Addr}{m:Int}{es:List En}{o:HO}
structure FoldAt (C:Addr) (H:Hp) (f:Addr) (m:Int) (es:List En) (dx pl kl:Addr):Prop where
 ins:H f=some (.ins C dx [("many",.int m),("pairs",.ref pl),("knots",.ref kl)])
 prs:PairsAt H pl kl m es
end
theorem cut_1 (xs:List V):cutV xs (some 1) none=xs.drop 1:=by
 unfold cutV
 have e1:HT.sIx xs.length 0 (some 1)=min 1 xs.length:=by
  have:=HT.sIx_nat xs.length 0 1
  rw [show ((1:Nat):Int)=1 from rfl] at this
  rw [this]
 have e2:HT.sIx xs.length xs.length none=xs.length:=rfl
 rw [e1,e2]
 cases xs with
 | nil=>rfl
 | cons a r =>
  have:min 1 (a :: r).length=1:=by simp only [List.length_cons];omega
  rw [this,List.take_of_length_le (by simp)]
end L2
set_option maxHeartbeats 4000000
namespace DL
open PySem DZ
theorem entry_list_ga:entryFor table "list.__getattribute__" = some Builtin.«object.__getattribute__» :=
 entryFor_alias (id':="object.__getattribute__") (by kernel_rfl) (by first | rfl | decide +kernel) (by decide +kernel) (by kernel_rfl)
theorem lk_list_keys:typeLookup (.type "list") "keys" = pure none:=by rw [typeLookup_type,builtinLookup_eq_fast];kernel_rfl
section
variable {prog:Program}{w:World}{A:Around}{E:Value→Shared→Prop}{h:Heap}{g:Array GenState}{d:Drawn}{t:Nat}{os:OsState}{z:Addr}{vs:Array Value}{n:Nat}
theorem keys_entry {tk:Tok}{Q:Fin→Shared→Prop} (hh:A.handled=none) (hz:h.get? z=some { cls:=.type "list",dict:=none,data:=.seq vs n,slots:=#[] })
  (hE:∀ h' e t',(∀ c o,h.get? c=some o→h'.get? c=some o)→(∃ o,h'.get? e=some o∧o.cls=.type "AttributeError")→E (.ref e) ⟨h',g,d,t',os⟩) :
  wpAny (model prog w) A (Builtin.«object.__getattribute__» ⟨[.ref z,.str "keys" tk],[]⟩) Q E ⟨h,g,d,t,os⟩:=by
 have hT:(⟨h,g,d,t,os⟩:Shared).TypeIs (.ref z) "list":=⟨_,hz,rfl⟩
 have f4:=lk_list_keys
 repeat (any_goals (first | assumption | wp_step))
 refine wpAny_raiseAttrError hh (fun h' tk' e x=>?_) (attrMsg_fits (by decide +kernel) (by decide +kernel))
 obtain ⟨t',u',he⟩:=x.there
 exact hE h' e tk' (fun c o q=>x.keeps c o q) ⟨_,he,rfl⟩
theorem keys_call {tk:Tok}{R:Result→Shared→Prop} (hh:A.handled=none) (hz:h.get? z=some { cls:=.type "list",dict:=none,data:=.seq vs n,slots:=#[] })
  (hE:∀ h' e t',(∀ c o,h.get? c=some o→h'.get? c=some o)→(∃ o,h'.get? e=some o∧o.cls=.type "AttributeError")→R (.error (.ref e)) ⟨h',g,d,t',os⟩) :
  codeAny (model prog w) A (.call (.builtin "list.__getattribute__") ⟨[.ref z,.str "keys" tk],[]⟩) R ⟨h,g,d,t,os⟩ :=
 codeAny_call_builtin F.slot_list_getattribute.plain entry_list_ga (F.slot_list_getattribute.check _ _ _ _ _ _ _ _ (show (⟨h,g,d,t,os⟩:Shared).TypeIs (.ref z) "list" from ⟨_,hz,rfl⟩) (F.args_list_getattribute_2 _ _) (keys_entry hh hz hE))
theorem keys_by {tk:Tok}{Q:Value→Shared→Prop} (hh:A.handled=none) (hz:h.get? z=some { cls:=.type "list",dict:=none,data:=.seq vs n,slots:=#[] })
  (hE:∀ h' e t',(∀ c o,h.get? c=some o→h'.get? c=some o)→(∃ o,h'.get? e=some o∧o.cls=.type "AttributeError")→E (.ref e) ⟨h',g,d,t',os⟩) :
  wpAny (model prog w) A (getAttrBy (.ref z) (.str "keys" tk) false) Q E ⟨h,g,d,t,os⟩:=by
 have hT:(⟨h,g,d,t,os⟩:Shared).TypeIs (.ref z) "list":=⟨_,hz,rfl⟩
 have f2:=F.slot_list_getattribute.lookup
 have f3:=F.slot_list_getattribute.bind (.ref z)
 have f1:=sub_AttributeError
 repeat (any_goals (first | assumption | wp_step))
 refine keys_call hh hz fun h' e t' k he=>?_
 obtain ⟨o,ho,hc⟩:=he
 have hTe:(⟨h',g,d,t',os⟩:Shared).TypeIs (.ref e) "AttributeError":=⟨o,ho,hc⟩
 have fin:=hE h' e t' k ⟨o,ho,hc⟩
 have f5:typeLookup (.type "list") "__getattr__" = pure none:=by rw [typeLookup_type,builtinLookup_eq_fast];kernel_rfl
 show wpAny _ _ (getattributeRaised _ _ _ _ _ _ _) _ _ _
 unfold getattributeRaised
 repeat (any_goals (first | assumption | wp_step))
theorem keys_none {Q:Option Value→Shared→Prop} (hh:A.handled=none) (hz:h.get? z=some { cls:=.type "list",dict:=none,data:=.seq vs n,slots:=#[] })
  (hq:∀ h' t',(∀ c o,h.get? c=some o→h'.get? c=some o)→Q none ⟨h',g,d,t',os⟩) :
  wpAny (model prog w) A (getAttr? (.ref z) "keys") Q E ⟨h,g,d,t,os⟩:=by
 unfold getAttr? getAttrBy?
 have f1:=sub_AttributeError
 refine wpAny_bind (wpAny_mkText ?_)
 refine wpAny_bind (wpAny_attempt (keys_by hh hz fun h' e t' k he=>?_))
 obtain ⟨o,ho,hc⟩:=he
 refine wpAny_bind (wpAny_isInstance (T:="AttributeError") (b:=true) ⟨o,ho,hc⟩ f1 ?_)
 exact wpAny_pure (hq _ _ k)
end
section
variable {prog:Program}{w:World}{A:Around}{E:Value→Shared→Prop}{s:Shared}{κ:Type} [DecidableEq κ] {knd:KeyKind prog w κ}
def Prs (knd:KeyKind prog w κ) (d it:Addr) (xs:Array Value) (es:List (κ × Value)) (h:Heap):Prop :=
 ∀ (j:Nat) p,es[j]? = some p→∃ T kx o m,xs[j]? = some (.ref T)∧T≠d∧T≠it∧knd.is p.1 kx=true∧h.get? T=some o∧o.cls=.type "tuple" ∧ o.data=.seq #[kx,p.2] m
theorem dict_loop {it l d:Addr}{xs:Array Value}{es:List (κ × Value)}{R:Result→Shared→Prop} (hh:A.handled=none) (n1:it≠d) (n2:l≠d) (n3:l≠it) (hk:es.length=xs.size) (hz:xs.size≤2000) :
  ∀ (m i:Nat) (s:Shared) (kvs:List (κ × Value)),i+m=xs.size→kvs.length≤i→s.heap.IsListIter it l i→s.heap.IsList l xs→Prs knd d it xs es s.heap→s.heap.DictOf knd d kvs →
   (∀ h' t',h'.DictOf knd d ((es.drop i).foldl (fun e p=>stored e p.1 p.2) kvs)→(∀ c o,c≠d→c≠it→s.heap.get? c=some o→h'.get? c=some o)→R (.ok (.ret .none)) { s with heap:=h',toks:=t' }) →
   codeAny (model prog w) A (.builtin "dict.update.loop" ⟨[.ref d,.ref it,rawInt i,.none],[]⟩) R s
 | 0,i,s,kvs,hm,hl,S,L,P,hd,hR=>by
  refine codeAny_builtin entry_dict_loop ?_
  rw [Around.under_plainId plain_dict_loop _]
  unfold Builtin.«dict.update.loop»
  refine wpAny_bind (wpAny_pyNext_list_end hh S L (Array.getElem?_eq_none (by omega)) fun h' eb=>?_)
  have e1:es.drop i=[]:=List.drop_eq_nil_of_le (by omega)
  rw [e1] at hR
  have hd':h'.DictOf knd d kvs:=by
   obtain ⟨o,es,ep,ho,r⟩:=hd
   exact ⟨o,es,ep,eb _ _ n1.symm ho,r⟩
  exact wpAny_bind (wpAny_pure (wpAny_pure (hR h' s.toks hd' fun c o c0 c1 e=>eb c o c1 e)))
 | m+1,i,s,kvs,hm,hl,S,L,P,hd,hR=>by
  refine codeAny_builtin entry_dict_loop ?_
  rw [Around.under_plainId plain_dict_loop _]
  unfold Builtin.«dict.update.loop»
  have hi:i<es.length:=by omega
  have hei:es[i]? = some es[i]:=List.getElem?_eq_getElem hi
  obtain ⟨T,kx,o,mm,hx,nd,nit,hkx,ho,hcl,hda⟩:=P i _ hei
  refine wpAny_bind (wpAny_pyNext_list_item S L (x:=.ref T) hx fun h1 S1 sb1=>?_)
  have k1:∀ c o,c≠it→s.heap.get? c=some o→h1.get? c=some o:=fun c o hc e=>(sb1.2 c hc).trans e
  refine wpAny_bind (wpAny_holding ?_)
  have hd1:h1.DictOf knd d kvs:=by
   obtain ⟨o,es,ep,ho,r⟩:=hd
   exact ⟨o,es,ep,k1 _ _ n1.symm ho,r⟩
  refine wpAny_bind (wpAny_tryCatch ?_)
  unfold Builtin.Dict.pairItems
  refine wpAny_bind (wpAny_typeOf (T:="tuple") ⟨o,k1 _ _ nit ho,hcl⟩ ?_)
  rw [if_pos (by decide)]
  refine wpAny_bind (wpAny_seqItems (k1 _ _ nit ho) hda (wpAny_pure ?_))
  refine wpAny_holding (wpAny_dictSet_pairs (knd:=knd) (s:={ s with heap:=h1 }) hkx hd1 (fun h2 d2 sb=>?_) (Nat.le_trans hl (Nat.le_trans (by omega) (show 2000≤sizeLine by decide))))
  have k2:∀ c o,c≠d→h1.get? c=some o→h2.get? c=some o:=fun c o hc e=>(sb.2 c hc).trans e
  have S2:h2.IsListIter it l (i+1):=S1.at fun o e=>k2 it o n1 e
  have L2:h2.IsList l xs:=L.at fun o e=>k2 l o n2 (k1 l o n3 e)
  have P2:Prs knd d it xs es h2:=fun j p hj=>by
   obtain ⟨T',kx',o',m',q1,q2,q3,q4,q5,q6,q7⟩:=P j p hj
   exact ⟨T',kx',o',m',q1,q2,q3,q4,k2 _ _ q2 (k1 _ _ q3 q5),q6,q7⟩
  refine wpAny_pure ⟨plainId_quiet plain_dict_loop _,?_⟩
  have e1:es.drop i=es[i] :: es.drop (i+1):=List.drop_eq_getElem_cons hi
  refine dict_loop hh n1 n2 n3 hk hz m (i+1) _ _ (by omega) ?_ S2 L2 P2 d2 ?_
  ·have:=len_stored kvs es[i].1 es[i].2
   omega
  ·intro h' t' d' k'
   rw [e1] at hR
   exact hR h' t' d' fun c o c0 c1 e=>k' c o c0 c1 (k2 c o c0 (k1 c o c1 e))
theorem iter_l {l:Addr}{xs:Array Value}{n:Nat}{Q:Value→Shared→Prop} (hz:s.heap.get? l=some { cls:=.type "list",dict:=none,data:=.seq xs n,slots:=#[] })
  (h:Q (.ref s.heap.objs.size) { s with heap:=s.heap.push { cls:=.type "list_iterator",data:=.fields #[.ref l,.int 0 0] } }):wpAny (model prog w) A (pyIter (.ref l)) Q E s:=wpAny_pyIter_list (items:=xs) ⟨_,hz,rfl,n,rfl⟩ h
theorem call_dict {l:Addr}{xs:Array Value}{n:Nat}{es:List (κ × Value)}{Q:Value→Shared→Prop} (hh:A.handled=none) (hl:s.heap.get? l=some { cls:=.type "list",dict:=none,data:=.seq xs n,slots:=#[] })
  (hk:es.length=xs.size) (hz:xs.size≤2000) (P:∀ (j:Nat) p,es[j]? = some p→∃ T kx o m,xs[j]? = some (.ref T)∧knd.is p.1 kx=true∧s.heap.get? T=some o∧o.cls=.type "tuple" ∧ o.data=.seq #[kx,p.2] m)
  (q:∀ h' t',h'.DictOf knd s.heap.objs.size (es.foldl (fun e p=>stored e p.1 p.2) [])→(∀ c o,s.heap.get? c=some o→h'.get? c=some o)→Q (.ref s.heap.objs.size) { s with heap:=h',toks:=t' }) :
  wpAny (model prog w) A (call (.type "dict") [.ref l]) Q E s:=by
 refine callType_codes (Q₁:=fun v s1=>v=.ref s.heap.objs.size∧s1={ s with heap:=s.heap.push { cls:=.type "dict",data:=.dict #[] } }) called_dict (typeCall_dict_1 _) F.entry_dict_init (dict_new _ ⟨rfl,rfl⟩) ?_
 rintro obj s1 ⟨rfl,rfl⟩
 refine ⟨⟨_,Heap.get?_push_size _ rfl,rfl⟩,F.args_dict_init_2 _ _,?_⟩
 obtain ⟨hp,g,d0,tk,os⟩:=s
 dsimp only at *
 have hl':=Heap.get?_push_of_some { cls:=.type "dict",data:=.dict #[] } hl
 have hTd:(⟨hp.push { cls:=.type "dict",data:=.dict #[] },g,d0,tk,os⟩:Shared).TypeIs (.ref hp.objs.size) "dict":=⟨_,Heap.get?_push_size _ rfl,rfl⟩
 have hTz:(⟨hp.push { cls:=.type "dict",data:=.dict #[] },g,d0,tk,os⟩:Shared).TypeIs (.ref l) "list":=⟨_,hl',rfl⟩
 have hsub:=sub_dict_self
 unfold Builtin.«dict.__init__»
 repeat (any_goals (first | assumption | (with_reducible refine keys_none hh hl' fun h' t' k=>?_) | (with_reducible refine iter_l (k _ _ hl') ?_) | wp_step))
 have lt:∀ {c:Addr}{o:Obj},hp.get? c=some o→c≠hp.objs.size:=fun e=>Nat.ne_of_lt (Heap.lt_size e)
 have up:∀ c o,hp.get? c=some o→h'.get? c=some o:=fun c o e=>k c o (Heap.get?_push_of_some _ e)
 have up2:∀ c o,hp.get? c=some o→(h'.push { cls:=.type "list_iterator",data:=.fields #[.ref l,.int 0 0] }).get? c=some o:=fun c o e=>Heap.get?_push_of_some _ (up c o e)
 have lt2:∀ {c:Addr}{o:Obj},hp.get? c=some o→c≠h'.objs.size:=fun e=>Nat.ne_of_lt (Heap.lt_size (up _ _ e))
 have nd:h'.objs.size≠hp.objs.size:=(Nat.ne_of_lt (Heap.lt_size (k _ _ (Heap.get?_push_size _ rfl)))).symm
 refine ⟨plainId_quiet plain_dict_loop _,dict_loop (A:=A.in1) (knd:=knd) (es:=es) (show A.in1.handled=none from hh) nd (lt hl) (lt2 hl) hk hz xs.size 0 _ [] (by omega) (by simp) ⟨_,Heap.get?_push_size _ rfl,rfl,rfl⟩ ⟨_,up2 _ _ hl,rfl,n,rfl⟩ (fun j p hj=>?_) ?_ ?_⟩
 ·obtain ⟨T,kx,o,m,q1,q2,q3,q4,q5⟩:=P j p hj
  exact ⟨T,kx,o,m,q1,lt q3,lt2 q3,q2,up2 _ _ q3,q4,q5⟩
 ·obtain ⟨o,es,ep,ho,r⟩:=Heap.DictOf.new (knd:=knd) hp
  exact ⟨o,es,ep,Heap.get?_push_of_some _ (k _ _ ho),r⟩
 ·intro h2 t2 d2 k2
  refine ⟨rfl,q h2 t2 ?_ fun c o e=>k2 c o (lt e) (lt2 e) (up2 c o e)⟩
  simpa using d2
end
end DL
namespace L2
open PySem PySem.Spec PyProof.Rows
def cDictP (_:PySem.W.Frag):List V→Hp→VK→Prop:=fun vs H Q=>match vs with
 | [.ref a]=>∃ (ys:List V) (ps:List (Key × V)),H a=some (.lst ys)∧ys.length=ps.length∧ps.length≤2000∧(∀ (j:Nat) p,ps[j]? = some p→∃ T,ys[j]? = some (.ref T)∧H T=some (.tup [kV p.1,p.2]))∧∀ p H',New H p (.dK (mergeK [] ps)) H'→Q (.ref p) H'
 | _=>False
theorem pairsKV {F:Nat→Key × V→Key × Value→Prop}:∀ (ps:List (Key × V)) (m:Nat),(∀ (j:Nat) p,ps[j]? = some p→∃ u,RelV p.2 u∧F (m+j) p (p.1,u)) →
  ∃ es:List (Key × Value),es.length=ps.length∧(∀ (j:Nat) e,es[j]? = some e→∃ p,ps[j]? = some p∧F (m+j) p e)∧∀ (kvs:List (Key × V)) (ws:List (Key × Value)),KV kvs ws→KV (ps.foldl (fun acc kv=>putK acc kv.1 kv.2) kvs) (es.foldl (fun e p=>stored e p.1 p.2) ws)
 | [],m,_=>⟨[],rfl,fun j e h=>by simp at h,fun kvs ws r=>r⟩
 | p :: r,m,h=>by
  obtain ⟨u,ru,fu⟩:=h 0 p rfl
  obtain ⟨es,hl,he,hk⟩:=pairsKV r (m+1) fun j p' hj=>by
   obtain ⟨u',h1,h2⟩:=h (j+1) p' (by simpa using hj)
   exact ⟨u',h1,by rw [show m+1+j=m+(j+1) by omega];exact h2⟩
  refine ⟨(p.1,u) :: es,by simp [hl],fun j e hj=>?_,fun kvs ws rr=>hk _ _ (rr.put p.1 ru)⟩
  cases j with
  | zero =>
   have:(p.1,u)=e:=by simpa using hj
   subst this
   exact ⟨p,rfl,fu⟩
  | succ j =>
   obtain ⟨p',h1,h2⟩:=he j e (by simpa using hj)
   exact ⟨p',by simpa using h1,by rw [show m+(j+1)=m+1+j by omega];exact h2⟩
theorem c_dictP {X:Cx} (hc:X.calm=true):CallR X (.type "dict") (cDictP X.K):=by
 intro pins s σ H xs us Q I r h
 match xs,h with
 | [.ref a],h =>
  obtain ⟨ys,ps,hL,hl,hz,hp,q⟩:=h
  obtain ⟨u1,rfl,e1⟩:=vals1 r
  cases e1
  obtain ⟨z,its,n,rv,hlen,hget⟩:=I.lstM hL
  have item:∀ (j:Nat) p,ps[j]? = some p→∃ u,RelV p.2 u∧∃ T kx o m,its[j]? = some (.ref T)∧(mixKind X.prog X.w).is p.1 kx=true∧s.heap.get? T=some o∧o.cls=.type "tuple" ∧ o.data=.seq #[kx,u] m:=fun j p hj=>by
   obtain ⟨T,hT,hH⟩:=hp j p hj
   obtain ⟨uT,h1,h2⟩:=rv.get hT
   cases h2
   obtain ⟨itt,rt,⟨o,ho,hcl,m,hda⟩,_⟩:=I.tuple (SqT.of hH)
   obtain ⟨w1,w2,rfl,r1,r2⟩:=Vals.two rt
   exact ⟨w2,r2,T,w1,o,m,h1,kV_is r1,ho,hcl,hda⟩
  obtain ⟨es,hel,hes,hkv⟩:=pairsKV (F:=fun j p e=>∃ T kx o m,its[j]? = some (.ref T)∧(mixKind X.prog X.w).is e.1 kx=true∧s.heap.get? T=some o∧o.cls=.type "tuple" ∧ o.data=.seq #[kx,e.2] m) ps 0 fun j p hj=>by
   obtain ⟨u,h1,T,kx,o,m,h2⟩:=item j p hj
   exact ⟨u,h1,T,kx,o,m,by rw [Nat.zero_add];exact h2⟩
  refine DL.call_dict (knd:=mixKind X.prog X.w) (es:=es) (I.ok.hd hc) hget (by rw [List.size_toArray];omega) (by rw [List.size_toArray];omega) (fun j p hj=>?_) fun h2 t2 dd k2=>?_
  ·obtain ⟨p',_,T,kx,o,m,q1,q2,q3,q4,q5⟩:=hes j p hj
   exact ⟨T,kx,o,m,by rw [Nat.zero_add] at q1;simpa using q1,q2,q3,q4,q5⟩
  ·have hfree:H s.heap.objs.size=none:=I.hok.fresh (Nat.le_refl _)
   have rel:KV (mergeK [] ps) (es.foldl (fun e p=>stored e p.1 p.2) []):=hkv [] [] .nil
   have hlen2:(mergeK [] ps).length≤sizeLine:=by
    have h1:=length_mergeK ps []
    rw [List.length_nil] at h1
    rw [sizeLine_eq];omega
   have hsm:((s.heap.objs.size:Addr) == sysModules)=false:=beq_eq_false_iff_ne.mpr (Ne.symm (Nat.ne_of_lt I.big))
   refine ⟨.ref s.heap.objs.size,upd H s.heap.objs.size (.dK (mergeK [] ps)),?_,rfl,q _ _ ⟨hfree,rfl⟩⟩
   exact I.dz (ch:=[]) (h':=h2) (t':=t2) (fun b hb=>nomatch hb) (Nat.le_refl _) (fun b o _ e=>k2 b o e) (dk_new hlen2 hsm rel dd)
end L2
set_option maxHeartbeats 4000000
namespace EX
open PySem
structure Lv (S:List Addr) (e:Addr) (old:List Addr) (cls:Value) (h h':Heap) (T:Addr):Prop where
 ge:h.objs.size≤T
 exc:∃ oe vs,h'.get? e=some oe∧oe.cls=cls∧oe.data=.fields vs∧vs[1]? = some (.ref T)∧oe.dict=none
 tb:∃ oT ts,h'.get? T=some oT∧oT.data=.fields ts∧ts[3]? = some .none
 keep:∀ b o,b ∉ S→b≠e→b ∉ old→h.get? b=some o→h'.get? b=some o
 slot:∀ b o,b∈S→h.get? b=some o→∃ sl,h'.get? b=some { o with slots:=sl }
theorem map_dict (f:Array Value→Array Value) (o:Obj):(Obj.mapFields f o).dict=o.dict:=by
 unfold Obj.mapFields
 split <;> rfl
section
variable {M:Model}{A:Around}{E:Value→Shared→Prop}{s:Shared}
theorem entry_ok {base:Heap}{env:Env}{outer:List Env}{L e:Addr}{oe:Obj}{vs:Array Value}{hd0:Value}{nx:Bool}{Q:Unit→Shared→Prop} (hfr:A.frames=some (env :: outer)) (hl:s.heap.FunFrames base (env :: outer)) (hf:env.frame=some L)
  (he:s.heap.get? e=some oe) (hdn:oe.dict=none) (hd:oe.data=.fields vs) (hsz:1<vs.size)
  (q:∀ h' T,Lv ((env :: outer).filterMap (·.frame)) e [] oe.cls s.heap h' T→Q () { s with heap:=h' }) :
  wpAny M A (do let a ← frameOf env;let pl ← entryPlaceOf L nx;let b ← EntryCells.newEntry hd0 a .none (rawInt L) .none pl;setField (.ref e) 1 b) (fun _ s'=>wpAny M A (setFlight (.ref e) none) Q E s') E s:=by
 have eS:e ∉ (env :: outer).filterMap (·.frame):=fun hm=>by
  obtain ⟨_,o,ho,hnf⟩:=hl.mem hm
  rw [he] at ho
  cases ho
  exact hnf vs hd
 refine wpAny_bind (wpAny_frameOf_fun hfr hl hf fun k1 x1=>wpAny_bind (wpAny_entryPlaceOf fun pl hpl=>?_))
 unfold EntryCells.newEntry newFields
 refine wpAny_bind (wpAny_newObj_type ?_ (hpl.sizeOk5 _ _ _ _ _))
 have e1:k1.get? e=some oe:=(x1.2.1 e eS).trans he
 generalize hob:({ cls:=.type "traceback",dict:=none,data:=.fields ([hd0,.ref L,.none,rawInt L,.none] ++ (if pl.isEmpty then List.replicate 6 Value.none else pl)).toArray }:Obj)=ob
 have hobf:∃ ts,ob.data=.fields ts∧3<ts.size:=⟨_,by rw [← hob],by simp only [List.size_toArray,List.length_append,List.length_cons,List.length_nil];omega⟩
 obtain ⟨ts,hts,hts3⟩:=hobf
 have hfreed:ob.isFreed=false:=by rw [← hob];rfl
 have e2:(k1.push ob).get? e=some oe:=Heap.get?_push_of_some _ e1
 refine wpAny_setField e2 hd hsz ?_
 have nTe:k1.objs.size≠e:=Nat.ne_of_gt (Heap.lt_size e1)
 have d3:=Obj.data_mapFields hd (·.setIfInBounds 1 (Value.ref k1.objs.size))
 have e3:=Heap.get?_update_self (Obj.mapFields (·.setIfInBounds 1 (Value.ref k1.objs.size))) e2 (Obj.isFreed_of_fields d3)
 have t3:=(Heap.get?_update_other (k1.push ob) (Obj.mapFields (·.setIfInBounds 1 (Value.ref k1.objs.size))) (Ne.symm nTe)).trans (Heap.get?_push_size k1 hfreed)
 unfold setFlight
 refine wpAny_bind (wpAny_field e3 d3 (x:=.ref k1.objs.size) (by simp [hsz]) ?_)
 rw [if_pos (show (Value.ref k1.objs.size != Value.none)=true by simp)]
 refine wpAny_setField t3 hts hts3 (q _ k1.objs.size ?_)
 have up:∀ b o,b≠e→k1.get? b=some o→(((k1.push ob).update e (Obj.mapFields (·.setIfInBounds 1 (Value.ref k1.objs.size)))).update k1.objs.size (Obj.mapFields (·.setIfInBounds 3 ((none:Option Addr).elim Value.none fun f=>rawInt f)))).get? b=some o:=fun b o nb hb=>by
  rw [Heap.get?_update_other _ _ (Nat.ne_of_gt (Heap.lt_size hb)),Heap.get?_update_other _ _ (Ne.symm nb)]
  exact Heap.get?_push_of_some _ hb
 refine ⟨by rw [x1.1];exact Nat.le_refl _,⟨_,_,(Heap.get?_update_other _ _ nTe).trans e3,Obj.cls_mapFields _ _,d3,by simp [hsz],(map_dict _ _).trans hdn⟩,?_,fun b o hb nb _ hbo=>up b o nb ((x1.2.1 b hb).trans hbo),fun b o hb hbo=>?_⟩
 ·have d4:=Obj.data_mapFields hts (·.setIfInBounds 3 ((none:Option Addr).elim Value.none fun f=>rawInt f))
  exact ⟨_,_,Heap.get?_update_self _ t3 (Obj.isFreed_of_fields d4),d4,by simp [hts3]⟩
 ·obtain ⟨sl,hs⟩:=x1.2.2 b o hbo
  exact ⟨sl,up b _ (fun z=>eS (z ▸ hb)) hs⟩
def Trc (h:Heap) (e:Addr) (vs:Array Value) (old:List Addr):Prop :=
 (vs[1]? = some .none∧old=[])∨∃ T0 oT ts,old=[T0]∧vs[1]? = some (.ref T0)∧T0≠e∧h.get? T0=some oT∧oT.data=.fields ts∧ts[3]? = some .none
theorem lands {base:Heap}{env:Env}{outer:List Env}{L e:Addr}{oe:Obj}{vs:Array Value}{old:List Addr}{Q:Unit→Shared→Prop} (hfr:A.frames=some (env :: outer)) (hl:s.heap.FunFrames base (env :: outer)) (hf:env.frame=some L)
  (he:s.heap.get? e=some oe) (hdn:oe.dict=none) (hd:oe.data=.fields vs) (tr:Trc s.heap e vs old)
  (q:∀ h' T,Lv ((env :: outer).filterMap (·.frame)) e old oe.cls s.heap h' T→Q () { s with heap:=h' }):wpAny M A (noteFrame (.ref e) env) (fun _ s'=>wpAny M A (setFlight (.ref e) none) Q E s') E s:=by
 unfold noteFrame
 simp only [hf]
 rcases tr with ⟨h1,rfl⟩ | ⟨T0,oT,ts,rfl,h1,nT,hT,hdT,h3⟩
 ·refine wpAny_bind (wpAny_field he hd h1 ?_)
  rw [if_neg (by decide)]
  exact entry_ok hfr hl hf he hdn hd (Array.getElem?_eq_some_iff.mp h1).1 q
 ·refine wpAny_bind (wpAny_field he hd h1 ?_)
  rw [if_pos (show (Value.ref T0 != Value.none)=true by simp)]
  refine wpAny_bind (wpAny_field hT hdT h3 ?_)
  rw [if_neg (show ¬ ((Value.none == rawInt L)=true) by simp [rawInt])]
  refine wpAny_bind (wpAny_setField hT hdT (Array.getElem?_eq_some_iff.mp h3).1 ?_)
  have ot:∀ b,b≠T0→(s.heap.update T0 (Obj.mapFields (·.setIfInBounds 3 Value.none))).get? b=s.heap.get? b:=fun b hb=>Heap.get?_update_other _ _ (Ne.symm hb)
  have nf:∀ b o,s.heap.get? b=some o→(∀ vs,o.data≠.fields vs)→b≠T0:=fun b o hb hnf z=>by
   rw [z,hT] at hb
   cases hb
   exact hnf ts hdT
  refine entry_ok hfr (hl.of_keeps fun b o hb hnf=>⟨o,(ot b (nf b o hb hnf)).trans hb,rfl⟩) hf ((ot e (Ne.symm nT)).trans he) hdn hd (Array.getElem?_eq_some_iff.mp h1).1 fun h' T x=>q h' T ⟨?_,x.exc,x.tb,fun b o hb nb no hbo=>?_,fun b o hb hbo=>?_⟩
  ·have:=x.ge
   rw [show (s.heap.update T0 (Obj.mapFields (·.setIfInBounds 3 Value.none))).objs.size=s.heap.objs.size from Heap.size_after_update ..] at this
   exact this
  ·exact x.keep b o hb nb (by simp) ((ot b (fun z=>no (by simp [z]))).trans hbo)
  ·obtain ⟨_,o',ho',hnf⟩:=hl.mem hb
   rw [hbo] at ho'
   cases ho'
   exact x.slot b o hb ((ot b (nf b o hbo hnf)).trans hbo)
theorem leaves {base:Heap}{env:Env}{outer:List Env}{L e:Addr}{oe:Obj}{vs:Array Value}{old:List Addr}{Q:Unit→Shared→Prop} (hfr:A.frames=some (env :: outer)) (hl:s.heap.FunFrames base (env :: outer)) (hf:env.frame=some L)
  (he:s.heap.get? e=some oe) (hdn:oe.dict=none) (hd:oe.data=.fields vs) (tr:Trc s.heap e vs old)
  (q:∀ h' T,Lv ((env :: outer).filterMap (·.frame)) e old oe.cls s.heap h' T→Q () { s with heap:=h' }):wpAny M A (leaving env (.ref e)) Q E s:=by
 unfold leaving
 exact wpAny_bind (lands hfr hl hf he hdn hd tr q)
end
end EX
set_option maxHeartbeats 4000000
namespace L2
open PySem PySem.Spec PyProof.Rows
def CX1 (P:Program) (w:World):CXT:=fun outer H s E er s'=>∃ e T C H',er=.ref e∧s'.os=s.os∧AllBare s'.gens∧Un (frs outer) [] H H' s.heap s'.heap∧HOk P w H' s'.heap∧s.heap.get? e=none∧s.heap.get? T=none∧T≠e∧H' e=none∧H' T=none ∧
 (∃ oe vs,s'.heap.get? e=some oe∧oe.cls=.ref C∧oe.data=.fields vs∧vs[1]? = some (.ref T)∧oe.dict=none)∧(∃ oT ts,s'.heap.get? T=some oT∧oT.data=.fields ts∧ts[3]? = some .none)∧E (.ref e) (some C) H'
theorem ObjOk.has {P:Program}{w:World}{H:Hp}{h:Heap}{a:Addr}{o:HO} (x:ObjOk P w H h a o):∃ u,h.get? a=some u:=by
 cases o with
 | lst xs=>obtain ⟨_,_,_,_,e⟩:=x;exact ⟨_,e⟩
 | tup xs=>obtain ⟨_,_,_,_,e,_⟩:=x;exact ⟨_,e⟩
 | dK kvs=>obtain ⟨_,_,_,_,o,_,_,e,_⟩:=x;exact ⟨_,e⟩
 | dT kvs=>obtain ⟨_,_,_,_,o,_,_,e,_⟩:=x;exact ⟨_,e⟩
 | set S n=>obtain ⟨o,_,_,_,e,_⟩:=x;exact ⟨_,e⟩
 | ins C dx fs=>obtain ⟨_,_,_,e,_⟩:=x;exact ⟨_,e⟩
 | own y=>exact x
 | xd fs=>obtain ⟨_,⟨_,_,_,e,_⟩,_⟩:=x;exact ⟨_,e⟩
 | rng lo hi=>obtain ⟨_,_,_,e⟩:=x;exact ⟨_,e⟩
 | frz ob u=>obtain ⟨e,_⟩:=x;exact ⟨_,e⟩
 | tbl ps=>exact ⟨_,(show h.get? a=some _ from x)⟩
 | met f y=>exact ⟨_,(show h.get? a=some _ from x)⟩
 | ext φ=>obtain ⟨_,e,_⟩:=x;exact e
theorem HOk.unseen {P:Program}{w:World}{H:Hp}{h:Heap}{a:Addr} (x:HOk P w H h) (e:h.get? a=none):H a=none:=by
 cases q:H a with
 | none=>rfl
 | some u =>
  obtain ⟨o,z⟩:=(x a u q).has
  rw [e] at z;cases z
def FlOk (X:Cx) (pins:List (Addr × Obj)) (H:Hp) (b:Addr):Prop :=
 H b=none∧b≠X.env.locals∧b ∉ X.fs∧(b∈X.ex∨X.s₀.heap.get? b=none)∧(∀ x c,X.env.cells.lookup x=some c→c≠b)∧∀ p∈X.pn ++ pins,p.1≠b
theorem Inv.flOk {X:Cx}{pins:List (Addr × Obj)}{σ:St}{H H':Hp}{s:Shared}{b:Addr} (I:Inv X pins σ H s) (hb:s.heap.get? b=none) (hn:H' b=none):FlOk X pins H' b:=by
 have no:∀ {o:Obj},s.heap.get? b=some o→False:=fun z=>by rw [hb] at z;cases z
 refine ⟨hn,fun z=>?_,fun z=>?_,?_,fun x c e z=>?_,fun p hp z=>?_⟩
 ·obtain ⟨m,⟨o,es,ep,ho,_⟩,_⟩:=I.loc
  rw [← z] at ho;exact no ho
 ·obtain ⟨_,o,ho,_⟩:=I.funs.mem z
  exact no ho
 ·by_cases hx:b∈X.ex
  ·exact .inl hx
  ·refine .inr ?_
   cases q:X.s₀.heap.get? b with
   | none=>rfl
   | some o =>
    obtain ⟨o',h'⟩:=I.base.there b o q hx
    exact (no h').elim
 ·obtain ⟨v,q⟩:=I.cell x c e
  rw [z] at q
  obtain ⟨o,ho,_⟩:=q
  exact no ho
 ·have:=(I.pin p hp).1
  rw [z] at this
  exact no this
structure Fly (X:Cx) (pins:List (Addr × Obj)) (H:Hp) (e C:Addr) (s:Shared):Prop where
 fe:FlOk X pins H e
 obj:∃ oe vs old,s.heap.get? e=some oe∧oe.cls=.ref C∧oe.data=.fields vs∧EX.Trc s.heap e vs old∧oe.dict=none∧∀ b∈old,FlOk X pins H b
def XOk (X:Cx) (E:XK):Prop:=∀ (pins:List (Addr × Obj)) (σ:St) (H:Hp) (s:Shared) (e C:Addr),Inv X pins σ H s→Fly X pins H e C s→E (.ref e) (some C) H→X.xe (.ref e) s
theorem fly_of {X:Cx}{pins:List (Addr × Obj)}{σ:St}{H:Hp}{s s':Shared}{E:XK}{er:Value} (I:Inv X pins σ H s) (h:CX1 X.prog X.w X.stack H s E er s'):∃ e C H',er=.ref e∧Inv X pins σ H' s'∧Fly X pins H' e C s'∧E (.ref e) (some C) H':=by
 obtain ⟨e,T,C,H',rfl,os,bare,un,hok,ge,gT,ne,he,hT,⟨oe,vs,h1,h2,h3,h4,h8⟩,⟨oT,ts,h5,h6,h7⟩,q⟩:=h
 obtain ⟨hh,g,d,t,os'⟩:=s'
 obtain rfl:os'=s.os:=os
 refine ⟨e,C,H',rfl,I.call (h':=hh) (g':=g) (d':=d) (t':=t) (ch:=[]) un hok bare (fun b z=>absurd z (by simp)),⟨I.flOk ge he,oe,vs,[T],h1,h2,h3,.inr ⟨T,oT,ts,rfl,h4,ne,h5,h6,h7⟩,h8,fun b hb=>?_⟩,q⟩
 rw [List.mem_singleton.mp hb]
 exact I.flOk gT hT
theorem pass1 {X:Cx}{E:XK} (h:XOk X E):Passes (CX1 X.prog X.w) X E:=fun pins σ H s er s' I hcx=>by
 obtain ⟨e,C,H',rfl,I',fl,q⟩:=fly_of I hcx
 exact h pins σ H' s' e C I' fl q
theorem passN {P:Program}{w:World}{X:Cx}:Passes (CX1 P w) X E0:=fun _ _ _ _ _ _ _ h=>by
 obtain ⟨_,_,_,_,_,_,_,_,_,_,_,_,_,_,_,_,q⟩:=h
 exact q.elim
section
variable {P:Program}{w:World}{K:PySem.W.Frag}{mg:Str→Option Value}{base:Heap}
theorem xok_fn {N:List Str}{qual:Str}{scope:Scope}{f:Addr}{cdv:Value}{A:Around}{outer:List Env}{s:Shared}{H:Hp}{E:XK}:XOk (cxOf (CX1 P w) P w K mg base N qual scope f cdv A outer s H E) E:=by
 intro pins σ H' s' e C I fl q
 obtain ⟨fe,oe,vs,old,h1,h2,h3,tr,hdn,fo⟩:=fl
 show wpAny (model P w) (A.deeper (envOfC qual scope s.heap.objs.size f cdv)) (leaving (envOfC qual scope s.heap.objs.size f cdv) (.ref e)) (fun _ s''=>CX1 P w outer H s E (.ref e) s'') (fun e' s''=>CX1 P w outer H s E e' s'') s'
 have fr:(A.deeper (envOfC qual scope s.heap.objs.size f cdv)).frames=some (envOfC qual scope s.heap.objs.size f cdv :: outer):=I.ok.frames
 have ff:s'.heap.FunFrames base (envOfC qual scope s.heap.objs.size f cdv :: outer):=I.stack
 have free:∀ b∈(envOfC qual scope s.heap.objs.size f cdv :: outer).filterMap (·.frame),H' b=none:=I.stkFree
 have big:∀ {b},FlOk (cxOf (CX1 P w) P w K mg base N qual scope f cdv A outer s H E) pins H' b→s.heap.get? b=none:=fun {b} hb=>by
  rcases hb.2.2.2.1 with z | z
  ·exact absurd z (by show b ∉ ([]:List Addr);simp)
  ·exact z
 have old_lt:∀ {b o},s.heap.get? b=some o→b≠e∧b ∉ old∧b≠s.heap.objs.size:=fun {b o} hb=>by
  have lt:=Heap.lt_size hb
  refine ⟨fun z=>?_,fun z=>?_,Nat.ne_of_lt lt⟩
  ·have:=big fe
   rw [← z,hb] at this;cases this
  ·have:=big (fo b z)
   rw [hb] at this;cases this
 refine EX.leaves (base:=base) fr ff rfl h1 hdn h3 tr fun h' T lv=>?_
 have inS:∀ {b},b∈(envOfC qual scope s.heap.objs.size f cdv :: outer).filterMap (·.frame)→b=s.heap.objs.size∨b∈frs outer:=fun {b} hb=>by
  rw [List.filterMap_cons] at hb
  exact List.mem_cons.mp hb
 have toS:∀ {b},b∈frs outer→b∈(envOfC qual scope s.heap.objs.size f cdv :: outer).filterMap (·.frame):=fun {b} hb=>by
  rw [List.filterMap_cons]
  exact List.mem_cons_of_mem _ hb
 have B:=I.base
 have sge:s.heap.objs.size≤s'.heap.objs.size:=I.sz
 have kp:∀ b u,H' b≠none→s'.heap.get? b=some u→h'.get? b=some u:=fun b u nb hb=>by
  refine lv.keep b u (fun z=>nb (free b z)) (fun z=>nb (by rw [z];exact fe.1)) (fun z=>nb (fo b z).1) hb
 refine ⟨e,T,C,H',rfl,I.os,I.bare,⟨fun b o e1 n hb hx=>?_,fun b o e1 n hb hx=>?_,fun b o e1 n hx=>B.free b o e1 n hx,fun b o e1 hx=>?_,B.tups,B.frzs,B.tbls⟩,fun b u e1=>?_,big fe,Heap.get?_none_of_le (Nat.le_trans sge lv.ge),?_,fe.1,I.hok.fresh lv.ge,?_,lv.tb,q⟩
 ·obtain ⟨z1,z2,z3⟩:=old_lt e1
  refine lv.keep b o (fun z=>?_) z1 z2 (B.keep b o e1 n hb hx)
  rcases inS z with z | z
  ·exact z3 z
  ·exact hb z
 ·obtain ⟨sl,e2⟩:=B.slot b o e1 n hb hx
  obtain ⟨sl',e3⟩:=lv.slot b _ (toS hb) e2
  exact ⟨sl',e3⟩
 ·obtain ⟨o',e2⟩:=B.there b o e1 hx
  obtain ⟨z1,z2,z3⟩:=old_lt e1
  by_cases hS:b∈(envOfC qual scope s.heap.objs.size f cdv :: outer).filterMap (·.frame)
  ·obtain ⟨sl,e3⟩:=lv.slot b _ hS e2
   exact ⟨_,e3⟩
  ·exact ⟨o',lv.keep b o' hS z1 z2 e2⟩
 ·refine (I.hok b u e1).stay (fun c v hc hv=>kp c v (fun z=>?_) hv) (fun _ z=>z) fun _ _ z=>z
  rcases hc with y | y
  ·rw [y,e1] at z;cases z
  ·rw [y] at z;cases z
 ·exact Nat.ne_of_gt (Nat.lt_of_lt_of_le (Heap.lt_size h1) lv.ge)
 ·obtain ⟨oe',vs',y1,y2,y3,y4,y5⟩:=lv.exc
  exact ⟨oe',vs',y1,y2.trans h2,y3,y4,y5⟩
theorem Fun.okX {x qual:Str}{st:Stmt}{f:Addr}{fd:FuncData}{N ps:List Str}{k:Nat}{sp:Sp} (F:Fun K x qual st f fd) (S:FnScope N ps (defScope st)) (len:∀ vs H Q E,sp vs H Q E→vs.length=ps.length)
  (hbody:∀ (cdv:Value) (A:Around) (outer:List Env) (s:Shared) (H:Hp) (vs:List V) (Q:VK) (E:XK),Room k (A.deeper (envOfC qual (defScope st) s.heap.objs.size f cdv))→sp vs H Q E →
   ∃ t,PSs (cxOf (CX1 P w) P w K mg base N qual (defScope st) f cdv A outer s H E) (defBody st) t∧t { nx:=fun _ H'=>Q .non H',rt:=Q } (start N vs) H):FnOk P w K mg base (CX1 P w) (k+1) f fd ps sp:=by
 obtain ⟨oc,od,kV,doc,pm,an,cdv,ct,osl,rfl,lk,hcd⟩:=F.ex
 exact fn_of lk hcd S len fun A outer s H vs Q E hr hsp=>hbody cdv A outer s H vs Q E hr hsp
end
section
open PySem.W
theorem cls_in {K:Frag}{h:Heap}{C:Addr}{bmB:List Value}{newId:String} (X:K.In h) (q:excIn K C bmB newId=true):∃ bm N nm qn bs hdct sn sub ab col dd k0 k1 k2 k3 k5 mN,
  h.get? C=some (excClassObj nm qn C N bs bm hdct sn sub ab col dd k0 k1 k2 k3 k5 newId)∧h.Ns N mN∧mN "__init__" = none∧OwnTail h bmB bm:=by
 have hk:=q
 revert hk
 rw [excIn]
 intro hk
 cases hl:K.lookup C with
 | none=>rw [hl] at hk;cases hk
 | some ob =>
  obtain ⟨c,dd,dt,sl⟩:=ob
  rw [hl] at hk
  split at hk
  next dd' cd sl' he =>
   cases he
   split at hk
   next C' bm k0 k1 k2 k3 n k5 hm hs =>
    simp only [Bool.and_eq_true,beq_iff_eq,Bool.not_eq_true'] at hk
    obtain ⟨⟨⟨⟨⟨hc,hn⟩,hdel⟩,ht⟩,hok⟩,hni⟩:=hk
    cases cd
    cases sl
    simp only at hm hdel hok hni hs
    rw [hm,hdel,hs] at hl
    rw [hc,hn] at hl
    exact ⟨_,_,_,_,_,_,_,_,_,_,_,_,_,_,_,_,_,X _ _ hl,.of_isNs (isNs_of_in X hok),nsMap_none_of_in X hok hni,tail_of_in X ht⟩
   next=>cases hk
  next=>cases hk
end
def tRaise (C:Addr) (t:TA) (E:XK):TS:=fun _ σ H=>t σ H fun vs H1=>vs.length≤sizeLine∧∀ e,H1 e=none→E (.ref e) (some C) H1
theorem ps_raise {X:Cx}{E:XK}{C:Addr}{x:Str}{bmB:List Value}{B newId initId:String}{e:Expr}{es:List Expr}{t:TA}{np cpos pos:Pos} (F:ExcBaseFacts B newId initId bmB) (q:PySem.W.excIn X.K C bmB newId=true) (hbase:bmB.contains (.type "BaseException")=true)
  (hg:Gl X x) (hm:X.mg x=some (.ref C)) (hc:X.calm=true) (hx:XOk X E) (ha:PA X (e :: es) t) (hdb:(x == ("__debug__" : Str))=false:=by decide) (he:starEach (e :: es) X.env=(false,eval e X.env) :: starEach es X.env:=by rfl)
  (hpl:(backTo cpos (starEach (e :: es) X.env)).any (·.1)=false:=by rfl):PS X (.Raise (some (.Call (.Name x np) (e :: es) [] cpos)) none pos) (tRaise C t E):=by
 intro pins s σ H D I h
 obtain ⟨bm,N,nm,qn,bs,hdct,sn,sub,ab,col,dd,k0,k1,k2,k3,k5,mN,hC,hN,hni,T⟩:=cls_in I.ok.mod.kin q
 refine wpAny_Raise_call_subT (nm:=nm) (q:=qn) (N:=N) (bs:=bs) (hdct:=hdct) (sn:=sn) (sub:=sub) (ab:=ab) (col:=col) (dd:=dd) (k0:=k0) (k1:=k1) (k2:=k2) (k3:=k3) (k5:=k5) F (T.hasType hbase) (I.ok.hd hc) hpl hni (ld_glob I hg hm ⟨rfl,?_⟩ hdb)
 have a1:=ha cpos pins s σ H _ I h
 rw [he] at a1 ⊢
 refine Calls.evalArgs_plain (thn a1 fun us s1 ⟨vs,H1,I1,r,hz,q1⟩=>⟨rfl,?_,I1.bk _ _ hC,hN.keeps I1.bk,T.keeps I1.bk,fun h' e' hme=>?_⟩)
 ·show us.length≤_
  rw [← r.length];exact hz
 ·have I2:Inv X pins σ H1 { s1 with heap:=h' }:=I1.kept (t':=s1.toks) hme.keeps
  obtain ⟨tt,t1,t2,t3⟩:=hme.there
  exact hx pins σ H1 _ e' C I2 ⟨I1.flOk hme.new (I1.hok.unseen hme.new),_,_,[],t1,rfl,rfl,.inl ⟨rfl,rfl⟩,rfl,fun b hb=>absurd hb (by simp)⟩ (q1 e' (I1.hok.unseen hme.new))
def Cx.plus (X:Cx) (l:List Addr):Cx:={ X with ex:=l ++ X.ex }
section
variable {X:Cx}{pins:List (Addr × Obj)}{σ:St}{H:Hp}{s:Shared}{l:List Addr}
theorem unseen_base (I:Inv X pins σ H s) {b:Addr} (hb:X.s₀.heap.get? b=none) (o:Obj):X.base.get? b≠some o:=fun z=>by
 have:=(I.ok.bs b o z).1
 rw [hb] at this;cases this
theorem Inv.plus (I:Inv X pins σ H s) (h:∀ b∈l,FlOk X pins H b):Inv (X.plus l) pins σ H s:=by
 have K:=I.ok
 refine ⟨⟨K.mod,K.kind,K.glob,K.blt,K.above,K.inj,K.has,K.cab,K.hd,K.frames,K.stk,fun b hb=>?_,K.bs,K.bsz,fun b o e hb=>?_,fun b hb=>?_,K.funs,K.frf⟩,I.os,I.bare,?_,I.loc,I.cell,I.free,I.freeC,I.pin,I.hok,I.len⟩
 ·rcases List.mem_append.mp hb with z | z
  ·exact ⟨(h b z).2.1,(h b z).2.2.2.2.1⟩
  ·exact K.exf b z
 ·rcases List.mem_append.mp hb with z | z
  ·rcases (h b z).2.2.2.1 with y | y
   ·exact K.noex b o e y
   ·exact unseen_base I y o e
  ·exact K.noex b o e z
 ·rcases List.mem_append.mp hb with z | z
  ·exact (h b z).2.2.1
  ·exact K.exfs b z
 ·have no:∀ {b:Addr},b ∉ l ++ X.ex→b ∉ X.ex:=fun hb z=>hb (List.mem_append_right _ z)
  exact ⟨fun b o e n hb hx=>I.base.keep b o e n hb (no hx),fun b o e n hb hx=>I.base.slot b o e n hb (no hx),fun b o e n hx=>I.base.free b o e n (no hx),fun b o e hx=>I.base.there b o e (no hx),I.base.tups,I.base.frzs,I.base.tbls⟩
theorem Inv.minus (I:Inv (X.plus l) pins σ H s) (K:X.Ok) (h:∀ b∈l,b∈X.ex∨X.s₀.heap.get? b=none):Inv X pins σ H s:=by
 have no:∀ {b:Addr}{o:Obj},X.s₀.heap.get? b=some o→b ∉ X.ex→b ∉ l ++ X.ex:=fun {b o} e hb z=>by
  rcases List.mem_append.mp z with y | y
  ·rcases h b y with u | u
   ·exact hb u
   ·rw [u] at e;cases e
  ·exact hb y
 exact ⟨K,I.os,I.bare,⟨fun b o e n hb hx=>I.base.keep b o e n hb (no e hx),fun b o e n hb hx=>I.base.slot b o e n hb (no e hx),fun b o e n hx=>I.base.free b o e n (no e hx),fun b o e hx=>I.base.there b o e (no e hx),I.base.tups,I.base.frzs,I.base.tbls⟩,
  I.loc,I.cell,I.free,I.freeC,I.pin,I.hok,I.len⟩
theorem Inv.turn {h':Heap} (I:Inv X pins σ H s) (h:∀ b∈l,FlOk X pins H b)
  (keep:∀ b o,b ∉ frs X.stack→b ∉ l→s.heap.get? b=some o→h'.get? b=some o) (slot:∀ b o,b∈frs X.stack→s.heap.get? b=some o→∃ sl,h'.get? b=some { o with slots:=sl }):Inv X pins σ H { s with heap:=h' }:=by
 have I1:=I.plus h
 have st:∀ b,H b≠none→b ∉ frs X.stack∧b ∉ l:=fun b n=>⟨fun z=>n (I.stkFree b z),fun z=>n (h b z).1⟩
 have u:Un (frs X.stack) l H H s.heap h':=by
  refine ⟨fun b o e n hb hx=>keep b o hb hx e,fun b o e n hb hx=>slot b o hb e,fun b o e n hx=>n,fun b o e hx=>?_,fun _ _ e=>e,fun _ _ _ e=>e,fun b ps e=>⟨#[],by rw [e];simp⟩⟩
  by_cases hb:b∈frs X.stack
  ·obtain ⟨sl,q⟩:=slot b o hb e
   exact ⟨_,q⟩
  ·exact ⟨o,keep b o hb hx e⟩
 have hok:HOk X.prog X.w H h':=fun b u e1=>by
  refine (I.hok b u e1).stay (fun c v hc hv=>?_) (fun _ z=>z) fun _ _ z=>z
  have n:H c≠none:=fun z=>by
   rcases hc with y | y
   ·rw [y,e1] at z;cases z
   ·rw [y] at z;cases z
  exact keep c v (st c n).1 (st c n).2 hv
 exact Inv.minus (l:=l) (I1.call (g':=s.gens) (d':=s.drawn) (t':=s.toks) (ch:=l) u hok I.bare fun b hb=>⟨.inl (List.mem_append_left _ hb),(h b hb).2.1,(h b hb).2.2.2.2.1,(h b hb).2.2.2.2.2⟩) I.ok fun b hb=>(h b hb).2.2.2.1
structure Held (X:Cx) (pins:List (Addr × Obj)) (H:Hp) (e C T:Addr) (s:Shared):Prop where
 fe:FlOk X pins H e
 fT:FlOk X pins H T
 ne:T≠e
 exc:∃ oe vs,s.heap.get? e=some oe∧oe.cls=.ref C∧oe.data=.fields vs∧vs[1]? = some (.ref T)∧oe.dict=none
 tb:∃ oT ts,s.heap.get? T=some oT∧oT.data=.fields ts∧ts[3]? = some .none
theorem land {e C:Addr}{Q:Unit→Shared→Prop} (I:Inv X pins σ H s) (hs:X.stack=X.env :: X.outer∧X.env.frame=some X.env.locals) (fl:Fly X pins H e C s)
  (q:∀ h' T,Inv X pins σ H { s with heap:=h' }→Held X pins H e C T { s with heap:=h' }→Q () { s with heap:=h' }) {E:Value→Shared→Prop} :
  wpAny (model X.prog X.w) X.A (noteFrame (.ref e) X.env) (fun _ s'=>wpAny (model X.prog X.w) X.A (setFlight (.ref e) none) Q E s') E s:=by
 obtain ⟨fe,oe,vs,old,h1,h2,h3,tr,hdn,fo⟩:=fl
 have fr:X.A.frames=some (X.env :: X.outer):=by rw [I.ok.frames,hs.1]
 have ff:s.heap.FunFrames X.base (X.env :: X.outer):=by rw [← hs.1];exact I.stack
 refine EX.lands fr ff hs.2 h1 hdn h3 tr fun h' T lv=>?_
 have es:frs X.stack=(X.env :: X.outer).filterMap (·.frame):=by rw [hs.1];rfl
 have I2:Inv X pins σ H { s with heap:=h' }:=by
  refine I.turn (l:=e :: old) (fun b hb=>?_) (fun b o hb hl ho=>?_) (fun b o hb ho=>?_)
  ·rcases List.mem_cons.mp hb with z | z
   ·rw [z];exact fe
   ·exact fo b z
  ·rw [es] at hb
   exact lv.keep b o hb (fun z=>hl (by simp [z])) (fun z=>hl (by simp [z])) ho
  ·rw [es] at hb
   exact lv.slot b o hb ho
 have gT:s.heap.get? T=none:=Heap.get?_none_of_le lv.ge
 refine q h' T I2 ⟨fe,I.flOk gT (I.hok.unseen gT),?_,?_,lv.tb⟩
 ·exact Nat.ne_of_gt (Nat.lt_of_lt_of_le (Heap.lt_size h1) lv.ge)
 ·obtain ⟨oe',vs',y1,y2,y3,y4,y5⟩:=lv.exc
  exact ⟨oe',vs',y1,y2.trans h2,y3,y4,y5⟩
theorem again {e C T:Addr}{Q:Unit→Shared→Prop}{A:Around} (I:Inv X pins σ H s) (hd:Held X pins H e C T s)
  (q:∀ h',Inv X pins σ H { s with heap:=h' }→Held X pins H e C T { s with heap:=h' }→Q () { s with heap:=h' }) {E:Value→Shared→Prop} :
  wpAny (model X.prog X.w) A (setFlight (.ref e) none) Q E s:=by
 obtain ⟨fe,fT,ne,⟨oe,vs,h1,h2,h3,h4,h5⟩,⟨oT,ts,t1,t2,t3⟩⟩:=hd
 unfold setFlight
 refine wpAny_bind (wpAny_field h1 h3 h4 ?_)
 rw [if_pos (show (Value.ref T != Value.none)=true by simp)]
 refine wpAny_setField t1 t2 (Array.getElem?_eq_some_iff.mp t3).1 ?_
 have d4:=Obj.data_mapFields t2 (·.setIfInBounds 3 ((none:Option Addr).elim Value.none fun f=>rawInt f))
 have ot:∀ b,b≠T→(s.heap.update T (Obj.mapFields (·.setIfInBounds 3 ((none:Option Addr).elim Value.none fun f=>rawInt f)))).get? b=s.heap.get? b:=fun b hb=>Heap.get?_update_other _ _ (Ne.symm hb)
 have notT:∀ b,b∈frs X.stack→b≠T:=fun b hb z=>by
  obtain ⟨_,o,ho,nf⟩:=I.stack.mem hb
  rw [z,t1] at ho;cases ho
  exact nf ts t2
 refine q _ (I.turn (l:=[T]) (fun b hb=>?_) (fun b o hb hl ho=>?_) fun b o hb ho=>?_) ⟨fe,fT,ne,⟨oe,vs,(ot e (Ne.symm ne)).trans h1,h2,h3,h4,h5⟩,⟨_,_,Heap.get?_update_self _ t1 (Obj.isFreed_of_fields d4),d4,?_⟩⟩
 ·rw [List.mem_singleton.mp hb];exact fT
 ·exact (ot b (fun z=>hl (by simp [z]))).trans ho
 ·exact ⟨o.slots,(ot b (notT b hb)).trans ho⟩
 ·simp [(Array.getElem?_eq_some_iff.mp t3).1]
end
def mroIn (K:PySem.W.Frag) (C:Addr):List Value:=match K.lookup C with
 | some ⟨_,_,.cls cd,_⟩=>cd.mro
 | _=>[]
section
open PySem.W
theorem exc_cls {K:Frag}{h:Heap}{C:Addr} (X:K.In h) (q:ktsIn K C "BaseException" = true):∃ nm qn N bs bm hdct sn sub ab col dd k0 k1 k2 k3 k5 newId,
  h.get? C=some (excClassObj nm qn C N bs bm hdct sn sub ab col dd k0 k1 k2 k3 k5 newId)∧bm.contains (.type "BaseException")=true∧mroIn K C=.ref C :: bm:=by
 obtain ⟨nm,qn,N,bs,bm,hdct,sn,sub,ab,col,dd,k0,k1,k2,k3,k5,newId,hC,hb,_⟩:=kts_cls X q
 refine ⟨nm,qn,N,bs,bm,hdct,sn,sub,ab,col,dd,k0,k1,k2,k3,k5,newId,hC,hb,?_⟩
 cases hl:K.lookup C with
 | none=>unfold ktsIn at q;rw [hl] at q;cases q
 | some ob =>
  have:=X _ _ hl
  rw [hC] at this
  cases this
  unfold mroIn
  rw [hl]
end
theorem matches_own {M:Model}{A:Around}{E:Value→Shared→Prop}{h:Heap}{g:Array GenState}{d:Drawn}{t:Nat}{os:OsState}{e C D:Addr}{oe:Obj}{K:PySem.W.Frag}{Q:Bool→Shared→Prop} (X:K.In h)
  (qC:PySem.W.ktsIn K C "BaseException" = true) (qD:PySem.W.ktsIn K D "BaseException" = true) (he:h.get? e=some oe) (hcls:oe.cls=.ref C) (hq:Q ((mroIn K C).contains (.ref D)) ⟨h,g,d,t,os⟩) :
  wpAny M A (excMatches (.ref e) (.ref D)) Q E ⟨h,g,d,t,os⟩:=by
 obtain ⟨nm,qn,N,bs,bm,hdct,sn,sub,ab,col,dd,k0,k1,k2,k3,k5,newId,hC,hbC,mC⟩:=exc_cls X qC
 obtain ⟨nm',qn',N',bs',bm',hdct',sn',sub',ab',col',dd',k0',k1',k2',k3',k5',newId',hD,hbD,mD⟩:=exc_cls X qD
 have hDB:(Value.ref D :: bm').contains (.type "BaseException")=true:=by rw [List.contains_cons,hbD,Bool.or_true]
 have f:=tc_notTuple
 rw [mC] at hq
 unfold excMatches
 repeat (first | (with_reducible refine wpAny_loadPart_at he ?_;rw [hcls]) | with_reducible refine wpAny_loadPart_at hD ?_ | (with_reducible refine wpAny_isSubtype_exc hD ?_;rw [hDB]) | with_reducible refine wpAny_isSubtype_exc hC ?_ | wp_step)
 all_goals (cases hb:(Value.ref C :: bm).contains (.ref D) <;> (rw [hb] at hq;wp_walk;exact hq))
def Cx.mk' (X:Cx) (e:Addr):Cx:={ X with A:=X.A.mark (some (.ref e)),calm:=false,xe:=fun _ _=>False }
def Cx.tr (X:Cx) (pins:List (Addr × Obj)) (Ex:St→XK):Cx :=
 { X with pn:=X.pn ++ pins,xe:=fun er s=>∃ σ e C H,er=.ref e∧Inv X pins σ H s∧Fly X pins H e C s∧Ex σ (.ref e) (some C) H }
section
variable {X:Cx}{pins:List (Addr × Obj)}{σ:St}{H:Hp}{s:Shared}{e C T:Addr}{D:Ends}{f:Flow}{Ex:St→XK}
theorem Inv.mk' (I:Inv X pins σ H s) (e:Addr):Inv (X.mk' e) pins σ H s :=
 ⟨⟨I.ok.mod,I.ok.kind,I.ok.glob,I.ok.blt,I.ok.above,I.ok.inj,I.ok.has,I.ok.cab,fun h=>Bool.noConfusion h,I.ok.frames,I.ok.stk,I.ok.exf,I.ok.bs,I.ok.bsz,I.ok.noex,I.ok.exfs,I.ok.funs,I.ok.frf⟩,I.os,I.bare,I.base,I.loc,I.cell,I.free,I.freeC,I.pin,I.hok,I.len⟩
theorem Inv.unmk (I:Inv (X.mk' e) pins σ H s) (K:X.Ok):Inv X pins σ H s:=⟨K,I.os,I.bare,I.base,I.loc,I.cell,I.free,I.freeC,I.pin,I.hok,I.len⟩
theorem Inv.tr (I:Inv X pins σ H s) (Ex:St→XK):Inv (X.tr pins Ex) [] σ H s :=
 ⟨⟨I.ok.mod,I.ok.kind,I.ok.glob,I.ok.blt,I.ok.above,I.ok.inj,I.ok.has,I.ok.cab,I.ok.hd,I.ok.frames,I.ok.stk,I.ok.exf,I.ok.bs,I.ok.bsz,I.ok.noex,I.ok.exfs,I.ok.funs,I.ok.frf⟩,I.os,I.bare,I.base,I.loc,I.cell,I.free,I.freeC,fun p hp=>I.pin p (by rw [List.append_nil] at hp;exact hp),I.hok,I.len⟩
theorem Inv.untr {pins':List (Addr × Obj)} (I:Inv (X.tr pins Ex) pins' σ H s):Inv X pins σ H s :=
 ⟨⟨I.ok.mod,I.ok.kind,I.ok.glob,I.ok.blt,I.ok.above,I.ok.inj,I.ok.has,I.ok.cab,I.ok.hd,I.ok.frames,I.ok.stk,I.ok.exf,I.ok.bs,I.ok.bsz,I.ok.noex,I.ok.exfs,I.ok.funs,I.ok.frf⟩,I.os,I.bare,I.base,I.loc,I.cell,I.free,I.freeC,fun p hp=>I.pin p (List.mem_append_left _ hp),I.hok,I.len⟩
theorem Fly.untr {pins':List (Addr × Obj)} (F:Fly (X.tr pins Ex) pins' H e C s):Fly X pins H e C s:=by
 have up:∀ {b},FlOk (X.tr pins Ex) pins' H b→FlOk X pins H b:=fun {b} h=>⟨h.1,h.2.1,h.2.2.1,h.2.2.2.1,h.2.2.2.2.1,fun p hp=>h.2.2.2.2.2 p (List.mem_append_left _ hp)⟩
 obtain ⟨oe,vs,old,h1,h2,h3,h4,h6,h5⟩:=F.obj
 exact ⟨up F.fe,oe,vs,old,h1,h2,h3,h4,h6,fun b hb=>up (h5 b hb)⟩
def XOkS (X:Cx) (Ex:St→XK):Prop:=∀ (pins:List (Addr × Obj)) (σ:St) (H:Hp) (s:Shared) (e C:Addr),Inv X pins σ H s→Fly X pins H e C s→Ex σ (.ref e) (some C) H→X.xe (.ref e) s
theorem xok_tr:XOkS (X.tr pins Ex) Ex:=fun pins' σ H s e C I fl q=>⟨σ,e,C,H,rfl,I.untr,fl.untr,q⟩
theorem XOk.toS {E:XK} (h:XOk X E):XOkS X fun _=>E:=fun pins σ H s e C I fl q=>h pins σ H s e C I fl q
theorem SP.unmk (h:SP (X.mk' e) pins D f s) (K:X.Ok):SP X pins D f s:=by
 cases f with
 | ret u=>obtain ⟨v,σ',H',I,r,q⟩:=h;exact ⟨v,σ',H',I.unmk K,r,q⟩
 | next=>obtain ⟨σ',H',I,q⟩:=h;exact ⟨σ',H',I.unmk K,q⟩
 | brk=>obtain ⟨σ',H',I,q⟩:=h;exact ⟨σ',H',I.unmk K,q⟩
 | cont=>obtain ⟨σ',H',I,q⟩:=h;exact ⟨σ',H',I.unmk K,q⟩
theorem SP.untr (h:SP (X.tr pins Ex) [] D f s):SP X pins D f s:=by
 cases f with
 | ret u=>obtain ⟨v,σ',H',I,r,q⟩:=h;exact ⟨v,σ',H',I.untr,r,q⟩
 | next=>obtain ⟨σ',H',I,q⟩:=h;exact ⟨σ',H',I.untr,q⟩
 | brk=>obtain ⟨σ',H',I,q⟩:=h;exact ⟨σ',H',I.untr,q⟩
 | cont=>obtain ⟨σ',H',I,q⟩:=h;exact ⟨σ',H',I.untr,q⟩
end
def PH (X:Cx) (hs:List ExceptHandler) (hd:Addr→Addr→TS):Prop :=
 ∀ (pins:List (Addr × Obj)) (s:Shared) (σ:St) (H:Hp) (D:Ends) (e C T:Addr),Inv X pins σ H s→Held X pins H e C T s→hd e C D σ H→wpAny (model X.prog X.w) X.A (handleBy (.ref e) X.env hs) (SP X pins D) X.xe s
def tNoH:Addr→Addr→TS:=fun _ _ _ _ _=>False
def tHd (K:PySem.W.Frag) (Dc:Addr) (su rest:Addr→Addr→TS):Addr→Addr→TS:=fun e C D σ H =>
 PySem.W.ktsIn K C "BaseException" = true∧if (mroIn K C).contains (.ref Dc) then su e C D σ H else rest e C D σ H
section
variable {X:Cx}{x:Str}{np pos:Pos}{Dc:Addr}{b₀:Stmt}{body:List Stmt}{rest:List ExceptHandler}{hd:Addr→Addr→TS}{ts:TS}
theorem ph_nil:PH X [] tNoH:=fun _ _ _ _ _ _ _ _ _ _ h=>h.elim
theorem ph_cons (q:PySem.W.ktsIn X.K Dc "BaseException" = true) (hg:Gl X x) (hm:X.mg x=some (.ref Dc)) (hb:∀ e,PSs (X.mk' e) (b₀ :: body) ts) (hr:PH X rest hd) (hdb:(x == ("__debug__" : Str))=false:=by decide) :
  PH X (.ExceptHandler (some (.Name x np)) none (b₀ :: body) pos :: rest) (tHd X.K Dc (fun _ _=>ts) hd):=by
 intro pins s σ H D e C T I hl h
 obtain ⟨qC,h⟩:=h
 refine wpAny_handleBy_cons (codeAny_handlers_test ?_) (by intro z;cases z)
 refine ld_glob (X:=X.mk' e) (I.mk' e) hg hm ?_ hdb
 obtain ⟨oe,vs,h1,h2,h3,h4,h5⟩:=hl.exc
 obtain ⟨hp,g,d,t,os⟩:=s
 refine matches_own I.kIn qC q h1 h2 ?_
 cases hc:(mroIn X.K C).contains (.ref Dc) with
 | false =>
  rw [hc] at h
  exact hr pins _ σ H D e C T I hl h
 | true =>
  rw [hc] at h
  refine codeAny_handlers_suite (again (A:=X.A.mark (some (.ref e))) I hl fun h' I2 hl2=>?_)
  exact wpAny_mono (hb e pins _ σ H D (I2.mk' e) h) (fun f s2 z=>z.unmk I.ok) fun _ _ z=>z.elim
def tTry (tb:(St→XK)→TS) (hd:Addr→Addr→TS):TS:=fun D σ H=>tb (fun σ' er oc H'=>∃ e C,er=.ref e∧oc=some C∧hd e C D σ' H') D σ H
theorem ps_try {b:List Stmt}{h₀:ExceptHandler}{hs:List ExceptHandler}{tb:(St→XK)→TS} (st:X.stack=X.env :: X.outer∧X.env.frame=some X.env.locals) (hb:∀ pins Ex,PSs (X.tr pins Ex) b (tb Ex)) (hh:PH X (h₀ :: hs) hd):PS X (.Try b (h₀ :: hs) [] [] pos) (tTry tb hd):=by
 intro pins s σ H D I h
 refine wpAny_Try_except (wpAny_mono (hb pins _ [] s σ H D (I.tr _) h) (fun f s2 z=>?_) fun er s2 z=>?_)
 ·have z':=SP.untr z
  cases f with
  | next=>exact wpAny_pure z'
  | ret u=>exact z'
  | brk=>exact z'
  | cont=>exact z'
 ·obtain ⟨σ',e,C,H',rfl,I2,fl,e2,C2,r1,r2,q⟩:=z
  cases r1;cases r2
  exact land I2 st fl fun h' T I3 hl=>hh pins _ σ' H' D e C T I3 hl q
end
section
variable {X:Cx}{k:Nat}{f C:Addr}{fd:FuncData}{ps:List Str}{sp:Sp}{dvs:List V}{ds:List Value}{Ex:St→XK}{x m:Str}{p pos apos:Pos}{e o:Expr}{es:List Expr}{ta:TE}{t:TA}
end
def excAt (a C:Addr):Heap→Prop:=fun h=>∃ o vs,h.get? a=some o∧o.cls=.ref C∧o.data=.fields vs∧o.dict=none
def xo (a C:Addr):HO:=.ext (excAt a C)
section
variable {X:Cx}{pins:List (Addr × Obj)}{σ:St}{H:Hp}{s:Shared}{e C T:Addr}
theorem Inv.seen {oe:Obj} (I:Inv X pins σ H s) (fe:FlOk X pins H e) (ho:s.heap.get? e=some oe) (hc:oe.cls=.ref C) {vs:Array Value} (hf:oe.data=.fields vs) (hdn:oe.dict=none):Inv X pins σ (upd H e (xo e C)) s:=by
 have ne:∀ {b u},H b=some u→b≠e:=fun {b u} h z=>by rw [z,fe.1] at h;cases h
 have up:∀ {b u},H b=some u→upd H e (xo e C) b=some u:=fun {b u} h=>(upd_ne (ne h)).trans h
 refine ⟨I.ok,I.os,I.bare,⟨I.base.keep,I.base.slot,fun b o e1 n hx=>?_,I.base.there,fun b xs h=>up (I.base.tups b xs h),fun b o u h=>up (I.base.frzs b o u h),fun b ps h=>?_⟩,I.loc,I.cell,(upd_ne (Ne.symm fe.2.1)).trans I.free,fun x c h=>(upd_ne (fe.2.2.2.2.1 x c h)).trans (I.freeC x c h),fun p hp=>?_,fun b u h=>?_,I.len⟩
 ·refine (upd_ne fun z=>?_).trans (I.base.free b o e1 n hx)
  rcases fe.2.2.2.1 with y | y
  ·exact hx (z ▸ y)
  ·rw [z,y] at e1;cases e1
 ·obtain ⟨more,q⟩:=I.base.tbls b ps h
  exact ⟨more,up q⟩
 ·obtain ⟨a1,a2,a3⟩:=I.pin p hp
  exact ⟨a1,(upd_ne (fe.2.2.2.2.2 p hp)).trans a2,a3⟩
 ·by_cases hb:b=e
  ·rw [hb,upd_same] at h
   cases h
   rw [hb]
   exact ⟨⟨oe,vs,ho,hc,hf,hdn⟩,⟨oe,ho⟩,fun h1 h2 ⟨o,vs,p1,p2⟩ k=>⟨o,vs,k o p1,p2⟩⟩
  ·rw [upd_ne hb] at h
   exact (I.hok b u h).stay (fun c v _ q=>q) (fun c q=>up q) fun c xs q=>up q
theorem unbind_ok {M:Model}{A:Around}{E:Value→Shared→Prop}{i:Nat}{n:Str}{v:V}{Q:Unit→Shared→Prop} (I:Inv X pins σ H s) (hN:X.N.Nodup) (hi:X.N[i]? = some n) (hk:X.env.scope.names.lookup n=some .local) (hv:σ[i]? = some (some v))
  (h:∀ s',Inv X pins (σ.set i none) H s'→Q () s'):wpAny M A (unbindName X.env n) Q E s:=by
 obtain ⟨m,hn,hl⟩:=id I.loc
 obtain ⟨u,_,lk⟩:=hl i n v hi hv (.inl hk)
 have hm:m n=some u:=by
  rcases lk with z | ⟨z,_⟩
  ·exact z.2
  ·rw [show X.env.kindOf n=some .local from hk] at z
   rcases z with z | z <;> cases z
 refine wpAny_unbindName_local hk hn hm (by rw [I.ok.kind];rfl) fun h' u' hn' hs=>?_
 have old:∀ {b o},X.s₀.heap.get? b=some o→h'.get? b=s.heap.get? b:=fun {b o} e=>hs.2 b (Nat.ne_of_lt (Nat.lt_of_lt_of_le (Heap.lt_size e) I.ok.above))
 refine h _ ⟨I.ok,I.os,I.bare,⟨fun b o e n hb hx=>(old e).trans (I.base.keep b o e n hb hx),fun b o e n hb hx=>?_,I.base.free,fun b o e hx=>?_,I.base.tups,I.base.frzs,I.base.tbls⟩,⟨_,hn',fun j y w e1 e2 e3=>?_⟩,fun y c e=>?_,I.free,I.freeC,fun p hp=>?_,fun b ob e=>?_,by simpa using I.len⟩
 ·rw [show h'.get? b=s.heap.get? b from old e];exact I.base.slot b o e n hb hx
 ·rw [show h'.get? b=s.heap.get? b from old e];exact I.base.there b o e hx
 ·have hj:j≠i:=fun z=>by
   rw [z] at e2
   have hz:i<σ.length:=by rw [I.len];exact (List.getElem?_eq_some_iff.mp hi).1
   rw [List.getElem?_set_self hz] at e2
   cases e2
  rw [List.getElem?_set_ne (Ne.symm hj)] at e2
  obtain ⟨u2,r2,q⟩:=hl j y w e1 e2 e3
  refine ⟨u2,r2,?_⟩
  rcases q with ⟨k,z⟩ | ⟨k,c,z1,z2⟩
  ·refine .inl ⟨k,?_⟩
   have ny:y≠n:=fun z=>hj (nodup_ix hN e1 (z ▸ hi))
   simp only [ny,if_false,z]
  ·exact .inr ⟨k,c,z1,z2.sameBut hs (I.cne y c z1)⟩
 ·obtain ⟨w,z⟩:=I.cell y c e
  exact ⟨w,z.sameBut hs (I.cne y c e)⟩
 ·obtain ⟨a1,a2,a3,a4⟩:=I.pin p hp
  exact ⟨(hs.2 p.1 a3).trans a1,a2,a3,a4⟩
 ·refine (I.hok b ob e).stay (fun c v hc hv=>(hs.2 c fun z=>?_).trans hv) (fun _ q=>q) fun _ _ q=>q
  have fr:=I.free
  rw [← z] at fr
  rcases hc with y | y
  ·rw [← y,fr] at e;cases e
  ·rw [fr] at y;cases y
theorem handlers_as {prog:Program}{w:World}{A:Around}{s:Shared}{env:Env}{R:Result→Shared→Prop}{e:Value}{n:Str}{b₀:Stmt}{body:List Stmt}{pos:Pos}
  (h:wpAny (model prog w) A (setFlight e none) (fun _ s₁=>wpAny (model prog w) A (storeName env n e) (fun _ s₂=>wpAny (model prog w) A (execs (b₀ :: body) env) (fun f s₃=>R (.ok f) s₃) (fun _ _=>False) s₂) (fun _ _=>False) s₁) (fun _ _=>False) s) :
  codeAny (model prog w) A (.handlers e [.ExceptHandler none (some n) (b₀ :: body) pos] env) R s:=by
 refine codeAny_of_tree ?_
 show wpAny _ A (do return Fin.done (← (handleWith e env [.ExceptHandler none (some n) (b₀ :: body) pos]).onRaise (fun x=>do noteFrame x env;theTreesLotGoes x))) _ _ s
 refine wpAny_bind (wpAny_noted ?_)
 unfold handleWith
 refine wpAny_bind (wpAny_standAt (wpAny_bind (wpAny_mono h (fun _ s1 h1=>?_) fun _ _ z=>z.elim)))
 refine wpAny_bind (wpAny_bindName (wpAny_mono h1 (fun _ s2 h2=>?_) fun _ _ z=>z.elim))
 exact wpAny_bind (wpAny_attempt (wpAny_mono h2 (fun f s3 h3=>wpAny_pure (wpAny_pure h3)) fun _ _ z=>z.elim))
end
def tAs (i:Nat) (ts:TS):Addr→Addr→TS:=fun e C D σ H =>
 ts { nx:=fun σ' H'=>D.nx (σ'.set i none) H',rt:=D.rt,bk:=fun σ' H'=>D.bk (σ'.set i none) H',ct:=fun σ' H'=>D.ct (σ'.set i none) H' } (σ.set i (some (.ref e))) (upd H e (xo e C))
theorem ph_as {X:Cx}{i:Nat}{x n:Str}{np pos:Pos}{Dc:Addr}{b₀:Stmt}{body:List Stmt}{rest:List ExceptHandler}{hd:Addr→Addr→TS}{ts:TS} (q:PySem.W.ktsIn X.K Dc "BaseException" = true) (hg:Gl X x) (hm:X.mg x=some (.ref Dc))
  (hN:X.N.Nodup) (hi:X.N[i]? = some n) (hk:X.env.scope.names.lookup n=some .local) (hb:∀ e,PSs (X.mk' e) (b₀ :: body) ts) (hr:PH X rest hd) (hdb:(x == ("__debug__" : Str))=false:=by decide) :
  PH X (.ExceptHandler (some (.Name x np)) (some n) (b₀ :: body) pos :: rest) (tHd X.K Dc (tAs i ts) hd):=by
 intro pins s σ H D e C T I hl h
 obtain ⟨qC,h⟩:=h
 refine wpAny_handleBy_cons (codeAny_handlers_test ?_) (by intro z;cases z)
 refine ld_glob (X:=X.mk' e) (I.mk' e) hg hm ?_ hdb
 obtain ⟨oe,vs,h1,h2,h3,h4,h5⟩:=hl.exc
 obtain ⟨hp,g,d,t,os⟩:=s
 refine matches_own I.kIn qC q h1 h2 ?_
 cases hc:(mroIn X.K C).contains (.ref Dc) with
 | false =>
  rw [hc] at h
  exact hr pins _ σ H D e C T I hl h
 | true =>
  rw [hc] at h
  refine handlers_as (again (A:=X.A.mark (some (.ref e))) I hl fun h' I2 hl2=>?_)
  obtain ⟨oe2,vs2,g1,g2,g3,g4,g5⟩:=hl2.exc
  have I3:=I2.seen hl2.fe g1 g2 g3 g5
  refine store_ok (i:=i) I3 hN hi (.inl hk) (v:=.ref e) rfl (fun s4 I4=>?_) (.inr hk)
  refine wpAny_mono (hb e pins _ _ _ _ (I4.mk' e) h) (fun f s5 z=>?_) fun _ _ z=>z.elim
  have fin:∀ {σ' H'}{Q:Flow→Shared→Prop},Inv X pins σ' H' s5→(∀ s',Inv X pins (σ'.set i none) H' s'→Q f s')→wpAny (model X.prog X.w) X.A (do bindName X.env n .none;unbindBehindTheSuite X.env n pos) (fun _ s'=>Q f s') X.xe s5:=fun {σ' H' Q} I5 k=>by
   refine wpAny_bind (wpAny_bindName (store_ok (i:=i) I5 hN hi (.inl hk) (v:=.non) rfl (fun s6 I6=>?_) (.inr hk)))
   unfold unbindBehindTheSuite
   have hz:i<σ'.length:=by rw [I5.len];exact (List.getElem?_eq_some_iff.mp hi).1
   refine wpAny_onRaise (unbind_ok (i:=i) (v:=.non) I6 hN hi hk (List.getElem?_set_self hz) fun s7 I7=>k s7 ?_)
   rw [List.set_set] at I7
   exact I7
  have z':=SP.unmk z I.ok
  cases f with
  | next=>obtain ⟨σ',H',I5,q5⟩:=z';exact fin I5 fun s' I'=>⟨_,H',I',q5⟩
  | brk=>obtain ⟨σ',H',I5,q5⟩:=z';exact fin I5 fun s' I'=>⟨_,H',I',q5⟩
  | cont=>obtain ⟨σ',H',I5,q5⟩:=z';exact fin I5 fun s' I'=>⟨_,H',I',q5⟩
  | ret u=>obtain ⟨v,σ',H',I5,r5,q5⟩:=z';exact fin I5 fun s' I'=>⟨v,_,H',I',r5,q5⟩
def exq (K:PySem.W.Frag) (C:Addr):Bool :=
 (PySem.W.clsIn K C).isSome && PySem.W.findIn K (.ref C) "__getattribute__" == some (some (.builtin "BaseException.__getattribute__")) && PySem.W.findIn K (.ref C) "__getattr__" == some none
 && PySem.W.findIn K (.ref C) "__class__" == some (some (.builtin "object.__class__")) && PySem.W.specialIn K (.builtin "object.__class__") "__get__" == some (some (.builtin "getset_descriptor.__get__"))
 && PySem.W.takesIn K (.builtin "object.__class__") == some true && PySem.W.mroIn K C (.type "object") == some true && PySem.W.mroIn K C (.type "BaseException") == some true
section
open PySem.W PySem.Calls
variable {prog:Program}{w:World}{A:Around}{E:Value→Shared→Prop}{s:Shared}{K:Frag}{a C:Addr}
theorem exc_class {Q:Option Value→Shared→Prop} (q:exq K C=true) (X:K.In s.heap) (p:excAt a C s.heap) (k:Q (some (.ref C)) { s with toks:=s.toks+1 }):wpAny (model prog w) A (getAttr? (.ref a) "__class__") Q E s:=by
 unfold exq at q
 simp only [Bool.and_eq_true,beq_iff_eq] at q
 obtain ⟨⟨⟨⟨⟨⟨⟨hc,hga⟩,hgt⟩,ha⟩,hn⟩,htk⟩,hm⟩,hb⟩:=q
 obtain ⟨o,vs,h1,h2,h3,h4⟩:=p
 have I:InstAt s.heap a o C none:=⟨h1,h2,by unfold notCls;rw [h3],by rw [h4];trivial⟩
 have hf:findObj K C none "__class__" = some (.bind (.builtin "getset_descriptor.__get__") (.builtin "object.__class__")):=by
  obtain ⟨cd,hcd⟩:=Option.isSome_iff_exists.mp hc
  unfold findObj
  rw [hcd,Option.bind_some,ha,Option.bind_some]
  simp [hn,htk]
 obtain ⟨hh,g,d,t,os⟩:=s
 have L0:=I.type (M:=model prog w)
 have L1:=looks_findIn (M:=model prog w) X hga
 have L2:=looks_findIn (M:=model prog w) X hgt
 have L3:=looks_find (M:=model prog w) X I hf
 have L4:=looks_mroIn (M:=model prog w) X hb
 have f3:=F.attr_ValueError.ga.bind (.ref a)
 unfold getAttr? getAttrBy? getAttrBy
 refine wpAny_bind (wpAny_mkText (wpAny_bind (wpAny_attempt (wpAny_holding (wpAny_bind (L0.at (wpAny_bind (L1.at ?_))))))))
 show wpAny _ _ (if (onTheHeap (.ref C) && Value.builtin "BaseException.__getattribute__" == Value.builtin "object.__getattribute__")=true then _ else getAttrByItsOwn _ _ _ _ _ _) _ _ _
 have n1:(Value.builtin "BaseException.__getattribute__" == Value.builtin "object.__getattribute__")=false:=by decide +kernel
 rw [n1,Bool.and_false,if_neg (by decide)]
 unfold getAttrByItsOwn hookBefore
 rw [if_pos (show onTheHeap (.ref C)=true from rfl)]
 refine wpAny_bind (L2.at (wpAny_bind (wpAny_attempt (wpAny_holding ?_))))
 unfold callGetattribute
 rw [if_neg (by decide)]
 unfold boundAndCalled
 rw [f3]
 refine wpAny_bind (wpAny_pure ?_)
 show wpAny _ _ (call (.builtin "BaseException.__getattribute__") [.ref a,.str "__class__" t]) _ _ _
 refine wpAny_call (codeAny_call_builtin F.attr_ValueError.ga.plain F.entry_bexc_ga ?_)
 have hk:builtinKind "BaseException.__getattribute__" = some .slot:=by decide +kernel
 have hsplit:splitId "BaseException.__getattribute__" = some ("BaseException","__getattribute__"):=by decide +kernel
 have hao:=F.args_bexc_ga (.ref a) (.str "__class__" t)
 simp only [checkBuiltinCall,hk,hsplit]
 refine wpAny_bind ?_
 unfold isInstance
 refine wpAny_bind (L0.at (L4.at ?_))
 simp only [Bool.not_true,Bool.false_eq_true,if_false]
 have chk:∀ {Q':Unit→Shared→Prop}{E':Value→Shared→Prop}{A':Around}{s':Shared},Q' () s'→wpAny (model prog w) A' (match Manifest.signature? "BaseException.__getattribute__" with
   | some sig=>Bind.checkArgs "BaseException.__getattribute__" sig { pos:=[Value.ref a,Value.str (Str.ofString "__class__") t] }
   | x=>pure ()) Q' E' s':=fun {Q' E' A' s'} q=>by
  repeat (first | assumption | wp_step)
 refine chk ?_
 unfold Builtin.«object.__getattribute__»
 refine wpAny_bind (wpAny_pure ?_)
 refine wpAny_bind (wpAny_pure ?_)
 refine wpAny_bind (L0.at (wpAny_bind (L3.at ?_)))
 show wpAny _ _ (holding [Value.builtin "object.__class__"] (call (.builtin "getset_descriptor.__get__") [.builtin "object.__class__",.ref a,.ref C]) >>= ret) _ _ _
 refine wpAny_bind (wpAny_holding (wpAny_call (class_get (s:=⟨hh,g,d,t+1,os⟩) (od:=none) X I hm (wpAny_pure ?_))))
 exact handed_on rfl (wpAny_pure k)
theorem kitx_exc (q:exq K C=true):KitX K (.ref a) (.ref C) (excAt a C):=by
 have hc:(clsIn K C).isSome=true:=by
  unfold exq at q
  simp only [Bool.and_eq_true] at q
  exact q.1.1.1.1.1.1.1
 obtain ⟨cd,hcd⟩:=Option.isSome_iff_exists.mp hc
 unfold clsIn at hcd
 split at hcd
 next c' d' cd' sl' ho =>
  refine ⟨fun M h _ p=>?_,fun M h X _=>?_,fun h tp dd its n sl X htp=>?_,fun {_ _ _ _ _ _} X p k=>exc_class q X p k⟩
  ·obtain ⟨o,vs,h1,h2,_⟩:=p
   rw [← h2]
   exact (Looks.ld h1).andThen .now
  ·intro A' Q' E' s' k z
   unfold isType loadHead
   exact wpAny_bind (wpAny_loadPart (k _ _ (X _ _ ho)) (wpAny_pure z))
  ·refine Bool.eq_false_iff.mpr fun z=>?_
   cases Value.ref.inj (beq_iff_eq.mp z)
   have:=X _ _ ho
   rw [htp] at this
   cases this
 next=>cases hcd
end
def cIsX (K:PySem.W.Frag):List V→Hp→VK→Prop:=fun vs H Q=>match vs with
 | [.ref a,.ty T]=>∃ C b,H a=some (xo a C)∧exq K C=true∧PySem.W.kitOne K (.ref C) (.type T)=some b∧Q (.bl b) H
 | [.ref a,.ref D]=>∃ C b,H a=some (xo a C)∧exq K C=true∧(PySem.W.kitOne K (.ref C) (.ref D)=some b∨∃ cs:List Addr,H D=some (.tup (cs.map V.ref))∧PySem.W.kitAny K (.ref C) (cs.map Value.ref)=some b)∧Q (.bl b) H
 | _=>False
theorem vals_refs:∀ {cs:List Addr}{us:List Value},Vals (cs.map V.ref) us→us=cs.map Value.ref
 | [],_,.nil=>rfl
 | c :: cs,_,.cons r t=>by
  rw [show _=Value.ref c from r,vals_refs t]
  rfl
theorem c_isX {X:Cx}:CallR X (.builtin "isinstance") (cIsX X.K):=by
 intro pins s σ H xs us Q I r h
 match xs,h with
 | [.ref a,.ty T],h =>
  obtain ⟨C,b,h1,h2,h3,h4⟩:=h
  obtain ⟨u,w',rfl,r1,r2⟩:=vals2 r
  cases r1;cases r2
  exact PySem.W.kia_one (kitx_exc h2) I.kIn (show ObjOk X.prog X.w H s.heap a (xo a C) from I.hok a _ h1).1 h3 (fun z=>nomatch z) fun tk=>⟨.bl b,H,I.tok tk,rfl,h4⟩
 | [.ref a,.ref D],h =>
  obtain ⟨C,b,h1,h2,h3,h4⟩:=h
  obtain ⟨u,w',rfl,r1,r2⟩:=vals2 r
  cases r1;cases r2
  have p:=(show ObjOk X.prog X.w H s.heap a (xo a C) from I.hok a _ h1).1
  rcases h3 with h3 | ⟨cs,h5,h3⟩
  ·exact PySem.W.kia_one (kitx_exc h2) I.kIn p h3 (fun z=>nomatch z) fun tk=>⟨.bl b,H,I.tok tk,rfl,h4⟩
  ·obtain ⟨_,its,rv,ob,t1,t2,n,t3⟩:=(show ObjOk X.prog X.w H s.heap D (.tup (cs.map V.ref)) from I.hok D _ h5)
   obtain ⟨c0,dd,dt,sl⟩:=ob
   cases (show c0=_ from t2)
   cases (show dt=_ from t3)
   rw [vals_refs rv] at t1
   exact PySem.W.kia_tup (kitx_exc h2) I.kIn p t1 h3 (fun z=>nomatch z) fun tk=>⟨.bl b,H,I.tok tk,rfl,h4⟩
structure RoomM (k:Nat) (A:Around):Prop where
 dp:A.depth+3 * k+5<recursionLimit
 un:A.units+16 * k+200<cLine
theorem Room.m {k:Nat}{A:Around} (r:Room k A):RoomM k A:=⟨r.dp,r.un⟩
theorem RoomM.mark {k:Nat}{A:Around} (r:RoomM k A) (v:Option Value):RoomM k (A.mark v):=⟨r.dp,r.un⟩
structure FnOkM (P:Program) (w:World) (K:PySem.W.Frag) (mg:Str→Option Value) (base:Heap) (CX:CXT) (k:Nat) (f:Addr) (fd:FuncData) (ps:List Str) (sp:Sp):Prop where
 len:∀ vs H Q E,sp vs H Q E→vs.length=ps.length
 run:∀ (A:Around) (outer:List Env) (s:Shared) (H:Hp) (args:Args) (us:List Value) (vs:List V) (Q:VK) (E:XK),RoomM k A→Env0 P w K mg base A outer s H→BindsTo s fd args (ps.zip us)→Vals vs us→sp vs H Q E →
  codeAny (model P w) A (.call (.ref f) args) (CR CX outer P w H s Q E) s
section
variable {X:Cx}{CX:CXT}{k:Nat}{f C:Addr}{fd:FuncData}{ps:List Str}{sp:Sp}{dvs:List V}{ds:List Value}{E:XK}{x m:Str}{p pos apos:Pos}{e o:Expr}{es:List Expr}{ta:TE}{t:TA}
end
theorem passF {P:Program}{w:World}{K:PySem.W.Frag}{mg:Str→Option Value}{base:Heap}{N:List Str}{qual:Str}{scope:Scope}{f:Addr}{cdv:Value}{A:Around}{outer:List Env}{s:Shared}{H:Hp}{E:XK} :
  PassesOwn (model (cxOf (CX1 P w) P w K mg base N qual scope f cdv A outer s H E).prog (cxOf (CX1 P w) P w K mg base N qual scope f cdv A outer s H E).w) (cxOf (CX1 P w) P w K mg base N qual scope f cdv A outer s H E).A (cxOf (CX1 P w) P w K mg base N qual scope f cdv A outer s H E).env (cxOf (CX1 P w) P w K mg base N qual scope f cdv A outer s H E).xe:=fun _ _ h=>wpAny_leaving_again (SameStack.refl _) h
def tMakeX (C:Addr) (sp:Sp) (dvs:List V) (Ex:St→XK) (t:TA):TE:=fun σ H Q=>tMake C sp dvs (Ex σ) t σ H Q
section
variable {X:Cx}{k:Nat}{f C:Addr}{fd:FuncData}{ps:List Str}{sp:Sp}{dvs:List V}{ds:List Value}{Ex:St→XK}{x:Str}{p pos:Pos}{e:Expr}{es:List Expr}{t:TA}
theorem run_makeX {pins:List (Addr × Obj)}{σ:St}{H:Hp}{s:Shared}{Q:VK}{us:List Value}{vs:List V} (hx:XOkS X Ex) (M:Mk X.K C f) (F:FnOk X.prog X.w X.K X.mg X.base (CX1 X.prog X.w) k f fd ps sp) (hr:Room (k+1) X.A) (hb:Binds X.K fd ps ds) (hd:Vals dvs ds)
  (I:Inv X pins σ H s) (r:Vals vs us)
  (h:∀ x dx,H x=none→H dx=none→dx≠x→sp (.ref x :: (vs ++ dvs)) (upd (upd H dx (.own x)) x (.ins C dx [])) (fun v H2=>v=.non∧Q (.ref x) H2) (Ex σ)) :
  wpAny (model X.prog X.w) X.A (call (.ref C) us) (EP X pins σ Q) X.xe s:=by
 have hq:=h (s.heap.objs.size+1) s.heap.objs.size (I.hok.fresh (Nat.le_succ _)) (I.hok.fresh (Nat.le_refl _)) (Nat.ne_of_lt (Nat.lt_succ_self _))
 have I2:=Inv.made (C:=C) I
 have r2:Vals (V.ref (s.heap.objs.size+1) :: (vs ++ dvs)) (Value.ref (s.heap.objs.size+1) :: (us ++ ds)):=.cons rfl (r.append hd)
 have hl:(Value.ref (s.heap.objs.size+1) :: us ++ ds).length=ps.length:=(r2.length.symm.trans (F.len _ _ _ _ hq))
 apply wpAny_call
 apply make_map (f:=f) I.kIn M.makes M.init (beq_iff_eq.mp M.fn)
 apply codeAny_mono (F.run _ X.stack _ _ ⟨Value.ref (s.heap.objs.size+1) :: us,[]⟩ (Value.ref (s.heap.objs.size+1) :: (us ++ ds)) _ _ (Ex σ) (hr.make C us []) (I2.env0.make C us []) (hb _ (Value.ref (s.heap.objs.size+1) :: us) I2.kIn hl) r2 hq)
 intro res s' hq'
 match res,hq' with
 | .ok (.ret u),hq' =>
  obtain ⟨v,H',I3,rv,ev,q3⟩:=I2.after hq'
  subst ev
  exact ⟨rv,⟨V.ref (s.heap.objs.size+1),H',I3,rfl,q3⟩⟩
 | .error er,hq' =>
  obtain ⟨e,C',H2,hr,I3,fl,q2⟩:=fly_of I2 hq'
  rw [hr]
  exact hx pins σ H2 s' e C' I3 fl q2
theorem pe_makeX (hx:XOkS X Ex) (M:Mk X.K C f) (F:FnOk X.prog X.w X.K X.mg X.base (CX1 X.prog X.w) k f fd ps sp) (hr:Room (k+1) X.A) (hg:Gl X x) (hm:X.mg x=some (.ref C)) (hb:Binds X.K fd ps ds) (hd:Vals dvs ds)
  (ha:PA X (e :: es) t) (hdb:(x == ("__debug__" : Str))=false:=by decide) (he:starEach (e :: es) X.env=(false,eval e X.env) :: starEach es X.env:=by rfl) (hpl:(backTo pos (starEach es X.env)).any (·.1)=false:=by rfl) :
  PE X (.Call (.Name x p) (e :: es) [] pos) (tMakeX C sp dvs Ex t):=fun pins s σ H Q I h =>
 wpAny_Call_Name_kw (ld_glob I hg hm (PySem.W.callWith_K (h₀:=X.base) I.ok.mod.kin M.kp (thn (ha pos pins s σ H _ I h) fun us s1 ⟨vs,H1,I1,r,q⟩=>⟨I1.kIn,run_makeX hx M F hr hb hd I1 r q⟩) he hpl) hdb)
end
theorem boot_ValueError:bootBuiltins "ValueError" = some (.type "ValueError"):=by first | rfl | decide +kernel | kernel_rfl
end L2
set_option maxHeartbeats 4000000
namespace DT
open PySem
section
variable {prog:Program}{w:World}{A:Around}{E:Value→Shared→Prop}{s:Shared}{d it:Addr}{od:Obj}{es:Array DictEntry}{ep i:Nat}
end
end DT
namespace L2
open PySem PySem.Spec PyProof.Rows
section
variable {X:Cx}{pins:List (Addr × Obj)}{σ:St}{H:Hp}{s:Shared}{d:Addr}{kvs:List (List Key × V)}{o:Obj}
theorem Inv.dT (I:Inv X pins σ H s) (e:Rd H d (.dT kvs)):kvs.length≤sizeLine∧(d == sysModules)=false∧∃ (xs:List (List Key × Addr × Value)) (od:Obj) (es:Array DictEntry) (ep:Nat),KT H kvs xs∧s.heap.get? d=some od∧od.ExactDict∧od.data=.dict es ep∧es.size=kvs.length ∧
  ∀ (i:Nat) p,kvs[i]? = some p→∃ (b:Addr) (h:Int) (v:Value),es[i]? = some ⟨h,.ref b,v⟩∧H b=some (.tup (p.1.map kV)):=by
 obtain ⟨z,y,xs,r,od,es,ep,h1,h2,h3,h4,h5⟩:=(show ObjOk X.prog X.w H s.heap d (.dT kvs) from rd_of I.hok e)
 have hl:kvs.length=xs.length:=Paired.length r
 have hs:es.size=kvs.length:=by rw [hl,← Array.length_toList,h4,List.length_map]
 refine ⟨z,y,xs,od,es,ep,r,h1,h2,h3,hs,fun i p hp=>?_⟩
 have at_:∀ {l:List (List Key × V)}{m:List (List Key × Addr × Value)}{j:Nat}{q:List Key × V},KT H l m→l[j]? = some q→∃ x,m[j]? = some x∧H x.2.1=some (.tup (q.1.map kV)):=by
  intro l m j q t
  induction t generalizing j with
  | nil=>intro z;simp at z
  | @cons a b as bs hq _ ih =>
   intro z
   cases j with
   | zero =>
    have:a=q:=by simpa using z
    subst this
    exact ⟨b,rfl,hq.2.1⟩
   | succ j=>exact ih (by simpa using z)
 obtain ⟨x,hx,hH⟩:=at_ r hp
 have:es[i]? = some (entryOfKey (tupleKind (mixKind X.prog X.w)) x):=by rw [← Array.getElem?_toList,h4,List.getElem?_map,hx];rfl
 exact ⟨x.2.1,_,_,this,hH⟩
end
section
variable {X:Cx}{pins:List (Addr × Obj)}{σ:St}{H:Hp}{s:Shared}
theorem FpOk.fl {b:Addr} (h:FpOk X pins H b):FlOk X pins H b:=⟨h.1,h.2.1,h.2.2.1,h.2.2.2.1.imp id fun z=>by
 cases e:X.s₀.heap.get? b with
 | none=>rfl
 | some o=>exact absurd (Heap.lt_size e) (Nat.not_lt.mpr z),h.2.2.2.2.1,h.2.2.2.2.2⟩
theorem Inv.adopt {e:Addr}{o:HO} (I:Inv X pins σ H s) (fe:FlOk X pins H e) (ok:ObjOk X.prog X.w (upd H e o) s.heap e o):Inv X pins σ (upd H e o) s:=by
 have ne:∀ {b u},H b=some u→b≠e:=fun {b u} h z=>by rw [z,fe.1] at h;cases h
 have up:∀ {b u},H b=some u→upd H e o b=some u:=fun {b u} h=>(upd_ne (ne h)).trans h
 refine ⟨I.ok,I.os,I.bare,⟨I.base.keep,I.base.slot,fun b o e1 n hx=>?_,I.base.there,fun b xs h=>up (I.base.tups b xs h),fun b o u h=>up (I.base.frzs b o u h),fun b ps h=>?_⟩,I.loc,I.cell,(upd_ne (Ne.symm fe.2.1)).trans I.free,fun x c h=>(upd_ne (fe.2.2.2.2.1 x c h)).trans (I.freeC x c h),fun p hp=>?_,fun b u h=>?_,I.len⟩
 ·refine (upd_ne fun z=>?_).trans (I.base.free b o e1 n hx)
  rcases fe.2.2.2.1 with y | y
  ·exact hx (z ▸ y)
  ·rw [z,y] at e1;cases e1
 ·obtain ⟨more,q⟩:=I.base.tbls b ps h
  exact ⟨more,up q⟩
 ·obtain ⟨a1,a2,a3⟩:=I.pin p hp
  exact ⟨a1,(upd_ne (fe.2.2.2.2.2 p hp)).trans a2,a3⟩
 ·by_cases hb:b=e
  ·rw [hb,upd_same] at h
   cases h
   rw [hb]
   exact ok
  ·rw [upd_ne hb] at h
   exact (I.hok b u h).stay (fun c v _ q=>q) (fun c q=>up q) fun c xs q=>up q
theorem Inv.turnedL {h':Heap}{t':Nat}{l:List Addr} (I:Inv X pins σ H s) (hl:∀ b∈l,FpOk X pins H b) (k:∀ b o,b ∉ l→s.heap.get? b=some o→h'.get? b=some o):Inv X pins σ H { s with heap:=h',toks:=t' }:=by
 have nit:∀ b u,H b=some u→b ∉ l:=fun b u e z=>by rw [(hl b z).1] at e;cases e
 refine I.step (g':=s.gens) (d':=s.drawn) (ch:=l) (fun b hb=>?_) (fun b o _ _ hc e _=>k b o hc e) (fun b o _ _ hc e _=>⟨o.slots,k b o hc e⟩) (fun _ _ _ _ n=>n)
  (fun b o hc e=>⟨o,k b o hc e⟩) (fun _ _ e=>e) (fun _ _ _ e=>e) (fun b ps e=>⟨#[],by rw [e];simp⟩) (fun m hm=>?_) (fun b u e=>?_) I.bare
 ·obtain ⟨f0,f1,f2,f3,f4,f5⟩:=hl b hb
  exact ⟨f3,f1,f4,f5⟩
 ·obtain ⟨o,es,ep,ho,r⟩:=hm
  exact ⟨o,es,ep,k _ o (fun z=>(hl _ z).2.1 rfl) ho,r⟩
 ·refine (I.hok b u e).stay (fun c v hc q=>k c v ?_ q) (fun _ q=>q) fun _ _ q=>q
  rcases hc with z | z
  ·rw [z];exact nit b u e
  ·exact nit c _ z
end
def Itz (K:PySem.W.Frag) (l1 l2:Addr):It :=
  ⟨fun i H=>∃ xs ys x y,SqL K H l1 xs∧SqL K H l2 ys∧xs[i]? = some x∧ys[i]? = some y,
   fun i H v H'=>∃ T x y,v=.ref T∧H T=none∧H'=upd H T (.tup [x,y])∧(∀ xs,SqL K H l1 xs→xs[i]? = some x)∧(∀ ys,SqL K H l2 ys→ys[i]? = some y),
   fun i H=>∃ xs ys,SqL K H l1 xs∧SqL K H l2 ys∧(xs.length≤i∨ys.length≤i)⟩
theorem turn_zip {P:Program}{w:World}{K:PySem.W.Frag}{elts:List Expr}{k:Nat}{pos:Pos} (l1 l2 z TI TO i1 i2:Addr) (ap:ZipApart z TI TO i1 i2 l1 l2) :
    Turn P w K (.Tuple elts k pos) (Itz K l1 l2) [z,TI,TO,i1,i2] z (fun i h=>IsZip h z TI TO .none∧IsPair h TI (.ref i1) (.ref i2)∧(∃ a b,IsPair h TO a b)∧h.IsListIter i1 l1 i∧h.IsListIter i2 l2 i) where
  mem:=by simp
  obj:=fun i h ⟨a1,a2,⟨x,y,a3⟩,a4,a5⟩ b hb=>by
    simp only [List.mem_cons,List.not_mem_nil,or_false] at hb
    rcases hb with rfl | rfl | rfl | rfl | rfl
    · exact ⟨_,a1,fun v z=>nomatch z⟩
    · exact ⟨_,a2,fun v z=>nomatch z⟩
    · exact ⟨_,a3,fun v z=>nomatch z⟩
    · obtain ⟨o,e,c,d⟩:=a4
      exact ⟨o,e,fun v z=>by rw [d] at z;cases z⟩
    · obtain ⟨o,e,c,d⟩:=a5
      exact ⟨o,e,fun v z=>by rw [d] at z;cases z⟩
  keep:=fun i h h' ⟨a1,a2,⟨x,y,a3⟩,a4,a5⟩ k=>⟨k _ (by simp) _ a1,k _ (by simp) _ a2,⟨x,y,k _ (by simp) _ a3⟩,a4.at fun o e=>k _ (by simp) o e,a5.at fun o e=>k _ (by simp) o e⟩
  item:=by
    intro X hP hw hK hc i pins s σ H E I hf st hg
    subst hP hw hK
    obtain ⟨xs,ys,x,y,hq1,hq2,hx,hy⟩:=hg
    obtain ⟨its1,rv1,p1,hz1⟩:=I.list hq1
    obtain ⟨its2,rv2,p2,hz2⟩:=I.list hq2
    obtain ⟨u1,hu1,ru1⟩:=rv1.get hx
    obtain ⟨u2,hu2,ru2⟩:=rv2.get hy
    obtain ⟨sa,sb,sc,sd,se⟩:=st
    have W:=WalksT.zip2 (prog:=X.prog) (w:=X.w) (I.ok.hd hc) z TI TO i1 i2 l1 l2 ap its1.toArray its2.toArray
    have n1:i<its1.length:=(List.getElem?_eq_some_iff.mp hu1).1
    have n2:i<its2.length:=(List.getElem?_eq_some_iff.mp hu2).1
    have hw:∀ b∈[z,TO,i1,i2],FpOk X pins H b:=fun b hb=>hf b (W.sub b hb |> fun _=>by simp only [List.mem_cons,List.not_mem_nil,or_false] at hb ⊢;rcases hb with h | h | h | h <;> simp [h])
    refine W.item i s _ _ (by simp;omega) ⟨sa,sb,sc,sd,se,p1.isList,p2.isList⟩ fun T vals h' tk hv hT it mid kp=>?_
    obtain ⟨x',y',e1,e2,rfl⟩:=hv
    have q1 : x' = u1 := by have : its1[i]? = some x' := by simpa using e1
                            rw [hu1] at this;cases this;rfl
    have q2 : y' = u2 := by have : its2[i]? = some y' := by simpa using e2
                            rw [hu2] at this;cases this;rfl
    subst q1 q2
    have aT:=W.apart i T h' mid
    refine ⟨.ref T,rfl,W.go elts k pos i T _ _ _ mid fun h'' st'' kp''=>?_⟩
    have I1:Inv X pins σ H { s with heap:=h'',toks:=tk }:=I.turnedL hw fun b o hb e=>kp'' b o hb (kp b o hb e)
    have fT:H T=none:=I.hok.fresh hT
    obtain ⟨oT,gT,cT,dT⟩:=it
    have ok:ObjOk X.prog X.w (upd H T (.tup [x,y])) h'' T (.tup [x,y]):=⟨by show 2≤sizeLine;decide,[x',y'],.cons ru1 (.cons ru2 .nil),show h''.IsTuple T #[x',y'] from ⟨oT,kp'' T oT aT gT,cT,dT⟩⟩
    obtain ⟨b1,b2,b3,b4,b5,_,_⟩:=st''
    refine ⟨.ref T,_,I1.adopt (s:={ s with heap:=h'',toks:=tk }) (I.fpOk hT fT).fl ok,rfl,⟨T,x,y,rfl,fT,rfl,fun zs hz=>by rw [I.list_inj hz hq1];exact hx,fun zs hz=>by rw [I.list_inj hz hq2];exact hy⟩,⟨b1,b2,b3,b4,b5⟩,fun b hb=>?_⟩
    have hbT:b≠T:=fun e=>by
      obtain ⟨ra,rb,sc⟩:=sc
      obtain ⟨o4,s4,_⟩:=sd
      obtain ⟨o5,s5,_⟩:=se
      have:∃ o,s.heap.get? b=some o:=by
        simp only [List.mem_cons,List.not_mem_nil,or_false] at hb
        rcases hb with rfl | rfl | rfl | rfl | rfl
        · exact ⟨_,sa⟩
        · exact ⟨_,sb⟩
        · exact ⟨_,sc⟩
        · exact ⟨_,s4⟩
        · exact ⟨_,s5⟩
      obtain ⟨o,ho⟩:=this
      have:=Heap.lt_size ho
      rw [e] at this
      exact absurd this (Nat.not_lt.mpr hT)
    rw [upd_ne hbT]
    exact (hf b hb).1
  done:=by
    intro X hP hw hK hc i pins s σ H E I hf st hg
    subst hP hw hK
    obtain ⟨xs,ys,hq1,hq2,hlen⟩:=hg
    obtain ⟨its1,rv1,p1,hz1⟩:=I.list hq1
    obtain ⟨its2,rv2,p2,hz2⟩:=I.list hq2
    obtain ⟨sa,sb,⟨a,b,sc⟩,sd,se⟩:=st
    have l1:=rv1.length
    have l2:=rv2.length
    have hw:∀ b∈[z,TO,i1,i2],FpOk X pins H b:=fun b hb=>hf b (by simp only [List.mem_cons,List.not_mem_nil,or_false] at hb ⊢;rcases hb with h | h | h | h <;> simp [h])
    refine wpAny_pyNext_zip_end (I.ok.hd hc) ap sa sb sc sd se p1.isList p2.isList (hlen.imp (fun h=>by simp;omega) fun h=>by simp;omega) fun h' kp=>⟨rfl,I.turnedL (t':=s.toks) hw fun b o hb e=>?_⟩
    simp only [List.mem_cons,List.not_mem_nil,or_false,not_or] at hb
    exact kp b o hb.1 hb.2.1 hb.2.2.1 hb.2.2.2 e
  self:=fun _ _ _ _ _ st h=>wpAny_pyIter_zip st.1 h
theorem zap (n l1 l2:Nat) (h1:l1<n) (h2:l2<n):ZipApart (n+4) (n+2) (n+3) n (n+1) l1 l2:=by
 constructor <;> first | exact Nat.ne_of_gt (by omega) | exact Nat.ne_of_lt (by omega)
def iZip (K:PySem.W.Frag) (ta:TA):TI:=fun σ H R=>ta σ H fun vs H1=>∃ a b:Addr,vs=[.ref a,.ref b]∧(∃ xs,SqL K H1 a xs)∧(∃ ys,SqL K H1 b ys)∧R (Itz K a b) H1
theorem pi_zip {X:Cx}{elts:List Expr}{k:Nat}{tp:Pos}{a b:Expr}{ta:TA}{p pos:Pos} (hg:Gl X "zip") (hm:X.mg "zip" = none) (ha:PA X [a,b] ta) (hs:starEach [a,b] X.env=[(false,eval a X.env),(false,eval b X.env)]:=by rfl) (hs2:starEach [b] X.env=[(false,eval b X.env)]:=by rfl) :
  PI X (.Tuple elts k tp) (.Call (.Name "zip" p) [a,b] [] pos) (iZip X.K ta):=by
 intro pins s σ H R I h
 refine Call_ (ld_blt I hg hm PyProof.Rows.boot_zip (PyProof.Rows.callWith_type1 (thn (ha pos pins s σ H _ I h) fun us s1 ⟨vs,H1,I1,r1,q1⟩=>?_) (by rw [hs,hs2]) (by rw [hs2];rfl)))
 obtain ⟨l1,l2,e,⟨xs,h1⟩,⟨ys,h2⟩,q⟩:=q1
 subst e
 obtain ⟨u1,u2,rfl,e1,e2⟩:=vals2 r1
 cases e1;cases e2
 obtain ⟨its1,rv1,p1,hz1⟩:=I1.list h1
 obtain ⟨its2,rv2,p2,hz2⟩:=I1.list h2
 refine call_zip_2 p1.isList p2.isList fun h' a1 a2 a3 a4 a5 hsz kp=>?_
 have n1:l1<s1.heap.objs.size:=by obtain ⟨o,e,_⟩:=p1.isList;exact Heap.lt_size e
 have n2:l2<s1.heap.objs.size:=by obtain ⟨o,e,_⟩:=p2.isList;exact Heap.lt_size e
 refine wpAny_pyIter_zip a1 ?_
 generalize hn:s1.heap.objs.size=n at *
 refine ⟨n+4,[n+4,n+2,n+3,n,n+1],_,_,H1,rfl,I1.kept (t':=s1.toks) kp,turn_zip l1 l2 (n+4) (n+2) (n+3) n (n+1) ?_,⟨a1,a2,⟨_,_,a3⟩,a4,a5⟩,fun b hb=>?_,q⟩
 ·exact zap n l1 l2 n1 n2
 ·have hb':n≤b:=by
   simp only [List.mem_cons,List.not_mem_nil,or_false] at hb
   rcases hb with rfl | rfl | rfl | rfl | rfl
   ·exact Nat.le_add_right n 4
   ·exact Nat.le_add_right n 2
   ·exact Nat.le_add_right n 3
   ·exact Nat.le_refl _
   ·exact Nat.le_add_right n 1
  exact I1.fpOk (by rw [hn];exact hb') (I1.hok.fresh (by rw [hn];exact hb'))
theorem tFor_zip {K:PySem.W.Frag}{ta:TA}{g:TG}{tb:TS}{D:Ends}{σ:St}{H:Hp}:tFor (iZip K ta) g tb D σ H=ta σ H (fun vs H1=>∃ a b:Addr,vs=[.ref a,.ref b]∧(∃ xs,SqL K H1 a xs)∧(∃ ys,SqL K H1 b ys)∧ForGoal (Itz K a b) g tb D σ H1):=rfl
section
variable {X:Cx}{tg:Expr}
end
end L2
set_option maxHeartbeats 4000000
namespace RR
open PySem
section
variable {prog:Program}{w:World}{A:Around}{E:Value→Shared→Prop}{s:Shared}
end
end RR
namespace L2
open PySem PySem.Spec PyProof.Rows
section
variable {X:Cx}{tg:Expr}
end
section
variable {K:PySem.W.Frag}{ta:TA}{g:TG}{tb:TS}{D:Ends}{σ:St}{H:Hp}
end
def CMulB (i j:Int):Prop:=IntMulOk i j
theorem o_mulB {X:Cx}:OpR X (binaryOp .Mult) (cI2c CMulB fun i j=>.int (i * j)):=(opI (C:=CMulB) (g:=fun i j=>i * j) fun _ _ _ _ _ _ _ hc q=>mul_int q hc).imp fun _ _ _ _ h=>cI2c_of h
end L2
set_option maxHeartbeats 4000000
namespace RV
open PySem
section
variable {prog:Program}{w:World}{A:Around}{E:Value→Shared→Prop}{s:Shared}
end
end RV
namespace L2
open PySem PySem.Spec PyProof.Rows
end L2
set_option maxHeartbeats 4000000
namespace L2
open PySem PySem.Spec PyProof.Rows PySem.W
theorem bits_script {ns:List Int} (h:WData.layableAll [WData.list (ns.map WData.int)]=true):∀ c∈ns,Builtin.Int.intBits c≤2 ^ 20:=fun c hc=>by
 have h1:=layableW_arg h _ (List.mem_singleton.mpr rfl)
 have h2:=layableW_item h1 (.int c) (List.mem_map.mpr ⟨c,hc,rfl⟩)
 rw [WData.layable.eq_1] at h2
 simp only [Bool.and_eq_true,decide_eq_true_eq] at h2
 have h3:=h2.2
 unfold WData.weight at h3
 refine Nat.le_trans (Nat.le_of_eq ?_) h3
 unfold Builtin.Int.intBits
 rfl
theorem walk_ofB {l:PySem.W.OpenLaw}{n k:Nat}{q:Program}{loose:List Str}{XP:(Str→Option Value)→Heap→Prop}{YP:World→Heap→Prop}{d:DefRec}{K:Params→PySem.W.Frag}{CX:World→CXT}{sp:World→Sp}{x:Str}
  (hn:l.most=some n) (hn2:n≤sizeLine) (hdf:d.params.defaults=[]) (hr:Room k callerA)
  (hY:∀ (w:World) (h:Heap),YP w h→(K w.params).In h)
  (F:∀ (w:World) (mg:Str→Option Value) (fa:Addr) (h:Heap),(K w.params).In h→h.Ns mainGlobals mg→mg d.name=some (.ref fa) →
   ∃ fd:FuncData,(∀ (s:Shared) (u:Value),BindsTo s fd ⟨[u],[]⟩ [(x,u)]) ∧
    ∀ base:Heap,(K w.params).In base→base.Ns mainGlobals mg→FnOk l.prog w (K w.params) mg base (CX w) k fa fd [x] (sp w))
  (hsp:∀ (w:World) (H:Hp) (a:Addr) (ns:List Int),ns.length≤n→(∀ c∈ns,Builtin.Int.intBits c≤2 ^ 20)→Only H→SqL (K w.params) H a (ns.map V.int)→sp w [.ref a] H (fun v _=>v=.bl true) fun _ _ _=>False)
  (hCX:∀ (w:World) (H:Hp) (s:Shared) (e:Value) (s':Shared),CX w [] H s (fun _ _ _=>False) e s'→False) :
  PySem.W.WalkO q loose XP YP l.row.toRowW d [] (fun f vs=>PySem.call f vs):=by
 intro w s₀ s₁ mg mb G Y fa o pm cd doc dV kV ho hd hcd hD hmg hg args vals as hpre hlay hrd hwl hlo
 obtain ⟨a,vs,ns,rfl,rfl,hobj,hints,hlen⟩:=Att.script_of hn hpre hwl
 have hb:=bits_script hlay
 have KX:=hY w _ Y
 obtain ⟨fd,hbd,hF⟩:=F w mg fa _ KX G.T.g hmg
 refine enter_call (codeAny_mono (law_call KX G.T.g G.T.b G.T.builtins G.T.nolimit hg hobj hints (Nat.le_trans hlen hn2) hr hF hbd (fun H hO hS=>hsp w H a ns hlen hb hO hS) fun H e s'=>hCX w H s₁ e s') fun r s' hq=>?_)
 obtain ⟨rfl,h2,h3,h4⟩:=hq
 exact ⟨.inl ⟨.bool true,.bool true,[],rfl,fun _=>rfl,.bool true,Att.post_true l _,fun _=>⟨List.Pairwise.nil,fun _ hm=>(nomatch hm)⟩⟩,h2,h3,h4⟩
end L2
set_option maxRecDepth 20000
namespace L2
open PySem PySem.Spec PyProof.Rows
variable {X:Cx}
structure PL (H:Hp) (p:Addr) (es:List En):Prop where
 lst:H p=some (.lst (es.map fun e=>V.ref e.1))
 tup:∀ e∈es,H e.1=some (.tup [.int e.2.1,.int e.2.2])
end L2
set_option maxHeartbeats 4000000
namespace DT
open PySem
end DT
namespace L2
open PySem PySem.Spec PyProof.Rows
end L2
namespace MF
section sw
variable (m:Nat) (nd:Nat→Bool)
def cnt:Nat→Nat
 | 0=>0
 | i+1=>cnt i+(if nd (m+1+i) then 1 else 0)
def bec (k:Nat):Nat:=if k≤m then k else 1+m+cnt m nd (k - m - 1)
def mt (t:Int):Int:=2 * (bec m nd (t / 2).toNat:Nat)+t % 2
def mp (p:Pr):Pr:=(mt m nd p.1,mt m nd p.2)
variable {m nd}
end sw
def mark (L:List Bool) (t:Int):List Bool:=L.set (t / 2).toNat true
def marks (L:List Bool) (ts:List Int):List Bool:=ts.foldl mark L
def look (m:Nat) (P:List Pr) (L:List Bool) (j:Nat):List Bool :=
 if L.getD (m+1+j) false then mark (mark L (P.getD j (0,0)).1) (P.getD j (0,0)).2 else L
def down (m:Nat) (P:List Pr) (L:List Bool):Nat→List Bool
 | 0=>L
 | i+1=>look m P (down m P L i) (P.length - 1 - i)
theorem mark_len (L:List Bool) (t:Int):(mark L t).length=L.length:=List.length_set ..
theorem marks_len:∀ (ts:List Int) (L:List Bool),(marks L ts).length=L.length
 | [],L=>rfl
 | t :: r,L=>(marks_len r (mark L t)).trans (mark_len L t)
theorem mark_get (L:List Bool) (t:Int) (k:Nat):(mark L t).getD k false=true ↔ L.getD k false=true∨(k=(t / 2).toNat∧k<L.length):=by
 unfold mark
 rw [List.getD_eq_getElem?_getD,List.getD_eq_getElem?_getD,List.getElem?_set]
 by_cases e:(t / 2).toNat=k
 ·rw [if_pos e]
  subst e
  by_cases l:(t / 2).toNat<L.length
  ·rw [if_pos l];simp [l]
  ·rw [if_neg l];simp [l]
 ·rw [if_neg e]
  constructor
  ·exact .inl
  ·rintro (h | ⟨h,_⟩)
   ·exact h
   ·exact absurd h.symm e
theorem marks_get:∀ (ts:List Int) (L:List Bool) (k:Nat),(marks L ts).getD k false=true ↔ L.getD k false=true∨((∃ t∈ts,k=(t / 2).toNat)∧k<L.length)
 | [],L,k=>by simp [marks]
 | t :: r,L,k=>by
  show (marks (mark L t) r).getD k false=true ↔ _
  rw [marks_get r (mark L t) k,mark_get,mark_len]
  simp only [List.mem_cons,exists_eq_or_imp]
  constructor
  ·rintro ((h | ⟨h,l⟩) | ⟨h,l⟩)
   ·exact .inl h
   ·exact .inr ⟨.inl h,l⟩
   ·exact .inr ⟨.inr h,l⟩
  ·rintro (h | ⟨h | h,l⟩)
   ·exact .inl (.inl h)
   ·exact .inl (.inr ⟨h,l⟩)
   ·exact .inr ⟨h,l⟩
end MF
namespace MF
section rs
variable (st:Nat→Bool)
def lookS (m:Nat) (P:List Pr) (L:List Bool) (j:Nat):List Bool :=
 if L.getD (m+1+j) false && !(st (m+1+j)) then mark (mark L (P.getD j (0,0)).1) (P.getD j (0,0)).2 else L
def downS (m:Nat) (P:List Pr) (L:List Bool):Nat→List Bool
 | 0=>L
 | i+1=>lookS st m P (downS m P L i) (P.length - 1 - i)
def reachL (m:Nat) (P:List Pr) (ts:List Int):List Bool:=downS st m P (marks (List.replicate (1+m+P.length) false) ts) P.length
def reach (m:Nat) (P:List Pr) (ts:List Int) (k:Nat):Bool:=(reachL st m P ts).getD k false
def reached (m:Nat) (P:List Pr) (ts:List Int):List Nat:=(List.range (1+m+P.length)).filter (reach st m P ts)
variable {st}
theorem lookS_len (m:Nat) (P:List Pr) (L:List Bool) (j:Nat):(lookS st m P L j).length=L.length:=by
 unfold lookS;split
 ·rw [mark_len,mark_len]
 ·rfl
theorem downS_len (m:Nat) (P:List Pr) (L:List Bool):∀ i,(downS st m P L i).length=L.length
 | 0=>rfl
 | i+1=>by unfold downS;rw [lookS_len,downS_len m P L i]
theorem reachL_len (m:Nat) (P:List Pr) (ts:List Int):(reachL st m P ts).length=1+m+P.length:=by
 unfold reachL;rw [downS_len,marks_len,List.length_replicate]
theorem lookS_get (m:Nat) (P:List Pr) (L:List Bool) (j k:Nat):(lookS st m P L j).getD k false=true ↔
  L.getD k false=true∨((L.getD (m+1+j) false=true∧st (m+1+j)=false)∧(k=((P.getD j (0,0)).1 / 2).toNat∨k=((P.getD j (0,0)).2 / 2).toNat)∧k<L.length):=by
 unfold lookS
 split
 ·rename_i h
  have h':L.getD (m+1+j) false=true∧st (m+1+j)=false:=by simpa using h
  rw [mark_get,mark_get,mark_len]
  constructor
  ·rintro ((a | ⟨a,b⟩) | ⟨a,b⟩)
   ·exact .inl a
   ·exact .inr ⟨h',.inl a,b⟩
   ·exact .inr ⟨h',.inr a,b⟩
  ·rintro (a | ⟨_,a | a,b⟩)
   ·exact .inl (.inl a)
   ·exact .inl (.inr ⟨a,b⟩)
   ·exact .inr ⟨a,b⟩
 ·rename_i h
  constructor
  ·exact .inl
  ·rintro (a | ⟨a,_⟩)
   ·exact a
   ·exact absurd (by simpa using a) h
theorem downS_keep (m:Nat) (P:List Pr) (L:List Bool) (k:Nat) {i:Nat}:∀ {i'},i≤i'→(downS st m P L i).getD k false=true→(downS st m P L i').getD k false=true
  | 0, h, a => by have : i = 0 := by omega
                  subst this;exact a
  | j+1,h,a=>by
    rcases Nat.lt_or_ge i (j+1) with l | l
    · exact (lookS_get ..).mpr (.inl (downS_keep m P L k (i':=j) (by omega) a))
    · have:i=j+1:=by omega
      subst this;exact a
theorem downS_high {m:Nat}{P:List Pr} (ho:Ok m P) (L:List Bool) {j:Nat} (hj:j<P.length):∀ {i},P.length - j≤i→i≤P.length→(downS st m P L i).getD (m+1+j) false=true→(downS st m P L (P.length - 1 - j)).getD (m+1+j) false=true
 | 0,h,_,a=>by omega
 | i+1,h,hi,a=>by
  have hp:P[P.length - 1 - i]? = some P[P.length - 1 - i]:=List.getElem?_eq_getElem (by omega)
  have o:=ho _ _ hp
  have e:P.getD (P.length - 1 - i) (0,0)=P[P.length - 1 - i]:=by rw [List.getD_eq_getElem?_getD,hp];rfl
  rcases (lookS_get ..).mp a with a | ⟨a,b,_⟩
  ·rcases Nat.lt_or_ge i (P.length - j) with l | l
   ·have:i=P.length - 1 - j:=by omega
    subst this;exact a
   ·exact downS_high ho L hj l (by omega) a
  ·rw [e] at b
   omega
theorem reach_ts {m:Nat}{P:List Pr}{ts:List Int}{t:Int} (ht:t∈ts) (h:0≤t∧t<2 * ((m:Int)+1+P.length)):reach st m P ts (t / 2).toNat=true :=
 downS_keep m P _ _ (i:=0) (Nat.zero_le _) ((marks_get ..).mpr (.inr ⟨⟨t,ht,rfl⟩,by rw [List.length_replicate];omega⟩))
theorem get_lt {α:Type}{P:List α}{j:Nat}{p:α} (hp:P[j]? = some p):j<P.length:=by
 rcases Nat.lt_or_ge j P.length with z | z
 ·exact z
 ·rw [List.getElem?_eq_none z] at hp;cases hp
theorem reach_clo {m:Nat}{P:List Pr} (ho:Ok m P) (ts:List Int) {j:Nat}{p:Pr} (hp:P[j]? = some p) (hn:reach st m P ts (m+1+j)=true) (hs:st (m+1+j)=false):reach st m P ts (p.1 / 2).toNat=true∧reach st m P ts (p.2 / 2).toNat=true:=by
 have hlt:=get_lt hp
 have a:=downS_high ho _ hlt (i:=P.length) (by omega) (Nat.le_refl _) hn
 have o:=ho _ _ hp
 have e:P.getD (P.length - 1 - (P.length - 1 - j)) (0,0)=p:=by rw [show P.length - 1 - (P.length - 1 - j)=j by omega,List.getD_eq_getElem?_getD,hp];rfl
 have key:∀ k,(k=(p.1 / 2).toNat∨k=(p.2 / 2).toNat)→reach st m P ts k=true:=by
  intro k hk
  refine downS_keep m P _ _ (i:=P.length - 1 - j+1) (by omega) ((lookS_get ..).mpr (.inr ⟨?_,?_,?_⟩))
  ·rw [show P.length - 1 - (P.length - 1 - j)=j by omega];exact ⟨a,hs⟩
  ·rw [e];exact hk
  ·rw [downS_len,marks_len,List.length_replicate];omega
 exact ⟨key _ (.inl rfl),key _ (.inr rfl)⟩
theorem reach_least {m:Nat}{P:List Pr}{ts:List Int} (S:Nat→Prop) (h1:∀ t∈ts,S (t / 2).toNat) (h2:∀ j p,P[j]? = some p→S (m+1+j)→st (m+1+j)=false→S (p.1 / 2).toNat∧S (p.2 / 2).toNat) {k:Nat} (h:reach st m P ts k=true):S k:=by
 have key:∀ i,i≤P.length→∀ k,(downS st m P (marks (List.replicate (1+m+P.length) false) ts) i).getD k false=true→S k:=by
  intro i
  induction i with
  | zero =>
   intro _ k a
   rcases (marks_get ..).mp a with a | ⟨⟨t,ht,rfl⟩,_⟩
   ·rw [List.getD_eq_getElem?_getD,List.getElem?_replicate] at a
    split at a <;> cases a
   ·exact h1 t ht
  | succ i ih =>
   intro hi k a
   have hp:P[P.length - 1 - i]? = some P[P.length - 1 - i]:=List.getElem?_eq_getElem (by omega)
   have e:P.getD (P.length - 1 - i) (0,0)=P[P.length - 1 - i]:=by rw [List.getD_eq_getElem?_getD,hp];rfl
   rcases (lookS_get ..).mp a with a | ⟨⟨a,a'⟩,b,_⟩
   ·exact ih (by omega) k a
   ·rw [e] at b
    have:=h2 _ _ hp (ih (by omega) _ a) a'
    rcases b with rfl | rfl
    ·exact this.1
    ·exact this.2
 exact key P.length (Nat.le_refl _) k h
theorem reach_out {m:Nat}{P:List Pr}{ts:List Int}{k:Nat} (h:1+m+P.length≤k):reach st m P ts k=false:=by
 unfold reach
 rw [List.getD_eq_getElem?_getD,List.getElem?_eq_none (by rw [reachL_len];exact h)]
 rfl
end rs
theorem tie2 (k:Nat):(2 * (k:Int) / 2).toNat=k:=by omega
def coneL (m:Nat) (P:List Pr) (n:Nat):List Nat:=reached (fun _=>false) m P [2 * (n:Int)]
theorem reach_self {st:Nat→Bool}{m:Nat}{P:List Pr}{n:Nat} (h:n<1+m+P.length):reach st m P [2 * (n:Int)] n=true:=by
 have:=reach_ts (st:=st) (m:=m) (P:=P) (ts:=[2 * (n:Int)]) (List.mem_singleton.mpr rfl) (by omega)
 rwa [tie2] at this
structure HungAt (st:Nat→Bool) (m:Nat) (P:List Pr) (n i:Nat) (S:Nat→Prop):Prop where
 self:S n
 low:∀ k,S k→reach st m P [2 * (n:Int)] k=true
 clo:∀ j p,P[j]? = some p→m+1+j≤n→n - (m+1+j)<i→S (m+1+j)→st (m+1+j)=false→S (p.1 / 2).toNat∧S (p.2 / 2).toNat
theorem HungAt.new {st:Nat→Bool}{m:Nat}{P:List Pr}{n:Nat}{S:Nat→Prop} (h:∀ k,S k ↔ k=n) (hn:n<1+m+P.length):HungAt st m P n 0 S :=
 ⟨(h n).mpr rfl,fun k hk=>by rw [(h k).mp hk];exact reach_self hn,fun j p _ _ hi=>absurd hi (Nat.not_lt_zero _)⟩
end MF
namespace MF
def rising (xs:List Int):Bool:=((List.range (xs.length - 1)).map fun j=>decide (xs.getD j 0<xs.getD (j+1) 0)).all id
def isStop (xs:List Int) (k:Nat):Bool:=decide ((k:Int)∈xs)
def isCut (m:Nat) (P:List Pr) (k:Int) (xs:List Int):Bool :=
 decide ((m:Int)<k∧k<1+m+P.length∧k ∉ xs) && rising xs && (xs.map fun x=>decide (x∈(coneL m P k.toNat).map fun j:Nat=>(j:Int))).all id &&
  ((reached (isStop xs) m P [2 * k]).map fun j=>decide (m<j) || decide ((j:Int)∈xs)).all id
theorem mem_reached {st:Nat→Bool}{m:Nat}{P:List Pr}{ts:List Int}{j:Nat}:j∈reached st m P ts ↔ reach st m P ts j=true:=by
 unfold reached
 rw [List.mem_filter,List.mem_range]
 constructor
 ·exact fun h=>h.2
 ·intro h
  refine ⟨?_,h⟩
  rcases Nat.lt_or_ge j (1+m+P.length) with l | l
  ·exact l
  ·rw [reach_out l] at h;cases h
def RisC (xs:List Int):Prop:=∀ j,j+1<xs.length→xs.getD j 0<xs.getD (j+1) 0
theorem rising_iff (xs:List Int):rising xs=true ↔ RisC xs:=by
 unfold rising RisC
 rw [List.all_map,List.all_eq_true]
 constructor
 ·intro h j hj
  have:=h j (List.mem_range.mpr (by omega))
  simpa using this
 ·intro h j hj
  rw [List.mem_range] at hj
  simpa using h j (by omega)
theorem ris_of {xs:List Int} (h:xs.Pairwise (· < ·)):RisC xs:=by
 intro j hj
 have a:xs.getD j 0=xs[j]:=by simp [List.getD,show j<xs.length by omega]
 have b:xs.getD (j+1) 0=xs[j+1]:=by simp [List.getD,hj]
 rw [a,b]
 exact List.pairwise_iff_getElem.mp h j (j+1) (by omega) hj (by omega)
def HangC (m:Nat) (P:List Pr) (k:Int) (xs:List Int):Prop:=∀ x∈xs,x∈(coneL m P k.toNat).map fun j:Nat=>(j:Int)
def StopC (m:Nat) (P:List Pr) (k:Int) (xs:List Int):Prop:=∀ j,reach (isStop xs) m P [2 * k] j=true→m<j∨(j:Int)∈xs
theorem isCut_iff (m:Nat) (P:List Pr) (k:Int) (xs:List Int):isCut m P k xs=true ↔ ((m:Int)<k∧k<1+m+P.length∧k ∉ xs)∧RisC xs∧HangC m P k xs∧StopC m P k xs:=by
 unfold isCut
 rw [Bool.and_eq_true,Bool.and_eq_true,Bool.and_eq_true,decide_eq_true_eq,rising_iff,List.all_map,List.all_eq_true,List.all_map,List.all_eq_true]
 unfold HangC StopC
 constructor
 ·rintro ⟨⟨⟨a,b⟩,c⟩,d⟩
  refine ⟨a,b,fun x hx=>by simpa using c x hx,fun j hj=>?_⟩
  have:=d j (mem_reached.mpr hj)
  simpa using this
 ·rintro ⟨a,b,c,d⟩
  refine ⟨⟨⟨a,b⟩,fun x hx=>by simpa using c x hx⟩,fun j hj=>?_⟩
  have:=d j (mem_reached.mp hj)
  simpa using this
theorem mem_cone {m:Nat}{P:List Pr}{n:Nat}{x:Int}:x∈(coneL m P n).map (fun j:Nat=>(j:Int)) ↔ 0≤x∧reach (fun _=>false) m P [2 * (n:Int)] x.toNat=true:=by
 rw [List.mem_map]
 constructor
 ·rintro ⟨j,hj,rfl⟩
  exact ⟨by omega,by rw [Int.toNat_natCast];exact mem_reached.mp hj⟩
 ·rintro ⟨h0,h⟩
  exact ⟨x.toNat,mem_reached.mpr h,by omega⟩
structure LowC (m:Nat) (P:List Pr) (n:Nat) (xs:List Int):Prop where
 ris:xs.Pairwise (· < ·)
 pos:∀ x∈xs,0<x∧x<n
 hang:∀ x∈xs,reach (fun _=>false) m P [2 * (n:Int)] x.toNat=true
 stop:StopC m P n xs
theorem LowC.cut {m:Nat}{P:List Pr}{n:Nat}{xs:List Int} (h:LowC m P n xs) (h1:m<n) (h2:n<1+m+P.length):isCut m P n xs=true:=by
 rw [isCut_iff]
 refine ⟨⟨by omega,by omega,fun z=>?_⟩,ris_of h.ris,fun x hx=>?_,h.stop⟩
 ·have:=h.pos _ z;omega
 ·rw [Int.toNat_natCast,mem_cone]
  exact ⟨by have:=h.pos x hx;omega,h.hang x hx⟩
theorem stop_step {m:Nat}{P:List Pr} (ho:Ok m P) {n:Nat}{xs ys:List Int}{j:Nat}{p:Pr} (hn:n<1+m+P.length) (hp:P[j]? = some p) (hs:StopC m P n xs)
  (hy:∀ x:Int,(x∈xs∧x≠((m+1+j:Nat):Int))∨x=p.1 / 2∨x=p.2 / 2→x∈ys):StopC m P n ys:=by
 intro k hk
 have o:=ho j p hp
 have key:=reach_least (st:=isStop ys) (S:=fun k=>reach (isStop xs) m P [2 * (n:Int)] k=true∨(k:Int)=p.1 / 2∨(k:Int)=p.2 / 2) ?_ ?_ hk
 ·rcases key with h | h
  ·rcases hs k h with h | h
   ·exact .inl h
   ·by_cases e:(k:Int)=((m+1+j:Nat):Int)
    ·left;omega
    ·exact .inr (hy _ (.inl ⟨h,e⟩))
  ·exact .inr (hy _ (.inr h))
 ·intro t ht
  rw [List.mem_singleton] at ht
  subst ht
  left
  exact reach_ts (List.mem_singleton.mpr rfl) (by omega)
 ·intro i q hq hS hst
  have oi:=ho i q hq
  have nst:((m+1+i:Nat):Int) ∉ ys:=by unfold isStop at hst;simpa using hst
  rcases hS with h | h
  ·by_cases hx:((m+1+i:Nat):Int)∈xs
   ·have e:i=j:=by
     by_cases e:((m+1+i:Nat):Int)=((m+1+j:Nat):Int)
     ·omega
     ·exact absurd (hy _ (.inl ⟨hx,e⟩)) nst
    subst e
    rw [hp] at hq
    cases hq
    exact ⟨.inr (.inl (by omega)),.inr (.inr (by omega))⟩
   ·have hst':isStop xs (m+1+i)=false:=by unfold isStop;simpa using hx
    have:=reach_clo ho [2 * (n:Int)] hq h hst'
    exact ⟨.inl this.1,.inl this.2⟩
  ·exact absurd (hy _ (.inr h)) nst
theorem LowC.first {m:Nat}{P:List Pr} (ho:Ok m P) {j:Nat}{p:Pr} (hp:P[j]? = some p):LowC m P (m+1+j) [p.1 / 2,p.2 / 2]:=by
 have o:=ho j p hp
 have hlt:=get_lt hp
 have rc:=reach_clo (st:=fun _=>false) ho [2 * ((m+1+j:Nat):Int)] hp (reach_self (by omega)) rfl
 refine ⟨?_,?_,?_,?_⟩
 ·rw [List.pairwise_cons]
  refine ⟨fun y hy=>?_,List.pairwise_singleton ..⟩
  rw [List.mem_singleton] at hy
  subst hy
  omega
 ·intro x hx
  simp only [List.mem_cons,List.not_mem_nil,or_false] at hx
  rcases hx with rfl | rfl <;> omega
 ·intro x hx
  simp only [List.mem_cons,List.not_mem_nil,or_false] at hx
  rcases hx with rfl | rfl
  ·exact rc.1
  ·exact rc.2
 ·have h0:StopC m P (m+1+j:Nat) [((m+1+j:Nat):Int)]:=by
   intro k hk
   have:=reach_least (st:=isStop [((m+1+j:Nat):Int)]) (S:=fun k=>k=m+1+j) ?_ ?_ hk
   ·left;omega
   ·intro t ht
    rw [List.mem_singleton] at ht
    subst ht
    rw [tie2]
   ·intro i q hq hS hst
    unfold isStop at hst
    simp [hS] at hst
  refine stop_step ho (by omega) hp h0 ?_
  rintro x (⟨hx,hne⟩ | rfl | rfl)
  ·rw [List.mem_singleton] at hx
   exact absurd hx hne
  ·exact List.mem_cons_self ..
  ·exact List.mem_cons_of_mem _ (List.mem_singleton.mpr rfl)
def stopB (m:Nat) (P:List Pr) (k:Int) (xs:List Int):Bool:=((reached (isStop xs) m P [2 * k]).map fun j=>decide (m<j) || decide ((j:Int)∈xs)).all id
theorem stopB_iff (m:Nat) (P:List Pr) (k:Int) (xs:List Int):stopB m P k xs=true ↔ StopC m P k xs:=by
 unfold stopB StopC
 rw [List.all_map,List.all_eq_true]
 constructor
 ·intro h j hj
  have:=h j (mem_reached.mpr hj)
  simpa using this
 ·intro h j hj
  have:=h j (mem_reached.mp hj)
  simpa using this
structure WalkC (m:Nat) (P:List Pr) (n:Nat) (xs:List Int) (ws:List Nat) (c:Nat):Prop where
 nd:ws.Nodup
 self:n∈ws
 rch:∀ w∈ws,reach (isStop xs) m P [2 * (n:Int)] w=true
 out:∀ w∈ws,(w:Int) ∉ xs
 le:∀ w∈ws,w≤n
 high:∀ (i:Nat) w,i<c→ws[i]? = some w→m<w
 clo:∀ (i:Nat) j p,i<c→ws[i]? = some (m+1+j)→P[j]? = some p→(p.1 / 2∈xs∨(p.1 / 2).toNat∈ws)∧(p.2 / 2∈xs∨(p.2 / 2).toNat∈ws)
theorem WalkC.first {m:Nat}{P:List Pr}{n:Nat}{xs:List Int} (hn:n<1+m+P.length) (hx:(n:Int) ∉ xs):WalkC m P n xs [n] 0 :=
 ⟨by simp,List.mem_singleton.mpr rfl,fun w hw=>by rw [List.mem_singleton] at hw;subst hw;exact reach_self hn,fun w hw=>by rw [List.mem_singleton] at hw;subst hw;exact hx,fun w hw=>by rw [List.mem_singleton] at hw;omega,
  fun i w hi=>absurd hi (Nat.not_lt_zero _),fun i j p hi=>absurd hi (Nat.not_lt_zero _)⟩
theorem WalkC.bad {m:Nat}{P:List Pr}{n:Nat}{xs:List Int}{ws:List Nat}{c w:Nat} (h:WalkC m P n xs ws c) (hw:w∈ws) (hm:w≤m):stopB m P n xs=false:=by
 cases e:stopB m P n xs with
 | false=>rfl
 | true =>
  rcases (stopB_iff ..).mp e w (h.rch w hw) with z | z
  ·omega
  ·exact absurd z (h.out w hw)
end MF
set_option maxHeartbeats 4000000
namespace L2
open PySem PySem.Spec PyProof.Rows
theorem tComp_zip {K:PySem.W.Frag}{ta:TA}{k:Nat}{sel:List Nat}{g:TG}{tt:TT}{el:TE}{σ:L2.St}{H:Hp}{Q:VK}:tComp (iZip K ta) k sel g tt el σ H Q=ta σ H (fun vs H1=>∃ a b:Addr,vs=[.ref a,.ref b]∧(∃ xs,SqL K H1 a xs)∧(∃ ys,SqL K H1 b ys)∧CompG (Itz K a b) σ k sel g tt el Q H1):=rfl
theorem comp_zG {K:PySem.W.Frag}{σ:L2.St}{k:Nat}{sel:List Nat}{g:TG}{tt:TT}{te:TE}{Q:VK}{H:Hp}{p a b:Addr}{xs ys:List V}{n:Nat} (hn:n=min xs.length ys.length) (Sv:L2.St→Prop) (Pv:Nat→Hp→Prop) (hS:Sv (cst σ k sel)) (h0:Pv 0 (upd H p (.lst [])))
  (hk:∀ i H2,i≤n→Pv i H2→SqL K H2 a xs∧SqL K H2 b ys)
  (step:∀ i x y t σ2 H2 (R:L2.St→Hp→Prop),xs[i]? = some x→ys[i]? = some y→H2 t=none→Sv σ2→Pv i H2→(∀ σ' H',Sv σ'→Pv (i+1) H'→R σ' H')→g (.ref t) σ2 (upd H2 t (.tup [x,y])) fun σ4 H4=>tt σ4 H4 fun bb H5 =>
   if bb=true then te σ4 H5 fun v H6=>∃ zs,H6 p=some (.lst zs)∧zs.length<sizeLine∧R σ4 (upd H6 p (.lst (zs ++ [v]))) else R σ4 H5)
  (hQ:∀ H2,Pv n H2→Q (.ref p) H2):CompGoal (Itz K a b) σ k sel g tt te Q H p:=by
 refine ⟨fun i m σ2 H2=>i≤n∧m=n - i+1∧Sv σ2∧Pv i H2,⟨n+1,Nat.zero_le _,rfl,hS,h0⟩,?_⟩
 rintro i m σ2 H2 ⟨hi,rfl,hs,hP⟩
 obtain ⟨s1,s2⟩:=hk i H2 hi hP
 by_cases hlt:i<n
 ·right
  have h1:i<xs.length:=by omega
  have h2:i<ys.length:=by omega
  refine ⟨⟨xs,ys,xs[i],ys[i],s1,s2,List.getElem?_eq_getElem h1,List.getElem?_eq_getElem h2⟩,?_⟩
  rintro x H3 ⟨T,x1,y1,e1,e2,e3,e4,e5⟩
  subst e1 e3
  exact step i x1 y1 T σ2 H2 (fun σ' H'=>∃ m',m'<n - i+1∧(i+1≤n∧m'=n - (i+1)+1∧Sv σ'∧Pv (i+1) H')) (e4 xs s1) (e5 ys s2) e2 hs hP fun σ' H' g1 g2=>⟨_,by omega,hlt,rfl,g1,g2⟩
 ·left
  have e:i=n:=by omega
  subst e
  exact ⟨⟨xs,ys,s1,s2,by omega⟩,hQ H2 hP⟩
theorem inV_ints (x:Int) (xs:List Int):inV (.int x) (xs.map V.int)=decide (x∈xs):=by
 unfold inV
 rw [List.any_map,Bool.eq_iff_iff,List.any_eq_true,decide_eq_true_eq]
 constructor
 ·rintro ⟨y,hy,e⟩
  have:y=x:=by
   first
   | (simp only [Function.comp,eqV,decide_eq_true_eq] at e;exact e)
   | (simp only [Function.comp,eqV,decide_eq_true_eq] at e;exact e.symm)
   | (simp [Function.comp,eqV] at e;omega)
  exact this ▸ hy
 ·intro h
  exact ⟨x,h,by simp [Function.comp,eqV]⟩
theorem flat_ints (xs:List Int):(xs.map V.int).all flatV=true:=by
 rw [List.all_map,List.all_eq_true]
 intro x _
 rfl
theorem val_merge (ks:List Int) (j:Int):∀ (acc:List (Key × V)),(valV ((ks.map fun k=>((.inl k:Key),V.bl true)).foldl (fun acc kv=>putK acc kv.1 kv.2) acc) (.inl j)).isSome=((valV acc (.inl j)).isSome || decide (j∈ks)):=by
 induction ks with
 | nil=>intro acc;simp
 | cons k r ih =>
  intro acc
  rw [List.map_cons,List.foldl_cons,ih,valV_put]
  by_cases e:j=k
  ·subst e
   simp
  ·rw [if_neg (fun z=>e (Sum.inl.inj z))]
   simp [e]
theorem tComp_rng2 {ta:TA}{k:Nat}{sel:List Nat}{g:TG}{tt:TT}{el:TE}{σ:L2.St}{H:Hp}{Q:VK}:tComp (iRng2 ta) k sel g tt el σ H Q=ta σ H (fun vs H1=>∃ i j:Int,vs=[.int i,.int j]∧(-(2 ^ 62)≤i∧i<2 ^ 62 ∧ -(2 ^ 62)≤j∧j<2 ^ 62)∧CompG (Itr i (j - i).toNat) σ k sel g tt el Q H1):=rfl
end L2
namespace SS
open PySem
def Ris (xs:Array Nat):Prop:=∀ i j,i<j→j<xs.size→xs.getD i 0<xs.getD j 0
theorem getD_any {xs:Array Nat}{i:Nat} (h:i<xs.size) (d d':Nat):xs.getD i d=xs.getD i d':=by
 simp [Array.getD,h]
theorem go_spec {xs:Array Nat} (hr:Ris xs) (j:Nat):∀ (fuel lo hi:Nat),hi - lo≤fuel→lo≤hi→hi≤xs.size→(∀ i,i<lo→xs.getD i 0<j)→(∀ i,hi≤i→i<xs.size→j≤xs.getD i 0) →
  SetTable.below.go xs j fuel lo hi≤xs.size∧(∀ i,i<SetTable.below.go xs j fuel lo hi→xs.getD i 0<j)∧(∀ i,SetTable.below.go xs j fuel lo hi≤i→i<xs.size→j≤xs.getD i 0)
 | 0,lo,hi,hf,hlh,hs,h1,h2=>by
  have:lo=hi:=by omega
  subst this
  exact ⟨hs,h1,h2⟩
 | fuel+1,lo,hi,hf,hlh,hs,h1,h2=>by
  unfold SetTable.below.go
  by_cases hl:lo<hi
  ·rw [if_pos hl]
   dsimp only
   have hm:(lo+hi) / 2<xs.size:=by omega
   rw [getD_any hm j 0]
   by_cases hc:xs.getD ((lo+hi) / 2) 0<j
   ·rw [if_pos hc]
    refine go_spec hr j fuel _ _ (by omega) (by omega) hs (fun i hi'=>?_) h2
    rcases Nat.lt_or_ge i ((lo+hi) / 2) with l | l
    ·have:=hr i _ l hm
     omega
    ·have:i=(lo+hi) / 2:=by omega
     subst this
     exact hc
   ·rw [if_neg hc]
    refine go_spec hr j fuel _ _ (by omega) (by omega) (by omega) h1 (fun i hi' hi2=>?_)
    rcases Nat.lt_or_ge ((lo+hi) / 2) i with l | l
    ·have:=hr _ i l hi2
     omega
    ·have:i=(lo+hi) / 2:=by omega
     subst this
     omega
  ·rw [if_neg hl]
   have:lo=hi:=by omega
   subst this
   exact ⟨hs,h1,h2⟩
theorem below_spec {xs:Array Nat} (hr:Ris xs) (j:Nat):SetTable.below xs j≤xs.size∧(∀ i,i<SetTable.below xs j→xs.getD i 0<j)∧(∀ i,SetTable.below xs j≤i→i<xs.size→j≤xs.getD i 0) :=
 go_spec hr j xs.size 0 xs.size (by omega) (by omega) (Nat.le_refl _) (fun i h=>absurd h (Nat.not_lt_zero _)) (fun i h1 h2=>absurd h2 (by omega))
theorem insert_get {xs:Array Nat}{p x:Nat} (hp:p≤xs.size) (i:Nat):(SetTable.insertAt xs p x).getD i 0=if i<p then xs.getD i 0 else if i=p then x else xs.getD (i - 1) 0:=by
 have hl:(SetTable.insertAt xs p x).toList=xs.toList.take p ++ x :: xs.toList.drop p:=by
  unfold SetTable.insertAt
  simp
  exact List.take_of_length_le (by simp)
 have key:∀ (ys:Array Nat) k,ys.getD k 0=ys.toList.getD k 0:=fun ys k=>by
  simp [Array.getD,List.getD]
  split <;> simp_all
 rw [key,key,key,hl]
 have hlen:(xs.toList.take p).length=p:=by rw [List.length_take,Array.length_toList];omega
 by_cases h1:i<p
 ·rw [if_pos h1]
  rw [List.getD_eq_getElem?_getD,List.getElem?_append_left (by omega),List.getElem?_take,if_pos h1,← List.getD_eq_getElem?_getD]
 ·rw [if_neg h1]
  rw [List.getD_eq_getElem?_getD,List.getElem?_append_right (by omega),hlen]
  by_cases h2:i=p
  ·subst h2
   rw [if_pos rfl,Nat.sub_self]
   rfl
  ·rw [if_neg h2]
   obtain ⟨d,rfl⟩:∃ d,i=p+1+d:=⟨i - p - 1,by omega⟩
   rw [show p+1+d - p=d+1 by omega,List.getElem?_cons_succ,List.getElem?_drop,← List.getD_eq_getElem?_getD,show p+1+d - 1=p+d by omega]
theorem insert_size {α:Type} (xs:Array α) (p:Nat) (x:α):(SetTable.insertAt xs p x).size=xs.size+1:=by
 have:=(SetTable.insertAt_perm xs p x).length_eq
 rw [Array.length_toList,Array.length_toList,Array.size_push] at this
 exact this
theorem ris_insert {xs:Array Nat} (hr:Ris xs) {j:Nat} (hn:xs[SetTable.below xs j]? ≠ some j):Ris (SetTable.insertAt xs (SetTable.below xs j) j):=by
 obtain ⟨b1,b2,b3⟩:=below_spec hr j
 have b4:∀ i,SetTable.below xs j≤i→i<xs.size→j<xs.getD i 0:=by
  intro i h1 h2
  rcases Nat.lt_or_ge (SetTable.below xs j) i with l | l
  ·have a:=b3 _ (Nat.le_refl _) (by omega)
   have b:=hr _ i l h2
   omega
  ·have e:i=SetTable.below xs j:=by omega
   subst e
   have a:=b3 _ (Nat.le_refl _) h2
   have:xs.getD (SetTable.below xs j) 0≠j:=fun z=>hn (by rw [Array.getElem?_eq_getElem h2];exact congrArg some ((by simp [Array.getD,h2]:xs[SetTable.below xs j]=xs.getD (SetTable.below xs j) 0).trans z))
   omega
 generalize SetTable.below xs j=p at *
 intro a b hab hb
 rw [insert_size] at hb
 rw [insert_get b1,insert_get b1]
 by_cases a1:a<p
 ·rw [if_pos a1]
  by_cases c1:b<p
  ·rw [if_pos c1]
   exact hr a b hab (by omega)
  ·rw [if_neg c1]
   by_cases c2:b=p
   ·rw [if_pos c2]
    exact b2 a a1
   ·rw [if_neg c2]
    exact hr a (b - 1) (by omega) (by omega)
 ·rw [if_neg a1]
  by_cases a2:a=p
  ·rw [if_pos a2,if_neg (by omega),if_neg (by omega)]
   exact b4 (b - 1) (by omega) (by omega)
  ·rw [if_neg a2,if_neg (by omega),if_neg (by omega)]
   exact hr (a - 1) (b - 1) (by omega) (by omega)
theorem slot_free {t:SetTable}{j:Nat} (h:t.slot j=.empty∨t.slot j=.dummy):t.place[SetTable.below t.place j]? ≠ some j:=by
 intro e
 unfold SetTable.slot at h
 dsimp only at h
 rw [e] at h
 simp at h
theorem probe_free {t:SetTable}{f:Nat→Int}{h:Int}:∀ (fuel:Nat) (p:SetTable.Probe) {j:Nat}{d:Option Nat},(∀ x,p.dummy=some x→t.slot x=.dummy)→SetTable.probe.go t f h fuel p=some (.empty j d)→t.slot j=.empty∧∀ x,d=some x→t.slot x=.dummy
 | 0,p,j,d,_,e=>by simp [SetTable.probe.go] at e
 | fuel+1,p,j,d,hd,e=>by
  unfold SetTable.probe.go at e
  have adv:∀ q:SetTable.Probe,(t.advance q).dummy=q.dummy:=fun q=>by
   unfold SetTable.advance
   split <;> rfl
  cases hs:t.slot p.j with
  | empty =>
   rw [hs] at e
   simp only [Option.some.injEq,SetTable.Met.empty.injEq] at e
   obtain ⟨rfl,rfl⟩:=e
   exact ⟨hs,hd⟩
  | dummy =>
   rw [hs] at e
   refine probe_free fuel _ (fun x hx=>?_) e
   rw [adv] at hx
   simp only [Option.some.injEq] at hx
   subst hx
   exact hs
  | live i =>
   rw [hs] at e
   dsimp only at e
   split at e
   ·simp at e
   ·refine probe_free fuel _ (fun x hx=>?_) e
    rw [adv] at hx
    exact hd x hx
theorem freeSlot_free {t:SetTable}{h:Int}{j:Nat}{b:Bool} (e:t.freeSlot h=some (j,b)):t.place[SetTable.below t.place j]? ≠ some j:=by
 unfold SetTable.freeSlot at e
 cases hp:t.probe (fun _=>h+1) h (t.probeStart h) with
 | none=>rw [hp] at e;simp at e
 | some m =>
  rw [hp] at e
  cases m with
  | candidate a b c=>simp at e
  | empty j' d =>
   simp only [Option.some.injEq,Prod.mk.injEq] at e
   obtain ⟨e1,_⟩:=e
   have:=probe_free _ _ (fun x hx=>by simp [SetTable.probeStart] at hx) hp
   cases d with
   | none =>
    simp at e1
    subst e1
    exact slot_free (.inl this.1)
   | some x =>
    simp at e1
    subst e1
    exact slot_free (.inr (this.2 _ rfl))
structure Good (l:Bool) (t:SetTable):Prop where
 ris:Ris t.place
 led:t.led=l
theorem ris_range (n:Nat):Ris (Array.range n):=by
 intro i j hij hj
 rw [Array.size_range] at hj
 simp [Array.getD,hj,show i<n by omega]
 exact hij
theorem Good.standIn {l:Bool}{t:SetTable} (h:Good l t) (n:Nat):Good l (t.standIn n):=⟨ris_range n,h.led⟩
theorem Good.layNew {l:Bool}{t:SetTable} (h:Good l t) (es:Array (Int × Value)) (k:Int) (x:Value):Good l (PySem.layNew t es k x).2.1:=by
 unfold PySem.layNew
 cases e:t.freeSlot k with
 | none=>exact h.standIn _
 | some p =>
  obtain ⟨j,b⟩:=p
  dsimp only
  unfold SetTable.orStandIn
  have g:Good l (t.put j).1:=⟨ris_insert h.ris (freeSlot_free e),h.led⟩
  split
  ·exact g
  ·exact g.standIn _
theorem Good.relay {l:Bool}{t:SetTable} (h:Good l t) (es:Array (Int × Value)) (wanted:Nat):Good l (PySem.relayAll t es wanted).2.1:=by
 unfold PySem.relayAll
 cases e:t.relaid (es.map (·.1)) wanted with
 | none=>exact h.standIn _
 | some p =>
  obtain ⟨t',o⟩:=p
  dsimp only
  split
  ·unfold SetTable.relaid SetTable.laid at e
   cases ho:SetTable.layClean (SetTable.sizeAbove wanted - 1) (es.map (·.1)) with
   | none=>rw [ho] at e;simp at e
   | some owner =>
    rw [ho] at e
    simp only [Option.bind_eq_bind,Option.bind_some,Option.pure_def,Option.some.injEq,Prod.mk.injEq] at e
    obtain ⟨rfl,_⟩:=e
    refine ⟨?_,h.led⟩
    have key:(((List.range (SetTable.sizeAbove wanted - 1+1)).filterMap fun j=>(owner.getD j none).map (j,·)).map (·.1)).Pairwise (· < ·):=by
     rw [List.map_filterMap]
     refine List.Pairwise.filterMap _ (fun a a' haa b hb b' hb'=>?_) List.pairwise_lt_range
     simp only [Option.map_map,Option.map_eq_some_iff] at hb hb'
     obtain ⟨_,_,rfl⟩:=hb
     obtain ⟨_,_,rfl⟩:=hb'
     exact haa
    intro i j hij hj
    rw [List.size_toArray] at hj
    have:=List.pairwise_iff_getElem.mp key i j (by omega) hj hij
    simp only [Array.getD,List.size_toArray,hj,show i<_ from Nat.lt_trans hij hj,dif_pos]
    exact this
  ·exact h.standIn _
end SS
set_option maxHeartbeats 4000000
namespace SS
open PySem
section
variable {prog:Program}{w:World}{A:Around}{E:Value→Shared→Prop}{s:Shared}
def Ent (prog:Program) (w:World) (e:Int × Value) (k:Int):Prop:=(intKind prog w).is k e.2=true∧e.1=(intKind prog w).hash k∧e.2.scannable=true
inductive All2 {α β:Type} (R:α→β→Prop):List α→List β→Prop
 | nil:All2 R [] []
 | cons {a b as bs}:R a b→All2 R as bs→All2 R (a :: as) (b :: bs)
theorem All2.elems {es:List (Int × Value)}{ks:List Int} (h:All2 (Ent prog w) es ks):ElemsOf (intKind prog w) es:=by
 induction h with
 | nil=>intro e he;simp at he
 | cons h _ ih =>
  intro e he
  rcases List.mem_cons.mp he with rfl | he
  ·exact ⟨⟨_,h.1,h.2.1⟩,h.2.2⟩
  ·exact ih e he
theorem All2.perm {α β:Type}{R:α→β→Prop}{as as':List α} (p:as'.Perm as):∀ {bs:List β},All2 R as bs→∃ bs',All2 R as' bs'∧bs'.Perm bs:=by
 induction p with
 | nil=>intro bs h;exact ⟨bs,h,.refl _⟩
 | cons x _ ih =>
  intro bs h
  cases h with
  | cons h t=>obtain ⟨bs',g,q⟩:=ih t;exact ⟨_ :: bs',.cons h g,q.cons _⟩
 | swap x y l =>
  intro bs h
  cases h with
  | cons h t=>cases t with | cons h' t'=>exact ⟨_,.cons h' (.cons h t'),.swap _ _ _⟩
 | trans _ _ ih1 ih2 =>
  intro bs h
  obtain ⟨b1,g1,q1⟩:=ih2 h
  obtain ⟨b2,g2,q2⟩:=ih1 g1
  exact ⟨b2,g2,q2.trans q1⟩
theorem All2.snoc {α β:Type}{R:α→β→Prop}{a:α}{b:β} (h:R a b):∀ {as:List α}{bs:List β},All2 R as bs→All2 R (as ++ [a]) (bs ++ [b])
 | _,_,.nil=>.cons h .nil
 | _,_,.cons g t=>.cons g (t.snoc h)
theorem All2.mem {es:List (Int × Value)}{ks:List Int} (h:All2 (Ent prog w) es ks) (k:Int):k∈ks ↔ ∃ e∈es,(intKind prog w).is k e.2=true:=by
 induction h with
 | nil=>simp
 | @cons e k' es ks h _ ih =>
  rw [List.mem_cons,ih]
  constructor
  ·rintro (rfl | ⟨e',he,hk⟩)
   ·exact ⟨e,List.mem_cons_self ..,h.1⟩
   ·exact ⟨e',List.mem_cons_of_mem _ he,hk⟩
  ·rintro ⟨e',he,hk⟩
   rcases List.mem_cons.mp he with rfl | he
   ·exact .inl ((intKind prog w).inj _ _ _ hk h.1)
   ·exact .inr ⟨e',he,hk⟩
theorem All2.len {α β:Type}{R:α→β→Prop}{as:List α}{bs:List β} (h:All2 R as bs):as.length=bs.length:=by
 induction h with
 | nil=>rfl
 | cons _ _ ih=>simp [ih]
def GS (prog:Program) (w:World) (l:Bool) (h:Heap) (a:Addr) (ks:List Int):Prop :=
 ∃ o es ep t ks',h.get? a=some o∧o.ExactSet∧o.data=.set es ep t∧t.fits es.size=true∧Good l t∧All2 (Ent prog w) es.toList ks'∧ks'.Perm ks
theorem GS.stored {l:Bool}{h:Heap}{a:Addr}{o:Obj}{es es':Array (Int × Value)}{ep:Nat}{t t':SetTable}{ks' ks:List Int} (ho:h.get? a=some o) (hx:o.ExactSet) (hd:o.data=.set es ep t) (hf:t'.fits es'.size=true) (hg:Good l t') (ha:All2 (Ent prog w) es'.toList ks') (hp:ks'.Perm ks) :
  (h.update a (Obj.putSet es' t')).get? a=some { o with data:=.set es' (ep+1) t' }∧GS prog w l (h.update a (Obj.putSet es' t')) a ks:=by
 have g:(h.update a (Obj.putSet es' t')).get? a=some { o with data:=.set es' (ep+1) t' }:=by
  have q:=Heap.get?_update_self (Obj.putSet es' t') ho (by rw [putSet_of es' t' hd];rfl)
  rwa [putSet_of es' t' hd] at q
 exact ⟨g,_,es',ep+1,t',ks',g,hx,rfl,hf,hg,ha,hp⟩
theorem Good.off {l:Bool}{t:SetTable} (h:Good l t):Good l { t with plain:=false }:=⟨h.ris,h.led⟩
theorem add_ent {l:Bool}{a:Addr}{k:Int}{x:Value}{ks:List Int}{Q:Bool→Shared→Prop} (hk:(intKind prog w).is k x=true) (hs:x.scannable=true) (hS:GS prog w l s.heap a ks) (hr:ks.length+1<scanBound)
  (q:∀ h' b,Heap.SameBut a s.heap h'→GS prog w l h' a (if k∈ks then ks else ks ++ [k])→Q b { s with heap:=h' }):wpAny (model prog w) A (setAddHashed a x ((intKind prog w).hash k)) Q E s:=by
 obtain ⟨o,es,ep,t,k1,ho,hx,hd,hf,hg,ha,hp⟩:=hS
 have he:=ha.elems
 have hz:es.size=ks.length:=by rw [← Array.length_toList,ha.len,hp.length_eq]
 have hm:k∈ks ↔ ∃ e∈es.toList,(intKind prog w).is k e.2=true:=hp.mem_iff.symm.trans (ha.mem k)
 have gw:∀ (b:Bool) {s1:Shared}{R:Unit→Shared→Prop},R () s1→wpAny (model prog w) A (match b with | true=>rule "set.scan.the-table-gave-way" | false=>pure ()) R E s1:=fun b s1 R z=>by
  cases b
  ·exact wpAny_pure z
  ·exact wpAny_rule z
 unfold setAddHashed setAddHashedIn;refine wpAny_holding (wpAny_bind (wpAny_setState_of ho hd hf ?_));dsimp only
 rw [byScan_of hs (by omega) he];simp only [↓reduceIte];unfold setAddByScan
 refine wpAny_bind (wpAny_bind (wpAny_rule (wpAny_bind (wpAny_setScan_of hk ho hd hf he ?_))))
 cases hi:List.findIdx? (fun e=>(intKind prog w).is k e.2) es.toList with
 | some j =>
  obtain ⟨hj,hpj,_⟩:=List.findIdx?_eq_some_iff_getElem.mp hi
  have hin:k∈ks:=hm.mpr ⟨_,List.getElem_mem hj,hpj⟩
  dsimp only
  refine wpAny_pure (wpAny_pure ?_)
  have z:=q s.heap false (Heap.SameBut.refl ..) (by rw [if_pos hin];exact ⟨o,es,ep,t,k1,ho,hx,hd,hf,hg,ha,hp⟩)
  exact z
 | none =>
  have hin:k ∉ ks:=fun z=>by
   obtain ⟨e,e1,e2⟩:=hm.mp z
   have:=List.findIdx?_eq_none_iff.mp hi e e1
   rw [e2] at this
   cases this
  rw [if_neg hin] at q
  dsimp only
  have lp:=layNew_perm t es ((intKind prog w).hash k) x
  have lf:=layNew_fits t es ((intKind prog w).hash k) x
  have lg:=hg.layNew es ((intKind prog w).hash k) x
  generalize layNew t es ((intKind prog w).hash k) x=L at lp lf lg ⊢
  obtain ⟨e1,t1,wd,gv⟩:=L
  dsimp only at lp lf lg ⊢
  rw [Array.toList_push] at lp
  obtain ⟨k2,a2,p2⟩:=(ha.snoc (show Ent prog w ((intKind prog w).hash k,x) k from ⟨hk,rfl,hs⟩)).perm lp
  have p3:k2.Perm (ks ++ [k]):=p2.trans (hp.append (.refl _))
  have hz1:e1.size≤sizeLine:=by
   refine fits_of_scanBound ?_
   rw [← Array.length_toList,a2.len,p3.length_eq,List.length_append]
   exact hr
  have tail:∀ t2:SetTable,t2.fits e1.size=true→Good l t2→wpAny (model prog w) A (do
    storeSet a e1 t2
    if (!wd && t2.tooFull)=true then do
      (match (relayAll t2 e1 (SetTable.grown e1.size)).2.2 with | true=>rule "set.scan.the-table-gave-way" | false=>pure ())
      storeSet a (relayAll t2 e1 (SetTable.grown e1.size)).1 (relayAll t2 e1 (SetTable.grown e1.size)).2.1
      pure (some true)
     else pure (some true)) (fun r s'=>wpAny (model prog w) A (match r with | some added=>pure added | none=>setAddHashedIn a x ((intKind prog w).hash k) 99999) Q E s') E s:=by
   intro t2 f2 g2
   refine wpAny_bind (wpAny_storeSet_of ho hd ?_ hz1)
   obtain ⟨o2,S2⟩:=GS.stored (prog:=prog) (w:=w) ho hx hd f2 g2 a2 p3
   have b2:=Heap.SameBut.update s.heap a (Obj.putSet e1 t2)
   split
   ·have rp:=relayAll_perm t2 e1 (SetTable.grown e1.size)
    have rf:=relayAll_fits t2 e1 (SetTable.grown e1.size)
    have rg:=g2.relay e1 (SetTable.grown e1.size)
    generalize relayAll t2 e1 (SetTable.grown e1.size)=Rl at rp rf rg ⊢
    obtain ⟨e3,t3,g3⟩:=Rl
    dsimp only at rp rf rg ⊢
    obtain ⟨k3,a3,p4⟩:=a2.perm rp
    have hz3:e3.size≤sizeLine:=by
     have:e3.size=e1.size:=by rw [← Array.length_toList,rp.length_eq,Array.length_toList]
     omega
    refine wpAny_bind (gw _ (wpAny_bind (wpAny_storeSet_of o2 rfl ?_ hz3)))
    obtain ⟨_,S3⟩:=GS.stored (prog:=prog) (w:=w) o2 hx rfl rf rg a3 (p4.trans p3)
    exact wpAny_pure (wpAny_pure (q _ true (b2.trans (Heap.SameBut.update ..)) S3))
   ·exact wpAny_pure (wpAny_pure (q _ true b2 S2))
  refine wpAny_bind (gw _ ?_)
  split
  ·refine wpAny_bind ?_
   rw [hashByValue_scannable 8 hs]
   refine wpAny_pure ?_
   split
   ·exact tail _ lf lg
   ·exact tail _ (SetTable.fits_plain_off lf) lg.off
  ·refine wpAny_bind (wpAny_pure ?_)
   simp only [↓reduceIte]
   exact tail _ lf lg
end
end SS
set_option maxHeartbeats 4000000
namespace SS
open PySem PySem.Spec PyProof.Rows
def dd (acc:List Int) (k:Int):List Int:=if k∈acc then acc else acc ++ [k]
def dds (ns:List Int):List Int:=ns.foldl dd []
theorem dds_snoc (ns:List Int) (k:Int):dds (ns ++ [k])=dd (dds ns) k:=by unfold dds;rw [List.foldl_append];rfl
theorem dds_facts (ns:List Int):(dds ns).Nodup∧(∀ k,k∈dds ns ↔ k∈ns)∧(dds ns).length≤ns.length:=by
 rcases List.eq_nil_or_concat ns with rfl | ⟨r,x,rfl⟩
 ·exact ⟨List.nodup_nil,fun k=>Iff.rfl,Nat.le_refl _⟩
 ·rw [List.concat_eq_append,dds_snoc]
  obtain ⟨h1,h2,h3⟩:=dds_facts r
  unfold dd
  split
  ·rename_i hin
   refine ⟨h1,fun k=>?_,by rw [List.length_append];omega⟩
   rw [h2,List.mem_append,List.mem_singleton]
   exact ⟨.inl,fun z=>z.elim id fun e=>by rw [e];exact (h2 x).mp hin⟩
  ·rename_i hin
   refine ⟨?_,fun k=>?_,by rw [List.length_append,List.length_append];simp only [List.length_cons,List.length_nil];omega⟩
   ·rw [List.nodup_append]
    refine ⟨h1,by simp,fun a ha b hb e=>?_⟩
    rw [List.mem_singleton] at hb
    subst hb e
    exact hin ha
   ·rw [List.mem_append,List.mem_append,h2]
termination_by ns.length
decreasing_by all_goals simp_all
section
variable {prog:Program}{w:World}{A:Around}{E:Value→Shared→Prop}{s:Shared}
theorem GS.keep {l:Bool}{h h':Heap}{a:Addr}{ks:List Int} (g:GS prog w l h a ks) (k:∀ o,h.get? a=some o→h'.get? a=some o):GS prog w l h' a ks:=by
 obtain ⟨o,es,ep,t,k1,ho,rest⟩:=g
 exact ⟨o,es,ep,t,k1,k o ho,rest⟩
theorem upd_loop {R:Result→Shared→Prop}{I S:Addr}{fp wr:List Addr}{ns:List Int}{St:Nat→Heap→Prop}{l:Bool} (W:Walks prog w A.in1 I fp wr ns.length (fun i v=>∃ t,v=.int (ns.getD i 0) t) St) (hSf:S ∉ fp) (hb:ns.length+1<scanBound) :
  ∀ (k i:Nat) (s:Shared),ns.length - i=k→i≤ns.length→St i s.heap→GS prog w l s.heap S (dds (ns.take i)) →
   (∀ h' tk,(∀ b o,b≠S→b ∉ wr→s.heap.get? b=some o→h'.get? b=some o)→GS prog w l h' S (dds ns)→R (.ok (.ret .none)) { s with heap:=h',toks:=tk }) →
   codeAny (model prog w) A (.builtin "set.update.loop" ⟨[.ref S,.ref I],[]⟩) R s:=by
 have hSw:S ∉ wr:=fun z=>hSf (W.sub _ z)
 intro k
 induction k with
 | zero =>
  intro i s hk hi st hS hR
  have e:i=ns.length:=by omega
  subst e
  rw [List.take_length] at hS
  refine codeAny_builtin F.entry_set_update_loop ?_;rw [Around.under_plainId F.plain_set_update_loop _];show wpAny _ A.in1 (pyNext (.ref I) >>= _) _ _ s
  refine wpAny_bind (W.done s _ _ st fun h' tk kp=>?_)
  show wpAny _ A.in1 (ret Value.none) _ _ _
  exact wpAny_pure (hR h' tk (fun b o _ n e=>kp b o n e) (hS.keep fun o e=>kp S o hSw e))
 | succ k ih =>
  intro i s hk hi st hS hR
  have hlt:i<ns.length:=by omega
  have htk:ns.take (i+1)=ns.take i ++ [ns.getD i 0]:=by
   rw [List.take_add_one,List.getD_eq_getElem?_getD,List.getElem?_eq_getElem hlt]
   rfl
  refine codeAny_builtin F.entry_set_update_loop ?_;rw [Around.under_plainId F.plain_set_update_loop _];show wpAny _ A.in1 (pyNext (.ref I) >>= _) _ _ s
  refine wpAny_bind (W.item i s _ _ hlt st fun v h1 tk hv st1 kp=>?_)
  obtain ⟨t,rfl⟩:=hv
  have hS1:GS prog w l h1 S (dds (ns.take i)):=hS.keep fun o e=>kp S o hSw e
  show wpAny _ A.in1 (holding [Value.int (ns.getD i 0) t] (setAdd S (.int (ns.getD i 0) t)) >>= _) _ _ _
  refine wpAny_bind (wpAny_holding ?_);unfold setAdd;refine wpAny_holding (wpAny_bind ((intKind prog w).pyHash (k:=ns.getD i 0) (intKind_is _ _ _ _) ?_))
  have hlen:(dds (ns.take i)).length+1<scanBound:=by
   have:=(dds_facts (ns.take i)).2.2
   rw [List.length_take] at this
   omega
  refine add_ent (s:={ s with heap:=h1,toks:=tk+1 }) (intKind_is _ _ _ _) rfl hS1 hlen fun h2 b sb S2=>?_
  have S3:GS prog w l h2 S (dds (ns.take (i+1))):=by rw [htk,dds_snoc];exact S2
  refine wpAny_pure ⟨plainId_quiet F.plain_set_update_loop _,ih (i+1) _ (by omega) hlt (W.frame _ h1 _ st1 fun b hb o e=>?_) S3 fun h3 tk3 kp3 S4=>?_⟩
  ·exact (sb.2 b (fun z=>hSf (z ▸ hb))).trans e
  ·exact hR h3 tk3 (fun b o n m e=>kp3 b o n m ((sb.2 b n).trans (kp b o m e))) S4
def led0 (w:World):Bool:=!w.params.followText "set-order"
theorem new_set (a:Value) {Q₁:Value→Shared→Prop} (q:Q₁ (.ref s.heap.objs.size) { s with heap:=s.heap.push { cls:=.type "set",dict:=none,data:=.set #[] 0 (.fresh 0 0 (led0 w)) } }) :
  codeAny (model prog w) A (.call (.builtin "set.__new__") ⟨[.type "set",a],[]⟩) (wants Q₁ E) s:=by
 refine codeAny_of_tree ?_
 show wpAny _ A.in1 (do checkBuiltinCall "set.__new__" ⟨[.type "set",a],[]⟩;again (.builtin "set.__new__" ⟨[.type "set",a],[]⟩)) _ _ s
 refine wpAny_bind (wpAny_of_eq (F.newCall_set_1 a) (wpAny_pure ⟨plainId_quiet F.plain_set_new _,codeAny_builtin F.entry_set_new ?_⟩));rw [Around.under_plainId F.plain_set_new _];unfold Builtin.«set.__new__» Builtin.Frozenset.newClass
 have hsub:=sub_set_self
 obtain ⟨hp,g,d,tk,os⟩:=s
 dsimp only
 wp_walk
 refine wpAny_askSetting (wpAny_pure ?_);dsimp only;simp only [newObj];refine wpAny_bind (wpAny_alloc (wpAny_pure ?_))
 exact wpAny_pure q
end
end SS
set_option maxHeartbeats 4000000
namespace SS
open PySem PySem.Spec PyProof.Rows
section
variable {prog:Program}{w:World}{A:Around}{E:Value→Shared→Prop}{s:Shared}
theorem fresh_gs {h:Heap}{a:Addr}{l:Bool} (g:h.get? a=some { cls:=.type "set",dict:=none,data:=.set #[] 0 (.fresh 0 0 l) }):GS prog w l h a [] :=
 ⟨_,#[],0,_,[],g,⟨rfl,rfl,rfl⟩,rfl,rfl,⟨fun i j _ hj=>absurd hj (Nat.not_lt_zero _),rfl⟩,.nil,.refl _⟩
theorem call_set {l:Addr}{items:Array Value}{ns:List Int}{Q:Value→Shared→Prop} (hh:A.handled=none) (hl:s.heap.IsList l items) (hi:IntsAre items.toList ns) (hb:ns.length+1<scanBound)
  (q:∀ h' tk,GS prog w (led0 w) h' s.heap.objs.size (dds ns)→(∀ b o,b<s.heap.objs.size→s.heap.get? b=some o→h'.get? b=some o)→Q (.ref s.heap.objs.size) { s with heap:=h',toks:=tk }):wpAny (model prog w) A (call (.type "set") [.ref l]) Q E s:=by
 have hlen:items.size=ns.length:=by rw [← Array.length_toList];exact IntsAre.length hi
 obtain ⟨c,tl,hmro⟩:=F.called_set.mro
 have hmade:=F.called_set.made
 have hsub:=F.called_set.sub
 refine wpAny_call (codeAny_of_tree ?_);show wpAny _ _ (callAny (.type "set") _) _ _ _;refine wpAny_pure ⟨Code.quiet_builtin _ (by decide +kernel),codeAny_builtin F.entry_type_call ?_⟩;rw [Around.under_plain (weight_type_call_type "set" [.ref l] []) rfl]
 have h1:=F.called_set.notType
 have h2:=F.called_set.canCreate
 have hct:=F.typeCall_set_1 (.ref l)
 repeat (any_goals (first | assumption | wp_step))
 refine codeAny_mono (new_set (.ref l) (E:=E) (Q₁:=fun obj s1=>obj=.ref s.heap.objs.size∧s1={ s with heap:=s.heap.push { cls:=.type "set",dict:=none,data:=.set #[] 0 (.fresh 0 0 (led0 w)) } }) ⟨rfl,rfl⟩) fun r s1 hr=>?_
 cases r with
 | error e=>exact hr
 | ok fl =>
  cases fl with
  | ret obj =>
   obtain ⟨rfl,rfl⟩:=hr
   have gS:(s.heap.push { cls:=.type "set",dict:=none,data:=.set #[] 0 (.fresh 0 0 (led0 w)) }).get? s.heap.objs.size=some { cls:=.type "set",dict:=none,data:=.set #[] 0 (.fresh 0 0 (led0 w)) }:=Heap.get?_push_size _ rfl
   have hT:Shared.TypeIs { s with heap:=s.heap.push { cls:=.type "set",dict:=none,data:=.set #[] 0 (.fresh 0 0 (led0 w)) } } (.ref s.heap.objs.size) "set":=⟨_,gS,rfl⟩
   have hli:=F.called_set.init.lookup
   have hbi:=F.called_set.init.bind (.ref s.heap.objs.size)
   repeat (any_goals (first | assumption | wp_step))
   refine codeAny_mono (codeAny_call_builtin (R:=wants (fun r s2=>r=.none∧∃ h' tk,s2={ s with heap:=h',toks:=tk }∧GS prog w (led0 w) h' s.heap.objs.size (dds ns)∧(∀ b o,b<s.heap.objs.size→s.heap.get? b=some o→h'.get? b=some o)) E) F.called_set.init.plain F.entry_set_init (check_set_init_1 hT ?_)) fun r2 s2 hr2=>?_
   ·obtain ⟨ol,hol,hcl,nl,hdl⟩:=hl
    obtain ⟨ocls,odict,odata,oslots⟩:=ol
    simp only at hcl hdl
    subst hcl hdl
    have hol':=Heap.get?_push_of_some ({ cls:=.type "set",dict:=none,data:=.set #[] 0 (.fresh 0 0 (led0 w)) }:Obj) hol
    have hsls:=F.sub_list_set
    have hslf:=F.sub_list_frozenset
    have hne:(Value.type "list" == Value.type "dict")=false:=by decide
    have hl1:(s.heap.push { cls:=.type "set",dict:=none,data:=.set #[] 0 (.fresh 0 0 (led0 w)) }).IsList l items:=⟨_,hol',rfl,nl,rfl⟩
    have hlS:l<s.heap.objs.size:=Heap.lt_size hol
    unfold Builtin.«set.__init__» noKeywords Builtin.Frozenset.updateFrom
    generalize hPI:pyIter=PI
    wp_walk
    subst hPI
    refine wpAny_pyIter_list (s:={ s with heap:=s.heap.push { cls:=.type "set",dict:=none,data:=.set #[] 0 (.fresh 0 0 (led0 w)) } }) hl1 ?_
    refine wpAny_bind (wpAny_runValue ?_)
    have hneI:l≠(s.heap.push { cls:=.type "set",dict:=none,data:=.set #[] 0 (.fresh 0 0 (led0 w)) }).objs.size:=Nat.ne_of_lt (by rw [size_push'];exact Nat.lt_succ_of_lt hlS)
    have hSf:s.heap.objs.size ∉ [(s.heap.push { cls:=.type "set",dict:=none,data:=.set #[] 0 (.fresh 0 0 (led0 w)) }).objs.size,l]:=by
     rw [size_push']
     intro z
     rcases List.mem_cons.mp z with z | z
     ·exact absurd z (Nat.ne_of_lt (Nat.lt_succ_self _))
     ·rw [List.mem_singleton] at z;exact absurd z (Nat.ne_of_gt hlS)
    have W:=Walks.list (prog:=prog) (w:=w) (A:=A.in1.in1.in1) (by simp [hh]) (s.heap.push { cls:=.type "set",dict:=none,data:=.set #[] 0 (.fresh 0 0 (led0 w)) }).objs.size l hneI items
    have W2:Walks prog w A.in1.in1.in1 (s.heap.push { cls:=.type "set",dict:=none,data:=.set #[] 0 (.fresh 0 0 (led0 w)) }).objs.size [(s.heap.push { cls:=.type "set",dict:=none,data:=.set #[] 0 (.fresh 0 0 (led0 w)) }).objs.size,l] [(s.heap.push { cls:=.type "set",dict:=none,data:=.set #[] 0 (.fresh 0 0 (led0 w)) }).objs.size] ns.length (fun i v=>∃ t,v=.int (ns.getD i 0) t) (fun i h=>h.IsListIter (s.heap.push { cls:=.type "set",dict:=none,data:=.set #[] 0 (.fresh 0 0 (led0 w)) }).objs.size l i∧h.IsList l items):=by
     rw [← hlen]
     exact ⟨W.sub,W.frame,fun i s Q E hi st k=>W.item i s Q E hi st fun v h' tk hv=>k v h' tk (IntsAre.int_at ‹_› i v (by rw [Array.getElem?_toList];exact hv)),W.done,W.self⟩
    refine upd_loop W2 hSf hb (ns.length - 0) 0 _ (by omega) (Nat.zero_le _) ⟨⟨_,Heap.get?_push_size _ rfl,rfl,rfl⟩,hl1.push _⟩ (fresh_gs (Heap.get?_push_of_some _ gS)) fun h' tk kp g'=>?_
    show wpAny _ _ _ _ _ _
    refine wpAny_pure ?_
    show wpAny _ _ (ret Value.none) _ _ _
    refine wpAny_pure ⟨rfl,h',tk,rfl,g',fun b o hb e=>kp b o (Nat.ne_of_lt hb) (fun z=>?_) (Heap.get?_push_of_some _ (Heap.get?_push_of_some _ e))⟩
    rw [List.mem_singleton,size_push'] at z
    exact absurd z (Nat.ne_of_lt (Nat.lt_succ_of_lt hb))
   ·cases r2 with
    | error e=>exact hr2
    | ok fl2 =>
     cases fl2 with
     | ret r =>
      obtain ⟨rfl,h',tk,rfl,g',k'⟩:=hr2
      repeat (any_goals (first | assumption | wp_step))
      exact q _ _ g' k'
     | _=>exact hr2.elim
  | _=>exact hr.elim
end
end SS
set_option maxHeartbeats 4000000
namespace SS
open PySem PySem.Spec PyProof.Rows
theorem slot_next:Slot "set_iterator" "__next__" "set_iterator.__next__":=.of (owner:="set_iterator") (n:="__next__") (by rw [typeLookup_type,builtinLookup_eq_fast];kernel_rfl) (by decide +kernel) (by decide +kernel) (by decide +kernel) (by first | exact .inl (by decide +kernel) | exact .inr (by decide +kernel)) (by rw [isSubtype_type];kernel_rfl)
theorem slot_self:Slot "set_iterator" "__iter__" "set_iterator.__iter__":=.of (owner:="set_iterator") (n:="__iter__") (by rw [typeLookup_type,builtinLookup_eq_fast];kernel_rfl) (by decide +kernel) (by decide +kernel) (by decide +kernel) (by first | exact .inl (by decide +kernel) | exact .inr (by decide +kernel)) (by rw [isSubtype_type];kernel_rfl)
theorem entry_next:entryFor table "set_iterator.__next__" = some Builtin.«set_iterator.__next__»:=entryFor_of_tree (by kernel_rfl)
theorem entry_self:entryFor table "set_iterator.__iter__" = some Builtin.«dict_keyiterator.__iter__»:=entryFor_alias (id':="dict_keyiterator.__iter__") (by kernel_rfl) rfl (by decide +kernel) (by kernel_rfl)
theorem entry_iter:entryFor table "set.__iter__" = some Builtin.«frozenset.__iter__»:=entryFor_alias (id':="frozenset.__iter__") (by kernel_rfl) rfl (by decide +kernel) (by kernel_rfl)
theorem args_next (a:Value):argsOk "set_iterator.__next__" ⟨[a],[]⟩:=by unfold argsOk;kernel_rfl
theorem args_self (a:Value):argsOk "set_iterator.__iter__" ⟨[a],[]⟩:=by unfold argsOk;kernel_rfl
theorem args_iter (a:Value):argsOk "set.__iter__" ⟨[a],[]⟩:=by unfold argsOk;kernel_rfl
theorem erase_perm {α:Type}:∀ (l:List α) (i:Nat) (h:i<l.length),(l[i] :: l.eraseIdx i).Perm l
 | x :: r,0,_=>.refl _
 | x :: r,i+1,h=>by
  have hi:i<r.length:=by simpa using h
  have:=erase_perm r i hi
  show (r[i] :: x :: r.eraseIdx i).Perm (x :: r)
  exact (List.Perm.swap ..).trans (this.cons x)
theorem go_perm {α:Type} (next:Nat→Nat):∀ (fuel k:Nat) (left:List α) (out:Array α),left.length=fuel→(pickOrder.go next fuel k left out).toList.Perm (out.toList ++ left)
 | 0,k,left,out,h=>by
  have:left=[]:=List.length_eq_zero_iff.mp h
  subst this
  unfold pickOrder.go
  rw [List.append_nil]
 | fuel+1,k,left,out,h=>by
  unfold pickOrder.go
  have hl:next k % left.length<left.length:=Nat.mod_lt _ (by omega)
  rw [List.getElem?_eq_getElem hl]
  dsimp only
  refine (go_perm next fuel (k+1) _ _ (by rw [List.length_eraseIdx_of_lt hl];omega)).trans ?_
  rw [Array.toList_push,List.append_assoc]
  refine List.Perm.append_left _ ?_
  show (left[next k % left.length] :: left.eraseIdx (next k % left.length)).Perm left
  exact erase_perm left _ hl
theorem pick_perm {α:Type} (next:Nat→Nat) (xs:Array α):(pickOrder next xs).toList.Perm xs.toList:=by
 have:=go_perm next xs.size 0 xs.toList #[] (Array.length_toList ..)
 rw [show (#[]:Array α).toList=[] from rfl,List.nil_append] at this
 exact this
section
variable {prog:Program}{w:World}{A:Around}{E:Value→Shared→Prop}{s:Shared}
theorem draw_perm {α:Type}:∀ (n:Nat) (xs:List α) (s:Shared) (Q:List α→Shared→Prop),xs.length=n→(∀ ys d,ys.Perm xs→Q ys { s with drawn:=d })→wpAny (model prog w) A (drawOrder n xs) Q E s
 | 0,xs,s,Q,h,q=>by
  have:xs=[]:=List.length_eq_zero_iff.mp h
  subst this
  unfold drawOrder
  exact wpAny_pure (q [] s.drawn (.refl _))
 | n+1,[],s,Q,h,q=>by simp at h
 | n+1,x :: xs,s,Q,h,q=>by
  unfold drawOrder
  refine wpAny_bind ?_
  have hl:(model prog w).w.draws .order (s.drawn.get .order) % (x :: xs).length<(x :: xs).length:=Nat.mod_lt _ (by simp)
  have key:wpAny (model prog w) A (match (x :: xs)[(model prog w).w.draws .order (s.drawn.get .order) % (x :: xs).length]? with
   | some y=>do
    let __do_lift ← drawOrder n ((x :: xs).eraseIdx ((model prog w).w.draws .order (s.drawn.get .order) % (x :: xs).length))
    pure (y :: __do_lift)
   | none=>unsupported "internal:drawOrder") Q E { s with drawn:=s.drawn.bump .order }:=by
   generalize (model prog w).w.draws .order (s.drawn.get .order) % (x :: xs).length=i at hl
   rw [List.getElem?_eq_getElem hl]
   refine wpAny_bind (draw_perm n _ _ _ (by rw [List.length_eraseIdx_of_lt hl];omega) fun ys d p=>wpAny_pure ?_)
   exact q _ d ((p.cons _).trans (erase_perm _ _ hl))
  intro Γ p hΓ
  exact ⟨by simp,key⟩
end
end SS
set_option maxHeartbeats 4000000
namespace SS
open PySem PySem.Spec PyProof.Rows
section
variable {prog:Program}{w:World}{A:Around}{E:Value→Shared→Prop}{s:Shared}
def IsIt (h:Heap) (I S:Addr) (first:Value) (i n ep:Nat):Prop:=∃ oI,h.get? I=some oI∧oI.cls=.type "set_iterator" ∧ oI.data=.fields #[first,.int i 0,.ref S,.int n 0,.int ep 0]
theorem IsIt.ty {I S:Addr}{first:Value}{i n ep:Nat} (h:IsIt s.heap I S first i n ep):s.TypeIs (.ref I) "set_iterator":=let ⟨o,a,b,_⟩:=h;⟨o,a,b⟩
theorem next_int {I S:Addr}{o:Obj}{es:Array (Int × Value)}{ep slot i nx:Nat}{t:SetTable}{x:Value}{Q:Option Value→Shared→Prop} (st:IsIt s.heap I S (.int slot 0) i es.size ep) (ho:s.heap.get? S=some o) (hd:o.data=.set es ep t) (hf:t.fits es.size=true)
  (hN:∀ (A:Around) (E:Value→Shared→Prop) (Q:Option (Value × Nat)→Shared→Prop),Q (some (x,nx)) s→wpAny (model prog w) A (setNext S slot i ep) Q E s) (q:∀ h',IsIt h' I S (.int nx 0) (i+1) es.size ep→Heap.SameBut I s.heap h'→Q (some x) { s with heap:=h' }) :
  wpAny (model prog w) A (pyNext (.ref I)) Q E s:=by
 obtain ⟨oI,go,hc,hfl⟩:=id st
 unfold pyNext;refine wpAny_bind (wpAny_attempt (wpAny_callSpecial?_slot (name:=Str.ofString "__next__") st.ty slot_next (wpAny_call_entry slot_next st.ty entry_next ?_ (args_next _))))
 unfold Builtin.«set_iterator.__next__»
 refine wpAny_bind (m:=slotArgs _ _ _) (wpAny_pure (wpAny_bind (wpAny_fieldsOf go hfl ?_)))
 dsimp only
 refine wpAny_bind ?_
 unfold setEntries
 refine wpAny_bind (wpAny_setState_of ho hd hf (wpAny_pure ?_))
 rw [if_neg (by simp)]
 rw [Int.toNat_natCast,Int.toNat_natCast,Int.toNat_natCast]
 refine wpAny_bind (hN _ _ _ ?_)
 dsimp only
 refine wpAny_bind (wpAny_setField go hfl (by simp) ?_)
 have g1:=Heap.get?_update_self (Obj.mapFields (·.setIfInBounds 0 (rawInt (nx:Int)))) go (Obj.isFreed_of_fields (Obj.data_mapFields hfl _))
 have f1:=Obj.data_mapFields hfl (·.setIfInBounds 0 (rawInt (nx:Int)))
 have b1:=Heap.SameBut.update s.heap I (Obj.mapFields (·.setIfInBounds 0 (rawInt (nx:Int))))
 have c1:(Obj.mapFields (·.setIfInBounds 0 (rawInt (nx:Int))) oI).cls=.type "set_iterator":=(Obj.cls_mapFields ..).trans hc
 refine wpAny_bind (wpAny_setField (s:={ s with heap:=s.heap.update I (Obj.mapFields (·.setIfInBounds 0 (rawInt (nx:Int)))) }) g1 f1 (by simp) ?_)
 refine wpAny_pure ⟨_,rfl,wpAny_pure (q _ ⟨_,Heap.get?_update_self _ g1 (Obj.isFreed_of_fields (Obj.data_mapFields f1 _)),(Obj.cls_mapFields ..).trans c1,?_⟩ (b1.trans (Heap.SameBut.update ..)))⟩
 rw [Obj.data_mapFields f1]
 simp [rawInt]
theorem end_int {I S:Addr}{o:Obj}{es:Array (Int × Value)}{ep slot i:Nat}{t:SetTable}{Q:Option Value→Shared→Prop} (hh:A.handled=none) (st:IsIt s.heap I S (.int slot 0) i es.size ep) (ho:s.heap.get? S=some o) (hd:o.data=.set es ep t) (hf:t.fits es.size=true)
  (hN:∀ (A:Around) (E:Value→Shared→Prop) (Q:Option (Value × Nat)→Shared→Prop),Q none s→wpAny (model prog w) A (setNext S slot i ep) Q E s) (q:∀ h',Heap.ExtBut I s.heap h'→Q none { s with heap:=h' }) :
  wpAny (model prog w) A (pyNext (.ref I)) Q E s:=by
 obtain ⟨oI,go,hc,hfl⟩:=id st
 unfold pyNext;refine wpAny_bind (wpAny_attempt (wpAny_callSpecial?_slot (name:=Str.ofString "__next__") st.ty slot_next (wpAny_call_entry slot_next st.ty entry_next ?_ (args_next _))))
 unfold Builtin.«set_iterator.__next__»
 refine wpAny_bind (m:=slotArgs _ _ _) (wpAny_pure (wpAny_bind (wpAny_fieldsOf go hfl ?_)))
 dsimp only
 refine wpAny_bind ?_
 unfold setEntries
 refine wpAny_bind (wpAny_setState_of ho hd hf (wpAny_pure ?_))
 rw [if_neg (by simp),Int.toNat_natCast,Int.toNat_natCast,Int.toNat_natCast]
 refine wpAny_bind (hN _ _ _ ?_)
 dsimp only
 refine wpAny_bind (wpAny_setField go hfl (by simp) ?_)
 refine wpAny_bind ?_;simp only [newExc,newTuple];refine wpAny_bind (wpAny_newObj_type ?_ (by size_fits))
 refine wpAny_bind (m:=firstArgMember _ _) (wpAny_of_eq (a:=Value.none) (by first | rfl | (simp only [firstArgMember];rfl)) (wpAny_newObj_type ?_ (by size_fits)))
 simp only [raiseNew];refine wpAny_bind (wpAny_handled ?_);rw [show A.in1.handled=none from hh];refine wpAny_bind (wpAny_pure (wpAny_throw ?_))
 refine wpAny_bind (wpAny_isInstance (T:="StopIteration") (b:=true) ⟨_,Heap.get?_push_size _ rfl,rfl⟩ isSubtype_stop ?_);exact wpAny_pure (q _ (((Heap.SameBut.update ..).extBut.push _).push _))
theorem next_drawn {I S T:Addr}{o oT:Obj}{es:Array (Int × Value)}{ep i place nT:Nat}{tk:Tok}{t:SetTable}{ps:Array Value}{e:Int × Value}{Q:Option Value→Shared→Prop} (st:IsIt s.heap I S (.ref T) i es.size ep) (ho:s.heap.get? S=some o) (hd:o.data=.set es ep t) (hf:t.fits es.size=true)
  (hT:s.heap.get? T=some oT) (hdT:oT.data=.seq ps nT) (hp:ps[i]? = some (.int (place:Int) tk)) (he:es[place]? = some e) (q:∀ h',IsIt h' I S (.ref T) (i+1) es.size ep→Heap.SameBut I s.heap h'→Q (some e.2) { s with heap:=h' }) :
  wpAny (model prog w) A (pyNext (.ref I)) Q E s:=by
 obtain ⟨oI,go,hc,hfl⟩:=id st
 unfold pyNext;refine wpAny_bind (wpAny_attempt (wpAny_callSpecial?_slot (name:=Str.ofString "__next__") st.ty slot_next (wpAny_call_entry slot_next st.ty entry_next ?_ (args_next _))))
 unfold Builtin.«set_iterator.__next__»
 refine wpAny_bind (m:=slotArgs _ _ _) (wpAny_pure (wpAny_bind (wpAny_fieldsOf go hfl ?_)))
 dsimp only
 refine wpAny_bind ?_
 unfold setEntries
 refine wpAny_bind (wpAny_setState_of ho hd hf (wpAny_pure ?_))
 rw [if_neg (by simp)]
 refine wpAny_bind ?_
 unfold seqItems?
 refine wpAny_bind (wpAny_load hT ?_)
 rw [hdT]
 refine wpAny_pure ?_
 dsimp only
 rw [Int.toNat_natCast,hp]
 dsimp only
 rw [Int.toNat_natCast,Int.toNat_natCast]
 refine wpAny_bind ?_
 unfold setNextDrawn
 refine wpAny_bind (wpAny_setState_of ho hd hf ?_)
 dsimp only
 rw [if_neg (by simp)]
 rw [he]
 refine wpAny_pure ?_
 refine wpAny_bind (wpAny_setField go hfl (by simp) ?_)
 refine wpAny_pure ⟨_,rfl,wpAny_pure (q _ ⟨_,Heap.get?_update_self _ go (Obj.isFreed_of_fields (Obj.data_mapFields hfl _)),(Obj.cls_mapFields ..).trans hc,?_⟩ (Heap.SameBut.update ..))⟩
 rw [Obj.data_mapFields hfl]
 simp [rawInt]
theorem end_drawn {I S T:Addr}{o oT:Obj}{es:Array (Int × Value)}{ep i nT:Nat}{t:SetTable}{ps:Array Value}{Q:Option Value→Shared→Prop} (hh:A.handled=none) (st:IsIt s.heap I S (.ref T) i es.size ep) (ho:s.heap.get? S=some o) (hd:o.data=.set es ep t) (hf:t.fits es.size=true)
  (hT:s.heap.get? T=some oT) (hdT:oT.data=.seq ps nT) (hp:ps[i]? = none) (q:∀ h',Heap.ExtBut I s.heap h'→Q none { s with heap:=h' }) :
  wpAny (model prog w) A (pyNext (.ref I)) Q E s:=by
 obtain ⟨oI,go,hc,hfl⟩:=id st
 unfold pyNext;refine wpAny_bind (wpAny_attempt (wpAny_callSpecial?_slot (name:=Str.ofString "__next__") st.ty slot_next (wpAny_call_entry slot_next st.ty entry_next ?_ (args_next _))))
 unfold Builtin.«set_iterator.__next__»
 refine wpAny_bind (m:=slotArgs _ _ _) (wpAny_pure (wpAny_bind (wpAny_fieldsOf go hfl ?_)))
 dsimp only
 refine wpAny_bind ?_
 unfold setEntries
 refine wpAny_bind (wpAny_setState_of ho hd hf (wpAny_pure ?_))
 rw [if_neg (by simp)]
 refine wpAny_bind ?_
 unfold seqItems?
 refine wpAny_bind (wpAny_load hT ?_)
 rw [hdT]
 refine wpAny_pure ?_
 dsimp only
 rw [Int.toNat_natCast,hp]
 dsimp only
 refine wpAny_bind (wpAny_setField go hfl (by simp) ?_)
 have g1:=Heap.get?_update_self (Obj.mapFields (·.setIfInBounds 0 (rawInt 0))) go (Obj.isFreed_of_fields (Obj.data_mapFields hfl _))
 have f1:=Obj.data_mapFields hfl (·.setIfInBounds 0 (rawInt 0))
 have b1:=Heap.SameBut.update s.heap I (Obj.mapFields (·.setIfInBounds 0 (rawInt 0)))
 refine wpAny_bind (wpAny_setField (s:={ s with heap:=s.heap.update I (Obj.mapFields (·.setIfInBounds 0 (rawInt 0))) }) g1 f1 (by simp) ?_)
 refine wpAny_bind ?_;simp only [newExc,newTuple];refine wpAny_bind (wpAny_newObj_type ?_ (by size_fits))
 refine wpAny_bind (m:=firstArgMember _ _) (wpAny_of_eq (a:=Value.none) (by first | rfl | (simp only [firstArgMember];rfl)) (wpAny_newObj_type ?_ (by size_fits)))
 simp only [raiseNew];refine wpAny_bind (wpAny_handled ?_);rw [show A.in1.handled=none from hh];refine wpAny_bind (wpAny_pure (wpAny_throw ?_))
 refine wpAny_bind (wpAny_isInstance (T:="StopIteration") (b:=true) ⟨_,Heap.get?_push_size _ rfl,rfl⟩ isSubtype_stop ?_);exact wpAny_pure (q _ ((((b1.trans (Heap.SameBut.update ..))).extBut.push _).push _))
theorem self_it {I S:Addr}{f:Value}{i n ep:Nat}{Q:Value→Shared→Prop} (st:IsIt s.heap I S f i n ep) (q:Q (.ref I) s):wpAny (model prog w) A (pyIter (.ref I)) Q E s:=by
 refine wpAny_pyIter_slot st.ty slot_self (wpAny_call_entry slot_self st.ty entry_self ?_ (args_self _))
 show wpAny _ _ (ret (.ref I)) _ _ s
 exact wpAny_pure ⟨_,rfl,"set_iterator",_,st.ty,slot_next.lookup,q⟩
theorem setNext_text {S:Addr}{o:Obj}{es:Array (Int × Value)}{ep slot i:Nat}{t:SetTable}{Q:Option (Value × Nat)→Shared→Prop} (hB:w.params.followText "set-order" = true) (ho:s.heap.get? S=some o) (hd:o.data=.set es ep t) (hf:t.fits es.size=true)
  (q:Q (((pickOrder (w.params.setOrder S ep) es)[i]?).map fun e=>(e.2,slot)) s):wpAny (model prog w) A (setNext S slot i ep) Q E s:=by
 unfold setNext
 refine wpAny_bind (wpAny_setState_of ho hd hf ?_)
 dsimp only
 unfold setsByText
 refine wpAny_bind (wpAny_bind (wpAny_askSetting (wpAny_pure ?_)))
 rw [if_pos (show (model prog w).w.params.followText "set-order" = true from hB),if_neg (by simp)]
 refine wpAny_bind ?_
 unfold setWalk
 refine wpAny_bind (wpAny_setState_of ho hd hf ?_)
 dsimp only
 unfold setsByText
 refine wpAny_bind (wpAny_bind (wpAny_askSetting (wpAny_pure ?_)))
 rw [if_pos (show (model prog w).w.params.followText "set-order" = true from hB)]
 refine wpAny_bind (wpAny_askSetting (wpAny_pure (wpAny_pure ?_)))
 exact q
theorem setNext_plain {S:Addr}{o:Obj}{es:Array (Int × Value)}{ep slot i:Nat}{t:SetTable}{Q:Option (Value × Nat)→Shared→Prop} (hB:w.params.followText "set-order" = false) (ho:s.heap.get? S=some o) (hd:o.data=.set es ep t) (hf:t.fits es.size=true) (hl:t.led=true) (hdr:(!t.plain && decide (es.size > 1))=false)
  (q:Q (match es[SetTable.below t.place slot]?,t.place[SetTable.below t.place slot]? with | some (_,x),some j=>some (x,j+1) | _,_=>none) s):wpAny (model prog w) A (setNext S slot i ep) Q E s:=by
 unfold setNext
 refine wpAny_bind (wpAny_setState_of ho hd hf ?_)
 dsimp only
 unfold setsByText
 refine wpAny_bind (wpAny_bind (wpAny_askSetting (wpAny_pure ?_)))
 rw [if_neg (show ¬ ((model prog w).w.params.followText "set-order" = true) by rw [show (model prog w).w.params.followText "set-order" = false from hB];simp)]
 refine wpAny_ite_split (fun z=>absurd (show (!t.plain && decide (es.size > 1))=true from z) (by rw [hdr];simp)) (fun _=>?_)
 refine wpAny_bind ?_
 show wpAny _ _ (if (!t.led && !es.isEmpty)=true then unsupported "set:maker-not-led" else pure ()) _ _ _
 rw [if_neg (by rw [hl];simp)]
 exact wpAny_pure (wpAny_pure q)
theorem iter_set {S:Addr}{o:Obj}{es:Array (Int × Value)}{ep:Nat}{t:SetTable}{Q:Value→Shared→Prop} (ho:s.heap.get? S=some o) (hx:o.ExactSet) (hd:o.data=.set es ep t) (hf:t.fits es.size=true) (hz:es.size<4096)
  (q1:(w.params.followText "set-order" = true∨(!t.plain && decide (es.size > 1))=false)→Q (.ref s.heap.objs.size) { s with heap:=s.heap.push { cls:=.type "set_iterator",data:=.fields #[.int 0 0,.int 0 0,.ref S,.int es.size 0,.int ep 0] } })
  (q2:∀ (ps:List Nat) d,ps.Perm (List.range es.size)→w.params.followText "set-order" = false→Q (.ref (s.heap.objs.size+1)) { s with heap:=(s.heap.push { cls:=.type "tuple",data:=.seq (ps.map fun i:Nat=>rawInt i).toArray }).push { cls:=.type "set_iterator",data:=.fields #[.ref s.heap.objs.size,.int 0 0,.ref S,.int es.size 0,.int ep 0] },drawn:=d }) :
  wpAny (model prog w) A (pyIter (.ref S)) Q E s:=by
 have ty:s.TypeIs (.ref S) "set":=⟨o,ho,hx.1⟩
 refine wpAny_pyIter_slot ty F.slot_set_iter (wpAny_call_entry F.slot_set_iter ty entry_iter ?_ (args_iter _))
 unfold Builtin.«frozenset.__iter__»
 refine wpAny_bind (m:=Builtin.Frozenset.slot0 _ _) (wpAny_pure ?_)
 refine wpAny_bind ?_
 unfold Builtin.Frozenset.sizeOf setEntries
 refine wpAny_bind (wpAny_bind (wpAny_setState_of ho hd hf (wpAny_pure (wpAny_pure ?_))))
 refine wpAny_bind ?_
 refine wpAny_bind ?_
 refine wpAny_setState_of ho hd hf ?_
 dsimp only
 unfold setsByText
 refine wpAny_bind (wpAny_bind (wpAny_askSetting (wpAny_pure (wpAny_pure ?_))))
 have hE:(rawInt ((es.size:Nat):Int))=.int es.size 0:=rfl
 refine wpAny_ite_split (fun z=>?_) (fun z=>?_)
 ·have z':(!w.params.followText "set-order" && (!t.plain && decide (es.size > 1)))=true:=z
  have hB:w.params.followText "set-order" = false:=by
   cases h:w.params.followText "set-order" with
   | false=>rfl
   | true=>rw [h] at z';simp at z'
  refine wpAny_bind (draw_perm _ _ _ _ (List.length_range ..) fun ps d hp=>?_)
  refine wpAny_bind (wpAny_newTuple ?_ (by rw [List.length_map,hp.length_eq,List.length_range];exact fits_of_scanBound (show es.size<scanBound from hz)))
  refine wpAny_bind (wpAny_setEpoch_of (s:={ s with heap:=s.heap.push { cls:=.type "tuple",data:=.seq (ps.map fun i:Nat=>rawInt i).toArray },drawn:=d }) (Heap.get?_push_of_some _ ho) hd hf ?_)
  refine wpAny_bind ?_
  unfold newFields
  refine wpAny_newObj_type (wpAny_pure ⟨_,rfl,"set_iterator",_,⟨_,Heap.get?_push_size _ rfl,rfl⟩,slot_next.lookup,?_⟩)
  have:=q2 ps d hp hB
  rw [← size_push' s.heap { cls:=.type "tuple",data:=.seq (ps.map fun i:Nat=>rawInt i).toArray }] at this
  exact this
 ·have z':¬ ((!w.params.followText "set-order" && (!t.plain && decide (es.size > 1)))=true):=z
  have hB:w.params.followText "set-order" = true∨(!t.plain && decide (es.size > 1))=false:=by
   cases h:w.params.followText "set-order" with
   | true=>exact .inl rfl
   | false =>
    rw [h] at z'
    right
    simpa using z'
  refine wpAny_bind (wpAny_pure ?_)
  refine wpAny_bind (wpAny_setEpoch_of ho hd hf ?_)
  refine wpAny_bind ?_
  unfold newFields
  refine wpAny_newObj_type (wpAny_pure ⟨_,rfl,"set_iterator",_,⟨_,Heap.get?_push_size _ rfl,rfl⟩,slot_next.lookup,?_⟩)
  exact q1 hB
end
end SS
set_option maxHeartbeats 4000000
namespace SS
open PySem PySem.Spec PyProof.Rows
section
variable {prog:Program}{w:World}{A:Around}{E:Value→Shared→Prop}{s:Shared}
def sl (place:Array Nat):Nat→Nat
 | 0=>0
 | i+1=>place.getD i 0+1
theorem below_sl {place:Array Nat} (hr:Ris place) {i:Nat} (hi:i≤place.size):SetTable.below place (sl place i)=i:=by
 obtain ⟨b1,b2,b3⟩:=below_spec hr (sl place i)
 generalize SetTable.below place (sl place i)=b at b1 b2 b3
 cases i with
 | zero =>
  rcases Nat.eq_zero_or_pos b with h | h
  ·exact h
  ·have:=b2 0 h
   simp [sl] at this
 | succ i =>
  have e:sl place (i+1)=place.getD i 0+1:=rfl
  rw [e] at b2 b3
  rcases Nat.lt_trichotomy b (i+1) with h | h | h
  ·have:=b3 i (by omega) (by omega)
   omega
  ·exact h
  ·have a:=b2 (i+1) h
   have c:=hr i (i+1) (by omega) (by omega)
   omega
def By (L:List (Int × Value)) (i:Nat) (v:Value):Prop:=∃ e,L[i]? = some e∧v=e.2
theorem walk_text {I S:Addr}{o:Obj}{es:Array (Int × Value)}{ep:Nat}{t:SetTable} (hh:A.handled=none) (hne:S≠I) (hB:w.params.followText "set-order" = true) (hd:o.data=.set es ep t) (hf:t.fits es.size=true) :
  Walks prog w A I [I,S] [I] es.size (By (pickOrder (w.params.setOrder S ep) es).toList) (fun i h=>IsIt h I S (.int ((0:Nat):Int) 0) i es.size ep∧h.get? S=some o) where
 sub:=fun b hb=>by simp at hb;simp [hb]
 frame:=fun i h h' st hk=>⟨let ⟨oI,a,b⟩:=st.1;⟨oI,hk I (by simp) oI a,b⟩,hk S (by simp) o st.2⟩
 item:=fun i s Q E hi st hQ=>by
  have hl:i<(pickOrder (w.params.setOrder S ep) es).size:=by
   have:=(pick_perm (w.params.setOrder S ep) es).length_eq
   rw [Array.length_toList,Array.length_toList] at this
   omega
  refine next_int (nx:=0) (x:=((pickOrder (w.params.setOrder S ep) es)[i]).2) st.1 st.2 hd hf (fun A E Q q=>setNext_text hB st.2 hd hf ?_) fun h' st' sb=>?_
  ·rw [Array.getElem?_eq_getElem hl]
   exact q
  ·exact hQ _ h' s.toks ⟨_,by rw [Array.getElem?_toList,Array.getElem?_eq_getElem hl],rfl⟩ ⟨st',(sb.2 S hne).trans st.2⟩ fun b o hb e=>(sb.2 b (fun z=>hb (by simp [z]))).trans e
 done:=fun s Q E st hQ=>by
  have hl:(pickOrder (w.params.setOrder S ep) es).size=es.size:=by
   have:=(pick_perm (w.params.setOrder S ep) es).length_eq
   rwa [Array.length_toList,Array.length_toList] at this
  refine end_int hh st.1 st.2 hd hf (fun A E Q q=>setNext_text hB st.2 hd hf ?_) fun h' eb=>hQ h' s.toks fun b o hb e=>eb b o (fun z=>hb (by simp [z])) e
  rw [Array.getElem?_eq_none (by omega)]
  exact q
 self:=fun i s Q E st hQ=>self_it st.1 hQ
theorem walk_plain {I S:Addr}{o:Obj}{es:Array (Int × Value)}{ep:Nat}{t:SetTable} (hh:A.handled=none) (hne:S≠I) (hB:w.params.followText "set-order" = false) (hd:o.data=.set es ep t) (hf:t.fits es.size=true) (hr:Ris t.place) (hl:t.led=true) (hdr:(!t.plain && decide (es.size > 1))=false) :
  Walks prog w A I [I,S] [I] es.size (By es.toList) (fun i h=>IsIt h I S (.int (sl t.place i:Nat) 0) i es.size ep∧h.get? S=some o) where
 sub:=fun b hb=>by simp at hb;simp [hb]
 frame:=fun i h h' st hk=>⟨let ⟨oI,a,b⟩:=st.1;⟨oI,hk I (by simp) oI a,b⟩,hk S (by simp) o st.2⟩
 item:=fun i s Q E hi st hQ=>by
  have hz:t.place.size=es.size:=by
   have:=hf
   unfold SetTable.fits at this
   simp at this
   exact this.1
  have hb:=below_sl hr (i:=i) (by omega)
  refine next_int (nx:=sl t.place (i+1)) (x:=(es[i]).2) st.1 st.2 hd hf (fun A E Q q=>setNext_plain hB st.2 hd hf hl hdr ?_) fun h' st' sb=>?_
  ·rw [hb,Array.getElem?_eq_getElem hi,Array.getElem?_eq_getElem (by omega)]
   have e:sl t.place (i+1)=t.place[i]'(by omega)+1:=by
    show t.place.getD i 0+1=_
    simp [Array.getD,hz,hi]
   rw [e] at q
   exact q
  ·exact hQ _ h' s.toks ⟨_,by rw [Array.getElem?_toList,Array.getElem?_eq_getElem hi],rfl⟩ ⟨st',(sb.2 S hne).trans st.2⟩ fun b o hb e=>(sb.2 b (fun z=>hb (by simp [z]))).trans e
 done:=fun s Q E st hQ=>by
  have hz:t.place.size=es.size:=by
   have:=hf
   unfold SetTable.fits at this
   simp at this
   exact this.1
  have hb:=below_sl hr (i:=es.size) (by omega)
  refine end_int hh st.1 st.2 hd hf (fun A E Q q=>setNext_plain hB st.2 hd hf hl hdr ?_) fun h' eb=>hQ h' s.toks fun b o hb e=>eb b o (fun z=>hb (by simp [z])) e
  rw [hb,Array.getElem?_eq_none (Nat.le_refl _)]
  exact q
 self:=fun i s Q E st hQ=>self_it st.1 hQ
theorem walk_drawn {I S T:Addr}{o:Obj}{es:Array (Int × Value)}{ep:Nat}{t:SetTable}{ps:List Nat} (hh:A.handled=none) (hne:S≠I) (hnT:T≠I) (hd:o.data=.set es ep t) (hf:t.fits es.size=true) (hp:ps.Perm (List.range es.size)) :
  Walks prog w A I [I,S,T] [I] es.size (By (ps.map fun i=>es.getD i (0,.none))) (fun i h=>IsIt h I S (.ref T) i es.size ep∧h.get? S=some o∧h.get? T=some { cls:=.type "tuple",data:=.seq (ps.map fun i:Nat=>rawInt i).toArray }) where
 sub:=fun b hb=>by simp at hb;simp [hb]
 frame:=fun i h h' st hk=>⟨let ⟨oI,a,b⟩:=st.1;⟨oI,hk I (by simp) oI a,b⟩,hk S (by simp) o st.2.1,hk T (by simp) _ st.2.2⟩
 item:=fun i s Q E hi st hQ=>by
  have hpl:ps.length=es.size:=by rw [hp.length_eq,List.length_range]
  have hpi:ps[i]? = some (ps[i]'(by omega)):=List.getElem?_eq_getElem (by omega)
  have hpb:ps[i]'(by omega)<es.size:=List.mem_range.mp (hp.mem_iff.mp (List.getElem_mem _))
  generalize ps[i]'(by omega)=j at hpi hpb
  refine next_drawn (place:=j) (tk:=0) (e:=es[j]) st.1 st.2.1 hd hf st.2.2 rfl ?_ (Array.getElem?_eq_getElem hpb) fun h' st' sb=>?_
  ·rw [List.getElem?_toArray,List.getElem?_map,hpi]
   rfl
  ·exact hQ _ h' s.toks ⟨es[j],by rw [List.getElem?_map,hpi];simp [Array.getD,hpb],rfl⟩ ⟨st',(sb.2 S hne).trans st.2.1,(sb.2 T hnT).trans st.2.2⟩ fun b o hb e=>(sb.2 b (fun z=>hb (by simp [z]))).trans e
 done:=fun s Q E st hQ=>by
  have hpl:ps.length=es.size:=by rw [hp.length_eq,List.length_range]
  refine end_drawn hh st.1 st.2.1 hd hf st.2.2 rfl ?_ fun h' eb=>hQ h' s.toks fun b o hb e=>eb b o (fun z=>hb (by simp [z])) e
  rw [List.getElem?_toArray,List.getElem?_map,List.getElem?_eq_none (by omega)]
  rfl
 self:=fun i s Q E st hQ=>self_it st.1 hQ
end
end SS
set_option maxHeartbeats 400000
namespace SS
open PySem PySem.Spec PyProof.Rows
section
variable {prog:Program}{w:World}{A:Around}{E:Value→Shared→Prop}{s:Shared}
theorem hint_set {r:Addr}{Q:Bool→Shared→Prop} (hT:s.TypeIs (.ref r) "set") (h:Q false s):wpAny (model prog w) A (Builtin.List.listLengthHint (.ref r)) Q E s:=by
 unfold Builtin.List.listLengthHint;refine wpAny_bind (wpAny_specialOf hT F.slot_set_len.lookup ?_);generalize hid:("set.__len__" : String)=id0
 wp_delta
 rw [show splitId id0=some ("set","__len__") from by subst hid;decide +kernel];subst hid
 refine wpAny_bind (wpAny_isInstance (T:="set") (b:=true) hT (by rw [isSubtype_type];kernel_rfl) (wpAny_ite_split (fun hab=>absurd hab (by decide)) (fun _=>wpAny_ite_split (fun _=>wpAny_bind (wpAny_typeOf hT (wpAny_pure h))) (fun hab=>absurd (by decide +kernel) hab))))
theorem by_ints {es:Array (Int × Value)}{ks:List Int}{L:List (Int × Value)}{acc:Array Value} (ha:All2 (Ent prog w) es.toList ks) (hp:L.Perm es.toList) (hi:ItemsOf (By L) acc es.size):∃ ns,IntsAre acc.toList ns∧ns.Perm ks:=by
 obtain ⟨ns,a1,a2⟩:=ha.perm hp
 refine ⟨ns,?_,a2⟩
 obtain ⟨h1,h2⟩:=hi
 have hl:L.length=es.size:=by rw [hp.length_eq,Array.length_toList]
 have e:acc.toList=L.map (·.2):=by
  refine List.ext_getElem (by rw [Array.length_toList,List.length_map];omega) fun i g1 g2=>?_
  have gi:i<acc.size:=by rwa [Array.length_toList] at g1
  obtain ⟨e,he,hv⟩:=h2 i acc[i] (Array.getElem?_eq_getElem gi)
  rw [Array.getElem_toList,hv,List.getElem_map]
  rw [List.getElem?_eq_getElem (by omega)] at he
  rw [Option.some.inj he]
 rw [e]
 clear e h1 h2 hl hp a2 ha
 induction a1 with
 | nil=>exact .nil
 | cons h _ ih =>
  obtain ⟨t,ht⟩:=Value.isInt_shape h.1
  rw [List.map_cons,ht]
  exact .cons _ t ih
theorem loop_set {R:Result→Shared→Prop}{L I:Addr}{fp:List Addr}{n c:Nat}{P:Nat→Value→Prop}{St:Nat→Heap→Prop}{res:Value} (W:Walks prog w A.in1 I fp [I] n P St) (hLf:L ∉ fp) (st:St 0 s.heap) (hL:s.heap.get? L=some { cls:=.type "list",data:=.seq #[] c }) (hn:n≤sizeLine)
  (hR:∀ h' tk acc c',(∀ b o,b≠L→b≠I→s.heap.get? b=some o→h'.get? b=some o)→h'.get? L=some { cls:=.type "list",dict:=none,data:=.seq acc c',slots:=#[] }→ItemsOf P acc n→R (.ok (.ret res)) { s with heap:=h',toks:=tk }) :
  codeAny (model prog w) A (.builtin "list.extend.loop" ⟨[.ref L,.ref I,res],[]⟩) R s:=by
 refine codeAny_extend_loopS W.toS hn L hLf res n 0 _ #[] c rfl (Nat.zero_le _) st hL (ItemsOf.nil _) fun s' acc' c' hm hS' hacc=>?_
 rw [Moved.eq_with hm]
 exact hR s'.heap s'.toks acc' c' (fun b o h1 h2 e=>hm.heap b o (fun z=>by rcases List.mem_cons.mp z with z | z;exact h1 z;exact h2 (List.mem_singleton.mp z)) e) hS' hacc
theorem collect_set {S:Addr}{ks:List Int}{Q:List Value→Shared→Prop} (hh:A.handled=none) (g:GS prog w (led0 w) s.heap S ks) (hz:ks.length<4096)
  (q:∀ vs ns h' d tk,(∀ b o,s.heap.get? b=some o→h'.get? b=some o)→s.heap.objs.size<h'.objs.size→IntsAre vs ns→ns.Perm ks→Q vs { s with heap:=h',drawn:=d,toks:=tk }):wpAny (model prog w) A (collect (.ref S)) Q E s:=by
 obtain ⟨o,es,ep,t,k1,ho,hx,hd,hf,hg,ha,hp⟩:=g
 have hn:es.size<4096:=by rw [← Array.length_toList,ha.len,hp.length_eq];exact hz
 have hnz:es.size≤sizeLine:=fits_of_scanBound (show es.size<scanBound from hn)
 unfold collect
 refine wpAny_bind (wpAny_runValue (codeAny_builtin entry_proto_collect' ?_));show wpAny _ _ (do again (.builtin "list.__iadd__" ⟨[← newList [],.ref S],[]⟩)) _ _ s
 refine wpAny_bind (wpAny_newList (wpAny_pure ⟨Code.quiet_builtin _ (by decide +kernel),codeAny_builtin entry_list_iadd' ?_⟩));show wpAny _ _ (Builtin.List.listExtendWith (.ref s.heap.objs.size) (.ref S) (.ref s.heap.objs.size)) _ _ { s with heap:=s.heap.push (seqObj "list" #[] 0) }
 unfold Builtin.List.listExtendWith
 have ho':=Heap.get?_push_of_some (seqObj "list" #[] 0) ho
 have hL0:(s.heap.push (seqObj "list" #[] 0)).get? s.heap.objs.size=some (seqObj "list" #[] 0):=Heap.get?_push_size _ rfl
 have hSL:S<s.heap.objs.size:=Heap.lt_size ho
 have hsz:(s.heap.push (seqObj "list" #[] 0)).objs.size=s.heap.objs.size+1:=size_push' ..
 refine wpAny_bind (wpAny_typeOf (T:="set") ⟨o,ho',hx.1⟩ ?_)
 have hsr:Builtin.List.listSameRef (.ref s.heap.objs.size) (.ref S)=false:=by
  simp only [Builtin.List.listSameRef,beq_eq_false_iff_ne]
  exact Nat.ne_of_gt hSL
 rw [if_neg (by rw [hsr];decide)]
 have keepU:∀ (h1:Heap) (b:Addr) (o:Obj),b≠s.heap.objs.size→h1.get? b=some o→((h1.update s.heap.objs.size (Obj.mapSeq (·.push Value.none))).update s.heap.objs.size (Obj.mapSeq (·.pop))).get? b=some o:=fun h1 b o hb e =>
  (Heap.get?_update_other _ _ (Ne.symm hb)).trans ((Heap.get?_update_other _ _ (Ne.symm hb)).trans e)
 refine wpAny_bind (iter_set (s:={ s with heap:=s.heap.push (seqObj "list" #[] 0) }) ho' hx hd hf hn (fun hm=>?_) (fun ps d hps hB=>?_))
 ·have hneS:S≠(s.heap.push (seqObj "list" #[] 0)).objs.size:=by rw [hsz];exact Nat.ne_of_lt (Nat.lt_succ_of_lt hSL)
  have lh:=Heap.get?_push_of_some ({ cls:=.type "set_iterator",data:=.fields #[.int 0 0,.int 0 0,.ref S,.int es.size 0,.int ep 0] }:Obj) hL0
  have sh:=Heap.get?_push_of_some ({ cls:=.type "set_iterator",data:=.fields #[.int 0 0,.int 0 0,.ref S,.int es.size 0,.int ep 0] }:Obj) ho'
  refine wpAny_bind (wpAny_holding (hint_set ⟨o,sh,hx.1⟩ (wpAny_ite_split (fun _=>wpAny_bind (wpAny_rule (wpAny_bind ?_))) (fun z=>absurd (by decide) z))))
  show wpAny _ _ (updateSeq s.heap.objs.size (·.push .none) >>= fun _=>updateSeq s.heap.objs.size (·.pop)) _ _ _;refine wpAny_bind (wpAny_updateSeq lh rfl ?_)
  have l2:=Heap.get?_update_self (Obj.mapSeq (·.push Value.none)) lh rfl
  refine wpAny_updateSeq (hz:=by seq_fits) l2 rfl ?_;have l3:=Heap.get?_update_self (Obj.mapSeq (·.pop)) l2 rfl
  have hLf:s.heap.objs.size ∉ [(s.heap.push (seqObj "list" #[] 0)).objs.size,S]:=by
   rw [hsz]
   intro z
   rcases List.mem_cons.mp z with z | z
   ·exact absurd z (Nat.ne_of_lt (Nat.lt_succ_self _))
   ·rw [List.mem_singleton] at z;exact absurd z (Nat.ne_of_gt hSL)
  have itI:IsIt ((s.heap.push (seqObj "list" #[] 0)).push { cls:=.type "set_iterator",data:=.fields #[.int 0 0,.int 0 0,.ref S,.int es.size 0,.int ep 0] }) (s.heap.push (seqObj "list" #[] 0)).objs.size S (.int ((0:Nat):Int) 0) 0 es.size ep:=⟨_,Heap.get?_push_size _ rfl,rfl,rfl⟩
  have kU:=keepU ((s.heap.push (seqObj "list" #[] 0)).push { cls:=.type "set_iterator",data:=.fields #[.int 0 0,.int 0 0,.ref S,.int es.size 0,.int ep 0] })
  have kp:∀ b o,s.heap.get? b=some o→b≠s.heap.objs.size→(((s.heap.push (seqObj "list" #[] 0)).push { cls:=.type "set_iterator",data:=.fields #[.int 0 0,.int 0 0,.ref S,.int es.size 0,.int ep 0] }).update s.heap.objs.size (Obj.mapSeq (·.push Value.none)) |>.update s.heap.objs.size (Obj.mapSeq (·.pop))).get? b=some o:=fun b o e n=>kU b o n (Heap.get?_push_of_some _ (Heap.get?_push_of_some _ e))
  have hI:s.heap.objs.size<(s.heap.push (seqObj "list" #[] 0)).objs.size:=by rw [hsz];exact Nat.lt_succ_self _
  have sU:=kU _ _ (Nat.ne_of_lt hSL) sh
  have itU:IsIt (((s.heap.push (seqObj "list" #[] 0)).push { cls:=.type "set_iterator",data:=.fields #[.int 0 0,.int 0 0,.ref S,.int es.size 0,.int ep 0] }).update s.heap.objs.size (Obj.mapSeq (·.push Value.none)) |>.update s.heap.objs.size (Obj.mapSeq (·.pop))) (s.heap.push (seqObj "list" #[] 0)).objs.size S (.int ((0:Nat):Int) 0) 0 es.size ep:=let ⟨oI,x1,x2⟩:=itI;⟨oI,kU _ _ (Nat.ne_of_gt hI) x1,x2⟩
  generalize (((s.heap.push (seqObj "list" #[] 0)).push { cls:=.type "set_iterator",data:=.fields #[.int 0 0,.int 0 0,.ref S,.int es.size 0,.int ep 0] }).update s.heap.objs.size (Obj.mapSeq (·.push Value.none)) |>.update s.heap.objs.size (Obj.mapSeq (·.pop)))=H2 at l3 kp sU itU ⊢
  clear kU itI lh sh l2
  generalize (s.heap.push (seqObj "list" #[] 0)).objs.size=I at hneS hLf hI itU ⊢
  cases hB:w.params.followText "set-order" with
  | true =>
   have W:=walk_text (prog:=prog) (A:=A.in1) (I:=I) (S:=S) hh hneS hB hd hf
   refine wpAny_pure ⟨plainId_quiet F.plain_extend_loop _,loop_set (s:={ s with heap:=H2 }) W hLf ⟨itU,sU⟩ l3 hnz fun h' tk' acc c' kp' hL' hi=>?_⟩
   dsimp only
   refine wpAny_bind (wpAny_load hL' (wpAny_pure ?_))
   obtain ⟨ns,a1,a2⟩:=by_ints ha (pick_perm _ _) hi
   exact q _ ns h' s.drawn tk' (fun b o e=>kp' b o (Nat.ne_of_lt (Heap.lt_size e)) (Nat.ne_of_lt (Nat.lt_trans (Heap.lt_size e) hI)) (kp b o e (Nat.ne_of_lt (Heap.lt_size e)))) (Heap.lt_size hL') a1 (a2.trans hp)
  | false =>
   have hled:t.led=true:=by rw [hg.led];unfold led0;rw [hB];rfl
   have W:=walk_plain (prog:=prog) (A:=A.in1) (I:=I) (S:=S) hh hneS hB hd hf hg.ris hled (hm.resolve_left (by rw [hB];simp))
   refine wpAny_pure ⟨plainId_quiet F.plain_extend_loop _,loop_set (s:={ s with heap:=H2 }) W hLf ⟨itU,sU⟩ l3 hnz fun h' tk' acc c' kp' hL' hi=>?_⟩
   dsimp only
   refine wpAny_bind (wpAny_load hL' (wpAny_pure ?_))
   obtain ⟨ns,a1,a2⟩:=by_ints ha (.refl _) hi
   exact q _ ns h' s.drawn tk' (fun b o e=>kp' b o (Nat.ne_of_lt (Heap.lt_size e)) (Nat.ne_of_lt (Nat.lt_trans (Heap.lt_size e) hI)) (kp b o e (Nat.ne_of_lt (Heap.lt_size e)))) (Heap.lt_size hL') a1 (a2.trans hp)
 ·have lh:=Heap.get?_push_of_some ({ cls:=.type "set_iterator",data:=.fields #[.ref (s.heap.push (seqObj "list" #[] 0)).objs.size,.int 0 0,.ref S,.int es.size 0,.int ep 0] }:Obj) (Heap.get?_push_of_some ({ cls:=.type "tuple",data:=.seq (ps.map fun i:Nat=>rawInt i).toArray }:Obj) hL0)
  have sh:=Heap.get?_push_of_some ({ cls:=.type "set_iterator",data:=.fields #[.ref (s.heap.push (seqObj "list" #[] 0)).objs.size,.int 0 0,.ref S,.int es.size 0,.int ep 0] }:Obj) (Heap.get?_push_of_some ({ cls:=.type "tuple",data:=.seq (ps.map fun i:Nat=>rawInt i).toArray }:Obj) ho')
  have th:(((s.heap.push (seqObj "list" #[] 0)).push { cls:=.type "tuple",data:=.seq (ps.map fun i:Nat=>rawInt i).toArray }).push { cls:=.type "set_iterator",data:=.fields #[.ref (s.heap.push (seqObj "list" #[] 0)).objs.size,.int 0 0,.ref S,.int es.size 0,.int ep 0] }).get? (s.heap.push (seqObj "list" #[] 0)).objs.size=some { cls:=.type "tuple",data:=.seq (ps.map fun i:Nat=>rawInt i).toArray }:=Heap.get?_push_of_some _ (Heap.get?_push_size _ rfl)
  refine wpAny_bind (wpAny_holding (hint_set ⟨o,sh,hx.1⟩ (wpAny_ite_split (fun _=>wpAny_bind (wpAny_rule (wpAny_bind ?_))) (fun z=>absurd (by decide) z))))
  show wpAny _ _ (updateSeq s.heap.objs.size (·.push .none) >>= fun _=>updateSeq s.heap.objs.size (·.pop)) _ _ _;refine wpAny_bind (wpAny_updateSeq lh rfl ?_)
  have l2:=Heap.get?_update_self (Obj.mapSeq (·.push Value.none)) lh rfl
  refine wpAny_updateSeq (hz:=by seq_fits) l2 rfl ?_;have l3:=Heap.get?_update_self (Obj.mapSeq (·.pop)) l2 rfl
  have hsz2:((s.heap.push (seqObj "list" #[] 0)).push { cls:=.type "tuple",data:=.seq (ps.map fun i:Nat=>rawInt i).toArray }).objs.size=s.heap.objs.size+2:=by rw [size_push',hsz]
  have itI:IsIt (((s.heap.push (seqObj "list" #[] 0)).push { cls:=.type "tuple",data:=.seq (ps.map fun i:Nat=>rawInt i).toArray }).push { cls:=.type "set_iterator",data:=.fields #[.ref (s.heap.push (seqObj "list" #[] 0)).objs.size,.int 0 0,.ref S,.int es.size 0,.int ep 0] }) ((s.heap.push (seqObj "list" #[] 0)).objs.size+1) S (.ref (s.heap.push (seqObj "list" #[] 0)).objs.size) 0 es.size ep:=⟨_,by rw [← size_push' (s.heap.push (seqObj "list" #[] 0)) { cls:=.type "tuple",data:=.seq (ps.map fun i:Nat=>rawInt i).toArray }];exact Heap.get?_push_size _ rfl,rfl,rfl⟩
  have kU:=keepU (((s.heap.push (seqObj "list" #[] 0)).push { cls:=.type "tuple",data:=.seq (ps.map fun i:Nat=>rawInt i).toArray }).push { cls:=.type "set_iterator",data:=.fields #[.ref (s.heap.push (seqObj "list" #[] 0)).objs.size,.int 0 0,.ref S,.int es.size 0,.int ep 0] })
  have kp:∀ b o,s.heap.get? b=some o→b≠s.heap.objs.size→((((s.heap.push (seqObj "list" #[] 0)).push { cls:=.type "tuple",data:=.seq (ps.map fun i:Nat=>rawInt i).toArray }).push { cls:=.type "set_iterator",data:=.fields #[.ref (s.heap.push (seqObj "list" #[] 0)).objs.size,.int 0 0,.ref S,.int es.size 0,.int ep 0] }).update s.heap.objs.size (Obj.mapSeq (·.push Value.none)) |>.update s.heap.objs.size (Obj.mapSeq (·.pop))).get? b=some o:=fun b o e n=>kU b o n (Heap.get?_push_of_some _ (Heap.get?_push_of_some _ (Heap.get?_push_of_some _ e)))
  have hT1:s.heap.objs.size<(s.heap.push (seqObj "list" #[] 0)).objs.size:=by rw [hsz];exact Nat.lt_succ_self _
  have sU:=kU _ _ (Nat.ne_of_lt hSL) sh
  have tU:=kU _ _ (Nat.ne_of_gt hT1) th
  have itU:IsIt ((((s.heap.push (seqObj "list" #[] 0)).push { cls:=.type "tuple",data:=.seq (ps.map fun i:Nat=>rawInt i).toArray }).push { cls:=.type "set_iterator",data:=.fields #[.ref (s.heap.push (seqObj "list" #[] 0)).objs.size,.int 0 0,.ref S,.int es.size 0,.int ep 0] }).update s.heap.objs.size (Obj.mapSeq (·.push Value.none)) |>.update s.heap.objs.size (Obj.mapSeq (·.pop))) ((s.heap.push (seqObj "list" #[] 0)).objs.size+1) S (.ref (s.heap.push (seqObj "list" #[] 0)).objs.size) 0 es.size ep:=let ⟨oI,x1,x2⟩:=itI;⟨oI,kU _ _ (Nat.ne_of_gt (Nat.lt_succ_of_lt hT1)) x1,x2⟩
  generalize ((((s.heap.push (seqObj "list" #[] 0)).push { cls:=.type "tuple",data:=.seq (ps.map fun i:Nat=>rawInt i).toArray }).push { cls:=.type "set_iterator",data:=.fields #[.ref (s.heap.push (seqObj "list" #[] 0)).objs.size,.int 0 0,.ref S,.int es.size 0,.int ep 0] }).update s.heap.objs.size (Obj.mapSeq (·.push Value.none)) |>.update s.heap.objs.size (Obj.mapSeq (·.pop)))=H2 at l3 kp sU tU itU ⊢
  clear kU itI lh sh l2 th hsz2 hsz
  generalize (s.heap.push (seqObj "list" #[] 0)).objs.size=T at hT1 tU itU ⊢
  have hneS:S≠T+1:=Nat.ne_of_lt (Nat.lt_succ_of_lt (Nat.lt_trans hSL hT1))
  have hI:s.heap.objs.size<T+1:=Nat.lt_succ_of_lt hT1
  have hLf:s.heap.objs.size ∉ [T+1,S,T]:=by
   intro z
   rcases List.mem_cons.mp z with z | z
   ·exact absurd z (Nat.ne_of_lt hI)
   rcases List.mem_cons.mp z with z | z
   ·exact absurd z (Nat.ne_of_gt hSL)
   ·rw [List.mem_singleton] at z;exact absurd z (Nat.ne_of_lt hT1)
  have W:=walk_drawn (prog:=prog) (w:=w) (A:=A.in1) (I:=T+1) (S:=S) (T:=T) hh hneS (Nat.ne_of_lt (Nat.lt_succ_self _)) hd hf hps
  have hLp:(ps.map fun i=>es.getD i (0,.none)).Perm es.toList:=by
   refine (hps.map _).trans (.of_eq ?_)
   refine List.ext_getElem (by rw [List.length_map,List.length_range,Array.length_toList]) fun i g1 g2=>?_
   have gi:i<es.size:=by rwa [Array.length_toList] at g2
   rw [List.getElem_map,List.getElem_range,Array.getElem_toList]
   simp [Array.getD,gi]
  refine wpAny_pure ⟨plainId_quiet F.plain_extend_loop _,loop_set (s:={ s with heap:=H2,drawn:=d }) W hLf ⟨itU,sU,tU⟩ l3 hnz fun h' tk' acc c' kp' hL' hi=>?_⟩
  dsimp only
  refine wpAny_bind (wpAny_load hL' (wpAny_pure ?_))
  obtain ⟨ns,a1,a2⟩:=by_ints ha hLp hi
  exact q _ ns h' d tk' (fun b o e=>kp' b o (Nat.ne_of_lt (Heap.lt_size e)) (Nat.ne_of_lt (Nat.lt_trans (Heap.lt_size e) hI)) (kp b o e (Nat.ne_of_lt (Heap.lt_size e)))) (Heap.lt_size hL') a1 (a2.trans hp)
end
end SS
set_option maxHeartbeats 400000
namespace SS
open PySem PySem.Spec PyProof.Rows
section
variable {prog:Program}{w:World}{A:Around}{E:Value→Shared→Prop}{s:Shared}
theorem sorted_at {h:Heap}{a:Addr}{vs:List Value}{out:Array Value}{n:Nat} (ho:h.get? a=some (seqObj "list" vs.toArray n)):(∃ e,(sortedHeap h a vs out).get? a=some (seqObj "list" out e))∧∀ b o,b≠a→h.get? b=some o→(sortedHeap h a vs out).get? b=some o:=by
 unfold sortedHeap
 have g1:=get?_update_seq ho (fun _=>#[])
 have g2:=Heap.get?_push_of_some (seqObj "list" #[] 0) (Heap.get?_push_of_some (seqObj "tuple" vs.toArray 0) g1)
 exact ⟨⟨_,get?_update_seq g2 (fun _=>out)⟩,fun b o hb e=>(Heap.get?_update_other _ _ (Ne.symm hb)).trans (Heap.get?_push_of_some _ (Heap.get?_push_of_some _ ((Heap.get?_update_other _ _ (Ne.symm hb)).trans e)))⟩
theorem sorted_set {S:Addr}{ks:List Int}{Q:Value→Shared→Prop} (hh:A.handled=none) (g:GS prog w (led0 w) s.heap S ks) (h64:ks.length<64)
  (q:∀ h' d tk r out e ns',(∀ b o,s.heap.get? b=some o→h'.get? b=some o)→s.heap.objs.size≤r→h'.get? r=some (seqObj "list" out e)→IntsAre out.toList ns'→ns'.Perm ks→ns'.Pairwise (· ≤ ·)→Q (.ref r) { s with heap:=h',drawn:=d,toks:=tk }) :
  wpAny (model prog w) A (call (.builtin "sorted") [.ref S]) Q E s:=by
 refine Calls.call_function_entry kind_sorted plain_sorted entry_sorted (args_sorted1 _) ?_;unfold Builtin.«sorted»;refine wpAny_bind (m:=checkCount "sorted" 1 1 _) (wpAny_pure ?_)
 refine wpAny_bind (collect_set (by first | exact hh | simpa using hh) g (by omega) fun vs ns h' d tk kp hlt a1 a2=>?_)
 have hvl:vs.length<64:=by rw [IntsAre.length a1,a2.length_eq];exact h64
 refine wpAny_bind (wpAny_newList ?_ (by rw [sizeLine_eq];omega))
 have hoL:(h'.push (seqObj "list" vs.toArray 0)).get? h'.objs.size=some (seqObj "list" vs.toArray 0):=Heap.get?_push_size _ rfl
 show wpAny _ _ _ _ _ { s with heap:=h'.push (seqObj "list" vs.toArray 0),drawn:=d,toks:=tk }
 refine wpAny_bind (wpAny_holding (wpAny_call_entry slot_list_sort ⟨_,hoL,rfl⟩ entry_list_sort (list_sort_tree hoL a1 hvl fun out ns' b1 b2 b3=>⟨_,rfl,wpAny_pure ⟨_,rfl,?_⟩⟩) (args_list_sort _)))
 obtain ⟨⟨e,at_⟩,old⟩:=sorted_at (out:=out) hoL
 exact q _ d tk _ out e ns' (fun b o x=>old b o (Nat.ne_of_lt (Nat.lt_trans (Heap.lt_size x) hlt)) (Heap.get?_push_of_some _ (kp b o x))) (Nat.le_of_lt hlt) at_ b1 (b2.trans a2) b3
end
end SS
set_option maxHeartbeats 4000000
namespace L2
open PySem PySem.Spec PyProof.Rows
theorem Inv.draw {X:Cx}{pins:List (Addr × Obj)}{σ:St}{H:Hp}{s:Shared} (I:Inv X pins σ H s) (d:Drawn):Inv X pins σ H { s with drawn:=d }:=⟨I.ok,I.os,I.bare,I.base,I.loc,I.cell,I.free,I.freeC,I.pin,I.hok,I.len⟩
def cSortSet (K:PySem.W.Frag) (t:TA):TE:=fun σ H Q=>t σ H fun vs H1=>match vs with
 | [.ref p]=>∃ ns:List Int,SqL K H1 p (ns.map V.int)∧ns.length<64∧∀ (ns':List Int) (l:Addr) (H':Hp),ns'.Pairwise (· < ·)→(∀ x,x∈ns' ↔ x∈ns)→ns'.length≤ns.length→New H1 l (.lst (ns'.map V.int)) H'→Q (.ref l) H'
 | _=>False
theorem e_sortset {X:Cx}{ea:Expr}{t:TA}{p1 p2 p3 p4:Pos} (hc:X.calm=true) (hg1:Gl X "sorted") (hg2:Gl X "set") (hm1:X.mg "sorted" = none) (hm2:X.mg "set" = none) (ha:PA X [ea] t)
  (he:starEach [ea] X.env=(false,eval ea X.env) :: starEach [] X.env:=by rfl) (hpl:(backTo p3 (starEach [] X.env)).any (·.1)=false:=by rfl)
  (he2:starEach [Expr.Call (.Name "set" p2) [ea] [] p3] X.env=(false,eval (Expr.Call (.Name "set" p2) [ea] [] p3) X.env) :: starEach [] X.env:=by rfl) (hpl2:(backTo p4 (starEach [] X.env)).any (·.1)=false:=by rfl) :
  PE X (.Call (.Name "sorted" p1) [.Call (.Name "set" p2) [ea] [] p3] [] p4) (cSortSet X.K t):=by
 intro pins s σ H Q I h
 refine wpAny_Call_Name_kw (ld_blt I hg1 hm1 PyProof.Rows.boot_sorted ?_ (by decide) (by decide))
 refine PyProof.Rows.callWith_builtin1 ?_ he2 hpl2
 rw [he2]
 show wpAny _ _ (spliced ((false,eval (Expr.Call (.Name "set" p2) [ea] [] p3) X.env) :: backTo p4 (starEach [] X.env))) _ _ s
 refine Calls.spliced_cons ?_
 refine wpAny_Call_Name_kw (ld_blt I hg2 hm2 PyProof.Rows.boot_set ?_ (by decide) (by decide))
 refine PyProof.Rows.callWith_type1 (thn (ha p3 pins s σ H _ I h) fun us s1 ⟨vs,H1,I1,r1,q1⟩=>?_) he hpl
 match vs,q1 with
 | [.ref p],q1 =>
  obtain ⟨ns,hq,h64,q⟩:=q1
  obtain ⟨u,rfl,rx⟩:=vals1 r1
  cases rx
  obtain ⟨its,r',pl,hz⟩:=I1.list hq
  have hlen:=r'.length
  rw [List.length_map] at hlen
  obtain ⟨f1,f2,f3⟩:=SS.dds_facts ns
  refine SS.call_set (s:=s1) (I.ok.hd hc) pl.isList (by simpa using intsAre_of r') (by unfold scanBound;omega) fun h2 t2 g2 k2=>Calls.spliced_nil ?_
  have I2:Inv X pins σ H1 { s1 with heap:=h2,toks:=t2 }:=I1.kept fun b o e=>k2 b o (Heap.lt_size e) e
  refine SS.sorted_set (s:={ s1 with heap:=h2,toks:=t2 }) (I.ok.hd hc) g2 (by omega) fun h3 d3 t3 r out e ns' k3 hr at3 b1 b2 b3=>?_
  have hsl:(64:Nat)≤sizeLine:=by decide
  have hl3:ns'.length=(SS.dds ns).length:=b2.length_eq
  have I3:=(I2.laid (a:=r) (o:=.lst (ns'.map V.int)) (h':=h3) (t':=t3) k3 hr ⟨by rw [List.length_map];omega,out.toList,e,vals_ints b1,by rw [Array.toArray_toList];exact at3⟩).draw d3
  refine ⟨.ref r,_,I3,rfl,q ns' r _ ?_ (fun x=>by rw [b2.mem_iff,f2]) (by omega) ⟨I2.hok.fresh hr,rfl⟩⟩
  exact List.Pairwise.imp₂ (fun a b h1 h2=>by omega) b3 (b2.nodup_iff.mpr f1)
end L2
set_option maxHeartbeats 4000000
namespace K34
open PySem PySem.Spec PyProof.Rows L2
def top (i:Nat):Stmt:=PySem.Challenge.pw_gatefold_k34_board_made.main.body.getD i (.Pass ⟨0,0,0,0⟩)
abbrev s_full_column:Stmt:=top 2
abbrev N_full_column:List Str:=["many"]
theorem sc_full_column:FnScope N_full_column ["many"] (defScope s_full_column):=⟨rfl,rfl,rfl,by decide +kernel,rfl,by decide +kernel,by decide +kernel⟩
abbrev s_is_whole:Stmt:=top 16
abbrev N_is_whole:List Str:=["thing"]
theorem sc_is_whole:FnScope N_is_whole ["thing"] (defScope s_is_whole):=⟨rfl,rfl,rfl,by decide +kernel,rfl,by decide +kernel,by decide +kernel⟩
abbrev s_is_between:Stmt:=top 17
abbrev N_is_between:List Str:=["thing","least","greatest"]
theorem sc_is_between:FnScope N_is_between ["thing","least","greatest"] (defScope s_is_between):=⟨rfl,rfl,rfl,by decide +kernel,rfl,by decide +kernel,by decide +kernel⟩
abbrev s_is_rising:Stmt:=top 18
abbrev N_is_rising:List Str:=["numbers"]
theorem sc_is_rising:FnScope N_is_rising ["numbers"] (defScope s_is_rising):=⟨rfl,rfl,rfl,by decide +kernel,rfl,by decide +kernel,by decide +kernel⟩
abbrev s_is_cut_of:Stmt:=top 23
abbrev N_is_cut_of:List Str:=["cut","lowers"]
theorem sc_is_cut_of:FnScope N_is_cut_of ["cut","lowers"] (defScope s_is_cut_of):=⟨rfl,rfl,rfl,by decide +kernel,rfl,by decide +kernel,by decide +kernel⟩
abbrev s_need_pieces:Stmt:=top 24
abbrev N_need_pieces:List Str:=["many","pieces","lowers","top","knot","cut","table"]
theorem sc_need_pieces:FnScope N_need_pieces ["many","pieces"] (defScope s_need_pieces):=⟨rfl,rfl,rfl,by decide +kernel,rfl,by decide +kernel,by decide +kernel⟩
abbrev s_need_ties:Stmt:=top 25
abbrev N_need_ties:List Str:=["ties","lowers","tie"]
theorem sc_need_ties:FnScope N_need_ties ["ties","lowers"] (defScope s_need_ties):=⟨rfl,rfl,rfl,by decide +kernel,rfl,by decide +kernel,by decide +kernel⟩
abbrev s_Board___init__:Stmt:=inClass (top 26) 0
abbrev N_Board___init__:List Str:=["self","many","pieces","ties"]
theorem sc_Board___init__:FnScope N_Board___init__ ["self","many","pieces","ties"] (defScope s_Board___init__):=⟨rfl,rfl,rfl,by decide +kernel,rfl,by decide +kernel,by decide +kernel⟩
abbrev s_Board_pieces:Stmt:=inClass (top 26) 1
abbrev N_Board_pieces:List Str:=["self"]
theorem sc_Board_pieces:FnScope N_Board_pieces ["self"] (defScope s_Board_pieces):=⟨rfl,rfl,rfl,by decide +kernel,rfl,by decide +kernel,by decide +kernel⟩
abbrev s_Board_ties:Stmt:=inClass (top 26) 2
abbrev N_Board_ties:List Str:=["self"]
theorem sc_Board_ties:FnScope N_Board_ties ["self"] (defScope s_Board_ties):=⟨rfl,rfl,rfl,by decide +kernel,rfl,by decide +kernel,by decide +kernel⟩
abbrev s_law_cell_at:Stmt:=top 28
abbrev N_law_cell_at:List Str:=["_law_script","_law_k"]
theorem sc_law_cell_at:FnScope N_law_cell_at ["_law_script","_law_k"] (defScope s_law_cell_at):=⟨rfl,rfl,rfl,by decide +kernel,rfl,by decide +kernel,by decide +kernel⟩
abbrev s_law_cut:Stmt:=top 29
abbrev N_law_cut:List Str:=["_law_cell","_law_there","_law_count","_law_step","_law_found"]
theorem sc_law_cut:FnScope N_law_cut ["_law_cell","_law_there"] (defScope s_law_cut):=⟨rfl,rfl,rfl,by decide +kernel,rfl,by decide +kernel,by decide +kernel⟩
abbrev s_law_piece:Stmt:=top 30
abbrev N_law_piece:List Str:=["_law_cell","_law_there","_law_knot","_law_count","_law_found","_law_k","_law_cut_here"]
theorem sc_law_piece:FnScope N_law_piece ["_law_cell","_law_there"] (defScope s_law_piece):=⟨rfl,rfl,rfl,by decide +kernel,rfl,by decide +kernel,by decide +kernel⟩
abbrev s_law_pieces:Stmt:=top 31
abbrev N_law_pieces:List Str:=["_law_cells","_law_many","_law_there","_law_made","_law_cell","_law_knot","_law_cut_here","_law_bits"]
theorem sc_law_pieces:FnScope N_law_pieces ["_law_cells","_law_many"] (defScope s_law_pieces):=⟨rfl,rfl,rfl,by decide +kernel,rfl,by decide +kernel,by decide +kernel⟩
abbrev s_law_ties:Stmt:=top 32
abbrev N_law_ties:List Str:=["_law_cell","_law_many","_law_pieces_here","_law_there","_law_made","_law_k","_law_at"]
theorem sc_law_ties:FnScope N_law_ties ["_law_cell","_law_many","_law_pieces_here"] (defScope s_law_ties):=⟨rfl,rfl,rfl,by decide +kernel,rfl,by decide +kernel,by decide +kernel⟩
abbrev s_law_copy:Stmt:=top 33
abbrev N_law_copy:List Str:=["_law_pieces_here"]
theorem sc_law_copy:FnScope N_law_copy ["_law_pieces_here"] (defScope s_law_copy):=⟨rfl,rfl,rfl,by decide +kernel,rfl,by decide +kernel,by decide +kernel⟩
abbrev s_law_whole:Stmt:=top 34
abbrev N_law_whole:List Str:=["_law_found"]
theorem sc_law_whole:FnScope N_law_whole ["_law_found"] (defScope s_law_whole):=⟨rfl,rfl,rfl,by decide +kernel,rfl,by decide +kernel,by decide +kernel⟩
abbrev s_law_told:Stmt:=top 35
abbrev N_law_told:List Str:=["_law_board","_law_many","_law_pieces_here","_law_ties_here","_law_found","_law_ends","_law_piece_here"]
theorem sc_law_told:FnScope N_law_told ["_law_board","_law_many","_law_pieces_here","_law_ties_here"] (defScope s_law_told):=⟨rfl,rfl,rfl,by decide +kernel,rfl,by decide +kernel,by decide +kernel⟩
abbrev s_law_no_number:Stmt:=top 36
abbrev N_law_no_number:List Str:=["_law_cell"]
theorem sc_law_no_number:FnScope N_law_no_number ["_law_cell"] (defScope s_law_no_number):=⟨rfl,rfl,rfl,by decide +kernel,rfl,by decide +kernel,by decide +kernel⟩
abbrev s_law_wrong_knot:Stmt:=top 37
abbrev N_law_wrong_knot:List Str:=["_law_last","_law_many","_law_cell","_law_far"]
theorem sc_law_wrong_knot:FnScope N_law_wrong_knot ["_law_last","_law_many","_law_cell"] (defScope s_law_wrong_knot):=⟨rfl,rfl,rfl,by decide +kernel,rfl,by decide +kernel,by decide +kernel⟩
abbrev s_law_wrong_cut:Stmt:=top 38
abbrev N_law_wrong_cut:List Str:=["_law_cut_here","_law_knot","_law_cell","_law_far","_law_number"]
theorem sc_law_wrong_cut:FnScope N_law_wrong_cut ["_law_cut_here","_law_knot","_law_cell"] (defScope s_law_wrong_cut):=⟨rfl,rfl,rfl,by decide +kernel,rfl,by decide +kernel,by decide +kernel⟩
abbrev s_law_wrong_tie:Stmt:=top 39
abbrev N_law_wrong_tie:List Str:=["_law_many","_law_pieces_here","_law_cell","_law_knots","_law_absent","_law_far"]
theorem sc_law_wrong_tie:FnScope N_law_wrong_tie ["_law_many","_law_pieces_here","_law_cell"] (defScope s_law_wrong_tie):=⟨rfl,rfl,rfl,by decide +kernel,rfl,by decide +kernel,by decide +kernel⟩
abbrev s_law_spoilt:Stmt:=top 40
abbrev N_law_spoilt:List Str:=["_law_many","_law_pieces_here","_law_ties_here","_law_way","_law_cell","_law_made","_law_ends","_law_far","_law_at","_law_rest","_law_knot","_law_cut_here","_law_told_here","_law_last"]
theorem sc_law_spoilt:FnScope N_law_spoilt ["_law_many","_law_pieces_here","_law_ties_here","_law_way","_law_cell"] (defScope s_law_spoilt):=⟨rfl,rfl,rfl,by decide +kernel,rfl,by decide +kernel,by decide +kernel⟩
abbrev s_law_refused:Stmt:=top 41
abbrev N_law_refused:List Str:=["_law_many","_law_pieces_here","_law_ties_here","_law_refused_here","_law_alone","e"]
theorem sc_law_refused:FnScope N_law_refused ["_law_many","_law_pieces_here","_law_ties_here"] (defScope s_law_refused):=⟨rfl,rfl,rfl,by decide +kernel,rfl,by decide +kernel,by decide +kernel⟩
abbrev s_law:Stmt:=top 42
abbrev N_law:List Str:=["_law_script","_law_many","_law_pieces_here","_law_ties_here","_law_way","_law_handed","_law_board","_law_piece_here","_law_wrong"]
theorem sc_law:FnScope N_law ["_law_script"] (defScope s_law):=⟨rfl,rfl,rfl,by decide +kernel,rfl,by decide +kernel,by decide +kernel⟩
structure Adr where
 f_full_column:Addr
 d_full_column:FuncData
 f_is_whole:Addr
 d_is_whole:FuncData
 f_is_between:Addr
 d_is_between:FuncData
 f_is_rising:Addr
 d_is_rising:FuncData
 f_is_cut_of:Addr
 d_is_cut_of:FuncData
 f_need_pieces:Addr
 d_need_pieces:FuncData
 f_need_ties:Addr
 d_need_ties:FuncData
 f_Board___init__:Addr
 d_Board___init__:FuncData
 f_Board_pieces:Addr
 d_Board_pieces:FuncData
 f_Board_ties:Addr
 d_Board_ties:FuncData
 f_law_cell_at:Addr
 d_law_cell_at:FuncData
 f_law_cut:Addr
 d_law_cut:FuncData
 f_law_piece:Addr
 d_law_piece:FuncData
 f_law_pieces:Addr
 d_law_pieces:FuncData
 f_law_ties:Addr
 d_law_ties:FuncData
 f_law_copy:Addr
 d_law_copy:FuncData
 f_law_whole:Addr
 d_law_whole:FuncData
 f_law_told:Addr
 d_law_told:FuncData
 f_law_no_number:Addr
 d_law_no_number:FuncData
 f_law_wrong_knot:Addr
 d_law_wrong_knot:FuncData
 f_law_wrong_cut:Addr
 d_law_wrong_cut:FuncData
 f_law_wrong_tie:Addr
 d_law_wrong_tie:FuncData
 f_law_spoilt:Addr
 d_law_spoilt:FuncData
 f_law_refused:Addr
 d_law_refused:FuncData
 f_law:Addr
 d_law:FuncData
 c_Board:Addr
 c_FoldError:Addr
 c_NoBoard:Addr
 c_NoCut:Addr
 c_NoGoal:Addr
 c_NoKnot:Addr
 c_NoLine:Addr
 c_NoMatch:Addr
 c_NoName:Addr
 c_NoSize:Addr
 c_NoText:Addr
 c_NoTie:Addr
def gv_GREATEST_KNOT (_:Adr):V:=.int 999
def gv_LONGEST_CUT (_:Adr):V:=.int 6
def gv_MOST_INPUTS (_:Adr):V:=.int 10
structure Txt (K:PySem.W.Frag) (mg:Str→Option Value) (a:Adr):Prop where
 mg_full_column:mg "full_column" = some (.ref a.f_full_column)
 fn_full_column:Fun K "full_column" "full_column" s_full_column a.f_full_column a.d_full_column
 bi_full_column:Binds K a.d_full_column ["many"] []
 mg_is_whole:mg "is_whole" = some (.ref a.f_is_whole)
 fn_is_whole:Fun K "is_whole" "is_whole" s_is_whole a.f_is_whole a.d_is_whole
 bi_is_whole:Binds K a.d_is_whole ["thing"] []
 mg_is_between:mg "is_between" = some (.ref a.f_is_between)
 fn_is_between:Fun K "is_between" "is_between" s_is_between a.f_is_between a.d_is_between
 bi_is_between:Binds K a.d_is_between ["thing","least","greatest"] []
 mg_is_rising:mg "is_rising" = some (.ref a.f_is_rising)
 fn_is_rising:Fun K "is_rising" "is_rising" s_is_rising a.f_is_rising a.d_is_rising
 bi_is_rising:Binds K a.d_is_rising ["numbers"] []
 mg_is_cut_of:mg "is_cut_of" = some (.ref a.f_is_cut_of)
 fn_is_cut_of:Fun K "is_cut_of" "is_cut_of" s_is_cut_of a.f_is_cut_of a.d_is_cut_of
 bi_is_cut_of:Binds K a.d_is_cut_of ["cut","lowers"] []
 mg_need_pieces:mg "need_pieces" = some (.ref a.f_need_pieces)
 fn_need_pieces:Fun K "need_pieces" "need_pieces" s_need_pieces a.f_need_pieces a.d_need_pieces
 bi_need_pieces:Binds K a.d_need_pieces ["many","pieces"] []
 mg_need_ties:mg "need_ties" = some (.ref a.f_need_ties)
 fn_need_ties:Fun K "need_ties" "need_ties" s_need_ties a.f_need_ties a.d_need_ties
 bi_need_ties:Binds K a.d_need_ties ["ties","lowers"] []
 fn_Board___init__:Fun K "__init__" "Board.__init__" s_Board___init__ a.f_Board___init__ a.d_Board___init__
 bi_Board___init__:Binds K a.d_Board___init__ ["self","many","pieces","ties"] []
 fn_Board_pieces:Fun K "pieces" "Board.pieces" s_Board_pieces a.f_Board_pieces a.d_Board_pieces
 bi_Board_pieces:Binds K a.d_Board_pieces ["self"] []
 me_Board_pieces:Meth K a.c_Board "pieces" a.f_Board_pieces
 fn_Board_ties:Fun K "ties" "Board.ties" s_Board_ties a.f_Board_ties a.d_Board_ties
 bi_Board_ties:Binds K a.d_Board_ties ["self"] []
 me_Board_ties:Meth K a.c_Board "ties" a.f_Board_ties
 mg_law_cell_at:mg "_law_cell_at" = some (.ref a.f_law_cell_at)
 fn_law_cell_at:Fun K "_law_cell_at" "_law_cell_at" s_law_cell_at a.f_law_cell_at a.d_law_cell_at
 bi_law_cell_at:Binds K a.d_law_cell_at ["_law_script","_law_k"] []
 mg_law_cut:mg "_law_cut" = some (.ref a.f_law_cut)
 fn_law_cut:Fun K "_law_cut" "_law_cut" s_law_cut a.f_law_cut a.d_law_cut
 bi_law_cut:Binds K a.d_law_cut ["_law_cell","_law_there"] []
 mg_law_piece:mg "_law_piece" = some (.ref a.f_law_piece)
 fn_law_piece:Fun K "_law_piece" "_law_piece" s_law_piece a.f_law_piece a.d_law_piece
 bi_law_piece:Binds K a.d_law_piece ["_law_cell","_law_there"] []
 mg_law_pieces:mg "_law_pieces" = some (.ref a.f_law_pieces)
 fn_law_pieces:Fun K "_law_pieces" "_law_pieces" s_law_pieces a.f_law_pieces a.d_law_pieces
 bi_law_pieces:Binds K a.d_law_pieces ["_law_cells","_law_many"] []
 mg_law_ties:mg "_law_ties" = some (.ref a.f_law_ties)
 fn_law_ties:Fun K "_law_ties" "_law_ties" s_law_ties a.f_law_ties a.d_law_ties
 bi_law_ties:Binds K a.d_law_ties ["_law_cell","_law_many","_law_pieces_here"] []
 mg_law_copy:mg "_law_copy" = some (.ref a.f_law_copy)
 fn_law_copy:Fun K "_law_copy" "_law_copy" s_law_copy a.f_law_copy a.d_law_copy
 bi_law_copy:Binds K a.d_law_copy ["_law_pieces_here"] []
 mg_law_whole:mg "_law_whole" = some (.ref a.f_law_whole)
 fn_law_whole:Fun K "_law_whole" "_law_whole" s_law_whole a.f_law_whole a.d_law_whole
 bi_law_whole:Binds K a.d_law_whole ["_law_found"] []
 mg_law_told:mg "_law_told" = some (.ref a.f_law_told)
 fn_law_told:Fun K "_law_told" "_law_told" s_law_told a.f_law_told a.d_law_told
 bi_law_told:Binds K a.d_law_told ["_law_board","_law_many","_law_pieces_here","_law_ties_here"] []
 mg_law_no_number:mg "_law_no_number" = some (.ref a.f_law_no_number)
 fn_law_no_number:Fun K "_law_no_number" "_law_no_number" s_law_no_number a.f_law_no_number a.d_law_no_number
 bi_law_no_number:Binds K a.d_law_no_number ["_law_cell"] []
 mg_law_wrong_knot:mg "_law_wrong_knot" = some (.ref a.f_law_wrong_knot)
 fn_law_wrong_knot:Fun K "_law_wrong_knot" "_law_wrong_knot" s_law_wrong_knot a.f_law_wrong_knot a.d_law_wrong_knot
 bi_law_wrong_knot:Binds K a.d_law_wrong_knot ["_law_last","_law_many","_law_cell"] []
 mg_law_wrong_cut:mg "_law_wrong_cut" = some (.ref a.f_law_wrong_cut)
 fn_law_wrong_cut:Fun K "_law_wrong_cut" "_law_wrong_cut" s_law_wrong_cut a.f_law_wrong_cut a.d_law_wrong_cut
 bi_law_wrong_cut:Binds K a.d_law_wrong_cut ["_law_cut_here","_law_knot","_law_cell"] []
 mg_law_wrong_tie:mg "_law_wrong_tie" = some (.ref a.f_law_wrong_tie)
 fn_law_wrong_tie:Fun K "_law_wrong_tie" "_law_wrong_tie" s_law_wrong_tie a.f_law_wrong_tie a.d_law_wrong_tie
 bi_law_wrong_tie:Binds K a.d_law_wrong_tie ["_law_many","_law_pieces_here","_law_cell"] []
 mg_law_spoilt:mg "_law_spoilt" = some (.ref a.f_law_spoilt)
 fn_law_spoilt:Fun K "_law_spoilt" "_law_spoilt" s_law_spoilt a.f_law_spoilt a.d_law_spoilt
 bi_law_spoilt:Binds K a.d_law_spoilt ["_law_many","_law_pieces_here","_law_ties_here","_law_way","_law_cell"] []
 mg_law_refused:mg "_law_refused" = some (.ref a.f_law_refused)
 fn_law_refused:Fun K "_law_refused" "_law_refused" s_law_refused a.f_law_refused a.d_law_refused
 bi_law_refused:Binds K a.d_law_refused ["_law_many","_law_pieces_here","_law_ties_here"] []
 mg_law:mg "law" = some (.ref a.f_law)
 fn_law:Fun K "law" "law" s_law a.f_law a.d_law
 bi_law:Binds K a.d_law ["_law_script"] []
 mg_Board:mg "Board" = some (.ref a.c_Board)
 cl_Board:Cls K a.c_Board
 mk_Board:Mk K a.c_Board a.f_Board___init__
 na_Board_many:NoAttr K a.c_Board "many"
 na_Board_kept_pieces:NoAttr K a.c_Board "kept_pieces"
 na_Board_kept_ties:NoAttr K a.c_Board "kept_ties"
 mg_FoldError:mg "FoldError" = some (.ref a.c_FoldError)
 mg_NoBoard:mg "NoBoard" = some (.ref a.c_NoBoard)
 mg_NoCut:mg "NoCut" = some (.ref a.c_NoCut)
 mg_NoGoal:mg "NoGoal" = some (.ref a.c_NoGoal)
 mg_NoKnot:mg "NoKnot" = some (.ref a.c_NoKnot)
 mg_NoLine:mg "NoLine" = some (.ref a.c_NoLine)
 mg_NoMatch:mg "NoMatch" = some (.ref a.c_NoMatch)
 mg_NoName:mg "NoName" = some (.ref a.c_NoName)
 mg_NoSize:mg "NoSize" = some (.ref a.c_NoSize)
 mg_NoText:mg "NoText" = some (.ref a.c_NoText)
 mg_NoTie:mg "NoTie" = some (.ref a.c_NoTie)
 xi_NoBoard:PySem.W.excIn K a.c_NoBoard [.type "ValueError",.type "Exception",.type "BaseException",.type "object"] "ValueError.__new__" = true
 xq_NoBoard:exq K a.c_NoBoard=true
 kv_NoBoard:PySem.W.kitOne K (.ref a.c_NoBoard) (.type "ValueError")=some true
 xm_NoBoard_FoldError:(L2.mroIn K a.c_NoBoard).contains (.ref a.c_FoldError)=true
 xm_NoBoard_NoBoard:(L2.mroIn K a.c_NoBoard).contains (.ref a.c_NoBoard)=true
 ko_NoBoard_NoBoard:PySem.W.kitOne K (.ref a.c_NoBoard) (.ref a.c_NoBoard)=some true
 ko_NoBoard_NoCut:PySem.W.kitOne K (.ref a.c_NoBoard) (.ref a.c_NoCut)=some false
 ko_NoBoard_NoGoal:PySem.W.kitOne K (.ref a.c_NoBoard) (.ref a.c_NoGoal)=some false
 ko_NoBoard_NoKnot:PySem.W.kitOne K (.ref a.c_NoBoard) (.ref a.c_NoKnot)=some false
 ko_NoBoard_NoLine:PySem.W.kitOne K (.ref a.c_NoBoard) (.ref a.c_NoLine)=some false
 ko_NoBoard_NoMatch:PySem.W.kitOne K (.ref a.c_NoBoard) (.ref a.c_NoMatch)=some false
 ko_NoBoard_NoName:PySem.W.kitOne K (.ref a.c_NoBoard) (.ref a.c_NoName)=some false
 ko_NoBoard_NoSize:PySem.W.kitOne K (.ref a.c_NoBoard) (.ref a.c_NoSize)=some false
 ko_NoBoard_NoText:PySem.W.kitOne K (.ref a.c_NoBoard) (.ref a.c_NoText)=some false
 ko_NoBoard_NoTie:PySem.W.kitOne K (.ref a.c_NoBoard) (.ref a.c_NoTie)=some false
 xk_FoldError:PySem.W.ktsIn K a.c_FoldError "BaseException" = true
 xk_NoBoard:PySem.W.ktsIn K a.c_NoBoard "BaseException" = true
 gx_GREATEST_KNOT:∃ u,mg "GREATEST_KNOT" = some u∧RelV (gv_GREATEST_KNOT a) u
 gx_LONGEST_CUT:∃ u,mg "LONGEST_CUT" = some u∧RelV (gv_LONGEST_CUT a) u
 gx_MOST_INPUTS:∃ u,mg "MOST_INPUTS" = some u∧RelV (gv_MOST_INPUTS a) u
 no_ValueError:mg "ValueError" = none
 no_all:mg "all" = none
 no_bool:mg "bool" = none
 no_dict:mg "dict" = none
 no_int:mg "int" = none
 no_isinstance:mg "isinstance" = none
 no_len:mg "len" = none
 no_list:mg "list" = none
 no_min:mg "min" = none
 no_range:mg "range" = none
 no_set:mg "set" = none
 no_sorted:mg "sorted" = none
 no_tuple:mg "tuple" = none
 no_zip:mg "zip" = none
seal PE PT PS PSs PA PG PGs PI PO PW PTs PPs PK PC PSet PIp OpR UnR CallR IxR SlR MtR MtM tMid
local macro_rules | `(tactic| walk_at "go")=>`(tactic| try simp only [tSeq,tAsg,gName,gTup,gCons,gNil,gSub,tOp,tC,cVar,cI2,cI2c,cAdd,cMul,cEq,cNe,cIn,cBool,cTst,cTru,cChain,tRet,tWhile,tDrop,tIfS,tCall,tCons,tNil,tNext,tCB,cLen,cIsinst,cMin,cAll,tNot,tOr,tAnd,cAndV,cNotV,tUn,cNeg,tFor_list,tFor_tup,tFor_rng1,tFor_rng2,tComp_list,tComp_tup,tComp_rng1,tComp_zip,cRef,cInt1,cInt2,cIx,tSl,cSlU,cPart,tNoPart,tVals,tLst_n,tTup_n,cList_n,cTuple_n,tDIn,tDNotIn,sDPut,tBM,tBM0,tMake,tMeth,tFld,sFld,tyV,tComp_rng2,cSortSet,tRaise,tTry,tHd,tAs,tNoH,tMakeX,cIsX,cDictP,tFor_zip,List.append_nil,List.cons_append,List.nil_append,List.getElem?_cons_zero,List.getElem?_cons_succ,List.set_cons_zero,List.set_cons_succ,decide_eq_true_eq,if_true,if_false,Bool.false_eq_true,eq_self,decide_true,decide_false,Bool.not_true,Bool.not_false,Bool.not_eq_true',decide_eq_false_iff_not,Bool.and_true,Bool.true_and])
local macro_rules | `(tactic| walk_at "sd")=>`(tactic| first | exact And.intro (by decide) (by decide) | decide | omega | exact Or.inl (And.intro (by omega) (by omega)) | exact Or.inr (And.intro (by omega) (by omega)) | exact And.intro (by omega) (And.intro (by omega) (by decide)) | exact And.intro (by omega) (by omega))
local macro_rules | `(tactic| walk_at "gs")=>`(tactic| (walk_at "go";repeat (first | (refine And.intro (by walk_at "sd") ?_;walk_at "go"))))
local macro_rules | `(tactic| walk_at "o")=>`(tactic| first | exact Or.inl rfl | exact Or.inr rfl)
variable {P:Program}{w:World}{K:PySem.W.Frag}{mg:Str→Option Value}{base:Heap}{a:Adr}
abbrev Pc:=Int × List Int × Int
structure PLst (H:Hp) (l:Addr) (ts:List (Addr × Addr)) (ps:List Pc):Prop where
 lst:H l=some (.lst (ts.map fun t=>V.ref t.1))
 len:ts.length=ps.length
 at_:∀ (i:Nat) t p,ts[i]? = some t→ps[i]? = some p→H t.1=some (.tup [.int p.1,.ref t.2,.int p.2.2])∧H t.2=some (.lst (p.2.1.map V.int))
structure PTup (H:Hp) (l:Addr) (ts:List (Addr × Addr)) (ps:List Pc):Prop where
 tup:H l=some (.tup (ts.map fun t=>V.ref t.1))
 len:ts.length=ps.length
 at_:∀ (i:Nat) t p,ts[i]? = some t→ps[i]? = some p→H t.1=some (.tup [.int p.1,.ref t.2,.int p.2.2])∧H t.2=some (.tup (p.2.1.map V.int))
theorem PLst.same {H H':Hp}{l:Addr}{ts:List (Addr × Addr)}{ps:List Pc} (h:PLst H l ts ps) (s:Same H H'):PLst H' l ts ps :=
 ⟨s _ _ h.lst,h.len,fun i t p ht hp=>⟨s _ _ (h.at_ i t p ht hp).1,s _ _ (h.at_ i t p ht hp).2⟩⟩
def NL (H H':Hp):Prop:=∀ b o,(∀ xs,o≠HO.lst xs)→H b=some o→H' b=some o
theorem NL.of {H H':Hp} (s:Same H H'):NL H H':=fun b o _ e=>s b o e
theorem NL.trans {H H' H1:Hp} (s:NL H H') (t:NL H' H1):NL H H1:=fun b o n e=>t b o n (s b o n e)
theorem NL.upd {H:Hp}{a:Addr}{xs:List V}{o:HO} (h:H a=some (.lst xs)):NL H (upd H a o):=fun b o' n e=>by
 have:b≠a:=fun z=>by subst z;rw [h] at e;cases e;exact n xs rfl
 rw [upd_ne this];exact e
theorem PTup.nl {H H':Hp}{l:Addr}{ts:List (Addr × Addr)}{ps:List Pc} (h:PTup H l ts ps) (s:NL H H'):PTup H' l ts ps :=
 ⟨s _ _ (fun _ z=>nomatch z) h.tup,h.len,fun i t p ht hp=>⟨s _ _ (fun _ z=>nomatch z) (h.at_ i t p ht hp).1,s _ _ (fun _ z=>nomatch z) (h.at_ i t p ht hp).2⟩⟩
theorem PLst.get {H:Hp}{l:Addr}{ts:List (Addr × Addr)}{ps:List Pc} (h:PLst H l ts ps) {i:Nat} (hi:i<ts.length):∃ p,ps[i]? = some p∧H (ts[i]).1=some (.tup [.int p.1,.ref (ts[i]).2,.int p.2.2])∧H (ts[i]).2=some (.lst (p.2.1.map V.int)):=by
 have hp:ps[i]? = some (ps[i]'(by rw [← h.len];exact hi)):=List.getElem?_eq_getElem _
 exact ⟨_,hp,h.at_ i _ _ (List.getElem?_eq_getElem hi) hp⟩
theorem PTup.get {H:Hp}{l:Addr}{ts:List (Addr × Addr)}{ps:List Pc} (h:PTup H l ts ps) {i:Nat} (hi:i<ts.length):∃ p,ps[i]? = some p∧H (ts[i]).1=some (.tup [.int p.1,.ref (ts[i]).2,.int p.2.2])∧H (ts[i]).2=some (.tup (p.2.1.map V.int)):=by
 have hp:ps[i]? = some (ps[i]'(by rw [← h.len];exact hi)):=List.getElem?_eq_getElem _
 exact ⟨_,hp,h.at_ i _ _ (List.getElem?_eq_getElem hi) hp⟩
theorem ref_at (ts:List (Addr × Addr)) {i:Nat} (hi:i<ts.length):(ts.map fun t=>V.ref t.1).getD i .non=.ref (ts[i]).1:=by
 rw [List.getD_eq_getElem?_getD,List.getElem?_map,List.getElem?_eq_getElem hi]
 rfl
def known (m:Nat) (ps:List Pc):List Int:=((List.range m).map fun i:Nat=>1+(i:Int)) ++ ps.map (·.1)
def topK (m:Nat) (ps:List Pc):Int:=(ps.map (·.1)).getLastD m
structure WPc (m:Nat) (ps:List Pc) (p:Pc):Prop where
 up:topK m ps<p.1
 hi:p.1≤999
 l1:1≤p.2.1.length
 l6:p.2.1.length≤6
 ris:p.2.1.Pairwise (· < ·)
 kn:∀ x∈p.2.1,x∈known m ps
 t0:0≤p.2.2
 t1:p.2.2<((2 ^ 2 ^ p.2.1.length:Nat):Int)
def WP (m:Nat) (ps:List Pc):Prop:=∀ i p,ps[i]? = some p→WPc m (ps.take i) p
structure WT (m:Nat) (ps:List Pc) (ties:List Int):Prop where
 l1:1≤ties.length
 lh:ties.length≤100
 tie:∀ t∈ties,0≤t∧(t / 2=0∨t / 2∈known m ps)
theorem top_snoc (m:Nat) (ps:List Pc) (p:Pc):topK m (ps ++ [p])=p.1:=by
 unfold topK
 rw [List.map_append]
 simp
theorem known_snoc (m:Nat) (ps:List Pc) (p:Pc):known m (ps ++ [p])=known m ps ++ [p.1]:=by
 unfold known
 rw [List.map_append,List.append_assoc]
 rfl
theorem take_snoc {ps:List Pc}{i:Nat}{p:Pc} (h:ps[i]? = some p):ps.take (i+1)=ps.take i ++ [p]:=by rw [List.take_add_one,h];rfl
abbrev GPc:=V × List V × V
def up (p:Pc):GPc:=(.int p.1,p.2.1.map V.int,.int p.2.2)
def Nice (H:Hp):V→Prop
 | .int _=>True
 | .bl _=>True
 | .str _=>True
 | .non=>True
 | .ref a=>(∃ xs,H a=some (.lst xs))∨∃ xs,H a=some (.tup xs)
 | _=>False
theorem Nice.same {H H':Hp}{v:V} (h:Nice H v) (s:∀ b o,H b=some o→H' b=some o):Nice H' v:=by
 cases v with
 | ref a =>
  rcases h with ⟨xs,e⟩ | ⟨xs,e⟩
  ·exact .inl ⟨xs,s _ _ e⟩
  ·exact .inr ⟨xs,s _ _ e⟩
 | _=>exact h
def whole:V→Bool
 | .int _=>true
 | _=>false
def sp_is_whole (_:PySem.W.Frag):Sp:=fun vs H Q _=>∃ v:V,vs=[v]∧Nice H v∧Q (.bl (whole v)) H
def rd_is_whole (K:PySem.W.Frag):TS:=(tRet (cAndV (tCB (cIsinst K) (tCons (cVar 0) (tCons (tC (.ty "int")) tNil))) (cNotV (tCB (cIsinst K) (tCons (cVar 0) (tCons (tC (.ty "bool")) tNil))))))
theorem tm_is_whole (T:Txt K mg a) {cdv:Value}{A:Around}{outer:List Env}{s:Shared}{H:Hp}{E:XK} (hr:Room 0 (A.deeper (envOfC "is_whole" (defScope s_is_whole) s.heap.objs.size a.f_is_whole cdv))) :
  PSs (cxOf CX0 P w K mg base N_is_whole "is_whole" (defScope s_is_whole) a.f_is_whole cdv A outer s H E).nox (defBody s_is_whole) (rd_is_whole K) :=
 (pss_one (ps_ret (e_and (pe_callB c_isinst (by rfl) T.no_isinstance PyProof.Rows.boot_isinstance (pa_cons (cv 0) (pa_cons (pe_bltn (v:=.ty "int") rfl T.no_int PyProof.Rows.boot_int rfl) pa_nil))) (pe_one (e_not (pe_callB c_isinst (by rfl) T.no_isinstance PyProof.Rows.boot_isinstance (pa_cons (cv 0) (pa_cons (pe_bltn (v:=.ty "bool") rfl T.no_bool PyProof.Rows.boot_bool rfl) pa_nil))))))))
theorem ok_is_whole (T:Txt K mg a):FnOk P w K mg base CX0 1 a.f_is_whole a.d_is_whole ["thing"] (sp_is_whole K):=by
 refine T.fn_is_whole.ok sc_is_whole (fun vs H Q E h=>?_) (fun cdv A outer s H vs Q E hr h=>⟨_,tm_is_whole T hr,?_⟩)
 ·obtain ⟨v,rfl,_⟩:=h;rfl
 ·obtain ⟨v,rfl,hv,q⟩:=h
  show rd_is_whole K _ [some v] H
  unfold rd_is_whole
  walk_at "gs"
  cases v with
  | int i =>
   refine ⟨_,true,.int _,rfl,?_⟩
   walk_at "gs"
   refine ⟨_,false,.int _,rfl,?_⟩
   walk_at "gs"
   exact q
  | bl x =>
   refine ⟨_,true,.bl _,rfl,?_⟩
   walk_at "gs"
   refine ⟨_,true,.bl _,rfl,?_⟩
   walk_at "gs"
   exact q
  | str z =>
   refine ⟨_,false,.str _,rfl,?_⟩
   walk_at "gs"
   exact q
  | non =>
   refine ⟨_,false,.non,rfl,?_⟩
   walk_at "gs"
   exact q
  | ref r =>
   rcases hv with ⟨xs,e⟩ | ⟨xs,e⟩
   ·refine ⟨_,false,.lst e,rfl,?_⟩
    walk_at "gs"
    exact q
   ·refine ⟨_,false,.tup e,rfl,?_⟩
    walk_at "gs"
    exact q
  | _=>exact hv.elim
def btw (v:V) (l g:Int):Bool:=match v with
 | .int i=>decide (l≤i∧i≤g)
 | _=>false
theorem not_whole {v:V} (h:whole v=false) (l g:Int):btw v l g=false:=by
 cases v with
 | int i=>cases h
 | _=>rfl
theorem is_int {v:V} (h:whole v=true):∃ i,v=.int i:=by
 cases v with
 | int i=>exact ⟨i,rfl⟩
 | _=>cases h
def sp_is_between (_:PySem.W.Frag):Sp:=fun vs H Q _=>∃ (v:V) (l g:Int),vs=[v,.int l,.int g]∧Nice H v∧Q (.bl (btw v l g)) H
def rd_is_between (K:PySem.W.Frag):TS:=(tRet (cAndV (tCall (sp_is_whole K) [] E0 (tCons (cVar 0) tNil)) (cChain (cI2 fun i j=>.bl (decide (i≤j))) (cI2 fun i j=>.bl (decide (i≤j))) (cVar 1) (cVar 0) (cVar 2))))
theorem tm_is_between (T:Txt K mg a) {cdv:Value}{A:Around}{outer:List Env}{s:Shared}{H:Hp}{E:XK} (hr:Room 1 (A.deeper (envOfC "is_between" (defScope s_is_between) s.heap.objs.size a.f_is_between cdv))) :
  PSs (cxOf CX0 P w K mg base N_is_between "is_between" (defScope s_is_between) a.f_is_between cdv A outer s H E).nox (defBody s_is_between) (rd_is_between K) :=
 (pss_one (ps_ret (e_and (pe_call (ok_is_whole T) (hr.mono (by decide)) rfl T.mg_is_whole T.fn_is_whole.kp T.bi_is_whole .nil pass0 (pa_cons (cv 0) pa_nil)) (pe_one (e_chain o_le o_le (cv 1) (cv 0) (cv 2))))))
theorem ok_is_between (T:Txt K mg a):FnOk P w K mg base CX0 2 a.f_is_between a.d_is_between ["thing","least","greatest"] (sp_is_between K):=by
 refine T.fn_is_between.ok sc_is_between (fun vs H Q E h=>?_) (fun cdv A outer s H vs Q E hr h=>⟨_,tm_is_between T hr,?_⟩)
 ·obtain ⟨v,l,g,rfl,_⟩:=h;rfl
 ·obtain ⟨v,l,g,rfl,hv,q⟩:=h
  show rd_is_between K _ [some v,some (.int l),some (.int g)] H
  unfold rd_is_between
  walk_at "gs"
  refine ⟨v,rfl,hv,?_⟩
  cases hw:whole v with
  | false =>
   rw [not_whole hw] at q
   walk_at "gs"
   exact q
  | true =>
   obtain ⟨i,rfl⟩:=is_int hw
   have q:Q (.bl (decide (l≤i∧i≤g))) H:=q
   walk_at "gs"
   by_cases h:l≤i
   ·rw [if_pos h]
    rw [show decide (l≤i∧i≤g)=decide (i≤g) by rw [decide_eq_decide];omega] at q
    exact q
   ·rw [if_neg h]
    rw [decide_eq_false (fun z=>h z.1)] at q
    exact q
def fullN (m:Nat):Nat:=2 ^ 2 ^ m - 1
def sp_full_column (_:PySem.W.Frag):Sp:=fun vs H Q _=>∃ m:Nat,vs=[.int m]∧m≤10∧Q (.int (fullN m:Nat)) H
def rd_full_column (K:PySem.W.Frag):TS:=(tRet (tOp (cI2 fun i j=>.int (i - j)) (tOp (cI2c CPow fun i j=>.int (i * 2 ^ j.toNat)) (tC (.int 1)) (tOp (cI2c CPow fun i j=>.int (i * 2 ^ j.toNat)) (tC (.int 1)) (cVar 0))) (tC (.int 1))))
theorem tm_full_column (T:Txt K mg a) {cdv:Value}{A:Around}{outer:List Env}{s:Shared}{H:Hp}{E:XK} (hr:Room 0 (A.deeper (envOfC "full_column" (defScope s_full_column) s.heap.objs.size a.f_full_column cdv))) :
  PSs (cxOf CX0 P w K mg base N_full_column "full_column" (defScope s_full_column) a.f_full_column cdv A outer s H E).nox (defBody s_full_column) (rd_full_column K) :=
 (pss_one (ps_ret (pe_op o_sub (pe_op o_shl pe_int (pe_op o_shl pe_int (cv 0))) pe_int)))
theorem ok_full_column (T:Txt K mg a):FnOk P w K mg base CX0 1 a.f_full_column a.d_full_column ["many"] (sp_full_column K):=by
 refine T.fn_full_column.ok sc_full_column (fun vs H Q E h=>?_) (fun cdv A outer s H vs Q E hr h=>⟨_,tm_full_column T hr,?_⟩)
 ·obtain ⟨m,rfl,_⟩:=h;rfl
 ·obtain ⟨m,rfl,m10,q⟩:=h
  show rd_full_column K _ [some (.int m)] H
  unfold rd_full_column
  have hp10:(2:Nat) ^ m≤2 ^ 10:=Nat.pow_le_pow_right (by decide) m10
  have ec:(1 * 2 ^ ((m:Int)).toNat:Int)=((2 ^ m:Nat):Int):=by simp
  have ef:(1 * 2 ^ (((2 ^ m:Nat):Int)).toNat - 1:Int)=((fullN m:Nat):Int):=by
   have:=shl_val 1 (2 ^ m)
   rw [show ((1:Nat):Int)=1 from rfl] at this
   rw [this,Nat.one_mul]
   have h1:1≤2 ^ 2 ^ m:=Nat.one_le_two_pow
   unfold fullN
   omega
  walk_at "gs"
  rw [ec]
  have cp:CPow 1 ((2 ^ m:Nat):Int):=by
   generalize 2 ^ m=N at hp10
   exact ⟨by omega,by omega,by decide⟩
  refine ⟨cp,?_⟩
  rw [ef]
  exact q
def sp_is_rising (K:PySem.W.Frag):Sp:=fun vs H Q _=>∃ (p:Addr) (xs:List Int),vs=[.ref p]∧SqL K H p (xs.map V.int)∧xs.length≤4000∧∀ H',Same H H'→Q (.bl (MF.rising xs)) H'
def rd_is_rising (K:PySem.W.Frag):TS:=(tRet (tCB (cAll K) (tCons (tComp (iZip K (tCons (cVar 0) (tCons (tSl (cSlU K) (cVar 0) (cPart (tC (.int 1))) tNoPart) tNil))) 2 [] (gTup K 2 (gCons (gName 0) (gCons (gName 1) gNil))) tTrue (tOp (cI2 fun i j=>.bl (decide (i<j))) (cVar 0) (cVar 1))) tNil)))
theorem tm_is_rising (T:Txt K mg a) {cdv:Value}{A:Around}{outer:List Env}{s:Shared}{H:Hp}{E:XK} (hr:Room 0 (A.deeper (envOfC "is_rising" (defScope s_is_rising) s.heap.objs.size a.f_is_rising cdv))) :
  PSs (cxOf CX0 P w K mg base N_is_rising "is_rising" (defScope s_is_rising) a.f_is_rising cdv A outer s H E).nox (defBody s_is_rising) (rd_is_rising K) :=
 (pss_one (ps_ret (pe_callB (c_all rfl) (by rfl) T.no_all PyProof.Rows.boot_all (pa_cons (pe_comp (N:=["one","other"]) (k:=2) (sel:=[]) (CScope.of (defScope s_is_rising).names (by decide +kernel)) (CNames.of N_is_rising (by decide +kernel)) rfl (pi_zip rfl T.no_zip (pa_cons (cv 0) (pa_cons (pe_slice s_u (cv 0) (e_part pe_int) po_none) pa_nil))) (fun _ _ _ _=>(pg_tup rfl (pgs_cons (pg_name (i:=0) (show List.Nodup (["one","other"]:List Str) by decide +kernel) rfl (by walk_at "o")) (pgs_cons (pg_name (i:=1) (show List.Nodup (["one","other"]:List Str) by decide +kernel) rfl (by walk_at "o")) pgs_nil)))) (fun _ _ _ _=>pts_nil) (fun _ _ _ _=>(pe_cmpR o_lt (cv 0) (cv 1) (nomark _)))) pa_nil))))
theorem ok_is_rising (T:Txt K mg a):FnOk P w K mg base CX0 1 a.f_is_rising a.d_is_rising ["numbers"] (sp_is_rising K):=by
 refine T.fn_is_rising.ok sc_is_rising (fun vs H Q E h=>?_) (fun cdv A outer s H vs Q E hr h=>⟨_,tm_is_rising T hr,?_⟩)
 ·obtain ⟨p,xs,rfl,_⟩:=h;rfl
 ·obtain ⟨p,xs,rfl,hS,hz,q⟩:=h
  show rd_is_rising K _ [some (.ref p)] H
  unfold rd_is_rising
  have big:(20000:Nat)≤sizeLine:=by decide
  walk_at "gs"
  refine ⟨_,hS,fun q1 H1 n1=>?_⟩
  rw [cut_1] at n1
  refine ⟨p,q1,rfl,⟨_,n1.same.seq hS⟩,⟨_,n1.sq⟩,fun r hr=>comp_zG (xs:=xs.map V.int) (ys:=(xs.map V.int).drop 1) (n:=xs.length - 1) (by rw [List.length_drop,List.length_map];omega) (fun σ=>∃ v0 v1,σ=[v0,v1]) (fun i H3=>H3 r=some (.lst (((List.range i).map fun j=>decide (xs.getD j 0<xs.getD (j+1) 0)).map V.bl))∧Same H1 H3) ⟨_,_,rfl⟩ ⟨upd_same,same_upd hr⟩ ?_ ?_ ?_⟩
  ·rintro i H2 _ ⟨_,s2⟩
   exact ⟨s2.seq (n1.same.seq hS),s2.seq n1.sq⟩
  ·rintro i x y t σ2 H2 R hx hy ht ⟨v0,v1,rfl⟩ ⟨h1,s2⟩ hR
   have hi:i+1<xs.length:=by
    have:=(List.getElem?_eq_some_iff.mp hy).1
    rw [List.length_drop,List.length_map] at this
    omega
   have ex:x=.int (xs.getD i 0):=by
    rw [List.getElem?_map,List.getElem?_eq_getElem (by omega)] at hx
    cases hx
    simp [List.getD,show i<xs.length by omega]
   have ey:y=.int (xs.getD (i+1) 0):=by
    rw [List.getElem?_drop,List.getElem?_map,show 1+i=i+1 by omega,List.getElem?_eq_getElem hi] at hy
    cases hy
    simp [List.getD,hi]
   subst ex ey
   have ntr:t≠r:=(ne_of_none h1 ht).symm
   walk_at "gs"
   refine ⟨t,_,rfl,.of upd_same,rfl,_,_,rfl,_,_,rfl,rfl,?_⟩
   walk_at "gs"
   refine ⟨_,by rw [upd_ne ntr.symm];exact h1,by rw [List.length_map,List.length_map,List.length_range];omega,hR _ _ ⟨_,_,rfl⟩ ⟨?_,((s2.trans (same_upd ht))).put hr⟩⟩
   rw [upd_same,List.range_succ,List.map_append,List.map_append]
   rfl
  ·rintro H3 ⟨h1,s3⟩
   walk_at "gs"
   refine ⟨_,.of h1,?_⟩
   exact q H3 (n1.same.trans s3)
theorem all_true {α:Type} (xs:List α):(xs.map fun _=>true).all id=true:=by
 rw [List.all_map,List.all_eq_true]
 intro _ _
 rfl
theorem putK_len {κ:Type} [DecidableEq κ] (kvs:List (κ × V)) (k:κ) (v:V):(putK kvs k v).length≤kvs.length+1:=by
 unfold putK
 split
 ·rw [List.length_map];omega
 ·rw [List.length_append];exact Nat.le_refl _
def CutOk (ks:List Int) (xs:List V):Prop:=∃ ys:List Int,xs=ys.map V.int∧1≤ys.length∧ys.length≤6∧ys.Pairwise (· < ·)∧∀ y∈ys,y∈ks
def inKs (ks:List Int):V→Bool
 | .int y=>decide (y∈ks)
 | _=>false
theorem ints_of {ks:List Int}:∀ {xs:List V},xs.all (inKs ks)=true→∃ ys:List Int,xs=ys.map V.int∧∀ y∈ys,y∈ks
 | [],_=>⟨[],rfl,fun y hy=>by simp at hy⟩
 | x :: r,h=>by
  rw [List.all_cons,Bool.and_eq_true] at h
  obtain ⟨ys,e,hy⟩:=ints_of h.2
  cases x with
  | int i=>exact ⟨i :: ys,by rw [e];rfl,fun y hm=>by
    rcases List.mem_cons.mp hm with rfl | z
    ·exact of_decide_eq_true h.1
    ·exact hy y z⟩
  | _=>cases h.1
theorem all_ints {ks ys:List Int} (h:∀ y∈ys,y∈ks):(ys.map V.int).all (inKs ks)=true:=by
 rw [List.all_map,List.all_eq_true]
 exact fun y hy=>decide_eq_true (h y hy)
theorem map_int_inj:∀ {xs ys:List Int},xs.map V.int=ys.map V.int→xs=ys
 | [],[],_=>rfl
 | [],_ :: _,h=>by cases h
 | _ :: _,[],h=>by cases h
 | x :: r,y :: t,h=>by
  rw [List.map_cons,List.map_cons,List.cons.injEq] at h
  rw [V.int.inj h.1,map_int_inj h.2]
theorem ris_pw:∀ {xs:List Int},MF.RisC xs→xs.Pairwise (· < ·)
 | [],_=>.nil
 | [x],_=>List.pairwise_singleton _ _
 | x :: y :: r,h=>by
  have ih:=ris_pw (xs:=y :: r) fun j hj=>h (j+1) (by simp only [List.length_cons] at hj ⊢;omega)
  have h0:x<y:=h 0 (by simp)
  refine List.pairwise_cons.mpr ⟨fun z hz=>?_,ih⟩
  rcases List.mem_cons.mp hz with rfl | hz;skip
  ·exact h0
  ·exact Int.lt_trans h0 ((List.pairwise_cons.mp ih).1 z hz)
def sp_is_cut_of (K:PySem.W.Frag):Sp:=fun vs H Q _=>∃ (c d:Addr) (xs:List V) (kvs:List (Key × V)) (ks:List Int),vs=[.ref c,.ref d]∧H c=some (.lst xs)∧(∀ x∈xs,Nice H x)∧xs.length≤1000∧H d=some (.dK kvs)∧(∀ x:Int,(valV kvs (.inl x)).isSome=decide (x∈ks)) ∧
 (CutOk ks xs→∀ H',Same H H'→Q (.bl true) H')∧(¬ CutOk ks xs→∀ H',Same H H'→Q (.bl false) H')
def rd_is_cut_of (a:Adr) (K:PySem.W.Frag):TS:=(tSeq (tIfS (tOr (cTst (tOp (cI2 fun i j=>.bl (decide (i<j))) (tCB (cLen K) (tCons (cVar 0) tNil)) (tC (.int 1)))) (cTst (tOp (cI2 fun i j=>.bl (decide (j<i))) (tCB (cLen K) (tCons (cVar 0) tNil)) (tC (gv_LONGEST_CUT a))))) (tRet (tC (.bl false))) tNext)
  (tSeq (tIfS (tNot (cTru K (tCB (cAll K) (tCons (tComp (iList K (cVar 0)) 1 [1] (gName 0) tTrue (cAndV (tCall (sp_is_whole K) [] E0 (tCons (cVar 0) tNil)) (tDIn (cVar 0) (cVar 1)))) tNil)))) (tRet (tC (.bl false))) tNext)
  (tRet (tCall (sp_is_rising K) [] E0 (tCons (cVar 0) tNil)))))
theorem tm_is_cut_of (T:Txt K mg a) {cdv:Value}{A:Around}{outer:List Env}{s:Shared}{H:Hp}{E:XK} (hr:Room 1 (A.deeper (envOfC "is_cut_of" (defScope s_is_cut_of) s.heap.objs.size a.f_is_cut_of cdv))) :
  PSs (cxOf CX0 P w K mg base N_is_cut_of "is_cut_of" (defScope s_is_cut_of) a.f_is_cut_of cdv A outer s H E).nox (defBody s_is_cut_of) (rd_is_cut_of a K) :=
 (pss_cons (ps_if (PW.pt (pw_or (t_cmp o_lt (pe_callB c_len (by rfl) T.no_len PySem.boot_len (pa_cons (cv 0) pa_nil)) pe_int (nomark _)) (pw_or1 (t_cmp o_gt (pe_callB c_len (by rfl) T.no_len PySem.boot_len (pa_cons (cv 0) pa_nil)) (pe_globE rfl T.gx_LONGEST_CUT) (nomark _))))) (pss_one (ps_ret pe_bl)) pss_nil)
   (pss_cons (ps_if (pt_not (pt_tru (pe_callB (c_all rfl) (by rfl) T.no_all PyProof.Rows.boot_all (pa_cons (pe_comp (N:=["lower","lowers"]) (k:=1) (sel:=[1]) (CScope.of (defScope s_is_cut_of).names (by decide +kernel)) (CNames.of N_is_cut_of (by decide +kernel)) rfl (pi_list (cv 0)) (fun _ _ _ _=>(pg_name (i:=0) (show List.Nodup (["lower","lowers"]:List Str) by decide +kernel) rfl (by walk_at "o"))) (fun _ _ _ _=>pts_nil) (fun _ _ _ _=>(e_and (pe_call (ok_is_whole T) (hr.mono (by decide)) rfl T.mg_is_whole T.fn_is_whole.kp T.bi_is_whole .nil pass0 (pa_cons (cv 0) pa_nil)) (pe_one (pe_cmp (pc_din (hu_of hr) (cv 0) (cv 1))))))) pa_nil)))) (pss_one (ps_ret pe_bl)) pss_nil)
   (pss_one (ps_ret (pe_call (ok_is_rising T) (hr.mono (by decide)) rfl T.mg_is_rising T.fn_is_rising.kp T.bi_is_rising .nil pass0 (pa_cons (cv 0) pa_nil))))))
theorem ok_is_cut_of (T:Txt K mg a):FnOk P w K mg base CX0 2 a.f_is_cut_of a.d_is_cut_of ["cut","lowers"] (sp_is_cut_of K):=by
 refine T.fn_is_cut_of.ok sc_is_cut_of (fun vs H Q E h=>?_) (fun cdv A outer s H vs Q E hr h=>⟨_,tm_is_cut_of T hr,?_⟩)
 ·obtain ⟨c,d,xs,kvs,ks,rfl,_⟩:=h;rfl
 ·obtain ⟨c,d,xs,kvs,ks,rfl,hc,hn,hz,hd,hk,q1,q0⟩:=h
  show rd_is_cut_of a K _ [some (.ref c),some (.ref d)] H
  unfold rd_is_cut_of gv_LONGEST_CUT
  have big:(20000:Nat)≤sizeLine:=by decide
  walk_at "gs"
  refine .inl ⟨_,.inl (.of hc),?_⟩
  by_cases g1:(xs.length:Int)<1
  ·rw [if_pos g1]
   refine q0 (fun ⟨ys,e,l1,_⟩=>?_) H (fun _ _ e=>e)
   rw [e,List.length_map] at g1
   omega
  rw [if_neg g1]
  refine .inl ⟨_,.inl (.of hc),?_⟩
  by_cases g6:(6:Int)<(xs.length:Int)
  ·rw [if_pos g6]
   refine q0 (fun ⟨ys,e,_,l6,_⟩=>?_) H (fun _ _ e=>e)
   rw [e,List.length_map] at g6
   omega
  rw [if_neg g6]
  walk_at "gs"
  refine ⟨⟨_,.of hc⟩,compG_list (fun v=>.bl (inKs ks v)) (.of hc) rfl (by omega) ?_ ?_⟩
  ·intro v H' Q' hv s' q'
   walk_at "gs"
   refine ⟨v,rfl,(hn v hv).same s',?_⟩
   cases hw:whole v with
   | false =>
    have:inKs ks v=false:=by
     cases v with
     | int i=>cases hw
     | _=>rfl
    rw [this] at q'
    walk_at "gs"
    exact q'
   | true =>
    obtain ⟨y,rfl⟩:=is_int hw
    walk_at "gs"
    refine ⟨d,_,rfl,DGet.k (k:=.inl y) (s' _ _ hd),?_⟩
    rw [hk y]
    exact q'
  intro lp H1 n1
  have e1:xs.map (fun v=>V.bl (inKs ks v))=(xs.map (inKs ks)).map V.bl:=by rw [List.map_map];rfl
  rw [e1] at n1
  walk_at "gs"
  refine ⟨_,n1.sq,?_⟩
  have e2:(xs.map (inKs ks)).all id=xs.all (inKs ks):=by rw [List.all_map];rfl
  rw [e2]
  cases ha:xs.all (inKs ks) with
  | false =>
   walk_at "gs"
   refine q0 (fun ⟨ys,e,_,_,_,hy⟩=>?_) H1 n1.same
   rw [e,all_ints hy] at ha
   cases ha
  | true =>
   obtain ⟨ys,rfl,hy⟩:=ints_of ha
   rw [List.length_map] at g1 g6
   walk_at "gs"
   refine ⟨c,ys,rfl,.of (n1.same _ _ hc),by omega,fun H2 s2=>?_⟩
   cases hr:MF.rising ys with
   | true=>exact q1 ⟨ys,rfl,by omega,by omega,ris_pw ((MF.rising_iff ys).mp hr),hy⟩ H2 (n1.same.trans s2)
   | false =>
    refine q0 (fun ⟨zs,e,_,_,hp,_⟩=>?_) H2 (n1.same.trans s2)
    rw [map_int_inj e,(MF.rising_iff zs).mpr (MF.ris_of hp)] at hr
    cases hr
theorem WP.snoc {m:Nat}{ps:List Pc} (w:WP m ps) {p:Pc} (h:WPc m ps p):WP m (ps ++ [p]):=by
 intro i q hq
 rcases Nat.lt_or_ge i ps.length with l | l
 ·rw [List.getElem?_append_left l] at hq
  rw [List.take_append_of_le_length (by omega)]
  exact w i q hq
 ·have hi:i<ps.length+1:=by have:=(List.getElem?_eq_some_iff.mp hq).1;rwa [List.length_append] at this
  have:i=ps.length:=by omega
  subst this
  rw [List.getElem?_append_right (Nat.le_refl _),Nat.sub_self] at hq
  have e:p=q:=by simpa using hq
  subst e
  rw [List.take_left']
  ·exact h
  ·rfl
structure GLst (H:Hp) (l:Addr) (ts:List (Addr × Addr)) (gs:List GPc):Prop where
 lst:H l=some (.lst (ts.map fun t=>V.ref t.1))
 len:ts.length=gs.length
 at_:∀ (i:Nat) t p,ts[i]? = some t→gs[i]? = some p→H t.1=some (.tup [p.1,.ref t.2,p.2.2])∧H t.2=some (.lst p.2.1)
theorem GLst.same {H H':Hp}{l:Addr}{ts:List (Addr × Addr)}{ps:List GPc} (h:GLst H l ts ps) (s:∀ b o,H b=some o→H' b=some o):GLst H' l ts ps :=
 ⟨s _ _ h.lst,h.len,fun i t p ht hp=>⟨s _ _ (h.at_ i t p ht hp).1,s _ _ (h.at_ i t p ht hp).2⟩⟩
theorem GLst.get {H:Hp}{l:Addr}{ts:List (Addr × Addr)}{ps:List GPc} (h:GLst H l ts ps) {i:Nat} (hi:i<ts.length):∃ p,ps[i]? = some p∧H (ts[i]).1=some (.tup [p.1,.ref (ts[i]).2,p.2.2])∧H (ts[i]).2=some (.lst p.2.1):=by
 have hp:ps[i]? = some (ps[i]'(by rw [← h.len];exact hi)):=List.getElem?_eq_getElem _
 exact ⟨_,hp,h.at_ i _ _ (List.getElem?_eq_getElem hi) hp⟩
def GNice (H:Hp) (gs:List GPc):Prop:=∀ g∈gs,Nice H g.1∧Nice H g.2.2∧g.2.1.length≤100∧∀ x∈g.2.1,Nice H x
theorem GNice.same {H H':Hp}{gs:List GPc} (h:GNice H gs) (s:∀ b o,H b=some o→H' b=some o):GNice H' gs:=fun g hg =>
 ⟨(h g hg).1.same s,(h g hg).2.1.same s,(h g hg).2.2.1,fun x hx=>((h g hg).2.2.2 x hx).same s⟩
theorem up_inj {p q:Pc} (h:up p=up q):p=q:=by
 obtain ⟨a,b,c⟩:=p
 obtain ⟨d,e,f⟩:=q
 unfold up at h
 simp only [Prod.mk.injEq,V.int.injEq] at h
 obtain ⟨h1,h2,h3⟩:=h
 rw [h1,map_int_inj h2,h3]
theorem ups_inj:∀ {ps qs:List Pc},ps.map up=qs.map up→ps=qs
 | [],[],_=>rfl
 | [],_ :: _,h=>by cases h
 | _ :: _,[],h=>by cases h
 | x :: r,y :: t,h=>by
  rw [List.map_cons,List.map_cons,List.cons.injEq] at h
  rw [up_inj h.1,ups_inj h.2]
def GoodP (m:Nat) (gs:List GPc):Prop:=∃ ps,gs=ps.map up∧WP m ps
theorem bad_at {m:Nat}{gs:List GPc}{ps:List Pc}{i:Nat}{g:GPc} (hpre:gs.take i=ps.map up) (hg:gs[i]? = some g) (hno:∀ p,up p=g→¬ WPc m ps p):¬ GoodP m gs:=by
 rintro ⟨qs,rfl,w⟩
 rw [← List.map_take] at hpre
 have e:=ups_inj hpre
 rw [List.getElem?_map] at hg
 cases hq:qs[i]? with
 | none=>rw [hq] at hg;cases hg
 | some p =>
  rw [hq] at hg
  have hw:=w i p hq
  rw [e] at hw
  exact hno p (Option.some.inj hg) hw
def sp_need_pieces (a:Adr) (_:PySem.W.Frag):Sp:=fun vs H Q E=>∃ (m:Nat) (l:Addr) (ts:List (Addr × Addr)) (gs:List GPc),vs=[.int m,.ref l]∧GLst H l ts gs∧GNice H gs∧m≤10∧gs.length≤1000 ∧
 (∀ ps d kvs H',gs=ps.map up→WP m ps→Mad H d (.dK kvs) H'→(∀ x:Int,(valV kvs (.inl x)).isSome=decide (x∈known m ps))→Q (.ref d) H')∧(¬ GoodP m gs→∀ H' e,Same H H'→H' e=none→E (.ref e) (some a.c_NoBoard) H')
def rd_need_pieces (a:Adr) (K:PySem.W.Frag) (E:XK):TS:=(tSeq (tAsg (tCB (cDictP K) (tCons (tComp (iRng2 (tCons (tC (.int 1)) (tCons (tOp cAdd (cVar 0) (tC (.int 1))) tNil))) 1 [] (gName 0) tTrue (tTup (tCons (cVar 0) (tCons (tC (.bl true)) tNil)))) tNil)) (gName 2))
  (tSeq (tAsg (cVar 0) (gName 3))
  (tSeq (tFor (iList K (cVar 1)) (gTup K 3 (gCons (gName 4) (gCons (gName 5) (gCons (gName 6) gNil)))) (tSeq (tIfS (tOr (tNot (cTru K (tCall (sp_is_between K) [] E0 (tCons (cVar 4) (tCons (tOp cAdd (cVar 3) (tC (.int 1))) (tCons (tC (gv_GREATEST_KNOT a)) tNil)))))) (tNot (cTru K (tCall (sp_is_cut_of K) [] E0 (tCons (cVar 5) (tCons (cVar 2) tNil)))))) (tRaise a.c_NoBoard (tCons (tC (.str "a piece's knot does not rise, or its cut is none")) tNil) E) tNext)
  (tSeq (tIfS (tNot (cTru K (tCall (sp_is_between K) [] E0 (tCons (cVar 6) (tCons (tC (.int 0)) (tCons (tCall (sp_full_column K) [] E0 (tCons (tCB (cLen K) (tCons (cVar 5) tNil)) tNil)) tNil)))))) (tRaise a.c_NoBoard (tCons (tC (.str "a piece's table is none of its cut")) tNil) E) tNext)
  (tSeq (sDPut (cVar 2) (cVar 4) (tC (.bl true)))
  (tAsg (cVar 4) (gName 3))))))
  (tRet (cVar 2)))))
theorem tm_need_pieces (T:Txt K mg a) {cdv:Value}{A:Around}{outer:List Env}{s:Shared}{H:Hp}{E:XK} (hr:Room 2 (A.deeper (envOfC "need_pieces" (defScope s_need_pieces) s.heap.objs.size a.f_need_pieces cdv))) :
  PSs (cxOf (CX1 P w) P w K mg base N_need_pieces "need_pieces" (defScope s_need_pieces) a.f_need_pieces cdv A outer s H E) (defBody s_need_pieces) (rd_need_pieces a K E) :=
 (pss_cons (ps_set (i:=2) sc_need_pieces.nd rfl (by walk_at "o") (pe_callTy (c_dictP rfl) (by rfl) T.no_dict PyProof.Rows.boot_dict (pa_cons (pe_comp (N:=["knot"]) (k:=1) (sel:=[]) (CScope.of (defScope s_need_pieces).names (by decide +kernel)) (CNames.of N_need_pieces (by decide +kernel)) rfl (pi_range2 rfl T.no_range (pa_cons pe_int (pa_cons (pe_op o_add (cv 0) pe_int) pa_nil))) (fun _ _ _ _=>(pg_name (i:=0) (show List.Nodup (["knot"]:List Str) by decide +kernel) rfl (by walk_at "o"))) (fun _ _ _ _=>pts_nil) (fun _ _ _ _=>(pe_tup (pa_cons (cv 0) (pa_cons pe_bl pa_nil))))) pa_nil)))
   (pss_cons (ps_set (i:=3) sc_need_pieces.nd rfl (by walk_at "o") (cv 0))
   (pss_cons (ps_for passF rfl (pi_list (cv 1)) (pg_tup rfl (pgs_cons (pg_name (i:=4) sc_need_pieces.nd rfl (by walk_at "o")) (pgs_cons (pg_name (i:=5) sc_need_pieces.nd rfl (by walk_at "o")) (pgs_cons (pg_name (i:=6) sc_need_pieces.nd rfl (by walk_at "o")) pgs_nil)))) (pss_cons (ps_if (PW.pt (pw_or (pt_not (pt_tru (pe_call (ok_is_between T) (hr.mono (by decide)) rfl T.mg_is_between T.fn_is_between.kp T.bi_is_between .nil pass0 (pa_cons (cv 4) (pa_cons (pe_op o_add (cv 3) pe_int) (pa_cons (pe_globE rfl T.gx_GREATEST_KNOT) pa_nil)))))) (pw_or1 (pt_not (pt_tru (pe_call (ok_is_cut_of T) (hr.mono (by decide)) rfl T.mg_is_cut_of T.fn_is_cut_of.kp T.bi_is_cut_of .nil pass0 (pa_cons (cv 5) (pa_cons (cv 2) pa_nil)))))))) (pss_one (ps_raise PySem.F.excBase_ValueError T.xi_NoBoard (by decide) rfl T.mg_NoBoard rfl xok_fn (pa_cons pe_str pa_nil))) pss_nil)
   (pss_cons (ps_if (pt_not (pt_tru (pe_call (ok_is_between T) (hr.mono (by decide)) rfl T.mg_is_between T.fn_is_between.kp T.bi_is_between .nil pass0 (pa_cons (cv 6) (pa_cons pe_int (pa_cons (pe_call (ok_full_column T) (hr.mono (by decide)) rfl T.mg_full_column T.fn_full_column.kp T.bi_full_column .nil pass0 (pa_cons (pe_callB c_len (by rfl) T.no_len PySem.boot_len (pa_cons (cv 5) pa_nil)) pa_nil)) pa_nil)))))) (pss_one (ps_raise PySem.F.excBase_ValueError T.xi_NoBoard (by decide) rfl T.mg_NoBoard rfl xok_fn (pa_cons pe_str pa_nil))) pss_nil)
   (pss_cons (ps_dput (hu_of hr) (cv 2) (cv 4) pe_bl rfl)
   (pss_one (ps_set (i:=3) sc_need_pieces.nd rfl (by walk_at "o") (cv 4)))))))
   (pss_one (ps_ret (cv 2))))))
theorem ok_need_pieces (T:Txt K mg a):FnOk P w K mg base (CX1 P w) 3 a.f_need_pieces a.d_need_pieces ["many","pieces"] (sp_need_pieces a K):=by
 refine T.fn_need_pieces.okX sc_need_pieces (fun vs H Q E h=>?_) (fun cdv A outer s H vs Q E hr h=>⟨_,tm_need_pieces T hr,?_⟩)
 ·obtain ⟨m,l,ts,gs,rfl,_⟩:=h;rfl
 ·obtain ⟨m,l,ts,gs,rfl,hP,hN,m10,hz,q1,q0⟩:=h
  show rd_need_pieces a K E _ [some (.int m),some (.ref l),none,none,none,none,none] H
  unfold rd_need_pieces gv_GREATEST_KNOT
  have big:(20000:Nat)≤sizeLine:=by decide
  have htl:=hP.len
  walk_at "gs"
  refine ⟨_,_,rfl,⟨by decide,by decide,by omega,by omega⟩,?_⟩
  rw [show ((m:Int)+1 - 1).toNat=m by omega]
  refine fun lp hlp=>comp_gen (n:=m) (item:=fun i=>.int ((1:Int)+(i:Nat))) (fun σ=>∃ v,σ=[v]) (fun i H2=>∃ us,H2 lp=some (.lst us)∧us.length=i∧Same H H2∧∀ j:Nat,j<i→∃ t,us[j]? = some (.ref t)∧H2 t=some (.tup [.int (1+(j:Int)),.bl true])) ⟨_,rfl⟩ ⟨[],upd_same,rfl,same_upd hlp,fun j hj=>absurd hj (Nat.not_lt_zero _)⟩ ?_ ?_ ?_ ?_
  ·intro i H2 hi _
   exact ⟨hi,fun x H5 hy=>hy⟩
  ·intro H2 _
   exact Nat.le_refl _
  ·rintro i σ2 H2 R hi ⟨v,rfl⟩ ⟨us,h1,h2,s2,h4⟩ hR
   walk_at "gs"
   refine ⟨by show 2≤sizeLine;decide,fun t5 H5 n5=>?_⟩
   have hp5:=n5.same _ _ h1
   have npt:t5≠lp:=(ne_of_none h1 n5.was).symm
   refine ⟨us,hp5,by omega,hR _ _ ⟨_,rfl⟩ ⟨us ++ [.ref t5],upd_same,by rw [List.length_append,h2];rfl,(s2.trans n5.same).put hlp,fun j hj=>?_⟩⟩
   by_cases hji:j<i
   ·obtain ⟨t',g1,g2⟩:=h4 j hji
    exact ⟨t',by rw [List.getElem?_append_left (by omega)];exact g1,by rw [upd_ne (ne_of g2 h1 (fun z=>nomatch z))];exact n5.same _ _ g2⟩
   ·have hj':j=i:=by omega
    subst hj'
    exact ⟨t5,by rw [← h2];simp,by rw [upd_ne npt];exact n5.at_⟩
  rintro H2 ⟨us,h1,h2,s2,h4⟩
  walk_at "gs"
  refine ⟨us,((List.range m).map fun i:Nat=>1+(i:Int)).map fun x=>(.inl x,.bl true),h1,by rw [h2,List.length_map,List.length_map,List.length_range],by rw [List.length_map,List.length_map,List.length_range];omega,fun j pr hj=>?_,fun d H3 n3=>?_⟩
  ·rw [List.map_map,List.getElem?_map] at hj
   cases hx:(List.range m)[j]? with
   | none=>rw [hx] at hj;cases hj
   | some x =>
    rw [hx] at hj
    cases hj
    have hjm:j<m:=by have:=(List.getElem?_eq_some_iff.mp hx).1;rwa [List.length_range] at this
    rw [List.getElem?_range hjm] at hx
    cases hx
    exact h4 j hjm
  have hv0:∀ x:Int,(valV (mergeK [] (((List.range m).map fun i:Nat=>1+(i:Int)).map fun x=>((.inl x:Key),V.bl true))) (.inl x)).isSome=decide (x∈known m []):=fun x=>by
   have:=val_merge ((List.range m).map fun i:Nat=>1+(i:Int)) x []
   unfold known
   rw [List.map_nil,List.append_nil]
   simpa [mergeK,valV] using this
  have hlen:(mergeK [] (((List.range m).map fun i:Nat=>1+(i:Int)).map fun x=>((.inl x:Key),V.bl true))).length≤m:=by
   have key:∀ (ks:List Int) (acc:List (Key × V)),((ks.map fun x=>((.inl x:Key),V.bl true)).foldl (fun acc kv=>putK acc kv.1 kv.2) acc).length≤acc.length+ks.length:=by
    intro ks
    induction ks with
    | nil=>intro acc;simp
    | cons k r ih =>
     intro acc
     rw [List.map_cons,List.foldl_cons,List.length_cons]
     dsimp only
     have:=ih (putK acc (.inl k) (.bl true))
     have:=putK_len acc (.inl k) (.bl true)
     omega
   have:=key ((List.range m).map fun i:Nat=>1+(i:Int)) []
   rw [List.length_map,List.length_range] at this
   simpa [mergeK] using this
  generalize mergeK [] (((List.range m).map fun i:Nat=>1+(i:Int)).map fun x=>((.inl x:Key),V.bl true))=kv0 at n3 hv0 hlen
  have s03:=s2.trans n3.same
  have hd0:H d=none:=s2.nil n3.was
  walk_at "gs"
  refine ⟨⟨_,.of (s03 _ _ hP.lst)⟩,for_listG (xs:=ts.map fun t=>V.ref t.1) (fun i σ H4=>Same H H4∧∃ (ps:List Pc) (kvs:List (Key × V)) (v4 v5 v6:Option V),gs.take i=ps.map up∧WP m ps∧H4 d=some (.dK kvs)∧kvs.length≤m+i∧(∀ x:Int,(valV kvs (.inl x)).isSome=decide (x∈known m ps))∧σ=[some (.int m),some (.ref l),some (.ref d),some (.int (topK m ps)),v4,v5,v6]) ⟨s03,[],kv0,_,_,_,rfl,fun i p hp=>by simp at hp,n3.at_,by omega,hv0,rfl⟩ ?_ ?_ ?_⟩
  ·rintro i σ H4 _ ⟨s4,_⟩
   exact .of (s4 _ _ hP.lst)
  ·rintro i v σ H4 hv ⟨s4,ps,kvs,v4,v5,v6,hpre,wp,h4,hl4,hk4,rfl⟩
   have hi:i<ts.length:=by have:=(List.getElem?_eq_some_iff.mp hv).1;rwa [List.length_map] at this
   rw [List.getElem?_map,List.getElem?_eq_getElem hi] at hv
   have ev:V.ref (ts[i]).1=v:=Option.some.inj hv
   subst ev
   clear hv
   obtain ⟨g,hg,hpt,hpc⟩:=(hP.same s4).get hi
   obtain ⟨nk,nt,nl,nc⟩:=hN g (List.mem_of_getElem? hg)
   generalize (ts[i]).1=t1 at *
   generalize (ts[i]).2=t2 at *
   have bad:∀ H' e,Same H H'→H' e=none→(∀ p,up p=g→¬ WPc m ps p)→E (.ref e) (some a.c_NoBoard) H':=fun H' e s' he hno=>q0 (bad_at hpre hg hno) H' e s' he
   walk_at "gs"
   refine ⟨t1,_,rfl,.of hpt,rfl,_,_,rfl,_,_,rfl,_,_,rfl,rfl,?_⟩
   walk_at "gs"
   refine ⟨g.1,_,_,rfl,nk.same s4,?_⟩
   cases hb:btw g.1 (topK m ps+1) 999 with
   | false =>
    walk_at "gs"
    refine fun e he=>bad _ e s4 he fun p hup w=>?_
    have e1:g.1=.int p.1:=by rw [← hup];rfl
    rw [e1] at hb
    have:=w.up
    have:=w.hi
    exact of_decide_eq_false hb ⟨by omega,by omega⟩
   | true =>
    have hkn:∃ k,g.1=.int k∧topK m ps+1≤k∧k≤999:=by
     cases h1:g.1 with
     | int k=>rw [h1] at hb;exact ⟨k,rfl,of_decide_eq_true hb⟩
     | _=>rw [h1] at hb;cases hb
    obtain ⟨k,hk,hk1,hk2⟩:=hkn
    walk_at "gs"
    refine ⟨t2,d,g.2.1,kvs,known m ps,rfl,hpc,fun x hx=>(nc x hx).same s4,by omega,h4,hk4,fun hok H5 s5=>?_,fun hbad H5 s5=>?_⟩
    case refine_2 =>
     walk_at "gs"
     refine fun e he=>bad _ e (s4.trans s5) he fun p hup w=>hbad ⟨p.2.1,by rw [← hup];rfl,w.l1,w.l6,w.ris,w.kn⟩
    obtain ⟨ys,hys,l1,l6,pw,kn⟩:=hok
    have efull:((fullN ys.length:Nat):Int)=((2 ^ 2 ^ ys.length:Nat):Int) - 1:=by
     unfold fullN
     have h1:1≤2 ^ 2 ^ ys.length:=Nat.one_le_two_pow
     omega
    walk_at "gs"
    refine .inl ⟨_,.inl (.of (s5 _ _ hpc)),?_⟩
    rw [hys,List.length_map]
    refine ⟨_,rfl,by omega,?_⟩
    refine ⟨g.2.2,_,_,rfl,nt.same (s4.trans s5),?_⟩
    rw [efull]
    cases hb2:btw g.2.2 0 (((2 ^ 2 ^ ys.length:Nat):Int) - 1) with
    | false =>
     walk_at "gs"
     refine fun e he=>bad _ e (s4.trans s5) he fun p hup w=>?_
     have e1:g.2.2=.int p.2.2:=by rw [← hup];rfl
     have e2:p.2.1=ys:=map_int_inj (by rw [← hys,← hup];rfl)
     rw [e1] at hb2
     have w7:=w.t0
     have w8:=w.t1
     rw [e2] at w8
     refine of_decide_eq_false hb2 ⟨w7,?_⟩
     generalize ((2 ^ 2 ^ ys.length:Nat):Int)=Z at w8
     omega
    | true =>
     have htn:∃ t,g.2.2=.int t∧0≤t∧t≤((2 ^ 2 ^ ys.length:Nat):Int) - 1:=by
      cases h1:g.2.2 with
      | int t=>rw [h1] at hb2;exact ⟨t,rfl,of_decide_eq_true hb2⟩
      | _=>rw [h1] at hb2;cases hb2
     obtain ⟨t,ht,ht1,ht2⟩:=htn
     have wpc:WPc m ps (k,ys,t):=⟨by show _<k;omega,hk2,l1,l6,pw,kn,ht1,by show t<((2 ^ 2 ^ ys.length:Nat):Int);generalize ((2 ^ 2 ^ ys.length:Nat):Int)=Z at ht2;omega⟩
     have hgu:up (k,ys,t)=g:=by
      show (V.int k,ys.map V.int,V.int t)=g
      rw [← hk,← hys,← ht]
     rw [hk]
     walk_at "gs"
     refine ⟨d,_,rfl,DPut.k (k:=.inl k) (s5 _ _ h4) (by omega),(s4.trans s5).put hd0,ps ++ [(k,ys,t)],_,some (.int k),some (.ref t2),some g.2.2,?_,wp.snoc wpc,upd_same,?_,fun x=>?_,by rw [top_snoc]⟩
     ·rw [List.take_add_one,hg,hpre,List.map_append,← hgu]
      rfl
     ·have:=putK_len kvs (.inl k) (V.bl true)
      omega
     ·rw [known_snoc,valV_put]
      by_cases e:x=k
      ·subst e
       rw [if_pos rfl]
       simp
      ·rw [if_neg (fun z=>e (Sum.inl.inj z)),hk4 x,decide_eq_decide,List.mem_append,List.mem_singleton]
       exact ⟨.inl,fun z=>z.resolve_right e⟩
  ·rintro σ H4 ⟨s4,ps,kvs,v4,v5,v6,hpre,wp,h4,hl4,hk4,rfl⟩
   rw [List.length_map,htl,List.take_length] at hpre
   walk_at "gs"
   exact q1 ps d kvs H4 hpre wp ⟨hd0,h4,s4⟩ hk4
def TieOk (ks:List Int) (ys:List V):Prop:=∃ ts:List Int,ys=ts.map V.int∧1≤ts.length∧∀ t∈ts,t / 2=0∨t / 2∈ks
def sp_need_ties (a:Adr) (_:PySem.W.Frag):Sp:=fun vs H Q E=>∃ (tp d:Addr) (ys:List V) (kvs:List (Key × V)) (ks:List Int),vs=[.ref tp,.ref d]∧H tp=some (.lst ys)∧(∀ y∈ys,Nice H y)∧H d=some (.dK kvs)∧(∀ x:Int,(valV kvs (.inl x)).isSome=decide (x∈ks)) ∧
 (TieOk ks ys→Q .non H)∧(¬ TieOk ks ys→∀ e,H e=none→E (.ref e) (some a.c_NoBoard) H)
def rd_need_ties (a:Adr) (K:PySem.W.Frag) (E:XK):TS:=(tSeq (tIfS (cTst (tOp (cI2 fun i j=>.bl (decide (i<j))) (tCB (cLen K) (tCons (cVar 0) tNil)) (tC (.int 1)))) (tRaise a.c_NoBoard (tCons (tC (.str "a board has one output or more")) tNil) E) tNext)
  (tFor (iList K (cVar 0)) (gName 2) (tIfS (tOr (tNot (cTru K (tCall (sp_is_whole K) [] E0 (tCons (cVar 2) tNil)))) (tAnd (cTst (tOp (cNe K) (tOp (cI2c CDiv fun i j=>.int (i / j)) (cVar 2) (tC (.int 2))) (tC (.int 0)))) (cTst (tDNotIn (tOp (cI2c CDiv fun i j=>.int (i / j)) (cVar 2) (tC (.int 2))) (cVar 1))))) (tRaise a.c_NoBoard (tCons (tC (.str "an output is no tie of this board")) tNil) E) tNext)))
theorem tm_need_ties (T:Txt K mg a) {cdv:Value}{A:Around}{outer:List Env}{s:Shared}{H:Hp}{E:XK} (hr:Room 1 (A.deeper (envOfC "need_ties" (defScope s_need_ties) s.heap.objs.size a.f_need_ties cdv))) :
  PSs (cxOf (CX1 P w) P w K mg base N_need_ties "need_ties" (defScope s_need_ties) a.f_need_ties cdv A outer s H E) (defBody s_need_ties) (rd_need_ties a K E) :=
 (pss_cons (ps_if (t_cmp o_lt (pe_callB c_len (by rfl) T.no_len PySem.boot_len (pa_cons (cv 0) pa_nil)) pe_int (nomark _)) (pss_one (ps_raise PySem.F.excBase_ValueError T.xi_NoBoard (by decide) rfl T.mg_NoBoard rfl xok_fn (pa_cons pe_str pa_nil))) pss_nil)
   (pss_one (ps_for passF rfl (pi_list (cv 0)) (pg_name (i:=2) sc_need_ties.nd rfl (by walk_at "o")) (pss_one (ps_if (PW.pt (pw_or (pt_not (pt_tru (pe_call (ok_is_whole T) (hr.mono (by decide)) rfl T.mg_is_whole T.fn_is_whole.kp T.bi_is_whole .nil pass0 (pa_cons (cv 2) pa_nil)))) (pw_or1 (PW.pt (pw_and (t_cmp (o_ne (hr8 hr)) (pe_op o_fdiv (cv 2) pe_int) pe_int (nomark _)) (pw_and1 (t_pc (pc_dnotin (hu_of hr) (pe_op o_fdiv (cv 2) pe_int) (cv 1))))))))) (pss_one (ps_raise PySem.F.excBase_ValueError T.xi_NoBoard (by decide) rfl T.mg_NoBoard rfl xok_fn (pa_cons pe_str pa_nil))) pss_nil)))))
theorem ok_need_ties (T:Txt K mg a):FnOk P w K mg base (CX1 P w) 2 a.f_need_ties a.d_need_ties ["ties","lowers"] (sp_need_ties a K):=by
 refine T.fn_need_ties.okX sc_need_ties (fun vs H Q E h=>?_) (fun cdv A outer s H vs Q E hr h=>⟨_,tm_need_ties T hr,?_⟩)
 ·obtain ⟨tp,d,ys,kvs,ks,rfl,_⟩:=h;rfl
 ·obtain ⟨tp,d,ys,kvs,ks,rfl,hT,hN,hd,hk,q1,q0⟩:=h
  show rd_need_ties a K E _ [some (.ref tp),some (.ref d),none] H
  unfold rd_need_ties
  walk_at "gs"
  refine .inl ⟨_,.inl (.of hT),?_⟩
  by_cases g1:(ys.length:Int)<1
  ·rw [if_pos g1]
   walk_at "gs"
   refine fun e he=>q0 (fun ⟨ts,e1,l1,_⟩=>?_) e he
   rw [e1,List.length_map] at g1
   omega
  rw [if_neg g1]
  walk_at "gs"
  refine ⟨⟨_,.of hT⟩,for_listG (xs:=ys) (fun i σ H2=>H2=H∧∃ (ts:List Int) (v2:Option V),ys.take i=ts.map V.int∧(∀ t∈ts,t / 2=0∨t / 2∈ks)∧σ=[some (.ref tp),some (.ref d),v2]) ⟨rfl,[],_,rfl,fun t ht=>by simp at ht,rfl⟩ ?_ ?_ ?_⟩
  ·rintro i σ H2 _ ⟨rfl,_⟩
   exact .of hT
  ·rintro i v σ H2 hv ⟨rfl,ts,v2,hpre,hts,rfl⟩
   have bad:(∀ t,v=.int t→¬ (t / 2=0∨t / 2∈ks))→∀ e,H2 e=none→E (.ref e) (some a.c_NoBoard) H2:=fun hno=>q0 fun ⟨us,e1,_,hus⟩=>by
    rw [e1,List.getElem?_map] at hv
    cases hu:us[i]? with
    | none=>rw [hu] at hv;cases hv
    | some t =>
     rw [hu] at hv
     exact hno t (Option.some.inj hv).symm (hus t (List.mem_of_getElem? hu))
   walk_at "gs"
   refine ⟨v,rfl,hN v (List.mem_of_getElem? hv),?_⟩
   cases hw:whole v with
   | false =>
    walk_at "gs"
    refine fun e he=>bad (fun t e1=>?_) e he
    rw [e1] at hw
    cases hw
   | true =>
    obtain ⟨t,rfl⟩:=is_int hw
    walk_at "gs"
    by_cases g:t / 2=0
    ·rw [if_neg (by simpa using g)]
     refine ⟨by trivial,ts ++ [t],_,by rw [List.take_add_one,hv,hpre,List.map_append];rfl,fun u hu=>?_,rfl⟩
     rcases List.mem_append.mp hu with z | z
     ·exact hts u z
     ·rw [List.mem_singleton] at z
      subst z
      exact .inl g
    ·rw [if_pos (by simpa using g)]
     walk_at "gs"
     refine ⟨d,_,rfl,DGet.k (k:=.inl (t / 2)) hd,?_⟩
     rw [hk]
     by_cases hm:t / 2∈ks
     ·rw [decide_eq_true hm]
      walk_at "go"
      refine ⟨by trivial,ts ++ [t],_,by rw [List.take_add_one,hv,hpre,List.map_append];rfl,fun u hu=>?_,rfl⟩
      rcases List.mem_append.mp hu with z | z
      ·exact hts u z
      ·rw [List.mem_singleton] at z
       subst z
       exact .inr hm
     ·rw [decide_eq_false hm]
      walk_at "gs"
      refine fun e he=>bad (fun t' e1=>?_) e he
      cases e1
      exact fun z=>z.elim g hm
  ·rintro σ H2 ⟨rfl,ts,v2,hpre,hts,rfl⟩
   rw [List.take_length] at hpre
   walk_at "gs"
   refine q1 ⟨ts,hpre,?_,hts⟩
   rw [hpre,List.length_map] at g1
   omega
def BoardAt (C:Addr) (H:Hp) (x:Addr) (m:Nat) (ps:List Pc) (ties:List Int):Prop :=
 ∃ (dx k tt:Addr) (ts:List (Addr × Addr)),H x=some (.ins C dx [("many",.int m),("kept_pieces",.ref k),("kept_ties",.ref tt)])∧PTup H k ts ps∧H tt=some (.tup (ties.map V.int))
theorem BoardAt.nl {C:Addr}{H H':Hp}{x:Addr}{m:Nat}{ps:List Pc}{ties:List Int} (h:BoardAt C H x m ps ties) (s:NL H H'):BoardAt C H' x m ps ties:=by
 obtain ⟨dx,k,tt,ts,h1,h2,h3⟩:=h
 exact ⟨dx,k,tt,ts,s _ _ (fun _ z=>nomatch z) h1,h2.nl s,s _ _ (fun _ z=>nomatch z) h3⟩
theorem BoardAt.same {C:Addr}{H H':Hp}{x:Addr}{m:Nat}{ps:List Pc}{ties:List Int} (h:BoardAt C H x m ps ties) (s:Same H H'):BoardAt C H' x m ps ties:=h.nl (NL.of s)
theorem PLst.up {H:Hp}{l:Addr}{ts:List (Addr × Addr)}{ps:List Pc} (h:PLst H l ts ps):GLst H l ts (ps.map up) :=
 ⟨h.lst,by rw [List.length_map];exact h.len,fun i t g ht hg=>by
  obtain ⟨p,hp,rfl⟩:=get_map_of hg
  exact h.at_ i t p ht hp⟩
theorem GLst.dn {H:Hp}{l:Addr}{ts:List (Addr × Addr)}{ps:List Pc} (h:GLst H l ts (ps.map K34.up)):PLst H l ts ps :=
 ⟨h.lst,by have:=h.len;rwa [List.length_map] at this,fun i t p ht hp=>h.at_ i t (K34.up p) ht (by rw [List.getElem?_map,hp];rfl)⟩
def GoodB (mv:V) (gs:List GPc) (ys:List V):Prop:=∃ (m:Nat) (ps:List Pc) (ties:List Int),mv=.int m∧gs=ps.map up∧ys=ties.map V.int∧1≤m∧m≤10∧WP m ps∧1≤ties.length∧∀ t∈ties,t / 2=0∨t / 2∈known m ps
def sp_Board___init__ (a:Adr) (K:PySem.W.Frag):Sp:=fun vs H Q E=>∃ (x dx l tp:Addr) (mv:V) (ts:List (Addr × Addr)) (gs:List GPc) (ys:List V),vs=[.ref x,mv,.ref l,.ref tp]∧H x=some (.ins a.c_Board dx [])∧GLst H l ts gs∧GNice H gs∧H tp=some (.lst ys)∧(∀ y∈ys,Nice H y)∧Nice H mv∧gs.length≤1000 ∧
 (∀ (m:Nat) ps ties H',GoodB mv gs ys→mv=.int m→gs=ps.map up→ys=ties.map V.int→(∀ b o,b≠x→H b=some o→H' b=some o)→BoardAt a.c_Board H' x m ps ties→Q .non H')∧(¬ GoodB mv gs ys→∀ H' e,(∀ b o,H b=some o→H' b=some o)→H' e=none→E (.ref e) (some a.c_NoBoard) H')
def rd_Board___init__ (a:Adr) (K:PySem.W.Frag) (E:XK):TS:=(tSeq (tIfS (tNot (cTru K (tCall (sp_is_between K) [] E0 (tCons (cVar 1) (tCons (tC (.int 1)) (tCons (tC (gv_MOST_INPUTS a)) tNil)))))) (tRaise a.c_NoBoard (tCons (tC (.str "not one to ten inputs")) tNil) E) tNext)
  (tSeq (tDrop (tCall (sp_need_ties a K) [] E (tCons (cVar 3) (tCons (tCall (sp_need_pieces a K) [] E (tCons (cVar 1) (tCons (cVar 2) tNil))) tNil))))
  (tSeq (sFld K (cVar 0) (cVar 1) "many")
  (tSeq (sFld K (cVar 0) (tCB (cTuple K) (tCons (tComp (iList K (cVar 2)) 3 [] (gTup K 3 (gCons (gName 0) (gCons (gName 1) (gCons (gName 2) gNil)))) tTrue (tTup (tCons (cVar 0) (tCons (tCB (cTuple K) (tCons (cVar 1) tNil)) (tCons (cVar 2) tNil))))) tNil)) "kept_pieces")
  (sFld K (cVar 0) (tCB (cTuple K) (tCons (cVar 3) tNil)) "kept_ties")))))
theorem tm_Board___init__ (T:Txt K mg a) {cdv:Value}{A:Around}{outer:List Env}{s:Shared}{H:Hp}{E:XK} (hr:Room 3 (A.deeper (envOfC "Board.__init__" (defScope s_Board___init__) s.heap.objs.size a.f_Board___init__ cdv))) :
  PSs (cxOf (CX1 P w) P w K mg base N_Board___init__ "Board.__init__" (defScope s_Board___init__) a.f_Board___init__ cdv A outer s H E) (defBody s_Board___init__) (rd_Board___init__ a K E) :=
 (pss_cons (ps_if (pt_not (pt_tru (pe_call (ok_is_between T) (hr.mono (by decide)) rfl T.mg_is_between T.fn_is_between.kp T.bi_is_between .nil pass0 (pa_cons (cv 1) (pa_cons pe_int (pa_cons (pe_globE rfl T.gx_MOST_INPUTS) pa_nil)))))) (pss_one (ps_raise PySem.F.excBase_ValueError T.xi_NoBoard (by decide) rfl T.mg_NoBoard rfl xok_fn (pa_cons pe_str pa_nil))) pss_nil)
   (pss_cons (ps_expr (pe_call (ok_need_ties T) (hr.mono (by decide)) rfl T.mg_need_ties T.fn_need_ties.kp T.bi_need_ties .nil (pass1 xok_fn) (pa_cons (cv 3) (pa_cons (pe_call (ok_need_pieces T) (hr.mono (by decide)) rfl T.mg_need_pieces T.fn_need_pieces.kp T.bi_need_pieces .nil (pass1 xok_fn) (pa_cons (cv 1) (pa_cons (cv 2) pa_nil))) pa_nil))))
   (pss_cons (ps_fld (cv 0) (cv 1) rfl)
   (pss_cons (ps_fld (cv 0) (pe_callTy c_tuple (by rfl) T.no_tuple PyProof.Rows.boot_tuple (pa_cons (pe_comp (N:=["knot","cut","table"]) (k:=3) (sel:=[]) (CScope.of (defScope s_Board___init__).names (by decide +kernel)) (CNames.of N_Board___init__ (by decide +kernel)) rfl (pi_list (cv 2)) (fun _ _ _ _=>(pg_tup rfl (pgs_cons (pg_name (i:=0) (show List.Nodup (["knot","cut","table"]:List Str) by decide +kernel) rfl (by walk_at "o")) (pgs_cons (pg_name (i:=1) (show List.Nodup (["knot","cut","table"]:List Str) by decide +kernel) rfl (by walk_at "o")) (pgs_cons (pg_name (i:=2) (show List.Nodup (["knot","cut","table"]:List Str) by decide +kernel) rfl (by walk_at "o")) pgs_nil))))) (fun _ _ _ _=>pts_nil) (fun _ _ _ _=>(pe_tup (pa_cons (cv 0) (pa_cons (pe_callTy c_tuple (by rfl) T.no_tuple PyProof.Rows.boot_tuple (pa_cons (cv 1) pa_nil)) (pa_cons (cv 2) pa_nil)))))) pa_nil)) rfl)
   (pss_one (ps_fld (cv 0) (pe_callTy c_tuple (by rfl) T.no_tuple PyProof.Rows.boot_tuple (pa_cons (cv 3) pa_nil)) rfl))))))
theorem ok_Board___init__ (T:Txt K mg a):FnOk P w K mg base (CX1 P w) 4 a.f_Board___init__ a.d_Board___init__ ["self","many","pieces","ties"] (sp_Board___init__ a K):=by
 refine T.fn_Board___init__.okX sc_Board___init__ (fun vs H Q E h=>?_) (fun cdv A outer s H vs Q E hr h=>⟨_,tm_Board___init__ T hr,?_⟩)
 ·obtain ⟨x,dx,l,tp,mv,ts,gs,ys,rfl,_⟩:=h;rfl
 ·obtain ⟨x,dx,l,tp,mv,ts,gs,ys,rfl,hx,hG,hN,hY,hYN,hMN,hz,q1,q0⟩:=h
  show rd_Board___init__ a K E _ [some (.ref x),some mv,some (.ref l),some (.ref tp)] H
  unfold rd_Board___init__ gv_MOST_INPUTS
  have big:(20000:Nat)≤sizeLine:=by decide
  walk_at "gs"
  refine ⟨mv,_,_,rfl,hMN,?_⟩
  cases hb:btw mv 1 10 with
  | false =>
   walk_at "gs"
   refine fun e he=>q0 (fun ⟨m,ps,ties,e1,_,_,m1,m10,_⟩=>?_) H e (fun _ _ z=>z) he
   rw [e1] at hb
   exact of_decide_eq_false hb ⟨by omega,by omega⟩
  | true =>
  have hmm:∃ m:Nat,mv=.int m∧1≤m∧m≤10:=by
   cases mv with
   | int k =>
    have hk:1≤k∧k≤10:=of_decide_eq_true hb
    exact ⟨k.toNat,by rw [Int.toNat_of_nonneg (by omega)],by omega,by omega⟩
   | _=>cases hb
  obtain ⟨m,rfl,m1,m10⟩:=hmm
  walk_at "gs"
  refine ⟨m,l,ts,gs,rfl,hG,hN,m10,hz,fun ps d kvs H1 hgs wp md hk=>?_,fun hbad H1 e s1 he=>?_⟩
  case refine_2 =>
   exact q0 (fun ⟨m',ps,ties,e1,e2,_,_,_,w,_⟩=>hbad ⟨ps,e2,by have e3:(m:Int)=(m':Int):=V.int.inj e1;rw [show m=m' by omega];exact w⟩) H1 e s1 he
  obtain ⟨_,hd1,s1⟩:=md
  subst hgs
  have hP:=hG.dn
  have htl:=hP.len
  rw [List.length_map] at hz
  refine ⟨tp,d,ys,kvs,known m ps,rfl,s1 _ _ hY,fun y hy=>(hYN y hy).same s1,hd1,hk,fun hok=>?_,fun hbad e he=>?_⟩
  case refine_2 =>
   exact q0 (fun ⟨m',qs,ties,e1,e2,e3,_,_,w,l1,ht⟩=>hbad ⟨ties,e3,l1,by have e4:(m:Int)=(m':Int):=V.int.inj e1;rw [ups_inj e2,show m=m' by omega];exact ht⟩) H1 e s1 he
  obtain ⟨ties,rfl,l1,hti⟩:=hok
  have hT:=hY
  have q:∀ H',(∀ b o,b≠x→H b=some o→H' b=some o)→BoardAt a.c_Board H' x m ps ties→Q .non H':=fun H' st hB=>q1 m ps ties H' ⟨m,ps,ties,rfl,rfl,rfl,m1,m10,wp,l1,hti⟩ rfl rfl rfl st hB
  walk_at "gs"
  refine ⟨x,a.c_Board,dx,[],rfl,s1 _ _ hx,T.cl_Board,T.na_Board_many,by decide,?_⟩
  walk_at "gs"
  have hx2:upd H1 x (.ins a.c_Board dx (putF "many" (.int m) [])) x=some (.ins a.c_Board dx (putF "many" (.int m) [])):=upd_same
  have s2:∀ b o,b≠x→H b=some o→upd H1 x (.ins a.c_Board dx (putF "many" (.int m) [])) b=some o:=fun b o n e=>by rw [upd_ne n];exact s1 _ _ e
  generalize upd H1 x (.ins a.c_Board dx (putF "many" (.int m) []))=H2 at hx2 s2 ⊢
  have hl2:PLst H2 l ts ps:=⟨s2 _ _ (ne_of hP.lst hx (fun z=>nomatch z)) hP.lst,hP.len,fun i t p ht hp=>⟨s2 _ _ (ne_of (hP.at_ i t p ht hp).1 hx (fun z=>nomatch z)) (hP.at_ i t p ht hp).1,s2 _ _ (ne_of (hP.at_ i t p ht hp).2 hx (fun z=>nomatch z)) (hP.at_ i t p ht hp).2⟩⟩
  refine ⟨⟨_,.of hl2.lst⟩,fun cp hcp=>comp_gen (n:=(ts.map fun t=>V.ref t.1).length) (item:=fun i=>(ts.map fun t=>V.ref t.1).getD i .non) (fun σ=>∃ v0 v1 v2,σ=[v0,v1,v2]) (fun i H3=>Same H2 H3∧∃ us:List (Addr × Addr),H3 cp=some (.lst (us.map fun t=>V.ref t.1))∧us.length=i∧∀ (j:Nat) t p,us[j]? = some t→ps[j]? = some p→H3 t.1=some (.tup [.int p.1,.ref t.2,.int p.2.2])∧H3 t.2=some (.tup (p.2.1.map V.int))) ⟨_,_,_,rfl⟩ ⟨same_upd hcp,[],upd_same,rfl,fun j t p ht=>by simp at ht⟩ (src_list (xs:=ts.map fun t=>V.ref t.1) ?_) ?_ ?_ ?_⟩
  ·rintro i H3 _ ⟨s3,_⟩
   exact .of (s3 _ _ hl2.lst)
  ·rintro H3 ⟨s3,_⟩
   exact ⟨_,.of (s3 _ _ hl2.lst),Nat.le_refl _⟩
  ·rintro i σ3 H3 R hi ⟨v0,v1,v2,rfl⟩ ⟨s3,us,h3,hul,hus⟩ hR
   have hit:i<ts.length:=by rwa [List.length_map] at hi
   obtain ⟨p,hp,hpt,hpc⟩:=(hl2.same s3).get hit
   rw [ref_at ts hit]
   generalize (ts[i]).1=t1 at *
   generalize (ts[i]).2=t2 at *
   walk_at "gs"
   refine ⟨t1,_,rfl,.of hpt,rfl,_,_,rfl,_,_,rfl,_,_,rfl,rfl,?_⟩
   walk_at "gs"
   refine ⟨_,.inl ⟨.of hpc,fun c4 H4 n4=>?_⟩⟩
   refine ⟨by show 3≤sizeLine;decide,fun t5 H5 n5=>?_⟩
   have s35:=n4.same.trans n5.same
   have h5:=s35 _ _ h3
   have ntp:t5≠cp:=(ne_of_none (n4.same _ _ h3) n5.was).symm
   have ncp:c4≠cp:=(ne_of_none h3 n4.was).symm
   refine ⟨_,h5,by rw [List.length_map];omega,hR _ _ ⟨_,_,_,rfl⟩ ⟨(s3.trans s35).put hcp,us ++ [(t5,c4)],by rw [upd_same,List.map_append];rfl,by rw [List.length_append,hul];rfl,fun j t p' ht hp'=>?_⟩⟩
   by_cases hji:j<i
   ·rw [List.getElem?_append_left (by omega)] at ht
    obtain ⟨g1,g2⟩:=hus j t p' ht hp'
    exact ⟨by rw [upd_ne (ne_of g1 h3 (fun z=>nomatch z))];exact s35 _ _ g1,by rw [upd_ne (ne_of g2 h3 (fun z=>nomatch z))];exact s35 _ _ g2⟩
   ·have hjl:j<us.length+1:=by have:=(List.getElem?_eq_some_iff.mp ht).1;rwa [List.length_append] at this
    have hj:j=i:=by omega
    subst hj
    rw [← hul,List.getElem?_append_right (Nat.le_refl _),Nat.sub_self] at ht
    have et:(t5,c4)=t:=by simpa using ht
    subst et
    rw [hp] at hp'
    cases hp'
    exact ⟨by rw [upd_ne ntp];exact n5.at_,by rw [upd_ne ncp];exact n5.same _ _ n4.at_⟩
  rintro H3 ⟨s3,us,h3,hul,hus⟩
  rw [List.length_map] at hul
  walk_at "gs"
  refine ⟨_,.inl ⟨.of h3,fun kp H4 n4=>?_⟩⟩
  have s24:=s3.trans n4.same
  refine ⟨x,a.c_Board,dx,_,rfl,s24 _ _ hx2,T.cl_Board,T.na_Board_kept_pieces,by have:=length_putF "many" (.int (m:Int)) [];simp only [List.length_nil] at this;omega,?_⟩
  walk_at "gs"
  have hne:∀ {b:Addr}{o:HO},H4 b=some o→(∀ C d f,o≠.ins C d f)→b≠x:=fun {b o} e n z=>by
   subst z
   rw [s24 _ _ hx2] at e
   cases e
   exact n _ _ _ rfl
  have hx5:upd H4 x (.ins a.c_Board dx (putF "kept_pieces" (.ref kp) (putF "many" (.int m) []))) x=some (.ins a.c_Board dx (putF "kept_pieces" (.ref kp) (putF "many" (.int m) []))):=upd_same
  have u5:∀ b o,b≠x→H4 b=some o→upd H4 x (.ins a.c_Board dx (putF "kept_pieces" (.ref kp) (putF "many" (.int m) []))) b=some o:=fun b o n e=>by rw [upd_ne n];exact e
  generalize upd H4 x (.ins a.c_Board dx (putF "kept_pieces" (.ref kp) (putF "many" (.int m) [])))=H5 at hx5 u5 ⊢
  have hT4:H4 tp=some (.lst (ties.map V.int)):=s24 _ _ (s2 _ _ (ne_of hT hx (fun z=>nomatch z)) hT)
  have hT5:=u5 _ _ (hne hT4 (fun _ _ _ z=>nomatch z)) hT4
  refine ⟨_,.inl ⟨.of hT5,fun tt H6 n6=>?_⟩⟩
  refine ⟨x,a.c_Board,dx,_,rfl,n6.same _ _ hx5,T.cl_Board,T.na_Board_kept_ties,by have h7:=length_putF "many" (.int (m:Int)) [];have h8:=length_putF "kept_pieces" (.ref kp) (putF "many" (.int (m:Int)) []);simp only [List.length_nil] at h7;omega,?_⟩
  have e1:putF "kept_ties" (.ref tt) (putF "kept_pieces" (.ref kp) (putF "many" (.int (m:Int)) []))=([("many",V.int m),("kept_pieces",V.ref kp),("kept_ties",V.ref tt)]:List (Str × V)):=by
   have z1:¬ ("many" : Str) = "kept_pieces":=by decide +kernel
   have z2:¬ ("many" : Str) = "kept_ties":=by decide +kernel
   have z3:¬ ("kept_pieces" : Str) = "kept_ties":=by decide +kernel
   simp [putF,z1,z2,z3]
  have hx6:=n6.same _ _ hx5
  have ntx:tt≠x:=(ne_of_none hx5 n6.was).symm
  have up:∀ b o,b≠x→H4 b=some o→upd H6 x (.ins a.c_Board dx (putF "kept_ties" (.ref tt) (putF "kept_pieces" (.ref kp) (putF "many" (.int (m:Int)) [])))) b=some o:=fun b o n e=>by rw [upd_ne n];exact n6.same _ _ (u5 _ _ n e)
  refine q _ (fun b o n e=>up _ _ n (s24 _ _ (s2 _ _ n e))) ⟨dx,kp,tt,us,by rw [upd_same,e1],⟨up _ _ (hne n4.at_ (fun _ _ _ z=>nomatch z)) n4.at_,by omega,fun j t p ht hp=>?_⟩,by rw [upd_ne ntx];exact n6.at_⟩
  obtain ⟨g1,g2⟩:=hus j t p ht hp
  have g1':=n4.same _ _ g1
  have g2':=n4.same _ _ g2
  exact ⟨up _ _ (hne g1' (fun _ _ _ z=>nomatch z)) g1',up _ _ (hne g2' (fun _ _ _ z=>nomatch z)) g2'⟩
def sp_Board_pieces (a:Adr) (_:PySem.W.Frag):Sp:=fun vs H Q _=>∃ (x:Addr) (m:Nat) (ps:List Pc) (ties:List Int),vs=[.ref x]∧BoardAt a.c_Board H x m ps ties∧ps.length≤1000 ∧
 ∀ l us H',H l=none→Same H H'→PLst H' l us ps→(∀ t∈us,H t.1=none∧H t.2=none∧t.2≠l)→Q (.ref l) H'
def rd_Board_pieces (K:PySem.W.Frag):TS:=(tRet (tComp (iTup K (tFld K (cVar 0) "kept_pieces")) 3 [] (gTup K 3 (gCons (gName 0) (gCons (gName 1) (gCons (gName 2) gNil)))) tTrue (tTup (tCons (cVar 0) (tCons (tCB (cList K) (tCons (cVar 1) tNil)) (tCons (cVar 2) tNil))))))
theorem tm_Board_pieces (T:Txt K mg a) {cdv:Value}{A:Around}{outer:List Env}{s:Shared}{H:Hp}{E:XK} (hr:Room 0 (A.deeper (envOfC "Board.pieces" (defScope s_Board_pieces) s.heap.objs.size a.f_Board_pieces cdv))) :
  PSs (cxOf CX0 P w K mg base N_Board_pieces "Board.pieces" (defScope s_Board_pieces) a.f_Board_pieces cdv A outer s H E).nox (defBody s_Board_pieces) (rd_Board_pieces K) :=
 (pss_one (ps_ret (pe_comp (N:=["knot","cut","table"]) (k:=3) (sel:=[]) (CScope.of (defScope s_Board_pieces).names (by decide +kernel)) (CNames.of N_Board_pieces (by decide +kernel)) rfl (pi_tup (pe_fld (cv 0) rfl)) (fun _ _ _ _=>(pg_tup rfl (pgs_cons (pg_name (i:=0) (show List.Nodup (["knot","cut","table"]:List Str) by decide +kernel) rfl (by walk_at "o")) (pgs_cons (pg_name (i:=1) (show List.Nodup (["knot","cut","table"]:List Str) by decide +kernel) rfl (by walk_at "o")) (pgs_cons (pg_name (i:=2) (show List.Nodup (["knot","cut","table"]:List Str) by decide +kernel) rfl (by walk_at "o")) pgs_nil))))) (fun _ _ _ _=>pts_nil) (fun _ _ _ _=>(pe_tup (pa_cons (cv 0) (pa_cons (pe_callTy c_list (by rfl) T.no_list PyProof.Rows.boot_list (pa_cons (cv 1) pa_nil)) (pa_cons (cv 2) pa_nil))))))))
theorem ok_Board_pieces (T:Txt K mg a):FnOk P w K mg base CX0 1 a.f_Board_pieces a.d_Board_pieces ["self"] (sp_Board_pieces a K):=by
 refine T.fn_Board_pieces.ok sc_Board_pieces (fun vs H Q E h=>?_) (fun cdv A outer s H vs Q E hr h=>⟨_,tm_Board_pieces T hr,?_⟩)
 ·obtain ⟨x,m,ps,ties,rfl,_⟩:=h;rfl
 ·obtain ⟨x,m,ps,ties,rfl,hB,hz,q⟩:=h
  show rd_Board_pieces K _ [some (.ref x)] H
  unfold rd_Board_pieces
  have big:(20000:Nat)≤sizeLine:=by decide
  obtain ⟨dx,k,tt,ts,hx,hP,hT⟩:=hB
  have htl:=hP.len
  walk_at "gs"
  refine ⟨x,a.c_Board,dx,_,_,rfl,hx,T.cl_Board,T.na_Board_kept_pieces,rfl,?_⟩
  walk_at "gs"
  refine ⟨⟨_,.of hP.tup⟩,fun cp hcp=>comp_gen (n:=(ts.map fun t=>V.ref t.1).length) (item:=fun i=>(ts.map fun t=>V.ref t.1).getD i .non) (fun σ=>∃ v0 v1 v2,σ=[v0,v1,v2]) (fun i H3=>Same H H3∧∃ us:List (Addr × Addr),H3 cp=some (.lst (us.map fun t=>V.ref t.1))∧us.length=i∧(∀ t∈us,H t.1=none∧H t.2=none∧t.2≠cp)∧∀ (j:Nat) t p,us[j]? = some t→ps[j]? = some p→H3 t.1=some (.tup [.int p.1,.ref t.2,.int p.2.2])∧H3 t.2=some (.lst (p.2.1.map V.int))) ⟨_,_,_,rfl⟩ ⟨same_upd hcp,[],upd_same,rfl,fun t ht=>by simp at ht,fun j t p ht=>by simp at ht⟩ (src_tup (xs:=ts.map fun t=>V.ref t.1) ?_) ?_ ?_ ?_⟩
  ·rintro i H3 _ ⟨s3,_⟩
   exact .of (s3 _ _ hP.tup)
  ·rintro H3 ⟨s3,_⟩
   exact ⟨_,.of (s3 _ _ hP.tup),Nat.le_refl _⟩
  ·rintro i σ3 H3 R hi ⟨v0,v1,v2,rfl⟩ ⟨s3,us,h3,hul,hun,hus⟩ hR
   have hit:i<ts.length:=by rwa [List.length_map] at hi
   obtain ⟨p,hp,hpt,hpc⟩:=(hP.nl (NL.of s3)).get hit
   rw [ref_at ts hit]
   generalize (ts[i]).1=t1 at *
   generalize (ts[i]).2=t2 at *
   walk_at "gs"
   refine ⟨t1,_,rfl,.of hpt,rfl,_,_,rfl,_,_,rfl,_,_,rfl,rfl,?_⟩
   walk_at "gs"
   refine ⟨_,.inr (.of hpc),fun c4 H4 n4=>?_⟩
   refine ⟨by show 3≤sizeLine;decide,fun t5 H5 n5=>?_⟩
   have s35:=n4.same.trans n5.same
   have h5:=s35 _ _ h3
   have ntp:t5≠cp:=(ne_of_none (n4.same _ _ h3) n5.was).symm
   have ncp:c4≠cp:=(ne_of_none h3 n4.was).symm
   refine ⟨_,h5,by rw [List.length_map];omega,hR _ _ ⟨_,_,_,rfl⟩ ⟨(s3.trans s35).put hcp,us ++ [(t5,c4)],by rw [upd_same,List.map_append];rfl,by rw [List.length_append,hul];rfl,fun t ht=>?_,fun j t p' ht hp'=>?_⟩⟩
   ·rcases List.mem_append.mp ht with z | z
    ·exact hun t z
    ·rw [List.mem_singleton] at z
     subst z
     exact ⟨(s3.trans n4.same).nil n5.was,s3.nil n4.was,ncp⟩
   by_cases hji:j<i
   ·rw [List.getElem?_append_left (by omega)] at ht
    obtain ⟨g1,g2⟩:=hus j t p' ht hp'
    exact ⟨by rw [upd_ne (ne_of g1 h3 (fun z=>nomatch z))];exact s35 _ _ g1,by rw [upd_ne (hun t (List.mem_of_getElem? ht)).2.2];exact s35 _ _ g2⟩
   ·have hjl:j<us.length+1:=by have:=(List.getElem?_eq_some_iff.mp ht).1;rwa [List.length_append] at this
    have hj:j=i:=by omega
    subst hj
    rw [← hul,List.getElem?_append_right (Nat.le_refl _),Nat.sub_self] at ht
    have et:(t5,c4)=t:=by simpa using ht
    subst et
    rw [hp] at hp'
    cases hp'
    exact ⟨by rw [upd_ne ntp];exact n5.at_,by rw [upd_ne ncp];exact n5.same _ _ n4.at_⟩
  rintro H3 ⟨s3,us,h3,hul,hun,hus⟩
  rw [List.length_map] at hul
  exact q cp us H3 hcp s3 ⟨h3,by omega,hus⟩ hun
def sp_Board_ties (a:Adr) (_:PySem.W.Frag):Sp:=fun vs H Q _=>∃ (x:Addr) (m:Nat) (ps:List Pc) (ties:List Int),vs=[.ref x]∧BoardAt a.c_Board H x m ps ties∧∀ l H',New H l (.lst (ties.map V.int)) H'→Q (.ref l) H'
def rd_Board_ties (K:PySem.W.Frag):TS:=(tRet (tCB (cList K) (tCons (tFld K (cVar 0) "kept_ties") tNil)))
theorem tm_Board_ties (T:Txt K mg a) {cdv:Value}{A:Around}{outer:List Env}{s:Shared}{H:Hp}{E:XK} (hr:Room 0 (A.deeper (envOfC "Board.ties" (defScope s_Board_ties) s.heap.objs.size a.f_Board_ties cdv))) :
  PSs (cxOf CX0 P w K mg base N_Board_ties "Board.ties" (defScope s_Board_ties) a.f_Board_ties cdv A outer s H E).nox (defBody s_Board_ties) (rd_Board_ties K) :=
 (pss_one (ps_ret (pe_callTy c_list (by rfl) T.no_list PyProof.Rows.boot_list (pa_cons (pe_fld (cv 0) rfl) pa_nil))))
theorem ok_Board_ties (T:Txt K mg a):FnOk P w K mg base CX0 1 a.f_Board_ties a.d_Board_ties ["self"] (sp_Board_ties a K):=by
 refine T.fn_Board_ties.ok sc_Board_ties (fun vs H Q E h=>?_) (fun cdv A outer s H vs Q E hr h=>⟨_,tm_Board_ties T hr,?_⟩)
 ·obtain ⟨x,m,ps,ties,rfl,_⟩:=h;rfl
 ·obtain ⟨x,m,ps,ties,rfl,hB,q⟩:=h
  show rd_Board_ties K _ [some (.ref x)] H
  unfold rd_Board_ties
  obtain ⟨dx,k,tt,ts,hx,hP,hT⟩:=hB
  walk_at "gs"
  refine ⟨x,a.c_Board,dx,_,_,rfl,hx,T.cl_Board,T.na_Board_kept_ties,rfl,?_⟩
  walk_at "gs"
  exact ⟨_,.inr (.of hT),fun l H' n=>q l H' n⟩
theorem Nice.int {H:Hp}{i:Int}:Nice H (.int i):=trivial
theorem up_nice {H:Hp}{m:Nat}{ps:List Pc} (w:WP m ps):GNice H (ps.map up):=fun g hg=>by
 obtain ⟨p,hp,rfl⟩:=List.mem_map.mp hg
 obtain ⟨i,hi⟩:=List.mem_iff_getElem?.mp hp
 have:=(w i p hi).l6
 refine ⟨trivial,trivial,by show (p.2.1.map V.int).length≤100;rw [List.length_map];omega,fun x hx=>?_⟩
 obtain ⟨y,_,rfl⟩:=List.mem_map.mp hx
 trivial
theorem same2 {H:Hp}{x dx C:Addr} (hx:H x=none) (hd:H dx=none):Same H (upd (upd H dx (.own x)) x (.ins C dx [])):=fun b o e=>by
 rw [upd_ne (ne_of_none e hx),upd_ne (ne_of_none e hd)]
 exact e
theorem mk_Board {a:Adr}{K:PySem.W.Frag}{H:Hp}{m:Nat}{l tp:Addr}{ts:List (Addr × Addr)}{ps:List Pc}{ties:List Int}{F:Addr→Hp→Prop}{E:XK} (hP:PLst H l ts ps) (hT:H tp=some (.lst (ties.map V.int))) (wp:WP m ps) (wt:WT m ps ties) (m1:1≤m) (m10:m≤10) (hz:ps.length≤1000)
  (q:∀ x H',Same H H'→BoardAt a.c_Board H' x m ps ties→F x H') :
  ∀ x dx,H x=none→H dx=none→dx≠x→sp_Board___init__ a K [.ref x,.int m,.ref l,.ref tp] (upd (upd H dx (.own x)) x (.ins a.c_Board dx [])) (fun v H2=>v=.non∧F x H2) E:=by
 intro x dx hx hd hne
 have s0:=same2 (C:=a.c_Board) hx hd
 refine ⟨x,dx,l,tp,.int m,ts,ps.map up,ties.map V.int,rfl,upd_same,(hP.same s0).up,up_nice wp,s0 _ _ hT,fun y hy=>?_,trivial,by rw [List.length_map];exact hz,fun m' ps' ties' H' _ e1 e2 e3 st hB=>⟨rfl,q x H' (fun b o e=>?_) ?_⟩,fun hb=>?_⟩
 ·obtain ⟨z,_,rfl⟩:=List.mem_map.mp hy
  trivial
 ·exact st b o (ne_of_none e hx) (s0 _ _ e)
 ·have e4:(m:Int)=(m':Int):=V.int.inj e1
  rw [ups_inj e2,map_int_inj e3,show m=m' by omega]
  exact hB
 ·exact absurd ⟨m,ps,ties,rfl,rfl,rfl,m1,m10,wp,wt.l1,fun t ht=>(wt.tie t ht).2⟩ hb
theorem mk_bad {a:Adr}{K:PySem.W.Frag}{H:Hp}{mv:V}{l tp:Addr}{ts:List (Addr × Addr)}{gs:List GPc}{ys:List V}{F:Addr→Hp→Prop}{E:XK} (hG:GLst H l ts gs) (hN:GNice H gs) (hT:H tp=some (.lst ys)) (hYN:∀ y∈ys,Nice H y) (hM:Nice H mv) (hz:gs.length≤1000) (hb:¬ GoodB mv gs ys)
  (q:∀ H' e,Same H H'→H' e=none→E (.ref e) (some a.c_NoBoard) H') :
  ∀ x dx,H x=none→H dx=none→dx≠x→sp_Board___init__ a K [.ref x,mv,.ref l,.ref tp] (upd (upd H dx (.own x)) x (.ins a.c_Board dx [])) (fun v H2=>v=.non∧F x H2) E:=by
 intro x dx hx hd hne
 have s0:=same2 (C:=a.c_Board) hx hd
 refine ⟨x,dx,l,tp,mv,ts,gs,ys,rfl,upd_same,hG.same s0,hN.same s0,s0 _ _ hT,fun y hy=>(hYN y hy).same s0,hM.same s0,hz,fun m' ps' ties' H' hg e1 e2 e3 st hB=>absurd hg hb,fun _ H' e s' he=>q H' e (fun b o z=>s' b o (s0 b o z)) he⟩
def sp_law_cell_at (K:PySem.W.Frag):Sp:=fun vs H Q _=>∃ (p:Addr) (ns:List Int) (k:Nat),vs=[.ref p,.int k]∧SqL K H p (ns.map V.int)∧∀ c,Q (.int c) H
def rd_law_cell_at (K:PySem.W.Frag):TS:=(tSeq (tIfS (cTst (tOp (cI2 fun i j=>.bl (decide (i<j))) (cVar 1) (tCB (cLen K) (tCons (cVar 0) tNil)))) (tRet (tOp (cIx K) (cVar 0) (cVar 1))) tNext)
  (tRet (tC (.int 0))))
theorem tm_law_cell_at (T:Txt K mg a) {cdv:Value}{A:Around}{outer:List Env}{s:Shared}{H:Hp}{E:XK} (hr:Room 0 (A.deeper (envOfC "_law_cell_at" (defScope s_law_cell_at) s.heap.objs.size a.f_law_cell_at cdv))) :
  PSs (cxOf CX0 P w K mg base N_law_cell_at "_law_cell_at" (defScope s_law_cell_at) a.f_law_cell_at cdv A outer s H E).nox (defBody s_law_cell_at) (rd_law_cell_at K) :=
 (pss_cons (ps_if (t_cmp o_lt (cv 1) (pe_callB c_len (by rfl) T.no_len PySem.boot_len (pa_cons (cv 0) pa_nil)) (nomark _)) (pss_one (ps_ret (pe_ix i_seq (cv 0) (cv 1) (fun _ _=>rfl)))) pss_nil)
   (pss_one (ps_ret pe_int)))
theorem ok_law_cell_at (T:Txt K mg a):FnOk P w K mg base CX0 1 a.f_law_cell_at a.d_law_cell_at ["_law_script","_law_k"] (sp_law_cell_at K):=by
 refine T.fn_law_cell_at.ok sc_law_cell_at (fun vs H Q E h=>?_) (fun cdv A outer s H vs Q E hr h=>⟨_,tm_law_cell_at T hr,?_⟩)
 ·obtain ⟨p,ns,k,rfl,_⟩:=h;rfl
 ·obtain ⟨p,ns,k,rfl,hS,q⟩:=h
  show rd_law_cell_at K _ [some (.ref p),some (.int k)] H
  unfold rd_law_cell_at
  walk_at "go"
  refine .inl ⟨_,.inl hS,?_⟩
  rw [List.length_map]
  by_cases h:(k:Int)<ns.length
  ·rw [if_pos h]
   exact ixI hS (by omega) h (q _)
  ·rw [if_neg h]
   exact q 0
theorem at_ints {ks:List Int}{i:Int} (h0:0≤i) (h1:i<ks.length):∃ g,g∈ks∧atI (ks.map V.int) i=some (.int g):=by
 have hl:i.toNat<ks.length:=by omega
 refine ⟨ks[i.toNat],List.getElem_mem _,?_⟩
 rw [atI_ok .non h0 (by rw [List.length_map];exact h1)]
 simp [List.getD,hl]
theorem known_last {m:Nat} (h:1≤m) (ps:List Pc):atI ((known m ps).map V.int) (-1)=some (.int (topK m ps)):=by
 have key:∃ L,known m ps=L ++ [topK m ps]:=by
  rcases List.eq_nil_or_concat ps with rfl | ⟨qs,p,rfl⟩
  ·obtain ⟨n,rfl⟩:∃ n,m=n+1:=⟨m - 1,by omega⟩
   refine ⟨(List.range n).map fun i:Nat=>1+(i:Int),?_⟩
   unfold known topK
   rw [List.map_nil,List.append_nil,List.range_succ,List.map_append]
   simp
   omega
  ·rw [List.concat_eq_append,known_snoc,top_snoc]
   exact ⟨_,rfl⟩
 obtain ⟨L,e⟩:=key
 rw [e,List.map_append]
 unfold atI ixN
 simp
 rw [if_pos (by omega),show (-1+((L.length:Int)+1)).toNat=L.length by omega]
 simp
theorem known_len (m:Nat) (ps:List Pc):(known m ps).length=m+ps.length:=by
 unfold known
 rw [List.length_append,List.length_map,List.length_map,List.length_range]
theorem WP.top {m:Nat}{ps:List Pc} (w:WP m ps):∀ i,i≤ps.length→(m:Int)≤topK m (ps.take i)
 | 0,_=>by rw [List.take_zero];exact Int.le_refl _
 | i+1,h=>by
  have hp:ps[i]? = some ps[i]:=List.getElem?_eq_getElem h
  rw [take_snoc hp,top_snoc]
  have:=WP.top w i (by omega)
  have:=(w i _ hp).up
  omega
theorem WP.kb {m:Nat}{ps:List Pc} (w:WP m ps) {i:Nat}{p:Pc} (hp:ps[i]? = some p):(m:Int)<p.1∧p.1≤999:=by
 have hi:=(List.getElem?_eq_some_iff.mp hp).1
 have:=w.top i (by omega)
 have a:=(w i p hp).up
 have b:=(w i p hp).hi
 omega
theorem WP.known {m:Nat}{ps:List Pc} (w:WP m ps) (m10:m≤10) {i:Nat}{x:Int} (hx:x∈known m (ps.take i)):1≤x∧x≤999:=by
 unfold K34.known at hx
 rcases List.mem_append.mp hx with z | z
 ·obtain ⟨k,hk,rfl⟩:=List.mem_map.mp z
  have:=List.mem_range.mp hk
  omega
 ·obtain ⟨p,hp,rfl⟩:=List.mem_map.mp z
  obtain ⟨j,hj⟩:=List.mem_iff_getElem?.mp (List.mem_of_mem_take hp)
  have:=w.kb hj
  omega
def sp_law_cut (_:PySem.W.Frag):Sp:=fun vs H Q _=>∃ (c:Int) (kp:Addr) (ks:List Int),vs=[.int c,.ref kp]∧H kp=some (.lst (ks.map V.int))∧1≤ks.length∧ks.length≤1000 ∧
 ∀ q H' (ys:List Int),Mad H q (.lst (ys.map V.int)) H'→ys.Pairwise (· < ·)→1≤ys.length→ys.length≤6→(∀ y∈ys,y∈ks)→Q (.ref q) H'
theorem pos_of {ys ns:List Int} (h:∀ x,x∈ys ↔ x∈ns) (hn:1≤ns.length):1≤ys.length:=by
 cases ns with
 | nil=>simp at hn
 | cons a r=>exact List.length_pos_of_mem ((h a).mpr (List.mem_cons_self ..))
def rd_law_cut (K:PySem.W.Frag):TS:=(tSeq (tAsg (tOp cAdd (tC (.int 1)) (tOp (cI2c (fun _ j=>0<j) fun i j=>.int (i % j)) (cVar 0) (tC (.int 6)))) (gName 2))
  (tSeq (tAsg (tOp cAdd (tC (.int 1)) (tOp (cI2c (fun _ j=>0<j) fun i j=>.int (i % j)) (tOp (cI2c CDiv fun i j=>.int (i / j)) (cVar 0) (tC (.int 6))) (tC (.int 5)))) (gName 3))
  (tSeq (tAsg (tComp (iRng1 (tCons (cVar 2) tNil)) 1 [1,0,3] (gName 0) tTrue (tOp (cIx K) (cVar 1) (tOp (cI2 fun i j=>.int (i - j)) (tOp (cI2 fun i j=>.int (i - j)) (tCB (cLen K) (tCons (cVar 1) tNil)) (tC (.int 1))) (tOp (cI2c (fun _ j=>0<j) fun i j=>.int (i % j)) (tOp cAdd (tOp (cI2c CDiv fun i j=>.int (i / j)) (cVar 2) (tC (.int 30))) (tOp cMul (cVar 3) (cVar 0))) (tCB (cLen K) (tCons (cVar 1) tNil)))))) (gName 4))
  (tRet (cSortSet K (tCons (cVar 4) tNil))))))
theorem tm_law_cut (T:Txt K mg a) {cdv:Value}{A:Around}{outer:List Env}{s:Shared}{H:Hp}{E:XK} (hr:Room 0 (A.deeper (envOfC "_law_cut" (defScope s_law_cut) s.heap.objs.size a.f_law_cut cdv))) :
  PSs (cxOf CX0 P w K mg base N_law_cut "_law_cut" (defScope s_law_cut) a.f_law_cut cdv A outer s H E).nox (defBody s_law_cut) (rd_law_cut K) :=
 (pss_cons (ps_set (i:=2) sc_law_cut.nd rfl (by walk_at "o") (pe_op o_add pe_int (pe_op o_mod (cv 0) pe_int)))
   (pss_cons (ps_set (i:=3) sc_law_cut.nd rfl (by walk_at "o") (pe_op o_add pe_int (pe_op o_mod (pe_op o_fdiv (cv 0) pe_int) pe_int)))
   (pss_cons (ps_setC (i:=4) (N:=["_law_k","_law_there","_law_cell","_law_step"]) (k:=1) (sel:=[1,0,3]) (CScope.of (defScope s_law_cut).names (by decide +kernel)) (CNames.of N_law_cut (by decide +kernel)) rfl (pi_range1 rfl T.no_range (pa_cons (cv 2) pa_nil)) (fun _ _ _ _=>(pg_name (i:=0) (show List.Nodup (["_law_k","_law_there","_law_cell","_law_step"]:List Str) by decide +kernel) rfl (by walk_at "o"))) (fun _ _ _ _=>pts_nil) (fun _ _ _ _=>(pe_ix i_seq (cv 1) (pe_op o_sub (pe_op o_sub (pe_callB c_len (by rfl) T.no_len PySem.boot_len (pa_cons (cv 1) pa_nil)) pe_int) (pe_op o_mod (pe_op o_add (pe_op o_fdiv (cv 2) pe_int) (pe_op o_mul (cv 3) (cv 0))) (pe_callB c_len (by rfl) T.no_len PySem.boot_len (pa_cons (cv 1) pa_nil)))) (fun _ _=>rfl))) sc_law_cut.nd rfl (by walk_at "o") rfl)
   (pss_one (ps_ret (e_sortset rfl rfl rfl T.no_sorted T.no_set (pa_cons (cv 4) pa_nil)))))))
theorem ok_law_cut (T:Txt K mg a):FnOk P w K mg base CX0 1 a.f_law_cut a.d_law_cut ["_law_cell","_law_there"] (sp_law_cut K):=by
 refine T.fn_law_cut.ok sc_law_cut (fun vs H Q E h=>?_) (fun cdv A outer s H vs Q E hr h=>⟨_,tm_law_cut T hr,?_⟩)
 ·obtain ⟨c,kp,ks,rfl,_⟩:=h;rfl
 ·obtain ⟨c,kp,ks,rfl,hK,k1,k2,q⟩:=h
  show rd_law_cut K _ [some (.int c),some (.ref kp),none,none,none] H
  unfold rd_law_cut
  have big:(20000:Nat)≤sizeLine:=by decide
  walk_at "gs"
  obtain ⟨N,hN,hN6⟩:∃ N:Nat,(1+c % 6).toNat=N+1∧N≤5:=⟨(c % 6).toNat,by omega,by omega⟩
  rw [hN]
  generalize hst:1+c / 6 % 5=st
  have l0:(ks.length:Int)≠0:=by omega
  refine compG_rng (n:=N+1) (fun i=>.int (ks.getD ((ks.length:Int) - 1 - (c / 30+st * i) % (ks.length:Int)).toNat 0)) rfl (by omega) ?_ ?_
  ·intro i H' Q' hi s' q'
   have hK':=s' _ _ hK
   have y1:=Int.emod_nonneg (c / 30+st * (0+(i:Int))) l0
   have y2:=Int.emod_lt_of_pos (c / 30+st * (0+(i:Int))) (show 0<(ks.length:Int) by omega)
   walk_at "gs"
   refine .inl ⟨_,.inl (.of hK'),?_⟩
   rw [List.length_map]
   walk_at "gs"
   refine .inl ⟨_,.inl (.of hK'),?_⟩
   rw [List.length_map]
   walk_at "gs"
   exact ixI (.of hK') (by omega) (by omega) q'
  intro fp H1 n1
  obtain ⟨ns,hns⟩:∃ ns:List Int,ns=(List.range (N+1)).map fun i:Nat=>ks.getD ((ks.length:Int) - 1 - (c / 30+st * (0+(i:Int))) % (ks.length:Int)).toNat 0:=⟨_,rfl⟩
  have e1:((List.range (N+1)).map fun i:Nat=>V.int (ks.getD ((ks.length:Int) - 1 - (c / 30+st * (0+(i:Int))) % (ks.length:Int)).toNat 0))=ns.map V.int:=by rw [hns,List.map_map];rfl
  rw [e1] at n1
  have hnl:ns.length=N+1:=by rw [hns,List.length_map,List.length_range]
  have hnm:∀ y∈ns,y∈ks:=fun y hy=>by
   rw [hns] at hy
   obtain ⟨i,_,rfl⟩:=List.mem_map.mp hy
   have y1:=Int.emod_nonneg (c / 30+st * (0+(i:Int))) l0
   have y2:=Int.emod_lt_of_pos (c / 30+st * (0+(i:Int))) (show 0<(ks.length:Int) by omega)
   have hl:((ks.length:Int) - 1 - (c / 30+st * (0+(i:Int))) % (ks.length:Int)).toNat<ks.length:=by omega
   rw [List.getD_eq_getElem?_getD,List.getElem?_eq_getElem hl]
   exact List.getElem_mem _
  walk_at "gs"
  refine ⟨ns,n1.sq,by omega,fun ys l H2 hp hm hle n2=>?_⟩
  exact q l H2 ys ⟨n1.same.nil n2.was,n2.at_,n1.same.trans n2.same⟩ hp (pos_of hm (by omega)) (by omega) fun y hy=>hnm y ((hm y).mp hy)
def sp_law_piece (_:PySem.W.Frag):Sp:=fun vs H Q _=>∃ (c:Int) (kp:Addr) (m:Nat) (ps:List Pc),vs=[.int c,.ref kp]∧H kp=some (.lst ((known m ps).map V.int))∧1≤m∧m≤10∧ps.length≤900∧topK m ps≤970 ∧
 ∀ t1 t2 H' (p:Pc),Same H H'→H t1=none→H t2=none→t2≠t1→H' t1=some (.tup [.int p.1,.ref t2,.int p.2.2])→H' t2=some (.lst (p.2.1.map V.int))→WPc m ps p→p.1≤topK m ps+20→Q (.ref t1) H'
theorem tab_cond {n:Nat} (h:n≤6):(1 * 2 ^ ((n:Int)).toNat:Int)=((2 ^ n:Nat):Int)∧CPow 1 ((2 ^ n:Nat):Int)∧(1 * 2 ^ (((2 ^ n:Nat):Int)).toNat:Int)=((2 ^ 2 ^ n:Nat):Int)∧(0:Int)<((2 ^ 2 ^ n:Nat):Int):=by
 have h2:(2:Nat) ^ n≤2 ^ 6:=Nat.pow_le_pow_right (by decide) h
 have h3:0<2 ^ 2 ^ n:=Nat.pow_pos (by decide)
 refine ⟨by simp,?_,by rw [Int.toNat_natCast];simp,by omega⟩
 generalize 2 ^ n=N at h2
 exact ⟨by omega,by omega,by decide⟩
def rd_law_piece (K:PySem.W.Frag):TS:=(tSeq (tAsg (tOp cAdd (tOp cAdd (tOp (cIx K) (cVar 1) (tUn cNeg (tC (.int 1)))) (tC (.int 1))) (tOp (cI2c (fun _ j=>0<j) fun i j=>.int (i % j)) (cVar 0) (tC (.int 20)))) (gName 2))
  (tSeq (tAsg (tOp (cI2c CDiv fun i j=>.int (i / j)) (cVar 0) (tC (.int 20))) (gName 0))
  (tSeq (tAsg (tOp cAdd (tC (.int 1)) (tOp (cI2c (fun _ j=>0<j) fun i j=>.int (i % j)) (cVar 0) (tC (.int 6)))) (gName 3))
  (tSeq (tAsg (tOp (cI2c CDiv fun i j=>.int (i / j)) (cVar 0) (tC (.int 6))) (gName 0))
  (tSeq (tAsg (tLst tNil) (gName 4))
  (tSeq (tFor (iRng1 (tCons (cVar 3) tNil)) (gName 5) (tSeq (tDrop (tBM K "list" rAppend (cVar 4) (tCons (tOp (cIx K) (cVar 1) (tOp (cI2c (fun _ j=>0<j) fun i j=>.int (i % j)) (cVar 0) (tCB (cLen K) (tCons (cVar 1) tNil)))) tNil)))
  (tAsg (tOp (cI2c CDiv fun i j=>.int (i / j)) (cVar 0) (tCB (cLen K) (tCons (cVar 1) tNil))) (gName 0))))
  (tSeq (tAsg (cSortSet K (tCons (cVar 4) tNil)) (gName 6))
  (tRet (tTup (tCons (cVar 2) (tCons (cVar 6) (tCons (tOp (cI2c (fun _ j=>0<j) fun i j=>.int (i % j)) (cVar 0) (tOp (cI2c CPow fun i j=>.int (i * 2 ^ j.toNat)) (tC (.int 1)) (tOp (cI2c CPow fun i j=>.int (i * 2 ^ j.toNat)) (tC (.int 1)) (tCB (cLen K) (tCons (cVar 6) tNil))))) tNil))))))))))))
theorem tm_law_piece (T:Txt K mg a) {cdv:Value}{A:Around}{outer:List Env}{s:Shared}{H:Hp}{E:XK} (hr:Room 0 (A.deeper (envOfC "_law_piece" (defScope s_law_piece) s.heap.objs.size a.f_law_piece cdv))) :
  PSs (cxOf CX0 P w K mg base N_law_piece "_law_piece" (defScope s_law_piece) a.f_law_piece cdv A outer s H E).nox (defBody s_law_piece) (rd_law_piece K) :=
 (pss_cons (ps_set (i:=2) sc_law_piece.nd rfl (by walk_at "o") (pe_op o_add (pe_op o_add (pe_ix i_seq (cv 1) (pe_un u_neg pe_int) (fun _ _=>rfl)) pe_int) (pe_op o_mod (cv 0) pe_int)))
   (pss_cons (ps_set (i:=0) sc_law_piece.nd rfl (by walk_at "o") (pe_op o_fdiv (cv 0) pe_int))
   (pss_cons (ps_set (i:=3) sc_law_piece.nd rfl (by walk_at "o") (pe_op o_add pe_int (pe_op o_mod (cv 0) pe_int)))
   (pss_cons (ps_set (i:=0) sc_law_piece.nd rfl (by walk_at "o") (pe_op o_fdiv (cv 0) pe_int))
   (pss_cons (ps_set (i:=4) sc_law_piece.nd rfl (by walk_at "o") (pe_lst pa_nil))
   (pss_cons (ps_for PassesOwn.never rfl (pi_range1 rfl T.no_range (pa_cons (cv 3) pa_nil)) (pg_name (i:=5) sc_law_piece.nd rfl (by walk_at "o")) (pss_cons (ps_expr (pe_bm PySem.F.plainAttrs_list PySem.F.slot_list_append PySem.F.type_list_append (mtr mt_append) (cv 4) (pa_cons (pe_ix i_seq (cv 1) (pe_op o_mod (cv 0) (pe_callB c_len (by rfl) T.no_len PySem.boot_len (pa_cons (cv 1) pa_nil))) (fun _ _=>rfl)) pa_nil)))
   (pss_one (ps_set (i:=0) sc_law_piece.nd rfl (by walk_at "o") (pe_op o_fdiv (cv 0) (pe_callB c_len (by rfl) T.no_len PySem.boot_len (pa_cons (cv 1) pa_nil)))))))
   (pss_cons (ps_set (i:=6) sc_law_piece.nd rfl (by walk_at "o") (e_sortset rfl rfl rfl T.no_sorted T.no_set (pa_cons (cv 4) pa_nil)))
   (pss_one (ps_ret (pe_tup (pa_cons (cv 2) (pa_cons (cv 6) (pa_cons (pe_op o_mod (cv 0) (pe_op o_shl pe_int (pe_op o_shl pe_int (pe_callB c_len (by rfl) T.no_len PySem.boot_len (pa_cons (cv 6) pa_nil))))) pa_nil)))))))))))))
theorem ok_law_piece (T:Txt K mg a):FnOk P w K mg base CX0 1 a.f_law_piece a.d_law_piece ["_law_cell","_law_there"] (sp_law_piece K):=by
 refine T.fn_law_piece.ok sc_law_piece (fun vs H Q E h=>?_) (fun cdv A outer s H vs Q E hr h=>⟨_,tm_law_piece T hr,?_⟩)
 ·obtain ⟨c,kp,m,ps,rfl,_⟩:=h;rfl
 ·obtain ⟨c,kp,m,ps,rfl,hK,m1,m10,hz,ht,q⟩:=h
  show rd_law_piece K _ [some (.int c),some (.ref kp),none,none,none,none,none] H
  unfold rd_law_piece
  have big:(20000:Nat)≤sizeLine:=by decide
  have hkl:=known_len m ps
  walk_at "gs"
  refine ⟨_,_,.inl (.of hK),known_last m1 ps,?_⟩
  walk_at "gs"
  intro fp H1 n1
  walk_at "gs"
  obtain ⟨N,hN,hN6⟩:∃ N:Nat,(1+c / 20 % 6).toNat=N+1∧N≤5:=⟨(c / 20 % 6).toNat,by omega,by omega⟩
  rw [hN]
  refine for_rngG (fun i σ H2=>Same H H2∧∃ (ys:List Int) (c':Int) (v5:Option V),H2 fp=some (.lst (ys.map V.int))∧ys.length=i∧(∀ y∈ys,y∈known m ps)∧σ=[some (.int c'),some (.ref kp),some (.int (topK m ps+1+c % 20)),some (.int (1+c / 20 % 6)),some (.ref fp),v5,none]) ⟨n1.same,[],_,_,n1.at_,rfl,fun y hy=>by simp at hy,rfl⟩ ?_ ?_
  ·rintro i σ H2 hi ⟨s2,ys,c',v5,h2,hl,hm,rfl⟩
   have hK2:=s2 _ _ hK
   have y1:=Int.emod_nonneg c' (show ((known m ps).length:Int)≠0 by omega)
   have y2:=Int.emod_lt_of_pos c' (show 0<((known m ps).length:Int) by omega)
   walk_at "gs"
   refine ⟨.inl ⟨by trivial,_,.of h2⟩,?_⟩
   refine .inl ⟨_,.inl (.of hK2),?_⟩
   rw [List.length_map]
   walk_at "gs"
   obtain ⟨g,hg,ha⟩:=at_ints (ks:=known m ps) y1 y2
   refine ⟨_,_,.inl (.of hK2),ha,?_⟩
   refine ⟨fp,_,_,rfl,rfl,h2,by rw [List.length_map];omega,?_⟩
   walk_at "gs"
   have nkf:kp≠fp:=ne_of_none hK n1.was
   refine .inl ⟨_,.inl (.of (show upd H2 fp _ kp=_ by rw [upd_ne nkf];exact hK2)),?_⟩
   rw [List.length_map]
   walk_at "gs"
   refine ⟨s2.put n1.was,ys ++ [g],_,_,by rw [upd_same,List.map_append];rfl,by rw [List.length_append,hl];rfl,fun y hy=>?_,rfl⟩
   rcases List.mem_append.mp hy with z | z
   ·exact hm y z
   ·rw [List.mem_singleton] at z
    subst z
    exact hg
  ·rintro σ H2 ⟨s2,ys,c',v5,h2,hl,hm,rfl⟩
   walk_at "gs"
   refine ⟨ys,.of h2,by omega,fun zs l H3 hp hzm hle n3=>?_⟩
   have s03:=s2.trans n3.same
   have hzl:zs.length≤6:=by omega
   obtain ⟨a1,a2,a3,a4⟩:=tab_cond hzl
   walk_at "gs"
   refine .inl ⟨_,.inl n3.sq,?_⟩
   rw [List.length_map]
   walk_at "gs"
   rw [a1]
   refine ⟨a2,?_⟩
   rw [a3]
   refine ⟨a4,?_⟩
   have b1:=Int.emod_nonneg c' (show ((2 ^ 2 ^ zs.length:Nat):Int)≠0 by omega)
   have b2:=Int.emod_lt_of_pos c' a4
   refine ⟨by show 3≤sizeLine;decide,fun t1 H4 n4=>?_⟩
   refine q t1 l H4 (topK m ps+1+c % 20,zs,c' % ((2 ^ 2 ^ zs.length:Nat):Int)) (s03.trans n4.same) (s03.nil n4.was) (s2.nil n3.was) (ne_of_none n3.at_ n4.was) n4.at_ (n4.same _ _ n3.at_) ⟨by show _<topK m ps+1+c % 20;omega,by show topK m ps+1+c % 20≤999;omega,pos_of hzm (by omega),hzl,hp,fun y hy=>hm y ((hzm y).mp hy),b1,b2⟩ (by show topK m ps+1+c % 20≤_;omega)
theorem bits_small {a:Int}{k:Nat} (h0:0≤a) (h:a<2 ^ k):Builtin.Int.intBits a≤k:=intBits_le (by
 obtain ⟨n,rfl⟩:=Int.eq_ofNat_of_zero_le h0
 rw [Int.natAbs_natCast]
 exact_mod_cast h)
theorem bits_lt (x:Int):x.natAbs<2 ^ Builtin.Int.intBits x:=by
 unfold Builtin.Int.intBits
 by_cases h:x=0
 ·subst h;decide
 ·rw [if_neg (by simpa using h)]
  exact Nat.lt_log2_self
theorem bits_half {c:Int}{k:Nat} (h:Builtin.Int.intBits c≤k):Builtin.Int.intBits (c / 2)≤k:=intBits_le (by
 have h1:=bits_lt c
 have h2:2 ^ Builtin.Int.intBits c≤2 ^ k:=Nat.pow_le_pow_right (by decide) h
 omega)
theorem PLst.snoc {H H':Hp}{l:Addr}{ts:List (Addr × Addr)}{ps:List Pc} (h:PLst H l ts ps) (hl:∀ t∈ts,t.2≠l) (s:Same H H') {t1 t2:Addr}{p:Pc} (n1:t1≠l) (n2:t2≠l) (h1:H' t1=some (.tup [.int p.1,.ref t2,.int p.2.2])) (h2:H' t2=some (.lst (p.2.1.map V.int))) :
  PLst (upd H' l (.lst ((ts.map fun t=>V.ref t.1) ++ [.ref t1]))) l (ts ++ [(t1,t2)]) (ps ++ [p]):=by
 have hl':=s _ _ h.lst
 refine ⟨by rw [upd_same,List.map_append];rfl,by rw [List.length_append,List.length_append,h.len];rfl,fun i t q ht hq=>?_⟩
 rcases Nat.lt_or_ge i ts.length with e | e
 ·rw [List.getElem?_append_left e] at ht
  rw [List.getElem?_append_left (by rw [← h.len];exact e)] at hq
  obtain ⟨g1,g2⟩:=h.at_ i t q ht hq
  have g1':=s _ _ g1
  exact ⟨by rw [upd_ne (ne_of g1' hl' (fun z=>nomatch z))];exact g1',by rw [upd_ne (hl t (List.mem_of_getElem? ht))];exact s _ _ g2⟩
 ·have hi:i<ts.length+1:=by have:=(List.getElem?_eq_some_iff.mp ht).1;rwa [List.length_append] at this
  have:i=ts.length:=by omega
  subst this
  rw [List.getElem?_append_right (Nat.le_refl _),Nat.sub_self] at ht
  rw [h.len,List.getElem?_append_right (Nat.le_refl _),Nat.sub_self] at hq
  cases ht
  cases hq
  exact ⟨by rw [upd_ne n1];exact h1,by rw [upd_ne n2];exact h2⟩
theorem top_up {m:Nat}{ps:List Pc}{p:Pc} (h:topK m ps≤10+20 * ps.length) (hp:p.1≤topK m ps+20):topK m (ps ++ [p])≤10+20 * (ps ++ [p]).length:=by
 rw [top_snoc,List.length_append]
 show p.1≤10+20 * ((ps.length+1:Nat):Int)
 omega
theorem atLast {xs:List V}{x:V}:atI (xs ++ [x]) (-1)=some x:=by
 unfold atI ixN
 simp
 rw [if_pos (by omega),show (-1+((xs.length:Int)+1)).toNat=xs.length by omega]
 simp
def sp_law_pieces (K:PySem.W.Frag):Sp:=fun vs H Q _=>∃ (p:Addr) (ns:List Int) (m:Nat),vs=[.ref p,.int m]∧SqL K H p (ns.map V.int)∧ns.length≤40∧(∀ c∈ns,Builtin.Int.intBits c≤2 ^ 20)∧1≤m∧m≤10 ∧
 ∀ l ts ps H',H l=none→Same H H'→PLst H' l ts ps→WP m ps→ps.length≤40→Q (.ref l) H'
def rd_law_pieces (K:PySem.W.Frag):TS:=(tSeq (tAsg (tComp (iRng1 (tCons (cVar 1) tNil)) 1 [] (gName 0) tTrue (tOp cAdd (cVar 0) (tC (.int 1)))) (gName 2))
  (tSeq (tAsg (tLst tNil) (gName 3))
  (tSeq (tFor (iList K (cVar 0)) (gName 4) (tSeq (tIfS (cTst (tOp (cEq K) (tOp (cI2c (fun _ j=>0<j) fun i j=>.int (i % j)) (cVar 4) (tC (.int 2))) (tC (.int 1)))) (tSeq (tDrop (tBM K "list" rAppend (cVar 3) (tCons (tCall (sp_law_piece K) [] E0 (tCons (tOp (cI2c CDiv fun i j=>.int (i / j)) (cVar 4) (tC (.int 2))) (tCons (cVar 2) tNil))) tNil)))
  (tSeq (tDrop (tBM K "list" rAppend (cVar 2) (tCons (tOp (cIx K) (tOp (cIx K) (cVar 3) (tUn cNeg (tC (.int 1)))) (tC (.int 0))) tNil)))
  tCont)) tNext)
  (tSeq (tAsg (tOp (cI2c CDiv fun i j=>.int (i / j)) (cVar 4) (tC (.int 2))) (gName 4))
  (tSeq (tAsg (tOp cAdd (tOp cAdd (tOp (cIx K) (cVar 2) (tUn cNeg (tC (.int 1)))) (tC (.int 1))) (tOp (cI2c CMulB fun i j=>.int (i * j)) (tOp (cI2c CDiv fun i j=>.int (i / j)) (tOp (cI2c (fun _ j=>0<j) fun i j=>.int (i % j)) (cVar 4) (tC (.int 3))) (tC (.int 2))) (tOp (cI2c (fun _ j=>0<j) fun i j=>.int (i % j)) (tOp (cI2c CDiv fun i j=>.int (i / j)) (cVar 4) (tC (.int 3))) (tC (.int 20))))) (gName 5))
  (tSeq (tAsg (tCall (sp_law_cut K) [] E0 (tCons (tOp (cI2c CDiv fun i j=>.int (i / j)) (cVar 4) (tC (.int 60))) (tCons (cVar 2) tNil))) (gName 6))
  (tSeq (tAsg (tOp cAdd (tOp (cI2c CMulB fun i j=>.int (i * j)) (cVar 4) (tOp cAdd (tC (.int 48271)) (tOp (cI2c CMulB fun i j=>.int (i * j)) (tOp (cI2c CPow fun i j=>.int (i ^ j.toNat)) (tC (.int 10)) (tC (.int 21))) (cVar 5)))) (tOp (cI2c CMulB fun i j=>.int (i * j)) (tOp (cI2c CMulB fun i j=>.int (i * j)) (tOp (cI2c CMulB fun i j=>.int (i * j)) (cVar 5) (cVar 5)) (tC (.int 69621))) (tOp (cI2c CPow fun i j=>.int (i ^ j.toNat)) (tC (.int 10)) (tC (.int 11))))) (gName 7))
  (tSeq (tDrop (tBM K "list" rAppend (cVar 3) (tCons (tTup (tCons (cVar 5) (tCons (cVar 6) (tCons (tOp (cI2c (fun _ j=>0<j) fun i j=>.int (i % j)) (tOp (cI2c CDiv fun i j=>.int (i / j)) (cVar 7) (tC (.int 7))) (tOp (cI2c CPow fun i j=>.int (i * 2 ^ j.toNat)) (tC (.int 1)) (tOp (cI2c CPow fun i j=>.int (i * 2 ^ j.toNat)) (tC (.int 1)) (tCB (cLen K) (tCons (cVar 6) tNil))))) tNil)))) tNil)))
  (tDrop (tBM K "list" rAppend (cVar 2) (tCons (cVar 5) tNil))))))))))
  (tRet (cVar 3)))))
theorem tm_law_pieces (T:Txt K mg a) {cdv:Value}{A:Around}{outer:List Env}{s:Shared}{H:Hp}{E:XK} (hr:Room 1 (A.deeper (envOfC "_law_pieces" (defScope s_law_pieces) s.heap.objs.size a.f_law_pieces cdv))) :
  PSs (cxOf CX0 P w K mg base N_law_pieces "_law_pieces" (defScope s_law_pieces) a.f_law_pieces cdv A outer s H E).nox (defBody s_law_pieces) (rd_law_pieces K) :=
 (pss_cons (ps_setC (i:=2) (N:=["_law_k"]) (k:=1) (sel:=[]) (CScope.of (defScope s_law_pieces).names (by decide +kernel)) (CNames.of N_law_pieces (by decide +kernel)) rfl (pi_range1 rfl T.no_range (pa_cons (cv 1) pa_nil)) (fun _ _ _ _=>(pg_name (i:=0) (show List.Nodup (["_law_k"]:List Str) by decide +kernel) rfl (by walk_at "o"))) (fun _ _ _ _=>pts_nil) (fun _ _ _ _=>(pe_op o_add (cv 0) pe_int)) sc_law_pieces.nd rfl (by walk_at "o") rfl)
   (pss_cons (ps_set (i:=3) sc_law_pieces.nd rfl (by walk_at "o") (pe_lst pa_nil))
   (pss_cons (ps_for PassesOwn.never rfl (pi_list (cv 0)) (pg_name (i:=4) sc_law_pieces.nd rfl (by walk_at "o")) (pss_cons (ps_if (t_cmp (o_eq (hr8 hr)) (pe_op o_mod (cv 4) pe_int) pe_int (nomark _)) (pss_cons (ps_expr (pe_bm PySem.F.plainAttrs_list PySem.F.slot_list_append PySem.F.type_list_append (mtr mt_append) (cv 3) (pa_cons (pe_call (ok_law_piece T) (hr.mono (by decide)) rfl T.mg_law_piece T.fn_law_piece.kp T.bi_law_piece .nil pass0 (pa_cons (pe_op o_fdiv (cv 4) pe_int) (pa_cons (cv 2) pa_nil))) pa_nil)))
   (pss_cons (ps_expr (pe_bm PySem.F.plainAttrs_list PySem.F.slot_list_append PySem.F.type_list_append (mtr mt_append) (cv 2) (pa_cons (pe_ix i_seq (pe_ix i_seq (cv 3) (pe_un u_neg pe_int) (fun _ _=>rfl)) pe_int (fun _ _=>rfl)) pa_nil)))
   (pss_one ps_continue))) pss_nil)
   (pss_cons (ps_set (i:=4) sc_law_pieces.nd rfl (by walk_at "o") (pe_op o_fdiv (cv 4) pe_int))
   (pss_cons (ps_set (i:=5) sc_law_pieces.nd rfl (by walk_at "o") (pe_op o_add (pe_op o_add (pe_ix i_seq (cv 2) (pe_un u_neg pe_int) (fun _ _=>rfl)) pe_int) (pe_op o_mulB (pe_op o_fdiv (pe_op o_mod (cv 4) pe_int) pe_int) (pe_op o_mod (pe_op o_fdiv (cv 4) pe_int) pe_int))))
   (pss_cons (ps_set (i:=6) sc_law_pieces.nd rfl (by walk_at "o") (pe_call (ok_law_cut T) (hr.mono (by decide)) rfl T.mg_law_cut T.fn_law_cut.kp T.bi_law_cut .nil pass0 (pa_cons (pe_op o_fdiv (cv 4) pe_int) (pa_cons (cv 2) pa_nil))))
   (pss_cons (ps_set (i:=7) sc_law_pieces.nd rfl (by walk_at "o") (pe_op o_add (pe_op o_mulB (cv 4) (pe_op o_add pe_int (pe_op o_mulB (pe_op o_pow pe_int pe_int) (cv 5)))) (pe_op o_mulB (pe_op o_mulB (pe_op o_mulB (cv 5) (cv 5)) pe_int) (pe_op o_pow pe_int pe_int))))
   (pss_cons (ps_expr (pe_bm PySem.F.plainAttrs_list PySem.F.slot_list_append PySem.F.type_list_append (mtr mt_append) (cv 3) (pa_cons (pe_tup (pa_cons (cv 5) (pa_cons (cv 6) (pa_cons (pe_op o_mod (pe_op o_fdiv (cv 7) pe_int) (pe_op o_shl pe_int (pe_op o_shl pe_int (pe_callB c_len (by rfl) T.no_len PySem.boot_len (pa_cons (cv 6) pa_nil))))) pa_nil)))) pa_nil)))
   (pss_one (ps_expr (pe_bm PySem.F.plainAttrs_list PySem.F.slot_list_append PySem.F.type_list_append (mtr mt_append) (cv 2) (pa_cons (cv 5) pa_nil)))))))))))
   (pss_one (ps_ret (cv 3))))))
theorem ok_law_pieces (T:Txt K mg a):FnOk P w K mg base CX0 2 a.f_law_pieces a.d_law_pieces ["_law_cells","_law_many"] (sp_law_pieces K):=by
 refine T.fn_law_pieces.ok sc_law_pieces (fun vs H Q E h=>?_) (fun cdv A outer s H vs Q E hr h=>⟨_,tm_law_pieces T hr,?_⟩)
 ·obtain ⟨p,ns,m,rfl,_⟩:=h;rfl
 ·obtain ⟨p,ns,m,rfl,hS,hnl,hbt,m1,m10,q⟩:=h
  show rd_law_pieces K _ [some (.ref p),some (.int m),none,none,none,none,none,none] H
  unfold rd_law_pieces
  have big:(20000:Nat)≤sizeLine:=by decide
  walk_at "gs"
  rw [Int.toNat_natCast]
  refine compG_rng (n:=m) (fun i=>.int (i+1)) rfl (by omega) ?_ ?_
  ·intro i H' Q' hi s' q'
   walk_at "gs"
   exact q'
  intro kp H1 n1
  have e1:((List.range m).map fun i:Nat=>V.int (0+(i:Int)+1))=(known m []).map V.int:=by
   unfold known
   rw [List.map_nil,List.append_nil,List.map_map]
   refine List.map_congr_left fun i _=>?_
   show V.int (0+(i:Int)+1)=V.int (1+(i:Int))
   congr 1
   omega
  rw [e1] at n1
  walk_at "gs"
  intro lp H2 n2
  have nkl:kp≠lp:=ne_of_none n1.at_ n2.was
  have s02:=n1.same.trans n2.same
  have hlp:H lp=none:=n1.same.nil n2.was
  walk_at "gs"
  refine ⟨⟨_,s02.seq hS⟩,for_listG (xs:=ns.map V.int) (fun i σ H3=>Same H H3∧∃ (ts:List (Addr × Addr)) (ps:List Pc) (v4 v5 v6 v7:Option V),H3 kp=some (.lst ((known m ps).map V.int))∧PLst H3 lp ts ps∧(∀ t∈ts,t.2≠kp∧t.2≠lp)∧WP m ps∧ps.length=i∧topK m ps≤10+20 * ps.length∧σ=[some (.ref p),some (.int m),some (.ref kp),some (.ref lp),v4,v5,v6,v7]) ⟨s02,[],[],_,_,_,_,n2.same _ _ n1.at_,⟨n2.at_,rfl,fun i t p ht=>by simp at ht⟩,fun t ht=>by simp at ht,fun i p hp=>by simp at hp,rfl,by show (m:Int)≤_;simp;omega,rfl⟩ ?_ ?_ ?_⟩
  ·rintro i σ H3 _ ⟨s3,_⟩
   exact s3.seq hS
  ·rintro i v σ H3 hv ⟨s3,ts,ps,v4,v5,v6,v7,hk3,hL,hts,wp,hpl,htp,rfl⟩
   obtain ⟨c,hc,rfl⟩:=get_map_of hv
   have hbc:=hbt c (List.mem_of_getElem? hc)
   have hi:i<ns.length:=(List.getElem?_eq_some_iff.mp hc).1
   have hkl:=known_len m ps
   have htop:=wp.top ps.length (Nat.le_refl _)
   rw [List.take_length] at htop
   have hlen:=hL.len
   walk_at "gs"
   by_cases g:c % 2=1
   ·rw [if_pos g]
    walk_at "gs"
    refine ⟨.inl ⟨by trivial,_,.of hL.lst⟩,?_⟩
    refine ⟨⟨by decide,by decide⟩,c / 2,kp,m,ps,rfl,hk3,m1,m10,by omega,by omega,fun t1 t2 H4 pc s4 f1 f2 f21 h41 h42 wpc hup=>?_⟩
    have hl4:=s4 _ _ hL.lst
    have hk4:=s4 _ _ hk3
    have nt1:t1≠lp:=(ne_of_none hL.lst f1).symm
    have nt2:t2≠lp:=(ne_of_none hL.lst f2).symm
    have nk1:t1≠kp:=(ne_of_none hk3 f1).symm
    have nk2:t2≠kp:=(ne_of_none hk3 f2).symm
    refine ⟨lp,_,_,rfl,rfl,hl4,by rw [List.length_map];omega,?_⟩
    have hN:=hL.snoc (fun t ht=>(hts t ht).2) s4 nt1 nt2 h41 h42
    have hk5:upd H4 lp (.lst ((ts.map fun t=>V.ref t.1) ++ [.ref t1])) kp=some (.lst ((known m ps).map V.int)):=by rw [upd_ne nkl];exact hk4
    have s5:Same H (upd H4 lp (.lst ((ts.map fun t=>V.ref t.1) ++ [.ref t1]))):=(s3.trans s4).put hlp
    generalize upd H4 lp (.lst ((ts.map fun t=>V.ref t.1) ++ [.ref t1]))=H5 at hN hk5 s5 ⊢
    walk_at "gs"
    refine ⟨.inl ⟨by trivial,_,.of hk5⟩,?_⟩
    have hlast:atI ((ts ++ [(t1,t2)]).map fun t=>V.ref t.1) (-1)=some (.ref t1):=by rw [List.map_append];exact atLast
    refine ⟨_,_,.inl (.of hN.lst),hlast,?_⟩
    have g1:=(hN.at_ ts.length (t1,t2) pc (by simp) (by rw [hlen];simp)).1
    refine ⟨_,_,.inr (.of g1),rfl,?_⟩
    refine ⟨kp,_,_,rfl,rfl,hk5,by rw [List.length_map];omega,?_⟩
    walk_at "gs"
    refine ⟨s5.put n1.was,ts ++ [(t1,t2)],ps ++ [pc],_,_,_,_,by rw [upd_same,known_snoc,List.map_append];rfl,?_,fun t ht=>?_,wp.snoc wpc,by rw [List.length_append,hpl];rfl,top_up htp hup,rfl⟩
    ·refine ⟨by rw [upd_ne nkl.symm];exact hN.lst,hN.len,fun j t p' ht hp'=>?_⟩
     obtain ⟨a1,a2⟩:=hN.at_ j t p' ht hp'
     refine ⟨by rw [upd_ne (ne_of a1 hk5 (fun z=>nomatch z))];exact a1,?_⟩
     rw [upd_ne]
     ·exact a2
     ·rcases List.mem_append.mp (List.mem_of_getElem? ht) with z | z
      ·exact (hts t z).1
      ·rw [List.mem_singleton] at z
       subst z
       exact nk2
    ·rcases List.mem_append.mp ht with z | z
     ·exact hts t z
     ·rw [List.mem_singleton] at z
      subst z
      exact ⟨nk2,nt2⟩
   rw [if_neg g]
   walk_at "gs"
   refine ⟨_,_,.inl (.of hk3),known_last m1 ps,?_⟩
   walk_at "gs"
   have hbh:=bits_half hbc
   generalize c / 2=d at hbh
   have r1:0≤d % 3 / 2∧d % 3 / 2≤1:=by omega
   have r2:0≤d / 3 % 20∧d / 3 % 20≤19:=by omega
   have r3:0≤d % 3 / 2 * (d / 3 % 20)∧d % 3 / 2 * (d / 3 % 20)≤19:=by
    rcases (by omega:d % 3 / 2=0∨d % 3 / 2=1) with e | e <;> rw [e] <;> omega
   refine ⟨CMul.ok (.inl ⟨by omega,by omega⟩),?_⟩
   generalize d % 3 / 2 * (d / 3 % 20)=w at r3
   obtain ⟨kn,hkn⟩:∃ kn,kn=topK m ps+1+w:=⟨_,rfl⟩
   rw [← hkn]
   walk_at "gs"
   refine ⟨d / 60,kp,_,rfl,hk3,by omega,by omega,fun cl H4 ys md hys l1 l6 hym=>?_⟩
   obtain ⟨f4,h4,s4⟩:=md
   walk_at "gs"
   have e21:(10:Int) ^ (21:Int).toNat=1000000000000000000000:=by decide
   have bf:Builtin.Int.intBits (48271+10 ^ (21:Int).toNat * kn)≤100:=bits_small (by rw [e21];omega) (by rw [e21,show (2:Int) ^ 100=1267650600228229401496703205376 by decide];omega)
   refine ⟨CMul.ok (.inr ⟨by omega,by omega⟩),mulOk_of_bits hbh bf (by decide),CMul.ok (.inl ⟨by omega,by omega⟩),CMul.ok (.inr ⟨by decide,by decide⟩),⟨by decide,by decide,by decide⟩,CMul.ok (.inr ⟨by decide,by decide⟩),.inl ⟨by trivial,_,.of (s4 _ _ hL.lst)⟩,⟨by decide,by decide⟩,?_⟩
   generalize (d * (48271+10 ^ (21:Int).toNat * kn)+kn * kn * 69621 * 10 ^ (11:Int).toNat) / 7=bb
   obtain ⟨a1,a2,a3,a4⟩:=tab_cond l6
   refine .inl ⟨_,.inl (.of h4),?_⟩
   rw [List.length_map]
   refine ⟨⟨by omega,by omega,by decide⟩,?_⟩
   rw [a1]
   refine ⟨a2,?_⟩
   rw [a3]
   refine ⟨a4,by show 3≤sizeLine;decide,fun t1 H5 n5=>?_⟩
   have b1:=Int.emod_nonneg bb (show ((2 ^ 2 ^ ys.length:Nat):Int)≠0 by omega)
   have b2:=Int.emod_lt_of_pos bb a4
   have s35:=s4.trans n5.same
   have hl5:=s35 _ _ hL.lst
   have hk5':=s35 _ _ hk3
   have nt1:t1≠lp:=(ne_of_none (s4 _ _ hL.lst) n5.was).symm
   have nt2:cl≠lp:=(ne_of_none hL.lst f4).symm
   have nk2:cl≠kp:=(ne_of_none hk3 f4).symm
   have wpc:WPc m ps (kn,ys,bb % ((2 ^ 2 ^ ys.length:Nat):Int)):=⟨by show _<kn;omega,by show kn≤999;omega,l1,l6,hys,hym,b1,b2⟩
   have hN:=hL.snoc (fun t ht=>(hts t ht).2) s35 nt1 nt2 (p:=(kn,ys,bb % ((2 ^ 2 ^ ys.length:Nat):Int))) n5.at_ (n5.same _ _ h4)
   have hk5:upd H5 lp (.lst ((ts.map fun t=>V.ref t.1) ++ [.ref t1])) kp=some (.lst ((known m ps).map V.int)):=by rw [upd_ne nkl];exact hk5'
   have s5:Same H (upd H5 lp (.lst ((ts.map fun t=>V.ref t.1) ++ [.ref t1]))):=(s3.trans s35).put hlp
   refine ⟨lp,_,_,rfl,rfl,hl5,by rw [List.length_map];omega,?_⟩
   generalize upd H5 lp (.lst ((ts.map fun t=>V.ref t.1) ++ [.ref t1]))=H6 at hN hk5 s5 ⊢
   walk_at "gs"
   refine ⟨.inl ⟨by trivial,_,.of hk5⟩,kp,_,_,rfl,rfl,hk5,by rw [List.length_map];omega,?_⟩
   refine ⟨s5.put n1.was,ts ++ [(t1,cl)],ps ++ [(kn,ys,bb % ((2 ^ 2 ^ ys.length:Nat):Int))],_,_,_,_,by rw [upd_same,known_snoc,List.map_append];rfl,?_,fun t ht=>?_,wp.snoc wpc,by rw [List.length_append,hpl];rfl,top_up htp (by show kn≤_;omega),rfl⟩
   ·refine ⟨by rw [upd_ne nkl.symm];exact hN.lst,hN.len,fun j t p' ht hp'=>?_⟩
    obtain ⟨a1,a2⟩:=hN.at_ j t p' ht hp'
    refine ⟨by rw [upd_ne (ne_of a1 hk5 (fun z=>nomatch z))];exact a1,?_⟩
    rw [upd_ne]
    ·exact a2
    ·rcases List.mem_append.mp (List.mem_of_getElem? ht) with z | z
     ·exact (hts t z).1
     ·rw [List.mem_singleton] at z
      subst z
      exact nk2
   ·rcases List.mem_append.mp ht with z | z
    ·exact hts t z
    ·rw [List.mem_singleton] at z
     subst z
     exact ⟨nk2,nt2⟩
  ·rintro σ H3 ⟨s3,ts,ps,v4,v5,v6,v7,hk3,hL,hts,wp,hpl,htp,rfl⟩
   rw [List.length_map] at hpl
   walk_at "gs"
   exact q lp ts ps H3 hlp s3 hL wp (by omega)
def sp_law_ties (K:PySem.W.Frag):Sp:=fun vs H Q _=>∃ (c:Int) (m:Nat) (l:Addr) (ts:List (Addr × Addr)) (ps:List Pc),vs=[.int c,.int m,.ref l]∧PLst H l ts ps∧WP m ps∧m≤10∧ps.length≤1000 ∧
 ∀ tp H' ties,Mad H tp (.lst (ties.map V.int)) H'→WT m ps ties→ties.length≤16→Q (.ref tp) H'
def rd_law_ties (K:PySem.W.Frag):TS:=(tSeq (tAsg (tOp cAdd (tComp (iRng1 (tCons (tOp cAdd (cVar 1) (tC (.int 1))) tNil)) 1 [] (gName 0) tTrue (cVar 0)) (tComp (iList K (cVar 2)) 1 [] (gName 0) tTrue (tOp (cIx K) (cVar 0) (tC (.int 0))))) (gName 3))
  (tSeq (tAsg (tLst tNil) (gName 4))
  (tSeq (tFor (iRng1 (tCons (tOp cAdd (tC (.int 1)) (tOp (cI2c (fun _ j=>0<j) fun i j=>.int (i % j)) (cVar 0) (tC (.int 16)))) tNil)) (gName 5) (tSeq (tAsg (tOp (cI2c (fun _ j=>0<j) fun i j=>.int (i % j)) (tOp cAdd (tOp (cI2c CDiv fun i j=>.int (i / j)) (cVar 0) (tC (.int 16))) (tOp cMul (tC (.int 7)) (cVar 5))) (tCB (cLen K) (tCons (cVar 3) tNil))) (gName 6))
  (tMid (tIfS (cTst (tOp (cI2 fun i j=>.bl (decide (j<i))) (tOp (cI2c (fun _ j=>0<j) fun i j=>.int (i % j)) (tOp cAdd (tOp (cI2c CDiv fun i j=>.int (i / j)) (cVar 0) (tC (.int 32))) (cVar 5)) (tC (.int 3))) (tC (.int 0)))) (tAsg (tOp (cI2 fun i j=>.int (i - j)) (tOp (cI2 fun i j=>.int (i - j)) (tCB (cLen K) (tCons (cVar 3) tNil)) (tC (.int 1))) (tOp (cI2c (fun _ j=>0<j) fun i j=>.int (i % j)) (tOp cAdd (tOp (cI2c CDiv fun i j=>.int (i / j)) (cVar 0) (tC (.int 16))) (cVar 5)) (tCB cMin (tCons (tCB (cLen K) (tCons (cVar 3) tNil)) (tCons (tC (.int 5)) tNil))))) (gName 6)) tNext)
  (tDrop (tBM K "list" rAppend (cVar 4) (tCons (tOp cAdd (tOp cMul (tC (.int 2)) (tOp (cIx K) (cVar 3) (cVar 6))) (tOp (cI2c (fun _ j=>0<j) fun i j=>.int (i % j)) (tOp cAdd (tOp (cI2c CDiv fun i j=>.int (i / j)) (cVar 0) (tC (.int 5))) (cVar 5)) (tC (.int 2)))) tNil))))))
  (tRet (cVar 4)))))
theorem tm_law_ties (T:Txt K mg a) {cdv:Value}{A:Around}{outer:List Env}{s:Shared}{H:Hp}{E:XK} (hr:Room 0 (A.deeper (envOfC "_law_ties" (defScope s_law_ties) s.heap.objs.size a.f_law_ties cdv))) :
  PSs (cxOf CX0 P w K mg base N_law_ties "_law_ties" (defScope s_law_ties) a.f_law_ties cdv A outer s H E).nox (defBody s_law_ties) (rd_law_ties K) :=
 (pss_cons (ps_set (i:=3) sc_law_ties.nd rfl (by walk_at "o") (pe_op o_add (pe_comp (N:=["_law_k"]) (k:=1) (sel:=[]) (CScope.of (defScope s_law_ties).names (by decide +kernel)) (CNames.of N_law_ties (by decide +kernel)) rfl (pi_range1 rfl T.no_range (pa_cons (pe_op o_add (cv 1) pe_int) pa_nil)) (fun _ _ _ _=>(pg_name (i:=0) (show List.Nodup (["_law_k"]:List Str) by decide +kernel) rfl (by walk_at "o"))) (fun _ _ _ _=>pts_nil) (fun _ _ _ _=>(cv 0))) (pe_comp (N:=["_law_piece_here"]) (k:=1) (sel:=[]) (CScope.of (defScope s_law_ties).names (by decide +kernel)) (CNames.of N_law_ties (by decide +kernel)) rfl (pi_list (cv 2)) (fun _ _ _ _=>(pg_name (i:=0) (show List.Nodup (["_law_piece_here"]:List Str) by decide +kernel) rfl (by walk_at "o"))) (fun _ _ _ _=>pts_nil) (fun _ _ _ _=>(pe_ix i_seq (cv 0) pe_int (fun _ _=>rfl))))))
   (pss_cons (ps_set (i:=4) sc_law_ties.nd rfl (by walk_at "o") (pe_lst pa_nil))
   (pss_cons (ps_for PassesOwn.never rfl (pi_range1 rfl T.no_range (pa_cons (pe_op o_add pe_int (pe_op o_mod (cv 0) pe_int)) pa_nil)) (pg_name (i:=5) sc_law_ties.nd rfl (by walk_at "o")) (pss_cons (ps_set (i:=6) sc_law_ties.nd rfl (by walk_at "o") (pe_op o_mod (pe_op o_add (pe_op o_fdiv (cv 0) pe_int) (pe_op o_mul pe_int (cv 5))) (pe_callB c_len (by rfl) T.no_len PySem.boot_len (pa_cons (cv 3) pa_nil))))
   (pss_mid (ps_if (t_cmp o_gt (pe_op o_mod (pe_op o_add (pe_op o_fdiv (cv 0) pe_int) (cv 5)) pe_int) pe_int (nomark _)) (pss_one (ps_set (i:=6) sc_law_ties.nd rfl (by walk_at "o") (pe_op o_sub (pe_op o_sub (pe_callB c_len (by rfl) T.no_len PySem.boot_len (pa_cons (cv 3) pa_nil)) pe_int) (pe_op o_mod (pe_op o_add (pe_op o_fdiv (cv 0) pe_int) (cv 5)) (pe_callB (c_min rfl) (by rfl) T.no_min PyProof.Rows.boot_min (pa_cons (pe_callB c_len (by rfl) T.no_len PySem.boot_len (pa_cons (cv 3) pa_nil)) (pa_cons pe_int pa_nil))))))) pss_nil)
   (pss_one (ps_expr (pe_bm PySem.F.plainAttrs_list PySem.F.slot_list_append PySem.F.type_list_append (mtr mt_append) (cv 4) (pa_cons (pe_op o_add (pe_op o_mul pe_int (pe_ix i_seq (cv 3) (cv 6) (fun _ _=>rfl))) (pe_op o_mod (pe_op o_add (pe_op o_fdiv (cv 0) pe_int) (cv 5)) pe_int)) pa_nil)))))))
   (pss_one (ps_ret (cv 4))))))
theorem ok_law_ties (T:Txt K mg a):FnOk P w K mg base CX0 1 a.f_law_ties a.d_law_ties ["_law_cell","_law_many","_law_pieces_here"] (sp_law_ties K):=by
 refine T.fn_law_ties.ok sc_law_ties (fun vs H Q E h=>?_) (fun cdv A outer s H vs Q E hr h=>⟨_,tm_law_ties T hr,?_⟩)
 ·obtain ⟨c,m,l,ts,ps,rfl,_⟩:=h;rfl
 ·obtain ⟨c,m,l,ts,ps,rfl,hL,wp,m10,hz,q⟩:=h
  show rd_law_ties K _ [some (.int c),some (.int m),some (.ref l),none,none,none,none] H
  unfold rd_law_ties
  have big:(20000:Nat)≤sizeLine:=by decide
  have hlen:=hL.len
  walk_at "gs"
  rw [show ((m:Int)+1).toNat=m+1 by omega]
  refine compG_rng (n:=m+1) (fun i=>.int i) rfl (by omega) ?_ ?_
  ·intro i H' Q' hi s' q'
   walk_at "gs"
   exact q'
  intro q1 H1 n1
  walk_at "gs"
  refine ⟨⟨_,.of (n1.same _ _ hL.lst)⟩,fun q2 hq2=>comp_gen (n:=(ts.map fun t=>V.ref t.1).length) (item:=fun i=>(ts.map fun t=>V.ref t.1).getD i .non) (fun σ=>∃ v0,σ=[v0]) (fun i H3=>Same H1 H3∧H3 q2=some (.lst (((ps.take i).map (·.1)).map V.int))) ⟨_,rfl⟩ ⟨same_upd hq2,upd_same⟩ (src_list (xs:=ts.map fun t=>V.ref t.1) ?_) ?_ ?_ ?_⟩
  ·rintro i H3 _ ⟨s3,_⟩
   exact .of (s3 _ _ (n1.same _ _ hL.lst))
  ·rintro H3 ⟨s3,_⟩
   exact ⟨_,.of (s3 _ _ (n1.same _ _ hL.lst)),Nat.le_refl _⟩
  ·rintro i σ3 H3 R hi ⟨v0,rfl⟩ ⟨s3,h3⟩ hR
   have hit:i<ts.length:=by rwa [List.length_map] at hi
   obtain ⟨p,hp,hpt,_⟩:=(hL.same (n1.same.trans s3)).get hit
   rw [ref_at ts hit]
   generalize (ts[i]).1=t1 at *
   walk_at "gs"
   refine ⟨_,_,.inr (.of hpt),rfl,?_⟩
   refine ⟨_,h3,by rw [List.length_map,List.length_map,List.length_take];omega,hR _ _ ⟨_,rfl⟩ ⟨s3.put hq2,?_⟩⟩
   rw [upd_same,take_snoc hp,List.map_append,List.map_append]
   rfl
  rintro H3 ⟨s3,h3⟩
  rw [List.length_map,hlen,List.take_length] at h3
  have s03:=n1.same.trans s3
  walk_at "gs"
  refine ⟨_,_,s3 _ _ n1.at_,h3,by rw [List.length_map,List.length_map,List.length_map,List.length_range];omega,fun kp hkp=>?_⟩
  have hkpH:H kp=none:=s03.nil hkp
  obtain ⟨ks,hks⟩:∃ ks:List Int,ks=((List.range (m+1)).map fun i:Nat=>(0:Int)+(i:Int)) ++ ps.map (·.1):=⟨_,rfl⟩
  have e3:((List.range (m+1)).map fun i:Nat=>V.int (0+(i:Int))) ++ (ps.map (·.1)).map V.int=ks.map V.int:=by rw [hks,List.map_append];congr 1;rw [List.map_map];rfl
  rw [e3]
  have hkl:ks.length=m+1+ps.length:=by rw [hks,List.length_append,List.length_map,List.length_map,List.length_range]
  have hkm:∀ x∈ks,x=0∨x∈known m ps:=fun x hx=>by
   rw [hks] at hx
   rcases List.mem_append.mp hx with z | z
   ·obtain ⟨i,hi,rfl⟩:=List.mem_map.mp z
    have:=List.mem_range.mp hi
    by_cases e:i=0
    ·exact .inl (by omega)
    ·refine .inr ?_
     unfold known
     exact List.mem_append_left _ (List.mem_map.mpr ⟨i - 1,List.mem_range.mpr (by omega),by omega⟩)
   ·refine .inr ?_
    unfold known
    exact List.mem_append_right _ z
  have hk4:upd H3 kp (.lst (ks.map V.int)) kp=some (.lst (ks.map V.int)):=upd_same
  have s04:Same H (upd H3 kp (.lst (ks.map V.int))):=s03.trans (same_upd hkp)
  generalize upd H3 kp (.lst (ks.map V.int))=H4 at hk4 s04 ⊢
  walk_at "gs"
  intro tp H5 n5
  have hk5:=n5.same _ _ hk4
  walk_at "gs"
  obtain ⟨N,hN,hN16⟩:∃ N:Nat,(1+c % 16).toNat=N+1∧N≤15:=⟨(c % 16).toNat,by omega,by omega⟩
  rw [hN]
  have nkt:kp≠tp:=ne_of_none hk4 n5.was
  refine for_rngG (fun i σ H6=>Same H4 H6∧∃ (ties:List Int) (v5 v6:Option V),H6 tp=some (.lst (ties.map V.int))∧ties.length=i∧(∀ t∈ties,∃ x∈ks,t / 2=x)∧σ=[some (.int c),some (.int m),some (.ref l),some (.ref kp),some (.ref tp),v5,v6]) ⟨n5.same,[],_,_,n5.at_,rfl,fun t ht=>by simp at ht,rfl⟩ ?_ ?_
  ·rintro i σ H6 hi ⟨s6,ties,v5,v6,h6,htl,htm,rfl⟩
   have hk6:=s6 _ _ hk4
   have l0:(ks.length:Int)≠0:=by omega
   walk_at "gs"
   refine .inl ⟨_,.inl (.of hk6),?_⟩
   rw [List.length_map]
   walk_at "gs"
   have y1:=Int.emod_nonneg (c / 16+7 * (0+(i:Int))) l0
   have y2:=Int.emod_lt_of_pos (c / 16+7 * (0+(i:Int))) (show 0<(ks.length:Int) by omega)
   refine mid (fun σ' H'=>H'=H6∧∃ at':Int,0≤at'∧at'<ks.length∧σ'=[some (.int c),some (.int m),some (.ref l),some (.ref kp),some (.ref tp),some (.int (0+(i:Int))),some (.int at')]) ?_ ?_
   ·intro N' hN'
    walk_at "gs"
    by_cases g:0<(c / 32+(0+(i:Int))) % 3
    ·rw [if_pos g]
     walk_at "gs"
     refine .inl ⟨_,.inl (.of hk6),?_⟩
     rw [List.length_map]
     walk_at "gs"
     refine .inl ⟨_,.inl (.of hk6),?_⟩
     rw [List.length_map]
     have gM:1≤(if (5:Int)<(ks.length:Int) then (5:Int) else (ks.length:Int))∧(if (5:Int)<(ks.length:Int) then (5:Int) else (ks.length:Int))≤(ks.length:Int):=by split <;> omega
     generalize hM:(if (5:Int)<(ks.length:Int) then (5:Int) else (ks.length:Int))=M at gM
     have z1:=Int.emod_nonneg (c / 16+(0+(i:Int))) (show M≠0 by omega)
     have z2:=Int.emod_lt_of_pos (c / 16+(0+(i:Int))) (show 0<M by omega)
     walk_at "gs"
     exact hN' _ _ ⟨rfl,_,by omega,by omega,rfl⟩
    ·rw [if_neg g]
     exact hN' _ _ ⟨rfl,_,y1,y2,rfl⟩
   rintro σ7 H7 ⟨rfl,at',a0,a1,rfl⟩
   obtain ⟨g,hg,ha⟩:=at_ints (ks:=ks) a0 a1
   walk_at "gs"
   refine ⟨.inl ⟨by trivial,_,.of h6⟩,?_⟩
   refine ⟨_,_,.inl (.of hk6),ha,?_⟩
   walk_at "gs"
   refine ⟨tp,_,_,rfl,rfl,h6,by rw [List.length_map];omega,s6.put n5.was,ties ++ [2 * g+(c / 5+(0+(i:Int))) % 2],_,_,by rw [upd_same,List.map_append];rfl,by rw [List.length_append,htl];rfl,fun t ht=>?_,rfl⟩
   rcases List.mem_append.mp ht with z | z
   ·exact htm t z
   ·rw [List.mem_singleton] at z
    subst z
    exact ⟨g,hg,by omega⟩
  ·rintro σ H6 ⟨s6,ties,v5,v6,h6,htl,htm,rfl⟩
   walk_at "gs"
   refine q tp H6 ties ⟨s04.nil n5.was,h6,s04.trans s6⟩ ⟨by omega,by omega,fun t ht=>?_⟩ (by omega)
   obtain ⟨x,hx,e⟩:=htm t ht
   have:=hkm x hx
   rw [e]
   refine ⟨?_,this⟩
   rcases this with z | z
   ·omega
   ·have:=(wp.known m10 (i:=ps.length) (x:=x) (by rw [List.take_length];exact z)).1
    omega
theorem comp_copy {K:PySem.W.Frag}{σ:L2.St}{H:Hp}{l:Addr}{ts:List (Addr × Addr)}{ps:List Pc}{Q:VK} (hP:PLst H l ts ps) (hz:ps.length≤1000)
  (q:∀ hp us H',H hp=none→Same H H'→PLst H' hp us ps→(∀ t∈us,H t.1=none∧H t.2=none∧t.2≠hp)→Q (.ref hp) H') :
  CompG (Itl K l) σ 3 [] (gTup K 3 (gCons (gName 0) (gCons (gName 1) (gCons (gName 2) gNil)))) tTrue (tTup (tCons (cVar 0) (tCons (tCB (cList K) (tCons (cVar 1) tNil)) (tCons (cVar 2) tNil)))) Q H:=by
 have big:(20000:Nat)≤sizeLine:=by decide
 have htl:=hP.len
 refine fun hp hhp=>comp_gen (n:=(ts.map fun t=>V.ref t.1).length) (item:=fun i=>(ts.map fun t=>V.ref t.1).getD i .non) (fun σ=>∃ v0 v1 v2,σ=[v0,v1,v2]) (fun i H3=>Same H H3∧∃ us:List (Addr × Addr),H3 hp=some (.lst (us.map fun t=>V.ref t.1))∧us.length=i∧(∀ t∈us,H t.1=none∧H t.2=none∧t.2≠hp)∧∀ (j:Nat) t p,us[j]? = some t→ps[j]? = some p→H3 t.1=some (.tup [.int p.1,.ref t.2,.int p.2.2])∧H3 t.2=some (.lst (p.2.1.map V.int))) ⟨_,_,_,rfl⟩ ⟨same_upd hhp,[],upd_same,rfl,fun t ht=>by simp at ht,fun j t p ht=>by simp at ht⟩ (src_list (xs:=ts.map fun t=>V.ref t.1) ?_) ?_ ?_ ?_
 ·rintro i H3 _ ⟨s3,_⟩
  exact .of (s3 _ _ hP.lst)
 ·rintro H3 ⟨s3,_⟩
  exact ⟨_,.of (s3 _ _ hP.lst),Nat.le_refl _⟩
 ·rintro i σ3 H3 R hi ⟨v0,v1,v2,rfl⟩ ⟨s3,us,h3,hul,hun,hus⟩ hR
  have hit:i<ts.length:=by rwa [List.length_map] at hi
  obtain ⟨p,hp',hpt,hpc⟩:=(hP.same s3).get hit
  rw [ref_at ts hit]
  generalize (ts[i]).1=t1 at *
  generalize (ts[i]).2=t2 at *
  walk_at "gs"
  refine ⟨t1,_,rfl,.of hpt,rfl,_,_,rfl,_,_,rfl,_,_,rfl,rfl,?_⟩
  walk_at "gs"
  refine ⟨_,.inl (.of hpc),fun c4 H4 n4=>?_⟩
  refine ⟨by show 3≤sizeLine;decide,fun t5 H5 n5=>?_⟩
  have s35:=n4.same.trans n5.same
  have h5:=s35 _ _ h3
  have ntp:t5≠hp:=(ne_of_none (n4.same _ _ h3) n5.was).symm
  have ncp:c4≠hp:=(ne_of_none h3 n4.was).symm
  refine ⟨_,h5,by rw [List.length_map];omega,hR _ _ ⟨_,_,_,rfl⟩ ⟨(s3.trans s35).put hhp,us ++ [(t5,c4)],by rw [upd_same,List.map_append];rfl,by rw [List.length_append,hul];rfl,fun t ht=>?_,fun j t q' ht hq'=>?_⟩⟩
  ·rcases List.mem_append.mp ht with z | z
   ·exact hun t z
   ·rw [List.mem_singleton] at z
    subst z
    exact ⟨(s3.trans n4.same).nil n5.was,s3.nil n4.was,ncp⟩
  by_cases hji:j<i
  ·rw [List.getElem?_append_left (by omega)] at ht
   obtain ⟨g1,g2⟩:=hus j t q' ht hq'
   exact ⟨by rw [upd_ne (ne_of g1 h3 (fun z=>nomatch z))];exact s35 _ _ g1,by rw [upd_ne (hun t (List.mem_of_getElem? ht)).2.2];exact s35 _ _ g2⟩
  ·have hjl:j<us.length+1:=by have:=(List.getElem?_eq_some_iff.mp ht).1;rwa [List.length_append] at this
   have hj:j=i:=by omega
   subst hj
   rw [← hul,List.getElem?_append_right (Nat.le_refl _),Nat.sub_self] at ht
   have et:(t5,c4)=t:=by simpa using ht
   subst et
   rw [hp'] at hq'
   cases hq'
   exact ⟨by rw [upd_ne ntp];exact n5.at_,by rw [upd_ne ncp];exact n5.same _ _ n4.at_⟩
 rintro H3 ⟨s3,us,h3,hul,hun,hus⟩
 rw [List.length_map] at hul
 exact q hp us H3 hhp s3 ⟨h3,by omega,hus⟩ hun
def sp_law_copy (_:PySem.W.Frag):Sp:=fun vs H Q _=>∃ (l:Addr) (ts:List (Addr × Addr)) (ps:List Pc),vs=[.ref l]∧PLst H l ts ps∧ps.length≤1000 ∧
 ∀ hp us H',H hp=none→Same H H'→PLst H' hp us ps→(∀ t∈us,H t.1=none∧H t.2=none∧t.2≠hp)→Q (.ref hp) H'
def rd_law_copy (K:PySem.W.Frag):TS:=(tRet (tComp (iList K (cVar 0)) 3 [] (gTup K 3 (gCons (gName 0) (gCons (gName 1) (gCons (gName 2) gNil)))) tTrue (tTup (tCons (cVar 0) (tCons (tCB (cList K) (tCons (cVar 1) tNil)) (tCons (cVar 2) tNil))))))
theorem tm_law_copy (T:Txt K mg a) {cdv:Value}{A:Around}{outer:List Env}{s:Shared}{H:Hp}{E:XK} (hr:Room 0 (A.deeper (envOfC "_law_copy" (defScope s_law_copy) s.heap.objs.size a.f_law_copy cdv))) :
  PSs (cxOf CX0 P w K mg base N_law_copy "_law_copy" (defScope s_law_copy) a.f_law_copy cdv A outer s H E).nox (defBody s_law_copy) (rd_law_copy K) :=
 (pss_one (ps_ret (pe_comp (N:=["_law_knot","_law_cut_here","_law_told_here"]) (k:=3) (sel:=[]) (CScope.of (defScope s_law_copy).names (by decide +kernel)) (CNames.of N_law_copy (by decide +kernel)) rfl (pi_list (cv 0)) (fun _ _ _ _=>(pg_tup rfl (pgs_cons (pg_name (i:=0) (show List.Nodup (["_law_knot","_law_cut_here","_law_told_here"]:List Str) by decide +kernel) rfl (by walk_at "o")) (pgs_cons (pg_name (i:=1) (show List.Nodup (["_law_knot","_law_cut_here","_law_told_here"]:List Str) by decide +kernel) rfl (by walk_at "o")) (pgs_cons (pg_name (i:=2) (show List.Nodup (["_law_knot","_law_cut_here","_law_told_here"]:List Str) by decide +kernel) rfl (by walk_at "o")) pgs_nil))))) (fun _ _ _ _=>pts_nil) (fun _ _ _ _=>(pe_tup (pa_cons (cv 0) (pa_cons (pe_callTy c_list (by rfl) T.no_list PyProof.Rows.boot_list (pa_cons (cv 1) pa_nil)) (pa_cons (cv 2) pa_nil))))))))
theorem ok_law_copy (T:Txt K mg a):FnOk P w K mg base CX0 1 a.f_law_copy a.d_law_copy ["_law_pieces_here"] (sp_law_copy K):=by
 refine T.fn_law_copy.ok sc_law_copy (fun vs H Q E h=>?_) (fun cdv A outer s H vs Q E hr h=>⟨_,tm_law_copy T hr,?_⟩)
 ·obtain ⟨l,ts,ps,rfl,_⟩:=h;rfl
 ·obtain ⟨l,ts,ps,rfl,hP,hz,q⟩:=h
  show rd_law_copy K _ [some (.ref l)] H
  unfold rd_law_copy
  walk_at "gs"
  exact ⟨⟨_,.of hP.lst⟩,comp_copy hP hz q⟩
def sp_law_whole (_:PySem.W.Frag):Sp:=fun vs H Q _=>∃ i:Int,vs=[.int i]∧Q (.bl true) H
def rd_law_whole (K:PySem.W.Frag):TS:=(tRet (cAndV (tCB (cIsinst K) (tCons (cVar 0) (tCons (tC (.ty "int")) tNil))) (cNotV (tCB (cIsinst K) (tCons (cVar 0) (tCons (tC (.ty "bool")) tNil))))))
theorem tm_law_whole (T:Txt K mg a) {cdv:Value}{A:Around}{outer:List Env}{s:Shared}{H:Hp}{E:XK} (hr:Room 0 (A.deeper (envOfC "_law_whole" (defScope s_law_whole) s.heap.objs.size a.f_law_whole cdv))) :
  PSs (cxOf CX0 P w K mg base N_law_whole "_law_whole" (defScope s_law_whole) a.f_law_whole cdv A outer s H E).nox (defBody s_law_whole) (rd_law_whole K) :=
 (pss_one (ps_ret (e_and (pe_callB c_isinst (by rfl) T.no_isinstance PyProof.Rows.boot_isinstance (pa_cons (cv 0) (pa_cons (pe_bltn (v:=.ty "int") rfl T.no_int PyProof.Rows.boot_int rfl) pa_nil))) (pe_one (e_not (pe_callB c_isinst (by rfl) T.no_isinstance PyProof.Rows.boot_isinstance (pa_cons (cv 0) (pa_cons (pe_bltn (v:=.ty "bool") rfl T.no_bool PyProof.Rows.boot_bool rfl) pa_nil))))))))
theorem ok_law_whole (T:Txt K mg a):FnOk P w K mg base CX0 1 a.f_law_whole a.d_law_whole ["_law_found"] (sp_law_whole K):=by
 refine T.fn_law_whole.ok sc_law_whole (fun vs H Q E h=>?_) (fun cdv A outer s H vs Q E hr h=>⟨_,tm_law_whole T hr,?_⟩)
 ·obtain ⟨i,rfl,_⟩:=h;rfl
 ·obtain ⟨i,rfl,q⟩:=h
  show rd_law_whole K _ [some (.int i)] H
  unfold rd_law_whole
  walk_at "go"
  refine ⟨_,true,.int i,rfl,?_⟩
  walk_at "go"
  refine ⟨_,false,.int i,rfl,?_⟩
  walk_at "go"
  exact q
def sp_law_no_number (_:PySem.W.Frag):Sp:=fun vs H Q _=>∃ c:Int,vs=[.int c]∧∀ v H',Same H H'→Nice H' v→whole v=false→Q v H'
def rd_law_no_number (K:PySem.W.Frag):TS:=(tRet (tOp (cIx K) (tLst (tCons (tC (.str "3")) (tCons (tC (.str "")) (tCons (tC .non) (tCons (tTup (tCons (tC (.int 1)) tNil)) (tCons (tLst (tCons (tC (.int 1)) tNil)) (tCons (tC (.bl true)) (tCons (tC (.str "1")) (tCons (tC (.bl true)) tNil))))))))) (tOp (cI2c (fun _ j=>0<j) fun i j=>.int (i % j)) (cVar 0) (tC (.int 8)))))
theorem tm_law_no_number (T:Txt K mg a) {cdv:Value}{A:Around}{outer:List Env}{s:Shared}{H:Hp}{E:XK} (hr:Room 0 (A.deeper (envOfC "_law_no_number" (defScope s_law_no_number) s.heap.objs.size a.f_law_no_number cdv))) :
  PSs (cxOf CX0 P w K mg base N_law_no_number "_law_no_number" (defScope s_law_no_number) a.f_law_no_number cdv A outer s H E).nox (defBody s_law_no_number) (rd_law_no_number K) :=
 (pss_one (ps_ret (pe_ix i_seq (pe_lst (pa_cons pe_str (pa_cons pe_str (pa_cons pe_non (pa_cons (pe_tup (pa_cons pe_int pa_nil)) (pa_cons (pe_lst (pa_cons pe_int pa_nil)) (pa_cons pe_bl (pa_cons pe_str (pa_cons pe_bl pa_nil))))))))) (pe_op o_mod (cv 0) pe_int) (fun _ _=>rfl))))
theorem ok_law_no_number (T:Txt K mg a):FnOk P w K mg base CX0 1 a.f_law_no_number a.d_law_no_number ["_law_cell"] (sp_law_no_number K):=by
 refine T.fn_law_no_number.ok sc_law_no_number (fun vs H Q E h=>?_) (fun cdv A outer s H vs Q E hr h=>⟨_,tm_law_no_number T hr,?_⟩)
 ·obtain ⟨c,rfl,_⟩:=h;rfl
 ·obtain ⟨c,rfl,q⟩:=h
  show rd_law_no_number K _ [some (.int c)] H
  unfold rd_law_no_number
  walk_at "gs"
  refine fun t1 H1 n1=>⟨by show 1≤sizeLine;decide,fun t2 H2 n2=>⟨by show 8≤sizeLine;decide,fun t3 H3 n3=>⟨by decide,?_⟩⟩⟩
  have s3:=n3.same
  have s03:=(n1.same.trans n2.same).trans s3
  have h1:=s3 _ _ (n2.same _ _ n1.at_)
  have h2:=s3 _ _ n2.at_
  have key:∃ v,atI [V.str "3",V.str "",V.non,V.ref t1,V.ref t2,V.bl true,V.str "1",V.bl true] (c % 8)=some v∧Nice H3 v∧whole v=false:=by
   rcases (by omega:c % 8=0∨c % 8=1∨c % 8=2∨c % 8=3∨c % 8=4∨c % 8=5∨c % 8=6∨c % 8=7) with h | h | h | h | h | h | h | h <;> rw [h]
   ·exact ⟨_,rfl,trivial,rfl⟩
   ·exact ⟨_,rfl,trivial,rfl⟩
   ·exact ⟨_,rfl,trivial,rfl⟩
   ·exact ⟨_,rfl,.inr ⟨_,h1⟩,rfl⟩
   ·exact ⟨_,rfl,.inl ⟨_,h2⟩,rfl⟩
   ·exact ⟨_,rfl,trivial,rfl⟩
   ·exact ⟨_,rfl,trivial,rfl⟩
   ·exact ⟨_,rfl,trivial,rfl⟩
  obtain ⟨v,hv,nv,wv⟩:=key
  exact ⟨_,_,.inl n3.sq,hv,q v H3 s03 nv wv⟩
theorem far_nn (c:Int):0≤c % 10 ^ (30:Int).toNat:=Int.emod_nonneg _ (by decide)
def sp_law_wrong_knot (_:PySem.W.Frag):Sp:=fun vs H Q _=>∃ (last c:Int) (m:Nat),vs=[.int last,.int m,.int c]∧(m:Int)≤last∧∀ v H',Same H H'→Nice H' v→btw v (last+1) 999=false→Q v H'
def rd_law_wrong_knot (K:PySem.W.Frag):TS:=(tSeq (tAsg (tOp (cI2c (fun _ j=>0<j) fun i j=>.int (i % j)) (tOp (cI2c CDiv fun i j=>.int (i / j)) (cVar 2) (tC (.int 5))) (tOp (cI2c CPow fun i j=>.int (i ^ j.toNat)) (tC (.int 10)) (tC (.int 30)))) (gName 3))
  (tRet (tOp (cIx K) (tLst (tCons (tOp (cI2c (fun _ j=>0<j) fun i j=>.int (i % j)) (cVar 3) (tOp cAdd (cVar 1) (tC (.int 1)))) (tCons (cVar 0) (tCons (tOp cAdd (tC (.int 1000)) (cVar 3)) (tCons (tOp (cI2 fun i j=>.int (i - j)) (tUn cNeg (tC (.int 1))) (cVar 3)) (tCons (tCall (sp_law_no_number K) [] E0 (tCons (tOp (cI2c CDiv fun i j=>.int (i / j)) (cVar 2) (tC (.int 5))) tNil)) tNil)))))) (tOp (cI2c (fun _ j=>0<j) fun i j=>.int (i % j)) (cVar 2) (tC (.int 5))))))
theorem tm_law_wrong_knot (T:Txt K mg a) {cdv:Value}{A:Around}{outer:List Env}{s:Shared}{H:Hp}{E:XK} (hr:Room 1 (A.deeper (envOfC "_law_wrong_knot" (defScope s_law_wrong_knot) s.heap.objs.size a.f_law_wrong_knot cdv))) :
  PSs (cxOf CX0 P w K mg base N_law_wrong_knot "_law_wrong_knot" (defScope s_law_wrong_knot) a.f_law_wrong_knot cdv A outer s H E).nox (defBody s_law_wrong_knot) (rd_law_wrong_knot K) :=
 (pss_cons (ps_set (i:=3) sc_law_wrong_knot.nd rfl (by walk_at "o") (pe_op o_mod (pe_op o_fdiv (cv 2) pe_int) (pe_op o_pow pe_int pe_int)))
   (pss_one (ps_ret (pe_ix i_seq (pe_lst (pa_cons (pe_op o_mod (cv 3) (pe_op o_add (cv 1) pe_int)) (pa_cons (cv 0) (pa_cons (pe_op o_add pe_int (cv 3)) (pa_cons (pe_op o_sub (pe_un u_neg pe_int) (cv 3)) (pa_cons (pe_call (ok_law_no_number T) (hr.mono (by decide)) rfl T.mg_law_no_number T.fn_law_no_number.kp T.bi_law_no_number .nil pass0 (pa_cons (pe_op o_fdiv (cv 2) pe_int) pa_nil)) pa_nil)))))) (pe_op o_mod (cv 2) pe_int) (fun _ _=>rfl)))))
theorem ok_law_wrong_knot (T:Txt K mg a):FnOk P w K mg base CX0 2 a.f_law_wrong_knot a.d_law_wrong_knot ["_law_last","_law_many","_law_cell"] (sp_law_wrong_knot K):=by
 refine T.fn_law_wrong_knot.ok sc_law_wrong_knot (fun vs H Q E h=>?_) (fun cdv A outer s H vs Q E hr h=>⟨_,tm_law_wrong_knot T hr,?_⟩)
 ·obtain ⟨last,c,m,rfl,_⟩:=h;rfl
 ·obtain ⟨last,c,m,rfl,hm,q⟩:=h
  show rd_law_wrong_knot K _ [some (.int last),some (.int m),some (.int c),none] H
  unfold rd_law_wrong_knot
  have p30:(0:Int)<10 ^ (30:Int).toNat:=by decide
  have fn:=far_nn (c / 5)
  walk_at "gs"
  refine ⟨c / 5,rfl,fun v H1 s1 nv wv=>?_⟩
  generalize c / 5 % 10 ^ (30:Int).toNat=far at fn
  walk_at "gs"
  refine ⟨by show 5≤sizeLine;decide,fun t3 H3 n3=>?_⟩
  have y1:=Int.emod_nonneg far (show (m:Int)+1≠0 by omega)
  have y2:=Int.emod_lt_of_pos far (show 0<(m:Int)+1 by omega)
  have key:∃ u,atI [V.int (far % ((m:Int)+1)),V.int last,V.int (1000+far),V.int (-1 - far),v] (c % 5)=some u∧Nice H3 u∧btw u (last+1) 999=false:=by
   rcases (by omega:c % 5=0∨c % 5=1∨c % 5=2∨c % 5=3∨c % 5=4) with h | h | h | h | h <;> rw [h]
   ·exact ⟨_,rfl,trivial,decide_eq_false (by omega)⟩
   ·exact ⟨_,rfl,trivial,decide_eq_false (by omega)⟩
   ·exact ⟨_,rfl,trivial,decide_eq_false (by omega)⟩
   ·exact ⟨_,rfl,trivial,decide_eq_false (by omega)⟩
   ·exact ⟨_,rfl,nv.same n3.same,not_whole wv _ _⟩
  obtain ⟨u,hu,nu,wu⟩:=key
  walk_at "gs"
  exact ⟨_,_,.inl n3.sq,hu,q u H3 (s1.trans n3.same) nu wu⟩
def BadTie (ks:List Int) (v:V):Prop:=∀ t,v=.int t→¬ (t / 2=0∨t / 2∈ks)
def sp_law_wrong_tie (_:PySem.W.Frag):Sp:=fun vs H Q _=>∃ (m:Nat) (l:Addr) (ts:List (Addr × Addr)) (ps:List Pc) (c:Int),vs=[.int m,.ref l,.int c]∧PLst H l ts ps∧WP m ps∧m≤10∧ps.length≤1000∧∀ v H',Same H H'→Nice H' v→BadTie (known m ps) v→Q v H'
def rd_law_wrong_tie (K:PySem.W.Frag):TS:=(tSeq (tAsg (tComp (iList K (cVar 1)) 1 [] (gName 0) tTrue (tOp (cIx K) (cVar 0) (tC (.int 0)))) (gName 3))
  (tSeq (tAsg (tOp cAdd (cVar 0) (tC (.int 1))) (gName 4))
  (tSeq (tWhile (cTst (tOp (cIn K false) (cVar 4) (cVar 3))) (tAsg (tOp cAdd (cVar 4) (tC (.int 1))) (gName 4)))
  (tSeq (tAsg (tOp (cI2c (fun _ j=>0<j) fun i j=>.int (i % j)) (tOp (cI2c CDiv fun i j=>.int (i / j)) (cVar 2) (tC (.int 4))) (tOp (cI2c CPow fun i j=>.int (i ^ j.toNat)) (tC (.int 10)) (tC (.int 30)))) (gName 5))
  (tRet (tOp (cIx K) (tLst (tCons (tOp cAdd (tOp cMul (tC (.int 2)) (cVar 4)) (tOp (cI2c (fun _ j=>0<j) fun i j=>.int (i % j)) (cVar 5) (tC (.int 2)))) (tCons (tOp cAdd (tC (.int 2000)) (cVar 5)) (tCons (tOp (cI2 fun i j=>.int (i - j)) (tUn cNeg (tC (.int 1))) (cVar 5)) (tCons (tCall (sp_law_no_number K) [] E0 (tCons (tOp (cI2c CDiv fun i j=>.int (i / j)) (cVar 2) (tC (.int 4))) tNil)) tNil))))) (tOp (cI2c (fun _ j=>0<j) fun i j=>.int (i % j)) (cVar 2) (tC (.int 4)))))))))
theorem tm_law_wrong_tie (T:Txt K mg a) {cdv:Value}{A:Around}{outer:List Env}{s:Shared}{H:Hp}{E:XK} (hr:Room 1 (A.deeper (envOfC "_law_wrong_tie" (defScope s_law_wrong_tie) s.heap.objs.size a.f_law_wrong_tie cdv))) :
  PSs (cxOf CX0 P w K mg base N_law_wrong_tie "_law_wrong_tie" (defScope s_law_wrong_tie) a.f_law_wrong_tie cdv A outer s H E).nox (defBody s_law_wrong_tie) (rd_law_wrong_tie K) :=
 (pss_cons (ps_setC (i:=3) (N:=["_law_piece_here"]) (k:=1) (sel:=[]) (CScope.of (defScope s_law_wrong_tie).names (by decide +kernel)) (CNames.of N_law_wrong_tie (by decide +kernel)) rfl (pi_list (cv 1)) (fun _ _ _ _=>(pg_name (i:=0) (show List.Nodup (["_law_piece_here"]:List Str) by decide +kernel) rfl (by walk_at "o"))) (fun _ _ _ _=>pts_nil) (fun _ _ _ _=>(pe_ix i_seq (cv 0) pe_int (fun _ _=>rfl))) sc_law_wrong_tie.nd rfl (by walk_at "o") rfl)
   (pss_cons (ps_set (i:=4) sc_law_wrong_tie.nd rfl (by walk_at "o") (pe_op o_add (cv 0) pe_int))
   (pss_cons (ps_while PassesOwn.never (t_cmp o_in (cv 4) (cv 3) (by with_unfolding_all rfl)) (pss_one (ps_set (i:=4) sc_law_wrong_tie.nd rfl (by walk_at "o") (pe_op o_add (cv 4) pe_int))))
   (pss_cons (ps_set (i:=5) sc_law_wrong_tie.nd rfl (by walk_at "o") (pe_op o_mod (pe_op o_fdiv (cv 2) pe_int) (pe_op o_pow pe_int pe_int)))
   (pss_one (ps_ret (pe_ix i_seq (pe_lst (pa_cons (pe_op o_add (pe_op o_mul pe_int (cv 4)) (pe_op o_mod (cv 5) pe_int)) (pa_cons (pe_op o_add pe_int (cv 5)) (pa_cons (pe_op o_sub (pe_un u_neg pe_int) (cv 5)) (pa_cons (pe_call (ok_law_no_number T) (hr.mono (by decide)) rfl T.mg_law_no_number T.fn_law_no_number.kp T.bi_law_no_number .nil pass0 (pa_cons (pe_op o_fdiv (cv 2) pe_int) pa_nil)) pa_nil))))) (pe_op o_mod (cv 2) pe_int) (fun _ _=>rfl))))))))
theorem ok_law_wrong_tie (T:Txt K mg a):FnOk P w K mg base CX0 2 a.f_law_wrong_tie a.d_law_wrong_tie ["_law_many","_law_pieces_here","_law_cell"] (sp_law_wrong_tie K):=by
 refine T.fn_law_wrong_tie.ok sc_law_wrong_tie (fun vs H Q E h=>?_) (fun cdv A outer s H vs Q E hr h=>⟨_,tm_law_wrong_tie T hr,?_⟩)
 ·obtain ⟨m,l,ts,ps,c,rfl,_⟩:=h;rfl
 ·obtain ⟨m,l,ts,ps,c,rfl,hL,wp,m10,hz,q⟩:=h
  show rd_law_wrong_tie K _ [some (.int m),some (.ref l),some (.int c),none,none,none] H
  unfold rd_law_wrong_tie
  have big:(20000:Nat)≤sizeLine:=by decide
  have hlen:=hL.len
  have p30:(0:Int)<10 ^ (30:Int).toNat:=by decide
  walk_at "gs"
  refine ⟨⟨_,.of hL.lst⟩,fun q2 hq2=>comp_gen (n:=(ts.map fun t=>V.ref t.1).length) (item:=fun i=>(ts.map fun t=>V.ref t.1).getD i .non) (fun σ=>∃ v0,σ=[v0]) (fun i H3=>Same H H3∧H3 q2=some (.lst (((ps.take i).map (·.1)).map V.int))) ⟨_,rfl⟩ ⟨same_upd hq2,upd_same⟩ (src_list (xs:=ts.map fun t=>V.ref t.1) ?_) ?_ ?_ ?_⟩
  ·rintro i H3 _ ⟨s3,_⟩
   exact .of (s3 _ _ hL.lst)
  ·rintro H3 ⟨s3,_⟩
   exact ⟨_,.of (s3 _ _ hL.lst),Nat.le_refl _⟩
  ·rintro i σ3 H3 R hi ⟨v0,rfl⟩ ⟨s3,h3⟩ hR
   have hit:i<ts.length:=by rwa [List.length_map] at hi
   obtain ⟨p,hp,hpt,_⟩:=(hL.same s3).get hit
   rw [ref_at ts hit]
   generalize (ts[i]).1=t1 at *
   walk_at "gs"
   refine ⟨_,_,.inr (.of hpt),rfl,?_⟩
   refine ⟨_,h3,by rw [List.length_map,List.length_map,List.length_take];omega,hR _ _ ⟨_,rfl⟩ ⟨s3.put hq2,?_⟩⟩
   rw [upd_same,take_snoc hp,List.map_append,List.map_append]
   rfl
  rintro H3 ⟨s3,h3⟩
  rw [List.length_map,hlen,List.take_length] at h3
  have hb:∀ x∈ps.map (·.1),(m:Int)<x∧x≤999:=fun x hx=>by
   obtain ⟨p,hp,rfl⟩:=List.mem_map.mp hx
   obtain ⟨i,hi⟩:=List.mem_iff_getElem?.mp hp
   exact wp.kb hi
  walk_at "gs"
  refine ⟨fun n σ H4=>H4=H3∧∃ ab:Int,(m:Int)<ab∧(n:Int)=2000 - ab∧ab≤1000∧σ=[some (.int m),some (.ref l),some (.int c),some (.ref q2),some (.int ab),none],⟨(2000 - ((m:Int)+1)).toNat,rfl,(m:Int)+1,by omega,by omega,by omega,rfl⟩,?_⟩
  rintro n σ H4 ⟨rfl,ab,ha0,ha1,ha2,rfl⟩
  simp only [cTst,tOp,cVar,cIn,List.getElem?_cons_zero,List.getElem?_cons_succ]
  walk_at "gs"
  refine ⟨_,.inl (.of h3),rfl,flat_ints _,?_⟩
  rw [inV_ints]
  by_cases hin:ab∈ps.map (·.1)
  ·rw [decide_eq_true hin]
   have:=hb ab hin
   rw [if_pos rfl]
   refine ⟨fun σ' H'=>H'=H4∧σ'=[some (.int m),some (.ref l),some (.int c),some (.ref q2),some (.int (ab+1)),none],fun σ' H' z=>?_,?_⟩
   ·obtain ⟨rfl,rfl⟩:=z
    exact ⟨n - 1,by omega,rfl,ab+1,by omega,by omega,by omega,rfl⟩
   ·walk_at "gs"
  ·rw [decide_eq_false hin]
   have fn:=far_nn (c / 4)
   walk_at "gs"
   generalize c / 4 % 10 ^ (30:Int).toNat=far at fn
   refine ⟨c / 4,rfl,fun v H5 s5 nv wv=>?_⟩
   walk_at "gs"
   refine ⟨by show 4≤sizeLine;decide,fun t6 H6 n6=>?_⟩
   have hks:∀ x∈known m ps,1≤x∧x≤999∧x≠ab:=fun x hx=>by
    have h1:=wp.known m10 (i:=ps.length) (x:=x) (by rw [List.take_length];exact hx)
    refine ⟨h1.1,h1.2,fun e=>?_⟩
    subst e
    unfold known at hx
    rcases List.mem_append.mp hx with z | z
    ·obtain ⟨k,hk,hk2⟩:=List.mem_map.mp z
     have:=List.mem_range.mp hk
     omega
    ·exact hin z
   have key:∃ u,atI [V.int (2 * ab+far % 2),V.int (2000+far),V.int (-1 - far),v] (c % 4)=some u∧Nice H6 u∧BadTie (known m ps) u:=by
    rcases (by omega:c % 4=0∨c % 4=1∨c % 4=2∨c % 4=3) with h | h | h | h <;> rw [h]
    ·refine ⟨_,rfl,trivial,fun t e=>?_⟩
     cases e
     rintro (z | z)
     ·omega
     ·have:=hks _ z
      omega
    ·refine ⟨_,rfl,trivial,fun t e=>?_⟩
     cases e
     rintro (z | z)
     ·omega
     ·have:=hks _ z
      omega
    ·refine ⟨_,rfl,trivial,fun t e=>?_⟩
     cases e
     rintro (z | z)
     ·omega
     ·have:=hks _ z
      omega
    ·refine ⟨_,rfl,nv.same n6.same,fun t e=>?_⟩
     rw [e] at wv
     cases wv
   obtain ⟨u,hu,nu,wu⟩:=key
   walk_at "gs"
   exact ⟨_,_,.inl n6.sq,hu,q u H6 ((s3.trans s5).trans n6.same) nu wu⟩
theorem in_not {ks:List Int}{xs:List V}{v:V} (hv:v∈xs) (hb:inKs ks v=false):¬ CutOk ks xs:=by
 rintro ⟨ys,rfl,_,_,_,hy⟩
 obtain ⟨y,hy1,rfl⟩:=List.mem_map.mp hv
 have hb:decide (y∈ks)=false:=hb
 rw [decide_eq_true (hy y hy1)] at hb
 cases hb
theorem in_ks {ks:List Int}{i:Int} (h:i ∉ ks):inKs ks (.int i)=false:=decide_eq_false h
theorem in_no {ks:List Int}{v:V} (h:whole v=false):inKs ks v=false:=by
 cases v with
 | int i=>cases h
 | _=>rfl
theorem ys_nice {H:Hp} (ys:List Int):∀ x∈ys.map V.int,Nice H x:=fun x hx=>by
 obtain ⟨y,_,rfl⟩:=List.mem_map.mp hx
 trivial
theorem cut_t1 (ys:List Int):cutV (ys.map V.int) none (some 1)=(ys.take 1).map V.int:=by
 unfold cutV
 rw [HT.sIx_none,show (some (1:Int))=some ((1:Nat):Int) from rfl,HT.sIx_nat,List.length_map,List.drop_zero,Nat.sub_zero,List.map_take]
 rcases Nat.lt_or_ge 0 ys.length with h | h
 ·rw [Nat.min_eq_left (by omega)]
 ·have:ys=[]:=List.length_eq_zero_iff.mp (by omega)
  subst this
  rfl
theorem cut_m1 (ys:List Int):cutV (ys.map V.int) none (some (-1))=(ys.take (ys.length - 1)).map V.int:=by
 unfold cutV
 rw [HT.sIx_none,List.length_map,List.drop_zero,Nat.sub_zero,List.map_take]
 congr 1
 have:HT.sIx ys.length ys.length (some (-1))=((-1:Int)+(ys.length:Int)).toNat:=rfl
 rw [this]
 omega
theorem last_at {ys:List Int} (h:1≤ys.length):∃ y,y∈ys∧atI (ys.map V.int) (-1)=some (.int y)∧∃ zs,ys=zs ++ [y]:=by
 rcases List.eq_nil_or_concat ys with e | ⟨zs,y,e⟩
 ·rw [e] at h;simp at h
 ·rw [List.concat_eq_append] at e
  subst e
  exact ⟨y,by simp,by rw [List.map_append];exact atLast,zs,rfl⟩
def sp_law_wrong_cut (_:PySem.W.Frag):Sp:=fun vs H Q _=>∃ (cp:Addr) (ys ks:List Int) (kn c:Int),vs=[.ref cp,.int kn,.int c]∧H cp=some (.lst (ys.map V.int))∧1≤ys.length∧ys.length≤6∧ys.Pairwise (· < ·)∧(∀ k∈ks,1≤k∧k<kn∧k≤999) ∧
 ∀ q xs H',Same H H'→H q=none→H' q=some (.lst xs)→xs.length≤100→(∀ x∈xs,Nice H' x)→¬ CutOk ks xs→Q (.ref q) H'
def rd_law_wrong_cut (K:PySem.W.Frag):TS:=(tSeq (tAsg (tOp (cI2c (fun _ j=>0<j) fun i j=>.int (i % j)) (tOp (cI2c CDiv fun i j=>.int (i / j)) (cVar 2) (tC (.int 9))) (tOp (cI2c CPow fun i j=>.int (i ^ j.toNat)) (tC (.int 10)) (tC (.int 30)))) (gName 3))
  (tSeq (tIfS (cTst (tOp (cI2 fun i j=>.bl (decide (i<j))) (tOp (cI2c (fun _ j=>0<j) fun i j=>.int (i % j)) (cVar 2) (tC (.int 9))) (tC (.int 3)))) (tRet (tOp (cIx K) (tLst (tCons (tLst tNil) (tCons (tLst (tVals [(.int 1),(.int 2),(.int 3),(.int 4),(.int 5),(.int 6),(.int 7)])) (tCons (tOp cAdd (cVar 0) (tLst (tCons (tOp (cIx K) (cVar 0) (tUn cNeg (tC (.int 1)))) tNil))) tNil)))) (tOp (cI2c (fun _ j=>0<j) fun i j=>.int (i % j)) (cVar 2) (tC (.int 9))))) tNext)
  (tMid (tIfS (tAnd (cTst (tOp (cEq K) (tOp (cI2c (fun _ j=>0<j) fun i j=>.int (i % j)) (cVar 2) (tC (.int 9))) (tC (.int 3)))) (cTst (tOp (cI2 fun i j=>.bl (decide (j<i))) (tCB (cLen K) (tCons (cVar 0) tNil)) (tC (.int 1))))) (tRet (tOp cAdd (tSl (cSlU K) (cVar 0) (cPart (tC (.int 1))) tNoPart) (tSl (cSlU K) (cVar 0) tNoPart (cPart (tC (.int 1)))))) tNext)
  (tMid (tAsg (tOp (cIx K) (tLst (tCons (tC (.int 0)) (tCons (cVar 1) (tCons (cVar 1) (tCons (tOp cAdd (cVar 1) (tC (.int 1))) (tCons (tOp (cI2 fun i j=>.int (i - j)) (tUn cNeg (tC (.int 1))) (cVar 3)) (tCons (tOp cAdd (tC (.int 1000)) (cVar 3)) (tCons (tCall (sp_law_no_number K) [] E0 (tCons (tOp (cI2c CDiv fun i j=>.int (i / j)) (cVar 2) (tC (.int 9))) tNil)) tNil)))))))) (tOp (cI2c (fun _ j=>0<j) fun i j=>.int (i % j)) (tOp (cI2c (fun _ j=>0<j) fun i j=>.int (i % j)) (cVar 2) (tC (.int 9))) (tC (.int 7)))) (gName 4))
  (tSeq (tIfS (cTst (tOp (cEq K) (tOp (cI2c (fun _ j=>0<j) fun i j=>.int (i % j)) (cVar 2) (tC (.int 9))) (tC (.int 8)))) (tRet (tOp cAdd (tLst (tCons (cVar 4) tNil)) (tSl (cSlU K) (cVar 0) (cPart (tC (.int 1))) tNoPart))) tNext)
  (tRet (tOp cAdd (tSl (cSlU K) (cVar 0) tNoPart (cPart (tUn cNeg (tC (.int 1))))) (tLst (tCons (cVar 4) tNil)))))))))
theorem tm_law_wrong_cut (T:Txt K mg a) {cdv:Value}{A:Around}{outer:List Env}{s:Shared}{H:Hp}{E:XK} (hr:Room 1 (A.deeper (envOfC "_law_wrong_cut" (defScope s_law_wrong_cut) s.heap.objs.size a.f_law_wrong_cut cdv))) :
  PSs (cxOf CX0 P w K mg base N_law_wrong_cut "_law_wrong_cut" (defScope s_law_wrong_cut) a.f_law_wrong_cut cdv A outer s H E).nox (defBody s_law_wrong_cut) (rd_law_wrong_cut K) :=
 (pss_cons (ps_set (i:=3) sc_law_wrong_cut.nd rfl (by walk_at "o") (pe_op o_mod (pe_op o_fdiv (cv 2) pe_int) (pe_op o_pow pe_int pe_int)))
   (pss_cons (ps_if (t_cmp o_lt (pe_op o_mod (cv 2) pe_int) pe_int (nomark _)) (pss_one (ps_ret (pe_ix i_seq (pe_lst (pa_cons (pe_lst pa_nil) (pa_cons (pe_lst (pa_consts (vs:=[(.int 1),(.int 2),(.int 3),(.int 4),(.int 5),(.int 6),(.int 7)]) rfl)) (pa_cons (pe_op o_add (cv 0) (pe_lst (pa_cons (pe_ix i_seq (cv 0) (pe_un u_neg pe_int) (fun _ _=>rfl)) pa_nil))) pa_nil)))) (pe_op o_mod (cv 2) pe_int) (fun _ _=>rfl)))) pss_nil)
   (pss_mid (ps_if (PW.pt (pw_and (t_cmp (o_eq (hr8 hr)) (pe_op o_mod (cv 2) pe_int) pe_int (nomark _)) (pw_and1 (t_cmp o_gt (pe_callB c_len (by rfl) T.no_len PySem.boot_len (pa_cons (cv 0) pa_nil)) pe_int (nomark _))))) (pss_one (ps_ret (pe_op o_add (pe_slice s_u (cv 0) (e_part pe_int) po_none) (pe_slice s_u (cv 0) po_none (e_part pe_int))))) pss_nil)
   (pss_mid (ps_set (i:=4) sc_law_wrong_cut.nd rfl (by walk_at "o") (pe_ix i_seq (pe_lst (pa_cons pe_int (pa_cons (cv 1) (pa_cons (cv 1) (pa_cons (pe_op o_add (cv 1) pe_int) (pa_cons (pe_op o_sub (pe_un u_neg pe_int) (cv 3)) (pa_cons (pe_op o_add pe_int (cv 3)) (pa_cons (pe_call (ok_law_no_number T) (hr.mono (by decide)) rfl T.mg_law_no_number T.fn_law_no_number.kp T.bi_law_no_number .nil pass0 (pa_cons (pe_op o_fdiv (cv 2) pe_int) pa_nil)) pa_nil)))))))) (pe_op o_mod (pe_op o_mod (cv 2) pe_int) pe_int) (fun _ _=>rfl)))
   (pss_cons (ps_if (t_cmp (o_eq (hr8 hr)) (pe_op o_mod (cv 2) pe_int) pe_int (nomark _)) (pss_one (ps_ret (pe_op o_add (pe_lst (pa_cons (cv 4) pa_nil)) (pe_slice s_u (cv 0) (e_part pe_int) po_none)))) pss_nil)
   (pss_one (ps_ret (pe_op o_add (pe_slice s_u (cv 0) po_none (e_part (pe_un u_neg pe_int))) (pe_lst (pa_cons (cv 4) pa_nil))))))))))
theorem ok_law_wrong_cut (T:Txt K mg a):FnOk P w K mg base CX0 2 a.f_law_wrong_cut a.d_law_wrong_cut ["_law_cut_here","_law_knot","_law_cell"] (sp_law_wrong_cut K):=by
 refine T.fn_law_wrong_cut.ok sc_law_wrong_cut (fun vs H Q E h=>?_) (fun cdv A outer s H vs Q E hr h=>⟨_,tm_law_wrong_cut T hr,?_⟩)
 ·obtain ⟨cp,ys,ks,kn,c,rfl,_⟩:=h;rfl
 ·obtain ⟨cp,ys,ks,kn,c,rfl,hC,l1,l6,pw,hks,q⟩:=h
  show rd_law_wrong_cut K _ [some (.ref cp),some (.int kn),some (.int c),none,none] H
  unfold rd_law_wrong_cut
  have big:(20000:Nat)≤sizeLine:=by decide
  have p30:(0:Int)<10 ^ (30:Int).toNat:=by decide
  have fn:=far_nn (c / 9)
  walk_at "gs"
  generalize c / 9 % 10 ^ (30:Int).toNat=far at fn
  by_cases g3:c % 9<3
  ·rw [if_pos g3]
   walk_at "gs"
   obtain ⟨y,hy,hay,zs,hzs⟩:=last_at l1
   refine fun q1 H1 n1=>⟨by show 7≤sizeLine;decide,fun q2 H2 n2=>?_⟩
   have s2:=n1.same.trans n2.same
   walk_at "gs"
   refine ⟨_,_,.inl (.of (s2 _ _ hC)),hay,?_⟩
   refine ⟨by show 1≤sizeLine;decide,fun q3 H3 n3=>?_⟩
   have s3:=s2.trans n3.same
   refine ⟨_,_,s3 _ _ hC,n3.at_,by rw [List.length_map];show _+1≤_;omega,fun q4 hq4=>?_⟩
   walk_at "gs"
   have s4:=s3.trans (same_upd (o:=.lst (ys.map V.int ++ [.int y])) hq4)
   refine ⟨by show 3≤sizeLine;decide,fun q5 H5 n5=>?_⟩
   have s5:=s4.trans n5.same
   walk_at "gs"
   rcases (by omega:c % 9=0∨c % 9=1∨c % 9=2) with e | e | e <;> rw [e]
   ·refine ⟨_,_,.inl n5.sq,rfl,q q1 [] H5 s5 n1.was (n5.same _ _ (same_upd hq4 _ _ (n3.same _ _ (n2.same _ _ n1.at_)))) (by simp) (fun x hx=>by simp at hx) ?_⟩
    rintro ⟨zs,e,l,_⟩
    cases zs with
    | nil=>simp at l
    | cons a r=>cases e
   ·refine ⟨_,_,.inl n5.sq,rfl,q q2 _ H5 s5 (n1.same.nil n2.was) (n5.same _ _ (same_upd hq4 _ _ (n3.same _ _ n2.at_))) (by simp) (fun x hx=>?_) ?_⟩
    ·simp only [List.mem_cons,List.not_mem_nil,or_false] at hx
     rcases hx with rfl | rfl | rfl | rfl | rfl | rfl | rfl <;> trivial
    ·rintro ⟨zs,e,_,l,_⟩
     have:=congrArg List.length e
     rw [List.length_map] at this
     simp at this
     omega
   ·refine ⟨_,_,.inl n5.sq,rfl,q q4 _ H5 s5 (s3.nil hq4) (n5.same _ _ upd_same) (by rw [List.length_append,List.length_map];show _+1≤_;omega) (fun x hx=>?_) ?_⟩
    ·rcases List.mem_append.mp hx with z | z
     ·exact ys_nice ys x z
     ·rw [List.mem_singleton] at z
      subst z
      trivial
    ·rintro ⟨us,e,_,_,pu,_⟩
     have e1:us=ys ++ [y]:=map_int_inj (by rw [← e,List.map_append];rfl)
     rw [e1,List.pairwise_append] at pu
     have:=pu.2.2 y hy y (by simp)
     omega
  rw [if_neg g3]
  have hrot:c % 9=3→1<ys.length→∀ q xs H',Same H H'→H q=none→H' q=some (.lst xs)→xs=(ys.drop 1).map V.int ++ (ys.take 1).map V.int→Q (.ref q) H':=fun _ hl q5 xs H5 s5 f5 h5 e=>by
   refine q q5 xs H5 s5 f5 h5 ?_ ?_ ?_
   ·rw [e,List.length_append,List.length_map,List.length_map,List.length_drop,List.length_take];omega
   ·intro x hx
    rw [e,← List.map_append] at hx
    exact ys_nice _ x hx
   ·rintro ⟨us,e2,_,_,pu,_⟩
    have e1:us=ys.drop 1 ++ ys.take 1:=map_int_inj (by rw [← e2,e,List.map_append])
    match ys,hl,pw,e1 with
    | a :: b :: r,_,pw,e1 =>
     rw [e1] at pu
     have h1:a<b:=(List.pairwise_cons.mp pw).1 b (List.mem_cons_self ..)
     have h2:=(List.pairwise_append.mp pu).2.2 b (by simp) a (by simp)
     omega
  refine mid (fun σ' H'=>H'=H∧σ'=[some (.ref cp),some (.int kn),some (.int c),some (.int far),none]) ?_ ?_
  ·intro N' hN'
   walk_at "gs"
   by_cases g9:c % 9=3
   ·rw [if_pos g9]
    refine .inl ⟨_,.inl (.of hC),?_⟩
    rw [List.length_map]
    by_cases gl:1<(ys.length:Int)
    ·rw [if_pos gl]
     refine ⟨_,.of hC,fun q2 H2 n2=>?_⟩
     rw [cut_1] at n2
     refine ⟨_,.of (n2.same _ _ hC),fun q3 H3 n3=>?_⟩
     rw [cut_t1] at n3
     have s3:=n2.same.trans n3.same
     refine ⟨_,_,n3.same _ _ n2.at_,n3.at_,by rw [List.length_drop,List.length_map,List.length_map,List.length_take];omega,fun q4 hq4=>?_⟩
     exact hrot g9 (by omega) q4 _ _ (s3.trans (same_upd hq4)) (s3.nil hq4) upd_same (by rw [List.map_drop])
    ·rw [if_neg gl]
     exact hN' _ _ ⟨rfl,rfl⟩
   ·rw [if_neg g9]
    exact hN' _ _ ⟨rfl,rfl⟩
  rintro σ0 H0 ⟨rfl,rfl⟩
  refine mid (fun σ' H'=>Same H0 H'∧∃ v,Nice H' v∧inKs ks v=false∧σ'=[some (.ref cp),some (.int kn),some (.int c),some (.int far),some v]) ?_ ?_
  ·intro N' hN'
   walk_at "gs"
   refine ⟨c / 9,rfl,fun v H1 s1 nv wv=>?_⟩
   walk_at "gs"
   refine ⟨by show 7≤sizeLine;decide,fun q2 H2 n2=>?_⟩
   have key:∃ u,atI [V.int 0,V.int kn,V.int kn,V.int (kn+1),V.int (-1 - far),V.int (1000+far),v] (c % 9 % 7)=some u∧Nice H2 u∧inKs ks u=false:=by
    rcases (by omega:c % 9 % 7=0∨c % 9 % 7=1∨c % 9 % 7=2∨c % 9 % 7=3∨c % 9 % 7=4∨c % 9 % 7=5∨c % 9 % 7=6) with h | h | h | h | h | h | h <;> rw [h]
    ·exact ⟨_,rfl,trivial,in_ks fun z=>by have:=hks _ z;omega⟩
    ·exact ⟨_,rfl,trivial,in_ks fun z=>by have:=hks _ z;omega⟩
    ·exact ⟨_,rfl,trivial,in_ks fun z=>by have:=hks _ z;omega⟩
    ·exact ⟨_,rfl,trivial,in_ks fun z=>by have:=hks _ z;omega⟩
    ·exact ⟨_,rfl,trivial,in_ks fun z=>by have:=hks _ z;omega⟩
    ·exact ⟨_,rfl,trivial,in_ks fun z=>by have:=hks _ z;omega⟩
    ·exact ⟨_,rfl,nv.same n2.same,in_no wv⟩
   obtain ⟨u,hu,nu,iu⟩:=key
   walk_at "gs"
   exact ⟨_,_,.inl n2.sq,hu,hN' _ _ ⟨s1.trans n2.same,u,nu,iu,rfl⟩⟩
  rintro σ1 H1 ⟨s1,v,nv,iv,rfl⟩
  have hC1:=s1 _ _ hC
  walk_at "gs"
  by_cases g8:c % 9=8
  ·rw [if_pos g8]
   walk_at "gs"
   refine ⟨by show 1≤sizeLine;decide,fun q2 H2 n2=>⟨_,.of (n2.same _ _ hC1),fun q3 H3 n3=>?_⟩⟩
   rw [cut_1] at n3
   have s3:=(s1.trans n2.same).trans n3.same
   walk_at "gs"
   refine ⟨_,_,n3.same _ _ n2.at_,n3.at_,by rw [List.length_drop,List.length_map];show 1+_≤_;omega,fun q4 hq4=>?_⟩
   refine q q4 _ _ (s3.trans (same_upd hq4)) (s3.nil hq4) upd_same (by rw [List.length_append,List.length_drop,List.length_map];show 1+_≤_;omega) (fun x hx=>?_) (in_not (v:=v) (by simp) iv)
   rcases List.mem_append.mp hx with z | z
   ·rw [List.mem_singleton] at z
    subst z
    exact nv.same ((n2.same.trans n3.same).trans (same_upd hq4))
   ·exact ys_nice ys x (List.mem_of_mem_drop z)
  ·rw [if_neg g8]
   walk_at "gs"
   refine ⟨_,.of hC1,fun q2 H2 n2=>?_⟩
   rw [cut_m1] at n2
   walk_at "gs"
   refine ⟨by show 1≤sizeLine;decide,fun q3 H3 n3=>?_⟩
   have s3:=(s1.trans n2.same).trans n3.same
   refine ⟨_,_,n3.same _ _ n2.at_,n3.at_,by rw [List.length_map,List.length_take];show _+1≤_;omega,fun q4 hq4=>?_⟩
   refine q q4 _ _ (s3.trans (same_upd hq4)) (s3.nil hq4) upd_same (by rw [List.length_append,List.length_map,List.length_take];show _+1≤_;omega) (fun x hx=>?_) (in_not (v:=v) (by simp) iv)
   rcases List.mem_append.mp hx with z | z
   ·exact ys_nice _ x z
   ·rw [List.mem_singleton] at z
    subst z
    exact nv.same ((n2.same.trans n3.same).trans (same_upd hq4))
theorem known0 {m:Nat}{x:Int} (h:x=0∨x∈known m []):0≤x∧x≤m:=by
 rcases h with rfl | h
 ·omega
 ·unfold known at h
  rw [List.map_nil,List.append_nil] at h
  obtain ⟨k,hk,rfl⟩:=List.mem_map.mp h
  have:=List.mem_range.mp hk
  omega
theorem le_top {m:Nat}{ps:List Pc} (w:WP m ps):∀ i,i≤ps.length→∀ x∈known m (ps.take i),x≤topK m (ps.take i)
 | 0,_,x,hx=>by
  rw [List.take_zero] at hx ⊢
  have:=known0 (.inr hx)
  exact this.2
 | i+1,h,x,hx=>by
  have hp:ps[i]? = some ps[i]:=List.getElem?_eq_getElem h
  rw [take_snoc hp,known_snoc] at hx
  rw [take_snoc hp,top_snoc]
  have up:=(w i _ hp).up
  rcases List.mem_append.mp hx with z | z
  ·have:=le_top w i (by omega) x z
   omega
  ·rw [List.mem_singleton] at z
   omega
theorem atRef {ts:List (Addr × Addr)}{i:Int} (h0:0≤i) (h1:i<ts.length):atI (ts.map fun t=>V.ref t.1) i=some (.ref (ts[i.toNat]'(by omega)).1):=by
 rw [atI_ok .non h0 (by rw [List.length_map];exact h1),ref_at ts (by omega)]
def BadAt (H':Hp) (mv:V) (l' tp':Addr):Prop:=∃ ts' gs ys,GLst H' l' ts' gs∧GNice H' gs∧H' tp'=some (.lst ys)∧(∀ y∈ys,Nice H' y)∧Nice H' mv∧gs.length≤1000∧¬ GoodB mv gs ys
theorem BadAt.same {H H':Hp}{mv:V}{l tp:Addr} (h:BadAt H mv l tp) (s:Same H H'):BadAt H' mv l tp:=by
 obtain ⟨ts,gs,ys,h1,h2,h3,h4,h5,h6,h7⟩:=h
 exact ⟨ts,gs,ys,h1.same s,h2.same s,s _ _ h3,fun y hy=>(h4 y hy).same s,h5.same s,h6,h7⟩
theorem bad_many {mv:V}{gs:List GPc}{ys:List V} (h:btw mv 1 10=false):¬ GoodB mv gs ys:=by
 rintro ⟨m,ps,ties,rfl,_,_,m1,m10,_⟩
 exact of_decide_eq_false h ⟨by omega,by omega⟩
theorem bad_tie {m:Nat}{mv:V}{ps:List Pc}{ys:List V}{v:V} (hm:mv=.int m) (hv:v∈ys) (hb:BadTie (known m ps) v):¬ GoodB mv (ps.map up) ys:=by
 rintro ⟨m',qs,ties,e,e2,rfl,_,_,_,_,ht⟩
 obtain ⟨t,ht1,rfl⟩:=List.mem_map.mp hv
 have e4:(m:Int)=(m':Int):=by rw [hm] at e;exact V.int.inj e
 have:=ht t ht1
 rw [← ups_inj e2,show m'=m by omega] at this
 exact hb t rfl this
theorem bad_pieces {m:Nat}{mv:V}{gs:List GPc}{ys:List V} (hm:mv=.int m) (h:¬ GoodP m gs):¬ GoodB mv gs ys:=by
 rintro ⟨m',qs,ties,e,e2,_,_,_,w,_⟩
 have e4:(m:Int)=(m':Int):=by rw [hm] at e;exact V.int.inj e
 rw [show m'=m by omega] at w
 exact h ⟨qs,e2,w⟩
theorem btw_no {v:V} (h:whole v=false):btw v 1 10=false:=not_whole h _ _
theorem ixN_of {n:Nat}{k:Int} (h0:0≤k) (h1:k<n):ixN n k=some k.toNat:=by
 unfold ixN
 rw [if_pos h0,if_pos h1]
def sp_law_spoilt (_:PySem.W.Frag):Sp:=fun vs H Q _=>∃ (m:Nat) (l tp:Addr) (ts:List (Addr × Addr)) (ps:List Pc) (ties:List Int) (way c:Int),vs=[.int m,.ref l,.ref tp,.int way,.int c]∧PLst H l ts ps∧WP m ps∧H tp=some (.lst (ties.map V.int))∧WT m ps ties∧1≤m∧m≤10∧ps.length≤900∧1≤way∧way≤6∧(3<way→1≤ps.length) ∧
 ∀ w mv l' tp' H',Same H H'→H' w=some (.lst [mv,.ref l',.ref tp'])→BadAt H' mv l' tp'→Q (.ref w) H'
def rd_law_spoilt (K:PySem.W.Frag):TS:=(tSeq (tAsg (tCall (sp_law_copy K) [] E0 (tCons (cVar 1) tNil)) (gName 5))
  (tSeq (tAsg (tCB (cList K) (tCons (cVar 2) tNil)) (gName 6))
  (tMid (tIfS (cTst (tOp (cEq K) (cVar 3) (tC (.int 1)))) (tSeq (tAsg (tOp (cI2c (fun _ j=>0<j) fun i j=>.int (i % j)) (tOp (cI2c CDiv fun i j=>.int (i / j)) (cVar 4) (tC (.int 4))) (tOp (cI2c CPow fun i j=>.int (i ^ j.toNat)) (tC (.int 10)) (tC (.int 30)))) (gName 7))
  (tMid (tIfS (cTst (tOp (cEq K) (tOp (cI2c (fun _ j=>0<j) fun i j=>.int (i % j)) (tOp (cI2c CDiv fun i j=>.int (i / j)) (cVar 4) (tC (.int 4))) (tC (.int 3))) (tC (.int 1)))) (tAsg (tOp (cEq K) (cVar 0) (tC (.int 1))) (gName 7)) (tIfS (cTst (tOp (cEq K) (tOp (cI2c (fun _ j=>0<j) fun i j=>.int (i % j)) (cVar 4) (tC (.int 4))) (tC (.int 3)))) (tAsg (tCall (sp_law_no_number K) [] E0 (tCons (tOp (cI2c CDiv fun i j=>.int (i / j)) (cVar 4) (tC (.int 4))) tNil)) (gName 7)) (tAsg (tOp (cIx K) (tLst (tCons (tC (.int 0)) (tCons (tOp (cI2 fun i j=>.int (i - j)) (tUn cNeg (tC (.int 1))) (cVar 7)) (tCons (tOp cAdd (tC (.int 11)) (cVar 7)) tNil)))) (tOp (cI2c (fun _ j=>0<j) fun i j=>.int (i % j)) (cVar 4) (tC (.int 4)))) (gName 7))))
  (tRet (tLst (tCons (cVar 7) (tCons (cVar 5) (tCons (cVar 6) tNil))))))) tNext)
  (tMid (tIfS (cTst (tOp (cEq K) (cVar 3) (tC (.int 2)))) (tRet (tLst (tCons (cVar 0) (tCons (cVar 5) (tCons (tLst tNil) tNil))))) tNext)
  (tMid (tIfS (cTst (tOp (cEq K) (cVar 3) (tC (.int 3)))) (tSeq (tAsg (tOp (cI2c (fun _ j=>0<j) fun i j=>.int (i % j)) (tOp (cI2c CDiv fun i j=>.int (i / j)) (cVar 4) (tC (.int 4))) (tCB (cLen K) (tCons (cVar 6) tNil))) (gName 8))
  (tSeq (tAsg (tCall (sp_law_wrong_tie K) [] E0 (tCons (cVar 0) (tCons (cVar 1) (tCons (tOp cAdd (tOp cMul (tOp (cI2c CDiv fun i j=>.int (i / j)) (cVar 4) (tC (.int 64))) (tC (.int 4))) (tOp (cI2c (fun _ j=>0<j) fun i j=>.int (i % j)) (cVar 4) (tC (.int 4)))) tNil)))) (gSub (cVar 6) (cVar 8) rSetL))
  (tRet (tLst (tCons (cVar 0) (tCons (cVar 5) (tCons (cVar 6) tNil))))))) tNext)
  (tSeq (tAsg (tOp (cI2c (fun _ j=>0<j) fun i j=>.int (i % j)) (cVar 4) (tCB (cLen K) (tCons (cVar 5) tNil))) (gName 8))
  (tSeq (tAsg (tOp (cI2c CDiv fun i j=>.int (i / j)) (cVar 4) (tCB (cLen K) (tCons (cVar 5) tNil))) (gName 9))
  (tSeq (tAsg (tOp (cIx K) (cVar 5) (cVar 8)) (gTup K 3 (gCons (gName 10) (gCons (gName 11) (gCons (gName 12) gNil)))))
  (tMid (tIfS (cTst (tOp (cEq K) (cVar 3) (tC (.int 4)))) (tSeq (tAsg (cVar 0) (gName 13))
  (tMid (tIfS (cTst (tOp (cI2 fun i j=>.bl (decide (j<i))) (cVar 8) (tC (.int 0)))) (tAsg (tOp (cIx K) (tOp (cIx K) (cVar 5) (tOp (cI2 fun i j=>.int (i - j)) (cVar 8) (tC (.int 1)))) (tC (.int 0))) (gName 13)) tNext)
  (tAsg (tCall (sp_law_wrong_knot K) [] E0 (tCons (cVar 13) (tCons (cVar 0) (tCons (cVar 9) tNil)))) (gName 10)))) tNext)
  (tMid (tIfS (cTst (tOp (cEq K) (cVar 3) (tC (.int 5)))) (tAsg (tCall (sp_law_wrong_cut K) [] E0 (tCons (cVar 11) (tCons (cVar 10) (tCons (cVar 9) tNil)))) (gName 11)) tNext)
  (tMid (tIfS (cTst (tOp (cEq K) (cVar 3) (tC (.int 6)))) (tSeq (tAsg (tOp (cI2c (fun _ j=>0<j) fun i j=>.int (i % j)) (tOp (cI2c CDiv fun i j=>.int (i / j)) (cVar 9) (tC (.int 4))) (tOp (cI2c CPow fun i j=>.int (i ^ j.toNat)) (tC (.int 10)) (tC (.int 30)))) (gName 7))
  (tAsg (tOp (cIx K) (tLst (tCons (tOp (cI2 fun i j=>.int (i - j)) (tUn cNeg (tC (.int 1))) (cVar 7)) (tCons (tOp cAdd (tOp (cI2c CPow fun i j=>.int (i * 2 ^ j.toNat)) (tC (.int 1)) (tOp (cI2c CPow fun i j=>.int (i * 2 ^ j.toNat)) (tC (.int 1)) (tCB (cLen K) (tCons (cVar 11) tNil)))) (cVar 7)) (tCons (tCall (sp_law_no_number K) [] E0 (tCons (cVar 7) tNil)) (tCons (tC (.bl false)) tNil))))) (tOp (cI2c (fun _ j=>0<j) fun i j=>.int (i % j)) (cVar 9) (tC (.int 4)))) (gName 12))) tNext)
  (tSeq (tAsg (tTup (tCons (cVar 10) (tCons (cVar 11) (tCons (cVar 12) tNil)))) (gSub (cVar 5) (cVar 8) rSetL))
  (tRet (tLst (tCons (cVar 0) (tCons (cVar 5) (tCons (cVar 6) tNil)))))))))))))))))
theorem tm_law_spoilt (T:Txt K mg a) {cdv:Value}{A:Around}{outer:List Env}{s:Shared}{H:Hp}{E:XK} (hr:Room 2 (A.deeper (envOfC "_law_spoilt" (defScope s_law_spoilt) s.heap.objs.size a.f_law_spoilt cdv))) :
  PSs (cxOf CX0 P w K mg base N_law_spoilt "_law_spoilt" (defScope s_law_spoilt) a.f_law_spoilt cdv A outer s H E).nox (defBody s_law_spoilt) (rd_law_spoilt K) :=
 (pss_cons (ps_set (i:=5) sc_law_spoilt.nd rfl (by walk_at "o") (pe_call (ok_law_copy T) (hr.mono (by decide)) rfl T.mg_law_copy T.fn_law_copy.kp T.bi_law_copy .nil pass0 (pa_cons (cv 1) pa_nil)))
   (pss_cons (ps_set (i:=6) sc_law_spoilt.nd rfl (by walk_at "o") (pe_callTy c_list (by rfl) T.no_list PyProof.Rows.boot_list (pa_cons (cv 2) pa_nil)))
   (pss_mid (ps_if (t_cmp (o_eq (hr8 hr)) (cv 3) pe_int (nomark _)) (pss_cons (ps_set (i:=7) sc_law_spoilt.nd rfl (by walk_at "o") (pe_op o_mod (pe_op o_fdiv (cv 4) pe_int) (pe_op o_pow pe_int pe_int)))
   (pss_mid (ps_if (t_cmp (o_eq (hr8 hr)) (pe_op o_mod (pe_op o_fdiv (cv 4) pe_int) pe_int) pe_int (nomark _)) (pss_one (ps_set (i:=7) sc_law_spoilt.nd rfl (by walk_at "o") (pe_cmpR (o_eq (hr8 hr)) (cv 0) pe_int (nomark _)))) (pss_one (ps_if (t_cmp (o_eq (hr8 hr)) (pe_op o_mod (cv 4) pe_int) pe_int (nomark _)) (pss_one (ps_set (i:=7) sc_law_spoilt.nd rfl (by walk_at "o") (pe_call (ok_law_no_number T) (hr.mono (by decide)) rfl T.mg_law_no_number T.fn_law_no_number.kp T.bi_law_no_number .nil pass0 (pa_cons (pe_op o_fdiv (cv 4) pe_int) pa_nil)))) (pss_one (ps_set (i:=7) sc_law_spoilt.nd rfl (by walk_at "o") (pe_ix i_seq (pe_lst (pa_cons pe_int (pa_cons (pe_op o_sub (pe_un u_neg pe_int) (cv 7)) (pa_cons (pe_op o_add pe_int (cv 7)) pa_nil)))) (pe_op o_mod (cv 4) pe_int) (fun _ _=>rfl)))))))
   (pss_one (ps_ret (pe_lst (pa_cons (cv 7) (pa_cons (cv 5) (pa_cons (cv 6) pa_nil)))))))) pss_nil)
   (pss_mid (ps_if (t_cmp (o_eq (hr8 hr)) (cv 3) pe_int (nomark _)) (pss_one (ps_ret (pe_lst (pa_cons (cv 0) (pa_cons (cv 5) (pa_cons (pe_lst pa_nil) pa_nil)))))) pss_nil)
   (pss_mid (ps_if (t_cmp (o_eq (hr8 hr)) (cv 3) pe_int (nomark _)) (pss_cons (ps_set (i:=8) sc_law_spoilt.nd rfl (by walk_at "o") (pe_op o_mod (pe_op o_fdiv (cv 4) pe_int) (pe_callB c_len (by rfl) T.no_len PySem.boot_len (pa_cons (cv 6) pa_nil))))
   (pss_cons (ps_asg (pe_call (ok_law_wrong_tie T) (hr.mono (by decide)) rfl T.mg_law_wrong_tie T.fn_law_wrong_tie.kp T.bi_law_wrong_tie .nil pass0 (pa_cons (cv 0) (pa_cons (cv 1) (pa_cons (pe_op o_add (pe_op o_mul (pe_op o_fdiv (cv 4) pe_int) pe_int) (pe_op o_mod (cv 4) pe_int)) pa_nil)))) (pg_sub (cv 6) (cv 8) set_list))
   (pss_one (ps_ret (pe_lst (pa_cons (cv 0) (pa_cons (cv 5) (pa_cons (cv 6) pa_nil)))))))) pss_nil)
   (pss_cons (ps_set (i:=8) sc_law_spoilt.nd rfl (by walk_at "o") (pe_op o_mod (cv 4) (pe_callB c_len (by rfl) T.no_len PySem.boot_len (pa_cons (cv 5) pa_nil))))
   (pss_cons (ps_set (i:=9) sc_law_spoilt.nd rfl (by walk_at "o") (pe_op o_fdiv (cv 4) (pe_callB c_len (by rfl) T.no_len PySem.boot_len (pa_cons (cv 5) pa_nil))))
   (pss_cons (ps_asg (pe_ix i_seq (cv 5) (cv 8) (fun _ _=>rfl)) (pg_tup rfl (pgs_cons (pg_name (i:=10) sc_law_spoilt.nd rfl (by walk_at "o")) (pgs_cons (pg_name (i:=11) sc_law_spoilt.nd rfl (by walk_at "o")) (pgs_cons (pg_name (i:=12) sc_law_spoilt.nd rfl (by walk_at "o")) pgs_nil)))))
   (pss_mid (ps_if (t_cmp (o_eq (hr8 hr)) (cv 3) pe_int (nomark _)) (pss_cons (ps_set (i:=13) sc_law_spoilt.nd rfl (by walk_at "o") (cv 0))
   (pss_mid (ps_if (t_cmp o_gt (cv 8) pe_int (nomark _)) (pss_one (ps_set (i:=13) sc_law_spoilt.nd rfl (by walk_at "o") (pe_ix i_seq (pe_ix i_seq (cv 5) (pe_op o_sub (cv 8) pe_int) (fun _ _=>rfl)) pe_int (fun _ _=>rfl)))) pss_nil)
   (pss_one (ps_set (i:=10) sc_law_spoilt.nd rfl (by walk_at "o") (pe_call (ok_law_wrong_knot T) (hr.mono (by decide)) rfl T.mg_law_wrong_knot T.fn_law_wrong_knot.kp T.bi_law_wrong_knot .nil pass0 (pa_cons (cv 13) (pa_cons (cv 0) (pa_cons (cv 9) pa_nil)))))))) pss_nil)
   (pss_mid (ps_if (t_cmp (o_eq (hr8 hr)) (cv 3) pe_int (nomark _)) (pss_one (ps_set (i:=11) sc_law_spoilt.nd rfl (by walk_at "o") (pe_call (ok_law_wrong_cut T) (hr.mono (by decide)) rfl T.mg_law_wrong_cut T.fn_law_wrong_cut.kp T.bi_law_wrong_cut .nil pass0 (pa_cons (cv 11) (pa_cons (cv 10) (pa_cons (cv 9) pa_nil)))))) pss_nil)
   (pss_mid (ps_if (t_cmp (o_eq (hr8 hr)) (cv 3) pe_int (nomark _)) (pss_cons (ps_set (i:=7) sc_law_spoilt.nd rfl (by walk_at "o") (pe_op o_mod (pe_op o_fdiv (cv 9) pe_int) (pe_op o_pow pe_int pe_int)))
   (pss_one (ps_set (i:=12) sc_law_spoilt.nd rfl (by walk_at "o") (pe_ix i_seq (pe_lst (pa_cons (pe_op o_sub (pe_un u_neg pe_int) (cv 7)) (pa_cons (pe_op o_add (pe_op o_shl pe_int (pe_op o_shl pe_int (pe_callB c_len (by rfl) T.no_len PySem.boot_len (pa_cons (cv 11) pa_nil)))) (cv 7)) (pa_cons (pe_call (ok_law_no_number T) (hr.mono (by decide)) rfl T.mg_law_no_number T.fn_law_no_number.kp T.bi_law_no_number .nil pass0 (pa_cons (cv 7) pa_nil)) (pa_cons pe_bl pa_nil))))) (pe_op o_mod (cv 9) pe_int) (fun _ _=>rfl))))) pss_nil)
   (pss_cons (ps_asg (pe_tup (pa_cons (cv 10) (pa_cons (cv 11) (pa_cons (cv 12) pa_nil)))) (pg_sub (cv 5) (cv 8) set_list))
   (pss_one (ps_ret (pe_lst (pa_cons (cv 0) (pa_cons (cv 5) (pa_cons (cv 6) pa_nil))))))))))))))))))
theorem ok_law_spoilt (T:Txt K mg a):FnOk P w K mg base CX0 3 a.f_law_spoilt a.d_law_spoilt ["_law_many","_law_pieces_here","_law_ties_here","_law_way","_law_cell"] (sp_law_spoilt K):=by
 refine T.fn_law_spoilt.ok sc_law_spoilt (fun vs H Q E h=>?_) (fun cdv A outer s H vs Q E hr h=>⟨_,tm_law_spoilt T hr,?_⟩)
 ·obtain ⟨m,l,tp,ts,ps,ties,way,c,rfl,_⟩:=h;rfl
 ·obtain ⟨m,l,tp,ts,ps,ties,way,c,rfl,hL,wp,hT,wt,m1,m10,hz,w1,w6,hne,q⟩:=h
  show rd_law_spoilt K _ [some (.int m),some (.ref l),some (.ref tp),some (.int way),some (.int c),none,none,none,none,none,none,none,none,none] H
  unfold rd_law_spoilt
  have big:(20000:Nat)≤sizeLine:=by decide
  have p30:(0:Int)<10 ^ (30:Int).toNat:=by decide
  have wlh:=wt.lh
  have wl1:=wt.l1
  walk_at "gs"
  refine ⟨l,ts,ps,rfl,hL,by omega,fun hp us H1 f1 s1 hU hun=>?_⟩
  walk_at "gs"
  refine ⟨_,.inl (.of (s1 _ _ hT)),fun ep H2 n2=>?_⟩
  have s02:=s1.trans n2.same
  have hU2:=hU.same n2.same
  have hul:=hU2.len
  have hyn:∀ H',∀ y∈ties.map V.int,Nice H' y:=fun H' y hy=>by
   obtain ⟨t,_,rfl⟩:=List.mem_map.mp hy
   trivial
  refine mid (fun σ' H'=>H'=H2∧way≠1∧σ'=[some (.int m),some (.ref l),some (.ref tp),some (.int way),some (.int c),some (.ref hp),some (.ref ep),none,none,none,none,none,none,none]) ?_ ?_
  ·intro N' hN'
   walk_at "gs"
   by_cases g1:way=1
   ·rw [if_pos g1]
    walk_at "gs"
    refine mid (fun σ' H'=>Same H2 H'∧∃ mv,Nice H' mv∧btw mv 1 10=false∧σ'=[some (.int m),some (.ref l),some (.ref tp),some (.int way),some (.int c),some (.ref hp),some (.ref ep),some mv,none,none,none,none,none,none]) ?_ ?_
    ·intro N2 hN2
     walk_at "gs"
     by_cases ga:c / 4 % 3=1
     ·rw [if_pos ga]
      walk_at "gs"
      refine hN2 _ _ ⟨fun _ _ e=>e,_,?_,?_,rfl⟩
      ·trivial
      ·rfl
     ·rw [if_neg ga]
      walk_at "gs"
      by_cases gb:c % 4=3
      ·rw [if_pos gb]
       walk_at "gs"
       refine ⟨_,rfl,fun v H3 s3 nv wv=>?_⟩
       exact hN2 _ _ ⟨s3,v,nv,btw_no wv,rfl⟩
      ·rw [if_neg gb]
       have fn:=far_nn (c / 4)
       walk_at "gs"
       generalize c / 4 % 10 ^ (30:Int).toNat=far at fn
       refine ⟨by show 3≤sizeLine;decide,fun q3 H3 n3=>⟨by decide,?_⟩⟩
       have key:∃ u,atI [V.int 0,V.int (-1 - far),V.int (11+far)] (c % 4)=some u∧Nice H3 u∧btw u 1 10=false:=by
        rcases (by omega:c % 4=0∨c % 4=1∨c % 4=2) with h | h | h <;> rw [h]
        ·exact ⟨_,rfl,trivial,rfl⟩
        ·exact ⟨_,rfl,trivial,decide_eq_false (by omega)⟩
        ·exact ⟨_,rfl,trivial,decide_eq_false (by omega)⟩
       obtain ⟨u,hu,nu,bu⟩:=key
       exact ⟨_,_,.inl n3.sq,hu,hN2 _ _ ⟨n3.same,u,nu,bu,rfl⟩⟩
    rintro σ3 H3 ⟨s3,mv,nm,bm,rfl⟩
    walk_at "gs"
    refine ⟨by show 3≤sizeLine;decide,fun w H4 n4=>?_⟩
    have s24:=s3.trans n4.same
    exact q w mv hp ep H4 (s02.trans s24) n4.at_ ⟨us,_,_,(hU2.same s24).up,up_nice wp,s24 _ _ n2.at_,hyn H4,nm.same n4.same,by rw [List.length_map];omega,bad_many bm⟩
   ·rw [if_neg g1]
    exact hN' _ _ ⟨rfl,g1,rfl⟩
  rintro σ3 H3 ⟨rfl,nw1,rfl⟩
  refine mid (fun σ' H'=>H'=H3∧way≠2∧σ'=[some (.int m),some (.ref l),some (.ref tp),some (.int way),some (.int c),some (.ref hp),some (.ref ep),none,none,none,none,none,none,none]) ?_ ?_
  ·intro N' hN'
   walk_at "gs"
   by_cases g1:way=2
   ·rw [if_pos g1]
    walk_at "gs"
    refine fun q4 H4 n4=>⟨by show 3≤sizeLine;decide,fun w H5 n5=>?_⟩
    have s35:=n4.same.trans n5.same
    refine q w (.int m) hp q4 H5 (s02.trans s35) n5.at_ ⟨us,_,[],(hU2.same s35).up,up_nice wp,n5.same _ _ n4.at_,fun y hy=>by simp at hy,trivial,by rw [List.length_map];omega,?_⟩
    rintro ⟨_,_,tz,_,_,e,_,_,_,l,_⟩
    have:=congrArg List.length e
    rw [List.length_map] at this
    simp at this
    omega
   ·rw [if_neg g1]
    exact hN' _ _ ⟨rfl,g1,rfl⟩
  rintro σ4 H4 ⟨rfl,nw2,rfl⟩
  refine mid (fun σ' H'=>H'=H4∧way≠3∧σ'=[some (.int m),some (.ref l),some (.ref tp),some (.int way),some (.int c),some (.ref hp),some (.ref ep),none,none,none,none,none,none,none]) ?_ ?_
  ·intro N' hN'
   walk_at "gs"
   by_cases g1:way=3
   ·rw [if_pos g1]
    walk_at "gs"
    refine .inl ⟨_,.inl (.of n2.at_),?_⟩
    rw [List.length_map]
    have y1:=Int.emod_nonneg (c / 4) (show (ties.length:Int)≠0 by omega)
    have y2:=Int.emod_lt_of_pos (c / 4) (show 0<(ties.length:Int) by omega)
    walk_at "gs"
    generalize c / 4 % (ties.length:Int)=at' at y1 y2
    refine ⟨m,l,ts,ps,_,rfl,hL.same s02,wp,m10,by omega,fun v H5 s5 nv bv=>?_⟩
    have he5:=s5 _ _ n2.at_
    have f02:H ep=none:=s1.nil n2.was
    refine ⟨ep,_,at',at'.toNat,rfl,rfl,he5,ixN_of y1 (by rw [List.length_map];exact y2),?_⟩
    have he6:upd H5 ep (.lst ((ties.map V.int).set at'.toNat v)) ep=some (.lst ((ties.map V.int).set at'.toNat v)):=upd_same
    have s06:Same H (upd H5 ep (.lst ((ties.map V.int).set at'.toNat v))):=(s02.trans s5).put f02
    have hU6:PLst (upd H5 ep (.lst ((ties.map V.int).set at'.toNat v))) hp us ps:=by
     have hU5:=hU2.same s5
     have nhe:hp≠ep:=ne_of_none hU.lst n2.was
     refine ⟨by rw [upd_ne nhe];exact hU5.lst,hU5.len,fun i t p ht hp'=>?_⟩
     obtain ⟨g1,g2⟩:=hU.at_ i t p ht hp'
     obtain ⟨g3,g4⟩:=hU5.at_ i t p ht hp'
     exact ⟨by rw [upd_ne (ne_of_none g1 n2.was)];exact g3,by rw [upd_ne (ne_of_none g2 n2.was)];exact g4⟩
    have nv6:Nice (upd H5 ep (.lst ((ties.map V.int).set at'.toNat v))) v:=by
     cases v with
     | ref r =>
      by_cases e:r=ep
      ·subst e
       exact .inl ⟨_,upd_same⟩
      ·rcases nv with ⟨xs,z⟩ | ⟨xs,z⟩
       ·exact .inl ⟨xs,by rw [upd_ne e];exact z⟩
       ·exact .inr ⟨xs,by rw [upd_ne e];exact z⟩
     | _=>exact nv
    generalize upd H5 ep (.lst ((ties.map V.int).set at'.toNat v))=H6 at he6 s06 hU6 nv6 ⊢
    walk_at "gs"
    refine ⟨by show 3≤sizeLine;decide,fun w H7 n7=>?_⟩
    refine q w (.int m) hp ep H7 (s06.trans n7.same) n7.at_ ⟨us,_,_,(hU6.same n7.same).up,up_nice wp,n7.same _ _ he6,fun y hy=>?_,trivial,by rw [List.length_map];omega,bad_tie rfl (v:=v) ?_ bv⟩
    ·rcases List.mem_or_eq_of_mem_set hy with z | z
     ·exact hyn H7 y z
     ·subst z
      exact nv6.same n7.same
    ·exact List.mem_set (by rw [List.length_map];omega) v
   ·rw [if_neg g1]
    exact hN' _ _ ⟨rfl,g1,rfl⟩
  rintro σ5 H5 ⟨rfl,nw3,rfl⟩
  have hn1:=hne (by omega)
  have y1:=Int.emod_nonneg c (show (us.length:Int)≠0 by omega)
  have y2:=Int.emod_lt_of_pos c (show 0<(us.length:Int) by omega)
  walk_at "gs"
  refine .inl ⟨_,.inl (.of hU2.lst),?_⟩
  rw [List.length_map]
  walk_at "gs"
  refine .inl ⟨_,.inl (.of hU2.lst),?_⟩
  rw [List.length_map]
  walk_at "gs"
  generalize c / (us.length:Int)=rest
  generalize c % (us.length:Int)=at' at y1 y2
  obtain ⟨i,rfl⟩:=Int.eq_ofNat_of_zero_le y1
  have hi:i<us.length:=by omega
  have hat:=atRef (ts:=us) y1 y2
  rw [show us[((i:Nat):Int).toNat]'(by omega)=us[i] from rfl] at hat
  obtain ⟨p,hpp,hpt,hpc⟩:=hU2.get hi
  have wpi:=wp i p hpp
  obtain ⟨f1a,f1b,f1c⟩:=hun _ (List.getElem_mem hi)
  refine ⟨_,_,.inl (.of hU2.lst),hat,?_⟩
  have hui:us[i]? = some us[i]:=List.getElem?_eq_getElem hi
  generalize us[i]=ui at *
  obtain ⟨t1,t2⟩:=ui
  dsimp only at hpt hpc f1a f1b f1c
  refine ⟨t1,_,rfl,.of hpt,rfl,_,_,rfl,_,_,rfl,_,_,rfl,rfl,?_⟩
  refine mid (fun σ' H'=>Same H5 H'∧∃ kv v13,Nice H' kv∧(way=4→btw kv (topK m (ps.take i)+1) 999=false)∧(way≠4→kv=.int p.1)∧σ'=[some (.int m),some (.ref l),some (.ref tp),some (.int way),some (.int c),some (.ref hp),some (.ref ep),none,some (.int (i:Nat)),some (.int rest),some kv,some (.ref t2),some (.int p.2.2),v13]) ?_ ?_
  ·intro N' hN'
   walk_at "gs"
   by_cases g4:way=4
   ·rw [if_pos g4]
    walk_at "gs"
    refine mid (fun σ' H'=>H'=H5∧σ'=[some (.int m),some (.ref l),some (.ref tp),some (.int way),some (.int c),some (.ref hp),some (.ref ep),none,some (.int (i:Nat)),some (.int rest),some (.int p.1),some (.ref t2),some (.int p.2.2),some (.int (topK m (ps.take i)))]) ?_ ?_
    ·intro N2 hN2
     walk_at "gs"
     by_cases g0:(0:Int)<(i:Int)
     ·rw [if_pos g0]
      walk_at "gs"
      have hat2:=atRef (ts:=us) (i:=(i:Int) - 1) (by omega) (by omega)
      obtain ⟨p2,hp2,hpt2,_⟩:=hU2.get (i:=((i:Int) - 1).toNat) (by omega)
      refine ⟨_,_,.inl (.of hU2.lst),hat2,?_⟩
      refine ⟨_,_,.inr (.of hpt2),rfl,?_⟩
      have e:topK m (ps.take i)=p2.1:=by
       have ei:i=((i:Int) - 1).toNat+1:=by omega
       rw [ei,take_snoc hp2,top_snoc]
      rw [← e]
      exact hN2 _ _ ⟨rfl,rfl⟩
     ·rw [if_neg g0]
      have ei:i=0:=by omega
      subst ei
      exact hN2 _ _ ⟨rfl,rfl⟩
    rintro σ6 H6 ⟨rfl,rfl⟩
    have htm:=wp.top i (by omega)
    walk_at "gs"
    refine ⟨_,rest,m,rfl,htm,fun v H7 s7 nv bv=>?_⟩
    exact hN' _ _ ⟨s7,v,_,nv,fun _=>bv,fun z=>absurd g4 z,rfl⟩
   ·rw [if_neg g4]
    exact hN' _ _ ⟨fun _ _ e=>e,.int p.1,_,trivial,fun z=>absurd z g4,fun _=>rfl,rfl⟩
  rintro σ6 H6 ⟨s6,kv,v13,nk,hk4,hkn,rfl⟩
  refine mid (fun σ' H'=>Same H6 H'∧∃ cq xs,H' cq=some (.lst xs)∧cq≠hp∧cq≠ep∧xs.length≤100∧(∀ x∈xs,Nice H' x)∧(way=5→¬ CutOk (known m (ps.take i)) xs)∧(way≠5→xs=p.2.1.map V.int)∧σ'=[some (.int m),some (.ref l),some (.ref tp),some (.int way),some (.int c),some (.ref hp),some (.ref ep),none,some (.int (i:Nat)),some (.int rest),some kv,some (.ref cq),some (.int p.2.2),v13]) ?_ ?_
  ·intro N' hN'
   walk_at "gs"
   by_cases g5:way=5
   ·rw [if_pos g5]
    have ekv:=hkn (by omega)
    subst ekv
    walk_at "gs"
    have hks:∀ k∈known m (ps.take i),1≤k∧k<p.1∧k≤999:=fun k hk=>by
     have a1:=wp.known m10 hk
     have a2:=le_top wp i (by omega) k hk
     have a3:=wpi.up
     omega
    refine ⟨t2,p.2.1,_,p.1,rest,rfl,s6 _ _ hpc,wpi.l1,wpi.l6,wpi.ris,hks,fun q7 xs H7 s7 f7 h7 lx nx bx=>?_⟩
    exact hN' _ _ ⟨s7,q7,xs,h7,(ne_of_none (s6 _ _ hU2.lst) f7).symm,(ne_of_none (s6 _ _ n2.at_) f7).symm,lx,nx,fun _=>bx,fun z=>absurd g5 z,rfl⟩
   ·rw [if_neg g5]
    exact hN' _ _ ⟨fun _ _ e=>e,t2,_,s6 _ _ hpc,f1c,ne_of_none (hU.at_ i (t1,t2) p hui hpp).2 n2.was,by rw [List.length_map];have:=wpi.l6;omega,ys_nice _,fun z=>absurd z g5,fun _=>rfl,rfl⟩
  rintro σ7 H7 ⟨s7,cq,xs,hcq,ncp,nce,lx,nx,hx5,hxn,rfl⟩
  refine mid (fun σ' H'=>Same H7 H'∧∃ tv v7,Nice H' tv∧(way=6→btw tv 0 ((fullN p.2.1.length:Nat):Int)=false)∧(way≠6→tv=.int p.2.2)∧σ'=[some (.int m),some (.ref l),some (.ref tp),some (.int way),some (.int c),some (.ref hp),some (.ref ep),v7,some (.int (i:Nat)),some (.int rest),some kv,some (.ref cq),some tv,v13]) ?_ ?_
  ·intro N' hN'
   walk_at "gs"
   by_cases g6:way=6
   ·rw [if_pos g6]
    have exs:=hxn (by omega)
    subst exs
    have fn:=far_nn (rest / 4)
    walk_at "gs"
    generalize rest / 4 % 10 ^ (30:Int).toNat=far at fn
    obtain ⟨a1,a2,a3,a4⟩:=tab_cond wpi.l6
    refine .inl ⟨_,.inl (.of hcq),?_⟩
    rw [List.length_map]
    have wl6:=wpi.l6
    refine ⟨⟨by omega,by omega,by decide⟩,?_⟩
    rw [a1]
    refine ⟨a2,?_⟩
    rw [a3]
    refine ⟨far,rfl,fun v H8 s8 nv wv=>?_⟩
    refine ⟨by show 4≤sizeLine;decide,fun q9 H9 n9=>?_⟩
    walk_at "gs"
    have efull:((fullN p.2.1.length:Nat):Int)=((2 ^ 2 ^ p.2.1.length:Nat):Int) - 1:=by
     unfold fullN
     have h1:1≤2 ^ 2 ^ p.2.1.length:=Nat.one_le_two_pow
     omega
    have key:∃ u,atI [V.int (-1 - far),V.int (((2 ^ 2 ^ p.2.1.length:Nat):Int)+far),v,V.bl false] (rest % 4)=some u∧Nice H9 u∧btw u 0 ((fullN p.2.1.length:Nat):Int)=false:=by
     rw [efull]
     generalize ((2 ^ 2 ^ p.2.1.length:Nat):Int)=Z at *
     rcases (by omega:rest % 4=0∨rest % 4=1∨rest % 4=2∨rest % 4=3) with h | h | h | h <;> rw [h]
     ·exact ⟨_,rfl,trivial,decide_eq_false (by omega)⟩
     ·exact ⟨_,rfl,trivial,decide_eq_false (by omega)⟩
     ·exact ⟨_,rfl,nv.same n9.same,not_whole wv _ _⟩
     ·exact ⟨_,rfl,trivial,rfl⟩
    obtain ⟨u,hu,nu,bu⟩:=key
    exact ⟨_,_,.inl n9.sq,hu,hN' _ _ ⟨s8.trans n9.same,u,_,nu,fun _=>bu,fun z=>absurd g6 z,rfl⟩⟩
   ·rw [if_neg g6]
    exact hN' _ _ ⟨fun _ _ e=>e,.int p.2.2,_,trivial,fun z=>absurd z g6,fun _=>rfl,rfl⟩
  rintro σ8 H8 ⟨s8,tv,v7,nt,ht6,htn,rfl⟩
  have s58:=(s6.trans s7).trans s8
  have hU8:=hU2.same s58
  have he8:=s58 _ _ n2.at_
  walk_at "gs"
  refine ⟨by show 3≤sizeLine;decide,fun t9 H9 n9=>?_⟩
  have hU9:=hU8.same n9.same
  have nt9:t9≠hp:=(ne_of_none hU8.lst n9.was).symm
  have ne9:t9≠ep:=(ne_of_none he8 n9.was).symm
  have hc9:=n9.same _ _ (s8 _ _ hcq)
  refine ⟨hp,_,(i:Int),i,rfl,rfl,hU9.lst,ixN_of y1 (by rw [List.length_map];exact y2),?_⟩
  have gup:=hU9.up
  have hG:GLst (upd H9 hp (.lst ((us.map fun t=>V.ref t.1).set i (.ref t9)))) hp (us.set i (t9,cq)) ((ps.map up).set i (kv,xs,tv)):=by
   refine ⟨by rw [upd_same,List.map_set],by rw [List.length_set,List.length_set];exact gup.len,fun j t g ht hg=>?_⟩
   rw [List.getElem?_set] at ht hg
   by_cases e:i=j
   ·subst e
    rw [if_pos rfl,if_pos hi] at ht
    rw [if_pos rfl,if_pos (by rw [List.length_map];omega)] at hg
    cases ht
    cases hg
    exact ⟨by rw [upd_ne nt9];exact n9.at_,by rw [upd_ne ncp];exact hc9⟩
   ·rw [if_neg e] at ht hg
    obtain ⟨g1,g2⟩:=gup.at_ j t g ht hg
    exact ⟨by rw [upd_ne (ne_of g1 hU9.lst (fun z=>nomatch z))];exact g1,by rw [upd_ne (hun t (List.mem_of_getElem? ht)).2.2];exact g2⟩
  have hpw:H hp=none:=f1
  have s0a:Same H (upd H9 hp (.lst ((us.map fun t=>V.ref t.1).set i (.ref t9)))):=((s02.trans s58).trans n9.same).put hpw
  have hea:upd H9 hp (.lst ((us.map fun t=>V.ref t.1).set i (.ref t9))) ep=some (.lst (ties.map V.int)):=by
   rw [upd_ne (ne_of_none hU.lst n2.was).symm]
   exact n9.same _ _ he8
  have nca:∀ v,Nice H9 v→Nice (upd H9 hp (.lst ((us.map fun t=>V.ref t.1).set i (.ref t9)))) v:=fun v nv=>by
   cases v with
   | ref r =>
    by_cases e:r=hp
    ·subst e
     exact .inl ⟨_,upd_same⟩
    ·rcases nv with ⟨xs,z⟩ | ⟨xs,z⟩
     ·exact .inl ⟨xs,by rw [upd_ne e];exact z⟩
     ·exact .inr ⟨xs,by rw [upd_ne e];exact z⟩
   | _=>exact nv
  have hNa:GNice (upd H9 hp (.lst ((us.map fun t=>V.ref t.1).set i (.ref t9)))) ((ps.map up).set i (kv,xs,tv)):=fun g hg=>by
   rcases List.mem_or_eq_of_mem_set hg with z | z
   ·exact up_nice wp g z
   ·subst z
    exact ⟨nca _ ((nk.same (s7.trans s8)).same n9.same),nca _ (nt.same n9.same),lx,fun x hx=>nca _ (((nx x hx).same s8).same n9.same)⟩
  have hbad:¬ GoodP m ((ps.map up).set i (kv,xs,tv)):=by
   refine bad_at (ps:=ps.take i) (i:=i) (g:=(kv,xs,tv)) (by rw [List.take_set_of_le (Nat.le_refl _),List.map_take]) (by rw [List.getElem?_set,if_pos rfl,if_pos (by rw [List.length_map];omega)]) fun p' hup w=>?_
   unfold up at hup
   simp only [Prod.mk.injEq] at hup
   obtain ⟨e1,e2,e3⟩:=hup
   rcases (by omega:way=4∨way=5∨way=6) with h | h | h
   ·have hb:=hk4 h
    rw [← e1] at hb
    have b1:=w.up
    have b2:=w.hi
    exact of_decide_eq_false hb ⟨by omega,by omega⟩
   ·exact hx5 h ⟨p'.2.1,e2.symm,w.l1,w.l6,w.ris,w.kn⟩
   ·have hb:=ht6 h
    have exs:=hxn (by omega)
    have ep':p'.2.1=p.2.1:=map_int_inj (e2.trans exs)
    rw [← e3,← ep'] at hb
    have b1:=w.t0
    have b2:=w.t1
    refine of_decide_eq_false hb ⟨b1,?_⟩
    unfold fullN
    have h1:1≤2 ^ 2 ^ p'.2.1.length:=Nat.one_le_two_pow
    omega
  generalize upd H9 hp (.lst ((us.map fun t=>V.ref t.1).set i (.ref t9)))=Ha at hG s0a hea hNa ⊢
  walk_at "gs"
  refine ⟨by show 3≤sizeLine;decide,fun w Hb nb=>?_⟩
  exact q w (.int m) hp ep Hb (s0a.trans nb.same) nb.at_ ⟨_,_,_,hG.same nb.same,hNa.same nb.same,nb.same _ _ hea,hyn Hb,trivial,by rw [List.length_set,List.length_map];omega,bad_pieces rfl hbad⟩
def sp_law_refused (a:Adr) (_:PySem.W.Frag):Sp:=fun vs H Q _=>∃ (mv:V) (l tp:Addr),vs=[mv,.ref l,.ref tp]∧BadAt H mv l tp∧∀ H',Same H H'→Q (.bl true) H'
def rd_law_refused (a:Adr) (K:PySem.W.Frag):TS:=(tSeq (tAsg (tC (.bl false)) (gName 3))
  (tSeq (tTry (fun Ex=>(tDrop (tMakeX a.c_Board (sp_Board___init__ a K) [] Ex (tCons (cVar 0) (tCons (cVar 1) (tCons (cVar 2) tNil)))))) (tHd K a.c_NoBoard (fun _ _=>(tAsg (tC (.bl true)) (gName 3))) tNoH))
  (tSeq (tAsg (tC (.bl false)) (gName 4))
  (tSeq (tTry (fun Ex=>(tDrop (tMakeX a.c_Board (sp_Board___init__ a K) [] Ex (tCons (cVar 0) (tCons (cVar 1) (tCons (cVar 2) tNil)))))) (tHd K a.c_FoldError (tAs 5 (tSeq (tAsg (cAndV (tCB (cIsX K) (tCons (cVar 5) (tCons (tC (.ref a.c_NoBoard)) tNil))) (tCB (cIsX K) (tCons (cVar 5) (tCons (tC (.ty "ValueError")) tNil)))) (gName 4))
  (tIfS (cTru K (tCB (cIsX K) (tCons (cVar 5) (tCons (tTup (tCons (tC (.ref a.c_NoCut)) (tCons (tC (.ref a.c_NoGoal)) (tCons (tC (.ref a.c_NoKnot)) (tCons (tC (.ref a.c_NoLine)) (tCons (tC (.ref a.c_NoMatch)) (tCons (tC (.ref a.c_NoName)) (tCons (tC (.ref a.c_NoSize)) (tCons (tC (.ref a.c_NoText)) (tCons (tC (.ref a.c_NoTie)) tNil)))))))))) tNil)))) (tAsg (tC (.bl false)) (gName 4)) tNext))) tNoH))
  (tRet (cAndV (cVar 3) (cVar 4)))))))
theorem tm_law_refused (T:Txt K mg a) {cdv:Value}{A:Around}{outer:List Env}{s:Shared}{H:Hp}{E:XK} (hr:Room 5 (A.deeper (envOfC "_law_refused" (defScope s_law_refused) s.heap.objs.size a.f_law_refused cdv))) :
  PSs (cxOf CX0 P w K mg base N_law_refused "_law_refused" (defScope s_law_refused) a.f_law_refused cdv A outer s H E).nox (defBody s_law_refused) (rd_law_refused a K) :=
 (pss_cons (ps_set (i:=3) sc_law_refused.nd rfl (by walk_at "o") pe_bl)
   (pss_cons (ps_try ⟨rfl,rfl⟩ (fun _ Ex=>(pss_one (ps_expr (pe_makeX xok_tr T.mk_Board (ok_Board___init__ T) (hr.mono (by decide)) rfl T.mg_Board T.bi_Board___init__ .nil (pa_cons (cv 0) (pa_cons (cv 1) (pa_cons (cv 2) pa_nil))))))) (ph_cons T.xk_NoBoard rfl T.mg_NoBoard (fun _=>(pss_one (ps_set (i:=3) sc_law_refused.nd rfl (by walk_at "o") pe_bl))) ph_nil))
   (pss_cons (ps_set (i:=4) sc_law_refused.nd rfl (by walk_at "o") pe_bl)
   (pss_cons (ps_try ⟨rfl,rfl⟩ (fun _ Ex=>(pss_one (ps_expr (pe_makeX xok_tr T.mk_Board (ok_Board___init__ T) (hr.mono (by decide)) rfl T.mg_Board T.bi_Board___init__ .nil (pa_cons (cv 0) (pa_cons (cv 1) (pa_cons (cv 2) pa_nil))))))) (ph_as (i:=5) T.xk_FoldError rfl T.mg_FoldError sc_law_refused.nd rfl rfl (fun _=>(pss_cons (ps_set (i:=4) sc_law_refused.nd rfl (by walk_at "o") (e_and (pe_callB c_isX (by rfl) T.no_isinstance PyProof.Rows.boot_isinstance (pa_cons (cv 5) (pa_cons (pe_glob (v:=.ref a.c_NoBoard) rfl T.mg_NoBoard rfl) pa_nil))) (pe_one (pe_callB c_isX (by rfl) T.no_isinstance PyProof.Rows.boot_isinstance (pa_cons (cv 5) (pa_cons (pe_bltn (v:=.ty "ValueError") rfl T.no_ValueError boot_ValueError rfl) pa_nil))))))
   (pss_one (ps_if (pt_tru (pe_callB c_isX (by rfl) T.no_isinstance PyProof.Rows.boot_isinstance (pa_cons (cv 5) (pa_cons (pe_tup (pa_cons (pe_glob (v:=.ref a.c_NoCut) rfl T.mg_NoCut rfl) (pa_cons (pe_glob (v:=.ref a.c_NoGoal) rfl T.mg_NoGoal rfl) (pa_cons (pe_glob (v:=.ref a.c_NoKnot) rfl T.mg_NoKnot rfl) (pa_cons (pe_glob (v:=.ref a.c_NoLine) rfl T.mg_NoLine rfl) (pa_cons (pe_glob (v:=.ref a.c_NoMatch) rfl T.mg_NoMatch rfl) (pa_cons (pe_glob (v:=.ref a.c_NoName) rfl T.mg_NoName rfl) (pa_cons (pe_glob (v:=.ref a.c_NoSize) rfl T.mg_NoSize rfl) (pa_cons (pe_glob (v:=.ref a.c_NoText) rfl T.mg_NoText rfl) (pa_cons (pe_glob (v:=.ref a.c_NoTie) rfl T.mg_NoTie rfl) pa_nil)))))))))) pa_nil)))) (pss_one (ps_set (i:=4) sc_law_refused.nd rfl (by walk_at "o") pe_bl)) pss_nil)))) ph_nil))
   (pss_one (ps_ret (e_and (cv 3) (pe_one (cv 4)))))))))
theorem ok_law_refused (T:Txt K mg a):FnOk P w K mg base CX0 6 a.f_law_refused a.d_law_refused ["_law_many","_law_pieces_here","_law_ties_here"] (sp_law_refused a K):=by
 refine T.fn_law_refused.ok sc_law_refused (fun vs H Q E h=>?_) (fun cdv A outer s H vs Q E hr h=>⟨_,tm_law_refused T hr,?_⟩)
 ·obtain ⟨mv,l,tp,rfl,_⟩:=h;rfl
 ·obtain ⟨mv,l,tp,rfl,hB,q⟩:=h
  show rd_law_refused a K _ [some mv,some (.ref l),some (.ref tp),none,none,none] H
  unfold rd_law_refused
  obtain ⟨ts,gs,ys,h1,h2,h3,h4,h5,h6,h7⟩:=id hB
  walk_at "go"
  refine mk_bad h1 h2 h3 h4 h5 h6 h7 fun H2 e s2 he=>⟨e,_,rfl,rfl,T.xk_NoBoard,?_⟩
  rw [T.xm_NoBoard_NoBoard]
  walk_at "go"
  obtain ⟨ts,gs,ys,h1,h2,h3,h4,h5,h6,h7⟩:=hB.same s2
  refine mk_bad h1 h2 h3 h4 h5 h6 h7 fun H4 e2 s4 he2=>⟨e2,_,rfl,rfl,T.xk_NoBoard,?_⟩
  rw [T.xm_NoBoard_FoldError]
  walk_at "go"
  refine ⟨a.c_NoBoard,true,upd_same,T.xq_NoBoard,.inl T.ko_NoBoard_NoBoard,?_⟩
  walk_at "go"
  refine ⟨a.c_NoBoard,true,upd_same,T.xq_NoBoard,T.kv_NoBoard,?_⟩
  walk_at "go"
  refine ⟨by show 9≤sizeLine;decide,fun p H5 n5=>?_⟩
  refine ⟨a.c_NoBoard,false,n5.same _ _ upd_same,T.xq_NoBoard,.inr ⟨[a.c_NoCut,a.c_NoGoal,a.c_NoKnot,a.c_NoLine,a.c_NoMatch,a.c_NoName,a.c_NoSize,a.c_NoText,a.c_NoTie],n5.at_,?_⟩,?_⟩
  ·simp only [List.map_cons,List.map_nil,PySem.W.kitAny,T.ko_NoBoard_NoCut,T.ko_NoBoard_NoGoal,T.ko_NoBoard_NoKnot,T.ko_NoBoard_NoLine,T.ko_NoBoard_NoMatch,T.ko_NoBoard_NoName,T.ko_NoBoard_NoSize,T.ko_NoBoard_NoText,T.ko_NoBoard_NoTie]
  walk_at "go"
  exact q H5 (((s2.trans s4).trans (same_upd he2)).trans n5.same)
theorem eq_ints {K:PySem.W.Frag}{H:Hp}{p q:Addr}{n:Nat}{xs:List Int} (h1:H p=some (.lst (xs.map V.int))) (h2:H q=some (.lst (xs.map V.int))):DeepEq K H (n+1) (.ref p) (.ref q):=by
 refine DeepEq.lst (n:=n) (.of h1) (.of h2) rfl fun i y z hy hz=>?_
 rw [hy] at hz
 cases hz
 obtain ⟨t,_,rfl⟩:=get_map_of hy
 exact .flat rfl
theorem eq_pieces {K:PySem.W.Frag}{H:Hp}{p q:Addr}{n:Nat}{ts us:List (Addr × Addr)}{ps:List Pc} (h1:PLst H p ts ps) (h2:PLst H q us ps):DeepEq K H (n+3) (.ref p) (.ref q):=by
 refine DeepEq.lst (n:=n+2) (.of h1.lst) (.of h2.lst) (by rw [List.length_map,List.length_map,h1.len,h2.len]) fun i y z hy hz=>?_
 obtain ⟨t,ht,rfl⟩:=get_map_of hy
 obtain ⟨u,hu,rfl⟩:=get_map_of hz
 have hi:i<ps.length:=by rw [← h1.len];exact (List.getElem?_eq_some_iff.mp ht).1
 have hp:=List.getElem?_eq_getElem hi
 obtain ⟨a1,a2⟩:=h1.at_ i t _ ht hp
 obtain ⟨b1,b2⟩:=h2.at_ i u _ hu hp
 refine DeepEq.tup (n:=n+1) (.of a1) (.of b1) rfl fun j y z hy hz=>?_
 match j,hy,hz with
 | 0,hy,hz=>cases hy;cases hz;exact .flat rfl
 | 1,hy,hz=>cases hy;cases hz;exact eq_ints a2 b2
 | 2,hy,hz=>cases hy;cases hz;exact .flat rfl
 | j+3,hy,_=>cases hy
def sp_law_told (a:Adr) (_:PySem.W.Frag):Sp:=fun vs H Q _=>∃ (b l tp:Addr) (m:Nat) (ts:List (Addr × Addr)) (ps:List Pc) (ties:List Int),vs=[.ref b,.int m,.ref l,.ref tp]∧BoardAt a.c_Board H b m ps ties∧PLst H l ts ps∧H tp=some (.lst (ties.map V.int))∧WP m ps∧ps.length≤900∧ties.length≤100 ∧
 ∀ H',Same H H'→Q (.bl true) H'
def rd_law_told (a:Adr) (K:PySem.W.Frag):TS:=(tSeq (tAsg (tMeth a.c_Board "pieces" (sp_Board_pieces a K) [] E0 (cVar 0) tNil) (gName 4))
  (tSeq (tAsg (tMeth a.c_Board "ties" (sp_Board_ties a K) [] E0 (cVar 0) tNil) (gName 5))
  (tSeq (tIfS (tOr (tNot (cTru K (tCall (sp_law_whole K) [] E0 (tCons (tFld K (cVar 0) "many") tNil)))) (tOr (cTst (tOp (cNe K) (tFld K (cVar 0) "many") (cVar 1))) (tOr (tNot (cTru K (tCB (cIsinst K) (tCons (cVar 4) (tCons (tC (.ty "list")) tNil))))) (cTst (tOp (cNe K) (cVar 4) (cVar 2)))))) (tRet (tC (.bl false))) tNext)
  (tSeq (tFor (iList K (cVar 4)) (gName 6) (tSeq (tIfS (tOr (tNot (cTru K (tCB (cIsinst K) (tCons (cVar 6) (tCons (tC (.ty "tuple")) tNil))))) (tNot (cTru K (tCB (cIsinst K) (tCons (tOp (cIx K) (cVar 6) (tC (.int 1))) (tCons (tC (.ty "list")) tNil)))))) (tRet (tC (.bl false))) tNext)
  (tIfS (tNot (cTru K (tCB (cAll K) (tCons (tComp (iList K (tOp cAdd (tLst (tCons (tOp (cIx K) (cVar 6) (tC (.int 0))) (tCons (tOp (cIx K) (cVar 6) (tC (.int 2))) tNil))) (tOp (cIx K) (cVar 6) (tC (.int 1))))) 1 [] (gName 0) tTrue (tCall (sp_law_whole K) [] E0 (tCons (cVar 0) tNil))) tNil)))) (tRet (tC (.bl false))) tNext)))
  (tSeq (tIfS (tOr (tNot (cTru K (tCB (cIsinst K) (tCons (cVar 5) (tCons (tC (.ty "list")) tNil))))) (tOr (cTst (tOp (cNe K) (cVar 5) (cVar 3))) (tNot (cTru K (tCB (cAll K) (tCons (tComp (iList K (cVar 5)) 1 [] (gName 0) tTrue (tCall (sp_law_whole K) [] E0 (tCons (cVar 0) tNil))) tNil)))))) (tRet (tC (.bl false))) tNext)
  (tSeq (tFor (iList K (cVar 4)) (gName 6) (tDrop (tBM K "list" rAppend (tOp (cIx K) (cVar 6) (tC (.int 1))) (tCons (tC (.int 1)) tNil))))
  (tSeq (tDrop (tBM0 K "list" rClear (cVar 4)))
  (tSeq (tDrop (tBM K "list" rAppend (cVar 5) (tCons (tC (.int 0)) tNil)))
  (tRet (tC (.bl true)))))))))))
theorem tm_law_told (T:Txt K mg a) {cdv:Value}{A:Around}{outer:List Env}{s:Shared}{H:Hp}{E:XK} (hr:Room 1 (A.deeper (envOfC "_law_told" (defScope s_law_told) s.heap.objs.size a.f_law_told cdv))) :
  PSs (cxOf CX0 P w K mg base N_law_told "_law_told" (defScope s_law_told) a.f_law_told cdv A outer s H E).nox (defBody s_law_told) (rd_law_told a K) :=
 (pss_cons (ps_set (i:=4) sc_law_told.nd rfl (by walk_at "o") (pe_meth0 (cv 0) T.cl_Board T.me_Board_pieces (ok_Board_pieces T) (hr.mono (by decide)) T.bi_Board_pieces .nil pass0))
   (pss_cons (ps_set (i:=5) sc_law_told.nd rfl (by walk_at "o") (pe_meth0 (cv 0) T.cl_Board T.me_Board_ties (ok_Board_ties T) (hr.mono (by decide)) T.bi_Board_ties .nil pass0))
   (pss_cons (ps_if (PW.pt (pw_or (pt_not (pt_tru (pe_call (ok_law_whole T) (hr.mono (by decide)) rfl T.mg_law_whole T.fn_law_whole.kp T.bi_law_whole .nil pass0 (pa_cons (pe_fld (cv 0) rfl) pa_nil)))) (pw_or (t_cmp (o_ne (hr8 hr)) (pe_fld (cv 0) rfl) (cv 1) (nomark _)) (pw_or (pt_not (pt_tru (pe_callB c_isinst (by rfl) T.no_isinstance PyProof.Rows.boot_isinstance (pa_cons (cv 4) (pa_cons (pe_bltn (v:=.ty "list") rfl T.no_list PyProof.Rows.boot_list rfl) pa_nil))))) (pw_or1 (t_cmp (o_ne (hr8 hr)) (cv 4) (cv 2) (nomark _))))))) (pss_one (ps_ret pe_bl)) pss_nil)
   (pss_cons (ps_for PassesOwn.never rfl (pi_list (cv 4)) (pg_name (i:=6) sc_law_told.nd rfl (by walk_at "o")) (pss_cons (ps_if (PW.pt (pw_or (pt_not (pt_tru (pe_callB c_isinst (by rfl) T.no_isinstance PyProof.Rows.boot_isinstance (pa_cons (cv 6) (pa_cons (pe_bltn (v:=.ty "tuple") rfl T.no_tuple PyProof.Rows.boot_tuple rfl) pa_nil))))) (pw_or1 (pt_not (pt_tru (pe_callB c_isinst (by rfl) T.no_isinstance PyProof.Rows.boot_isinstance (pa_cons (pe_ix i_seq (cv 6) pe_int (fun _ _=>rfl)) (pa_cons (pe_bltn (v:=.ty "list") rfl T.no_list PyProof.Rows.boot_list rfl) pa_nil)))))))) (pss_one (ps_ret pe_bl)) pss_nil)
   (pss_one (ps_if (pt_not (pt_tru (pe_callB (c_all rfl) (by rfl) T.no_all PyProof.Rows.boot_all (pa_cons (pe_comp (N:=["_law_number"]) (k:=1) (sel:=[]) (CScope.of (defScope s_law_told).names (by decide +kernel)) (CNames.of N_law_told (by decide +kernel)) rfl (pi_list (pe_op o_add (pe_lst (pa_cons (pe_ix i_seq (cv 6) pe_int (fun _ _=>rfl)) (pa_cons (pe_ix i_seq (cv 6) pe_int (fun _ _=>rfl)) pa_nil))) (pe_ix i_seq (cv 6) pe_int (fun _ _=>rfl)))) (fun _ _ _ _=>(pg_name (i:=0) (show List.Nodup (["_law_number"]:List Str) by decide +kernel) rfl (by walk_at "o"))) (fun _ _ _ _=>pts_nil) (fun _ _ _ _=>(pe_call (ok_law_whole T) (hr.mono (by decide)) rfl T.mg_law_whole T.fn_law_whole.kp T.bi_law_whole .nil pass0 (pa_cons (cv 0) pa_nil)))) pa_nil)))) (pss_one (ps_ret pe_bl)) pss_nil))))
   (pss_cons (ps_if (PW.pt (pw_or (pt_not (pt_tru (pe_callB c_isinst (by rfl) T.no_isinstance PyProof.Rows.boot_isinstance (pa_cons (cv 5) (pa_cons (pe_bltn (v:=.ty "list") rfl T.no_list PyProof.Rows.boot_list rfl) pa_nil))))) (pw_or (t_cmp (o_ne (hr8 hr)) (cv 5) (cv 3) (nomark _)) (pw_or1 (pt_not (pt_tru (pe_callB (c_all rfl) (by rfl) T.no_all PyProof.Rows.boot_all (pa_cons (pe_comp (N:=["_law_tie"]) (k:=1) (sel:=[]) (CScope.of (defScope s_law_told).names (by decide +kernel)) (CNames.of N_law_told (by decide +kernel)) rfl (pi_list (cv 5)) (fun _ _ _ _=>(pg_name (i:=0) (show List.Nodup (["_law_tie"]:List Str) by decide +kernel) rfl (by walk_at "o"))) (fun _ _ _ _=>pts_nil) (fun _ _ _ _=>(pe_call (ok_law_whole T) (hr.mono (by decide)) rfl T.mg_law_whole T.fn_law_whole.kp T.bi_law_whole .nil pass0 (pa_cons (cv 0) pa_nil)))) pa_nil)))))))) (pss_one (ps_ret pe_bl)) pss_nil)
   (pss_cons (ps_for PassesOwn.never rfl (pi_list (cv 4)) (pg_name (i:=6) sc_law_told.nd rfl (by walk_at "o")) (pss_one (ps_expr (pe_bm PySem.F.plainAttrs_list PySem.F.slot_list_append PySem.F.type_list_append (mtr mt_append) (pe_ix i_seq (cv 6) pe_int (fun _ _=>rfl)) (pa_cons pe_int pa_nil)))))
   (pss_cons (ps_expr (pe_bm0 PySem.F.plainAttrs_list PySem.F.slot_list_clear PySem.F.type_list_clear (mtr mt_clear) (cv 4)))
   (pss_cons (ps_expr (pe_bm PySem.F.plainAttrs_list PySem.F.slot_list_append PySem.F.type_list_append (mtr mt_append) (cv 5) (pa_cons pe_int pa_nil)))
   (pss_one (ps_ret pe_bl))))))))))
theorem ok_law_told (T:Txt K mg a):FnOk P w K mg base CX0 2 a.f_law_told a.d_law_told ["_law_board","_law_many","_law_pieces_here","_law_ties_here"] (sp_law_told a K):=by
 refine T.fn_law_told.ok sc_law_told (fun vs H Q E h=>?_) (fun cdv A outer s H vs Q E hr h=>⟨_,tm_law_told T hr,?_⟩)
 ·obtain ⟨b,l,tp,m,ts,ps,ties,rfl,_⟩:=h;rfl
 ·obtain ⟨b,l,tp,m,ts,ps,ties,rfl,hB,hP,hT,wp,hz,ht1,q⟩:=h
  show rd_law_told a K _ [some (.ref b),some (.int m),some (.ref l),some (.ref tp),none,none,none] H
  unfold rd_law_told
  have big:(20000:Nat)≤sizeLine:=by decide
  obtain ⟨bdx,bk,bt,bts,hbx,_,_⟩:=id hB
  walk_at "gs"
  refine ⟨b,bdx,_,rfl,hbx,rfl,b,m,ps,ties,rfl,hB,by omega,fun fl us H1 f1 s1 hU hun=>?_⟩
  walk_at "gs"
  refine ⟨b,bdx,_,rfl,s1 _ _ hbx,rfl,b,m,ps,ties,rfl,hB.same s1,fun el H2 n2=>?_⟩
  have s2:=n2.same
  have s02:=s1.trans s2
  have hU2:=hU.same s2
  have hul:=hU2.len
  have fe:H el=none:=s1.nil n2.was
  have nfe:fl≠el:=ne_of_none hU.lst n2.was
  walk_at "gs"
  refine ⟨b,a.c_Board,bdx,_,_,rfl,s02 _ _ hbx,T.cl_Board,T.na_Board_many,rfl,?_⟩
  refine ⟨m,rfl,?_⟩
  walk_at "gs"
  refine ⟨b,a.c_Board,bdx,_,_,rfl,s02 _ _ hbx,T.cl_Board,T.na_Board_many,rfl,?_⟩
  walk_at "gs"
  refine ⟨_,true,.lst hU2.lst,rfl,?_⟩
  walk_at "gs"
  refine ⟨true,.inl ⟨rfl,eq_pieces (n:=1) hU2 (hP.same s02)⟩,?_⟩
  walk_at "gs"
  refine ⟨⟨_,.of hU2.lst⟩,for_listG (xs:=us.map fun t=>V.ref t.1) (fun i σ H3=>Same H2 H3∧∃ v6,σ=[some (.ref b),some (.int m),some (.ref l),some (.ref tp),some (.ref fl),some (.ref el),v6]) ⟨fun _ _ e=>e,_,rfl⟩ ?_ ?_ ?_⟩
  ·rintro i σ H3 _ ⟨s3,_⟩
   exact .of (s3 _ _ hU2.lst)
  ·rintro i v σ H3 hv ⟨s3,v6,rfl⟩
   have hi:i<us.length:=by have:=(List.getElem?_eq_some_iff.mp hv).1;rwa [List.length_map] at this
   rw [List.getElem?_map,List.getElem?_eq_getElem hi] at hv
   have ev:V.ref (us[i]).1=v:=Option.some.inj hv
   subst ev
   clear hv
   obtain ⟨p,hp,hpt,hpc⟩:=(hU2.same s3).get hi
   have wl6:=(wp i p hp).l6
   generalize (us[i]).1=t1 at *
   generalize (us[i]).2=t2 at *
   walk_at "gs"
   refine ⟨_,true,.tup hpt,rfl,?_⟩
   walk_at "gs"
   refine ⟨_,_,.inr (.of hpt),rfl,?_⟩
   refine ⟨_,true,.lst hpc,rfl,?_⟩
   walk_at "gs"
   refine ⟨_,_,.inr (.of hpt),rfl,?_⟩
   refine ⟨_,_,.inr (.of hpt),rfl,?_⟩
   refine ⟨by show 2≤sizeLine;decide,fun q4 H4 n4=>?_⟩
   refine ⟨_,_,.inr (.of (n4.same _ _ hpt)),rfl,?_⟩
   refine ⟨_,_,n4.at_,n4.same _ _ hpc,by rw [List.length_map];show 2+_≤_;omega,fun q5 hq5=>?_⟩
   have e5:[V.int p.1,V.int p.2.2] ++ p.2.1.map V.int=(p.1 :: p.2.2 :: p.2.1).map V.int:=rfl
   rw [e5]
   walk_at "gs"
   refine ⟨⟨_,.of upd_same⟩,compG_list (fun _=>.bl true) (.of upd_same) rfl (by rw [List.length_map,List.length_cons,List.length_cons];omega) ?_ ?_⟩
   ·intro y H' Q' hy s' q'
    obtain ⟨z,_,rfl⟩:=List.mem_map.mp hy
    walk_at "gs"
    exact ⟨_,rfl,q'⟩
   intro q6 H6 n6
   have e6:((p.1 :: p.2.2 :: p.2.1).map V.int).map (fun _=>V.bl true)=((p.1 :: p.2.2 :: p.2.1).map fun _=>true).map V.bl:=by rw [List.map_map,List.map_map];rfl
   rw [e6] at n6
   walk_at "gs"
   refine ⟨_,n6.sq,?_⟩
   rw [all_true]
   walk_at "gs"
   exact ⟨((s3.trans n4.same).trans (same_upd hq5)).trans n6.same,_,rfl⟩
  ·rintro σ H3 ⟨s3,v6,rfl⟩
   have h23:=s3 _ _ n2.at_
   have hT3:=s3 _ _ (s02 _ _ hT)
   walk_at "gs"
   refine ⟨_,true,.lst h23,rfl,?_⟩
   walk_at "gs"
   refine ⟨true,.inl ⟨rfl,eq_ints (n:=3) h23 hT3⟩,?_⟩
   walk_at "gs"
   refine ⟨⟨_,.of h23⟩,compG_list (fun _=>.bl true) (.of h23) rfl (by rw [List.length_map];omega) ?_ ?_⟩
   ·intro y H' Q' hy s' q'
    obtain ⟨z,_,rfl⟩:=List.mem_map.mp hy
    walk_at "gs"
    exact ⟨_,rfl,q'⟩
   intro q6 H6 n6
   have e6:(ties.map V.int).map (fun _=>V.bl true)=(ties.map fun _=>true).map V.bl:=by rw [List.map_map,List.map_map];rfl
   rw [e6] at n6
   have s26:=s3.trans n6.same
   have hU6:=hU2.same s26
   have h26:=s26 _ _ n2.at_
   walk_at "gs"
   refine ⟨_,n6.sq,?_⟩
   rw [all_true]
   walk_at "gs"
   refine ⟨⟨_,.of hU6.lst⟩,for_listG (xs:=us.map fun t=>V.ref t.1) (fun i σ H7=>Same H H7∧H7 fl=some (.lst (us.map fun t=>V.ref t.1))∧H7 el=some (.lst (ties.map V.int))∧(∀ (j:Nat) t,us[j]? = some t→(∃ p:Pc,H7 t.1=some (.tup [.int p.1,.ref t.2,.int p.2.2]))∧∃ xs,H7 t.2=some (.lst xs)∧xs.length≤6+i)∧∃ v6,σ=[some (.ref b),some (.int m),some (.ref l),some (.ref tp),some (.ref fl),some (.ref el),v6]) ⟨s02.trans s26,hU6.lst,h26,fun j t ht=>?_,_,rfl⟩ ?_ ?_ ?_⟩
   ·have hj:j<ps.length:=by rw [← hul];exact (List.getElem?_eq_some_iff.mp ht).1
    obtain ⟨g1,g2⟩:=hU6.at_ j t _ ht (List.getElem?_eq_getElem hj)
    exact ⟨⟨_,g1⟩,_,g2,by rw [List.length_map];exact (wp j _ (List.getElem?_eq_getElem hj)).l6⟩
   ·rintro i σ H7 _ ⟨_,h7,_⟩
    exact .of h7
   ·rintro i v σ H7 hv ⟨s7,h7,he7,hu7,v6,rfl⟩
    have hi:i<us.length:=by have:=(List.getElem?_eq_some_iff.mp hv).1;rwa [List.length_map] at this
    rw [List.getElem?_map,List.getElem?_eq_getElem hi] at hv
    have ev:V.ref (us[i]).1=v:=Option.some.inj hv
    subst ev
    clear hv
    obtain ⟨⟨p,g1⟩,xs,g2,gl⟩:=hu7 i _ (List.getElem?_eq_getElem hi)
    obtain ⟨e1,e2,e3⟩:=hun _ (List.getElem_mem hi)
    have ne2:(us[i]).2≠el:=fun z=>by
     have hj:i<ps.length:=by omega
     have:=(hU.at_ i _ _ (List.getElem?_eq_getElem hi) (List.getElem?_eq_getElem hj)).2
     rw [z,n2.was] at this
     cases this
    generalize (us[i]).1=t1 at *
    generalize (us[i]).2=t2 at *
    walk_at "gs"
    refine ⟨_,_,.inr (.of g1),rfl,?_⟩
    walk_at "gs"
    refine ⟨.inl ⟨by trivial,_,.of g2⟩,t2,_,_,rfl,rfl,g2,by omega,s7.put e2,by rw [upd_ne e3.symm];exact h7,by rw [upd_ne ne2.symm];exact he7,fun j t ht=>?_,_,rfl⟩
    obtain ⟨⟨p',f1⟩,ys,f2,f3⟩:=hu7 j t ht
    refine ⟨⟨p',by rw [upd_ne (ne_of f1 g2 (fun z=>nomatch z))];exact f1⟩,?_⟩
    by_cases z:t.2=t2
    ·refine ⟨xs ++ [.int 1],by rw [z,upd_same],?_⟩
     rw [List.length_append]
     simp only [List.length_cons,List.length_nil]
     omega
    ·exact ⟨ys,by rw [upd_ne z];exact f2,by omega⟩
   ·rintro σ H7 ⟨s7,h7,he7,hu7,v6,rfl⟩
    walk_at "gs"
    refine ⟨.inl ⟨by trivial,_,.of h7⟩,fl,_,rfl,rfl,h7,?_⟩
    have he8:upd H7 fl (.lst []) el=some (.lst (ties.map V.int)):=by rw [upd_ne nfe.symm];exact he7
    walk_at "gs"
    refine ⟨.inl ⟨by trivial,_,.of he8⟩,el,_,_,rfl,rfl,he8,by rw [List.length_map];omega,?_⟩
    walk_at "gs"
    exact q _ ((s7.put f1).put fe)
theorem cutM (ns:List Int) (a b:Nat):∃ cs:List Int,cutV (ns.map V.int) (some (a:Int)) (some (b:Int))=cs.map V.int∧cs.length≤b - a∧∀ c∈cs,c∈ns:=by
 unfold cutV
 refine ⟨_,by rw [← List.map_drop,← List.map_take],?_,fun c hc=>List.mem_of_mem_drop (List.mem_of_mem_take hc)⟩
 rw [List.length_take,List.length_drop,HT.sIx_nat,HT.sIx_nat,List.length_map]
 omega
def sp_law (K:PySem.W.Frag):Sp:=fun vs H Q _=>∃ (p:Addr) (ns:List Int),vs=[.ref p]∧SqL K H p (ns.map V.int)∧ns.length≤63∧(∀ c∈ns,Builtin.Int.intBits c≤2 ^ 20)∧∀ H',Q (.bl true) H'
def rd_law (a:Adr) (K:PySem.W.Frag):TS:=(tSeq (tAsg (tOp cAdd (tC (.int 1)) (tOp (cI2c (fun _ j=>0<j) fun i j=>.int (i % j)) (tCall (sp_law_cell_at K) [] E0 (tCons (cVar 0) (tCons (tC (.int 0)) tNil))) (tC (.int 10)))) (gName 1))
  (tSeq (tAsg (tCall (sp_law_pieces K) [] E0 (tCons (tSl (cSlU K) (cVar 0) (cPart (tC (.int 5))) (cPart (tC (.int 45)))) (tCons (cVar 1) tNil))) (gName 2))
  (tSeq (tAsg (tCall (sp_law_ties K) [] E0 (tCons (tCall (sp_law_cell_at K) [] E0 (tCons (cVar 0) (tCons (tC (.int 1)) tNil))) (tCons (cVar 1) (tCons (cVar 2) tNil)))) (gName 3))
  (tSeq (tAsg (tOp (cI2c (fun _ j=>0<j) fun i j=>.int (i % j)) (tCall (sp_law_cell_at K) [] E0 (tCons (cVar 0) (tCons (tC (.int 2)) tNil))) (tC (.int 8))) (gName 4))
  (tMid (tIfS (tAnd (cTst (tOp (cI2 fun i j=>.bl (decide (j<i))) (cVar 4) (tC (.int 3)))) (cTst (tOp (cEq K) (tCB (cLen K) (tCons (cVar 2) tNil)) (tC (.int 0))))) (tAsg (tOp (cI2 fun i j=>.int (i - j)) (cVar 4) (tC (.int 4))) (gName 4)) tNext)
  (tSeq (tAsg (tLst (tCons (tCall (sp_law_copy K) [] E0 (tCons (cVar 2) tNil)) (tCons (tCB (cList K) (tCons (cVar 3) tNil)) tNil))) (gName 5))
  (tMid (tAsg (tMake a.c_Board (sp_Board___init__ a K) [] E0 (tCons (cVar 1) (tCons (tOp (cIx K) (cVar 5) (tC (.int 0))) (tCons (tOp (cIx K) (cVar 5) (tC (.int 1))) tNil)))) (gName 6))
  (tSeq (tIfS (cTst (tOp (cNe K) (cVar 5) (tLst (tCons (cVar 2) (tCons (cVar 3) tNil))))) (tRet (tC (.bl false))) tNext)
  (tSeq (tFor (iList K (tOp (cIx K) (cVar 5) (tC (.int 0)))) (gName 7) (tDrop (tBM0 K "list" rClear (tOp (cIx K) (cVar 7) (tC (.int 1))))))
  (tSeq (tDrop (tBM0 K "list" rClear (tOp (cIx K) (cVar 5) (tC (.int 0)))))
  (tSeq (tDrop (tBM0 K "list" rClear (tOp (cIx K) (cVar 5) (tC (.int 1)))))
  (tSeq (tIfS (tOr (tNot (cTru K (tCall (sp_law_told a K) [] E0 (tCons (cVar 6) (tCons (cVar 1) (tCons (cVar 2) (tCons (cVar 3) tNil))))))) (tNot (cTru K (tCall (sp_law_told a K) [] E0 (tCons (cVar 6) (tCons (cVar 1) (tCons (cVar 2) (tCons (cVar 3) tNil)))))))) (tRet (tC (.bl false))) tNext)
  (tMid (tIfS (cTst (cChain (cI2 fun i j=>.bl (decide (i<j))) (cI2 fun i j=>.bl (decide (i<j))) (tC (.int 0)) (cVar 4) (tC (.int 7)))) (tSeq (tAsg (tCall (sp_law_spoilt K) [] E0 (tCons (cVar 1) (tCons (cVar 2) (tCons (cVar 3) (tCons (cVar 4) (tCons (tCall (sp_law_cell_at K) [] E0 (tCons (cVar 0) (tCons (tC (.int 3)) tNil))) tNil)))))) (gName 8))
  (tIfS (tNot (cTru K (tCall (sp_law_refused a K) [] E0 (tCons (tOp (cIx K) (cVar 8) (tC (.int 0))) (tCons (tOp (cIx K) (cVar 8) (tC (.int 1))) (tCons (tOp (cIx K) (cVar 8) (tC (.int 2))) tNil)))))) (tRet (tC (.bl false))) tNext)) tNext)
  (tRet (tCall (sp_law_told a K) [] E0 (tCons (tMake a.c_Board (sp_Board___init__ a K) [] E0 (tCons (cVar 1) (tCons (tCall (sp_law_copy K) [] E0 (tCons (cVar 2) tNil)) (tCons (tCB (cList K) (tCons (cVar 3) tNil)) tNil)))) (tCons (cVar 1) (tCons (cVar 2) (tCons (cVar 3) tNil)))))))))))))))))))
theorem tm_law (T:Txt K mg a) {cdv:Value}{A:Around}{outer:List Env}{s:Shared}{H:Hp}{E:XK} (hr:Room 6 (A.deeper (envOfC "law" (defScope s_law) s.heap.objs.size a.f_law cdv))) :
  PSs (cxOf CX0 P w K mg base N_law "law" (defScope s_law) a.f_law cdv A outer s H E).nox (defBody s_law) (rd_law a K) :=
 (pss_cons (ps_set (i:=1) sc_law.nd rfl (by walk_at "o") (pe_op o_add pe_int (pe_op o_mod (pe_call (ok_law_cell_at T) (hr.mono (by decide)) rfl T.mg_law_cell_at T.fn_law_cell_at.kp T.bi_law_cell_at .nil pass0 (pa_cons (cv 0) (pa_cons pe_int pa_nil))) pe_int)))
   (pss_cons (ps_set (i:=2) sc_law.nd rfl (by walk_at "o") (pe_call (ok_law_pieces T) (hr.mono (by decide)) rfl T.mg_law_pieces T.fn_law_pieces.kp T.bi_law_pieces .nil pass0 (pa_cons (pe_slice s_u (cv 0) (e_part pe_int) (e_part pe_int)) (pa_cons (cv 1) pa_nil))))
   (pss_cons (ps_set (i:=3) sc_law.nd rfl (by walk_at "o") (pe_call (ok_law_ties T) (hr.mono (by decide)) rfl T.mg_law_ties T.fn_law_ties.kp T.bi_law_ties .nil pass0 (pa_cons (pe_call (ok_law_cell_at T) (hr.mono (by decide)) rfl T.mg_law_cell_at T.fn_law_cell_at.kp T.bi_law_cell_at .nil pass0 (pa_cons (cv 0) (pa_cons pe_int pa_nil))) (pa_cons (cv 1) (pa_cons (cv 2) pa_nil)))))
   (pss_cons (ps_set (i:=4) sc_law.nd rfl (by walk_at "o") (pe_op o_mod (pe_call (ok_law_cell_at T) (hr.mono (by decide)) rfl T.mg_law_cell_at T.fn_law_cell_at.kp T.bi_law_cell_at .nil pass0 (pa_cons (cv 0) (pa_cons pe_int pa_nil))) pe_int))
   (pss_mid (ps_if (PW.pt (pw_and (t_cmp o_gt (cv 4) pe_int (nomark _)) (pw_and1 (t_cmp (o_eq (hr8 hr)) (pe_callB c_len (by rfl) T.no_len PySem.boot_len (pa_cons (cv 2) pa_nil)) pe_int (nomark _))))) (pss_one (ps_set (i:=4) sc_law.nd rfl (by walk_at "o") (pe_op o_sub (cv 4) pe_int))) pss_nil)
   (pss_cons (ps_set (i:=5) sc_law.nd rfl (by walk_at "o") (pe_lst (pa_cons (pe_call (ok_law_copy T) (hr.mono (by decide)) rfl T.mg_law_copy T.fn_law_copy.kp T.bi_law_copy .nil pass0 (pa_cons (cv 2) pa_nil)) (pa_cons (pe_callTy c_list (by rfl) T.no_list PyProof.Rows.boot_list (pa_cons (cv 3) pa_nil)) pa_nil))))
   (pss_mid (ps_set (i:=6) sc_law.nd rfl (by walk_at "o") (pe_make T.mk_Board (ok_Board___init__ T) (hr.mono (by decide)) rfl T.mg_Board T.bi_Board___init__ .nil passN (pa_cons (cv 1) (pa_cons (pe_ix i_seq (cv 5) pe_int (fun _ _=>rfl)) (pa_cons (pe_ix i_seq (cv 5) pe_int (fun _ _=>rfl)) pa_nil)))))
   (pss_cons (ps_if (t_cmp (o_ne (hr8 hr)) (cv 5) (pe_lst (pa_cons (cv 2) (pa_cons (cv 3) pa_nil))) (nomark _)) (pss_one (ps_ret pe_bl)) pss_nil)
   (pss_cons (ps_for PassesOwn.never rfl (pi_list (pe_ix i_seq (cv 5) pe_int (fun _ _=>rfl))) (pg_name (i:=7) sc_law.nd rfl (by walk_at "o")) (pss_one (ps_expr (pe_bm0 PySem.F.plainAttrs_list PySem.F.slot_list_clear PySem.F.type_list_clear (mtr mt_clear) (pe_ix i_seq (cv 7) pe_int (fun _ _=>rfl))))))
   (pss_cons (ps_expr (pe_bm0 PySem.F.plainAttrs_list PySem.F.slot_list_clear PySem.F.type_list_clear (mtr mt_clear) (pe_ix i_seq (cv 5) pe_int (fun _ _=>rfl))))
   (pss_cons (ps_expr (pe_bm0 PySem.F.plainAttrs_list PySem.F.slot_list_clear PySem.F.type_list_clear (mtr mt_clear) (pe_ix i_seq (cv 5) pe_int (fun _ _=>rfl))))
   (pss_cons (ps_if (PW.pt (pw_or (pt_not (pt_tru (pe_call (ok_law_told T) (hr.mono (by decide)) rfl T.mg_law_told T.fn_law_told.kp T.bi_law_told .nil pass0 (pa_cons (cv 6) (pa_cons (cv 1) (pa_cons (cv 2) (pa_cons (cv 3) pa_nil))))))) (pw_or1 (pt_not (pt_tru (pe_call (ok_law_told T) (hr.mono (by decide)) rfl T.mg_law_told T.fn_law_told.kp T.bi_law_told .nil pass0 (pa_cons (cv 6) (pa_cons (cv 1) (pa_cons (cv 2) (pa_cons (cv 3) pa_nil)))))))))) (pss_one (ps_ret pe_bl)) pss_nil)
   (pss_mid (ps_if (t_chain o_lt o_lt pe_int (cv 4) pe_int) (pss_cons (ps_set (i:=8) sc_law.nd rfl (by walk_at "o") (pe_call (ok_law_spoilt T) (hr.mono (by decide)) rfl T.mg_law_spoilt T.fn_law_spoilt.kp T.bi_law_spoilt .nil pass0 (pa_cons (cv 1) (pa_cons (cv 2) (pa_cons (cv 3) (pa_cons (cv 4) (pa_cons (pe_call (ok_law_cell_at T) (hr.mono (by decide)) rfl T.mg_law_cell_at T.fn_law_cell_at.kp T.bi_law_cell_at .nil pass0 (pa_cons (cv 0) (pa_cons pe_int pa_nil))) pa_nil)))))))
   (pss_one (ps_if (pt_not (pt_tru (pe_call (ok_law_refused T) (hr.mono (by decide)) rfl T.mg_law_refused T.fn_law_refused.kp T.bi_law_refused .nil pass0 (pa_cons (pe_ix i_seq (cv 8) pe_int (fun _ _=>rfl)) (pa_cons (pe_ix i_seq (cv 8) pe_int (fun _ _=>rfl)) (pa_cons (pe_ix i_seq (cv 8) pe_int (fun _ _=>rfl)) pa_nil)))))) (pss_one (ps_ret pe_bl)) pss_nil))) pss_nil)
   (pss_one (ps_ret (pe_call (ok_law_told T) (hr.mono (by decide)) rfl T.mg_law_told T.fn_law_told.kp T.bi_law_told .nil pass0 (pa_cons (pe_make T.mk_Board (ok_Board___init__ T) (hr.mono (by decide)) rfl T.mg_Board T.bi_Board___init__ .nil passN (pa_cons (cv 1) (pa_cons (pe_call (ok_law_copy T) (hr.mono (by decide)) rfl T.mg_law_copy T.fn_law_copy.kp T.bi_law_copy .nil pass0 (pa_cons (cv 2) pa_nil)) (pa_cons (pe_callTy c_list (by rfl) T.no_list PyProof.Rows.boot_list (pa_cons (cv 3) pa_nil)) pa_nil)))) (pa_cons (cv 1) (pa_cons (cv 2) (pa_cons (cv 3) pa_nil))))))))))))))))))))
theorem ok_law (T:Txt K mg a):FnOk P w K mg base CX0 7 a.f_law a.d_law ["_law_script"] (sp_law K):=by
 refine T.fn_law.ok sc_law (fun vs H Q E h=>?_) (fun cdv A outer s H vs Q E hr h=>⟨_,tm_law T hr,?_⟩)
 ·obtain ⟨p,ns,rfl,_⟩:=h;rfl
 ·obtain ⟨p,ns,rfl,hS,hl,hbt,k⟩:=h
  show rd_law a K _ [some (.ref p),none,none,none,none,none,none,none,none] H
  unfold rd_law
  have big:(20000:Nat)≤sizeLine:=by decide
  walk_at "gs"
  refine ⟨p,ns,0,rfl,hS,fun c0=>?_⟩
  walk_at "gs"
  obtain ⟨m,hm⟩:=Int.eq_ofNat_of_zero_le (by omega:0≤1+c0 % 10)
  rw [hm]
  have m1:1≤m:=by omega
  have m10:m≤10:=by omega
  refine ⟨_,hS,fun q2 H2 n2=>?_⟩
  obtain ⟨cs,hcs,hcl,hcm⟩:=cutM ns 5 45
  rw [show cutV (ns.map V.int) (some 5) (some 45)=cs.map V.int from hcs] at n2
  refine ⟨q2,cs,m,rfl,n2.sq,by omega,fun c hc=>hbt c (hcm c hc),m1,m10,fun l ts ps H3 hl3 s3 hP wp hpl=>?_⟩
  have htl:=hP.len
  have s03:=n2.same.trans s3
  walk_at "gs"
  refine ⟨p,ns,1,rfl,s03.seq hS,fun c1=>?_⟩
  refine ⟨c1,m,l,ts,ps,rfl,hP,wp,m10,by omega,fun tp H5 ties md5 wt htl5=>?_⟩
  obtain ⟨f5,h5,s5⟩:=md5
  have s05:=s03.trans s5
  have hP5:=hP.same s5
  walk_at "gs"
  refine ⟨p,ns,2,rfl,s05.seq hS,fun c2=>?_⟩
  walk_at "gs"
  have w0:0≤c2 % 8∧c2 % 8<8:=by omega
  generalize c2 % 8=way0 at w0
  refine mid (fun σ' H'=>H'=H5∧∃ way:Int,0≤way∧way<8∧(3<way→1≤ps.length)∧σ'=[some (.ref p),some (.int m),some (.ref l),some (.ref tp),some (.int way),none,none,none,none]) ?_ ?_
  ·intro N hN
   walk_at "gs"
   by_cases g:3<way0
   ·rw [if_pos g]
    refine .inl ⟨_,.inl (.of hP5.lst),?_⟩
    rw [List.length_map]
    by_cases g0:(ts.length:Int)=0
    ·rw [if_pos g0]
     walk_at "gs"
     exact hN _ _ ⟨rfl,_,by omega,by omega,fun z=>by omega,rfl⟩
    ·rw [if_neg g0]
     exact hN _ _ ⟨rfl,_,w0.1,w0.2,fun _=>by omega,rfl⟩
   ·rw [if_neg g]
    exact hN _ _ ⟨rfl,_,w0.1,w0.2,fun z=>absurd z g,rfl⟩
  rintro σ6 H6 ⟨rfl,way,wa0,wa8,wne,rfl⟩
  walk_at "gs"
  refine ⟨l,ts,ps,rfl,hP5,by omega,fun hp us H7 f7 s7 hU hun=>?_⟩
  refine ⟨_,.inl (.of (s7 _ _ h5)),fun ep H8 n8=>?_⟩
  refine ⟨by show 2≤sizeLine;decide,fun hd H9 n9=>?_⟩
  have s69:=(s7.trans n8.same).trans n9.same
  have hU9:=hU.same (n8.same.trans n9.same)
  have he9:=n9.same _ _ n8.at_
  have hP9:=hP5.same s69
  have h59:=s69 _ _ h5
  have fe6:H6 ep=none:=s7.nil n8.was
  have fd6:H6 hd=none:=(s7.trans n8.same).nil n9.was
  have nhe:hp≠ep:=ne_of_none hU.lst n8.was
  have nhd:hp≠hd:=ne_of_none (n8.same _ _ hU.lst) n9.was
  have ned:ep≠hd:=ne_of_none n8.at_ n9.was
  refine mid (fun σ' H'=>∃ x,Same H9 H'∧BoardAt a.c_Board H' x m ps ties∧σ'=[some (.ref p),some (.int m),some (.ref l),some (.ref tp),some (.int way),some (.ref hd),some (.ref x),none,none]) ?_ ?_
  ·intro N hN
   walk_at "gs"
   refine ⟨_,_,.inl n9.sq,rfl,?_⟩
   refine ⟨_,_,.inl n9.sq,rfl,?_⟩
   refine mk_Board hU9 he9 wp wt m1 m10 (by omega) fun x H10 s10 hB=>?_
   exact hN _ _ ⟨x,s10,hB,rfl⟩
  rintro σ10 H10 ⟨x,s10,hB,rfl⟩
  have hd10:=s10 _ _ n9.at_
  have hU10:=hU9.same s10
  have he10:=s10 _ _ he9
  have hP10:=hP9.same s10
  have h510:=s10 _ _ h59
  have s610:=s69.trans s10
  walk_at "gs"
  refine ⟨by show 2≤sizeLine;decide,fun q11 H11 n11=>?_⟩
  refine ⟨true,.inl ⟨rfl,?_⟩,?_⟩
  ·refine DeepEq.lst (n:=3) (.of (n11.same _ _ hd10)) (.of n11.at_) rfl fun j y z hy hz=>?_
   match j,hy,hz with
   | 0,hy,hz=>cases hy;cases hz;exact eq_pieces (n:=0) (hU10.same n11.same) (hP10.same n11.same)
   | 1,hy,hz=>cases hy;cases hz;exact eq_ints (n:=2) (n11.same _ _ he10) (n11.same _ _ h510)
   | j+2,hy,_=>cases hy
  have hd11:=n11.same _ _ hd10
  have hU11:=hU10.same n11.same
  have he11:=n11.same _ _ he10
  have s611:=s610.trans n11.same
  have hB11:=hB.same n11.same
  have hul:=hU11.len
  walk_at "gs"
  refine ⟨_,_,.inl (.of hd11),rfl,?_⟩
  refine ⟨⟨_,.of hU11.lst⟩,for_listG (xs:=us.map fun t=>V.ref t.1) (fun i σ H7=>Same H6 H7∧NL H11 H7∧H7 hd=some (.lst [.ref hp,.ref ep])∧H7 hp=some (.lst (us.map fun t=>V.ref t.1))∧H7 ep=some (.lst (ties.map V.int))∧(∀ t∈us,∃ xs,H7 t.2=some (.lst xs))∧∃ v7,σ=[some (.ref p),some (.int m),some (.ref l),some (.ref tp),some (.int way),some (.ref hd),some (.ref x),v7,none]) ⟨s611,NL.of fun _ _ e=>e,hd11,hU11.lst,he11,fun t ht=>?_,_,rfl⟩ ?_ ?_ ?_⟩
  ·obtain ⟨j,hj⟩:=List.mem_iff_getElem?.mp ht
   have hjl:j<ps.length:=by rw [← hul];exact (List.getElem?_eq_some_iff.mp hj).1
   exact ⟨_,(hU11.at_ j t _ hj (List.getElem?_eq_getElem hjl)).2⟩
  ·rintro i σ H7 _ ⟨_,_,_,h7,_⟩
   exact .of h7
  ·rintro i v σ H12 hv ⟨s12,nl12,hd12,h12,he12,hu12,v7,rfl⟩
   have hi:i<us.length:=by have:=(List.getElem?_eq_some_iff.mp hv).1;rwa [List.length_map] at this
   rw [List.getElem?_map,List.getElem?_eq_getElem hi] at hv
   have ev:V.ref (us[i]).1=v:=Option.some.inj hv
   subst ev
   clear hv
   have hgp:=List.getElem?_eq_getElem (l:=ps) (i:=i) (by omega)
   have g1:=(hU11.at_ i _ _ (List.getElem?_eq_getElem hi) hgp).1
   have g1':=nl12 _ _ (by intro _ z;cases z) g1
   obtain ⟨xs,g2⟩:=hu12 _ (List.getElem_mem hi)
   obtain ⟨e1,e2,e3⟩:=hun _ (List.getElem_mem hi)
   have hcx:=(hU.at_ i _ _ (List.getElem?_eq_getElem hi) hgp).2
   have ne2:(us[i]).2≠ep:=ne_of_none hcx n8.was
   have nd2:(us[i]).2≠hd:=ne_of_none (n8.same _ _ hcx) n9.was
   generalize (us[i]).1=t1 at *
   generalize (us[i]).2=t2 at *
   walk_at "gs"
   refine ⟨_,_,.inr (.of g1'),rfl,?_⟩
   walk_at "gs"
   refine ⟨.inl ⟨by trivial,_,.of g2⟩,t2,_,rfl,rfl,g2,s12.put e2,nl12.trans (NL.upd g2),by rw [upd_ne nd2.symm];exact hd12,by rw [upd_ne e3.symm];exact h12,by rw [upd_ne ne2.symm];exact he12,fun t ht=>?_,_,rfl⟩
   obtain ⟨ys,f2⟩:=hu12 t ht
   by_cases z:t.2=t2
   ·exact ⟨[],by rw [z,upd_same]⟩
   ·exact ⟨ys,by rw [upd_ne z];exact f2⟩
  ·rintro σ H12 ⟨s12,nl12,hd12,h12,he12,hu12,v7,rfl⟩
   walk_at "gs"
   refine ⟨_,_,.inl (.of hd12),rfl,?_⟩
   walk_at "gs"
   refine ⟨.inl ⟨by trivial,_,.of h12⟩,hp,_,rfl,rfl,h12,?_⟩
   have hd13:upd H12 hp (.lst []) hd=some (.lst [.ref hp,.ref ep]):=by rw [upd_ne nhd.symm];exact hd12
   have he13:upd H12 hp (.lst []) ep=some (.lst (ties.map V.int)):=by rw [upd_ne nhe.symm];exact he12
   have s13:Same H6 (upd H12 hp (.lst [])):=s12.put f7
   have nl13:=nl12.trans (NL.upd (o:=.lst []) h12)
   generalize upd H12 hp (.lst [])=H13 at hd13 he13 s13 nl13 ⊢
   walk_at "gs"
   refine ⟨_,_,.inl (.of hd13),rfl,?_⟩
   walk_at "gs"
   refine ⟨.inl ⟨by trivial,_,.of he13⟩,ep,_,rfl,rfl,he13,?_⟩
   have s14:Same H6 (upd H13 ep (.lst [])):=s13.put fe6
   have nl14:=nl13.trans (NL.upd (o:=.lst []) he13)
   generalize upd H13 ep (.lst [])=H14 at s14 nl14 ⊢
   have hB14:=hB11.nl nl14
   have hP14:=hP5.same s14
   have hT14:=s14 _ _ h5
   walk_at "gs"
   refine ⟨x,l,tp,m,ts,ps,ties,rfl,hB14,hP14,hT14,wp,by omega,by omega,fun H15 s15=>?_⟩
   walk_at "gs"
   refine ⟨x,l,tp,m,ts,ps,ties,rfl,hB14.same s15,hP14.same s15,s15 _ _ hT14,wp,by omega,by omega,fun H16 s16=>?_⟩
   have s616:=s14.trans (s15.trans s16)
   walk_at "gs"
   refine mid (fun σ' H'=>Same H6 H'∧∃ v7 v8,σ'=[some (.ref p),some (.int m),some (.ref l),some (.ref tp),some (.int way),some (.ref hd),some (.ref x),v7,v8]) ?_ ?_
   ·intro N hN
    walk_at "gs"
    by_cases g0:0<way
    ·rw [if_pos g0]
     by_cases g7:way<7
     ·rw [if_pos g7]
      walk_at "gs"
      refine ⟨p,ns,3,rfl,(s05.trans s616).seq hS,fun c3=>?_⟩
      refine ⟨m,l,tp,ts,ps,ties,way,c3,rfl,hP5.same s616,wp,s616 _ _ h5,wt,m1,m10,by omega,by omega,by omega,wne,fun w mv l' tp' H17 s17 h17 hbad=>?_⟩
      walk_at "gs"
      refine ⟨_,_,.inl (.of h17),rfl,?_⟩
      refine ⟨_,_,.inl (.of h17),rfl,?_⟩
      refine ⟨_,_,.inl (.of h17),rfl,?_⟩
      refine ⟨mv,l',tp',rfl,hbad,fun H18 s18=>?_⟩
      walk_at "gs"
      exact hN _ _ ⟨s616.trans (s17.trans s18),_,_,rfl⟩
     ·rw [if_neg g7]
      exact hN _ _ ⟨s616,_,_,rfl⟩
    ·rw [if_neg g0]
     exact hN _ _ ⟨s616,_,_,rfl⟩
   rintro σ17 H17 ⟨s17,v7',v8,rfl⟩
   have hP17:=hP5.same s17
   walk_at "gs"
   refine ⟨l,ts,ps,rfl,hP17,by omega,fun hq ws H18 f18 s18 hW hwn=>?_⟩
   refine ⟨_,.inl (.of (s18 _ _ (s17 _ _ h5))),fun eq H19 n19=>?_⟩
   refine mk_Board (hW.same n19.same) n19.at_ wp wt m1 m10 (by omega) fun y H20 s20 hC=>?_
   have s620:=s17.trans ((s18.trans n19.same).trans s20)
   refine ⟨y,l,tp,m,ts,ps,ties,rfl,hC,hP5.same s620,s620 _ _ h5,wp,by omega,by omega,fun H21 s21=>?_⟩
   exact k H21
theorem lenN1 {us:List Value} (h:us.length=1):∃ a,us=[a]:=List.length_eq_one_iff.mp h
theorem lenN2 {us:List Value} (h:us.length=2):∃ a b,us=[a,b]:=by
 obtain _ | ⟨a,t⟩:=us
 ·cases h
 ·obtain ⟨b,rfl⟩:=lenN1 (Nat.succ.inj h)
  exact ⟨a,b,rfl⟩
theorem lenN3 {us:List Value} (h:us.length=3):∃ a b c,us=[a,b,c]:=by
 obtain _ | ⟨a,t⟩:=us
 ·cases h
 ·obtain ⟨b,c,rfl⟩:=lenN2 (Nat.succ.inj h)
  exact ⟨a,b,c,rfl⟩
theorem lenN4 {us:List Value} (h:us.length=4):∃ a b c d,us=[a,b,c,d]:=by
 obtain _ | ⟨a,t⟩:=us
 ·cases h
 ·obtain ⟨b,c,d,rfl⟩:=lenN3 (Nat.succ.inj h)
  exact ⟨a,b,c,d,rfl⟩
theorem lenN5 {us:List Value} (h:us.length=5):∃ a b c d e,us=[a,b,c,d,e]:=by
 obtain _ | ⟨a,t⟩:=us
 ·cases h
 ·obtain ⟨b,c,d,e,rfl⟩:=lenN4 (Nat.succ.inj h)
  exact ⟨a,b,c,d,e,rfl⟩
theorem all_mk {l:PySem.W.OpenLaw}{w:World}{K:PySem.W.Frag}{h:Heap}{mg:Str→Option Value}{fa:Addr} (X:K.In h) (G:h.Ns mainGlobals mg) (hfa:mg "law" = some (.ref fa))
  {f0:Addr}{od0 an0:Option Addr}{sl0:Array (Option Value)}{oc0 kV0 dc0 pm0 cd0 ct0:Value}{f1:Addr}{od1 an1:Option Addr}{sl1:Array (Option Value)}{oc1 kV1 dc1 pm1 cd1 ct1:Value}{f2:Addr}{od2 an2:Option Addr}{sl2:Array (Option Value)}{oc2 kV2 dc2 pm2 cd2 ct2:Value}{f3:Addr}{od3 an3:Option Addr}{sl3:Array (Option Value)}{oc3 kV3 dc3 pm3 cd3 ct3:Value}{f4:Addr}{od4 an4:Option Addr}{sl4:Array (Option Value)}{oc4 kV4 dc4 pm4 cd4 ct4:Value}{f5:Addr}{od5 an5:Option Addr}{sl5:Array (Option Value)}{oc5 kV5 dc5 pm5 cd5 ct5:Value}{f6:Addr}{od6 an6:Option Addr}{sl6:Array (Option Value)}{oc6 kV6 dc6 pm6 cd6 ct6:Value}{f7:Addr}{od7 an7:Option Addr}{sl7:Array (Option Value)}{oc7 kV7 dc7 pm7 cd7 ct7:Value}{f8:Addr}{od8 an8:Option Addr}{sl8:Array (Option Value)}{oc8 kV8 dc8 pm8 cd8 ct8:Value}{f9:Addr}{od9 an9:Option Addr}{sl9:Array (Option Value)}{oc9 kV9 dc9 pm9 cd9 ct9:Value}{f10:Addr}{od10 an10:Option Addr}{sl10:Array (Option Value)}{oc10 kV10 dc10 pm10 cd10 ct10:Value}{f11:Addr}{od11 an11:Option Addr}{sl11:Array (Option Value)}{oc11 kV11 dc11 pm11 cd11 ct11:Value}{f12:Addr}{od12 an12:Option Addr}{sl12:Array (Option Value)}{oc12 kV12 dc12 pm12 cd12 ct12:Value}{f13:Addr}{od13 an13:Option Addr}{sl13:Array (Option Value)}{oc13 kV13 dc13 pm13 cd13 ct13:Value}{f14:Addr}{od14 an14:Option Addr}{sl14:Array (Option Value)}{oc14 kV14 dc14 pm14 cd14 ct14:Value}{f15:Addr}{od15 an15:Option Addr}{sl15:Array (Option Value)}{oc15 kV15 dc15 pm15 cd15 ct15:Value}{f16:Addr}{od16 an16:Option Addr}{sl16:Array (Option Value)}{oc16 kV16 dc16 pm16 cd16 ct16:Value}{f17:Addr}{od17 an17:Option Addr}{sl17:Array (Option Value)}{oc17 kV17 dc17 pm17 cd17 ct17:Value}{f18:Addr}{od18 an18:Option Addr}{sl18:Array (Option Value)}{oc18 kV18 dc18 pm18 cd18 ct18:Value}{f19:Addr}{od19 an19:Option Addr}{sl19:Array (Option Value)}{oc19 kV19 dc19 pm19 cd19 ct19:Value}{f20:Addr}{od20 an20:Option Addr}{sl20:Array (Option Value)}{oc20 kV20 dc20 pm20 cd20 ct20:Value}{f21:Addr}{od21 an21:Option Addr}{sl21:Array (Option Value)}{oc21 kV21 dc21 pm21 cd21 ct21:Value}{f22:Addr}{od22 an22:Option Addr}{sl22:Array (Option Value)}{oc22 kV22 dc22 pm22 cd22 ct22:Value}{f23:Addr}{od23 an23:Option Addr}{sl23:Array (Option Value)}{oc23 kV23 dc23 pm23 cd23 ct23:Value}{f24:Addr}{od24 an24:Option Addr}{sl24:Array (Option Value)}{oc24 kV24 dc24 pm24 cd24 ct24:Value}{C_Board:Addr}{C_FoldError:Addr}{C_NoBoard:Addr}{C_NoCut:Addr}{C_NoGoal:Addr}{C_NoKnot:Addr}{C_NoLine:Addr}{C_NoMatch:Addr}{C_NoName:Addr}{C_NoSize:Addr}{C_NoText:Addr}{C_NoTie:Addr}{ug_GREATEST_KNOT:Tok}{ug_LONGEST_CUT:Tok}{ug_MOST_INPUTS:Tok}
  (aC_Board:PySem.W.nsIn K mainGlobals "Board" = some (some (.ref C_Board)))
  (aC_FoldError:PySem.W.nsIn K mainGlobals "FoldError" = some (some (.ref C_FoldError)))
  (aC_NoBoard:PySem.W.nsIn K mainGlobals "NoBoard" = some (some (.ref C_NoBoard)))
  (aC_NoCut:PySem.W.nsIn K mainGlobals "NoCut" = some (some (.ref C_NoCut)))
  (aC_NoGoal:PySem.W.nsIn K mainGlobals "NoGoal" = some (some (.ref C_NoGoal)))
  (aC_NoKnot:PySem.W.nsIn K mainGlobals "NoKnot" = some (some (.ref C_NoKnot)))
  (aC_NoLine:PySem.W.nsIn K mainGlobals "NoLine" = some (some (.ref C_NoLine)))
  (aC_NoMatch:PySem.W.nsIn K mainGlobals "NoMatch" = some (some (.ref C_NoMatch)))
  (aC_NoName:PySem.W.nsIn K mainGlobals "NoName" = some (some (.ref C_NoName)))
  (aC_NoSize:PySem.W.nsIn K mainGlobals "NoSize" = some (some (.ref C_NoSize)))
  (aC_NoText:PySem.W.nsIn K mainGlobals "NoText" = some (some (.ref C_NoText)))
  (aC_NoTie:PySem.W.nsIn K mainGlobals "NoTie" = some (some (.ref C_NoTie)))
  (a0:PySem.W.nsIn K mainGlobals "full_column" = some (some (.ref f0)))
  (l0:K.lookup f0=some ⟨oc0,od0,.func (PySem.W.fnOf "full_column" "full_column" (defArgs s_full_column) (defBody s_full_column) (defScope s_full_column) .none kV0 dc0 pm0 an0 cd0 ct0),sl0⟩)
  (c0:PySem.W.codeIn K cd0 "full_column" = true)
  (k0:PySem.W.keepIn K (.ref f0)=true)
  (a1:PySem.W.nsIn K mainGlobals "is_whole" = some (some (.ref f1)))
  (l1:K.lookup f1=some ⟨oc1,od1,.func (PySem.W.fnOf "is_whole" "is_whole" (defArgs s_is_whole) (defBody s_is_whole) (defScope s_is_whole) .none kV1 dc1 pm1 an1 cd1 ct1),sl1⟩)
  (c1:PySem.W.codeIn K cd1 "is_whole" = true)
  (k1:PySem.W.keepIn K (.ref f1)=true)
  (a2:PySem.W.nsIn K mainGlobals "is_between" = some (some (.ref f2)))
  (l2:K.lookup f2=some ⟨oc2,od2,.func (PySem.W.fnOf "is_between" "is_between" (defArgs s_is_between) (defBody s_is_between) (defScope s_is_between) .none kV2 dc2 pm2 an2 cd2 ct2),sl2⟩)
  (c2:PySem.W.codeIn K cd2 "is_between" = true)
  (k2:PySem.W.keepIn K (.ref f2)=true)
  (a3:PySem.W.nsIn K mainGlobals "is_rising" = some (some (.ref f3)))
  (l3:K.lookup f3=some ⟨oc3,od3,.func (PySem.W.fnOf "is_rising" "is_rising" (defArgs s_is_rising) (defBody s_is_rising) (defScope s_is_rising) .none kV3 dc3 pm3 an3 cd3 ct3),sl3⟩)
  (c3:PySem.W.codeIn K cd3 "is_rising" = true)
  (k3:PySem.W.keepIn K (.ref f3)=true)
  (a4:PySem.W.nsIn K mainGlobals "is_cut_of" = some (some (.ref f4)))
  (l4:K.lookup f4=some ⟨oc4,od4,.func (PySem.W.fnOf "is_cut_of" "is_cut_of" (defArgs s_is_cut_of) (defBody s_is_cut_of) (defScope s_is_cut_of) .none kV4 dc4 pm4 an4 cd4 ct4),sl4⟩)
  (c4:PySem.W.codeIn K cd4 "is_cut_of" = true)
  (k4:PySem.W.keepIn K (.ref f4)=true)
  (a5:PySem.W.nsIn K mainGlobals "need_pieces" = some (some (.ref f5)))
  (l5:K.lookup f5=some ⟨oc5,od5,.func (PySem.W.fnOf "need_pieces" "need_pieces" (defArgs s_need_pieces) (defBody s_need_pieces) (defScope s_need_pieces) .none kV5 dc5 pm5 an5 cd5 ct5),sl5⟩)
  (c5:PySem.W.codeIn K cd5 "need_pieces" = true)
  (k5:PySem.W.keepIn K (.ref f5)=true)
  (a6:PySem.W.nsIn K mainGlobals "need_ties" = some (some (.ref f6)))
  (l6:K.lookup f6=some ⟨oc6,od6,.func (PySem.W.fnOf "need_ties" "need_ties" (defArgs s_need_ties) (defBody s_need_ties) (defScope s_need_ties) .none kV6 dc6 pm6 an6 cd6 ct6),sl6⟩)
  (c6:PySem.W.codeIn K cd6 "need_ties" = true)
  (k6:PySem.W.keepIn K (.ref f6)=true)
  (a7:PySem.W.findIn K (.ref C_Board) "__init__" = some (some (.ref f7)))
  (i7:PySem.W.isFn K (.ref f7)=true)
  (l7:K.lookup f7=some ⟨oc7,od7,.func (PySem.W.fnOf "__init__" "Board.__init__" (defArgs s_Board___init__) (defBody s_Board___init__) (defScope s_Board___init__) .none kV7 dc7 pm7 an7 cd7 ct7),sl7⟩)
  (c7:PySem.W.codeIn K cd7 "Board.__init__" = true)
  (k7:PySem.W.keepIn K (.ref f7)=true)
  (a8:PySem.W.findIn K (.ref C_Board) "pieces" = some (some (.ref f8)))
  (i8:PySem.W.isFn K (.ref f8)=true)
  (l8:K.lookup f8=some ⟨oc8,od8,.func (PySem.W.fnOf "pieces" "Board.pieces" (defArgs s_Board_pieces) (defBody s_Board_pieces) (defScope s_Board_pieces) .none kV8 dc8 pm8 an8 cd8 ct8),sl8⟩)
  (c8:PySem.W.codeIn K cd8 "Board.pieces" = true)
  (k8:PySem.W.keepIn K (.ref f8)=true)
  (a9:PySem.W.findIn K (.ref C_Board) "ties" = some (some (.ref f9)))
  (i9:PySem.W.isFn K (.ref f9)=true)
  (l9:K.lookup f9=some ⟨oc9,od9,.func (PySem.W.fnOf "ties" "Board.ties" (defArgs s_Board_ties) (defBody s_Board_ties) (defScope s_Board_ties) .none kV9 dc9 pm9 an9 cd9 ct9),sl9⟩)
  (c9:PySem.W.codeIn K cd9 "Board.ties" = true)
  (k9:PySem.W.keepIn K (.ref f9)=true)
  (a10:PySem.W.nsIn K mainGlobals "_law_cell_at" = some (some (.ref f10)))
  (l10:K.lookup f10=some ⟨oc10,od10,.func (PySem.W.fnOf "_law_cell_at" "_law_cell_at" (defArgs s_law_cell_at) (defBody s_law_cell_at) (defScope s_law_cell_at) .none kV10 dc10 pm10 an10 cd10 ct10),sl10⟩)
  (c10:PySem.W.codeIn K cd10 "_law_cell_at" = true)
  (k10:PySem.W.keepIn K (.ref f10)=true)
  (a11:PySem.W.nsIn K mainGlobals "_law_cut" = some (some (.ref f11)))
  (l11:K.lookup f11=some ⟨oc11,od11,.func (PySem.W.fnOf "_law_cut" "_law_cut" (defArgs s_law_cut) (defBody s_law_cut) (defScope s_law_cut) .none kV11 dc11 pm11 an11 cd11 ct11),sl11⟩)
  (c11:PySem.W.codeIn K cd11 "_law_cut" = true)
  (k11:PySem.W.keepIn K (.ref f11)=true)
  (a12:PySem.W.nsIn K mainGlobals "_law_piece" = some (some (.ref f12)))
  (l12:K.lookup f12=some ⟨oc12,od12,.func (PySem.W.fnOf "_law_piece" "_law_piece" (defArgs s_law_piece) (defBody s_law_piece) (defScope s_law_piece) .none kV12 dc12 pm12 an12 cd12 ct12),sl12⟩)
  (c12:PySem.W.codeIn K cd12 "_law_piece" = true)
  (k12:PySem.W.keepIn K (.ref f12)=true)
  (a13:PySem.W.nsIn K mainGlobals "_law_pieces" = some (some (.ref f13)))
  (l13:K.lookup f13=some ⟨oc13,od13,.func (PySem.W.fnOf "_law_pieces" "_law_pieces" (defArgs s_law_pieces) (defBody s_law_pieces) (defScope s_law_pieces) .none kV13 dc13 pm13 an13 cd13 ct13),sl13⟩)
  (c13:PySem.W.codeIn K cd13 "_law_pieces" = true)
  (k13:PySem.W.keepIn K (.ref f13)=true)
  (a14:PySem.W.nsIn K mainGlobals "_law_ties" = some (some (.ref f14)))
  (l14:K.lookup f14=some ⟨oc14,od14,.func (PySem.W.fnOf "_law_ties" "_law_ties" (defArgs s_law_ties) (defBody s_law_ties) (defScope s_law_ties) .none kV14 dc14 pm14 an14 cd14 ct14),sl14⟩)
  (c14:PySem.W.codeIn K cd14 "_law_ties" = true)
  (k14:PySem.W.keepIn K (.ref f14)=true)
  (a15:PySem.W.nsIn K mainGlobals "_law_copy" = some (some (.ref f15)))
  (l15:K.lookup f15=some ⟨oc15,od15,.func (PySem.W.fnOf "_law_copy" "_law_copy" (defArgs s_law_copy) (defBody s_law_copy) (defScope s_law_copy) .none kV15 dc15 pm15 an15 cd15 ct15),sl15⟩)
  (c15:PySem.W.codeIn K cd15 "_law_copy" = true)
  (k15:PySem.W.keepIn K (.ref f15)=true)
  (a16:PySem.W.nsIn K mainGlobals "_law_whole" = some (some (.ref f16)))
  (l16:K.lookup f16=some ⟨oc16,od16,.func (PySem.W.fnOf "_law_whole" "_law_whole" (defArgs s_law_whole) (defBody s_law_whole) (defScope s_law_whole) .none kV16 dc16 pm16 an16 cd16 ct16),sl16⟩)
  (c16:PySem.W.codeIn K cd16 "_law_whole" = true)
  (k16:PySem.W.keepIn K (.ref f16)=true)
  (a17:PySem.W.nsIn K mainGlobals "_law_told" = some (some (.ref f17)))
  (l17:K.lookup f17=some ⟨oc17,od17,.func (PySem.W.fnOf "_law_told" "_law_told" (defArgs s_law_told) (defBody s_law_told) (defScope s_law_told) .none kV17 dc17 pm17 an17 cd17 ct17),sl17⟩)
  (c17:PySem.W.codeIn K cd17 "_law_told" = true)
  (k17:PySem.W.keepIn K (.ref f17)=true)
  (a18:PySem.W.nsIn K mainGlobals "_law_no_number" = some (some (.ref f18)))
  (l18:K.lookup f18=some ⟨oc18,od18,.func (PySem.W.fnOf "_law_no_number" "_law_no_number" (defArgs s_law_no_number) (defBody s_law_no_number) (defScope s_law_no_number) .none kV18 dc18 pm18 an18 cd18 ct18),sl18⟩)
  (c18:PySem.W.codeIn K cd18 "_law_no_number" = true)
  (k18:PySem.W.keepIn K (.ref f18)=true)
  (a19:PySem.W.nsIn K mainGlobals "_law_wrong_knot" = some (some (.ref f19)))
  (l19:K.lookup f19=some ⟨oc19,od19,.func (PySem.W.fnOf "_law_wrong_knot" "_law_wrong_knot" (defArgs s_law_wrong_knot) (defBody s_law_wrong_knot) (defScope s_law_wrong_knot) .none kV19 dc19 pm19 an19 cd19 ct19),sl19⟩)
  (c19:PySem.W.codeIn K cd19 "_law_wrong_knot" = true)
  (k19:PySem.W.keepIn K (.ref f19)=true)
  (a20:PySem.W.nsIn K mainGlobals "_law_wrong_cut" = some (some (.ref f20)))
  (l20:K.lookup f20=some ⟨oc20,od20,.func (PySem.W.fnOf "_law_wrong_cut" "_law_wrong_cut" (defArgs s_law_wrong_cut) (defBody s_law_wrong_cut) (defScope s_law_wrong_cut) .none kV20 dc20 pm20 an20 cd20 ct20),sl20⟩)
  (c20:PySem.W.codeIn K cd20 "_law_wrong_cut" = true)
  (k20:PySem.W.keepIn K (.ref f20)=true)
  (a21:PySem.W.nsIn K mainGlobals "_law_wrong_tie" = some (some (.ref f21)))
  (l21:K.lookup f21=some ⟨oc21,od21,.func (PySem.W.fnOf "_law_wrong_tie" "_law_wrong_tie" (defArgs s_law_wrong_tie) (defBody s_law_wrong_tie) (defScope s_law_wrong_tie) .none kV21 dc21 pm21 an21 cd21 ct21),sl21⟩)
  (c21:PySem.W.codeIn K cd21 "_law_wrong_tie" = true)
  (k21:PySem.W.keepIn K (.ref f21)=true)
  (a22:PySem.W.nsIn K mainGlobals "_law_spoilt" = some (some (.ref f22)))
  (l22:K.lookup f22=some ⟨oc22,od22,.func (PySem.W.fnOf "_law_spoilt" "_law_spoilt" (defArgs s_law_spoilt) (defBody s_law_spoilt) (defScope s_law_spoilt) .none kV22 dc22 pm22 an22 cd22 ct22),sl22⟩)
  (c22:PySem.W.codeIn K cd22 "_law_spoilt" = true)
  (k22:PySem.W.keepIn K (.ref f22)=true)
  (a23:PySem.W.nsIn K mainGlobals "_law_refused" = some (some (.ref f23)))
  (l23:K.lookup f23=some ⟨oc23,od23,.func (PySem.W.fnOf "_law_refused" "_law_refused" (defArgs s_law_refused) (defBody s_law_refused) (defScope s_law_refused) .none kV23 dc23 pm23 an23 cd23 ct23),sl23⟩)
  (c23:PySem.W.codeIn K cd23 "_law_refused" = true)
  (k23:PySem.W.keepIn K (.ref f23)=true)
  (a24:PySem.W.nsIn K mainGlobals "law" = some (some (.ref f24)))
  (l24:K.lookup f24=some ⟨oc24,od24,.func (PySem.W.fnOf "law" "law" (defArgs s_law) (defBody s_law) (defScope s_law) .none kV24 dc24 pm24 an24 cd24 ct24),sl24⟩)
  (c24:PySem.W.codeIn K cd24 "law" = true)
  (k24:PySem.W.keepIn K (.ref f24)=true)
  (xi_NoBoard:PySem.W.excIn K C_NoBoard [.type "ValueError",.type "Exception",.type "BaseException",.type "object"] "ValueError.__new__" = true)
  (xq_NoBoard:exq K C_NoBoard=true)
  (kv_NoBoard:PySem.W.kitOne K (.ref C_NoBoard) (.type "ValueError")=some true)
  (xm_NoBoard_FoldError:(L2.mroIn K C_NoBoard).contains (.ref C_FoldError)=true)
  (xm_NoBoard_NoBoard:(L2.mroIn K C_NoBoard).contains (.ref C_NoBoard)=true)
  (ko_NoBoard_NoBoard:PySem.W.kitOne K (.ref C_NoBoard) (.ref C_NoBoard)=some true)
  (ko_NoBoard_NoCut:PySem.W.kitOne K (.ref C_NoBoard) (.ref C_NoCut)=some false)
  (ko_NoBoard_NoGoal:PySem.W.kitOne K (.ref C_NoBoard) (.ref C_NoGoal)=some false)
  (ko_NoBoard_NoKnot:PySem.W.kitOne K (.ref C_NoBoard) (.ref C_NoKnot)=some false)
  (ko_NoBoard_NoLine:PySem.W.kitOne K (.ref C_NoBoard) (.ref C_NoLine)=some false)
  (ko_NoBoard_NoMatch:PySem.W.kitOne K (.ref C_NoBoard) (.ref C_NoMatch)=some false)
  (ko_NoBoard_NoName:PySem.W.kitOne K (.ref C_NoBoard) (.ref C_NoName)=some false)
  (ko_NoBoard_NoSize:PySem.W.kitOne K (.ref C_NoBoard) (.ref C_NoSize)=some false)
  (ko_NoBoard_NoText:PySem.W.kitOne K (.ref C_NoBoard) (.ref C_NoText)=some false)
  (ko_NoBoard_NoTie:PySem.W.kitOne K (.ref C_NoBoard) (.ref C_NoTie)=some false)
  (xk_FoldError:PySem.W.ktsIn K C_FoldError "BaseException" = true)
  (xk_NoBoard:PySem.W.ktsIn K C_NoBoard "BaseException" = true)
  (pg_Board:PySem.W.plainGet K C_Board Str.empty=true)
  (hd_Board:PySem.W.hasDictIn K C_Board=true)
  (po_Board:PySem.W.plainOver K C_Board=true)
  (sa_Board:PySem.W.findIn K (.ref C_Board) "__setattr__" = some (some (.builtin "object.__setattr__")))
  (mk_Board:PySem.W.makesIn K C_Board=true)
  (kc_Board:PySem.W.keepIn K (.ref C_Board)=true)
  (n_Board_many:PySem.W.findIn K (.ref C_Board) "many" = some none)
  (n_Board_kept_pieces:PySem.W.findIn K (.ref C_Board) "kept_pieces" = some none)
  (n_Board_kept_ties:PySem.W.findIn K (.ref C_Board) "kept_ties" = some none)
  (g_GREATEST_KNOT:PySem.W.nsIn K mainGlobals "GREATEST_KNOT" = some (some (.int 999 ug_GREATEST_KNOT)))
  (g_LONGEST_CUT:PySem.W.nsIn K mainGlobals "LONGEST_CUT" = some (some (.int 6 ug_LONGEST_CUT)))
  (g_MOST_INPUTS:PySem.W.nsIn K mainGlobals "MOST_INPUTS" = some (some (.int 10 ug_MOST_INPUTS)))
  (z_ValueError:PySem.W.nsIn K mainGlobals "ValueError" = some none)
  (z_all:PySem.W.nsIn K mainGlobals "all" = some none)
  (z_bool:PySem.W.nsIn K mainGlobals "bool" = some none)
  (z_dict:PySem.W.nsIn K mainGlobals "dict" = some none)
  (z_int:PySem.W.nsIn K mainGlobals "int" = some none)
  (z_isinstance:PySem.W.nsIn K mainGlobals "isinstance" = some none)
  (z_len:PySem.W.nsIn K mainGlobals "len" = some none)
  (z_list:PySem.W.nsIn K mainGlobals "list" = some none)
  (z_min:PySem.W.nsIn K mainGlobals "min" = some none)
  (z_range:PySem.W.nsIn K mainGlobals "range" = some none)
  (z_set:PySem.W.nsIn K mainGlobals "set" = some none)
  (z_sorted:PySem.W.nsIn K mainGlobals "sorted" = some none)
  (z_tuple:PySem.W.nsIn K mainGlobals "tuple" = some none)
  (z_zip:PySem.W.nsIn K mainGlobals "zip" = some none) :
  ∃ fd:FuncData,(∀ (s:Shared) (v:Value),BindsTo s fd ⟨[v],[]⟩ [("_law_script",v)])∧∀ base:Heap,K.In base→base.Ns mainGlobals mg→FnOk l.prog w K mg base CX0 7 fa fd ["_law_script"] (sp_law K):=by
 have e:=hfa.symm.trans (PySem.W.mg_of X G a24)
 cases e
 have F0:=fun_mk (st:=s_full_column) l0 c0 k0
 have B0:=F0.binds (ps:=["many"]) fun _ _ _ _ _ _ us hl=>by obtain ⟨_,rfl⟩:=lenN1 hl;rfl
 have F1:=fun_mk (st:=s_is_whole) l1 c1 k1
 have B1:=F1.binds (ps:=["thing"]) fun _ _ _ _ _ _ us hl=>by obtain ⟨_,rfl⟩:=lenN1 hl;rfl
 have F2:=fun_mk (st:=s_is_between) l2 c2 k2
 have B2:=F2.binds (ps:=["thing","least","greatest"]) fun _ _ _ _ _ _ us hl=>by obtain ⟨_,_,_,rfl⟩:=lenN3 hl;rfl
 have F3:=fun_mk (st:=s_is_rising) l3 c3 k3
 have B3:=F3.binds (ps:=["numbers"]) fun _ _ _ _ _ _ us hl=>by obtain ⟨_,rfl⟩:=lenN1 hl;rfl
 have F4:=fun_mk (st:=s_is_cut_of) l4 c4 k4
 have B4:=F4.binds (ps:=["cut","lowers"]) fun _ _ _ _ _ _ us hl=>by obtain ⟨_,_,rfl⟩:=lenN2 hl;rfl
 have F5:=fun_mk (st:=s_need_pieces) l5 c5 k5
 have B5:=F5.binds (ps:=["many","pieces"]) fun _ _ _ _ _ _ us hl=>by obtain ⟨_,_,rfl⟩:=lenN2 hl;rfl
 have F6:=fun_mk (st:=s_need_ties) l6 c6 k6
 have B6:=F6.binds (ps:=["ties","lowers"]) fun _ _ _ _ _ _ us hl=>by obtain ⟨_,_,rfl⟩:=lenN2 hl;rfl
 have F7:=fun_mk (st:=s_Board___init__) l7 c7 k7
 have B7:=F7.binds (ps:=["self","many","pieces","ties"]) fun _ _ _ _ _ _ us hl=>by obtain ⟨_,_,_,_,rfl⟩:=lenN4 hl;rfl
 have F8:=fun_mk (st:=s_Board_pieces) l8 c8 k8
 have B8:=F8.binds (ps:=["self"]) fun _ _ _ _ _ _ us hl=>by obtain ⟨_,rfl⟩:=lenN1 hl;rfl
 have F9:=fun_mk (st:=s_Board_ties) l9 c9 k9
 have B9:=F9.binds (ps:=["self"]) fun _ _ _ _ _ _ us hl=>by obtain ⟨_,rfl⟩:=lenN1 hl;rfl
 have F10:=fun_mk (st:=s_law_cell_at) l10 c10 k10
 have B10:=F10.binds (ps:=["_law_script","_law_k"]) fun _ _ _ _ _ _ us hl=>by obtain ⟨_,_,rfl⟩:=lenN2 hl;rfl
 have F11:=fun_mk (st:=s_law_cut) l11 c11 k11
 have B11:=F11.binds (ps:=["_law_cell","_law_there"]) fun _ _ _ _ _ _ us hl=>by obtain ⟨_,_,rfl⟩:=lenN2 hl;rfl
 have F12:=fun_mk (st:=s_law_piece) l12 c12 k12
 have B12:=F12.binds (ps:=["_law_cell","_law_there"]) fun _ _ _ _ _ _ us hl=>by obtain ⟨_,_,rfl⟩:=lenN2 hl;rfl
 have F13:=fun_mk (st:=s_law_pieces) l13 c13 k13
 have B13:=F13.binds (ps:=["_law_cells","_law_many"]) fun _ _ _ _ _ _ us hl=>by obtain ⟨_,_,rfl⟩:=lenN2 hl;rfl
 have F14:=fun_mk (st:=s_law_ties) l14 c14 k14
 have B14:=F14.binds (ps:=["_law_cell","_law_many","_law_pieces_here"]) fun _ _ _ _ _ _ us hl=>by obtain ⟨_,_,_,rfl⟩:=lenN3 hl;rfl
 have F15:=fun_mk (st:=s_law_copy) l15 c15 k15
 have B15:=F15.binds (ps:=["_law_pieces_here"]) fun _ _ _ _ _ _ us hl=>by obtain ⟨_,rfl⟩:=lenN1 hl;rfl
 have F16:=fun_mk (st:=s_law_whole) l16 c16 k16
 have B16:=F16.binds (ps:=["_law_found"]) fun _ _ _ _ _ _ us hl=>by obtain ⟨_,rfl⟩:=lenN1 hl;rfl
 have F17:=fun_mk (st:=s_law_told) l17 c17 k17
 have B17:=F17.binds (ps:=["_law_board","_law_many","_law_pieces_here","_law_ties_here"]) fun _ _ _ _ _ _ us hl=>by obtain ⟨_,_,_,_,rfl⟩:=lenN4 hl;rfl
 have F18:=fun_mk (st:=s_law_no_number) l18 c18 k18
 have B18:=F18.binds (ps:=["_law_cell"]) fun _ _ _ _ _ _ us hl=>by obtain ⟨_,rfl⟩:=lenN1 hl;rfl
 have F19:=fun_mk (st:=s_law_wrong_knot) l19 c19 k19
 have B19:=F19.binds (ps:=["_law_last","_law_many","_law_cell"]) fun _ _ _ _ _ _ us hl=>by obtain ⟨_,_,_,rfl⟩:=lenN3 hl;rfl
 have F20:=fun_mk (st:=s_law_wrong_cut) l20 c20 k20
 have B20:=F20.binds (ps:=["_law_cut_here","_law_knot","_law_cell"]) fun _ _ _ _ _ _ us hl=>by obtain ⟨_,_,_,rfl⟩:=lenN3 hl;rfl
 have F21:=fun_mk (st:=s_law_wrong_tie) l21 c21 k21
 have B21:=F21.binds (ps:=["_law_many","_law_pieces_here","_law_cell"]) fun _ _ _ _ _ _ us hl=>by obtain ⟨_,_,_,rfl⟩:=lenN3 hl;rfl
 have F22:=fun_mk (st:=s_law_spoilt) l22 c22 k22
 have B22:=F22.binds (ps:=["_law_many","_law_pieces_here","_law_ties_here","_law_way","_law_cell"]) fun _ _ _ _ _ _ us hl=>by obtain ⟨_,_,_,_,_,rfl⟩:=lenN5 hl;rfl
 have F23:=fun_mk (st:=s_law_refused) l23 c23 k23
 have B23:=F23.binds (ps:=["_law_many","_law_pieces_here","_law_ties_here"]) fun _ _ _ _ _ _ us hl=>by obtain ⟨_,_,_,rfl⟩:=lenN3 hl;rfl
 have F24:=fun_mk (st:=s_law) l24 c24 k24
 have B24:=F24.binds (ps:=["_law_script"]) fun _ _ _ _ _ _ us hl=>by obtain ⟨_,rfl⟩:=lenN1 hl;rfl
 have T:Txt K mg ⟨f0,_,f1,_,f2,_,f3,_,f4,_,f5,_,f6,_,f7,_,f8,_,f9,_,f10,_,f11,_,f12,_,f13,_,f14,_,f15,_,f16,_,f17,_,f18,_,f19,_,f20,_,f21,_,f22,_,f23,_,_,_,C_Board,C_FoldError,C_NoBoard,C_NoCut,C_NoGoal,C_NoKnot,C_NoLine,C_NoMatch,C_NoName,C_NoSize,C_NoText,C_NoTie⟩:=⟨PySem.W.mg_of X G a0,F0,B0,PySem.W.mg_of X G a1,F1,B1,PySem.W.mg_of X G a2,F2,B2,PySem.W.mg_of X G a3,F3,B3,PySem.W.mg_of X G a4,F4,B4,PySem.W.mg_of X G a5,F5,B5,PySem.W.mg_of X G a6,F6,B6,F7,B7,F8,B8,⟨a8,i8,k8⟩,F9,B9,⟨a9,i9,k9⟩,PySem.W.mg_of X G a10,F10,B10,PySem.W.mg_of X G a11,F11,B11,PySem.W.mg_of X G a12,F12,B12,PySem.W.mg_of X G a13,F13,B13,PySem.W.mg_of X G a14,F14,B14,PySem.W.mg_of X G a15,F15,B15,PySem.W.mg_of X G a16,F16,B16,PySem.W.mg_of X G a17,F17,B17,PySem.W.mg_of X G a18,F18,B18,PySem.W.mg_of X G a19,F19,B19,PySem.W.mg_of X G a20,F20,B20,PySem.W.mg_of X G a21,F21,B21,PySem.W.mg_of X G a22,F22,B22,PySem.W.mg_of X G a23,F23,B23,PySem.W.mg_of X G a24,F24,B24,PySem.W.mg_of X G aC_Board,⟨pg_Board,hd_Board,po_Board,sa_Board⟩,⟨mk_Board,a7,i7,kc_Board⟩,n_Board_many,n_Board_kept_pieces,n_Board_kept_ties,PySem.W.mg_of X G aC_FoldError,PySem.W.mg_of X G aC_NoBoard,PySem.W.mg_of X G aC_NoCut,PySem.W.mg_of X G aC_NoGoal,PySem.W.mg_of X G aC_NoKnot,PySem.W.mg_of X G aC_NoLine,PySem.W.mg_of X G aC_NoMatch,PySem.W.mg_of X G aC_NoName,PySem.W.mg_of X G aC_NoSize,PySem.W.mg_of X G aC_NoText,PySem.W.mg_of X G aC_NoTie,xi_NoBoard,xq_NoBoard,kv_NoBoard,xm_NoBoard_FoldError,xm_NoBoard_NoBoard,ko_NoBoard_NoBoard,ko_NoBoard_NoCut,ko_NoBoard_NoGoal,ko_NoBoard_NoKnot,ko_NoBoard_NoLine,ko_NoBoard_NoMatch,ko_NoBoard_NoName,ko_NoBoard_NoSize,ko_NoBoard_NoText,ko_NoBoard_NoTie,xk_FoldError,xk_NoBoard,⟨_,PySem.W.mg_of X G g_GREATEST_KNOT,⟨_,rfl⟩⟩,⟨_,PySem.W.mg_of X G g_LONGEST_CUT,⟨_,rfl⟩⟩,⟨_,PySem.W.mg_of X G g_MOST_INPUTS,⟨_,rfl⟩⟩,PySem.W.mg_none_of X G z_ValueError,PySem.W.mg_none_of X G z_all,PySem.W.mg_none_of X G z_bool,PySem.W.mg_none_of X G z_dict,PySem.W.mg_none_of X G z_int,PySem.W.mg_none_of X G z_isinstance,PySem.W.mg_none_of X G z_len,PySem.W.mg_none_of X G z_list,PySem.W.mg_none_of X G z_min,PySem.W.mg_none_of X G z_range,PySem.W.mg_none_of X G z_set,PySem.W.mg_none_of X G z_sorted,PySem.W.mg_none_of X G z_tuple,PySem.W.mg_none_of X G z_zip⟩
 exact ⟨_,fun s v=>.of_eq rfl,fun base _ _=>ok_law T⟩
theorem walk {l:PySem.W.OpenLaw}{q:Program}{loose:List Str}{XP:(Str→Option Value)→Heap→Prop}{YP:World→Heap→Prop}{d:DefRec}{K:Params→PySem.W.Frag} (hn:l.most=some 63) (hdf:d.params.defaults=[])
  (hY:∀ (w:World) (h:Heap),YP w h→(K w.params).In h)
  (F:∀ (w:World) (mg:Str→Option Value) (fa:Addr) (h:Heap),(K w.params).In h→h.Ns mainGlobals mg→mg d.name=some (.ref fa) →
   ∃ fd:FuncData,(∀ (s:Shared) (u:Value),BindsTo s fd ⟨[u],[]⟩ [("_law_script",u)])∧∀ base:Heap,(K w.params).In base→base.Ns mainGlobals mg→FnOk l.prog w (K w.params) mg base CX0 7 fa fd ["_law_script"] (sp_law (K w.params))) :
  PySem.W.WalkO q loose XP YP l.row.toRowW d [] (fun f vs=>PySem.call f vs) :=
 L2.walk_ofB (n:=63) (k:=7) (x:="_law_script") (CX:=fun _=>CX0) (sp:=fun w=>sp_law (K w.params)) hn (by decide) hdf ⟨rfl,by decide,by decide⟩ hY F (fun _ _ a ns hl hb _ hS=>⟨a,ns,rfl,hS,hl,hb,fun _=>rfl⟩) fun _ _ _ _ _ z=>z
end K34
lay_quick PySem.Challenge.pw_gatefold_k34_board_made
namespace OT
open PySem PySem.W PySem.Spec PyProof.Rows L2
abbrev PM:=Params
abbrev OB:=Obj
noncomputable abbrev TP:Program:=PySem.W.Fast.tw12055089946484301158
noncomputable def tT (i:Nat):Stmt:=TP.main.body.getD i (.Pass ⟨0,0,0,0⟩)
abbrev vs (s:Str) (t:Nat):Value:=.str s t
abbrev vr (a:Nat):Value:=.ref a
abbrev vi (a:Int) (t:Nat):Value:=.int a t
abbrev vn:Value:=.none
abbrev df (a:Array Value):Data:=.fields a
abbrev dq (a:Array Value) (n:Nat):Data:=.seq a n
abbrev dd (a:Array DictEntry) (n:Nat):Data:=.dict a n
noncomputable abbrev de (P:Params) (s:Str) (t:Nat) (v:Value):DictEntry:=.mk (PyData.keyHash P s) (.str s t) v
abbrev ob (t:String) (d:Data) (sl:Array (Option Value)):Obj:=⟨.type t,none,d,sl⟩
abbrev nd:=BT.node
abbrev nl:=BT.nil
noncomputable abbrev y0:String:=PySem.W.SL.s2766695959194262286x5
noncomputable abbrev y1:String:=PySem.W.SL.s5856160107412720595x4
noncomputable abbrev y2:String:=PySem.W.SL.s658472552662922059x5
noncomputable abbrev y3:String:=PySem.W.SL.s14018661285674007319x4
noncomputable abbrev y4:String:=PySem.W.SL.s7097527257260152453x26
noncomputable abbrev y5:String:=PySem.W.SL.s7174869446012820540x8
noncomputable abbrev y6:String:=PySem.W.SL.s6070975301684473832x10
noncomputable abbrev y7:String:=PySem.W.SL.s11030030927630378310x26
noncomputable abbrev y8:String:=PySem.W.SL.s10062305145149207511x16
noncomputable abbrev y9:String:=PySem.W.SL.s17162191345867700912x4
noncomputable abbrev y10:String:=PySem.W.SL.s5946037652744460706x9
noncomputable abbrev y11:String:=PySem.W.SL.s4278001404047624695x13
noncomputable abbrev y12:String:=PySem.W.SL.s2742458400755230247x6
noncomputable abbrev y13:String:=PySem.W.SL.s4209523147560561109x18
noncomputable abbrev y14:String:=PySem.W.SL.s14755015743595814543x17
noncomputable abbrev y15:String:=PySem.W.SL.s10220274742760427390x26
noncomputable abbrev y16:String:=PySem.W.SL.s4290257624100764138x5
noncomputable abbrev y17:String:=PySem.W.SL.s4860613602091757760x24
noncomputable abbrev y18:String:=PySem.W.SL.s11443829558043349243x14
noncomputable abbrev y19:String:=PySem.W.SL.s6511155373996960695x17
noncomputable abbrev y20:String:=PySem.W.SL.s12411053484034534018x21
noncomputable abbrev b0 (P:PM):OB:=PySem.W.boot_o_0 P
noncomputable abbrev b1 (P:PM):OB:=PySem.W.boot_o_1 P
noncomputable abbrev b2 (P:PM):OB:=PySem.W.boot_o_2 P
noncomputable abbrev b3 (P:PM):OB:=PySem.W.boot_o_3 P
noncomputable abbrev b4 (P:PM):OB:=PySem.W.boot_o_4 P
noncomputable abbrev b5 (P:PM):OB:=PySem.W.boot_o_5 P
noncomputable abbrev b6 (P:PM):OB:=PySem.W.boot_o_6 P
noncomputable abbrev b7 (P:PM):OB:=PySem.W.boot_o_7 P
noncomputable abbrev b8 (P:PM):OB:=PySem.W.boot_o_8 P
noncomputable abbrev b9 (P:PM):OB:=PySem.W.boot_o_9 P
noncomputable abbrev b10 (P:PM):OB:=PySem.W.boot_o_10 P
noncomputable abbrev j0 (a b:Str) (s:Stmt):OB:=⟨vn,none,.func (.mk a b (defArgs s) (.stmts (defBody s)) (defScope s) 0 [] vn vn vn vn none vn vn 0),⟨[]⟩⟩
noncomputable abbrev j1 (a b:Str) (s:Stmt) (q:Str) (t n:Nat):OB:=⟨(Value.type y5),none,.func (.mk a b (defArgs s) (.stmts (defBody s)) (defScope s) 3 [] vn vn vn (vs q t) none (vr n) vn 0),⟨[]⟩⟩
abbrev q0:Str:=⟨⟨[95,95,109,111,100,117,108,101,95,95]⟩⟩
abbrev q1:Str:=⟨⟨[103,97,116,101,102,111,108,100,46,101,114,114,111,114,115]⟩⟩
abbrev q2:Str:=⟨⟨[95,95,113,117,97,108,110,97,109,101,95,95]⟩⟩
abbrev q3:Str:=⟨⟨[78,111,84,101,120,116]⟩⟩
abbrev q4:Str:=⟨⟨[95,95,102,105,114,115,116,108,105,110,101,110,111,95,95]⟩⟩
abbrev q5:Str:=⟨⟨[95,95,115,116,97,116,105,99,95,97,116,116,114,105,98,117,116,101,115,95,95]⟩⟩
abbrev q6:Str:=⟨⟨[99,111,108,117,109,110,115]⟩⟩
abbrev q7:Str:=⟨⟨[66,111,97,114,100,46,99,111,108,117,109,110,115]⟩⟩
abbrev q8:Str:=⟨⟨[47,99,108,97,105,109,47,99,117,116,46,112,121]⟩⟩
abbrev q9:Str:=⟨⟨[95,108,97,119,95,112,105,101,99,101]⟩⟩
abbrev q10:Str:=⟨⟨[95,108,97,119,95,99,101,108,108]⟩⟩
abbrev q11:Str:=⟨⟨[95,108,97,119,95,116,104,101,114,101]⟩⟩
abbrev q12:Str:=⟨⟨[95,108,97,119,95,107,110,111,116]⟩⟩
abbrev q13:Str:=⟨⟨[95,108,97,119,95,99,111,117,110,116]⟩⟩
abbrev q14:Str:=⟨⟨[95,108,97,119,95,102,111,117,110,100]⟩⟩
abbrev q15:Str:=⟨⟨[95,108,97,119,95,107]⟩⟩
abbrev q19:Str:=⟨⟨[95,108,97,119,95,99,117,116,95,104,101,114,101]⟩⟩
abbrev q22:Str:=⟨⟨[105,115,95,99,117,116,95,111,102]⟩⟩
abbrev q23:Str:=⟨⟨[95,108,97,119,95,110,111,95,110,117,109,98,101,114]⟩⟩
abbrev q27:Str:=⟨⟨[108,97,119,95,103,97,116,101,102,111,108,100,95,107,51,52,95,98,111,97,114,100,95,109,97,100,101]⟩⟩
abbrev q28:Str:=⟨⟨[95,119,97,108,108]⟩⟩
abbrev q29:Str:=⟨⟨[107]⟩⟩
abbrev q30:Str:=⟨⟨[95,95,109,97,105,110,95,95]⟩⟩
abbrev q31:Str:=⟨⟨[70,111,108,100,69,114,114,111,114]⟩⟩
abbrev q32:Str:=⟨⟨[95,108,97,119,95,114,101,102,117,115,101,100]⟩⟩
abbrev q33:Str:=⟨⟨[95,95,100,111,99,95,95]⟩⟩
abbrev q34:Str:=⟨⟨[95,108,97,119,95,99,117,116]⟩⟩
abbrev q35:Str:=⟨⟨[95,108,97,119,95,99,111,112,121]⟩⟩
abbrev q36:Str:=⟨⟨[95,108,97,119,95,112,105,101,99,101,115,95,104,101,114,101]⟩⟩
abbrev q38:Str:=⟨⟨[95,108,97,119,95,116,111,108,100,95,104,101,114,101]⟩⟩
abbrev q41:Str:=⟨⟨[105,115,95,119,104,111,108,101]⟩⟩
abbrev q42:Str:=⟨⟨[116,104,105,110,103]⟩⟩
abbrev q46:Str:=⟨⟨[115,101,108,102]⟩⟩
abbrev q47:Str:=⟨⟨[95,95,110,97,109,101,95,95]⟩⟩
abbrev q48:Str:=⟨⟨[95,95,112,97,99,107,97,103,101,95,95]⟩⟩
abbrev q49:Str:=⟨⟨[95,95,108,111,97,100,101,114,95,95]⟩⟩
abbrev q50:Str:=⟨⟨[95,95,115,112,101,99,95,95]⟩⟩
abbrev q51:Str:=⟨⟨[95,95,97,110,110,111,116,97,116,105,111,110,115,95,95]⟩⟩
abbrev q52:Str:=⟨⟨[95,95,98,117,105,108,116,105,110,115,95,95]⟩⟩
abbrev q53:Str:=⟨⟨[95,95,102,105,108,101,95,95]⟩⟩
abbrev q54:Str:=⟨⟨[95,95,99,97,99,104,101,100,95,95]⟩⟩
abbrev q55:Str:=⟨⟨[102,117,108,108,95,99,111,108,117,109,110]⟩⟩
abbrev q56:Str:=⟨⟨[110,101,101,100,95,112,105,101,99,101,115]⟩⟩
abbrev q57:Str:=⟨⟨[109,97,110,121]⟩⟩
abbrev q58:Str:=⟨⟨[112,105,101,99,101,115]⟩⟩
abbrev q59:Str:=⟨⟨[108,111,119,101,114,115]⟩⟩
abbrev q65:Str:=⟨⟨[105,115,95,98,101,116,119,101,101,110]⟩⟩
abbrev q66:Str:=⟨⟨[71,82,69,65,84,69,83,84,95,75,78,79,84]⟩⟩
abbrev q67:Str:=⟨⟨[78,111,66,111,97,114,100]⟩⟩
abbrev q70:Str:=⟨⟨[103,97,116,101,102,111,108,100,46,98,111,97,114,100,115]⟩⟩
abbrev q72:Str:=⟨⟨[103,97,116,101,102,111,108,100,46,98,105,116,115]⟩⟩
abbrev q73:Str:=⟨⟨[78,111,78,97,109,101]⟩⟩
abbrev q74:Str:=⟨⟨[95,108,97,119,95,119,104,111,108,101]⟩⟩
abbrev q75:Str:=⟨⟨[95,95,119,101,97,107,114,101,102,95,95]⟩⟩
abbrev q76:Str:=⟨⟨[95,108,97,119,95,115,112,111,105,108,116]⟩⟩
abbrev q77:Str:=⟨⟨[76,79,78,71,69,83,84,95,67,85,84]⟩⟩
abbrev q80:Str:=⟨⟨[105,115,95,114,105,115,105,110,103]⟩⟩
abbrev q81:Str:=⟨⟨[110,101,101,100,95,116,105,101,115]⟩⟩
abbrev q82:Str:=⟨⟨[95,108,97,119,95,102,97,114]⟩⟩
abbrev q83:Str:=⟨⟨[95,108,97,119,95,110,117,109,98,101,114]⟩⟩
abbrev q84:Str:=⟨⟨[78,111,77,97,116,99,104]⟩⟩
abbrev q85:Str:=⟨⟨[95,108,97,119,95,119,114,111,110,103,95,99,117,116]⟩⟩
abbrev q86:Str:=⟨⟨[66,111,97,114,100]⟩⟩
abbrev q87:Str:=⟨⟨[95,95,105,110,105,116,95,95]⟩⟩
abbrev q88:Str:=⟨⟨[116,105,101,115]⟩⟩
abbrev q89:Str:=⟨⟨[100,101,112,116,104,115]⟩⟩
abbrev q90:Str:=⟨⟨[78,111,71,111,97,108]⟩⟩
abbrev q91:Str:=⟨⟨[95,108,97,119,95,109,97,110,121]⟩⟩
abbrev q92:Str:=⟨⟨[95,108,97,119,95,116,105,101,115,95,104,101,114,101]⟩⟩
abbrev q93:Str:=⟨⟨[95,108,97,119,95,114,101,102,117,115,101,100,95,104,101,114,101]⟩⟩
abbrev q94:Str:=⟨⟨[95,108,97,119,95,97,108,111,110,101]⟩⟩
abbrev q95:Str:=⟨⟨[101]⟩⟩
abbrev q97:Str:=⟨⟨[78,111,67,117,116]⟩⟩
abbrev q98:Str:=⟨⟨[78,111,75,110,111,116]⟩⟩
abbrev q99:Str:=⟨⟨[78,111,76,105,110,101]⟩⟩
abbrev q100:Str:=⟨⟨[78,111,83,105,122,101]⟩⟩
abbrev q101:Str:=⟨⟨[78,111,84,105,101]⟩⟩
abbrev q102:Str:=⟨⟨[77,79,83,84,95,73,78,80,85,84,83]⟩⟩
abbrev q103:Str:=⟨⟨[95,108,97,119,95,99,101,108,108,95,97,116]⟩⟩
abbrev q104:Str:=⟨⟨[95,108,97,119,95,112,105,101,99,101,115]⟩⟩
abbrev q105:Str:=⟨⟨[95,108,97,119,95,116,105,101,115]⟩⟩
abbrev q106:Str:=⟨⟨[95,108,97,119,95,116,111,108,100]⟩⟩
abbrev q107:Str:=⟨⟨[95,108,97,119,95,119,114,111,110,103,95,107,110,111,116]⟩⟩
abbrev q108:Str:=⟨⟨[95,108,97,119,95,119,114,111,110,103,95,116,105,101]⟩⟩
abbrev q109:Str:=⟨⟨[108,97,119]⟩⟩
abbrev q111:Str:=⟨⟨[95,108,97,119,95,109,97,100,101]⟩⟩
abbrev q113:Str:=⟨⟨[66,111,97,114,100,46,95,95,105,110,105,116,95,95]⟩⟩
abbrev q114:Str:=⟨⟨[95,108,97,119,95,108,97,115,116]⟩⟩
abbrev q115:Str:=⟨⟨[95,108,97,119,95,119,97,121]⟩⟩
abbrev q116:Str:=⟨⟨[95,108,97,119,95,101,110,100,115]⟩⟩
abbrev q117:Str:=⟨⟨[95,108,97,119,95,97,116]⟩⟩
abbrev q118:Str:=⟨⟨[95,108,97,119,95,114,101,115,116]⟩⟩
abbrev q119:Str:=⟨⟨[116,105,101]⟩⟩
abbrev q121:Str:=⟨⟨[107,101,112,116,95,112,105,101,99,101,115]⟩⟩
abbrev q123:Str:=⟨⟨[107,101,112,116,95,116,105,101,115]⟩⟩
abbrev q126:Str:=⟨⟨[95,108,97,119,95,98,111,97,114,100]⟩⟩
abbrev q127:Str:=⟨⟨[95,108,97,119,95,112,105,101,99,101,95,104,101,114,101]⟩⟩
abbrev q130:Str:=⟨⟨[108,101,97,115,116]⟩⟩
abbrev q131:Str:=⟨⟨[103,114,101,97,116,101,115,116]⟩⟩
abbrev q132:Str:=⟨⟨[95,95,100,105,99,116,95,95]⟩⟩
abbrev q133:Str:=⟨⟨[95,108,97,119,95,115,99,114,105,112,116]⟩⟩
abbrev q134:Str:=⟨⟨[103,97,116,101,102,111,108,100,46,119,104,111,108,101,115]⟩⟩
abbrev q138:Str:=⟨⟨[66,111,97,114,100,46,112,105,101,99,101,115]⟩⟩
abbrev q139:Str:=⟨⟨[66,111,97,114,100,46,100,101,112,116,104,115]⟩⟩
abbrev q144:Str:=⟨⟨[66,111,97,114,100,46,116,105,101,115]⟩⟩
abbrev q145:Str:=⟨⟨[95,108,97,119,95,104,97,110,100,101,100]⟩⟩
abbrev q146:Str:=⟨⟨[95,108,97,119,95,119,114,111,110,103]⟩⟩
abbrev q147:Str:=⟨⟨[60,109,111,100,117,108,101,62]⟩⟩
noncomputable def o43 (P:PM):OB:=(ob y0 (dq ⟨[]⟩ 0) ⟨[]⟩)
noncomputable def o44 (P:PM):OB:=(Obj.mk vn none (df ⟨[]⟩) ⟨[]⟩)
noncomputable def o45 (P:PM):OB:=(ob y1 (df ⟨[vs q147 182,vs q147 183,vs q8 184,vi 1 0,vi 0 0,vi 0 0,vi 0 0,vi 0 0,vr 11,(Value.bool false),vi 181 0,vr 12,vn,vn,vn,vn,vi 185 0,vi 1 0,vs q8 186]⟩) ⟨[]⟩)
noncomputable def o46 (P:PM):OB:=(ob y2 Data.plain ⟨[(some (vr 13)),(some (vr 3)),(some (vr 3)),none,(some (vs q30 164)),none,(some (vr 0))]⟩)
noncomputable def o49 (P:PM):OB:=(ob y3 (dd ⟨[de P q47 165 (vs q1 203),de P q33 166 vn,de P q48 167 vn,de P q49 168 (Value.builtin y4),de P q50 169 vn,de P q51 170 (vr 6),de P q52 171 (vr 4),de P q53 173 (vs q8 172),de P q54 174 vn,de P q28 193 (vr 21),de P q55 202 (vr 28),de P q31 222 (vr 38)]⟩ 12) ⟨[]⟩)
noncomputable def o50 (P:PM):OB:=(Obj.mk vn none (df ⟨[vi 1 0,vi 0 0,vr 20,vi 5 0,vi 0 0,vr 27,vi 8 0,vi 0 0,vr 34]⟩) ⟨[]⟩)
noncomputable def o53 (P:PM):OB:=(ob y0 (dq ⟨[vs q29 190]⟩ 0) ⟨[]⟩)
noncomputable def o55 (P:PM):OB:=j0 q28 q28 (tT 0)
noncomputable def o56 (P:PM):OB:=(ob y1 (df ⟨[vs q28 187,vs q28 188,vs q8 189,vi 1 0,vi 1 0,vi 0 0,vi 0 0,vi 3 0,vr 15,(Value.bool true),vi 181 0,vr 16,vn,vr 17,vr 18,vr 19,vi 191 0,vi 1 0,vs q8 192]⟩) ⟨[]⟩)
noncomputable def o57 (P:PM):OB:=j1 q28 q28 (tT 0) q30 164 20
noncomputable def o60 (P:PM):OB:=(ob y0 (dq ⟨[vs q57 199]⟩ 0) ⟨[]⟩)
noncomputable def o62 (P:PM):OB:=j0 q55 q55 (tT 2)
noncomputable def o63 (P:PM):OB:=(ob y1 (df ⟨[vs q55 196,vs q55 197,vs q8 198,vi 5 0,vi 1 0,vi 0 0,vi 0 0,vi 3 0,vr 22,(Value.bool true),vi 181 0,vr 23,vn,vr 24,vr 25,vr 26,vi 200 0,vi 5 0,vs q8 201]⟩) ⟨[]⟩)
noncomputable def o64 (P:PM):OB:=j1 q55 q55 (tT 2) q72 194 27
noncomputable def o65 (P:PM):OB:=(ob y0 (dq ⟨[(Value.type y6)]⟩ 0) ⟨[]⟩)
noncomputable def o66 (P:PM):OB:=(ob y7 (df ⟨[(Value.builtin y8),(Value.type y9)]⟩) ⟨[]⟩)
noncomputable def o67 (P:PM):OB:=(ob y3 (dd ⟨[de P q0 212 (vs q1 203),de P q2 214 (vs q31 213),de P q4 216 (vi 8 215),de P q5 217 (vr 36)]⟩ 4) ⟨[]⟩)
noncomputable def o70 (P:PM):OB:=(ob y1 (df ⟨[vs q31 207,vs q31 208,vs q8 209,vi 8 0,vi 0 0,vi 0 0,vi 0 0,vi 0 0,vr 32,(Value.bool false),vi 181 0,vr 33,vn,vn,vn,vn,vi 210 0,vi 8 0,vs q8 211]⟩) ⟨[]⟩)
noncomputable def o71 (P:PM):OB:=(ob y2 Data.plain ⟨[(some (vr 34)),(some (vr 3)),(some (vr 31)),none,(some (vs q1 203)),none,(some (vr 0))]⟩)
noncomputable def o73 (P:PM):OB:=(ob y3 (dd ⟨[de P q0 212 (vs q1 203),de P q4 216 (vi 8 215),de P q5 217 (vr 36),de P q75 219 (vr 39),de P q33 220 vn]⟩ 3) ⟨[]⟩)
noncomputable def o74 (P:PM):OB:=(ob y9 (Data.cls (ClassData.mk q31 [(Value.type y6)] [vr 38,(Value.type y6),(Value.type y10),(Value.type y11),(Value.type y12)] 37 q31 true [] [] false none false)) ⟨[(some (vr 29)),none,(some (vs q31 205)),(some (vs q31 213)),(some (Value.builtin y13)),(some (Value.bool true))]⟩)
noncomputable def o75 (P:PM):OB:=(ob y14 (df ⟨[vs q75 218,vr 38,(Value.builtin y15),vn]⟩) ⟨[]⟩)
noncomputable def o76 (P:PM):OB:=(ob y16 (df ⟨[vr 38,vr 38,vr 38]⟩) ⟨[]⟩)
noncomputable def o77 (P:PM):OB:=(ob y7 (df ⟨[(Value.builtin y17),vr 38]⟩) ⟨[]⟩)
noncomputable def o78 (P:PM):OB:=(ob y3 (dd ⟨[de P q47 165 (vs q1 203),de P q33 166 vn,de P q48 167 vn,de P q49 168 (Value.builtin y4),de P q50 169 vn,de P q51 170 (vr 6),de P q52 171 (vr 4),de P q53 173 (vs q8 172),de P q54 174 vn,de P q28 193 (vr 21),de P q55 202 (vr 28),de P q31 222 (vr 38),de P q99 238 (vr 51)]⟩ 13) ⟨[]⟩)
noncomputable def o79 (P:PM):OB:=(Obj.mk vn none (df ⟨[vi 1 0,vi 0 0,vr 20,vi 5 0,vi 0 0,vr 27,vi 8 0,vi 0 0,vr 34,vi 10 0,vi 0 0,vr 47]⟩) ⟨[]⟩)
noncomputable def o80 (P:PM):OB:=(ob y9 (Data.cls (ClassData.mk q31 [(Value.type y6)] [vr 38,(Value.type y6),(Value.type y10),(Value.type y11),(Value.type y12)] 37 q31 true [] [vr 51] false none false)) ⟨[(some (vr 29)),none,(some (vs q31 205)),(some (vs q31 213)),(some (Value.builtin y13)),(some (Value.bool true))]⟩)
noncomputable def o81 (P:PM):OB:=(ob y0 (dq ⟨[vr 38]⟩ 0) ⟨[]⟩)
noncomputable def o83 (P:PM):OB:=(ob y3 (dd ⟨[de P q0 230 (vs q1 203),de P q2 232 (vs q99 231),de P q4 234 (vi 10 233),de P q5 235 (vr 49)]⟩ 4) ⟨[]⟩)
noncomputable def o86 (P:PM):OB:=(ob y1 (df ⟨[vs q99 225,vs q99 226,vs q8 227,vi 10 0,vi 0 0,vi 0 0,vi 0 0,vi 0 0,vr 45,(Value.bool false),vi 181 0,vr 46,vn,vn,vn,vn,vi 228 0,vi 10 0,vs q8 229]⟩) ⟨[]⟩)
noncomputable def o87 (P:PM):OB:=(ob y2 Data.plain ⟨[(some (vr 47)),(some (vr 3)),(some (vr 44)),none,(some (vs q1 203)),none,(some (vr 0))]⟩)
noncomputable def o89 (P:PM):OB:=(ob y3 (dd ⟨[de P q0 230 (vs q1 203),de P q4 234 (vi 10 233),de P q5 235 (vr 49),de P q33 236 vn]⟩ 2) ⟨[]⟩)
noncomputable def o90 (P:PM):OB:=(ob y9 (Data.cls (ClassData.mk q99 [vr 38] [vr 51,vr 38,(Value.type y6),(Value.type y10),(Value.type y11),(Value.type y12)] 50 q99 true [] [] false none false)) ⟨[(some (vr 42)),none,(some (vs q99 223)),(some (vs q99 231)),(some (Value.builtin y13)),(some (Value.bool true))]⟩)
noncomputable def o91 (P:PM):OB:=(ob y16 (df ⟨[vr 51,vr 51,vr 51]⟩) ⟨[]⟩)
noncomputable def o92 (P:PM):OB:=(ob y7 (df ⟨[(Value.builtin y17),vr 51]⟩) ⟨[]⟩)
noncomputable def o93 (P:PM):OB:=(ob y3 (dd ⟨[de P q47 165 (vs q1 203),de P q33 166 vn,de P q48 167 vn,de P q49 168 (Value.builtin y4),de P q50 169 vn,de P q51 170 (vr 6),de P q52 171 (vr 4),de P q53 173 (vs q8 172),de P q54 174 vn,de P q28 193 (vr 21),de P q55 202 (vr 28),de P q31 222 (vr 38),de P q99 238 (vr 51),de P q73 254 (vr 63)]⟩ 14) ⟨[]⟩)
noncomputable def o94 (P:PM):OB:=(Obj.mk vn none (df ⟨[vi 1 0,vi 0 0,vr 20,vi 5 0,vi 0 0,vr 27,vi 8 0,vi 0 0,vr 34,vi 10 0,vi 0 0,vr 47,vi 12 0,vi 0 0,vr 59]⟩) ⟨[]⟩)
noncomputable def o95 (P:PM):OB:=(ob y9 (Data.cls (ClassData.mk q31 [(Value.type y6)] [vr 38,(Value.type y6),(Value.type y10),(Value.type y11),(Value.type y12)] 37 q31 true [] [vr 51,vr 63] false none false)) ⟨[(some (vr 29)),none,(some (vs q31 205)),(some (vs q31 213)),(some (Value.builtin y13)),(some (Value.bool true))]⟩)
noncomputable def o98 (P:PM):OB:=(ob y3 (dd ⟨[de P q0 246 (vs q1 203),de P q2 248 (vs q73 247),de P q4 250 (vi 12 249),de P q5 251 (vr 61)]⟩ 4) ⟨[]⟩)
noncomputable def o101 (P:PM):OB:=(ob y1 (df ⟨[vs q73 241,vs q73 242,vs q8 243,vi 12 0,vi 0 0,vi 0 0,vi 0 0,vi 0 0,vr 57,(Value.bool false),vi 181 0,vr 58,vn,vn,vn,vn,vi 244 0,vi 12 0,vs q8 245]⟩) ⟨[]⟩)
noncomputable def o102 (P:PM):OB:=(ob y2 Data.plain ⟨[(some (vr 59)),(some (vr 3)),(some (vr 56)),none,(some (vs q1 203)),none,(some (vr 0))]⟩)
noncomputable def o104 (P:PM):OB:=(ob y3 (dd ⟨[de P q0 246 (vs q1 203),de P q4 250 (vi 12 249),de P q5 251 (vr 61),de P q33 252 vn]⟩ 2) ⟨[]⟩)
noncomputable def o105 (P:PM):OB:=(ob y9 (Data.cls (ClassData.mk q73 [vr 38] [vr 63,vr 38,(Value.type y6),(Value.type y10),(Value.type y11),(Value.type y12)] 62 q73 true [] [] false none false)) ⟨[(some (vr 54)),none,(some (vs q73 239)),(some (vs q73 247)),(some (Value.builtin y13)),(some (Value.bool true))]⟩)
noncomputable def o106 (P:PM):OB:=(ob y16 (df ⟨[vr 63,vr 63,vr 63]⟩) ⟨[]⟩)
noncomputable def o107 (P:PM):OB:=(ob y7 (df ⟨[(Value.builtin y17),vr 63]⟩) ⟨[]⟩)
noncomputable def o108 (P:PM):OB:=(ob y3 (dd ⟨[de P q47 165 (vs q1 203),de P q33 166 vn,de P q48 167 vn,de P q49 168 (Value.builtin y4),de P q50 169 vn,de P q51 170 (vr 6),de P q52 171 (vr 4),de P q53 173 (vs q8 172),de P q54 174 vn,de P q28 193 (vr 21),de P q55 202 (vr 28),de P q31 222 (vr 38),de P q99 238 (vr 51),de P q73 254 (vr 63),de P q101 270 (vr 75)]⟩ 15) ⟨[]⟩)
noncomputable def o109 (P:PM):OB:=(Obj.mk vn none (df ⟨[vi 1 0,vi 0 0,vr 20,vi 5 0,vi 0 0,vr 27,vi 8 0,vi 0 0,vr 34,vi 10 0,vi 0 0,vr 47,vi 12 0,vi 0 0,vr 59,vi 14 0,vi 0 0,vr 71]⟩) ⟨[]⟩)
noncomputable def o110 (P:PM):OB:=(ob y9 (Data.cls (ClassData.mk q31 [(Value.type y6)] [vr 38,(Value.type y6),(Value.type y10),(Value.type y11),(Value.type y12)] 37 q31 true [] [vr 51,vr 63,vr 75] false none false)) ⟨[(some (vr 29)),none,(some (vs q31 205)),(some (vs q31 213)),(some (Value.builtin y13)),(some (Value.bool true))]⟩)
noncomputable def o113 (P:PM):OB:=(ob y3 (dd ⟨[de P q0 262 (vs q1 203),de P q2 264 (vs q101 263),de P q4 266 (vi 14 265),de P q5 267 (vr 73)]⟩ 4) ⟨[]⟩)
noncomputable def o116 (P:PM):OB:=(ob y1 (df ⟨[vs q101 257,vs q101 258,vs q8 259,vi 14 0,vi 0 0,vi 0 0,vi 0 0,vi 0 0,vr 69,(Value.bool false),vi 181 0,vr 70,vn,vn,vn,vn,vi 260 0,vi 14 0,vs q8 261]⟩) ⟨[]⟩)
noncomputable def o117 (P:PM):OB:=(ob y2 Data.plain ⟨[(some (vr 71)),(some (vr 3)),(some (vr 68)),none,(some (vs q1 203)),none,(some (vr 0))]⟩)
noncomputable def o119 (P:PM):OB:=(ob y3 (dd ⟨[de P q0 262 (vs q1 203),de P q4 266 (vi 14 265),de P q5 267 (vr 73),de P q33 268 vn]⟩ 2) ⟨[]⟩)
noncomputable def o120 (P:PM):OB:=(ob y9 (Data.cls (ClassData.mk q101 [vr 38] [vr 75,vr 38,(Value.type y6),(Value.type y10),(Value.type y11),(Value.type y12)] 74 q101 true [] [] false none false)) ⟨[(some (vr 66)),none,(some (vs q101 255)),(some (vs q101 263)),(some (Value.builtin y13)),(some (Value.bool true))]⟩)
noncomputable def o121 (P:PM):OB:=(ob y16 (df ⟨[vr 75,vr 75,vr 75]⟩) ⟨[]⟩)
noncomputable def o122 (P:PM):OB:=(ob y7 (df ⟨[(Value.builtin y17),vr 75]⟩) ⟨[]⟩)
noncomputable def o123 (P:PM):OB:=(ob y3 (dd ⟨[de P q47 165 (vs q1 203),de P q33 166 vn,de P q48 167 vn,de P q49 168 (Value.builtin y4),de P q50 169 vn,de P q51 170 (vr 6),de P q52 171 (vr 4),de P q53 173 (vs q8 172),de P q54 174 vn,de P q28 193 (vr 21),de P q55 202 (vr 28),de P q31 222 (vr 38),de P q99 238 (vr 51),de P q73 254 (vr 63),de P q101 270 (vr 75),de P q98 286 (vr 87)]⟩ 16) ⟨[]⟩)
noncomputable def o124 (P:PM):OB:=(Obj.mk vn none (df ⟨[vi 1 0,vi 0 0,vr 20,vi 5 0,vi 0 0,vr 27,vi 8 0,vi 0 0,vr 34,vi 10 0,vi 0 0,vr 47,vi 12 0,vi 0 0,vr 59,vi 14 0,vi 0 0,vr 71,vi 16 0,vi 0 0,vr 83]⟩) ⟨[]⟩)
noncomputable def o125 (P:PM):OB:=(ob y9 (Data.cls (ClassData.mk q31 [(Value.type y6)] [vr 38,(Value.type y6),(Value.type y10),(Value.type y11),(Value.type y12)] 37 q31 true [] [vr 51,vr 63,vr 75,vr 87] false none false)) ⟨[(some (vr 29)),none,(some (vs q31 205)),(some (vs q31 213)),(some (Value.builtin y13)),(some (Value.bool true))]⟩)
noncomputable def o128 (P:PM):OB:=(ob y3 (dd ⟨[de P q0 278 (vs q1 203),de P q2 280 (vs q98 279),de P q4 282 (vi 16 281),de P q5 283 (vr 85)]⟩ 4) ⟨[]⟩)
noncomputable def o131 (P:PM):OB:=(ob y1 (df ⟨[vs q98 273,vs q98 274,vs q8 275,vi 16 0,vi 0 0,vi 0 0,vi 0 0,vi 0 0,vr 81,(Value.bool false),vi 181 0,vr 82,vn,vn,vn,vn,vi 276 0,vi 16 0,vs q8 277]⟩) ⟨[]⟩)
noncomputable def o132 (P:PM):OB:=(ob y2 Data.plain ⟨[(some (vr 83)),(some (vr 3)),(some (vr 80)),none,(some (vs q1 203)),none,(some (vr 0))]⟩)
noncomputable def o134 (P:PM):OB:=(ob y3 (dd ⟨[de P q0 278 (vs q1 203),de P q4 282 (vi 16 281),de P q5 283 (vr 85),de P q33 284 vn]⟩ 2) ⟨[]⟩)
noncomputable def o135 (P:PM):OB:=(ob y9 (Data.cls (ClassData.mk q98 [vr 38] [vr 87,vr 38,(Value.type y6),(Value.type y10),(Value.type y11),(Value.type y12)] 86 q98 true [] [] false none false)) ⟨[(some (vr 78)),none,(some (vs q98 271)),(some (vs q98 279)),(some (Value.builtin y13)),(some (Value.bool true))]⟩)
noncomputable def o136 (P:PM):OB:=(ob y16 (df ⟨[vr 87,vr 87,vr 87]⟩) ⟨[]⟩)
noncomputable def o137 (P:PM):OB:=(ob y7 (df ⟨[(Value.builtin y17),vr 87]⟩) ⟨[]⟩)
noncomputable def o138 (P:PM):OB:=(ob y3 (dd ⟨[de P q47 165 (vs q1 203),de P q33 166 vn,de P q48 167 vn,de P q49 168 (Value.builtin y4),de P q50 169 vn,de P q51 170 (vr 6),de P q52 171 (vr 4),de P q53 173 (vs q8 172),de P q54 174 vn,de P q28 193 (vr 21),de P q55 202 (vr 28),de P q31 222 (vr 38),de P q99 238 (vr 51),de P q73 254 (vr 63),de P q101 270 (vr 75),de P q98 286 (vr 87),de P q97 302 (vr 99)]⟩ 17) ⟨[]⟩)
noncomputable def o139 (P:PM):OB:=(Obj.mk vn none (df ⟨[vi 1 0,vi 0 0,vr 20,vi 5 0,vi 0 0,vr 27,vi 8 0,vi 0 0,vr 34,vi 10 0,vi 0 0,vr 47,vi 12 0,vi 0 0,vr 59,vi 14 0,vi 0 0,vr 71,vi 16 0,vi 0 0,vr 83,vi 18 0,vi 0 0,vr 95]⟩) ⟨[]⟩)
noncomputable def o140 (P:PM):OB:=(ob y9 (Data.cls (ClassData.mk q31 [(Value.type y6)] [vr 38,(Value.type y6),(Value.type y10),(Value.type y11),(Value.type y12)] 37 q31 true [] [vr 51,vr 63,vr 75,vr 87,vr 99] false none false)) ⟨[(some (vr 29)),none,(some (vs q31 205)),(some (vs q31 213)),(some (Value.builtin y13)),(some (Value.bool true))]⟩)
noncomputable def o143 (P:PM):OB:=(ob y3 (dd ⟨[de P q0 294 (vs q1 203),de P q2 296 (vs q97 295),de P q4 298 (vi 18 297),de P q5 299 (vr 97)]⟩ 4) ⟨[]⟩)
noncomputable def o146 (P:PM):OB:=(ob y1 (df ⟨[vs q97 289,vs q97 290,vs q8 291,vi 18 0,vi 0 0,vi 0 0,vi 0 0,vi 0 0,vr 93,(Value.bool false),vi 181 0,vr 94,vn,vn,vn,vn,vi 292 0,vi 18 0,vs q8 293]⟩) ⟨[]⟩)
noncomputable def o147 (P:PM):OB:=(ob y2 Data.plain ⟨[(some (vr 95)),(some (vr 3)),(some (vr 92)),none,(some (vs q1 203)),none,(some (vr 0))]⟩)
noncomputable def o149 (P:PM):OB:=(ob y3 (dd ⟨[de P q0 294 (vs q1 203),de P q4 298 (vi 18 297),de P q5 299 (vr 97),de P q33 300 vn]⟩ 2) ⟨[]⟩)
noncomputable def o150 (P:PM):OB:=(ob y9 (Data.cls (ClassData.mk q97 [vr 38] [vr 99,vr 38,(Value.type y6),(Value.type y10),(Value.type y11),(Value.type y12)] 98 q97 true [] [] false none false)) ⟨[(some (vr 90)),none,(some (vs q97 287)),(some (vs q97 295)),(some (Value.builtin y13)),(some (Value.bool true))]⟩)
noncomputable def o151 (P:PM):OB:=(ob y16 (df ⟨[vr 99,vr 99,vr 99]⟩) ⟨[]⟩)
noncomputable def o152 (P:PM):OB:=(ob y7 (df ⟨[(Value.builtin y17),vr 99]⟩) ⟨[]⟩)
noncomputable def o153 (P:PM):OB:=(ob y3 (dd ⟨[de P q47 165 (vs q1 203),de P q33 166 vn,de P q48 167 vn,de P q49 168 (Value.builtin y4),de P q50 169 vn,de P q51 170 (vr 6),de P q52 171 (vr 4),de P q53 173 (vs q8 172),de P q54 174 vn,de P q28 193 (vr 21),de P q55 202 (vr 28),de P q31 222 (vr 38),de P q99 238 (vr 51),de P q73 254 (vr 63),de P q101 270 (vr 75),de P q98 286 (vr 87),de P q97 302 (vr 99),de P q90 318 (vr 111)]⟩ 18) ⟨[]⟩)
noncomputable def o154 (P:PM):OB:=(Obj.mk vn none (df ⟨[vi 1 0,vi 0 0,vr 20,vi 5 0,vi 0 0,vr 27,vi 8 0,vi 0 0,vr 34,vi 10 0,vi 0 0,vr 47,vi 12 0,vi 0 0,vr 59,vi 14 0,vi 0 0,vr 71,vi 16 0,vi 0 0,vr 83,vi 18 0,vi 0 0,vr 95,vi 20 0,vi 0 0,vr 107]⟩) ⟨[]⟩)
noncomputable def o155 (P:PM):OB:=(ob y9 (Data.cls (ClassData.mk q31 [(Value.type y6)] [vr 38,(Value.type y6),(Value.type y10),(Value.type y11),(Value.type y12)] 37 q31 true [] [vr 51,vr 63,vr 75,vr 87,vr 99,vr 111] false none false)) ⟨[(some (vr 29)),none,(some (vs q31 205)),(some (vs q31 213)),(some (Value.builtin y13)),(some (Value.bool true))]⟩)
noncomputable def o158 (P:PM):OB:=(ob y3 (dd ⟨[de P q0 310 (vs q1 203),de P q2 312 (vs q90 311),de P q4 314 (vi 20 313),de P q5 315 (vr 109)]⟩ 4) ⟨[]⟩)
noncomputable def o161 (P:PM):OB:=(ob y1 (df ⟨[vs q90 305,vs q90 306,vs q8 307,vi 20 0,vi 0 0,vi 0 0,vi 0 0,vi 0 0,vr 105,(Value.bool false),vi 181 0,vr 106,vn,vn,vn,vn,vi 308 0,vi 20 0,vs q8 309]⟩) ⟨[]⟩)
noncomputable def o162 (P:PM):OB:=(ob y2 Data.plain ⟨[(some (vr 107)),(some (vr 3)),(some (vr 104)),none,(some (vs q1 203)),none,(some (vr 0))]⟩)
noncomputable def o164 (P:PM):OB:=(ob y3 (dd ⟨[de P q0 310 (vs q1 203),de P q4 314 (vi 20 313),de P q5 315 (vr 109),de P q33 316 vn]⟩ 2) ⟨[]⟩)
noncomputable def o165 (P:PM):OB:=(ob y9 (Data.cls (ClassData.mk q90 [vr 38] [vr 111,vr 38,(Value.type y6),(Value.type y10),(Value.type y11),(Value.type y12)] 110 q90 true [] [] false none false)) ⟨[(some (vr 102)),none,(some (vs q90 303)),(some (vs q90 311)),(some (Value.builtin y13)),(some (Value.bool true))]⟩)
noncomputable def o166 (P:PM):OB:=(ob y16 (df ⟨[vr 111,vr 111,vr 111]⟩) ⟨[]⟩)
noncomputable def o167 (P:PM):OB:=(ob y7 (df ⟨[(Value.builtin y17),vr 111]⟩) ⟨[]⟩)
noncomputable def o168 (P:PM):OB:=(ob y3 (dd ⟨[de P q47 165 (vs q1 203),de P q33 166 vn,de P q48 167 vn,de P q49 168 (Value.builtin y4),de P q50 169 vn,de P q51 170 (vr 6),de P q52 171 (vr 4),de P q53 173 (vs q8 172),de P q54 174 vn,de P q28 193 (vr 21),de P q55 202 (vr 28),de P q31 222 (vr 38),de P q99 238 (vr 51),de P q73 254 (vr 63),de P q101 270 (vr 75),de P q98 286 (vr 87),de P q97 302 (vr 99),de P q90 318 (vr 111),de P q100 334 (vr 123)]⟩ 19) ⟨[]⟩)
noncomputable def o169 (P:PM):OB:=(Obj.mk vn none (df ⟨[vi 1 0,vi 0 0,vr 20,vi 5 0,vi 0 0,vr 27,vi 8 0,vi 0 0,vr 34,vi 10 0,vi 0 0,vr 47,vi 12 0,vi 0 0,vr 59,vi 14 0,vi 0 0,vr 71,vi 16 0,vi 0 0,vr 83,vi 18 0,vi 0 0,vr 95,vi 20 0,vi 0 0,vr 107,vi 22 0,vi 0 0,vr 119]⟩) ⟨[]⟩)
noncomputable def o170 (P:PM):OB:=(ob y9 (Data.cls (ClassData.mk q31 [(Value.type y6)] [vr 38,(Value.type y6),(Value.type y10),(Value.type y11),(Value.type y12)] 37 q31 true [] [vr 51,vr 63,vr 75,vr 87,vr 99,vr 111,vr 123] false none false)) ⟨[(some (vr 29)),none,(some (vs q31 205)),(some (vs q31 213)),(some (Value.builtin y13)),(some (Value.bool true))]⟩)
noncomputable def o173 (P:PM):OB:=(ob y3 (dd ⟨[de P q0 326 (vs q1 203),de P q2 328 (vs q100 327),de P q4 330 (vi 22 329),de P q5 331 (vr 121)]⟩ 4) ⟨[]⟩)
noncomputable def o176 (P:PM):OB:=(ob y1 (df ⟨[vs q100 321,vs q100 322,vs q8 323,vi 22 0,vi 0 0,vi 0 0,vi 0 0,vi 0 0,vr 117,(Value.bool false),vi 181 0,vr 118,vn,vn,vn,vn,vi 324 0,vi 22 0,vs q8 325]⟩) ⟨[]⟩)
noncomputable def o177 (P:PM):OB:=(ob y2 Data.plain ⟨[(some (vr 119)),(some (vr 3)),(some (vr 116)),none,(some (vs q1 203)),none,(some (vr 0))]⟩)
noncomputable def o179 (P:PM):OB:=(ob y3 (dd ⟨[de P q0 326 (vs q1 203),de P q4 330 (vi 22 329),de P q5 331 (vr 121),de P q33 332 vn]⟩ 2) ⟨[]⟩)
noncomputable def o180 (P:PM):OB:=(ob y9 (Data.cls (ClassData.mk q100 [vr 38] [vr 123,vr 38,(Value.type y6),(Value.type y10),(Value.type y11),(Value.type y12)] 122 q100 true [] [] false none false)) ⟨[(some (vr 114)),none,(some (vs q100 319)),(some (vs q100 327)),(some (Value.builtin y13)),(some (Value.bool true))]⟩)
noncomputable def o181 (P:PM):OB:=(ob y16 (df ⟨[vr 123,vr 123,vr 123]⟩) ⟨[]⟩)
noncomputable def o182 (P:PM):OB:=(ob y7 (df ⟨[(Value.builtin y17),vr 123]⟩) ⟨[]⟩)
noncomputable def o183 (P:PM):OB:=(ob y3 (dd ⟨[de P q47 165 (vs q1 203),de P q33 166 vn,de P q48 167 vn,de P q49 168 (Value.builtin y4),de P q50 169 vn,de P q51 170 (vr 6),de P q52 171 (vr 4),de P q53 173 (vs q8 172),de P q54 174 vn,de P q28 193 (vr 21),de P q55 202 (vr 28),de P q31 222 (vr 38),de P q99 238 (vr 51),de P q73 254 (vr 63),de P q101 270 (vr 75),de P q98 286 (vr 87),de P q97 302 (vr 99),de P q90 318 (vr 111),de P q100 334 (vr 123),de P q67 350 (vr 135)]⟩ 20) ⟨[]⟩)
noncomputable def o184 (P:PM):OB:=(Obj.mk vn none (df ⟨[vi 1 0,vi 0 0,vr 20,vi 5 0,vi 0 0,vr 27,vi 8 0,vi 0 0,vr 34,vi 10 0,vi 0 0,vr 47,vi 12 0,vi 0 0,vr 59,vi 14 0,vi 0 0,vr 71,vi 16 0,vi 0 0,vr 83,vi 18 0,vi 0 0,vr 95,vi 20 0,vi 0 0,vr 107,vi 22 0,vi 0 0,vr 119,vi 24 0,vi 0 0,vr 131]⟩) ⟨[]⟩)
noncomputable def o185 (P:PM):OB:=(ob y9 (Data.cls (ClassData.mk q31 [(Value.type y6)] [vr 38,(Value.type y6),(Value.type y10),(Value.type y11),(Value.type y12)] 37 q31 true [] [vr 51,vr 63,vr 75,vr 87,vr 99,vr 111,vr 123,vr 135] false none false)) ⟨[(some (vr 29)),none,(some (vs q31 205)),(some (vs q31 213)),(some (Value.builtin y13)),(some (Value.bool true))]⟩)
noncomputable def o188 (P:PM):OB:=(ob y3 (dd ⟨[de P q0 342 (vs q1 203),de P q2 344 (vs q67 343),de P q4 346 (vi 24 345),de P q5 347 (vr 133)]⟩ 4) ⟨[]⟩)
noncomputable def o191 (P:PM):OB:=(ob y1 (df ⟨[vs q67 337,vs q67 338,vs q8 339,vi 24 0,vi 0 0,vi 0 0,vi 0 0,vi 0 0,vr 129,(Value.bool false),vi 181 0,vr 130,vn,vn,vn,vn,vi 340 0,vi 24 0,vs q8 341]⟩) ⟨[]⟩)
noncomputable def o192 (P:PM):OB:=(ob y2 Data.plain ⟨[(some (vr 131)),(some (vr 3)),(some (vr 128)),none,(some (vs q1 203)),none,(some (vr 0))]⟩)
noncomputable def o194 (P:PM):OB:=(ob y3 (dd ⟨[de P q0 342 (vs q1 203),de P q4 346 (vi 24 345),de P q5 347 (vr 133),de P q33 348 vn]⟩ 2) ⟨[]⟩)
noncomputable def o195 (P:PM):OB:=(ob y9 (Data.cls (ClassData.mk q67 [vr 38] [vr 135,vr 38,(Value.type y6),(Value.type y10),(Value.type y11),(Value.type y12)] 134 q67 true [] [] false none false)) ⟨[(some (vr 126)),none,(some (vs q67 335)),(some (vs q67 343)),(some (Value.builtin y13)),(some (Value.bool true))]⟩)
noncomputable def o196 (P:PM):OB:=(ob y16 (df ⟨[vr 135,vr 135,vr 135]⟩) ⟨[]⟩)
noncomputable def o197 (P:PM):OB:=(ob y7 (df ⟨[(Value.builtin y17),vr 135]⟩) ⟨[]⟩)
noncomputable def o198 (P:PM):OB:=(ob y3 (dd ⟨[de P q47 165 (vs q1 203),de P q33 166 vn,de P q48 167 vn,de P q49 168 (Value.builtin y4),de P q50 169 vn,de P q51 170 (vr 6),de P q52 171 (vr 4),de P q53 173 (vs q8 172),de P q54 174 vn,de P q28 193 (vr 21),de P q55 202 (vr 28),de P q31 222 (vr 38),de P q99 238 (vr 51),de P q73 254 (vr 63),de P q101 270 (vr 75),de P q98 286 (vr 87),de P q97 302 (vr 99),de P q90 318 (vr 111),de P q100 334 (vr 123),de P q67 350 (vr 135),de P q3 366 (vr 147)]⟩ 21) ⟨[]⟩)
noncomputable def o199 (P:PM):OB:=(Obj.mk vn none (df ⟨[vi 1 0,vi 0 0,vr 20,vi 5 0,vi 0 0,vr 27,vi 8 0,vi 0 0,vr 34,vi 10 0,vi 0 0,vr 47,vi 12 0,vi 0 0,vr 59,vi 14 0,vi 0 0,vr 71,vi 16 0,vi 0 0,vr 83,vi 18 0,vi 0 0,vr 95,vi 20 0,vi 0 0,vr 107,vi 22 0,vi 0 0,vr 119,vi 24 0,vi 0 0,vr 131,vi 26 0,vi 0 0,vr 143]⟩) ⟨[]⟩)
noncomputable def o200 (P:PM):OB:=(ob y9 (Data.cls (ClassData.mk q31 [(Value.type y6)] [vr 38,(Value.type y6),(Value.type y10),(Value.type y11),(Value.type y12)] 37 q31 true [] [vr 51,vr 63,vr 75,vr 87,vr 99,vr 111,vr 123,vr 135,vr 147] false none false)) ⟨[(some (vr 29)),none,(some (vs q31 205)),(some (vs q31 213)),(some (Value.builtin y13)),(some (Value.bool true))]⟩)
noncomputable def o203 (P:PM):OB:=(ob y3 (dd ⟨[de P q0 358 (vs q1 203),de P q2 360 (vs q3 359),de P q4 362 (vi 26 361),de P q5 363 (vr 145)]⟩ 4) ⟨[]⟩)
noncomputable def o206 (P:PM):OB:=(ob y1 (df ⟨[vs q3 353,vs q3 354,vs q8 355,vi 26 0,vi 0 0,vi 0 0,vi 0 0,vi 0 0,vr 141,(Value.bool false),vi 181 0,vr 142,vn,vn,vn,vn,vi 356 0,vi 26 0,vs q8 357]⟩) ⟨[]⟩)
noncomputable def o207 (P:PM):OB:=(ob y2 Data.plain ⟨[(some (vr 143)),(some (vr 3)),(some (vr 140)),none,(some (vs q1 203)),none,(some (vr 0))]⟩)
noncomputable def o209 (P:PM):OB:=(ob y3 (dd ⟨[de P q0 358 (vs q1 203),de P q4 362 (vi 26 361),de P q5 363 (vr 145),de P q33 364 vn]⟩ 2) ⟨[]⟩)
noncomputable def o210 (P:PM):OB:=(ob y9 (Data.cls (ClassData.mk q3 [vr 38] [vr 147,vr 38,(Value.type y6),(Value.type y10),(Value.type y11),(Value.type y12)] 146 q3 true [] [] false none false)) ⟨[(some (vr 138)),none,(some (vs q3 351)),(some (vs q3 359)),(some (Value.builtin y13)),(some (Value.bool true))]⟩)
noncomputable def o211 (P:PM):OB:=(ob y16 (df ⟨[vr 147,vr 147,vr 147]⟩) ⟨[]⟩)
noncomputable def o212 (P:PM):OB:=(ob y7 (df ⟨[(Value.builtin y17),vr 147]⟩) ⟨[]⟩)
noncomputable def o213 (P:PM):OB:=(ob y3 (dd ⟨[de P q47 165 (vs q70 407),de P q33 166 vn,de P q48 167 vn,de P q49 168 (Value.builtin y4),de P q50 169 vn,de P q51 170 (vr 6),de P q52 171 (vr 4),de P q53 173 (vs q8 172),de P q54 174 vn,de P q28 193 (vr 21),de P q55 202 (vr 28),de P q31 222 (vr 38),de P q99 238 (vr 51),de P q73 254 (vr 63),de P q101 270 (vr 75),de P q98 286 (vr 87),de P q97 302 (vr 99),de P q90 318 (vr 111),de P q100 334 (vr 123),de P q67 350 (vr 135),de P q3 366 (vr 147),de P q84 382 (vr 159),de P q41 391 (vr 168),de P q65 400 (vr 175),de P q80 406 (vr 180),de P q102 410 (vi 10 409),de P q66 412 (vi 999 411),de P q77 414 (vi 6 413),de P q22 420 (vr 185),de P q56 426 (vr 190)]⟩ 30) ⟨[]⟩)
noncomputable def o214 (P:PM):OB:=(Obj.mk vn none (df ⟨[vi 1 0,vi 0 0,vr 20,vi 5 0,vi 0 0,vr 27,vi 8 0,vi 0 0,vr 34,vi 10 0,vi 0 0,vr 47,vi 12 0,vi 0 0,vr 59,vi 14 0,vi 0 0,vr 71,vi 16 0,vi 0 0,vr 83,vi 18 0,vi 0 0,vr 95,vi 20 0,vi 0 0,vr 107,vi 22 0,vi 0 0,vr 119,vi 24 0,vi 0 0,vr 131,vi 26 0,vi 0 0,vr 143,vi 28 0,vi 0 0,vr 155,vi 31 0,vi 0 0,vr 167,vi 33 0,vi 0 0,vr 174,vi 35 0,vi 0 0,vr 179,vi 41 0,vi 0 0,vr 184,vi 47 0,vi 0 0,vr 189]⟩) ⟨[]⟩)
noncomputable def o215 (P:PM):OB:=(ob y9 (Data.cls (ClassData.mk q31 [(Value.type y6)] [vr 38,(Value.type y6),(Value.type y10),(Value.type y11),(Value.type y12)] 37 q31 true [] [vr 51,vr 63,vr 75,vr 87,vr 99,vr 111,vr 123,vr 135,vr 147,vr 159] false none false)) ⟨[(some (vr 29)),none,(some (vs q31 205)),(some (vs q31 213)),(some (Value.builtin y13)),(some (Value.bool true))]⟩)
noncomputable def o218 (P:PM):OB:=(ob y3 (dd ⟨[de P q0 374 (vs q1 203),de P q2 376 (vs q84 375),de P q4 378 (vi 28 377),de P q5 379 (vr 157)]⟩ 4) ⟨[]⟩)
noncomputable def o221 (P:PM):OB:=(ob y1 (df ⟨[vs q84 369,vs q84 370,vs q8 371,vi 28 0,vi 0 0,vi 0 0,vi 0 0,vi 0 0,vr 153,(Value.bool false),vi 181 0,vr 154,vn,vn,vn,vn,vi 372 0,vi 28 0,vs q8 373]⟩) ⟨[]⟩)
noncomputable def o222 (P:PM):OB:=(ob y2 Data.plain ⟨[(some (vr 155)),(some (vr 3)),(some (vr 152)),none,(some (vs q1 203)),none,(some (vr 0))]⟩)
noncomputable def o224 (P:PM):OB:=(ob y3 (dd ⟨[de P q0 374 (vs q1 203),de P q4 378 (vi 28 377),de P q5 379 (vr 157),de P q33 380 vn]⟩ 2) ⟨[]⟩)
noncomputable def o225 (P:PM):OB:=(ob y9 (Data.cls (ClassData.mk q84 [vr 38] [vr 159,vr 38,(Value.type y6),(Value.type y10),(Value.type y11),(Value.type y12)] 158 q84 true [] [] false none false)) ⟨[(some (vr 150)),none,(some (vs q84 367)),(some (vs q84 375)),(some (Value.builtin y13)),(some (Value.bool true))]⟩)
noncomputable def o226 (P:PM):OB:=(ob y16 (df ⟨[vr 159,vr 159,vr 159]⟩) ⟨[]⟩)
noncomputable def o227 (P:PM):OB:=(ob y7 (df ⟨[(Value.builtin y17),vr 159]⟩) ⟨[]⟩)
noncomputable def o230 (P:PM):OB:=(ob y0 (dq ⟨[vs q42 388]⟩ 0) ⟨[]⟩)
noncomputable def o232 (P:PM):OB:=j0 q41 q41 (tT 16)
noncomputable def o233 (P:PM):OB:=(ob y1 (df ⟨[vs q41 385,vs q41 386,vs q8 387,vi 31 0,vi 1 0,vi 0 0,vi 0 0,vi 3 0,vr 162,(Value.bool true),vi 181 0,vr 163,vn,vr 164,vr 165,vr 166,vi 389 0,vi 31 0,vs q8 390]⟩) ⟨[]⟩)
noncomputable def o234 (P:PM):OB:=j1 q41 q41 (tT 16) q134 383 167
noncomputable def o237 (P:PM):OB:=(ob y0 (dq ⟨[vs q42 395,vs q130 396,vs q131 397]⟩ 0) ⟨[]⟩)
noncomputable def o239 (P:PM):OB:=j0 q65 q65 (tT 17)
noncomputable def o240 (P:PM):OB:=(ob y1 (df ⟨[vs q65 392,vs q65 393,vs q8 394,vi 33 0,vi 3 0,vi 0 0,vi 0 0,vi 3 0,vr 169,(Value.bool true),vi 181 0,vr 170,vn,vr 171,vr 172,vr 173,vi 398 0,vi 33 0,vs q8 399]⟩) ⟨[]⟩)
noncomputable def o241 (P:PM):OB:=j1 q65 q65 (tT 17) q134 383 174
noncomputable def o244 (P:PM):OB:=j0 q80 q80 (tT 18)
noncomputable def o245 (P:PM):OB:=(ob y1 (df ⟨[vs q80 401,vs q80 402,vs q8 403,vi 35 0,vi 1 0,vi 0 0,vi 0 0,vi 3 0,vr 176,(Value.bool true),vi 181 0,vr 177,vn,vn,vn,vr 178,vi 404 0,vi 35 0,vs q8 405]⟩) ⟨[]⟩)
noncomputable def o246 (P:PM):OB:=j1 q80 q80 (tT 18) q134 383 179
noncomputable def o249 (P:PM):OB:=j0 q22 q22 (tT 23)
noncomputable def o250 (P:PM):OB:=(ob y1 (df ⟨[vs q22 415,vs q22 416,vs q8 417,vi 41 0,vi 2 0,vi 0 0,vi 0 0,vi 3 0,vr 181,(Value.bool true),vi 181 0,vr 182,vn,vn,vn,vr 183,vi 418 0,vi 41 0,vs q8 419]⟩) ⟨[]⟩)
noncomputable def o251 (P:PM):OB:=j1 q22 q22 (tT 23) q70 407 184
noncomputable def o254 (P:PM):OB:=j0 q56 q56 (tT 24)
noncomputable def o255 (P:PM):OB:=(ob y1 (df ⟨[vs q56 421,vs q56 422,vs q8 423,vi 47 0,vi 2 0,vi 0 0,vi 0 0,vi 3 0,vr 186,(Value.bool true),vi 181 0,vr 187,vn,vn,vn,vr 188,vi 424 0,vi 47 0,vs q8 425]⟩) ⟨[]⟩)
noncomputable def o256 (P:PM):OB:=j1 q56 q56 (tT 24) q70 407 189
noncomputable def o257 (P:PM):OB:=(ob y3 (dd ⟨[de P q47 165 (vs q27 492),de P q33 166 vn,de P q48 167 vn,de P q49 168 (Value.builtin y4),de P q50 169 vn,de P q51 170 (vr 6),de P q52 171 (vr 4),de P q53 173 (vs q8 172),de P q54 174 vn,de P q28 193 (vr 21),de P q55 202 (vr 28),de P q31 222 (vr 38),de P q99 238 (vr 51),de P q73 254 (vr 63),de P q101 270 (vr 75),de P q98 286 (vr 87),de P q97 302 (vr 99),de P q90 318 (vr 111),de P q100 334 (vr 123),de P q67 350 (vr 135),de P q3 366 (vr 147),de P q84 382 (vr 159),de P q41 391 (vr 168),de P q65 400 (vr 175),de P q80 406 (vr 180),de P q102 410 (vi 10 409),de P q66 412 (vi 999 411),de P q77 414 (vi 6 413),de P q22 420 (vr 185),de P q56 426 (vr 190),de P q81 435 (vr 197),de P q86 491 (vr 238)]⟩ 32) ⟨[]⟩)
noncomputable def o258 (P:PM):OB:=(Obj.mk vn none (df ⟨[vi 1 0,vi 0 0,vr 20,vi 5 0,vi 0 0,vr 27,vi 8 0,vi 0 0,vr 34,vi 10 0,vi 0 0,vr 47,vi 12 0,vi 0 0,vr 59,vi 14 0,vi 0 0,vr 71,vi 16 0,vi 0 0,vr 83,vi 18 0,vi 0 0,vr 95,vi 20 0,vi 0 0,vr 107,vi 22 0,vi 0 0,vr 119,vi 24 0,vi 0 0,vr 131,vi 26 0,vi 0 0,vr 143,vi 28 0,vi 0 0,vr 155,vi 31 0,vi 0 0,vr 167,vi 33 0,vi 0 0,vr 174,vi 35 0,vi 0 0,vr 179,vi 41 0,vi 0 0,vr 184,vi 47 0,vi 0 0,vr 189,vi 58 0,vi 0 0,vr 196,vi 64 0,vi 0 0,vr 203]⟩) ⟨[]⟩)
noncomputable def o261 (P:PM):OB:=(ob y0 (dq ⟨[vs q88 430,vs q59 431,vs q119 432]⟩ 0) ⟨[]⟩)
noncomputable def o263 (P:PM):OB:=j0 q81 q81 (tT 25)
noncomputable def o264 (P:PM):OB:=(ob y1 (df ⟨[vs q81 427,vs q81 428,vs q8 429,vi 58 0,vi 2 0,vi 0 0,vi 0 0,vi 3 0,vr 191,(Value.bool true),vi 181 0,vr 192,vn,vr 193,vr 194,vr 195,vi 433 0,vi 58 0,vs q8 434]⟩) ⟨[]⟩)
noncomputable def o265 (P:PM):OB:=j1 q81 q81 (tT 25) q70 407 196
noncomputable def o268 (P:PM):OB:=(ob y3 (dd ⟨[de P q0 443 (vs q70 407),de P q2 445 (vs q86 444),de P q4 447 (vi 64 446),de P q87 453 (vr 209),de P q58 459 (vr 214),de P q88 466 (vr 221),de P q6 473 (vr 228),de P q89 480 (vr 235),de P q5 484 (vr 236)]⟩ 9) ⟨[]⟩)
noncomputable def o270 (P:PM):OB:=(Obj.mk vn none (df ⟨[vi 66 0,vi 4 0,vr 208,vi 74 0,vi 4 0,vr 213,vi 77 0,vi 4 0,vr 220,vi 80 0,vi 4 0,vr 227,vi 83 0,vi 4 0,vr 234]⟩) ⟨[]⟩)
noncomputable def o271 (P:PM):OB:=(ob y1 (df ⟨[vs q86 438,vs q86 439,vs q8 440,vi 64 0,vi 0 0,vi 0 0,vi 0 0,vi 0 0,vr 201,(Value.bool false),vi 181 0,vr 202,vn,vn,vn,vn,vi 441 0,vi 64 0,vs q8 442]⟩) ⟨[]⟩)
noncomputable def o272 (P:PM):OB:=(ob y2 Data.plain ⟨[(some (vr 203)),(some (vr 3)),(some (vr 200)),none,(some (vs q70 407)),none,(some (vr 0))]⟩)
noncomputable def o275 (P:PM):OB:=j0 q87 q113 (inClass (tT 26) 0)
noncomputable def o276 (P:PM):OB:=(ob y1 (df ⟨[vs q87 448,vs q113 449,vs q8 450,vi 66 0,vi 4 0,vi 0 0,vi 0 0,vi 3 0,vr 205,(Value.bool true),vi 181 0,vr 206,vn,vn,vn,vr 207,vi 451 0,vi 66 0,vs q8 452]⟩) ⟨[]⟩)
noncomputable def o277 (P:PM):OB:=j1 q87 q113 (inClass (tT 26) 0) q70 407 208
noncomputable def o280 (P:PM):OB:=j0 q58 q138 (inClass (tT 26) 1)
noncomputable def o281 (P:PM):OB:=(ob y1 (df ⟨[vs q58 454,vs q138 455,vs q8 456,vi 74 0,vi 1 0,vi 0 0,vi 0 0,vi 3 0,vr 210,(Value.bool true),vi 181 0,vr 211,vn,vn,vn,vr 212,vi 457 0,vi 74 0,vs q8 458]⟩) ⟨[]⟩)
noncomputable def o282 (P:PM):OB:=j1 q58 q138 (inClass (tT 26) 1) q70 407 213
noncomputable def o285 (P:PM):OB:=(ob y0 (dq ⟨[vs q46 463]⟩ 0) ⟨[]⟩)
noncomputable def o287 (P:PM):OB:=j0 q88 q144 (inClass (tT 26) 2)
noncomputable def o288 (P:PM):OB:=(ob y1 (df ⟨[vs q88 460,vs q144 461,vs q8 462,vi 77 0,vi 1 0,vi 0 0,vi 0 0,vi 3 0,vr 215,(Value.bool true),vi 181 0,vr 216,vn,vr 217,vr 218,vr 219,vi 464 0,vi 77 0,vs q8 465]⟩) ⟨[]⟩)
noncomputable def o289 (P:PM):OB:=j1 q88 q144 (inClass (tT 26) 2) q70 407 220
noncomputable def o292 (P:PM):OB:=(ob y0 (dq ⟨[vs q46 470]⟩ 0) ⟨[]⟩)
noncomputable def o294 (P:PM):OB:=j0 q6 q7 (inClass (tT 26) 3)
noncomputable def o295 (P:PM):OB:=(ob y1 (df ⟨[vs q6 467,vs q7 468,vs q8 469,vi 80 0,vi 1 0,vi 0 0,vi 0 0,vi 3 0,vr 222,(Value.bool true),vi 181 0,vr 223,vn,vr 224,vr 225,vr 226,vi 471 0,vi 80 0,vs q8 472]⟩) ⟨[]⟩)
noncomputable def o296 (P:PM):OB:=j1 q6 q7 (inClass (tT 26) 3) q70 407 227
noncomputable def o299 (P:PM):OB:=(ob y0 (dq ⟨[vs q46 477]⟩ 0) ⟨[]⟩)
noncomputable def o301 (P:PM):OB:=j0 q89 q139 (inClass (tT 26) 4)
noncomputable def o302 (P:PM):OB:=(ob y1 (df ⟨[vs q89 474,vs q139 475,vs q8 476,vi 83 0,vi 1 0,vi 0 0,vi 0 0,vi 3 0,vr 229,(Value.bool true),vi 181 0,vr 230,vn,vr 231,vr 232,vr 233,vi 478 0,vi 83 0,vs q8 479]⟩) ⟨[]⟩)
noncomputable def o303 (P:PM):OB:=j1 q89 q139 (inClass (tT 26) 4) q70 407 234
noncomputable def o304 (P:PM):OB:=(ob y0 (dq ⟨[vs q121 481,vs q123 482,vs q57 483]⟩ 0) ⟨[]⟩)
noncomputable def o305 (P:PM):OB:=(ob y3 (dd ⟨[de P q0 443 (vs q70 407),de P q4 447 (vi 64 446),de P q87 453 (vr 209),de P q58 459 (vr 214),de P q88 466 (vr 221),de P q6 473 (vr 228),de P q89 480 (vr 235),de P q5 484 (vr 236),de P q132 486 (vr 239),de P q75 488 (vr 240),de P q33 489 vn]⟩ 4) ⟨[]⟩)
noncomputable def o306 (P:PM):OB:=(ob y9 (Data.cls (ClassData.mk q86 [(Value.type y12)] [vr 238,(Value.type y12)] 237 q86 true [] [] false none false)) ⟨[none,none,(some (vs q86 436)),(some (vs q86 444)),(some (Value.builtin y18)),(some (Value.bool true))]⟩)
noncomputable def o307 (P:PM):OB:=(ob y14 (df ⟨[vs q132 485,vr 238,(Value.builtin y19),(Value.builtin y20)]⟩) ⟨[]⟩)
noncomputable def o308 (P:PM):OB:=(ob y14 (df ⟨[vs q75 487,vr 238,(Value.builtin y15),vn]⟩) ⟨[]⟩)
noncomputable def o309 (P:PM):OB:=(ob y16 (df ⟨[vr 238,vr 238,vr 238]⟩) ⟨[]⟩)
noncomputable def o310 (P:PM):OB:=(ob y7 (df ⟨[(Value.builtin y17),vr 238]⟩) ⟨[]⟩)
noncomputable def o311 (P:PM):OB:=(ob y3 (dd ⟨[de P q47 165 (vs q27 492),de P q33 166 vn,de P q48 167 vn,de P q49 168 (Value.builtin y4),de P q50 169 vn,de P q51 170 (vr 6),de P q52 171 (vr 4),de P q53 173 (vs q8 172),de P q54 174 vn,de P q28 193 (vr 21),de P q55 202 (vr 28),de P q31 222 (vr 38),de P q99 238 (vr 51),de P q73 254 (vr 63),de P q101 270 (vr 75),de P q98 286 (vr 87),de P q97 302 (vr 99),de P q90 318 (vr 111),de P q100 334 (vr 123),de P q67 350 (vr 135),de P q3 366 (vr 147),de P q84 382 (vr 159),de P q41 391 (vr 168),de P q65 400 (vr 175),de P q80 406 (vr 180),de P q102 410 (vi 10 409),de P q66 412 (vi 999 411),de P q77 414 (vi 6 413),de P q22 420 (vr 185),de P q56 426 (vr 190),de P q81 435 (vr 197),de P q86 491 (vr 238),de P q103 501 (vr 249),de P q34 507 (vr 254),de P q9 520 (vr 261),de P q104 526 (vr 266),de P q105 532 (vr 271),de P q35 538 (vr 276),de P q74 545 (vr 283),de P q106 551 (vr 288),de P q23 558 (vr 295),de P q107 568 (vr 302),de P q85 579 (vr 309),de P q108 585 (vr 314),de P q76 605 (vr 321)]⟩ 45) ⟨[]⟩)
noncomputable def o312 (P:PM):OB:=(Obj.mk vn none (df ⟨[vi 1 0,vi 0 0,vr 20,vi 5 0,vi 0 0,vr 27,vi 8 0,vi 0 0,vr 34,vi 10 0,vi 0 0,vr 47,vi 12 0,vi 0 0,vr 59,vi 14 0,vi 0 0,vr 71,vi 16 0,vi 0 0,vr 83,vi 18 0,vi 0 0,vr 95,vi 20 0,vi 0 0,vr 107,vi 22 0,vi 0 0,vr 119,vi 24 0,vi 0 0,vr 131,vi 26 0,vi 0 0,vr 143,vi 28 0,vi 0 0,vr 155,vi 31 0,vi 0 0,vr 167,vi 33 0,vi 0 0,vr 174,vi 35 0,vi 0 0,vr 179,vi 41 0,vi 0 0,vr 184,vi 47 0,vi 0 0,vr 189,vi 58 0,vi 0 0,vr 196,vi 64 0,vi 0 0,vr 203,vi 86 0,vi 0 0,vr 248,vi 90 0,vi 0 0,vr 253,vi 95 0,vi 0 0,vr 260,vi 106 0,vi 0 0,vr 265,vi 121 0,vi 0 0,vr 270,vi 130 0,vi 0 0,vr 275,vi 132 0,vi 0 0,vr 282,vi 134 0,vi 0 0,vr 287,vi 151 0,vi 0 0,vr 294,vi 153 0,vi 0 0,vr 301,vi 156 0,vi 0 0,vr 308,vi 166 0,vi 0 0,vr 313,vi 173 0,vi 0 0,vr 320]⟩) ⟨[]⟩)
noncomputable def o315 (P:PM):OB:=(ob y0 (dq ⟨[vs q133 497,vs q15 498]⟩ 0) ⟨[]⟩)
noncomputable def o317 (P:PM):OB:=j0 q103 q103 (tT 28)
noncomputable def o318 (P:PM):OB:=(ob y1 (df ⟨[vs q103 494,vs q103 495,vs q8 496,vi 86 0,vi 2 0,vi 0 0,vi 0 0,vi 3 0,vr 243,(Value.bool true),vi 181 0,vr 244,vn,vr 245,vr 246,vr 247,vi 499 0,vi 86 0,vs q8 500]⟩) ⟨[]⟩)
noncomputable def o319 (P:PM):OB:=j1 q103 q103 (tT 28) q27 492 248
noncomputable def o322 (P:PM):OB:=j0 q34 q34 (tT 29)
noncomputable def o323 (P:PM):OB:=(ob y1 (df ⟨[vs q34 502,vs q34 503,vs q8 504,vi 90 0,vi 2 0,vi 0 0,vi 0 0,vi 3 0,vr 250,(Value.bool true),vi 181 0,vr 251,vn,vn,vn,vr 252,vi 505 0,vi 90 0,vs q8 506]⟩) ⟨[]⟩)
noncomputable def o324 (P:PM):OB:=j1 q34 q34 (tT 29) q27 492 253
noncomputable def o327 (P:PM):OB:=(ob y0 (dq ⟨[vs q10 511,vs q11 512,vs q12 513,vs q13 514,vs q14 515,vs q15 516,vs q19 517]⟩ 0) ⟨[]⟩)
noncomputable def o329 (P:PM):OB:=j0 q9 q9 (tT 30)
noncomputable def o330 (P:PM):OB:=(ob y1 (df ⟨[vs q9 508,vs q9 509,vs q8 510,vi 95 0,vi 2 0,vi 0 0,vi 0 0,vi 3 0,vr 255,(Value.bool true),vi 181 0,vr 256,vn,vr 257,vr 258,vr 259,vi 518 0,vi 95 0,vs q8 519]⟩) ⟨[]⟩)
noncomputable def o331 (P:PM):OB:=j1 q9 q9 (tT 30) q27 492 260
noncomputable def o334 (P:PM):OB:=j0 q104 q104 (tT 31)
noncomputable def o335 (P:PM):OB:=(ob y1 (df ⟨[vs q104 521,vs q104 522,vs q8 523,vi 106 0,vi 2 0,vi 0 0,vi 0 0,vi 3 0,vr 262,(Value.bool true),vi 181 0,vr 263,vn,vn,vn,vr 264,vi 524 0,vi 106 0,vs q8 525]⟩) ⟨[]⟩)
noncomputable def o336 (P:PM):OB:=j1 q104 q104 (tT 31) q27 492 265
noncomputable def o339 (P:PM):OB:=j0 q105 q105 (tT 32)
noncomputable def o340 (P:PM):OB:=(ob y1 (df ⟨[vs q105 527,vs q105 528,vs q8 529,vi 121 0,vi 3 0,vi 0 0,vi 0 0,vi 3 0,vr 267,(Value.bool true),vi 181 0,vr 268,vn,vn,vn,vr 269,vi 530 0,vi 121 0,vs q8 531]⟩) ⟨[]⟩)
noncomputable def o341 (P:PM):OB:=j1 q105 q105 (tT 32) q27 492 270
noncomputable def o344 (P:PM):OB:=j0 q35 q35 (tT 33)
noncomputable def o345 (P:PM):OB:=(ob y1 (df ⟨[vs q35 533,vs q35 534,vs q8 535,vi 130 0,vi 1 0,vi 0 0,vi 0 0,vi 3 0,vr 272,(Value.bool true),vi 181 0,vr 273,vn,vn,vn,vr 274,vi 536 0,vi 130 0,vs q8 537]⟩) ⟨[]⟩)
noncomputable def o346 (P:PM):OB:=j1 q35 q35 (tT 33) q27 492 275
noncomputable def o349 (P:PM):OB:=(ob y0 (dq ⟨[vs q14 542]⟩ 0) ⟨[]⟩)
noncomputable def o351 (P:PM):OB:=j0 q74 q74 (tT 34)
noncomputable def o352 (P:PM):OB:=(ob y1 (df ⟨[vs q74 539,vs q74 540,vs q8 541,vi 132 0,vi 1 0,vi 0 0,vi 0 0,vi 3 0,vr 277,(Value.bool true),vi 181 0,vr 278,vn,vr 279,vr 280,vr 281,vi 543 0,vi 132 0,vs q8 544]⟩) ⟨[]⟩)
noncomputable def o353 (P:PM):OB:=j1 q74 q74 (tT 34) q27 492 282
noncomputable def o356 (P:PM):OB:=j0 q106 q106 (tT 35)
noncomputable def o357 (P:PM):OB:=(ob y1 (df ⟨[vs q106 546,vs q106 547,vs q8 548,vi 134 0,vi 4 0,vi 0 0,vi 0 0,vi 3 0,vr 284,(Value.bool true),vi 181 0,vr 285,vn,vn,vn,vr 286,vi 549 0,vi 134 0,vs q8 550]⟩) ⟨[]⟩)
noncomputable def o358 (P:PM):OB:=j1 q106 q106 (tT 35) q27 492 287
noncomputable def o361 (P:PM):OB:=(ob y0 (dq ⟨[vs q10 555]⟩ 0) ⟨[]⟩)
noncomputable def o363 (P:PM):OB:=j0 q23 q23 (tT 36)
noncomputable def o364 (P:PM):OB:=(ob y1 (df ⟨[vs q23 552,vs q23 553,vs q8 554,vi 151 0,vi 1 0,vi 0 0,vi 0 0,vi 3 0,vr 289,(Value.bool true),vi 181 0,vr 290,vn,vr 291,vr 292,vr 293,vi 556 0,vi 151 0,vs q8 557]⟩) ⟨[]⟩)
noncomputable def o365 (P:PM):OB:=j1 q23 q23 (tT 36) q27 492 294
noncomputable def o368 (P:PM):OB:=(ob y0 (dq ⟨[vs q114 562,vs q91 563,vs q10 564,vs q82 565]⟩ 0) ⟨[]⟩)
noncomputable def o370 (P:PM):OB:=j0 q107 q107 (tT 37)
noncomputable def o371 (P:PM):OB:=(ob y1 (df ⟨[vs q107 559,vs q107 560,vs q8 561,vi 153 0,vi 3 0,vi 0 0,vi 0 0,vi 3 0,vr 296,(Value.bool true),vi 181 0,vr 297,vn,vr 298,vr 299,vr 300,vi 566 0,vi 153 0,vs q8 567]⟩) ⟨[]⟩)
noncomputable def o372 (P:PM):OB:=j1 q107 q107 (tT 37) q27 492 301
noncomputable def o375 (P:PM):OB:=(ob y0 (dq ⟨[vs q19 572,vs q12 573,vs q10 574,vs q82 575,vs q83 576]⟩ 0) ⟨[]⟩)
noncomputable def o377 (P:PM):OB:=j0 q85 q85 (tT 38)
noncomputable def o378 (P:PM):OB:=(ob y1 (df ⟨[vs q85 569,vs q85 570,vs q8 571,vi 156 0,vi 3 0,vi 0 0,vi 0 0,vi 3 0,vr 303,(Value.bool true),vi 181 0,vr 304,vn,vr 305,vr 306,vr 307,vi 577 0,vi 156 0,vs q8 578]⟩) ⟨[]⟩)
noncomputable def o379 (P:PM):OB:=j1 q85 q85 (tT 38) q27 492 308
noncomputable def o382 (P:PM):OB:=j0 q108 q108 (tT 39)
noncomputable def o383 (P:PM):OB:=(ob y1 (df ⟨[vs q108 580,vs q108 581,vs q8 582,vi 166 0,vi 3 0,vi 0 0,vi 0 0,vi 3 0,vr 310,(Value.bool true),vi 181 0,vr 311,vn,vn,vn,vr 312,vi 583 0,vi 166 0,vs q8 584]⟩) ⟨[]⟩)
noncomputable def o384 (P:PM):OB:=j1 q108 q108 (tT 39) q27 492 313
noncomputable def o387 (P:PM):OB:=(ob y0 (dq ⟨[vs q91 589,vs q36 590,vs q92 591,vs q115 592,vs q10 593,vs q111 594,vs q116 595,vs q82 596,vs q117 597,vs q118 598,vs q12 599,vs q19 600,vs q38 601,vs q114 602]⟩ 0) ⟨[]⟩)
noncomputable def o389 (P:PM):OB:=j0 q76 q76 (tT 40)
noncomputable def o390 (P:PM):OB:=(ob y1 (df ⟨[vs q76 586,vs q76 587,vs q8 588,vi 173 0,vi 5 0,vi 0 0,vi 0 0,vi 3 0,vr 315,(Value.bool true),vi 181 0,vr 316,vn,vr 317,vr 318,vr 319,vi 603 0,vi 173 0,vs q8 604]⟩) ⟨[]⟩)
noncomputable def o391 (P:PM):OB:=j1 q76 q76 (tT 40) q27 492 320
noncomputable def o392 (P:PM):OB:=(ob y3 (dd ⟨[de P q47 165 (vs q27 492),de P q33 166 vn,de P q48 167 vn,de P q49 168 (Value.builtin y4),de P q50 169 vn,de P q51 170 (vr 6),de P q52 171 (vr 4),de P q53 173 (vs q8 172),de P q54 174 vn,de P q28 193 (vr 21),de P q55 202 (vr 28),de P q31 222 (vr 38),de P q99 238 (vr 51),de P q73 254 (vr 63),de P q101 270 (vr 75),de P q98 286 (vr 87),de P q97 302 (vr 99),de P q90 318 (vr 111),de P q100 334 (vr 123),de P q67 350 (vr 135),de P q3 366 (vr 147),de P q84 382 (vr 159),de P q41 391 (vr 168),de P q65 400 (vr 175),de P q80 406 (vr 180),de P q102 410 (vi 10 409),de P q66 412 (vi 999 411),de P q77 414 (vi 6 413),de P q22 420 (vr 185),de P q56 426 (vr 190),de P q81 435 (vr 197),de P q86 491 (vr 238),de P q103 501 (vr 249),de P q34 507 (vr 254),de P q9 520 (vr 261),de P q104 526 (vr 266),de P q105 532 (vr 271),de P q35 538 (vr 276),de P q74 545 (vr 283),de P q106 551 (vr 288),de P q23 558 (vr 295),de P q107 568 (vr 302),de P q85 579 (vr 309),de P q108 585 (vr 314),de P q76 605 (vr 321),de P q32 617 (vr 328),de P q109 632 (vr 335)]⟩ 47) ⟨[]⟩)
noncomputable def o393 (P:PM):OB:=(Obj.mk vn none (df ⟨[vi 1 0,vi 0 0,vr 20,vi 5 0,vi 0 0,vr 27,vi 8 0,vi 0 0,vr 34,vi 10 0,vi 0 0,vr 47,vi 12 0,vi 0 0,vr 59,vi 14 0,vi 0 0,vr 71,vi 16 0,vi 0 0,vr 83,vi 18 0,vi 0 0,vr 95,vi 20 0,vi 0 0,vr 107,vi 22 0,vi 0 0,vr 119,vi 24 0,vi 0 0,vr 131,vi 26 0,vi 0 0,vr 143,vi 28 0,vi 0 0,vr 155,vi 31 0,vi 0 0,vr 167,vi 33 0,vi 0 0,vr 174,vi 35 0,vi 0 0,vr 179,vi 41 0,vi 0 0,vr 184,vi 47 0,vi 0 0,vr 189,vi 58 0,vi 0 0,vr 196,vi 64 0,vi 0 0,vr 203,vi 86 0,vi 0 0,vr 248,vi 90 0,vi 0 0,vr 253,vi 95 0,vi 0 0,vr 260,vi 106 0,vi 0 0,vr 265,vi 121 0,vi 0 0,vr 270,vi 130 0,vi 0 0,vr 275,vi 132 0,vi 0 0,vr 282,vi 134 0,vi 0 0,vr 287,vi 151 0,vi 0 0,vr 294,vi 153 0,vi 0 0,vr 301,vi 156 0,vi 0 0,vr 308,vi 166 0,vi 0 0,vr 313,vi 173 0,vi 0 0,vr 320,vi 206 0,vi 0 0,vr 327,vi 220 0,vi 0 0,vr 334]⟩) ⟨[]⟩)
noncomputable def o396 (P:PM):OB:=(ob y0 (dq ⟨[vs q91 609,vs q36 610,vs q92 611,vs q93 612,vs q94 613,vs q95 614]⟩ 0) ⟨[]⟩)
noncomputable def o398 (P:PM):OB:=j0 q32 q32 (tT 41)
noncomputable def o399 (P:PM):OB:=(ob y1 (df ⟨[vs q32 606,vs q32 607,vs q8 608,vi 206 0,vi 3 0,vi 0 0,vi 0 0,vi 3 0,vr 322,(Value.bool true),vi 181 0,vr 323,vn,vr 324,vr 325,vr 326,vi 615 0,vi 206 0,vs q8 616]⟩) ⟨[]⟩)
noncomputable def o400 (P:PM):OB:=j1 q32 q32 (tT 41) q27 492 327
noncomputable def o403 (P:PM):OB:=(ob y0 (dq ⟨[vs q133 621,vs q91 622,vs q36 623,vs q92 624,vs q115 625,vs q145 626,vs q126 627,vs q127 628,vs q146 629]⟩ 0) ⟨[]⟩)
noncomputable def o405 (P:PM):OB:=j0 q109 q109 (tT 42)
noncomputable def o406 (P:PM):OB:=(ob y1 (df ⟨[vs q109 618,vs q109 619,vs q8 620,vi 220 0,vi 1 0,vi 0 0,vi 0 0,vi 3 0,vr 329,(Value.bool true),vi 181 0,vr 330,vn,vr 331,vr 332,vr 333,vi 630 0,vi 220 0,vs q8 631]⟩) ⟨[]⟩)
noncomputable def o407 (P:PM):OB:=j1 q109 q109 (tT 42) q27 492 334
noncomputable def heap_46 (P:Params):Heap:=(Heap.mk ⟨[b0 P,b1 P,b2 P,b3 P,b4 P,b5 P,b6 P,b7 P,b8 P,b9 P,b10 P,o43 P,o44 P,o45 P,o46 P]⟩ (PySem.Life.mk [] [] [] 0 [] [] false ⟨[]⟩ [] 0 false false false 0 [2000,10,10] false 0 true [] [] 0 false))
noncomputable def tree_47 (P:PM):BT:=(nd (b0 P) (nd (b1 P) (nd (b3 P) (nd (b7 P) nl nl) (nd (o43 P) nl nl)) (nd (b5 P) (nd (b9 P) nl nl) (nd (o45 P) nl nl))) (nd (b2 P) (nd (b4 P) (nd (b8 P) nl nl) (nd (o44 P) nl nl)) (nd (b6 P) (nd (b10 P) nl nl) (nd (o46 P) nl nl))))
noncomputable def tree_77 (P:PM):BT:=(nd (b0 P) (nd (b1 P) (nd (o49 P) (nd (b7 P) (nd (o43 P) (nd (o67 P) nl nl) nl) (nd (o44 P) (nd (o75 P) nl nl) nl)) (nd (o43 P) (nd (o55 P) (nd (o71 P) nl nl) nl) (nd (o63 P) nl nl))) (nd (b5 P) (nd (b9 P) (nd (o53 P) (nd (o44 P) nl nl) nl) (nd (o43 P) (nd (o77 P) nl nl) nl)) (nd (o45 P) (nd (o57 P) (nd (o73 P) nl nl) nl) (nd (o65 P) nl nl)))) (nd (b2 P) (nd (b4 P) (nd (b8 P) (nd (o44 P) (nd (o43 P) nl nl) nl) (nd (o60 P) (nd (o76 P) nl nl) nl)) (nd (o50 P) (nd (o56 P) (nd (o43 P) nl nl) nl) (nd (o64 P) nl nl))) (nd (b6 P) (nd (b10 P) (nd (o43 P) (nd (o70 P) nl nl) nl) (nd (o62 P) nl nl)) (nd (o46 P) (nd (o43 P) (nd (o74 P) nl nl) nl) (nd (o66 P) nl nl)))))
noncomputable def tree_92 (P:PM):BT:=(nd (b0 P) (nd (b1 P) (nd (o78 P) (nd (b7 P) (nd (o43 P) (nd (o67 P) nl nl) (nd (o86 P) nl nl)) (nd (o44 P) (nd (o75 P) nl nl) nl)) (nd (o43 P) (nd (o55 P) (nd (o71 P) nl nl) (nd (o90 P) nl nl)) (nd (o63 P) (nd (o66 P) nl nl) nl))) (nd (b5 P) (nd (b9 P) (nd (o53 P) (nd (o44 P) nl nl) (nd (o43 P) nl nl)) (nd (o43 P) (nd (o77 P) nl nl) nl)) (nd (o45 P) (nd (o57 P) (nd (o73 P) nl nl) (nd (o92 P) nl nl)) (nd (o65 P) (nd (o43 P) nl nl) nl)))) (nd (b2 P) (nd (b4 P) (nd (b8 P) (nd (o44 P) (nd (o43 P) nl nl) (nd (o87 P) nl nl)) (nd (o60 P) (nd (o76 P) nl nl) nl)) (nd (o79 P) (nd (o56 P) (nd (o43 P) nl nl) (nd (o91 P) nl nl)) (nd (o64 P) (nd (o83 P) nl nl) nl))) (nd (b6 P) (nd (b10 P) (nd (o43 P) (nd (o70 P) nl nl) (nd (o89 P) nl nl)) (nd (o62 P) (nd (o81 P) nl nl) nl)) (nd (o46 P) (nd (o43 P) (nd (o80 P) nl nl) nl) (nd (o66 P) (nd (o44 P) nl nl) nl)))))
noncomputable def tree_107 (P:PM):BT:=(nd (b0 P) (nd (b1 P) (nd (o93 P) (nd (b7 P) (nd (o43 P) (nd (o67 P) (nd (o105 P) nl nl) nl) (nd (o86 P) nl nl)) (nd (o44 P) (nd (o75 P) nl nl) (nd (o66 P) nl nl))) (nd (o43 P) (nd (o55 P) (nd (o71 P) nl nl) (nd (o90 P) nl nl)) (nd (o63 P) (nd (o66 P) nl nl) (nd (o101 P) nl nl)))) (nd (b5 P) (nd (b9 P) (nd (o53 P) (nd (o44 P) (nd (o107 P) nl nl) nl) (nd (o43 P) nl nl)) (nd (o43 P) (nd (o77 P) nl nl) (nd (o43 P) nl nl))) (nd (o45 P) (nd (o57 P) (nd (o73 P) nl nl) (nd (o92 P) nl nl)) (nd (o65 P) (nd (o43 P) nl nl) (nd (o43 P) nl nl))))) (nd (b2 P) (nd (b4 P) (nd (b8 P) (nd (o44 P) (nd (o43 P) (nd (o106 P) nl nl) nl) (nd (o87 P) nl nl)) (nd (o60 P) (nd (o76 P) nl nl) (nd (o98 P) nl nl))) (nd (o94 P) (nd (o56 P) (nd (o43 P) nl nl) (nd (o91 P) nl nl)) (nd (o64 P) (nd (o83 P) nl nl) (nd (o102 P) nl nl)))) (nd (b6 P) (nd (b10 P) (nd (o43 P) (nd (o70 P) nl nl) (nd (o89 P) nl nl)) (nd (o62 P) (nd (o81 P) nl nl) (nd (o44 P) nl nl))) (nd (o46 P) (nd (o43 P) (nd (o95 P) nl nl) (nd (o81 P) nl nl)) (nd (o66 P) (nd (o44 P) nl nl) (nd (o104 P) nl nl))))))
noncomputable def tree_122 (P:PM):BT:=(nd (b0 P) (nd (b1 P) (nd (o108 P) (nd (b7 P) (nd (o43 P) (nd (o67 P) (nd (o105 P) nl nl) nl) (nd (o86 P) nl nl)) (nd (o44 P) (nd (o75 P) (nd (o116 P) nl nl) nl) (nd (o66 P) nl nl))) (nd (o43 P) (nd (o55 P) (nd (o71 P) (nd (o66 P) nl nl) nl) (nd (o90 P) nl nl)) (nd (o63 P) (nd (o66 P) (nd (o120 P) nl nl) nl) (nd (o101 P) nl nl)))) (nd (b5 P) (nd (b9 P) (nd (o53 P) (nd (o44 P) (nd (o107 P) nl nl) nl) (nd (o43 P) nl nl)) (nd (o43 P) (nd (o77 P) (nd (o43 P) nl nl) nl) (nd (o43 P) nl nl))) (nd (o45 P) (nd (o57 P) (nd (o73 P) (nd (o43 P) nl nl) nl) (nd (o92 P) nl nl)) (nd (o65 P) (nd (o43 P) (nd (o122 P) nl nl) nl) (nd (o43 P) nl nl))))) (nd (b2 P) (nd (b4 P) (nd (b8 P) (nd (o44 P) (nd (o43 P) (nd (o106 P) nl nl) nl) (nd (o87 P) nl nl)) (nd (o60 P) (nd (o76 P) (nd (o117 P) nl nl) nl) (nd (o98 P) nl nl))) (nd (o109 P) (nd (o56 P) (nd (o43 P) (nd (o113 P) nl nl) nl) (nd (o91 P) nl nl)) (nd (o64 P) (nd (o83 P) (nd (o121 P) nl nl) nl) (nd (o102 P) nl nl)))) (nd (b6 P) (nd (b10 P) (nd (o43 P) (nd (o70 P) (nd (o81 P) nl nl) nl) (nd (o89 P) nl nl)) (nd (o62 P) (nd (o81 P) (nd (o119 P) nl nl) nl) (nd (o44 P) nl nl))) (nd (o46 P) (nd (o43 P) (nd (o110 P) (nd (o44 P) nl nl) nl) (nd (o81 P) nl nl)) (nd (o66 P) (nd (o44 P) nl nl) (nd (o104 P) nl nl))))))
noncomputable def tree_137 (P:PM):BT:=(nd (b0 P) (nd (b1 P) (nd (o123 P) (nd (b7 P) (nd (o43 P) (nd (o67 P) (nd (o105 P) nl nl) nl) (nd (o86 P) (nd (o66 P) nl nl) nl)) (nd (o44 P) (nd (o75 P) (nd (o116 P) nl nl) nl) (nd (o66 P) (nd (o135 P) nl nl) nl))) (nd (o43 P) (nd (o55 P) (nd (o71 P) (nd (o66 P) nl nl) nl) (nd (o90 P) (nd (o131 P) nl nl) nl)) (nd (o63 P) (nd (o66 P) (nd (o120 P) nl nl) nl) (nd (o101 P) nl nl)))) (nd (b5 P) (nd (b9 P) (nd (o53 P) (nd (o44 P) (nd (o107 P) nl nl) nl) (nd (o43 P) (nd (o43 P) nl nl) nl)) (nd (o43 P) (nd (o77 P) (nd (o43 P) nl nl) nl) (nd (o43 P) (nd (o137 P) nl nl) nl))) (nd (o45 P) (nd (o57 P) (nd (o73 P) (nd (o43 P) nl nl) nl) (nd (o92 P) (nd (o43 P) nl nl) nl)) (nd (o65 P) (nd (o43 P) (nd (o122 P) nl nl) nl) (nd (o43 P) nl nl))))) (nd (b2 P) (nd (b4 P) (nd (b8 P) (nd (o44 P) (nd (o43 P) (nd (o106 P) nl nl) nl) (nd (o87 P) (nd (o128 P) nl nl) nl)) (nd (o60 P) (nd (o76 P) (nd (o117 P) nl nl) nl) (nd (o98 P) (nd (o136 P) nl nl) nl))) (nd (o124 P) (nd (o56 P) (nd (o43 P) (nd (o113 P) nl nl) nl) (nd (o91 P) (nd (o132 P) nl nl) nl)) (nd (o64 P) (nd (o83 P) (nd (o121 P) nl nl) nl) (nd (o102 P) nl nl)))) (nd (b6 P) (nd (b10 P) (nd (o43 P) (nd (o70 P) (nd (o81 P) nl nl) nl) (nd (o89 P) (nd (o44 P) nl nl) nl)) (nd (o62 P) (nd (o81 P) (nd (o119 P) nl nl) nl) (nd (o44 P) nl nl))) (nd (o46 P) (nd (o43 P) (nd (o125 P) (nd (o44 P) nl nl) nl) (nd (o81 P) (nd (o134 P) nl nl) nl)) (nd (o66 P) (nd (o44 P) (nd (o81 P) nl nl) nl) (nd (o104 P) nl nl))))))
noncomputable def tree_152 (P:PM):BT:=(nd (b0 P) (nd (b1 P) (nd (o138 P) (nd (b7 P) (nd (o43 P) (nd (o67 P) (nd (o105 P) nl nl) (nd (o146 P) nl nl)) (nd (o86 P) (nd (o66 P) nl nl) nl)) (nd (o44 P) (nd (o75 P) (nd (o116 P) nl nl) nl) (nd (o66 P) (nd (o135 P) nl nl) nl))) (nd (o43 P) (nd (o55 P) (nd (o71 P) (nd (o66 P) nl nl) (nd (o150 P) nl nl)) (nd (o90 P) (nd (o131 P) nl nl) nl)) (nd (o63 P) (nd (o66 P) (nd (o120 P) nl nl) nl) (nd (o101 P) (nd (o66 P) nl nl) nl)))) (nd (b5 P) (nd (b9 P) (nd (o53 P) (nd (o44 P) (nd (o107 P) nl nl) (nd (o43 P) nl nl)) (nd (o43 P) (nd (o43 P) nl nl) nl)) (nd (o43 P) (nd (o77 P) (nd (o43 P) nl nl) nl) (nd (o43 P) (nd (o137 P) nl nl) nl))) (nd (o45 P) (nd (o57 P) (nd (o73 P) (nd (o43 P) nl nl) (nd (o152 P) nl nl)) (nd (o92 P) (nd (o43 P) nl nl) nl)) (nd (o65 P) (nd (o43 P) (nd (o122 P) nl nl) nl) (nd (o43 P) (nd (o43 P) nl nl) nl))))) (nd (b2 P) (nd (b4 P) (nd (b8 P) (nd (o44 P) (nd (o43 P) (nd (o106 P) nl nl) (nd (o147 P) nl nl)) (nd (o87 P) (nd (o128 P) nl nl) nl)) (nd (o60 P) (nd (o76 P) (nd (o117 P) nl nl) nl) (nd (o98 P) (nd (o136 P) nl nl) nl))) (nd (o139 P) (nd (o56 P) (nd (o43 P) (nd (o113 P) nl nl) (nd (o151 P) nl nl)) (nd (o91 P) (nd (o132 P) nl nl) nl)) (nd (o64 P) (nd (o83 P) (nd (o121 P) nl nl) nl) (nd (o102 P) (nd (o143 P) nl nl) nl)))) (nd (b6 P) (nd (b10 P) (nd (o43 P) (nd (o70 P) (nd (o81 P) nl nl) (nd (o149 P) nl nl)) (nd (o89 P) (nd (o44 P) nl nl) nl)) (nd (o62 P) (nd (o81 P) (nd (o119 P) nl nl) nl) (nd (o44 P) (nd (o81 P) nl nl) nl))) (nd (o46 P) (nd (o43 P) (nd (o140 P) (nd (o44 P) nl nl) nl) (nd (o81 P) (nd (o134 P) nl nl) nl)) (nd (o66 P) (nd (o44 P) (nd (o81 P) nl nl) nl) (nd (o104 P) (nd (o44 P) nl nl) nl))))))
noncomputable def tree_167 (P:PM):BT:=(nd (b0 P) (nd (b1 P) (nd (o153 P) (nd (b7 P) (nd (o43 P) (nd (o67 P) (nd (o105 P) nl nl) (nd (o146 P) nl nl)) (nd (o86 P) (nd (o66 P) nl nl) (nd (o165 P) nl nl))) (nd (o44 P) (nd (o75 P) (nd (o116 P) nl nl) (nd (o66 P) nl nl)) (nd (o66 P) (nd (o135 P) nl nl) nl))) (nd (o43 P) (nd (o55 P) (nd (o71 P) (nd (o66 P) nl nl) (nd (o150 P) nl nl)) (nd (o90 P) (nd (o131 P) nl nl) nl)) (nd (o63 P) (nd (o66 P) (nd (o120 P) nl nl) (nd (o161 P) nl nl)) (nd (o101 P) (nd (o66 P) nl nl) nl)))) (nd (b5 P) (nd (b9 P) (nd (o53 P) (nd (o44 P) (nd (o107 P) nl nl) (nd (o43 P) nl nl)) (nd (o43 P) (nd (o43 P) nl nl) (nd (o167 P) nl nl))) (nd (o43 P) (nd (o77 P) (nd (o43 P) nl nl) (nd (o43 P) nl nl)) (nd (o43 P) (nd (o137 P) nl nl) nl))) (nd (o45 P) (nd (o57 P) (nd (o73 P) (nd (o43 P) nl nl) (nd (o152 P) nl nl)) (nd (o92 P) (nd (o43 P) nl nl) nl)) (nd (o65 P) (nd (o43 P) (nd (o122 P) nl nl) (nd (o43 P) nl nl)) (nd (o43 P) (nd (o43 P) nl nl) nl))))) (nd (b2 P) (nd (b4 P) (nd (b8 P) (nd (o44 P) (nd (o43 P) (nd (o106 P) nl nl) (nd (o147 P) nl nl)) (nd (o87 P) (nd (o128 P) nl nl) (nd (o166 P) nl nl))) (nd (o60 P) (nd (o76 P) (nd (o117 P) nl nl) (nd (o158 P) nl nl)) (nd (o98 P) (nd (o136 P) nl nl) nl))) (nd (o154 P) (nd (o56 P) (nd (o43 P) (nd (o113 P) nl nl) (nd (o151 P) nl nl)) (nd (o91 P) (nd (o132 P) nl nl) nl)) (nd (o64 P) (nd (o83 P) (nd (o121 P) nl nl) (nd (o162 P) nl nl)) (nd (o102 P) (nd (o143 P) nl nl) nl)))) (nd (b6 P) (nd (b10 P) (nd (o43 P) (nd (o70 P) (nd (o81 P) nl nl) (nd (o149 P) nl nl)) (nd (o89 P) (nd (o44 P) nl nl) nl)) (nd (o62 P) (nd (o81 P) (nd (o119 P) nl nl) (nd (o44 P) nl nl)) (nd (o44 P) (nd (o81 P) nl nl) nl))) (nd (o46 P) (nd (o43 P) (nd (o155 P) (nd (o44 P) nl nl) (nd (o81 P) nl nl)) (nd (o81 P) (nd (o134 P) nl nl) nl)) (nd (o66 P) (nd (o44 P) (nd (o81 P) nl nl) (nd (o164 P) nl nl)) (nd (o104 P) (nd (o44 P) nl nl) nl))))))
noncomputable def tree_182 (P:PM):BT:=(nd (b0 P) (nd (b1 P) (nd (o168 P) (nd (b7 P) (nd (o43 P) (nd (o67 P) (nd (o105 P) nl nl) (nd (o146 P) nl nl)) (nd (o86 P) (nd (o66 P) nl nl) (nd (o165 P) nl nl))) (nd (o44 P) (nd (o75 P) (nd (o116 P) nl nl) (nd (o66 P) nl nl)) (nd (o66 P) (nd (o135 P) nl nl) (nd (o176 P) nl nl)))) (nd (o43 P) (nd (o55 P) (nd (o71 P) (nd (o66 P) nl nl) (nd (o150 P) nl nl)) (nd (o90 P) (nd (o131 P) nl nl) (nd (o66 P) nl nl))) (nd (o63 P) (nd (o66 P) (nd (o120 P) nl nl) (nd (o161 P) nl nl)) (nd (o101 P) (nd (o66 P) nl nl) (nd (o180 P) nl nl))))) (nd (b5 P) (nd (b9 P) (nd (o53 P) (nd (o44 P) (nd (o107 P) nl nl) (nd (o43 P) nl nl)) (nd (o43 P) (nd (o43 P) nl nl) (nd (o167 P) nl nl))) (nd (o43 P) (nd (o77 P) (nd (o43 P) nl nl) (nd (o43 P) nl nl)) (nd (o43 P) (nd (o137 P) nl nl) (nd (o43 P) nl nl)))) (nd (o45 P) (nd (o57 P) (nd (o73 P) (nd (o43 P) nl nl) (nd (o152 P) nl nl)) (nd (o92 P) (nd (o43 P) nl nl) (nd (o43 P) nl nl))) (nd (o65 P) (nd (o43 P) (nd (o122 P) nl nl) (nd (o43 P) nl nl)) (nd (o43 P) (nd (o43 P) nl nl) (nd (o182 P) nl nl)))))) (nd (b2 P) (nd (b4 P) (nd (b8 P) (nd (o44 P) (nd (o43 P) (nd (o106 P) nl nl) (nd (o147 P) nl nl)) (nd (o87 P) (nd (o128 P) nl nl) (nd (o166 P) nl nl))) (nd (o60 P) (nd (o76 P) (nd (o117 P) nl nl) (nd (o158 P) nl nl)) (nd (o98 P) (nd (o136 P) nl nl) (nd (o177 P) nl nl)))) (nd (o169 P) (nd (o56 P) (nd (o43 P) (nd (o113 P) nl nl) (nd (o151 P) nl nl)) (nd (o91 P) (nd (o132 P) nl nl) (nd (o173 P) nl nl))) (nd (o64 P) (nd (o83 P) (nd (o121 P) nl nl) (nd (o162 P) nl nl)) (nd (o102 P) (nd (o143 P) nl nl) (nd (o181 P) nl nl))))) (nd (b6 P) (nd (b10 P) (nd (o43 P) (nd (o70 P) (nd (o81 P) nl nl) (nd (o149 P) nl nl)) (nd (o89 P) (nd (o44 P) nl nl) (nd (o81 P) nl nl))) (nd (o62 P) (nd (o81 P) (nd (o119 P) nl nl) (nd (o44 P) nl nl)) (nd (o44 P) (nd (o81 P) nl nl) (nd (o179 P) nl nl)))) (nd (o46 P) (nd (o43 P) (nd (o170 P) (nd (o44 P) nl nl) (nd (o81 P) nl nl)) (nd (o81 P) (nd (o134 P) nl nl) (nd (o44 P) nl nl))) (nd (o66 P) (nd (o44 P) (nd (o81 P) nl nl) (nd (o164 P) nl nl)) (nd (o104 P) (nd (o44 P) nl nl) nl))))))
noncomputable def tree_197 (P:PM):BT:=(nd (b0 P) (nd (b1 P) (nd (o183 P) (nd (b7 P) (nd (o43 P) (nd (o67 P) (nd (o105 P) (nd (o66 P) nl nl) nl) (nd (o146 P) nl nl)) (nd (o86 P) (nd (o66 P) nl nl) (nd (o165 P) nl nl))) (nd (o44 P) (nd (o75 P) (nd (o116 P) (nd (o195 P) nl nl) nl) (nd (o66 P) nl nl)) (nd (o66 P) (nd (o135 P) nl nl) (nd (o176 P) nl nl)))) (nd (o43 P) (nd (o55 P) (nd (o71 P) (nd (o66 P) (nd (o191 P) nl nl) nl) (nd (o150 P) nl nl)) (nd (o90 P) (nd (o131 P) nl nl) (nd (o66 P) nl nl))) (nd (o63 P) (nd (o66 P) (nd (o120 P) nl nl) (nd (o161 P) nl nl)) (nd (o101 P) (nd (o66 P) nl nl) (nd (o180 P) nl nl))))) (nd (b5 P) (nd (b9 P) (nd (o53 P) (nd (o44 P) (nd (o107 P) (nd (o43 P) nl nl) nl) (nd (o43 P) nl nl)) (nd (o43 P) (nd (o43 P) nl nl) (nd (o167 P) nl nl))) (nd (o43 P) (nd (o77 P) (nd (o43 P) (nd (o197 P) nl nl) nl) (nd (o43 P) nl nl)) (nd (o43 P) (nd (o137 P) nl nl) (nd (o43 P) nl nl)))) (nd (o45 P) (nd (o57 P) (nd (o73 P) (nd (o43 P) (nd (o43 P) nl nl) nl) (nd (o152 P) nl nl)) (nd (o92 P) (nd (o43 P) nl nl) (nd (o43 P) nl nl))) (nd (o65 P) (nd (o43 P) (nd (o122 P) nl nl) (nd (o43 P) nl nl)) (nd (o43 P) (nd (o43 P) nl nl) (nd (o182 P) nl nl)))))) (nd (b2 P) (nd (b4 P) (nd (b8 P) (nd (o44 P) (nd (o43 P) (nd (o106 P) (nd (o188 P) nl nl) nl) (nd (o147 P) nl nl)) (nd (o87 P) (nd (o128 P) nl nl) (nd (o166 P) nl nl))) (nd (o60 P) (nd (o76 P) (nd (o117 P) (nd (o196 P) nl nl) nl) (nd (o158 P) nl nl)) (nd (o98 P) (nd (o136 P) nl nl) (nd (o177 P) nl nl)))) (nd (o184 P) (nd (o56 P) (nd (o43 P) (nd (o113 P) (nd (o192 P) nl nl) nl) (nd (o151 P) nl nl)) (nd (o91 P) (nd (o132 P) nl nl) (nd (o173 P) nl nl))) (nd (o64 P) (nd (o83 P) (nd (o121 P) nl nl) (nd (o162 P) nl nl)) (nd (o102 P) (nd (o143 P) nl nl) (nd (o181 P) nl nl))))) (nd (b6 P) (nd (b10 P) (nd (o43 P) (nd (o70 P) (nd (o81 P) (nd (o44 P) nl nl) nl) (nd (o149 P) nl nl)) (nd (o89 P) (nd (o44 P) nl nl) (nd (o81 P) nl nl))) (nd (o62 P) (nd (o81 P) (nd (o119 P) nl nl) (nd (o44 P) nl nl)) (nd (o44 P) (nd (o81 P) nl nl) (nd (o179 P) nl nl)))) (nd (o46 P) (nd (o43 P) (nd (o185 P) (nd (o44 P) (nd (o194 P) nl nl) nl) (nd (o81 P) nl nl)) (nd (o81 P) (nd (o134 P) nl nl) (nd (o44 P) nl nl))) (nd (o66 P) (nd (o44 P) (nd (o81 P) nl nl) (nd (o164 P) nl nl)) (nd (o104 P) (nd (o44 P) nl nl) (nd (o81 P) nl nl)))))))
noncomputable def tree_212 (P:PM):BT:=(nd (b0 P) (nd (b1 P) (nd (o198 P) (nd (b7 P) (nd (o43 P) (nd (o67 P) (nd (o105 P) (nd (o66 P) nl nl) nl) (nd (o146 P) nl nl)) (nd (o86 P) (nd (o66 P) (nd (o206 P) nl nl) nl) (nd (o165 P) nl nl))) (nd (o44 P) (nd (o75 P) (nd (o116 P) (nd (o195 P) nl nl) nl) (nd (o66 P) nl nl)) (nd (o66 P) (nd (o135 P) nl nl) (nd (o176 P) nl nl)))) (nd (o43 P) (nd (o55 P) (nd (o71 P) (nd (o66 P) (nd (o191 P) nl nl) nl) (nd (o150 P) nl nl)) (nd (o90 P) (nd (o131 P) (nd (o210 P) nl nl) nl) (nd (o66 P) nl nl))) (nd (o63 P) (nd (o66 P) (nd (o120 P) (nd (o66 P) nl nl) nl) (nd (o161 P) nl nl)) (nd (o101 P) (nd (o66 P) nl nl) (nd (o180 P) nl nl))))) (nd (b5 P) (nd (b9 P) (nd (o53 P) (nd (o44 P) (nd (o107 P) (nd (o43 P) nl nl) nl) (nd (o43 P) nl nl)) (nd (o43 P) (nd (o43 P) (nd (o43 P) nl nl) nl) (nd (o167 P) nl nl))) (nd (o43 P) (nd (o77 P) (nd (o43 P) (nd (o197 P) nl nl) nl) (nd (o43 P) nl nl)) (nd (o43 P) (nd (o137 P) nl nl) (nd (o43 P) nl nl)))) (nd (o45 P) (nd (o57 P) (nd (o73 P) (nd (o43 P) (nd (o43 P) nl nl) nl) (nd (o152 P) nl nl)) (nd (o92 P) (nd (o43 P) (nd (o212 P) nl nl) nl) (nd (o43 P) nl nl))) (nd (o65 P) (nd (o43 P) (nd (o122 P) (nd (o43 P) nl nl) nl) (nd (o43 P) nl nl)) (nd (o43 P) (nd (o43 P) nl nl) (nd (o182 P) nl nl)))))) (nd (b2 P) (nd (b4 P) (nd (b8 P) (nd (o44 P) (nd (o43 P) (nd (o106 P) (nd (o188 P) nl nl) nl) (nd (o147 P) nl nl)) (nd (o87 P) (nd (o128 P) (nd (o207 P) nl nl) nl) (nd (o166 P) nl nl))) (nd (o60 P) (nd (o76 P) (nd (o117 P) (nd (o196 P) nl nl) nl) (nd (o158 P) nl nl)) (nd (o98 P) (nd (o136 P) nl nl) (nd (o177 P) nl nl)))) (nd (o199 P) (nd (o56 P) (nd (o43 P) (nd (o113 P) (nd (o192 P) nl nl) nl) (nd (o151 P) nl nl)) (nd (o91 P) (nd (o132 P) (nd (o211 P) nl nl) nl) (nd (o173 P) nl nl))) (nd (o64 P) (nd (o83 P) (nd (o121 P) (nd (o203 P) nl nl) nl) (nd (o162 P) nl nl)) (nd (o102 P) (nd (o143 P) nl nl) (nd (o181 P) nl nl))))) (nd (b6 P) (nd (b10 P) (nd (o43 P) (nd (o70 P) (nd (o81 P) (nd (o44 P) nl nl) nl) (nd (o149 P) nl nl)) (nd (o89 P) (nd (o44 P) (nd (o209 P) nl nl) nl) (nd (o81 P) nl nl))) (nd (o62 P) (nd (o81 P) (nd (o119 P) (nd (o81 P) nl nl) nl) (nd (o44 P) nl nl)) (nd (o44 P) (nd (o81 P) nl nl) (nd (o179 P) nl nl)))) (nd (o46 P) (nd (o43 P) (nd (o200 P) (nd (o44 P) (nd (o194 P) nl nl) nl) (nd (o81 P) nl nl)) (nd (o81 P) (nd (o134 P) nl nl) (nd (o44 P) nl nl))) (nd (o66 P) (nd (o44 P) (nd (o81 P) (nd (o44 P) nl nl) nl) (nd (o164 P) nl nl)) (nd (o104 P) (nd (o44 P) nl nl) (nd (o81 P) nl nl)))))))
noncomputable def tree_256 (P:PM):BT:=(nd (b0 P) (nd (b1 P) (nd (o213 P) (nd (b7 P) (nd (o43 P) (nd (o67 P) (nd (o105 P) (nd (o66 P) nl nl) nl) (nd (o146 P) (nd (o225 P) nl nl) nl)) (nd (o86 P) (nd (o66 P) (nd (o206 P) nl nl) nl) (nd (o165 P) (nd (o241 P) nl nl) nl))) (nd (o44 P) (nd (o75 P) (nd (o116 P) (nd (o195 P) nl nl) nl) (nd (o66 P) (nd (o233 P) nl nl) nl)) (nd (o66 P) (nd (o135 P) (nd (o66 P) nl nl) nl) (nd (o176 P) (nd (o249 P) nl nl) nl)))) (nd (o43 P) (nd (o55 P) (nd (o71 P) (nd (o66 P) (nd (o191 P) nl nl) nl) (nd (o150 P) (nd (o44 P) nl nl) nl)) (nd (o90 P) (nd (o131 P) (nd (o210 P) nl nl) nl) (nd (o66 P) (nd (o245 P) nl nl) nl))) (nd (o63 P) (nd (o66 P) (nd (o120 P) (nd (o66 P) nl nl) nl) (nd (o161 P) (nd (o237 P) nl nl) nl)) (nd (o101 P) (nd (o66 P) (nd (o221 P) nl nl) nl) (nd (o180 P) (nd (o44 P) nl nl) nl))))) (nd (b5 P) (nd (b9 P) (nd (o53 P) (nd (o44 P) (nd (o107 P) (nd (o43 P) nl nl) nl) (nd (o43 P) (nd (o227 P) nl nl) nl)) (nd (o43 P) (nd (o43 P) (nd (o43 P) nl nl) nl) (nd (o167 P) (nd (o44 P) nl nl) nl))) (nd (o43 P) (nd (o77 P) (nd (o43 P) (nd (o197 P) nl nl) nl) (nd (o43 P) (nd (o43 P) nl nl) nl)) (nd (o43 P) (nd (o137 P) (nd (o43 P) nl nl) nl) (nd (o43 P) (nd (o251 P) nl nl) nl)))) (nd (o45 P) (nd (o57 P) (nd (o73 P) (nd (o43 P) (nd (o43 P) nl nl) nl) (nd (o152 P) (nd (o43 P) nl nl) nl)) (nd (o92 P) (nd (o43 P) (nd (o212 P) nl nl) nl) (nd (o43 P) (nd (o43 P) nl nl) nl))) (nd (o65 P) (nd (o43 P) (nd (o122 P) (nd (o43 P) nl nl) nl) (nd (o43 P) (nd (o239 P) nl nl) nl)) (nd (o43 P) (nd (o43 P) (nd (o43 P) nl nl) nl) (nd (o182 P) (nd (o255 P) nl nl) nl)))))) (nd (b2 P) (nd (b4 P) (nd (b8 P) (nd (o44 P) (nd (o43 P) (nd (o106 P) (nd (o188 P) nl nl) nl) (nd (o147 P) (nd (o226 P) nl nl) nl)) (nd (o87 P) (nd (o128 P) (nd (o207 P) nl nl) nl) (nd (o166 P) (nd (o43 P) nl nl) nl))) (nd (o60 P) (nd (o76 P) (nd (o117 P) (nd (o196 P) nl nl) nl) (nd (o158 P) (nd (o234 P) nl nl) nl)) (nd (o98 P) (nd (o136 P) (nd (o218 P) nl nl) nl) (nd (o177 P) (nd (o250 P) nl nl) nl)))) (nd (o214 P) (nd (o56 P) (nd (o43 P) (nd (o113 P) (nd (o192 P) nl nl) nl) (nd (o151 P) (nd (o230 P) nl nl) nl)) (nd (o91 P) (nd (o132 P) (nd (o211 P) nl nl) nl) (nd (o173 P) (nd (o246 P) nl nl) nl))) (nd (o64 P) (nd (o83 P) (nd (o121 P) (nd (o203 P) nl nl) nl) (nd (o162 P) (nd (o43 P) nl nl) nl)) (nd (o102 P) (nd (o143 P) (nd (o222 P) nl nl) nl) (nd (o181 P) (nd (o254 P) nl nl) nl))))) (nd (b6 P) (nd (b10 P) (nd (o43 P) (nd (o70 P) (nd (o81 P) (nd (o44 P) nl nl) nl) (nd (o149 P) (nd (o43 P) nl nl) nl)) (nd (o89 P) (nd (o44 P) (nd (o209 P) nl nl) nl) (nd (o81 P) (nd (o244 P) nl nl) nl))) (nd (o62 P) (nd (o81 P) (nd (o119 P) (nd (o81 P) nl nl) nl) (nd (o44 P) (nd (o44 P) nl nl) nl)) (nd (o44 P) (nd (o81 P) (nd (o44 P) nl nl) nl) (nd (o179 P) (nd (o43 P) nl nl) nl)))) (nd (o46 P) (nd (o43 P) (nd (o215 P) (nd (o44 P) (nd (o194 P) nl nl) nl) (nd (o81 P) (nd (o232 P) nl nl) nl)) (nd (o81 P) (nd (o134 P) (nd (o81 P) nl nl) nl) (nd (o44 P) (nd (o44 P) nl nl) nl))) (nd (o66 P) (nd (o44 P) (nd (o81 P) (nd (o44 P) nl nl) nl) (nd (o164 P) (nd (o240 P) nl nl) nl)) (nd (o104 P) (nd (o44 P) (nd (o224 P) nl nl) nl) (nd (o81 P) (nd (o256 P) nl nl) nl)))))))
noncomputable def tree_310 (P:PM):BT:=(nd (b0 P) (nd (b1 P) (nd (o257 P) (nd (b7 P) (nd (o43 P) (nd (o67 P) (nd (o105 P) (nd (o66 P) nl nl) (nd (o43 P) nl nl)) (nd (o146 P) (nd (o225 P) nl nl) (nd (o44 P) nl nl))) (nd (o86 P) (nd (o66 P) (nd (o206 P) nl nl) (nd (o275 P) nl nl)) (nd (o165 P) (nd (o241 P) nl nl) (nd (o307 P) nl nl)))) (nd (o44 P) (nd (o75 P) (nd (o116 P) (nd (o195 P) nl nl) (nd (o66 P) nl nl)) (nd (o66 P) (nd (o233 P) nl nl) (nd (o299 P) nl nl))) (nd (o66 P) (nd (o135 P) (nd (o66 P) nl nl) (nd (o43 P) nl nl)) (nd (o176 P) (nd (o249 P) nl nl) nl)))) (nd (o43 P) (nd (o55 P) (nd (o71 P) (nd (o66 P) (nd (o191 P) nl nl) (nd (o263 P) nl nl)) (nd (o150 P) (nd (o44 P) nl nl) (nd (o295 P) nl nl))) (nd (o90 P) (nd (o131 P) (nd (o210 P) nl nl) (nd (o44 P) nl nl)) (nd (o66 P) (nd (o245 P) nl nl) nl))) (nd (o63 P) (nd (o66 P) (nd (o120 P) (nd (o66 P) nl nl) (nd (o271 P) nl nl)) (nd (o161 P) (nd (o237 P) nl nl) (nd (o303 P) nl nl))) (nd (o101 P) (nd (o66 P) (nd (o221 P) nl nl) (nd (o287 P) nl nl)) (nd (o180 P) (nd (o44 P) nl nl) nl))))) (nd (b5 P) (nd (b9 P) (nd (o53 P) (nd (o44 P) (nd (o107 P) (nd (o43 P) nl nl) (nd (o261 P) nl nl)) (nd (o43 P) (nd (o227 P) nl nl) (nd (o43 P) nl nl))) (nd (o43 P) (nd (o43 P) (nd (o43 P) nl nl) (nd (o277 P) nl nl)) (nd (o167 P) (nd (o44 P) nl nl) (nd (o309 P) nl nl)))) (nd (o43 P) (nd (o77 P) (nd (o43 P) (nd (o197 P) nl nl) (nd (o43 P) nl nl)) (nd (o43 P) (nd (o43 P) nl nl) (nd (o301 P) nl nl))) (nd (o43 P) (nd (o137 P) (nd (o43 P) nl nl) (nd (o285 P) nl nl)) (nd (o43 P) (nd (o251 P) nl nl) nl)))) (nd (o45 P) (nd (o57 P) (nd (o73 P) (nd (o43 P) (nd (o43 P) nl nl) (nd (o265 P) nl nl)) (nd (o152 P) (nd (o43 P) nl nl) (nd (o43 P) nl nl))) (nd (o92 P) (nd (o43 P) (nd (o212 P) nl nl) (nd (o281 P) nl nl)) (nd (o43 P) (nd (o43 P) nl nl) nl))) (nd (o65 P) (nd (o43 P) (nd (o122 P) (nd (o43 P) nl nl) (nd (o43 P) nl nl)) (nd (o43 P) (nd (o239 P) nl nl) (nd (o305 P) nl nl))) (nd (o43 P) (nd (o43 P) (nd (o43 P) nl nl) (nd (o289 P) nl nl)) (nd (o182 P) (nd (o255 P) nl nl) nl)))))) (nd (b2 P) (nd (b4 P) (nd (b8 P) (nd (o44 P) (nd (o43 P) (nd (o106 P) (nd (o188 P) nl nl) (nd (o44 P) nl nl)) (nd (o147 P) (nd (o226 P) nl nl) (nd (o292 P) nl nl))) (nd (o87 P) (nd (o128 P) (nd (o207 P) nl nl) (nd (o276 P) nl nl)) (nd (o166 P) (nd (o43 P) nl nl) (nd (o308 P) nl nl)))) (nd (o60 P) (nd (o76 P) (nd (o117 P) (nd (o196 P) nl nl) (nd (o268 P) nl nl)) (nd (o158 P) (nd (o234 P) nl nl) (nd (o43 P) nl nl))) (nd (o98 P) (nd (o136 P) (nd (o218 P) nl nl) (nd (o44 P) nl nl)) (nd (o177 P) (nd (o250 P) nl nl) nl)))) (nd (o258 P) (nd (o56 P) (nd (o43 P) (nd (o113 P) (nd (o192 P) nl nl) (nd (o264 P) nl nl)) (nd (o151 P) (nd (o230 P) nl nl) (nd (o296 P) nl nl))) (nd (o91 P) (nd (o132 P) (nd (o211 P) nl nl) (nd (o280 P) nl nl)) (nd (o173 P) (nd (o246 P) nl nl) nl))) (nd (o64 P) (nd (o83 P) (nd (o121 P) (nd (o203 P) nl nl) (nd (o272 P) nl nl)) (nd (o162 P) (nd (o43 P) nl nl) (nd (o304 P) nl nl))) (nd (o102 P) (nd (o143 P) (nd (o222 P) nl nl) (nd (o288 P) nl nl)) (nd (o181 P) (nd (o254 P) nl nl) nl))))) (nd (b6 P) (nd (b10 P) (nd (o43 P) (nd (o70 P) (nd (o81 P) (nd (o44 P) nl nl) (nd (o43 P) nl nl)) (nd (o149 P) (nd (o43 P) nl nl) (nd (o294 P) nl nl))) (nd (o89 P) (nd (o44 P) (nd (o209 P) nl nl) (nd (o43 P) nl nl)) (nd (o81 P) (nd (o244 P) nl nl) (nd (o310 P) nl nl)))) (nd (o62 P) (nd (o81 P) (nd (o119 P) (nd (o81 P) nl nl) (nd (o270 P) nl nl)) (nd (o44 P) (nd (o44 P) nl nl) (nd (o302 P) nl nl))) (nd (o44 P) (nd (o81 P) (nd (o44 P) nl nl) (nd (o43 P) nl nl)) (nd (o179 P) (nd (o43 P) nl nl) nl)))) (nd (o46 P) (nd (o43 P) (nd (o215 P) (nd (o44 P) (nd (o194 P) nl nl) (nd (o43 P) nl nl)) (nd (o81 P) (nd (o232 P) nl nl) (nd (o44 P) nl nl))) (nd (o81 P) (nd (o134 P) (nd (o81 P) nl nl) (nd (o282 P) nl nl)) (nd (o44 P) (nd (o44 P) nl nl) nl))) (nd (o66 P) (nd (o44 P) (nd (o81 P) (nd (o44 P) nl nl) (nd (o44 P) nl nl)) (nd (o164 P) (nd (o240 P) nl nl) (nd (o306 P) nl nl))) (nd (o104 P) (nd (o44 P) (nd (o224 P) nl nl) (nd (o43 P) nl nl)) (nd (o81 P) (nd (o256 P) nl nl) nl)))))))
noncomputable def tree_391 (P:PM):BT:=(nd (b0 P) (nd (b1 P) (nd (o311 P) (nd (b7 P) (nd (o43 P) (nd (o67 P) (nd (o105 P) (nd (o66 P) (nd (o43 P) nl nl) nl) (nd (o43 P) (nd (o389 P) nl nl) nl)) (nd (o146 P) (nd (o225 P) (nd (o357 P) nl nl) nl) (nd (o44 P) nl nl))) (nd (o86 P) (nd (o66 P) (nd (o206 P) (nd (o341 P) nl nl) nl) (nd (o275 P) nl nl)) (nd (o165 P) (nd (o241 P) (nd (o43 P) nl nl) nl) (nd (o307 P) nl nl)))) (nd (o44 P) (nd (o75 P) (nd (o116 P) (nd (o195 P) (nd (o44 P) nl nl) nl) (nd (o66 P) nl nl)) (nd (o66 P) (nd (o233 P) (nd (o365 P) nl nl) nl) (nd (o299 P) nl nl))) (nd (o66 P) (nd (o135 P) (nd (o66 P) (nd (o349 P) nl nl) nl) (nd (o43 P) nl nl)) (nd (o176 P) (nd (o249 P) (nd (o44 P) nl nl) nl) (nd (o317 P) nl nl))))) (nd (o43 P) (nd (o55 P) (nd (o71 P) (nd (o66 P) (nd (o191 P) (nd (o329 P) nl nl) nl) (nd (o263 P) nl nl)) (nd (o150 P) (nd (o44 P) (nd (o361 P) nl nl) nl) (nd (o295 P) nl nl))) (nd (o90 P) (nd (o131 P) (nd (o210 P) (nd (o345 P) nl nl) nl) (nd (o44 P) nl nl)) (nd (o66 P) (nd (o245 P) (nd (o377 P) nl nl) nl) (nd (o43 P) nl nl)))) (nd (o63 P) (nd (o66 P) (nd (o120 P) (nd (o66 P) (nd (o43 P) nl nl) nl) (nd (o271 P) nl nl)) (nd (o161 P) (nd (o237 P) (nd (o43 P) nl nl) nl) (nd (o303 P) nl nl))) (nd (o101 P) (nd (o66 P) (nd (o221 P) (nd (o353 P) nl nl) nl) (nd (o287 P) nl nl)) (nd (o180 P) (nd (o44 P) (nd (o43 P) nl nl) nl) (nd (o44 P) nl nl)))))) (nd (b5 P) (nd (b9 P) (nd (o53 P) (nd (o44 P) (nd (o107 P) (nd (o43 P) (nd (o327 P) nl nl) nl) (nd (o261 P) (nd (o391 P) nl nl) nl)) (nd (o43 P) (nd (o227 P) (nd (o43 P) nl nl) nl) (nd (o43 P) nl nl))) (nd (o43 P) (nd (o43 P) (nd (o43 P) (nd (o44 P) nl nl) nl) (nd (o277 P) nl nl)) (nd (o167 P) (nd (o44 P) (nd (o375 P) nl nl) nl) (nd (o309 P) nl nl)))) (nd (o43 P) (nd (o77 P) (nd (o43 P) (nd (o197 P) (nd (o335 P) nl nl) nl) (nd (o43 P) nl nl)) (nd (o43 P) (nd (o43 P) (nd (o44 P) nl nl) nl) (nd (o301 P) nl nl))) (nd (o43 P) (nd (o137 P) (nd (o43 P) (nd (o351 P) nl nl) nl) (nd (o285 P) nl nl)) (nd (o43 P) (nd (o251 P) (nd (o383 P) nl nl) nl) (nd (o319 P) nl nl))))) (nd (o45 P) (nd (o57 P) (nd (o73 P) (nd (o43 P) (nd (o43 P) (nd (o331 P) nl nl) nl) (nd (o265 P) nl nl)) (nd (o152 P) (nd (o43 P) (nd (o363 P) nl nl) nl) (nd (o43 P) nl nl))) (nd (o92 P) (nd (o43 P) (nd (o212 P) (nd (o43 P) nl nl) nl) (nd (o281 P) nl nl)) (nd (o43 P) (nd (o43 P) (nd (o379 P) nl nl) nl) (nd (o315 P) nl nl)))) (nd (o65 P) (nd (o43 P) (nd (o122 P) (nd (o43 P) (nd (o339 P) nl nl) nl) (nd (o43 P) nl nl)) (nd (o43 P) (nd (o239 P) (nd (o371 P) nl nl) nl) (nd (o305 P) nl nl))) (nd (o43 P) (nd (o43 P) (nd (o43 P) (nd (o44 P) nl nl) nl) (nd (o289 P) nl nl)) (nd (o182 P) (nd (o255 P) (nd (o387 P) nl nl) nl) (nd (o323 P) nl nl))))))) (nd (b2 P) (nd (b4 P) (nd (b8 P) (nd (o44 P) (nd (o43 P) (nd (o106 P) (nd (o188 P) (nd (o44 P) nl nl) nl) (nd (o44 P) (nd (o390 P) nl nl) nl)) (nd (o147 P) (nd (o226 P) (nd (o358 P) nl nl) nl) (nd (o292 P) nl nl))) (nd (o87 P) (nd (o128 P) (nd (o207 P) (nd (o43 P) nl nl) nl) (nd (o276 P) nl nl)) (nd (o166 P) (nd (o43 P) (nd (o44 P) nl nl) nl) (nd (o308 P) nl nl)))) (nd (o60 P) (nd (o76 P) (nd (o117 P) (nd (o196 P) (nd (o334 P) nl nl) nl) (nd (o268 P) nl nl)) (nd (o158 P) (nd (o234 P) (nd (o43 P) nl nl) nl) (nd (o43 P) nl nl))) (nd (o98 P) (nd (o136 P) (nd (o218 P) (nd (o43 P) nl nl) nl) (nd (o44 P) nl nl)) (nd (o177 P) (nd (o250 P) (nd (o382 P) nl nl) nl) (nd (o318 P) nl nl))))) (nd (o312 P) (nd (o56 P) (nd (o43 P) (nd (o113 P) (nd (o192 P) (nd (o330 P) nl nl) nl) (nd (o264 P) nl nl)) (nd (o151 P) (nd (o230 P) (nd (o43 P) nl nl) nl) (nd (o296 P) nl nl))) (nd (o91 P) (nd (o132 P) (nd (o211 P) (nd (o346 P) nl nl) nl) (nd (o280 P) nl nl)) (nd (o173 P) (nd (o246 P) (nd (o378 P) nl nl) nl) (nd (o44 P) nl nl)))) (nd (o64 P) (nd (o83 P) (nd (o121 P) (nd (o203 P) (nd (o44 P) nl nl) nl) (nd (o272 P) nl nl)) (nd (o162 P) (nd (o43 P) (nd (o370 P) nl nl) nl) (nd (o304 P) nl nl))) (nd (o102 P) (nd (o143 P) (nd (o222 P) (nd (o43 P) nl nl) nl) (nd (o288 P) nl nl)) (nd (o181 P) (nd (o254 P) (nd (o44 P) nl nl) nl) (nd (o322 P) nl nl)))))) (nd (b6 P) (nd (b10 P) (nd (o43 P) (nd (o70 P) (nd (o81 P) (nd (o44 P) (nd (o43 P) nl nl) nl) (nd (o43 P) nl nl)) (nd (o149 P) (nd (o43 P) (nd (o44 P) nl nl) nl) (nd (o294 P) nl nl))) (nd (o89 P) (nd (o44 P) (nd (o209 P) (nd (o344 P) nl nl) nl) (nd (o43 P) nl nl)) (nd (o81 P) (nd (o244 P) (nd (o43 P) nl nl) nl) (nd (o310 P) nl nl)))) (nd (o62 P) (nd (o81 P) (nd (o119 P) (nd (o81 P) (nd (o336 P) nl nl) nl) (nd (o270 P) nl nl)) (nd (o44 P) (nd (o44 P) (nd (o368 P) nl nl) nl) (nd (o302 P) nl nl))) (nd (o44 P) (nd (o81 P) (nd (o44 P) (nd (o352 P) nl nl) nl) (nd (o43 P) nl nl)) (nd (o179 P) (nd (o43 P) (nd (o384 P) nl nl) nl) (nd (o43 P) nl nl))))) (nd (o46 P) (nd (o43 P) (nd (o215 P) (nd (o44 P) (nd (o194 P) (nd (o43 P) nl nl) nl) (nd (o43 P) nl nl)) (nd (o81 P) (nd (o232 P) (nd (o364 P) nl nl) nl) (nd (o44 P) nl nl))) (nd (o81 P) (nd (o134 P) (nd (o81 P) (nd (o44 P) nl nl) nl) (nd (o282 P) nl nl)) (nd (o44 P) (nd (o44 P) (nd (o43 P) nl nl) nl) (nd (o43 P) nl nl)))) (nd (o66 P) (nd (o44 P) (nd (o81 P) (nd (o44 P) (nd (o340 P) nl nl) nl) (nd (o44 P) nl nl)) (nd (o164 P) (nd (o240 P) (nd (o372 P) nl nl) nl) (nd (o306 P) nl nl))) (nd (o104 P) (nd (o44 P) (nd (o224 P) (nd (o356 P) nl nl) nl) (nd (o43 P) nl nl)) (nd (o81 P) (nd (o256 P) (nd (o43 P) nl nl) nl) (nd (o324 P) nl nl))))))))
noncomputable def tree_407 (P:PM):BT:=(nd (b0 P) (nd (b1 P) (nd (o392 P) (nd (b7 P) (nd (o43 P) (nd (o67 P) (nd (o105 P) (nd (o66 P) (nd (o43 P) nl nl) nl) (nd (o43 P) (nd (o389 P) nl nl) nl)) (nd (o146 P) (nd (o225 P) (nd (o357 P) nl nl) nl) (nd (o44 P) nl nl))) (nd (o86 P) (nd (o66 P) (nd (o206 P) (nd (o341 P) nl nl) nl) (nd (o275 P) (nd (o407 P) nl nl) nl)) (nd (o165 P) (nd (o241 P) (nd (o43 P) nl nl) nl) (nd (o307 P) nl nl)))) (nd (o44 P) (nd (o75 P) (nd (o116 P) (nd (o195 P) (nd (o44 P) nl nl) nl) (nd (o66 P) (nd (o399 P) nl nl) nl)) (nd (o66 P) (nd (o233 P) (nd (o365 P) nl nl) nl) (nd (o299 P) nl nl))) (nd (o66 P) (nd (o135 P) (nd (o66 P) (nd (o349 P) nl nl) nl) (nd (o43 P) nl nl)) (nd (o176 P) (nd (o249 P) (nd (o44 P) nl nl) nl) (nd (o317 P) nl nl))))) (nd (o43 P) (nd (o55 P) (nd (o71 P) (nd (o66 P) (nd (o191 P) (nd (o329 P) nl nl) nl) (nd (o263 P) (nd (o44 P) nl nl) nl)) (nd (o150 P) (nd (o44 P) (nd (o361 P) nl nl) nl) (nd (o295 P) nl nl))) (nd (o90 P) (nd (o131 P) (nd (o210 P) (nd (o345 P) nl nl) nl) (nd (o44 P) nl nl)) (nd (o66 P) (nd (o245 P) (nd (o377 P) nl nl) nl) (nd (o43 P) nl nl)))) (nd (o63 P) (nd (o66 P) (nd (o120 P) (nd (o66 P) (nd (o43 P) nl nl) nl) (nd (o271 P) (nd (o403 P) nl nl) nl)) (nd (o161 P) (nd (o237 P) (nd (o43 P) nl nl) nl) (nd (o303 P) nl nl))) (nd (o101 P) (nd (o66 P) (nd (o221 P) (nd (o353 P) nl nl) nl) (nd (o287 P) nl nl)) (nd (o180 P) (nd (o44 P) (nd (o43 P) nl nl) nl) (nd (o44 P) nl nl)))))) (nd (b5 P) (nd (b9 P) (nd (o53 P) (nd (o44 P) (nd (o107 P) (nd (o43 P) (nd (o327 P) nl nl) nl) (nd (o261 P) (nd (o391 P) nl nl) nl)) (nd (o43 P) (nd (o227 P) (nd (o43 P) nl nl) nl) (nd (o43 P) nl nl))) (nd (o43 P) (nd (o43 P) (nd (o43 P) (nd (o44 P) nl nl) nl) (nd (o277 P) nl nl)) (nd (o167 P) (nd (o44 P) (nd (o375 P) nl nl) nl) (nd (o309 P) nl nl)))) (nd (o43 P) (nd (o77 P) (nd (o43 P) (nd (o197 P) (nd (o335 P) nl nl) nl) (nd (o43 P) (nd (o43 P) nl nl) nl)) (nd (o43 P) (nd (o43 P) (nd (o44 P) nl nl) nl) (nd (o301 P) nl nl))) (nd (o43 P) (nd (o137 P) (nd (o43 P) (nd (o351 P) nl nl) nl) (nd (o285 P) nl nl)) (nd (o43 P) (nd (o251 P) (nd (o383 P) nl nl) nl) (nd (o319 P) nl nl))))) (nd (o45 P) (nd (o57 P) (nd (o73 P) (nd (o43 P) (nd (o43 P) (nd (o331 P) nl nl) nl) (nd (o265 P) (nd (o43 P) nl nl) nl)) (nd (o152 P) (nd (o43 P) (nd (o363 P) nl nl) nl) (nd (o43 P) nl nl))) (nd (o92 P) (nd (o43 P) (nd (o212 P) (nd (o43 P) nl nl) nl) (nd (o281 P) nl nl)) (nd (o43 P) (nd (o43 P) (nd (o379 P) nl nl) nl) (nd (o315 P) nl nl)))) (nd (o65 P) (nd (o43 P) (nd (o122 P) (nd (o43 P) (nd (o339 P) nl nl) nl) (nd (o43 P) (nd (o405 P) nl nl) nl)) (nd (o43 P) (nd (o239 P) (nd (o371 P) nl nl) nl) (nd (o305 P) nl nl))) (nd (o43 P) (nd (o43 P) (nd (o43 P) (nd (o44 P) nl nl) nl) (nd (o289 P) nl nl)) (nd (o182 P) (nd (o255 P) (nd (o387 P) nl nl) nl) (nd (o323 P) nl nl))))))) (nd (b2 P) (nd (b4 P) (nd (b8 P) (nd (o44 P) (nd (o43 P) (nd (o106 P) (nd (o188 P) (nd (o44 P) nl nl) nl) (nd (o44 P) (nd (o390 P) nl nl) nl)) (nd (o147 P) (nd (o226 P) (nd (o358 P) nl nl) nl) (nd (o292 P) nl nl))) (nd (o87 P) (nd (o128 P) (nd (o207 P) (nd (o43 P) nl nl) nl) (nd (o276 P) nl nl)) (nd (o166 P) (nd (o43 P) (nd (o44 P) nl nl) nl) (nd (o308 P) nl nl)))) (nd (o60 P) (nd (o76 P) (nd (o117 P) (nd (o196 P) (nd (o334 P) nl nl) nl) (nd (o268 P) (nd (o400 P) nl nl) nl)) (nd (o158 P) (nd (o234 P) (nd (o43 P) nl nl) nl) (nd (o43 P) nl nl))) (nd (o98 P) (nd (o136 P) (nd (o218 P) (nd (o43 P) nl nl) nl) (nd (o44 P) nl nl)) (nd (o177 P) (nd (o250 P) (nd (o382 P) nl nl) nl) (nd (o318 P) nl nl))))) (nd (o393 P) (nd (o56 P) (nd (o43 P) (nd (o113 P) (nd (o192 P) (nd (o330 P) nl nl) nl) (nd (o264 P) (nd (o396 P) nl nl) nl)) (nd (o151 P) (nd (o230 P) (nd (o43 P) nl nl) nl) (nd (o296 P) nl nl))) (nd (o91 P) (nd (o132 P) (nd (o211 P) (nd (o346 P) nl nl) nl) (nd (o280 P) nl nl)) (nd (o173 P) (nd (o246 P) (nd (o378 P) nl nl) nl) (nd (o44 P) nl nl)))) (nd (o64 P) (nd (o83 P) (nd (o121 P) (nd (o203 P) (nd (o44 P) nl nl) nl) (nd (o272 P) (nd (o43 P) nl nl) nl)) (nd (o162 P) (nd (o43 P) (nd (o370 P) nl nl) nl) (nd (o304 P) nl nl))) (nd (o102 P) (nd (o143 P) (nd (o222 P) (nd (o43 P) nl nl) nl) (nd (o288 P) nl nl)) (nd (o181 P) (nd (o254 P) (nd (o44 P) nl nl) nl) (nd (o322 P) nl nl)))))) (nd (b6 P) (nd (b10 P) (nd (o43 P) (nd (o70 P) (nd (o81 P) (nd (o44 P) (nd (o43 P) nl nl) nl) (nd (o43 P) (nd (o43 P) nl nl) nl)) (nd (o149 P) (nd (o43 P) (nd (o44 P) nl nl) nl) (nd (o294 P) nl nl))) (nd (o89 P) (nd (o44 P) (nd (o209 P) (nd (o344 P) nl nl) nl) (nd (o43 P) nl nl)) (nd (o81 P) (nd (o244 P) (nd (o43 P) nl nl) nl) (nd (o310 P) nl nl)))) (nd (o62 P) (nd (o81 P) (nd (o119 P) (nd (o81 P) (nd (o336 P) nl nl) nl) (nd (o270 P) (nd (o44 P) nl nl) nl)) (nd (o44 P) (nd (o44 P) (nd (o368 P) nl nl) nl) (nd (o302 P) nl nl))) (nd (o44 P) (nd (o81 P) (nd (o44 P) (nd (o352 P) nl nl) nl) (nd (o43 P) nl nl)) (nd (o179 P) (nd (o43 P) (nd (o384 P) nl nl) nl) (nd (o43 P) nl nl))))) (nd (o46 P) (nd (o43 P) (nd (o215 P) (nd (o44 P) (nd (o194 P) (nd (o43 P) nl nl) nl) (nd (o43 P) (nd (o398 P) nl nl) nl)) (nd (o81 P) (nd (o232 P) (nd (o364 P) nl nl) nl) (nd (o44 P) nl nl))) (nd (o81 P) (nd (o134 P) (nd (o81 P) (nd (o44 P) nl nl) nl) (nd (o282 P) nl nl)) (nd (o44 P) (nd (o44 P) (nd (o43 P) nl nl) nl) (nd (o43 P) nl nl)))) (nd (o66 P) (nd (o44 P) (nd (o81 P) (nd (o44 P) (nd (o340 P) nl nl) nl) (nd (o44 P) (nd (o406 P) nl nl) nl)) (nd (o164 P) (nd (o240 P) (nd (o372 P) nl nl) nl) (nd (o306 P) nl nl))) (nd (o104 P) (nd (o44 P) (nd (o224 P) (nd (o356 P) nl nl) nl) (nd (o43 P) nl nl)) (nd (o81 P) (nd (o256 P) (nd (o43 P) nl nl) nl) (nd (o324 P) nl nl))))))))
noncomputable def heap_408 (P:Params):Heap:=(Heap.mk ⟨[b0 P,b1 P,b2 P,o392 P,b4 P,b5 P,b6 P,b7 P,b8 P,b9 P,b10 P,o43 P,o393 P,o45 P,o46 P,o43 P,o44 P,o53 P,o43 P,o55 P,o56 P,o57 P,o43 P,o44 P,o60 P,o43 P,o62 P,o63 P,o64 P,o65 P,o66 P,o67 P,o43 P,o44 P,o70 P,o71 P,o43 P,o73 P,o215 P,o75 P,o76 P,o77 P,o81 P,o66 P,o83 P,o43 P,o44 P,o86 P,o87 P,o43 P,o89 P,o90 P,o91 P,o92 P,o81 P,o66 P,o98 P,o43 P,o44 P,o101 P,o102 P,o43 P,o104 P,o105 P,o106 P,o107 P,o81 P,o66 P,o113 P,o43 P,o44 P,o116 P,o117 P,o43 P,o119 P,o120 P,o121 P,o122 P,o81 P,o66 P,o128 P,o43 P,o44 P,o131 P,o132 P,o43 P,o134 P,o135 P,o136 P,o137 P,o81 P,o66 P,o143 P,o43 P,o44 P,o146 P,o147 P,o43 P,o149 P,o150 P,o151 P,o152 P,o81 P,o66 P,o158 P,o43 P,o44 P,o161 P,o162 P,o43 P,o164 P,o165 P,o166 P,o167 P,o81 P,o66 P,o173 P,o43 P,o44 P,o176 P,o177 P,o43 P,o179 P,o180 P,o181 P,o182 P,o81 P,o66 P,o188 P,o43 P,o44 P,o191 P,o192 P,o43 P,o194 P,o195 P,o196 P,o197 P,o81 P,o66 P,o203 P,o43 P,o44 P,o206 P,o207 P,o43 P,o209 P,o210 P,o211 P,o212 P,o81 P,o66 P,o218 P,o43 P,o44 P,o221 P,o222 P,o43 P,o224 P,o225 P,o226 P,o227 P,o43 P,o44 P,o230 P,o43 P,o232 P,o233 P,o234 P,o43 P,o44 P,o237 P,o43 P,o239 P,o240 P,o241 P,o43 P,o44 P,o244 P,o245 P,o246 P,o43 P,o44 P,o249 P,o250 P,o251 P,o43 P,o44 P,o254 P,o255 P,o256 P,o43 P,o44 P,o261 P,o43 P,o263 P,o264 P,o265 P,o43 P,o66 P,o268 P,o43 P,o270 P,o271 P,o272 P,o43 P,o44 P,o275 P,o276 P,o277 P,o43 P,o44 P,o280 P,o281 P,o282 P,o43 P,o44 P,o285 P,o43 P,o287 P,o288 P,o289 P,o43 P,o44 P,o292 P,o43 P,o294 P,o295 P,o296 P,o43 P,o44 P,o299 P,o43 P,o301 P,o302 P,o303 P,o304 P,o305 P,o306 P,o307 P,o308 P,o309 P,o310 P,o43 P,o44 P,o315 P,o43 P,o317 P,o318 P,o319 P,o43 P,o44 P,o322 P,o323 P,o324 P,o43 P,o44 P,o327 P,o43 P,o329 P,o330 P,o331 P,o43 P,o44 P,o334 P,o335 P,o336 P,o43 P,o44 P,o339 P,o340 P,o341 P,o43 P,o44 P,o344 P,o345 P,o346 P,o43 P,o44 P,o349 P,o43 P,o351 P,o352 P,o353 P,o43 P,o44 P,o356 P,o357 P,o358 P,o43 P,o44 P,o361 P,o43 P,o363 P,o364 P,o365 P,o43 P,o44 P,o368 P,o43 P,o370 P,o371 P,o372 P,o43 P,o44 P,o375 P,o43 P,o377 P,o378 P,o379 P,o43 P,o44 P,o382 P,o383 P,o384 P,o43 P,o44 P,o387 P,o43 P,o389 P,o390 P,o391 P,o43 P,o44 P,o396 P,o43 P,o398 P,o399 P,o400 P,o43 P,o44 P,o403 P,o43 P,o405 P,o406 P,o407 P]⟩ (PySem.Life.mk [] [] [] 0 [] [] false ⟨[]⟩ [] 0 false false false 0 [2000,10,10] false 0 true [] [] 0 false))
noncomputable def ev (p:Program):Env:=Env.mk p.main.scope mainNs mainNs [] Str.empty none (.ref 13) (some 14) 0
noncomputable def cE (p:Program):Code:=.body (behindTheImports p) (ev p)
noncomputable def st (p:Program) (i k:Nat):List Stmt:=((behindTheImports p).drop i).take k
noncomputable def LF:Life:=Life.mk [] [] [] 0 [] [] false #[] [] 0 false false false 0 [2000,10,10] false 0 true [] [] 0 false
noncomputable def SS (T:Params→BT) (n k:Nat) (w:World) (os:OsState):SharedT:=⟨T w.params,n,LF,⟨[]⟩,⟨0,0,0,0⟩,k,os⟩
def Pc (f:(String→Option Builtin)→Program→World→Nat→Option Value→Nat→Nat→SharedT→Thread→Option (Flow × SharedT × Code × Pos)) (tb:String→Option Builtin) (p:Program) (N i k:Nat) (pos pos':Pos) (T T':Params→BT) (n t n' t':Nat):Prop :=
 ∀ (w:World) (os:OsState),f tb p w 11 (some (.ref 6)) 1 N (SS T n t w os) (piecesOf (st p i k) (ev p) (cE p) pos [topFrame ⟨0,0,0,0⟩])=some (.next,SS T' n' t' w os,cE p,pos')
theorem Pc.plain {N i k:Nat}{pos pos':Pos}{T T':Params→BT}{n t n' t':Nat} (h:Pc PySem.W.Fast.tw10110043849684766642 PySem.W.Fast.tw14364793385576792824 TP N i k pos pos' T T' n t n' t'):Pc segRunT treeTable PySem.Challenge.pw_gatefold_k34_board_made N i k pos pos' T T' n t n' t':=by
 rw [PySem.W.Fast.te10110043849684766642,PySem.W.Fast.te14364793385576792824,PySem.W.Fast.te12055089946484301158]
 exact h
theorem c0:Pc segRunT treeTable PySem.Challenge.pw_gatefold_k34_board_made 263 0 5 ⟨0,0,0,0⟩ ⟨8,0,9,8⟩ tree_47 tree_77 15 187 42 223:=Pc.plain (fun w os=>by kernel_rfl)
theorem c1:Pc segRunT treeTable PySem.Challenge.pw_gatefold_k34_board_made 214 5 1 ⟨8,0,9,8⟩ ⟨10,0,11,8⟩ tree_77 tree_92 42 223 54 239:=Pc.plain (fun w os=>by kernel_rfl)
theorem c2:Pc segRunT treeTable PySem.Challenge.pw_gatefold_k34_board_made 214 6 1 ⟨10,0,11,8⟩ ⟨12,0,13,8⟩ tree_92 tree_107 54 239 66 255:=Pc.plain (fun w os=>by kernel_rfl)
theorem c3:Pc segRunT treeTable PySem.Challenge.pw_gatefold_k34_board_made 214 7 1 ⟨12,0,13,8⟩ ⟨14,0,15,8⟩ tree_107 tree_122 66 255 78 271:=Pc.plain (fun w os=>by kernel_rfl)
theorem c4:Pc segRunT treeTable PySem.Challenge.pw_gatefold_k34_board_made 214 8 1 ⟨14,0,15,8⟩ ⟨16,0,17,8⟩ tree_122 tree_137 78 271 90 287:=Pc.plain (fun w os=>by kernel_rfl)
theorem c5:Pc segRunT treeTable PySem.Challenge.pw_gatefold_k34_board_made 214 9 1 ⟨16,0,17,8⟩ ⟨18,0,19,8⟩ tree_137 tree_152 90 287 102 303:=Pc.plain (fun w os=>by kernel_rfl)
theorem c6:Pc segRunT treeTable PySem.Challenge.pw_gatefold_k34_board_made 214 10 1 ⟨18,0,19,8⟩ ⟨20,0,21,8⟩ tree_152 tree_167 102 303 114 319:=Pc.plain (fun w os=>by kernel_rfl)
theorem c7:Pc segRunT treeTable PySem.Challenge.pw_gatefold_k34_board_made 214 11 1 ⟨20,0,21,8⟩ ⟨22,0,23,8⟩ tree_167 tree_182 114 319 126 335:=Pc.plain (fun w os=>by kernel_rfl)
theorem c8:Pc segRunT treeTable PySem.Challenge.pw_gatefold_k34_board_made 214 12 1 ⟨22,0,23,8⟩ ⟨24,0,25,8⟩ tree_182 tree_197 126 335 138 351:=Pc.plain (fun w os=>by kernel_rfl)
theorem c9:Pc segRunT treeTable PySem.Challenge.pw_gatefold_k34_board_made 214 13 1 ⟨24,0,25,8⟩ ⟨26,0,27,8⟩ tree_197 tree_212 138 351 150 367:=Pc.plain (fun w os=>by kernel_rfl)
theorem c10:Pc segRunT treeTable PySem.Challenge.pw_gatefold_k34_board_made 397 14 11 ⟨26,0,27,8⟩ ⟨47,0,57,17⟩ tree_212 tree_256 150 367 191 427:=Pc.plain (fun w os=>by kernel_rfl)
theorem c11:Pc segRunT treeTable PySem.Challenge.pw_gatefold_k34_board_made 382 25 3 ⟨47,0,57,17⟩ ⟨85,0,85,8⟩ tree_256 tree_310 191 427 243 494:=Pc.plain (fun w os=>by kernel_rfl)
theorem c12:Pc segRunT treeTable PySem.Challenge.pw_gatefold_k34_board_made 387 28 13 ⟨85,0,85,8⟩ ⟨173,0,205,44⟩ tree_310 tree_391 243 494 322 606:=Pc.plain (fun w os=>by kernel_rfl)
theorem c13:Pc segRunT treeTable PySem.Challenge.pw_gatefold_k34_board_made 72 41 2 ⟨173,0,205,44⟩ ⟨220,0,241,134⟩ tree_391 tree_407 322 606 336 633:=Pc.plain (fun w os=>by kernel_rfl)
noncomputable abbrev PW:Program:=PySem.Challenge.pw_gatefold_k34_board_made
noncomputable abbrev B0:List Frame:=[topFrame ⟨0,0,0,0⟩]
theorem step {p:Program}{N i k:Nat}{pos pos':Pos}{T T':Params→BT}{n t n' t':Nat} (c:Pc segRunT treeTable p N i k pos pos' T T' n t n' t') {M:Nat}{r:Shared}{w:World}{os:OsState}
  (h:topRun treeTable p w 11 (some (.ref 6)) M (SS T' n' t' w os).abs (restOf ((behindTheImports p).drop (i+k)) (ev p) (cE p) pos' [topFrame ⟨0,0,0,0⟩])=some r) :
  topRun treeTable p w 11 (some (.ref 6)) (N+M) (SS T n t w os).abs (restOf ((behindTheImports p).drop i) (ev p) (cE p) pos [topFrame ⟨0,0,0,0⟩])=some r:=by
 have e:(behindTheImports p).drop i=st p i k ++ (behindTheImports p).drop (i+k):=by
  unfold st
  rw [← List.drop_drop]
  exact (List.take_append_drop _ _).symm
 rw [e]
 exact piece_app (segRun_of (c w os)) h
def Fn (f:(String→Option Builtin)→Program→World→Nat→Option Value→Nat→Shared→Thread→Option Shared) (tb:String→Option Builtin) (p:Program):Prop :=
 ∀ (w:World) (os:OsState),f tb p w 11 (some (.ref 6)) 2 (SS tree_407 336 633 w os).abs ⟨doneF .next,cE p,⟨220,0,241,134⟩,[topFrame ⟨0,0,0,0⟩]⟩=some ⟨heap_408 w.params,⟨[]⟩,⟨0,0,0,0⟩,633,os⟩
theorem fin:Fn topRun treeTable PW:=by
 rw [PySem.W.Fast.te14082659384304107361,PySem.W.Fast.te14364793385576792824,show PW=TP from PySem.W.Fast.te12055089946484301158]
 exact fun w os=>by kernel_rfl
def Pr (f:(String→Option Builtin)→Program→World→Nat→Option Value→Nat→Shared→Thread→Option (Shared × Thread)) (d:(String→Option Builtin)→Code→Sem Fin) (tb:String→Option Builtin) (p:Program):Prop :=
 ∀ (w:World) (os:OsState),f tb p w 11 (some (.ref 6)) 12 ⟨boot_heap w.params,⟨[]⟩,boot_drawn,boot_toks,os⟩ (topStub p)=some (⟨heap_46 w.params,⟨[]⟩,⟨0,0,0,0⟩,187,os⟩,⟨d tb (cE p),cE p,⟨0,0,0,0⟩,[topFrame ⟨0,0,0,0⟩]⟩)
theorem preT:Pr topGo denote treeTable PW:=by
 rw [PySem.W.Fast.te15667345088766844465,PySem.W.Fast.te11892475500146522536,PySem.W.Fast.te14364793385576792824,show PW=TP from PySem.W.Fast.te12055089946484301158]
 exact fun w os=>by kernel_rfl
def Bl (f:(String→Option Builtin)→Program→World→Nat→Option Value→Nat→Nat→Shared→Thread→Option (Flow × Shared × Code × Pos)) (tb:String→Option Builtin) (p:Program):Prop :=
 ∀ (w:World) (os:OsState),f tb p w 11 (some (.ref 6)) 1 1 ⟨heap_46 w.params,⟨[]⟩,⟨0,0,0,0⟩,187,os⟩ (blockOf (behindTheImports p) (ev p) (cE p) ⟨0,0,0,0⟩ [topFrame ⟨0,0,0,0⟩])=some (.next,(SS tree_47 15 187 w os).abs,cE p,⟨0,0,0,0⟩)
theorem blk:Bl segRun treeTable PW:=by
 rw [PySem.W.Fast.te14374325043358763698,PySem.W.Fast.te14364793385576792824,show PW=TP from PySem.W.Fast.te12055089946484301158]
 exact fun w os=>by kernel_rfl
theorem d44:(behindTheImports PW).drop 43=[]:=by kernel_rfl
theorem run (w:World) (os:OsState):topRun treeTable PW w 11 (some (.ref 6)) (12+(1+(263+(214+(214+(214+(214+(214+(214+(214+(214+(214+(397+(382+(387+(72+2)))))))))))))))) ⟨boot_heap w.params,⟨[]⟩,boot_drawn,boot_toks,os⟩ (topStub PW)=some ⟨heap_408 w.params,⟨[]⟩,⟨0,0,0,0⟩,633,os⟩:=by
 refine go_top (preT w os) ?_
 refine piece_block (blk w os) ?_
 refine step c0 (step c1 (step c2 (step c3 (step c4 (step c5 (step c6 (step c7 (step c8 (step c9 (step c10 (step c11 (step c12 (step c13 ?_)))))))))))))
 rw [d44]
 exact fin w os
theorem size (w:World):((boot_heap w.params).isNs mainGlobals && (Array.mk ([]:List GenState)).size == 0,(boot_heap w.params).objs.size,(boot_heap w.params).nsMap mainGlobals "__annotations__")=(true,11,some (.ref 6)):=by kernel_rfl
theorem op:∀ w:World,(fencedOpening treeTable PW w 6964).map (fun s=>(s.heap,s.gens,s.drawn,s.toks))=some (boot_heap w.params,Array.mk [],boot_drawn,boot_toks) :=
 boot_open (by kernel_rfl) (by decide) (fun s=>by kernel_rfl)
def KP:List Nat:=[0,2,4,5,6,7,8,9,10,11,12,13,14,16,17,18,20,21,22,23,24,25,26,28,29,30,31,32,33,34,35,36,37,38,39,40,41,42]
noncomputable def VW (p:Program):Program:={ p with main:={ p.main with body:=KP.filterMap fun i=>p.main.body[i]? } }
noncomputable abbrev S9 (w:World) (os:OsState):Shared:=⟨heap_408 w.params,⟨[]⟩,⟨0,0,0,0⟩,633,os⟩
def LA (im:List Stmt→List Str) (p:Program):Prop :=
 ∀ (w:World) (os:OsState),(staticsOk (im p.main.body) (boot_heap w.params) (heap_408 w.params) && namesBound p (heap_408 w.params) && gensDone (S9 w os) && laidKept (boot_heap w.params) (heap_408 w.params))=true
theorem la:LA importedModules PW:=by
 rw [PySem.W.Fast.te5923862056798008813,show PW=TP from PySem.W.Fast.te12055089946484301158]
 exact fun w os=>by kernel_rfl
noncomputable abbrev XT (q:Program):Shared→Bool:=fun s=>xlAt q [] s && recOk [] s
theorem lb0 (w:World) (os:OsState):PySem.W.Fast.tw4187177175401517315 (VW TP) [] (PySem.W.Fast.tw5923862056798008813 TP.main.body) (XT (VW TP)) true (S9 w os)=openGood (VW TP) []:=by kernel_rfl
end OT
namespace K34
open PySem PySem.Spec PyProof.Rows L2
noncomputable abbrev Q (l:List Nat):Str:=⟨⟨l⟩⟩
noncomputable abbrev fq (b c:Str) (s:Stmt) (q:Str) (t n:Nat):Obj:=⟨(Value.type "function"),none,.func (PySem.W.fnOf b c (defArgs s) (defBody s) (defScope s) Value.none Value.none Value.none (Value.str q t) none (Value.ref n) Value.none),⟨[]⟩⟩
set_option maxRecDepth 100000 in
noncomputable def KF:Params→PySem.W.Frag:=fun P =>
 (nat_lit 28,fq "full_column" "full_column" s_full_column OT.q72 194 27) ::
 (nat_lit 168,fq "is_whole" "is_whole" s_is_whole OT.q134 383 167) ::
 (nat_lit 175,fq "is_between" "is_between" s_is_between OT.q134 383 174) ::
 (nat_lit 180,fq "is_rising" "is_rising" s_is_rising OT.q134 383 179) ::
 (nat_lit 185,fq "is_cut_of" "is_cut_of" s_is_cut_of OT.q70 407 184) ::
 (nat_lit 190,fq "need_pieces" "need_pieces" s_need_pieces OT.q70 407 189) ::
 (nat_lit 197,fq "need_ties" "need_ties" s_need_ties OT.q70 407 196) ::
 (nat_lit 209,fq "__init__" "Board.__init__" s_Board___init__ OT.q70 407 208) ::
 (nat_lit 214,fq "pieces" "Board.pieces" s_Board_pieces OT.q70 407 213) ::
 (nat_lit 221,fq "ties" "Board.ties" s_Board_ties OT.q70 407 220) ::
 (nat_lit 249,fq "_law_cell_at" "_law_cell_at" s_law_cell_at OT.q27 492 248) ::
 (nat_lit 254,fq "_law_cut" "_law_cut" s_law_cut OT.q27 492 253) ::
 (nat_lit 261,fq "_law_piece" "_law_piece" s_law_piece OT.q27 492 260) ::
 (nat_lit 266,fq "_law_pieces" "_law_pieces" s_law_pieces OT.q27 492 265) ::
 (nat_lit 271,fq "_law_ties" "_law_ties" s_law_ties OT.q27 492 270) ::
 (nat_lit 276,fq "_law_copy" "_law_copy" s_law_copy OT.q27 492 275) ::
 (nat_lit 283,fq "_law_whole" "_law_whole" s_law_whole OT.q27 492 282) ::
 (nat_lit 288,fq "_law_told" "_law_told" s_law_told OT.q27 492 287) ::
 (nat_lit 295,fq "_law_no_number" "_law_no_number" s_law_no_number OT.q27 492 294) ::
 (nat_lit 302,fq "_law_wrong_knot" "_law_wrong_knot" s_law_wrong_knot OT.q27 492 301) ::
 (nat_lit 309,fq "_law_wrong_cut" "_law_wrong_cut" s_law_wrong_cut OT.q27 492 308) ::
 (nat_lit 314,fq "_law_wrong_tie" "_law_wrong_tie" s_law_wrong_tie OT.q27 492 313) ::
 (nat_lit 321,fq "_law_spoilt" "_law_spoilt" s_law_spoilt OT.q27 492 320) ::
 (nat_lit 328,fq "_law_refused" "_law_refused" s_law_refused OT.q27 492 327) ::
 (nat_lit 335,fq "law" "law" s_law OT.q27 492 334) ::
 (nat_lit 27,OT.o63 P) ::
 (nat_lit 167,OT.o233 P) ::
 (nat_lit 174,OT.o240 P) ::
 (nat_lit 179,OT.o245 P) ::
 (nat_lit 184,OT.o250 P) ::
 (nat_lit 189,OT.o255 P) ::
 (nat_lit 196,OT.o264 P) ::
 (nat_lit 208,OT.o276 P) ::
 (nat_lit 213,OT.o281 P) ::
 (nat_lit 220,OT.o288 P) ::
 (nat_lit 248,OT.o318 P) ::
 (nat_lit 253,OT.o323 P) ::
 (nat_lit 260,OT.o330 P) ::
 (nat_lit 265,OT.o335 P) ::
 (nat_lit 270,OT.o340 P) ::
 (nat_lit 275,OT.o345 P) ::
 (nat_lit 282,OT.o352 P) ::
 (nat_lit 287,OT.o357 P) ::
 (nat_lit 294,OT.o364 P) ::
 (nat_lit 301,OT.o371 P) ::
 (nat_lit 308,OT.o378 P) ::
 (nat_lit 313,OT.o383 P) ::
 (nat_lit 320,OT.o390 P) ::
 (nat_lit 327,OT.o399 P) ::
 (nat_lit 334,OT.o406 P) ::
 (nat_lit 2,OT.b2 P) ::
 (nat_lit 3,OT.o392 P) ::
 (nat_lit 38,OT.o215 P) ::
 (nat_lit 37,OT.o73 P) ::
 (nat_lit 51,OT.o90 P) ::
 (nat_lit 50,OT.o89 P) ::
 (nat_lit 63,OT.o105 P) ::
 (nat_lit 62,OT.o104 P) ::
 (nat_lit 75,OT.o120 P) ::
 (nat_lit 74,OT.o119 P) ::
 (nat_lit 87,OT.o135 P) ::
 (nat_lit 86,OT.o134 P) ::
 (nat_lit 99,OT.o150 P) ::
 (nat_lit 98,OT.o149 P) ::
 (nat_lit 111,OT.o165 P) ::
 (nat_lit 110,OT.o164 P) ::
 (nat_lit 123,OT.o180 P) ::
 (nat_lit 122,OT.o179 P) ::
 (nat_lit 135,OT.o195 P) ::
 (nat_lit 134,OT.o194 P) ::
 (nat_lit 147,OT.o210 P) ::
 (nat_lit 146,OT.o209 P) ::
 (nat_lit 159,OT.o225 P) ::
 (nat_lit 158,OT.o224 P) ::
 (nat_lit 238,OT.o306 P) ::
 (nat_lit 237,OT.o305 P) :: []
end K34
namespace OT
open PySem PySem.W PySem.Spec
noncomputable abbrev AS:List Addr:=(nat_lit 28 :: nat_lit 168 :: nat_lit 175 :: nat_lit 180 :: nat_lit 185 :: nat_lit 190 :: nat_lit 197 :: nat_lit 209 :: nat_lit 214 :: nat_lit 221 :: nat_lit 249 :: nat_lit 254 :: nat_lit 261 :: nat_lit 266 :: nat_lit 271 :: nat_lit 276 :: nat_lit 283 :: nat_lit 288 :: nat_lit 295 :: nat_lit 302 :: nat_lit 309 :: nat_lit 314 :: nat_lit 321 :: nat_lit 328 :: nat_lit 335 :: nat_lit 27 :: nat_lit 167 :: nat_lit 174 :: nat_lit 179 :: nat_lit 184 :: nat_lit 189 :: nat_lit 196 :: nat_lit 208 :: nat_lit 213 :: nat_lit 220 :: nat_lit 248 :: nat_lit 253 :: nat_lit 260 :: nat_lit 265 :: nat_lit 270 :: nat_lit 275 :: nat_lit 282 :: nat_lit 287 :: nat_lit 294 :: nat_lit 301 :: nat_lit 308 :: nat_lit 313 :: nat_lit 320 :: nat_lit 327 :: nat_lit 334 :: nat_lit 2 :: nat_lit 3 :: nat_lit 38 :: nat_lit 37 :: nat_lit 51 :: nat_lit 50 :: nat_lit 63 :: nat_lit 62 :: nat_lit 75 :: nat_lit 74 :: nat_lit 87 :: nat_lit 86 :: nat_lit 99 :: nat_lit 98 :: nat_lit 111 :: nat_lit 110 :: nat_lit 123 :: nat_lit 122 :: nat_lit 135 :: nat_lit 134 :: nat_lit 147 :: nat_lit 146 :: nat_lit 159 :: nat_lit 158 :: nat_lit 238 :: nat_lit 237 :: [])
noncomputable abbrev HK:Hook:=kHook K34.KF AS (fun _=>by kernel_rfl)
theorem lb (w:World) (os:OsState):openSeen (VW PW) [] (importedModules PW.main.body) (XT (VW PW)) true (S9 w os)=openGood (VW PW) []:=by
 rw [PySem.W.Fast.te4187177175401517315,PySem.W.Fast.te5923862056798008813,show PW=TP from PySem.W.Fast.te12055089946484301158]
 exact lb0 w os
theorem lc (w:World) (os:OsState):HK.obs (S9 w os)=HK.val w:=by kernel_rfl
theorem left:LeftO PW (VW PW) [] (XT (VW PW)) HK.obs HK.val 6964 :=
 LeftO.of_pieces op size run (by decide) fun w=>funext fun os=>by
  rw [la w os,lb w os,lc w os]
end OT
open PySem PySem.W PyProof.Rows
set_option maxRecDepth 100000 in
set_option maxHeartbeats 0 in
theorem PySem.Challenge.cw_gatefold_k34_board_made_holds : PySem.Challenge.rw_gatefold_k34_board_made.Holds := by
 w_on;o_law
 refine holds_open (q:=OT.VW OT.PW) (loose:=[]) (Xt:=OT.XT (OT.VW OT.PW)) (XP:=XL (OT.VW OT.PW) []) (Yf:=OT.HK.obs) (Ya:=OT.HK.val) (YP:=OT.HK.says) (N:=6964) OT.left OT.HK.of OT.HK.keeps
  (fun s e=>xl_of s (Bool.and_eq_true_iff.mp e).1) XL.keeps (by rfl) (by rfl) (by rfl)
  (fun s e=>recFacts_of (Bool.and_eq_true_iff.mp e).2) (by rfl) (by first | assumption | decide +kernel)
  (by decide +kernel)
  ⟨rfl,rfl,rfl,rfl,rfl,by decide +kernel⟩ ?hw ?hc
 case hw=>w_witness2
 refine K34.walk (l:=PySem.Challenge.rw_gatefold_k34_board_made) (K:=K34.KF) rfl rfl (fun w h Y=>PySem.W.kIn_of Y) ?F
 case F =>
  intro w mg fa h KX G hmg
  k_fill
  refine' K34.all_mk KX G hmg ?aC_Board ?aC_FoldError ?aC_NoBoard ?aC_NoCut ?aC_NoGoal ?aC_NoKnot ?aC_NoLine ?aC_NoMatch ?aC_NoName ?aC_NoSize ?aC_NoText ?aC_NoTie ?a0 ?l0 ?c0 ?k0 ?a1 ?l1 ?c1 ?k1 ?a2 ?l2 ?c2 ?k2 ?a3 ?l3 ?c3 ?k3 ?a4 ?l4 ?c4 ?k4 ?a5 ?l5 ?c5 ?k5 ?a6 ?l6 ?c6 ?k6 ?a7 ?i7 ?l7 ?c7 ?k7 ?a8 ?i8 ?l8 ?c8 ?k8 ?a9 ?i9 ?l9 ?c9 ?k9 ?a10 ?l10 ?c10 ?k10 ?a11 ?l11 ?c11 ?k11 ?a12 ?l12 ?c12 ?k12 ?a13 ?l13 ?c13 ?k13 ?a14 ?l14 ?c14 ?k14 ?a15 ?l15 ?c15 ?k15 ?a16 ?l16 ?c16 ?k16 ?a17 ?l17 ?c17 ?k17 ?a18 ?l18 ?c18 ?k18 ?a19 ?l19 ?c19 ?k19 ?a20 ?l20 ?c20 ?k20 ?a21 ?l21 ?c21 ?k21 ?a22 ?l22 ?c22 ?k22 ?a23 ?l23 ?c23 ?k23 ?a24 ?l24 ?c24 ?k24 ?xi_NoBoard ?xq_NoBoard ?kv_NoBoard ?xm_NoBoard_FoldError ?xm_NoBoard_NoBoard ?ko_NoBoard_NoBoard ?ko_NoBoard_NoCut ?ko_NoBoard_NoGoal ?ko_NoBoard_NoKnot ?ko_NoBoard_NoLine ?ko_NoBoard_NoMatch ?ko_NoBoard_NoName ?ko_NoBoard_NoSize ?ko_NoBoard_NoText ?ko_NoBoard_NoTie ?xk_FoldError ?xk_NoBoard ?pg_Board ?hd_Board ?po_Board ?sa_Board ?mk_Board ?kc_Board ?n_Board_many ?n_Board_kept_pieces ?n_Board_kept_ties ?g_GREATEST_KNOT ?g_LONGEST_CUT ?g_MOST_INPUTS ?z_ValueError ?z_all ?z_bool ?z_dict ?z_int ?z_isinstance ?z_len ?z_list ?z_min ?z_range ?z_set ?z_sorted ?z_tuple ?z_zip
  (case aC_Board | aC_FoldError | aC_NoBoard | aC_NoCut | aC_NoGoal | aC_NoKnot | aC_NoLine | aC_NoMatch | aC_NoName | aC_NoSize | aC_NoText | aC_NoTie | a0 | l0 | c0 | k0 | a1 | l1 | c1 | k1 | a2 | l2 | c2 | k2 | a3 | l3 | c3 | k3 | a4 | l4 | c4 | k4 | a5 | l5 | c5 | k5 | a6 | l6 | c6 | k6 | a7 | i7 | l7 | c7 | k7 | a8 | i8 | l8 | c8 | k8 | a9 | i9 | l9 | c9 | k9 | a10 | l10 | c10 | k10 | a11 | l11 | c11 | k11 | a12 | l12 | c12 | k12 | a13 | l13 | c13 | k13 | a14 | l14 | c14 | k14 | a15 | l15 | c15 | k15 | a16 | l16 | c16 | k16 | a17 | l17 | c17 | k17 | a18 | l18 | c18 | k18 | a19 | l19 | c19 | k19 | a20 | l20 | c20 | k20 | a21 | l21 | c21 | k21 | a22 | l22 | c22 | k22 | a23 | l23 | c23 | k23 | a24 | l24 | c24 | k24=>k_is)
  (case xi_NoBoard=>kernel_rfl)
  (case xq_NoBoard=>first | rfl | decide +kernel | k_is)
  (case kv_NoBoard=>first | rfl | decide +kernel | k_is)
  (case xm_NoBoard_FoldError=>first | rfl | decide +kernel | k_is)
  (case xm_NoBoard_NoBoard=>first | rfl | decide +kernel | k_is)
  (case ko_NoBoard_NoBoard=>first | rfl | decide +kernel | k_is)
  (case ko_NoBoard_NoCut=>first | rfl | decide +kernel | k_is)
  (case ko_NoBoard_NoGoal=>first | rfl | decide +kernel | k_is)
  (case ko_NoBoard_NoKnot=>first | rfl | decide +kernel | k_is)
  (case ko_NoBoard_NoLine=>first | rfl | decide +kernel | k_is)
  (case ko_NoBoard_NoMatch=>first | rfl | decide +kernel | k_is)
  (case ko_NoBoard_NoName=>first | rfl | decide +kernel | k_is)
  (case ko_NoBoard_NoSize=>first | rfl | decide +kernel | k_is)
  (case ko_NoBoard_NoText=>first | rfl | decide +kernel | k_is)
  (case ko_NoBoard_NoTie=>first | rfl | decide +kernel | k_is)
  (case xk_FoldError=>first | rfl | decide +kernel | k_is)
  (case xk_NoBoard=>first | rfl | decide +kernel | k_is)
  (case pg_Board | hd_Board | po_Board | sa_Board | mk_Board | kc_Board | n_Board_many | n_Board_kept_pieces | n_Board_kept_ties | g_GREATEST_KNOT | g_LONGEST_CUT | g_MOST_INPUTS | z_ValueError | z_all | z_bool | z_dict | z_int | z_isinstance | z_len | z_list | z_min | z_range | z_set | z_sorted | z_tuple | z_zip=>k_is)

