import PyProof.Rows.All
import Wide.All
import OpenK.AllK
import Wide.FinOn
import Lean
import PyProof.EqAt
import PyProof.EqKinds
import PyProof.TupleCall
import PyProof.NeKinds
import PyProof.ZipIter
import PyProof.Rows.SortShell
import PyProof.Rows.SortWalk
import PyProof.EnumMake
import PyProof.Rows.SumAny
import PyProof.Rows.SumGenD
import KE.KTryMore
import OpenK.KOwn
import PyProof.ExcArgsOwn
import PyProof.IsiTuple
import PyProof.ExcAttrAll.ValueError
import PyProof.FitsBits
import KE.KNestM
import KE.KLam
import KE.KMinKey
import PySem.Challenge.RW_pactkeep_k06_whole_agreements_that_are_k
set_option Elab.async false
set_option linter.all false
set_option maxRecDepth 100000
namespace L2
open PySem PySem.Spec PyProof.Rows
abbrev mZ:=Sum Int Str
def x5:mZ→Value→Bool
 | .inl k,v=>Value.isInt k v
 | .inr x,v=>Value.isStrOf x v
def aOT (w:World):mZ→Int
 | .inl k=>hashInt k
 | .inr x=>hashStr w x
theorem fX:∀ {k:mZ}{v:Value},x5 k v=true→(∃ i t,k=Sum.inl i∧v=Value.int i t)∨(∃ x t,k=Sum.inr x∧v=Value.str x t)
 | .inl i,v,h=>by
  obtain ⟨t,e⟩:=Value.isInt_shape (k:=i) (v:=v) h
  exact .inl ⟨i,t,rfl,e⟩
 | .inr x,v,h=>by
  obtain ⟨t,e⟩:=Value.isStrOf_shape (x:=x) (v:=v) h
  exact .inr ⟨x,t,rfl,e⟩
theorem aHx (i:Int) (t:Tok):x5 (.inl i) (.int i t)=true:=by simp [x5,Value.isInt]
theorem aH0 (x:Str) (t:Tok):x5 (.inr x) (.str x t)=true:=by simp [x5,Value.isStrOf]
theorem aM4 (a b:Int):decide ((Sum.inl a:mZ)=Sum.inl b)=(a == b):=by
 by_cases e:a=b
 ·subst e;simp
 ·have h:¬ (Sum.inl a:mZ)=Sum.inl b:=fun q=>e (Sum.inl.inj q)
  rw [decide_eq_false h]
  exact (beq_eq_false_iff_ne.mpr e).symm
theorem aL4 (a b:Str):decide ((Sum.inr a:mZ)=Sum.inr b)=decide (a=b):=by
 by_cases e:a=b
 ·subst e;simp
 ·have h:¬ (Sum.inr a:mZ)=Sum.inr b:=fun q=>e (Sum.inr.inj q)
  rw [decide_eq_false h,decide_eq_false e]
theorem aMU (a:Int) (b:Str):decide ((Sum.inl a:mZ)=Sum.inr b)=false:=decide_eq_false (fun q=>nomatch q)
theorem aLE (a:Str) (b:Int):decide ((Sum.inr a:mZ)=Sum.inl b)=false:=decide_eq_false (fun q=>nomatch q)
def hG (prog:Program) (w:World):PySem.KeyKind prog w mZ where
 is:=x5
 hash:=aOT w
 inj:=fun v a b ha hb=>by
  rcases fX ha with ⟨i,t,rfl,rfl⟩ | ⟨x,t,rfl,rfl⟩
  ·rcases fX hb with ⟨j,u,rfl,e⟩ | ⟨y,u,rfl,e⟩
   ·injection e with e1 _;rw [e1]
   ·exact nomatch e
  ·rcases fX hb with ⟨j,u,rfl,e⟩ | ⟨y,u,rfl,e⟩
   ·exact nomatch e
   ·injection e with e1 _;rw [e1]
 byValue:=fun k v h=>by
  rcases fX h with ⟨i,t,rfl,rfl⟩ | ⟨x,t,rfl,rfl⟩ <;> rfl
 pyHash:=fun hv h=>by
  rcases fX hv with ⟨i,t,rfl,rfl⟩ | ⟨x,t,rfl,rfl⟩
  ·exact wpAny_pyHash_int h
  ·exact wpAny_pyHash_str h
 eqBool:=fun hu hv h=>by
  rcases fX hu with ⟨i,t,rfl,rfl⟩ | ⟨x,t,rfl,rfl⟩
  ·rcases fX hv with ⟨j,u,rfl,rfl⟩ | ⟨y,u,rfl,rfl⟩
   ·rw [aM4] at h;exact wpAny_eqBool_int h
   ·rw [aMU] at h;exact SeqAt.EqAt.int_str i t y u _ _ _ _ h
  ·rcases fX hv with ⟨j,u,rfl,rfl⟩ | ⟨y,u,rfl,rfl⟩
   ·rw [aLE] at h;exact SeqAt.EqAt.str_int x t j u _ _ _ _ h
   ·rw [aL4] at h;exact wpAny_eqBool_str h
 «strs» := fun k x t v h=>by
  rcases fX h with ⟨i,u,rfl,e⟩ | ⟨y,u,rfl,e⟩
  ·exact nomatch e
  ·injection e with e1 _
   subst e1
   cases v <;> rfl
theorem aL7 (prog:Program) (w:World) (k:mZ) (v:Value):(hG prog w).is k v=x5 k v:=rfl
theorem aEq (prog:Program) (w:World) (i:Int) (t:Tok):(hG prog w).is (.inl i) (.int i t)=true:=aHx i t
theorem aER (prog:Program) (w:World) (x:Str) (t:Tok):(hG prog w).is (.inr x) (.str x t)=true:=aH0 x t
inductive V where
 | non | bl (b:Bool) | int (i:Int) | str (x:Str) | byt (b:Array UInt8) | flt (b:UInt64) | ref (a:Addr) | ty (n:String)
 deriving DecidableEq
def dD:V→Value→Prop
 | .non,u=>u=Value.none
 | .bl b,u=>u=Value.bool b
 | .int i,u=>∃ t,u=Value.int i t
 | .str x,u=>∃ t,u=Value.str x t
 | .byt b,u=>∃ t,u=Value.bytes b t
 | .flt b,u=>∃ t,u=Value.float b t
 | .ref a,u=>u=Value.ref a
 | .ty n,u=>u=Value.type n
abbrev dR:List V→List Value→Prop:=Paired dD
theorem dR.length {xs:List V}{us:List Value} (r:dR xs us):xs.length=us.length:=Paired.length r
theorem dR.get:∀ {xs:List V}{us:List Value}{i:Nat}{x:V},dR xs us→xs[i]? = some x→∃ u,us[i]? = some u∧dD x u
 | _,_,_,_,.nil,e=>by simp at e
 | _,_,0,_,.cons r _,e=>by simp at e;subst e;exact ⟨_,rfl,r⟩
 | _,_,i+1,x,.cons _ t,e=>by
  obtain ⟨u,h1,h2⟩:=dR.get (i:=i) (x:=x) t (by simpa using e)
  exact ⟨u,by simpa using h1,h2⟩
theorem dR.append:∀ {xs ys:List V}{us ws:List Value},dR xs us→dR ys ws→dR (xs++ys) (us++ws)
 | _,_,_,_,.nil,s=>s
 | _,_,_,_,.cons r t,s=>.cons r (dR.append t s)
theorem dR.take:∀ {xs:List V}{us:List Value} (n:Nat),dR xs us→dR (xs.take n) (us.take n)
 | _,_,0,_=>.nil
 | _,_,_+1,.nil=>.nil
 | _,_,n+1,.cons r t=>.cons r (dR.take n t)
theorem dR.drop:∀ {xs:List V}{us:List Value} (n:Nat),dR xs us→dR (xs.drop n) (us.drop n)
 | _,_,0,r=>r
 | _,_,_+1,.nil=>.nil
 | _,_,n+1,.cons _ t=>dR.drop n t
def aBm:Option V→Option Value→Prop
 | some v,some u=>dD v u
 | none,none=>True
 | _,_=>False
def KV {κ:Type}:List (κ×V)→List (κ×Value)→Prop:=Paired fun (p:κ×V) (q:κ×Value)=>p.1=q.1∧dD p.2 q.2
def kV:mZ→V
 | .inl i=>.int i
 | .inr x=>.str x
inductive HO where
 | lst (xs:List V)
 | tup (xs:List V)
 | dK (kvs:List (mZ×V)) | dT (kvs:List (List mZ×V))
 | set (S:Int→Bool) (n:Nat)
 | ins (C dx:Addr) (fs:List (Str×V))
 | own (x:Addr)
 | xd (fs:List (Str×V))
 | met (f x:Addr)
 | rng (lo hi:Int)
 | frz (o:Obj) (u:HO)
 | tbl (ps:Array Value)
 | tab (l c:Value) (q:Str)
 | ext (φ:Heap→Prop)
abbrev Hp:=Addr→Option HO
def upd (H:Hp) (a:Addr) (o:HO):Hp:=fun b=>if b=a then some o else H b
theorem bR {H:Hp}{a:Addr}{o:HO}:upd H a o a=some o:=by unfold upd;rw [if_pos rfl]
theorem aZ {H:Hp}{a b:Addr}{o:HO} (h:b≠a):upd H a o b=H b:=by unfold upd;rw [if_neg h]
theorem aD8 {H:Hp}{a b:Addr}{o u:HO} (h:H a=some o) (h':H b=some u) (d:o≠u):a≠b:=by
 intro e;subst e;rw [h] at h';exact d (Option.some.inj h')
theorem bQ {H:Hp}{a b:Addr}{o:HO} (h:H a=some o) (h':H b=none):a≠b:=by
 intro e;subst e;rw [h] at h';cases h'
section
variable (P:Program) (w:World)
def iZ (H:Hp) (h:Heap) (a:Addr):HO→Prop
 | .lst xs=>xs.length≤sizeLine∧∃ (its:List Value) (n:Nat),dR xs its∧h.get? a=some { cls:=.type "list",data:=.seq its.toArray n }
 | .tup xs=>xs.length≤sizeLine∧∃ its:List Value,dR xs its∧IsTup h a its.toArray
 | .dK kvs=>kvs.length≤sizeLine∧(a == sysModules)=false∧∃ vs,KV kvs vs∧h.DictOf (hG P w) a vs
 | .dT kvs=>kvs.length≤sizeLine∧(a == sysModules)=false∧∃ xs:List (List mZ×Addr×Value),
   Paired (fun (p:List mZ×V) (q:List mZ×Addr×Value)=>p.1=q.1∧H q.2.1=some (.tup (p.1.map kV))∧dD p.2 q.2.2) kvs xs ∧
   ∃ o es ep,h.get? a=some o∧o.ExactDict∧o.data = .dict es ep∧es.toList=xs.map (entryOfKey (tupleKind (hG P w)))∧(xs.map (·.1)).Nodup
 | .set S n=>h.SetOf (intKind P w) a S n
 | .ins C dx fs=>H dx=some (.own a)∧fs.length≤1000∧dx≠a∧h.get? a=some (PySem.W.instObj C dx) ∧
   ∃ mA,h.Ns1 dx mA∧(∀ f,aBm (fs.lookup f) (mA f))∧PySem.Within mA (fs.map (·.1))
 | .own _=>∃ o,h.get? a=some o
 | .xd fs=>∃ mA,h.Ns1 a mA∧∀ f,aBm (fs.lookup f) (mA f)
 | .rng lo hi=>∃ t u v,h.get? a=some { cls:=.type "range",data:=.fields #[.int lo t,.int hi u,.int 1 v] }
 | .frz o u=>h.get? a=some o∧iZ H h a u
 | .tbl ps=>h.get? a=some { cls:=.none,data:=.fields ps }
 | .tab l c q=>∃ ps:Array Value,h.get? a=some { cls:=.none,data:=.fields ps }∧(ps = #[]∨∃ (d:Addr) (oc:Obj) (u:HO) (vs:Array Value) (t:Tok),ps = #[l,c,.ref d]∧H d=some (.frz oc u)∧oc.data = .fields vs∧vs[1]? = some (.str q t))
 | .met f x=>h.get? a=some (PySem.W.methodObj (.ref f) (.ref x))
 | .ext φ=>φ h∧(∃ o,h.get? a=some o)∧∀ h1 h2:Heap,φ h1→(∀ o,h1.get? a=some o→h2.get? a=some o)→φ h2
def sW (H:Hp) (h:Heap):Prop:=∀ a o,H a=some o→iZ P w H h a o
end
section
variable {P:Program}{w:World}{H H':Hp}{h h':Heap}{a:Addr}{o:HO}
theorem iZ.lt (x:iZ P w H h a o):a<h.objs.size:=by
 cases o with
 | lst xs=>obtain ⟨_,_,_,_,e⟩:=x;exact Heap.lt_size e
 | tup xs=>obtain ⟨_,_,_,p⟩:=x;exact p.lt
 | dK kvs=>obtain ⟨_,_,_,_,o,_,_,e,_⟩:=x;exact Heap.lt_size e
 | dT kvs=>obtain ⟨_,_,_,_,o,_,_,e,_⟩:=x;exact Heap.lt_size e
 | set S n=>obtain ⟨o,_,_,_,e,_⟩:=x;exact Heap.lt_size e
 | ins C dx fs=>obtain ⟨_,_,_,e,_⟩:=x;exact Heap.lt_size e
 | own y=>obtain ⟨_,e⟩:=x;exact Heap.lt_size e
 | xd fs=>obtain ⟨_,⟨_,_,_,e,_⟩,_⟩:=x;exact Heap.lt_size e
 | rng lo hi=>obtain ⟨_,_,_,e⟩:=x;exact Heap.lt_size e
 | frz ob u=>obtain ⟨e,_⟩:=x;exact Heap.lt_size e
 | tbl ps=>exact Heap.lt_size (show h.get? a=some _ from x)
 | tab l c q=>obtain ⟨_,e,_⟩:=x;exact Heap.lt_size e
 | met f y=>exact Heap.lt_size (show h.get? a=some _ from x)
 | ext φ=>obtain ⟨_,⟨_,e⟩,_⟩:=x;exact Heap.lt_size e
theorem Paired.mapP {α β:Type}{F G:α→β→Prop}:∀ {l₁:List α}{l₂:List β},Paired F l₁ l₂→(∀ a b,F a b→G a b)→Paired G l₁ l₂
 | _,_,.nil,_=>.nil
 | _,_,.cons r t,f=>.cons (f _ _ r) (Paired.mapP t f)
theorem iZ.stay (x:iZ P w H h a o) (k:∀ b u,(b=a∨H b=some (.own a))→h.get? b=some u→h'.get? b=some u)
  (ho:∀ b,H b=some (.own a)→H' b=some (.own a)) (ht:∀ b xs,H b=some (.tup xs)→H' b=some (.tup xs)) (hz:∀ b o u,H b=some (.frz o u)→H' b=some (.frz o u)):iZ P w H' h' a o:=by
 induction o with
 | lst xs=>obtain ⟨z,its,n,r,e⟩:=x;exact ⟨z,its,n,r,k _ _ (.inl rfl) e⟩
 | tup xs=>obtain ⟨z,its,r,ob,e,c⟩:=x;exact ⟨z,its,r,ob,k _ _ (.inl rfl) e,c⟩
 | dK kvs=>obtain ⟨z,y,vs,r,ob,es,ep,e,c⟩:=x;exact ⟨z,y,vs,r,ob,es,ep,k _ _ (.inl rfl) e,c⟩
 | dT kvs=>
  obtain ⟨z,y,xs,r,ob,es,ep,e,c⟩:=x
  exact ⟨z,y,xs,Paired.mapP r fun p q z=>⟨z.1,ht _ _ z.2.1,z.2.2⟩,ob,es,ep,k _ _ (.inl rfl) e,c⟩
 | set S n=>obtain ⟨ob,es,ep,t,e,c⟩:=x;exact ⟨ob,es,ep,t,k _ _ (.inl rfl) e,c⟩
 | ins C dx fs=>
  obtain ⟨d,z,ne,e,mA,⟨od,es,ep,e2,c⟩,r⟩:=x
  exact ⟨ho _ d,z,ne,k _ _ (.inl rfl) e,mA,⟨od,es,ep,k _ _ (.inr d) e2,c⟩,r⟩
 | own y=>obtain ⟨ob,e⟩:=x;exact ⟨ob,k _ _ (.inl rfl) e⟩
 | xd fs=>obtain ⟨mA,⟨od,es,ep,e,c⟩,r⟩:=x;exact ⟨mA,⟨od,es,ep,k _ _ (.inl rfl) e,c⟩,r⟩
 | rng lo hi=>obtain ⟨t,u,v,e⟩:=x;exact ⟨t,u,v,k _ _ (.inl rfl) e⟩
 | frz ob u ih=>obtain ⟨e,q⟩:=x;exact ⟨k _ _ (.inl rfl) e,ih q⟩
 | tbl ps=>
  have e:h.get? a=some { cls:=.none,data:=.fields ps }:=x
  show h'.get? a=some { cls:=.none,data:=.fields ps }
  exact k a _ (.inl rfl) e
 | tab l c q=>
  obtain ⟨ps,e,z⟩:=x
  refine ⟨ps,k _ _ (.inl rfl) e,?_⟩
  rcases z with z | ⟨d,oc,u,vs,t,z1,z2,z3⟩
  ·exact .inl z
  ·exact .inr ⟨d,oc,u,vs,t,z1,hz _ _ _ z2,z3⟩
 | met f y=>
  have e:h.get? a=some (PySem.W.methodObj (.ref f) (.ref y)):=x
  show h'.get? a=some (PySem.W.methodObj (.ref f) (.ref y))
  exact k a _ (.inl rfl) e
 | ext φ=>obtain ⟨p,⟨o,e⟩,st⟩:=x;exact ⟨st _ _ p fun o q=>k _ _ (.inl rfl) q,⟨o,k _ _ (.inl rfl) e⟩,st⟩
theorem sW.lt (x:sW P w H h) (e:H a=some o):a<h.objs.size:=(x a o e).lt
theorem sW.fresh (x:sW P w H h) (e:h.objs.size≤a):H a=none:=by
 cases q:H a with
 | none=>rfl
 | some u=>exact absurd (Nat.lt_of_lt_of_le (x.lt q) e) (Nat.lt_irrefl _)
theorem sW.kept (x:sW P w H h) (k:∀ b u,h.get? b=some u→h'.get? b=some u):sW P w H h':=fun a o e=>
 (x a o e).stay (fun b u _ q=>k b u q) (fun _ q=>q) (fun _ _ q=>q) fun _ _ _ q=>q
theorem sW.laid (x:sW P w H h) (k:∀ b u,h.get? b=some u→h'.get? b=some u) (hp:h.objs.size≤a) (new:iZ P w (upd H a o) h' a o):sW P w (upd H a o) h':=fun b u e=>by
 have hn:=x.fresh hp
 by_cases hb:b=a
 ·subst hb;rw [bR] at e;cases e;exact new
 ·rw [aZ hb] at e
  exact (x b u e).stay (fun c v _ q=>k c v q) (fun c q=>by rw [aZ (bQ q hn)];exact q) (fun c xs q=>by rw [aZ (bQ q hn)];exact q) fun c ob u q=>by rw [aZ (bQ q hn)];exact q
end
def Rd (H:Hp) (a:Addr) (u:HO):Prop:=H a=some u∨∃ o,H a=some (.frz o u)
theorem Rd.ok {P:Program}{w:World}{H:Hp}{h:Heap}{a:Addr}{u:HO} (r:Rd H a u) (x:sW P w H h):iZ P w H h a u:=by
 rcases r with r | ⟨o,r⟩
 ·exact x a u r
 ·obtain ⟨_,q⟩:=x a _ r
  exact q
def Mut:Option HO→Prop
 | some (.lst _)=>True
 | some (.dK _)=>True
 | some (.dT _)=>True
 | some (.set _ _)=>True
 | some (.ins _ _ _)=>True
 | some (.tab _ _ _)=>True
 | some (.ext _)=>True
 | _=>False
section
variable {P:Program}{w:World}{H:Hp}{h h':Heap}{x e:Addr}{o':HO}
theorem sW.write (ok:sW P w H h) (mu:Mut (H x)) (he:e=x∨H e=some (.own x)) (k:∀ b u,b≠e→h.get? b=some u→h'.get? b=some u) (heo:∃ u,h'.get? e=some u)
  (new:iZ P w (upd H x o') h' x o'):sW P w (upd H x o') h':=fun b u q=>by
 have nown:∀ c y,H c=some (.own y)→c≠x:=fun c y r z=>by subst z;rw [r] at mu;exact mu
 have ntup:∀ c xs,H c=some (.tup xs)→c≠x:=fun c xs r z=>by subst z;rw [r] at mu;exact mu
 by_cases hb:b=x
 ·subst hb;rw [bR] at q;cases q;exact new
 ·rw [aZ hb] at q
  by_cases hbe:b=e
  ·have q':H b=some (.own x):=by
    rcases he with z | z
    ·exact absurd (hbe.trans z) hb
    ·rw [hbe];exact z
   rw [q] at q';cases q'
   obtain ⟨v,hv⟩:=heo
   exact ⟨v,by rw [hbe];exact hv⟩
  ·refine (ok b u q).stay (fun c v hc r=>k c v ?_ r) (fun c r=>by rw [aZ (nown c b r)];exact r) (fun c xs r=>by rw [aZ (ntup c xs r)];exact r) fun c ob u r=>by rw [aZ (fun z=>by subst z;rw [r] at mu;exact mu)];exact r
   rcases hc with rfl | hc
   ·exact hbe
   ·rintro rfl
    rcases he with z | z
    ·exact nown c b hc z
    ·rw [hc] at z;cases z;exact hb rfl
end
structure Un (fs ex:List Addr) (H H':Hp) (h h':Heap):Prop where
 keep:∀ b o,h.get? b=some o→H b=none→b∉fs→b∉ex→h'.get? b=some o
 slot:∀ b o,h.get? b=some o→H b=none→b∈fs→b∉ex→∃ sl,h'.get? b=some { o with slots:=sl }
 free:∀ b o,h.get? b=some o→H b=none→b∉ex→H' b=none
 there:∀ b o,h.get? b=some o→b∉ex→∃ o',h'.get? b=some o'
 tups:∀ b xs,H b=some (.tup xs)→H' b=some (.tup xs)
 frzs:∀ b o u,H b=some (.frz o u)→H' b=some (.frz o u)
 tbls:∀ b ps,H b=some (.tbl ps)→∃ more,H' b=some (.tbl (ps++more))
section
variable {fs fs' ex ex':List Addr}{H H1 H2:Hp}{h h1 h2 h':Heap}{a x e:Addr}{o:HO}
theorem Un.any (u:Un fs ex H H1 h h1) {b:Addr}{ob:Obj} (q:h.get? b=some ob) (n:H b=none) (hx:b∉ex):∃ sl,h1.get? b=some { ob with slots:=sl }:=by
 by_cases hb:b∈fs
 ·exact u.slot b ob q n hb hx
 ·exact ⟨ob.slots,u.keep b ob q n hb hx⟩
theorem Un.kept (k:∀ b u,h.get? b=some u→h'.get? b=some u):Un fs ex H H h h':=
 ⟨fun b ob q _ _ _=>k b ob q,fun b ob q _ _ _=>⟨ob.slots,k b ob q⟩,fun _ _ _ n _=>n,fun b ob q _=>⟨ob,k b ob q⟩,fun _ _ q=>q,fun _ _ _ q=>q,fun _ ps q=>⟨#[],by rw [q];simp⟩⟩
theorem Un.refl:Un fs ex H H h h:=Un.kept fun _ _ q=>q
theorem Un.laid (k:∀ b u,h.get? b=some u→h'.get? b=some u) (hp:h.objs.size≤a) (hn:H a=none):Un fs ex H (upd H a o) h h' where
 keep:=fun b u q _ _ _=>k b u q
 slot:=fun b u q _ _ _=>⟨u.slots,k b u q⟩
 free:=fun b u q n _=>by rw [aZ (Nat.ne_of_lt (Nat.lt_of_lt_of_le (Heap.lt_size q) hp))];exact n
 there:=fun b u q _=>⟨u,k b u q⟩
 tups:=fun b xs q=>by rw [aZ (bQ q hn)];exact q
 frzs:=fun b u xs q=>by rw [aZ (bQ q hn)];exact q
 tbls:=fun b ps q=>⟨#[],by rw [aZ (bQ q hn),q];simp⟩
theorem Un.write (mu:Mut (H x)) (he:e=x∨H e=some (.own x)) (k:∀ b u,b≠e→h.get? b=some u→h'.get? b=some u) (heo:∃ u,h'.get? e=some u):Un fs ex H (upd H x o) h h':=by
 have hx:∀ b,H b=none→b≠x:=fun b n z=>by subst z;rw [n] at mu;exact mu
 have hb:∀ b,H b=none→b≠e:=fun b n z=>by
  subst z
  rcases he with r | r
  ·exact hx b n r
  ·rw [n] at r;cases r
 have hm:∀ b u,H b=some u→¬ Mut (some u)→b≠x:=fun b u q nm z=>by subst z;rw [q] at mu;exact nm mu
 refine ⟨fun b u q n _ _=>k b u (hb b n) q,fun b u q n _ _=>⟨u.slots,k b u (hb b n) q⟩,fun b u q n _=>by rw [aZ (hx b n)];exact n,fun b u q _=>?_,
  fun b xs q=>by rw [aZ (hm b _ q fun z=>z)];exact q,fun b u xs q=>by rw [aZ (hm b _ q fun z=>z)];exact q,fun b ps q=>⟨#[],by rw [aZ (hm b _ q fun z=>z),q];simp⟩⟩
 by_cases hbe:b=e
 ·subst hbe;exact heo
 ·exact ⟨u,k b u hbe q⟩
end
def trk (h:Heap) (H:Hp):List Addr:=(List.range h.objs.size).filter fun a=>(H a).isSome
def aBq (h:Heap) (H:Hp):Heap:=PySem.W.hideAll h (trk h H)
theorem aHI (h:Heap) (H:Hp):(aBq h H).objs.size=h.objs.size:=PySem.W.hideAll_size _ _
theorem aJY {h:Heap}{H:Hp}{b:Addr}{o:Obj} (e:h.get? b=some o) (n:H b=none):(aBq h H).get? b=some o:=
 PySem.W.hideAll_get _ e fun hm=>by
  have q:(H b).isSome=true:=(List.mem_filter.mp hm).2
  rw [n] at q;simp at q
theorem aKF {h:Heap}{H:Hp}{b:Addr}{o:Obj} (e:(aBq h H).get? b=some o):h.get? b=some o∧H b=none:=by
 have e':h.get? b=some o:=PySem.W.of_hideAll (trk h H) e
 refine ⟨e',?_⟩
 cases q:H b with
 | none=>rfl
 | some x=>
  have hm:b∈trk h H:=List.mem_filter.mpr ⟨List.mem_range.mpr (Heap.lt_size e'),by simp [q]⟩
  have z:(aBq h H).get? b=none:=PySem.W.hideAll_none (trk h H) hm
  rw [z] at e;cases e
structure Mod (K:PySem.W.Frag) (mg:Str→Option Value) (base:Heap):Prop where
 kin:K.In base
 glob:base.Ns mainGlobals mg
 blt:∃ mb,base.Ns builtinsNs mb∧∀ x:Str,x≠"__name__"→mb x=bootBuiltins x
 nolimit:base.NoLimit
structure Cx where
 prog:Program
 w:World
 K:PySem.W.Frag
 mg:Str→Option Value
 base:Heap
 A:Around
 N:List Str
 s₀:Shared
 H₀:Hp
 env:Env
 outer:List Env
 stack:List Env
 ex:List Addr
 fn:Str→Bool
 calm:Bool
 pn:List (Addr×Obj)
 xe:Value→Shared→Prop
def frs (l:List Env):List Addr:=l.filterMap (·.frame)
abbrev Cx.fs (X:Cx):List Addr:=frs X.outer
def Vis (sc:Scope) (x:Str):Prop:=sc.names.lookup x=some .local∨sc.names.lookup x=some .cell∨sc.names.lookup x=some .free
def Loc (sc:Scope) (x:Str):Prop:=sc.names.lookup x=some .local∨sc.names.lookup x=some .cell
def aOD (env:Env) (h:Heap) (m:Str→Option Value) (x:Str) (u:Value):Prop:=
 (env.kindOf x=some .local∧m x=some u)∨((env.kindOf x=some .cell∨env.kindOf x=some .free)∧∃ c,env.cells.lookup x=some c∧h.IsCell c (some u))
structure Cx.Ok (X:Cx):Prop where
 mod:Mod X.K X.mg X.base
 kind:X.env.scope.kind = .function
 glob:X.env.globals=mainGlobals
 blt:X.env.builtins=builtinsNs
 above:X.s₀.heap.objs.size≤X.env.locals
 inj:∀ x y c,X.env.cells.lookup x=some c→X.env.cells.lookup y=some c→x=y
 has:∀ x,(X.env.kindOf x=some .cell∨X.env.kindOf x=some .free)→∃ c,X.env.cells.lookup x=some c
 cab:∀ x c,X.fn x=true→X.env.cells.lookup x=some c→X.s₀.heap.objs.size≤c
 hd:X.calm=true→X.A.handled=none
 frames:X.A.frames=some X.stack
 stk:X.stack=X.outer∨(X.stack=X.env::X.outer∧X.env.frame=some X.env.locals)
 exf:∀ b∈X.ex,b≠X.env.locals∧∀ x c,X.env.cells.lookup x=some c→c≠b
 bs:∀ b o,X.base.get? b=some o→X.s₀.heap.get? b=some o∧X.H₀ b=none
 bsz:X.base.objs.size≤X.s₀.heap.objs.size
 noex:∀ b o,X.base.get? b=some o→b∉X.ex
 exfs:∀ b∈X.ex,b∉X.fs
 funs:X.s₀.heap.FunFrames X.base X.outer
 frf:∀ b∈X.fs,X.H₀ b=none
structure bI (X:Cx) (pins:List (Addr×Obj)) (σ:List (Option V)) (H:Hp) (s:Shared):Prop where
 ok:X.Ok
 os:s.os=X.s₀.os
 bare:AllBare s.gens
 base:Un X.fs X.ex X.H₀ H X.s₀.heap s.heap
 loc:∃ m,s.heap.Ns X.env.locals m∧∀ (i:Nat) (x:Str) (v:V),X.N[i]? = some x→σ[i]? = some (some v)→Vis X.env.scope x→∃ u,dD v u∧aOD X.env s.heap m x u
 cell:∀ x c,X.env.cells.lookup x=some c→∃ v,s.heap.IsCell c v
 free:H X.env.locals=none
 freeC:∀ x c,X.env.cells.lookup x=some c→H c=none
 pin:∀ p∈X.pn++pins,s.heap.get? p.1=some p.2∧H p.1=none∧p.1≠X.env.locals∧p.1∉X.fs∧∀ v,p.2.data≠.cell v
 hok:sW X.prog X.w H s.heap
 len:σ.length=X.N.length
section
variable {X:Cx}{pins:List (Addr×Obj)}{σ:List (Option V)}{H H':Hp}{s:Shared}{h':Heap}
theorem Cx.Ok.nofr (ok:X.Ok) {b:Addr}{o:Obj} (e:X.base.get? b=some o):b∉X.fs:=fun hb=>by
 have:=(ok.funs.mem hb).1
 rw [e] at this;cases this
theorem bI.bs (I:bI X pins σ H s):∀ b o,X.base.get? b=some o→s.heap.get? b=some o∧H b=none:=fun b o e=>
 ⟨I.base.keep b o (I.ok.bs b o e).1 (I.ok.bs b o e).2 (I.ok.nofr e) (I.ok.noex b o e),I.base.free b o (I.ok.bs b o e).1 (I.ok.bs b o e).2 (I.ok.noex b o e)⟩
theorem bI.bk (I:bI X pins σ H s):∀ b o,X.base.get? b=some o→s.heap.get? b=some o:=fun b o e=>(I.bs b o e).1
theorem bI.mod (I:bI X pins σ H s):Mod X.K X.mg X.base:=I.ok.mod
theorem bI.kIn (I:bI X pins σ H s):X.K.In s.heap:=I.ok.mod.kin.keeps I.bk
theorem bI.nolimit (I:bI X pins σ H s):s.heap.NoLimit:=I.ok.mod.nolimit.keeps I.bk
theorem bI.lt (I:bI X pins σ H s):X.env.locals<s.heap.objs.size:=let ⟨_,hn,_⟩:=I.loc;hn.lt
theorem bI.sz (I:bI X pins σ H s):X.s₀.heap.objs.size≤s.heap.objs.size:=Nat.le_trans I.ok.above (Nat.le_of_lt I.lt)
theorem bI.nofs (I:bI X pins σ H s) {a:Addr} (h:s.heap.objs.size≤a):a∉X.fs:=fun hb=>by
 obtain ⟨_,o,ho,_⟩:=I.ok.funs.mem hb
 exact absurd (Nat.lt_of_lt_of_le (Heap.lt_size ho) (Nat.le_trans I.sz h)) (Nat.lt_irrefl _)
theorem bI.cne (I:bI X pins σ H s):∀ x c,X.env.cells.lookup x=some c→c≠X.env.locals:=fun x c e z=>by
 obtain ⟨v,o,ho,hd⟩:=I.cell x c e
 obtain ⟨m,⟨o',es,ep,ho',hd',_⟩,_⟩:=I.loc
 rw [z,ho'] at ho;cases ho;rw [hd'] at hd;cases hd
theorem bI.funs (I:bI X pins σ H s):s.heap.FunFrames X.base X.outer:=by
 have all:∀ (l:List Env),(∀ b∈frs l,b∈X.fs)→X.s₀.heap.FunFrames X.base l→s.heap.FunFrames X.base l:=by
  intro l
  induction l with
  | nil=>intro _ _;trivial
  | cons env r ih=>
   intro hs hl
   obtain ⟨hk,⟨L,o,hf,hn,ho,hd⟩,hr⟩:=hl
   have hL:L∈X.fs:=hs L (by unfold frs;rw [List.filterMap_cons,hf];exact List.mem_cons_self)
   obtain ⟨sl,e⟩:=I.base.slot L o ho (I.ok.frf L hL) hL fun z=>I.ok.exfs L z hL
   exact ⟨hk,⟨L,_,hf,hn,e,hd⟩,ih (fun b hb=>hs b (by unfold frs;rw [List.filterMap_cons,hf];exact List.mem_cons_of_mem _ hb)) hr⟩
 exact all X.outer (fun _ hb=>hb) I.ok.funs
theorem bI.stack (I:bI X pins σ H s):s.heap.FunFrames X.base X.stack:=by
 rcases I.ok.stk with e | ⟨e,hf⟩
 ·rw [e];exact I.funs
 ·rw [e]
  obtain ⟨m,hn,_⟩:=I.loc
  refine .cons (by rw [I.ok.kind];decide) hf hn ?_ I.funs
  exact Heap.get?_none_of_le (Nat.le_trans I.ok.bsz I.ok.above)
theorem bI.stkSub (I:bI X pins σ H s):∀ b∈frs X.stack,b∈X.env.locals::X.fs:=fun b hb=>by
 rcases I.ok.stk with e | ⟨e,hf⟩
 ·rw [e] at hb;exact List.mem_cons_of_mem _ hb
 ·rw [e] at hb
  unfold frs at hb
  rw [List.filterMap_cons,hf] at hb
  exact hb
theorem bI.stkFree (I:bI X pins σ H s):∀ b∈frs X.stack,H b=none:=fun b hb=>by
 rcases List.mem_cons.mp (I.stkSub b hb) with e | hb
 ·rw [e];exact I.free
 ·obtain ⟨_,o,ho,_⟩:=I.ok.funs.mem hb
  exact I.base.free b o ho (I.ok.frf b hb) fun z=>I.ok.exfs b z hb
theorem bI.step {g':Array GenState}{t':Nat}{d':Drawn}{ch:List Addr} (I:bI X pins σ H s)
  (hch:∀ b∈ch,(b∈X.ex∨X.s₀.heap.objs.size≤b)∧b≠X.env.locals∧(∀ x c,X.env.cells.lookup x=some c→c≠b)∧∀ p∈X.pn++pins,p.1≠b)
  (keep:∀ b o,b≠X.env.locals→b∉X.fs→b∉ch→s.heap.get? b=some o→H b=none→h'.get? b=some o)
  (slot:∀ b o,b≠X.env.locals→b∈X.fs→b∉ch→s.heap.get? b=some o→H b=none→∃ sl,h'.get? b=some { o with slots:=sl }) (free:∀ b o,b∉ch→s.heap.get? b=some o→H b=none→H' b=none)
  (there:∀ b o,b∉ch→s.heap.get? b=some o→∃ o',h'.get? b=some o')
  (tups:∀ b xs,H b=some (.tup xs)→H' b=some (.tup xs)) (frzs:∀ b o u,H b=some (.frz o u)→H' b=some (.frz o u)) (tbls:∀ b ps,H b=some (.tbl ps)→∃ more,H' b=some (.tbl (ps++more)))
  (ns:∀ m,s.heap.Ns X.env.locals m→h'.Ns X.env.locals m) (hok:sW X.prog X.w H' h') (hg:AllBare g') :
  bI X pins σ H' { s with heap:=h',gens:=g',drawn:=d',toks:=t' }:=by
 have neL:∀ b o,X.s₀.heap.get? b=some o→b≠X.env.locals:=fun b o e=>Nat.ne_of_lt (Nat.lt_of_lt_of_le (Heap.lt_size e) I.ok.above)
 have neC:∀ b o,X.s₀.heap.get? b=some o→b∉X.ex→b∉ch:=fun b o e hx hb=>by
  rcases (hch b hb).1 with z | z
  ·exact hx z
  ·exact absurd (Nat.lt_of_lt_of_le (Heap.lt_size e) z) (Nat.lt_irrefl _)
 have cellK:∀ x c,X.env.cells.lookup x=some c→∀ v,s.heap.IsCell c v→h'.IsCell c v:=fun x c e v ⟨o,ho,hd⟩=>by
  have nch:c∉ch:=fun z=>(hch c z).2.2.1 x c e rfl
  by_cases hc:c∈X.fs
  ·obtain ⟨sl,q⟩:=slot c o (I.cne x c e) hc nch ho (I.freeC x c e)
   exact ⟨_,q,hd⟩
  ·exact ⟨o,keep c o (I.cne x c e) hc nch ho (I.freeC x c e),hd⟩
 refine ⟨I.ok,I.os,hg,⟨fun b o e n hb hx=>?_,fun b o e n hb hx=>?_,fun b o e n hx=>?_,fun b o e hx=>?_,fun b xs e=>tups b xs (I.base.tups b xs e),fun b o xs e=>frzs b o xs (I.base.frzs b o xs e),fun b ps e=>?_⟩,?_,fun x c e=>?_,?_,fun x c e=>?_,fun p hp=>?_,hok,I.len⟩
 ·exact keep b o (neL b o e) hb (neC b o e hx) (I.base.keep b o e n hb hx) (I.base.free b o e n hx)
 ·obtain ⟨sl,e1⟩:=I.base.slot b o e n hb hx
  obtain ⟨sl',e2⟩:=slot b _ (neL b o e) hb (neC b o e hx) e1 (I.base.free b o e n hx)
  exact ⟨sl',e2⟩
 ·obtain ⟨o',e1⟩:=I.base.there b o e hx
  exact free b o' (neC b o e hx) e1 (I.base.free b o e n hx)
 ·obtain ⟨o',e1⟩:=I.base.there b o e hx
  exact there b o' (neC b o e hx) e1
 ·obtain ⟨m1,e1⟩:=I.base.tbls b ps e
  obtain ⟨m2,e2⟩:=tbls b _ e1
  exact ⟨m1++m2,by rw [e2,Array.append_assoc]⟩
 ·obtain ⟨m,hn,hl⟩:=I.loc
  refine ⟨m,ns m hn,fun i x v e1 e2 e3=>?_⟩
  obtain ⟨u,r,l⟩:=hl i x v e1 e2 e3
  refine ⟨u,r,?_⟩
  rcases l with l | ⟨k,c,e,z⟩
  ·exact .inl l
  ·exact .inr ⟨k,c,e,cellK x c e _ z⟩
 ·obtain ⟨v,z⟩:=I.cell x c e
  exact ⟨v,cellK x c e v z⟩
 ·obtain ⟨m,⟨o,_,_,ho,_⟩,_⟩:=I.loc
  exact free _ o (fun z=>(hch _ z).2.1 rfl) ho I.free
 ·obtain ⟨v,o,ho,hd⟩:=I.cell x c e
  exact free c o (fun z=>(hch c z).2.2.1 x c e rfl) ho (I.freeC x c e)
 ·obtain ⟨e,n,ne,nf,d⟩:=I.pin p hp
  have nch:p.1∉ch:=fun z=>(hch p.1 z).2.2.2 p hp rfl
  exact ⟨keep p.1 p.2 ne nf nch e n,free p.1 p.2 nch e n,ne,nf,d⟩
theorem bI.un {t':Nat} (I:bI X pins σ H s) (u:Un X.fs [] H H' s.heap h') (hok:sW X.prog X.w H' h'):bI X pins σ H' { s with heap:=h',toks:=t' }:=by
 obtain ⟨m,⟨o,es,ep,ho,r⟩,_⟩:=id I.loc
 obtain ⟨sl,hL⟩:=u.any ho I.free (by simp)
 exact I.step (g':=s.gens) (d':=s.drawn) (ch:=[]) (fun _ z=>nomatch z) (fun b o _ hb _ e n=>u.keep b o e n hb (by simp)) (fun b o _ hb _ e n=>u.slot b o e n hb (by simp)) (fun b o _ e n=>u.free b o e n (by simp)) (fun b o _ e=>u.there b o e (by simp)) u.tups u.frzs u.tbls (fun m' hm=>by
  obtain ⟨o',es',ep',ho',r'⟩:=hm
  rw [ho] at ho';cases ho'
  exact ⟨_,es',ep',hL,r'⟩) hok I.bare
theorem bI.call {g':Array GenState}{t':Nat}{d':Drawn}{ch:List Addr} (I:bI X pins σ H s) (u:Un (frs X.stack) ch H H' s.heap h') (hok:sW X.prog X.w H' h') (hg:AllBare g')
  (hch:∀ b∈ch,(b∈X.ex∨X.s₀.heap.objs.size≤b)∧b≠X.env.locals∧(∀ x c,X.env.cells.lookup x=some c→c≠b)∧∀ p∈X.pn++pins,p.1≠b) :
  bI X pins σ H' { s with heap:=h',gens:=g',drawn:=d',toks:=t' }:=by
 obtain ⟨m,⟨o,es,ep,ho,r⟩,_⟩:=id I.loc
 obtain ⟨sl,hL⟩:=u.any ho I.free fun z=>(hch _ z).2.1 rfl
 exact I.step (ch:=ch) hch (fun b o hL hb hc e n=>u.keep b o e n (fun z=>(List.mem_cons.mp (I.stkSub b z)).elim hL hb) hc) (fun b o _ _ hc e n=>u.any e n hc) (fun b o hc e n=>u.free b o e n hc) (fun b o hc e=>u.there b o e hc) u.tups u.frzs u.tbls (fun m' hm=>by
  obtain ⟨o',es',ep',ho',r'⟩:=hm
  rw [ho] at ho';cases ho'
  exact ⟨_,es',ep',hL,r'⟩) hok hg
theorem bI.turned {t':Nat}{it:Addr} (I:bI X pins σ H s) (k:∀ b o,b≠it→s.heap.get? b=some o→h'.get? b=some o) (hn:H it=none) (hL:it≠X.env.locals)
  (h1:it∈X.ex∨X.s₀.heap.objs.size≤it) (h2:∀ x c,X.env.cells.lookup x=some c→c≠it) (h3:∀ p∈X.pn++pins,p.1≠it):bI X pins σ H { s with heap:=h',toks:=t' }:=by
 have nit:∀ b u,H b=some u→b≠it:=fun b u e z=>by rw [z,hn] at e;cases e
 refine I.step (g':=s.gens) (d':=s.drawn) (ch:=[it]) (fun b hb=>?_) (fun b o _ _ hc e _=>k b o (fun z=>hc (by simp [z])) e) (fun b o _ _ hc e _=>⟨o.slots,k b o (fun z=>hc (by simp [z])) e⟩) (fun _ _ _ _ n=>n)
  (fun b o hc e=>⟨o,k b o (fun z=>hc (by simp [z])) e⟩) (fun _ _ e=>e) (fun _ _ _ e=>e) (fun b ps e=>⟨#[],by rw [e];simp⟩) (fun m hm=>?_) (fun b u e=>?_) I.bare
 ·have e:b=it:=by simpa using hb
  subst e
  exact ⟨h1,hL,h2,h3⟩
 ·obtain ⟨o,es,ep,ho,r⟩:=hm
  exact ⟨o,es,ep,k _ o (Ne.symm hL) ho,r⟩
 ·refine (I.hok b u e).stay (fun c v hc q=>k c v ?_ q) (fun _ q=>q) (fun _ _ q=>q) fun _ _ _ q=>q
  rcases hc with z | z
  ·rw [z];exact nit b u e
  ·exact nit c _ z
theorem bI.tok (I:bI X pins σ H s) (t:Nat):bI X pins σ H { s with toks:=t }:=I.un (h':=s.heap) (t':=t) Un.refl I.hok
theorem bI.kept {t':Nat} (I:bI X pins σ H s) (k:∀ b u,s.heap.get? b=some u→h'.get? b=some u):bI X pins σ H { s with heap:=h',toks:=t' }:=I.un (Un.kept k) (I.hok.kept k)
theorem bI.laid {a:Addr}{o:HO}{t':Nat} (I:bI X pins σ H s) (k:∀ b u,s.heap.get? b=some u→h'.get? b=some u) (hp:s.heap.objs.size≤a) (new:iZ X.prog X.w (upd H a o) h' a o) :
  bI X pins σ (upd H a o) { s with heap:=h',toks:=t' }:=I.un (Un.laid k hp (I.hok.fresh hp)) (I.hok.laid k hp new)
theorem bI.write {x e:Addr}{o:HO}{t':Nat} (I:bI X pins σ H s) (mu:Mut (H x)) (he:e=x∨H e=some (.own x)) (k:∀ b u,b≠e→s.heap.get? b=some u→h'.get? b=some u) (heo:∃ u,h'.get? e=some u)
  (new:iZ X.prog X.w (upd H x o) h' x o):bI X pins σ (upd H x o) { s with heap:=h',toks:=t' }:=I.un (Un.write mu he k heo) (I.hok.write mu he k heo new)
theorem bI.weak {σ':List (Option V)} (I:bI X pins σ H s) (hl:σ'.length=σ.length) (w:∀ (i:Nat) v,σ'[i]? = some (some v)→σ[i]? = some (some v)):bI X pins σ' H s:=
 ⟨I.ok,I.os,I.bare,I.base,let ⟨m,hn,hl'⟩:=I.loc; ⟨m,hn,fun i x v e1 e2 e3=>hl' i x v e1 (w i v e2) e3⟩,I.cell,I.free,I.freeC,I.pin,I.hok,hl.trans I.len⟩
theorem bI.pins_of {pins':List (Addr×Obj)} (I:bI X pins σ H s) (h:∀ p∈pins',s.heap.get? p.1=some p.2∧H p.1=none∧p.1≠X.env.locals∧p.1∉X.fs∧∀ v,p.2.data≠.cell v):bI X pins' σ H s:=
 ⟨I.ok,I.os,I.bare,I.base,I.loc,I.cell,I.free,I.freeC,fun p hp=>(List.mem_append.mp hp).elim (fun z=>I.pin p (List.mem_append_left _ z)) (h p),I.hok,I.len⟩
theorem z9 {N:List Str} (hN:N.Nodup) {i j:Nat}{x:Str} (a:N[i]? = some x) (b:N[j]? = some x):i=j:=by
 obtain ⟨h1,e1⟩:=List.getElem?_eq_some_iff.mp a
 obtain ⟨h2,e2⟩:=List.getElem?_eq_some_iff.mp b
 exact (List.getElem_inj hN).mp (e1.trans e2.symm)
theorem aB4 {M:Model}{A:Around}{E:Value→Shared→Prop}{i:Nat}{x:Str}{v:V}{u:Value}{Q:Unit→Shared→Prop} (I:bI X pins σ H s) (hN:X.N.Nodup) (hi:X.N[i]? = some x) (hx:Loc X.env.scope x) (r:dD v u)
  (h:∀ s',bI X pins (σ.set i (some v)) H s'→(∃ a,Heap.SameBut a s.heap s'.heap∧(a=X.env.locals∨X.env.cells.lookup x=some a))→Q () s') (hf:X.fn x=true∨X.env.scope.names.lookup x=some .local:=by first | exact .inl rfl | exact .inr rfl | assumption):wpAny M A (storeName X.env x u) Q E s:=by
 obtain ⟨m,hn,hl⟩:=id I.loc
 have hcls:(X.env.scope.kind == .class || (X.env.scope.kind == .module && X.env.locals != X.env.globals))=false:=by rw [I.ok.kind];rfl
 have hiσ:i<σ.length:=by rw [I.len];exact (List.getElem?_eq_some_iff.mp hi).1
 have cne:=I.cne
 have tracked:∀ {a:Addr}{h':Heap},(∃ o,s.heap.get? a=some o∧H a=none)→Heap.SameBut a s.heap h'→sW X.prog X.w H h':=fun {a h'} ha hs b ob e=>by
  obtain ⟨_,_,hfree⟩:=ha
  refine (I.hok b ob e).stay (fun c w' hc q=>(hs.2 c ?_).trans q) (fun _ q=>q) (fun _ _ q=>q) fun _ _ _ q=>q
  rintro rfl
  rcases hc with rfl | hc
  ·rw [hfree] at e;cases e
  ·rw [hfree] at hc;cases hc
 rcases hx with hk | hk
 ·refine wpAny_storeName_local hk hn (fun h' hn' hs=>?_) hcls
  obtain ⟨oL,_,_,hoL,_⟩:=id hn
  refine h _ ⟨I.ok,I.os,I.bare,⟨fun b o e n hb hx=>?_,fun b o e n hb hx=>?_,I.base.free,fun b o e hx=>?_,I.base.tups,I.base.frzs,I.base.tbls⟩,⟨_,hn',fun j y v' e1 e2 e3=>?_⟩,fun y c e=>?_,I.free,I.freeC,fun p hp=>?_,tracked ⟨oL,hoL,I.free⟩ hs,by simpa using I.len⟩ ⟨_,hs,.inl rfl⟩
  ·exact (hs.2 b (Nat.ne_of_lt (Nat.lt_of_lt_of_le (Heap.lt_size e) I.ok.above))).trans (I.base.keep b o e n hb hx)
  ·obtain ⟨sl,e1⟩:=I.base.slot b o e n hb hx
   exact ⟨sl,(hs.2 b (Nat.ne_of_lt (Nat.lt_of_lt_of_le (Heap.lt_size e) I.ok.above))).trans e1⟩
  ·obtain ⟨o',e1⟩:=I.base.there b o e hx
   exact ⟨o',(hs.2 b (Nat.ne_of_lt (Nat.lt_of_lt_of_le (Heap.lt_size e) I.ok.above))).trans e1⟩
  ·by_cases hj:j=i
   ·subst hj
    rw [hi] at e1;cases e1
    rw [List.getElem?_set_self hiσ] at e2
    cases e2
    exact ⟨u,r,.inl ⟨hk,by simp⟩⟩
   ·rw [List.getElem?_set_ne (Ne.symm hj)] at e2
    obtain ⟨u',r',q⟩:=hl j y v' e1 e2 e3
    refine ⟨u',r',?_⟩
    rcases q with ⟨k,e⟩ | ⟨k,c,e,z⟩
    ·refine .inl ⟨k,?_⟩
     have:y≠x:=fun e=>hj (z9 hN e1 (e ▸ hi))
     simp [this,e]
    ·exact .inr ⟨k,c,e,z.sameBut hs (cne y c e)⟩
  ·obtain ⟨w',z⟩:=I.cell y c e
   exact ⟨w',z.sameBut hs (cne y c e)⟩
  ·obtain ⟨e,n,ne,nf,d⟩:=I.pin p hp
   exact ⟨(hs.2 p.1 ne).trans e,n,ne,nf,d⟩
 ·have hfn:X.fn x=true:=by
   rcases hf with z | z
   ·exact z
   ·rw [z] at hk;cases hk
  obtain ⟨c,hc⟩:=I.ok.has x (.inl hk)
  obtain ⟨w',z⟩:=I.cell x c hc
  refine wpAny_storeName_cell I.ok.kind hk hc z (fun h' hc' hs=>?_)
  obtain ⟨oc,hoc,hocd⟩:=id z
  refine h { s with heap:=h' } ⟨I.ok,I.os,I.bare,⟨fun b o e n hb hx=>?_,fun b o e n hb hx=>?_,I.base.free,fun b o e hx=>?_,I.base.tups,I.base.frzs,I.base.tbls⟩,⟨m,hn.sameBut hs (Ne.symm (cne x c hc)),fun j y v' e1 e2 e3=>?_⟩,fun y c' e=>?_,I.free,I.freeC,fun p hp=>?_,tracked ⟨oc,hoc,I.freeC x c hc⟩ hs,by simpa using I.len⟩ ⟨c,hs,.inr hc⟩
  ·exact (hs.2 b (Nat.ne_of_lt (Nat.lt_of_lt_of_le (Heap.lt_size e) (I.ok.cab x c hfn hc)))).trans (I.base.keep b o e n hb hx)
  ·obtain ⟨sl,e1⟩:=I.base.slot b o e n hb hx
   exact ⟨sl,(hs.2 b (Nat.ne_of_lt (Nat.lt_of_lt_of_le (Heap.lt_size e) (I.ok.cab x c hfn hc)))).trans e1⟩
  ·obtain ⟨o',e1⟩:=I.base.there b o e hx
   exact ⟨o',(hs.2 b (Nat.ne_of_lt (Nat.lt_of_lt_of_le (Heap.lt_size e) (I.ok.cab x c hfn hc)))).trans e1⟩
  ·by_cases hj:j=i
   ·subst hj
    rw [hi] at e1;cases e1
    rw [List.getElem?_set_self hiσ] at e2
    cases e2
    exact ⟨u,r,.inr ⟨.inl hk,c,hc,hc'⟩⟩
   ·rw [List.getElem?_set_ne (Ne.symm hj)] at e2
    obtain ⟨u',r',q⟩:=hl j y v' e1 e2 e3
    refine ⟨u',r',?_⟩
    rcases q with q | ⟨k,c',e,z'⟩
    ·exact .inl q
    ·refine .inr ⟨k,c',e,z'.sameBut hs ?_⟩
     rintro rfl
     exact hj (z9 hN e1 (I.ok.inj _ _ _ e hc ▸ hi))
  ·by_cases hcc:c'=c
   ·subst hcc;exact ⟨_,hc'⟩
   ·obtain ⟨w2,z2⟩:=I.cell y c' e
    exact ⟨w2,z2.sameBut hs hcc⟩
  ·obtain ⟨e,n,ne,nf,d⟩:=I.pin p hp
   refine ⟨(hs.2 p.1 ?_).trans e,n,ne,nf,d⟩
   intro q
   rw [q,hoc] at e
   have q':oc=p.2:=Option.some.inj e
   exact d w' (by rw [← q'];exact hocd)
theorem rV {M:Model}{A:Around}{E:Value→Shared→Prop}{i:Nat}{x:Str}{v:V}{u:Value}{Q:Unit→Shared→Prop} (I:bI X pins σ H s) (hN:X.N.Nodup) (hi:X.N[i]? = some x) (hx:Loc X.env.scope x) (r:dD v u)
  (h:∀ s',bI X pins (σ.set i (some v)) H s'→Q () s') (hf:X.fn x=true∨X.env.scope.names.lookup x=some .local:=by first | exact .inl rfl | exact .inr rfl | assumption):wpAny M A (storeName X.env x u) Q E s:=
 aB4 I hN hi hx r (fun s' I' _=>h s' I') hf
theorem bI.call' {s':Shared}{ch:List Addr} (I:bI X pins σ H s) (ho:s'.os=s.os) (u:Un (frs X.stack) ch H H' s.heap s'.heap) (hok:sW X.prog X.w H' s'.heap) (hg:AllBare s'.gens)
  (hch:∀ b∈ch,(b∈X.ex∨X.s₀.heap.objs.size≤b)∧b≠X.env.locals∧(∀ x c,X.env.cells.lookup x=some c→c≠b)∧∀ p∈X.pn++pins,p.1≠b):bI X pins σ H' s':=by
 obtain ⟨h',g',d',t',o'⟩:=s'
 have e:o'=s.os:=ho
 subst e
 exact I.call (g':=g') (t':=t') (d':=d') u hok hg hch
end
abbrev XK:=Value→Option Addr→Hp→Prop
abbrev St:=List (Option V)
abbrev VK:=V→Hp→Prop
abbrev TE:=St→Hp→VK→Prop
abbrev TT:=St→Hp→(Bool→Hp→Prop)→Prop
abbrev TA:=St→Hp→(List V→Hp→Prop)→Prop
structure aA6 where
 nx:St→Hp→Prop
 rt:VK
 bk:St→Hp→Prop:=fun _ _=>False
 ct:St→Hp→Prop:=fun _ _=>False
abbrev TS:=aA6→St→Hp→Prop
def EP (X:Cx) (pins:List (Addr×Obj)) (σ:St) (Q:VK) (u:Value) (s':Shared):Prop:=∃ v H',bI X pins σ H' s'∧dD v u∧Q v H'
def TP (X:Cx) (pins:List (Addr×Obj)) (σ:St) (Q:Bool→Hp→Prop) (b:Bool) (s':Shared):Prop:=∃ H',bI X pins σ H' s'∧Q b H'
def AP (X:Cx) (pins:List (Addr×Obj)) (σ:St) (Q:List V→Hp→Prop) (us:List Value) (s':Shared):Prop:=∃ vs H',bI X pins σ H' s'∧dR vs us∧Q vs H'
def SP (X:Cx) (pins:List (Addr×Obj)) (D:aA6) (f:Flow) (s':Shared):Prop:=
 match f with
 | .next=>∃ σ' H',bI X pins σ' H' s'∧D.nx σ' H'
 | .brk=>∃ σ' H',bI X pins σ' H' s'∧D.bk σ' H'
 | .cont=>∃ σ' H',bI X pins σ' H' s'∧D.ct σ' H'
 | .ret u=>∃ v σ' H',bI X pins σ' H' s'∧dD v u∧D.rt v H'
def PE (X:Cx) (e:Expr) (t:TE):Prop:=
 ∀ (pins:List (Addr×Obj)) (s:Shared) (σ:St) (H:Hp) (Q:VK),bI X pins σ H s→t σ H Q→wpAny (model X.prog X.w) X.A (eval e X.env) (EP X pins σ Q) X.xe s
def PT (X:Cx) (e:Expr) (t:TT):Prop:=
 ∀ (pins:List (Addr×Obj)) (s:Shared) (σ:St) (H:Hp) (Q:Bool→Hp→Prop),bI X pins σ H s→t σ H Q→wpAny (model X.prog X.w) X.A (isTrue e X.env (eval e X.env)) (TP X pins σ Q) X.xe s
def PW (X:Cx) (e:Expr) (t:TT):Prop:=
 ∀ (whole:Sem Value) (pins:List (Addr×Obj)) (s:Shared) (σ:St) (H:Hp) (Q:Bool→Hp→Prop),bI X pins σ H s→t σ H Q→wpAny (model X.prog X.w) X.A (isTrue e X.env whole) (TP X pins σ Q) X.xe s
theorem PW.pt {X:Cx}{e:Expr}{t:TT} (h:PW X e t):PT X e t:=h _
def PA (X:Cx) (es:List Expr) (t:TA):Prop:=
 ∀ (pos:Pos) (pins:List (Addr×Obj)) (s:Shared) (σ:St) (H:Hp) (Q:List V→Hp→Prop),bI X pins σ H s→t σ H Q→wpAny (model X.prog X.w) X.A (spliced (backTo pos (starEach es X.env))) (AP X pins σ Q) X.xe s
def PS (X:Cx) (st:Stmt) (t:TS):Prop:=
 ∀ (pins:List (Addr×Obj)) (s:Shared) (σ:St) (H:Hp) (D:aA6),bI X pins σ H s→t D σ H→wpAny (model X.prog X.w) X.A (exec st X.env) (SP X pins D) X.xe s
def PSs (X:Cx) (st:List Stmt) (t:TS):Prop:=
 ∀ (pins:List (Addr×Obj)) (s:Shared) (σ:St) (H:Hp) (D:aA6),bI X pins σ H s→t D σ H→wpAny (model X.prog X.w) X.A (execs st X.env) (SP X pins D) X.xe s
theorem iA {α:Type}{t:Sem α}{Q Q':α→Shared→Prop}{M:Model}{A:Around}{E:Value→Shared→Prop}{s:Shared} (h:wpAny M A t Q E s) (hQ:∀ a s,Q a s→Q' a s):wpAny M A t Q' E s:=wpAny_mono h hQ fun _ _ x=>x
section
variable {X:Cx}
def aAw (i:Nat):TE:=fun σ H Q=>∃ v,σ[i]? = some (some v)∧Q v H
def tC (v:V):TE:=fun _ H Q=>Q v H
theorem aME {i:Nat}{x:Str}{pos:Pos} (hN:X.N[i]? = some x) (hv:Vis X.env.scope x) (hd:(x == ("__debug__":Str))=false:=by decide) (hcd:(x == ("__classdict__":Str))=false:=by decide):PE X (.Name x pos) (aAw i):=by
 intro pins s σ H Q I h
 obtain ⟨v,e,h⟩:=h
 obtain ⟨m,hn,hl⟩:=I.loc
 obtain ⟨u,r,l⟩:=hl i x v hN e hv
 have fin:EP X pins σ Q u s:=⟨v,H,I,r,h⟩
 rcases l with ⟨hk,hm⟩ | ⟨hk,c,hc,hcell⟩
 ·exact wpAny_Name (wpAny_loadName_local I.ok.kind hk hn hm fin) hd
 ·rcases hk with hk | hk
  ·exact wpAny_Name (wpAny_loadName_cell I.ok.kind hk hc hcell fin) hd
  ·exact wpAny_Name (wpAny_loadName_free I.ok.kind hk hc hcell fin hcd) hd
theorem aMM {i j pos}:PE X (.Constant (.int i) j pos) (tC (.int i)):=fun _ _ _ H _ I h=>wpAny_Constant_int ⟨.int i,H,I.tok _,⟨_,rfl⟩,h⟩
theorem aN8 {b j pos}:PE X (.Constant (.bool b) j pos) (tC (.bl b)):=fun _ _ _ H _ I h=>Constant_bool ⟨.bl b,H,I,rfl,h⟩
theorem aMu {j pos}:PE X (.Constant .none j pos) (tC .non):=fun _ _ _ H _ I h=>Constant_none ⟨.non,H,I,rfl,h⟩
theorem aMe {x j pos}:PE X (.Constant (.str x) j pos) (tC (.str x)):=fun _ _ _ H _ I h=>Calls.Constant_str ⟨.str x,H,I.tok _,⟨_,rfl⟩,h⟩
def Gl (X:Cx) (x:Str):Prop:=X.env.kindOf x=some .globalImplicit
theorem zJ {E:Value→Shared→Prop}{pins:List (Addr×Obj)}{s:Shared}{σ:St}{H:Hp}{x:Str}{u:Value}{pos:Pos}{Q:Value→Shared→Prop} (I:bI X pins σ H s) (hg:Gl X x) (hm:X.mg x=some u) (h:Q u s)
  (hd:(x == ("__debug__":Str))=false:=by decide):wpAny (model X.prog X.w) X.A (eval (.Name x pos) X.env) Q E s:=
 Calls.Name_function_global I.ok.kind hg (Calls.loadGlobal_global (by rw [I.ok.glob];exact I.mod.glob.keeps I.bk) hm h) hd
theorem rB {E:Value→Shared→Prop}{pins:List (Addr×Obj)}{s:Shared}{σ:St}{H:Hp}{x:Str}{u:Value}{pos:Pos}{Q:Value→Shared→Prop} (I:bI X pins σ H s) (hg:Gl X x) (hm:X.mg x=none) (hv:bootBuiltins x=some u) (h:Q u s)
  (hn:x≠"__name__":=by decide) (hd:(x == ("__debug__":Str))=false:=by decide):wpAny (model X.prog X.w) X.A (eval (.Name x pos) X.env) Q E s:=by
 obtain ⟨mb,h1,h2⟩:=I.mod.blt
 exact Calls.Name_function_global I.ok.kind hg (Calls.loadGlobal_builtin (by rw [I.ok.glob];exact I.mod.glob.keeps I.bk) hm (by rw [I.ok.blt];exact h1.keeps I.bk) ((h2 x hn).trans hv) h) hd
theorem aGi {x:Str}{v:V}{u:Value}{pos:Pos} (hg:Gl X x) (hm:X.mg x=some u) (r:dD v u) (hd:(x == ("__debug__":Str))=false:=by decide):PE X (.Name x pos) (tC v):=
 fun _ _ _ H _ I h=>zJ I hg hm ⟨v,H,I,r,h⟩ hd
theorem aKh {x:Str}{v:V}{u:Value}{pos:Pos} (hg:Gl X x) (hm:X.mg x=none) (hv:bootBuiltins x=some u) (r:dD v u) (hn:x≠"__name__":=by decide) (hd:(x == ("__debug__":Str))=false:=by decide):PE X (.Name x pos) (tC v):=
 fun _ _ _ H _ I h=>rB I hg hm hv ⟨v,H,I,r,h⟩ hn hd
variable {a b:Expr}{ta tb:TE}{pos:Pos}
def PC (X:Cx) (op:CmpOp) (a b:Expr) (t:TE):Prop:=
 ∀ (pins:List (Addr×Obj)) (s:Shared) (σ:St) (H:Hp) (Q:VK),bI X pins σ H s→t σ H Q →
  wpAny (model X.prog X.w) X.A (eval a X.env) (fun v s₁=>wpAny (model X.prog X.w) X.A (eval b X.env) (fun u s₂=>wpAny (model X.prog X.w) X.A (compareOp op v u) (EP X pins σ Q) X.xe s₂) X.xe s₁) X.xe s
def tB (t:TE):TT:=fun σ H Q=>t σ H fun x H1=>∃ c,x = .bl c∧Q c H1
theorem aMI {op:CmpOp}{t:TE} (h:PC X op a b t) (h1:behindInMarks op b=false:=by first | exact nobehind _ (by decide) (by decide) | rfl):PT X (.Compare a [op] [b] pos) (tB t):=by
 intro pins s σ H Q I hw
 refine wpAny_isTrue_Compare1 (iA (h pins s σ H _ I hw) fun v s1 h1=>iA h1 fun u s2 h2=>iA h2 fun c s3 ⟨x,H1,I1,r1,q1⟩=>?_) h1
 obtain ⟨d,rfl,q⟩:=q1
 cases r1
 exact wpAny_truthy_bool ⟨H1,I1,q⟩
theorem aMq {e:Expr}{t:TE} (h:PE X e t) (he:∀ whole,isTrue e X.env whole=(do let v ← whole;standAt e.pos;holding [v] (truthy v)):=by intro _;rfl):PT X e (tB t):=by
 intro pins s σ H Q I hw
 refine isTrue_plain (iA (h pins s σ H _ I hw) fun v s1 ⟨x,H1,I1,r1,q1⟩=>?_) (he _)
 obtain ⟨d,rfl,q⟩:=q1
 cases r1
 exact wpAny_truthy_bool ⟨H1,I1,q⟩
variable {tA tB':TT}{rest:List Expr}
def aOo (t u:TT):TT:=fun σ H Q=>t σ H fun c H1=>if c=true then u σ H1 Q else Q false H1
def tOr (t u:TT):TT:=fun σ H Q=>t σ H fun c H1=>if c=true then Q true H1 else u σ H1 Q
def aOl (t:TT):TT:=fun σ H Q=>t σ H fun c H1=>Q (!c) H1
theorem aF7 (ha:PT X a tA):PW X (.BoolOp .And [a] pos) tA:=by
 intro wh pins s σ H Q I h
 refine isTrue_and (iA (ha pins s σ H Q I h) fun c s1 e=>?_)
 cases c with
 | true=>exact isTrue_and_nil e
 | false=>exact e
theorem aMO (ha:PT X a tA):PW X (.BoolOp .Or [a] pos) tA:=by
 intro wh pins s σ H Q I h
 refine isTrue_or (iA (ha pins s σ H Q I h) fun c s1 e=>?_)
 cases c with
 | false=>exact isTrue_or_nil e
 | true=>exact e
theorem aFw (ha:PT X a tA) (hb:PW X (.BoolOp .And (b::rest) pos) tB'):PW X (.BoolOp .And (a::b::rest) pos) (aOo tA tB'):=by
 intro wh pins s σ H Q I h
 refine isTrue_and (iA (ha pins s σ H _ I h) fun c s1 ⟨H1,I1,q1⟩=>?_)
 cases c with
 | true=>exact hb wh pins s1 σ H1 Q I1 q1
 | false=>exact ⟨H1,I1,q1⟩
theorem aNi (ha:PT X a tA) (hb:PW X (.BoolOp .Or (b::rest) pos) tB'):PW X (.BoolOp .Or (a::b::rest) pos) (tOr tA tB'):=by
 intro wh pins s σ H Q I h
 refine isTrue_or (iA (ha pins s σ H _ I h) fun c s1 ⟨H1,I1,q1⟩=>?_)
 cases c with
 | true=>exact ⟨H1,I1,q1⟩
 | false=>exact hb wh pins s1 σ H1 Q I1 q1
theorem aJn (ha:PT X a tA):PT X (.UnaryOp .Not a pos) (aOl tA):=by
 intro pins s σ H Q I h
 exact isTrue_not (ha pins s σ H (fun c H1=>Q (!c) H1) I h)
def tIf (t:TT) (ta tb:TE):TE:=fun σ H Q=>t σ H fun c H1=>if c=true then ta σ H1 Q else tb σ H1 Q
theorem aJj {c:Expr} (hc:PT X c tA) (ha:PE X a ta) (hb:PE X b tb):PE X (.IfExp c a b pos) (tIf tA ta tb):=by
 intro pins s σ H Q I h
 refine wpAny_IfExp (iA (hc pins s σ H _ I h) fun d s1 ⟨H1,I1,q1⟩=>?_)
 cases d with
 | true=>exact ha pins s1 σ H1 Q I1 q1
 | false=>exact hb pins s1 σ H1 Q I1 q1
end
def lI (K:PySem.W.Frag) (H:Hp) (a:Addr) (xs:List V):Prop:=
 Rd H a (.lst xs) ∨
  ∃ (o:Obj) (its:Array Value) (n:Nat),K.lookup a=some o∧o.cls = .type "list"∧o.dict=none∧o.data = .seq its n∧its.size≤sizeLine∧dR xs its.toList
def kS (K:PySem.W.Frag) (H:Hp) (a:Addr) (xs:List V):Prop:=
 Rd H a (.tup xs) ∨
  ∃ (o:Obj) (its:Array Value) (n:Nat),K.lookup a=some o∧o.cls = .type "tuple"∧o.data = .seq its n∧its.size≤sizeLine∧dR xs its.toList
def aOy:Value→Option V
 | .none=>some .non
 | .bool b=>some (.bl b)
 | .int i _=>some (.int i)
 | .str x _=>some (.str x)
 | .bytes b _=>some (.byt b)
 | .float b _=>some (.flt b)
 | .ref a=>some (.ref a)
 | .type n=>some (.ty n)
 | _=>none
theorem dD.abs {x:V}{u:Value} (r:dD x u):aOy u=some x:=by
 cases x with
 | non=>cases r;rfl
 | bl _=>cases r;rfl
 | int _=>obtain ⟨t,rfl⟩:=r;rfl
 | str _=>obtain ⟨t,rfl⟩:=r;rfl
 | byt _=>obtain ⟨t,rfl⟩:=r;rfl
 | flt _=>obtain ⟨t,rfl⟩:=r;rfl
 | ref _=>cases r;rfl
 | ty _=>cases r;rfl
theorem dD.inj {x y:V}{u:Value} (r:dD x u) (q:dD y u):x=y:=Option.some.inj (r.abs.symm.trans q.abs)
theorem dR.inj:∀ {xs ys:List V}{us:List Value},dR xs us→dR ys us→xs=ys
 | _,_,_,.nil,.nil=>rfl
 | _,_,_,.cons r t,.cons r' t'=>by rw [r.inj r',dR.inj t t']
section
variable {X:Cx}{pins:List (Addr×Obj)}{σ:St}{H:Hp}{s:Shared}{a:Addr}{xs ys:List V}
theorem lI.of {K:PySem.W.Frag} (h:H a=some (.lst xs)):lI K H a xs:=.inl (.inl h)
theorem kS.of {K:PySem.W.Frag} (h:H a=some (.tup xs)):kS K H a xs:=.inl (.inl h)
theorem bI.list (I:bI X pins σ H s) (h:lI X.K H a xs):∃ its:List Value,dR xs its∧PlainL s.heap a its.toArray∧xs.length≤sizeLine:=by
 rcases h with h | ⟨o,its,n,hk,hc,hd,hs,hz,r⟩
 ·obtain ⟨z,its,n,r,e⟩:=h.ok I.hok
  exact ⟨its,r,⟨_,n,e,rfl,rfl,rfl⟩,z⟩
 ·refine ⟨its.toList,r,⟨o,n,I.kIn a o hk,hc,hd,by simpa using hs⟩,?_⟩
  have e:=r.length
  simp only [Array.length_toList] at e
  omega
theorem bI.tuple (I:bI X pins σ H s) (h:kS X.K H a xs):∃ its:List Value,dR xs its∧IsTup s.heap a its.toArray∧xs.length≤sizeLine:=by
 rcases h with h | ⟨o,its,n,hk,hc,hs,hz,r⟩
 ·obtain ⟨z,its,r,p⟩:=h.ok I.hok
  exact ⟨its,r,p,z⟩
 ·refine ⟨its.toList,r,⟨o,I.kIn a o hk,hc,n,by simpa using hs⟩,?_⟩
  have e:=r.length
  simp only [Array.length_toList] at e
  omega
theorem bI.list_inj (I:bI X pins σ H s) (h:lI X.K H a xs) (h':lI X.K H a ys):xs=ys:=by
 obtain ⟨its,r,⟨o,n,e,_,_,d⟩,_⟩:=I.list h
 obtain ⟨its',r',⟨o',n',e',_,_,d'⟩,_⟩:=I.list h'
 rw [e] at e';cases e'
 rw [d] at d'
 injection d' with d1 _
 have:its=its':=by simpa using congrArg Array.toList d1
 subst this
 exact r.inj r'
theorem bI.tuple_inj (I:bI X pins σ H s) (h:kS X.K H a xs) (h':kS X.K H a ys):xs=ys:=by
 obtain ⟨its,r,⟨o,e,_,n,d⟩,_⟩:=I.tuple h
 obtain ⟨its',r',⟨o',e',_,n',d'⟩,_⟩:=I.tuple h'
 rw [e] at e';cases e'
 rw [d] at d'
 injection d' with d1 _
 have:its=its':=by simpa using congrArg Array.toList d1
 subst this
 exact r.inj r'
end
abbrev Cx.wish (X:Cx) (E:Value→Shared→Prop):Cx:={ X with xe:=E }
abbrev Cx.nox (X:Cx):Cx:=X.wish fun _ _=>False
theorem Cx.Ok.wish {X:Cx} (ok:X.Ok) (E:Value→Shared→Prop):(X.wish E).Ok:=
 ⟨ok.mod,ok.kind,ok.glob,ok.blt,ok.above,ok.inj,ok.has,ok.cab,ok.hd,ok.frames,ok.stk,ok.exf,ok.bs,ok.bsz,ok.noex,ok.exfs,ok.funs,ok.frf⟩
theorem Cx.Ok.unwish {X:Cx}{E:Value→Shared→Prop} (ok:(X.wish E).Ok):X.Ok:=
 ⟨ok.mod,ok.kind,ok.glob,ok.blt,ok.above,ok.inj,ok.has,ok.cab,ok.hd,ok.frames,ok.stk,ok.exf,ok.bs,ok.bsz,ok.noex,ok.exfs,ok.funs,ok.frf⟩
section
variable {X:Cx}{pins:List (Addr×Obj)}{σ:St}{H:Hp}{s:Shared}{E:Value→Shared→Prop}
theorem bI.wish (I:bI X pins σ H s) (E:Value→Shared→Prop):bI (X.wish E) pins σ H s:=⟨I.ok.wish E,I.os,I.bare,I.base,I.loc,I.cell,I.free,I.freeC,I.pin,I.hok,I.len⟩
theorem bI.unwish (I:bI (X.wish E) pins σ H s):bI X pins σ H s:=⟨I.ok.unwish,I.os,I.bare,I.base,I.loc,I.cell,I.free,I.freeC,I.pin,I.hok,I.len⟩
theorem SP.unwish {D:aA6}{f:Flow}{s':Shared} (h:SP (X.wish E) pins D f s'):SP X pins D f s':=by
 cases f with
 | next=>obtain ⟨σ',H',I,q⟩:=h;exact ⟨σ',H',I.unwish,q⟩
 | brk=>obtain ⟨σ',H',I,q⟩:=h;exact ⟨σ',H',I.unwish,q⟩
 | cont=>obtain ⟨σ',H',I,q⟩:=h;exact ⟨σ',H',I.unwish,q⟩
 | ret u=>obtain ⟨v,σ',H',I,r,q⟩:=h;exact ⟨v,σ',H',I.unwish,r,q⟩
theorem PSs.nox {st:List Stmt}{t:TS} (h:PSs X.nox st t):PSs X st t:=fun pins s σ H D I hw=>
 wpAny_mono (h pins s σ H D (I.wish _) hw) (fun _ _ q=>q.unwish) fun _ _ z=>False.elim z
end
section
variable {X:Cx}{st:Stmt}{rest:List Stmt}{t u:TS}{e:Expr}{te:TE}{pos:Pos}
def aNF:TS:=fun D σ H=>D.nx σ H
def aOv (t u:TS):TS:=fun D σ H=>t { D with nx:=u D } σ H
theorem aGh:PSs X [] aNF:=fun _ _ σ H _ I h=>wpAny_execs_nil ⟨σ,H,I,h⟩
theorem aDu (h1:PS X st t) (h2:PSs X rest u):PSs X (st::rest) (aOv t u):=by
 intro pins s σ H D I h
 refine wpAny_execs_cons (iA (h1 pins s σ H { D with nx:=u D } I h) fun f s1 q=>?_)
 cases f with
 | next=>
  obtain ⟨σ',H',I',q⟩:=q
  exact h2 pins s1 σ' H' D I' q
 | ret v=>exact q
 | brk=>exact q
 | cont=>exact q
theorem aCt (h1:PS X st t):PSs X [st] t:=by
 intro pins s σ H D I h
 refine wpAny_execs_cons (iA (h1 pins s σ H D I h) fun f s1 q=>?_)
 cases f with
 | next=>exact wpAny_execs_nil q
 | ret v=>exact q
 | brk=>exact q
 | cont=>exact q
theorem bI.quiet {pins:List (Addr×Obj)}{σ:St}{H:Hp}{s:Shared} (I:bI X pins σ H s):interactive X.env=false:=by simp [interactive,I.ok.kind]
def aJ7 (te:TE):TS:=fun D σ H=>te σ H fun _ H1=>D.nx σ H1
theorem nR (he:PE X e te) (hs:swapsWith e none pos.line X.env=pure false:=by rfl):PS X (.Expr e pos) (aJ7 te):=by
 intro pins s σ H D I h
 exact wpAny_Expr_any (iA (he pins s σ H _ I h) fun v s1 ⟨x,H1,I1,r1,q1⟩=>⟨σ,H1,I1,q1⟩) I.quiet hs
def aOA (te:TE):TS:=fun D σ H=>te σ H D.rt
theorem aIr (he:PE X e te):PS X (.Return (some e) pos) (aOA te):=by
 intro pins s σ H D I h
 exact wpAny_Return_some (iA (he pins s σ H _ I h) fun v s1 ⟨x,H1,I1,r1,q1⟩=>⟨x,σ,H1,I1,r1,q1⟩)
def aOM (c:TT) (t u:TS):TS:=fun D σ H=>c σ H fun b H1=>if b=true then t D σ H1 else u D σ H1
theorem aIO {c:Expr}{a b:List Stmt}{tc:TT} (hc:PT X c tc) (ha:PSs X a t) (hb:PSs X b u):PS X (.If c a b pos) (aOM tc t u):=by
 intro pins s σ H D I h
 refine wpAny_If (iA (hc pins s σ H _ I h) fun d s1 ⟨H1,I1,q1⟩=>?_)
 cases d with
 | true=>exact ha pins s1 σ H1 D I1 q1
 | false=>exact hb pins s1 σ H1 D I1 q1
end
abbrev TG:=V→St→Hp→(St→Hp→Prop)→Prop
abbrev TGs:=List V→St→Hp→(St→Hp→Prop)→Prop
def PG (X:Cx) (target:Expr) (t:TG):Prop:=
 ∀ (pins:List (Addr×Obj)) (s:Shared) (σ:St) (H:Hp) (v:V) (u:Value) (Q:St→Hp→Prop),bI X pins σ H s→dD v u→t v σ H Q →
  wpAny (model X.prog X.w) X.A (assign target X.env u) (fun _ s'=>∃ σ' H',bI X pins σ' H' s'∧Q σ' H') X.xe s
def PGs (X:Cx) (ts:List Expr) (t:TGs):Prop:=
 ∀ (pins:List (Addr×Obj)) (s:Shared) (σ:St) (H:Hp) (vs:List V) (us:List Value) (Q:St→Hp→Prop),bI X pins σ H s→dR vs us→t vs σ H Q →
  wpAny (model X.prog X.w) X.A (assignInOrder ((assignEach ts X.env).map (·.2)) us) (fun _ s'=>∃ σ' H',bI X pins σ' H' s'∧Q σ' H') X.xe s
section
variable {X:Cx}{pos:Pos}
def yH (i:Nat):TG:=fun v σ H Q=>Q (σ.set i (some v)) H
theorem aH {i:Nat}{x:Str} (hN:X.N.Nodup) (hi:X.N[i]? = some x) (hx:Loc X.env.scope x) (hf:X.fn x=true∨X.env.scope.names.lookup x=some .local:=by first | exact .inl rfl | exact .inr rfl | assumption):PG X (.Name x pos) (yH i):=by
 intro pins s σ H v u Q I r h
 exact wpAny_assign_Name (rV I hN hi hx r (fun s' I'=>⟨_,H,I',h⟩) hf)
def aNy:TGs:=fun vs σ H Q=>vs=[]∧Q σ H
def aIq (t:TG) (u:TGs):TGs:=fun vs σ H Q=>∃ v r,vs=v::r∧t v σ H fun σ' H'=>u r σ' H' Q
theorem k7:PGs X [] aNy:=by
 intro pins s σ H vs us Q I r h
 obtain ⟨e,h⟩:=h
 subst e
 cases r
 exact assignInOrder_nil ⟨σ,H,I,h⟩
theorem dB {e:Expr}{es:List Expr}{t:TG}{u:TGs} (h1:PG X e t) (h2:PGs X es u)
  (hs:(assignEach (e::es) X.env).map (·.2)=assign e X.env::(assignEach es X.env).map (·.2):=by rfl):PGs X (e::es) (aIq t u):=by
 intro pins s σ H vs us Q I r h
 obtain ⟨v,vr,e1,h⟩:=h
 subst e1
 cases r with
 | cons r rr=>
  rw [hs]
  refine assignInOrder_cons (iA (h1 pins s σ H _ _ _ I r h) fun _ s1 ⟨σ1,H1,I1,q1⟩=>?_)
  exact h2 pins s1 σ1 H1 _ _ Q I1 rr q1
def aNK (K:PySem.W.Frag) (n:Nat) (t:TGs):TG:=fun v σ H Q=>∃ a xs,v = .ref a∧kS K H a xs∧xs.length=n∧t xs σ H Q
theorem nY {es:List Expr}{k:Nat}{t:TGs}{n:Nat} (hc:X.calm=true) (h:PGs X es t)
  (hn:(assignEach es X.env).length=n:=by rfl) (hst:(assignEach es X.env).findIdx? (·.1)=none:=by rfl):PG X (.Tuple es k pos) (aNK X.K n t):=by
 intro pins s σ H v u Q I r hw
 obtain ⟨a,xs,e1,hq,hl,hw⟩:=hw
 subst e1
 cases r
 obtain ⟨its,rv,ht,hz⟩:=I.tuple hq
 refine assign_Tuple_tuple (I.ok.hd hc) ht (by simp [hn,← hl,rv.length]) hst fun h' hx=>?_
 have I1:bI X pins σ H { s with heap:=h' }:=I.kept (t':=s.toks) fun b o e=>hx b o (Nat.ne_of_lt (Heap.lt_size e)) e
 exact h pins _ σ H xs _ Q I1 (by simpa using rv) hw
def aFp (te:TE) (g:TG):TS:=fun D σ H=>te σ H fun x H1=>g x σ H1 D.nx
theorem aV {tg e:Expr}{te:TE}{g:TG} (he:PE X e te) (hg:PG X tg g) (hs:swapsWithSole [tg] e pos.line X.env=pure false:=by rfl) (hw:swappedStores [tg] e X.env=pure none:=by rfl)
  (h1:(assignEach [tg] X.env).map (·.2)=[assign tg X.env]:=by rfl):PS X (.Assign [tg] e pos) (aFp te g):=by
 intro pins s σ H D I h
 refine wpAny_Assign_stores (iA (he pins s σ H _ I h) fun v s1 ⟨x,H1,I1,r1,q1⟩=>?_) hs hw
 rw [h1]
 exact iA (hg pins s1 σ H1 x v _ I1 r1 q1) fun _ s2 q=>q
theorem n8 {i:Nat}{x:Str}{e:Expr}{te:TE}{pos':Pos} (hN:X.N.Nodup) (hi:X.N[i]? = some x) (hx:Loc X.env.scope x) (he:PE X e te) (hs:swapsWith e (some (.Name x pos')) pos.line X.env=pure false:=by rfl) (hf:X.fn x=true∨X.env.scope.names.lookup x=some .local:=by first | exact .inl rfl | exact .inr rfl | assumption) :
  PS X (.Assign [.Name x pos'] e pos) (aFp te (yH i)):=by
 intro pins s σ H D I h
 refine wpAny_Assign_Name (iA (he pins s σ H _ I h) fun v s1 ⟨y,H1,I1,r1,q1⟩=>?_) hs
 exact rV I1 hN hi hx r1 (fun s2 I2=>⟨_,H1,I2,q1⟩) hf
def aNq (i j:Nat) (ta:TA):TS:=fun D σ H=>ta σ H fun vs H1=>∃ v w,vs=[v,w]∧D.nx ((σ.set i (some v)).set j (some w)) H1
theorem aMG {i j:Nat}{x y:Str}{a b:Expr}{ta:TA}{px py pt:Pos}{kt k2 pt2} (hc:X.calm=true) (hN:X.N.Nodup) (hi:X.N[i]? = some x) (hj:X.N[j]? = some y) (hij:i≠j)
  (hx:X.env.scope.names.lookup x=some .local) (hy:X.env.scope.names.lookup y=some .local) (ha:PA X [a,b] ta)
  (hw:swappedStores [.Tuple [.Name x px,.Name y py] kt pt] (.Tuple [a,b] k2 pt2) X.env=pure (some [x,y]))
  (hs:swapsWithSole [.Tuple [.Name x px,.Name y py] kt pt] (.Tuple [a,b] k2 pt2) pos.line X.env=pure false:=by rfl) :
  PS X (.Assign [.Tuple [.Name x px,.Name y py] kt pt] (.Tuple [a,b] k2 pt2) pos) (aNq i j ta):=by
 intro pins s σ H D I h
 rw [exec_Assign_arm]
 refine wpAny_bind (wpAny_standAt ?_)
 rw [hs]
 refine wpAny_bind (wpAny_pure ?_)
 rw [if_neg (by decide)]
 refine wpAny_bind (Tuple_ (iA (ha _ pins s σ H _ I h) fun us s1 ⟨vs,H1,I1,r1,q1⟩=>?_))
 obtain ⟨v,w,e1,q1⟩:=q1
 subst e1
 obtain ⟨u1,u2,rfl,rv,rw'⟩:∃ u1 u2,us=[u1,u2]∧dD v u1∧dD w u2:=by
  cases r1 with
  | cons p q=>
   cases q with
   | cons p' q'=>
    cases q'
    exact ⟨_,_,rfl,p,p'⟩
 refine wpAny_newObj_type ?_ (by show 2≤sizeLine;decide)
 have I2:bI X pins σ H1 { s1 with heap:=s1.heap.push { cls:=.type "tuple",data:=.seq [u1,u2].toArray } }:=I1.kept (t':=s1.toks) fun b o e=>Heap.get?_push_of_some _ e
 rw [hw]
 refine wpAny_bind (wpAny_pure ?_)
 show wpAny (model X.prog X.w) X.A (do rule "assign.swapped-stores";let items ← unpackItems (.ref s1.heap.objs.size) 2 none;assignInOrder [fun v=>bindName X.env y v,fun v=>bindName X.env x v] items.reverse;pure Flow.next) _ _ _
 refine wpAny_bind (wpAny_rule (wpAny_bind (unpackItems_tuple (items:=#[u1,u2]) (I.ok.hd hc) (IsTup.new s1.heap _) fun h' hx'=>?_)))
 have I3:=I2.kept (h':=h') (t':=s1.toks) fun b o e=>hx' b o (Nat.ne_of_lt (Heap.lt_size e)) e
 show wpAny _ _ (assignInOrder [fun v=>bindName X.env y v,fun v=>bindName X.env x v] [u2,u1] >>= fun _=>pure Flow.next) _ _ _
 refine wpAny_bind (assignInOrder_cons (wpAny_bindName (rV I3 hN hj (.inl hy) rw' (fun s2 I4=>?_) (.inr hy))))
 refine assignInOrder_cons (wpAny_bindName (rV I4 hN hi (.inl hx) rv (fun s3 I5=>assignInOrder_nil (wpAny_pure ?_)) (.inr hx)))
 rw [List.set_comm _ _ (Ne.symm hij)] at I5
 exact ⟨_,H1,I5,q1⟩
end
section
variable {X:Cx}{pos:Pos}
def aLL (c:TT) (tb:TS):TS:=fun D σ H=>∃ W:Nat→St→Hp→Prop,(∃ m,W m σ H)∧∀ m σ H,W m σ H →
 c σ H fun b H1=>if b=true then ∃ N:St→Hp→Prop,(∀ σ' H',N σ' H'→∃ m',m'<m∧W m' σ' H')∧tb { D with nx:=N,ct:=N,bk:=D.nx } σ H1 else D.nx σ H1
theorem aIH {c:Expr}{body:List Stmt}{tc:TT}{tb:TS} (hp:PassesOwn (model X.prog X.w) X.A X.env X.xe) (hc:PT X c tc) (hb:PSs X body tb):PS X (.While c body [] pos) (aLL tc tb):=by
 intro pins s σ H D I h
 obtain ⟨W,⟨m0,w0⟩,turn⟩:=h
 refine wpAny_While (codeAny_whileLoop (fun n s'=>∃ σ' H',bI X pins σ' H' s'∧W n σ' H') ?_ m0 ⟨σ,H,I,w0⟩)
 rintro n s1 ⟨σ1,H1,I1,w1⟩
 refine wpAny_passesOwn hp (iA (hc pins s1 σ1 H1 _ I1 (turn n σ1 H1 w1)) fun b s2 ⟨H2,I2,q2⟩=>?_)
 cases b with
 | true=>
  obtain ⟨N,hN,q2⟩:=q2
  rw [if_pos rfl]
  refine wpAny_passesOwn hp (iA (hb pins s2 σ1 H2 _ I2 q2) fun f s3 q3=>?_)
  cases f with
  | next=>
   obtain ⟨σ3,H3,I3,n3⟩:=q3
   obtain ⟨m',hm,w3⟩:=hN σ3 H3 n3
   exact ⟨m',hm,σ3,H3,I3,w3⟩
  | cont=>
   obtain ⟨σ3,H3,I3,n3⟩:=q3
   obtain ⟨m',hm,w3⟩:=hN σ3 H3 n3
   exact ⟨m',hm,σ3,H3,I3,w3⟩
  | brk=>exact q3
  | ret v=>exact q3
 | false=>
  rw [if_neg Bool.false_ne_true]
  exact wpAny_execs_nil ⟨σ1,H2,I2,q2⟩
end
structure It where
 go:Nat→Hp→Prop
 yld:Nat→Hp→V→Hp→Prop
 stop:Nat→Hp→Prop
def oQ (X:Cx) (pins:List (Addr×Obj)) (H:Hp) (b:Addr):Prop:=
 H b=none∧b≠X.env.locals∧b∉X.fs∧(b∈X.ex∨X.s₀.heap.objs.size≤b)∧(∀ x c,X.env.cells.lookup x=some c→c≠b)∧∀ p∈X.pn++pins,p.1≠b
theorem bI.fpOk {X:Cx}{pins:List (Addr×Obj)}{σ:St}{H H':Hp}{s:Shared}{b:Addr} (I:bI X pins σ H s) (hb:s.heap.objs.size≤b) (hn:H' b=none):oQ X pins H' b:=by
 refine ⟨hn,Nat.ne_of_gt (Nat.lt_of_lt_of_le I.lt hb),I.nofs hb,.inr (Nat.le_trans I.sz hb),fun x c e z=>?_,fun p hp z=>?_⟩
 ·obtain ⟨v,q⟩:=I.cell x c e
  exact absurd (Nat.lt_of_lt_of_le q.lt (by rw [z];exact hb)) (Nat.lt_irrefl _)
 ·exact absurd (Nat.lt_of_lt_of_le (Heap.lt_size (I.pin p hp).1) (by rw [z];exact hb)) (Nat.lt_irrefl _)
structure aCM (P:Program) (w:World) (K:PySem.W.Frag) (tg:Expr) (J:It) (fp:List Addr) (it:Addr) (tn:Nat→Heap→Prop):Prop where
 mem:it∈fp
 obj:∀ i h,tn i h→∀ b∈fp,∃ o,h.get? b=some o∧∀ v,o.data≠.cell v
 keep:∀ i h h',tn i h→(∀ b∈fp,∀ o,h.get? b=some o→h'.get? b=some o)→tn i h'
 item:∀ (X:Cx),X.prog=P→X.w=w→X.K=K→X.calm=true→∀ (i:Nat) (pins:List (Addr×Obj)) (s:Shared) (σ:St) (H:Hp) (E:Value→Shared→Prop),bI X pins σ H s→(∀ b∈fp,oQ X pins H b)→tn i s.heap→J.go i H →
  wpAny (model P w) X.A (pyNext (.ref it)) (fun r s1=>∃ u,r=some u ∧
   wpAny (model P w) X.A (letOwnedTupleGo tg (.ref it) u) (fun _ s2=>∃ x H',bI X pins σ H' s2∧dD x u∧J.yld i H x H'∧tn (i+1) s2.heap∧∀ b∈fp,H' b=none) E s1) E s
 done:∀ (X:Cx),X.prog=P→X.w=w→X.K=K→X.calm=true→∀ (i:Nat) (pins:List (Addr×Obj)) (s:Shared) (σ:St) (H:Hp) (E:Value→Shared→Prop),bI X pins σ H s→(∀ b∈fp,oQ X pins H b)→tn i s.heap→J.stop i H →
  wpAny (model P w) X.A (pyNext (.ref it)) (fun r s1=>r=none∧bI X pins σ H s1) E s
 self:∀ (A:Around) (i:Nat) (s:Shared) (Q:Value→Shared→Prop) (E:Value→Shared→Prop),tn i s.heap→Q (.ref it) s→wpAny (model P w) A (pyIter (.ref it)) Q E s
abbrev TI:=St→Hp→(It→Hp→Prop)→Prop
def PIE (X:Cx) (pins:List (Addr×Obj)) (σ:St) (tg:Expr) (R:It→Hp→Prop) (itv:Value) (s2:Shared):Prop:=
 ∃ (it:Addr) (fp:List Addr) (tn:Nat→Heap→Prop) (J:It) (H':Hp),itv = .ref it∧bI X pins σ H' s2∧aCM X.prog X.w X.K tg J fp it tn∧tn 0 s2.heap∧(∀ b∈fp,oQ X pins H' b)∧R J H'
def PI (X:Cx) (tg iter:Expr) (wi:TI):Prop:=
 ∀ (pins:List (Addr×Obj)) (s:Shared) (σ:St) (H:Hp) (R:It→Hp→Prop),bI X pins σ H s→wi σ H R →
  wpAny (model X.prog X.w) X.A (eval iter X.env) (fun v s1=>wpAny (model X.prog X.w) X.A (pyIter v) (PIE X pins σ tg R) X.xe s1) X.xe s
theorem aD0 {M:Model}{A:Around}{E:Value→Shared→Prop}{s:Shared}{tg:Expr}{it:Addr}{u:Value}{o:Obj}{n:String}{vs:Array Value}{Q:Unit→Shared→Prop} (ho:s.heap.get? it=some o) (hc:o.cls = .type n) (hd:o.data = .fields vs)
  (hn:["enumerate","zip","dict_itemiterator","dict_reverseitemiterator","odict_iterator","itertools.zip_longest","itertools.pairwise"].contains n=false) (hQ:Q () s):wpAny M A (letOwnedTupleGo tg (.ref it) u) Q E s:=by
 unfold letOwnedTupleGo
 cases tg <;> first
  | exact wpAny_pure hQ
  | (cases u <;> first
    | exact wpAny_pure hQ
    | (refine wpAny_bind (wpAny_load ho ?_);rw [hc,hd];show wpAny M A (if (["enumerate","zip","dict_itemiterator","dict_reverseitemiterator","odict_iterator","itertools.zip_longest","itertools.pairwise"].contains n && vs[0]? == some (rawInt _))=true then _ else _) Q E s;rw [if_neg (by intro h;rw [hn,Bool.false_and] at h;cases h)];exact wpAny_pure hQ))
def Itl (K:PySem.W.Frag) (a:Addr):It:=
 ⟨fun i H=>∃ xs x,lI K H a xs∧xs[i]? = some x,fun i H x H'=>H'=H∧∀ xs,lI K H a xs→xs[i]? = some x,fun i H=>∃ xs,lI K H a xs∧xs.length≤i⟩
def Itt (K:PySem.W.Frag) (a:Addr):It:=
 ⟨fun i H=>∃ xs x,kS K H a xs∧xs[i]? = some x,fun i H x H'=>H'=H∧∀ xs,kS K H a xs→xs[i]? = some x,fun i H=>∃ xs,kS K H a xs∧xs.length≤i⟩
def Itr (lo:Int) (n:Nat):It:=⟨fun i _=>i<n,fun i H x H'=>H'=H∧x = .int (lo+i),fun i _=>n≤i⟩
theorem aBW {P:Program}{w:World}{K:PySem.W.Frag}{tg:Expr} (a it:Addr):aCM P w K tg (Itl K a) [it] it (fun i h=>h.IsListIter it a i) where
 mem:=by simp
 obj:=fun i h st b hb=>by
  have e:b=it:=by simpa using hb
  subst e
  obtain ⟨o,e,c,d⟩:=st
  exact ⟨o,e,fun v z=>by rw [d] at z;cases z⟩
 keep:=fun i h h' st k=>st.at fun o e=>k it (by simp) o e
 item:=by
  intro X hP hw hK hc i pins s σ H E I hf st hg
  subst hP hw hK
  obtain ⟨xs,x,hq,hx⟩:=hg
  obtain ⟨its,rv,p,hz⟩:=I.list hq
  obtain ⟨u,hu,ru⟩:=rv.get hx
  obtain ⟨f0,f1,f2,f3,f4,f5⟩:=hf it (by simp)
  refine wpAny_pyNext_list_item st p.isList (x:=u) (by simpa using hu) fun h' st' sb=>?_
  have I1:bI X pins σ H { s with heap:=h' }:=I.turned (t':=s.toks) (fun b o hb e=>(sb.2 b hb).trans e) f0 f1 f3 f4 f5
  obtain ⟨o,e,c,d⟩:=id st'
  exact ⟨u,rfl,aD0 (s:={ s with heap:=h' }) e c d (by decide) ⟨x,H,I1,ru,⟨rfl,fun ys hy=>by rw [I.list_inj hy hq];exact hx⟩,st',fun b hb=>(hf b hb).1⟩⟩
 done:=by
  intro X hP hw hK hc i pins s σ H E I hf st hg
  subst hP hw hK
  obtain ⟨xs,hq,hx⟩:=hg
  obtain ⟨its,rv,p,hz⟩:=I.list hq
  obtain ⟨f0,f1,f2,f3,f4,f5⟩:=hf it (by simp)
  have hl:=rv.length
  exact wpAny_pyNext_list_end (I.ok.hd hc) st p.isList (by simp;omega) fun h' eb=>⟨rfl,I.turned (t':=s.toks) (fun b o hb e=>eb b o hb e) f0 f1 f3 f4 f5⟩
 self:=fun _ _ _ _ _ st h=>wpAny_pyIter_listiter st h
theorem aAm {P:Program}{w:World}{K:PySem.W.Frag}{tg:Expr} (a it:Addr):aCM P w K tg (Itt K a) [it] it (fun i h=>h.IsTupleIter it a i) where
 mem:=by simp
 obj:=fun i h st b hb=>by
  have e:b=it:=by simpa using hb
  subst e
  obtain ⟨o,e,c,d⟩:=st
  exact ⟨o,e,fun v z=>by rw [d] at z;cases z⟩
 keep:=fun i h h' st k=>st.at fun o e=>k it (by simp) o e
 item:=by
  intro X hP hw hK hc i pins s σ H E I hf st hg
  subst hP hw hK
  obtain ⟨xs,x,hq,hx⟩:=hg
  obtain ⟨its,rv,p,hz⟩:=I.tuple hq
  obtain ⟨u,hu,ru⟩:=rv.get hx
  obtain ⟨f0,f1,f2,f3,f4,f5⟩:=hf it (by simp)
  refine wpAny_pyNext_tuple_item st (show s.heap.IsTuple a its.toArray from p) (x:=u) (by simpa using hu) fun h' st' sb=>?_
  have I1:bI X pins σ H { s with heap:=h' }:=I.turned (t':=s.toks) (fun b o hb e=>(sb.2 b hb).trans e) f0 f1 f3 f4 f5
  obtain ⟨o,e,c,d⟩:=id st'
  exact ⟨u,rfl,aD0 (s:={ s with heap:=h' }) e c d (by decide) ⟨x,H,I1,ru,⟨rfl,fun ys hy=>by rw [I.tuple_inj hy hq];exact hx⟩,st',fun b hb=>(hf b hb).1⟩⟩
 done:=by
  intro X hP hw hK hc i pins s σ H E I hf st hg
  subst hP hw hK
  obtain ⟨xs,hq,hx⟩:=hg
  obtain ⟨its,rv,p,hz⟩:=I.tuple hq
  obtain ⟨f0,f1,f2,f3,f4,f5⟩:=hf it (by simp)
  have hl:=rv.length
  exact wpAny_pyNext_tuple_end (I.ok.hd hc) st (show s.heap.IsTuple a its.toArray from p) (by simp;omega) fun h' eb=>⟨rfl,I.turned (t':=s.toks) (fun b o hb e=>eb b o hb e) f0 f1 f3 f4 f5⟩
 self:=fun _ _ _ _ _ st h=>wpAny_pyIter_tupleiter st h
theorem aF2 {P:Program}{w:World}{K:PySem.W.Frag}{tg:Expr} (it:Addr) (lo:Int) (n:Nat):aCM P w K tg (Itr lo n) [it] it (fun i h=>IsRangeIter h it (lo+(i:Nat) * 1) ((n:Int)-(i:Nat)) 1) where
 mem:=by simp
 obj:=fun i h st b hb=>by
  have e:b=it:=by simpa using hb
  subst e
  exact ⟨_,st,fun v z=>by
   have z':Data.fields _=Data.cell v:=z
   cases z'⟩
 keep:=fun i h h' st k=>k it (by simp) _ st
 item:=by
  intro X hP hw hK hc i pins s σ H E I hf st hg
  subst hP hw hK
  obtain ⟨f0,f1,f2,f3,f4,f5⟩:=hf it (by simp)
  have W:=Walks.range (prog:=X.prog) (w:=X.w) (I.ok.hd hc) it lo 1 n
  refine W.item i s _ _ hg st fun v h' tk hv st' kk=>?_
  obtain ⟨t,rfl⟩:=hv
  have I1:bI X pins σ H { s with heap:=h',toks:=tk }:=I.turned (fun b o hb e=>kk b o (by simpa using hb) e) f0 f1 f3 f4 f5
  refine ⟨_,rfl,aD0 (s:={ s with heap:=h',toks:=tk }) (n:="range_iterator") st' rfl rfl (by decide) ⟨.int (lo+i),H,I1,⟨t,?_⟩,⟨rfl,rfl⟩,st',fun b hb=>(hf b hb).1⟩⟩
  rw [Int.mul_one]
 done:=by
  intro X hP hw hK hc i pins s σ H E I hf st hg
  subst hP hw hK
  obtain ⟨f0,f1,f2,f3,f4,f5⟩:=hf it (by simp)
  exact wpAny_pyNext_range_end (I.ok.hd hc) st (by have:n≤i:=hg;omega) fun h' eb=>⟨rfl,I.turned (t':=s.toks) (fun b o hb e=>eb b o hb e) f0 f1 f3 f4 f5⟩
 self:=fun _ _ _ _ _ st h=>wpAny_pyIter_rangeiter st h
section
variable {X:Cx}{tg:Expr}
def aNO (K:PySem.W.Frag) (tl:TE):TI:=fun σ H R=>tl σ H fun x H1=>∃ a,x = .ref a∧(∃ xs,lI K H1 a xs)∧R (Itl K a) H1
def aOt (K:PySem.W.Frag) (tl:TE):TI:=fun σ H R=>tl σ H fun x H1=>∃ a,x = .ref a∧(∃ xs,kS K H1 a xs)∧R (Itt K a) H1
theorem aKc {l:Expr}{tl:TE} (hl:PE X l tl):PI X tg l (aNO X.K tl):=by
 intro pins s σ H R I h
 refine iA (hl pins s σ H _ I h) fun v s1 ⟨x,H1,I1,r1,q1⟩=>?_
 obtain ⟨a,e,⟨xs,hq⟩,q⟩:=q1
 subst e
 cases r1
 obtain ⟨its,rv,p,hz⟩:=I1.list hq
 refine wpAny_pyIter_list p.isList ?_
 refine ⟨s1.heap.objs.size,[s1.heap.objs.size],_,_,H1,rfl,I1.kept (t':=s1.toks) fun b o e=>Heap.get?_push_of_some _ e,aBW a _,⟨_,Heap.get?_push_size _ rfl,rfl,rfl⟩,fun b hb=>?_,q⟩
 have e:b=s1.heap.objs.size:=by simpa using hb
 subst e
 exact I1.fpOk (Nat.le_refl _) (I1.hok.fresh (Nat.le_refl _))
theorem aMz {l:Expr}{tl:TE} (hl:PE X l tl):PI X tg l (aOt X.K tl):=by
 intro pins s σ H R I h
 refine iA (hl pins s σ H _ I h) fun v s1 ⟨x,H1,I1,r1,q1⟩=>?_
 obtain ⟨a,e,⟨xs,hq⟩,q⟩:=q1
 subst e
 cases r1
 obtain ⟨its,rv,p,hz⟩:=I1.tuple hq
 refine wpAny_pyIter_tuple (show s1.heap.IsTuple a its.toArray from p) ?_
 refine ⟨s1.heap.objs.size,[s1.heap.objs.size],_,_,H1,rfl,I1.kept (t':=s1.toks) fun b o e=>Heap.get?_push_of_some _ e,aAm a _,⟨_,Heap.get?_push_size _ rfl,rfl,rfl⟩,fun b hb=>?_,q⟩
 have e:b=s1.heap.objs.size:=by simpa using hb
 subst e
 exact I1.fpOk (Nat.le_refl _) (I1.hok.fresh (Nat.le_refl _))
theorem aD3 {pins:List (Addr×Obj)}{σ:St}{H:Hp}{s:Shared}{R:It→Hp→Prop}{E:Value→Shared→Prop}{lo hi:Int}{t u v:Tok}{tk:Nat} (I:bI X pins σ H s) (h1 : -(2 ^ 62)≤lo) (h2:lo<2 ^ 62) (h3 : -(2 ^ 62)≤hi) (h4:hi<2 ^ 62)
  (q:R (Itr lo (hi-lo).toNat) H):wpAny (model X.prog X.w) X.A (pyIter (.ref s.heap.objs.size)) (PIE X pins σ tg R) E { s with heap:=s.heap.push { cls:=.type "range",data:=.fields #[.int lo t,.int hi u,.int 1 v] },toks:=tk }:=by
 refine wpAny_pyIter_range (IsRange.new ..) (small_one h1 h2 h3 h4) ?_
 have I1:bI X pins σ H { s with heap:=s.heap.push { cls:=.type "range",data:=.fields #[.int lo t,.int hi u,.int 1 v] },toks:=tk }:=I.kept fun b o e=>Heap.get?_push_of_some _ e
 refine ⟨(s.heap.push { cls:=.type "range",data:=.fields #[.int lo t,.int hi u,.int 1 v] }).objs.size,[(s.heap.push { cls:=.type "range",data:=.fields #[.int lo t,.int hi u,.int 1 v] }).objs.size],_,_,H,rfl,
  I1.kept (t':=tk) fun b o e=>Heap.get?_push_of_some _ e,aF2 _ lo (hi-lo).toNat,?_,fun b hb=>?_,q⟩
 ·have e1:lo+((0:Nat):Int) * 1=lo:=by simp
  have e2:(((hi-lo).toNat:Nat):Int)-((0:Nat):Int)=Builtin.Range.rangeSize lo hi 1:=by rw [rangeSize_one];split <;> omega
  show IsRangeIter _ _ (lo+((0:Nat):Int) * 1) ((((hi-lo).toNat:Nat):Int)-((0:Nat):Int)) 1
  rw [e1,e2]
  exact Heap.get?_push_size _ rfl
 ·have e:b=(s.heap.push { cls:=.type "range",data:=.fields #[.int lo t,.int hi u,.int 1 v] }).objs.size:=by simpa using hb
  subst e
  exact I1.fpOk (Nat.le_refl _) (I1.hok.fresh (Nat.le_refl _))
def aNh (ta:TA):TI:=fun σ H R=>ta σ H fun vs H1=>∃ j:Int,vs=[.int j] ∧ -(2 ^ 62)≤j∧j<2 ^ 62∧R (Itr 0 j.toNat) H1
def aLq (ta:TA):TI:=fun σ H R=>ta σ H fun vs H1=>∃ i j:Int,vs=[.int i,.int j]∧(-(2 ^ 62)≤i∧i<2 ^ 62 ∧ -(2 ^ 62)≤j∧j<2 ^ 62)∧R (Itr i (j-i).toNat) H1
theorem aG7 {a:Expr}{ta:TA}{p pos:Pos} (hg:Gl X "range") (hm:X.mg "range"=none) (ha:PA X [a] ta) (hs:starEach [a] X.env=[(false,eval a X.env)]:=by rfl):PI X tg (.Call (.Name "range" p) [a] [] pos) (aNh ta):=by
 intro pins s σ H R I h
 refine Call_ (rB I hg hm boot_range (PyProof.Rows.callWith_type1 (iA (ha pos pins s σ H _ I h) fun us s1 ⟨vs,H1,I1,r1,q1⟩=>?_) hs rfl))
 obtain ⟨j,e,q1,q2,q⟩:=q1
 subst e
 cases r1 with
 | cons r rr=>
  cases rr
  obtain ⟨t,rfl⟩:=r
  exact call_range_1 (aD3 I1 (by omega) (by omega) q1 q2 (by simpa using q))
theorem aHY {a b:Expr}{ta:TA}{p pos:Pos} (hg:Gl X "range") (hm:X.mg "range"=none) (ha:PA X [a,b] ta) (hs:starEach [a,b] X.env=[(false,eval a X.env),(false,eval b X.env)]:=by rfl) (hs2:starEach [b] X.env=[(false,eval b X.env)]:=by rfl) :
  PI X tg (.Call (.Name "range" p) [a,b] [] pos) (aLq ta):=by
 intro pins s σ H R I h
 refine Call_ (rB I hg hm boot_range (PyProof.Rows.callWith_type1 (iA (ha pos pins s σ H _ I h) fun us s1 ⟨vs,H1,I1,r1,q1⟩=>?_) (by rw [hs,hs2]) (by rw [hs2];rfl)))
 obtain ⟨i,j,e,⟨q1,q2,q3,q4⟩,q⟩:=q1
 subst e
 cases r1 with
 | cons r rr=>
  cases rr with
  | cons r' rr=>
   cases rr
   obtain ⟨t,rfl⟩:=r
   obtain ⟨t',rfl⟩:=r'
   exact call_range_2 (aD3 I1 q1 q2 q3 q4 q)
def aOx (wi:TI) (g:TG) (tb:TS):TS:=fun D σ H=>wi σ H fun J H1=>∃ W:Nat→Nat→St→Hp→Prop,(∃ m,W 0 m σ H1)∧∀ i m σ H,W i m σ H →
 (J.stop i H∧D.nx σ H)∨(J.go i H∧∃ N:St→Hp→Prop,(∀ σ' H',N σ' H'→∃ m',m'<m∧W (i+1) m' σ' H')∧∀ x H',J.yld i H x H'→g x σ H' fun σ2 H2=>tb { D with nx:=N,ct:=N,bk:=D.nx } σ2 H2)
def aA4 (fp:List Addr) (h:Heap):List (Addr×Obj):=fp.filterMap fun b=>(h.get? b).map fun o=>(b,o)
theorem qZ {fp:List Addr}{h:Heap}{b:Addr}{o:Obj} (hb:b∈fp) (e:h.get? b=some o):(b,o)∈aA4 fp h:=List.mem_filterMap.mpr ⟨b,hb,by rw [e];rfl⟩
theorem aH5 {fp:List Addr}{h:Heap}{p:Addr×Obj} (hp:p∈aA4 fp h):p.1∈fp∧h.get? p.1=some p.2:=by
 obtain ⟨b,hb,e⟩:=List.mem_filterMap.mp hp
 cases q:h.get? b with
 | none=>rw [q] at e;cases e
 | some o=>
  rw [q] at e
  have e':(b,o)=p:=Option.some.inj e
  subst e'
  exact ⟨hb,q⟩
theorem bI.pinned {pins:List (Addr×Obj)}{σ:St}{H:Hp}{s:Shared}{fp:List Addr} (I:bI X pins σ H s) (hf:∀ b∈fp,oQ X pins H b) (ho:∀ b∈fp,∃ o,s.heap.get? b=some o∧∀ v,o.data≠.cell v):bI X (pins++aA4 fp s.heap) σ H s:=
 I.pins_of fun p hp=>(List.mem_append.mp hp).elim (fun z=>I.pin p (List.mem_append_right _ z)) fun z=>by
  obtain ⟨hb,e⟩:=aH5 z
  obtain ⟨f0,f1,f2,_⟩:=hf p.1 hb
  obtain ⟨o,e',d⟩:=ho p.1 hb
  rw [e] at e';cases e'
  exact ⟨e,f0,f1,f2,d⟩
theorem bI.unpinned {pins pl:List (Addr×Obj)}{σ:St}{H:Hp}{s:Shared} (I:bI X (pins++pl) σ H s):bI X pins σ H s:=I.pins_of fun p hp=>I.pin p (List.mem_append_right _ (List.mem_append_left _ hp))
theorem aMv {iter:Expr}{body:List Stmt}{wi:TI}{g:TG}{tb:TS}{pos:Pos} (hp:PassesOwn (model X.prog X.w) X.A X.env X.xe) (hc:X.calm=true) (hi:PI X tg iter wi) (hg:PG X tg g) (hb:PSs X body tb)
  (hs:∀ x,foldedSetIterable iter X.env x=pure x:=by intro _;rfl):PS X (.For tg iter body [] pos) (aOx wi g tb):=by
 intro pins s σ H D I h
 refine wpAny_For (iA (hi pins s σ H _ I h) fun v s1 h1=>iA h1 fun itv s2 h2=>?_) hs
 obtain ⟨it,fp,tn,J,H2,e,I2,T,st2,f2,W,⟨m0,w0⟩,turn⟩:=h2
 subst e
 have stat:∀ {H':Hp},(∀ b∈fp,H' b=none)→∀ b∈fp,oQ X pins H' b:=fun hn b hb=>⟨hn b hb,(f2 b hb).2⟩
 refine codeAny_forLoop_any (fun n s'=>∃ i σ' H',bI X pins σ' H' s'∧tn i s'.heap∧(∀ b∈fp,H' b=none)∧W i n σ' H') ?_ m0 ⟨0,σ,H2,I2,st2,fun b hb=>(f2 b hb).1,w0⟩
 rintro n s3 ⟨i,σ3,H3,I3,st3,fr3,w3⟩
 rcases turn i n σ3 H3 w3 with ⟨stop,qn⟩ | ⟨go,N,hN,step⟩
 ·refine wpAny_passesOwn hp (iA (T.done X rfl rfl rfl hc i pins s3 σ3 H3 X.xe I3 (stat fr3) st3 stop) fun r s4 ⟨hr,I4⟩=>?_)
  subst hr
  exact wpAny_execs_nil ⟨σ3,H3,I4,qn⟩
 ·refine wpAny_passesOwn hp (iA (T.item X rfl rfl rfl hc i pins s3 σ3 H3 X.xe I3 (stat fr3) st3 go) fun r s4 ⟨u,hr,h4⟩=>?_)
  subst hr
  refine wpAny_passesOwn hp (iA h4 fun _ s5 ⟨x,H5,I5,r5,y5,st5,fr5⟩=>?_)
  have I5':=I5.pinned (stat fr5) (T.obj _ _ st5)
  refine wpAny_passesOwn hp (iA (hg _ s5 σ3 H5 x u _ I5' r5 (step x H5 y5)) fun _ s6 ⟨σ6,H6,I6,q6⟩=>?_)
  refine wpAny_passesOwn hp (iA (hb _ s6 σ6 H6 _ I6 q6) fun f s7 q7=>?_)
  have again:∀ {σ7:St}{H7:Hp},bI X (pins++aA4 fp s5.heap) σ7 H7 s7→N σ7 H7→∃ m,m<n∧∃ i σ' H',bI X pins σ' H' s7∧tn i s7.heap∧(∀ b∈fp,H' b=none)∧W i m σ' H':=fun {σ7 H7} I7 n7=>by
   obtain ⟨m',hm,w7⟩:=hN σ7 H7 n7
   refine ⟨m',hm,i+1,σ7,H7,I7.unpinned,T.keep _ _ _ st5 fun b hb o e=>(I7.pin (b,o) (List.mem_append_right _ (List.mem_append_right _ (qZ hb e)))).1,fun b hb=>?_,w7⟩
   obtain ⟨o,e,d⟩:=T.obj _ _ st5 b hb
   exact (I7.pin (b,o) (List.mem_append_right _ (List.mem_append_right _ (qZ hb e)))).2.1
  cases f with
  | next=>obtain ⟨σ7,H7,I7,n7⟩:=q7;exact again I7 n7
  | cont=>obtain ⟨σ7,H7,I7,n7⟩:=q7;exact again I7 n7
  | brk=>obtain ⟨σ7,H7,I7,q7⟩:=q7;exact ⟨σ7,H7,I7.unpinned,q7⟩
  | ret v=>obtain ⟨x7,σ7,H7,I7,r7,q7⟩:=q7;exact ⟨x7,σ7,H7,I7.unpinned,r7,q7⟩
end
abbrev R2:=V→V→Hp→VK→Prop
def tO (X:Cx) (f:Value→Value→Sem Value) (r:R2):Prop:=
 ∀ (pins:List (Addr×Obj)) (s:Shared) (σ:St) (H:Hp) (x y:V) (v u:Value) (Q:VK),bI X pins σ H s→dD x v→dD y u→r x y H Q →
  wpAny (model X.prog X.w) X.A (f v u) (EP X pins σ Q) X.xe s
def UnR (X:Cx) (f:Value→Sem Value) (r:V→Hp→VK→Prop):Prop:=
 ∀ (pins:List (Addr×Obj)) (s:Shared) (σ:St) (H:Hp) (x:V) (v:Value) (Q:VK),bI X pins σ H s→dD x v→r x H Q →
  wpAny (model X.prog X.w) X.A (f v) (EP X pins σ Q) X.xe s
def lJ (X:Cx) (f:Value) (r:List V→Hp→VK→Prop):Prop:=
 ∀ (pins:List (Addr×Obj)) (s:Shared) (σ:St) (H:Hp) (xs:List V) (us:List Value) (Q:VK),bI X pins σ H s→dR xs us→r xs H Q →
  wpAny (model X.prog X.w) X.A (call f us) (EP X pins σ Q) X.xe s
def aOS (X:Cx) (r:V→Hp→(Bool→Hp→Prop)→Prop):Prop:=
 ∀ (pins:List (Addr×Obj)) (s:Shared) (σ:St) (H:Hp) (x:V) (v:Value) (Q:Bool→Hp→Prop),bI X pins σ H s→dD x v→r x H Q →
  wpAny (model X.prog X.w) X.A (truthy v) (TP X pins σ Q) X.xe s
def tOp (r:R2) (ta tb:TE):TE:=fun σ H Q=>ta σ H fun x H1=>tb σ H1 fun y H2=>r x y H2 Q
def tUn (r:V→Hp→VK→Prop) (ta:TE):TE:=fun σ H Q=>ta σ H fun x H1=>r x H1 Q
def rI (C:Int→Int→Prop) (g:Int→Int→V):R2:=fun x y H Q=>∃ i j,x = .int i∧y = .int j∧C i j∧Q (g i j) H
def rI0 (g:Int→Int→V):R2:=fun x y H Q=>∃ i j,x = .int i∧y = .int j∧Q (g i j) H
def rU (g:Int→V):V→Hp→VK→Prop:=fun x H Q=>∃ i,x = .int i∧Q (g i) H
section
variable {X:Cx}{a b c:Expr}{ta tb tc:TE}{pos:Pos}
theorem aMS (ha:PE X a ta) (hb:PE X b tb) {pins:List (Addr×Obj)}{s:Shared}{σ:St}{H:Hp}{R:V→V→Hp→Prop} (I:bI X pins σ H s)
  (h:ta σ H fun x H1=>tb σ H1 fun y H2=>R x y H2) {Q:Value→Shared→Prop}{f:Value→Value→Sem Value}
  (hf:∀ v u s2 x y H2,bI X pins σ H2 s2→dD x v→dD y u→R x y H2→wpAny (model X.prog X.w) X.A (f v u) Q X.xe s2) :
  wpAny (model X.prog X.w) X.A (eval a X.env) (fun v s₁=>wpAny (model X.prog X.w) X.A (eval b X.env) (fun u s₂=>wpAny (model X.prog X.w) X.A (f v u) Q X.xe s₂) X.xe s₁) X.xe s:=by
 refine iA (ha pins s σ H _ I h) fun v s1 ⟨x,H1,I1,r1,q1⟩=>?_
 refine iA (hb pins s1 σ H1 _ I1 q1) fun u s2 ⟨y,H2,I2,r2,q2⟩=>?_
 exact hf v u s2 x y H2 I2 r1 r2 q2
theorem aJ0 {op:Operator}{r:R2} (ho:tO X (binaryOp op) r) (ha:PE X a ta) (hb:PE X b tb):PE X (.BinOp a op b pos) (tOp r ta tb):=by
 intro pins s σ H Q I h
 exact wpAny_BinOp (aMS ha hb I h fun v u s2 x y H2 I2 rx ry q=>ho pins s2 σ H2 x y v u Q I2 rx ry q)
theorem aNC {op:UnaryOp}{r:V→Hp→VK→Prop} (ho:UnR X (unaryOp op) r) (ha:PE X a ta):PE X (.UnaryOp op a pos) (tUn r ta):=by
 intro pins s σ H Q I h
 exact UnaryOp_ (iA (ha pins s σ H _ I h) fun v s1 ⟨x,H1,I1,r1,q1⟩=>ho pins s1 σ H1 x v Q I1 r1 q1)
theorem opI {f:Value→Value→Sem Value}{C:Int→Int→Prop}{g:Int→Int→Int}
  (rule:∀ (i j:Int) (t u:Tok) (s:Shared) (Q:Value→Shared→Prop) (E:Value→Shared→Prop),C i j→Q (.int (g i j) s.toks) { s with toks:=s.toks+1 }→wpAny (model X.prog X.w) X.A (f (.int i t) (.int j u)) Q E s) :
  tO X f (rI C fun i j=>.int (g i j)):=by
 intro pins s σ H x y v u Q I rx ry h
 obtain ⟨i,j,rfl,rfl,hc,q⟩:=h
 obtain ⟨t,rfl⟩:=rx
 obtain ⟨t',rfl⟩:=ry
 exact rule i j t t' s _ _ hc ⟨.int (g i j),H,I.tok _,⟨_,rfl⟩,q⟩
theorem aNv {f:Value→Value→Sem Value}{g:Int→Int→Int}
  (rule:∀ (i j:Int) (t u:Tok) (s:Shared) (Q:Value→Shared→Prop) (E:Value→Shared→Prop),Q (.int (g i j) s.toks) { s with toks:=s.toks+1 }→wpAny (model X.prog X.w) X.A (f (.int i t) (.int j u)) Q E s) :
  tO X f (rI0 fun i j=>.int (g i j)):=by
 intro pins s σ H x y v u Q I rx ry h
 obtain ⟨i,j,rfl,rfl,q⟩:=h
 obtain ⟨t,rfl⟩:=rx
 obtain ⟨t',rfl⟩:=ry
 exact rule i j t t' s _ _ ⟨.int (g i j),H,I.tok _,⟨_,rfl⟩,q⟩
theorem aN3 {f:Value→Value→Sem Value}{g:Int→Int→Bool}
  (rule:∀ (i j:Int) (t u:Tok) (s:Shared) (Q:Value→Shared→Prop) (E:Value→Shared→Prop),Q (.bool (g i j)) s→wpAny (model X.prog X.w) X.A (f (.int i t) (.int j u)) Q E s) :
  tO X f (rI0 fun i j=>.bl (g i j)):=by
 intro pins s σ H x y v u Q I rx ry h
 obtain ⟨i,j,rfl,rfl,q⟩:=h
 obtain ⟨t,rfl⟩:=rx
 obtain ⟨t',rfl⟩:=ry
 exact rule i j t t' s _ _ ⟨.bl (g i j),H,I,rfl,q⟩
def aNs (i j:Int):Prop:=0<j∧j<1073741824
def aHn (i j:Int):Prop:=(-(2 ^ 64)<i∧i<2 ^ 64)∨(-(2 ^ 64)<j∧j<2 ^ 64)
theorem aHn.ok {i j:Int} (h:aHn i j):IntMulOk i j:=by
 rcases h with ⟨h1,h2⟩ | ⟨h1,h2⟩
 ·exact .of_left (intBits_le_64 h1 h2)
 ·exact .of_right (intBits_le_64 h1 h2)
theorem aMJ:tO X (binaryOp .Add) (rI0 fun i j=>.int (i+j)):=aNv fun _ _ _ _ _ _ _ q=>add_int q
theorem aMb:tO X (binaryOp .Sub) (rI0 fun i j=>.int (i-j)):=aNv fun _ _ _ _ _ _ _ q=>sub_int q
theorem aL0:tO X (binaryOp .Mult) (rI aHn fun i j=>.int (i * j)):=opI fun _ _ _ _ _ _ _ hc q=>mul_int q hc.ok
theorem aK5:tO X (binaryOp .FloorDiv) (rI aNs fun i j=>.int (i / j)):=opI fun i j _ _ _ _ _ hc q=>by
 have h1:(0:Int)<j:=hc.1
 have h2:j<1073741824:=hc.2
 exact floordiv_int (by omega) (by rw [Int.fdiv_eq_ediv_of_nonneg i (by omega)];exact q) (.inl (PyProof.noPylong_small (by omega)))
theorem aLZ:tO X (binaryOp .Mod) (rI (fun _ j=>0<j) fun i j=>.int (i % j)):=opI fun i j _ _ _ _ _ hc q=>by
 have h1:(0:Int)<j:=hc
 exact mod_int' (by omega) (by rw [Int.fmod_eq_emod_of_nonneg i (by omega)];exact q)
theorem unI {f:Value→Sem Value}{g:Int→Int}
  (rule:∀ (i:Int) (t:Tok) (s:Shared) (Q:Value→Shared→Prop) (E:Value→Shared→Prop),Q (.int (g i) s.toks) { s with toks:=s.toks+1 }→wpAny (model X.prog X.w) X.A (f (.int i t)) Q E s) :
  UnR X f (rU fun i=>.int (g i)):=by
 intro pins s σ H x v Q I rx h
 obtain ⟨i,rfl,q⟩:=h
 obtain ⟨t,rfl⟩:=rx
 exact rule i t s _ _ ⟨.int (g i),H,I.tok _,⟨_,rfl⟩,q⟩
theorem aMk:UnR X (unaryOp .USub) (rU fun i=>.int (-i)):=unI fun _ _ _ _ _ q=>neg_int q
end
section
variable {X:Cx}{a b c:Expr}{ta tb tc:TE}{pos:Pos}
theorem aCy {pins:List (Addr×Obj)}{σ:St}{H:Hp}{s:Shared}{Q:VK}{k k':Bool} (I:bI X pins σ H s) (q:Q (.bl k) H) (e:k=k'):EP X pins σ Q (.bool k') s:=by
 subst e
 exact ⟨.bl k,H,I,rfl,q⟩
theorem aN2:tO X (compareOp .Lt) (rI0 fun i j=>.bl (decide (i<j))):=aN3 fun _ _ _ _ _ _ _ q=>lt_int q
theorem aNI:tO X (compareOp .Gt) (rI0 fun i j=>.bl (decide (j<i))):=aN3 fun _ _ _ _ _ _ _ q=>gt_int q
theorem aMC:tO X (compareOp .Is) (fun x y H Q=>y = .non∧Q (.bl (decide (x = .non))) H):=by
 intro pins s σ H x y v u Q I rx ry h
 obtain ⟨rfl,q⟩:=h
 cases ry
 refine is_none_gen (aCy I q ?_)
 cases x <;> first
  | (cases rx;rfl)
  | (obtain ⟨t,rfl⟩:=rx;rfl)
theorem aKy:tO X (compareOp .IsNot) (fun x y H Q=>y = .non∧Q (.bl (!decide (x = .non))) H):=by
 intro pins s σ H x y v u Q I rx ry h
 obtain ⟨rfl,q⟩:=h
 cases ry
 refine isnot_none_gen (aCy I q ?_)
 cases x <;> first
  | (cases rx;rfl)
  | (obtain ⟨t,rfl⟩:=rx;rfl)
theorem tO.or {f:Value→Value→Sem Value}{r r':R2} (h:tO X f r) (h':tO X f r'):tO X f (fun x y H Q=>r x y H Q∨r' x y H Q):=by
 intro pins s σ H x y v u Q I rx ry q
 rcases q with q | q
 ·exact h pins s σ H x y v u Q I rx ry q
 ·exact h' pins s σ H x y v u Q I rx ry q
theorem aJt (b:Expr) {op:CmpOp} (h:op≠.In:=by decide) (h2:op≠.NotIn:=by decide):behindInMarks op b=false:=by
 have e1:(op == CmpOp.In)=false:=by cases op <;> first | rfl | exact absurd rfl h
 have e2:(op == CmpOp.NotIn)=false:=by cases op <;> first | rfl | exact absurd rfl h2
 cases b <;> simp [behindInMarks,e1,e2]
theorem aKJ {op:CmpOp}{r:R2} (ho:tO X (compareOp op) r) (ha:PE X a ta) (hb:PE X b tb) (hm:behindInMarks op b=false):PE X (.Compare a [op] [b] pos) (tOp r ta tb):=by
 intro pins s σ H Q I h
 exact wpAny_Compare1 (aMS ha hb I h fun v u s2 x y H2 I2 rx ry q=>ho pins s2 σ H2 x y v u Q I2 rx ry q) hm
def aNN (t:TE):TT:=fun σ H Q=>t σ H fun x H'=>∃ k,x = .bl k∧Q k H'
theorem aKE {op:CmpOp}{r:R2} (ho:tO X (compareOp op) r) (ha:PE X a ta) (hb:PE X b tb) (hm:behindInMarks op b=false):PT X (.Compare a [op] [b] pos) (aNN (tOp r ta tb)):=by
 intro pins s σ H Q I h
 refine wpAny_isTrue_Compare1 (iA (ha pins s σ H _ I h) fun v s1 ⟨x,H1,I1,r1,q1⟩=>iA (hb pins s1 σ H1 _ I1 q1) fun u s2 ⟨y,H2,I2,r2,q2⟩=>
  iA (ho pins s2 σ H2 x y v u _ I2 r1 r2 q2) fun c s3 ⟨z,H3,I3,r3,k,e,q3⟩=>?_) hm
 subst e
 cases r3
 exact wpAny_truthy_bool ⟨H3,I3,q3⟩
def aNT (K:PySem.W.Frag) (x:V) (H:Hp) (k:Bool):Prop:=
 match x with
 | .non=>k=false
 | .bl b=>k=b
 | .int i=>k=(i != 0)
 | .str y=>y.length≤sizeLine∧k=((y.length:Int) != 0)
 | .byt y=>y.size≤sizeLine∧k=((y.size:Int) != 0)
 | .ref p=>(∃ xs,lI K H p xs∧k = !xs.isEmpty)∨(∃ xs,kS K H p xs∧k = !xs.isEmpty)∨∃ kvs,H p=some (.dK kvs)∧k = !kvs.isEmpty
 | _=>False
theorem aFL {κ:Type}{kvs:List (κ×V)}{vs:List (κ×Value)} (r:KV kvs vs):(!vs.isEmpty) = !kvs.isEmpty:=by
 cases r <;> rfl
theorem aBg {xs:List V}{its:List Value} (r:dR xs its):(!its.toArray.isEmpty) = !xs.isEmpty:=by
 cases r <;> simp
theorem aAs:(sizeLine:Nat)<2 ^ 63:=by rw [sizeLine_eq];decide
theorem aMF:aOS X (fun x H Q=>∃ k,aNT X.K x H k∧Q k H):=by
 intro pins s σ H x v Q I rx h
 obtain ⟨k,e,q⟩:=h
 have hl:=aAs
 have hs:sizeLine=16777216:=sizeLine_eq
 cases x with
 | non=>
  cases rx
  have e':k=false:=e
  subst e'
  exact truthy_none ⟨H,I,q⟩
 | bl b=>
  cases rx
  have e':k=b:=e
  subst e'
  exact wpAny_truthy_bool ⟨H,I,q⟩
 | int i=>
  obtain ⟨t,rfl⟩:=rx
  have e':k=(i != 0):=e
  subst e'
  exact PySem.P.truthy_int ⟨H,I,q⟩
 | str y=>
  obtain ⟨t,rfl⟩:=rx
  obtain ⟨hy,e'⟩:y.length≤sizeLine∧k=((y.length:Int) != 0):=e
  subst e'
  exact PySem.P.truthy_str (by omega) ⟨H,I.tok _,q⟩
 | byt y=>
  obtain ⟨t,rfl⟩:=rx
  obtain ⟨hy,e'⟩:y.size≤sizeLine∧k=((y.size:Int) != 0):=e
  subst e'
  exact PySem.W.truthy_bytes (by omega) ⟨H,I.tok _,q⟩
 | ref p=>
  cases rx
  have e':(∃ xs,lI X.K H p xs∧k = !xs.isEmpty)∨(∃ xs,kS X.K H p xs∧k = !xs.isEmpty)∨∃ kvs,H p=some (.dK kvs)∧k = !kvs.isEmpty:=e
  rcases e' with ⟨xs,hx,e'⟩ | ⟨xs,hx,e'⟩ | ⟨kvs,hx,e'⟩
  ·subst e'
   obtain ⟨its,r,pl,hz⟩:=I.list hx
   have hlen:=r.length
   exact wpAny_truthy_list pl.isList (by simp only [List.size_toArray];omega) ⟨H,I.tok _,by rw [aBg r];exact q⟩
  ·subst e'
   obtain ⟨its,r,pl,hz⟩:=I.tuple hx
   have hlen:=r.length
   exact truthy_tuple pl (by simp only [List.size_toArray];omega) ⟨H,I.tok _,by rw [aBg r];exact q⟩
  ·subst e'
   obtain ⟨hz,hS,vs,r,m⟩:kvs.length≤sizeLine∧(p == sysModules)=false∧∃ vs,KV kvs vs∧s.heap.DictOf (hG X.prog X.w) p vs:=I.hok p _ hx
   have hlen:kvs.length=vs.length:=Paired.length r
   exact wpAny_truthy_dict hS m (by omega) ⟨H,I.tok _,by rw [aFL r];exact q⟩
 | _=>exact (show False from e).elim
theorem aIX (ha:PE X a ta) (he:∀ whole,isTrue a X.env whole=(do let v ← whole;standAt a.pos;holding [v] (truthy v))) :
  PT X a (fun σ H Q=>ta σ H fun x H'=>∃ k,aNT X.K x H' k∧Q k H'):=by
 intro pins s σ H Q I h
 exact isTrue_plain (iA (ha pins s σ H _ I h) fun v s1 ⟨x,H1,I1,r1,q1⟩=>aMF pins s1 σ H1 x v Q I1 r1 q1) (he _)
theorem rN {x:V}{us:List Value} (r:dR [x] us):∃ u,us=[u]∧dD x u:=by
 cases r with
 | cons r1 r2=>cases r2;exact ⟨_,rfl,r1⟩
theorem aNn {x y:V}{us:List Value} (r:dR [x,y] us):∃ u w',us=[u,w']∧dD x u∧dD y w':=by
 cases r with
 | cons r1 r2=>
  cases r2 with
  | cons r3 r4=>cases r4;exact ⟨_,_,rfl,r1,r3⟩
theorem aJR:lJ X (.builtin "abs") (fun xs H Q=>∃ i,xs=[.int i]∧Q (.int (if i<0 then -i else i)) H):=by
 intro pins s σ H xs us Q I r h
 obtain ⟨i,rfl,q⟩:=h
 obtain ⟨u,rfl,t,rfl⟩:=rN r
 exact call_abs_int fun u tk=>⟨.int (if i<0 then -i else i),H,I.tok _,⟨_,rfl⟩,q⟩
theorem aHE:lJ X (.type "int") (fun xs H Q=>(∃ i,xs=[.int i]∧Q (.int i) H)∨∃ k,xs=[.bl k]∧Q (.int (if k then 1 else 0)) H):=by
 intro pins s σ H xs us Q I r h
 rcases h with ⟨i,rfl,q⟩ | ⟨k,rfl,q⟩
 ·obtain ⟨u,rfl,t,rfl⟩:=rN r
  exact call_int_int ⟨.int i,H,I,⟨_,rfl⟩,q⟩
 ·obtain ⟨u,rfl,r1⟩:=rN r
  cases r1
  exact call_int_bool ⟨.int (if k then 1 else 0),H,I.tok _,⟨_,rfl⟩,q⟩
end
section
variable {prog:Program}{w:World}{A:Around}{E:Value→Shared→Prop}{s:Shared}{K:PySem.W.Frag}{x dx C f:Addr}{mA:Str→Option Value}{name:Str}{v:Value}
end
theorem aBm.some_of {v:V}{o:Option Value} (r:aBm (some v) o):∃ u,o=some u∧dD v u:=by
 cases o with
 | none=>exact (show False from r).elim
 | some u=>exact ⟨u,rfl,r⟩
section
variable {P:Program}{w:World}{H H':Hp}{h h':Heap}{a C dx:Addr}{fs fs':List (Str×V)}
end
section
variable {X:Cx}{pins:List (Addr×Obj)}{σ:St}{H:Hp}{s:Shared}{a C dx:Addr}{fs:List (Str×V)}{f:Str}{v:V}{A:Around}{E:Value→Shared→Prop}
end
section
variable {X:Cx}{o e value:Expr}{f:Str}{pos pos' tpos:Pos}{ta tv:TE}
end
section
variable {X:Cx}{pins:List (Addr×Obj)}{σ:St}{H:Hp}{s:Shared}{A:Around}{E:Value→Shared→Prop}{Q:Value→Shared→Prop}{c:Value}{b:Bool}
end
structure cE (k:Nat) (A:Around):Prop where
 hd:A.handled=none
 dp:A.depth+3 * k+5<recursionLimit
 un:A.units+16 * k+200<cLine
theorem cE.mono {j k:Nat}{A:Around} (r:cE k A) (h:j≤k):cE j A:=⟨r.hd,by have:=r.dp;omega,by have:=r.un;omega⟩
theorem cE.deeper {k:Nat}{A:Around} (r:cE (k+1) A) (env:Env):cE k (A.deeper env):=
 ⟨r.hd,by have:=r.dp;show A.depth+1+3 * k+5<_;omega,by have:=r.un;show A.units+3+16 * k+200<_;omega⟩
theorem cE.in1 {k:Nat}{A:Around} (r:cE (k+1) A):cE k A.in1:=
 ⟨r.hd,by have:=r.dp;show A.depth+3 * k+5<_;omega,by have:=r.un;show A.units+1+16 * k+200<_;omega⟩
theorem cE.depth {k:Nat}{A:Around} (r:cE k A):A.depth<recursionLimit:=by have:=r.dp;omega
theorem cE.units {k:Nat}{A:Around} (r:cE k A):A.units+64<cLine:=by have:=r.un;omega
def aK9:TA:=fun _ H Q=>Q [] H
def aGq (ta:TE) (tr:TA):TA:=fun σ H Q=>ta σ H fun x H1=>tr σ H1 fun xs H2=>Q (x::xs) H2
section
variable {X:Cx}{e:Expr}{es:List Expr}{te:TE}{t:TA}{pos:Pos}
theorem gX:PA X [] aK9:=fun _ _ _ _ H Q I h=>Calls.spliced_nil ⟨[],H,I,.nil,h⟩
theorem dO (ha:PE X e te) (hr:PA X es t) (hs:starEach (e::es) X.env=(false,eval e X.env)::starEach es X.env:=by rfl):PA X (e::es) (aGq te t):=by
 intro pos pins s σ H Q I h
 rw [hs]
 show wpAny _ _ (spliced ((false,eval e X.env)::backTo pos (starEach es X.env))) _ _ s
 refine Calls.spliced_cons (iA (ha pins s σ H _ I h) fun u s1 ⟨x,H1,I1,r1,q1⟩=>?_)
 exact iA (hr pos pins s1 σ H1 _ I1 q1) fun us s2 ⟨xs,H2,I2,r2,q2⟩=>⟨x::xs,H2,I2,.cons r1 r2,q2⟩
def aOO (t:TA):TE:=fun σ H Q=>t σ H fun xs H1=>xs.length≤sizeLine∧∀ p,H1 p=none→Q (.ref p) (upd H1 p (.tup xs))
def aOs (t:TA):TE:=fun σ H Q=>t σ H fun xs H1=>xs.length≤sizeLine∧∀ p,H1 p=none→Q (.ref p) (upd H1 p (.lst xs))
theorem aMf {x1} (h:PA X es t):PE X (.Tuple es x1 pos) (aOO t):=by
 intro pins s σ H Q I hq
 refine wpAny_Tuple_spliced (iA (h pos pins s σ H _ I hq) fun us s1 ⟨xs,H1,I1,r,z,q⟩=>⟨by rw [← r.length];exact z,?_⟩)
 have hf:H1 s1.heap.objs.size=none:=I1.hok.fresh (Nat.le_refl _)
 refine ⟨.ref s1.heap.objs.size,upd H1 s1.heap.objs.size (.tup xs),I1.laid (t':=s1.toks) (fun b u e=>Heap.get?_push_of_some _ e) (Nat.le_refl _) ?_,rfl,q _ hf⟩
 exact ⟨z,us,r,⟨_,Heap.get?_push_size _ rfl,rfl,_,rfl⟩⟩
theorem aMh (h:PA X es t):PE X (.List es pos) (aOs t):=by
 intro pins s σ H Q I hq
 refine wpAny_List_spliced (iA (h pos pins s σ H _ I hq) fun us s1 ⟨xs,H1,I1,r,z,q⟩=>⟨by rw [← r.length];exact z,?_⟩)
 have hf:H1 s1.heap.objs.size=none:=I1.hok.fresh (Nat.le_refl _)
 refine ⟨.ref s1.heap.objs.size,upd H1 s1.heap.objs.size (.lst xs),I1.laid (t':=s1.toks) (fun b u e=>Heap.get?_push_of_some _ e) (Nat.le_refl _) ?_,rfl,q _ hf⟩
 exact ⟨z,us,0,r,Heap.get?_push_size _ rfl⟩
end
abbrev Sp:=List V→Hp→VK→XK→Prop
abbrev CXT:=List Env→Hp→Shared→XK→Value→Shared→Prop
structure aK4 (P:Program) (w:World) (K:PySem.W.Frag) (mg:Str→Option Value) (base:Heap) (A:Around) (outer:List Env) (s:Shared) (H:Hp):Prop where
 frames:A.frames=some outer
 mod:Mod K mg base
 bs:∀ b o,base.get? b=some o→s.heap.get? b=some o∧H b=none
 bsz:base.objs.size≤s.heap.objs.size
 funs:s.heap.FunFrames base outer
 frf:∀ b∈frs outer,H b=none
 hok:sW P w H s.heap
 bare:AllBare s.gens
def CE (outer:List Env) (P:Program) (w:World) (H:Hp) (s:Shared) (Q:VK) (u:Value) (s':Shared):Prop:=
 ∃ v H',s'.os=s.os∧AllBare s'.gens∧Un (frs outer) [] H H' s.heap s'.heap∧sW P w H' s'.heap∧dD v u∧Q v H'
def CR (CX:CXT) (outer:List Env) (P:Program) (w:World) (H:Hp) (s:Shared) (Q:VK) (E:XK) (r:Result) (s':Shared):Prop:=
 match r with
 | .ok (.ret u)=>CE outer P w H s Q u s'
 | .ok _=>False
 | .error e=>CX outer H s E e s'
structure vY (P:Program) (w:World) (K:PySem.W.Frag) (mg:Str→Option Value) (base:Heap) (CX:CXT) (k:Nat) (f:Addr) (fd:FuncData) (ps:List Str) (sp:Sp):Prop where
 len:∀ vs H Q E,sp vs H Q E→vs.length=ps.length
 run:∀ (A:Around) (outer:List Env) (s:Shared) (H:Hp) (args:Args) (us:List Value) (vs:List V) (Q:VK) (E:XK),cE k A→aK4 P w K mg base A outer s H→BindsTo s fd args (ps.zip us)→dR vs us→sp vs H Q E →
  codeAny (model P w) A (.call (.ref f) args) (CR CX outer P w H s Q E) s
section
variable {X:Cx}{pins:List (Addr×Obj)}{σ:St}{H:Hp}{s s':Shared}
theorem bI.env0 (I:bI X pins σ H s):aK4 X.prog X.w X.K X.mg X.base X.A X.stack s H:=
 ⟨I.ok.frames,I.ok.mod,I.bs,Nat.le_trans I.ok.bsz I.sz,I.stack,I.stkFree,I.hok,I.bare⟩
theorem bI.after {Q:VK}{u:Value} (I:bI X pins σ H s) (h:CE X.stack X.prog X.w H s Q u s'):EP X pins σ Q u s':=by
 obtain ⟨v,H',os,bare,un,hok,r,q⟩:=h
 obtain ⟨hh,g,d,t,os'⟩:=s'
 obtain rfl:os'=s.os:=os
 exact ⟨v,H',I.call (h':=hh) (g':=g) (d':=d) (t':=t) (ch:=[]) un hok bare (fun b z=>absurd z (by simp)),r,q⟩
end
def aNj (sp:Sp) (dvs:List V) (E:XK) (t:TA):TE:=fun σ H Q=>t σ H fun vs H1=>sp (vs++dvs) H1 Q E
def qC (K:PySem.W.Frag) (fd:FuncData) (ps:List Str) (ds:List Value):Prop:=
 ∀ (s:Shared) (us:List Value),K.In s.heap→(us++ds).length=ps.length→BindsTo s fd ⟨us,[]⟩ (ps.zip (us++ds))
theorem qC.all {K:PySem.W.Frag}{fd:FuncData}{ps:List Str} (h:∀ us:List Value,us.length=ps.length→bindArgs fd ⟨us,[]⟩=pure (ps.zip us)):qC K fd ps []:=fun s us _ hl=>by
 rw [List.append_nil] at hl ⊢
 exact .of_eq (h us hl)
def qO (CX:CXT) (X:Cx) (E:XK):Prop:=∀ (pins:List (Addr×Obj)) (σ:St) (H:Hp) (s:Shared) (e:Value) (s':Shared),bI X pins σ H s→CX X.stack H s E e s'→X.xe e s'
section
variable {X:Cx}{CX:CXT}{k:Nat}{f C:Addr}{fd:FuncData}{ps:List Str}{sp:Sp}{dvs:List V}{ds:List Value}{E:XK}{x m:Str}{p pos apos:Pos}{e o:Expr}{es:List Expr}{ta:TE}{t:TA}
theorem aMx {pins:List (Addr×Obj)}{σ:St}{H:Hp}{s:Shared}{Q:VK}{us:List Value}{vs:List V} (F:vY X.prog X.w X.K X.mg X.base CX k f fd ps sp) (hr:cE k X.A) (hb:qC X.K fd ps ds) (hd:dR dvs ds) (hx:qO CX X E)
  (I:bI X pins σ H s) (r:dR vs us) (h:sp (vs++dvs) H Q E):wpAny (model X.prog X.w) X.A (call (.ref f) us) (EP X pins σ Q) X.xe s:=by
 have r2:dR (vs++dvs) (us++ds):=r.append hd
 have hl:(us++ds).length=ps.length:=by rw [← r2.length];exact F.len _ _ _ _ h
 refine wpAny_call (codeAny_mono (F.run X.A X.stack s H ⟨us,[]⟩ (us++ds) (vs++dvs) Q E hr I.env0 (hb s us I.kIn hl) r2 h) fun r s' hq=>?_)
 cases r with
 | error e=>exact hx pins σ H s e s' I hq
 | ok fl=>
  cases fl with
  | ret u=>exact I.after hq
  | next=>exact False.elim hq
  | brk=>exact False.elim hq
  | cont=>exact False.elim hq
theorem zQ (F:vY X.prog X.w X.K X.mg X.base CX k f fd ps sp) (hr:cE k X.A) (hg:Gl X x) (hm:X.mg x=some (.ref f)) (hk:PySem.W.keepIn X.K (.ref f)=true) (hb:qC X.K fd ps ds) (hd:dR dvs ds) (hx:qO CX X E)
  (ha:PA X (e::es) t) (hdb:(x == ("__debug__":Str))=false:=by decide) (he:starEach (e::es) X.env=(false,eval e X.env)::starEach es X.env:=by rfl) (hpl:(backTo pos (starEach es X.env)).any (·.1)=false:=by rfl) :
  PE X (.Call (.Name x p) (e::es) [] pos) (aNj sp dvs E t):=by
 intro pins s σ H Q I h
 refine wpAny_Call_Name_kw (zJ I hg hm ?_ hdb)
 refine PySem.W.callWith_K (h₀:=X.base) I.ok.mod.kin hk (iA (ha pos pins s σ H _ I h) fun us s1 ⟨vs,H1,I1,r,q⟩=>⟨I1.kIn,?_⟩) he hpl
 exact aMx F hr hb hd hx I1 r q
end
section
variable {X:Cx}{CX:CXT}{k:Nat}{f C:Addr}{fd:FuncData}{ps ks:List Str}{sp:Sp}{E:XK}{x m:Str}{p pos apos kpos:Pos}{e o:Expr}{es:List Expr}{kws:List Keyword}{te ta:TE}{t tk:TA}{nm:Option Str}
variable {g:List Value→List Value→List Value}{gV:List V→List V→List V}
end
structure bA (N P:List Str) (sc:Scope):Prop where
 kind:sc.kind = .function
 co:sc.isCoroutine=false
 gen:sc.isGenerator=false
 nd:N.Nodup
 pre:N.take P.length=P
 par:∀ x∈P,sc.names.lookup x=some .local∨sc.names.lookup x=some .cell
 nofree:∀ y∈sc.names,y.2≠.free
theorem aBN {kindOf:Str→Option NameKind}{x:Str}:∀ {binds:List (Str×Value)}{m:Str→Option Value},(∀ v,(x,v)∉binds)→bindL kindOf binds m x=m x
 | [],_,_=>rfl
 | (n,v)::r,m,h=>by
  unfold bindL
  rw [aBN fun w hw=>h w (List.mem_cons_of_mem _ hw)]
  split
  ·have:x≠n:=by rintro rfl;exact h v List.mem_cons_self
   simp [this]
  ·rfl
theorem aBZ {kindOf:Str→Option NameKind}{x:Str}:∀ {binds:List (Str×Value)}{m:Str→Option Value},(∀ v,(x,v)∉binds)→bindC kindOf binds m x=m x
 | [],_,_=>rfl
 | (n,v)::r,m,h=>by
  unfold bindC
  rw [aBZ fun w hw=>h w (List.mem_cons_of_mem _ hw)]
  split
  ·rfl
  ·have:x≠n:=by rintro rfl;exact h v List.mem_cons_self
   simp [this]
theorem aCl {kindOf:Str→Option NameKind}{x:Str}{v:Value}:∀ {P:List Str}{vs:List Value}{i:Nat}{m:Str→Option Value},P.Nodup→P[i]? = some x→vs[i]? = some v→kindOf x=some .local →
  bindL kindOf (P.zip vs) m x=some v
 | [],_,_,_,_,h,_,_=>by simp at h
 | _::_,[],_,_,_,_,h,_=>by simp at h
 | p::P,w::vs,0,m,nd,h1,h2,hk=>by
  simp at h1 h2;subst h1;subst h2
  show bindL kindOf ((p,w)::P.zip vs) m p=_
  unfold bindL
  rw [aBN fun v hv=>(List.nodup_cons.mp nd).1 (List.of_mem_zip hv).1,if_pos hk]
  simp
 | p::P,w::vs,i+1,m,nd,h1,h2,hk=>by
  show bindL kindOf ((p,w)::P.zip vs) m x=_
  unfold bindL
  exact aCl (i:=i) (List.nodup_cons.mp nd).2 (by simpa using h1) (by simpa using h2) hk
theorem aB2 {kindOf:Str→Option NameKind}{x:Str}{v:Value}:∀ {P:List Str}{vs:List Value}{i:Nat}{m:Str→Option Value},P.Nodup→P[i]? = some x→vs[i]? = some v→kindOf x≠some .local →
  bindC kindOf (P.zip vs) m x=some v
 | [],_,_,_,_,h,_,_=>by simp at h
 | _::_,[],_,_,_,_,h,_=>by simp at h
 | p::P,w::vs,0,m,nd,h1,h2,hk=>by
  simp at h1 h2;subst h1;subst h2
  show bindC kindOf ((p,w)::P.zip vs) m p=_
  unfold bindC
  rw [aBZ fun v hv=>(List.nodup_cons.mp nd).1 (List.of_mem_zip hv).1,if_neg hk]
  simp
 | p::P,w::vs,i+1,m,nd,h1,h2,hk=>by
  show bindC kindOf ((p,w)::P.zip vs) m x=_
  unfold bindC
  exact aB2 (i:=i) (List.nodup_cons.mp nd).2 (by simpa using h1) (by simpa using h2) hk
def mH (N:List Str) (vs:List V):St:=vs.map some++List.replicate (N.length-vs.length) none
def dZ (CX:CXT) (P:Program) (w:World) (K:PySem.W.Frag) (mg:Str→Option Value) (base:Heap) (N:List Str) (qual:Str) (scope:Scope) (f:Addr) (cd:Value) (A:Around) (outer:List Env) (s:Shared) (H:Hp) (E:XK):Cx where
 prog:=P
 w:=w
 K:=K
 mg:=mg
 base:=base
 A:=A.deeper (envOfC qual scope s.heap.objs.size f cd)
 N:=N
 s₀:=s
 H₀:=H
 env:=envOfC qual scope s.heap.objs.size f cd
 outer:=outer
 stack:=envOfC qual scope s.heap.objs.size f cd::outer
 ex:=[]
 calm:=true
 fn:=fun _=>true
 pn:=[]
 xe:=fun e s'=>wpAny (model P w) (A.deeper (envOfC qual scope s.heap.objs.size f cd)) (leaving (envOfC qual scope s.heap.objs.size f cd) e) (fun _ s''=>CX outer H s E e s'') (fun e' s''=>CX outer H s E e' s'') s'
theorem aDv {sc:Scope}{n:Nat}{x:Str} (h:sc.names.lookup x=some .cell):∃ c,(cellsFrom n sc.names []).lookup x=some c:=by
 have q:=PySem.W.cellsFrom_some sc.names n [] (.inl h)
 exact Option.isSome_iff_exists.mp q
theorem aG5 {CX:CXT}{P:Program}{w:World}{K:PySem.W.Frag}{mg:Str→Option Value}{base:Heap}{N ps:List Str}{qual:Str}{scope:Scope}{f:Addr}{cd:Value}{A:Around}{outer:List Env}{s s1:Shared}{H:Hp}{E:XK}{us:List Value}{vs:List V}
  (S:bA N ps scope) (hd:A.handled=none) (e0:aK4 P w K mg base A outer s H) (hl:vs.length=ps.length) (r:dR vs us)
  (x:InCallC s s.heap.objs.size (bindL (envOfC qual scope s.heap.objs.size f cd).kindOf (ps.zip us) fun _=>none) (cellsFrom (s.heap.objs.size+1) scope.names []) (bindC (envOfC qual scope s.heap.objs.size f cd).kindOf (ps.zip us) fun _=>none) s1) :
  bI (dZ CX P w K mg base N qual scope f cd A outer s H E) [] (mH N vs) H s1:=by
 have hpl:ps.length≤N.length:=by have:=congrArg List.length S.pre;rw [List.length_take] at this;omega
 obtain ⟨h1,tk,rfl,hk⟩:=x.done
 have noA:∀ b:Addr,b∉(dZ CX P w K mg base N qual scope f cd A outer s H E).ex:=fun b z=>absurd (show b∈([]:List Addr) from z) (by simp)
 refine ⟨⟨e0.mod,S.kind,rfl,rfl,Nat.le_refl _,fun y z c h1 h2=>?_,fun y hy=>?_,fun y c _ h=>?_,fun _=>hd,Around.frames_deeper e0.frames,.inr ⟨rfl,rfl⟩,fun b z=>absurd z (noA b),e0.bs,e0.bsz,fun b _ _=>noA b,fun b z=>absurd z (noA b),e0.funs,e0.frf⟩,
  rfl,e0.bare,Un.kept hk,⟨_,x.toInCall.ns,fun i y v h1 h2 h3=>?_⟩,fun y c h=>⟨_,x.cell y c h⟩,e0.hok.fresh (Nat.le_refl _),fun y c h=>?_,fun p hp=>absurd (show p∈([]:List (Addr×Obj)) from hp) (by simp),e0.hok.kept hk,?_⟩
 ·exact name_of_addr x.apart (PySem.mem_of_lookup h1) (PySem.mem_of_lookup h2)
 ·have hy:scope.names.lookup y=some .cell∨scope.names.lookup y=some .free:=hy
  rcases hy with hy | hy
  ·exact aDv hy
  ·exact absurd rfl (S.nofree _ (PySem.mem_of_lookup hy))
 ·exact Nat.le_of_lt (x.above y c (PySem.mem_of_lookup h))
 ·have hi:i<vs.length:=by
   unfold mH at h2
   by_cases hi:i<vs.length
   ·exact hi
   ·rw [List.getElem?_append_right (by simpa using hi)] at h2
    rw [List.getElem?_replicate] at h2
    split at h2 <;> cases h2
  have ha:vs[i]? = some v:=by
   unfold mH at h2
   rw [List.getElem?_append_left (by simpa using hi),List.getElem?_map] at h2
   cases e:vs[i]? with
   | none=>rw [e] at h2;cases h2
   | some a=>rw [e] at h2;cases h2;rfl
  obtain ⟨u,hu,rv⟩:=r.get ha
  have hp:ps[i]? = some y:=by
   rw [← S.pre,List.getElem?_take_of_lt (by omega)];exact h1
  have ndP:ps.Nodup:=by rw [← S.pre];exact S.nd.sublist (List.take_sublist _ _)
  refine ⟨u,rv,?_⟩
  rcases S.par y (List.mem_of_getElem? hp) with k | k
  ·exact .inl ⟨k,aCl ndP hp hu k⟩
  ·obtain ⟨c,e⟩:=aDv (n:=s.heap.objs.size+1) k
   refine .inr ⟨.inl k,c,e,?_⟩
   have q:=x.cell y c e
   rw [aB2 ndP hp hu (by show scope.names.lookup y≠_;rw [k];decide)] at q
   exact q
 ·exact e0.hok.fresh (Nat.le_of_lt (x.above y c (PySem.mem_of_lookup h)))
 ·unfold mH
  show _=N.length
  rw [List.length_append,List.length_map,List.length_replicate]
  omega
theorem aJ4 {CX:CXT}{P:Program}{w:World}{K:PySem.W.Frag}{mg:Str→Option Value}{base:Heap}{k:Nat}{f:Addr}{name qual:Str}{params:Arguments}{body:List Stmt}{scope:Scope}{dV kV doc pm cdv ct oc:Value}{an od:Option Addr}
  {osl:Array (Option Value)}{N ps:List Str}{sp:Sp} (lk:K.lookup f=some ⟨oc,od,.func (PySem.W.fnOf name qual params body scope dV kV doc pm an cdv ct),osl⟩) (hcd:PySem.W.codeIn K cdv qual=true) (S:bA N ps scope)
  (len:∀ vs H Q E,sp vs H Q E→vs.length=ps.length)
  (hbody:∀ (A:Around) (outer:List Env) (s:Shared) (H:Hp) (vs:List V) (Q:VK) (E:XK),cE k (A.deeper (envOfC qual scope s.heap.objs.size f cdv))→sp vs H Q E →
   ∃ t,PSs (dZ CX P w K mg base N qual scope f cdv A outer s H E) body t∧t { nx:=fun _ H'=>Q .non H',rt:=Q } (mH N vs) H) :
  vY P w K mg base CX (k+1) f (PySem.W.fnOf name qual params body scope dV kV doc pm an cdv ct) ps sp:=by
 refine ⟨len,fun A outer s H args us vs Q E hr e0 hb r hsp=>?_⟩
 have hl:=len _ _ _ _ hsp
 have KX:K.In s.heap:=e0.mod.kin.keeps fun b o e=>(e0.bs b o e).1
 have lim:s.heap.NoLimit:=e0.mod.nolimit.keeps fun b o e=>(e0.bs b o e).1
 have hkind:∀ y∈ps.zip us,scope.names.lookup y.1=some .local∨(scope.names.lookup y.1=some .cell∧((cellsFrom (s.heap.objs.size+1) scope.names []).lookup y.1).isSome=true):=fun ⟨n,v⟩ hy=>by
  rcases S.par n (List.of_mem_zip hy).1 with q | q
  ·exact .inl q
  ·exact .inr ⟨q,PySem.W.cellsFrom_some _ _ _ (.inl q)⟩
 refine codeAny_call_function hr.depth (KX _ _ lk) rfl S.co S.gen rfl (PySem.W.codeRec_of KX hcd) (hb _ _ _ _ ?_)
 refine wpAny_newFunctionEnv_cells S.kind hkind fun env he s1 x=>?_
 subst he
 refine ⟨lim.keeps x.toInCall.keep,codeAny_func ?_⟩
 obtain ⟨t,ht,hq⟩:=hbody A outer s H vs Q E (hr.deeper _) hsp
 have I:bI (dZ CX P w K mg base N qual scope f cdv A outer s H E) [] (mH N vs) H s1:=aG5 S hr.hd e0 hl r x
 refine wpAny_mono (ht [] s1 (mH N vs) H _ I hq) (fun fl s' hs=>?_) fun e s' hs=>hs
 have fin:∀ {σ':St}{H':Hp}{v:V}{u:Value},bI (dZ CX P w K mg base N qual scope f cdv A outer s H E) [] σ' H' s'→dD v u→Q v H'→CE outer P w H s Q u s':=
  fun {σ' H' v u} J rv q=>⟨v,H',J.os,J.bare,J.base,J.hok,rv,q⟩
 cases fl with
 | ret u=>
  obtain ⟨v,σ',H',J,rv,q⟩:=hs
  exact fin J rv q
 | next=>
  obtain ⟨σ',H',J,q⟩:=hs
  exact fin (v:=V.non) (u:=Value.none) J rfl q
 | brk=>
  obtain ⟨_,_,_,q⟩:=hs
  exact False.elim q
 | cont=>
  obtain ⟨_,_,_,q⟩:=hs
  exact False.elim q
section
variable {X:Cx}{x:Str}{p pos:Pos}{e:Expr}{es:List Expr}{t:TA}{id T:String}{r:List V→Hp→VK→Prop}
def tCB (r:List V→Hp→VK→Prop) (t:TA):TE:=fun σ H Q=>t σ H fun vs H1=>r vs H1 Q
theorem cQ (hc:lJ X (.builtin id) r) (hg:Gl X x) (hm:X.mg x=none) (hv:bootBuiltins x=some (.builtin id)) (ha:PA X (e::es) t) (hn:x≠"__name__":=by decide) (hdb:(x == ("__debug__":Str))=false:=by decide)
  (he:starEach (e::es) X.env=(false,eval e X.env)::starEach es X.env:=by rfl) (hpl:(backTo pos (starEach es X.env)).any (·.1)=false:=by rfl):PE X (.Call (.Name x p) (e::es) [] pos) (tCB r t):=by
 intro pins s σ H Q I h
 refine wpAny_Call_Name_kw (rB I hg hm hv ?_ hn hdb)
 exact PyProof.Rows.callWith_builtin1 (iA (ha pos pins s σ H _ I h) fun us s1 ⟨vs,H1,I1,r1,q1⟩=>hc pins s1 σ H1 vs us Q I1 r1 q1) he hpl
theorem cY (hc:lJ X (.type T) r) (hg:Gl X x) (hm:X.mg x=none) (hv:bootBuiltins x=some (.type T)) (ha:PA X (e::es) t) (hn:x≠"__name__":=by decide) (hdb:(x == ("__debug__":Str))=false:=by decide)
  (he:starEach (e::es) X.env=(false,eval e X.env)::starEach es X.env:=by rfl) (hpl:(backTo pos (starEach es X.env)).any (·.1)=false:=by rfl):PE X (.Call (.Name x p) (e::es) [] pos) (tCB r t):=by
 intro pins s σ H Q I h
 refine wpAny_Call_Name_kw (rB I hg hm hv ?_ hn hdb)
 exact PyProof.Rows.callWith_type1 (iA (ha pos pins s σ H _ I h) fun us s1 ⟨vs,H1,I1,r1,q1⟩=>hc pins s1 σ H1 vs us Q I1 r1 q1) he hpl
end
end L2
namespace HT
open PySem PyProof.Rows
section
open PySem.SeqAt
open PySem.AutoSeq1 (wpAny_loadPart')
open PySem.MeetsSeq PySem.MeetsSeq2 PySem.MeetsSeq3
end
section
variable {prog:Program}{w:World}{A:Around}{E:Value→Shared→Prop}{s:Shared}
theorem cat_tup {t b:Addr}{vs ws:List Value}{Q:Value→Shared→Prop} (ht:IsTup s.heap t vs.toArray) (hb:IsTup s.heap b ws.toArray) (hv:vs≠[])
  (h1:ws=[]→Q (.ref t) s) (h2:ws≠[]→Q (.ref s.heap.objs.size) { s with heap:=s.heap.push { cls:=.type "tuple",data:=.seq (vs++ws).toArray } })
  (hsz:vs.length+ws.length≤sizeLine):wpAny (model prog w) A (binaryOp .Add (.ref t) (.ref b)) Q E s:=by
 obtain ⟨⟨cls,dd,data,sl⟩,ho,hc,n,hd⟩:=id ht
 obtain ⟨⟨cls2,dd2,data2,sl2⟩,ho2,hc2,n2,hd2⟩:=id hb
 simp only at hc hd hc2 hd2
 subst hc hd hc2 hd2
 have e:vs.toArray++ws.toArray=(vs++ws).toArray:=by simp
 by_cases hw:ws=[]
 ·exact concat_meets ⟨_,ho,rfl⟩ ⟨_,ho2,rfl⟩ noFill_tuple_add seq_tuple_add PySem.F.slot_tuple_add PySem.F.entry_tuple_add (PySem.F.args_tuple_add_2 _ _)
   (tuple_addW1 t b vs.toArray ws.toArray n n2 dd dd2 sl sl2 (by simpa using hv) (by simp [hw])) ⟨ho,ho2,h1 hw⟩
 ·refine concat_meets ⟨_,ho,rfl⟩ ⟨_,ho2,rfl⟩ noFill_tuple_add seq_tuple_add PySem.F.slot_tuple_add PySem.F.entry_tuple_add (PySem.F.args_tuple_add_2 _ _)
   (tuple_addW2 t b vs.toArray ws.toArray n n2 dd dd2 sl sl2 (by simpa using hv) (by simpa using hw) (by rw [List.size_toArray,List.size_toArray];exact hsz)) ⟨ho,ho2,?_⟩
  rw [e]
  exact h2 hw
def sIx (n d:Nat):Option Int→Nat
 | none=>d
 | some v=>if v<0 then (v+(n:Int)).toNat else min v.toNat n
theorem sIx_none (n d:Nat):sIx n d none=d:=rfl
theorem sIx_nat (n d k:Nat):sIx n d (some (k:Int))=min k n:=by
 show (if (k:Int)<0 then ((k:Int)+(n:Int)).toNat else min (k:Int).toNat n)=min k n
 rw [if_neg (by omega),Int.toNat_natCast]
theorem aMR (n d:Nat) (hd:d≤n) (o:Option Int):sIx n d o≤n:=by
 cases o with
 | none=>exact hd
 | some v=>
  show (if v<0 then (v+(n:Int)).toNat else min v.toNat n)≤n
  by_cases hv:v<0
  ·rw [if_pos hv];omega
  ·rw [if_neg hv];exact Nat.min_le_right _ _
theorem aGZ (v:Int) (n d:Nat):(if v<0 then max (v+(n:Int)) 0 else min v (n:Int))=((sIx n d (some v):Nat):Int):=by
 show (if v<0 then max (v+(n:Int)) 0 else min v (n:Int))=(((if v<0 then (v+(n:Int)).toNat else min v.toNat n):Nat):Int)
 by_cases hv:v<0
 ·simp only [if_pos hv];omega
 ·simp only [if_neg hv];omega
theorem aFv (lo hi:Option Int) (n:Nat):Builtin.Slice.sliceAdjust lo hi 1 (n:Int)=(((sIx n 0 lo:Nat):Int),((sIx n n hi:Nat):Int)):=by
 have h1:¬ ((1:Int)<0):=by omega
 unfold Builtin.Slice.sliceAdjust
 simp only [h1,if_false]
 refine Prod.ext ?_ ?_
 ·cases lo with
  | none=>rfl
  | some v=>exact aGZ v n 0
 ·cases hi with
  | none=>rfl
  | some v=>exact aGZ v n n
theorem aFt (i j:Nat):Builtin.Slice.slicePlaces (i:Int) (j:Int) 1=j-i:=by
 unfold Builtin.Slice.slicePlaces
 have h1:(1:Int) > 0:=by omega
 simp only [h1,if_true,Int.ediv_one]
 split <;> omega
theorem aAt {v:Value}{o:Option Int}{Q:Option Int→Shared→Prop} (p:IsPart v o) (h:Q o s):wpAny (model prog w) A (Builtin.Slice.slicePartIndex v) Q E s:=by
 cases p with
 | none=>exact slicePart_none h
 | int i t=>exact slicePart_int h
theorem sliceApplied_gen {sl:Addr}{vl vu:Value}{lo hi:Option Int}{n:Nat}{Q:Int×Int×Nat→Shared→Prop} (hs:s.heap.IsSliceOf sl vl vu .none) (pl:IsPart vl lo) (pu:IsPart vu hi)
  (h:Q (((sIx n 0 lo:Nat):Int),1,sIx n n hi-sIx n 0 lo) s):wpAny (model prog w) A (Builtin.Slice.sliceApplied (.ref sl) (pure (n:Int))) Q E s:=by
 obtain ⟨os,hos,hcs,hds⟩:=id hs
 unfold Builtin.Slice.sliceApplied Builtin.Slice.sliceFields
 refine wpAny_bind (wpAny_bind (wpAny_field hos hds (x:=vl) rfl (wpAny_bind (wpAny_field hos hds (x:=vu) rfl (wpAny_bind (wpAny_field hos hds (x:=.none) rfl (wpAny_pure ?_)))))))
 refine wpAny_bind (slicePart_none ?_)
 show wpAny _ _ (if ((1:Int) == 0)=true then _ else _) _ _ s
 rw [if_neg (by decide)]
 refine wpAny_bind (aAt pl (wpAny_bind (aAt pu (wpAny_bind (wpAny_pure ?_)))))
 show wpAny _ _ (match Builtin.Slice.sliceAdjust lo hi 1 (n:Int) with | (lo,hi)=>pure (lo,(1:Int),Builtin.Slice.slicePlaces lo hi 1)) _ _ s
 rw [aFv lo hi n]
 show wpAny _ _ (pure (((sIx n 0 lo:Nat):Int),(1:Int),Builtin.Slice.slicePlaces ((sIx n 0 lo:Nat):Int) ((sIx n n hi:Nat):Int) 1)) _ _ s
 rw [aFt]
 exact wpAny_pure h
theorem aI6 (xs:Array Value) (i k:Nat):((List.range k).filterMap fun (m:Nat)=>xs[((i:Int)+(m:Int) * 1).toNat]?).toArray=((xs.toList.drop i).take k).toArray:=by
 have e:(fun (m:Nat)=>xs[((i:Int)+(m:Int) * 1).toNat]?)=fun m=>xs[i+m]? := by
  funext m
  have:((i:Int)+(m:Int) * 1).toNat=i+m:=by omega
  rw [this]
 rw [e]
 have:=pick_run xs i k
 rw [List.filterMap_map] at this
 have e2:((fun x=>xs[x]?) ∘ fun x=>i+x)=fun m=>xs[i+m]? := rfl
 rw [e2] at this
 rw [this]
theorem getItem_tuple_cut {t sl:Addr}{items:Array Value}{vl vu:Value}{lo hi:Option Int}{Q:Value→Shared→Prop} (ht:IsTup s.heap t items) (hs:s.heap.IsSliceOf sl vl vu .none) (pl:IsPart vl lo) (pu:IsPart vu hi)
  (hw:¬ (sIx items.size 0 lo=0∧sIx items.size items.size hi=items.size))
  (h:Q (.ref s.heap.objs.size) { s with heap:=s.heap.push { cls:=.type "tuple",data:=.seq ((items.toList.drop (sIx items.size 0 lo)).take (sIx items.size items.size hi-sIx items.size 0 lo)).toArray } })
  (hsz:items.size≤sizeLine):wpAny (model prog w) A (getItem (.ref t) (.ref sl)) Q E s:=by
 have htake:sizeOk (.seq ((items.toList.drop (sIx items.size 0 lo)).take (sIx items.size items.size hi-sIx items.size 0 lo)).toArray):=by
  show ((items.toList.drop (sIx items.size 0 lo)).take (sIx items.size items.size hi-sIx items.size 0 lo)).toArray.size≤sizeLine
  rw [List.size_toArray,List.length_take,List.length_drop,Array.length_toList]
  omega
 have hj:sIx items.size items.size hi≤items.size:=aMR _ _ (Nat.le_refl _) hi
 obtain ⟨os,hos,hcs,hds⟩:=id hs
 have hTs:s.TypeIs (.ref sl) "slice":=⟨os,hos,hcs⟩
 unfold getItem
 try with_reducible refine wpAny_holding ?_
 first | refine wpAny_bind (wpAny_pure ?_) | skip
 refine wpAny_bind (wpAny_sequenceKey ht.typeIs (by decide) ?_)
 refine wpAny_bind (wpAny_callSpecial?_slot (name:=Str.ofString "__getitem__") ht.typeIs PyProof.Rows.slot_tuple_getitem
  (wpAny_call_entry PyProof.Rows.slot_tuple_getitem ht.typeIs entry_tuple_getitem ?_ (args_tuple_getitem _ _)))
 show wpAny _ _ (Builtin.Tuple.tupleItemsOf (.ref t) >>= _) _ _ s
 refine wpAny_bind (tupleItemsOf_ ht ?_)
 refine wpAny_bind (wpAny_typeOf hTs ?_)
 rw [if_pos (by decide)]
 refine wpAny_bind (sliceApplied_gen hs pl pu ?_)
 have hno:¬ ((((sIx items.size 0 lo:Nat):Int) == 0 && (1:Int) == 1 && (sIx items.size items.size hi-sIx items.size 0 lo) == items.size)=true):=by
  intro q
  rw [Bool.and_eq_true,Bool.and_eq_true] at q
  have q1:((sIx items.size 0 lo:Nat):Int)=0:=eq_of_beq q.1.1
  have q2:sIx items.size items.size hi-sIx items.size 0 lo=items.size:=eq_of_beq q.2
  exact hw ⟨by omega,by omega⟩
 show wpAny _ _ (if (((sIx items.size 0 lo:Nat):Int) == 0 && (1:Int) == 1 && (sIx items.size items.size hi-sIx items.size 0 lo) == items.size)=true then _ else _) _ _ s
 rw [if_neg hno,aI6]
 first
  | exact wpAny_bind (m:=Builtin.Tuple.tupleExact _) (wpAny_newObj_type (wpAny_pure ⟨_,rfl,wpAny_pure h⟩) htake)
  | exact wpAny_bind (m:=Builtin.Tuple.tupleExact _) (wpAny_newObj_type (wpAny_bind (wpAny_pure (wpAny_pure ⟨_,rfl,wpAny_pure h⟩))) htake)
  | exact wpAny_bind (wpAny_bind (m:=Builtin.Tuple.tupleExact _) (wpAny_newObj_type (wpAny_pure (wpAny_pure ⟨_,rfl,wpAny_pure h⟩)) htake))
  | exact wpAny_bind (wpAny_bind (m:=Builtin.Tuple.tupleExact _) (wpAny_newObj_type (wpAny_pure ⟨_,rfl,wpAny_pure h⟩) htake))
end
end HT
namespace L2
open PySem PySem.Spec PyProof.Rows
abbrev TO:=St→Hp→(Option Int→Hp→Prop)→Prop
def PO (X:Cx) (e:Option Expr) (t:TO):Prop:=
 ∀ (pins:List (Addr×Obj)) (s:Shared) (σ:St) (H:Hp) (Q:Option Int→Hp→Prop),bI X pins σ H s→t σ H Q →
  wpAny (model X.prog X.w) X.A (evalPart e X.env) (fun u s'=>∃ o H',bI X pins σ H' s'∧IsPart u o∧Q o H') X.xe s
def aKf:TO:=fun _ H Q=>Q none H
def aNf (t:TE):TO:=fun σ H Q=>t σ H fun x H1=>∃ i,x = .int i∧Q (some i) H1
theorem aFO {ns:List Int}:∀ {us:List Value},dR (ns.map V.int) us→IntsAre us ns:=by
 induction ns with
 | nil=>intro us r;rw [List.map_nil] at r;cases r;exact .nil
 | cons n ns ih=>
  intro us r
  rw [List.map_cons] at r
  cases r with
  | cons r1 r2=>
   obtain ⟨t,e⟩:=r1
   subst e
   exact .cons n t (ih r2)
section
variable {X:Cx}{e:Expr}{te:TE}{lo hi:Option Expr}{tl th:TO}{pos p2:Pos}
theorem aK0:PO X none aKf:=by
 intro pins s σ H Q I h
 rw [evalPart_none]
 exact wpAny_pure ⟨none,H,I,.none,h⟩
theorem aKR (h:PE X e te):PO X (some e) (aNf te):=by
 intro pins s σ H Q I hw
 rw [evalPart_some]
 refine iA (h pins s σ H _ I hw) fun u s1 ⟨x,H1,I1,r1,q1⟩=>?_
 obtain ⟨i,rfl,q⟩:=q1
 obtain ⟨t,rfl⟩:=r1
 exact ⟨some i,H1,I1,.int i t,q⟩
def SlR (X:Cx) (r:V→Option Int→Option Int→Hp→VK→Prop):Prop:=
 ∀ (pins:List (Addr×Obj)) (s:Shared) (σ:St) (H:Hp) (x:V) (v vl vu:Value) (lo hi:Option Int) (sl:Addr) (Q:VK),bI X pins σ H s→dD x v→s.heap.IsSliceOf sl vl vu .none→IsPart vl lo→IsPart vu hi→r x lo hi H Q →
  ∃ T id,typeLookup (.type T) "__getitem__"=pure (some (.builtin id))∧s.TypeIs v T∧wpAny (model X.prog X.w) X.A (getItem v (.ref sl)) (EP X pins σ Q) X.xe s
theorem SlR.or {r r':V→Option Int→Option Int→Hp→VK→Prop} (h:SlR X r) (h':SlR X r'):SlR X (fun x lo hi H Q=>r x lo hi H Q∨r' x lo hi H Q):=by
 intro pins s σ H x v vl vu lo hi sl Q I rx hs pl pu q
 rcases q with q | q
 ·exact h pins s σ H x v vl vu lo hi sl Q I rx hs pl pu q
 ·exact h' pins s σ H x v vl vu lo hi sl Q I rx hs pl pu q
def tSl (r:V→Option Int→Option Int→Hp→VK→Prop) (te:TE) (tl th:TO):TE:=fun σ H Q=>te σ H fun x H1=>tl σ H1 fun l H2=>th σ H2 fun u H3=>r x l u H3 Q
theorem aEE {r:V→Option Int→Option Int→Hp→VK→Prop} (hr:SlR X r) (he:PE X e te) (hl:PO X lo tl) (hu:PO X hi th):PE X (.Subscript e (.Slice lo hi none p2) pos) (tSl r te tl th):=by
 intro pins s σ H Q I h
 refine Subscript_ (iA (he pins s σ H _ I h) fun v s1 ⟨x,H1,I1,r1,q1⟩=>?_)
 refine wpAny_Slice (iA (hl pins s1 σ H1 _ I1 q1) fun vl s2 ⟨l,H2,I2,pl,q2⟩=>iA (hu pins s2 σ H2 _ I2 q2) fun vu s3 ⟨u,H3,I3,pu,q3⟩=>?_)
 rw [evalPart_none]
 refine wpAny_pure ?_
 have I4:bI X pins σ H3 { s3 with heap:=s3.heap.push { cls:=.type "slice",data:=.fields #[vl,vu,.none] } }:=I3.kept (t':=s3.toks) fun b ob q=>Heap.get?_push_of_some _ q
 obtain ⟨T,id,hT,ht,hg⟩:=hr pins { s3 with heap:=s3.heap.push { cls:=.type "slice",data:=.fields #[vl,vu,.none] } } σ H3 x v vl vu l u s3.heap.objs.size Q I4 r1 (Heap.IsSliceOf.new ..) pl pu q3
 show wpAny (model X.prog X.w) X.A (subscriptTail e (.Slice lo hi none p2) v (.ref s3.heap.objs.size)) (EP X pins σ Q) X.xe { s3 with heap:=s3.heap.push { cls:=.type "slice",data:=.fields #[vl,vu,.none] } }
 exact tail_any (ops:=[.ref s3.heap.objs.size,v]) ht hT hg (by with_unfolding_all rfl)
def aDq (xs:List V) (lo hi:Option Int):List V:=(xs.drop (HT.sIx xs.length 0 lo)).take (HT.sIx xs.length xs.length hi-HT.sIx xs.length 0 lo)
theorem yF (xs:List V) (lo hi:Option Int):(aDq xs lo hi).length≤xs.length:=by
 unfold aDq
 rw [List.length_take,List.length_drop]
 omega
def aOR (K:PySem.W.Frag):V→Option Int→Option Int→Hp→VK→Prop:=fun x lo hi H Q=>∃ a xs,x = .ref a∧kS K H a xs ∧
 ¬ (HT.sIx xs.length 0 lo=0∧HT.sIx xs.length xs.length hi=xs.length)∧∀ p,H p=none→Q (.ref p) (upd H p (.tup (aDq xs lo hi)))
theorem aMD:SlR X (aOR X.K):=by
 intro pins s σ H x v vl vu lo hi sl Q I rx hs pl pu h
 obtain ⟨a,xs,rfl,hx,hw,q⟩:=h
 cases rx
 obtain ⟨its,r,ht,hz⟩:=I.tuple hx
 have hlen:its.toArray.size=xs.length:=by rw [List.size_toArray];exact r.length.symm
 refine ⟨"tuple",_,PyProof.Rows.slot_tuple_getitem.lookup,ht.typeIs,?_⟩
 refine HT.getItem_tuple_cut ht hs pl pu (by rw [hlen];exact hw) ?_ (by rw [hlen];exact hz)
 rw [hlen]
 refine ⟨.ref s.heap.objs.size,_,I.laid (t':=s.toks) (o:=.tup (aDq xs lo hi)) (fun b ob q=>Heap.get?_push_of_some _ q) (Nat.le_refl _) ?_,rfl,q _ (I.hok.fresh (Nat.le_refl _))⟩
 exact ⟨Nat.le_trans (yF xs lo hi) hz,_,(r.drop (HT.sIx xs.length 0 lo)).take (HT.sIx xs.length xs.length hi-HT.sIx xs.length 0 lo),IsTup.new _ _⟩
def aN9 (K:PySem.W.Frag):R2:=fun x y H Q=>∃ a b xs ys,x = .ref a∧y = .ref b∧kS K H a xs∧kS K H b ys∧xs≠[]∧xs.length+ys.length≤sizeLine ∧
 (ys=[]→Q (.ref a) H)∧(ys≠[]→∀ p,H p=none→Q (.ref p) (upd H p (.tup (xs++ys))))
theorem dR.nil_iff {xs:List V}{us:List Value} (r:dR xs us):us=[]↔xs=[]:=by
 cases r with
 | nil=>simp
 | cons _ _=>simp
theorem aKw:tO X (binaryOp .Add) (aN9 X.K):=by
 intro pins s σ H x y v u Q I rx ry h
 obtain ⟨a,b,xs,ys,rfl,rfl,ha,hb,hx,hz,q1,q2⟩:=h
 cases rx
 cases ry
 obtain ⟨its,r1,p1,_⟩:=I.tuple ha
 obtain ⟨its2,r2,p2,_⟩:=I.tuple hb
 refine HT.cat_tup p1 p2 (fun z=>hx (r1.nil_iff.mp z)) (fun z=>⟨.ref a,H,I,rfl,q1 (r2.nil_iff.mp z)⟩) (fun z=>?_) (by rw [← r1.length,← r2.length];exact hz)
 refine ⟨.ref s.heap.objs.size,_,I.laid (t':=s.toks) (o:=.tup (xs++ys)) (fun b ob q=>Heap.get?_push_of_some _ q) (Nat.le_refl _) ?_,rfl,q2 (fun w=>z (r2.nil_iff.mpr w)) _ (I.hok.fresh (Nat.le_refl _))⟩
 exact ⟨by rw [List.length_append];exact hz,_,r1.append r2,IsTup.new _ _⟩
end
def ixN (n:Nat) (i:Int):Option Nat:=if 0≤i then (if i<n then some i.toNat else none) else if -(n:Int)≤i then some (i+n).toNat else none
def gL {α:Type} (xs:List α) (i:Int):Option α:=(ixN xs.length i).bind fun j=>xs[j]?
theorem aK2 {n:Nat}{i:Int}{j:Nat} (h:ixN n i=some j):seqIndex? i n=some j∧j<n ∧ -(n:Int)≤i∧i<n:=by
 unfold ixN at h
 by_cases h0:0≤i
 ·rw [if_pos h0] at h
  by_cases h1:i<n
  ·rw [if_pos h1] at h
   have e:i.toNat=j:=Option.some.inj h
   exact ⟨by rw [seqIndex_of h0 h1,e],by omega,by omega,h1⟩
  ·rw [if_neg h1] at h;cases h
 ·rw [if_neg h0] at h
  by_cases h1 : -(n:Int)≤i
  ·rw [if_pos h1] at h
   have e:(i+n).toNat=j:=Option.some.inj h
   exact ⟨by rw [seqIndex_neg (by omega) h1,e],by omega,h1,by omega⟩
  ·rw [if_neg h1] at h;cases h
theorem aC4 {α:Type}{xs:List α}{i:Int}{v:α} (h:gL xs i=some v):∃ j,seqIndex? i xs.length=some j∧xs[j]? = some v∧j<xs.length ∧ -(xs.length:Int)≤i∧i<xs.length:=by
 unfold gL at h
 cases e:ixN xs.length i with
 | none=>rw [e] at h;cases h
 | some j=>
  rw [e] at h
  obtain ⟨h1,h2,h3,h4⟩:=aK2 e
  exact ⟨j,h1,h,h2,h3,h4⟩
def aGK (b:Expr):Prop:=∀ o i,subscripted b false o i=operate [o,i] (getItem o i)
def IxR (X:Cx) (r:R2):Prop:=
 ∀ (value slice:Expr) (pins:List (Addr×Obj)) (s:Shared) (σ:St) (H:Hp) (x y:V) (v u:Value) (Q:VK),bI X pins σ H s→dD x v→dD y u→r x y H Q →
  subscripted slice false v u=operate [v,u] (getItem v u)→wpAny (model X.prog X.w) X.A (subscriptTail value slice v u) (EP X pins σ Q) X.xe s
def MtR (X:Cx) (id:String) (r:V→List V→Hp→VK→Prop):Prop:=
 ∀ (pins:List (Addr×Obj)) (s:Shared) (σ:St) (H:Hp) (x:V) (xs:List V) (v:Value) (us:List Value) (Q:VK),bI X pins σ H s→dD x v→dR xs us→r x xs H Q →
  wpAny (model X.prog X.w) X.A (call (.builtin id) (v::us)) (EP X pins σ Q) X.xe s
section
variable {X:Cx}{a b:Expr}{ta tb:TE}{pos:Pos}
theorem IxR.or {r r':R2} (h:IxR X r) (h':IxR X r'):IxR X (fun x y H Q=>r x y H Q∨r' x y H Q):=by
 intro value slice pins s σ H x y v u Q I rx ry q hs
 rcases q with q | q
 ·exact h value slice pins s σ H x y v u Q I rx ry q hs
 ·exact h' value slice pins s σ H x y v u Q I rx ry q hs
theorem aNr {r:R2} (hr:IxR X r) (ha:PE X a ta) (hb:PE X b tb) (hs:aGK b):PE X (.Subscript a b pos) (tOp r ta tb):=by
 intro pins s σ H Q I h
 exact Subscript_ (aMS ha hb I h fun v u s2 x y H2 I2 rx ry q=>hr a b pins s2 σ H2 x y v u Q I2 rx ry q (hs _ _))
def aNg (K:PySem.W.Frag):R2:=fun x y H Q=>∃ p xs i v,x = .ref p∧y = .int i∧lI K H p xs∧gL xs i=some v∧Q v H
def aNz (K:PySem.W.Frag):R2:=fun x y H Q=>∃ p xs i v,x = .ref p∧y = .int i∧kS K H p xs∧gL xs i=some v∧Q v H
def aNm:R2:=fun x y H Q=>∃ z i c,x = .str z∧y = .int i∧z.length≤sizeLine∧gL z.cps.toList i=some c∧Q (.str ⟨#[c]⟩) H
theorem aKn:IxR X (aNg X.K):=by
 intro value slice pins s σ H x y v u Q I rx ry h hs
 obtain ⟨p,xs,i,z,rfl,rfl,hq,he,q⟩:=h
 cases rx
 obtain ⟨t,rfl⟩:=ry
 obtain ⟨its,r,pl,hz⟩:=I.list hq
 obtain ⟨j,h1,h2,h3,h4,h5⟩:=aC4 he
 obtain ⟨w,ew,rw'⟩:=r.get h2
 have hl:=r.length
 have hn:=aAs
 have fin:EP X pins σ Q w s:=⟨z,H,I,rw',q⟩
 by_cases h0:0≤i
 ·have hj:i.toNat=j:=by
   rw [seqIndex_of h0 h5] at h1
   exact Option.some.inj h1
  exact item_listR pl.isList h0 (by omega) (by rw [hj];simpa using ew) fin hs
 ·have hj:(i+(its.toArray.size:Int)).toNat=j:=by
   rw [seqIndex_neg (by omega) h4] at h1
   rw [List.size_toArray,← hl]
   exact Option.some.inj h1
  exact subscriptTail_builtinR (x:=w) pl.isList.typeIs slot_list_getitem.lookup
   (wpAny_getItem_list_neg (Q:=fun r s'=>r=w∧EP X pins σ Q r s') pl.isList (by omega) (by rw [List.size_toArray] <;> omega) (by omega) (by rw [hj];simpa using ew) ⟨rfl,fin⟩) hs
theorem aMW:IxR X (aNz X.K):=by
 intro value slice pins s σ H x y v u Q I rx ry h hs
 obtain ⟨p,xs,i,z,rfl,rfl,hq,he,q⟩:=h
 cases rx
 obtain ⟨t,rfl⟩:=ry
 obtain ⟨its,r,pl,hz⟩:=I.tuple hq
 obtain ⟨j,h1,h2,h3,h4,h5⟩:=aC4 he
 obtain ⟨w,ew,rw'⟩:=r.get h2
 have hl:=r.length
 have hn:=aAs
 have fin:EP X pins σ Q w s:=⟨z,H,I,rw',q⟩
 exact subscriptTail_builtinR (x:=w) pl.typeIs slot_tuple_getitem.lookup
  (getItem_tuple (j:=j) (Q:=fun r s'=>r=w∧EP X pins σ Q r s') pl (by omega) (by omega) (by rw [List.size_toArray,← hl];exact h1) (by simpa using ew) ⟨rfl,fin⟩) hs
theorem aM2:IxR X aNm:=by
 intro value slice pins s σ H x y v u Q I rx ry h hs
 obtain ⟨z,i,c,rfl,rfl,hz,he,q⟩:=h
 obtain ⟨t,rfl⟩:=rx
 obtain ⟨t',rfl⟩:=ry
 obtain ⟨j,h1,h2,h3,h4,h5⟩:=aC4 he
 have hl:z.cps.toList.length=z.length:=by simp [Str.length]
 rw [hl] at h1 h4 h5
 have hn:=aAs
 exact tail_any (typeIs_str s z t) slot_str_getitem.lookup (getItem_str (c:=c) (by
  have e1:decide (i < -(2 ^ 63:Int))=false:=decide_eq_false (by omega)
  have e2:decide (i ≥ 2 ^ 63)=false:=decide_eq_false (by omega)
  rw [e1,e2,Bool.or_false]) (by rw [h1];simpa using h2) ⟨.str ⟨#[c]⟩,H,I.tok _,⟨_,rfl⟩,q⟩) hs
def rIx (K:PySem.W.Frag):R2:=fun x y H Q=>aNg K x y H Q∨aNz K x y H Q∨aNm x y H Q
theorem aL8:IxR X (rIx X.K):=aKn.or (aMW.or aM2)
theorem aC0 (lo hi:Option Int) (n:Nat):(sliceBounds lo hi none n).1=((HT.sIx n 0 lo:Nat):Int)∧(sliceBounds lo hi none n).2.1=((HT.sIx n n hi:Nat):Int)∧(sliceBounds lo hi none n).2.2=1:=by
 refine ⟨?_,?_,rfl⟩
 ·cases lo with
  | none=>simp [sliceBounds,HT.sIx]
  | some i=>
   simp only [sliceBounds,HT.sIx,Option.getD_none,show (1:Int) > 0 by decide,if_true]
   by_cases h:i<0
   ·simp only [h,if_true] <;> omega
   ·simp only [h,if_false] <;> omega
 ·cases hi with
  | none=>simp [sliceBounds,HT.sIx]
  | some i=>
   simp only [sliceBounds,HT.sIx,Option.getD_none,show (1:Int) > 0 by decide,if_true]
   by_cases h:i<0
   ·simp only [h,if_true] <;> omega
   ·simp only [h,if_false] <;> omega
theorem aBH (its:List Value) (lo hi:Option Int):slicePick its.toArray lo hi none=((its.drop (HT.sIx its.length 0 lo)).take (HT.sIx its.length its.length hi-HT.sIx its.length 0 lo)).toArray:=by
 obtain ⟨h1,h2,h3⟩:=aC0 lo hi its.toArray.size
 unfold slicePick
 rw [h1,h2,h3]
 simp only [sliceRange_one,pick_run,List.size_toArray] <;> rfl
def aOP (K:PySem.W.Frag):V→Option Int→Option Int→Hp→VK→Prop:=fun x lo hi H Q=>∃ a xs,x = .ref a∧lI K H a xs∧∀ p,H p=none→Q (.ref p) (upd H p (.lst (aDq xs lo hi)))
theorem aKT:SlR X (aOP X.K):=by
 intro pins s σ H x v vl vu lo hi sl Q I rx hs pl pu h
 obtain ⟨a,xs,rfl,hx,q⟩:=h
 cases rx
 obtain ⟨its,r,ht,hz⟩:=I.list hx
 have hlen:=r.length
 refine ⟨"list",_,slot_list_getitem.lookup,ht.isList.typeIs,?_⟩
 refine wpAny_getItem_list_slice ht.isList hs pl pu .none (by simp) ?_ (by rw [List.size_toArray] <;> omega)
 rw [aBH,← hlen]
 refine ⟨.ref s.heap.objs.size,_,I.laid (t':=s.toks) (o:=.lst (aDq xs lo hi)) (fun b ob q=>Heap.get?_push_of_some _ q) (Nat.le_refl _) ?_,rfl,q _ (I.hok.fresh (Nat.le_refl _))⟩
 exact ⟨Nat.le_trans (yF xs lo hi) hz,_,0,(r.drop (HT.sIx xs.length 0 lo)).take (HT.sIx xs.length xs.length hi-HT.sIx xs.length 0 lo),Heap.get?_push_size _ rfl⟩
theorem aCU:lJ X (.builtin "len") (fun xs H Q=>∃ p ys,xs=[.ref p]∧(lI X.K H p ys∨kS X.K H p ys)∧Q (.int ys.length) H):=by
 intro pins s σ H xs us Q I r h
 obtain ⟨p,ys,rfl,hq,q⟩:=h
 obtain ⟨u,rfl,rx⟩:=rN r
 cases rx
 have hn:=aAs
 rcases hq with hq | hq
 ·obtain ⟨its,r',pl,hz⟩:=I.list hq
  have hlen:=r'.length
  exact Calls.call_len_list pl.isList (by simp only [List.size_toArray] <;> omega) ⟨.int ys.length,H,I.tok _,⟨s.toks+1,by rw [List.size_toArray,hlen]⟩,q⟩
 ·obtain ⟨its,r',pl,hz⟩:=I.tuple hq
  have hlen:=r'.length
  exact len_tuple pl (by simp only [List.size_toArray] <;> omega) ⟨.int ys.length,H,I.tok _,⟨s.toks+1,by rw [List.size_toArray,hlen]⟩,q⟩
theorem aBt:lJ X (.type "tuple") (fun xs H Q=>∃ p ys,xs=[.ref p]∧((lI X.K H p ys∧∀ l,H l=none→Q (.ref l) (upd H l (.tup ys)))∨(kS X.K H p ys∧Q (.ref p) H))):=by
 intro pins s σ H xs us Q I r h
 obtain ⟨p,ys,rfl,h⟩:=h
 obtain ⟨u,rfl,rx⟩:=rN r
 cases rx
 rcases h with ⟨hq,q⟩ | ⟨hq,q⟩
 ·obtain ⟨its,r',pl,hz⟩:=I.list hq
  have hlen:=r'.length
  refine call_tuple_list pl.isList (fun h' kp=>?_) (by simp only [List.size_toArray] <;> omega)
  have I1:bI X pins σ H { s with heap:=h' }:=I.kept (t':=s.toks) kp
  have I2:bI X pins σ (upd H h'.objs.size (.tup ys)) { s with heap:=h'.push { cls:=.type "tuple",data:=.seq its.toArray } }:=
   I1.laid (t':=s.toks) (fun b o e=>Heap.get?_push_of_some _ e) (Nat.le_refl _) (show iZ X.prog X.w _ _ _ (.tup ys) from ⟨hz,its,r',IsTup.new _ _⟩)
  exact ⟨.ref h'.objs.size,_,I2,rfl,q _ (I1.hok.fresh (Nat.le_refl _))⟩
 ·obtain ⟨its,r',pl,hz⟩:=I.tuple hq
  exact call_tuple_same pl ⟨.ref p,H,I,rfl,q⟩
def tyV (K:PySem.W.Frag) (T:String) (x:V) (H:Hp):Prop:=match x with
 | .str _=>T="str"
 | .int _=>T="int"
 | .ref p=>(T="list"∧∃ xs,lI K H p xs)∨(T="tuple"∧∃ o,K.lookup p=some o∧o.cls = .type "tuple"∧o.dict=none) ∨
   (T="dict"∧((∃ kvs,H p=some (.dK kvs))∨∃ kvs,H p=some (.dT kvs)))∨(T="set"∧∃ S n,H p=some (.set S n))
 | _=>False
theorem aLX {pins:List (Addr×Obj)}{σ:St}{H:Hp}{s:Shared}{T:String}{x:V}{v:Value} (I:bI X pins σ H s) (r:dD x v) (ty:tyV X.K T x H) :
  s.TypeIs v T∧∀ a,v = .ref a→∃ ob,s.heap.get? a=some ob∧ob.dict=none:=by
 cases x with
 | str z=>
  obtain ⟨t,rfl⟩:=r
  cases (show T="str" from ty)
  exact ⟨typeIs_str s z t,fun _ e=>nomatch e⟩
 | int i=>
  obtain ⟨t,rfl⟩:=r
  cases (show T="int" from ty)
  exact ⟨typeIs_int s i t,fun _ e=>nomatch e⟩
 | ref p=>
  cases r
  rcases ty with ⟨rfl,xs,hq⟩ | ⟨rfl,o,hk,hc,hd⟩ | ⟨rfl,hk⟩ | ⟨rfl,S,n,hk⟩
  ·obtain ⟨its,_,pl,_⟩:=I.list hq
   refine ⟨pl.isList.typeIs,fun a e=>?_⟩
   cases e
   obtain ⟨o,n,e,c,hd,_⟩:=pl
   exact ⟨o,e,hd⟩
  ·refine ⟨⟨o,I.kIn p o hk,hc⟩,fun a e=>?_⟩
   cases e
   exact ⟨o,I.kIn _ o hk,hd⟩
  ·have z:∃ o,s.heap.get? p=some o∧o.ExactDict:=by
    rcases hk with ⟨kvs,hk⟩ | ⟨kvs,hk⟩
    ·obtain ⟨_,_,_,_,o,_,_,e,ex,_⟩:=I.hok p _ hk
     exact ⟨o,e,ex⟩
    ·obtain ⟨_,_,_,_,o,_,_,e,ex,_⟩:=I.hok p _ hk
     exact ⟨o,e,ex⟩
   obtain ⟨o,e,ex⟩:=z
   refine ⟨⟨o,e,ex.1⟩,fun a e2=>?_⟩
   cases e2
   exact ⟨o,e,ex.2.1⟩
  ·obtain ⟨o,_,_,_,e,ex,_⟩:=I.hok p _ hk
   refine ⟨⟨o,e,ex.1⟩,fun a e2=>?_⟩
   cases e2
   exact ⟨o,e,ex.2.1⟩
 | _=>exact False.elim ty
def tBM (K:PySem.W.Frag) (T:String) (r:V→List V→Hp→VK→Prop) (to:TE) (t:TA):TE:=fun σ H Q=>to σ H fun x H1=>tyV K T x H1∧t σ H1 fun xs H2=>r x xs H2 Q
variable {o e:Expr}{es:List Expr}{to:TE}{t:TA}{name:Str}{apos cpos:Pos}{T id:String}{r:V→List V→Hp→VK→Prop}
theorem tW (pa:PlainAttrs T) (slot:Slot T name id) (hty:typeOf (.builtin id)=pure (.type "method_descriptor")) (hm:MtR X id r) (ho:PE X o to) (ha:PA X (e::es) t)
  (hbase:attributeBase o name X.env (eval o X.env)=eval o X.env:=by rfl)
  (hfew:((backTo cpos (starEach (e::es) X.env)).all (fun x=>!x.1) && (backToKw cpos (keywordEach [] X.env)).all (fun x=>x.1.isSome)
   && decide ((e::es).length+([]:List Keyword).length+(if ([]:List Keyword).isEmpty then 0 else 1)<30))=true:=by rfl)
  (hline:(apos.endLine == cpos.line)=true:=by rfl) (hs:starEach (e::es) X.env=(false,eval e X.env)::starEach es X.env:=by rfl) (hplain:(backTo cpos (starEach es X.env)).any (·.1)=false:=by rfl) :
  PE X (.Call (.Attribute o name apos) (e::es) [] cpos) (tBM X.K T r to t):=by
 intro pins s σ H Q I h
 refine wpAny_Call_method_late hbase hfew hline rfl (iA (ho pins s σ H _ I h) fun v s1 ⟨x,H1,I1,r1,ty,q1⟩=>?_)
 obtain ⟨h1,h2⟩:=aLX I1 r1 ty
 refine ⟨T,id,pa,slot,hty,h1,h2,?_⟩
 have hA:=ha cpos pins s1 σ H1 _ I1 q1
 rw [hs] at hA ⊢
 refine Calls.callWith_builtin (by show (false || (backTo cpos (starEach es X.env)).any (·.1))=false;rw [hplain] <;> rfl) (Calls.evalArgs_plain ?_)
 exact iA hA fun us s2 ⟨vs,H2,I2,r2,q2⟩=>hm pins s2 σ H2 x vs v us Q I2 r1 r2 q2
end
def MtM (X:Cx) (id:String) (r:V→List V→Hp→VK→Prop):Prop:=
 ∀ (pins:List (Addr×Obj)) (s:Shared) (σ:St) (H:Hp) (x:V) (xs:List V) (v:Value) (us:List Value) (Q:VK),bI X pins σ H s→dD x v→dR xs us→r x xs H Q →
  wpAny (model X.prog X.w) X.A (call (.builtin id) (v::us)) (EP X pins σ Q) X.xe s
theorem dR.one:∀ {x:V}{us:List Value},dR [x] us→∃ u,us=[u]∧dD x u
 | _,_,.cons r .nil=>⟨_,rfl,r⟩
theorem dR.rep {xs:List V}{us:List Value} (h:dR xs us):∀ k:Nat,dR (List.replicate k xs).flatten (List.replicate k us).flatten
 | 0=>.nil
 | k+1=>by
  rw [List.replicate_succ,List.replicate_succ,List.flatten_cons,List.flatten_cons]
  exact dR.append h (dR.rep h k)
theorem sJ (its:List Value):∀ (k:Nat) (acc:List Value),
  List.foldl (fun x1 x2=>x1++x2) acc.toArray (List.replicate k its.toArray)=(acc++(List.replicate k its).flatten).toArray
 | 0,acc=>by simp
 | k+1,acc=>by
  have e:acc.toArray++its.toArray=(acc++its).toArray:=by simp
  have e2:(acc++its)++(List.replicate k its).flatten=acc++(List.replicate (k+1) its).flatten:=by
   rw [List.replicate_succ,List.flatten_cons,List.append_assoc]
  rw [← e2,← sJ its k (acc++its),← e,List.replicate_succ,List.foldl_cons]
section
variable {X:Cx}{pins:List (Addr×Obj)}{σ:St}{H:Hp}{s:Shared}{l b:Addr}{xs ys zs:List V}
theorem bI.lset {its its':List Value}{n:Nat}{f:Array Value→Array Value}{t':Nat} (I:bI X pins σ H s) (hH:H l=some (.lst xs))
  (e:s.heap.get? l=some { cls:=.type "list",data:=.seq its.toArray n }) (hf:f its.toArray=its'.toArray) (hv:dR ys its') (hz:ys.length≤sizeLine) :
  bI X pins σ (upd H l (.lst ys)) { s with heap:=s.heap.update l (Obj.mapSeq f),toks:=t' }:=by
 have q:=PySem.IsL.update e f
 rw [hf] at q
 refine I.write (x:=l) (e:=l) (by rw [hH];exact trivial) (.inl rfl) (fun b' u hb hu=>(Heap.get?_update_other s.heap (Obj.mapSeq f) (Ne.symm hb)).trans hu) ⟨_,q⟩ ?_
 exact ⟨hz,its',_,hv,q⟩
theorem bI.lnew {its:List Value}{t':Nat} (I:bI X pins σ H s) (hv:dR ys its) (hz:ys.length≤sizeLine) :
  bI X pins σ (upd H s.heap.objs.size (.lst ys)) { s with heap:=s.heap.push { cls:=.type "list",data:=.seq its.toArray },toks:=t' }:=
 I.laid (fun _ _ q=>Heap.get?_push_of_some _ q) (Nat.le_refl _) ⟨hz,its,0,hv,Heap.get?_push_size _ rfl⟩
theorem bI.fresh (I:bI X pins σ H s):H s.heap.objs.size=none:=I.hok.fresh (Nat.le_refl _)
theorem bI.lstM (I:bI X pins σ H s) (hH:H l=some (.lst xs)):xs.length≤sizeLine∧∃ (its:List Value) (n:Nat),dR xs its∧xs.length=its.length∧s.heap.get? l=some { cls:=.type "list",data:=.seq its.toArray n }:=by
 obtain ⟨z,its,n,r,e⟩:=I.hok l _ hH
 exact ⟨z,its,n,r,r.length,e⟩
theorem aEO {n:Nat} (h:n≤sizeLine):Builtin.List.listTooLong n=false:=by
 unfold Builtin.List.listTooLong
 exact decide_eq_false (by omega)
end
section
variable {X:Cx}
def aGQ:V→List V→Hp→VK→Prop:=fun x vs H Q=>∃ l xs y,x = .ref l∧vs=[y]∧H l=some (.lst xs)∧xs.length<sizeLine∧Q .non (upd H l (.lst (xs++[y])))
theorem jK:MtM X "list.append" aGQ:=by
 intro pins s σ H x vs v us Q I rx rv h
 obtain ⟨l,xs,y,rfl,rfl,hH,hz,q⟩:=h
 cases rx
 obtain ⟨u,rfl,ru⟩:=rv.one
 obtain ⟨z,its,n,r,hl,e⟩:=I.lstM hH
 refine call_meets F.slot_list_append ⟨_,e,rfl⟩ F.entry_list_append (F.args_list_append_2 _ _) (PySem.list_append l its.toArray n u (by rw [List.size_toArray];omega)) ⟨e,?_⟩
 refine ⟨.non,_,I.lset (its':=its++[u]) hH e (by simp) (r.append (.cons ru .nil)) ?_,rfl,q⟩
 rw [List.length_append,List.length_singleton]
 omega
def aF9:V→List V→Hp→VK→Prop:=fun x vs H Q=>∃ l b xs zs,x = .ref l∧vs=[.ref b]∧H l=some (.lst xs)∧H b=some (.lst zs)∧xs.length+zs.length≤sizeLine∧Q .non (upd H l (.lst (xs++zs)))
theorem aHN:MtM X "list.extend" aF9:=by
 intro pins s σ H x vs v us Q I rx rv h
 obtain ⟨l,b,xs,zs,rfl,rfl,hH,hB,hz,q⟩:=h
 cases rx
 obtain ⟨u,rfl,ru⟩:=rv.one
 cases ru
 obtain ⟨z,its,n,r,hl,e⟩:=I.lstM hH
 obtain ⟨z2,its2,n2,r2,hl2,e2⟩:=I.lstM hB
 have hsz:its.toArray.size+its2.toArray.size≤sizeLine:=by rw [List.size_toArray,List.size_toArray];omega
 have hlong:¬ (!its.toArray.isEmpty && Builtin.List.listTooLong (its.toArray.size+its2.toArray.size))=true:=by
  rw [aEO hsz,Bool.and_false]
  exact Bool.false_ne_true
 refine call_meets F.slot_list_extend ⟨_,e,rfl⟩ F.entry_list_extend (F.args_list_extend_2 _ _)
  (AutoSeq1.list_extend_list_list_0 l its.toArray n b its2.toArray n2 hlong (by rw [List.size_toArray];omega) (by omega)) ⟨e,e2,?_⟩
 refine ⟨.non,_,I.lset (its':=its++its2) hH e (by simp) (r.append r2) ?_,rfl,q⟩
 rw [List.length_append]
 omega
def aOF:R2:=fun x y H Q=>∃ l k xs,x = .ref l∧y = .int k∧H l=some (.lst xs) ∧ -(2 ^ 63)≤k∧k<2 ^ 63∧xs.length * k.toNat≤sizeLine ∧
 ∀ p,H p=none→Q (.ref p) (upd H p (.lst (List.replicate k.toNat xs).flatten))
theorem aCZ {α:Type} (xs:List α) (k:Nat):(List.replicate k xs).flatten.length=k * xs.length:=by
 induction k with
 | zero=>simp
 | succ k ih=>rw [List.replicate_succ,List.flatten_cons,List.length_append,ih,Nat.succ_mul,Nat.add_comm]
theorem aM1:tO X (binaryOp .Mult) aOF:=by
 intro pins s σ H x y v u Q I rx ry h
 obtain ⟨l,k,xs,rfl,rfl,hH,h1,h2,hz,q⟩:=h
 cases rx
 obtain ⟨t,rfl⟩:=ry
 obtain ⟨z,its,n,r,hl,e⟩:=I.lstM hH
 have hlen:its.toArray.size * k.toNat≤sizeLine:=by rw [List.size_toArray,← hl];exact hz
 have hcap:¬ its.toArray.size * k.toNat > (2 ^ 63-1) / 8:=by
  have:(sizeLine:Nat)≤(2 ^ 63-1) / 8:=by decide
  omega
 have hfit:¬ (!Builtin.List.listFitsIndex k)=true:=by
  rw [fitsIndex_both h1 h2]
  exact Bool.false_ne_true
 have hlong:¬ Builtin.List.listTooLong (its.toArray.size * k.toNat)=true:=by
  rw [aEO hlen]
  exact Bool.false_ne_true
 have hnew:List.foldl (fun x1 x2=>x1++x2) #[] (List.replicate (if its.toArray.isEmpty=true then 0 else k.toNat) its.toArray)=(List.replicate k.toNat its).flatten.toArray:=by
  have f0:∀ m:Nat,List.foldl (fun x1 x2=>x1++x2) #[] (List.replicate m its.toArray)=(List.replicate m its).flatten.toArray:=fun m=>by
   have:=sJ its m []
   rw [List.nil_append] at this
   exact this
  rw [f0]
  cases its with
  | nil=>simp
  | cons a r'=>rw [if_neg (by simp)]
 refine wpAny_binaryOp_repeat_ref (T:="list") (U:="int") (by decide) ⟨_,e,rfl⟩ (fun s'=>typeIs_int s' k t) noFill_list_mul F.fills_int_mul F.slot_int_rmul repeat_list F.slot_int_index.lookup
  (call_meets F.slot_int_rmul (typeIs_int s k t) F.entry_int_rmul (F.args_int_rmul_2 _ _) (int___rmul___int_list k t l its.toArray n)
   ⟨e,rfl,⟨_,e,rfl⟩,call_meets F.slot_list_mul ⟨_,e,rfl⟩ F.entry_list_mul (F.args_list_mul_2 _ _) (AutoListH.list___mul___list_int_3 l its.toArray n k t hfit hcap hlong) ⟨e,?_⟩⟩)
 rw [hnew]
 exact ⟨.ref _,_,I.lnew (t':=s.toks) (r.rep k.toNat) (by rw [aCZ,Nat.mul_comm];exact hz),rfl,q _ I.fresh⟩
end
section
variable {prog:Program}{w:World}{A:Around}{E:Value→Shared→Prop}{s:Shared}
end
section
variable {X:Cx}
end
end L2
namespace Att
open PySem PySem.W PySem.Calls PyProof.Rows
theorem zB {P:Params}{h:Heap}:∀ (ns:List Int) (vs:List Value),WellAll P h vs (ns.map WData.int)→IntsAre vs ns:=by
 intro ns
 induction ns with
 | nil=>
  intro vs w
  rw [List.map_nil] at w
  cases w
  exact .nil
 | cons n ns ih=>
  intro vs w
  rw [List.map_cons] at w
  cases w with
  | cons a b=>
   cases a
   exact .cons _ _ (ih _ b)
theorem aHv {l:OpenLaw}{n:Nat} (hn:l.most=some n) {P:Params}{h:Heap}{args:List WData}{vals:List Value}
  (hpre:l.row.toRowW.claim.pre args=true) (hwl:WellAll P h vals args) :
  ∃ a vs ns,vals=[Value.ref a]∧args=[WData.list (ns.map WData.int)]∧h.get? a=some { cls:=.type "list",data:=.seq vs.toArray }∧IntsAre vs ns∧ns.length≤n:=by
 have hsh:WShape.hasAll [] args [.list .int]=true:=(pre_splitW hpre).1
 have hc:l.pre.holds [] { args:=args }=true:=(pre_splitW hpre).2
 obtain ⟨d,r,rfl,h1,h2⟩:=hasAllW_cons hsh
 obtain rfl:=hasAllW_nil h2
 obtain ⟨xs,rfl,h3⟩:=hasW_list h1
 obtain ⟨ns,rfl⟩:=items_int h3
 have hlen:ns.length≤n:=by
  unfold OpenLaw.pre at hc
  have h4:(WTm.not (.lt (.lit (.int (n:Int))) (.len (.arg 0)))).holds [] { args:=[.list (ns.map .int)] }=true:=by
   have h4:=(holds_andW hc).1
   rw [hn] at h4
   exact h4
  have h5:=condW_of h4 (w_not (w_lt w_lit (w_len_list (w_arg rfl))))
  rw [List.length_map] at h5
  refine Nat.le_of_not_lt fun q=>?_
  have q':(n:Int)<((ns.length:Nat):Int):=by omega
  first
   | (rw [decide_eq_true q'] at h5;exact absurd h5 (by decide))
   | (simp at h5;omega)
 cases hwl with
 | cons w1 w2=>
  cases w2
  cases w1 with
  | list ho hall=>exact ⟨_,_,ns,rfl,rfl,ho,zB ns _ hall,hlen⟩
theorem aH2 (l:OpenLaw) (args:List WData):l.row.toRowW.claim.post args (.bool true) args=true:=
 postW_of (r:=l.row.toRowW) (X:=(true == true))
  (show WShape.has [] (.bool true) .bool=true by first | rfl | decide | simp [WShape.has,WShape.arms,WShape.armsAll])
  (show (WTm.eq .res (.lit (.bool true))).value [] { args:=args,res:=some (.bool true),after:=args }=some (.bool (true == true)) from w_eq_bool (w_res rfl) w_lit) rfl
theorem attach_call {l:OpenLaw}{n:Nat}{q:Program}{loose:List Str}{XP:(Str→Option Value)→Heap→Prop}{YP:World→Heap→Prop}{d:DefRec}
  (hn:l.most=some n) (hdf:d.params.defaults=[])
  (call:∀ (w:World) (s₀ s₁:Shared) (mg mb:Str→Option Value) (fa:Addr) (o:Obj) (pm cd doc:Value) (a:Addr) (vs:List Value) (ns:List Int),
   Ground q loose [] XP w s₀ mg mb s₁.heap→YP w s₁.heap →
   s₁.heap.get? fa=some o→o.data = .func (docDef d.name d.params d.body d.scope pm cd doc)→s₁.heap.CodeRec cd d.name→mg d.name=some (.ref fa) →
   s₁.heap.get? a=some { cls:=.type "list",data:=.seq vs.toArray }→IntsAre vs ns→ns.length≤n→s₁.gens = #[] →
   codeAny (model l.prog w) callerA (.call (.ref fa) ⟨[.ref a],[]⟩) (fun r s'=>r = .ok (.ret (.bool true))∧OldK s₁.heap s'.heap∧s'.os=s₁.os∧AllBare s'.gens) s₁) :
  WalkO q loose XP YP l.row.toRowW d [] (fun f vs=>PySem.call f vs):=by
 intro w s₀ s₁ mg mb G Y fa o pm cd doc dV kV ho hd hcd hD hmg hg args vals as hpre hlay hrd hwl hlo
 obtain rfl:dV = .none:=Dflts.none hD hdf
 obtain rfl:kV = .none:=Dflts.noKw hD
 obtain ⟨a,vs,ns,rfl,rfl,hobj,hints,hlen⟩:=aHv hn hpre hwl
 refine enter_call (codeAny_mono (call w s₀ s₁ mg mb fa o pm cd doc a vs ns G Y ho (fd_plain hd) hcd hmg hobj hints hlen hg) fun r s' hq=>?_)
 obtain ⟨rfl,h2,h3,h4⟩:=hq
 exact ⟨.inl ⟨.bool true,.bool true,[],rfl,fun _=>rfl,.bool true,aH2 l _,fun _=>⟨List.Pairwise.nil,fun _ hm=>(nomatch hm)⟩⟩,h2,h3,h4⟩
section
variable {prog:Program}{w:World}{A:Around}{E:Value→Shared→Prop}{s:Shared}{K:Frag}
end
end Att
namespace L2
open PySem PySem.Spec PyProof.Rows
theorem aBQ:∀ {vs:List Value}{ns:List Int},IntsAre vs ns→dR (ns.map V.int) vs
 | _,_,.nil=>.nil
 | _,_,.cons n t h=>.cons ⟨t,rfl⟩ (aBQ h)
abbrev m7 {K:PySem.W.Frag}{h:Heap} (_:K.In h):PySem.W.Frag:=K
def lF (s:Stmt):Arguments:=match s with
 | .FunctionDef _ a _ _ _ _ _ _ _ _=>a
 | _=>{ posonlyargs:=[],args:=[],vararg:=none,kwonlyargs:=[],kw_defaults:=[],kwarg:=none,defaults:=[] }
def aS (s:Stmt):List Stmt:=match s with
 | .FunctionDef _ _ b _ _ _ _ _ _ _=>b
 | _=>[]
def aD (s:Stmt):Scope:=match s with
 | .FunctionDef _ _ _ _ _ _ sc _ _ _=>sc
 | _=>{ kind:=.function,names:=[],isGenerator:=false,isCoroutine:=false }
abbrev kL:CXT:=fun _ _ _ _ _ _=>False
abbrev E0:XK:=fun _ _ _=>False
theorem aJa {X:Cx}:qO kL X E0:=fun _ _ _ _ _ _ _ h=>h.elim
structure Fun (K:PySem.W.Frag) (x qual:Str) (st:Stmt) (f:Addr) (fd:FuncData):Prop where
 ex:∃ (oc:Value) (od:Option Addr) (kV doc pm:Value) (an:Option Addr) (cdv ct:Value) (osl:Array (Option Value)),
  fd=PySem.W.fnOf x qual (lF st) (aS st) (aD st) .none kV doc pm an cdv ct∧K.lookup f=some ⟨oc,od,.func fd,osl⟩∧PySem.W.codeIn K cdv qual=true
 kp:PySem.W.keepIn K (.ref f)=true
section
variable {P:Program}{w:World}{K:PySem.W.Frag}{mg:Str→Option Value}{base:Heap}
theorem Fun.ok {x qual:Str}{st:Stmt}{f:Addr}{fd:FuncData}{N ps:List Str}{k:Nat}{sp:Sp} (F:Fun K x qual st f fd) (S:bA N ps (aD st)) (len:∀ vs H Q E,sp vs H Q E→vs.length=ps.length)
  (hbody:∀ (cdv:Value) (A:Around) (outer:List Env) (s:Shared) (H:Hp) (vs:List V) (Q:VK) (E:XK),cE k (A.deeper (envOfC qual (aD st) s.heap.objs.size f cdv))→sp vs H Q E →
   ∃ t,PSs (dZ kL P w K mg base N qual (aD st) f cdv A outer s H E).nox (aS st) t∧t { nx:=fun _ H'=>Q .non H',rt:=Q } (mH N vs) H):vY P w K mg base kL (k+1) f fd ps sp:=by
 obtain ⟨oc,od,kV,doc,pm,an,cdv,ct,osl,rfl,lk,hcd⟩:=F.ex
 refine aJ4 lk hcd S len fun A outer s H vs Q E hr hsp=>?_
 obtain ⟨t,h,q⟩:=hbody cdv A outer s H vs Q E hr hsp
 exact ⟨t,h.nox,q⟩
theorem Fun.binds {x qual:Str}{st:Stmt}{f:Addr}{fd:FuncData}{ps:List Str} (F:Fun K x qual st f fd)
  (h:∀ (kV doc pm:Value) (an:Option Addr) (cdv ct:Value) (us:List Value),us.length=ps.length→bindArgs (PySem.W.fnOf x qual (lF st) (aS st) (aD st) .none kV doc pm an cdv ct) ⟨us,[]⟩=pure (ps.zip us)):qC K fd ps []:=by
 obtain ⟨oc,od,kV,doc,pm,an,cdv,ct,osl,rfl,lk,hcd⟩:=F.ex
 exact .all (h kV doc pm an cdv ct)
theorem aFS {x qual:Str}{st:Stmt}{f:Addr}{oc:Value}{od an:Option Addr}{osl:Array (Option Value)}{kV doc pm cdv ct:Value} (l:K.lookup f=some ⟨oc,od,.func (PySem.W.fnOf x qual (lF st) (aS st) (aD st) .none kV doc pm an cdv ct),osl⟩)
  (c:PySem.W.codeIn K cdv qual=true) (k:PySem.W.keepIn K (.ref f)=true):Fun K x qual st f (PySem.W.fnOf x qual (lF st) (aS st) (aD st) .none kV doc pm an cdv ct):=⟨⟨oc,od,kV,doc,pm,an,cdv,ct,osl,rfl,l,c⟩,k⟩
end
theorem iS {n:Nat} (h:n≤1000):n<sizeLine:=Nat.lt_of_le_of_lt h (by decide)
section
variable {X:Cx}
theorem pv (i:Nat) {x:Str}{pos:Pos} (hN:X.N[i]? = some x:=by rfl) (hv:Vis X.env.scope x:=by first | exact Or.inl rfl | exact Or.inr (Or.inl rfl) | exact Or.inr (Or.inr rfl)) (hd:(x == ("__debug__":Str))=false:=by decide)
  (hcd:(x == ("__classdict__":Str))=false:=by decide):PE X (.Name x pos) (aAw i):=aME hN hv hd hcd
end
theorem aHf {A B:Prop} (h:B):if false=true then A else B:=by
 rw [if_neg Bool.false_ne_true]
 exact h
theorem aEC {A B:Prop} (h:A):if true=true then A else B:=by
 rw [if_pos rfl]
 exact h
def cX (H H':Hp):Prop:=∀ b o,H b=some o→H' b=some o
theorem cX.refl (H:Hp):cX H H:=fun _ _ h=>h
theorem cX.trans {H H1 H2:Hp} (a:cX H H1) (b:cX H1 H2):cX H H2:=fun c o h=>b c o (a c o h)
theorem cX.free {H H':Hp} (e:cX H H') {l:Addr} (h:H' l=Option.none):H l=Option.none:=by
 cases q:H l with
 | none=>rfl
 | some o=>
  rw [e l o q] at h
  cases h
theorem cX.seq {K:PySem.W.Frag}{H H':Hp}{a:Addr}{xs:List V} (e:cX H H') (h:lI K H a xs):lI K H' a xs:=by
 rcases h with (h | ⟨o,h⟩) | h
 ·exact .inl (.inl (e _ _ h))
 ·exact .inl (.inr ⟨o,e _ _ h⟩)
 ·exact .inr h
def pR (env:Env) (names:List (Str×NameKind)) (acc:List (Str×Addr)):List (Str×Addr):=
 match names with
 | []=>acc
 | x::r=>pR env r (if x.2 == .free then (x.1,(env.cells.lookup x.1).getD 0)::acc else acc)
theorem aJv (env:Env):∀ (names:List (Str×NameKind)) (acc:List (Str×Addr)),(∀ x∈names,x.2 = .free→∃ c,env.cells.lookup x.1=some c) →
  (forIn names acc (fun (x:Str×NameKind) (cs:List (Str×Addr))=>(if x.2 == .free then (do
   let c ← cellOf env x.1
   pure (ForInStep.yield ((x.1,c)::cs))) else pure (ForInStep.yield cs):Sem (ForInStep (List (Str×Addr))))))=(pure (pR env names acc):Sem _):=by
 intro names
 induction names with
 | nil=>intro acc _;rw [List.forIn_nil];rfl
 | cons x r ih=>
  intro acc h
  rw [List.forIn_cons]
  have hr:=fun y hy=>h y (List.mem_cons_of_mem _ hy)
  show _=(pure (pR env r (if x.2 == .free then (x.1,(env.cells.lookup x.1).getD 0)::acc else acc)):Sem _)
  by_cases hf:x.2 = .free
  ·obtain ⟨c,e⟩:=h x List.mem_cons_self hf
   have e1:cellOf env x.1=pure c:=by unfold cellOf;rw [e]
   have e2:(x.2 == NameKind.free)=true:=by rw [hf];rfl
   simp only [e2,if_true,e1,pure_bind]
   rw [ih _ hr]
   simp only [e,Option.getD_some]
  ·have e2:(x.2 == NameKind.free)=false:=by simpa using hf
   simp only [e2,Bool.false_eq_true,if_false,pure_bind]
   exact ih _ hr
theorem kB {scope:Scope}{env:Env} (h:∀ x∈scope.names,x.2 = .free→∃ c,env.cells.lookup x.1=some c):closureFor scope env=pure (pR env scope.names []):=by
 have q:=aJv env scope.names [] h
 unfold closureFor
 simp only [bind_pure]
 exact q
theorem yJ (env:Env) (x:Str):∀ (names:List (Str×NameKind)) (acc:List (Str×Addr)),
  (pR env names acc).lookup x=if (x,NameKind.free)∈names then some ((env.cells.lookup x).getD 0) else acc.lookup x:=by
 intro names
 induction names with
 | nil=>intro acc;rfl
 | cons y r ih=>
  intro acc
  obtain ⟨n,k⟩:=y
  show (pR env r (if k == .free then (n,(env.cells.lookup n).getD 0)::acc else acc)).lookup x=_
  rw [ih]
  by_cases h1:(x,NameKind.free)∈r
  ·rw [if_pos h1,if_pos (List.mem_cons_of_mem _ h1)]
  ·rw [if_neg h1]
   by_cases hk:k = .free
   ·subst hk
    rw [if_pos (by rfl),List.lookup_cons]
    by_cases hx:x=n
    ·subst hx
     simp
    ·have:(x == n)=false:=by simpa using hx
     rw [this,if_neg]
     intro z
     rcases List.mem_cons.mp z with z | z
     ·exact hx (Prod.mk.inj z).1
     ·exact h1 z
   ·have:(k == NameKind.free)=false:=by simpa using hk
    rw [this,if_neg (by simp),if_neg]
    intro z
    rcases List.mem_cons.mp z with z | z
    ·exact hk (Prod.mk.inj z).2.symm
    ·exact h1 z
theorem yL (f:Str→NameKind→NameKind) (x:Str):∀ names:List (Str×NameKind),(names.map fun y=>(y.1,f y.1 y.2)).lookup x=(names.lookup x).map (f x)
 | []=>rfl
 | (n,k)::r=>by
  rw [List.map_cons,List.lookup_cons,List.lookup_cons,yL f x r]
  by_cases hx:x=n
  ·subst hx;simp
  ·have:(x == n)=false:=by simpa using hx
   simp [this]
theorem sA (scope:Scope) (env:Env) (x:Str):(relabel scope env).names.lookup x =
  (scope.names.lookup x).map fun k=>if (k == .free && env.scope.kind == .function && env.kindOf x == some .cell) then .cell else k:=by
 have q:=yL (fun n k=>if (k == .free && env.scope.kind == .function && env.kindOf n == some .cell) then .cell else k) x scope.names
 rw [← q]
 unfold relabel
 dsimp only
 congr 1
 refine List.map_congr_left fun y _=>?_
 obtain ⟨n,k⟩:=y
 dsimp only
 split <;> rfl
def m8 (sc cs:Scope) (N Nc:List Str) (fr:List (Option Nat)):Bool:=
 cs.kind == .function && cs.names.all (fun x=>(x.2 != .cell || cs.names.lookup x.1 == some .cell) && (x.2 != .local || cs.names.lookup x.1 == some .local) && (x.2 != .free || sc.names.lookup x.1 == some .cell || sc.names.lookup x.1 == some .free))
  && fr.length == Nc.length && (fr.zip Nc).all (fun y=>match y.1 with
   | none=>true
   | some j=>N[j]? == some y.2 && cs.names.lookup y.2 == some .free)
structure oJ (sc cs:Scope) (N Nc:List Str) (fr:List (Option Nat)):Prop where
 kind:cs.kind = .function
 cel:∀ x∈cs.names,x.2 = .cell→cs.names.lookup x.1=some .cell
 nms:∀ x∈cs.names,x.2 = .local→cs.names.lookup x.1=some .local
 fre:∀ x∈cs.names,x.2 = .free→sc.names.lookup x.1=some .cell∨sc.names.lookup x.1=some .free
 len:fr.length=Nc.length
 frs:∀ (i j:Nat),fr[i]? = some (some j)→∃ x,Nc[i]? = some x∧N[j]? = some x∧cs.names.lookup x=some .free
theorem oJ.of {sc cs:Scope}{N Nc:List Str}{fr:List (Option Nat)} (h:m8 sc cs N Nc fr=true):oJ sc cs N Nc fr:=by
 unfold m8 at h
 rw [Bool.and_eq_true,Bool.and_eq_true,Bool.and_eq_true] at h
 obtain ⟨⟨⟨h1,h2⟩,h3⟩,h4⟩:=h
 rw [List.all_eq_true] at h2 h4
 refine ⟨by simpa using h1,fun x hx hk=>?_,fun x hx hk=>?_,fun x hx hk=>?_,by simpa using h3,fun i j e=>?_⟩
 ·have q:=h2 x hx
  simp only [Bool.and_eq_true] at q
  have q2:=q.1.1
  rw [hk] at q2
  simpa using q2
 ·have q:=h2 x hx
  simp only [Bool.and_eq_true] at q
  have q2:=q.1.2
  rw [hk] at q2
  simpa using q2
 ·have q:=h2 x hx
  simp only [Bool.and_eq_true] at q
  have q2:=q.2
  rw [hk] at q2
  simp at q2
  rcases q2 with a | a
  ·exact .inl a
  ·exact .inr a
 ·have hl:fr.length=Nc.length:=by simpa using h3
  obtain ⟨hi,ei⟩:=List.getElem?_eq_some_iff.mp e
  have hi':i<Nc.length:=by omega
  have hm:(fr[i],Nc[i])∈fr.zip Nc:=by
   have:(fr.zip Nc)[i]'(by simp;omega)=(fr[i],Nc[i]):=by simp
   rw [← this]
   exact List.getElem_mem _
  have q:=h4 _ hm
  rw [ei] at q
  simp only [Bool.and_eq_true] at q
  exact ⟨Nc[i],by simp [hi'],by simpa using q.1,by simpa using q.2⟩
theorem l5:∀ (names:List (Str×NameKind)) (n:Nat) (acc:List (Str×Addr)),cellsFrom n names acc=cellsFrom n names []++acc
 | [],_,_=>rfl
 | (name,kind)::r,n,acc=>by
  unfold cellsFrom
  split
  ·rw [l5 r (n+1) ((name,n)::acc),l5 r (n+1) [(name,n)],List.append_assoc]
   rfl
  ·exact l5 r n acc
theorem l7:∀ (names:List (Str×NameKind)) (n:Nat) (acc:List (Str×Addr)) (x:Str) (c:Addr),(x,c)∈cellsFrom n names acc→(x,c)∈acc∨(x,NameKind.cell)∈names
 | [],_,_,_,_,h=>.inl h
 | (name,kind)::r,n,acc,x,c,h=>by
  unfold cellsFrom at h
  split at h
  ·rename_i hk
   rcases l7 r _ _ x c h with z | z
   ·rcases List.mem_cons.mp z with z | z
    ·refine .inr ?_
     have e:=(Prod.mk.inj z).1
     have k':kind=NameKind.cell:=by simpa using hk
     rw [e,k']
     exact List.mem_cons_self
    ·exact .inl z
   ·exact .inr (List.mem_cons_of_mem _ z)
  ·rcases l7 r _ _ x c h with z | z
   ·exact .inl z
   ·exact .inr (List.mem_cons_of_mem _ z)
theorem pH:∀ (names:List (Str×NameKind)) (n:Nat) (acc:List (Str×Addr)) (x:Str),((x,NameKind.cell)∈names∨∃ c,acc.lookup x=some c)→∃ c,(cellsFrom n names acc).lookup x=some c
 | [],_,_,_,h=>by
  rcases h with h | h
  ·cases h
  ·exact h
 | (name,kind)::r,n,acc,x,h=>by
  unfold cellsFrom
  split
  ·rename_i hk
   refine pH r _ _ x ?_
   rcases h with h | ⟨c,h⟩
   ·rcases List.mem_cons.mp h with z | z
    ·refine .inr ⟨n,?_⟩
     rw [(Prod.mk.inj z).1,List.lookup_cons]
     simp
    ·exact .inl z
   ·by_cases hx:x=name
    ·exact .inr ⟨n,by rw [hx,List.lookup_cons];simp⟩
    ·refine .inr ⟨c,?_⟩
     have:(x == name)=false:=by simpa using hx
     rw [List.lookup_cons,this]
     exact h
  ·rename_i hk
   refine pH r _ _ x ?_
   rcases h with h | h
   ·rcases List.mem_cons.mp h with z | z
    ·exact absurd (by rw [← (Prod.mk.inj z).2];rfl) hk
    ·exact .inl z
   ·exact .inr h
theorem aFY {M:Model}{A:Around}{E:Value→Shared→Prop}{s:Shared}{scope:Scope}{globals:Addr}{closure:List (Str×Addr)}{qual:Str}{func:Option Addr}{code:Value}{env:Env}{builtins:Addr}{Q:Env→Shared→Prop}
  (h:Q (newEnv scope s.heap.objs.size globals (cellsFrom (s.heap.objs.size+1) scope.names closure) qual func code (some env) builtins) { s with heap:=pushCells (s.heap.push { cls:=.type "dict",data:=.dict #[] }) scope.names }) :
  wpAny M A (newFunctionEnv scope globals closure [] qual func code (some env) builtins) Q E s:=by
 simp only [newFunctionEnv,Option.isSome_some,if_true]
 refine wpAny_bind (wpAny_alloc ?_)
 refine wpAny_bind (wpAny_layCells _ (fun name kind cells=>by cases hkc:kind == NameKind.cell <;> simp [hkc]) _ _ _ _ ?_)
 rw [show ({ s with heap:=s.heap.push { cls:=.type "dict",data:=.dict #[] } }:Shared).heap.objs.size=s.heap.objs.size+1 from Heap.size_push ..]
 rw [List.forIn_nil]
 exact wpAny_bind (wpAny_pure (wpAny_pure h))
def y8 (X:Cx) (scope:Scope) (Nc:List Str) (Cc:Addr) (pins:List (Addr×Obj)) (fp:List Addr) (s3:Shared) (H3:Hp):Cx:=
 { X with N:=Nc,s₀:=s3,H₀:=H3,env:=compEnvC scope (cellsFrom (Cc+1) scope.names (pR X.env scope.names [])) Cc X.env,outer:=X.stack,stack:=X.stack,ex:=fp,fn:=fun x=>scope.names.lookup x == some .cell,pn:=X.pn++pins,xe:=fun _ _=>False }
def σc (fr:List (Option Nat)) (σ:St):St:=fr.map fun o=>o.bind fun j=>(σ[j]?).bind id
def Fwd (σ' σ:St):Prop:=σ'.length=σ.length∧∀ (i:Nat) v,σ[i]? = some (some v)→σ'[i]? = some (some v)
def aEk (X:Cx) (ifs:List Expr) (t:TT):Prop:=
 ∀ (pins:List (Addr×Obj)) (s:Shared) (σ:St) (H:Hp) (Q:Bool→Hp→Prop),bI X pins σ H s→t σ H Q →
  wpAny (model X.prog X.w) X.A (forIn ifs true fun c r=>if r=true then do
   let ok ← isTrue c X.env (eval c X.env)
   pure (ForInStep.yield ok) else pure (ForInStep.yield r)) (TP X pins σ Q) X.xe s
def aNd:TT:=fun _ H Q=>Q true H
theorem aIC {X:Cx}:aEk X [] aNd:=fun _ _ _ H _ I h=>wpAny_tests_nil ⟨H,I,h⟩
theorem aIi {X:Cx}{c:Expr}{t:TT} (h:PT X c t):aEk X [c] t:=fun pins s σ H Q I q=>wpAny_tests_one (h pins s σ H Q I q)
section
variable {prog:Program}{w:World}{A:Around}{R:Result→Shared→Prop}{s:Shared}
theorem aHp {elt target iter:Expr}{ifs:List Expr}{scope:Scope}{pos:Pos}{it acc:Value}{env:Env} (I:Nat→Shared→Prop)
  (turn:∀ n s,I n s→wpAny (model prog w) A (pyNext it) (fun r s₁=>match r with
   | none=>R (.ok .next) s₁
   | some v=>wpAny (model prog w) A (letOwnedTupleGo target it v) (fun _ s₂=>wpAny (model prog w) A (assign target env v) (fun _ s₃=>
     wpAny (model prog w) A (forIn ifs true fun c r=>if r=true then do
      let ok ← isTrue c env (eval c env)
      pure (ForInStep.yield ok) else pure (ForInStep.yield r)) (fun ok s₄=>
      if ok=true then wpAny (model prog w) A (eval elt env) (fun x s₅=>
       wpAny (model prog w) A (call (.builtin "list.append") [acc,x]) (fun _ s₆=>∃ m,m<n∧I m s₆) (fun _ _=>False) s₅) (fun _ _=>False) s₄
      else ∃ m,m<n∧I m s₄) (fun _ _=>False) s₃) (fun _ _=>False) s₂) (fun _ _=>False) s₁) (fun _ _=>False) s)
  (n:Nat) (h:I n s) :
  codeAny (model prog w) A (.compLoop (.ListComp elt [⟨target,iter,ifs,0⟩] scope pos) 0 it acc env) R s:=by
 refine codeAny_loop rfl I (fun n s hI=>?_) n h
 refine wpAny_noted (m:=compTurn (.ListComp elt [⟨target,iter,ifs,0⟩] scope pos) 0 it acc env) (env:=env) ?_
 rw [compTurn_list]
 have no:∀ {E:Value→Shared→Prop} (e:Value) (s:Shared),False→E e s:=fun _ _ f=>f.elim
 refine wpAny_bind (wpAny_standAt (wpAny_bind (wpAny_mono (turn n s hI) (fun r s₁ h₁=>?_) no)))
 cases r with
 | none=>exact wpAny_pure h₁
 | some v=>
  refine wpAny_bind (wpAny_mono h₁ (fun _ s₂ h₂=>?_) no)
  refine wpAny_bind (wpAny_mono h₂ (fun _ s₃ h₃=>?_) no)
  refine wpAny_bind (wpAny_mono h₃ (fun ok s₄ h₄=>?_) no)
  cases ok with
  | false=>exact wpAny_pure ⟨rfl,h₄⟩
  | true=>
   refine wpAny_bind (wpAny_bind (wpAny_mono h₄ (fun x s₅ h₅=>?_) no))
   exact wpAny_bind (wpAny_mono h₅ (fun _ s₆ h₆=>wpAny_pure (wpAny_pure ⟨rfl,h₆⟩)) no)
end
theorem lD {env:Env}{names:List (Str×NameKind)}{x:Str}{c:Addr} (hf:∀ y∈names,y.2 = .free→∃ c,env.cells.lookup y.1=some c) (h:(pR env names []).lookup x=some c):(x,NameKind.free)∈names∧env.cells.lookup x=some c:=by
 rw [yJ] at h
 by_cases hm:(x,NameKind.free)∈names
 ·rw [if_pos hm] at h
  obtain ⟨c',e⟩:=hf _ hm rfl
  rw [e] at h
  exact ⟨hm,by rw [e];exact h⟩
 ·rw [if_neg hm] at h
  cases h
theorem zL {env:Env}{names:List (Str×NameKind)}{x:Str}{c:Addr} (hm:(x,NameKind.free)∈names) (h:env.cells.lookup x=some c):(pR env names []).lookup x=some c:=by
 rw [yJ,if_pos hm,h]
 rfl
structure aFn (scope:Scope) (cl:List (Str×Addr)) (n:Nat) (h:Heap):Prop where
 has:∀ x,(x,NameKind.cell)∈scope.names→∃ c,(cellsFrom (n+1) scope.names cl).lookup x=some c∧n<c
 off:∀ x c,(x,NameKind.cell)∉scope.names→cl.lookup x=some c→(cellsFrom (n+1) scope.names cl).lookup x=some c
 two:∀ x c,(cellsFrom (n+1) scope.names cl).lookup x=some c→((x,NameKind.cell)∈scope.names∧n<c∧h.IsCell c none)∨cl.lookup x=some c
 inj:∀ x y c,(cellsFrom (n+1) scope.names cl).lookup x=some c→(cellsFrom (n+1) scope.names cl).lookup y=some c→n<c→(∀ z d,cl.lookup z=some d→d≤n)→x=y
theorem aLO (scope:Scope) (cl:List (Str×Addr)) (h0:Heap) (o:Obj):aFn scope cl h0.objs.size (pushCells (h0.push o) scope.names):=by
 have ok:=cellsFrom_ok scope.names (h0.push o) (h0.objs.size+1) [] ⟨fun _ _ hm=>(nomatch hm),List.Pairwise.nil⟩ (by rw [Heap.size_push];exact Nat.le_refl _)
 rw [Heap.size_push] at ok
 have lk:∀ x,(cellsFrom (h0.objs.size+1) scope.names cl).lookup x=((cellsFrom (h0.objs.size+1) scope.names []).lookup x).or (cl.lookup x):=fun x=>by
  rw [l5,List.lookup_append]
 have two:∀ x c,(cellsFrom (h0.objs.size+1) scope.names cl).lookup x=some c→((x,c)∈cellsFrom (h0.objs.size+1) scope.names [])∨cl.lookup x=some c:=fun x c e=>by
  rw [lk] at e
  cases e1:(cellsFrom (h0.objs.size+1) scope.names []).lookup x with
  | none=>rw [e1] at e;exact .inr e
  | some d=>rw [e1] at e;cases e;exact .inl (PySem.mem_of_lookup e1)
 refine ⟨fun x hx=>?_,fun x c hx e=>?_,fun x c e=>?_,fun x y c e1 e2 hc hcl=>?_⟩
 ·obtain ⟨c,e⟩:=pH scope.names (h0.objs.size+1) [] x (.inl hx)
  exact ⟨c,by rw [lk,e];rfl,(ok.empty x c (PySem.mem_of_lookup e)).2⟩
 ·rw [lk]
  cases e1:(cellsFrom (h0.objs.size+1) scope.names []).lookup x with
  | none=>exact e
  | some d=>
   rcases l7 _ _ _ _ _ (PySem.mem_of_lookup e1) with z | z
   ·cases z
   ·exact absurd z hx
 ·rcases two x c e with z | z
  ·refine .inl ⟨?_,(ok.empty x c z).2,(ok.empty x c z).1⟩
   rcases l7 _ _ _ _ _ z with q | q
   ·cases q
   ·exact q
  ·exact .inr z
 ·rcases two x c e1 with z1 | z1
  ·rcases two y c e2 with z2 | z2
   ·exact name_of_addr ok.apart z1 z2
   ·exact absurd (hcl _ _ z2) (Nat.not_le.mpr hc)
  ·exact absurd (hcl _ _ z1) (Nat.not_le.mpr hc)
section
variable {X:Cx}{scope:Scope}{Nc:List Str}{fr:List (Option Nat)}{pins:List (Addr×Obj)}{σ:St}{H:Hp}{s:Shared}{fp:List Addr}
theorem lZ (ok:oJ X.env.scope scope X.N Nc fr) (I:bI X pins σ H s):∀ y∈scope.names,y.2 = .free→∃ c,X.env.cells.lookup y.1=some c:=fun y hy hk=>by
 rcases ok.fre y hy hk with z | z
 ·exact I.ok.has y.1 (.inl z)
 ·exact I.ok.has y.1 (.inr z)
theorem aFI (ok:oJ X.env.scope scope X.N Nc fr) (I:bI X pins σ H s) (hf:∀ b∈fp,oQ X pins H b) (hlt:∀ b∈fp,b<s.heap.objs.size) {h1:Heap}{m1:Str→Option Value}
  (hn:h1.Ns s.heap.objs.size m1) (up:∀ b o,s.heap.get? b=some o→h1.get? b=some o) (cs:aFn scope (pR X.env scope.names []) s.heap.objs.size h1) :
  bI (y8 X scope Nc s.heap.objs.size pins fp s H) [] (σc fr σ) H { s with heap:=h1 }:=by
 have hcell:=lZ ok I
 have stk:∀ b,b∈frs X.stack→b∈X.env.locals::X.fs:=I.stkSub
 have clt:∀ x c,X.env.cells.lookup x=some c→c<s.heap.objs.size:=fun x c e=>by
  obtain ⟨v,q⟩:=I.cell x c e
  exact q.lt
 have cll:∀ x c,(pR X.env scope.names []).lookup x=some c→c≤s.heap.objs.size:=fun x c e=>Nat.le_of_lt (clt x c (lD hcell e).2)
 have kw:∀ x,(relabel scope X.env).names.lookup x=some .cell∨(relabel scope X.env).names.lookup x=some .free→scope.names.lookup x=some .free∨scope.names.lookup x=some .cell:=fun x h=>by
  rw [sA] at h
  cases e:scope.names.lookup x with
  | none=>rw [e] at h;rcases h with h | h <;> cases h
  | some k=>
   rw [e] at h
   by_cases hk:k = .free
   ·rw [hk];exact .inl rfl
   ·have:(k == NameKind.free)=false:=by simpa using hk
    simp only [Option.map_some,this,Bool.false_and,Bool.false_eq_true,if_false] at h
    rcases h with h | h
    ·exact .inr h
    ·exact absurd (Option.some.inj h) hk
 refine ⟨⟨I.ok.mod,ok.kind,I.ok.glob,I.ok.blt,Nat.le_refl _,fun x y c h1 h2=>?_,fun x hx=>?_,fun x c h e=>?_,I.ok.hd,I.ok.frames,.inl rfl,fun b hb=>⟨?_,fun x c e=>?_⟩,I.bs,Nat.le_trans I.ok.bsz I.sz,fun b o e hb=>?_,fun b hb hb'=>?_,I.stack,I.stkFree⟩,
  rfl,I.bare,Un.kept up,⟨m1,hn,fun i x v e1 e2 e3=>?_⟩,fun x c e=>?_,I.hok.fresh (Nat.le_refl _),fun x c e=>?_,fun p hp=>?_,I.hok.kept up,?_⟩
 ·rcases cs.two x c h1 with ⟨_,z,_⟩ | z1
  ·exact cs.inj x y c h1 h2 z cll
  ·rcases cs.two y c h2 with ⟨_,z,_⟩ | z2
   ·exact cs.inj x y c h1 h2 z cll
   ·exact I.ok.inj x y c (lD hcell z1).2 (lD hcell z2).2
 ·rcases kw x hx with q | q
  ·have hm:(x,NameKind.free)∈scope.names:=PySem.mem_of_lookup q
   obtain ⟨c,e⟩:=hcell _ hm rfl
   have nc:(x,NameKind.cell)∉scope.names:=fun z=>by
    have:=ok.cel _ z rfl
    rw [q] at this
    cases this
   exact ⟨c,cs.off x c nc (zL hm e)⟩
  ·obtain ⟨c,e,_⟩:=cs.has x (PySem.mem_of_lookup q)
   exact ⟨c,e⟩
 ·have q:scope.names.lookup x=some .cell:=by
   have h':(scope.names.lookup x == some NameKind.cell)=true:=h
   simpa using h'
  obtain ⟨c',e',l⟩:=cs.has x (PySem.mem_of_lookup q)
  have e2:(cellsFrom (s.heap.objs.size+1) scope.names (pR X.env scope.names [])).lookup x=some c:=e
  rw [e'] at e2
  cases e2
  exact Nat.le_of_lt l
 ·exact Nat.ne_of_lt (hlt b hb)
 ·rcases cs.two x c e with ⟨_,z,_⟩ | z
  ·exact Nat.ne_of_gt (Nat.lt_trans (hlt b hb) z)
  ·exact (hf b hb).2.2.2.2.1 x c (lD hcell z).2
 ·rcases (hf b hb).2.2.2.1 with z | z
  ·exact I.ok.noex b o e z
  ·exact absurd (Nat.lt_of_lt_of_le (Heap.lt_size e) (Nat.le_trans I.ok.bsz z)) (Nat.lt_irrefl _)
 ·have q:=hf b hb
  rcases List.mem_cons.mp (stk b hb') with z | z
  ·exact q.2.1 z
  ·exact q.2.2.1 z
 ·have e2':(σc fr σ)[i]? = some (some v):=e2
  unfold σc at e2'
  rw [List.getElem?_map] at e2'
  cases ef:fr[i]? with
  | none=>rw [ef] at e2';cases e2'
  | some o=>
   rw [ef] at e2'
   cases o with
   | none=>cases e2'
   | some j=>
    obtain ⟨y,a1,a2,a3⟩:=ok.frs i j ef
    have a1':(y8 X scope Nc s.heap.objs.size pins fp s H).N[i]? = some y:=a1
    rw [a1'] at e1
    obtain rfl:y=x:=Option.some.inj e1
    have ej:σ[j]? = some (some v):=by
     have e2'':(σ[j]?).bind id=some v:=Option.some.inj e2'
     cases es:σ[j]? with
     | none=>rw [es] at e2'';cases e2''
     | some z=>rw [es] at e2'';cases z with
      | none=>cases e2''
      | some z'=>exact congrArg some e2''
    have hm:(y,NameKind.free)∈scope.names:=PySem.mem_of_lookup a3
    have kc:=ok.fre _ hm rfl
    obtain ⟨m,hn',hl⟩:=I.loc
    obtain ⟨u,r,l⟩:=hl j y v a2 ej (.inr kc)
    refine ⟨u,r,.inr ?_⟩
    rcases l with ⟨k,_⟩ | ⟨k,c,e,z⟩
    ·exfalso
     have k':X.env.scope.names.lookup y=some .local:=k
     rcases kc with q | q <;> (rw [q] at k';cases k')
    ·have nc:(y,NameKind.cell)∉scope.names:=fun z=>by
      have:=ok.cel _ z rfl
      rw [a3] at this
      cases this
     refine ⟨?_,c,cs.off y c nc (zL hm e),?_⟩
     ·show (relabel scope X.env).names.lookup y=some .cell∨(relabel scope X.env).names.lookup y=some .free
      rw [sA,a3]
      show some (if _ then _ else _)=_∨some (if _ then _ else _)=_
      split
      ·exact .inl rfl
      ·exact .inr rfl
     ·obtain ⟨oc,ho,hd⟩:=z
      exact ⟨oc,up _ _ ho,hd⟩
 ·rcases cs.two x c e with ⟨_,_,z⟩ | z
  ·exact ⟨none,z⟩
  ·obtain ⟨v,oc,ho,hd⟩:=I.cell x c (lD hcell z).2
   exact ⟨v,oc,up _ _ ho,hd⟩
 ·rcases cs.two x c e with ⟨_,z,_⟩ | z
  ·exact I.hok.fresh (Nat.le_of_lt z)
  ·exact I.freeC x c (lD hcell z).2
 ·have hp':p∈X.pn++pins:=by
   rcases List.mem_append.mp hp with z | z
   ·exact z
   ·exact absurd z (by simp)
  obtain ⟨e,n,ne,nf,d⟩:=I.pin p hp'
  refine ⟨up _ _ e,n,Nat.ne_of_lt (Heap.lt_size e),fun z=>?_,d⟩
  rcases List.mem_cons.mp (stk _ z) with z | z
  ·exact ne z
  ·exact nf z
 ·unfold σc
  rw [List.length_map]
  exact ok.len
end
def aFa (J:It) (σ₀:St) (g:TG) (tt:TT) (te:TE) (D:Addr) (H1:Hp) (Q:VK):Prop:=
 ∃ W:Nat→Nat→List V→Hp→Prop,(∃ m,W 0 m [] (upd H1 D (.lst [])))∧∀ i m ys H,W i m ys H →
  (J.stop i H∧Q (.ref D) H)∨(J.go i H∧∀ x H',J.yld i H x H'→g x σ₀ H' fun σ2 H2=>Fwd σ2 σ₀∧tt σ2 H2 fun b H3=>
   if b=true then te σ2 H3 fun y H4=>H4 D=some (.lst ys)∧ys.length<sizeLine∧∃ m',m'<m∧W (i+1) m' (ys++[y]) (upd H4 D (.lst (ys++[y])))
   else ∃ m',m'<m∧W (i+1) m' ys H3)
def aEI (X:Cx) (pins:List (Addr×Obj)) (σ:St) (Q:VK) (acc:Value) (C:Addr) (r:Result) (s':Shared):Prop:=
 ∃ D H',acc = .ref D∧r = .ok .next∧bI X pins σ H' s'∧oQ X pins H' C∧(∃ m,s'.heap.Ns C m)∧Q (.ref D) H'
section
variable {X:Cx}{scope:Scope}{Nc:List Str}{fr:List (Option Nat)}{pins:List (Addr×Obj)}{σ:St}{H:Hp}{s:Shared}{fp:List Addr}
theorem aCj {tg elt iter:Expr}{ifs:List Expr}{pos:Pos}{g:TG}{tt:TT}{te:TE}{J:It}{it:Addr}{tn:Nat→Heap→Prop}{Q:VK}{E:Value→Shared→Prop} (ok:oJ X.env.scope scope X.N Nc fr) (hc:X.calm=true)
  (hg:∀ Cc pins fp s3 H3,PG (y8 X scope Nc Cc pins fp s3 H3) tg g) (ht:∀ Cc pins fp s3 H3,aEk (y8 X scope Nc Cc pins fp s3 H3) ifs tt) (he:∀ Cc pins fp s3 H3,PE (y8 X scope Nc Cc pins fp s3 H3) elt te)
  (I:bI X pins σ H s) (T:aCM X.prog X.w X.K tg J fp it tn) (st:tn 0 s.heap) (hf:∀ b∈fp,oQ X pins H b) (w:∀ D,H D=none→aFa J (σc fr σ) g tt te D H Q) :
  wpAny (model X.prog X.w) X.A (newList []) (fun acc s₃=>wpAny (model X.prog X.w) X.A (newFunctionEnv scope X.env.globals (pR X.env scope.names []) [] X.env.qual none .none (some X.env)) (fun cenv s₄=>
   codeAny (model X.prog X.w) X.A (.compStart (.ListComp elt [⟨tg,iter,ifs,0⟩] scope pos) 0 (.ref it) acc { cenv with scope:=relabel scope X.env }) (aEI X pins σ Q acc cenv.locals) s₄) E s₃) E s:=by
 have flt:∀ b∈fp,b<s.heap.objs.size:=fun b hb=>by
  obtain ⟨o,e,_⟩:=T.obj 0 _ st b hb
  exact Heap.lt_size e
 refine wpAny_newList ?_ (by show 0≤sizeLine;exact Nat.zero_le _)
 have I3:=I.lnew (ys:=[]) (its:=[]) (t':=s.toks) .nil (Nat.zero_le _)
 have st3:tn 0 (s.heap.push { cls:=.type "list",data:=.seq ([]:List Value).toArray }):=T.keep 0 _ _ st fun b _ o e=>Heap.get?_push_of_some _ e
 obtain ⟨W,⟨m0,w0⟩,turn⟩:=w s.heap.objs.size I.fresh
 have hf3:∀ b∈fp,oQ X pins (upd H s.heap.objs.size (.lst [])) b:=fun b hb=>⟨by rw [aZ (Nat.ne_of_lt (flt b hb))];exact (hf b hb).1,(hf b hb).2⟩
 generalize hD:s.heap.objs.size=D at *
 generalize hs3:({ s with heap:=s.heap.push { cls:=.type "list",data:=.seq ([]:List Value).toArray } }:Shared)=s3
 have I3':bI X pins σ (upd H D (.lst [])) s3:=hs3 ▸ I3
 have st3':tn 0 s3.heap:=by rw [← hs3];exact st3
 have flt3:∀ b∈fp,b<s3.heap.objs.size:=fun b hb=>by
  obtain ⟨o,e,_⟩:=T.obj 0 _ st3' b hb
  exact Heap.lt_size e
 refine aFY ?_
 generalize hh1:pushCells (s3.heap.push { cls:=.type "dict",data:=.dict #[] }) scope.names=h1
 have hn1:h1.Ns s3.heap.objs.size (fun _=>none):=hh1 ▸ (Heap.Ns.new s3.heap (.type "dict")).keeps (pushCells_keeps _ _)
 have up:∀ b o,s3.heap.get? b=some o→h1.get? b=some o:=fun b o e=>hh1 ▸ pushCells_keeps _ _ b o (Heap.get?_push_of_some _ e)
 have cs1:aFn scope (pR X.env scope.names []) s3.heap.objs.size h1:=hh1 ▸ aLO scope (pR X.env scope.names []) s3.heap _
 have I4:bI (y8 X scope Nc s3.heap.objs.size pins fp s3 (upd H D (.lst []))) [] (σc fr σ) (upd H D (.lst [])) { s3 with heap:=h1 }:=aFI ok I3' hf3 flt3 hn1 up cs1
 have st4:tn 0 h1:=T.keep 0 _ _ st3' fun b _ o e=>up b o e
 generalize hXc:y8 X scope Nc s3.heap.objs.size pins fp s3 (upd H D (.lst []))=Xc at I4
 have hg':PG Xc tg g:=hXc ▸ hg _ _ _ _ _
 have ht':aEk Xc ifs tt:=hXc ▸ ht _ _ _ _ _
 have he':PE Xc elt te:=hXc ▸ he _ _ _ _ _
 have eP:Xc.prog=X.prog:=by rw [← hXc];rfl
 have ew:Xc.w=X.w:=by rw [← hXc];rfl
 have eK:Xc.K=X.K:=by rw [← hXc];rfl
 have eA:Xc.A=X.A:=by rw [← hXc];rfl
 have ec:Xc.calm=true:=by rw [← hXc];exact hc
 have ex:Xc.xe=fun _ _=>False:=by rw [← hXc];rfl
 have ee:Xc.env=compEnvC scope (cellsFrom (s3.heap.objs.size+1) scope.names (pR X.env scope.names [])) s3.heap.objs.size X.env:=by rw [← hXc];rfl
 have elo:Xc.env.locals=s3.heap.objs.size:=by rw [ee];rfl
 have stat:∀ {H':Hp},(∀ b∈fp,H' b=none)→∀ b∈fp,oQ Xc [] H' b:=fun {H'} hn b hb=>by
  have q:=hf b hb
  refine ⟨hn b hb,by rw [elo];exact Nat.ne_of_lt (flt3 b hb),fun z=>?_,.inl (by rw [← hXc];exact hb),fun x c e=>?_,fun p hp=>?_⟩
  ·have z':b∈frs X.stack:=by rw [← hXc] at z;exact z
   rcases List.mem_cons.mp (I.stkSub b z') with z | z
   ·exact q.2.1 z
   ·exact q.2.2.1 z
  ·have e':(cellsFrom (s3.heap.objs.size+1) scope.names (pR X.env scope.names [])).lookup x=some c:=by rw [ee] at e;exact e
   rcases cs1.two x c e' with ⟨_,z,_⟩ | z
   ·exact Nat.ne_of_gt (Nat.lt_trans (flt3 b hb) z)
   ·exact q.2.2.2.2.1 x c (lD (lZ ok I) z).2
  ·have hp':p∈(X.pn++pins)++[]:=by rw [← hXc] at hp;exact hp
   rw [List.append_nil] at hp'
   exact q.2.2.2.2.2 p hp'
 have loop:codeAny (model X.prog X.w) X.A (.compLoop (.ListComp elt [⟨tg,iter,ifs,0⟩] scope pos) 0 (.ref it) (.ref D) Xc.env) (aEI X pins σ Q (.ref D) s3.heap.objs.size) { s3 with heap:=h1 }:=by
  refine aHp (fun n s'=>∃ i ys H',bI Xc [] (σc fr σ) H' s'∧tn i s'.heap∧(∀ b∈fp,H' b=none)∧W i n ys H') ?_ m0 ⟨0,[],_,I4,st4,fun b hb=>(hf3 b hb).1,w0⟩
  rintro n s5 ⟨i,ys,H5,I5,st5,fr5,w5⟩
  rcases turn i n ys H5 w5 with ⟨stop,qn⟩ | ⟨go,step⟩
  ·have q:=T.done Xc eP ew eK ec i [] s5 (σc fr σ) H5 (fun _ _=>False) I5 (stat fr5) st5 stop
   rw [eA] at q
   refine iA q fun r s6 ⟨hr,I6⟩=>?_
   subst hr
   obtain ⟨m6,hn6,_⟩:=I6.loc
   have fC:H5 s3.heap.objs.size=none:=by have:=I6.free;rwa [elo] at this
   have bs:=I6.base
   have os:=I6.os
   have hk:=I6.hok
   rw [← hXc] at bs os hk
   refine ⟨D,H5,rfl,rfl,I3'.call' os bs hk I6.bare fun b hb=>?_,I3'.fpOk (Nat.le_refl _) fC,⟨m6,by rw [elo] at hn6;exact hn6⟩,qn⟩
   have q:=hf b hb
   exact ⟨q.2.2.2.1,q.2.1,q.2.2.2.2.1,q.2.2.2.2.2⟩
  ·have q:=T.item Xc eP ew eK ec i [] s5 (σc fr σ) H5 (fun _ _=>False) I5 (stat fr5) st5 go
   rw [eA] at q
   refine iA q fun r s6 ⟨u,hr,h6⟩=>?_
   subst hr
   refine iA h6 fun _ s7 ⟨x,H7,I7,r7,y7,st7,fr7⟩=>?_
   have I7':=I7.pinned (stat fr7) (T.obj _ _ st7)
   have q8:=hg' _ s7 _ H7 x u _ I7' r7 (step x H7 y7)
   rw [eP,ew,eA,ex] at q8
   refine iA q8 fun _ s8 ⟨σ8,H8,I8,fw8,q8⟩=>?_
   have q9:=ht' _ s8 σ8 H8 _ I8 q8
   rw [eP,ew,eA,ex] at q9
   refine iA q9 fun b s9 ⟨H9,I9,q9⟩=>?_
   have again:∀ {H':Hp}{ys':List V}{s':Shared},bI Xc ([]++aA4 fp s7.heap) σ8 H' s'→(∃ m',m'<n∧W (i+1) m' ys' H')→∃ m,m<n∧∃ i ys H',bI Xc [] (σc fr σ) H' s'∧tn i s'.heap∧(∀ b∈fp,H' b=none)∧W i m ys H':=fun {H' ys' s'} J' ⟨m',hm,w'⟩=>by
    refine ⟨m',hm,i+1,ys',H',(J'.unpinned).weak fw8.1.symm fw8.2,T.keep _ _ _ st7 fun b hb o e=>(J'.pin (b,o) (List.mem_append_right _ (List.mem_append_right _ (qZ hb e)))).1,fun b hb=>?_,w'⟩
    obtain ⟨o,e,d⟩:=T.obj _ _ st7 b hb
    exact (J'.pin (b,o) (List.mem_append_right _ (List.mem_append_right _ (qZ hb e)))).2.1
   cases b with
   | false=>
    rw [if_neg (by simp)]
    exact again I9 q9
   | true=>
    rw [if_pos rfl]
    have q9':te σ8 H9 fun y H4=>H4 D=some (.lst ys)∧ys.length<sizeLine∧∃ m',m'<n∧W (i+1) m' (ys++[y]) (upd H4 D (.lst (ys++[y]))):=q9
    have q10:=he' _ s9 σ8 H9 _ I9 q9'
    rw [eP,ew,eA,ex] at q10
    refine iA q10 fun y s10 ⟨z,H10,I10,r10,e10,l10,w10⟩=>?_
    have q11:=jK (X:=Xc) _ s10 σ8 H10 (.ref D) [z] (.ref D) [y] (fun v H'=>∃ m',m'<n∧W (i+1) m' (ys++[z]) H') I10 rfl (.cons r10 .nil) ⟨D,ys,z,rfl,rfl,e10,l10,w10⟩
    rw [eP,ew,eA,ex] at q11
    exact iA q11 fun _ s11 ⟨_,H11,I11,_,w11⟩=>again I11 w11
 have loop':=loop
 rw [ee] at loop'
 exact codeAny_compStart_list loop' (T.self X.A 0 _ _ _ st4 loop')
def aIo (fr:List (Option Nat)) (wi:TI) (g:TG) (tt:TT) (te:TE):TE:=fun σ H Q=>wi σ H fun J H1=>∀ D,H1 D=none→aFa J (σc fr σ) g tt te D H1 Q
theorem aBa {C:Addr}{H':Hp}{s':Shared}{h':Heap} (I:bI X pins σ H' s') (f:oQ X pins H' C) (hs:Heap.SameBut C s'.heap h'):bI X pins σ H' { s' with heap:=h' }:=
 I.turned (t':=s'.toks) (fun b o hb e=>(hs.2 b hb).trans e) f.1 f.2.1 f.2.2.2.1 f.2.2.2.2.1 f.2.2.2.2.2
theorem aGt {tg elt iter:Expr}{ifs:List Expr}{pos:Pos}{g:TG}{tt:TT}{te:TE}{wi:TI} (ok:m8 X.env.scope scope X.N Nc fr=true) (hc:X.calm=true) (hi:PI X tg iter wi)
  (hg:∀ Cc pins fp s3 H3,PG (y8 X scope Nc Cc pins fp s3 H3) tg g) (ht:∀ Cc pins fp s3 H3,aEk (y8 X scope Nc Cc pins fp s3 H3) ifs tt) (he:∀ Cc pins fp s3 H3,PE (y8 X scope Nc Cc pins fp s3 H3) elt te)
  (hs:∀ x,foldedSetIterable iter X.env x=pure x:=by intro _;rfl) :
  PE X (.ListComp elt [⟨tg,iter,ifs,0⟩] scope pos) (aIo fr wi g tt te):=by
 have ok:=oJ.of ok
 intro pins s σ H Q I h
 rw [eval_ListComp]
 refine wpAny_comprehension_free (use:=none) rfl hs (kB (lZ ok I)) ok.kind ok.nms (iA (hi pins s σ H _ I h) fun v s1 h1=>iA h1 fun itv s2 h2=>?_)
 obtain ⟨it,fp,tn,J,H2,e,I2,T,st2,f2,w⟩:=h2
 subst e
 refine iA (aCj ok hc hg ht he I2 T st2 f2 w) fun acc s3 h3=>iA h3 fun cenv s4 h4=>codeAny_mono h4 fun r s5 h5=>?_
 obtain ⟨D,H5,rfl,rfl,I5,f5,⟨m5,n5⟩,q5⟩:=h5
 exact ⟨m5,n5,fun h' sb=>⟨.ref D,H5,aBa I5 f5 sb,rfl,q5⟩⟩
theorem aGN {tg elt iter:Expr}{ifs:List Expr}{pos pos' pos'':Pos}{g:TG}{tt:TT}{te:TE}{wi:TI}{i:Nat}{x:Str} (ok:m8 X.env.scope scope X.N Nc fr=true) (hc:X.calm=true) (hN:X.N.Nodup) (hi:X.N[i]? = some x) (hx:Loc X.env.scope x) (hit:PI X tg iter wi)
  (hg:∀ Cc pins fp s3 H3,PG (y8 X scope Nc Cc pins fp s3 H3) tg g) (ht:∀ Cc pins fp s3 H3,aEk (y8 X scope Nc Cc pins fp s3 H3) ifs tt) (he:∀ Cc pins fp s3 H3,PE (y8 X scope Nc Cc pins fp s3 H3) elt te)
  (hsw:swapsWith (.ListComp elt [⟨tg,iter,ifs,0⟩] scope pos) (some (.Name x pos')) pos''.line X.env=pure true)
  (hs:∀ x,foldedSetIterable iter X.env x=pure x:=by intro _;rfl) (hf:X.fn x=true∨X.env.scope.names.lookup x=some .local:=by first | exact .inl rfl | exact .inr rfl | assumption) :
  PS X (.Assign [.Name x pos'] (.ListComp elt [⟨tg,iter,ifs,0⟩] scope pos) pos'') (aFp (aIo fr wi g tt te) (yH i)):=by
 have ok:=oJ.of ok
 intro pins s σ H Dn I h
 rw [exec_Assign_Name_used _ _ _ _ hsw]
 refine wpAny_bind (wpAny_standAt (wpAny_bind ?_))
 refine wpAny_bind (m:=comprehension (.ListComp elt [⟨tg,iter,ifs,0⟩] scope pos) scope X.env (firstIterPos [⟨tg,iter,ifs,0⟩] pos) (newList []) false (eval iter X.env) (some (assign (.Name x pos') X.env))) ?_
 refine iA (wpAny_comprehension_free (use:=some (assign (.Name x pos') X.env)) (Q:=fun _ s'=>SP X pins Dn .next s') rfl hs (kB (lZ ok I)) ok.kind ok.nms (iA (hit pins s σ H _ I h) fun v s1 h1=>iA h1 fun itv s2 h2=>?_)) fun _ s' q=>wpAny_pure (wpAny_pure q)
 obtain ⟨it,fp,tn,J,H2,e,I2,T,st2,f2,w⟩:=h2
 subst e
 refine iA (aCj ok hc hg ht he I2 T st2 f2 w) fun acc s3 h3=>iA h3 fun cenv s4 h4=>codeAny_mono h4 fun r s5 h5=>?_
 obtain ⟨D,H5,rfl,rfl,I5,f5,⟨m5,n5⟩,q5⟩:=h5
 refine wpAny_assign_Name (aB4 (v:=.ref D) I5 hN hi hx rfl (fun s6 I6 ⟨a,sb,ha⟩=>?_) hf)
 have nC:cenv.locals≠a:=by
  rcases ha with ha | ha
  ·rw [ha];exact f5.2.1
  ·exact Ne.symm (f5.2.2.2.2.1 x a ha)
 refine ⟨m5,n5.sameBut sb nC,fun h' sb'=>⟨_,H5,aBa I6 f5 sb',q5⟩⟩
end
section
variable {X:Cx}
theorem aLI:tO X (compareOp .Is) (fun x y H Q=>∃ c d,x = .bl c∧y = .bl d∧Q (.bl (c == d)) H):=by
 intro pins s σ H x y v u Q I rx ry h
 obtain ⟨c,d,rfl,rfl,q⟩:=h
 cases rx
 cases ry
 exact is_bool (aCy I q rfl)
theorem aHB:tO X (compareOp .IsNot) (fun x y H Q=>∃ c d,x = .bl c∧y = .bl d∧Q (.bl (c != d)) H):=by
 intro pins s σ H x y v u Q I rx ry h
 obtain ⟨c,d,rfl,rfl,q⟩:=h
 cases rx
 cases ry
 exact isnot_bool (aCy I q rfl)
def aNW (K:PySem.W.Frag):R2:=fun x y H Q=>∃ a b ys,x = .ref a∧y = .ref b∧kS K H a []∧kS K H b ys∧Q (.ref b) H
theorem aLh:tO X (binaryOp .Add) (aNW X.K):=by
 intro pins s σ H x y v u Q I rx ry h
 obtain ⟨a,b,ys,rfl,rfl,ha,hb,q⟩:=h
 cases rx
 cases ry
 obtain ⟨its,r1,p1,_⟩:=I.tuple ha
 obtain ⟨its2,r2,p2,_⟩:=I.tuple hb
 have e:its=[]:=r1.nil_iff.mpr rfl
 subst e
 obtain ⟨⟨cls,dd,data,sl⟩,ho,hc,n,hd⟩:=id p1
 obtain ⟨⟨cls2,dd2,data2,sl2⟩,ho2,hc2,n2,hd2⟩:=id p2
 simp only at hc hd hc2 hd2
 subst hc hd hc2 hd2
 exact concat_meets ⟨_,ho,rfl⟩ ⟨_,ho2,rfl⟩ noFill_tuple_add seq_tuple_add PySem.F.slot_tuple_add PySem.F.entry_tuple_add (PySem.F.args_tuple_add_2 _ _)
  (tuple_addW0 a b [].toArray its2.toArray n n2 dd dd2 sl sl2 (by simp)) ⟨ho,ho2,⟨.ref b,H,I,rfl,q⟩⟩
theorem vK {prog:Program}{w:World}{A:Around}{E:Value→Shared→Prop}{s:Shared}{t sl:Addr}{items:Array Value}{vl vu:Value}{lo hi:Option Int}{Q:Value→Shared→Prop} (ht:IsTup s.heap t items) (hs:s.heap.IsSliceOf sl vl vu .none) (pl:IsPart vl lo) (pu:IsPart vu hi)
  (hw:HT.sIx items.size 0 lo=0∧HT.sIx items.size items.size hi=items.size) (h:Q (.ref t) s):wpAny (model prog w) A (getItem (.ref t) (.ref sl)) Q E s:=by
 obtain ⟨os,hos,hcs,hds⟩:=id hs
 have hTs:s.TypeIs (.ref sl) "slice":=⟨os,hos,hcs⟩
 unfold getItem
 try with_reducible refine wpAny_holding ?_
 first | refine wpAny_bind (wpAny_pure ?_) | skip
 refine wpAny_bind (wpAny_sequenceKey ht.typeIs (by decide) ?_)
 refine wpAny_bind (wpAny_callSpecial?_slot (name:=Str.ofString "__getitem__") ht.typeIs PyProof.Rows.slot_tuple_getitem
  (wpAny_call_entry PyProof.Rows.slot_tuple_getitem ht.typeIs entry_tuple_getitem ?_ (args_tuple_getitem _ _)))
 show wpAny _ _ (Builtin.Tuple.tupleItemsOf (.ref t) >>= _) _ _ s
 refine wpAny_bind (tupleItemsOf_ ht ?_)
 refine wpAny_bind (wpAny_typeOf hTs ?_)
 rw [if_pos (by decide)]
 refine wpAny_bind (HT.sliceApplied_gen hs pl pu ?_)
 have hyes:((((HT.sIx items.size 0 lo:Nat):Int) == 0 && (1:Int) == 1 && (HT.sIx items.size items.size hi-HT.sIx items.size 0 lo) == items.size)=true):=by
  rw [hw.1,hw.2]
  simp
 show wpAny _ _ (if (((HT.sIx items.size 0 lo:Nat):Int) == 0 && (1:Int) == 1 && (HT.sIx items.size items.size hi-HT.sIx items.size 0 lo) == items.size)=true then _ else _) _ _ s
 rw [if_pos hyes]
 have ex:wpAny (model prog w) A.in1 (Builtin.Tuple.tupleIsExact (.ref t)) (fun b s'=>b=true∧s'=s) E s:=by
  unfold Builtin.Tuple.tupleIsExact
  exact wpAny_bind (wpAny_typeOf ht.typeIs (wpAny_pure ⟨by decide,rfl⟩))
 refine wpAny_bind (iA ex fun b s' q=>?_)
 obtain ⟨rfl,rfl⟩:=q
 rw [if_pos rfl]
 exact wpAny_bind (wpAny_rule (wpAny_pure ⟨_,rfl,wpAny_pure h⟩))
def aOE (K:PySem.W.Frag):V→Option Int→Option Int→Hp→VK→Prop:=fun x lo hi H Q=>∃ a xs,x = .ref a∧kS K H a xs ∧
 (HT.sIx xs.length 0 lo=0∧HT.sIx xs.length xs.length hi=xs.length)∧Q (.ref a) H
theorem aKV:SlR X (aOE X.K):=by
 intro pins s σ H x v vl vu lo hi sl Q I rx hs pl pu h
 obtain ⟨a,xs,rfl,hx,hw,q⟩:=h
 cases rx
 obtain ⟨its,r,ht,hz⟩:=I.tuple hx
 have hlen:its.toArray.size=xs.length:=by rw [List.size_toArray];exact r.length.symm
 refine ⟨"tuple",_,PyProof.Rows.slot_tuple_getitem.lookup,ht.typeIs,?_⟩
 exact vK ht hs pl pu (by rw [hlen];exact hw) ⟨.ref a,H,I,rfl,q⟩
theorem xF:fillsNumberSlot (.type "tuple") "mul"=pure false:=
 PySem.fillsNumberSlot_seq (id:="tuple.__mul__") (r:=some (.builtin "tuple.__rmul__")) F.slot_tuple_mul.lookup (by decide +kernel) F.slot_tuple_rmul.lookup (by decide +kernel)
theorem aCQ:seqRepeat? (.type "tuple")=pure (some (.builtin "tuple.__mul__")):=by
 unfold seqRepeat?
 have e1   := PySem.seqSlot_of (T:="tuple") (name:="__mul__") (id:="tuple.__mul__") F.slot_tuple_mul.lookup (by decide +kernel)
 have e2   := PySem.seqSlot_of (T:="tuple") (name:="__rmul__") (id:="tuple.__rmul__") F.slot_tuple_rmul.lookup (by decide +kernel)
 rw [e1,e2]
 rfl
theorem aAh (a:Int) (t:Tok) (l:Addr) (items:Array Value) (n:Nat) (dd:Option Addr) (sl:Array (Option Value)) :
  Meets (Builtin.«int.__rmul__» ⟨[.int a t,.ref l],[]⟩) (fun _ R s=>s.heap.get? l=some { cls:=.type "tuple",dict:=dd,data:=.seq items n,slots:=sl }∧R (.ok (.ret Value.notImplemented)) s):=
 .of_wp fun prog w A R s h=>by
  obtain ⟨hp,g,d,tk,os⟩:=s
  obtain ⟨hl,h⟩:=h
  wp_walk
  exact ⟨_,rfl,h⟩
theorem aFg (l:Addr) (items:Array Value) (n:Nat) (dd:Option Addr) (sl:Array (Option Value)) (x:Int) (u:Tok) (h1:1<x) (h2:x<2 ^ 63) (h3:items.isEmpty=false) (h4:items.size * x≤sizeLine) :
  Meets (Builtin.«tuple.__mul__» ⟨[.ref l,.int x u],[]⟩) (fun _ R s=>s.heap.get? l=some { cls:=.type "tuple",dict:=dd,data:=.seq items n,slots:=sl } ∧
   R (.ok (.ret (Value.ref s.heap.objs.size))) { s with heap:=s.heap.push { cls:=Value.type "tuple",data:=Data.seq (List.foldl (fun x1 x2=>x1++x2) #[] (List.replicate x.toNat items)) } }):=
 .of_wp fun prog w A R s h=>by
  obtain ⟨hl,h⟩:=h
  have hT:s.TypeIs (.ref l) "tuple":=⟨_,hl,rfl⟩
  have hI:IsTup s.heap l items:=⟨_,hl,rfl,n,rfl⟩
  have f1:=AutoSeq1.idx_int
  unfold Builtin.«tuple.__mul__»
  obtain ⟨hp,g,d,tk,os⟩:=s
  wp_walk using wpAny_loadPart' hl
  rw [if_neg (by simp;omega)]
  refine wpAny_bind (tupleItemsOf_ hI ?_)
  dsimp only
  have hx1:(x == 1)=false:=by
   have:x≠1:=by omega
   simpa using this
  have e0:¬ (items.isEmpty || x == 1)=true:=by
   rw [h3,hx1]
   simp
  have e1:¬ (decide (x≤0) || items.isEmpty)=true:=by
   have:¬ x≤0:=by omega
   rw [h3]
   simpa using this
  have hl9:(sizeLine:Int)≤(2 ^ 63-1) / 8:=by decide
  have e2:¬ ((items.size:Int) * x > (2 ^ 63-1) / 8):=by omega
  have e3:¬ Builtin.Tuple.tupleTooMany ((items.size:Int) * x)=true:=by
   unfold Builtin.Tuple.tupleTooMany
   simpa using h4
  rw [if_neg e0,if_neg e1,if_neg e2,if_neg e3]
  have hsz:(List.foldl (fun x1 x2=>x1++x2) #[] (List.replicate x.toNat items)).size≤sizeLine:=by
   have q:=sJ items.toList x.toNat []
   have q2:List.foldl (fun x1 x2=>x1++x2) #[] (List.replicate x.toNat items)=(List.replicate x.toNat items.toList).flatten.toArray:=by
    simpa using q
   rw [q2,List.size_toArray,aCZ,Array.length_toList]
   have e:((x.toNat:Nat):Int)=x:=by omega
   have:((x.toNat * items.size:Nat):Int)≤(sizeLine:Int):=by
    rw [Int.natCast_mul,e,Int.mul_comm]
    exact h4
   omega
  exact wpAny_bind (m:=Builtin.Tuple.tupleExact _) (wpAny_newObj_type (wpAny_pure ⟨_,rfl,h⟩) hsz)
def aN6 (K:PySem.W.Frag):R2:=fun x y H Q=>∃ l k xs,x = .ref l∧y = .int k∧kS K H l xs∧1<k∧k<2 ^ 63∧xs≠[]∧(xs.length:Int) * k≤sizeLine ∧
 ∀ p,H p=none→Q (.ref p) (upd H p (.tup (List.replicate k.toNat xs).flatten))
theorem aKN:tO X (binaryOp .Mult) (aN6 X.K):=by
 intro pins s σ H x y v u Q I rx ry h
 obtain ⟨l,k,xs,rfl,rfl,hH,h1,h2,hne,hz,q⟩:=h
 cases rx
 obtain ⟨t,rfl⟩:=ry
 obtain ⟨its,r,ht,hzz⟩:=I.tuple hH
 have hl:=r.length
 obtain ⟨⟨cls,dd,data,sl⟩,ho,hc,n,hd⟩:=id ht
 simp only at hc hd
 subst hc hd
 have hnew:List.foldl (fun x1 x2=>x1++x2) #[] (List.replicate k.toNat its.toArray)=(List.replicate k.toNat its).flatten.toArray:=by
  have:=sJ its k.toNat []
  rw [List.nil_append] at this
  exact this
 have h3:its.toArray.isEmpty=false:=by
  cases its with
  | nil=>exact absurd (r.nil_iff.mp rfl) hne
  | cons a b=>rfl
 have h4:(its.toArray.size:Int) * k≤sizeLine:=by rw [List.size_toArray,← hl];exact hz
 refine wpAny_binaryOp_repeat_ref (T:="tuple") (U:="int") (by decide) ⟨_,ho,rfl⟩ (fun s'=>typeIs_int s' k t) xF F.fills_int_mul F.slot_int_rmul aCQ F.slot_int_index.lookup
  (call_meets F.slot_int_rmul (typeIs_int s k t) F.entry_int_rmul (F.args_int_rmul_2 _ _) (aAh k t l its.toArray n dd sl)
   ⟨ho,rfl,⟨_,ho,rfl⟩,call_meets F.slot_tuple_mul ⟨_,ho,rfl⟩ F.entry_tuple_mul (F.args_tuple_mul_2 _ _) (aFg l its.toArray n dd sl k t h1 h2 h3 h4) ⟨ho,?_⟩⟩)
 rw [hnew]
 have hln:(List.replicate k.toNat xs).flatten.length≤sizeLine:=by
  rw [aCZ]
  have e:((k.toNat:Nat):Int)=k:=by omega
  have:((k.toNat * xs.length:Nat):Int)≤(sizeLine:Int):=by
   rw [Int.natCast_mul,e,Int.mul_comm]
   exact hz
  omega
 refine ⟨.ref s.heap.objs.size,_,I.laid (t':=s.toks) (o:=.tup (List.replicate k.toNat xs).flatten) (fun b ob q=>Heap.get?_push_of_some _ q) (Nat.le_refl _) ⟨hln,_,r.rep k.toNat,IsTup.new _ _⟩,rfl,q _ I.fresh⟩
end
section
variable {X:Cx}
theorem aGI {s:Shared}{h':Heap}{o:Obj} (hk:∀ b x,b∉[s.heap.objs.size]→(s.heap.push o).get? b=some x→h'.get? b=some x):∀ b x,s.heap.get? b=some x→h'.get? b=some x:=
 fun b x e=>hk b x (fun hm=>by
  rw [List.mem_singleton.mp hm] at e
  exact Nat.lt_irrefl _ (Heap.lt_size e)) (Heap.get?_push_of_some _ e)
def aGe (n c:String):Bool:=n == c || (n == "bool" && c == "int")
end
inductive D where
 | int (i:Int) | bl (b:Bool) | non | str (x:Str) | tup (ds:List D) | lst (ds:List D)
 deriving Inhabited
mutual
def kM (K:PySem.W.Frag) (C:Hp) (v:V):D→Prop
 | .int i=>v = .int i
 | .bl b=>v = .bl b
 | .non=>v = .non
 | .str x=>v = .str x
 | .tup ds=>∃ a xs,v = .ref a∧kS K C a xs∧b9 K C xs ds
 | .lst ds=>∃ a xs,v = .ref a∧lI K C a xs∧b9 K C xs ds
def b9 (K:PySem.W.Frag) (C:Hp) (vs:List V):List D→Prop
 | []=>vs=[]
 | d::ds=>∃ x xs,vs=x::xs∧kM K C x d∧b9 K C xs ds
end
theorem cX.seqT {K:PySem.W.Frag}{H H':Hp}{a:Addr}{xs:List V} (e:cX H H') (h:kS K H a xs):kS K H' a xs:=by
 rcases h with h | h
 ·rcases h with h | ⟨o,h⟩
  ·exact .inl (.inl (e _ _ h))
  ·exact .inl (.inr ⟨o,e _ _ h⟩)
 ·exact .inr h
mutual
theorem kM.mono {K:PySem.W.Frag}{C C':Hp} (e:cX C C'):∀ {v:V} (d:D),kM K C v d→kM K C' v d
 | v,.int i,h=>by unfold kM at h ⊢;exact h
 | v,.bl i,h=>by unfold kM at h ⊢;exact h
 | v,.non,h=>by unfold kM at h ⊢;exact h
 | v,.str i,h=>by unfold kM at h ⊢;exact h
 | v,.tup ds,h=>by
  unfold kM at h ⊢
  obtain ⟨a,xs,r,q,t⟩:=h
  exact ⟨a,xs,r,e.seqT q,b9.mono e ds t⟩
 | v,.lst ds,h=>by
  unfold kM at h ⊢
  obtain ⟨a,xs,r,q,t⟩:=h
  exact ⟨a,xs,r,e.seq q,b9.mono e ds t⟩
theorem b9.mono {K:PySem.W.Frag}{C C':Hp} (e:cX C C'):∀ {vs:List V} (ds:List D),b9 K C vs ds→b9 K C' vs ds
 | vs,[],h=>by unfold b9 at h ⊢;exact h
 | vs,d::ds,h=>by
  unfold b9 at h ⊢
  obtain ⟨x,xs,r,q,t⟩:=h
  exact ⟨x,xs,r,kM.mono e d q,b9.mono e ds t⟩
end
section
variable {K:PySem.W.Frag}{C:Hp}
theorem bB {v:V}{i:Int}:kM K C v (.int i)↔v = .int i:=by unfold kM;exact Iff.rfl
theorem dX {v:V}{i:Bool}:kM K C v (.bl i)↔v = .bl i:=by unfold kM;exact Iff.rfl
theorem fD {v:V}:kM K C v .non↔v = .non:=by unfold kM;exact Iff.rfl
theorem iW {v:V}{i:Str}:kM K C v (.str i)↔v = .str i:=by unfold kM;exact Iff.rfl
theorem bV {v:V}{ds:List D}:kM K C v (.tup ds)↔∃ a xs,v = .ref a∧kS K C a xs∧b9 K C xs ds:=by rw [kM]
theorem cT {v:V}{ds:List D}:kM K C v (.lst ds)↔∃ a xs,v = .ref a∧lI K C a xs∧b9 K C xs ds:=by rw [kM]
theorem j6 {vs:List V}:b9 K C vs []↔vs=[]:=by rw [b9]
theorem f8 {vs:List V}{d:D}{ds:List D}:b9 K C vs (d::ds)↔∃ x xs,vs=x::xs∧kM K C x d∧b9 K C xs ds:=by rw [b9]
theorem b9.cons {v:V}{vs:List V}{d:D}{ds:List D} (h:kM K C v d) (t:b9 K C vs ds):b9 K C (v::vs) (d::ds):=f8.mpr ⟨v,vs,rfl,h,t⟩
theorem b9.nil:b9 K C [] []:=j6.mpr rfl
theorem b9.length:∀ {vs:List V}{ds:List D},b9 K C vs ds→vs.length=ds.length
 | vs,[],h=>by
  rw [j6.mp h]
  rfl
 | vs,d::ds,h=>by
  obtain ⟨x,xs,rfl,_,t⟩:=f8.mp h
  simp [b9.length t]
theorem b9.append:∀ {vs us:List V}{ds es:List D},b9 K C vs ds→b9 K C us es→b9 K C (vs++us) (ds++es)
 | vs,us,[],es,h,q=>by rw [j6.mp h];exact q
 | vs,us,d::ds,es,h,q=>by
  obtain ⟨x,xs,rfl,a,t⟩:=f8.mp h
  exact b9.cons a (b9.append t q)
theorem b9.drop:∀ {vs:List V}{ds:List D} (n:Nat),b9 K C vs ds→b9 K C (vs.drop n) (ds.drop n)
 | vs,ds,0,h=>h
 | vs,[],n+1,h=>by rw [j6.mp h];exact .nil
 | vs,d::ds,n+1,h=>by
  obtain ⟨x,xs,rfl,a,t⟩:=f8.mp h
  exact b9.drop n t
theorem b9.take:∀ {vs:List V}{ds:List D} (n:Nat),b9 K C vs ds→b9 K C (vs.take n) (ds.take n)
 | vs,ds,0,h=>by simp;exact .nil
 | vs,[],n+1,h=>by rw [j6.mp h];exact .nil
 | vs,d::ds,n+1,h=>by
  obtain ⟨x,xs,rfl,a,t⟩:=f8.mp h
  exact b9.cons a (b9.take n t)
theorem b9.get:∀ {vs:List V}{ds:List D}{i:Nat}{d:D},b9 K C vs ds→ds[i]? = some d→∃ v,vs[i]? = some v∧kM K C v d
 | vs,[],i,d,h,e=>by cases e
 | vs,c::ds,0,d,h,e=>by
  obtain ⟨x,xs,rfl,a,t⟩:=f8.mp h
  cases e
  exact ⟨x,rfl,a⟩
 | vs,c::ds,i+1,d,h,e=>by
  obtain ⟨x,xs,rfl,a,t⟩:=f8.mp h
  exact b9.get (i:=i) t e
theorem b9.rep {vs:List V}{ds:List D} (h:b9 K C vs ds):∀ k:Nat,b9 K C (List.replicate k vs).flatten (List.replicate k ds).flatten
 | 0=>.nil
 | k+1=>by
  rw [List.replicate_succ,List.flatten_cons,List.replicate_succ,List.flatten_cons]
  exact h.append (b9.rep h k)
theorem b9.ints {vs:List V}:∀ {ns:List Int},b9 K C vs (ns.map D.int)→vs=ns.map V.int:=by
 intro ns
 induction ns generalizing vs with
 | nil=>intro h;exact j6.mp h
 | cons n ns ih=>
  intro h
  obtain ⟨x,xs,rfl,a,t⟩:=f8.mp h
  rw [bB.mp a,ih t]
  rfl
end
structure eN (C H C1 H1:Hp):Prop where
 hh:cX H H1
 cc:cX C C1
 ch:cX C1 H1
 ow:∀ b,C b=none→H b≠none→C1 b=none
theorem eN.refl {C H:Hp} (h:cX C H):eN C H C H:=⟨cX.refl _,cX.refl _,h,fun _ e _=>e⟩
theorem eN.trans {C H C1 H1 C2 H2:Hp} (a:eN C H C1 H1) (b:eN C1 H1 C2 H2):eN C H C2 H2:=
 ⟨a.hh.trans b.hh,a.cc.trans b.cc,b.ch,fun c e n=>b.ow c (a.ow c e n) fun z=>n (a.hh.free z)⟩
theorem cX.upd {H:Hp}{p:Addr}{o:HO} (h:H p=none):cX H (upd H p o):=fun b u e=>by rw [aZ (bQ e h)];exact e
theorem eN.new {C H:Hp}{p:Addr}{o:HO} (h:cX C H) (hp:H p=none):eN C H (upd C p o) (upd H p o):=by
 refine ⟨cX.upd hp,cX.upd (h.free hp),fun b u e=>?_,fun b e n=>?_⟩
 ·by_cases hb:b=p
  ·subst hb;rw [bR] at e ⊢;exact e
  ·rw [aZ hb] at e ⊢;exact h b u e
 ·rw [aZ (fun z=>n (by rw [z];exact hp))];exact e
theorem eN.newO {C H:Hp}{p:Addr}{o:HO} (h:cX C H) (hp:H p=none):eN C H C (upd H p o):=
 ⟨cX.upd hp,cX.refl _,h.trans (cX.upd hp),fun b e n=>e⟩
inductive DM where
 | k (kvs:List (Int×Int)) | t (kvs:List (List Int×Int))
def yD:DM→HO
 | .k kvs=>.dK (kvs.map fun p=>(Sum.inl p.1,.int p.2))
 | .t kvs=>.dT (kvs.map fun p=>(p.1.map Sum.inl,.int p.2))
theorem zU {m:DM}{xs:List V}:yD m≠.lst xs:=by cases m <;> intro z <;> cases z
inductive Sl where
 | un | im (d:D) | ow (ds:List D) | od (m:DM) | fd (m:DM)
abbrev DS:=List Sl
structure Dcs (H0:Hp) (δ:DS) (σ:St) (C H:Hp):Prop where
 od:∀ (i:Nat) m,δ[i]? = some (.od m)→∃ l,σ[i]? = some (some (.ref l))∧C l=none∧H0 l=none∧H l=some (yD m)
 fd:∀ (i:Nat) m,δ[i]? = some (.fd m)→∃ l o,σ[i]? = some (some (.ref l))∧C l=some (.frz o (yD m))
 ap:∀ (i j:Nat) m n l,i≠j→δ[i]? = some (.od m)→δ[j]? = some (.od n)→σ[i]? = some (some (.ref l))→σ[j]? ≠ some (some (.ref l))
def Sl.isD:Sl→Bool
 | .od _=>true
 | .fd _=>true
 | _=>false
theorem aBT {α:Type}{l:List α}{i j:Nat}{x y:α} (h:(l.set i x)[j]? = some y):(j=i∧x=y∧i<l.length)∨(j≠i∧l[j]? = some y):=by
 by_cases e:j=i
 ·subst e
  have hl:j<l.length:=by
   have:=(List.getElem?_eq_some_iff.mp h).1
   simpa using this
  rw [List.getElem?_set_self hl] at h
  exact .inl ⟨rfl,Option.some.inj h,hl⟩
 ·rw [List.getElem?_set_ne (Ne.symm e)] at h
  exact .inr ⟨e,h⟩
section
variable {H0 C H C1 H1:Hp}{δ:DS}{σ:St}
theorem Dcs.grow (D:Dcs H0 δ σ C H) (e:eN C H C1 H1):Dcs H0 δ σ C1 H1:=by
 refine ⟨fun i m h=>?_,fun i m h=>?_,D.ap⟩
 ·obtain ⟨l,a,b,c,d⟩:=D.od i m h
  exact ⟨l,a,e.ow l b (by rw [d];simp),c,e.hh _ _ d⟩
 ·obtain ⟨l,o,a,b⟩:=D.fd i m h
  exact ⟨l,o,a,e.cc _ _ b⟩
theorem Dcs.weak (D:Dcs H0 δ σ C H) {δ':DS} (h:∀ (i:Nat) x,δ'[i]? = some x→x.isD=true→δ[i]? = some x):Dcs H0 δ' σ C H:=
 ⟨fun i m e=>D.od i m (h i _ e rfl),fun i m e=>D.fd i m (h i _ e rfl),fun i j m n l hij e1 e2=>D.ap i j m n l hij (h i _ e1 rfl) (h j _ e2 rfl)⟩
theorem Dcs.set1 (D:Dcs H0 δ σ C H) {i:Nat}{x:Sl} (hx:x.isD=false):Dcs H0 (δ.set i x) σ C H:=D.weak fun j y e hy=>by
 rcases aBT e with ⟨_,z,_⟩ | ⟨_,e⟩
 ·rw [← z,hx] at hy;cases hy
 ·exact e
theorem Dcs.set2 (D:Dcs H0 δ σ C H) {i:Nat}{x:Sl}{o:Option V} (hx:x.isD=false):Dcs H0 (δ.set i x) (σ.set i o) C H:=by
 have key:∀ (j:Nat) y,(δ.set i x)[j]? = some y→y.isD=true→j≠i∧δ[j]? = some y:=fun j y e hy=>by
  rcases aBT e with ⟨_,z,_⟩ | ⟨hj,e⟩
  ·rw [← z,hx] at hy;cases hy
  ·exact ⟨hj,e⟩
 refine ⟨fun j m e=>?_,fun j m e=>?_,fun j k m n l hjk e1 e2 e3=>?_⟩
 ·obtain ⟨hj,e⟩:=key j _ e rfl
  rw [List.getElem?_set_ne (Ne.symm hj)]
  exact D.od j m e
 ·obtain ⟨hj,e⟩:=key j _ e rfl
  rw [List.getElem?_set_ne (Ne.symm hj)]
  exact D.fd j m e
 ·obtain ⟨hj,e1⟩:=key j _ e1 rfl
  obtain ⟨hk,e2⟩:=key k _ e2 rfl
  rw [List.getElem?_set_ne (Ne.symm hj)] at e3
  rw [List.getElem?_set_ne (Ne.symm hk)]
  exact D.ap j k m n l hjk e1 e2 e3
theorem Dcs.frzL (D:Dcs H0 δ σ C H) {l:Addr}{xs:List V} (hc:C l=none) (hl:H l=some (.lst xs)):Dcs H0 δ σ (upd C l (.lst xs)) H:=by
 refine ⟨fun i m e=>?_,fun i m e=>?_,D.ap⟩
 ·obtain ⟨k,a,b,c,d⟩:=D.od i m e
  exact ⟨k,a,by rw [aZ (aD8 d hl zU)];exact b,c,d⟩
 ·obtain ⟨k,o,a,b⟩:=D.fd i m e
  exact ⟨k,o,a,cX.upd hc _ _ b⟩
theorem Dcs.updL (D:Dcs H0 δ σ C H) {l:Addr}{xs ys:List V} (hl:H l=some (.lst xs)):Dcs H0 δ σ C (upd H l (.lst ys)):=by
 refine ⟨fun i m e=>?_,D.fd,D.ap⟩
 obtain ⟨k,a,b,c,d⟩:=D.od i m e
 exact ⟨k,a,b,c,by rw [aZ (aD8 d hl zU)];exact d⟩
theorem Dcs.none (h:∀ (i:Nat) x,δ[i]? = some x→x.isD=false):Dcs H0 δ σ C H:=by
 refine ⟨fun i m e=>?_,fun i m e=>?_,fun i j m n l _ e=>?_⟩
 ·have:=h i _ e
  cases this
 ·have:=h i _ e
  cases this
 ·have:=h i _ e
  cases this
end
def aE4:FuncBody→Option Pos
 | .stmts [.Return (some (.Call _ _ [⟨_,.Lambda _ _ _ lp,_⟩] _)) _]=>some lp
 | _=>none
def aAQ (K:PySem.W.Frag):Option (Addr×Value×Value×Str):=match PySem.W.nsIn K mainGlobals "hardest_for" with
 | some (some (.ref f))=>match K.lookup f with
  | some ⟨_,_,.func fd,_⟩=>match PySem.W.tabIn K "hardest_for",aE4 fd.body with
   | some (_,P),some lp=>some (P,rawInt lp.line,rawInt lp.col,fd.qualname++".<locals>."++"<lambda>")
   | _,_=>none
  | _=>none
 | _=>none
def TB (K:PySem.W.Frag) (C:Hp):Prop:=∀ P l c q,aAQ K=some (P,l,c,q)→C P=some (.tab l c q)
theorem TB.mono {K:PySem.W.Frag}{C C':Hp} (h:TB K C) (e:cX C C'):TB K C':=fun P l c q z=>e _ _ (h P l c q z)
structure gU (K:PySem.W.Frag) (C0 H0:Hp) (δ:DS) (σ:St) (C H:Hp):Prop where
 tb:TB K C0
 len:σ.length=δ.length
 ext:eN C0 H0 C H
 im:∀ (i:Nat) d,δ[i]? = some (.im d)→∃ v,σ[i]? = some (some v)∧kM K C v d
 ow:∀ (i:Nat) ds,δ[i]? = some (.ow ds)→∃ l xs,σ[i]? = some (some (.ref l))∧C l=none∧H0 l=none∧H l=some (.lst xs)∧b9 K C xs ds
 ap:∀ (i j:Nat) ds es l,i≠j→δ[i]? = some (.ow ds)→δ[j]? = some (.ow es)→σ[i]? = some (some (.ref l))→σ[j]? ≠ some (some (.ref l))
 dc:Dcs H0 δ σ C H
section
variable {K:PySem.W.Frag}{C0 H0 C H C1 H1:Hp}{δ:DS}{σ:St}
theorem gU.grow (R:gU K C0 H0 δ σ C H) (e:eN C H C1 H1):gU K C0 H0 δ σ C1 H1:=by
 refine ⟨R.tb,R.len,R.ext.trans e,fun i d h=>?_,fun i ds h=>?_,R.ap,R.dc.grow e⟩
 ·obtain ⟨v,a,b⟩:=R.im i d h
  exact ⟨v,a,b.mono e.cc⟩
 ·obtain ⟨l,xs,a,b,c,d,f⟩:=R.ow i ds h
  exact ⟨l,xs,a,e.ow l b (by rw [d];simp),c,e.hh _ _ d,f.mono e.cc⟩
theorem gU.ch (R:gU K C0 H0 δ σ C H):cX C H:=R.ext.ch
theorem gU.tc (R:gU K C0 H0 δ σ C H):TB K C:=R.tb.mono R.ext.cc
theorem bC {α:Type}{l:List α}{i j:Nat}{x y:α} (h:(l.set i x)[j]? = some y):(j=i∧x=y∧i<l.length)∨(j≠i∧l[j]? = some y):=by
 by_cases e:j=i
 ·subst e
  have hl:j<l.length:=by
   have:=(List.getElem?_eq_some_iff.mp h).1
   simpa using this
  rw [List.getElem?_set_self hl] at h
  exact .inl ⟨rfl,Option.some.inj h,hl⟩
 ·rw [List.getElem?_set_ne (Ne.symm e)] at h
  exact .inr ⟨e,h⟩
theorem gU.setI (R:gU K C0 H0 δ σ C H) {i:Nat}{v:V}{d:D} (h:kM K C v d):gU K C0 H0 (δ.set i (.im d)) (σ.set i (some v)) C H:=by
 refine ⟨R.tb,by simp [R.len],R.ext,fun j e h'=>?_,fun j ds h'=>?_,fun j k ds es l hjk h1 h2 h3=>?_,R.dc.set2 rfl⟩
 ·rcases bC h' with ⟨rfl,e1,hl⟩ | ⟨hj,h'⟩
  ·cases e1
   exact ⟨v,by rw [List.getElem?_set_self (by rw [R.len];exact hl)],h⟩
  ·obtain ⟨u,a,b⟩:=R.im j e h'
   exact ⟨u,by rw [List.getElem?_set_ne (Ne.symm hj)];exact a,b⟩
 ·rcases bC h' with ⟨_,e1,_⟩ | ⟨hj,h'⟩
  ·cases e1
  ·obtain ⟨l,xs,a,b⟩:=R.ow j ds h'
   exact ⟨l,xs,by rw [List.getElem?_set_ne (Ne.symm hj)];exact a,b⟩
 ·rcases bC h1 with ⟨_,e1,_⟩ | ⟨hj,h1⟩
  ·cases e1
  ·rcases bC h2 with ⟨_,e1,_⟩ | ⟨hk,h2⟩
   ·cases e1
   ·rw [List.getElem?_set_ne (Ne.symm hj)] at h3
    rw [List.getElem?_set_ne (Ne.symm hk)]
    exact R.ap j k ds es l hjk h1 h2 h3
theorem gU.setO (R:gU K C0 H0 δ σ C H) {i:Nat}{l:Addr}{xs:List V}{ds:List D} (h0:H0 l=none) (hc:C l=none) (hn:∀ (j:Nat) es,j≠i→δ[j]? = some (.ow es)→σ[j]? ≠ some (some (.ref l))) (hl:H l=some (.lst xs)) (h:b9 K C xs ds) :
  gU K C0 H0 (δ.set i (.ow ds)) (σ.set i (some (.ref l))) C H:=by
 refine ⟨R.tb,by simp [R.len],R.ext,fun j e h'=>?_,fun j es h'=>?_,fun j k es fs m hjk h1 h2 h3=>?_,R.dc.set2 rfl⟩
 ·rcases bC h' with ⟨_,e1,_⟩ | ⟨hj,h'⟩
  ·cases e1
  ·obtain ⟨u,a,b⟩:=R.im j e h'
   exact ⟨u,by rw [List.getElem?_set_ne (Ne.symm hj)];exact a,b⟩
 ·rcases bC h' with ⟨rfl,e1,hl'⟩ | ⟨hj,h'⟩
  ·cases e1
   exact ⟨l,xs,by rw [List.getElem?_set_self (by rw [R.len];exact hl')],hc,h0,hl,h⟩
  ·obtain ⟨m,ys,a,b⟩:=R.ow j es h'
   exact ⟨m,ys,by rw [List.getElem?_set_ne (Ne.symm hj)];exact a,b⟩
 ·rcases bC h1 with ⟨rfl,e1,hl1⟩ | ⟨hj,g1⟩
  ·cases e1
   rw [List.getElem?_set_self (by rw [R.len];exact hl1)] at h3
   cases h3
   rcases bC h2 with ⟨z,_⟩ | ⟨hk,h2⟩
   ·exact absurd z.symm hjk
   ·rw [List.getElem?_set_ne (Ne.symm hk)]
    exact hn k fs hk h2
  ·rw [List.getElem?_set_ne (Ne.symm hj)] at h3
   rcases bC h2 with ⟨rfl,e1,hl1⟩ | ⟨hk,h2⟩
   ·rw [List.getElem?_set_self (by rw [R.len];exact hl1)]
    intro z
    cases z
    exact hn j es hj g1 h3
   ·rw [List.getElem?_set_ne (Ne.symm hk)]
    exact R.ap j k es fs m hjk g1 h2 h3
theorem gU.freeze' (R:gU K C0 H0 δ σ C H) {i:Nat}{ds:List D} (h:δ[i]? = some (.ow ds)):∃ C1,gU K C0 H0 (δ.set i (.im (.lst ds))) σ C1 H:=by
 obtain ⟨l,xs,a,b,c,d,f⟩:=R.ow i ds h
 have hl:i<δ.length:=(List.getElem?_eq_some_iff.mp h).1
 have up:cX C (upd C l (.lst xs)):=cX.upd b
 have ch:cX (upd C l (.lst xs)) H:=fun z u e=>by
  by_cases hz:z=l
  ·subst hz;rw [bR] at e;cases e;exact d
  ·rw [aZ hz] at e;exact R.ch z u e
 refine ⟨upd C l (.lst xs),R.tb,by simp [R.len],⟨R.ext.hh,R.ext.cc.trans up,ch,fun z e n=>?_⟩,fun j e h'=>?_,fun j es h'=>?_,fun j k es fs m hjk h1 h2 h3=>?_,(R.dc.frzL b d).set1 rfl⟩
 ·rw [aZ (fun q=>n (by rw [q];exact c))]
  exact R.ext.ow z e n
 ·rcases bC h' with ⟨rfl,e1,hl'⟩ | ⟨hj,h'⟩
  ·cases e1
   exact ⟨.ref l,a,cT.mpr ⟨l,xs,rfl,lI.of bR,f.mono up⟩⟩
  ·obtain ⟨u,a',b'⟩:=R.im j e h'
   exact ⟨u,a',b'.mono up⟩
 ·rcases bC h' with ⟨_,e1,_⟩ | ⟨hj,h'⟩
  ·cases e1
  ·obtain ⟨m,ys,a',b',c',d',f'⟩:=R.ow j es h'
   refine ⟨m,ys,a',?_,c',d',f'.mono up⟩
   rw [aZ]
   ·exact b'
   ·intro z
    subst z
    exact R.ap i j ds es m (Ne.symm hj) h h' a a'
 ·rcases bC h1 with ⟨_,e1,_⟩ | ⟨hj,h1⟩
  ·cases e1
  ·rcases bC h2 with ⟨_,e1,_⟩ | ⟨hk,h2⟩
   ·cases e1
   ·exact R.ap j k es fs m hjk h1 h2 h3
theorem gU.change (R:gU K C0 H0 δ σ C H) {i:Nat}{ds es:List D}{l:Addr}{ys:List V} (h:δ[i]? = some (.ow ds)) (hs:σ[i]? = some (some (.ref l))) (hd:b9 K C ys es) :
  gU K C0 H0 (δ.set i (.ow es)) σ C (upd H l (.lst ys)):=by
 obtain ⟨l',xs,a,b,c,d,f⟩:=R.ow i ds h
 rw [hs] at a
 cases a
 have hl:i<δ.length:=(List.getElem?_eq_some_iff.mp h).1
 have ne:∀ z u,C z=some u→z≠l:=fun z u e q=>by rw [q,b] at e;cases e
 refine ⟨R.tb,by simp [R.len],⟨fun z u e=>?_,R.ext.cc,fun z u e=>?_,R.ext.ow⟩,fun j e h'=>?_,fun j fs h'=>?_,fun j k fs gs m hjk h1 h2 h3=>?_,(R.dc.updL d).set1 rfl⟩
 ·rw [aZ (bQ e c)];exact R.ext.hh z u e
 ·rw [aZ (ne z u e)];exact R.ch z u e
 ·rcases bC h' with ⟨_,e1,_⟩ | ⟨hj,h'⟩
  ·cases e1
  ·exact R.im j e h'
 ·rcases bC h' with ⟨rfl,e1,hl'⟩ | ⟨hj,h'⟩
  ·cases e1
   exact ⟨l,ys,hs,b,c,bR,hd⟩
  ·obtain ⟨m,zs,a',b',c',d',f'⟩:=R.ow j fs h'
   refine ⟨m,zs,a',b',c',?_,f'⟩
   rw [aZ]
   ·exact d'
   ·intro z
    subst z
    exact R.ap i j ds fs m (Ne.symm hj) h h' hs a'
 ·have g1:∃ fs',δ[j]? = some (.ow fs'):=by
   rcases bC h1 with ⟨rfl,_,_⟩ | ⟨_,h1⟩
   ·exact ⟨_,h⟩
   ·exact ⟨_,h1⟩
  have g2:∃ fs',δ[k]? = some (.ow fs'):=by
   rcases bC h2 with ⟨rfl,_,_⟩ | ⟨_,h2⟩
   ·exact ⟨_,h⟩
   ·exact ⟨_,h2⟩
  obtain ⟨_,g1⟩:=g1
  obtain ⟨_,g2⟩:=g2
  exact R.ap j k _ _ m hjk g1 g2 h3
end
section
variable {X:Cx}{a b c e:Expr}{ta tb tc td:TE}{pos:Pos}
end
abbrev GE:=DS→(D→Prop)→Prop
abbrev GF:=DS→(List D→Prop)→Prop
abbrev GT:=DS→(Bool→Prop)→Prop
def DE (X:Cx) (e:Expr) (g:GE):Prop:=∃ t,PE X e t∧∀ C0 H0 δ σ C H (Q:D→Prop) (R:VK),gU X.K C0 H0 δ σ C H→g δ Q→(∀ d v C1 H1,Q d→eN C H C1 H1→kM X.K C1 v d→R v H1)→t σ H R
def DF (X:Cx) (e:Expr) (g:GF):Prop:=∃ t,PE X e t∧∀ C0 H0 δ σ C H (Q:List D→Prop) (R:VK),gU X.K C0 H0 δ σ C H→g δ Q →
 (∀ ds p xs C1 H1,Q ds→eN C H C1 H1→C1 p=none→H p=none→H1 p=some (.lst xs)→b9 X.K C1 xs ds→R (.ref p) H1)→t σ H R
def DT (X:Cx) (e:Expr) (g:GT):Prop:=∃ t,PT X e t∧∀ C0 H0 δ σ C H (Q:Bool→Prop) (R:Bool→Hp→Prop),gU X.K C0 H0 δ σ C H→g δ Q→(∀ b C1 H1,Q b→eN C H C1 H1→R b H1)→t σ H R
def DW (X:Cx) (e:Expr) (g:GT):Prop:=∃ t,PW X e t∧∀ C0 H0 δ σ C H (Q:Bool→Prop) (R:Bool→Hp→Prop),gU X.K C0 H0 δ σ C H→g δ Q→(∀ b C1 H1,Q b→eN C H C1 H1→R b H1)→t σ H R
def DA (X:Cx) (es:List Expr) (g:GF):Prop:=∃ t,PA X es t∧∀ C0 H0 δ σ C H (Q:List D→Prop) (R:List V→Hp→Prop),gU X.K C0 H0 δ σ C H→g δ Q→(∀ ds vs C1 H1,Q ds→eN C H C1 H1→b9 X.K C1 vs ds→R vs H1)→t σ H R
abbrev GO:=D→D→(D→Prop)→Prop
def DOp (X:Cx) (f:Value→Value→Sem Value) (g:GO):Prop:=∃ r,tO X f r∧∀ x y dx dy C H (Q:D→Prop) (R:VK),cX C H→kM X.K C x dx→kM X.K C y dy→g dx dy Q→(∀ d v C1 H1,Q d→eN C H C1 H1→kM X.K C1 v d→R v H1)→r x y H R
def xX (X:Cx) (f:Value) (g:List D→(D→Prop)→Prop):Prop:=∃ r,lJ X f r∧∀ xs ds C H (Q:D→Prop) (R:VK),cX C H→b9 X.K C xs ds→g ds Q→(∀ d v C1 H1,Q d→eN C H C1 H1→kM X.K C1 v d→R v H1)→r xs H R
def aIZ (X:Cx) (f:Value) (g:List D→(List D→Prop)→Prop):Prop:=∃ r,lJ X f r∧∀ xs ds C H (Q:List D→Prop) (R:VK),cX C H→b9 X.K C xs ds→g ds Q →
 (∀ es p ys C1 H1,Q es→eN C H C1 H1→C1 p=none→H p=none→H1 p=some (.lst ys)→b9 X.K C1 ys es→R (.ref p) H1)→r xs H R
theorem aKK {C H C1 H1:Hp}{p:Addr}{o:HO} (e:eN C H C1 H1) (hc:C1 p=none) (hn:H p=none) (h1:H1 p=some o):eN C H (upd C1 p o) H1:=by
 refine ⟨e.hh,e.cc.trans (cX.upd hc),fun b u q=>?_,fun b q n=>?_⟩
 ·by_cases hb:b=p
  ·subst hb;rw [bR] at q;cases q;exact h1
  ·rw [aZ hb] at q;exact e.ch b u q
 ·rw [aZ (fun z=>n (by rw [z];exact hn))];exact e.ow b q n
section
variable {X:Cx}{a b c e:Expr}{es:List Expr}{pos:Pos}{ga gb gc gd:GE}{gf:GF}{ta tb:GT}
abbrev gF (g:GF):GE:=fun δ Q=>g δ fun ds=>Q (.lst ds)
theorem DF.toE (h:DF X e gf):DE X e (gF gf):=by
 obtain ⟨t,p,h⟩:=h
 refine ⟨t,p,fun C0 H0 δ σ C H Q R rp g k=>h C0 H0 δ σ C H _ R rp g fun ds p xs C1 H1 q ex hc hn hl hd=>?_⟩
 exact k (.lst ds) _ (upd C1 p (.lst xs)) H1 q (aKK ex hc hn hl) (cT.mpr ⟨p,xs,rfl,lI.of bR,hd.mono (cX.upd hc)⟩)
def aF (i:Nat):GE:=fun δ Q=>match δ[i]? with
 | some (.im d)=>Q d
 | _=>False
theorem aA {i:Nat}{x:Str} (h:PE X (.Name x pos) (aAw i)):DE X (.Name x pos) (aF i):=by
 refine ⟨_,h,fun C0 H0 δ σ C H Q R rp g k=>?_⟩
 unfold aF at g
 split at g
 ·rename_i d e
  obtain ⟨v,a1,a2⟩:=rp.im i d e
  exact ⟨v,a1,k d v C H g (eN.refl rp.ch) a2⟩
 ·exact g.elim
abbrev gC (d:D):GE:=fun _ Q=>Q d
theorem aL {i j}:DE X (.Constant (.int i) j pos) (gC (.int i)):=⟨_,aMM,fun C0 H0 δ σ C H Q R rp g k=>k _ _ C H g (eN.refl rp.ch) (bB.mpr rfl)⟩
theorem tQ {i j}:DE X (.Constant (.bool i) j pos) (gC (.bl i)):=⟨_,aN8,fun C0 H0 δ σ C H Q R rp g k=>k _ _ C H g (eN.refl rp.ch) (dX.mpr rfl)⟩
theorem xN {j}:DE X (.Constant .none j pos) (gC .non):=⟨_,aMu,fun C0 H0 δ σ C H Q R rp g k=>k _ _ C H g (eN.refl rp.ch) (fD.mpr rfl)⟩
theorem xV {i j}:DE X (.Constant (.str i) j pos) (gC (.str i)):=⟨_,aMe,fun C0 H0 δ σ C H Q R rp g k=>k _ _ C H g (eN.refl rp.ch) (iW.mpr rfl)⟩
def bK (o:GO) (ga gb:GE):GE:=fun δ Q=>ga δ fun x=>gb δ fun y=>o x y Q
theorem bL {op:Operator}{o:GO} (ho:DOp X (binaryOp op) o) (ha:DE X a ga) (hb:DE X b gb):DE X (.BinOp a op b pos) (bK o ga gb):=by
 obtain ⟨r,pr,hr⟩:=ho
 obtain ⟨t1,p1,h1⟩:=ha
 obtain ⟨t2,p2,h2⟩:=hb
 refine ⟨_,aJ0 pr p1 p2,fun C0 H0 δ σ C H Q R rp g k=>?_⟩
 refine h1 C0 H0 δ σ C H _ _ rp g fun d v C1 H1 q e1 n1=>h2 C0 H0 δ σ C1 H1 _ _ (rp.grow e1) q fun d2 v2 C2 H2 q2 e2 n2=>?_
 exact hr v v2 d d2 C2 H2 Q R e2.ch (n1.mono e2.cc) n2 q2 fun d3 v3 C3 H3 q3 e3 n3=>k d3 v3 C3 H3 q3 (e1.trans (e2.trans e3)) n3
theorem uO {op:CmpOp}{o:GO} (ho:DOp X (compareOp op) o) (ha:DE X a ga) (hb:DE X b gb) (hm:behindInMarks op b=false:=by first | exact aJt _ | with_unfolding_all rfl):DE X (.Compare a [op] [b] pos) (bK o ga gb):=by
 obtain ⟨r,pr,hr⟩:=ho
 obtain ⟨t1,p1,h1⟩:=ha
 obtain ⟨t2,p2,h2⟩:=hb
 refine ⟨_,aKJ pr p1 p2 hm,fun C0 H0 δ σ C H Q R rp g k=>?_⟩
 refine h1 C0 H0 δ σ C H _ _ rp g fun d v C1 H1 q e1 n1=>h2 C0 H0 δ σ C1 H1 _ _ (rp.grow e1) q fun d2 v2 C2 H2 q2 e2 n2=>?_
 exact hr v v2 d d2 C2 H2 Q R e2.ch (n1.mono e2.cc) n2 q2 fun d3 v3 C3 H3 q3 e3 n3=>k d3 v3 C3 H3 q3 (e1.trans (e2.trans e3)) n3
def aAV (Q:Bool→Prop):D→Prop
 | .bl b=>Q b
 | _=>False
theorem aKi {Q:Bool→Prop}{d:D}{K:PySem.W.Frag}{C:Hp}{v:V} (h:aAV Q d) (n:kM K C v d):∃ b,v = .bl b∧Q b:=by
 cases d with
 | bl b=>exact ⟨b,dX.mp n,h⟩
 | _=>exact h.elim
def cO (ga:GE):GT:=fun δ Q=>ga δ (aAV Q)
theorem cR {op:CmpOp}{o:GO} (ho:DOp X (compareOp op) o) (ha:DE X a ga) (hb:DE X b gb) (hm:behindInMarks op b=false:=by first | exact aJt _ | with_unfolding_all rfl):DT X (.Compare a [op] [b] pos) (cO (bK o ga gb)):=by
 obtain ⟨r,pr,hr⟩:=ho
 obtain ⟨t1,p1,h1⟩:=ha
 obtain ⟨t2,p2,h2⟩:=hb
 refine ⟨_,aKE pr p1 p2 hm,fun C0 H0 δ σ C H Q R rp g k=>?_⟩
 refine h1 C0 H0 δ σ C H _ _ rp g fun d v C1 H1 q e1 n1=>h2 C0 H0 δ σ C1 H1 _ _ (rp.grow e1) q fun d2 v2 C2 H2 q2 e2 n2=>?_
 refine hr v v2 d d2 C2 H2 _ _ e2.ch (n1.mono e2.cc) n2 q2 fun d3 v3 C3 H3 q3 e3 n3=>?_
 obtain ⟨c,rfl,qc⟩:=aKi q3 n3
 exact ⟨c,rfl,k c C3 H3 qc (e1.trans (e2.trans e3))⟩
def aFz (o o':GO) (ga gb gc:GE):GE:=fun δ Q=>ga δ fun x=>gb δ fun y=>o x y (aAV fun k=>if k=true then gc δ fun z=>o' y z Q else Q (.bl false))
def aCN (o o' o'':GO) (ga gb gc gd:GE):GE:=fun δ Q=>ga δ fun x=>gb δ fun y=>o x y (aAV fun k=>if k=true then gc δ (fun z=>o' y z (aAV fun k2=>if k2=true then gd δ fun w=>o'' z w Q else Q (.bl false))) else Q (.bl false))
def aIv (ga gb:GE):GE:=fun δ Q=>ga δ (aAV fun c=>if c=true then gb δ Q else Q (.bl false))
def aMZ (ga gb:GE):GE:=fun δ Q=>ga δ (aAV fun c=>if c=true then Q (.bl true) else gb δ Q)
def aJ3 (ga:GE):GE:=fun δ Q=>ga δ (aAV fun c=>Q (.bl (!c)))
def aFP (ga gb:GT):GT:=fun δ Q=>ga δ fun c=>if c=true then gb δ Q else Q false
def gOr (ga gb:GT):GT:=fun δ Q=>ga δ fun c=>if c=true then Q true else gb δ Q
def aF6 (ga:GT):GT:=fun δ Q=>ga δ fun c=>Q (!c)
theorem DW.t (h:DW X e ta):DT X e ta:=by
 obtain ⟨t,p,h⟩:=h
 exact ⟨t,p.pt,h⟩
theorem aCC (h:DT X a ta):DW X (.BoolOp .And [a] pos) ta:=by
 obtain ⟨t,p,h⟩:=h
 exact ⟨t,aF7 p,h⟩
theorem aCT (h:DT X a ta):DW X (.BoolOp .Or [a] pos) ta:=by
 obtain ⟨t,p,h⟩:=h
 exact ⟨t,aMO p,h⟩
theorem aFE {rest:List Expr} (ha:DT X a ta) (hb:DW X (.BoolOp .And (b::rest) pos) tb):DW X (.BoolOp .And (a::b::rest) pos) (aFP ta tb):=by
 obtain ⟨t1,p1,h1⟩:=ha
 obtain ⟨t2,p2,h2⟩:=hb
 refine ⟨_,aFw p1 p2,fun C0 H0 δ σ C H Q R rp g k=>h1 C0 H0 δ σ C H _ _ rp g fun c C1 H1 q e1=>?_⟩
 cases c with
 | false=>exact aHf (k false C1 H1 (by simpa using q) e1)
 | true=>exact aEC (h2 C0 H0 δ σ C1 H1 _ _ (rp.grow e1) (by simpa using q) fun c2 C2 H2 q2 e2=>k c2 C2 H2 q2 (e1.trans e2))
theorem aDK {rest:List Expr} (ha:DT X a ta) (hb:DW X (.BoolOp .Or (b::rest) pos) tb):DW X (.BoolOp .Or (a::b::rest) pos) (gOr ta tb):=by
 obtain ⟨t1,p1,h1⟩:=ha
 obtain ⟨t2,p2,h2⟩:=hb
 refine ⟨_,aNi p1 p2,fun C0 H0 δ σ C H Q R rp g k=>h1 C0 H0 δ σ C H _ _ rp g fun c C1 H1 q e1=>?_⟩
 cases c with
 | true=>exact aEC (k true C1 H1 (by simpa using q) e1)
 | false=>exact aHf (h2 C0 H0 δ σ C1 H1 _ _ (rp.grow e1) (by simpa using q) fun c2 C2 H2 q2 e2=>k c2 C2 H2 q2 (e1.trans e2))
theorem aJB (ha:DT X a ta):DT X (.UnaryOp .Not a pos) (aF6 ta):=by
 obtain ⟨t1,p1,h1⟩:=ha
 exact ⟨_,aJn p1,fun C0 H0 δ σ C H Q R rp g k=>h1 C0 H0 δ σ C H _ _ rp g fun c C1 H1 q e1=>k (!c) C1 H1 q e1⟩
def vT (ga:GE):GT:=fun δ Q=>ga δ fun d=>match d with
 | .bl b=>Q b
 | .int i=>Q (i != 0)
 | .non=>Q false
 | .str x=>x.length≤sizeLine∧Q ((x.length:Int) != 0)
 | .tup ds=>Q (!ds.isEmpty)
 | .lst ds=>Q (!ds.isEmpty)
theorem aA9 {K:PySem.W.Frag}{C:Hp}{xs:List V}{ds:List D} (h:b9 K C xs ds):xs.isEmpty=ds.isEmpty:=by
 have:=h.length
 cases xs <;> cases ds <;> simp_all
theorem r6 (ha:DE X a ga) (he:∀ whole,isTrue a X.env whole=(do
  let v ← whole
  standAt a.pos
  holding [v] (truthy v))):DT X a (vT ga):=by
 obtain ⟨t1,p1,h1⟩:=ha
 refine ⟨_,aIX p1 he,fun C0 H0 δ σ C H Q R rp g k=>h1 C0 H0 δ σ C H _ _ rp g fun d v C1 H1 q e1 n1=>?_⟩
 cases d with
 | bl b=>rw [dX.mp n1];exact ⟨b,rfl,k _ C1 H1 q e1⟩
 | int i=>rw [bB.mp n1];exact ⟨_,rfl,k _ C1 H1 q e1⟩
 | non=>rw [fD.mp n1];exact ⟨_,rfl,k _ C1 H1 q e1⟩
 | str i=>rw [iW.mp n1];exact ⟨_,⟨q.1,rfl⟩,k _ C1 H1 q.2 e1⟩
 | tup ds=>
  obtain ⟨p,xs,rfl,hx,hd⟩:=bV.mp n1
  refine ⟨_,.inr (.inl ⟨xs,e1.ch.seqT hx,rfl⟩),k _ C1 H1 ?_ e1⟩
  rw [aA9 hd];exact q
 | lst ds=>
  obtain ⟨p,xs,rfl,hx,hd⟩:=cT.mp n1
  refine ⟨_,.inl ⟨xs,e1.ch.seq hx,rfl⟩,k _ C1 H1 ?_ e1⟩
  rw [aA9 hd];exact q
def aIT (t:GT) (ga gb:GE):GE:=fun δ Q=>t δ fun c=>if c=true then ga δ Q else gb δ Q
theorem aNA (hc:DT X c ta) (ha:DE X a ga) (hb:DE X b gb):DE X (.IfExp c a b pos) (aIT ta ga gb):=by
 obtain ⟨t0,p0,h0⟩:=hc
 obtain ⟨t1,p1,h1⟩:=ha
 obtain ⟨t2,p2,h2⟩:=hb
 refine ⟨_,aJj p0 p1 p2,fun C0 H0 δ σ C H Q R rp g k=>h0 C0 H0 δ σ C H _ _ rp g fun c C1 H1 q e1=>?_⟩
 cases c with
 | true=>exact aEC (h1 C0 H0 δ σ C1 H1 _ _ (rp.grow e1) (by simpa using q) fun d2 v2 C2 H2 q2 e2 n2=>k d2 v2 C2 H2 q2 (e1.trans e2) n2)
 | false=>exact aHf (h2 C0 H0 δ σ C1 H1 _ _ (rp.grow e1) (by simpa using q) fun d2 v2 C2 H2 q2 e2 n2=>k d2 v2 C2 H2 q2 (e1.trans e2) n2)
abbrev aJ:GF:=fun _ Q=>Q []
def aC (ga:GE) (gr:GF):GF:=fun δ Q=>ga δ fun d=>gr δ fun ds=>Q (d::ds)
theorem aG:DA X [] aJ:=⟨_,gX,fun C0 H0 δ σ C H Q R rp g k=>k [] [] C H g (eN.refl rp.ch) .nil⟩
theorem aB (ha:DE X e ga) (hr:DA X es gf) (hs:starEach (e::es) X.env=(false,eval e X.env)::starEach es X.env:=by rfl):DA X (e::es) (aC ga gf):=by
 obtain ⟨t1,p1,h1⟩:=ha
 obtain ⟨t2,p2,h2⟩:=hr
 refine ⟨_,dO p1 p2 hs,fun C0 H0 δ σ C H Q R rp g k=>h1 C0 H0 δ σ C H _ _ rp g fun d v C1 H1 q e1 n1=>?_⟩
 exact h2 C0 H0 δ σ C1 H1 _ _ (rp.grow e1) q fun ds vs C2 H2 q2 e2 n2=>k (d::ds) (v::vs) C2 H2 q2 (e1.trans e2) (.cons (n1.mono e2.cc) n2)
def dE (gf:GF):GE:=fun δ Q=>gf δ fun ds=>ds.length≤sizeLine∧Q (.tup ds)
theorem cP {x1} (h:DA X es gf):DE X (.Tuple es x1 pos) (dE gf):=by
 obtain ⟨t,p,h⟩:=h
 refine ⟨_,aMf p,fun C0 H0 δ σ C H Q R rp g k=>h C0 H0 δ σ C H _ _ rp g fun ds vs C1 H1 q e1 n1=>⟨by rw [n1.length];exact q.1,fun p hp=>?_⟩⟩
 exact k (.tup ds) _ (upd C1 p (.tup vs)) _ q.2 (e1.trans (eN.new e1.ch hp)) (bV.mpr ⟨p,vs,rfl,kS.of bR,n1.mono (cX.upd (e1.ch.free hp))⟩)
def p8 (gf:GF):GF:=fun δ Q=>gf δ fun ds=>ds.length≤sizeLine∧Q ds
theorem jY (h:DA X es gf):DF X (.List es pos) (p8 gf):=by
 obtain ⟨t,p,h⟩:=h
 refine ⟨_,aMh p,fun C0 H0 δ σ C H Q R rp g k=>h C0 H0 δ σ C H _ _ rp g fun ds vs C1 H1 q e1 n1=>⟨by rw [n1.length];exact q.1,fun p hp=>?_⟩⟩
 exact k ds p vs C1 _ q.2 (e1.trans (eN.newO e1.ch hp)) (e1.ch.free hp) (e1.hh.free hp) bR n1
def bN (g:List D→(D→Prop)→Prop) (gf:GF):GE:=fun δ Q=>gf δ fun ds=>g ds Q
def aAF (g:List D→(List D→Prop)→Prop) (gf:GF):GF:=fun δ Q=>gf δ fun ds=>g ds Q
theorem aLd {x:Str}{f:Value}{g:List D→(List D→Prop)→Prop}{pos':Pos} (hc:aIZ X f g) (ha:DA X (e::es) gf)
  (hp:∀ {t:TA}{r:List V→Hp→VK→Prop},lJ X f r→PA X (e::es) t→PE X (.Call (.Name x pos') (e::es) [] pos) (tCB r t)):DF X (.Call (.Name x pos') (e::es) [] pos) (aAF g gf):=by
 obtain ⟨r,pr,hr⟩:=hc
 obtain ⟨t,p,h⟩:=ha
 refine ⟨_,hp pr p,fun C0 H0 δ σ C H Q R rp g k=>h C0 H0 δ σ C H _ _ rp g fun ds vs C1 H1 q e1 n1=>?_⟩
 exact hr vs ds C1 H1 Q R e1.ch n1 q fun es' p ys C2 H2 q2 e2 h1 h2 h3 h4=>k es' p ys C2 H2 q2 (e1.trans e2) h1 (e1.hh.free h2) h3 h4
end
def aBx (o:Option D) (Q:D→Prop):Prop:=match o with
 | some d=>Q d
 | none=>False
theorem aM8 {d:D}{Q:D→Prop}:aBx (some d) Q=Q d:=rfl
def spD (K:PySem.W.Frag) (F:List D→Option D):Sp:=fun vs H Q _=>∃ C ds d,cX C H∧TB K C∧b9 K C vs ds∧F ds=some d∧∀ v C' H',eN C H C' H'→kM K C' v d→Q v H'
def eV (P:Program) (w:World) (K:PySem.W.Frag) (mg:Str→Option Value) (base:Heap) (k:Nat) (x:Str) (F:List D→Option D):Prop:=
 ∃ f fd ps,vY P w K mg base kL k f fd ps (spD K F)∧mg x=some (.ref f)∧PySem.W.keepIn K (.ref f)=true∧qC K fd ps []
section
variable {X:Cx}{a b c e:Expr}{es:List Expr}{pos:Pos}{ga gb gc gd:GE}{gf:GF}{ta tb:GT}
def aR (F:List D→Option D) (gf:GF):GE:=fun δ Q=>gf δ fun ds=>aBx (F ds) Q
theorem aP {F:List D→Option D}{k:Nat}{x:Str}{p:Pos} (h:eV X.prog X.w X.K X.mg X.base k x F) (hr:cE k X.A) (hg:Gl X x) (ha:DA X (e::es) gf) (hdb:(x == ("__debug__":Str))=false:=by decide)
  (he:starEach (e::es) X.env=(false,eval e X.env)::starEach es X.env:=by rfl) (hpl:(backTo pos (starEach es X.env)).any (·.1)=false:=by rfl):DE X (.Call (.Name x p) (e::es) [] pos) (aR F gf):=by
 obtain ⟨f,fd,ps,Fk,hm,hk,hb⟩:=h
 obtain ⟨t,pa,h⟩:=ha
 refine ⟨_,zQ Fk hr hg hm hk hb .nil aJa pa hdb he hpl,fun C0 H0 δ σ C H Q R rp g k=>h C0 H0 δ σ C H _ _ rp g fun ds vs C1 H1 q e1 n1=>?_⟩
 cases e2:F ds with
 | none=>rw [e2] at q;exact q.elim
 | some d=>
  rw [e2] at q
  exact ⟨C1,ds,d,e1.ch,rp.tc.mono e1.cc,by rw [List.append_nil];exact n1,e2,fun v C' H' ex nv=>k d v C' H' q (e1.trans ex) nv⟩
def fK:GO:=fun x y Q=>match x,y with
 | .tup ds,.int i=>aBx (gL ds i) Q
 | .lst ds,.int i=>aBx (gL ds i) Q
 | _,_=>False
theorem aGU {K:PySem.W.Frag}{C:Hp}{xs:List V}{ds:List D}{i:Int}{d:D} (h:b9 K C xs ds) (e:gL ds i=some d):∃ v,gL xs i=some v∧kM K C v d:=by
 unfold gL at e ⊢
 rw [h.length]
 cases z:ixN ds.length i with
 | none=>rw [z] at e;cases e
 | some j=>
  rw [z] at e
  exact h.get e
theorem bD (ha:DE X a ga) (hb:DE X b gb) (hs:aGK b):DE X (.Subscript a b pos) (bK fK ga gb):=by
 obtain ⟨t1,p1,h1⟩:=ha
 obtain ⟨t2,p2,h2⟩:=hb
 refine ⟨_,aNr aL8 p1 p2 hs,fun C0 H0 δ σ C H Q R rp g k=>?_⟩
 refine h1 C0 H0 δ σ C H _ _ rp g fun d v C1 H1 q e1 n1=>h2 C0 H0 δ σ C1 H1 _ _ (rp.grow e1) q fun d2 v2 C2 H2 q2 e2 n2=>?_
 have n1':=n1.mono e2.cc
 cases d with
 | tup ds=>
  cases d2 with
  | int i=>
   obtain ⟨p,xs,rfl,hx,hd⟩:=bV.mp n1'
   rw [bB.mp n2]
   have q2':aBx (gL ds i) Q:=q2
   cases z:gL ds i with
   | none=>rw [z] at q2';exact q2'.elim
   | some d3=>
    rw [z] at q2'
    obtain ⟨v3,ev,nv⟩:=aGU hd z
    exact .inr (.inl ⟨p,xs,i,v3,rfl,rfl,e2.ch.seqT hx,ev,k d3 v3 C2 H2 q2' (e1.trans e2) nv⟩)
  | _=>exact q2.elim
 | lst ds=>
  cases d2 with
  | int i=>
   obtain ⟨p,xs,rfl,hx,hd⟩:=cT.mp n1'
   rw [bB.mp n2]
   have q2':aBx (gL ds i) Q:=q2
   cases z:gL ds i with
   | none=>rw [z] at q2';exact q2'.elim
   | some d3=>
    rw [z] at q2'
    obtain ⟨v3,ev,nv⟩:=aGU hd z
    exact .inl ⟨p,xs,i,v3,rfl,rfl,e2.ch.seq hx,ev,k d3 v3 C2 H2 q2' (e1.trans e2) nv⟩
  | _=>exact q2.elim
 | _=>exact q2.elim
abbrev GP:=DS→(Option Int→Prop)→Prop
def DO (X:Cx) (e:Option Expr) (g:GP):Prop:=∃ t,PO X e t∧∀ C0 H0 δ σ C H (Q:Option Int→Prop) (R:Option Int→Hp→Prop),gU X.K C0 H0 δ σ C H→g δ Q→(∀ o C1 H1,Q o→eN C H C1 H1→R o H1)→t σ H R
abbrev aBE:GP:=fun _ Q=>Q none
def tZ (g:GE):GP:=fun δ Q=>g δ fun d=>match d with
 | .int i=>Q (some i)
 | _=>False
theorem sS:DO X none aBE:=⟨_,aK0,fun C0 H0 δ σ C H Q R rp g k=>k none C H g (eN.refl rp.ch)⟩
theorem sO (h:DE X e ga):DO X (some e) (tZ ga):=by
 obtain ⟨t,p,h⟩:=h
 refine ⟨_,aKR p,fun C0 H0 δ σ C H Q R rp g k=>h C0 H0 δ σ C H _ _ rp g fun d v C1 H1 q e1 n1=>?_⟩
 cases d with
 | int i=>exact ⟨i,bB.mp n1,k (some i) C1 H1 q e1⟩
 | _=>exact q.elim
def tL (xs:List D) (lo hi:Option Int):List D:=(xs.drop (HT.sIx xs.length 0 lo)).take (HT.sIx xs.length xs.length hi-HT.sIx xs.length 0 lo)
def aEF (ga:GE) (gl gh:GP):GE:=fun δ Q=>ga δ fun d=>gl δ fun lo=>gh δ fun hi=>match d with
 | .tup ds=>Q (.tup (tL ds lo hi))
 | _=>False
theorem aED {K:PySem.W.Frag}{C:Hp}{xs:List V}{ds:List D}{lo hi:Option Int} (h:b9 K C xs ds):b9 K C (aDq xs lo hi) (tL ds lo hi):=by
 unfold aDq tL
 rw [h.length]
 exact (h.drop _).take _
theorem aCH {lo hi:Option Expr}{gl gh:GP}{p2:Pos} (ha:DE X a ga) (hl:DO X lo gl) (hh:DO X hi gh):DE X (.Subscript a (.Slice lo hi none p2) pos) (aEF ga gl gh):=by
 obtain ⟨t1,p1,h1⟩:=ha
 obtain ⟨t2,p2',h2⟩:=hl
 obtain ⟨t3,p3,h3⟩:=hh
 refine ⟨_,aEE (aMD.or aKV) p1 p2' p3,fun C0 H0 δ σ C H Q R rp g k=>?_⟩
 refine h1 C0 H0 δ σ C H _ _ rp g fun d v C1 H1 q e1 n1=>h2 C0 H0 δ σ C1 H1 _ _ (rp.grow e1) q fun o C2 H2 q2 e2=>h3 C0 H0 δ σ C2 H2 _ _ ((rp.grow e1).grow e2) q2 fun o2 C3 H3 q3 e3=>?_
 have n1':=(n1.mono e2.cc).mono e3.cc
 have e123:=e1.trans (e2.trans e3)
 cases d with
 | tup ds=>
  obtain ⟨p,xs,rfl,hx,hd⟩:=bV.mp n1'
  by_cases hw:HT.sIx xs.length 0 o=0∧HT.sIx xs.length xs.length o2=xs.length
  ·refine .inr ⟨p,xs,rfl,e3.ch.seqT hx,hw,k (.tup ds) _ C3 H3 ?_ e123 n1'⟩
   have q3':Q (.tup (tL ds o o2)):=q3
   unfold tL at q3'
   rw [← hd.length,hw.1,hw.2,List.drop_zero,Nat.sub_zero,hd.length,List.take_length] at q3'
   exact q3'
  ·refine .inl ⟨p,xs,rfl,e3.ch.seqT hx,hw,fun p' hp=>?_⟩
   exact k _ _ (upd C3 p' (.tup (aDq xs o o2))) _ q3 (e123.trans (eN.new e3.ch hp)) (bV.mpr ⟨p',_,rfl,kS.of bR,(aED hd).mono (cX.upd (e3.ch.free hp))⟩)
 | _=>exact q3.elim
def aDT (f:Int→Int→D):GO:=fun x y Q=>match x,y with
 | .int i,.int j=>Q (f i j)
 | _,_=>False
def yA (c:Int→Int→Prop) (f:Int→Int→D):GO:=fun x y Q=>match x,y with
 | .int i,.int j=>c i j∧Q (f i j)
 | _,_=>False
theorem wJ {f:Value→Value→Sem Value}{c:Int→Int→Prop}{g:Int→Int→Int} (h:tO X f (rI c fun i j=>.int (g i j))):DOp X f (yA c fun i j=>.int (g i j)):=by
 refine ⟨_,h,fun x y dx dy C H Q R ch n1 n2 q k=>?_⟩
 cases dx with
 | int i=>
  cases dy with
  | int j=>exact ⟨i,j,bB.mp n1,bB.mp n2,q.1,k _ _ C H q.2 (eN.refl ch) (bB.mpr rfl)⟩
  | _=>exact q.elim
 | _=>exact q.elim
theorem aEQ {f:Value→Value→Sem Value}{g:Int→Int→Bool} (h:tO X f (rI0 fun i j=>.bl (g i j))):DOp X f (aDT fun i j=>.bl (g i j)):=by
 refine ⟨_,h,fun x y dx dy C H Q R ch n1 n2 q k=>?_⟩
 cases dx with
 | int i=>
  cases dy with
  | int j=>exact ⟨i,j,bB.mp n1,bB.mp n2,k _ _ C H q (eN.refl ch) (dX.mpr rfl)⟩
  | _=>exact q.elim
 | _=>exact q.elim
theorem aIu {f:Value→Value→Sem Value}{g:Int→Int→Int} (h:tO X f (rI0 fun i j=>.int (g i j))):DOp X f (aDT fun i j=>.int (g i j)):=by
 refine ⟨_,h,fun x y dx dy C H Q R ch n1 n2 q k=>?_⟩
 cases dx with
 | int i=>
  cases dy with
  | int j=>exact ⟨i,j,bB.mp n1,bB.mp n2,k _ _ C H q (eN.refl ch) (bB.mpr rfl)⟩
  | _=>exact q.elim
 | _=>exact q.elim
abbrev aEK:GO:=aDT fun i j=>.int (i-j)
abbrev oLt:GO:=aDT fun i j=>.bl (decide (i<j))
abbrev oGt:GO:=aDT fun i j=>.bl (decide (j<i))
abbrev w4:GO:=yA (fun _ j=>0<j) fun i j=>.int (i % j)
abbrev aKW:GO:=yA aNs fun i j=>.int (i / j)
theorem uK:DOp X (binaryOp .Sub) aEK:=aIu aMb
theorem aJh:DOp X (compareOp .Lt) oLt:=aEQ aN2
theorem aGg:DOp X (compareOp .Gt) oGt:=aEQ aNI
theorem n9:DOp X (binaryOp .Mod) w4:=wJ aLZ
theorem aFJ:DOp X (binaryOp .FloorDiv) aKW:=wJ aK5
def j5:GO:=fun x y Q=>match x,y with
 | .int i,.int j=>Q (.int (i+j))
 | .tup xs,.tup ys=>xs.length+ys.length≤sizeLine∧Q (.tup (xs++ys))
 | _,_=>False
theorem eQ:DOp X (binaryOp .Add) j5:=by
 refine ⟨_,aMJ.or (aKw.or aLh),fun x y dx dy C H Q R ch n1 n2 q k=>?_⟩
 cases dx with
 | int i=>
  cases dy with
  | int j=>exact .inl ⟨i,j,bB.mp n1,bB.mp n2,k _ _ C H q (eN.refl ch) (bB.mpr rfl)⟩
  | _=>exact q.elim
 | tup ds=>
  cases dy with
  | tup es=>
   obtain ⟨p,xs,rfl,hx,hd⟩:=bV.mp n1
   obtain ⟨p2,ys,rfl,hy,he⟩:=bV.mp n2
   have q':ds.length+es.length≤sizeLine∧Q (.tup (ds++es)):=q
   refine .inr ?_
   cases ds with
   | nil=>
    have e:=j6.mp hd
    subst e
    exact .inr ⟨p,p2,ys,rfl,rfl,ch.seqT hx,ch.seqT hy,k _ _ C H q'.2 (eN.refl ch) n2⟩
   | cons d ds=>
    refine .inl ⟨p,p2,xs,ys,rfl,rfl,ch.seqT hx,ch.seqT hy,?_,by rw [hd.length,he.length];exact q'.1,fun z=>?_,fun _ p' hp=>?_⟩
    ·intro z
     have:=hd.length
     rw [z] at this
     simp at this
    ·subst z
     have e:es=[]:=by
      have:=he.length
      simpa using this.symm
     subst e
     rw [List.append_nil] at q'
     exact k _ _ C H q'.2 (eN.refl ch) n1
    ·exact k _ _ (upd C p' (.tup (xs++ys))) _ q'.2 (eN.new ch hp) (bV.mpr ⟨p',_,rfl,kS.of bR,(hd.append he).mono (cX.upd (ch.free hp))⟩)
  | _=>exact q.elim
 | _=>exact q.elim
def rQ:GO:=fun x y Q=>match x,y with
 | .int i,.int j=>aHn i j∧Q (.int (i * j))
 | .tup xs,.int k=>1<k∧k<2 ^ 63∧xs≠[]∧(xs.length:Int) * k≤sizeLine∧Q (.tup (List.replicate k.toNat xs).flatten)
 | _,_=>False
theorem pJ:DOp X (binaryOp .Mult) rQ:=by
 refine ⟨_,aL0.or aKN,fun x y dx dy C H Q R ch n1 n2 q k=>?_⟩
 cases dx with
 | int i=>
  cases dy with
  | int j=>exact .inl ⟨i,j,bB.mp n1,bB.mp n2,q.1,k _ _ C H q.2 (eN.refl ch) (bB.mpr rfl)⟩
  | _=>exact q.elim
 | tup ds=>
  cases dy with
  | int j=>
   obtain ⟨p,xs,rfl,hx,hd⟩:=bV.mp n1
   obtain ⟨q1,q2,q3,q4,q5⟩:=q
   refine .inr ⟨p,j,xs,rfl,bB.mp n2,ch.seqT hx,q1,q2,?_,by rw [hd.length];exact q4,fun p' hp=>?_⟩
   ·intro z
    have:=hd.length
    rw [z] at this
    exact q3 (by simpa using this.symm)
   ·exact k _ _ (upd C p' _) _ q5 (eN.new ch hp) (bV.mpr ⟨p',_,rfl,kS.of bR,(hd.rep _).mono (cX.upd (ch.free hp))⟩)
  | _=>exact q.elim
 | _=>exact q.elim
def oIs:GO:=fun x y Q=>match x,y with
 | .bl a,.bl b=>Q (.bl (a == b))
 | _,_=>False
def aFT:GO:=fun x y Q=>match x,y with
 | .bl a,.bl b=>Q (.bl (a != b))
 | _,_=>False
def aHF (ga:GE):GE:=fun δ Q=>ga δ fun d=>match d with
 | .int i=>Q (.int (-i))
 | _=>False
theorem aIw (ha:DE X a ga):DE X (.UnaryOp .USub a pos) (aHF ga):=by
 obtain ⟨t1,p1,h1⟩:=ha
 refine ⟨_,aNC aMk p1,fun C0 H0 δ σ C H Q R rp g k=>h1 C0 H0 δ σ C H _ _ rp g fun d v C1 H1 q e1 n1=>?_⟩
 cases d with
 | int i=>exact ⟨i,bB.mp n1,k _ _ C1 H1 q e1 (bB.mpr rfl)⟩
 | _=>exact q.elim
def oR:List D→(D→Prop)→Prop:=fun ds Q=>match ds with
 | [.tup xs]=>Q (.int xs.length)
 | [.lst xs]=>Q (.int xs.length)
 | _=>False
theorem j7 {K:PySem.W.Frag}{C:Hp}{vs:List V}{d:D} (h:b9 K C vs [d]):∃ v,vs=[v]∧kM K C v d:=by
 obtain ⟨x,xs,rfl,a,t⟩:=f8.mp h
 rw [j6.mp t]
 exact ⟨x,rfl,a⟩
theorem aJp {K:PySem.W.Frag}{C:Hp}{vs:List V}{d d2:D} (h:b9 K C vs [d,d2]):∃ v u,vs=[v,u]∧kM K C v d∧kM K C u d2:=by
 obtain ⟨x,xs,rfl,a,t⟩:=f8.mp h
 obtain ⟨u,rfl,b⟩:=j7 t
 exact ⟨x,u,rfl,a,b⟩
theorem kQ:xX X (.builtin "len") oR:=by
 refine ⟨_,aCU,fun xs ds C H Q R ch n q k=>?_⟩
 unfold oR at q
 split at q
 ·obtain ⟨v,rfl,n1⟩:=j7 n
  obtain ⟨p,ys,rfl,hy,hd⟩:=bV.mp n1
  refine ⟨p,ys,rfl,.inr (ch.seqT hy),?_⟩
  rw [hd.length]
  exact k _ _ C H q (eN.refl ch) (bB.mpr rfl)
 ·obtain ⟨v,rfl,n1⟩:=j7 n
  obtain ⟨p,ys,rfl,hy,hd⟩:=cT.mp n1
  refine ⟨p,ys,rfl,.inl (ch.seq hy),?_⟩
  rw [hd.length]
  exact k _ _ C H q (eN.refl ch) (bB.mpr rfl)
 ·exact q.elim
def eR:List D→(D→Prop)→Prop:=fun ds Q=>match ds with
 | [.tup xs]=>Q (.tup xs)
 | [.lst xs]=>Q (.tup xs)
 | _=>False
theorem eM:xX X (.type "tuple") eR:=by
 refine ⟨_,aBt,fun xs ds C H Q R ch n q k=>?_⟩
 unfold eR at q
 split at q
 ·obtain ⟨v,rfl,n1⟩:=j7 n
  obtain ⟨p,ys,rfl,hy,hd⟩:=bV.mp n1
  exact ⟨p,ys,rfl,.inr ⟨ch.seqT hy,k _ _ C H q (eN.refl ch) n1⟩⟩
 ·obtain ⟨v,rfl,n1⟩:=j7 n
  obtain ⟨p,ys,rfl,hy,hd⟩:=cT.mp n1
  exact ⟨p,ys,rfl,.inl ⟨ch.seq hy,fun l hl=>k _ _ (upd C l (.tup ys)) _ q (eN.new ch hl) (bV.mpr ⟨l,ys,rfl,kS.of bR,hd.mono (cX.upd (ch.free hl))⟩)⟩⟩
 ·exact q.elim
def aJP:List D→(List D→Prop)→Prop:=fun ds Q=>match ds with
 | [.tup xs]=>Q xs
 | [.lst xs]=>Q xs
 | _=>False
def aCA:List D→(D→Prop)→Prop:=fun ds Q=>match ds with
 | [.int i]=>Q (.int (if i<0 then -i else i))
 | _=>False
theorem aCr:xX X (.builtin "abs") aCA:=by
 refine ⟨_,aJR,fun xs ds C H Q R ch n q k=>?_⟩
 unfold aCA at q
 split at q
 ·obtain ⟨v,rfl,n1⟩:=j7 n
  rw [bB.mp n1]
  exact ⟨_,rfl,k _ _ C H q (eN.refl ch) (bB.mpr rfl)⟩
 ·exact q.elim
def aLA:List D→Option (List Bool)
 | []=>some []
 | .bl b::r=>(aLA r).map (b :: ·)
 | _::_=>none
def aLR:List D→(D→Prop)→Prop:=fun ds Q=>match ds with
 | [.lst xs]=>match aLA xs with
  | some bs=>Q (.bl (bs.all id))
  | none=>False
 | _=>False
def tyD:D→String
 | .int _=>"int"
 | .bl _=>"bool"
 | .non=>"NoneType"
 | .str _=>"str"
 | .tup _=>"tuple"
 | .lst _=>"list"
def aIm (T:String) (ga:GE):GE:=fun δ Q=>ga δ fun d=>Q (.bl (aGe (tyD d) T))
end
def aD2 (K:PySem.W.Frag) (J:It) (its:List D) (C1:Hp):Prop:=∀ C2 H2,cX C1 C2→cX C2 H2→∀ i:Nat,
 (∀ d,its[i]? = some d→J.go i H2∧∀ x H3,J.yld i H2 x H3→∃ C3,eN C2 H2 C3 H3∧kM K C3 x d)∧(its.length≤i→J.stop i H2)
def DI (X:Cx) (tg iter:Expr) (g:GF):Prop:=∃ wi,PI X tg iter wi∧∀ C0 H0 δ σ C H (Q:List D→Prop) (R:It→Hp→Prop),gU X.K C0 H0 δ σ C H→g δ Q →
 (∀ its J C1 H1,Q its→eN C H C1 H1→aD2 X.K J its C1→R J H1)→wi σ H R
section
variable {X:Cx}{a b c e tg iter:Expr}{es:List Expr}{pos:Pos}{ga gb gc gd:GE}{gf:GF}{ta tb:GT}
def gIt (ga:GE):GF:=fun δ Q=>ga δ fun d=>match d with
 | .tup ds=>Q ds
 | _=>False
def gIl (ga:GE):GF:=fun δ Q=>ga δ fun d=>match d with
 | .lst ds=>Q ds
 | _=>False
theorem aDC {K:PySem.W.Frag}{C1:Hp}{p:Addr}{xs:List V}{ds:List D} (hx:kS K C1 p xs) (hd:b9 K C1 xs ds) (inj:∀ H ys,cX C1 H→kS K H p ys→True):aD2 K ⟨fun i H=>∃ xs x,kS K H p xs∧xs[i]? = some x,fun i H x H'=>H'=H∧∀ xs,kS K H p xs→xs[i]? = some x,fun i H=>∃ xs,kS K H p xs∧xs.length≤i⟩ ds C1:=by
 intro C2 H2 c1 c2 i
 have hx2:=c2.seqT (c1.seqT hx)
 refine ⟨fun d e=>?_,fun hl=>⟨xs,hx2,by rw [hd.length];exact hl⟩⟩
 obtain ⟨v,ev,nv⟩:=hd.get e
 refine ⟨⟨xs,v,hx2,ev⟩,fun x H3 y=>?_⟩
 obtain ⟨rfl,y⟩:=y
 have:=y xs hx2
 rw [ev] at this
 cases this
 exact ⟨C2,eN.refl c2,nv.mono c1⟩
theorem aEN {K:PySem.W.Frag}{C1:Hp}{p:Addr}{xs:List V}{ds:List D} (hx:lI K C1 p xs) (hd:b9 K C1 xs ds):aD2 K (Itl K p) ds C1:=by
 intro C2 H2 c1 c2 i
 have hx2:=c2.seq (c1.seq hx)
 refine ⟨fun d e=>?_,fun hl=>⟨xs,hx2,by rw [hd.length];exact hl⟩⟩
 obtain ⟨v,ev,nv⟩:=hd.get e
 refine ⟨⟨xs,v,hx2,ev⟩,fun x H3 y=>?_⟩
 obtain ⟨rfl,y⟩:=y
 have:=y xs hx2
 rw [ev] at this
 cases this
 exact ⟨C2,eN.refl c2,nv.mono c1⟩
theorem rD (ha:DE X a ga):DI X tg a (gIt ga):=by
 obtain ⟨t,p,h⟩:=ha
 refine ⟨_,aMz p,fun C0 H0 δ σ C H Q R rp g k=>h C0 H0 δ σ C H _ _ rp g fun d v C1 H1 q e1 n1=>?_⟩
 cases d with
 | tup ds=>
  obtain ⟨p,xs,rfl,hx,hd⟩:=bV.mp n1
  exact ⟨p,rfl,⟨xs,e1.ch.seqT hx⟩,k ds _ C1 H1 q e1 (aDC hx hd fun _ _ _ _=>trivial)⟩
 | _=>exact q.elim
theorem pO (ha:DE X a ga):DI X tg a (gIl ga):=by
 obtain ⟨t,p,h⟩:=ha
 refine ⟨_,aKc p,fun C0 H0 δ σ C H Q R rp g k=>h C0 H0 δ σ C H _ _ rp g fun d v C1 H1 q e1 n1=>?_⟩
 cases d with
 | lst ds=>
  obtain ⟨p,xs,rfl,hx,hd⟩:=cT.mp n1
  exact ⟨p,rfl,⟨xs,e1.ch.seq hx⟩,k ds _ C1 H1 q e1 (aEN hx hd)⟩
 | _=>exact q.elim
def cA (lo:Int) (n:Nat):List D:=(List.range n).map fun (k:Nat)=>D.int (lo+(k:Int))
theorem aDE {K:PySem.W.Frag}{C1:Hp} (lo:Int) (n:Nat):aD2 K (Itr lo n) (cA lo n) C1:=by
 intro C2 H2 c1 c2 i
 have hl:(cA lo n).length=n:=by simp [cA]
 refine ⟨fun d e=>?_,fun h=>by rw [hl] at h;exact h⟩
 have hi:i<n:=by rw [← hl];exact (List.getElem?_eq_some_iff.mp e).1
 have ed:d = .int (lo+i):=by
  unfold cA at e
  rw [List.getElem?_map,List.getElem?_range hi] at e
  exact (Option.some.inj e).symm
 subst ed
 exact ⟨hi,fun x H3 y=>by obtain ⟨rfl,rfl⟩:=y;exact ⟨C2,eN.refl c2,bB.mpr rfl⟩⟩
def kX (ga:GE):GF:=fun δ Q=>ga δ fun d=>match d with
 | .int j=>(-(2 ^ 62)≤j∧j<2 ^ 62)∧Q (cA 0 j.toNat)
 | _=>False
theorem hZ {p:Pos} (hg:Gl X "range") (hm:X.mg "range"=none) (ha:DE X a ga) (hs:starEach [a] X.env=[(false,eval a X.env)]:=by rfl):DI X tg (.Call (.Name "range" p) [a] [] pos) (kX ga):=by
 obtain ⟨t,p,h⟩:=ha
 refine ⟨_,aG7 hg hm (dO p gX hs) hs,fun C0 H0 δ σ C H Q R rp g k=>h C0 H0 δ σ C H _ _ rp g fun d v C1 H1 q e1 n1=>?_⟩
 cases d with
 | int j=>rw [bB.mp n1];exact ⟨j,rfl,q.1.1,q.1.2,k _ _ C1 H1 q.2 e1 (aDE 0 _)⟩
 | _=>exact q.elim
def aEa (ga gb:GE):GF:=fun δ Q=>ga δ fun d=>gb δ fun d2=>match d,d2 with
 | .int i,.int j=>(-(2 ^ 62)≤i∧i<2 ^ 62 ∧ -(2 ^ 62)≤j∧j<2 ^ 62)∧Q (cA i (j-i).toNat)
 | _,_=>False
theorem aK6 {p:Pos} (hg:Gl X "range") (hm:X.mg "range"=none) (ha:DE X a ga) (hb:DE X b gb) (hs1:starEach [a,b] X.env=(false,eval a X.env)::starEach [b] X.env:=by rfl) (hs2:starEach [b] X.env=[(false,eval b X.env)]:=by rfl)
  (hp:∀ {t:TA},PA X [a,b] t→PI X tg (.Call (.Name "range" p) [a,b] [] pos) (aLq t)):DI X tg (.Call (.Name "range" p) [a,b] [] pos) (aEa ga gb):=by
 obtain ⟨t1,p1,h1⟩:=ha
 obtain ⟨t2,p2,h2⟩:=hb
 refine ⟨_,hp (dO p1 (dO p2 gX hs2) hs1),fun C0 H0 δ σ C H Q R rp g k=>h1 C0 H0 δ σ C H _ _ rp g fun d v C1 H1 q e1 n1=>h2 C0 H0 δ σ C1 H1 _ _ (rp.grow e1) q fun d2 v2 C2 H2 q2 e2 n2=>?_⟩
 cases d with
 | int i=>
  cases d2 with
  | int j=>
   rw [bB.mp n1,bB.mp n2]
   exact ⟨i,j,rfl,q2.1,k _ _ C2 H2 q2.2 (e1.trans e2) (aDE i _)⟩
  | _=>exact q2.elim
 | _=>exact q2.elim
abbrev GG:=D→DS→(DS→Prop)→Prop
def DG (X:Cx) (tg:Expr) (ss:List Nat) (g:GG):Prop:=∃ t,PG X tg t∧∀ C0 H0 δ σ C H v d (Q:DS→Prop) (R:St→Hp→Prop),gU X.K C0 H0 δ σ C H→kM X.K C v d→g d δ Q →
 (∀ δ' σ',Q δ'→gU X.K C0 H0 δ' σ' C H→σ'.length=σ.length→(∀ j:Nat,j∉ss→σ'[j]? = σ[j]?)→R σ' H)→t v σ H R
abbrev cU (i:Nat):GG:=fun d δ Q=>Q (δ.set i (.im d))
theorem aK {i:Nat}{x:Str} (h:PG X (.Name x pos) (yH i)):DG X (.Name x pos) [i] (cU i):=
 ⟨_,h,fun C0 H0 δ σ C H v d Q R rp n g k=>k _ _ g (rp.setI n) (by simp) fun j hj=>by rw [List.getElem?_set_ne];intro z;exact hj (by simp [z])⟩
def qV (i j:Nat):GG:=fun d δ Q=>match d with
 | .tup [a,b]=>Q ((δ.set i (.im a)).set j (.im b))
 | _=>False
theorem oB {i j:Nat}{x y:Str}{p1 p2:Pos}{k:Nat} (h1:PG X (.Name x p1) (yH i)) (h2:PG X (.Name y p2) (yH j))
  (hp:∀ {t1 t2:TG},PG X (.Name x p1) t1→PG X (.Name y p2) t2→PG X (.Tuple [.Name x p1,.Name y p2] k pos) (aNK X.K 2 (aIq t1 (aIq t2 aNy)))):DG X (.Tuple [.Name x p1,.Name y p2] k pos) [i,j] (qV i j):=by
 refine ⟨_,hp h1 h2,fun C0 H0 δ σ C H v d Q R rp n g k=>?_⟩
 unfold qV at g
 split at g
 ·rename_i d1 d2
  obtain ⟨p,xs,rfl,hx,hd⟩:=bV.mp n
  obtain ⟨v1,v2,rfl,n1,n2⟩:=aJp hd
  refine ⟨p,[v1,v2],rfl,rp.ch.seqT hx,rfl,v1,[v2],rfl,v2,[],rfl,rfl,?_⟩
  refine k _ _ g ((rp.setI n1).setI n2) (by simp) fun m hm=>?_
  rw [List.getElem?_set_ne,List.getElem?_set_ne]
  ·intro z;exact hm (by simp [z])
  ·intro z;exact hm (by simp [z])
 ·exact g.elim
def δc (fr:List (Option Nat)) (δ:DS):DS:=fr.map fun o=>match o with
 | none=>.un
 | some j=>match δ[j]? with
  | some (.im d)=>.im d
  | some (.fd m)=>.fd m
  | _=>.un
theorem gU.comp {K:PySem.W.Frag}{C0 H0 δ σ C H C1 H1} (fr:List (Option Nat)) (R:gU K C0 H0 δ σ C H) (cc:cX C C1) (ch:cX C1 H1):gU K C1 H1 (δc fr δ) (σc fr σ) C1 H1:=by
 have no:∀ (i:Nat) ds,(δc fr δ)[i]? ≠ some (.ow ds):=fun i ds e=>by
  unfold δc at e
  rw [List.getElem?_map] at e
  cases ef:fr[i]? with
  | none=>rw [ef] at e;cases e
  | some o=>
   rw [ef] at e
   cases o with
   | none=>cases e
   | some j=>
    simp only [Option.map_some] at e
    split at e <;> cases e
 have nod:∀ (i:Nat) m,(δc fr δ)[i]? ≠ some (.od m):=fun i ds e=>by
  unfold δc at e
  rw [List.getElem?_map] at e
  cases ef:fr[i]? with
  | none=>rw [ef] at e;cases e
  | some o=>
   rw [ef] at e
   cases o with
   | none=>cases e
   | some j=>
    simp only [Option.map_some] at e
    split at e <;> cases e
 refine ⟨R.tc.mono cc,by unfold σc δc;simp,eN.refl ch,fun i d e=>?_,fun i ds e=>absurd e (no i ds),fun i j ds es l _ e _=>absurd e (no i ds),fun i m e=>absurd e (nod i m),fun i m e=>?_,fun i j m n l _ e=>absurd e (nod i m)⟩
 rotate_left
 ·unfold δc at e
  unfold σc
  rw [List.getElem?_map] at e ⊢
  cases ef:fr[i]? with
  | none=>rw [ef] at e;cases e
  | some o=>
   rw [ef] at e
   cases o with
   | none=>cases e
   | some j=>
    simp only [Option.map_some] at e ⊢
    split at e
    ·cases e
    ·rename_i m' ed
     cases e
     obtain ⟨l,o,ev,nv⟩:=R.dc.fd j m ed
     refine ⟨l,o,?_,cc _ _ nv⟩
     show some ((σ[j]?).bind id)=_
     rw [ev]
     rfl
    ·cases e
 unfold δc at e
 unfold σc
 rw [List.getElem?_map] at e ⊢
 cases ef:fr[i]? with
 | none=>rw [ef] at e;cases e
 | some o=>
  rw [ef] at e
  cases o with
  | none=>cases e
  | some j=>
   simp only [Option.map_some] at e ⊢
   split at e
   ·rename_i d' ed
    cases e
    obtain ⟨v,ev,nv⟩:=R.im j d ed
    refine ⟨v,?_,nv.mono cc⟩
    show some ((σ[j]?).bind id)=_
    rw [ev]
    rfl
   ·cases e
   ·cases e
def fB (fr:List (Option Nat)) (gi:GF) (gg:GG) (ge:GE):GF:=fun δ Q=>gi δ fun its=>its.length≤sizeLine∧∃ f:D→D,(∀ d∈its,gg d (δc fr δ) fun δ2=>ge δ2 fun y=>y=f d)∧Q (its.map f)
def hJ (fr:List (Option Nat)) (gi:GF) (gg:GG) (gt:GT) (ge:GE):GF:=fun δ Q=>gi δ fun its=>its.length≤sizeLine∧∃ (p:D→Bool) (f:D→D),(∀ d∈its,gg d (δc fr δ) fun δ2=>gt δ2 fun c=>c=p d∧(c=true→ge δ2 fun y=>y=f d))∧Q ((its.filter p).map f)
def aC2 (fr:List (Option Nat)) (ss:List Nat):Bool:=ss.all fun j=>fr[j]? == some none
theorem aKr {fr:List (Option Nat)}{ss:List Nat} (h:aC2 fr ss=true) {σ:St}{j:Nat} (hj:j∈ss):(σc fr σ)[j]? = some none:=by
 unfold aC2 at h
 rw [List.all_eq_true] at h
 have e:fr[j]? = some none:=by simpa using h j hj
 unfold σc
 rw [List.getElem?_map,e]
 rfl
theorem aMP {fr:List (Option Nat)}{ss:List Nat} (h:aC2 fr ss=true) {σ σ':St} (hl:σ'.length=(σc fr σ).length) (hj:∀ j:Nat,j∉ss→σ'[j]? = (σc fr σ)[j]?):Fwd σ' (σc fr σ):=by
 refine ⟨hl,fun i v e=>?_⟩
 by_cases hi:i∈ss
 ·rw [aKr h hi] at e
  cases e
 ·rw [hj i hi];exact e
def aHG (X:Cx) (ifs:List Expr) (g:GT):Prop:=∃ t,aEk X ifs t∧∀ C0 H0 δ σ C H (Q:Bool→Prop) (R:Bool→Hp→Prop),gU X.K C0 H0 δ σ C H→g δ Q→(∀ b C1 H1,Q b→eN C H C1 H1→R b H1)→t σ H R
end
theorem aBb {K:PySem.W.Frag}{C0 H0 C H C1 H1:Hp}{δ:DS}{σ:St}{fr:List (Option Nat)}{ss:List Nat}{J:It}{its:List D}{g:TG}{tt:TT}{te:TE}{gg:GG}{gt:GT}{ge:GE}{p:D→Bool}{f:D→D}{A:Addr}{Q:List D→Prop}{R:VK}
  (hg:∀ C0 H0 δ σ C H v d (Q:DS→Prop) (R:St→Hp→Prop),gU K C0 H0 δ σ C H→kM K C v d→gg d δ Q→(∀ δ' σ',Q δ'→gU K C0 H0 δ' σ' C H→σ'.length=σ.length→(∀ j:Nat,j∉ss→σ'[j]? = σ[j]?)→R σ' H)→g v σ H R)
  (ht:∀ C0 H0 δ σ C H (Q:Bool→Prop) (R:Bool→Hp→Prop),gU K C0 H0 δ σ C H→gt δ Q→(∀ b C1 H1,Q b→eN C H C1 H1→R b H1)→tt σ H R)
  (he:∀ C0 H0 δ σ C H (Q:D→Prop) (R:VK),gU K C0 H0 δ σ C H→ge δ Q→(∀ d v C1 H1,Q d→eN C H C1 H1→kM K C1 v d→R v H1)→te σ H R)
  (fo:aC2 fr ss=true) (rp:gU K C0 H0 δ σ C H) (e1:eN C H C1 H1) (wk:aD2 K J its C1) (hz:its.length≤sizeLine)
  (hf:∀ d∈its,gg d (δc fr δ) fun δ2=>gt δ2 fun c=>c=p d∧(c=true→ge δ2 fun y=>y=f d)) (q:Q ((its.filter p).map f))
  (k:∀ ds p xs C1 H1,Q ds→eN C H C1 H1→C1 p=none→H p=none→H1 p=some (.lst xs)→b9 K C1 xs ds→R (.ref p) H1) (hA:H1 A=none):aFa J (σc fr σ) g tt te A H1 R:=by
 have hflt:∀ i:Nat,(((its.take i).filter p).map f).length≤i:=fun i=>by
  rw [List.length_map]
  exact Nat.le_trans (List.length_filter_le _ _) (by rw [List.length_take];omega)
 refine ⟨fun i m ys H2=>m=its.length-i∧i≤its.length∧∃ C2,eN C1 H1 C2 H2∧H2 A=some (.lst ys)∧C2 A=none∧b9 K C2 ys (((its.take i).filter p).map f),⟨_,rfl,Nat.zero_le _,C1,eN.newO e1.ch hA,bR,e1.ch.free hA,by simpa using b9.nil⟩,?_⟩
 rintro i m ys H2 ⟨rfl,hi,C2,ex,hl,hc,hd⟩
 have W:=wk C2 H2 ex.cc ex.ch i
 by_cases hlt:i<its.length
 ·have ed:its[i]? = some its[i]:=by simp [hlt]
  obtain ⟨go,yl⟩:=W.1 _ ed
  refine .inr ⟨go,fun x H3 y=>?_⟩
  obtain ⟨C3,e3,n3⟩:=yl x H3 y
  have rc:gU K C3 H3 (δc fr δ) (σc fr σ) C3 H3:=rp.comp fr ((e1.cc.trans ex.cc).trans e3.cc) e3.ch
  refine hg C3 H3 _ _ C3 H3 x its[i] _ _ rc n3 (hf its[i] (List.getElem_mem hlt)) fun δ' σ' q' rp' hl' hj'=>⟨aMP fo hl' hj',?_⟩
  refine ht C3 H3 δ' σ' C3 H3 _ _ rp' q' fun b C4 H4 q4 e4=>?_
  have hA4:H4 A=some (.lst ys):=e4.hh _ _ (e3.hh _ _ hl)
  have hc4:C4 A=none:=e4.ow A (e3.ow A hc (by rw [hl];simp)) (by rw [e3.hh _ _ hl];simp)
  have ed2:=((hd.mono e3.cc).mono e4.cc)
  have tk:its.take (i+1)=its.take i++[its[i]]:=by rw [List.take_succ,ed];rfl
  cases b with
  | false=>
   rw [if_neg (by simp)]
   refine ⟨its.length-(i+1),by omega,rfl,hlt,C4,ex.trans (e3.trans e4),hA4,hc4,?_⟩
   rw [tk,List.filter_append,List.filter_cons_of_neg (by rw [← q4.1];simp)]
   simpa using ed2
  | true=>
   rw [if_pos rfl]
   refine he C3 H3 δ' σ' C4 H4 _ _ (rp'.grow e4) (q4.2 rfl) fun d v C5 H5 q5 e5 n5=>?_
   have hA5:H5 A=some (.lst ys):=e5.hh _ _ hA4
   have hc5:C5 A=none:=e5.ow A hc4 (by rw [hA4];simp)
   have hyl:ys.length<sizeLine:=by
    rw [hd.length]
    exact Nat.lt_of_le_of_lt (hflt i) (by omega)
   refine ⟨hA5,hyl,its.length-(i+1),by omega,rfl,hlt,C5,?_,bR,hc5,?_⟩
   ·have e:=ex.trans (e3.trans (e4.trans e5))
    refine ⟨fun z u ez=>?_,e.cc,fun z u ez=>?_,e.ow⟩
    ·rw [aZ (bQ ez hA)];exact e.hh z u ez
    ·rw [aZ (bQ ez hc5)];exact e.ch z u ez
   ·rw [tk,List.filter_append,List.filter_cons_of_pos (by rw [← q4.1]),List.map_append,List.filter_nil,List.map_cons,List.map_nil]
    refine (ed2.mono e5.cc).append (.cons ?_ .nil)
    rw [← q5];exact n5
 ·have e:i=its.length:=by omega
  refine .inl ⟨W.2 (by omega),?_⟩
  rw [e,List.take_length] at hd
  exact k _ A ys C2 H2 q (e1.trans ex) hc (e1.hh.free hA) hl hd
section
variable {X:Cx}{a b c e tg iter elt:Expr}{es:List Expr}{pos:Pos}{ge:GE}{gi:GF}{gt:GT}{gg:GG}{scope:Scope}{Nc:List Str}{fr:List (Option Nat)}{ss:List Nat}
def tDE (K:PySem.W.Frag) (g:GE):TE:=fun σ H R=>∃ C0 H0 δ C Q,gU K C0 H0 δ σ C H∧g δ Q∧∀ d v C1 H1,Q d→eN C H C1 H1→kM K C1 v d→R v H1
def tDT (K:PySem.W.Frag) (g:GT):TT:=fun σ H R=>∃ C0 H0 δ C Q,gU K C0 H0 δ σ C H∧g δ Q∧∀ b C1 H1,Q b→eN C H C1 H1→R b H1
def tDG (K:PySem.W.Frag) (ss:List Nat) (g:GG):TG:=fun v σ H R=>∃ C0 H0 δ C d Q,gU K C0 H0 δ σ C H∧kM K C v d∧g d δ Q∧∀ δ' σ',Q δ'→gU K C0 H0 δ' σ' C H→σ'.length=σ.length→(∀ j:Nat,j∉ss→σ'[j]? = σ[j]?)→R σ' H
theorem DE.can (h:DE X e ge):PE X e (tDE X.K ge):=by
 obtain ⟨t,p,h⟩:=h
 intro pins s σ H Q I q
 obtain ⟨C0,H0,δ,C,Q',rp,g,k⟩:=q
 exact p pins s σ H Q I (h C0 H0 δ σ C H Q' Q rp g k)
theorem DG.can (h:DG X tg ss gg):PG X tg (tDG X.K ss gg):=by
 obtain ⟨t,p,h⟩:=h
 intro pins s σ H v u Q I r q
 obtain ⟨C0,H0,δ,C,d,Q',rp,n,g,k⟩:=q
 exact p pins s σ H v u Q I r (h C0 H0 δ σ C H v d Q' Q rp n g k)
theorem aHG.can {ifs:List Expr} (h:aHG X ifs gt):aEk X ifs (tDT X.K gt):=by
 obtain ⟨t,p,h⟩:=h
 intro pins s σ H Q I q
 obtain ⟨C0,H0,δ,C,Q',rp,g,k⟩:=q
 exact p pins s σ H Q I (h C0 H0 δ σ C H Q' Q rp g k)
abbrev aJC:GT:=fun _ Q=>Q true
theorem aEP:aHG X [] aJC:=⟨_,aIC,fun C0 H0 δ σ C H Q R rp g k=>k true C H g (eN.refl rp.ch)⟩
theorem qJ (h:DT X c gt):aHG X [c] gt:=by
 obtain ⟨t,p,h⟩:=h
 exact ⟨t,aIi p,h⟩
theorem aBX {ifs:List Expr} (h:DI X tg iter gi) (fo:aC2 fr ss=true):∃ wi,PI X tg iter wi∧∀ C0 H0 δ σ C H (Q:List D→Prop) (R:VK),gU X.K C0 H0 δ σ C H→hJ fr gi gg gt ge δ Q →
  (∀ ds p xs C1 H1,Q ds→eN C H C1 H1→C1 p=none→H p=none→H1 p=some (.lst xs)→b9 X.K C1 xs ds→R (.ref p) H1)→aIo fr wi (tDG X.K ss gg) (tDT X.K gt) (tDE X.K ge) σ H R:=by
 obtain ⟨wi,pi,h⟩:=h
 refine ⟨wi,pi,fun C0 H0 δ σ C H Q R rp g k=>h C0 H0 δ σ C H _ _ rp g fun its J C1 H1 q e1 wk A hA=>?_⟩
 obtain ⟨hz,p,f,hf,q⟩:=q
 refine aBb (gg:=gg) (gt:=gt) (ge:=ge) (ss:=ss) (fun C0 H0 δ σ C H v d Q R rp n g k=>⟨C0,H0,δ,C,d,Q,rp,n,g,k⟩) (fun C0 H0 δ σ C H Q R rp g k=>⟨C0,H0,δ,C,Q,rp,g,k⟩) (fun C0 H0 δ σ C H Q R rp g k=>⟨C0,H0,δ,C,Q,rp,g,k⟩) fo rp e1 wk hz hf q k hA
theorem tD {ifs:List Expr} (ok:m8 X.env.scope scope X.N Nc fr=true) (fo:aC2 fr ss=true) (hc:X.calm=true) (hi:DI X tg iter gi) (hg:∀ Cc pins fp s3 H3,DG (y8 X scope Nc Cc pins fp s3 H3) tg ss gg)
  (ht:∀ Cc pins fp s3 H3,aHG (y8 X scope Nc Cc pins fp s3 H3) ifs gt) (he:∀ Cc pins fp s3 H3,DE (y8 X scope Nc Cc pins fp s3 H3) elt ge) (hs:∀ x,foldedSetIterable iter X.env x=pure x:=by intro _;rfl) :
  DF X (.ListComp elt [⟨tg,iter,ifs,0⟩] scope pos) (hJ fr gi gg gt ge):=by
 obtain ⟨wi,pi,h⟩:=aBX (ifs:=ifs) (gg:=gg) (gt:=gt) (ge:=ge) hi fo
 exact ⟨_,aGt ok hc pi (fun a b c d e=>(hg a b c d e).can) (fun a b c d e=>(ht a b c d e).can) (fun a b c d e=>(he a b c d e).can) hs,h⟩
end
structure DEnds where
 nx:DS→Prop
 rt:D→Prop
 bk:DS→Prop:=fun _=>False
 ct:DS→Prop:=fun _=>False
abbrev GS:=DEnds→DS→Prop
structure Adm (K:PySem.W.Frag) (C0 H0:Hp) (E:aA6) (De:DEnds):Prop where
 nx:∀ δ σ C H,gU K C0 H0 δ σ C H→De.nx δ→E.nx σ H
 rt:∀ d v C H,eN C0 H0 C H→kM K C v d→De.rt d→E.rt v H
 bk:∀ δ σ C H,gU K C0 H0 δ σ C H→De.bk δ→E.bk σ H
 ct:∀ δ σ C H,gU K C0 H0 δ σ C H→De.ct δ→E.ct σ H
def DSt (X:Cx) (st:Stmt) (g:GS):Prop:=∃ t,PS X st t∧∀ C0 H0 δ σ C H De E,gU X.K C0 H0 δ σ C H→g De δ→Adm X.K C0 H0 E De→t E σ H
def j2 (X:Cx) (sts:List Stmt) (g:GS):Prop:=∃ t,PSs X sts t∧∀ C0 H0 δ σ C H De E,gU X.K C0 H0 δ σ C H→g De δ→Adm X.K C0 H0 E De→t E σ H
section
variable {X:Cx}{a b c e tg iter elt:Expr}{st:Stmt}{sts s2:List Stmt}{pos:Pos}{ge:GE}{gi gf:GF}{gt:GT}{gg:GG}{g1 g2:GS}{scope:Scope}{Nc:List Str}{fr:List (Option Nat)}{ss:List Nat}
abbrev fR:GS:=fun De δ=>De.nx δ
def bE (g1 g2:GS):GS:=fun De δ=>g1 { De with nx:=g2 De } δ
theorem eJ:j2 X [] fR:=⟨_,aGh,fun C0 H0 δ σ C H De E rp g k=>k.nx δ σ C H rp g⟩
theorem aI (h1:DSt X st g1) (h2:j2 X sts g2):j2 X (st::sts) (bE g1 g2):=by
 obtain ⟨t1,p1,h1⟩:=h1
 obtain ⟨t2,p2,h2⟩:=h2
 refine ⟨_,aDu p1 p2,fun C0 H0 δ σ C H De E rp g k=>h1 C0 H0 δ σ C H { De with nx:=g2 De } { E with nx:=t2 E } rp g ⟨fun δ' σ' C' H' rp' q=>?_,k.rt,k.bk,k.ct⟩⟩
 exact h2 C0 H0 δ' σ' C' H' De E rp' q k
theorem aN (h1:DSt X st g1):j2 X [st] g1:=by
 obtain ⟨t1,p1,h1⟩:=h1
 exact ⟨_,aCt p1,h1⟩
def pM (i:Nat) (g:GS):GS:=fun De δ=>match δ[i]? with
 | some (.ow ds)=>g De (δ.set i (.im (.lst ds)))
 | _=>False
theorem iI (i:Nat) (h:j2 X sts g1):j2 X sts (pM i g1):=by
 obtain ⟨t,p,h⟩:=h
 refine ⟨t,p,fun C0 H0 δ σ C H De E rp g k=>?_⟩
 unfold pM at g
 split at g
 ·rename_i ds e
  obtain ⟨C1,rp'⟩:=rp.freeze' e
  exact h C0 H0 _ σ C1 H De E rp' g k
 ·exact g.elim
def dH (ge:GE):GS:=fun De δ=>ge δ De.rt
theorem bM (he:DE X e ge):DSt X (.Return (some e) pos) (dH ge):=by
 obtain ⟨t,p,h⟩:=he
 exact ⟨_,aIr p,fun C0 H0 δ σ C H De E rp g k=>h C0 H0 δ σ C H _ _ rp g fun d v C1 H1 q e1 n1=>k.rt d v C1 H1 (rp.ext.trans e1) n1 q⟩
def j0 (gt:GT) (g1 g2:GS):GS:=fun De δ=>gt δ fun c=>if c=true then g1 De δ else g2 De δ
theorem jV (hc:DT X c gt) (h1:j2 X sts g1) (h2:j2 X s2 g2):DSt X (.If c sts s2 pos) (j0 gt g1 g2):=by
 obtain ⟨t0,p0,h0⟩:=hc
 obtain ⟨t1,p1,h1⟩:=h1
 obtain ⟨t2,p2,h2⟩:=h2
 refine ⟨_,aIO p0 p1 p2,fun C0 H0 δ σ C H De E rp g k=>h0 C0 H0 δ σ C H _ _ rp g fun c C1 H1 q e1=>?_⟩
 cases c with
 | true=>exact aEC (h1 C0 H0 δ σ C1 H1 De E (rp.grow e1) (by simpa using q) k)
 | false=>exact aHf (h2 C0 H0 δ σ C1 H1 De E (rp.grow e1) (by simpa using q) k)
def bS (ge:GE) (gg:GG):GS:=fun De δ=>ge δ fun d=>gg d δ De.nx
theorem aW (he:DE X e ge) (hg:DG X tg ss gg) (hp:∀ {te:TE}{g:TG},PE X e te→PG X tg g→PS X (.Assign [tg] e pos) (aFp te g)):DSt X (.Assign [tg] e pos) (bS ge gg):=by
 obtain ⟨t,p,h⟩:=he
 obtain ⟨t2,p2,h2⟩:=hg
 refine ⟨_,hp p p2,fun C0 H0 δ σ C H De E rp g k=>h C0 H0 δ σ C H _ _ rp g fun d v C1 H1 q e1 n1=>?_⟩
 exact h2 C0 H0 δ σ C1 H1 v d _ _ (rp.grow e1) n1 q fun δ' σ' q' rp' _ _=>k.nx δ' σ' C1 H1 rp' q'
def jW (i:Nat) (gf:GF):GS:=fun De δ=>gf δ fun ds=>De.nx (δ.set i (.ow ds))
theorem l9 {i:Nat}{x:Str}{pos':Pos} (he:DF X e gf) (hp:∀ {te:TE},PE X e te→PS X (.Assign [.Name x pos'] e pos) (aFp te (yH i))):DSt X (.Assign [.Name x pos'] e pos) (jW i gf):=by
 obtain ⟨t,p,h⟩:=he
 refine ⟨_,hp p,fun C0 H0 δ σ C H De E rp g k=>h C0 H0 δ σ C H _ _ rp g fun ds p xs C1 H1 q e1 hc hn hl hd=>?_⟩
 have rp1:=rp.grow e1
 refine k.nx _ _ C1 H1 (rp1.setO (rp.ext.hh.free hn) hc (fun j es hj ho z=>?_) hl hd) q
 obtain ⟨l,ys,a,_,_,d,_⟩:=rp.ow j es ho
 rw [z] at a
 cases a
 rw [hn] at d
 cases d
theorem aEJ {i:Nat}{x:Str}{ifs:List Expr}{pos' pos'':Pos} (ok:m8 X.env.scope scope X.N Nc fr=true) (fo:aC2 fr ss=true) (hc:X.calm=true) (hN:X.N.Nodup) (hi:X.N[i]? = some x) (hx:Loc X.env.scope x) (hit:DI X tg iter gi) (hg:∀ Cc pins fp s3 H3,DG (y8 X scope Nc Cc pins fp s3 H3) tg ss gg)
  (ht:∀ Cc pins fp s3 H3,aHG (y8 X scope Nc Cc pins fp s3 H3) ifs gt) (he:∀ Cc pins fp s3 H3,DE (y8 X scope Nc Cc pins fp s3 H3) elt ge) (hsw:swapsWith (.ListComp elt [⟨tg,iter,ifs,0⟩] scope pos) (some (.Name x pos')) pos''.line X.env=pure true)
  (hs:∀ x,foldedSetIterable iter X.env x=pure x:=by intro _;rfl) (hf:X.fn x=true∨X.env.scope.names.lookup x=some .local:=by first | exact .inl rfl | exact .inr rfl | assumption) :
  DSt X (.Assign [.Name x pos'] (.ListComp elt [⟨tg,iter,ifs,0⟩] scope pos) pos'') (jW i (hJ fr gi gg gt ge)):=by
 obtain ⟨wi,pi,h⟩:=aBX (ifs:=ifs) (gg:=gg) (gt:=gt) (ge:=ge) hit fo
 refine ⟨_,aGN ok hc hN hi hx pi (fun a b c d e=>(hg a b c d e).can) (fun a b c d e=>(ht a b c d e).can) (fun a b c d e=>(he a b c d e).can) hsw hs hf,fun C0 H0 δ σ C H De E rp g k=>h C0 H0 δ σ C H _ _ rp g fun ds p xs C1 H1 q e1 hc hn hl hd=>?_⟩
 have rp1:=rp.grow e1
 refine k.nx _ _ C1 H1 (rp1.setO (rp.ext.hh.free hn) hc (fun j es hj ho z=>?_) hl hd) q
 obtain ⟨l,ys,a,_,_,d,_⟩:=rp.ow j es ho
 rw [z] at a
 cases a
 rw [hn] at d
 cases d
def vM (i:Nat) (ge:GE):GS:=fun De δ=>match δ[i]? with
 | some (.ow ds)=>ge δ fun d=>ds.length<sizeLine∧De.nx (δ.set i (.ow (ds++[d])))
 | _=>False
theorem r8 {i:Nat}{o:Expr}{nm:Str}{p2 p3:Pos} (he:DE X e ge) (hp:∀ {te:TE},PE X e te→PS X (.Expr (.Call (.Attribute o nm p2) [e] [] p3) pos) (aJ7 (tBM X.K "list" aGQ (aAw i) (aGq te aK9)))):DSt X (.Expr (.Call (.Attribute o nm p2) [e] [] p3) pos) (vM i ge):=by
 obtain ⟨t,p,h⟩:=he
 refine ⟨_,hp p,fun C0 H0 δ σ C H De E rp g k=>?_⟩
 unfold vM at g
 split at g
 ·rename_i ds eo
  obtain ⟨l,xs,a,b,c,d,f⟩:=rp.ow i ds eo
  refine ⟨.ref l,a,.inl ⟨rfl,xs,lI.of d⟩,h C0 H0 δ σ C H _ _ rp g fun dv v C1 H1 q e1 n1=>?_⟩
  have d1:=e1.hh _ _ d
  refine ⟨l,xs,v,rfl,rfl,d1,by rw [f.length];exact q.1,k.nx _ σ C1 _ ((rp.grow e1).change eo a ((f.mono e1.cc).append (.cons n1 .nil))) q.2⟩
 ·exact g.elim
def aHR (i:Nat) (gf:GF):GS:=fun De δ=>match δ[i]? with
 | some (.ow ds)=>gf δ fun es=>ds.length+es.length≤sizeLine∧De.nx (δ.set i (.ow (ds++es)))
 | _=>False
theorem aL2 {i:Nat}{o:Expr}{nm:Str}{p2 p3:Pos} (he:DF X e gf) (hp:∀ {te:TE},PE X e te→PS X (.Expr (.Call (.Attribute o nm p2) [e] [] p3) pos) (aJ7 (tBM X.K "list" aF9 (aAw i) (aGq te aK9)))):DSt X (.Expr (.Call (.Attribute o nm p2) [e] [] p3) pos) (aHR i gf):=by
 obtain ⟨t,p,h⟩:=he
 refine ⟨_,hp p,fun C0 H0 δ σ C H De E rp g k=>?_⟩
 unfold aHR at g
 split at g
 ·rename_i ds eo
  obtain ⟨l,xs,a,b,c,d,f⟩:=rp.ow i ds eo
  refine ⟨.ref l,a,.inl ⟨rfl,xs,lI.of d⟩,h C0 H0 δ σ C H _ _ rp g fun es p ys C1 H1 q e1 hc hn hl hd=>?_⟩
  have d1:=e1.hh _ _ d
  refine ⟨l,p,xs,ys,rfl,rfl,d1,hl,by rw [f.length,hd.length];exact q.1,k.nx _ σ C1 _ ((rp.grow e1).change eo a ((f.mono e1.cc).append hd)) q.2⟩
 ·exact g.elim
theorem kG (ok:m8 X.env.scope scope X.N Nc fr=true) (fo:aC2 fr ss=true) (hc:X.calm=true) (hi:DI X tg iter gi) (hg:∀ Cc pins fp s3 H3,DG (y8 X scope Nc Cc pins fp s3 H3) tg ss gg)
  (he:∀ Cc pins fp s3 H3,DE (y8 X scope Nc Cc pins fp s3 H3) elt ge) (mg:∀ d δ (P P':DS→Prop),(∀ l,P l→P' l)→gg d δ P→gg d δ P') (hs:∀ x,foldedSetIterable iter X.env x=pure x:=by intro _;rfl) :
  DF X (.ListComp elt [⟨tg,iter,[],0⟩] scope pos) (fB fr gi gg ge):=by
 obtain ⟨wi,pi,h⟩:=hi
 refine ⟨_,aGt (g:=tDG X.K ss gg) (tt:=tDT X.K aJC) (te:=tDE X.K ge) ok hc pi (fun a b c d e=>(hg a b c d e).can) (fun a b c d e=>(aEP (X:=y8 X scope Nc a b c d e)).can) (fun a b c d e=>(he a b c d e).can) hs,fun C0 H0 δ σ C H Q R rp g k=>h C0 H0 δ σ C H _ _ rp g fun its J C1 H1 q e1 wk A hA=>?_⟩
 obtain ⟨hz,f,hf,q⟩:=q
 refine aBb (gg:=gg) (gt:=aJC) (ge:=ge) (ss:=ss) (p:=fun _=>true) (f:=f) (Q:=Q) (fun C0 H0 δ σ C H v d Q R rp n g k=>⟨C0,H0,δ,C,d,Q,rp,n,g,k⟩) (fun C0 H0 δ σ C H Q R rp g k=>⟨C0,H0,δ,C,Q,rp,g,k⟩) (fun C0 H0 δ σ C H Q R rp g k=>⟨C0,H0,δ,C,Q,rp,g,k⟩) fo rp e1 wk hz
  (fun d hd=>mg d _ _ _ (fun δ2 q2=>⟨rfl,fun _=>q2⟩) (hf d hd)) (by rw [List.filter_eq_self.mpr (fun _ _=>rfl)];exact q) k hA
theorem sI {i:Nat}{x:Str}{pos' pos'':Pos} (ok:m8 X.env.scope scope X.N Nc fr=true) (fo:aC2 fr ss=true) (hc:X.calm=true) (hN:X.N.Nodup) (hi:X.N[i]? = some x) (hx:Loc X.env.scope x) (hit:DI X tg iter gi) (hg:∀ Cc pins fp s3 H3,DG (y8 X scope Nc Cc pins fp s3 H3) tg ss gg)
  (he:∀ Cc pins fp s3 H3,DE (y8 X scope Nc Cc pins fp s3 H3) elt ge) (mg:∀ d δ (P P':DS→Prop),(∀ l,P l→P' l)→gg d δ P→gg d δ P') (hsw:swapsWith (.ListComp elt [⟨tg,iter,[],0⟩] scope pos) (some (.Name x pos')) pos''.line X.env=pure true)
  (hs:∀ x,foldedSetIterable iter X.env x=pure x:=by intro _;rfl) (hf:X.fn x=true∨X.env.scope.names.lookup x=some .local:=by first | exact .inl rfl | exact .inr rfl | assumption) :
  DSt X (.Assign [.Name x pos'] (.ListComp elt [⟨tg,iter,[],0⟩] scope pos) pos'') (jW i (fB fr gi gg ge)):=by
 obtain ⟨wi,pi,h⟩:=hit
 refine ⟨_,aGN (g:=tDG X.K ss gg) (tt:=tDT X.K aJC) (te:=tDE X.K ge) ok hc hN hi hx pi (fun a b c d e=>(hg a b c d e).can) (fun a b c d e=>(aEP (X:=y8 X scope Nc a b c d e)).can) (fun a b c d e=>(he a b c d e).can) hsw hs hf,fun C0 H0 δ σ C H De E rp g k=>h C0 H0 δ σ C H _ _ rp g fun its J C1 H1 q e1 wk A hA=>?_⟩
 obtain ⟨hz,f,hf,q⟩:=q
 refine aBb (gg:=gg) (gt:=aJC) (ge:=ge) (ss:=ss) (p:=fun _=>true) (f:=f) (Q:=fun ds=>De.nx (δ.set i (.ow ds))) (fun C0 H0 δ σ C H v d Q R rp n g k=>⟨C0,H0,δ,C,d,Q,rp,n,g,k⟩) (fun C0 H0 δ σ C H Q R rp g k=>⟨C0,H0,δ,C,Q,rp,g,k⟩) (fun C0 H0 δ σ C H Q R rp g k=>⟨C0,H0,δ,C,Q,rp,g,k⟩) fo rp e1 wk hz
  (fun d hd=>mg d _ _ _ (fun δ2 q2=>⟨rfl,fun _=>q2⟩) (hf d hd)) (by rw [List.filter_eq_self.mpr (fun _ _=>rfl)];exact q) (fun ds p xs C1 H1 q e1 hc hn hl hd=>?_) hA
 have rp1:=rp.grow e1
 refine k.nx _ _ C1 H1 (rp1.setO (rp.ext.hh.free hn) hc (fun j es hj ho z=>?_) hl hd) q
 obtain ⟨l,ys,a,_,_,d,_⟩:=rp.ow j es ho
 rw [z] at a
 cases a
 rw [hn] at d
 cases d
theorem jS {i:Nat}:∀ d δ (P P':DS→Prop),(∀ l,P l→P' l)→cU i d δ P→cU i d δ P':=fun _ _ _ _ h q=>h _ q
theorem aAW {i j:Nat}:∀ d δ (P P':DS→Prop),(∀ l,P l→P' l)→qV i j d δ P→qV i j d δ P':=fun d δ P P' h q=>by
 unfold qV at q ⊢
 split at q
 ·exact h _ q
 ·exact q.elim
theorem gU.rebase {K:PySem.W.Frag}{C0 H0 δ σ C H} (R:gU K C0 H0 δ σ C H):gU K C H0 δ σ C H:=⟨R.tc,R.len,⟨R.ext.hh,cX.refl _,R.ext.ch,fun _ e _=>e⟩,R.im,R.ow,R.ap,R.dc⟩
theorem eN.unbase {C0 H0 C1 H1 C H:Hp} (e:eN C0 H0 C1 H1) (x:eN C1 H0 C H):eN C0 H0 C H:=⟨x.hh,e.cc.trans x.cc,x.ch,fun b a n=>x.ow b (e.ow b a n) n⟩
theorem gU.unbase {K:PySem.W.Frag}{C0 H0 C1 H1 δ σ C H} (e:eN C0 H0 C1 H1) (R:gU K C1 H0 δ σ C H) (t0:TB K C0):gU K C0 H0 δ σ C H:=⟨t0,R.len,e.unbase R.ext,R.im,R.ow,R.ap,R.dc⟩
def fL (gi:GF) (gg:GG) (gb:GS):GS:=fun De δ=>gi δ fun its=>∃ P:Nat→DS→Prop,P 0 δ∧(∀ (i:Nat) d δ',its[i]? = some d→P i δ'→gg d δ' fun δ2=>gb { De with nx:=P (i+1),ct:=P (i+1),bk:=De.nx } δ2)∧∀ δ',P its.length δ'→De.nx δ'
theorem e6 {gb:GS} (hc:X.calm=true) (hp:PassesOwn (model X.prog X.w) X.A X.env X.xe) (hi:DI X tg iter gi) (hg:DG X tg ss gg) (hb:j2 X sts gb) (hs:∀ x,foldedSetIterable iter X.env x=pure x:=by intro _;rfl):DSt X (.For tg iter sts [] pos) (fL gi gg gb):=by
 obtain ⟨wi,pi,h⟩:=hi
 obtain ⟨t2,p2,h2⟩:=hg
 obtain ⟨t3,p3,h3⟩:=hb
 refine ⟨_,aMv hp hc pi p2 p3 hs,fun C0 H0 δ σ C H De E rp g k=>h C0 H0 δ σ C H _ _ rp g fun its J C1 H1 q e1 wk=>?_⟩
 obtain ⟨P,P0,Pt,Pe⟩:=q
 have rp1:=rp.grow e1
 refine ⟨fun i m σ' H'=>m=its.length-i∧i≤its.length∧∃ δ' C',gU X.K C1 H0 δ' σ' C' H'∧P i δ',⟨_,rfl,Nat.zero_le _,δ,C1,rp1.rebase,P0⟩,?_⟩
 rintro i m σ' H' ⟨rfl,hi,δ',C',rp',p⟩
 have W:=wk C' H' rp'.ext.cc rp'.ch i
 by_cases hlt:i<its.length
 ·have ed:its[i]? = some its[i]:=by simp [hlt]
  obtain ⟨go,yl⟩:=W.1 _ ed
  refine .inr ⟨go,fun σ2 H2=>∃ δ2 C2,gU X.K C1 H0 δ2 σ2 C2 H2∧P (i+1) δ2,fun σ2 H2 ⟨δ2,C2,a,b⟩=>⟨its.length-(i+1),by omega,rfl,hlt,δ2,C2,a,b⟩,fun x H3 y=>?_⟩
  obtain ⟨C3,e3,n3⟩:=yl x H3 y
  refine h2 C1 H0 δ' σ' C3 H3 x its[i] _ _ (rp'.grow e3) n3 (Pt i _ δ' ed p) fun δ4 σ4 q4 rp4 _ _=>?_
  refine h3 C1 H0 δ4 σ4 C3 H3 _ _ rp4 q4 ⟨fun δ5 σ5 C5 H5 a b=>⟨δ5,C5,a,b⟩,fun d v C5 H5 a b c=>k.rt d v C5 H5 (rp1.ext.unbase a) b c,fun δ5 σ5 C5 H5 a b=>k.nx δ5 σ5 C5 H5 (a.unbase rp1.ext rp1.tb) b,fun δ5 σ5 C5 H5 a b=>⟨δ5,C5,a,b⟩⟩
 ·have e:i=its.length:=by omega
  subst e
  exact .inl ⟨W.2 (Nat.le_refl _),k.nx δ' σ' C' H' (rp'.unbase rp1.ext rp1.tb) (Pe δ' p)⟩
def nX (gt:GT) (gb:GS):GS:=fun De δ=>∃ P:Nat→DS→Prop,(∃ n,P n δ)∧∀ n δ',P n δ'→gt δ' fun c=>if c=true then gb { De with nx:=fun δ2=>∃ m,m<n∧P m δ2,ct:=fun δ2=>∃ m,m<n∧P m δ2,bk:=De.nx } δ' else De.nx δ'
theorem rR {gb:GS} (hp:PassesOwn (model X.prog X.w) X.A X.env X.xe) (hc:DT X c gt) (hb:j2 X sts gb):DSt X (.While c sts [] pos) (nX gt gb):=by
 obtain ⟨t0,p0,h0⟩:=hc
 obtain ⟨t1,p1,h1⟩:=hb
 refine ⟨_,aIH hp p0 p1,fun C0 H0 δ σ C H De E rp g k=>?_⟩
 obtain ⟨P,⟨n0,P0⟩,Pt⟩:=g
 refine ⟨fun n σ' H'=>∃ δ' C',gU X.K C0 H0 δ' σ' C' H'∧P n δ',⟨n0,δ,C,rp,P0⟩,?_⟩
 rintro n σ' H' ⟨δ',C',rp',p⟩
 refine h0 C0 H0 δ' σ' C' H' _ _ rp' (Pt n δ' p) fun c C2 H2 q2 e2=>?_
 have rp2:=rp'.grow e2
 cases c with
 | true=>
  refine ⟨fun σ3 H3=>∃ m,m<n∧∃ δ3 C3,gU X.K C0 H0 δ3 σ3 C3 H3∧P m δ3,fun σ3 H3 z=>z,?_⟩
  have q2':gb { De with nx:=fun δ2=>∃ m,m<n∧P m δ2,ct:=fun δ2=>∃ m,m<n∧P m δ2,bk:=De.nx } δ':=by simpa using q2
  refine h1 C0 H0 δ' σ' C2 H2 _ _ rp2 q2' ⟨fun δ5 σ5 C5 H5 a ⟨m,b1,b2⟩=>⟨m,b1,δ5,C5,a,b2⟩,k.rt,k.nx,fun δ5 σ5 C5 H5 a ⟨m,b1,b2⟩=>⟨m,b1,δ5,C5,a,b2⟩⟩
 | false=>exact k.nx δ' σ' C2 H2 rp2 (by simpa using q2)
end
def bH (N:List Str) (ds:List D):DS:=ds.map Sl.im++List.replicate (N.length-ds.length) .un
theorem qI {K:PySem.W.Frag}{C H:Hp}{N:List Str}{vs:List V}{ds:List D} (ch:cX C H) (tb:TB K C) (h:b9 K C vs ds):gU K C H (bH N ds) (mH N vs) C H:=by
 have no:∀ (i:Nat) es,(bH N ds)[i]? ≠ some (.ow es):=fun i es e=>by
  have:=List.mem_of_getElem? e
  unfold bH at this
  rcases List.mem_append.mp this with z | z
  ·obtain ⟨d,_,q⟩:=List.mem_map.mp z
   cases q
  ·have:=List.eq_of_mem_replicate z
   cases this
 refine ⟨tb,?_,eN.refl ch,fun i d e=>?_,fun i es e=>absurd e (no i es),fun i j es fs l _ e _=>absurd e (no i es),Dcs.none fun i x e=>?_⟩
 rotate_right
 ·have:=List.mem_of_getElem? e
  unfold bH at this
  rcases List.mem_append.mp this with z | z
  ·obtain ⟨d,_,q⟩:=List.mem_map.mp z
   rw [← q]
   rfl
  ·rw [List.eq_of_mem_replicate z]
   rfl
 ·unfold mH bH
  simp [h.length]
 ·unfold bH at e
  unfold mH
  by_cases hi:i<ds.length
  ·rw [List.getElem?_append_left (by simpa using hi),List.getElem?_map] at e
   cases e2:ds[i]? with
   | none=>rw [e2] at e;cases e
   | some d'=>
    rw [e2] at e
    cases e
    obtain ⟨v,ev,nv⟩:=h.get e2
    refine ⟨v,?_,nv⟩
    rw [List.getElem?_append_left (by rw [List.length_map,h.length];exact hi),List.getElem?_map,ev]
    rfl
  ·rw [List.getElem?_append_right (by simpa using hi),List.getElem?_replicate] at e
   split at e <;> cases e
theorem p5 {P:Program}{w:World}{K:PySem.W.Frag}{mg:Str→Option Value}{base:Heap}{x qual:Str}{st:Stmt}{f:Addr}{fd:FuncData}{N ps:List Str}{k:Nat}{F:List D→Option D}{g:GS} (Fn:Fun K x qual st f fd) (S:bA N ps (aD st))
  (hl:∀ ds d,F ds=some d→ds.length=ps.length)
  (hb:∀ (cdv:Value) (A:Around) (outer:List Env) (s:Shared) (H:Hp) (E:XK),cE k (A.deeper (envOfC qual (aD st) s.heap.objs.size f cdv))→j2 (dZ kL P w K mg base N qual (aD st) f cdv A outer s H E).nox (aS st) g)
  (hv:∀ ds d,F ds=some d→g { nx:=fun _=>d = .non,rt:=fun r=>r=d } (bH N ds)) (hm:mg x=some (.ref f)) (bi:qC K fd ps []):eV P w K mg base (k+1) x F:=by
 refine ⟨f,fd,ps,Fn.ok S (fun vs H Q E h=>?_) (fun cdv A outer s H vs Q E hr h=>?_),hm,Fn.kp,bi⟩
 ·obtain ⟨C,ds,d,_,_,n,e,_⟩:=h
  rw [n.length]
  exact hl ds d e
 ·obtain ⟨C,ds,d,ch,tb,n,e,q⟩:=h
  obtain ⟨t,p,h⟩:=hb cdv A outer s H E hr
  refine ⟨t,p,h C H (bH N ds) (mH N vs) C H _ _ (qI ch tb n) (hv ds d e) ⟨fun δ σ C' H' rp z=>?_,fun r v C' H' ex nv z=>?_,fun _ _ _ _ _ z=>z.elim,fun _ _ _ _ _ z=>z.elim⟩⟩
  ·subst z
   exact q _ C' H' rp.ext (fD.mpr rfl)
  ·subst z
   exact q v C' H' ex nv
section
variable {X:Cx}
def aN7 (K:PySem.W.Frag):R2:=fun x y H Q=>∃ l b xs zs,x = .ref l∧y = .ref b∧lI K H l xs∧lI K H b zs∧xs.length+zs.length≤sizeLine∧∀ p,H p=none→Q (.ref p) (upd H p (.lst (xs++zs)))
theorem aLi:tO X (binaryOp .Add) (aN7 X.K):=by
 intro pins s σ H x y v u Q I rx ry h
 obtain ⟨l,b,xs,zs,rfl,rfl,hH,hB,hz,q⟩:=h
 cases rx
 cases ry
 obtain ⟨its,r,pl,z⟩:=I.list hH
 obtain ⟨its2,r2,pl2,z2⟩:=I.list hB
 have hl:=r.length
 have hl2:=r2.length
 obtain ⟨⟨cls,dd,data,sl⟩,ho,hc,n,hd⟩:=pl.isList
 obtain ⟨⟨cls2,dd2,data2,sl2⟩,ho2,hc2,n2,hd2⟩:=pl2.isList
 simp only at hc hd hc2 hd2
 subst hc hd hc2 hd2
 refine concat_meets ⟨_,ho,rfl⟩ ⟨_,ho2,rfl⟩ noFill_list_add seq_list_add PySem.F.slot_list_add PySem.F.entry_list_add (PySem.F.args_list_add_2 _ _) (list_addW l b its.toArray its2.toArray n n2 dd dd2 sl sl2 (by rw [List.size_toArray,List.size_toArray];omega)) ⟨ho,ho2,?_⟩
 have ea:its.toArray++its2.toArray=(its++its2).toArray:=by simp
 rw [ea]
 exact ⟨.ref _,_,I.lnew (t':=s.toks) (r.append r2) (by rw [List.length_append];omega),rfl,q _ I.fresh⟩
variable {a b c e:Expr}{es:List Expr}{pos:Pos}{ga gb:GE}
def aCd (ga gb:GE):GF:=fun δ Q=>ga δ fun x=>gb δ fun y=>match x,y with
 | .lst xs,.lst ys=>xs.length+ys.length≤sizeLine∧Q (xs++ys)
 | _,_=>False
theorem aI0 (ha:DE X a ga) (hb:DE X b gb):DF X (.BinOp a .Add b pos) (aCd ga gb):=by
 obtain ⟨t1,p1,h1⟩:=ha
 obtain ⟨t2,p2,h2⟩:=hb
 refine ⟨_,aJ0 aLi p1 p2,fun C0 H0 δ σ C H Q R rp g k=>?_⟩
 refine h1 C0 H0 δ σ C H _ _ rp g fun d v C1 H1 q e1 n1=>h2 C0 H0 δ σ C1 H1 _ _ (rp.grow e1) q fun d2 v2 C2 H2 q2 e2 n2=>?_
 have n1':=n1.mono e2.cc
 have e12:=e1.trans e2
 cases d with
 | lst ds=>
  cases d2 with
  | lst es=>
   obtain ⟨p,xs,rfl,hx,hd⟩:=cT.mp n1'
   obtain ⟨p',ys,rfl,hy,he⟩:=cT.mp n2
   have q2':ds.length+es.length≤sizeLine∧Q (ds++es):=q2
   exact ⟨p,p',xs,ys,rfl,rfl,e2.ch.seq hx,e2.ch.seq hy,by rw [hd.length,he.length];exact q2'.1,fun l hl=>k _ l _ C2 _ q2'.2 (e12.trans (eN.newO e2.ch hl)) (e2.ch.free hl) (e12.hh.free hl) bR (hd.append he)⟩
  | _=>exact q2.elim
 | _=>exact q2.elim
end
mutual
def oP:D→D→Option Bool
 | .int i,.int j=>some (i == j)
 | .bl i,.bl j=>some (i == j)
 | .str i,.str j=>some (i == j)
 | .non,.non=>some true
 | .tup xs,.tup ys=>(pQ xs ys).map fun b=>b && xs.length == ys.length
 | .lst xs,.lst ys=>if xs.length=ys.length then pQ xs ys else some false
 | _,_=>none
def pQ:List D→List D→Option Bool
 | x::xs,y::ys=>match oP x y,pQ xs ys with
  | some a,some b=>some (a && b)
  | _,_=>none
 | _,_=>some true
end
mutual
def pZ:D→Nat
 | .tup ds=>k8 ds+1
 | .lst ds=>k8 ds+1
 | _=>0
def k8:List D→Nat
 | []=>0
 | d::ds=>max (pZ d) (k8 ds)
end
mutual
theorem mJ:∀ d:D,oP d d=some true
 | .int i=>by simp [oP]
 | .bl i=>by simp [oP]
 | .str i=>by simp [oP]
 | .non=>by simp [oP]
 | .tup ds=>by simp [oP,xD ds]
 | .lst ds=>by simp [oP,xD ds]
theorem xD:∀ ds:List D,pQ ds ds=some true
 | []=>by simp [pQ]
 | d::ds=>by simp [pQ,mJ d,xD ds]
end
theorem wA:∀ {xs ys:List D}{r:Bool},pQ xs ys=some r→∃ f:Nat→Bool,(∀ (j:Nat) x y,xs[j]? = some x→ys[j]? = some y→oP x y=some (f j))∧r=(List.range (min xs.length ys.length)).all f
 | [],ys,r,h=>by
  refine ⟨fun _=>true,fun j x y e=>by simp at e,?_⟩
  have:r=true:=by simpa [pQ] using h.symm
  simp [this]
 | x::xs,[],r,h=>by
  refine ⟨fun _=>true,fun j x y _ e=>by simp at e,?_⟩
  have:r=true:=by simpa [pQ] using h.symm
  simp [this]
 | x::xs,y::ys,r,h=>by
  rw [pQ] at h
  cases e1:oP x y with
  | none=>rw [e1] at h;cases h
  | some a=>
   cases e2:pQ xs ys with
   | none=>rw [e1,e2] at h;cases h
   | some b=>
    rw [e1,e2] at h
    obtain ⟨f,hf,hb⟩:=wA e2
    refine ⟨fun j=>match j with
     | 0=>a
     | j+1=>f j,fun j x' y' h1 h2=>?_,?_⟩
    ·cases j with
     | zero=>cases h1;cases h2;exact e1
     | succ j=>exact hf j x' y' h1 h2
    ·have:r=(a && b):=(Option.some.inj h).symm
     rw [this,hb,List.length_cons,List.length_cons,Nat.succ_min_succ,List.range_succ_eq_map,List.all_cons,List.all_map]
     rfl
theorem tE:∀ {xs:List D}{j:Nat}{x:D},xs[j]? = some x→pZ x≤k8 xs
 | [],j,x,h=>by simp at h
 | y::ys,0,x,h=>by
  cases h
  rw [k8]
  exact Nat.le_max_left _ _
 | y::ys,j+1,x,h=>by
  rw [k8]
  exact Nat.le_trans (tE (xs:=ys) (j:=j) h) (Nat.le_max_right _ _)
section
variable {X:Cx}{pins:List (Addr×Obj)}{σ:St}{H C:Hp}{s:Shared}
mutual
theorem zM (I:bI X pins σ H s) (ch:cX C H):∀ {v:V} (d e:D),kM X.K C v d→kM X.K C v e→d=e
 | v,.int i,e,h,h'=>by
  have z:=bB.mp h
  subst z
  cases e with
  | int j=>have z:=bB.mp h';cases z;rfl
  | bl j=>have z:=dX.mp h';cases z
  | non=>have z:=fD.mp h';cases z
  | str j=>have z:=iW.mp h';cases z
  | tup j=>obtain ⟨_,_,z,_⟩:=bV.mp h';cases z
  | lst j=>obtain ⟨_,_,z,_⟩:=cT.mp h';cases z
 | v,.bl i,e,h,h'=>by
  have z:=dX.mp h
  subst z
  cases e with
  | int j=>have z:=bB.mp h';cases z
  | bl j=>have z:=dX.mp h';cases z;rfl
  | non=>have z:=fD.mp h';cases z
  | str j=>have z:=iW.mp h';cases z
  | tup j=>obtain ⟨_,_,z,_⟩:=bV.mp h';cases z
  | lst j=>obtain ⟨_,_,z,_⟩:=cT.mp h';cases z
 | v,.non,e,h,h'=>by
  have z:=fD.mp h
  subst z
  cases e with
  | int j=>have z:=bB.mp h';cases z
  | bl j=>have z:=dX.mp h';cases z
  | non=>rfl
  | str j=>have z:=iW.mp h';cases z
  | tup j=>obtain ⟨_,_,z,_⟩:=bV.mp h';cases z
  | lst j=>obtain ⟨_,_,z,_⟩:=cT.mp h';cases z
 | v,.str i,e,h,h'=>by
  have z:=iW.mp h
  subst z
  cases e with
  | int j=>have z:=bB.mp h';cases z
  | bl j=>have z:=dX.mp h';cases z
  | non=>have z:=fD.mp h';cases z
  | str j=>have z:=iW.mp h';cases z;rfl
  | tup j=>obtain ⟨_,_,z,_⟩:=bV.mp h';cases z
  | lst j=>obtain ⟨_,_,z,_⟩:=cT.mp h';cases z
 | v,.tup ds,e,h,h'=>by
  obtain ⟨a,xs,rfl,hx,hd⟩:=bV.mp h
  cases e with
  | int j=>have z:=bB.mp h';cases z
  | bl j=>have z:=dX.mp h';cases z
  | non=>have z:=fD.mp h';cases z
  | str j=>have z:=iW.mp h';cases z
  | tup es=>
   obtain ⟨a',ys,z,hy,he⟩:=bV.mp h'
   cases z
   have q:=I.tuple_inj (ch.seqT hx) (ch.seqT hy)
   subst q
   rw [aAi I ch ds es hd he]
  | lst es=>
   obtain ⟨a',ys,z,hy,he⟩:=cT.mp h'
   cases z
   obtain ⟨its,_,⟨o,h1,h2,_⟩,_⟩:=I.tuple (ch.seqT hx)
   obtain ⟨its2,_,pl,_⟩:=I.list (ch.seq hy)
   obtain ⟨o2,h3,h4,_⟩:=pl.isList
   rw [h1] at h3
   cases h3
   rw [h2] at h4
   exact absurd h4 (by decide)
 | v,.lst ds,e,h,h'=>by
  obtain ⟨a,xs,rfl,hx,hd⟩:=cT.mp h
  cases e with
  | int j=>have z:=bB.mp h';cases z
  | bl j=>have z:=dX.mp h';cases z
  | non=>have z:=fD.mp h';cases z
  | str j=>have z:=iW.mp h';cases z
  | lst es=>
   obtain ⟨a',ys,z,hy,he⟩:=cT.mp h'
   cases z
   have q:=I.list_inj (ch.seq hx) (ch.seq hy)
   subst q
   rw [aAi I ch ds es hd he]
  | tup es=>
   obtain ⟨a',ys,z,hy,he⟩:=bV.mp h'
   cases z
   obtain ⟨its,_,⟨o,h1,h2,_⟩,_⟩:=I.tuple (ch.seqT hy)
   obtain ⟨its2,_,pl,_⟩:=I.list (ch.seq hx)
   obtain ⟨o2,h3,h4,_⟩:=pl.isList
   rw [h1] at h3
   cases h3
   rw [h2] at h4
   exact absurd h4 (by decide)
theorem aAi (I:bI X pins σ H s) (ch:cX C H):∀ {vs:List V} (ds es:List D),b9 X.K C vs ds→b9 X.K C vs es→ds=es
 | vs,[],es,h,h'=>by
  have z:=j6.mp h
  subst z
  cases es with
  | nil=>rfl
  | cons e es=>obtain ⟨_,_,z,_⟩:=f8.mp h';cases z
 | vs,d::ds,es,h,h'=>by
  obtain ⟨x,xs,rfl,n,t⟩:=f8.mp h
  cases es with
  | nil=>have z:=j6.mp h';cases z
  | cons e es=>
   obtain ⟨_,_,z,n',t'⟩:=f8.mp h'
   cases z
   rw [zM I ch d e n n',aAi I ch ds es t t']
end
theorem pB {xs:List V}{its:List Value} (r:dR xs its) {j:Nat} (h:j<its.toArray.size):∃ x,xs[j]? = some x∧dD x its.toArray[j]:=by
 have h':j<its.length:=by simpa using h
 have hx:j<xs.length:=by rw [r.length];exact h'
 have e:xs[j]? = some xs[j]:=by simp [hx]
 obtain ⟨u,e1,e2⟩:=r.get e
 refine ⟨xs[j],e,?_⟩
 have:u=its.toArray[j]:=by
  have e3:its[j]? = some its[j]:=by simp [h']
  rw [e3] at e1
  cases e1
  simp
 rw [← this]
 exact e2
theorem aFd (I:bI X pins σ H s) (ch:cX C H):∀ (n:Nat) (d e:D) (r:Bool) (A:Around) (x y:V) (u v:Value),pZ d≤n→A.units+n<cLine→oP d e=some r→dD x u→dD y v→kM X.K C x d→kM X.K C y e→SeqAt.EqAt A s u v r:=by
 intro n
 induction n with
 | zero=>
  intro d e r A x y u v hn hu he rx ry nx ny
  cases d with
  | int i=>
   cases e with
   | int j=>
    rw [oP] at he
    cases he
    have z:=bB.mp nx
    have z2:=bB.mp ny
    subst z z2
    obtain ⟨t,rfl⟩:=rx
    obtain ⟨t',rfl⟩:=ry
    exact SeqAt.EqAt.int_int i t j t'
   | _=>cases he
  | bl i=>
   cases e with
   | bl j=>
    rw [oP] at he
    cases he
    have z:=dX.mp nx
    have z2:=dX.mp ny
    subst z z2
    cases rx
    cases ry
    exact SeqAt.EqAt.bool_bool i j
   | _=>cases he
  | str i=>
   cases e with
   | str j=>
    rw [oP] at he
    cases he
    have z:=iW.mp nx
    have z2:=iW.mp ny
    subst z z2
    obtain ⟨t,rfl⟩:=rx
    obtain ⟨t',rfl⟩:=ry
    exact SeqAt.EqAt.str_str i t j t'
   | _=>cases he
  | non=>
   cases e with
   | non=>
    rw [oP] at he
    cases he
    have z:=fD.mp nx
    have z2:=fD.mp ny
    subst z z2
    cases rx
    cases ry
    exact SeqAt.EqAt.same _
   | _=>cases he
  | tup ds=>rw [pZ] at hn;omega
  | lst ds=>rw [pZ] at hn;omega
 | succ n ih=>
  intro d e r A x y u v hn hu he rx ry nx ny
  cases d with
  | tup ds=>
   cases e with
   | tup es=>
    obtain ⟨a,xs,rfl,hx,hd⟩:=bV.mp nx
    obtain ⟨b,ys,rfl,hy,hee⟩:=bV.mp ny
    cases rx
    cases ry
    by_cases hab:a=b
    ·subst hab
     have q:=zM I ch _ _ nx ny
     rw [← q,mJ] at he
     cases he
     exact SeqAt.EqAt.same _
    ·refine SeqAt.EqAt.of_refs hab ?_
     rw [oP] at he
     cases e1:pQ ds es with
     | none=>rw [e1] at he;cases he
     | some r0=>
      rw [e1] at he
      obtain ⟨f,hf,hr⟩:=wA e1
      obtain ⟨its,r1,t1,_⟩:=I.tuple (ch.seqT hx)
      obtain ⟨its2,r2,t2,_⟩:=I.tuple (ch.seqT hy)
      have l1:its.toArray.size=ds.length:=by rw [List.size_toArray,← r1.length,hd.length]
      have l2:its2.toArray.size=es.length:=by rw [List.size_toArray,← r2.length,hee.length]
      have q:=SeqAt.RcAt.tuples (A:=A) (e:=f) t1 t2 (by omega) fun j h1 h2=>by
       obtain ⟨x',ex,rx'⟩:=pB r1 h1
       obtain ⟨y',ey,ry'⟩:=pB r2 h2
       have hj1:j<ds.length:=by omega
       have hj2:j<es.length:=by omega
       have ed:ds[j]? = some ds[j]:=by simp [hj1]
       have ee:es[j]? = some es[j]:=by simp [hj2]
       obtain ⟨x2,ex2,nx2⟩:=hd.get ed
       obtain ⟨y2,ey2,ny2⟩:=hee.get ee
       rw [ex] at ex2
       cases ex2
       rw [ey] at ey2
       cases ey2
       refine ih ds[j] es[j] (f j) A.in1 x' y' _ _ ?_ (by show A.units+1+n<cLine;omega) (hf j _ _ ed ee) rx' ry' nx2 ny2
       have:=tE ed
       rw [pZ] at hn
       omega
      rw [l1,l2] at q
      have er:r=((List.range (min ds.length es.length)).all f && ds.length == es.length):=by
       rw [← hr]
       exact (Option.some.inj he).symm
      rw [er]
      exact q
   | _=>cases he
  | lst ds=>
   cases e with
   | lst es=>
    obtain ⟨a,xs,rfl,hx,hd⟩:=cT.mp nx
    obtain ⟨b,ys,rfl,hy,hee⟩:=cT.mp ny
    cases rx
    cases ry
    by_cases hab:a=b
    ·subst hab
     have q:=zM I ch _ _ nx ny
     rw [← q,mJ] at he
     cases he
     exact SeqAt.EqAt.same _
    ·refine SeqAt.EqAt.of_refs hab ?_
     rw [oP] at he
     obtain ⟨its,r1,p1,_⟩:=I.list (ch.seq hx)
     obtain ⟨its2,r2,p2,_⟩:=I.list (ch.seq hy)
     have l1:its.toArray.size=ds.length:=by rw [List.size_toArray,← r1.length,hd.length]
     have l2:its2.toArray.size=es.length:=by rw [List.size_toArray,← r2.length,hee.length]
     by_cases hlen:ds.length=es.length
     ·rw [if_pos hlen] at he
      obtain ⟨f,hf,hr⟩:=wA he
      have q:=SeqAt.RcAt.lists (A:=A) (e:=f) p1.isList p2.isList (by rw [l1,l2];exact hlen) (by omega) fun j h1 h2=>by
       obtain ⟨x',ex,rx'⟩:=pB r1 h1
       obtain ⟨y',ey,ry'⟩:=pB r2 h2
       have hj1:j<ds.length:=by omega
       have hj2:j<es.length:=by omega
       have ed:ds[j]? = some ds[j]:=by simp [hj1]
       have ee:es[j]? = some es[j]:=by simp [hj2]
       obtain ⟨x2,ex2,nx2⟩:=hd.get ed
       obtain ⟨y2,ey2,ny2⟩:=hee.get ee
       rw [ex] at ex2
       cases ex2
       rw [ey] at ey2
       cases ey2
       refine ih ds[j] es[j] (f j) A.in1 x' y' _ _ ?_ (by show A.units+1+n<cLine;omega) (hf j _ _ ed ee) rx' ry' nx2 ny2
       have:=tE ed
       rw [pZ] at hn
       omega
      rw [l1] at q
      rw [hr,← hlen,Nat.min_self]
      exact q
     ·rw [if_neg hlen] at he
      cases he
      exact SeqAt.RcAt.lists_lengths p1.isList p2.isList (by rw [l1,l2];simpa using hlen) (by omega)
   | _=>cases he
  | int i=>exact ih (.int i) e r A x y u v (by simp [pZ]) (by omega) he rx ry nx ny
  | bl i=>exact ih (.bl i) e r A x y u v (by simp [pZ]) (by omega) he rx ry nx ny
  | non=>exact ih .non e r A x y u v (by simp [pZ]) (by omega) he rx ry nx ny
  | str i=>exact ih (.str i) e r A x y u v (by simp [pZ]) (by omega) he rx ry nx ny
theorem aJU (I:bI X pins σ H s) (ch:cX C H) (n:Nat) (d e:D) (r:Bool) (A:Around) (x y:V) (u v:Value) (hn:pZ d≤n) (hu:A.units+n<cLine) (he:oP d e=some r) (rx:dD x u) (ry:dD y v) (nx:kM X.K C x d) (ny:kM X.K C y e) :
  SeqAt.RcAt A s u v r∧SeqAt.RcNeAt A s u v (!r):=by
 cases d with
 | int i=>
  cases e with
  | int j=>
   rw [oP] at he
   cases he
   have z:=bB.mp nx
   have z2:=bB.mp ny
   subst z z2
   obtain ⟨t,rfl⟩:=rx
   obtain ⟨t',rfl⟩:=ry
   exact ⟨SeqAt.RcAt.int_int i t j t',SeqAt.RcNeAt.int_int i t j t'⟩
  | _=>cases he
 | bl i=>
  cases e with
  | bl j=>
   rw [oP] at he
   cases he
   have z:=dX.mp nx
   have z2:=dX.mp ny
   subst z z2
   cases rx
   cases ry
   exact ⟨SeqAt.RcAt.bool_bool i j,SeqAt.RcNeAt.bool_bool i j⟩
  | _=>cases he
 | str i=>
  cases e with
  | str j=>
   rw [oP] at he
   cases he
   have z:=iW.mp nx
   have z2:=iW.mp ny
   subst z z2
   obtain ⟨t,rfl⟩:=rx
   obtain ⟨t',rfl⟩:=ry
   exact ⟨SeqAt.RcAt.str_str i t j t',SeqAt.RcNeAt.str_str i t j t'⟩
  | _=>cases he
 | non=>
  cases e with
  | non=>
   rw [oP] at he
   cases he
   have z:=fD.mp nx
   have z2:=fD.mp ny
   subst z z2
   cases rx
   cases ry
   exact ⟨SeqAt.RcAt.none_none,SeqAt.RcNeAt.none_none⟩
  | _=>cases he
 | tup ds=>
  cases e with
  | tup es=>
   obtain ⟨a,xs,rfl,hx,hd⟩:=bV.mp nx
   obtain ⟨b,ys,rfl,hy,hee⟩:=bV.mp ny
   cases rx
   cases ry
   rw [oP] at he
   cases e1:pQ ds es with
   | none=>rw [e1] at he;cases he
   | some r0=>
    rw [e1] at he
    obtain ⟨f,hf,hr⟩:=wA e1
    obtain ⟨its,r1,t1,_⟩:=I.tuple (ch.seqT hx)
    obtain ⟨its2,r2,t2,_⟩:=I.tuple (ch.seqT hy)
    have l1:its.toArray.size=ds.length:=by rw [List.size_toArray,← r1.length,hd.length]
    have l2:its2.toArray.size=es.length:=by rw [List.size_toArray,← r2.length,hee.length]
    rw [pZ] at hn
    have hin:∀ j (h1:j<its.toArray.size) (h2:j<its2.toArray.size),SeqAt.EqAt A.in1 s its.toArray[j] its2.toArray[j] (f j):=fun j h1 h2=>by
     obtain ⟨x',ex,rx'⟩:=pB r1 h1
     obtain ⟨y',ey,ry'⟩:=pB r2 h2
     have hj1:j<ds.length:=by omega
     have hj2:j<es.length:=by omega
     have ed:ds[j]? = some ds[j]:=by simp [hj1]
     have ee:es[j]? = some es[j]:=by simp [hj2]
     obtain ⟨x2,ex2,nx2⟩:=hd.get ed
     obtain ⟨y2,ey2,ny2⟩:=hee.get ee
     rw [ex] at ex2
     cases ex2
     rw [ey] at ey2
     cases ey2
     have:=tE ed
     exact aFd I ch (n-1) ds[j] es[j] (f j) A.in1 x' y' _ _ (by omega) (by show A.units+1+(n-1)<cLine;omega) (hf j _ _ ed ee) rx' ry' nx2 ny2
    have q:=SeqAt.RcAt.tuples (A:=A) (e:=f) t1 t2 (by omega) hin
    have q':=SeqAt.RcNeAt.tuples (A:=A) (e:=f) t1 t2 (by omega) hin
    rw [l1,l2] at q q'
    have er:r=((List.range (min ds.length es.length)).all f && ds.length == es.length):=by
     rw [← hr]
     exact (Option.some.inj he).symm
    rw [er]
    exact ⟨q,q'⟩
  | _=>cases he
 | lst ds=>
  cases e with
  | lst es=>
   obtain ⟨a,xs,rfl,hx,hd⟩:=cT.mp nx
   obtain ⟨b,ys,rfl,hy,hee⟩:=cT.mp ny
   cases rx
   cases ry
   rw [oP] at he
   obtain ⟨its,r1,p1,_⟩:=I.list (ch.seq hx)
   obtain ⟨its2,r2,p2,_⟩:=I.list (ch.seq hy)
   have l1:its.toArray.size=ds.length:=by rw [List.size_toArray,← r1.length,hd.length]
   have l2:its2.toArray.size=es.length:=by rw [List.size_toArray,← r2.length,hee.length]
   rw [pZ] at hn
   by_cases hlen:ds.length=es.length
   ·rw [if_pos hlen] at he
    obtain ⟨f,hf,hr⟩:=wA he
    have hin:∀ j (h1:j<its.toArray.size) (h2:j<its2.toArray.size),SeqAt.EqAt A.in1 s its.toArray[j] its2.toArray[j] (f j):=fun j h1 h2=>by
     obtain ⟨x',ex,rx'⟩:=pB r1 h1
     obtain ⟨y',ey,ry'⟩:=pB r2 h2
     have hj1:j<ds.length:=by omega
     have hj2:j<es.length:=by omega
     have ed:ds[j]? = some ds[j]:=by simp [hj1]
     have ee:es[j]? = some es[j]:=by simp [hj2]
     obtain ⟨x2,ex2,nx2⟩:=hd.get ed
     obtain ⟨y2,ey2,ny2⟩:=hee.get ee
     rw [ex] at ex2
     cases ex2
     rw [ey] at ey2
     cases ey2
     have:=tE ed
     exact aFd I ch (n-1) ds[j] es[j] (f j) A.in1 x' y' _ _ (by omega) (by show A.units+1+(n-1)<cLine;omega) (hf j _ _ ed ee) rx' ry' nx2 ny2
    have q:=SeqAt.RcAt.lists (A:=A) (e:=f) p1.isList p2.isList (by rw [l1,l2];exact hlen) (by omega) hin
    have q':=SeqAt.RcNeAt.lists (A:=A) (e:=f) p1.isList p2.isList (by rw [l1,l2];exact hlen) (by omega) hin
    rw [l1] at q q'
    rw [hr,← hlen,Nat.min_self]
    exact ⟨q,q'⟩
   ·rw [if_neg hlen] at he
    cases he
    exact ⟨SeqAt.RcAt.lists_lengths p1.isList p2.isList (by rw [l1,l2];simpa using hlen) (by omega),SeqAt.RcNeAt.lists_lengths p1.isList p2.isList (by rw [l1,l2];simpa using hlen) (by omega)⟩
  | _=>cases he
end
section
variable {X:Cx}
def oEq:GO:=fun x y Q=>pZ x≤32∧match oP x y with
 | some b=>Q (.bl b)
 | none=>False
def yC:GO:=fun x y Q=>pZ x≤32∧match oP x y with
 | some b=>Q (.bl (!b))
 | none=>False
def aNQ (K:PySem.W.Frag) (neg:Bool):R2:=fun x y H R=>∃ C d e b,cX C H∧kM K C x d∧kM K C y e∧oP d e=some b∧pZ d≤32∧R (.bl (if neg then !b else b)) H
theorem rM (hu:X.A.units+64<cLine):DOp X (compareOp .Eq) oEq:=by
 refine ⟨aNQ X.K false,fun pins s σ H x y v u Q I rx ry h=>?_,fun x y dx dy C H Q R ch n1 n2 q k=>?_⟩
 ·obtain ⟨C,d,e,b,ch,nx,ny,he,hd,q⟩:=h
  exact (aJU I ch 32 d e b X.A x y v u hd (by omega) he rx ry nx ny).1 _ _ _ _ ⟨.bl b,H,I,rfl,q⟩
 ·obtain ⟨hd,q⟩:=q
  cases z:oP dx dy with
  | none=>rw [z] at q;exact q.elim
  | some b=>rw [z] at q;exact ⟨C,dx,dy,b,ch,n1,n2,z,hd,k _ _ C H q (eN.refl ch) (dX.mpr rfl)⟩
theorem nH (hu:X.A.units+64<cLine):DOp X (compareOp .NotEq) yC:=by
 refine ⟨aNQ X.K true,fun pins s σ H x y v u Q I rx ry h=>?_,fun x y dx dy C H Q R ch n1 n2 q k=>?_⟩
 ·obtain ⟨C,d,e,b,ch,nx,ny,he,hd,q⟩:=h
  exact (aJU I ch 32 d e b X.A x y v u hd (by omega) he rx ry nx ny).2 _ _ _ _ ⟨.bl (!b),H,I,rfl,q⟩
 ·obtain ⟨hd,q⟩:=q
  cases z:oP dx dy with
  | none=>rw [z] at q;exact q.elim
  | some b=>rw [z] at q;exact ⟨C,dx,dy,b,ch,n1,n2,z,hd,k _ _ C H q (eN.refl ch) (dX.mpr rfl)⟩
theorem aBR:∀ {us:List Value}{ns:List Int},IntsAre us ns→dR (ns.map V.int) us
 | _,_,.nil=>.nil
 | _,_,.cons _ t h=>.cons ⟨_,rfl⟩ (aBR h)
theorem aEX:lJ X (.builtin "sorted") (fun xs H Q=>∃ (p:Addr) (ns:List Int),xs=[.ref p]∧lI X.K H p (ns.map V.int)∧ns.length<64∧∀ ms:List Int,ms.Perm ns→ms.Pairwise (· ≤ ·)→∀ l,H l=none→Q (.ref l) (upd H l (.lst (ms.map V.int)))):=by
 intro pins s σ H xs us Q I r h
 obtain ⟨p,ns,rfl,hq,h64,q⟩:=h
 obtain ⟨u,rfl,rx⟩:=rN r
 cases rx
 obtain ⟨its,r',pl,hz⟩:=I.list hq
 have hlen:=r'.length
 rw [List.length_map] at hlen
 refine sorted_ints pl.isList (aFO r') (by omega) fun out ms a1 a2 a3=>?_
 obtain ⟨e,he⟩:=sortedAll_at s.heap its out
 have fr:H (s.heap.objs.size+1)=none:=I.hok.fresh (Nat.le_succ _)
 have hl2:(ms.map V.int).length≤sizeLine:=by
  rw [List.length_map,a2.length_eq]
  have:(64:Nat)≤sizeLine:=by decide
  omega
 refine ⟨.ref (s.heap.objs.size+1),_,I.laid (t':=s.toks) (o:=.lst (ms.map V.int)) (fun b ob z=>sortedAll_old z) (Nat.le_succ _) ⟨hl2,out.toList,e,aBR a1,?_⟩,rfl,q ms a2 a3 _ fr⟩
 rw [he]
def iE:List D→Option (List Int)
 | []=>some []
 | .int b::r=>(iE r).map (b :: ·)
 | _::_=>none
theorem kA:∀ {ds:List D}{bs:List Int},iE ds=some bs→ds=bs.map D.int
 | [],bs,h=>by cases h;rfl
 | .int b::r,bs,h=>by
  unfold iE at h
  cases e:iE r with
  | none=>rw [e] at h;cases h
  | some cs=>rw [e] at h;cases h;rw [List.map_cons,← kA e]
 | .bl _::_,_,h=>by cases h
 | .non::_,_,h=>by cases h
 | .str _::_,_,h=>by cases h
 | .tup _::_,_,h=>by cases h
 | .lst _::_,_,h=>by cases h
theorem h8 (bs:List Int):iE (bs.map D.int)=some bs:=by
 induction bs with
 | nil=>rfl
 | cons b bs ih=>rw [List.map_cons,iE,ih];rfl
theorem aB0 {K:PySem.W.Frag}{C:Hp} (ns:List Int):b9 K C (ns.map V.int) (ns.map D.int):=by
 induction ns with
 | nil=>exact .nil
 | cons n ns ih=>exact .cons (bB.mpr rfl) ih
def zH:List D→(List D→Prop)→Prop:=fun ds Q=>match ds with
 | [.lst xs]=>match iE xs with
  | some ns=>ns.length<64∧∀ ms:List Int,ms.Perm ns→ms.Pairwise (· ≤ ·)→Q (ms.map D.int)
  | none=>False
 | _=>False
theorem aHq:aIZ X (.builtin "sorted") zH:=by
 refine ⟨_,aEX,fun xs ds C H Q R ch n q k=>?_⟩
 unfold zH at q
 split at q
 ·split at q
  ·rename_i ns e
   obtain ⟨v,rfl,n1⟩:=j7 n
   obtain ⟨p,ys,rfl,hy,hd⟩:=cT.mp n1
   rw [kA e] at hd
   rw [hd.ints] at hy
   exact ⟨p,ns,rfl,ch.seq hy,q.1,fun ms a b l hl=>k _ l _ C _ (q.2 ms a b) (eN.newO ch hl) (ch.free hl) hl bR (aB0 ms)⟩
  ·exact q.elim
 ·exact q.elim
end
def At (h:Heap) (it src:Addr) (k:Nat) (xs:Array Value):Prop:=(h.IsListIter it src k∧h.IsList src xs)∨(h.IsTupleIter it src k∧h.IsTuple src xs)
theorem At.kept {h h':Heap}{it src:Addr}{k:Nat}{xs:Array Value} (a:At h it src k xs) (h1:∀ o,h.get? it=some o→h'.get? it=some o) (h2:∀ o,h.get? src=some o→h'.get? src=some o):At h' it src k xs:=by
 rcases a with ⟨⟨o,a,b⟩,⟨o',c,d⟩⟩ | ⟨⟨o,a,b⟩,⟨o',c,d⟩⟩
 ·exact .inl ⟨⟨o,h1 o a,b⟩,⟨o',h2 o' c,d⟩⟩
 ·exact .inr ⟨⟨o,h1 o a,b⟩,⟨o',h2 o' c,d⟩⟩
theorem At.but {h h':Heap}{it src b:Addr}{k:Nat}{xs:Array Value} (a:At h it src k xs) (hs:Heap.ExtBut b h h') (n1:it≠b) (n2:src≠b):At h' it src k xs:=
 a.kept (fun o e=>hs it o n1 e) fun o e=>hs src o n2 e
section
variable {prog:Program}{w:World}{A:Around}{E:Value→Shared→Prop}{s:Shared}
theorem zK {it src:Addr}{k:Nat}{xs:Array Value}{x:Value}{Q:Value→Shared→Prop} (a:At s.heap it src k xs) (ns:src≠it) (hx:xs[k]? = some x) (hQ:∀ h',At h' it src (k+1) xs→Heap.SameBut it s.heap h'→Q x { s with heap:=h' }) :
  wpAny (model prog w) A (Builtin.SmallTypes.nextOf (.ref it)) Q E s:=by
 rcases a with ⟨a,l⟩ | ⟨a,l⟩
 ·exact wpAny_nextOf_list_item a l hx fun h' a' sb=>hQ h' (.inl ⟨a',l.extBut sb.extBut ns⟩) sb
 ·obtain ⟨o,ho,hc,hd⟩:=id a
  obtain ⟨ol,hol,_,nl,hdl⟩:=id l
  unfold Builtin.SmallTypes.nextOf
  have sl:=F.slot_tuple_iterator_next
  refine wpAny_bind (wpAny_callSpecial?_slot (name:=Str.ofString "__next__") a.typeIs sl (wpAny_call_entry sl a.typeIs F.entry_tuple_iterator_next ?_ (F.args_tuple_iterator_next_1 _)))
  refine wpAny_bind (m:=field (.ref it) 0) (wpAny_field ho hd (x:=.ref src) rfl ?_)
  refine wpAny_ite_false (show (Value.ref src == Value.none)=false from rfl) ?_
  refine wpAny_bind (m:=field (.ref it) 1) (wpAny_field ho hd (x:=.int k 0) rfl ?_)
  refine wpAny_bind (m:=seqItems? (.ref src)) (wpAny_seqItems hol hdl ?_)
  simp only [Int.toNat_natCast,hx]
  refine wpAny_bind (wpAny_setField ho hd (by simp) (wpAny_pure ⟨x,rfl,wpAny_pure (hQ _ ?_ (Heap.SameBut.update ..))⟩))
  refine .inr ⟨⟨_,Heap.get?_update_self _ ho (Obj.isFreed_of_fields (Obj.data_mapFields hd _)),(Obj.cls_mapFields ..).trans hc,?_⟩,l.extBut (Heap.SameBut.update ..).extBut ns⟩
  rw [Obj.data_mapFields hd]
  simp [rawInt]
theorem aAS {it src:Addr}{k:Nat}{xs:Array Value}{Q:Value→Shared→Prop} (hh:A.handled=none) (a:At s.heap it src k xs) (hx:xs[k]? = none)
  (hE:∀ h' e,Heap.ExtBut it s.heap h'→(∃ o,h'.get? e=some o∧o.cls = .type "StopIteration")→E (.ref e) { s with heap:=h' }):wpAny (model prog w) A (Builtin.SmallTypes.nextOf (.ref it)) Q E s:=by
 rcases a with ⟨a,l⟩ | ⟨a,l⟩
 ·exact wpAny_nextOf_list_end hh a l hx hE
 ·obtain ⟨o,ho,hc,hd⟩:=id a
  obtain ⟨ol,hol,_,nl,hdl⟩:=id l
  unfold Builtin.SmallTypes.nextOf
  have sl:=F.slot_tuple_iterator_next
  refine wpAny_bind (wpAny_callSpecial?_slot (name:=Str.ofString "__next__") a.typeIs sl (wpAny_call_entry sl a.typeIs F.entry_tuple_iterator_next ?_ (F.args_tuple_iterator_next_1 _)))
  refine wpAny_bind (m:=field (.ref it) 0) (wpAny_field ho hd (x:=.ref src) rfl ?_)
  refine wpAny_ite_false (show (Value.ref src == Value.none)=false from rfl) ?_
  refine wpAny_bind (m:=field (.ref it) 1) (wpAny_field ho hd (x:=.int k 0) rfl ?_)
  refine wpAny_bind (m:=seqItems? (.ref src)) (wpAny_seqItems hol hdl ?_)
  simp only [Int.toNat_natCast,hx]
  refine wpAny_bind (wpAny_rule (wpAny_bind (wpAny_setField ho hd (by simp) ?_)))
  refine wpAny_bind (m:=newExc (.type "StopIteration") []) ?_
  simp only [newExc,newTuple]
  refine wpAny_bind (wpAny_newObj_type ?_ (by size_fits))
  refine wpAny_bind (m:=firstArgMember _ _) (wpAny_of_eq (a:=Value.none) (by first | rfl | (simp only [firstArgMember];rfl)) ?_)
  refine wpAny_newObj_type ?_ (by size_fits)
  simp only [raiseNew]
  refine wpAny_bind (wpAny_handled ?_)
  have hh':A.in1.handled=none:=hh
  rw [hh']
  refine wpAny_bind (wpAny_pure (wpAny_throw ?_))
  exact hE _ _ (((Heap.SameBut.update ..).extBut.push _).push _) ⟨_,Heap.get?_push_size _ rfl,rfl⟩
theorem aHH {z TI TO i1 i2 l1 l2:Addr}{k1 k2:Nat}{xs ys:Array Value}{x y a b:Value}{Q:Value→Shared→Prop} (D:ZipApart z TI TO i1 i2 l1 l2)
  (hz:IsZip s.heap z TI TO .none) (hTI:IsPair s.heap TI (.ref i1) (.ref i2)) (hTO:IsPair s.heap TO a b) (h1:At s.heap i1 l1 k1 xs) (h2:At s.heap i2 l2 k2 ys) (hx:xs[k1]? = some x) (hy:ys[k2]? = some y)
  (hQ:∀ h',IsZip h' z TI TO (rawInt s.heap.objs.size)→IsPair h' TO x y→At h' i1 l1 (k1+1) xs→At h' i2 l2 (k2+1) ys→IsPair h' s.heap.objs.size x y→h'.objs.size=s.heap.objs.size+1 →
   (∀ c o,c≠z→c≠TO→c≠i1→c≠i2→s.heap.get? c=some o→h'.get? c=some o)→Q (.ref s.heap.objs.size) { s with heap:=h' }) :
  wpAny (model prog w) A (Builtin.«zip.__next__» ⟨[.ref z],[]⟩) (fun fin s'=>∃ v,fin = .done (.ret v)∧Q v s') E s:=by
 refine wpAny_bind (m:=field (.ref z) 2) (wpAny_field hz rfl (x:=.bool false) rfl ?_)
 refine wpAny_bind (m:=field (.ref z) 3) (wpAny_field hz rfl (x:=.ref TI) rfl ?_)
 refine wpAny_bind (wpAny_seqItems hTI rfl ?_)
 refine wpAny_bind (m:=Builtin.SmallTypes.ownedTupleIsFree (.ref z)) ?_
 unfold Builtin.SmallTypes.ownedTupleIsFree
 refine wpAny_bind (wpAny_field hz rfl (x:=.none) rfl (wpAny_pure ?_))
 simp only [if_true]
 refine wpAny_bind (wpAny_rule ?_)
 refine wpAny_bind (wpAny_field hz rfl (x:=.ref TO) rfl ?_)
 refine wpAny_bind (wpAny_setField_rec hz (by simp) fun g1 hz1 sb1=>?_)
 replace hz1:IsZip g1 z TI TO .ellipsis:=hz1
 refine wpAny_bind ?_
 simp only [List.zipIdx_cons,List.zipIdx_nil,List.forIn_cons,List.forIn_nil]
 refine wpAny_bind (wpAny_bind (wpAny_onRaise ?_))
 refine wpAny_bind (m:=Builtin.SmallTypes.nextOf (.ref i1)) (zK (h1.but sb1.extBut D.i1z D.l1z) D.l1i1 hx fun g2 a2 sb2=>wpAny_pure ?_)
 have to2:IsPair g2 TO a b:=sb2.extBut _ _ D.TOi1 (sb1.extBut _ _ D.TOz hTO)
 refine wpAny_bind (wpAny_seqItems to2 rfl ?_)
 refine wpAny_bind (wpAny_updateSeq_pair to2 fun g3 to3 sb3=>?_)
 replace to3:IsPair g3 TO x b:=to3
 refine wpAny_bind (wpAny_letGo (wpAny_pure ?_))
 refine wpAny_bind (wpAny_bind (wpAny_onRaise ?_))
 have a2':At g3 i2 l2 k2 ys:=((h2.but sb1.extBut D.i2z D.l2z).but sb2.extBut D.i12.symm D.l2i1).but sb3.extBut D.TOi2.symm D.l2TO
 refine wpAny_bind (m:=Builtin.SmallTypes.nextOf (.ref i2)) (zK a2' D.l2i2 hy fun g4 a4 sb4=>wpAny_pure ?_)
 have to4:IsPair g4 TO x b:=sb4.extBut _ _ D.TOi2 to3
 refine wpAny_bind (wpAny_seqItems to4 rfl ?_)
 refine wpAny_bind (wpAny_updateSeq_pair to4 fun g5 to5 sb5=>?_)
 replace to5:IsPair g5 TO x y:=to5
 refine wpAny_bind (wpAny_letGo (wpAny_pure (wpAny_pure ?_)))
 refine wpAny_bind (wpAny_seqItems to5 rfl ?_)
 refine wpAny_bind (wpAny_newTuple ?_)
 have esz:g5.objs.size=s.heap.objs.size:=by rw [sb5.1,sb4.1,sb3.1,sb2.1,sb1.1]
 have z5:IsZip g5 z TI TO .ellipsis:=sb5.extBut _ _ D.TOz.symm (sb4.extBut _ _ D.i2z.symm (sb3.extBut _ _ D.TOz.symm (sb2.extBut _ _ D.i1z.symm hz1)))
 have k5:∀ c o,c≠z→c≠TO→c≠i1→c≠i2→s.heap.get? c=some o→g5.get? c=some o:=fun c o c1 c2 c3 c4 e=>
  sb5.extBut _ _ c2 (sb4.extBut _ _ c4 (sb3.extBut _ _ c2 (sb2.extBut _ _ c3 (sb1.extBut _ _ c1 e))))
 have a15:At g5 i1 l1 (k1+1) xs:=((a2.but sb3.extBut D.TOi1.symm D.l1TO).but sb4.extBut D.i12 D.l1i2).but sb5.extBut D.TOi1.symm D.l1TO
 have a25:At g5 i2 l2 (k2+1) ys:=a4.but sb5.extBut D.TOi2.symm D.l2TO
 have zlt:z<g5.objs.size:=Heap.lt_size z5
 refine wpAny_bind (m:=Builtin.SmallTypes.ownedTupleHandOut (.ref z) (.ref g5.objs.size)) ?_
 unfold Builtin.SmallTypes.ownedTupleHandOut
 have z6:IsZip (g5.push { cls:=.type "tuple",data:=.seq #[x,y] }) z TI TO .ellipsis:=Heap.get?_push_of_some _ z5
 refine wpAny_bind (wpAny_setField_rec z6 (by simp) fun g7 z7 sb7=>?_)
 replace z7:IsZip g7 z TI TO (rawInt g5.objs.size):=z7
 refine wpAny_setField_rec z7 (by simp) fun g8 z8 sb8=>?_
 replace z8:IsZip g8 z TI TO (rawInt g5.objs.size):=z8
 have up:∀ c o,c≠z→g5.get? c=some o→g8.get? c=some o:=fun c o c1 e=>sb8.extBut _ _ c1 (sb7.extBut _ _ c1 (Heap.get?_push_of_some _ e))
 have t8:IsPair g8 g5.objs.size x y:=sb8.extBut _ _ (Nat.ne_of_gt zlt) (sb7.extBut _ _ (Nat.ne_of_gt zlt) (Heap.get?_push_size _ rfl))
 have sz8:g8.objs.size=g5.objs.size+1:=by rw [sb8.1,sb7.1,Heap.size_push]
 rw [esz] at z8 t8 sz8
 refine wpAny_pure ⟨_,rfl,?_⟩
 show Q (.ref g5.objs.size) _
 rw [esz]
 exact hQ g8 z8 (up _ _ D.TOz to5) (a15.kept (fun o e=>up _ o D.i1z e) fun o e=>up _ o D.l1z e) (a25.kept (fun o e=>up _ o D.i2z e) fun o e=>up _ o D.l2z e) t8 sz8 fun c o c1 c2 c3 c4 e=>up c o c1 (k5 c o c1 c2 c3 c4 e)
theorem aJy {z TI TO i1 i2 l1 l2:Addr}{k1 k2:Nat}{xs ys:Array Value}{a b:Value}{Q:PySem.Fin→Shared→Prop} (hh:A.handled=none) (D:ZipApart z TI TO i1 i2 l1 l2)
  (hz:IsZip s.heap z TI TO .none) (hTI:IsPair s.heap TI (.ref i1) (.ref i2)) (hTO:IsPair s.heap TO a b) (h1:At s.heap i1 l1 k1 xs) (h2:At s.heap i2 l2 k2 ys) (hend:xs[k1]? = none∨ys[k2]? = none)
  (hE:∀ h' e,(∀ c o,c≠z→c≠TO→c≠i1→c≠i2→s.heap.get? c=some o→h'.get? c=some o)→(∃ o,h'.get? e=some o∧o.cls = .type "StopIteration")→E (.ref e) { s with heap:=h' }) :
  wpAny (model prog w) A (Builtin.«zip.__next__» ⟨[.ref z],[]⟩) Q E s:=by
 refine wpAny_bind (m:=field (.ref z) 2) (wpAny_field hz rfl (x:=.bool false) rfl ?_)
 refine wpAny_bind (m:=field (.ref z) 3) (wpAny_field hz rfl (x:=.ref TI) rfl ?_)
 refine wpAny_bind (wpAny_seqItems hTI rfl ?_)
 refine wpAny_bind (m:=Builtin.SmallTypes.ownedTupleIsFree (.ref z)) ?_
 unfold Builtin.SmallTypes.ownedTupleIsFree
 refine wpAny_bind (wpAny_field hz rfl (x:=.none) rfl (wpAny_pure ?_))
 simp only [if_true]
 refine wpAny_bind (wpAny_rule ?_)
 refine wpAny_bind (wpAny_field hz rfl (x:=.ref TO) rfl ?_)
 refine wpAny_bind (wpAny_setField_rec hz (by simp) fun g1 hz1 sb1=>?_)
 replace hz1:IsZip g1 z TI TO .ellipsis:=hz1
 refine wpAny_bind ?_
 simp only [List.zipIdx_cons,List.zipIdx_nil,List.forIn_cons,List.forIn_nil]
 refine wpAny_bind (wpAny_bind (wpAny_onRaise ?_))
 have a1:=h1.but sb1.extBut D.i1z D.l1z
 cases hx:xs[k1]? with
 | none=>
  refine wpAny_bind (m:=Builtin.SmallTypes.nextOf (.ref i1)) (aAS hh a1 hx fun g2 e sb2 he=>?_)
  obtain ⟨oe,hoe,hce⟩:=he
  have z2:IsZip g2 z TI TO .ellipsis:=sb2 _ _ D.i1z.symm hz1
  have hez:e≠z:=fun q=>by
   subst q
   rw [z2] at hoe
   cases hoe
   simp at hce
  exact wpAny_setField_rec z2 (by simp) fun g3 _ sb3=>hE g3 e (fun c o c1 _ c3 _ q=>sb3.extBut _ _ c1 (sb2 _ _ c3 (sb1.extBut _ _ c1 q))) ⟨oe,sb3.extBut _ _ hez hoe,hce⟩
 | some x=>
  have hy:ys[k2]? = none:=by
   rcases hend with h | h
   ·rw [hx] at h;cases h
   ·exact h
  refine wpAny_bind (m:=Builtin.SmallTypes.nextOf (.ref i1)) (zK a1 D.l1i1 hx fun g2 a2 sb2=>wpAny_pure ?_)
  have to2:IsPair g2 TO a b:=sb2.extBut _ _ D.TOi1 (sb1.extBut _ _ D.TOz hTO)
  refine wpAny_bind (wpAny_seqItems to2 rfl ?_)
  refine wpAny_bind (wpAny_updateSeq_pair to2 fun g3 to3 sb3=>?_)
  refine wpAny_bind (wpAny_letGo (wpAny_pure ?_))
  refine wpAny_bind (wpAny_bind (wpAny_onRaise ?_))
  have a2':At g3 i2 l2 k2 ys:=((h2.but sb1.extBut D.i2z D.l2z).but sb2.extBut D.i12.symm D.l2i1).but sb3.extBut D.TOi2.symm D.l2TO
  refine wpAny_bind (m:=Builtin.SmallTypes.nextOf (.ref i2)) (aAS hh a2' hy fun g4 e sb4 he=>?_)
  obtain ⟨oe,hoe,hce⟩:=he
  have z4:IsZip g4 z TI TO .ellipsis:=sb4 _ _ D.i2z.symm (sb3.extBut _ _ D.TOz.symm (sb2.extBut _ _ D.i1z.symm hz1))
  have hez:e≠z:=fun q=>by
   subst q
   rw [z4] at hoe
   cases hoe
   simp at hce
  exact wpAny_setField_rec z4 (by simp) fun g5 _ sb5=>hE g5 e (fun c o c1 c2 c3 c4 q=>sb5.extBut _ _ c1 (sb4 _ _ c4 (sb3.extBut _ _ c2 (sb2.extBut _ _ c3 (sb1.extBut _ _ c1 q))))) ⟨oe,sb5.extBut _ _ hez hoe,hce⟩
end
def Itz (K:PySem.W.Frag) (k1 k2:Bool) (a b:Addr):It:=
 ⟨fun i H=>∃ xs ys x y,(if k1 then lI K H a xs else kS K H a xs)∧(if k2 then lI K H b ys else kS K H b ys)∧xs[i]? = some x∧ys[i]? = some y,
 fun i H x H'=>∃ p,H p=none∧x = .ref p∧∀ xs ys,(if k1 then lI K H a xs else kS K H a xs)→(if k2 then lI K H b ys else kS K H b ys)→∃ u v,xs[i]? = some u∧ys[i]? = some v∧H'=upd H p (.tup [u,v]),
 fun i H=>∃ xs ys,(if k1 then lI K H a xs else kS K H a xs)∧(if k2 then lI K H b ys else kS K H b ys)∧(xs.length≤i∨ys.length≤i)⟩
def itk (kind:Bool) (h:Heap) (it src:Addr) (k:Nat):Prop:=if kind then h.IsListIter it src k else h.IsTupleIter it src k
def sqk (kind:Bool) (h:Heap) (src:Addr) (xs:Array Value):Prop:=if kind then h.IsList src xs else h.IsTuple src xs
theorem itk.kept {kind:Bool}{h h':Heap}{it src:Addr}{k:Nat} (a:itk kind h it src k) (e:∀ o,h.get? it=some o→h'.get? it=some o):itk kind h' it src k:=by
 cases kind with
 | true=>obtain ⟨o,h1,h2⟩:=a;exact ⟨o,e o h1,h2⟩
 | false=>obtain ⟨o,h1,h2⟩:=a;exact ⟨o,e o h1,h2⟩
theorem itk.at {kind:Bool}{h:Heap}{it src:Addr}{k:Nat}{xs:Array Value} (a:itk kind h it src k) (s:sqk kind h src xs):At h it src k xs:=by
 cases kind with
 | true=>exact .inl ⟨a,s⟩
 | false=>exact .inr ⟨a,s⟩
theorem itk.of {kind:Bool}{h:Heap}{it src:Addr}{k:Nat}{xs:Array Value} (a:At h it src k xs) (s:sqk kind h src xs):itk kind h it src k:=by
 rcases a with ⟨a,b⟩ | ⟨a,b⟩
 ·cases kind with
  | true=>exact a
  | false=>
   obtain ⟨o,h1,h2,_⟩:=b
   obtain ⟨o',h3,h4,_⟩:=(show h.IsTuple src xs from s)
   rw [h1] at h3
   cases h3
   rw [h2] at h4
   exact absurd h4 (by decide)
 ·cases kind with
  | false=>exact a
  | true=>
   obtain ⟨o,h1,h2,_⟩:=b
   obtain ⟨o',h3,h4,_⟩:=(show h.IsList src xs from s)
   rw [h1] at h3
   cases h3
   rw [h2] at h4
   exact absurd h4 (by decide)
theorem itk.obj {kind:Bool}{h:Heap}{it src:Addr}{k:Nat} (a:itk kind h it src k):∃ o,h.get? it=some o∧∀ v,o.data≠.cell v:=by
 cases kind with
 | true=>
  obtain ⟨o,h1,_,h2⟩:=a
  exact ⟨o,h1,fun v z=>by rw [h2] at z;cases z⟩
 | false=>
  obtain ⟨o,h1,_,h2⟩:=a
  exact ⟨o,h1,fun v z=>by rw [h2] at z;cases z⟩
theorem bI.sqk {X:Cx}{pins:List (Addr×Obj)}{σ:St}{H:Hp}{s:Shared}{a:Addr}{xs:List V}{kind:Bool} (I:bI X pins σ H s) (h:if kind then lI X.K H a xs else kS X.K H a xs):∃ its:List Value,dR xs its∧L2.sqk kind s.heap a its.toArray:=by
 cases kind with
 | true=>
  obtain ⟨its,r,pl,_⟩:=I.list h
  exact ⟨its,r,pl.isList⟩
 | false=>
  obtain ⟨its,r,pl,_⟩:=I.tuple h
  exact ⟨its,r,pl⟩
theorem bI.sq_inj {X:Cx}{pins:List (Addr×Obj)}{σ:St}{H:Hp}{s:Shared}{a:Addr}{xs ys:List V}{kind:Bool} (I:bI X pins σ H s) (h:if kind then lI X.K H a xs else kS X.K H a xs) (h':if kind then lI X.K H a ys else kS X.K H a ys):xs=ys:=by
 cases kind with
 | true=>exact I.list_inj h h'
 | false=>exact I.tuple_inj h h'
theorem bI.turnedT {X:Cx}{pins:List (Addr×Obj)}{σ:St}{H:Hp}{s:Shared}{h':Heap}{ch:List Addr}{p:Addr}{xs:List V}{us:List Value}{t':Nat} (I:bI X pins σ H s) (hf:∀ b∈ch,oQ X pins H b) (hp:s.heap.objs.size≤p)
  (k:∀ b o,b∉ch→s.heap.get? b=some o→h'.get? b=some o) (there:∀ b∈ch,∃ o,h'.get? b=some o) (r:dR xs us) (hx:xs.length≤sizeLine) (ht:IsTup h' p us.toArray):bI X pins σ (upd H p (.tup xs)) { s with heap:=h',toks:=t' }:=by
 have nit:∀ b u,H b=some u→b∉ch:=fun b u e z=>by rw [(hf b z).1] at e;cases e
 have fr:H p=none:=I.hok.fresh hp
 have np:∀ b o,s.heap.get? b=some o→b≠p:=fun b o e z=>absurd (Nat.lt_of_lt_of_le (Heap.lt_size e) (by rw [z];exact hp)) (Nat.lt_irrefl _)
 refine I.step (g':=s.gens) (d':=s.drawn) (ch:=ch) (fun b hb=>?_) (fun b o _ _ hc e _=>k b o hc e) (fun b o _ _ hc e _=>⟨o.slots,k b o hc e⟩) (fun b o _ e n=>by rw [aZ (np b o e)];exact n)
  (fun b o hc e=>⟨o,k b o hc e⟩) (fun b ys e=>by rw [aZ (bQ e fr)];exact e) (fun b o u e=>by rw [aZ (bQ e fr)];exact e) (fun b ps e=>⟨#[],by rw [aZ (bQ e fr),e];simp⟩) (fun m hm=>?_) (fun b u e=>?_) I.bare
 ·have q:=hf b hb
  exact ⟨q.2.2.2.1,q.2.1,q.2.2.2.2.1,q.2.2.2.2.2⟩
 ·obtain ⟨o,es,ep,ho,r⟩:=hm
  exact ⟨o,es,ep,k _ o (fun z=>(hf _ z).2.1 rfl) ho,r⟩
 ·by_cases hb:b=p
  ·subst hb
   rw [bR] at e
   cases e
   exact ⟨hx,us,r,ht⟩
  ·rw [aZ hb] at e
   refine (I.hok b u e).stay (fun c v hc q=>k c v ?_ q) (fun c q=>?_) (fun c ys q=>?_) fun c ob u q=>?_
   ·rcases hc with z | z
    ·rw [z];exact nit b u e
    ·exact nit c _ z
   ·rw [aZ (bQ q fr)];exact q
   ·rw [aZ (bQ q fr)];exact q
   ·rw [aZ (bQ q fr)];exact q
theorem bI.turnedM {X:Cx}{pins:List (Addr×Obj)}{σ:St}{H:Hp}{s:Shared}{h':Heap}{ch:List Addr}{t':Nat} (I:bI X pins σ H s) (hf:∀ b∈ch,oQ X pins H b) (k:∀ b o,b∉ch→s.heap.get? b=some o→h'.get? b=some o):bI X pins σ H { s with heap:=h',toks:=t' }:=by
 have nit:∀ b u,H b=some u→b∉ch:=fun b u e z=>by rw [(hf b z).1] at e;cases e
 refine I.step (g':=s.gens) (d':=s.drawn) (ch:=ch) (fun b hb=>?_) (fun b o _ _ hc e _=>k b o hc e) (fun b o _ _ hc e _=>⟨o.slots,k b o hc e⟩) (fun b o _ e n=>n)
  (fun b o hc e=>⟨o,k b o hc e⟩) (fun b ys e=>e) (fun b o u e=>e) (fun b ps e=>⟨#[],by rw [e];simp⟩) (fun m hm=>?_) (fun b u e=>?_) I.bare
 ·have q:=hf b hb
  exact ⟨q.2.2.2.1,q.2.1,q.2.2.2.2.1,q.2.2.2.2.2⟩
 ·obtain ⟨o,es,ep,ho,r⟩:=hm
  exact ⟨o,es,ep,k _ o (fun z=>(hf _ z).2.1 rfl) ho,r⟩
 ·refine (I.hok b u e).stay (fun c v hc q=>k c v ?_ q) (fun c q=>q) (fun c ys q=>q) fun c ob u q=>q
  rcases hc with z | z
  ·rw [z];exact nit b u e
  ·exact nit c _ z
def aJm (k1 k2:Bool) (z TI TO i1 i2 l1 l2:Addr) (i:Nat) (h:Heap):Prop:=IsZip h z TI TO .none∧IsPair h TI (.ref i1) (.ref i2)∧(∃ a b,IsPair h TO a b)∧itk k1 h i1 l1 i∧itk k2 h i2 l2 i
theorem aJJ {P:Program}{w:World}{K:PySem.W.Frag}{elts:List Expr}{x1:Nat}{pos:Pos} (k1 k2:Bool) (z TI TO i1 i2 l1 l2:Addr) (A:ZipApart z TI TO i1 i2 l1 l2) :
  aCM P w K (.Tuple elts x1 pos) (Itz K k1 k2 l1 l2) [z,TI,TO,i1,i2] z (aJm k1 k2 z TI TO i1 i2 l1 l2) where
 mem:=by simp
 obj:=fun i h st b hb=>by
  obtain ⟨hz,hTI,⟨a,c,hTO⟩,h1,h2⟩:=st
  simp only [List.mem_cons,List.not_mem_nil,or_false] at hb
  rcases hb with rfl | rfl | rfl | rfl | rfl
  ·exact ⟨_,hz,fun v q=>by cases (show Data.fields _=Data.cell v from q)⟩
  ·exact ⟨_,hTI,fun v q=>by cases (show Data.seq _ _=Data.cell v from q)⟩
  ·exact ⟨_,hTO,fun v q=>by cases (show Data.seq _ _=Data.cell v from q)⟩
  ·exact h1.obj
  ·exact h2.obj
 keep:=fun i h h' st k=>by
  obtain ⟨hz,hTI,⟨a,c,hTO⟩,h1,h2⟩:=st
  exact ⟨k z (by simp) _ hz,k TI (by simp) _ hTI,⟨a,c,k TO (by simp) _ hTO⟩,h1.kept fun o e=>k i1 (by simp) o e,h2.kept fun o e=>k i2 (by simp) o e⟩
 item:=by
  intro X hP hw hK hc i pins s σ H E I hf st hg
  subst hP hw hK
  obtain ⟨xs,ys,x,y,hx,hy,ex,ey⟩:=hg
  obtain ⟨hz,hTI,⟨a,c,hTO⟩,h1,h2⟩:=st
  obtain ⟨its,r1,q1⟩:=I.sqk hx
  obtain ⟨its2,r2,q2⟩:=I.sqk hy
  obtain ⟨u,eu,ru⟩:=r1.get ex
  obtain ⟨v,ev,rv⟩:=r2.get ey
  have hT:s.TypeIs (.ref z) "zip":=⟨_,hz,rfl⟩
  unfold pyNext
  have nx:=F.slot_zip_next
  refine wpAny_bind (wpAny_attempt (wpAny_callSpecial?_slot (name:=Str.ofString "__next__") hT nx (wpAny_call_entry nx hT F.entry_zip_next
   (aHH A hz hTI hTO (h1.at q1) (h2.at q2) (x:=u) (y:=v) (by simpa using eu) (by simpa using ev) fun h' z' to' a1 a2 t' sz kp=>wpAny_pure ?_) (F.args_zip_next_1 _))))
  refine ⟨.ref s.heap.objs.size,rfl,wpAny_letOwnedTupleGo_zip z' fun h2' z2 sb=>?_⟩
  have ltT:∀ b o,s.heap.get? b=some o→b≠s.heap.objs.size:=fun b o e=>Nat.ne_of_lt (Heap.lt_size e)
  have kp2:∀ b o,b∉[z,TI,TO,i1,i2]→s.heap.get? b=some o→h2'.get? b=some o:=fun b o hb e=>by
   simp only [List.mem_cons,List.not_mem_nil,or_false,not_or] at hb
   exact sb.extBut b o hb.1 (kp b o hb.1 hb.2.2.1 hb.2.2.2.1 hb.2.2.2.2 e)
  have zT:s.heap.objs.size≠z:=fun q=>ltT z _ hz q.symm
  have tT:IsPair h2' s.heap.objs.size u v:=sb.extBut _ _ zT t'
  have upz:∀ b o,b≠z→h'.get? b=some o→h2'.get? b=some o:=fun b o hb e=>sb.extBut b o hb e
  have q1':sqk k1 h' l1 its.toArray:=by
   cases k1 with
   | true=>obtain ⟨o,e,r⟩:=q1;exact ⟨o,kp l1 o A.l1z A.l1TO A.l1i1 A.l1i2 e,r⟩
   | false=>obtain ⟨o,e,r⟩:=q1;exact ⟨o,kp l1 o A.l1z A.l1TO A.l1i1 A.l1i2 e,r⟩
  have q2':sqk k2 h' l2 its2.toArray:=by
   cases k2 with
   | true=>obtain ⟨o,e,r⟩:=q2;exact ⟨o,kp l2 o A.l2z A.l2TO A.l2i1 A.l2i2 e,r⟩
   | false=>obtain ⟨o,e,r⟩:=q2;exact ⟨o,kp l2 o A.l2z A.l2TO A.l2i1 A.l2i2 e,r⟩
  have st':aJm k1 k2 z TI TO i1 i2 l1 l2 (i+1) h2':=
   ⟨z2,upz _ _ A.TIz (kp _ _ A.TIz A.TITO A.TIi1 A.TIi2 hTI),⟨u,v,upz _ _ A.TOz to'⟩,(itk.of a1 q1').kept fun o e=>upz _ o A.i1z e,(itk.of a2 q2').kept fun o e=>upz _ o A.i2z e⟩
  have fT:H s.heap.objs.size=none:=I.fresh
  refine ⟨.ref s.heap.objs.size,upd H s.heap.objs.size (.tup [x,y]),I.turnedT (t':=s.toks) (us:=[u,v]) hf (Nat.le_refl _) kp2 (fun b hb=>?_) (.cons ru (.cons rv .nil)) (by show 2≤sizeLine;decide) ⟨_,tT,rfl,_,rfl⟩,rfl,⟨_,fT,rfl,fun xs' ys' hx' hy'=>?_⟩,st',fun b hb=>?_⟩
  ·obtain ⟨z3,ti3,⟨a3,b3,to3⟩,i13,i23⟩:=st'
   simp only [List.mem_cons,List.not_mem_nil,or_false] at hb
   rcases hb with rfl | rfl | rfl | rfl | rfl
   ·exact ⟨_,z3⟩
   ·exact ⟨_,ti3⟩
   ·exact ⟨_,to3⟩
   ·obtain ⟨o,e,_⟩:=i13.obj;exact ⟨o,e⟩
   ·obtain ⟨o,e,_⟩:=i23.obj;exact ⟨o,e⟩
  ·have e1:=I.sq_inj hx' hx
   have e2:=I.sq_inj hy' hy
   subst e1 e2
   exact ⟨x,y,ex,ey,rfl⟩
  ·obtain ⟨o,e,_⟩:∃ o,s.heap.get? b=some o∧True:=by
    simp only [List.mem_cons,List.not_mem_nil,or_false] at hb
    rcases hb with rfl | rfl | rfl | rfl | rfl
    ·exact ⟨_,hz,trivial⟩
    ·exact ⟨_,hTI,trivial⟩
    ·exact ⟨_,hTO,trivial⟩
    ·obtain ⟨o,e,_⟩:=h1.obj;exact ⟨o,e,trivial⟩
    ·obtain ⟨o,e,_⟩:=h2.obj;exact ⟨o,e,trivial⟩
   rw [aZ (ltT b o e)]
   exact (hf b hb).1
 done:=by
  intro X hP hw hK hc i pins s σ H E I hf st hg
  subst hP hw hK
  obtain ⟨xs,ys,hx,hy,hend⟩:=hg
  obtain ⟨hz,hTI,⟨a,c,hTO⟩,h1,h2⟩:=st
  obtain ⟨its,r1,q1⟩:=I.sqk hx
  obtain ⟨its2,r2,q2⟩:=I.sqk hy
  have hT:s.TypeIs (.ref z) "zip":=⟨_,hz,rfl⟩
  have l1:=r1.length
  have l2:=r2.length
  unfold pyNext
  have nx:=F.slot_zip_next
  refine wpAny_bind (wpAny_attempt (wpAny_callSpecial?_slot (name:=Str.ofString "__next__") hT nx (wpAny_call_entry nx hT F.entry_zip_next
   (aJy (I.ok.hd hc) A hz hTI hTO (h1.at q1) (h2.at q2) ?_ fun h' e kp he=>?_) (F.args_zip_next_1 _))))
  ·rcases hend with z | z
   ·exact .inl (by simp;omega)
   ·exact .inr (by simp;omega)
  ·obtain ⟨o,ho,hcl⟩:=he
   refine wpAny_bind (wpAny_isInstance (T:="StopIteration") (b:=true) ⟨o,ho,hcl⟩ isSubtype_stop ?_)
   refine wpAny_pure ⟨rfl,I.turnedM (t':=s.toks) hf fun b o hb e=>?_⟩
   simp only [List.mem_cons,List.not_mem_nil,or_false,not_or] at hb
   exact kp b o hb.1 hb.2.2.1 hb.2.2.2.1 hb.2.2.2.2 e
 self:=fun _ _ _ _ _ st h=>wpAny_pyIter_zip st.1 h
def dW (kind:Bool) (l:Addr):Obj:={ cls:=.type (if kind then "list_iterator" else "tuple_iterator"),data:=.fields #[.ref l,.int 0 0] }
theorem mS {prog:Program}{w:World}{A:Around}{E:Value→Shared→Prop}{s:Shared}{kind:Bool}{l:Addr}{xs:Array Value}{Q:Value→Shared→Prop} (h:sqk kind s.heap l xs) (hQ:Q (.ref s.heap.objs.size) { s with heap:=s.heap.push (dW kind l) }):wpAny (model prog w) A (pyIter (.ref l)) Q E s:=by
 cases kind with
 | true=>exact wpAny_pyIter_list h hQ
 | false=>exact wpAny_pyIter_tuple h hQ
theorem sqk.push {kind:Bool}{h:Heap}{l:Addr}{xs:Array Value} (a:sqk kind h l xs) (o:Obj):sqk kind (h.push o) l xs:=by
 cases kind with
 | true=>exact Heap.IsList.push a o
 | false=>exact Heap.IsTuple.push a o
theorem itk.new {kind:Bool}{h:Heap}{l it:Addr} (e:h.get? it=some (dW kind l)):itk kind h it l 0:=by
 cases kind with
 | true=>exact ⟨_,e,rfl,rfl⟩
 | false=>exact ⟨_,e,rfl,rfl⟩
theorem aLc (k1 k2:Bool) (l1 l2:Addr) (xs ys:Array Value) :
  Meets (Builtin.«zip.__new__» ⟨[.type "zip",.ref l1,.ref l2],[]⟩) (fun _ R s=>sqk k1 s.heap l1 xs∧sqk k2 s.heap l2 ys ∧
   R (.ok (.ret (.ref ((((s.heap.push (dW k1 l1)).push (dW k2 l2)).push { cls:=.type "tuple",data:=.seq #[.ref s.heap.objs.size,.ref (s.heap.push (dW k1 l1)).objs.size] }).push { cls:=.type "tuple",data:=.seq #[.none,.none] }).objs.size)))
    { s with heap:=((((s.heap.push (dW k1 l1)).push (dW k2 l2)).push { cls:=.type "tuple",data:=.seq #[.ref s.heap.objs.size,.ref (s.heap.push (dW k1 l1)).objs.size] }).push { cls:=.type "tuple",data:=.seq #[.none,.none] }).push { cls:=.type "zip",data:=.fields #[.none,.bool false,.bool false,.ref ((s.heap.push (dW k1 l1)).push (dW k2 l2)).objs.size,.ref (((s.heap.push (dW k1 l1)).push (dW k2 l2)).push { cls:=.type "tuple",data:=.seq #[.ref s.heap.objs.size,.ref (s.heap.push (dW k1 l1)).objs.size] }).objs.size] } }):=
 .of_wp fun prog w A R s h=>by
  obtain ⟨hp,g,d,tk,os⟩:=s
  obtain ⟨hl1,hl2,h⟩:=h
  have hsub:=sub_zip
  have hL1:sqk k1 (Shared.heap ⟨hp,g,d,tk,os⟩) l1 xs:=hl1
  have hL2:sqk k2 (Shared.heap ⟨hp.push (dW k1 l1),g,d,tk,os⟩) l2 ys:=hl2.push _
  wp_walk using mS hL1,mS hL2
  exact ⟨_,rfl,h⟩
theorem aHM {prog:Program}{w:World}{A:Around}{E:Value→Shared→Prop}{s:Shared}{k1 k2:Bool}{l1 l2:Addr}{xs ys:Array Value}{Q:Value→Shared→Prop} (hl1:sqk k1 s.heap l1 xs) (hl2:sqk k2 s.heap l2 ys)
  (h:∀ h',aJm k1 k2 (s.heap.objs.size+4) (s.heap.objs.size+2) (s.heap.objs.size+3) s.heap.objs.size (s.heap.objs.size+1) l1 l2 0 h'→(∀ c o,s.heap.get? c=some o→h'.get? c=some o)→Q (.ref (s.heap.objs.size+4)) { s with heap:=h' }) :
  wpAny (model prog w) A (call (.type "zip") [.ref l1,.ref l2]) Q E s:=by
 refine callType_new F.called_zip (by decide) (F.typeCall_zip_2 _ _) (F.newCall_zip_2 _ _) (fun obj=>F.args_object_init_3 obj _ _) F.entry_zip_new (aLc k1 k2 l1 l2 xs ys) ⟨hl1,hl2,?_⟩
 generalize hh1:s.heap.push (dW k1 l1)=h1
 have s1:h1.objs.size=s.heap.objs.size+1:=by rw [← hh1,Heap.size_push]
 generalize hh2:h1.push (dW k2 l2)=h2
 have s2:h2.objs.size=s.heap.objs.size+2:=by rw [← hh2,Heap.size_push,s1]
 generalize hh3:h2.push { cls:=.type "tuple",data:=.seq #[.ref s.heap.objs.size,.ref h1.objs.size] }=h3
 have s3:h3.objs.size=s.heap.objs.size+3:=by rw [← hh3,Heap.size_push,s2]
 generalize hh4:h3.push { cls:=.type "tuple",data:=.seq #[.none,.none] }=h4
 have s4:h4.objs.size=s.heap.objs.size+4:=by rw [← hh4,Heap.size_push,s3]
 have g1:h1.get? s.heap.objs.size=some (dW k1 l1):=by rw [← hh1];exact Heap.get?_push_size _ (by rfl)
 have g2:h2.get? h1.objs.size=some (dW k2 l2):=by rw [← hh2];exact Heap.get?_push_size _ (by rfl)
 have g3:IsPair h3 h2.objs.size (.ref s.heap.objs.size) (.ref h1.objs.size):=by rw [← hh3];exact Heap.get?_push_size _ rfl
 have g4:IsPair h4 h3.objs.size .none .none:=by rw [← hh4];exact Heap.get?_push_size _ rfl
 have g5:=Heap.get?_push_size h4 (o:={ cls:=.type "zip",data:=.fields #[.none,.bool false,.bool false,.ref h2.objs.size,.ref h3.objs.size] }) rfl
 have u12:∀ c o,h1.get? c=some o→h2.get? c=some o:=fun c o e=>by rw [← hh2];exact Heap.get?_push_of_some _ e
 have u23:∀ c o,h2.get? c=some o→h3.get? c=some o:=fun c o e=>by rw [← hh3];exact Heap.get?_push_of_some _ e
 have u34:∀ c o,h3.get? c=some o→h4.get? c=some o:=fun c o e=>by rw [← hh4];exact Heap.get?_push_of_some _ e
 have u01:∀ c o,s.heap.get? c=some o→h1.get? c=some o:=fun c o e=>by rw [← hh1];exact Heap.get?_push_of_some _ e
 rw [s1] at g2 g3
 rw [s2] at g3 g5
 rw [s3] at g4 g5
 rw [s4] at g5
 rw [s2,s3,s4]
 refine ⟨⟨_,g5,rfl⟩,h _ ⟨g5,Heap.get?_push_of_some _ (u34 _ _ g3),⟨_,_,Heap.get?_push_of_some _ g4⟩,itk.new (Heap.get?_push_of_some _ (u34 _ _ (u23 _ _ (u12 _ _ g1)))),itk.new (Heap.get?_push_of_some _ (u34 _ _ (u23 _ _ g2)))⟩ fun c o e=>Heap.get?_push_of_some _ (u34 _ _ (u23 _ _ (u12 _ _ (u01 _ _ e))))⟩
section
variable {X:Cx}
def aON (K:PySem.W.Frag) (k1 k2:Bool) (ta:TA):TI:=fun σ H R=>ta σ H fun vs H1=>∃ p q xs ys,vs=[.ref p,.ref q]∧(if k1 then lI K H1 p xs else kS K H1 p xs)∧(if k2 then lI K H1 q ys else kS K H1 q ys)∧R (Itz K k1 k2 p q) H1
theorem aMp {a b:Expr}{ta:TA}{p pos pos':Pos}{elts:List Expr}{x1:Nat} (k1 k2:Bool) (hg:Gl X "zip") (hm:X.mg "zip"=none) (hbt:bootBuiltins "zip"=some (.type "zip")) (ha:PA X [a,b] ta) (hs:starEach [a,b] X.env=[(false,eval a X.env),(false,eval b X.env)]:=by rfl) (hs2:starEach [b] X.env=[(false,eval b X.env)]:=by rfl) :
  PI X (.Tuple elts x1 pos') (.Call (.Name "zip" p) [a,b] [] pos) (aON X.K k1 k2 ta):=by
 intro pins s σ H R I h
 refine Call_ (rB I hg hm hbt (PyProof.Rows.callWith_type1 (iA (ha pos pins s σ H _ I h) fun us s1 ⟨vs,H1,I1,r1,q1⟩=>?_) (by rw [hs,hs2]) (by rw [hs2];rfl)))
 obtain ⟨l1,l2,xs,ys,e,hx,hy,q⟩:=q1
 subst e
 cases r1 with
 | cons r rr=>
  cases rr with
  | cons r' rr=>
   cases rr
   cases r
   cases r'
   obtain ⟨its,v1,w1⟩:=I1.sqk hx
   obtain ⟨its2,v2,w2⟩:=I1.sqk hy
   have lt1:l1<s1.heap.objs.size:=by
    cases k1 with
    | true=>obtain ⟨o,e,_⟩:=w1;exact Heap.lt_size e
    | false=>obtain ⟨o,e,_⟩:=w1;exact Heap.lt_size e
   have lt2:l2<s1.heap.objs.size:=by
    cases k2 with
    | true=>obtain ⟨o,e,_⟩:=w2;exact Heap.lt_size e
    | false=>obtain ⟨o,e,_⟩:=w2;exact Heap.lt_size e
   refine aHM w1 w2 fun h' st kp=>?_
   refine wpAny_pyIter_zip st.1 ?_
   have I2:bI X pins σ H1 { s1 with heap:=h' }:=I1.kept (t':=s1.toks) kp
   generalize hn:s1.heap.objs.size=n at *
   have lt1':@LT.lt Nat _ l1 n:=lt1
   have lt2':@LT.lt Nat _ l2 n:=lt2
   have ap:ZipApart (n+4) (n+2) (n+3) n (n+1) l1 l2:=by constructor <;> (intro z;have z':@Eq Nat _ _:=z;omega)
   refine ⟨n+4,_,_,_,H1,rfl,I2,aJJ k1 k2 (n+4) (n+2) (n+3) n (n+1) l1 l2 ap,st,fun b hb=>?_,q⟩
   have hb':n≤b:=by
    simp only [List.mem_cons,List.not_mem_nil,or_false] at hb
    rcases hb with rfl | rfl | rfl | rfl | rfl <;> first | exact Nat.le_refl _ | exact Nat.le_add_right _ _
   exact I1.fpOk (by rw [hn];exact hb') (I1.hok.fresh (by rw [hn];exact hb'))
variable {a b c e:Expr}{es:List Expr}{pos:Pos}{ga gb:GE}
def aJH (ga gb:GE):GF:=fun δ Q=>ga δ fun d=>gb δ fun d2=>match d,d2 with
 | .tup xs,.tup ys=>Q (List.zipWith (fun x y=>D.tup [x,y]) xs ys)
 | _,_=>False
theorem aIy {K:PySem.W.Frag}{C1:Hp}{p q:Addr}{xs ys:List V}{ds es:List D} (hx:kS K C1 p xs) (hy:kS K C1 q ys) (hd:b9 K C1 xs ds) (he:b9 K C1 ys es):aD2 K (Itz K false false p q) (List.zipWith (fun x y=>D.tup [x,y]) ds es) C1:=by
 intro C2 H2 c1 c2 i
 have hx2:=c2.seqT (c1.seqT hx)
 have hy2:=c2.seqT (c1.seqT hy)
 refine ⟨fun d e=>?_,fun hl=>⟨xs,ys,hx2,hy2,?_⟩⟩
 ·rw [List.getElem?_zipWith] at e
  cases e1:ds[i]? with
  | none=>rw [e1] at e;cases e
  | some d1=>
   cases e2:es[i]? with
   | none=>rw [e1,e2] at e;cases e
   | some d2=>
    rw [e1,e2] at e
    cases e
    obtain ⟨v1,ev1,n1⟩:=hd.get e1
    obtain ⟨v2,ev2,n2⟩:=he.get e2
    refine ⟨⟨xs,ys,v1,v2,hx2,hy2,ev1,ev2⟩,fun x H3 y=>?_⟩
    obtain ⟨t,ht,rfl,k⟩:=y
    obtain ⟨u,v,eu,ev,rfl⟩:=k xs ys hx2 hy2
    rw [ev1] at eu
    cases eu
    rw [ev2] at ev
    cases ev
    refine ⟨upd C2 t (.tup [v1,v2]),eN.new c2 ht,bV.mpr ⟨t,_,rfl,kS.of bR,?_⟩⟩
    have up:=cX.upd (o:=.tup [v1,v2]) (c2.free ht)
    exact .cons ((n1.mono c1).mono up) (.cons ((n2.mono c1).mono up) .nil)
 ·rw [List.length_zipWith] at hl
  rw [hd.length,he.length]
  omega
theorem aLJ {p pos':Pos}{elts:List Expr}{x1:Nat} (hg:Gl X "zip") (hm:X.mg "zip"=none) (hbt:bootBuiltins "zip"=some (.type "zip")) (ha:DE X a ga) (hb:DE X b gb) (hs:starEach [a,b] X.env=[(false,eval a X.env),(false,eval b X.env)]:=by rfl) (hs2:starEach [b] X.env=[(false,eval b X.env)]:=by rfl) :
  DI X (.Tuple elts x1 pos') (.Call (.Name "zip" p) [a,b] [] pos) (aJH ga gb):=by
 obtain ⟨t1,p1,h1⟩:=ha
 obtain ⟨t2,p2,h2⟩:=hb
 refine ⟨_,aMp false false hg hm hbt (dO p1 (dO p2 gX hs2) (by rw [hs,hs2])) hs hs2,fun C0 H0 δ σ C H Q R rp g k=>h1 C0 H0 δ σ C H _ _ rp g fun d v C1 H1 q e1 n1=>h2 C0 H0 δ σ C1 H1 _ _ (rp.grow e1) q fun d2 v2 C2 H2 q2 e2 n2=>?_⟩
 have n1':=n1.mono e2.cc
 cases d with
 | tup ds=>
  cases d2 with
  | tup es=>
   obtain ⟨p,xs,rfl,hx,hd⟩:=bV.mp n1'
   obtain ⟨p',ys,rfl,hy,he⟩:=bV.mp n2
   exact ⟨p,p',xs,ys,rfl,e2.ch.seqT hx,e2.ch.seqT hy,k _ _ C2 H2 q2 (e1.trans e2) (aIy hx hy hd he)⟩
  | _=>exact q2.elim
 | _=>exact q2.elim
end
def aGl (o:Option (D→Prop)) (Q:D→Prop):Prop:=match o with
 | some p=>∀ d,p d→Q d
 | none=>False
def spR (K:PySem.W.Frag) (F:List D→Option (D→Prop)):Sp:=fun vs H Q _=>∃ C ds p,cX C H∧TB K C∧b9 K C vs ds∧F ds=some p∧∀ d v C' H',p d→eN C H C' H'→kM K C' v d→Q v H'
def aEz (P:Program) (w:World) (K:PySem.W.Frag) (mg:Str→Option Value) (base:Heap) (k:Nat) (x:Str) (F:List D→Option (D→Prop)):Prop:=
 ∃ f fd ps,vY P w K mg base kL k f fd ps (spR K F)∧mg x=some (.ref f)∧PySem.W.keepIn K (.ref f)=true∧qC K fd ps []
section
variable {X:Cx}{a b c e:Expr}{es:List Expr}{pos:Pos}{ga gb gc gd:GE}{gf:GF}{ta tb:GT}
def iV (F:List D→Option (D→Prop)) (gf:GF):GE:=fun δ Q=>gf δ fun ds=>aGl (F ds) Q
theorem mQ {F:List D→Option (D→Prop)}{k:Nat}{x:Str}{p:Pos} (h:aEz X.prog X.w X.K X.mg X.base k x F) (hr:cE k X.A) (hg:Gl X x) (ha:DA X (e::es) gf) (hdb:(x == ("__debug__":Str))=false:=by decide)
  (he:starEach (e::es) X.env=(false,eval e X.env)::starEach es X.env:=by rfl) (hpl:(backTo pos (starEach es X.env)).any (·.1)=false:=by rfl):DE X (.Call (.Name x p) (e::es) [] pos) (iV F gf):=by
 obtain ⟨f,fd,ps,Fk,hm,hk,hb⟩:=h
 obtain ⟨t,pa,h⟩:=ha
 refine ⟨_,zQ Fk hr hg hm hk hb .nil aJa pa hdb he hpl,fun C0 H0 δ σ C H Q R rp g k=>h C0 H0 δ σ C H _ _ rp g fun ds vs C1 H1 q e1 n1=>?_⟩
 cases e2:F ds with
 | none=>rw [e2] at q;exact q.elim
 | some p=>
  rw [e2] at q
  exact ⟨C1,ds,p,e1.ch,rp.tc.mono e1.cc,by rw [List.append_nil];exact n1,e2,fun d v C' H' hp ex nv=>k d v C' H' (q d hp) (e1.trans ex) nv⟩
theorem bJ {x:Str}{f:Value}{g:List D→(D→Prop)→Prop}{pos':Pos} (hc:xX X f g) (ha:DA X (e::es) gf)
  (hp:∀ {t:TA}{r:List V→Hp→VK→Prop},lJ X f r→PA X (e::es) t→PE X (.Call (.Name x pos') (e::es) [] pos) (tCB r t)):DE X (.Call (.Name x pos') (e::es) [] pos) (bN g gf):=by
 obtain ⟨r,pr,hr⟩:=hc
 obtain ⟨t,p,h⟩:=ha
 refine ⟨_,hp pr p,fun C0 H0 δ σ C H Q R rp g k=>h C0 H0 δ σ C H _ _ rp g fun ds vs C1 H1 q e1 n1=>?_⟩
 exact hr vs ds C1 H1 Q R e1.ch n1 q fun d v C2 H2 q2 e2 n2=>k d v C2 H2 q2 (e1.trans e2) n2
theorem cH {scope sc:Scope}{N Nc:List Str}{fr:List (Option Nat)} (h1:X.env.scope=sc) (h2:X.N=N) (h:m8 sc scope N Nc fr=true):m8 X.env.scope scope X.N Nc fr=true:=by rw [h1,h2];exact h
end
theorem fnR {P:Program}{w:World}{K:PySem.W.Frag}{mg:Str→Option Value}{base:Heap}{x qual:Str}{st:Stmt}{f:Addr}{fd:FuncData}{N ps:List Str}{k:Nat}{F:List D→Option (D→Prop)}{g:GS} (Fn:Fun K x qual st f fd) (S:bA N ps (aD st))
  (hl:∀ ds p,F ds=some p→ds.length=ps.length)
  (hb:∀ (cdv:Value) (A:Around) (outer:List Env) (s:Shared) (H:Hp) (E:XK),cE k (A.deeper (envOfC qual (aD st) s.heap.objs.size f cdv))→j2 (dZ kL P w K mg base N qual (aD st) f cdv A outer s H E).nox (aS st) g)
  (hv:∀ ds p,F ds=some p→g { nx:=fun _=>p .non,rt:=p } (bH N ds)) (hm:mg x=some (.ref f)) (bi:qC K fd ps []):aEz P w K mg base (k+1) x F:=by
 refine ⟨f,fd,ps,Fn.ok S (fun vs H Q E h=>?_) (fun cdv A outer s H vs Q E hr h=>?_),hm,Fn.kp,bi⟩
 ·obtain ⟨C,ds,p,_,_,n,e,_⟩:=h
  rw [n.length]
  exact hl ds p e
 ·obtain ⟨C,ds,pd,ch,tb,n,e,q⟩:=h
  obtain ⟨t,p,h⟩:=hb cdv A outer s H E hr
  refine ⟨t,p,h C H (bH N ds) (mH N vs) C H _ _ (qI ch tb n) (hv ds pd e) ⟨fun δ σ C' H' rp z=>?_,fun r v C' H' ex nv z=>?_,fun _ _ _ _ _ z=>z.elim,fun _ _ _ _ _ z=>z.elim⟩⟩
  ·exact q .non _ C' H' z rp.ext (fD.mpr rfl)
  ·exact q r v C' H' z ex nv
theorem jX:bootBuiltins "len"=some (.builtin "len"):=by decide +kernel
theorem aCS:bootBuiltins "abs"=some (.builtin "abs"):=by decide +kernel
theorem aHb:bootBuiltins "sorted"=some (.builtin "sorted"):=by decide +kernel
theorem aBF:bootBuiltins "isinstance"=some (.builtin "isinstance"):=by decide +kernel
theorem eO:bootBuiltins "tuple"=some (.type "tuple"):=by decide +kernel
theorem aMB:bootBuiltins "int"=some (.type "int"):=by decide +kernel
theorem aMs:bootBuiltins "zip"=some (.type "zip"):=by decide +kernel
@[reducible] def aE (ns:List Int):D:=.tup (ns.map D.int)
def dN (rows:List (List Int)) (m:Int):List (List Int):=rows.flatMap fun r=>(List.range m.toNat).map fun (k:Nat)=>r++[(k:Int)]
def aM (ns:List Int):List (List Int):=ns.foldl dN [[]]
def eL (ns:List Int):Bool:=decide (ns.length≤3) && ns.all fun n=>decide (1≤n) && decide (n≤3)
def mG (ds:List D) (f:List Int→D):Option D:=match iE ds with
 | some ns=>if eL ns=true then some (f ns) else none
 | none=>none
def eW:List D→Option D
 | [.int a,.int b]=>some (.int (Int.gcd a b))
 | _=>none
def lV:List D→Option D
 | [.tup ds]=>mG ds fun ns=>.tup ((aM ns).map aE)
 | _=>none
def iO:List D→Option D
 | [.tup [.tup ds,_]]=>mG ds fun ns=>.tup ((aM ns).map aE)
 | _=>none
def cF:List D→Option D
 | [.tup ds]=>mG ds fun ns=>.lst ((aM ns).map aE)
 | _=>none
def eG:List D→Option D
 | [.lst ds,.int k]=>match iE ds with
  | some ns=>if 0≤k then some (.int (ns.getD k.toNat 0)) else none
  | none=>none
 | _=>none
def rO (c p m:Int):Int:=c * 48271 % p % m
def d7:List D→Option D
 | [.int c,.int p,.int m]=>if 0<p∧0<m then some (.int (rO c p m)) else none
 | _=>none
structure aY (ns:List Int) (pay:List (List Int)):Prop where
 two:2≤ns.length
 ok:eL ns=true
 many:pay.length=(aM ns).length
 rows:∀ r∈pay,r.length=ns.length∧∀ x∈r, -9≤x∧x≤9
@[reducible] def aU (ns:List Int) (pay:List (List Int)):D:=.tup [aE ns,.tup (pay.map aE)]
def cB:List D→Option (D→Prop)
 | [.int c]=>some fun d=>∃ ns pay,d=aU ns pay∧aY ns pay∧(c % 3=0→ns=[2,2])
 | _=>none
def zW (c:Int):Int:=2+rO c 9929 29
def aJc (c:Int):Int:=if c % 4=0 then zW c-1 else 1+rO c 9923 (zW c-1)
def aEm (c:Int):Rat:=Rat.divInt (aJc c) (zW c)
def eD:List D→Option D
 | [.int c]=>some (.tup [.int (aEm c).num,.int ((aEm c).den:Int)])
 | _=>none
@[reducible] def fN (pl:List (List Int×List Int)):D:=.tup (pl.map fun s=>.tup [aE s.1,aE s.2])
def yK:List D→Option (D→Prop)
 | [.lst ds]=>match iE ds with
  | some _=>some fun d=>d = .bl true
  | none=>none
 | _=>none
theorem n4 (rows:List (List Int)) (m:Int):(dN rows m).length=rows.length * m.toNat:=by
 unfold dN
 induction rows with
 | nil=>simp
 | cons r rows ih=>rw [List.flatMap_cons,List.length_append,ih,List.length_map,List.length_range,List.length_cons,Nat.succ_mul,Nat.add_comm]
theorem aAd (a b:List (List Int)) (m:Int):dN (a++b) m=dN a m++dN b m:=by
 unfold dN
 rw [List.flatMap_append]
theorem aDw (r:List Int) (m:Int):dN [r] m=(List.range m.toNat).map fun (k:Nat)=>r++[(k:Int)]:=by
 unfold dN
 simp
theorem oC (ns:List Int) (m:Int):aM (ns++[m])=dN (aM ns) m:=by
 unfold aM
 rw [List.foldl_append]
 rfl
def aAH (ns r:List Int):Prop:=r.length=ns.length∧∀ (i:Nat) (x n:Int),r[i]? = some x→ns[i]? = some n→0≤x∧x<n
theorem aE7 {ns r:List Int}{m k:Int} (h:aAH ns r) (h0:0≤k) (h1:k<m):aAH (ns++[m]) (r++[k]):=by
 refine ⟨by simp [h.1],fun i x n e1 e2=>?_⟩
 by_cases hi:i<r.length
 ·rw [List.getElem?_append_left hi] at e1
  rw [List.getElem?_append_left (by rw [← h.1];exact hi)] at e2
  exact h.2 i x n e1 e2
 ·rw [List.getElem?_append_right (by omega)] at e1
  rw [List.getElem?_append_right (by rw [← h.1];omega)] at e2
  rw [h.1] at e1
  cases hj:i-ns.length with
  | zero=>
   rw [hj] at e1 e2
   cases e1
   cases e2
   exact ⟨h0,h1⟩
  | succ j=>
   rw [hj] at e1
   simp at e1
theorem aDF:∀ (ms:List Int),∀ r∈aM ms.reverse,aAH ms.reverse r
 | [],r,h=>by
  have:r=[]:=by simpa [aM] using h
  subst this
  exact ⟨rfl,fun i x n e=>by simp at e⟩
 | m::ms,r,h=>by
  rw [List.reverse_cons,oC] at h
  rw [List.reverse_cons]
  unfold dN at h
  obtain ⟨r0,h0,h1⟩:=List.mem_flatMap.mp h
  obtain ⟨k,hk,rfl⟩:=List.mem_map.mp h1
  have hk':=List.mem_range.mp hk
  exact aE7 (aDF ms r0 h0) (by omega) (by omega)
theorem wL {ns r:List Int} (h:r∈aM ns):aAH ns r:=by
 have:=aDF ns.reverse r (by rw [List.reverse_reverse];exact h)
 rwa [List.reverse_reverse] at this
theorem vL {ns:List Int} (h:eL ns=true) (i:Nat):eL (ns.take i)=true:=by
 unfold eL at h ⊢
 rw [Bool.and_eq_true,decide_eq_true_eq,List.all_eq_true] at h ⊢
 exact ⟨by rw [List.length_take];omega,fun x hx=>h.2 x (List.mem_of_mem_take hx)⟩
theorem bU {ns:List Int} (h:eL ns=true):ns.length≤3∧∀ n∈ns,1≤n∧n≤3:=by
 unfold eL at h
 rw [Bool.and_eq_true,decide_eq_true_eq,List.all_eq_true] at h
 refine ⟨h.1,fun n hn=>?_⟩
 have:=h.2 n hn
 simpa using this
theorem v7:∀ (ms:List Int),(∀ n∈ms,1≤n∧n≤3)→1≤(aM ms.reverse).length∧(aM ms.reverse).length≤3 ^ ms.length
 | [],_=>by simp [aM]
 | m::ms,h=>by
  rw [List.reverse_cons,oC,n4,List.length_cons,Nat.pow_succ]
  obtain ⟨h1,h2⟩:=v7 ms fun n hn=>h n (List.mem_cons_of_mem _ hn)
  obtain ⟨h3,h4⟩:=h m List.mem_cons_self
  have h5:1≤m.toNat:=by omega
  have h6:m.toNat≤3:=by omega
  exact ⟨Nat.mul_le_mul h1 h5,Nat.mul_le_mul h2 h6⟩
theorem j4 {ns:List Int} (h:eL ns=true):1≤(aM ns).length∧(aM ns).length≤27:=by
 obtain ⟨h1,h2⟩:=bU h
 have q:=v7 ns.reverse fun n hn=>h2 n (List.mem_reverse.mp hn)
 rw [List.reverse_reverse,List.length_reverse] at q
 refine ⟨q.1,Nat.le_trans q.2 ?_⟩
 exact Nat.le_trans (Nat.pow_le_pow_right (n:=3) (by decide) h1) (by decide)
theorem uR {ds:List D}{f:List Int→D}{d:D} (h:mG ds f=some d):∃ ns,ds=ns.map D.int∧eL ns=true∧d=f ns:=by
 unfold mG at h
 split at h
 ·rename_i ns e
  split at h
  ·rename_i ho
   cases h
   exact ⟨ns,kA e,ho,rfl⟩
  ·cases h
 ·cases h
theorem uE {ns:List Int} (f:List Int→D) (h:eL ns=true):mG (ns.map D.int) f=some (f ns):=by
 unfold mG
 rw [h8]
 simp [h]
def aO (K:PySem.W.Frag) (mg:Str→Option Value) (x:Str) (st:Stmt) (ps:List Str):Prop:=∃ f fd,Fun K x x st f fd∧mg x=some (.ref f)∧qC K fd ps []
theorem aIN {K:PySem.W.Frag}{h:Heap}{mg:Str→Option Value}{x:Str}{st:Stmt}{ps:List Str}{f:Addr}{od an:Option Addr}{sl:Array (Option Value)}{oc kV dc pm cd ct:Value} (X:K.In h) (G:h.Ns mainGlobals mg)
  (a:PySem.W.nsIn K mainGlobals x=some (some (.ref f))) (l:K.lookup f=some ⟨oc,od,.func (PySem.W.fnOf x x (lF st) (aS st) (aD st) .none kV dc pm an cd ct),sl⟩) (c:PySem.W.codeIn K cd x=true) (k:PySem.W.keepIn K (.ref f)=true)
  (hb:∀ (kV doc pm:Value) (an:Option Addr) (cdv ct:Value) (us:List Value),us.length=ps.length→bindArgs (PySem.W.fnOf x x (lF st) (aS st) (aD st) .none kV doc pm an cdv ct) ⟨us,[]⟩=pure (ps.zip us)):aO K mg x st ps:=
 ⟨f,_,aFS (st:=st) l c k,PySem.W.mg_of X G a,(aFS (st:=st) l c k).binds hb⟩
theorem aOG {P:Program}{w:World}{K:PySem.W.Frag}{mg:Str→Option Value}{base:Heap}{x qual:Str}{st:Stmt}{f:Addr}{fd:FuncData}{N ps:List Str}{k:Nat}{F:List D→Option (D→Prop)}{g:GS} (Fn:Fun K x qual st f fd) (S:bA N ps (aD st))
  (hl:∀ ds p,F ds=some p→ds.length=ps.length)
  (hb:∀ (cdv:Value) (A:Around) (outer:List Env) (s:Shared) (H:Hp) (E:XK),cE k (A.deeper (envOfC qual (aD st) s.heap.objs.size f cdv))→j2 (dZ kL P w K mg base N qual (aD st) f cdv A outer s H E).nox (aS st) g)
  (hv:∀ ds p,F ds=some p→g { nx:=fun _=>p .non,rt:=p } (bH N ds)):vY P w K mg base kL (k+1) f fd ps (spR K F):=by
 refine Fn.ok S (fun vs H Q E h=>?_) (fun cdv A outer s H vs Q E hr h=>?_)
 ·obtain ⟨C,ds,p,_,_,n,e,_⟩:=h
  rw [n.length]
  exact hl ds p e
 ·obtain ⟨C,ds,pd,ch,tb,n,e,q⟩:=h
  obtain ⟨t,p,h⟩:=hb cdv A outer s H E hr
  refine ⟨t,p,h C H (bH N ds) (mH N vs) C H _ _ (qI ch tb n) (hv ds pd e) ⟨fun δ σ C' H' rp z=>?_,fun r v C' H' ex nv z=>?_,fun _ _ _ _ _ z=>z.elim,fun _ _ _ _ _ z=>z.elim⟩⟩
  ·exact q .non _ C' H' z rp.ext (fD.mpr rfl)
  ·exact q r v C' H' z ex nv
theorem us1 {P:List Value→Prop} (h:∀ a,P [a]):∀ us:List Value,us.length=1→P us
 | [a],_=>h a
theorem us2 {P:List Value→Prop} (h:∀ a b,P [a,b]):∀ us:List Value,us.length=2→P us
 | [a,b],_=>h a b
theorem us3 {P:List Value→Prop} (h:∀ a b c,P [a,b,c]):∀ us:List Value,us.length=3→P us
 | [a,b,c],_=>h a b c
theorem us4 {P:List Value→Prop} (h:∀ a b c d,P [a,b,c,d]):∀ us:List Value,us.length=4→P us
 | [a,b,c,d],_=>h a b c d
theorem us5 {P:List Value→Prop} (h:∀ a b c d e,P [a,b,c,d,e]):∀ us:List Value,us.length=5→P us
 | [a,b,c,d,e],_=>h a b c d e
theorem us6 {P:List Value→Prop} (h:∀ a b c d e f,P [a,b,c,d,e,f]):∀ us:List Value,us.length=6→P us
 | [a,b,c,d,e,f],_=>h a b c d e f
def wI (x:D):List D→Option (List Bool)
 | []=>some []
 | y::ys=>match oP y x,wI x ys with
  | some a,some b=>some (a::b)
  | _,_=>none
theorem aGn {x:D}:∀ {ds:List D}{bs:List Bool},wI x ds=some bs→bs.length=ds.length∧∀ (j:Nat) d,ds[j]? = some d→∃ b,bs[j]? = some b∧oP d x=some b
 | [],bs,h=>by
  cases h
  exact ⟨rfl,fun j d e=>by simp at e⟩
 | y::ys,bs,h=>by
  unfold wI at h
  cases e1:oP y x with
  | none=>rw [e1] at h;cases h
  | some a=>
   cases e2:wI x ys with
   | none=>rw [e1,e2] at h;cases h
   | some b=>
    rw [e1,e2] at h
    cases h
    obtain ⟨h1,h2⟩:=aGn e2
    refine ⟨by simp [h1],fun j d e=>?_⟩
    cases j with
    | zero=>cases e;exact ⟨a,rfl,e1⟩
    | succ j=>exact h2 j d e
section
variable {X:Cx}{pins:List (Addr×Obj)}{σ:St}{H C:Hp}{s:Shared}
open Classical in
noncomputable def aA7 (K:PySem.W.Frag) (C:Hp) (x:D) (u:Value):Bool:=decide (∃ z d,dD z u∧kM K C z d∧oP d x=some true)
open Classical in
theorem qA (I:bI X pins σ H s) (ch:cX C H) {A:Around}{dx:D}{x:V}{v:Value}{xs:List V}{its:List Value}{ds:List D}{bs:List Bool} (hu:A.units+32<cLine) (hd:k8 ds≤32) (rx:dD x v) (nx:kM X.K C x dx)
  (r:dR xs its) (n:b9 X.K C xs ds) (h:wI dx ds=some bs):(∀ y∈its,SeqAt.EqAt A s y v (aA7 X.K C dx y))∧its.map (aA7 X.K C dx)=bs:=by
 obtain ⟨h1,h2⟩:=aGn h
 have key:∀ (j:Nat) y,its[j]? = some y→∃ b,bs[j]? = some b∧aA7 X.K C dx y=b∧SeqAt.EqAt A s y v b:=by
  intro j y e
  have hj:j<its.length:=(List.getElem?_eq_some_iff.mp e).1
  have hl:=r.length
  have hl2:=n.length
  have ed:ds[j]? = some (ds[j]'(by omega)):=List.getElem?_eq_getElem _
  obtain ⟨z,ez,nz⟩:=n.get ed
  obtain ⟨y',ey,ry⟩:=r.get ez
  rw [e] at ey
  cases ey
  obtain ⟨b,eb,q⟩:=h2 j _ ed
  refine ⟨b,eb,?_,aFd I ch 32 _ dx b A z x y v (Nat.le_trans (tE ed) hd) hu q ry rx nz nx⟩
  cases b with
  | true=>
   unfold aA7
   exact decide_eq_true ⟨z,_,ry,nz,q⟩
  | false=>
   unfold aA7
   refine decide_eq_false fun ⟨z',d',r',n',q'⟩=>?_
   have e1:=r'.inj ry
   subst e1
   have e2:=zM I ch _ _ n' nz
   subst e2
   rw [q] at q'
   cases q'
 refine ⟨fun y hy=>?_,?_⟩
 ·obtain ⟨j,hj,rfl⟩:=List.mem_iff_getElem.mp hy
  obtain ⟨b,_,e,q⟩:=key j _ (List.getElem?_eq_getElem hj)
  rw [e];exact q
 ·refine List.ext_getElem? fun j=>?_
  rw [List.getElem?_map]
  cases e:its[j]? with
  | none=>
   have:its.length≤j:=List.getElem?_eq_none_iff.mp e
   have hl:=r.length
   have hl2:=n.length
   exact (List.getElem?_eq_none_iff.mpr (by omega)).symm
  | some y=>
   obtain ⟨b,eb,e2,_⟩:=key j y e
   rw [eb,Option.map_some,e2]
end
section
variable {X:Cx}{a b c e o:Expr}{es:List Expr}{pos:Pos}{ga gb gc gd:GE}{gf:GF}
def nI:D→Option (List D)
 | .tup ds=>some ds
 | .lst ds=>some ds
 | _=>none
def oIn:GO:=fun x y Q=>match nI y with
 | some ds=>k8 ds≤32∧match wI x ds with
  | some bs=>Q (.bl (bs.any id))
  | none=>False
 | none=>False
def t6:GO:=fun x y Q=>match nI y with
 | some ds=>k8 ds≤32∧match wI x ds with
  | some bs=>Q (.bl (!bs.any id))
  | none=>False
 | none=>False
def aN4 (K:PySem.W.Frag) (neg:Bool):R2:=fun x y H R=>∃ C dx p xs ds bs,cX C H∧kM K C x dx∧y = .ref p∧(lI K H p xs∨kS K H p xs)∧b9 K C xs ds∧k8 ds≤32∧wI dx ds=some bs∧R (.bl (if neg then !bs.any id else bs.any id)) H
theorem zS (its:List Value) (f:Value→Bool):its.toArray.any f=(its.map f).any id:=by
 simp [List.any_map,Function.comp_def]
theorem aCD {K:PySem.W.Frag}{C H:Hp}{v:V}{y:D}{ds:List D} (ch:cX C H) (n:kM K C v y) (e:nI y=some ds):∃ p xs,v = .ref p∧(lI K H p xs∨kS K H p xs)∧b9 K C xs ds:=by
 cases y with
 | tup ys=>cases e;obtain ⟨p,xs,rfl,hx,hd⟩:=bV.mp n;exact ⟨p,xs,rfl,.inr (ch.seqT hx),hd⟩
 | lst ys=>cases e;obtain ⟨p,xs,rfl,hx,hd⟩:=cT.mp n;exact ⟨p,xs,rfl,.inl (ch.seq hx),hd⟩
 | _=>cases e
theorem aLx (hu:X.A.units+64<cLine):DOp X (compareOp .In) oIn:=by
 refine ⟨aN4 X.K false,fun pins s σ H x y v u Q I rx ry h=>?_,fun x y dx dy C H Q R ch n1 n2 q k=>?_⟩
 ·obtain ⟨C,dx,p,xs,ds,bs,ch,nx,rfl,hq,nd,hd,ha,q⟩:=h
  cases ry
  rcases hq with hq | hq
  ·obtain ⟨its,r,pl,hz⟩:=I.list hq
   obtain ⟨h1,h2⟩:=qA I ch (A:=X.A.in1) (by show X.A.units+1+32<cLine;omega) hd rx nx r nd ha
   refine SeqAt.in_listAt (aA7 X.K C dx) pl.isList (fun w hw=>h1 w (by simpa using hw)) ⟨.bl _,H,I,rfl,?_⟩
   rw [zS,h2]
   exact q
  ·obtain ⟨its,r,pl,hz⟩:=I.tuple hq
   obtain ⟨h1,h2⟩:=qA I ch (A:=X.A.in1) (by show X.A.units+1+32<cLine;omega) hd rx nx r nd ha
   refine SeqAt.in_tupleAt (aA7 X.K C dx) pl (fun w hw=>h1 w (by simpa using hw)) ⟨.bl _,H,I,rfl,?_⟩
   rw [zS,h2]
   exact q
 ·unfold oIn at q
  split at q
  ·rename_i ds e
   obtain ⟨hd,q⟩:=q
   split at q
   ·rename_i bs e2
    obtain ⟨p,xs,rfl,hx,nd⟩:=aCD ch n2 e
    exact ⟨C,dx,p,xs,ds,bs,ch,n1,rfl,hx,nd,hd,e2,k _ _ C H q (eN.refl ch) (dX.mpr rfl)⟩
   ·exact q.elim
  ·exact q.elim
theorem aDL (hu:X.A.units+64<cLine):DOp X (compareOp .NotIn) t6:=by
 refine ⟨aN4 X.K true,fun pins s σ H x y v u Q I rx ry h=>?_,fun x y dx dy C H Q R ch n1 n2 q k=>?_⟩
 ·obtain ⟨C,dx,p,xs,ds,bs,ch,nx,rfl,hq,nd,hd,ha,q⟩:=h
  cases ry
  rcases hq with hq | hq
  ·obtain ⟨its,r,pl,hz⟩:=I.list hq
   obtain ⟨h1,h2⟩:=qA I ch (A:=X.A.in1) (by show X.A.units+1+32<cLine;omega) hd rx nx r nd ha
   refine SeqAt.notIn_listAt (aA7 X.K C dx) pl.isList (fun w hw=>h1 w (by simpa using hw)) ⟨.bl _,H,I,rfl,?_⟩
   rw [zS,h2]
   exact q
  ·obtain ⟨its,r,pl,hz⟩:=I.tuple hq
   obtain ⟨h1,h2⟩:=qA I ch (A:=X.A.in1) (by show X.A.units+1+32<cLine;omega) hd rx nx r nd ha
   refine SeqAt.notIn_tupleAt (aA7 X.K C dx) pl (fun w hw=>h1 w (by simpa using hw)) ⟨.bl _,H,I,rfl,?_⟩
   rw [zS,h2]
   exact q
 ·unfold t6 at q
  split at q
  ·rename_i ds e
   obtain ⟨hd,q⟩:=q
   split at q
   ·rename_i bs e2
    obtain ⟨p,xs,rfl,hx,nd⟩:=aCD ch n2 e
    exact ⟨C,dx,p,xs,ds,bs,ch,n1,rfl,hx,nd,hd,e2,k _ _ C H q (eN.refl ch) (dX.mpr rfl)⟩
   ·exact q.elim
  ·exact q.elim
def aGc (K:PySem.W.Frag):V→List V→Hp→VK→Prop:=fun l vs H R=>∃ C dx x p xs ds bs,∃ j:Nat,cX C H∧vs=[x]∧kM K C x dx∧l = .ref p∧lI K H p xs∧b9 K C xs ds∧k8 ds≤32∧wI dx ds=some bs∧bs[j]? = some true∧(∀ i:Nat,i<j→bs[i]? = some false)∧R (.int (j:Int)) H
theorem aIx (hu:X.A.units+64<cLine):MtR X "list.index" (aGc X.K):=by
 intro pins s σ H l vs v us Q I rl rv h
 obtain ⟨C,dx,x,p,xs,ds,bs,j,ch,rfl,nx,rfl,hq,nd,hd,ha,hj,hno,q⟩:=h
 cases rl
 obtain ⟨u,rfl,rx⟩:=rN rv
 obtain ⟨its,r,pl,hz⟩:=I.list hq
 have hlen:=r.length
 obtain ⟨⟨cls,dd,data,sl⟩,ho,hc,n,hdt⟩:=id pl.isList
 simp only at hc hdt
 subst hc hdt
 obtain ⟨h1,h2⟩:=qA I ch (A:=X.A.in1.in1) (by show X.A.units+1+1+32<cLine;omega) hd rx nx r nd ha
 obtain ⟨h1',_⟩:=qA I ch (A:=X.A.in1) (by show X.A.units+1+32<cLine;omega) hd rx nx r nd ha
 have hjl:j<its.length:=by
  have:=(List.getElem?_eq_some_iff.mp hj).1
  rw [← h2,List.length_map] at this
  exact this
 have at_:∀ (i:Nat) (hi:i<its.toArray.size) (b:Bool),bs[i]? = some b→aA7 X.K C dx its.toArray[i]=b:=by
  intro i hi b e
  have hi':i<its.length:=by simpa using hi
  rw [← h2,List.getElem?_map,List.getElem?_eq_getElem hi'] at e
  simpa using e
 have hz2:(sizeLine:Int)<2 ^ 63-1:=by decide
 refine call_meets F.slot_list_index ⟨_,ho,rfl⟩ F.entry_list_index (F.args_list_index_2 _ _) (SeqAt.list_indexAt p its.toArray n dd sl u (aA7 X.K C dx) j (by simpa using hjl) (by omega) (at_ j _ true hj) (fun m hm hmj=>at_ m hm false (hno m hmj))) ⟨ho,?_,?_⟩
 ·intro y hy
  first | exact h1 y (by simpa using hy) | exact h1' y (by simpa using hy)
 ·exact ⟨.int j,H,I.tok _,⟨_,rfl⟩,q⟩
def uN:List Bool→Option Nat
 | []=>none
 | true::_=>some 0
 | false::r=>(uN r).map (· + 1)
theorem aB9:∀ {bs:List Bool}{j:Nat},uN bs=some j→bs[j]? = some true∧∀ i:Nat,i<j→bs[i]? = some false
 | true::r,j,h=>by cases h;exact ⟨rfl,fun i hi=>by omega⟩
 | false::r,j,h=>by
  unfold uN at h
  cases e:uN r with
  | none=>rw [e] at h;cases h
  | some k=>
   rw [e] at h
   cases h
   obtain ⟨h1,h2⟩:=aB9 e
   refine ⟨h1,fun i hi=>?_⟩
   cases i with
   | zero=>rfl
   | succ i=>exact h2 i (by simp at hi;omega)
def aFq (ga gb:GE):GE:=fun δ Q=>ga δ fun d=>match d with
 | .lst ds=>gb δ fun x=>k8 ds≤32∧match wI x ds with
  | some bs=>match uN bs with
   | some j=>Q (.int j)
   | none=>False
  | none=>False
 | _=>False
theorem aJg {p2:Pos} (hu:X.A.units+64<cLine) (ha:DE X a ga) (hb:DE X b gb)
  (hp:∀ {to:TE}{t:TA},PE X a to→PA X [b] t→PE X (.Call (.Attribute a "index" p2) [b] [] pos) (tBM X.K "list" (aGc X.K) to t)) (hs:starEach [b] X.env=[(false,eval b X.env)]:=by rfl):DE X (.Call (.Attribute a "index" p2) [b] [] pos) (aFq ga gb):=by
 obtain ⟨t1,p1,h1⟩:=ha
 obtain ⟨t2,p2,h2⟩:=hb
 refine ⟨_,hp p1 (dO p2 gX hs),fun C0 H0 δ σ C H Q R rp g k=>?_⟩
 refine h1 C0 H0 δ σ C H _ _ rp g fun d v C1 H1 q e1 n1=>?_
 cases d with
 | lst ds=>
  obtain ⟨p,xs,rfl,hx,hd⟩:=cT.mp n1
  refine ⟨.inl ⟨rfl,xs,e1.ch.seq hx⟩,h2 C0 H0 δ σ C1 H1 _ _ (rp.grow e1) q fun d2 v2 C2 H2 q2 e2 n2=>?_⟩
  obtain ⟨hdp,q2⟩:=q2
  split at q2
  ·rename_i bs ea
   split at q2
   ·rename_i j ej
    obtain ⟨f1,f2⟩:=aB9 ej
    exact ⟨C2,d2,v2,p,xs,ds,bs,j,e2.ch,rfl,n2,rfl,e2.ch.seq (e2.cc.seq hx),hd.mono e2.cc,hdp,ea,f1,f2,k _ _ C2 H2 q2 (e1.trans e2) (bB.mpr rfl)⟩
   ·exact q2.elim
  ·exact q2.elim
 | _=>exact q.elim
end
open AutoSeq1 (wpAny_loadPart')
section
variable {prog:Program}{w:World}{A:Around}{E:Value→Shared→Prop}{s:Shared}
theorem aE8 {e it src:Addr}{k:Nat}{xs:Array Value}{x old:Value}{Q:Value→Shared→Prop} (he:IsEnum s.heap e it k old) (a:At s.heap it src k xs) (hx:xs[k]? = some x) (ne:e≠it) (ns:src≠it) (nse:src≠e)
  (hQ:∀ h',IsEnumOut h' e it ((k:Int)+1) x s.heap.objs.size→At h' it src (k+1) xs→IsPair h' s.heap.objs.size (.int k s.toks) x→(∀ b o,b≠e→b≠it→s.heap.get? b=some o→h'.get? b=some o)→Q (.ref s.heap.objs.size) { s with heap:=h',toks:=s.toks+1 }) :
  wpAny (model prog w) A (Builtin.«enumerate.__next__» ⟨[.ref e],[]⟩) (fun fin s'=>∃ v,fin = .done (.ret v)∧Q v s') E s:=by
 obtain ⟨hp,g,d,tk,os⟩:=s
 refine wpAny_bind (m:=field (.ref e) 2) (wpAny_field he rfl (x:=.ref it) rfl ?_)
 refine wpAny_bind (zK a ns hx fun h1 a1 sb1=>?_)
 replace sb1:Heap.SameBut it hp h1:=sb1
 have en1:IsEnum h1 e it k old:=(sb1.2 e ne).trans he
 refine wpAny_bind (m:=field (.ref e) 3) (wpAny_field en1 rfl (x:=rawInt k) rfl ?_)
 refine wpAny_bind (m:=field (.ref e) 4) (wpAny_field en1 rfl (x:=.none) rfl ?_)
 refine wpAny_bind (m:=mkInt k) (wpAny_mkInt ?_)
 refine wpAny_bind (m:=setField (.ref e) 3 (rawInt ((k:Int)+1))) (wpAny_setField_rec en1 (by simp) fun h2 en2 sb2=>?_)
 replace sb2:Heap.SameBut e h1 h2:=sb2
 replace en2:IsEnum h2 e it ((k:Int)+1) old:=en2
 refine wpAny_bind (m:=setField (.ref e) 4 .none) (wpAny_setField_rec en2 (by simp) fun h3 en3 sb3=>?_)
 replace sb3:Heap.SameBut e h2 h3:=sb3
 replace en3:IsEnum h3 e it ((k:Int)+1) old:=en3
 refine wpAny_bind (m:=newTuple [.int k tk,x]) (wpAny_newTuple ?_)
 have en4:IsEnum (h3.push { cls:=.type "tuple",data:=.seq #[.int k tk,x] }) e it ((k:Int)+1) old:=Heap.get?_push_of_some _ en3
 generalize hh4:h3.push { cls:=.type "tuple",data:=.seq #[.int k tk,x] }=h4 at en4
 show wpAny _ A _ _ E ⟨h4,g,d,tk+1,os⟩
 have z3:h3.objs.size=hp.objs.size:=by rw [sb3.1,sb2.1,sb1.1]
 have lte:e<hp.objs.size:=Heap.lt_size he
 have t4:IsPair h4 hp.objs.size (.int k tk) x:=by rw [← hh4,← z3];exact Heap.get?_push_size _ rfl
 have k4:∀ b o,b≠e→b≠it→hp.get? b=some o→h4.get? b=some o:=fun b o n1 n2 q=>by
  rw [← hh4]
  exact Heap.get?_push_of_some _ (sb3.extBut b o n1 (sb2.extBut b o n1 (sb1.extBut b o n2 q)))
 have a4:At h4 it src (k+1) xs:=by
  rw [← hh4]
  exact ((a1.but sb2.extBut (Ne.symm ne) nse).but sb3.extBut (Ne.symm ne) nse).kept (fun o q=>Heap.get?_push_of_some _ q) fun o q=>Heap.get?_push_of_some _ q
 refine wpAny_bind (m:=Builtin.SmallTypes.ownedTupleIsFree (.ref e)) ?_
 rw [z3]
 clear hh4 en3 sb3 en2 sb2 en1 sb1 a1 z3 h3 h2 h1
 unfold Builtin.SmallTypes.ownedTupleIsFree
 refine wpAny_bind (wpAny_field en4 rfl (x:=.none) rfl (wpAny_pure ?_))
 simp only [if_true]
 refine wpAny_bind (wpAny_rule ?_)
 refine wpAny_bind (m:=field (.ref e) 5) (wpAny_field en4 rfl (x:=old) rfl ?_)
 refine wpAny_bind (wpAny_setField_rec en4 (by simp) fun h5 en5 sb5=>?_)
 replace sb5:Heap.SameBut e h4 h5:=sb5
 replace en5:IsEnum h5 e it ((k:Int)+1) x:=en5
 refine wpAny_bind (m:=Builtin.SmallTypes.ownedTupleHandOut (.ref e) (.ref hp.objs.size)) ?_
 unfold Builtin.SmallTypes.ownedTupleHandOut
 refine wpAny_bind (wpAny_setField_rec en5 (by simp) fun h6 en6 sb6=>?_)
 replace sb6:Heap.SameBut e h5 h6:=sb6
 replace en6:IsEnumOut h6 e it ((k:Int)+1) x hp.objs.size:=en6
 refine wpAny_setField_rec en6 (by simp) fun h7 en7 sb7=>?_
 replace sb7:Heap.SameBut e h6 h7:=sb7
 replace en7:IsEnumOut h7 e it ((k:Int)+1) x hp.objs.size:=en7
 have up:∀ b o,b≠e→h4.get? b=some o→h7.get? b=some o:=fun b o n1 q=>sb7.extBut b o n1 (sb6.extBut b o n1 (sb5.extBut b o n1 q))
 refine wpAny_bind (wpAny_letGo (wpAny_pure ⟨_,rfl,hQ h7 en7 (a4.kept (fun o q=>up _ o (Ne.symm ne) q) fun o q=>up _ o nse q) (up _ _ (Nat.ne_of_gt lte) t4) fun b o n1 n2 q=>up b o n1 (k4 b o n1 n2 q)⟩))
theorem aHZ {e it src:Addr}{k:Nat}{xs:Array Value}{old:Value}{Q:Option Value→Shared→Prop} (hh:A.handled=none) (he:IsEnum s.heap e it k old) (a:At s.heap it src k xs) (hx:xs[k]? = none)
  (hQ:∀ h',Heap.ExtBut it s.heap h'→Q none { s with heap:=h' }):wpAny (model prog w) A (pyNext (.ref e)) Q E s:=by
 have hT:s.TypeIs (.ref e) "enumerate":=⟨_,he,rfl⟩
 have nx:=F.slot_enumerate_next
 unfold pyNext
 refine wpAny_bind (wpAny_attempt (wpAny_callSpecial?_slot (name:=Str.ofString "__next__") hT nx (wpAny_call_entry nx hT F.entry_enumerate_next ?_ (F.args_enumerate_next_1 _))))
 refine wpAny_bind (m:=field (.ref e) 2) (wpAny_field he rfl (x:=.ref it) rfl ?_)
 refine wpAny_bind (aAS hh a hx fun h' x he' hx'=>?_)
 obtain ⟨o,ho,hc⟩:=hx'
 exact wpAny_bind (wpAny_isInstance (T:="StopIteration") (b:=true) ⟨o,ho,hc⟩ isSubtype_stop (wpAny_pure (hQ _ he')))
end
def Ite (K:PySem.W.Frag) (kd:Bool) (l:Addr):It:=
 ⟨fun i H=>∃ xs x,(if kd then lI K H l xs else kS K H l xs)∧xs[i]? = some x,
 fun i H v H'=>∃ t,H t=none∧v = .ref t∧∀ xs,(if kd then lI K H l xs else kS K H l xs)→∃ x,xs[i]? = some x∧H'=upd H t (.tup [.int i,x]),
 fun i H=>∃ xs,(if kd then lI K H l xs else kS K H l xs)∧xs.length≤i⟩
def aFl (kd:Bool) (e it l:Addr) (i:Nat) (h:Heap):Prop:=(∃ old,IsEnum h e it i old)∧itk kd h it l i
theorem aHm {P:Program}{w:World}{K:PySem.W.Frag}{elts:List Expr}{x1:Nat}{pos:Pos} (kd:Bool) (e it l:Addr) (ne:e≠it) (nle:l≠e) (nli:l≠it) :
  aCM P w K (.Tuple elts x1 pos) (Ite K kd l) [e,it] e (aFl kd e it l) where
 mem:=by simp
 obj:=fun i h st b hb=>by
  obtain ⟨⟨old,he⟩,h1⟩:=st
  simp only [List.mem_cons,List.not_mem_nil,or_false] at hb
  rcases hb with rfl | rfl
  ·exact ⟨_,he,fun v q=>by cases (show Data.fields _=Data.cell v from q)⟩
  ·exact h1.obj
 keep:=fun i h h' st k=>by
  obtain ⟨⟨old,he⟩,h1⟩:=st
  exact ⟨⟨old,k e (by simp) _ he⟩,h1.kept fun o q=>k it (by simp) o q⟩
 item:=by
  intro X hP hw hK hc i pins s σ H E I hf st hg
  subst hP hw hK
  obtain ⟨xs,x,hx,ex⟩:=hg
  obtain ⟨⟨old,he⟩,h1⟩:=st
  obtain ⟨its,r1,q1⟩:=I.sqk hx
  obtain ⟨u,eu,ru⟩:=r1.get ex
  have hT:s.TypeIs (.ref e) "enumerate":=⟨_,he,rfl⟩
  have ltT:∀ b o,s.heap.get? b=some o→b≠s.heap.objs.size:=fun b o q=>Nat.ne_of_lt (Heap.lt_size q)
  unfold pyNext
  have nx:=F.slot_enumerate_next
  refine wpAny_bind (wpAny_attempt (wpAny_callSpecial?_slot (name:=Str.ofString "__next__") hT nx (wpAny_call_entry nx hT F.entry_enumerate_next
   (aE8 he (h1.at q1) (x:=u) (by simpa using eu) ne nli nle fun h' e' a' t' kp=>wpAny_pure ?_) (F.args_enumerate_next_1 _))))
  refine ⟨.ref s.heap.objs.size,rfl,wpAny_letOwnedTupleGo_enum e' fun h2 e2 sb=>?_⟩
  have up:∀ b o,b≠e→h'.get? b=some o→h2.get? b=some o:=fun b o hb q=>sb.extBut b o hb q
  have kp2:∀ b o,b∉[e,it]→s.heap.get? b=some o→h2.get? b=some o:=fun b o hb q=>by
   simp only [List.mem_cons,List.not_mem_nil,or_false,not_or] at hb
   exact up b o hb.1 (kp b o hb.1 hb.2 q)
  have eT:s.heap.objs.size≠e:=fun q=>ltT e _ he q.symm
  have tT:IsPair h2 s.heap.objs.size (.int i s.toks) u:=up _ _ eT t'
  have q1':sqk kd h' l its.toArray:=by
   cases kd with
   | true=>obtain ⟨o,q,r⟩:=q1;exact ⟨o,kp l o nle nli q,r⟩
   | false=>obtain ⟨o,q,r⟩:=q1;exact ⟨o,kp l o nle nli q,r⟩
  have st':aFl kd e it l (i+1) h2:=⟨⟨u,by simpa using e2⟩,(itk.of a' q1').kept fun o q=>up _ o (Ne.symm ne) q⟩
  have fT:H s.heap.objs.size=none:=I.fresh
  refine ⟨.ref s.heap.objs.size,upd H s.heap.objs.size (.tup [.int i,x]),I.turnedT (t':=s.toks+1) (us:=[.int i s.toks,u]) hf (Nat.le_refl _) kp2 (fun b hb=>?_) (.cons ⟨_,rfl⟩ (.cons ru .nil)) (by show 2≤sizeLine;decide) ⟨_,tT,rfl,_,rfl⟩,rfl,⟨_,fT,rfl,fun xs' hx'=>?_⟩,st',fun b hb=>?_⟩
  ·obtain ⟨⟨o3,e3⟩,i3⟩:=st'
   simp only [List.mem_cons,List.not_mem_nil,or_false] at hb
   rcases hb with rfl | rfl
   ·exact ⟨_,e3⟩
   ·obtain ⟨o,q,_⟩:=i3.obj;exact ⟨o,q⟩
  ·have e1:=I.sq_inj hx' hx
   subst e1
   exact ⟨x,ex,rfl⟩
  ·obtain ⟨o,q⟩:∃ o,s.heap.get? b=some o:=by
    simp only [List.mem_cons,List.not_mem_nil,or_false] at hb
    rcases hb with rfl | rfl
    ·exact ⟨_,he⟩
    ·obtain ⟨o,q,_⟩:=h1.obj;exact ⟨o,q⟩
   rw [aZ (ltT b o q)]
   exact (hf b hb).1
 done:=by
  intro X hP hw hK hc i pins s σ H E I hf st hg
  subst hP hw hK
  obtain ⟨xs,hx,hend⟩:=hg
  obtain ⟨⟨old,he⟩,h1⟩:=st
  obtain ⟨its,r1,q1⟩:=I.sqk hx
  have l1:=r1.length
  refine aHZ (I.ok.hd hc) he (h1.at q1) (by simp;omega) fun h' kp=>⟨rfl,I.turnedM (t':=s.toks) hf fun b o hb q=>?_⟩
  simp only [List.mem_cons,List.not_mem_nil,or_false,not_or] at hb
  exact kp b o hb.2 q
 self:=fun _ _ _ _ _ st h=>by
  obtain ⟨⟨old,he⟩,_⟩:=st
  exact wpAny_pyIter_enum he h
theorem aIR (kd:Bool) (l:Addr) (xs:Array Value) :
  Meets (Builtin.«enumerate.__new__» ⟨[.type "enumerate",.ref l],[]⟩) (fun _ R s=>sqk kd s.heap l xs ∧
   R (.ok (.ret (.ref (s.heap.push (dW kd l)).objs.size))) { s with heap:=(s.heap.push (dW kd l)).push { cls:=.type "enumerate",data:=.fields #[.none,.bool false,.ref s.heap.objs.size,rawInt 0,.none,.none] } }):=
 .of_wp fun prog w A R s h=>by
  obtain ⟨hp,g,d,tk,os⟩:=s
  obtain ⟨hl,h⟩:=h
  have hsub:=sub_enumerate
  have hL:sqk kd (Shared.heap ⟨hp,g,d,tk,os⟩) l xs:=hl
  wp_walk using mS hL
  refine wpAny_stack_any fun st=>wpAny_pure ?_
  split
  ·rename_i c _ _ _ _ _
   cases (c == Value.type "enumerate")
   ·wp_walk using mS hL
    exact ⟨_,rfl,h⟩
   ·wp_walk using mS hL
    exact ⟨_,rfl,h⟩
  ·wp_walk using mS hL
   exact ⟨_,rfl,h⟩
theorem aFu {prog:Program}{w:World}{A:Around}{E:Value→Shared→Prop}{s:Shared}{kd:Bool}{l:Addr}{xs:Array Value}{Q:Value→Shared→Prop} (hl:sqk kd s.heap l xs)
  (h:∀ h',aFl kd (s.heap.objs.size+1) s.heap.objs.size l 0 h'→(∀ c o,s.heap.get? c=some o→h'.get? c=some o)→Q (.ref (s.heap.objs.size+1)) { s with heap:=h' }) :
  wpAny (model prog w) A (call (.type "enumerate") [.ref l]) Q E s:=by
 refine callType_new F.called_enumerate (by decide) (F.typeCall_enumerate_1 _) (F.newCall_enumerate_1 _) (fun obj=>F.args_object_init_2 obj _) F.entry_enumerate_new (aIR kd l xs) ⟨hl,?_⟩
 generalize hh1:s.heap.push (dW kd l)=h1
 have s1:h1.objs.size=s.heap.objs.size+1:=by rw [← hh1,Heap.size_push]
 have g1:h1.get? s.heap.objs.size=some (dW kd l):=by rw [← hh1];exact Heap.get?_push_size _ (by rfl)
 have g5:=Heap.get?_push_size h1 (o:={ cls:=.type "enumerate",data:=.fields #[.none,.bool false,.ref s.heap.objs.size,rawInt 0,.none,.none] }) rfl
 have u01:∀ c o,s.heap.get? c=some o→h1.get? c=some o:=fun c o e=>by rw [← hh1];exact Heap.get?_push_of_some _ e
 rw [s1] at g5
 rw [s1]
 exact ⟨⟨_,g5,rfl⟩,h _ ⟨⟨_,g5⟩,itk.new (Heap.get?_push_of_some _ g1)⟩ fun c o e=>Heap.get?_push_of_some _ (u01 _ _ e)⟩
section
variable {X:Cx}
def aNp (K:PySem.W.Frag) (kd:Bool) (ta:TA):TI:=fun σ H R=>ta σ H fun vs H1=>∃ p xs,vs=[.ref p]∧(if kd then lI K H1 p xs else kS K H1 p xs)∧R (Ite K kd p) H1
theorem aLl {a:Expr}{ta:TA}{p pos pos':Pos}{elts:List Expr}{x1:Nat} (kd:Bool) (hg:Gl X "enumerate") (hm:X.mg "enumerate"=none) (hbt:bootBuiltins "enumerate"=some (.type "enumerate")) (ha:PA X [a] ta) (hs:starEach [a] X.env=[(false,eval a X.env)]:=by rfl) :
  PI X (.Tuple elts x1 pos') (.Call (.Name "enumerate" p) [a] [] pos) (aNp X.K kd ta):=by
 intro pins s σ H R I h
 refine Call_ (rB I hg hm hbt (PyProof.Rows.callWith_type1 (iA (ha pos pins s σ H _ I h) fun us s1 ⟨vs,H1,I1,r1,q1⟩=>?_) (by rw [hs];rfl) (by rfl)))
 obtain ⟨l,xs,e,hx,q⟩:=q1
 subst e
 obtain ⟨u,rfl,r⟩:=rN r1
 cases r
 obtain ⟨its,v1,w1⟩:=I1.sqk hx
 have lt1:l<s1.heap.objs.size:=by
  cases kd with
  | true=>obtain ⟨o,e,_⟩:=w1;exact Heap.lt_size e
  | false=>obtain ⟨o,e,_⟩:=w1;exact Heap.lt_size e
 refine aFu w1 fun h' st kp=>?_
 obtain ⟨⟨old,he⟩,hit⟩:=id st
 refine wpAny_pyIter_enum he ?_
 have I2:bI X pins σ H1 { s1 with heap:=h' }:=I1.kept (t':=s1.toks) kp
 generalize hn:s1.heap.objs.size=n at *
 have lt1':@LT.lt Nat _ l n:=lt1
 refine ⟨n+1,_,_,_,H1,rfl,I2,aHm kd (n+1) n l (fun z=>by have z':@Eq Nat _ _:=z;omega) (fun z=>by have z':@Eq Nat _ _:=z;omega) (fun z=>by have z':@Eq Nat _ _:=z;omega),st,fun b hb=>?_,q⟩
 have hb':n≤b:=by
  simp only [List.mem_cons,List.not_mem_nil,or_false] at hb
  rcases hb with rfl | rfl <;> first | exact Nat.le_refl _ | exact Nat.le_add_right _ _
 exact I1.fpOk (by rw [hn];exact hb') (I1.hok.fresh (by rw [hn];exact hb'))
variable {a b c e:Expr}{es:List Expr}{pos:Pos}{ga gb:GE}
def u5 (ds:List D):List D:=(List.range ds.length).zipWith (fun (k:Nat) d=>D.tup [.int k,d]) ds
theorem rS (ds:List D) (i:Nat):(u5 ds)[i]? = (ds[i]?).map fun d=>D.tup [.int i,d]:=by
 unfold u5
 rw [List.getElem?_zipWith]
 by_cases h:i<ds.length
 ·rw [List.getElem?_range h,List.getElem?_eq_getElem h]
  rfl
 ·have h1:ds[i]? = none:=List.getElem?_eq_none_iff.mpr (by omega)
  rw [h1]
  cases (List.range ds.length)[i]? <;> rfl
theorem lC (ds:List D):(u5 ds).length=ds.length:=by simp [u5]
def m9 (ga:GE):GF:=fun δ Q=>ga δ fun d=>match d with
 | .tup xs=>Q (u5 xs)
 | _=>False
def aFX (ga:GE):GF:=fun δ Q=>ga δ fun d=>match d with
 | .lst xs=>Q (u5 xs)
 | _=>False
theorem aHd {K:PySem.W.Frag}{C1:Hp}{p:Addr}{xs:List V}{ds:List D} (kd:Bool) (hx:if kd then lI K C1 p xs else kS K C1 p xs) (hd:b9 K C1 xs ds):aD2 K (Ite K kd p) (u5 ds) C1:=by
 intro C2 H2 c1 c2 i
 have hx2:if kd then lI K H2 p xs else kS K H2 p xs:=by
  cases kd with
  | true=>exact c2.seq (c1.seq hx)
  | false=>exact c2.seqT (c1.seqT hx)
 refine ⟨fun d e=>?_,fun hl=>⟨xs,hx2,by rw [lC] at hl;rw [hd.length];exact hl⟩⟩
 rw [rS] at e
 cases e1:ds[i]? with
 | none=>rw [e1] at e;cases e
 | some d1=>
  rw [e1] at e
  cases e
  obtain ⟨v1,ev1,n1⟩:=hd.get e1
  refine ⟨⟨xs,v1,hx2,ev1⟩,fun x H3 y=>?_⟩
  obtain ⟨t,ht,rfl,k⟩:=y
  obtain ⟨u,eu,rfl⟩:=k xs hx2
  rw [ev1] at eu
  cases eu
  refine ⟨upd C2 t (.tup [.int i,v1]),eN.new c2 ht,bV.mpr ⟨t,_,rfl,kS.of bR,?_⟩⟩
  have up:=cX.upd (o:=.tup [.int i,v1]) (c2.free ht)
  exact .cons (bB.mpr rfl) (.cons ((n1.mono c1).mono up) .nil)
theorem mM {p pos':Pos}{elts:List Expr}{x1:Nat} (hg:Gl X "enumerate") (hm:X.mg "enumerate"=none) (hbt:bootBuiltins "enumerate"=some (.type "enumerate")) (ha:DE X a ga) (hs:starEach [a] X.env=[(false,eval a X.env)]:=by rfl) :
  DI X (.Tuple elts x1 pos') (.Call (.Name "enumerate" p) [a] [] pos) (m9 ga):=by
 obtain ⟨t1,p1,h1⟩:=ha
 refine ⟨_,aLl false hg hm hbt (dO p1 gX hs) hs,fun C0 H0 δ σ C H Q R rp g k=>h1 C0 H0 δ σ C H _ _ rp g fun d v C1 H1 q e1 n1=>?_⟩
 cases d with
 | tup ds=>
  obtain ⟨p,xs,rfl,hx,hd⟩:=bV.mp n1
  exact ⟨p,xs,rfl,e1.ch.seqT hx,k _ _ C1 H1 q e1 (aHd false hx hd)⟩
 | _=>exact q.elim
end
theorem gO:bootBuiltins "enumerate"=some (.type "enumerate"):=by decide +kernel
theorem aLV:bootBuiltins "min"=some (.builtin "min"):=by decide +kernel
theorem aLT:bootBuiltins "sum"=some (.builtin "sum"):=by decide +kernel
end L2
namespace L2
open PySem PySem.Spec PyProof.Rows
def yU:List Int→Int
 | []=>0
 | [x]=>x
 | x::y::r=>if x≤yU (y::r) then x else yU (y::r)
theorem wC:∀ {ns:List Int},ns≠[]→yU ns∈ns∧∀ a∈ns,yU ns≤a
 | [],h=>absurd rfl h
 | [x],_=>by simp [yU]
 | x::y::r,_=>by
  obtain ⟨h1,h2⟩:=wC (ns:=y::r) (by simp)
  unfold yU
  split
  ·rename_i hx
   refine ⟨List.mem_cons_self,fun a ha=>?_⟩
   rcases List.mem_cons.mp ha with rfl | ha
   ·omega
   ·have:=h2 a ha;omega
  ·rename_i hx
   refine ⟨List.mem_cons_of_mem _ h1,fun a ha=>?_⟩
   rcases List.mem_cons.mp ha with rfl | ha
   ·omega
   ·exact h2 a ha
section
variable {prog:Program}{w:World}{A:Around}
theorem aGB (hh:A.handled=none) (kd:Bool) (I l:Addr) (hne:l≠I) (xs:Array Value):Walks prog w A I [I,l] [I] xs.size (fun i v=>xs[i]? = some v) (fun i h=>itk kd h I l i∧sqk kd h l xs):=by
 cases kd with
 | true=>exact Walks.list hh I l hne xs
 | false=>exact Walks.tuple hh I l hne xs
theorem aCK {kd:Bool}{h:Heap}{l:Addr}{xs:Array Value} (q:sqk kd h l xs):l<h.objs.size:=by
 cases kd with
 | true=>obtain ⟨o,e,_⟩:=q;exact Heap.lt_size e
 | false=>obtain ⟨o,e,_⟩:=q;exact Heap.lt_size e
theorem aLz {h:Heap}{l:Addr}{o:Obj} (hl:l<h.objs.size):∀ b∈[h.objs.size,l],b<(h.push o).objs.size:=fun b hb=>by
 rw [Heap.size_push]
 rcases List.mem_cons.mp hb with rfl | hb
 ·exact Nat.lt_succ_self _
 ·rw [List.mem_singleton.mp hb];exact Nat.lt_succ_of_lt hl
theorem aIY {kd:Bool}{h:Heap}{l:Addr}{xs:Array Value} (q:sqk kd h l xs):itk kd (h.push (dW kd l)) h.objs.size l 0∧sqk kd (h.push (dW kd l)) l xs:=
 ⟨itk.new (Heap.get?_push_size _ (by cases kd <;> rfl)),q.push _⟩
theorem aAv {its:List Value}{ns:List Int} (r:dR (ns.map V.int) its):∀ (i:Nat) v,its.toArray[i]? = some v→∃ t,v = .int (ns.getD i 0) t:=fun i v e=>by
 have e':its[i]? = some v:=by simpa using e
 have hi:i<its.length:=(List.getElem?_eq_some_iff.mp e').1
 have hl:=r.length
 rw [List.length_map] at hl
 have en:(ns.map V.int)[i]? = some (.int (ns.getD i 0)):=by
  rw [List.getElem?_map,List.getElem?_eq_getElem (by omega)]
  simp [List.getD_eq_getElem?_getD,List.getElem?_eq_getElem (show i<ns.length by omega)]
 obtain ⟨u,eu,ru⟩:=r.get en
 rw [e'] at eu
 cases eu
 exact ru
end
section
variable {X:Cx}
def aII (K:PySem.W.Frag) (ok:List Int→Prop) (f:List Int→Int):List V→Hp→VK→Prop:=fun xs H Q=>∃ p kd ns,xs=[.ref p]∧(if kd=true then lI K H p (ns.map V.int) else kS K H p (ns.map V.int))∧ok ns∧Q (.int (f ns)) H
theorem aH6 (hc:X.calm=true):lJ X (.builtin "min") (aII X.K (· ≠ []) yU):=by
 intro pins s σ H xs us Q I r h
 obtain ⟨p,kd,ns,rfl,hq,hne,q⟩:=h
 obtain ⟨u,rfl,rx⟩:=rN r
 cases rx
 obtain ⟨its,r',w1⟩:=I.sqk hq
 have hl:=r'.length
 rw [List.length_map] at hl
 have hn:0<ns.length:=List.length_pos_iff.mpr hne
 refine call_min_walk (mS w1 ?_)
 refine ⟨s.heap.objs.size,_,_,its.toArray.size,_,_,fun i j=>decide (ns.getD i 0<ns.getD j 0),rfl,aGB (A:=X.A.in1) (I.ok.hd hc) kd _ p (Nat.ne_of_lt (aCK w1)) its.toArray,aIY w1,aLz (aCK w1),by rw [List.size_toArray];omega,
  CmpOf.ints_lt (fun i=>ns.getD i 0) (aAv r'),fun v h' tk hP hk=>?_⟩
 obtain ⟨t,rfl⟩:=aAv r' _ _ hP
 obtain ⟨b1,b2⟩:=argBest_lt (fun i=>ns.getD i 0) (its.toArray.size-1)
 have e:ns.getD (argBest (fun i j=>decide (ns.getD i 0<ns.getD j 0)) (its.toArray.size-1)) 0=yU ns:=by
  obtain ⟨m1,m2⟩:=wC hne
  rw [List.size_toArray] at b1 b2 ⊢
  have hi:argBest (fun i j=>decide (ns.getD i 0<ns.getD j 0)) (its.length-1)<ns.length:=by omega
  have c1:ns.getD (argBest (fun i j=>decide (ns.getD i 0<ns.getD j 0)) (its.length-1)) 0∈ns:=by
   rw [List.getD_eq_getElem?_getD,List.getElem?_eq_getElem hi,Option.getD_some]
   exact List.getElem_mem hi
  obtain ⟨j,hj,ej⟩:=List.mem_iff_getElem.mp m1
  have c2:=b2 j (by omega)
  have e2:ns.getD j 0=yU ns:=by
   rw [List.getD_eq_getElem?_getD,List.getElem?_eq_getElem hj,Option.getD_some]
   exact ej
  rw [e2] at c2
  have:=m2 _ c1
  omega
 rw [e]
 exact ⟨.int (yU ns),H,I.kept (t':=tk) (aGI hk),⟨t,rfl⟩,q⟩
theorem aHu (hc:X.calm=true):lJ X (.builtin "sum") (aII X.K (fun _=>True) List.sum):=by
 intro pins s σ H xs us Q I r h
 obtain ⟨p,kd,ns,rfl,hq,_,q⟩:=h
 obtain ⟨u,rfl,rx⟩:=rN r
 cases rx
 obtain ⟨its,r',w1⟩:=I.sqk hq
 have hl:=r'.length
 rw [List.length_map] at hl
 refine call_sum_walkG (mS w1 ?_)
 refine ⟨s.heap.objs.size,_,_,its.toArray.size,_,_,fun i=>ns.getD i 0,rfl,aGB (A:=X.A.in1) (I.ok.hd hc) kd _ p (Nat.ne_of_lt (aCK w1)) its.toArray,aIY w1,aLz (aCK w1),aAv r',fun h' tk t' hk=>?_⟩
 rw [preSum_getD,List.size_toArray,← hl,List.take_length]
 exact ⟨.int ns.sum,H,I.kept (t':=tk) (aGI hk),⟨t',rfl⟩,q⟩
def aCg (ok:List Int→Prop) (f:List Int→Int):List D→(D→Prop)→Prop:=fun ds Q=>match ds with
 | [d]=>match nI d with
  | some xs=>match iE xs with
   | some ns=>ok ns∧Q (.int (f ns))
   | none=>False
  | none=>False
 | _=>False
theorem aGJ {id:String}{ok:List Int→Prop}{f:List Int→Int} (h:lJ X (.builtin id) (aII X.K ok f)):xX X (.builtin id) (aCg ok f):=by
 refine ⟨_,h,fun xs ds C H Q R ch n q k=>?_⟩
 unfold aCg at q
 split at q
 ·rename_i d
  obtain ⟨v,rfl,n1⟩:=j7 n
  split at q
  ·rename_i ys e
   split at q
   ·rename_i ns e2
    obtain ⟨p,zs,rfl,hx,nd⟩:=aCD ch n1 e
    rw [kA e2] at nd
    have e3:=nd.ints
    subst e3
    rcases hx with hx | hx
    ·exact ⟨p,true,ns,rfl,hx,q.1,k _ _ C H q.2 (eN.refl ch) (bB.mpr rfl)⟩
    ·exact ⟨p,false,ns,rfl,hx,q.1,k _ _ C H q.2 (eN.refl ch) (bB.mpr rfl)⟩
   ·exact q.elim
  ·exact q.elim
 ·exact q.elim
abbrev aMN:=aCg (· ≠ []) yU
abbrev aNe:=aCg (fun _=>True) List.sum
theorem aMg (hc:X.calm=true):xX X (.builtin "min") aMN:=aGJ (aH6 hc)
theorem aML (hc:X.calm=true):xX X (.builtin "sum") aNe:=aGJ (aHu hc)
def aHL:List D→(D→Prop)→Prop:=fun ds Q=>match ds with
 | [.bl b]=>Q (.int (if b then 1 else 0))
 | [.int i]=>Q (.int i)
 | _=>False
theorem aMA:xX X (.type "int") aHL:=by
 refine ⟨_,aHE,fun xs ds C H Q R ch n q k=>?_⟩
 unfold aHL at q
 split at q
 ·obtain ⟨v,rfl,n1⟩:=j7 n
  rw [dX.mp n1]
  exact .inr ⟨_,rfl,k _ _ C H q (eN.refl ch) (bB.mpr rfl)⟩
 ·obtain ⟨v,rfl,n1⟩:=j7 n
  rw [bB.mp n1]
  exact .inl ⟨_,rfl,k _ _ C H q (eN.refl ch) (bB.mpr rfl)⟩
 ·exact q.elim
def aDB:D→Bool
 | .non=>true
 | _=>false
theorem aCe {K:PySem.W.Frag}{C:Hp}{v:V}{d:D} (n:kM K C v d):decide (v=V.non)=aDB d:=by
 cases d with
 | non=>rw [fD.mp n];rfl
 | int i=>rw [bB.mp n];rfl
 | bl i=>rw [dX.mp n];rfl
 | str i=>rw [iW.mp n];rfl
 | tup ds=>obtain ⟨p,xs,rfl,_⟩:=bV.mp n;rfl
 | lst ds=>obtain ⟨p,xs,rfl,_⟩:=cT.mp n;rfl
def aEL:GO:=fun x y Q=>match y with
 | .non=>Q (.bl (aDB x))
 | .bl b=>match x with
  | .bl a=>Q (.bl (a == b))
  | _=>False
 | _=>False
def zN:GO:=fun x y Q=>match y with
 | .non=>Q (.bl (!aDB x))
 | .bl b=>match x with
  | .bl a=>Q (.bl (a != b))
  | _=>False
 | _=>False
theorem aFm:DOp X (compareOp .Is) aEL:=by
 refine ⟨_,aLI.or aMC,fun x y dx dy C H Q R ch n1 n2 q k=>?_⟩
 cases dy with
 | non=>exact .inr ⟨fD.mp n2,k _ _ C H q (eN.refl ch) (dX.mpr (by rw [aCe n1]))⟩
 | bl j=>
  cases dx with
  | bl i=>exact .inl ⟨i,j,dX.mp n1,dX.mp n2,k _ _ C H q (eN.refl ch) (dX.mpr rfl)⟩
  | _=>exact q.elim
 | _=>exact q.elim
theorem aHy:DOp X (compareOp .IsNot) zN:=by
 refine ⟨_,aHB.or aKy,fun x y dx dy C H Q R ch n1 n2 q k=>?_⟩
 cases dy with
 | non=>exact .inr ⟨fD.mp n2,k _ _ C H q (eN.refl ch) (dX.mpr (by rw [aCe n1]))⟩
 | bl j=>
  cases dx with
  | bl i=>exact .inl ⟨i,j,dX.mp n1,dX.mp n2,k _ _ C H q (eN.refl ch) (dX.mpr rfl)⟩
  | _=>exact q.elim
 | _=>exact q.elim
variable {a b c e:Expr}{es:List Expr}{pos:Pos}{ga gb gc:GE}{gf:GF}
def aJW (gf:GF) (gb:GE):GF:=fun δ Q=>gf δ fun ds=>gb δ fun k=>match k with
 | .int k=>(-(2 ^ 63)≤k∧k<2 ^ 63∧ds.length * k.toNat≤sizeLine)∧Q (List.replicate k.toNat ds).flatten
 | _=>False
theorem aLK (ha:DF X a gf) (hb:DE X b gb):DF X (.BinOp a .Mult b pos) (aJW gf gb):=by
 obtain ⟨t1,p1,h1⟩:=ha
 obtain ⟨t2,p2,h2⟩:=hb
 refine ⟨_,aJ0 aM1 p1 p2,fun C0 H0 δ σ C H Q R rp g k=>?_⟩
 refine h1 C0 H0 δ σ C H _ _ rp g fun ds p xs C1 H1 q e1 hc hn hl hd=>h2 C0 H0 δ σ C1 H1 _ _ (rp.grow e1) q fun d2 v2 C2 H2 q2 e2 n2=>?_
 cases d2 with
 | int j=>
  obtain ⟨⟨c1,c2,c3⟩,q2⟩:=q2
  rw [bB.mp n2]
  have e12:=e1.trans e2
  exact ⟨p,j,xs,rfl,rfl,e2.hh _ _ hl,c1,c2,by rw [hd.length];exact c3,fun l hl2=>k _ l _ C2 _ q2 (e12.trans (eN.newO e2.ch hl2)) (e2.ch.free hl2) (e12.hh.free hl2) bR ((hd.mono e2.cc).rep _)⟩
 | _=>exact q2.elim
def aLf (ga:GE) (gl gh:GP):GF:=fun δ Q=>ga δ fun d=>gl δ fun lo=>gh δ fun hi=>match d with
 | .lst ds=>Q (tL ds lo hi)
 | _=>False
theorem aJz {lo hi:Option Expr}{gl gh:GP}{p2:Pos} (ha:DE X a ga) (hl:DO X lo gl) (hh:DO X hi gh):DF X (.Subscript a (.Slice lo hi none p2) pos) (aLf ga gl gh):=by
 obtain ⟨t1,p1,h1⟩:=ha
 obtain ⟨t2,p2',h2⟩:=hl
 obtain ⟨t3,p3,h3⟩:=hh
 refine ⟨_,aEE aKT p1 p2' p3,fun C0 H0 δ σ C H Q R rp g k=>?_⟩
 refine h1 C0 H0 δ σ C H _ _ rp g fun d v C1 H1 q e1 n1=>h2 C0 H0 δ σ C1 H1 _ _ (rp.grow e1) q fun o C2 H2 q2 e2=>h3 C0 H0 δ σ C2 H2 _ _ ((rp.grow e1).grow e2) q2 fun o2 C3 H3 q3 e3=>?_
 have n1':=(n1.mono e2.cc).mono e3.cc
 have e123:=e1.trans (e2.trans e3)
 cases d with
 | lst ds=>
  obtain ⟨p,xs,rfl,hx,hd⟩:=cT.mp n1'
  exact ⟨p,xs,rfl,e3.ch.seq hx,fun p' hp=>k _ p' _ C3 _ q3 (e123.trans (eN.newO e3.ch hp)) (e3.ch.free hp) (e123.hh.free hp) bR (aED hd)⟩
 | _=>exact q3.elim
def aJA (i j:Nat) (ga gb:GE):GS:=fun De δ=>ga δ fun x=>gb δ fun y=>De.nx ((δ.set i (.im x)).set j (.im y))
theorem aMj {i j:Nat}{tg:Expr}{k2:Nat}{pt2:Pos} (ha:DE X a ga) (hb:DE X b gb) (hp:∀ {ta:TA},PA X [a,b] ta→PS X (.Assign [tg] (.Tuple [a,b] k2 pt2) pos) (aNq i j ta))
  (hs:starEach [a,b] X.env=(false,eval a X.env)::starEach [b] X.env:=by rfl) (hs2:starEach [b] X.env=(false,eval b X.env)::starEach [] X.env:=by rfl):DSt X (.Assign [tg] (.Tuple [a,b] k2 pt2) pos) (aJA i j ga gb):=by
 obtain ⟨t1,p1,h1⟩:=ha
 obtain ⟨t2,p2,h2⟩:=hb
 refine ⟨_,hp (dO p1 (dO p2 gX hs2) hs),fun C0 H0 δ σ C H De E rp g k=>h1 C0 H0 δ σ C H _ _ rp g fun d v C1 H1 q e1 n1=>h2 C0 H0 δ σ C1 H1 _ _ (rp.grow e1) q fun d2 v2 C2 H2 q2 e2 n2=>?_⟩
 exact ⟨v,v2,rfl,k.nx _ _ C2 H2 ((((rp.grow e1).grow e2).setI (n1.mono e2.cc)).setI n2) q2⟩
end
section
variable {X:Cx}{a b c e:Expr}{es:List Expr}{pos:Pos}{ga gb gc:GE}{gf:GF}{ta:TE}
def aKa (d:D) (Q:Bool→Prop):Prop:=match d with
 | .bl b=>Q b
 | .int i=>Q (i != 0)
 | .non=>Q false
 | .str x=>x.length≤sizeLine∧Q ((x.length:Int) != 0)
 | .tup ds=>Q (!ds.isEmpty)
 | .lst ds=>Q (!ds.isEmpty)
def aJo (ga:GE):GE:=fun δ Q=>ga δ fun d=>aKa d fun k=>Q (.bl (!k))
end
section
variable {prog:Program}{w:World}{A:Around}{R:Result→Shared→Prop}
end
namespace HG
section
open PySem.SeqAt
open PySem.AutoSeq1 (wpAny_loadPart')
open PySem.MeetsSeq PySem.MeetsSeq2 PySem.MeetsSeq3
end
end HG
section
variable {X:Cx}
end
end L2
namespace L2
open PySem PySem.Spec PyProof.Rows
structure Fl (P:Program) (w:World) (outer:List Env) (H H':Hp) (s:Shared) (B:Heap) (a:Addr) (cls a0:Value) (h':Heap):Prop where
 un:Un (frs outer) [] H H' s.heap h'
 kb:∀ b o,s.heap.get? b=some o→H b=none→b∉frs outer→B.get? b=some o
 kt:∀ b o,s.heap.get? b=some o→b∉frs outer→∃ o',B.get? b=some o'
 hok:sW P w H' B
 fl:Heap.FlyingW B outer a cls a0 h'
theorem n6 (b:Addr):b∉([]:List Addr):=fun z=>absurd z (by simp)
section
variable {P:Program}{w:World}{outer:List Env}{H H':Hp}{s:Shared}{B h' h'':Heap}{a:Addr}{cls a0:Value}
theorem aID (free:∀ b o,s.heap.get? b=some o→H b=none→H' b=none) (tups:∀ b xs,H b=some (.tup xs)→H' b=some (.tup xs)) (frzs:∀ b o u,H b=some (.frz o u)→H' b=some (.frz o u)) (tbls:∀ b ps,H b=some (.tbl ps)→∃ more,H' b=some (.tbl (ps++more)))
  (kb:∀ b o,s.heap.get? b=some o→H b=none→b∉frs outer→B.get? b=some o) (kt:∀ b o,s.heap.get? b=some o→b∉frs outer→∃ o',B.get? b=some o') (st:B.StaysIn h'')
  (sl:∀ b o,s.heap.get? b=some o→b∈frs outer→H b=none→∃ sl,h''.get? b=some { o with slots:=sl }) (fr:∀ b∈frs outer,H b=none):Un (frs outer) [] H H' s.heap h'' where
 keep:=fun b o q n hb _=>st b o (kb b o q n hb)
 slot:=fun b o q n hb _=>sl b o q hb n
 free:=fun b o q n _=>free b o q n
 there:=fun b o q _=>by
  by_cases hb:b∈frs outer
  ·obtain ⟨x,e⟩:=sl b o q hb (fr b hb)
   exact ⟨_,e⟩
  ·obtain ⟨o',e⟩:=kt b o q hb
   exact ⟨o',st b o' e⟩
 tups:=tups
 frzs:=frzs
 tbls:=tbls
theorem Fl.next (F:Fl P w outer H H' s B a cls a0 h') (fr:∀ b∈frs outer,H b=none) (fl:Heap.FlyingW B outer a cls a0 h'') (up:h'.UpToSlots h''):Fl P w outer H H' s B a cls a0 h'':=by
 refine ⟨aID (fun b o q n=>F.un.free b o q n (n6 b)) F.un.tups F.un.frzs F.un.tbls F.kb F.kt fl.1 (fun b o q hb n=>?_) fr,F.kb,F.kt,F.hok,fl⟩
 obtain ⟨sl,e⟩:=F.un.slot b o q n hb (n6 b)
 obtain ⟨_,o2,e2,nf⟩:=F.fl.2.2.1.mem hb
 rw [e] at e2
 cases e2
 obtain ⟨sl2,e3⟩:=up b _ e nf
 exact ⟨sl2,e3⟩
end
def CX1 (P:Program) (w:World):CXT:=fun outer H s E e s'=>∃ (a:Addr) (cls a0:Value) (H':Hp) (B:Heap),e = .ref a∧s'.os=s.os∧AllBare s'.gens∧Fl P w outer H H' s B a cls a0 s'.heap∧E cls none H'
section
variable {P:Program}{w:World}{K:PySem.W.Frag}{mg:Str→Option Value}{base:Heap}{N:List Str}{qual:Str}{scope:Scope}{f:Addr}{cd:Value}{A:Around}{outer:List Env}{s:Shared}{H:Hp}{E E':XK}
abbrev cx1 (P:Program) (w:World) (K:PySem.W.Frag) (mg:Str→Option Value) (base:Heap) (N:List Str) (qual:Str) (scope:Scope) (f:Addr) (cd:Value) (A:Around) (outer:List Env) (s:Shared) (H:Hp) (E:XK):Cx:=dZ (CX1 P w) P w K mg base N qual scope f cd A outer s H E
theorem zP {pins:List (Addr×Obj)}{σ:St}{H1:Hp}{s1:Shared} (I:bI (cx1 P w K mg base N qual scope f cd A outer s H E) pins σ H1 s1) {b:Addr}{o:Obj} (q:s.heap.get? b=some o) (hb:b∉frs outer):b∉frs (cx1 P w K mg base N qual scope f cd A outer s H E).stack:=fun z=>by
 rcases List.mem_cons.mp (I.stkSub b z) with z | z
 ·have lt:=Heap.lt_size q
  have ab:s.heap.objs.size≤b:=by rw [z];exact I.ok.above
  exact absurd (Nat.lt_of_lt_of_le lt ab) (Nat.lt_irrefl _)
 ·exact hb z
theorem aFj {pins:List (Addr×Obj)}{σ:St}{H1:Hp}{s1 s2:Shared}{a:Addr}{cls:Value}{args:List Value} (I:bI (cx1 P w K mg base N qual scope f cd A outer s H E) pins σ H1 s1) (hx:Heap.MadeExcOf s1.heap s2.heap a cls args)
  (ho:s2.os=s1.os) (hg:AllBare s2.gens) (hE:E cls none H1):(cx1 P w K mg base N qual scope f cd A outer s H E).xe (.ref a) s2:=by
 have hin:∀ env∈(cx1 P w K mg base N qual scope f cd A outer s H E).stack,∀ b,env.frame=some b→b∈frs (cx1 P w K mg base N qual scope f cd A outer s H E).stack:=fun env he b hb=>List.mem_filterMap.mpr ⟨env,he,hb⟩
 have hl:=PySem.W.funFrames_hide I.stack hin
 refine wpAny_leaves_madeW (base:=PySem.W.hideAll s1.heap (frs (cx1 P w K mg base N qual scope f cd A outer s H E).stack)) (h:=s1.heap) I.ok.frames rfl (fun b o q=>PySem.W.of_hideAll _ q) hl hx fun h' t x1 x2 x3 x4=>?_
 have kb:∀ b o,s.heap.get? b=some o→H b=none→b∉frs outer→(PySem.W.hideAll s1.heap (frs (cx1 P w K mg base N qual scope f cd A outer s H E).stack)).get? b=some o:=fun b o q n hb=>
  PySem.W.hideAll_get _ (I.base.keep b o q n hb (n6 b)) (zP I q hb)
 have kt:∀ b o,s.heap.get? b=some o→b∉frs outer→∃ o',(PySem.W.hideAll s1.heap (frs (cx1 P w K mg base N qual scope f cd A outer s H E).stack)).get? b=some o':=fun b o q hb=>by
  obtain ⟨o',e⟩:=I.base.there b o q (n6 b)
  exact ⟨o',PySem.W.hideAll_get _ e (zP I q hb)⟩
 have hok:sW P w H1 (PySem.W.hideAll s1.heap (frs (cx1 P w K mg base N qual scope f cd A outer s H E).stack)):=fun c u e=>by
  refine (I.hok c u e).stay (fun b u' hb q=>PySem.W.hideAll_get _ q fun z=>?_) (fun _ q=>q) (fun _ _ q=>q) fun _ _ _ q=>q
  have z0:=I.stkFree b z
  rcases hb with rfl | hb
  ·rw [e] at z0;cases z0
  ·rw [hb] at z0;cases z0
 refine ⟨a,cls,.ref t,H1,_,rfl,ho.trans I.os,hg,⟨aID (fun b o q n=>I.base.free b o q n (n6 b)) I.base.tups I.base.frzs I.base.tbls kb kt x1.1 (fun b o q hb n=>?_) I.ok.frf,kb,kt,hok,x1⟩,hE⟩
 obtain ⟨sl,e⟩:=I.base.slot b o q n hb (n6 b)
 obtain ⟨_,o2,e2,nf⟩:=I.funs.mem hb
 rw [e] at e2
 cases e2
 obtain ⟨sl2,e3⟩:=x4 b _ (hx.keeps b _ e) nf
 exact ⟨sl2,e3⟩
theorem aLe (hE:∀ cls H',E' cls none H'→E cls none H'):qO (CX1 P w) (cx1 P w K mg base N qual scope f cd A outer s H E) E':=by
 intro pins σ H1 s1 e s' I hc
 obtain ⟨a,cls,a0,H',B,rfl,ho,hg,F,hq⟩:=hc
 refine wpAny_leaves_onW I.ok.frames rfl F.fl fun h' x1 x2=>?_
 have F1:=F.un
 have kb:∀ b o,s.heap.get? b=some o→H b=none→b∉frs outer→B.get? b=some o:=fun b o q n hb=>
  F.kb b o (I.base.keep b o q n hb (n6 b)) (I.base.free b o q n (n6 b)) (zP I q hb)
 have kt:∀ b o,s.heap.get? b=some o→b∉frs outer→∃ o',B.get? b=some o':=fun b o q hb=>by
  obtain ⟨o',e⟩:=I.base.there b o q (n6 b)
  exact F.kt b o' e (zP I q hb)
 refine ⟨a,cls,a0,H',B,rfl,ho.trans I.os,hg,⟨aID (fun b o q n=>?_) (fun b xs q=>F1.tups b xs (I.base.tups b xs q)) (fun b o u q=>F1.frzs b o u (I.base.frzs b o u q)) (fun b ps q=>?_) kb kt x1.1 (fun b o q hb n=>?_) I.ok.frf,kb,kt,F.hok,x1⟩,hE _ _ hq⟩
 ·obtain ⟨o',e⟩:=I.base.there b o q (n6 b)
  exact F1.free b o' e (I.base.free b o q n (n6 b)) (n6 b)
 ·obtain ⟨m1,e1⟩:=I.base.tbls b ps q
  obtain ⟨m2,e2⟩:=F1.tbls b _ e1
  exact ⟨m1++m2,by rw [e2,Array.append_assoc]⟩
 ·obtain ⟨sl,e⟩:=I.base.slot b o q n hb (n6 b)
  have hb':b∈frs (cx1 P w K mg base N qual scope f cd A outer s H E).stack:=List.mem_cons_of_mem _ hb
  obtain ⟨sl1,e1⟩:=F1.slot b _ e (I.base.free b o q n (n6 b)) hb' (n6 b)
  obtain ⟨_,o2,e2,nf⟩:=F.fl.2.2.1.mem hb'
  rw [e1] at e2
  cases e2
  obtain ⟨sl2,e3⟩:=x2 b _ e1 nf
  exact ⟨sl2,e3⟩
end
theorem Fun.okX {P:Program}{w:World}{K:PySem.W.Frag}{mg:Str→Option Value}{base:Heap}{x qual:Str}{st:Stmt}{f:Addr}{fd:FuncData}{N ps:List Str}{k:Nat}{sp:Sp} (F:Fun K x qual st f fd) (S:bA N ps (aD st)) (len:∀ vs H Q E,sp vs H Q E→vs.length=ps.length)
  (hbody:∀ (cdv:Value) (A:Around) (outer:List Env) (s:Shared) (H:Hp) (vs:List V) (Q:VK) (E:XK),cE k (A.deeper (envOfC qual (aD st) s.heap.objs.size f cdv))→sp vs H Q E →
   ∃ t,PSs (cx1 P w K mg base N qual (aD st) f cdv A outer s H E) (aS st) t∧t { nx:=fun _ H'=>Q .non H',rt:=Q } (mH N vs) H):vY P w K mg base (CX1 P w) (k+1) f fd ps sp:=by
 obtain ⟨oc,od,kV,doc,pm,an,cdv,ct,osl,rfl,lk,hcd⟩:=F.ex
 exact aJ4 lk hcd S len fun A outer s H vs Q E hr hsp=>hbody cdv A outer s H vs Q E hr hsp
structure XEE (X:Cx) (EE:XK):Prop where
 pass:qO (CX1 X.prog X.w) X EE
 made:∀ (pins:List (Addr×Obj)) (σ:St) (H1:Hp) (s1 s2:Shared) (a:Addr) (cls:Value) (args:List Value),bI X pins σ H1 s1→Heap.MadeExcOf s1.heap s2.heap a cls args→s2.os=s1.os→s2.gens=s1.gens→EE cls none H1→X.xe (.ref a) s2
structure DEX extends DEnds where
 xc:Str→Prop
abbrev GX:=DEX→DS→Prop
def aGW (X:Cx) (EE:XK) (C0 H0:Hp) (xc:Str→Prop):Prop:=∀ c cls C' H',X.mg c=some cls→xc c→eN C0 H0 C' H'→EE cls none H'
def DSX (X:Cx) (EE:XK) (st:Stmt) (g:GX):Prop:=∃ t,PS X st t∧∀ C0 H0 δ σ C H (De:DEX) E,aGW X EE C0 H0 De.xc→gU X.K C0 H0 δ σ C H→g De δ→Adm X.K C0 H0 E De.toDEnds→t E σ H
def wZ (X:Cx) (EE:XK) (sts:List Stmt) (g:GX):Prop:=∃ t,PSs X sts t∧∀ C0 H0 δ σ C H (De:DEX) E,aGW X EE C0 H0 De.xc→gU X.K C0 H0 δ σ C H→g De δ→Adm X.K C0 H0 E De.toDEnds→t E σ H
abbrev GEX:=DS→(Str→Prop)→(D→Prop)→Prop
def DEx (X:Cx) (EE:XK) (e:Expr) (g:GEX):Prop:=∃ t,PE X e t∧∀ C0 H0 δ σ C H (xc:Str→Prop) (Q:D→Prop) (R:VK),aGW X EE C0 H0 xc→gU X.K C0 H0 δ σ C H→g δ xc Q→(∀ d v C1 H1,Q d→eN C H C1 H1→kM X.K C1 v d→R v H1)→t σ H R
section
variable {X:Cx}{EE:XK}{a b c e tg iter:Expr}{st:Stmt}{sts s2:List Stmt}{es:List Expr}{pos:Pos}{ge:GE}{gi gf:GF}{gt:GT}{gg:GG}{g1 g2:GX}{gx:GEX}{ss:List Nat}
def aB5 (g:GS):GX:=fun De δ=>g De.toDEnds δ
theorem aGm {g:GS} (h:DSt X st g):DSX X EE st (aB5 g):=by
 obtain ⟨t,p,h⟩:=h
 exact ⟨t,p,fun C0 H0 δ σ C H De E _ rp g k=>h C0 H0 δ σ C H De.toDEnds E rp g k⟩
theorem aJl {g:GS} (h:j2 X sts g):wZ X EE sts (aB5 g):=by
 obtain ⟨t,p,h⟩:=h
 exact ⟨t,p,fun C0 H0 δ σ C H De E _ rp g k=>h C0 H0 δ σ C H De.toDEnds E rp g k⟩
def aGR (g1 g2:GX):GX:=fun De δ=>g1 { De with nx:=g2 De } δ
theorem aEU (h1:DSX X EE st g1) (h2:wZ X EE sts g2):wZ X EE (st::sts) (aGR g1 g2):=by
 obtain ⟨t1,p1,h1⟩:=h1
 obtain ⟨t2,p2,h2⟩:=h2
 refine ⟨_,aDu p1 p2,fun C0 H0 δ σ C H De E te rp g k=>h1 C0 H0 δ σ C H { De with nx:=g2 De } { E with nx:=t2 E } te rp g ⟨fun δ' σ' C' H' rp' q=>?_,k.rt,k.bk,k.ct⟩⟩
 exact h2 C0 H0 δ' σ' C' H' De E te rp' q k
theorem nN (h1:DSX X EE st g1):wZ X EE [st] g1:=by
 obtain ⟨t1,p1,h1⟩:=h1
 exact ⟨_,aCt p1,h1⟩
def aDx (gt:GT) (g1 g2:GX):GX:=fun De δ=>gt δ fun c=>if c=true then g1 De δ else g2 De δ
theorem aJI (hc:DT X c gt) (h1:wZ X EE sts g1) (h2:wZ X EE s2 g2):DSX X EE (.If c sts s2 pos) (aDx gt g1 g2):=by
 obtain ⟨t0,p0,h0⟩:=hc
 obtain ⟨t1,p1,h1⟩:=h1
 obtain ⟨t2,p2,h2⟩:=h2
 refine ⟨_,aIO p0 p1 p2,fun C0 H0 δ σ C H De E te rp g k=>h0 C0 H0 δ σ C H _ _ rp g fun c C1 H1 q e1=>?_⟩
 cases c with
 | true=>exact aEC (h1 C0 H0 δ σ C1 H1 De E te (rp.grow e1) (by simpa using q) k)
 | false=>exact aHf (h2 C0 H0 δ σ C1 H1 De E te (rp.grow e1) (by simpa using q) k)
def aEV (gx:GEX):GX:=fun De δ=>gx δ De.xc De.rt
theorem aJN (he:DEx X EE e gx):DSX X EE (.Return (some e) pos) (aEV gx):=by
 obtain ⟨t,p,h⟩:=he
 exact ⟨_,aIr p,fun C0 H0 δ σ C H De E te rp g k=>h C0 H0 δ σ C H _ _ _ te rp g fun d v C1 H1 q e1 n1=>k.rt d v C1 H1 (rp.ext.trans e1) n1 q⟩
def aAZ (gx:GEX) (gg:GG):GX:=fun De δ=>gx δ De.xc fun d=>gg d δ De.nx
theorem aF3 (he:DEx X EE e gx) (hg:DG X tg ss gg) (hp:∀ {te:TE}{g:TG},PE X e te→PG X tg g→PS X (.Assign [tg] e pos) (aFp te g)):DSX X EE (.Assign [tg] e pos) (aAZ gx gg):=by
 obtain ⟨t,p,h⟩:=he
 obtain ⟨t2,p2,h2⟩:=hg
 refine ⟨_,hp p p2,fun C0 H0 δ σ C H De E te rp g k=>h C0 H0 δ σ C H _ _ _ te rp g fun d v C1 H1 q e1 n1=>?_⟩
 exact h2 C0 H0 δ σ C1 H1 v d _ _ (rp.grow e1) n1 q fun δ' σ' q' rp' _ _=>k.nx δ' σ' C1 H1 rp' q'
structure Out where
 ret:D→Prop
 exc:Str→Prop:=fun _=>False
def spX (K:PySem.W.Frag) (mg:Str→Option Value) (F:List D→Option Out):Sp:=fun vs H Q E=>∃ C ds o,cX C H∧TB K C∧b9 K C vs ds∧F ds=some o∧(∀ d v C' H',o.ret d→eN C H C' H'→kM K C' v d→Q v H')∧∀ c cls C' H',mg c=some cls→o.exc c→eN C H C' H'→E cls none H'
def aBC (P:Program) (w:World) (K:PySem.W.Frag) (mg:Str→Option Value) (base:Heap) (k:Nat) (x:Str) (F:List D→Option Out):Prop:=
 ∃ f fd ps,vY P w K mg base (CX1 P w) k f fd ps (spX K mg F)∧mg x=some (.ref f)∧PySem.W.keepIn K (.ref f)=true∧qC K fd ps []
def oE (F:List D→Option Out) (gf:GF):GEX:=fun δ xc Q=>gf δ fun ds=>match F ds with
 | some o=>(∀ c,o.exc c→xc c)∧∀ d,o.ret d→Q d
 | none=>False
theorem sB {F:List D→Option Out}{k:Nat}{x:Str}{p:Pos} (h:aBC X.prog X.w X.K X.mg X.base k x F) (hX:qO (CX1 X.prog X.w) X EE) (hr:cE k X.A) (hg:Gl X x) (ha:DA X (e::es) gf) (hdb:(x == ("__debug__":Str))=false:=by decide)
  (he:starEach (e::es) X.env=(false,eval e X.env)::starEach es X.env:=by rfl) (hpl:(backTo pos (starEach es X.env)).any (·.1)=false:=by rfl):DEx X EE (.Call (.Name x p) (e::es) [] pos) (oE F gf):=by
 obtain ⟨f,fd,ps,Fk,hm,hk,hb⟩:=h
 obtain ⟨t,pa,h⟩:=ha
 refine ⟨_,zQ Fk hr hg hm hk hb .nil hX pa hdb he hpl,fun C0 H0 δ σ C H xc Q R te rp g k=>h C0 H0 δ σ C H _ _ rp g fun ds vs C1 H1 q e1 n1=>?_⟩
 split at q
 ·rename_i o e2
  exact ⟨C1,ds,o,e1.ch,rp.tc.mono e1.cc,by rw [List.append_nil];exact n1,e2,fun d v C' H' hd ex nv=>k d v C' H' (q.2 d hd) (e1.trans ex) nv,fun c cls C' H' hmc hx ex=>te c cls C' H' hmc (q.1 c hx) ((rp.ext.trans e1).trans ex)⟩
 ·exact q.elim
def aJT (K:PySem.W.Frag) (mg:Str→Option Value) (x:Str):Prop:=∃ C,mg x=some (.ref C)∧∀ h,K.In h→OwnCls x C [.type "ValueError",.type "Exception",.type "BaseException",.type "object"] "ValueError.__new__" mg h
theorem aIh {x:Str}{C:Addr}{np cpos:Pos}{t:TA} (O:∀ h,X.K.In h→OwnCls x C [.type "ValueError",.type "Exception",.type "BaseException",.type "object"] "ValueError.__new__" X.mg h) (hc:X.calm=true) (hg:Gl X x) (hX:XEE X EE) (ha:PA X (e::es) t)
  (hdb:(x == ("__debug__":Str))=false:=by decide) (he:starEach (e::es) X.env=(false,eval e X.env)::starEach es X.env:=by rfl) (hpl:(backTo cpos (starEach es X.env)).any (·.1)=false:=by rfl) :
  PS X (.Raise (some (.Call (.Name x np) (e::es) [] cpos)) none pos) (fun _ σ H=>t σ H fun vs H1=>vs.length≤sizeLine∧EE (.ref C) none H1):=by
 intro pins s σ H Dn I h
 have O0:=O _ I.mod.kin
 obtain ⟨tl,Nn,nm,q,bs,hdct,sn,sub,ab,col,dd,k0,k1,k2,k3,k5,mN,hC,hN,hni,T⟩:=O0.obj
 refine wpAny_Raise_call_subT (C:=C) (nm:=nm) (q:=q) (N:=Nn) (bs:=bs) (bm:=tl) (hdct:=hdct) (sn:=sn) (sub:=sub) (ab:=ab) (col:=col) (dd:=dd) (k0:=k0) (k1:=k1) (k2:=k2) (k3:=k3) (k5:=k5)
  PySem.F.excBase_ValueError (mN:=mN) (T.hasType PySem.F.excBase_ValueError.hasBase) (I.ok.hd hc) (by rw [he];show (false || (backTo cpos (starEach es X.env)).any (·.1))=false;rw [hpl];rfl) hni (zJ I hg O0.bound ⟨rfl,?_⟩ hdb)
 have hA:=ha cpos pins s σ H _ I h
 rw [he] at hA ⊢
 refine Calls.evalArgs_plain (wpAny_mono hA (fun us s2 h2=>?_) fun _ _ y=>y)
 obtain ⟨vs,H2,I2,r2,hz,hq⟩:=h2
 have hl:us.length=vs.length:=r2.length.symm
 exact ⟨rfl,by rw [hl];exact hz,I2.bk _ _ hC,hN.keeps I2.bk,T.keeps I2.bk,fun h' a hm=>hX.made pins σ H2 s2 { s2 with heap:=h' } a (.ref C) us I2 hm rfl rfl hq⟩
def aFC (x:Str) (gf:GF):GX:=fun De δ=>gf δ fun ds=>ds.length≤sizeLine∧De.xc x
theorem aJw {x:Str}{np cpos:Pos} (O:aJT X.K X.mg x) (hc:X.calm=true) (hg:Gl X x) (hX:XEE X EE) (ha:DA X (e::es) gf)
  (hdb:(x == ("__debug__":Str))=false:=by decide) (he:starEach (e::es) X.env=(false,eval e X.env)::starEach es X.env:=by rfl) (hpl:(backTo cpos (starEach es X.env)).any (·.1)=false:=by rfl):DSX X EE (.Raise (some (.Call (.Name x np) (e::es) [] cpos)) none pos) (aFC x gf):=by
 obtain ⟨C,hm,O⟩:=O
 obtain ⟨t,p,h⟩:=ha
 refine ⟨_,aIh O hc hg hX p hdb he hpl,fun C0 H0 δ σ C' H De E te rp g k=>h C0 H0 δ σ C' H _ _ rp g fun ds vs C1 H1 q e1 n1=>⟨by rw [n1.length];exact q.1,te x _ C1 H1 hm q.2 (rp.ext.trans e1)⟩⟩
end
theorem aLF {K:PySem.W.Frag}{mg:Str→Option Value}{x:Str}{C:Addr}{h:Heap} (X:K.In h) (G:h.Ns mainGlobals mg) (e:PySem.W.nsIn K mainGlobals x=some (some (.ref C)))
  (q:PySem.W.excIn K C [.type "ValueError",.type "Exception",.type "BaseException",.type "object"] "ValueError.__new__"=true):aJT K mg x:=by
 have hm:=PySem.W.mg_of X G e
 refine ⟨C,hm,fun h' X'=>⟨hm,?_⟩⟩
 unfold PySem.W.excIn at q
 split at q
 ·rename_i d1 cd sl lk
  split at q
  ·rename_i C' bm a0 a1 a2 a3 n a5 hmro hsl
   simp only [Bool.and_eq_true,beq_iff_eq,Bool.not_eq_true'] at q
   obtain ⟨⟨⟨⟨⟨q1,q2⟩,q3⟩,q4⟩,q5⟩,q6⟩:=q
   subst q1 q2
   obtain ⟨c1,c2,c3,c4,c5,c6,c7,c8,c9,c10,c11⟩:=cd
   dsimp only at hmro q3 q5 q6
   subst hmro q3
   have es:sl = #[a0,a1,a2,a3,some (.builtin "ValueError.__new__"),a5]:=by
    obtain ⟨l⟩:=sl
    simp only at hsl
    rw [hsl]
   subst es
   exact ⟨bm,c4,c1,c5,c2,c6,c7,c8,c9,c10,d1,a0,a1,a2,a3,a5,_,X' _ _ lk,.of_isNs (PySem.W.isNs_of_in X' q5),PySem.W.nsMap_none_of_in X' q5 q6,PySem.W.tail_of_in X' q4⟩
  ·cases q
 ·cases q
theorem aMc {P:Program}{w:World}{K:PySem.W.Frag}{mg:Str→Option Value}{base:Heap}{N:List Str}{qual:Str}{scope:Scope}{f:Addr}{cd:Value}{A:Around}{outer:List Env}{s:Shared}{H:Hp}{E:XK}:XEE (cx1 P w K mg base N qual scope f cd A outer s H E) E:=
 ⟨aLe fun _ _ q=>q,fun pins σ H1 s1 s2 a cls args I hx ho hg hE=>aFj I hx ho (by rw [hg];exact I.bare) hE⟩
theorem fnX {P:Program}{w:World}{K:PySem.W.Frag}{mg:Str→Option Value}{base:Heap}{x qual:Str}{st:Stmt}{f:Addr}{fd:FuncData}{N ps:List Str}{k:Nat}{F:List D→Option Out}{g:GX} (Fn:Fun K x qual st f fd) (S:bA N ps (aD st))
  (hl:∀ ds o,F ds=some o→ds.length=ps.length)
  (hb:∀ (cdv:Value) (A:Around) (outer:List Env) (s:Shared) (H:Hp) (E:XK),cE k (A.deeper (envOfC qual (aD st) s.heap.objs.size f cdv))→wZ (cx1 P w K mg base N qual (aD st) f cdv A outer s H E) E (aS st) g)
  (hv:∀ ds o,F ds=some o→g { nx:=fun _=>o.ret .non,rt:=o.ret,xc:=o.exc } (bH N ds)) (hm:mg x=some (.ref f)) (bi:qC K fd ps []):aBC P w K mg base (k+1) x F:=by
 refine ⟨f,fd,ps,Fn.okX S (fun vs H Q E h=>?_) (fun cdv A outer s H vs Q E hr h=>?_),hm,Fn.kp,bi⟩
 ·obtain ⟨C,ds,o,_,_,n,e,_⟩:=h
  rw [n.length]
  exact hl ds o e
 ·obtain ⟨C,ds,o,ch,tb,n,e,q,qx⟩:=h
  obtain ⟨t,p,h⟩:=hb cdv A outer s H E hr
  refine ⟨t,p,h C H (bH N ds) (mH N vs) C H _ _ (fun c cls C' H' hmc hx ex=>qx c cls C' H' hmc hx ex) (qI ch tb n) (hv ds o e) ⟨fun δ σ C' H' rp z=>?_,fun r v C' H' ex nv z=>?_,fun _ _ _ _ _ z=>z.elim,fun _ _ _ _ _ z=>z.elim⟩⟩
  ·exact q .non _ C' H' z rp.ext (fD.mpr rfl)
  ·exact q r v C' H' z ex nv
abbrev Cx.tr (X:Cx) (pn:List (Addr×Obj)) (xe:Value→Shared→Prop):Cx:={ X with pn:=pn,xe:=xe }
abbrev Cx.su (X:Cx) (e:Value) (pn:List (Addr×Obj)):Cx:={ X with A:=X.A.mark (some e),calm:=false,pn:=pn,xe:=fun _ _=>False }
section
variable {X:Cx}{pins pins' pn:List (Addr×Obj)}{xe:Value→Shared→Prop}{σ:St}{H:Hp}{s:Shared}{e:Value}
theorem bI.tr (I:bI X pins σ H s) (pn:List (Addr×Obj)) (xe:Value→Shared→Prop) (h:∀ p∈pn,p∈X.pn++pins):bI (X.tr pn xe) [] σ H s:=
 ⟨⟨I.ok.mod,I.ok.kind,I.ok.glob,I.ok.blt,I.ok.above,I.ok.inj,I.ok.has,I.ok.cab,I.ok.hd,I.ok.frames,I.ok.stk,I.ok.exf,I.ok.bs,I.ok.bsz,I.ok.noex,I.ok.exfs,I.ok.funs,I.ok.frf⟩,I.os,I.bare,I.base,I.loc,I.cell,I.free,I.freeC,fun p hp=>I.pin p (h p (by simpa using hp)),I.hok,I.len⟩
theorem bI.untr (I:bI (X.tr pn xe) pins' σ H s) (h:∀ p∈X.pn++pins,p∈pn):bI X pins σ H s:=
 ⟨⟨I.ok.mod,I.ok.kind,I.ok.glob,I.ok.blt,I.ok.above,I.ok.inj,I.ok.has,I.ok.cab,I.ok.hd,I.ok.frames,I.ok.stk,I.ok.exf,I.ok.bs,I.ok.bsz,I.ok.noex,I.ok.exfs,I.ok.funs,I.ok.frf⟩,I.os,I.bare,I.base,I.loc,I.cell,I.free,I.freeC,fun p hp=>I.pin p (List.mem_append_left _ (h p hp)),I.hok,I.len⟩
theorem bI.su (I:bI X pins σ H s) (e:Value) (pn:List (Addr×Obj)) (h:∀ p∈pn,p∈X.pn++pins∨(s.heap.get? p.1=some p.2∧H p.1=none∧p.1≠X.env.locals∧p.1∉X.fs∧∀ v,p.2.data≠.cell v)):bI (X.su e pn) [] σ H s:=
 ⟨⟨I.ok.mod,I.ok.kind,I.ok.glob,I.ok.blt,I.ok.above,I.ok.inj,I.ok.has,I.ok.cab,fun z=>absurd z (by show ¬ (false=true);decide),I.ok.frames,I.ok.stk,I.ok.exf,I.ok.bs,I.ok.bsz,I.ok.noex,I.ok.exfs,I.ok.funs,I.ok.frf⟩,I.os,I.bare,I.base,I.loc,I.cell,I.free,I.freeC,fun p hp=>(h p (by simpa using hp)).elim (I.pin p) id,I.hok,I.len⟩
theorem bI.unsu (I:bI (X.su e pn) pins' σ H s) (hd:X.calm=true→X.A.handled=none) (h:∀ p∈X.pn++pins,p∈pn):bI X pins σ H s:=
 ⟨⟨I.ok.mod,I.ok.kind,I.ok.glob,I.ok.blt,I.ok.above,I.ok.inj,I.ok.has,I.ok.cab,hd,I.ok.frames,I.ok.stk,I.ok.exf,I.ok.bs,I.ok.bsz,I.ok.noex,I.ok.exfs,I.ok.funs,I.ok.frf⟩,I.os,I.bare,I.base,I.loc,I.cell,I.free,I.freeC,fun p hp=>I.pin p (List.mem_append_left _ (h p hp)),I.hok,I.len⟩
theorem SP.untr {D:aA6}{f:Flow} (h:∀ p∈X.pn++pins,p∈pn) (q:SP (X.tr pn xe) pins' D f s):SP X pins D f s:=by
 cases f with
 | next=>obtain ⟨σ',H',I,q⟩:=q;exact ⟨σ',H',I.untr h,q⟩
 | brk=>obtain ⟨σ',H',I,q⟩:=q;exact ⟨σ',H',I.untr h,q⟩
 | cont=>obtain ⟨σ',H',I,q⟩:=q;exact ⟨σ',H',I.untr h,q⟩
 | ret u=>obtain ⟨v,σ',H',I,r,q⟩:=q;exact ⟨v,σ',H',I.untr h,r,q⟩
theorem iZ.there {P:Program}{w:World}{H:Hp}{h:Heap}{a:Addr}{o:HO} (x:iZ P w H h a o):∃ ob,h.get? a=some ob:=by
 cases o with
 | lst xs=>obtain ⟨_,_,_,_,e⟩:=x;exact ⟨_,e⟩
 | tup xs=>obtain ⟨_,_,_,o,e,_⟩:=x;exact ⟨_,e⟩
 | dK kvs=>obtain ⟨_,_,_,_,o,_,_,e,_⟩:=x;exact ⟨_,e⟩
 | dT kvs=>obtain ⟨_,_,_,_,o,_,_,e,_⟩:=x;exact ⟨_,e⟩
 | set S n=>obtain ⟨o,_,_,_,e,_⟩:=x;exact ⟨_,e⟩
 | ins C dx fs=>obtain ⟨_,_,_,e,_⟩:=x;exact ⟨_,e⟩
 | own y=>exact x
 | xd fs=>obtain ⟨_,⟨_,_,_,e,_⟩,_⟩:=x;exact ⟨_,e⟩
 | rng lo hi=>obtain ⟨_,_,_,e⟩:=x;exact ⟨_,e⟩
 | frz ob u=>obtain ⟨e,_⟩:=x;exact ⟨_,e⟩
 | tbl ps=>exact ⟨_,x⟩
 | tab l c q=>obtain ⟨_,e,_⟩:=x;exact ⟨_,e⟩
 | met f y=>exact ⟨_,x⟩
 | ext φ=>obtain ⟨_,e,_⟩:=x;exact e
end
def σ0 (X:Cx):St:=List.replicate X.N.length none
theorem bI.forget {X:Cx}{pins:List (Addr×Obj)}{σ:St}{H:Hp}{s:Shared} (I:bI X pins σ H s):bI X pins (σ0 X) H s:=by
 refine I.weak ?_ fun i v e=>?_
 ·unfold σ0;rw [List.length_replicate];first | exact I.len | exact I.len.symm
 ·unfold σ0 at e
  rw [List.getElem?_replicate] at e
  split at e <;> cases e
section
variable {X:Cx}{EE:XK}{body suite:List Stmt}{b₀:Stmt}{x:Str}{cl:Value}{np hpos pos:Pos}{tb ts:TS}
theorem aE6 {pins:List (Addr×Obj)}{σ1:St}{H1:Hp}{s1 s':Shared}{ev:Value}{Q:Flow→Shared→Prop}{E:Value→Shared→Prop}{hs:List ExceptHandler} (hstk:X.stack=X.env::X.outer) (hfr:X.env.frame=some X.env.locals) (I:bI X pins σ1 H1 s1) (hc:CX1 X.prog X.w X.stack H1 s1 EE ev s')
  (k:∀ a cls a0 H' B h5,ev = .ref a→EE cls none H'→Fl X.prog X.w X.stack H1 H' s1 B a cls a0 h5→bI X pins σ1 H' { s' with heap:=h5 }→s'.os=s1.os→AllBare s'.gens→wpAny (model X.prog X.w) X.A (handleBy ev X.env hs) Q E { s' with heap:=h5 }) :
  wpAny (model X.prog X.w) X.A (noteFrame ev X.env) (fun _ s2=>wpAny (model X.prog X.w) X.A (setFlight ev none) (fun _ s3=>wpAny (model X.prog X.w) X.A (handleBy ev X.env hs) Q E s3) E s2) E s':=by
 obtain ⟨a,cls,a0,H',B,rfl,ho,hg,F,hq⟩:=hc
 have hfrm:X.A.frames=some (X.env::X.outer):=by rw [← hstk];exact I.ok.frames
 have fl:Heap.FlyingW B (X.env::X.outer) a cls a0 s'.heap:=by rw [← hstk];exact F.fl
 refine wpAny_looks_onW hfrm hfr fl fun h4 held4 up4=>?_
 refine wpAny_landsW held4 fun h5 fl5 up5=>?_
 have F5:=F.next I.stkFree (by rw [hstk];exact fl5) (up4.trans up5)
 exact k a cls a0 H' B h5 rfl hq F5 (I.call' (ch:=[]) ho F5.un (F5.hok.kept F5.fl.1) hg fun b z=>absurd z (by simp)) ho hg
theorem aGf {pins:List (Addr×Obj)}{σ1:St}{H1 H':Hp}{s1 s5:Shared}{B:Heap}{a:Addr}{cls a0:Value} (F:Fl X.prog X.w X.stack H1 H' s1 B a cls a0 s5.heap) (I:bI X pins σ1 H' s5):∃ oe,oe.cls=cls∧s5.heap.get? a=some oe∧H' a=none∧a≠X.env.locals∧a∉X.fs∧∀ v,oe.data≠.cell v:=by
 obtain ⟨oe,vs,e1,e2,e3,_⟩:=F.fl.first
 refine ⟨oe,e2,e1,?_,fun z=>?_,fun z=>?_,fun v q=>by rw [e3] at q;cases q⟩
 ·cases q:H' a with
  | none=>rfl
  | some o=>
   obtain ⟨ob,z⟩:=(F.hok a o q).there
   rw [F.fl.2.1] at z
   cases z
 ·obtain ⟨m,⟨o',es,ep,ho',hd',_⟩,_⟩:=I.loc
  rw [← z,e1] at ho'
  cases ho'
  rw [hd'] at e3
  cases e3
 ·obtain ⟨_,o',ho',nf⟩:=I.funs.mem z
  rw [e1] at ho'
  cases ho'
  exact nf vs e3
end
def tX (K:PySem.W.Frag) (mg:Str→Option Value) (EE:XK) (g:GX):TS:=fun E σ H=>∃ C0 H0 δ C,∃ De:DEX,(∀ c cls C' H',mg c=some cls→De.xc c→eN C0 H0 C' H'→EE cls none H')∧gU K C0 H0 δ σ C H∧g De δ∧Adm K C0 H0 E De.toDEnds
def tSt (K:PySem.W.Frag) (g:GS):TS:=fun E σ H=>∃ C0 H0 δ C De,gU K C0 H0 δ σ C H∧g De δ∧Adm K C0 H0 E De
theorem wZ.can {X:Cx}{EE:XK}{sts:List Stmt}{g:GX} (h:wZ X EE sts g):PSs X sts (tX X.K X.mg EE g):=by
 obtain ⟨t,p,h⟩:=h
 intro pins s σ H E I q
 obtain ⟨C0,H0,δ,C,De,te,rp,g,k⟩:=q
 exact p pins s σ H E I (h C0 H0 δ σ C H De E te rp g k)
theorem j2.can {X:Cx}{sts:List Stmt}{g:GS} (h:j2 X sts g):PSs X sts (tSt X.K g):=by
 obtain ⟨t,p,h⟩:=h
 intro pins s σ H E I q
 obtain ⟨C0,H0,δ,C,De,rp,g,k⟩:=q
 exact p pins s σ H E I (h C0 H0 δ σ C H De E rp g k)
theorem aLH {K:PySem.W.Frag}{C0 H0 C H:Hp} (n:Nat) (tb:TB K C0) (ex:eN C0 H0 C H):gU K C0 H0 (List.replicate n .un) (List.replicate n none) C H:=by
 refine ⟨tb,by simp,ex,fun i d e=>?_,fun i ds e=>?_,fun i j ds es l _ e _=>?_,Dcs.none fun i x e=>by
  rw [List.getElem?_replicate] at e
  split at e
  ·cases e;rfl
  ·cases e⟩
 ·rw [List.getElem?_replicate] at e;split at e <;> cases e
 ·rw [List.getElem?_replicate] at e;split at e <;> cases e
 ·rw [List.getElem?_replicate] at e;split at e <;> cases e
end L2
namespace L2
open PySem PySem.Spec PyProof.Rows PySem.W
open Builtin Builtin.ObjectAttr Builtin.Getset_descriptor
section
variable {prog:Program}{w:World}{A:Around}{E:Value→Shared→Prop}{K:Frag}{x C:Addr}{R:Result→Shared→Prop}{hh:Heap}{g:Array GenState}{dr:Drawn}{t:Nat}{os:OsState}{o:Obj}
theorem aI9 {tp:Value} (X:K.In hh) (ho:hh.get? x=some o) (hc:o.cls = .ref C) (hm:mroIn K C (.type "object")=some true)
  (h:R (.ok (.ret (.ref C))) ⟨hh,g,dr,t,os⟩):codeAny (model prog w) A (.call (.builtin "getset_descriptor.__get__") ⟨[.builtin "object.__class__",.ref x,tp],[]⟩) R ⟨hh,g,dr,t,os⟩:=by
 have L0:Looks (model prog w) hh (typeOf (.ref x)) (.ref C):=hc ▸ (Looks.ld ho).andThen .now
 have L1:=looks_mroIn (M:=model prog w) X hm
 refine codeAny_call_builtin KF.slot_gs.plain KF.entry_gs (KF.slot_gs.check _ _ _ _ _ _ _ _ KF.type_class (KF.args_gs _ _ _) ?_)
 unfold Builtin.«getset_descriptor.__get__» descrGet
 rw [dga_obj]
 refine wpAny_bind (wpAny_pure ?_)
 unfold descrGetter descrCheckInstance descrNameAndClass isInstance
 simp only [KF.owner_class]
 repeat lk
 refine ⟨Code.quiet_builtin _ (by decide +kernel),codeAny_builtin KF.entry_class ?_⟩
 unfold Builtin.«object.__class__» shownTypeOf
 repeat lk
 exact h
theorem aFZ {tk:Tok}{Q:Fin→Shared→Prop} (X:K.In hh) (ho:hh.get? x=some o) (hc:o.cls = .ref C) (hm:mroIn K C (.type "object")=some true) (hcl:findIn K (.ref C) "__class__"=some (some (.builtin "object.__class__")))
  (h:Q (.done (.ret (.ref C))) ⟨hh,g,dr,t,os⟩):wpAny (model prog w) A (Builtin.«object.__getattribute__» ⟨[.ref x,.str "__class__" tk],[]⟩) Q E ⟨hh,g,dr,t,os⟩:=by
 have f5:=F.typeOf_object_class
 have f6:=F.slot_gs_get.lookup
 have f7:=F.slot_gs_set.lookup
 have L1:=looks_findIn (M:=model prog w) X hcl
 repeat (any_goals (first | assumption | (with_reducible refine wpAny_loadPart_at ho ?_;rw [hc]) | with_reducible refine Looks.at L1 ?_ | wp_step))
 refine aI9 X ho hc hm ?_
 repeat (any_goals (first | assumption | wp_step))
theorem aFW {M:Model}{nameV:Value}{Q:Unit→Shared→Prop} (X:K.In hh) (ho:hh.get? x=some o) (hc:o.cls = .ref C) (hb:mroIn K C (.type "BaseException")=some true) (hq:Q () ⟨hh,g,dr,t,os⟩) :
  wpAny M A (checkBuiltinCall "BaseException.__getattribute__" ⟨[.ref x,nameV],[]⟩) Q E ⟨hh,g,dr,t,os⟩:=by
 have hk:builtinKind "BaseException.__getattribute__"=some .slot:=by decide +kernel
 have hsplit:splitId "BaseException.__getattribute__"=some ("BaseException","__getattribute__"):=by decide +kernel
 have L1:=looks_mroIn (M:=M) X hb
 have ha:=F.args_bexc_ga (.ref x) nameV
 simp only [checkBuiltinCall,hk,hsplit]
 refine wpAny_bind ?_
 unfold isInstance
 repeat (first | (with_reducible refine wpAny_loadPart_at ho ?_;rw [hc]) | with_reducible refine Looks.at L1 ?_ | wp_step)
 exact hq
theorem aHk {Q:Option Value→Shared→Prop} (X:K.In hh) (ho:hh.get? x=some o) (hc:o.cls = .ref C) (hm:mroIn K C (.type "object")=some true) (hb:mroIn K C (.type "BaseException")=some true) (hcl:findIn K (.ref C) "__class__"=some (some (.builtin "object.__class__")))
  (hga:findIn K (.ref C) "__getattribute__"=some (some (.builtin "BaseException.__getattribute__"))) (hgt:findIn K (.ref C) "__getattr__"=some none) (FB:ExcAttrBase "ValueError" [.type "ValueError",.type "Exception",.type "BaseException",.type "object"])
  (h:Q (some (.ref C)) ⟨hh,g,dr,t+1,os⟩):wpAny (model prog w) A (getAttr? (.ref x) "__class__") Q E ⟨hh,g,dr,t,os⟩:=by
 have L0:Looks (model prog w) hh (typeOf (.ref x)) (.ref C):=hc ▸ (Looks.ld ho).andThen .now
 have L1:=looks_findIn (M:=model prog w) X hga
 have L2:=looks_findIn (M:=model prog w) X hgt
 have f3:=FB.ga.bind (.ref x)
 have hx2:(Value.builtin "BaseException.__getattribute__" == Value.builtin "object.__getattribute__")=false:=by decide +kernel
 have hx1:(onTheHeap (Value.ref C) && Value.builtin "BaseException.__getattribute__" == Value.builtin "object.__getattribute__")=false:=by rw [hx2];rfl
 unfold getAttr? getAttrBy? getAttrBy
 refine wpAny_bind (wpAny_mkText (wpAny_bind (wpAny_attempt (wpAny_holding (wpAny_bind (L0.at (wpAny_bind (L1.at ?_))))))))
 dsimp only
 rw [if_neg (by rw [hx1];decide)]
 unfold getAttrByItsOwn hookBefore
 rw [if_pos (by rfl)]
 refine wpAny_bind (L2.at ?_)
 unfold callGetattribute boundAndCalled
 repeat (any_goals (first | assumption | wp_step))
 refine codeAny_call_builtin FB.ga.plain F.entry_bexc_ga (aFW X ho hc hb (aFZ X ho hc hm hcl ?_))
 repeat (any_goals (first | assumption | wp_step))
end
end L2
namespace L2
open PySem PySem.Spec PyProof.Rows
section
variable {X:Cx}{pins:List (Addr×Obj)}{σ:St}{H:Hp}{s:Shared}
theorem sK {M:Model}{A:Around}{E:Value→Shared→Prop}{i:Nat}{n:Str}{pos:Pos}{Q:Unit→Shared→Prop} (I:bI X pins σ H s) (hN:X.N.Nodup) (hi:X.N[i]? = some n) (hk:X.env.scope.names.lookup n=some .local)
  (h:∀ s',bI X pins (σ.set i none) H s'→Q () s'):wpAny M A (do bindName X.env n .none;unbindBehindTheSuite X.env n pos) Q E s:=by
 obtain ⟨m,hn,hl⟩:=id I.loc
 have hcls:(X.env.scope.kind == .class || (X.env.scope.kind == .module && X.env.locals != X.env.globals))=false:=by rw [I.ok.kind];rfl
 have hiσ:i<σ.length:=by rw [I.len];exact (List.getElem?_eq_some_iff.mp hi).1
 refine wpAny_nameGoes_keeps hk hn hcls fun h' v hn' hs=>?_
 obtain ⟨oL,_,_,hoL,_⟩:=id hn
 have old:∀ {b:Addr}{o:Obj},X.s₀.heap.get? b=some o→b≠X.env.locals:=fun {b o} e=>Nat.ne_of_lt (Nat.lt_of_lt_of_le (Heap.lt_size e) I.ok.above)
 refine h _ ⟨I.ok,I.os,I.bare,⟨fun b o e q hb hx=>?_,fun b o e q hb hx=>?_,I.base.free,fun b o e hx=>?_,I.base.tups,I.base.frzs,I.base.tbls⟩,⟨_,hn',fun j y v' e1 e2 e3=>?_⟩,fun y c e=>?_,I.free,I.freeC,fun p hp=>?_,fun b ob e=>?_,by simpa using I.len⟩
 ·exact (hs.2 b (old e)).trans (I.base.keep b o e q hb hx)
 ·obtain ⟨sl,e1⟩:=I.base.slot b o e q hb hx
  exact ⟨sl,(hs.2 b (old e)).trans e1⟩
 ·obtain ⟨o',e1⟩:=I.base.there b o e hx
  exact ⟨o',(hs.2 b (old e)).trans e1⟩
 ·by_cases hj:j=i
  ·subst hj
   rw [List.getElem?_set_self hiσ] at e2
   cases e2
  ·rw [List.getElem?_set_ne (Ne.symm hj)] at e2
   obtain ⟨u',r',q⟩:=hl j y v' e1 e2 e3
   refine ⟨u',r',?_⟩
   rcases q with ⟨k,e⟩ | ⟨k,c,e,z⟩
   ·refine .inl ⟨k,?_⟩
    have ny:y≠n:=fun e=>hj (z9 hN e1 (e ▸ hi))
    simp [ny,e]
   ·exact .inr ⟨k,c,e,z.sameBut hs (I.cne y c e)⟩
 ·obtain ⟨w',z⟩:=I.cell y c e
  exact ⟨w',z.sameBut hs (I.cne y c e)⟩
 ·obtain ⟨e,q,ne,nf,d⟩:=I.pin p hp
  exact ⟨(hs.2 p.1 ne).trans e,q,ne,nf,d⟩
 ·refine (I.hok b ob e).stay (fun c w' hc q=>(hs.2 c ?_).trans q) (fun _ q=>q) (fun _ _ q=>q) fun _ _ _ q=>q
  rintro rfl
  have fr:=I.free
  rcases hc with rfl | hc
  ·rw [fr] at e;cases e
  ·rw [fr] at hc;cases hc
end
structure aIV (K:PySem.W.Frag) (C:Addr):Prop where
 cl:(PySem.W.clsIn K C).isSome=true
 mo:PySem.W.mroIn K C (.type "object")=some true
 mb:PySem.W.mroIn K C (.type "BaseException")=some true
 ca:PySem.W.findIn K (.ref C) "__class__"=some (some (.builtin "object.__class__"))
 ga:PySem.W.findIn K (.ref C) "__getattribute__"=some (some (.builtin "BaseException.__getattribute__"))
 gt:PySem.W.findIn K (.ref C) "__getattr__"=some none
theorem aJX {K:PySem.W.Frag}{a C:Addr} (T:aIV K C):PySem.W.KitX K (.ref a) (.ref C) (fun h=>∃ o,h.get? a=some o∧o.cls = .ref C) where
 ty:=fun _ _ _ p=>by
  obtain ⟨o,h1,h2⟩:=p
  exact h2 ▸ (PySem.W.Looks.ld h1).andThen .now
 it:=fun _ _ X _=>by
  have z:=T.cl
  unfold PySem.W.clsIn at z
  split at z
  ·rename_i c' d' cd' sl' ho
   intro A' Q' E' s' k q
   unfold isType loadHead
   exact wpAny_bind (wpAny_loadPart (k _ _ (X _ _ ho)) (wpAny_pure q))
  ·cases z
 ne:=fun h tp dd its n sl X htp=>by
  refine Bool.eq_false_iff.mpr fun q=>?_
  have e:C=tp:=Value.ref.inj (beq_iff_eq.mp q)
  subst e
  have z:=T.cl
  unfold PySem.W.clsIn at z
  split at z
  ·rename_i c' d' cd' sl' ho
   have z2:=(X _ _ ho).symm.trans htp
   cases z2
  ·cases z
 ca:=fun {prog w A E Q s} X p k=>by
  obtain ⟨o,h1,h2⟩:=p
  obtain ⟨hh,g,dr,t,os⟩:=s
  exact aHk X h1 h2 T.mo T.mb T.ca T.ga T.gt PySem.F.attrBase_ValueError k
section
variable {X:Cx}{a:Addr}{oe:Obj}{C:Addr}{i:Nat}{n y:Str}{vy:V}{b:Bool}{p p1 p2 pos:Pos}
theorem aJL {cy:Value} (hp:(a,oe)∈X.pn) (hc:oe.cls = .ref C) (T:aIV X.K C) (ry:dD vy cy) (hk:PySem.W.kitOne X.K (.ref C) cy=some b) (hu:∀ u,dD vy u→u=cy):lJ X (.builtin "isinstance") (fun xs H Q=>xs=[.ref a,vy]∧Q (.bl b) H):=by
 intro pins s σ H xs us Q I r h
 obtain ⟨rfl,q⟩:=h
 obtain ⟨u,u2,rfl,rx,rc⟩:=aNn r
 cases rx
 rw [hu u2 rc]
 obtain ⟨e1,_⟩:=I.pin (a,oe) (List.mem_append_left _ hp)
 exact PySem.W.kia_one (aJX T) I.kIn ⟨oe,e1,hc⟩ hk (fun z=>nomatch z) fun tk=>⟨.bl b,H,I.tok tk,rfl,q⟩
theorem aFD {cy:Value} (hp:(a,oe)∈X.pn) (hc:oe.cls = .ref C) (T:aIV X.K C) (ry:dD vy cy) (hk:PySem.W.kitOne X.K (.ref C) cy=some b) (hu:∀ u,dD vy u→u=cy) (hn:PE X (.Name n p1) (aAw i)) (hy:PE X (.Name y p2) (tC vy))
  (hcall:∀ {t:TA}{r:List V→Hp→VK→Prop},lJ X (.builtin "isinstance") r→PA X [.Name n p1,.Name y p2] t→PE X (.Call (.Name "isinstance" p) [.Name n p1,.Name y p2] [] pos) (tCB r t)) :
  PT X (.Call (.Name "isinstance" p) [.Name n p1,.Name y p2] [] pos) (fun σ H Q=>σ[i]? = some (some (.ref a))∧Q b H):=by
 intro pins s σ H Q I h
 refine aMq (hcall (aJL hp hc T ry hk hu) (dO hn (dO hy gX))) (fun _=>rfl) pins s σ H Q I ?_
 exact ⟨.ref a,h.1,rfl,b,rfl,h.2⟩
end
def aA6.off (D:aA6) (i:Nat):aA6:={ nx:=fun σ H=>D.nx (σ.set i none) H,rt:=D.rt,bk:=fun σ H=>D.bk (σ.set i none) H,ct:=fun σ H=>D.ct (σ.set i none) H }
section
variable {X:Cx}{EE:XK}{body suite:List Stmt}{b₀:Stmt}{x n:Str}{i:Nat}{cl:Value}{np hpos pos:Pos}{tb:TS}{ts:Addr→Value→TS}
theorem aJQ (hstk:X.stack=X.env::X.outer) (hfr:X.env.frame=some X.env.locals) (hN:X.N.Nodup) (hi:X.N[i]? = some n) (hk:X.env.scope.names.lookup n=some .local) (hg:Gl X x) (hm:X.mg x=some cl) (hb:∀ pn xe,qO (CX1 X.prog X.w) (X.tr pn xe) EE→PSs (X.tr pn xe) body tb)
  (hs:∀ ev pn a oe cls H',(a,oe)∈pn→oe.cls=cls→EE cls none H'→PSs (X.su ev pn) (b₀::suite) (ts a cls)) (hdb:(x == ("__debug__":Str))=false:=by decide) :
  PS X (.Try body [.ExceptHandler (some (.Name x np)) (some n) (b₀::suite) hpos] [] [] pos) (fun D σ H=>tb D σ H∧∀ cls H',EE cls none H'→PySem.W.exmOne X.K cls cl=some true∧∀ a,ts a cls (D.off i) ((σ0 X).set i (some (.ref a))) H'):=by
 intro pins s σ H D I h
 obtain ⟨h1,h2⟩:=h
 have I':=I.tr (X.pn++pins) (fun e s'=>∃ σ1 H1 s1,bI X pins σ1 H1 s1∧CX1 X.prog X.w X.stack H1 s1 EE e s') fun p hp=>hp
 have hp:qO (CX1 X.prog X.w) (X.tr (X.pn++pins) (fun e s'=>∃ σ1 H1 s1,bI X pins σ1 H1 s1∧CX1 X.prog X.w X.stack H1 s1 EE e s')) EE:=fun pins0 σ1 H1 s1 e s' I1 hc=>⟨σ1,H1,s1,I1.untr fun p hp=>hp,hc⟩
 refine wpAny_Try_except (wpAny_mono (hb _ _ hp [] s σ H D I' h1) (fun f s1 q=>?_) (fun ev s1 q=>?_))
 ·have q':SP X pins D f s1:=SP.untr (fun p hp=>hp) q
  cases f with
  | next=>exact wpAny_execs_nil q'
  | brk=>exact q'
  | cont=>exact q'
  | ret u=>exact q'
 ·obtain ⟨σ1,H1,s0,I0,hc⟩:=q
  refine aE6 hstk hfr I0 hc fun a cls a0 H' B h5 ha hq F5 I5 ho hgn=>?_
  subst ha
  obtain ⟨hx,hts⟩:=h2 cls H' hq
  obtain ⟨oe5,c1,c2,c3⟩:=aGf (s5:={ s1 with heap:=h5 }) F5 I5
  have LT:PySem.W.Looks (model X.prog X.w) h5 (typeOf (.ref a)) cls:=by
   subst c1
   exact (PySem.W.Looks.ld c2).andThen .now
  have Im:=I5.su (.ref a) (X.pn++pins) fun p hp=>.inl hp
  refine wpAny_handleBy_cons (codeAny_handlers_test (zJ (X:=X.su (.ref a) (X.pn++pins)) Im hg hm ((PySem.W.exm_one I5.kIn LT hx).here ?_) hdb)) (by intro q;cases q)
  show codeAny _ _ (.handlers (.ref a) [.ExceptHandler none (some n) (b₀::suite) hpos] X.env) _ _
  refine codeAny_handlers_suite_as (lands_againW F5.fl fun h6 fl6 up6=>?_)
  have F6:=F5.next I0.stkFree fl6 up6
  have I6:bI X pins σ1 H' { s1 with heap:=h6 }:=I0.call' (ch:=[]) ho F6.un (F6.hok.kept F6.fl.1) hgn fun b z=>absurd z (by simp)
  obtain ⟨oe,d1,d2,d3⟩:=aGf (s5:={ s1 with heap:=h6 }) F6 I6
  have J:=I6.forget.su (.ref a) (X.pn++pins++[(a,oe)]) fun p hp=>by
   rcases List.mem_append.mp hp with z | z
   ·exact .inl z
   ·rw [List.mem_singleton.mp z]
    exact .inr ⟨d2,d3⟩
  have mem:∀ p∈X.pn++pins,p∈X.pn++pins++[(a,oe)]:=fun p hp=>List.mem_append_left _ hp
  refine rV (X:=X.su (.ref a) (X.pn++pins++[(a,oe)])) (v:=.ref a) J hN hi (.inl hk) rfl (fun s7 J7=>?_) (.inr hk)
  refine wpAny_mono (hs (.ref a) (X.pn++pins++[(a,oe)]) a oe cls H' (List.mem_append_right _ (List.mem_singleton.mpr rfl)) d1 hq [] s7 _ H' (D.off i) J7 (hts a)) (fun f s8 q=>?_) fun _ _ z=>False.elim z
  show wpAny _ _ (do bindName X.env n .none;unbindBehindTheSuite X.env n hpos) (fun _ s9=>SP X pins D f s9) _ s8
  cases f with
  | next=>obtain ⟨σ',H9,I9,q⟩:=q;exact sK (I9.unsu I.ok.hd mem) hN hi hk fun s9 I10=>⟨_,H9,I10,q⟩
  | brk=>obtain ⟨σ',H9,I9,q⟩:=q;exact sK (I9.unsu I.ok.hd mem) hN hi hk fun s9 I10=>⟨_,H9,I10,q⟩
  | cont=>obtain ⟨σ',H9,I9,q⟩:=q;exact sK (I9.unsu I.ok.hd mem) hN hi hk fun s9 I10=>⟨_,H9,I10,q⟩
  | ret u=>obtain ⟨v,σ',H9,I9,r,q⟩:=q;exact sK (I9.unsu I.ok.hd mem) hN hi hk fun s9 I10=>⟨v,_,H9,I10,r,q⟩
end
def DEnds.off (De:DEnds) (i:Nat):DEnds:={ nx:=fun δ=>De.nx (δ.set i .un),rt:=De.rt,bk:=fun δ=>De.bk (δ.set i .un),ct:=fun δ=>De.ct (δ.set i .un) }
def aAo (n i:Nat) (cov:Str→Prop) (tv:Str→Bool) (gb:GX) (gs:GS):GS:=fun De δ=>gb { De with xc:=fun c=>cov c∧if tv c=true then gs (De.off i) (List.replicate n .un) else De.nx ((List.replicate n Sl.un).set i .un) } δ
theorem gU.off {K:PySem.W.Frag}{C0 H0 δ σ C H} (R:gU K C0 H0 δ σ C H) (i:Nat):gU K C0 H0 (δ.set i .un) (σ.set i none) C H:=by
 refine ⟨R.tb,by simp [R.len],R.ext,fun j d e=>?_,fun j ds e=>?_,fun j k ds es l hjk h1 h2 h3=>?_,R.dc.set2 rfl⟩
 ·rcases bC e with ⟨_,z,_⟩ | ⟨hj,e⟩
  ·cases z
  ·obtain ⟨v,a,b⟩:=R.im j d e
   exact ⟨v,by rw [List.getElem?_set_ne (Ne.symm hj)];exact a,b⟩
 ·rcases bC e with ⟨_,z,_⟩ | ⟨hj,e⟩
  ·cases z
  ·obtain ⟨l,xs,a,b⟩:=R.ow j ds e
   exact ⟨l,xs,by rw [List.getElem?_set_ne (Ne.symm hj)];exact a,b⟩
 ·rcases bC h1 with ⟨_,z,_⟩ | ⟨hj,h1⟩
  ·cases z
  ·rcases bC h2 with ⟨_,z,_⟩ | ⟨hk,h2⟩
   ·cases z
   ·rw [List.getElem?_set_ne (Ne.symm hj)] at h3
    rw [List.getElem?_set_ne (Ne.symm hk)]
    exact R.ap j k ds es l hjk h1 h2 h3
theorem gU.any {K:PySem.W.Frag}{C0 H0 δ σ C H} (R:gU K C0 H0 δ σ C H) {i:Nat}{o:Option V} (h:∀ x,δ[i]? = some x→x = .un):gU K C0 H0 δ (σ.set i o) C H:=by
 refine ⟨R.tb,by simp [R.len],R.ext,fun j d e=>?_,fun j ds e=>?_,fun j k ds es l hjk h1 h2 h3=>?_,fun j m e=>?_,fun j m e=>?_,fun j k m n l hjk h1 h2 h3=>?_⟩
 rotate_left 3
 ·have hj:j≠i:=fun z=>by rw [z] at e;have:=h _ e;cases this
  rw [List.getElem?_set_ne (Ne.symm hj)]
  exact R.dc.od j m e
 ·have hj:j≠i:=fun z=>by rw [z] at e;have:=h _ e;cases this
  rw [List.getElem?_set_ne (Ne.symm hj)]
  exact R.dc.fd j m e
 ·have hj:j≠i:=fun z=>by rw [z] at h1;have:=h _ h1;cases this
  have hk:k≠i:=fun z=>by rw [z] at h2;have:=h _ h2;cases this
  rw [List.getElem?_set_ne (Ne.symm hj)] at h3
  rw [List.getElem?_set_ne (Ne.symm hk)]
  exact R.dc.ap j k m n l hjk h1 h2 h3
 ·have hj:j≠i:=fun z=>by rw [z] at e;have:=h _ e;cases this
  obtain ⟨v,a,b⟩:=R.im j d e
  exact ⟨v,by rw [List.getElem?_set_ne (Ne.symm hj)];exact a,b⟩
 ·have hj:j≠i:=fun z=>by rw [z] at e;have:=h _ e;cases this
  obtain ⟨l,xs,a,b⟩:=R.ow j ds e
  exact ⟨l,xs,by rw [List.getElem?_set_ne (Ne.symm hj)];exact a,b⟩
 ·have hj:j≠i:=fun z=>by rw [z] at h1;have:=h _ h1;cases this
  have hk:k≠i:=fun z=>by rw [z] at h2;have:=h _ h2;cases this
  rw [List.getElem?_set_ne (Ne.symm hj)] at h3
  rw [List.getElem?_set_ne (Ne.symm hk)]
  exact R.ap j k ds es l hjk h1 h2 h3
theorem Adm.off {K:PySem.W.Frag}{C0 H0:Hp}{E:aA6}{De:DEnds} (k:Adm K C0 H0 E De) (i:Nat):Adm K C0 H0 (E.off i) (De.off i):=
 ⟨fun δ σ C H rp q=>k.nx _ _ C H (rp.off i) q,k.rt,fun δ σ C H rp q=>k.bk _ _ C H (rp.off i) q,fun δ σ C H rp q=>k.ct _ _ C H (rp.off i) q⟩
theorem aI2 {X:Cx}{body sts:List Stmt}{test:Expr}{ipos:Pos}{x nm:Str}{cl:Value}{np hpos pos:Pos}{n i:Nat}{cov:Str→Prop}{tv:Str→Bool}{gb:GX}{gs:GS} (hn:X.N.length=n) (hstk:X.stack=X.env::X.outer) (hfr:X.env.frame=some X.env.locals)
  (hN:X.N.Nodup) (hi:X.N[i]? = some nm) (hk:X.env.scope.names.lookup nm=some .local) (hg:Gl X x) (hm:X.mg x=some cl) (hcov:∀ c cls,cov c→X.mg c=some cls→PySem.W.exmOne X.K cls cl=some true)
  (hb:∀ EE pn xe,qO (CX1 X.prog X.w) (X.tr pn xe) EE→wZ (X.tr pn xe) EE body gb) (ht:∀ ev pn a oe c cls,(a,oe)∈pn→oe.cls=cls→cov c→X.mg c=some cls→PT (X.su ev pn) test (fun σ H Q=>σ[i]? = some (some (.ref a))∧Q (tv c) H))
  (hs:∀ ev pn,j2 (X.su ev pn) sts gs) (hdb:(x == ("__debug__":Str))=false:=by decide) :
  DSt X (.Try body [.ExceptHandler (some (.Name x np)) (some nm) [.If test sts [] ipos] hpos] [] [] pos) (aAo n i cov tv gb gs):=by
 have hil:i<n:=by rw [← hn];exact (List.getElem?_eq_some_iff.mp hi).1
 refine ⟨fun D σ H=>∃ (C0 H0:Hp) (De:DEnds),TB X.K C0∧Adm X.K C0 H0 D De∧tX X.K X.mg (fun cls _ H'=>∃ c C',X.mg c=some cls∧cov c∧(if tv c=true then gs (De.off i) (List.replicate n .un) else De.nx ((List.replicate n Sl.un).set i .un))∧eN C0 H0 C' H') gb D σ H,fun pins s σ H D I q=>?_,fun C0 H0 δ σ C H De E rp g k=>?_⟩
 ·obtain ⟨C0,H0,De,tb0,k,q⟩:=q
  refine aJQ (EE:=fun cls _ H'=>∃ c C',X.mg c=some cls∧cov c∧(if tv c=true then gs (De.off i) (List.replicate n .un) else De.nx ((List.replicate n Sl.un).set i .un))∧eN C0 H0 C' H') (ts:=fun a cls D σ H=>σ[i]? = some (some (.ref a))∧∃ c,cov c∧X.mg c=some cls∧if tv c=true then tSt X.K gs D σ H else D.nx σ H)
   hstk hfr hN hi hk hg hm (fun pn xe hp=>(hb _ pn xe hp).can) (fun ev pn a oe cls H' hpin hcl hq=>?_) hdb pins s σ H D I ⟨q,fun cls H' hq=>?_⟩
  ·intro pins s σ H D I h
   obtain ⟨h1,c,hc,hmc,h2⟩:=h
   refine aCt (aIO (ht ev pn a oe c cls hpin hcl hc hmc) (hs ev pn).can aGh) pins s σ H D I ⟨h1,?_⟩
   cases tvc:tv c with
   | true=>
    rw [tvc,if_pos rfl] at h2
    exact aEC h2
   | false=>
    rw [tvc,if_neg Bool.false_ne_true] at h2
    exact aHf h2
  ·obtain ⟨c,C',hmc,hc,hq,ex⟩:=hq
   refine ⟨hcov c cls hc hmc,fun a=>⟨?_,c,hc,hmc,?_⟩⟩
   ·unfold σ0
    rw [List.getElem?_set_self (by rw [List.length_replicate,hn];exact hil)]
   ·have rp:gU X.K C0 H0 (List.replicate n .un) ((σ0 X).set i (some (.ref a))) C' H':=by
     unfold σ0
     rw [hn]
     refine (aLH n tb0 ex).any fun z e=>?_
     rw [List.getElem?_replicate] at e
     split at e
     ·first | (cases e;done) | (cases e;rfl)
     ·first | (cases e;done) | (cases e;rfl)
    cases tvc:tv c with
    | true=>
     rw [tvc,if_pos rfl] at hq
     rw [if_pos rfl]
     exact ⟨C0,H0,_,C',De.off i,rp,hq,k.off i⟩
    | false=>
     rw [tvc,if_neg Bool.false_ne_true] at hq
     rw [if_neg Bool.false_ne_true]
     exact (k.off i).nx _ _ C' H' rp hq
 ·exact ⟨C0,H0,De,rp.tb,k,C0,H0,δ,C,{ De with xc:=fun c=>cov c∧if tv c=true then gs (De.off i) (List.replicate n .un) else De.nx ((List.replicate n Sl.un).set i .un) },fun c cls C' H' hmc hx ex=>⟨c,C',hmc,hx.1,hx.2,ex⟩,rp,g,k⟩
mutual
def noL:D→Bool
 | .lst _=>false
 | .tup ds=>aMt ds
 | _=>true
def aMt:List D→Bool
 | []=>true
 | d::ds=>noL d && aMt ds
end
section
variable {X:Cx}{e:Expr}{ge:GE}{gt:GT}{gf:GF}
def aIj (i:Nat) (ge:GE):GE:=fun δ Q=>match δ[i]? with
 | some (.ow ds)=>ge (δ.set i (.im (.lst ds))) fun d=>noL d=true∧Q d
 | _=>False
def aFk (i:Nat) (gt:GT):GT:=fun δ Q=>match δ[i]? with
 | some (.ow ds)=>gt (δ.set i (.im (.lst ds))) Q
 | _=>False
def aFs (i:Nat) (gf:GF):GF:=fun δ Q=>match δ[i]? with
 | some (.ow ds)=>gf (δ.set i (.im (.lst ds))) fun es=>aMt es=true∧Q es
 | _=>False
end
section
variable {X:Cx}{st:Stmt}{i:Nat}{gf:GF}{tg iter elt:Expr}{pos:Pos}{ge:GE}{gi:GF}{gt:GT}{gg:GG}{scope:Scope}{Nc:List Str}{fr:List (Option Nat)}{ss:List Nat}
end
def jE:D→Option (List Int)
 | .tup ds=>iE ds
 | _=>none
def yG:List D→Option (List (List Int))
 | []=>some []
 | d::ds=>match jE d,yG ds with
  | some r,some rs=>some (r::rs)
  | _,_=>none
def qR:D→Option (List Int×List (List Int))
 | .tup [a,.tup ps]=>match jE a,yG ps with
  | some ns,some pay=>some (ns,pay)
  | _,_=>none
 | _=>none
theorem cJ (r:List Int):jE (aE r)=some r:=h8 r
theorem jU {d:D}{r:List Int} (h:jE d=some r):d=aE r:=by
 unfold jE at h
 split at h
 ·rw [kA h]
 ·cases h
theorem vZ:∀ rs:List (List Int),yG (rs.map aE)=some rs
 | []=>rfl
 | r::rs=>by rw [List.map_cons,yG,cJ,vZ rs]
theorem vC:∀ {ds:List D}{rs:List (List Int)},yG ds=some rs→ds=rs.map aE
 | [],rs,h=>by cases h;rfl
 | d::ds,rs,h=>by
  unfold yG at h
  split at h
  ·rename_i r rs' e1 e2
   cases h
   rw [jU e1,vC e2]
   rfl
  ·cases h
theorem qE (ns:List Int) (pay:List (List Int)):qR (aU ns pay)=some (ns,pay):=by
 unfold aU qR
 simp only [cJ,vZ]
theorem pV {d:D}{ns:List Int}{pay:List (List Int)} (h:qR d=some (ns,pay)):d=aU ns pay:=by
 unfold qR at h
 split at h
 ·split at h
  ·rename_i e1 e2
   cases h
   rw [jU e1,vC e2]
  ·cases h
 ·cases h
open Classical in
noncomputable def bX (m:D) (f:List Int→List (List Int)→Option D):Option D:=match qR m with
 | some (ns,pay)=>if aY ns pay then f ns pay else none
 | none=>none
def tS (ns:List Int) (d:D) (f:List Int→Option D):Option D:=match jE d with
 | some r=>if r∈aM ns then f r else none
 | none=>none
def pN (n:Nat) (d:D) (f:Nat→Option D):Option D:=match d with
 | .int h=>if 0≤h∧h<n then f h.toNat else none
 | _=>none
theorem cM {ns:List Int}{pay:List (List Int)}{f:List Int→List (List Int)→Option D} (h:aY ns pay):bX (aU ns pay) f=f ns pay:=by
 unfold bX
 rw [qE]
 exact if_pos h
theorem cS {m d:D}{f:List Int→List (List Int)→Option D} (h:bX m f=some d):∃ ns pay,m=aU ns pay∧aY ns pay∧f ns pay=some d:=by
 unfold bX at h
 split at h
 ·rename_i ns pay e
  split at h
  ·rename_i ho
   exact ⟨ns,pay,pV e,ho,h⟩
  ·cases h
 ·cases h
theorem pX {ns r:List Int}{f:List Int→Option D} (h:r∈aM ns):tS ns (aE r) f=f r:=by
 unfold tS
 rw [cJ]
 exact if_pos h
theorem qK {ns:List Int}{m d:D}{f:List Int→Option D} (h:tS ns m f=some d):∃ r,m=aE r∧r∈aM ns∧f r=some d:=by
 unfold tS at h
 split at h
 ·rename_i r e
  split at h
  ·rename_i ho
   exact ⟨r,jU e,ho,h⟩
  ·cases h
 ·cases h
theorem lO {n h:Nat}{f:Nat→Option D} (hh:h<n):pN n (.int h) f=f h:=by
 show (if (0:Int)≤(h:Int)∧(h:Int)<n then f (h:Int).toNat else none)=f h
 rw [if_pos ⟨by omega,by omega⟩]
 rfl
theorem lS {n:Nat}{m d:D}{f:Nat→Option D} (h:pN n m f=some d):∃ k:Nat,m = .int k∧k<n∧f k=some d:=by
 unfold pN at h
 split at h
 ·rename_i i
  split at h
  ·rename_i ho
   exact ⟨i.toNat,by rw [Int.toNat_of_nonneg ho.1],by omega,h⟩
  ·cases h
 ·cases h
def iX (ns:List Int) (pay:List (List Int)) (r:List Int):List Int:=pay.getD ((aM ns).idxOf r) []
def bF (ns:List Int) (pay:List (List Int)) (r:List Int) (h:Nat):Int:=(iX ns pay r).getD h 0
def bG (ns:List Int) (h:Nat):List Int:=(List.range (ns.getD h 0).toNat).map fun (k:Nat)=>(k:Int)
noncomputable def jC:List D→Option D
 | [m,r]=>bX m fun ns pay=>tS ns r fun r=>some (aE (iX ns pay r))
 | _=>none
noncomputable def cG:List D→Option D
 | [m,r]=>bX m fun ns pay=>tS ns r fun r=>some (aE (iX ns pay r))
 | _=>none
def eZ:List D→Option D
 | [d,.int h,.int k]=>match jE d with
  | some r=>if r.length≤1000∧0≤h∧h<r.length then some (aE (r.set h.toNat k)) else none
  | none=>none
 | _=>none
theorem aAj:∀ (ms:List Int) (r:List Int),aAH ms.reverse r→r∈aM ms.reverse
 | [],r,h=>by
  have:r=[]:=List.eq_nil_of_length_eq_zero h.1
  subst this
  simp [aM]
 | m::ms,r,h=>by
  rw [List.reverse_cons] at h ⊢
  rw [oC]
  have hl:r.length=ms.reverse.length+1:=by rw [h.1,List.length_append];rfl
  have hne:r≠[]:=fun z=>by rw [z] at hl;simp at hl
  have er:=(List.dropLast_concat_getLast hne).symm
  generalize hx:r.getLast hne=x at er
  generalize hd:r.dropLast=r0 at er
  have hl0:r0.length=ms.reverse.length:=by rw [er,List.length_append] at hl;simpa using hl
  subst er
  have h0:aAH ms.reverse r0:=⟨hl0,fun i y n e1 e2=>h.2 i y n (by rw [List.getElem?_append_left ((List.getElem?_eq_some_iff.mp e1).1)];exact e1) (by rw [List.getElem?_append_left ((List.getElem?_eq_some_iff.mp e2).1)];exact e2)⟩
  have hk:=h.2 r0.length x m (by simp) (by rw [hl0];simp)
  unfold dN
  refine List.mem_flatMap.mpr ⟨r0,aAj ms r0 h0,List.mem_map.mpr ⟨x.toNat,List.mem_range.mpr (by omega),?_⟩⟩
  rw [Int.toNat_of_nonneg hk.1]
theorem aE9 {ns r:List Int} (h:aAH ns r):r∈aM ns:=by
 have:=aAj ns.reverse r (by rw [List.reverse_reverse];exact h)
 rwa [List.reverse_reverse] at this
theorem gH {ns r:List Int} (h:r∈aM ns):r.length=ns.length:=(wL h).1
theorem zO {ns r:List Int} (h:r∈aM ns) {i:Nat}{k:Int} (h0:0≤k) (h1:k<ns.getD i 0):r.set i k∈aM ns:=by
 have q:=wL h
 refine aE9 ⟨by rw [List.length_set];exact q.1,fun j x n e1 e2=>?_⟩
 rcases bC e1 with ⟨rfl,e3,hl⟩ | ⟨hj,e3⟩
 ·subst e3
  rw [List.getD_eq_getElem?_getD,e2] at h1
  exact ⟨h0,h1⟩
 ·exact q.2 j x n e3 e2
theorem aGD (i j:Int):oP (.int i) (.int j)=some (i == j):=by unfold oP;rfl
theorem aB7:∀ (a b:List Int),pQ (a.map D.int) (b.map D.int)=some ((a.zip b).all fun p=>p.1 == p.2)
 | [],_=>by unfold pQ;rfl
 | _::_,[]=>by unfold pQ;rfl
 | x::a,y::b=>by
  rw [List.map_cons,List.map_cons,pQ,aGD,aB7 a b]
  rfl
theorem aCn:∀ (a b:List Int),(((a.zip b).all fun p=>p.1 == p.2) && a.length == b.length)=(a == b)
 | [],[]=>rfl
 | [],_::_=>rfl
 | _::_,[]=>rfl
 | x::a,y::b=>by
  have:=aCn a b
  rw [List.zip_cons_cons,List.all_cons,List.length_cons,List.length_cons,List.cons_beq_cons,← this,Bool.and_assoc]
  congr 2
  simp
theorem xK (a b:List Int):oP (aE a) (aE b)=some (a == b):=by
 unfold aE oP
 rw [aB7,List.length_map,List.length_map,Option.map_some,aCn]
theorem qM (r:List Int):∀ rs:List (List Int),wI (aE r) (rs.map aE)=some (rs.map fun x=>x == r)
 | []=>rfl
 | x::rs=>by
  rw [List.map_cons,wI,xK,qM r rs]
  rfl
theorem aAy (r:List Int):∀ {rs:List (List Int)},r∈rs→uN (rs.map fun x=>x == r)=some (rs.idxOf r)
 | x::rs,h=>by
  rw [List.map_cons,List.idxOf_cons]
  cases e:(x == r) with
  | true=>rfl
  | false=>
   have hm:r∈rs:=by
    rcases List.mem_cons.mp h with rfl | h
    ·simp at e
    ·exact h
   unfold uN
   rw [aAy r hm]
   rfl
theorem xO:∀ ns:List Int,k8 (ns.map D.int)=0
 | []=>by unfold k8;rfl
 | n::ns=>by
  rw [List.map_cons,k8,xO ns]
  unfold pZ
  rfl
theorem qB (r:List Int):pZ (aE r)=1:=by
 unfold aE pZ
 rw [xO]
theorem nU:∀ rs:List (List Int),k8 (rs.map aE)≤1
 | []=>by rw [List.map_nil,k8];omega
 | r::rs=>by
  rw [List.map_cons,k8,qB]
  have:=nU rs
  omega
theorem bP {α:Type}{l:List α}{i:Nat} (h:i<l.length) (d:α):l.getD i d=l[i]:=by
 rw [List.getD_eq_getElem?_getD,List.getElem?_eq_getElem h,Option.getD_some]
theorem zZ {l:List D}{i:Nat} (h:i<l.length):gL l (i:Int)=some l[i]:=by
 simp [gL,ixN,h]
theorem dC {l:List Int}{i:Nat} (h:i<l.length):gL (l.map D.int) (i:Int)=some (.int (l.getD i 0)):=by
 rw [zZ (by rw [List.length_map];exact h),List.getElem_map,bP h]
theorem aAG {l:List (List Int)}{i:Nat} (h:i<l.length):gL (l.map aE) (i:Int)=some (aE (l.getD i [])):=by
 rw [zZ (by rw [List.length_map];exact h),List.getElem_map,bP h]
section
variable {ns:List Int}{pay:List (List Int)}{r:List Int}{h:Nat}
theorem aA2 (ho:aY ns pay) (hr:r∈aM ns):(aM ns).idxOf r<pay.length:=by
 rw [ho.many]
 exact List.idxOf_lt_length_of_mem hr
theorem iR (ho:aY ns pay) (hr:r∈aM ns):(iX ns pay r).length=ns.length∧∀ x∈iX ns pay r, -9≤x∧x≤9:=by
 unfold iX
 rw [bP (aA2 ho hr)]
 exact ho.rows _ (List.getElem_mem _)
theorem oF {k:Int}:k∈bG ns h↔0≤k∧k<ns.getD h 0:=by
 unfold bG
 rw [List.mem_map]
 constructor
 ·rintro ⟨j,hj,rfl⟩
  have:=List.mem_range.mp hj
  omega
 ·intro hk
  exact ⟨k.toNat,List.mem_range.mpr (by omega),by omega⟩
theorem aA0 (ho:aY ns pay) (hh:h<ns.length):1≤ns.getD h 0∧ns.getD h 0≤3:=by
 rw [bP hh]
 exact (bU ho.ok).2 _ (List.getElem_mem hh)
theorem vX {i:Nat} (hi:i<r.length):r.set i (r.getD i 0)=r:=by
 rw [bP hi]
 exact List.set_getElem_self hi
end
theorem mR {ns:List Int}{h:Nat}:cA 0 (ns.getD h 0).toNat=(bG ns h).map D.int:=by
 unfold cA bG
 rw [List.map_map]
 refine List.map_congr_left fun k _=>?_
 simp
def Bd (k:Nat) (i:Int):Prop:=i.natAbs<2 ^ k
theorem Bd.mono {a b:Nat}{i:Int} (h:Bd a i) (hab:a≤b):Bd b i:=Nat.lt_of_lt_of_le h (Nat.pow_le_pow_right (by decide) hab)
theorem Bd.mul {a b:Nat}{i j:Int} (h1:Bd a i) (h2:Bd b j):Bd (a+b) (i * j):=by
 unfold Bd at *
 rw [Int.natAbs_mul,Nat.pow_add]
 exact Nat.mul_lt_mul_of_lt_of_le h1 (Nat.le_of_lt h2) (Nat.two_pow_pos b)
theorem Bd.neg {a:Nat}{i:Int} (h:Bd a i):Bd a (-i):=by
 unfold Bd at *
 rw [Int.natAbs_neg]
 exact h
theorem Bd.add {a:Nat}{i j:Int} (h1:Bd a i) (h2:Bd a j):Bd (a+1) (i+j):=by
 unfold Bd at *
 have:=Int.natAbs_add_le i j
 rw [Nat.pow_succ]
 omega
theorem Bd.sub {a:Nat}{i j:Int} (h1:Bd a i) (h2:Bd a j):Bd (a+1) (i-j):=by
 rw [Int.sub_eq_add_neg]
 exact h1.add h2.neg
theorem Bd.of_le {a:Nat}{i j:Int} (h:Bd a j) (h0:0≤i) (h1:i≤j):Bd a i:=by
 unfold Bd at *
 omega
theorem Bd.abs {a:Nat}{i j:Int} (h:Bd a j) (h1:i.natAbs≤j.natAbs):Bd a i:=Nat.lt_of_le_of_lt h1 h
theorem Bd.bits {a:Nat}{i:Int} (h:Bd a i):Builtin.Int.intBits i≤a:=by
 unfold Builtin.Int.intBits
 split
 ·exact Nat.zero_le _
 ·rename_i hz
  have h0:i.natAbs≠0:=by
   intro z
   exact hz (by rw [Int.natAbs_eq_zero.mp z];rfl)
  exact (Nat.log2_lt h0).mpr h
theorem Bd.log {a:Nat}{i:Int} (h:Bd a i) (ha:0<a):i.natAbs.log2<a:=by
 by_cases h0:i.natAbs=0
 ·rw [h0]
  exact ha
 ·exact (Nat.log2_lt h0).mpr h
theorem Bd.pow {a:Nat}{i:Int} (h:Bd a i):∀ n:Nat,Bd (a * n+1) (i ^ n)
 | 0=>by rw [Int.pow_zero];show (1:Nat)<2 ^ (a * 0+1);rw [Nat.mul_zero];decide
 | n+1=>by
  have:=(Bd.pow h n).mul h
  rw [Int.pow_succ]
  exact this.mono (by rw [Nat.mul_succ];omega)
def aGk (i j:Int):Prop:=aHn i j∨(Bd 8000 i∧Bd 8000 j)
def aLC (i j:Int):Prop:=0<j∧Bd 8000 j
theorem aGk.ok {i j:Int} (h:aGk i j):IntMulOk i j:=by
 rcases h with h | ⟨h1,h2⟩
 ·exact h.ok
 ·exact PySem.IntMulOk.of_bits (Nat.le_trans h1.bits (by decide)) (Nat.le_trans h2.bits (by decide))
section
variable {X:Cx}
theorem aLm:tO X (binaryOp .Mult) (rI aGk fun i j=>.int (i * j)):=opI fun _ _ _ _ _ _ _ hc q=>mul_int q hc.ok
theorem aIM:tO X (binaryOp .FloorDiv) (rI aLC fun i j=>.int (i / j)):=opI fun i j _ _ _ _ _ hc q=>by
 have h1:(0:Int)<j:=hc.1
 exact floordiv_int (by omega) (by rw [Int.fdiv_eq_ediv_of_nonneg i (by omega)];exact q) (.inl (PyProof.noPylong_of_log2 (Nat.lt_of_lt_of_le (hc.2.log (by decide)) (by decide))))
abbrev mY:GO:=yA aGk fun i j=>.int (i * j)
abbrev aCa:GO:=yA aLC fun i j=>.int (i / j)
theorem g9:DOp X (binaryOp .Mult) mY:=wJ aLm
theorem vE:DOp X (binaryOp .FloorDiv) aCa:=wJ aIM
end
end L2
namespace L2
def g6 (f:Nat→Nat):Nat→Nat→Nat
 | 0,s=>s
 | t+1,s=>g6 f t (f s)
theorem mF (f:Nat→Nat):∀ (a b s:Nat),g6 f (a+b) s=g6 f b (g6 f a s)
 | 0,b,s=>by rw [Nat.zero_add];rfl
 | a+1,b,s=>by
  rw [Nat.add_right_comm]
  exact mF f a b (f s)
theorem pK {f:Nat→Nat}{N:Nat} (hf:∀ s,s<N→f s<N):∀ (t s:Nat),s<N→g6 f t s<N
 | 0,s,h=>h
 | t+1,s,h=>pK hf t (f s) (hf s h)
def fst (d:Rat) (g:Nat→Rat) (f:Nat→Nat):Nat→Nat→Rat
 | 0,_=>0
 | n+1,s=>(1-d) * g s+d * fst d g f n (f s)
def Sol (N:Nat) (d:Rat) (g:Nat→Rat) (f:Nat→Nat) (W:Nat→Rat):Prop:=∀ s,s<N→W s=(1-d) * g s+d * W (f s)
section
variable {N:Nat}{d:Rat}{g:Nat→Rat}{f:Nat→Nat}{W V:Nat→Rat}
theorem Sol.unroll (h:Sol N d g f W) (hf:∀ s,s<N→f s<N):∀ (n s:Nat),s<N→W s=fst d g f n s+d ^ n * W (g6 f n s)
 | 0,s,hs=>by
  show W s=0+d ^ 0 * W s
  grind
 | n+1,s,hs=>by
  have e:=h.unroll hf n (f s) (hf s hs)
  have e0:=h s hs
  show W s=((1-d) * g s+d * fst d g f n (f s))+d ^ (n+1) * W (g6 f n (f s))
  rw [e0,Rat.pow_succ]
  grind
theorem lY (h0:0<d) (h1:d<1):∀ n:Nat,0<n→d ^ n<1∧0<d ^ n
 | 0,h=>absurd h (Nat.lt_irrefl 0)
 | 1,_=>by rw [Rat.pow_succ,Rat.pow_zero];grind
 | n+2,_=>by
  obtain ⟨a,b⟩:=lY h0 h1 (n+1) (Nat.succ_pos n)
  rw [Rat.pow_succ]
  have c:d ^ (n+1) * d<1 * d:=by
   have:=Rat.mul_lt_mul_of_pos_right a h0
   exact this
  have e:0<d ^ (n+1) * d:=Rat.mul_pos b h0
  grind
theorem aDU (h0:0<d):∀ n:Nat,0<d ^ n
 | 0=>by rw [Rat.pow_zero];grind
 | n+1=>by rw [Rat.pow_succ];exact Rat.mul_pos (aDU h0 n) h0
theorem xQ:∀ (N:Nat) (q:Nat→Nat),(∀ i,i≤N→q i<N)→∃ i j,i<j∧j≤N∧q i=q j
 | 0,q,h=>absurd (h 0 (Nat.le_refl 0)) (Nat.not_lt_zero _)
 | N+1,q,h=>by
  by_cases hd:∃ i,i≤N∧q i=q (N+1)
  ·obtain ⟨i,hi,e⟩:=hd
   exact ⟨i,N+1,by omega,Nat.le_refl _,e⟩
  ·-- move the last value away
   have hd':∀ i,i≤N→q i≠q (N+1):=fun i hi e=>hd ⟨i,hi,e⟩
   have hl:=h (N+1) (Nat.le_refl _)
   obtain ⟨i,j,hij,hj,e⟩:=xQ N (fun i=>if q i=N then q (N+1) else q i) fun i hi=>by
    have h1:=h i (by omega)
    have h2:=hd' i hi
    show (if q i=N then q (N+1) else q i)<N
    split <;> omega
   refine ⟨i,j,hij,by omega,?_⟩
   have h1:=hd' i (by omega)
   have h2:=hd' j hj
   have e:(if q i=N then q (N+1) else q i)=(if q j=N then q (N+1) else q j):=e
   split at e <;> split at e <;> omega
theorem sM (hf:∀ s,s<N→f s<N) {s:Nat} (hs:s<N):∃ i P,0<P∧i+P≤N∧g6 f P (g6 f i s)=g6 f i s:=by
 obtain ⟨i,j,hij,hj,e⟩:=xQ N (fun t=>g6 f t s) fun t _=>pK hf t s hs
 refine ⟨i,j-i,by omega,by omega,?_⟩
 rw [← mF,show i+(j-i)=j by omega]
 exact e.symm
theorem Sol.uniq (h0:0<d) (h1:d<1) (hf:∀ s,s<N→f s<N) (hW:Sol N d g f W) (hV:Sol N d g f V) {s:Nat} (hs:s<N):W s=V s:=by
 obtain ⟨i,P,hP,_,e⟩:=sM hf hs
 have hc:=pK hf i s hs
 have a1:=hW.unroll hf P (g6 f i s) hc
 have a2:=hV.unroll hf P (g6 f i s) hc
 have b1:=hW.unroll hf i s hs
 have b2:=hV.unroll hf i s hs
 rw [e] at a1 a2
 obtain ⟨p1,p2⟩:=lY h0 h1 P hP
 have:(1-d ^ P) * (W (g6 f i s)-V (g6 f i s))=0:=by grind
 have hne:(1-d ^ P)≠0:=by grind
 have:W (g6 f i s)=V (g6 f i s):=by grind
 rw [b1,b2,this]
theorem aFF {B:Rat} (h0:0<d) (h1:d<1) (hf:∀ s,s<N→f s<N) (hg:∀ s,s<N→g s≤B):∀ (n s:Nat),s<N→fst d g f n s≤(1-d ^ n) * B
 | 0,s,hs=>by
  show (0:Rat)≤(1-d ^ 0) * B
  rw [Rat.pow_zero]
  grind
 | n+1,s,hs=>by
  have e:=aFF h0 h1 hf hg n (f s) (hf s hs)
  have a:=hg s hs
  show (1-d) * g s+d * fst d g f n (f s)≤_
  have b:d * fst d g f n (f s)≤d * ((1-d ^ n) * B):=Rat.mul_le_mul_of_nonneg_left e (Rat.le_of_lt h0)
  have c:(1-d) * g s≤(1-d) * B:=Rat.mul_le_mul_of_nonneg_left a (by grind)
  rw [Rat.pow_succ]
  grind
theorem Sol.neg (h:Sol N d g f W):Sol N d (fun s=>- g s) f (fun s=>- W s):=fun s hs=>by
 have:=h s hs
 grind
theorem Sol.le {B:Rat} (h0:0<d) (h1:d<1) (hf:∀ s,s<N→f s<N) (hW:Sol N d g f W) (hg:∀ s,s<N→g s≤B) {s:Nat} (hs:s<N):W s≤B:=by
 obtain ⟨i,P,hP,_,e⟩:=sM hf hs
 have hc:=pK hf i s hs
 have a1:=hW.unroll hf P (g6 f i s) hc
 have b1:=hW.unroll hf i s hs
 rw [e] at a1
 obtain ⟨p1,p2⟩:=lY h0 h1 P hP
 have l1:=aFF h0 h1 hf hg P (g6 f i s) hc
 have l2:=aFF h0 h1 hf hg i s hs
 have k:W (g6 f i s)≤B:=by
  have:(1-d ^ P) * W (g6 f i s)≤(1-d ^ P) * B:=by grind
  exact Rat.le_of_mul_le_mul_left this (by grind)
 have:d ^ i * W (g6 f i s)≤d ^ i * B:=Rat.mul_le_mul_of_nonneg_left k (Rat.le_of_lt (aDU h0 i))
 rw [b1]
 grind
theorem Sol.ge {B:Rat} (h0:0<d) (h1:d<1) (hf:∀ s,s<N→f s<N) (hW:Sol N d g f W) (hg:∀ s,s<N→B≤g s) {s:Nat} (hs:s<N):B≤W s:=by
 have:=hW.neg.le (B:=-B) h0 h1 hf (fun s hs=>by have:=hg s hs;grind) hs
 grind
end
end L2
namespace L2
section
variable {N:Nat}{d:Rat}{g:Nat→Rat}{f:Nat→Nat}{W V:Nat→Rat}
theorem aGH {P c:Nat} (h:g6 f P c=c):∀ k,g6 f (P * k) c=c
 | 0=>rfl
 | k+1=>by rw [Nat.mul_succ,mF,aGH h k,h]
theorem aMd {P c:Nat} (h:g6 f P c=c) (t:Nat):g6 f P (g6 f t c)=g6 f t c:=by
 rw [← mF,Nat.add_comm,mF,h]
def fac:Nat→Nat
 | 0=>1
 | n+1=>(n+1) * fac n
theorem aGu:∀ n,0<fac n
 | 0=>Nat.one_pos
 | n+1=>Nat.mul_pos (Nat.succ_pos n) (aGu n)
theorem aF8 {k:Nat} (hk:0<k):∀ n,k≤n→k ∣ fac n
 | 0,h=>by omega
 | n+1,h=>by
  by_cases e:k=n+1
  ·rw [e];exact Nat.dvd_mul_right _ _
  ·exact Nat.dvd_trans (aF8 hk n (by omega)) (Nat.dvd_mul_left _ _)
theorem far (hf:∀ s,s<N→f s<N) {s:Nat} (hs:s<N):g6 f (fac N) (g6 f N s)=g6 f N s:=by
 obtain ⟨i,P,hP,hN,e⟩:=sM hf hs
 have:g6 f N s=g6 f (N-i) (g6 f i s):=by rw [← mF];congr 1;omega
 rw [this]
 refine aMd ?_ _
 obtain ⟨k,hk⟩:=aF8 hP N (by omega)
 rw [hk]
 exact aGH e k
theorem aAP:∀ (n s:Nat),fst d g f (n+1) s=fst d g f n s+(1-d) * d ^ n * g (g6 f n s)
 | 0,s=>by
  show (1-d) * g s+d * 0=0+(1-d) * d ^ 0 * g s
  rw [Rat.pow_zero]
  grind
 | n+1,s=>by
  have:=aAP n (f s)
  show (1-d) * g s+d * fst d g f (n+1) (f s)=((1-d) * g s+d * fst d g f n (f s))+(1-d) * d ^ (n+1) * g (g6 f n (f s))
  rw [this,Rat.pow_succ]
  grind
def aL5 (N:Nat) (d:Rat) (g:Nat→Rat) (f:Nat→Nat) (s:Nat):Rat:=fst d g f N s+d ^ N * (fst d g f (fac N) (g6 f N s) / (1-d ^ fac N))
theorem aKg (h0:0<d) (h1:d<1) (hf:∀ s,s<N→f s<N):Sol N d g f (aL5 N d g f):=by
 intro s hs
 have hp:=far hf hs
 obtain ⟨p1,p2⟩:=lY h0 h1 (fac N) (aGu N)
 have hne:(1-d ^ fac N)≠0:=by grind
 have e1:g6 f N (f s)=f (g6 f N s):=by
  show g6 f (N+1) s=_
  rw [mF]
  rfl
 have a1:=aAP (d:=d) (g:=g) (f:=f) N s
 have a2:fst d g f (N+1) s=(1-d) * g s+d * fst d g f N (f s):=rfl
 have b1:=aAP (d:=d) (g:=g) (f:=f) (fac N) (g6 f N s)
 have b2:fst d g f (fac N+1) (g6 f N s)=(1-d) * g (g6 f N s)+d * fst d g f (fac N) (f (g6 f N s)):=rfl
 rw [hp] at b1
 unfold aL5
 rw [e1]
 generalize fst d g f (fac N) (f (g6 f N s))=T at *
 generalize fst d g f (fac N) (g6 f N s)=S at *
 generalize d ^ fac N=p at *
 have e2:S / (1-p)=(1-d) * g (g6 f N s)+d * (T / (1-p)):=by grind
 rw [e2]
 grind
theorem qW (x:Rat):x * (x.den:Int)=x.num:=by
 have h:=Rat.num_divInt_den x
 rw [Rat.divInt_eq_div] at h
 have hd:((x.den:Int):Rat)≠0:=by
  have:=x.den_nz
  intro z
  have z2:((x.den:Int):Rat)=((0:Int):Rat):=z
  rw [Rat.intCast_inj] at z2
  omega
 grind
theorem aKY {x:Rat}{m z:Int} (h:x * m=z):(x.den:Int) ∣ m:=by
 have h1:=qW x
 have h2:((z * (x.den:Int):Int):Rat)=((x.num * m:Int):Rat):=by
  rw [Rat.intCast_mul,Rat.intCast_mul,← h,← h1]
  grind
 rw [Rat.intCast_inj] at h2
 have h3:x.den ∣ x.num.natAbs * m.natAbs:=by
  rw [← Int.natAbs_mul,← h2,Int.natAbs_mul]
  exact Nat.dvd_mul_left _ _
 have h4:=Nat.Coprime.dvd_of_dvd_mul_left x.reduced.symm h3
 exact Int.ofNat_dvd_left.mpr h4
theorem aLG {x:Rat}{m z:Int} (hm:0<m) (h:x * m=z):(x.den:Int)≤m:=Int.le_of_dvd hm (aKY h)
theorem aCs {p q:Int} (hd:d * q=p) {gz:Nat→Int} (hg:∀ s,s<N→g s=gz s) (hf:∀ s,s<N→f s<N):∀ (n s:Nat),s<N→∃ z:Int,fst d g f n s * ((q ^ n:Int):Rat)=z
 | 0,s,hs=>⟨0,by show (0:Rat) * _=_;grind⟩
 | n+1,s,hs=>by
  obtain ⟨z,e⟩:=aCs hd hg hf n (f s) (hf s hs)
  refine ⟨(q-p) * gz s * q ^ n+p * z,?_⟩
  show ((1-d) * g s+d * fst d g f n (f s)) * ((q ^ (n+1):Int):Rat)=_
  rw [Int.pow_succ,Rat.intCast_mul,Rat.intCast_add,Rat.intCast_mul,Rat.intCast_mul,Rat.intCast_mul,Rat.intCast_sub,hg s hs]
  generalize ((q ^ n:Int):Rat)=Q at *
  grind
theorem oG {q:Int} (h:0<q):∀ n:Nat,0<q ^ n
 | 0=>by rw [Int.pow_zero];decide
 | n+1=>by rw [Int.pow_succ];exact Int.mul_pos (oG h n) h
theorem aCG {p q:Int} (h0:0<p) (h:p<q):∀ n:Nat,0<n→p ^ n<q ^ n
 | 0,z=>absurd z (Nat.lt_irrefl 0)
 | 1,_=>by rw [Int.pow_succ,Int.pow_zero,Int.pow_succ,Int.pow_zero];omega
 | n+2,_=>by
  have a:=aCG h0 h (n+1) (Nat.succ_pos n)
  rw [Int.pow_succ,Int.pow_succ q]
  have b:p ^ (n+1) * p<q ^ (n+1) * p:=Int.mul_lt_mul_of_pos_right a h0
  have c:q ^ (n+1) * p<q ^ (n+1) * q:=Int.mul_lt_mul_of_pos_left h (oG (by omega) _)
  omega
theorem aHS {q:Int} (h:1≤q) {a b:Nat} (hab:a≤b):q ^ a≤q ^ b:=by
 obtain ⟨k,rfl⟩:=Nat.le.dest hab
 rw [Int.pow_add]
 have h1:0<q ^ a:=oG (by omega) a
 have h2:0<q ^ k:=oG (by omega) k
 have:=Int.mul_le_mul_of_nonneg_left (show 1≤q ^ k by omega) (Int.le_of_lt h1)
 omega
theorem Sol.den {p q:Int} (hp:0<p) (hpq:p<q) (hd:d * q=p) {gz:Nat→Int} (hg:∀ s,s<N→g s=gz s) (hf:∀ s,s<N→f s<N) (hW:Sol N d g f W) {s:Nat} (hs:s<N):((W s).den:Int)≤q ^ N:=by
 obtain ⟨i,P,hP,hN,e⟩:=sM hf hs
 have hc:=pK hf i s hs
 have a1:=hW.unroll hf P (g6 f i s) hc
 have b1:=hW.unroll hf i s hs
 rw [e] at a1
 obtain ⟨z1,e1⟩:=aCs hd hg hf P (g6 f i s) hc
 obtain ⟨z2,e2⟩:=aCs hd hg hf i s hs
 have hdp:∀ n:Nat,d ^ n * ((q ^ n:Int):Rat)=((p ^ n:Int):Rat):=by
  intro n
  induction n with
  | zero=>rw [Rat.pow_zero,Int.pow_zero,Int.pow_zero];grind
  | succ n ih=>
   rw [Rat.pow_succ,Int.pow_succ,Int.pow_succ,Rat.intCast_mul,Rat.intCast_mul]
   grind
 have dP:=hdp P
 have di:=hdp i
 have hm:0<q ^ P-p ^ P:=by have:=aCG hp hpq P hP;omega
 have hq:0<q ^ i:=oG (by omega) i
 have key:W s * ((q ^ i * (q ^ P-p ^ P):Int):Rat)=((z2 * (q ^ P-p ^ P)+p ^ i * z1:Int):Rat):=by
  rw [Rat.intCast_mul,Rat.intCast_add,Rat.intCast_mul,Rat.intCast_mul,Rat.intCast_sub,b1]
  generalize ((q ^ i:Int):Rat)=Qi at *
  generalize ((q ^ P:Int):Rat)=QP at *
  generalize ((p ^ i:Int):Rat)=pi at *
  generalize ((p ^ P:Int):Rat)=pP at *
  have k1:W (g6 f i s) * (QP-pP)=z1:=by grind
  grind
 refine Int.le_trans (aLG (Int.mul_pos hq hm) key) ?_
 have l1:q ^ i * (q ^ P-p ^ P)≤q ^ i * q ^ P:=Int.mul_le_mul_of_nonneg_left (by have:=oG hp P;omega) (Int.le_of_lt hq)
 rw [← Int.pow_add] at l1
 exact Int.le_trans l1 (aHS (by omega) hN)
end
open PySem PySem.Spec PyProof.Rows
@[reducible] def aQ (q:Rat):D:=.tup [.int q.num,.int q.den]
def aCR:D→Option Rat
 | .tup [.int a,.int b]=>if 0<b∧Int.gcd a b=1 then some (Rat.divInt a b) else none
 | _=>none
theorem sR (q:Rat):aCR (aQ q)=some q:=by
 have h1:(0:Int)<(q.den:Int):=by have:=q.den_nz;omega
 have h2:Int.gcd q.num q.den=1:=q.reduced
 show (if (0:Int)<(q.den:Int)∧Int.gcd q.num q.den=1 then some (Rat.divInt q.num q.den) else none)=some q
 rw [if_pos ⟨h1,h2⟩,Rat.num_divInt_den]
theorem sP {d:D}{q:Rat} (h:aCR d=some q):d=aQ q:=by
 unfold aCR at h
 split at h
 ·rename_i a b
  split at h
  ·rename_i hh
   cases h
   have h1:b.sign=1:=Int.sign_eq_one_of_pos hh.1
   have h2:b.gcd a=1:=by rw [Int.gcd_comm];exact hh.2
   unfold aQ
   rw [Rat.num_divInt,Rat.den_divInt,if_neg (by omega),h1,h2]
   simp
   omega
  ·cases h
 ·cases h
def tV (d:D) (f:Rat→Option D):Option D:=match aCR d with
 | some q=>f q
 | none=>none
theorem aEH {q:Rat}{f:Rat→Option D}:tV (aQ q) f=f q:=by
 unfold tV
 rw [sR]
theorem u8 {m d:D}{f:Rat→Option D} (h:tV m f=some d):∃ q,m=aQ q∧f q=some d:=by
 unfold tV at h
 split at h
 ·rename_i q e
  exact ⟨q,sP e,h⟩
 ·cases h
def BdR (k:Nat) (q:Rat):Prop:=Bd k q.num∧Bd k (q.den:Int)
theorem oX (q:Rat):(0:Int)<(q.den:Int):=by have:=q.den_nz;omega
open Classical in
noncomputable def eC:List D→Option D
 | [.int u,.int l]=>if l≠0∧Bd 7000 u∧Bd 7000 l then some (aQ (Rat.divInt u l)) else none
 | _=>none
open Classical in
noncomputable def gR:List D→Option D
 | [.int pay,w,d]=>tV w fun w=>tV d fun d=>if Bd 1000 pay∧BdR 1000 w∧BdR 1000 d then some (aQ ((1-d) * pay+d * w)) else none
 | _=>none
open Classical in
noncomputable def iF:List D→Option D
 | [a,b]=>tV a fun a=>tV b fun b=>if BdR 1000 a∧BdR 1000 b then some (.bl (decide (b<a))) else none
 | _=>none
def aGz (d:D):Option (List Int×List Int):=match d with
 | .tup [a,b]=>match jE a,jE b with
  | some r,some n=>some (r,n)
  | _,_=>none
 | _=>none
def tF:List D→Option (List (List Int×List Int))
 | []=>some []
 | d::ds=>match aGz d,tF ds with
  | some s,some ss=>some (s::ss)
  | _,_=>none
def aAp:D→Option (List (List Int×List Int))
 | .tup ds=>tF ds
 | _=>none
theorem aI8 {d:D}{s:List Int×List Int} (h:aGz d=some s):d = .tup [aE s.1,aE s.2]:=by
 unfold aGz at h
 split at h
 ·split at h
  ·rename_i e1 e2
   cases h
   rw [jU e1,jU e2]
  ·cases h
 ·cases h
theorem aAl:∀ pl:List (List Int×List Int),tF (pl.map fun s=>.tup [aE s.1,aE s.2])=some pl
 | []=>rfl
 | s::pl=>by
  rw [List.map_cons,tF,aAl pl]
  simp only [aGz,cJ]
theorem aAU:∀ {ds:List D}{pl:List (List Int×List Int)},tF ds=some pl→ds=pl.map fun s=>.tup [aE s.1,aE s.2]
 | [],pl,h=>by cases h;rfl
 | d::ds,pl,h=>by
  unfold tF at h
  split at h
  ·rename_i s ss e1 e2
   cases h
   rw [aI8 e1,aAU e2]
   rfl
  ·cases h
theorem aBY (pl:List (List Int×List Int)):aAp (fN pl)=some pl:=aAl pl
theorem aCh {d:D}{pl:List (List Int×List Int)} (h:aAp d=some pl):d=fN pl:=by
 unfold aAp at h
 split at h
 ·rw [aAU h]
 ·cases h
structure gQ (ns:List Int) (pl:List (List Int×List Int)):Prop where
 few:1≤pl.length∧pl.length≤20
 row:∀ s∈pl,s.1∈aM ns
 nexts:∀ s∈pl,s.2.length=(aM ns).length∧∀ x∈s.2,0≤x∧x<pl.length
open Classical in
noncomputable def pL (ns:List Int) (d:D) (f:List (List Int×List Int)→Option D):Option D:=match aAp d with
 | some pl=>if gQ ns pl then f pl else none
 | none=>none
theorem nS {ns:List Int}{pl:List (List Int×List Int)}{f:List (List Int×List Int)→Option D} (h:gQ ns pl):pL ns (fN pl) f=f pl:=by
 unfold pL
 rw [aBY]
 exact if_pos h
theorem nT {ns:List Int}{m d:D}{f:List (List Int×List Int)→Option D} (h:pL ns m f=some d):∃ pl,m=fN pl∧gQ ns pl∧f pl=some d:=by
 unfold pL at h
 split at h
 ·rename_i pl e
  split at h
  ·rename_i ho
   exact ⟨pl,aCh e,ho,h⟩
  ·cases h
 ·cases h
def bZ (pl:List (List Int×List Int)) (s:Nat):List Int:=(pl.getD s ([],[])).1
def j1 (ns:List Int) (pl:List (List Int×List Int)) (s:Nat) (r:List Int):Nat:=((pl.getD s ([],[])).2.getD ((aM ns).idxOf r) 0).toNat
def gJ (ns:List Int) (pl:List (List Int×List Int)) (s:Nat):Nat:=j1 ns pl s (bZ pl s)
noncomputable def cZ (ns:List Int) (pay:List (List Int)) (pl:List (List Int×List Int)) (d:Rat) (h s:Nat):Rat:=aL5 pl.length d (fun s=>(bF ns pay (bZ pl s) h:Rat)) (gJ ns pl) s
@[reducible] def aNL (x:Int×Int×Int):D:=.tup [.int x.1,.int x.2.1,.int x.2.2]
structure bW (d:Rat):Prop where
 pos:0<d
 lt:d<1
 bits:BdR 40 d
open Classical in
noncomputable def k6 (d:D) (f:Rat→Option D):Option D:=match aCR d with
 | some q=>if bW q then f q else none
 | none=>none
theorem gD {q:Rat}{f:Rat→Option D} (h:bW q):k6 (aQ q) f=f q:=by
 unfold k6
 rw [sR]
 exact if_pos h
theorem gM {m d:D}{f:Rat→Option D} (h:k6 m f=some d):∃ q,m=aQ q∧bW q∧f q=some d:=by
 unfold k6 at h
 split at h
 ·rename_i q e
  split at h
  ·rename_i ho
   exact ⟨q,sP e,ho,h⟩
  ·cases h
 ·cases h
noncomputable def qX (ns:List Int) (pay:List (List Int)) (pl:List (List Int×List Int)) (d:Rat):D:=.tup ((List.range pl.length).map fun s=>.tup ((List.range ns.length).map fun h=>aQ (cZ ns pay pl d h s)))
noncomputable def mW:List D→Option D
 | [m,p,d]=>bX m fun ns pay=>pL ns p fun pl=>k6 d fun d=>some (qX ns pay pl d)
 | _=>none
def tJ (d:Rat):List Rat→Rat
 | []=>0
 | x::xs=>(1-d) * x+d * tJ d xs
def woR (ns:List Int) (pay:List (List Int)) (rows over:List (List Int)) (d:Rat) (h:Nat):Rat:=tJ d (rows.map fun r=>(bF ns pay r h:Rat))+d ^ rows.length * (tJ d (over.map fun r=>(bF ns pay r h:Rat)) / (1-d ^ over.length))
def uW (ns:List Int) (d:D) (f:List (List Int)→Option D):Option D:=match nI d with
 | some ds=>match yG ds with
  | some rs=>if rs.length≤20∧∀ r∈rs,r∈aM ns then f rs else none
  | none=>none
 | none=>none
theorem t7 {ns:List Int}{d:D}{rs:List (List Int)}{f:List (List Int)→Option D} (hd:nI d=some (rs.map aE)) (h1:rs.length≤20) (h2:∀ r∈rs,r∈aM ns):uW ns d f=f rs:=by
 unfold uW
 simp only [hd,vZ]
 exact if_pos ⟨h1,h2⟩
theorem xL {ns:List Int}{m d:D}{f:List (List Int)→Option D} (h:uW ns m f=some d):∃ rs,nI m=some (rs.map aE)∧rs.length≤20∧(∀ r∈rs,r∈aM ns)∧f rs=some d:=by
 unfold uW at h
 split at h
 ·rename_i ds e0
  split at h
  ·rename_i rs e
   split at h
   ·rename_i ho
    exact ⟨rs,by rw [e0,vC e],ho.1,ho.2,h⟩
   ·cases h
  ·cases h
 ·cases h
noncomputable def jJ:List D→Option D
 | [m,rows,over,d]=>bX m fun ns pay=>uW ns rows fun rows=>uW ns over fun over=>k6 d fun d=>if over=[] then none else some (.tup ((List.range ns.length).map fun h=>aQ (woR ns pay rows over d h)))
 | _=>none
theorem aIb (l:List D) (n:Nat) (h:n≤l.length):tL l none (some (n:Int))=l.take n:=by
 unfold tL
 rw [HT.sIx_none,HT.sIx_nat,Nat.min_eq_left h,List.drop_zero]
 rfl
theorem aH8 (l:List D) (n:Nat) (h:n≤l.length):tL l (some (n:Int)) none=l.drop n:=by
 unfold tL
 rw [HT.sIx_none,HT.sIx_nat,Nat.min_eq_left h]
 refine List.take_of_length_le ?_
 rw [List.length_drop]
 omega
section
variable {ns:List Int}{pay:List (List Int)}{pl:List (List Int×List Int)}{d:Rat}{h s:Nat}
theorem aEs (hp:gQ ns pl) (hs:s<pl.length) {r:List Int} (hr:r∈aM ns):j1 ns pl s r<pl.length:=by
 have hm:pl.getD s ([],[])∈pl:=by rw [bP hs];exact List.getElem_mem hs
 obtain ⟨h1,h2⟩:=hp.nexts _ hm
 have hi:(aM ns).idxOf r<(pl.getD s ([],[])).2.length:=by
  rw [h1]
  exact List.idxOf_lt_length_of_mem hr
 have:=h2 _ (List.getElem_mem hi)
 unfold j1
 rw [bP hi]
 omega
theorem p6 (hp:gQ ns pl) (hs:s<pl.length):bZ pl s∈aM ns:=by
 unfold bZ
 rw [bP hs]
 exact hp.row _ (List.getElem_mem hs)
theorem aAB (hp:gQ ns pl):∀ s,s<pl.length→gJ ns pl s<pl.length:=fun s hs=>aEs hp hs (p6 hp hs)
theorem jN (ho:aY ns pay) {r:List Int} (hr:r∈aM ns) : -9≤bF ns pay r h∧bF ns pay r h≤9:=by
 unfold bF
 rw [List.getD_eq_getElem?_getD]
 cases e:(iX ns pay r)[h]? with
 | none=>exact ⟨by decide,by decide⟩
 | some x=>exact (iR ho hr).2 x (List.mem_of_getElem? e)
theorem sL (hp:gQ ns pl) (hd:bW d):Sol pl.length d (fun s=>(bF ns pay (bZ pl s) h:Rat)) (gJ ns pl) (cZ ns pay pl d h):=aKg hd.pos hd.lt (aAB hp)
theorem aDG {x:Rat} (h1 : -9≤x) (h2:x≤9):x.num.natAbs≤9 * x.den:=by
 have a:=(Rat.le_iff _ _).mp h1
 have b:=(Rat.le_iff _ _).mp h2
 have e1:(-9:Rat).num = -9:=rfl
 have e2:(-9:Rat).den=1:=rfl
 have e3:(9:Rat).num=9:=rfl
 have e4:(9:Rat).den=1:=rfl
 rw [e1,e2] at a
 rw [e3,e4] at b
 omega
theorem jA {a b:Int} (h:a≤b):(a:Rat)≤(b:Rat):=Rat.intCast_le_intCast.mpr h
theorem Sol.bd {W:Nat→Rat} (ho:aY ns pay) {N:Nat} (hN:N≤20) {rw:Nat→List Int} (hr:∀ s,s<N→rw s∈aM ns) {f:Nat→Nat} (hf:∀ s,s<N→f s<N) (hd:bW d) (hW:Sol N d (fun s=>(bF ns pay (rw s) h:Rat)) f W) (hs:s<N) : -9≤W s∧W s≤9∧BdR 900 (W s):=by
 have l1:W s≤9:=hW.le hd.pos hd.lt hf (fun s hs=>by
  have:=jA (jN (h:=h) ho (hr s hs)).2
  exact this) hs
 have l2 : -9≤W s:=hW.ge hd.pos hd.lt hf (fun s hs=>by
  have:=jA (jN (h:=h) ho (hr s hs)).1
  exact this) hs
 have hq:0<d.num:=by
  have:=hd.pos
  rw [Rat.lt_iff] at this
  have e1:(0:Rat).num=0:=rfl
  have e2:(0:Rat).den=1:=rfl
  rw [e1,e2] at this
  omega
 have hpq:d.num<(d.den:Int):=by
  have:=hd.lt
  rw [Rat.lt_iff] at this
  have e1:(1:Rat).num=1:=rfl
  have e2:(1:Rat).den=1:=rfl
  rw [e1,e2] at this
  omega
 have dn:=hW.den (p:=d.num) (q:=d.den) (gz:=fun s=>bF ns pay (rw s) h) hq hpq (qW d) (fun s _=>rfl) hf hs
 have b1:Bd 841 (((W s).den:Nat):Int):=by
  refine Bd.of_le (j:=(d.den:Int) ^ N) ?_ (by omega) dn
  exact (hd.bits.2.pow N).mono (by omega)
 refine ⟨l2,l1,?_,b1.mono (by decide)⟩
 have:=aDG l2 l1
 have b2:Bd (841+4) ((((W s).den:Nat):Int) * 9):=b1.mul (show Bd 4 9 by unfold Bd;decide)
 exact (b2.abs (i:=(W s).num) (by omega)).mono (by decide)
theorem aFM (hp:gQ ns pl) (hd:bW d) (hs:s<pl.length):cZ ns pay pl d h s=(1-d) * bF ns pay (bZ pl s) h+d * cZ ns pay pl d h (gJ ns pl s):=sL hp hd s hs
theorem zX {g:Nat→Rat}{f:Nat→Nat}:∀ (n s:Nat),fst d g f n s=tJ d ((List.range n).map fun t=>g (g6 f t s))
 | 0,s=>rfl
 | n+1,s=>by
  rw [List.range_succ_eq_map,List.map_cons,List.map_map]
  show (1-d) * g s+d * fst d g f n (f s)=(1-d) * g s+d * tJ d _
  rw [zX n (f s)]
  rfl
theorem aAX (hd:bW d) (r:List Int):woR ns pay [] [r] d h=bF ns pay r h:=by
 have:=hd.lt
 unfold woR
 show (0:Rat)+d ^ 0 * (((1-d) * (bF ns pay r h:Rat)+d * 0) / (1-d ^ 1))=_
 rw [Rat.pow_zero,show (1:Nat)=0+1 from rfl,Rat.pow_succ,Rat.pow_zero]
 grind
theorem aLb {U L:Int} (u1:0<U∧U<L) (l2:L≤30):bW (Rat.divInt U L):=by
 have g0:0<Int.gcd L U:=Int.gcd_pos_of_ne_zero_left _ (by omega)
 obtain ⟨a,ha⟩:=Int.gcd_dvd_right L U
 obtain ⟨b,hb⟩:=Int.gcd_dvd_left L U
 have h1:L.sign=1:=Int.sign_eq_one_of_pos (by omega)
 have en:(Rat.divInt U L).num=a:=by
  rw [Rat.num_divInt,h1,Int.one_mul]
  conv=>lhs;lhs;rw [ha]
  exact Int.mul_ediv_cancel_left _ (by omega)
 have ed:((Rat.divInt U L).den:Int)=b:=by
  rw [Rat.den_divInt,if_neg (by omega),Int.natCast_ediv,show ((L.natAbs:Nat):Int)=L by omega]
  conv=>lhs;lhs;rw [hb]
  exact Int.mul_ediv_cancel_left _ (by omega)
 have g0:(0:Int)<(Int.gcd L U:Int):=by omega
 generalize (Int.gcd L U:Int)=g at *
 have a0:0<a:=by
  apply Int.lt_of_not_ge
  intro z
  have:=Int.mul_nonpos_of_nonneg_of_nonpos (show 0≤g by omega) z
  omega
 have ab:a<b:=by
  apply Int.lt_of_not_ge
  intro z
  have:=Int.mul_le_mul_of_nonneg_left z (show 0≤g by omega)
  omega
 have bl:b≤30:=by
  have:1 * b≤g * b:=Int.mul_le_mul_of_nonneg_right (by omega) (by omega)
  omega
 have e40:(2:Nat) ^ 40=1099511627776:=by decide
 refine ⟨?_,?_,?_,?_⟩
 ·rw [Rat.lt_iff,en,ed]
  show 0 * b<a * 1
  omega
 ·rw [Rat.lt_iff,en,ed]
  show a * 1<1 * b
  omega
 ·rw [en]
  unfold Bd
  omega
 ·rw [ed]
  unfold Bd
  omega
theorem aK7 (c:Int):bW (aEm c):=by
 have a1:0≤rO c 9929 29:=Int.emod_nonneg _ (by decide)
 have a2:rO c 9929 29<29:=Int.emod_lt_of_pos _ (by decide)
 have l1:2≤zW c:=by unfold zW;omega
 have l2:zW c≤30:=by unfold zW;omega
 have b1:0≤rO c 9923 (zW c-1):=Int.emod_nonneg _ (by omega)
 have b2:rO c 9923 (zW c-1)<zW c-1:=Int.emod_lt_of_pos _ (by omega)
 refine aLb ?_ l2
 unfold aJc
 split <;> omega
end
def gG (ns:List Int) (pay:List (List Int)) (pl:List (List Int×List Int)) (d:Rat) (h:Nat) (W:Nat→Rat) (s:Nat) (k:Int):Rat:=(1-d) * bF ns pay ((bZ pl s).set h k) h+d * W (j1 ns pl s ((bZ pl s).set h k))
section
variable {ns:List Int}{pay:List (List Int)}{pl:List (List Int×List Int)}{d:Rat}{h s:Nat}{B C:Nat→Rat}
theorem aJ6 (hp:gQ ns pl) (hs:s<pl.length) {k:Int} (hk:k∈bG ns h):(bZ pl s).set h k∈aM ns:=zO (p6 hp hs) (oF.mp hk).1 (oF.mp hk).2
theorem aLy (hp:gQ ns pl) (hs:s<pl.length) {k:Int} (hk:k∈bG ns h):j1 ns pl s ((bZ pl s).set h k)<pl.length:=aEs hp hs (aJ6 hp hs hk)
end
noncomputable def zG (ns:List Int) (pay:List (List Int)) (pl:List (List Int×List Int)) (d:Rat) (s h:Nat):List (Int×Int×Int):=((bG ns h).filter fun k=>decide (cZ ns pay pl d h s<gG ns pay pl d h (cZ ns pay pl d h) s k)).map fun k=>((s:Int),(h:Int),k)
noncomputable def nF (ns:List Int) (pay:List (List Int)) (pl:List (List Int×List Int)) (d:Rat):List (Int×Int×Int):=(List.range pl.length).flatMap fun s=>(List.range ns.length).flatMap fun h=>zG ns pay pl d s h
section
variable {ns:List Int}{pay:List (List Int)}{pl:List (List Int×List Int)}{d:Rat}{h s:Nat}
theorem aB3:nF ns pay pl d=[]↔∀ s,s<pl.length→∀ h,h<ns.length→∀ k∈bG ns h,gG ns pay pl d h (cZ ns pay pl d h) s k≤cZ ns pay pl d h s:=by
 unfold nF
 rw [List.flatMap_eq_nil_iff]
 constructor
 ·intro H s hs h hh k hk
  have:=H s (List.mem_range.mpr hs)
  rw [List.flatMap_eq_nil_iff] at this
  have:=this h (List.mem_range.mpr hh)
  unfold zG at this
  rw [List.map_eq_nil_iff,List.filter_eq_nil_iff] at this
  have:=this k hk
  rw [decide_eq_true_eq] at this
  grind
 ·intro H s hs
  rw [List.flatMap_eq_nil_iff]
  intro h hh
  unfold zG
  rw [List.map_eq_nil_iff,List.filter_eq_nil_iff]
  intro k hk
  have:=H s (List.mem_range.mp hs) h (List.mem_range.mp hh) k hk
  rw [decide_eq_true_eq]
  grind
end
open Classical in
noncomputable def sN (m p d:D) (c:List Int→Prop) (f:List Int→List (List Int)→List (List Int×List Int)→Rat→D→Prop):Option (D→Prop):=match qR m,aAp p,aCR d with
 | some (ns,pay),some pl,some q=>if aY ns pay∧gQ ns pl∧bW q∧c ns then some (f ns pay pl q) else none
 | _,_,_=>none
theorem aF0 {c:List Int→Prop}{ns:List Int}{pay:List (List Int)}{pl:List (List Int×List Int)}{q:Rat}{f:List Int→List (List Int)→List (List Int×List Int)→Rat→D→Prop} (h1:aY ns pay) (h2:gQ ns pl) (h3:bW q) (h4:c ns):sN (aU ns pay) (fN pl) (aQ q) c f=some (f ns pay pl q):=by
 unfold sN
 rw [qE,aBY,sR]
 exact if_pos ⟨h1,h2,h3,h4⟩
theorem aE3 {m p d:D}{c:List Int→Prop}{f:List Int→List (List Int)→List (List Int×List Int)→Rat→D→Prop}{x:D→Prop} (h:sN m p d c f=some x):∃ ns pay pl q,m=aU ns pay∧p=fN pl∧d=aQ q∧aY ns pay∧gQ ns pl∧bW q∧c ns∧x=f ns pay pl q:=by
 unfold sN at h
 split at h
 ·rename_i ns pay pl q e1 e2 e3
  split at h
  ·rename_i ho
   cases h
   exact ⟨ns,pay,pl,q,pV e1,aCh e2,sP e3,ho.1,ho.2.1,ho.2.2.1,ho.2.2.2,rfl⟩
  ·cases h
 ·cases h
noncomputable def sE:List D→Option (D→Prop)
 | [m,p,d]=>sN m p d (fun _=>True) fun ns pay pl d x=>(x = .non∧nF ns pay pl d=[])∨∃ y∈nF ns pay pl d,x=aNL y
 | _=>none
noncomputable def o6:List D→Option D
 | [m,p,d]=>bX m fun ns pay=>pL ns p fun pl=>k6 d fun d=>some (.bl (decide (nF ns pay pl d=[])))
 | _=>none
def cK (part r:List Int):List Nat:=(List.range part.length).filter fun h=>decide (r.getD h 0≠part.getD h 0)
def iN (k:Nat) (part r:List Int):Nat:=match cK part r with
 | [h]=>1+h
 | _=>k
def dY (row:List Int) (th:List (List Int)) (k:Nat):List Int:=(row::th).getD k []
def dG (ns row:List Int) (th:List (List Int)):List (List Int×List Int):=(List.range (1+th.length)).map fun k=>(dY row th k,(aM ns).map fun r=>((iN k (dY row th k) r:Nat):Int))
structure f9 (ns row:List Int) (th:List (List Int)):Prop where
 row:row∈aM ns
 many:th.length=ns.length
 all:∀ r∈th,r∈aM ns
section
variable {ns:List Int}{pay:List (List Int)}{row:List Int}{th:List (List Int)}{d:Rat}{h k:Nat}
theorem l3 (H:f9 ns row th) (hk:k<1+th.length):dY row th k∈aM ns:=by
 unfold dY
 rw [bP (by simp;omega)]
 have:=List.getElem_mem (l:=row::th) (n:=k) (by simp;omega)
 rcases List.mem_cons.mp this with e | e
 ·rw [e];exact H.row
 ·exact H.all _ e
theorem aEA {part r:List Int}{j:Nat} (hj:j∈cK part r):j<part.length:=List.mem_range.mp (List.mem_filter.mp hj).1
theorem aHr (H:f9 ns row th) (hk:k<1+th.length) (r:List Int):iN k (dY row th k) r<1+th.length:=by
 unfold iN
 split
 ·rename_i j e
  have hj:j∈cK (dY row th k) r:=by rw [e];exact List.mem_cons_self
  have:=aEA hj
  rw [gH (l3 H hk)] at this
  rw [H.many]
  omega
 ·exact hk
theorem jH:(dG ns row th).length=1+th.length:=by simp [dG]
theorem aB6 (hk:k<1+th.length):(dG ns row th).getD k ([],[])=(dY row th k,(aM ns).map fun r=>((iN k (dY row th k) r:Nat):Int)):=by
 rw [bP (by rw [jH];exact hk)]
 simp [dG]
theorem rX (ho:aY ns pay) (H:f9 ns row th):gQ ns (dG ns row th):=by
 have n3:=(bU ho.ok).1
 refine ⟨⟨by rw [jH];omega,by rw [jH,H.many];omega⟩,fun s hs=>?_,fun s hs=>?_⟩
 ·obtain ⟨k,hk,rfl⟩:=List.mem_map.mp hs
  exact l3 H (List.mem_range.mp hk)
 ·obtain ⟨k,hk,rfl⟩:=List.mem_map.mp hs
  refine ⟨by simp,fun x hx=>?_⟩
  obtain ⟨r,hr,rfl⟩:=List.mem_map.mp hx
  have:=aHr H (List.mem_range.mp hk) r
  rw [jH]
  omega
theorem qQ (hk:k<1+th.length):bZ (dG ns row th) k=dY row th k:=by
 unfold bZ
 rw [aB6 hk]
theorem rZ (hk:k<1+th.length) {r:List Int} (hr:r∈aM ns):j1 ns (dG ns row th) k r=iN k (dY row th k) r:=by
 unfold j1
 rw [aB6 hk]
 have hi:=List.idxOf_lt_length_of_mem hr
 rw [bP (by rw [List.length_map];exact hi),List.getElem_map,List.getElem_idxOf hi]
 rfl
theorem tP (part:List Int):cK part part=[]:=by
 unfold cK
 rw [List.filter_eq_nil_iff]
 simp
theorem aC5 {part:List Int} (hh:h<part.length) {x:Int} (hx:x≠part.getD h 0):cK part (part.set h x)=[h]:=by
 unfold cK
 have:(List.range part.length).filter (fun j=>decide ((part.set h x).getD j 0≠part.getD j 0))=(List.range part.length).filter fun j=>j == h:=by
  refine List.filter_congr fun j hj=>?_
  have hj:=List.mem_range.mp hj
  rw [bP (by rw [List.length_set];exact hj),List.getElem_set]
  by_cases e:h=j
  ·subst e
   rw [if_pos rfl,decide_eq_true hx]
   simp
  ·rw [if_neg e,← bP hj 0]
   simp
   omega
 rw [this]
 have key:∀ n,h<n→(List.range n).filter (fun j=>j == h)=[h]:=by
  intro n
  induction n with
  | zero=>intro z;exact absurd z (Nat.not_lt_zero h)
  | succ n ih=>
   intro z
   rw [List.range_succ,List.filter_append]
   by_cases e:h=n
   ·subst e
    have e0:(List.range h).filter (fun j=>j == h)=[]:=by
     rw [List.filter_eq_nil_iff]
     intro j hj
     have:=List.mem_range.mp hj
     simp
     omega
    rw [e0]
    simp
   ·rw [ih (by omega)]
    have:(n == h)=false:=by simp;omega
    simp [List.filter_cons,this]
 exact key _ hh
theorem aIc (H:f9 ns row th) (hk:k<1+th.length):gJ ns (dG ns row th) k=k:=by
 unfold gJ
 rw [qQ hk,rZ hk (l3 H hk)]
 unfold iN
 rw [tP]
theorem nJ (ho:aY ns pay) (H:f9 ns row th) (hd:bW d) (hk:k<1+th.length):cZ ns pay (dG ns row th) d h k=bF ns pay (dY row th k) h:=by
 have hp:=rX ho H
 have W:=sL (h:=h) (pay:=pay) hp hd
 refine W.uniq (V:=fun k=>(bF ns pay (dY row th k) h:Rat)) hd.pos hd.lt (aAB hp) (fun s hs=>?_) (by rw [jH];exact hk)
 rw [jH] at hs
 show (bF ns pay (dY row th s) h:Rat)=(1-d) * (bF ns pay (bZ (dG ns row th) s) h:Rat)+d * (bF ns pay (dY row th (gJ ns (dG ns row th) s)) h:Rat)
 rw [aIc H hs,qQ hs]
 grind
def aKs (ns:List Int) (pay:List (List Int)) (th:List (List Int)) (d:Rat) (part:List Int):Prop:=∀ h,h<ns.length→∀ x∈bG ns h,x≠part.getD h 0→(1-d) * bF ns pay (part.set h x) h+d * bF ns pay (th.getD h []) h≤bF ns pay part h
theorem vG (ho:aY ns pay) (H:f9 ns row th) (hd:bW d):nF ns pay (dG ns row th) d=[]↔∀ part∈row::th,aKs ns pay th d part:=by
 have hp:=rX ho H
 rw [aB3]
 have step:∀ k,k<1+th.length→∀ h,h<ns.length→∀ x∈bG ns h,x≠(dY row th k).getD h 0→gG ns pay (dG ns row th) d h (cZ ns pay (dG ns row th) d h) k x=(1-d) * bF ns pay ((dY row th k).set h x) h+d * bF ns pay (th.getD h []) h:=by
  intro k hk h hh x hx hne
  have hm:=l3 H hk
  have hl:h<(dY row th k).length:=by rw [gH hm];exact hh
  unfold gG
  rw [qQ hk,rZ hk (zO hm (oF.mp hx).1 (oF.mp hx).2)]
  unfold iN
  rw [aC5 hl hne]
  show _+d * cZ ns pay (dG ns row th) d h (1+h)=_
  rw [nJ ho H hd (by rw [H.many];omega)]
  have e:dY row th (1+h)=th.getD h []:=by
   unfold dY
   rw [Nat.add_comm]
   rfl
  rw [e]
 constructor
 ·intro G part hpt h hh x hx hne
  obtain ⟨k,hk,rfl⟩:=List.mem_iff_getElem.mp hpt
  have hk':k<1+th.length:=by rw [List.length_cons] at hk;omega
  have ep:dY row th k=(row::th)[k]:=bP hk _
  rw [← ep] at hne ⊢
  have:=G k (by rw [jH];exact hk') h hh x hx
  rw [step k hk' h hh x hx hne,nJ ho H hd hk'] at this
  exact this
 ·intro G k hk h hh x hx
  rw [jH] at hk
  have hm:=l3 H hk
  by_cases hne:x=(dY row th k).getD h 0
  ·have hl:h<(dY row th k).length:=by rw [gH hm];exact hh
   unfold gG
   rw [qQ hk,hne,vX hl,rZ hk hm]
   unfold iN
   rw [tP]
   show _+d * cZ ns pay (dG ns row th) d h k≤_
   rw [nJ ho H hd hk]
   grind
  ·rw [step k hk h hh x hx hne,nJ ho H hd hk]
   have hk':k<(row::th).length:=by rw [List.length_cons];omega
   have ep:dY row th k=(row::th)[k]:=bP hk' _
   exact G (dY row th k) (by rw [ep];exact List.getElem_mem hk') h hh x hx hne
end
def d9:D→Option (List (List Int))
 | .tup ds=>yG ds
 | _=>none
theorem jP (th:List (List Int)):d9 (.tup (th.map aE))=some th:=vZ th
theorem iQ {d:D}{th:List (List Int)} (h:d9 d=some th):d = .tup (th.map aE):=by
 unfold d9 at h
 split at h
 ·rw [vC h]
 ·cases h
open Classical in
noncomputable def kW {α:Type} (m r t:D) (f:List Int→List (List Int)→List Int→List (List Int)→Option α):Option α:=match qR m,jE r,d9 t with
 | some (ns,pay),some row,some th=>if aY ns pay∧f9 ns row th then f ns pay row th else none
 | _,_,_=>none
theorem vO {α:Type}{ns row:List Int}{pay th:List (List Int)}{f:List Int→List (List Int)→List Int→List (List Int)→Option α} (h1:aY ns pay) (h2:f9 ns row th):kW (aU ns pay) (aE row) (.tup (th.map aE)) f=f ns pay row th:=by
 unfold kW
 rw [qE,cJ,jP]
 exact if_pos ⟨h1,h2⟩
theorem wK {α:Type}{m r t:D}{x:α}{f:List Int→List (List Int)→List Int→List (List Int)→Option α} (h:kW m r t f=some x):∃ ns pay row th,m=aU ns pay∧r=aE row∧t = .tup (th.map aE)∧aY ns pay∧f9 ns row th∧f ns pay row th=some x:=by
 unfold kW at h
 split at h
 ·rename_i ns pay row th e1 e2 e3
  split at h
  ·rename_i ho
   exact ⟨ns,pay,row,th,pV e1,jU e2,iQ e3,ho.1,ho.2,h⟩
  ·cases h
 ·cases h
noncomputable def mK:List D→Option D
 | [m,r,t]=>kW m r t fun ns _ row th=>some (fN (dG ns row th))
 | _=>none
section
variable {ns:List Int}{pay:List (List Int)}{row:List Int}{th:List (List Int)}{d:Rat}
end
def nZ (r ns:List Int):Int:=(r.zip ns).foldl (fun p x=>p * x.2+x.1) 0
theorem vN (r:List Int):∀ (n s j:Nat),j<n→((List.range' s n).map fun (k:Nat)=>r++[(k:Int)]).idxOf (r++[((s+j:Nat):Int)])=j
 | n+1,s,0,_=>by
  rw [List.range'_succ,List.map_cons,List.idxOf_cons,Nat.add_zero]
  simp
 | n+1,s,j+1,h=>by
  rw [List.range'_succ,List.map_cons,List.idxOf_cons]
  have ne:((r++[(s:Int)]) == (r++[((s+(j+1):Nat):Int)]))=false:=by
   rw [beq_eq_false_iff_ne]
   intro e
   have:=List.append_cancel_left e
   simp at this
   omega
  rw [ne]
  have:=vN r n (s+1) j (by omega)
  rw [show s+(j+1)=s+1+j by omega,this]
  rfl
theorem aDJ (r:List Int) {m:Int}{k:Int} (h0:0≤k) (h1:k<m):((List.range m.toNat).map fun (k:Nat)=>r++[(k:Int)]).idxOf (r++[k])=k.toNat:=by
 rw [List.range_eq_range']
 have:=vN r m.toNat 0 k.toNat (by omega)
 rw [Nat.zero_add,Int.toNat_of_nonneg h0] at this
 exact this
theorem aAC {m k:Int} (h0:0≤k) (h1:k<m) {r:List Int}:∀ {R:List (List Int)},r∈R→(dN R m).idxOf (r++[k])=R.idxOf r * m.toNat+k.toNat
 | x::R,h=>by
  have e1:dN (x::R) m=((List.range m.toNat).map fun (k:Nat)=>x++[(k:Int)])++dN R m:=by
   unfold dN
   rw [List.flatMap_cons]
  rw [e1,List.idxOf_append,List.idxOf_cons]
  by_cases e:x=r
  ·subst e
   have hm:x++[k]∈(List.range m.toNat).map fun (k:Nat)=>x++[(k:Int)]:=List.mem_map.mpr ⟨k.toNat,List.mem_range.mpr (by omega),by rw [Int.toNat_of_nonneg h0]⟩
   rw [if_pos hm,aDJ x h0 h1]
   simp
  ·have hm:¬ r++[k]∈(List.range m.toNat).map fun (k:Nat)=>x++[(k:Int)]:=by
    intro z
    obtain ⟨j,_,ej⟩:=List.mem_map.mp z
    exact e (List.append_inj_left' ej rfl)
   have hr:r∈R:=by
    rcases List.mem_cons.mp h with z | z
    ·exact absurd z.symm e
    ·exact z
   rw [if_neg hm,aAC h0 h1 hr,List.length_map,List.length_range]
   have eb:(x == r)=false:=beq_eq_false_iff_ne.mpr e
   rw [eb]
   simp only [cond_false]
   rw [Nat.succ_mul]
   omega
theorem yP {r ns:List Int} (h:r.length=ns.length) (k m:Int):nZ (r++[k]) (ns++[m])=nZ r ns * m+k:=by
 unfold nZ
 rw [List.zip_append h,List.foldl_append]
 rfl
theorem aBM:∀ (ms:List Int) (r:List Int),r∈aM ms.reverse→nZ r ms.reverse=((aM ms.reverse).idxOf r:Nat)
 | [],r,h=>by
  have:r=[]:=by simpa [aM] using h
  subst this
  simp [nZ,aM]
 | m::ms,r,h=>by
  rw [List.reverse_cons] at h ⊢
  rw [oC] at h ⊢
  have h':=h
  unfold dN at h'
  obtain ⟨r0,hr0,h1⟩:=List.mem_flatMap.mp h'
  obtain ⟨k,hk,rfl⟩:=List.mem_map.mp h1
  have hk':=List.mem_range.mp hk
  rw [yP (gH hr0),aBM ms r0 hr0,aAC (by omega) (by omega) hr0,Int.natCast_add,Int.natCast_mul,Int.toNat_of_nonneg (by omega:0≤m)]
  simp
theorem aCo {ns r:List Int} (h:r∈aM ns):nZ r ns=((aM ns).idxOf r:Nat):=by
 have:=aBM ns.reverse r (by rw [List.reverse_reverse];exact h)
 rwa [List.reverse_reverse] at this
theorem aDZ {ns r:List Int} (h:r∈aM ns) (i:Nat):r.take i∈aM (ns.take i):=by
 have q:=wL h
 refine aE9 ⟨by rw [List.length_take,List.length_take,q.1],fun j x n e1 e2=>?_⟩
 rw [List.getElem?_take] at e1 e2
 split at e1
 ·rename_i hj
  rw [if_pos hj] at e2
  exact q.2 j x n e1 e2
 ·cases e1
theorem aI7 {ns r:List Int} (ho:eL ns=true) (h:r∈aM ns) (i:Nat):0≤nZ (r.take i) (ns.take i)∧nZ (r.take i) (ns.take i)≤27:=by
 rw [aCo (aDZ h i)]
 have:=List.idxOf_lt_length_of_mem (aDZ h i)
 have:=(j4 (vL ho i)).2
 omega
theorem aEM {ns r:List Int}{i:Nat} (h1:i<r.length) (h2:i<ns.length) (hl:r.length=ns.length):nZ (r.take (i+1)) (ns.take (i+1))=nZ (r.take i) (ns.take i) * ns[i]+r[i]:=by
 rw [List.take_succ,List.take_succ,List.getElem?_eq_getElem h1,List.getElem?_eq_getElem h2,Option.toList_some,Option.toList_some,yP (by rw [List.length_take,List.length_take,hl])]
theorem aJZ (r ns:List Int):List.zipWith (fun x y=>D.tup [x,y]) (r.map D.int) (ns.map D.int)=(r.zip ns).map fun p=>D.tup [.int p.1,.int p.2]:=by
 rw [List.zipWith_map_left,List.zipWith_map_right,List.zip,List.map_zipWith]
theorem uL (r:List Int):u5 (r.map D.int)=(List.range r.length).map fun (k:Nat)=>D.tup [.int k,.int (r.getD k 0)]:=by
 refine List.ext_getElem? fun i=>?_
 rw [rS,List.getElem?_map,List.getElem?_map]
 by_cases h:i<r.length
 ·rw [List.getElem?_range h,List.getElem?_eq_getElem h,Option.map_some,Option.map_some,Option.map_some,bP h]
 ·rw [List.getElem?_eq_none (by simpa using h),List.getElem?_eq_none (by simpa using h)]
  rfl
def eY:List D→Option D
 | [r,.tup ds]=>match jE r,iE ds with
  | some r,some ns=>if eL ns=true∧r∈aM ns then some (.int ((aM ns).idxOf r:Nat)) else none
  | _,_=>none
 | _=>none
def eI:List D→Option D
 | [d,.int h,.int k]=>match jE d with
  | some r=>if r.length≤1000∧0≤h∧h<r.length then some (aE (r.set h.toNat k)) else none
  | none=>none
 | _=>none
section
variable {κ:Type} [DecidableEq κ]
def y0 (kvs:List (κ×V)) (k:κ):Option V:=(kvs.find? fun kv=>decide (kv.1=k)).map (·.2)
def yX (kvs:List (κ×V)) (k:κ) (v:V):List (κ×V):=
 if (kvs.any fun kv=>decide (kv.1=k))=true then kvs.map (fun kv=>if kv.1=k then (kv.1,v) else kv) else kvs++[(k,v)]
theorem aN1 {k:κ}:y0 ([]:List (κ×V)) k=none:=rfl
theorem vR {p:κ×V}{r:List (κ×V)}{k:κ} (e:p.1=k):y0 (p::r) k=some p.2:=by simp [y0,List.find?_cons,e]
theorem vQ {p:κ×V}{r:List (κ×V)}{k:κ} (e:¬ p.1=k):y0 (p::r) k=y0 r k:=by simp [y0,List.find?_cons,e]
theorem aD1 (k:κ):∀ kvs:List (κ×V),(kvs.any fun kv=>decide (kv.1=k))=(y0 kvs k).isSome
 | []=>rfl
 | p::r=>by
  rw [List.any_cons]
  by_cases e:p.1=k
  ·simp only [vR e,decide_eq_true e,Bool.true_or,Option.isSome_some]
  ·rw [vQ e,decide_eq_false e,Bool.false_or];exact aD1 k r
theorem xY (kvs:List (κ×V)) (k:κ) (v:V):(yX kvs k v).length≤kvs.length+1:=by
 unfold yX
 split
 ·rw [List.length_map];omega
 ·rw [List.length_append,List.length_cons,List.length_nil];omega
theorem aBm.isSome_eq {o:Option V}{u:Option Value} (r:aBm o u):o.isSome=u.isSome:=by
 cases o with
 | none=>cases u with
  | none=>rfl
  | some _=>exact (show False from r).elim
 | some _=>cases u with
  | none=>exact (show False from r).elim
  | some _=>rfl
theorem KV.val {kvs:List (κ×V)}{vs:List (κ×Value)} (r:KV kvs vs) (k:κ):aBm (y0 kvs k) (valueAt vs k):=by
 unfold KV at r
 induction r with
 | nil=>exact True.intro
 | @cons p q ps qs h t ih=>
  obtain ⟨h1,h2⟩:=h
  by_cases e:p.1=k
  ·have e':q.1=k:=h1.symm.trans e
   have b:valueAt (q::qs) k=some q.2:=by simp [valueAt,List.find?_cons,e']
   rw [vR e,b];exact h2
  ·have e':¬ q.1=k:=fun z=>e (h1.trans z)
   have b:valueAt (q::qs) k=valueAt qs k:=by simp [valueAt,List.find?_cons,e']
   rw [vQ e,b];exact ih
theorem KV.any {kvs:List (κ×V)}{vs:List (κ×Value)} (r:KV kvs vs) (k:κ):(kvs.any fun kv=>decide (kv.1=k))=vs.any fun kv=>decide (kv.1=k):=by
 unfold KV at r
 induction r with
 | nil=>rfl
 | cons h t ih=>rw [List.any_cons,List.any_cons,ih,h.1]
theorem KV.repl {kvs:List (κ×V)}{vs:List (κ×Value)} (r:KV kvs vs) (k:κ) {y:V}{u:Value} (ry:dD y u) :
  KV (kvs.map fun kv=>if kv.1=k then (kv.1,y) else kv) (vs.map fun kv=>if kv.1=k then (kv.1,u) else kv):=by
 unfold KV at r ⊢
 induction r with
 | nil=>exact .nil
 | @cons p q ps qs h t ih=>
  rw [List.map_cons,List.map_cons]
  refine .cons ?_ ih
  obtain ⟨h1,h2⟩:=h
  by_cases e:p.1=k
  ·rw [if_pos e,if_pos (h1.symm.trans e)];exact ⟨h1,ry⟩
  ·rw [if_neg e,if_neg (fun z=>e (h1.trans z))];exact ⟨h1,h2⟩
theorem KV.put {kvs:List (κ×V)}{vs:List (κ×Value)} (r:KV kvs vs) (k:κ) {y:V}{u:Value} (ry:dD y u):KV (yX kvs k y) (stored vs k u):=by
 unfold yX stored
 rw [r.any k]
 by_cases e:(vs.any fun kv=>decide (kv.1=k))=true
 ·rw [if_pos e,if_pos e];exact r.repl k ry
 ·rw [if_neg e,if_neg e];exact Paired.snoc r ⟨rfl,ry⟩
theorem KV.keys {kvs:List (κ×V)}{vs:List (κ×Value)} (r:KV kvs vs):kvs.map (·.1)=vs.map (·.1):=by
 unfold KV at r
 induction r with
 | nil=>rfl
 | cons h t ih=>rw [List.map_cons,List.map_cons,ih,h.1]
theorem KV.length {kvs:List (κ×V)}{vs:List (κ×Value)} (r:KV kvs vs):kvs.length=vs.length:=Paired.length r
end
theorem aGE {P:Program}{w:World}{k:mZ}{u:Value} (r:dD (kV k) u):(hG P w).is k u=true:=by
 cases k with
 | inl i=>obtain ⟨t,e⟩:=(show ∃ t,u=Value.int i t from r);subst e;exact aEq P w i t
 | inr x=>obtain ⟨t,e⟩:=(show ∃ t,u=Value.str x t from r);subst e;exact aER P w x t
theorem aBS {P:Program}{w:World}:∀ {ks:List mZ}{us:List Value},dR (ks.map kV) us→ItemsAre (hG P w) ks us
 | [],_,r=>by rw [List.map_nil] at r;cases r;exact .nil
 | k::ks,_,r=>by
  rw [List.map_cons] at r
  cases r with
  | cons h t=>exact .cons (aGE h) (aBS t)
abbrev KT (H:Hp):List (List mZ×V)→List (List mZ×Addr×Value)→Prop:=Paired fun p q=>p.1=q.1∧H q.2.1=some (.tup (p.1.map kV))∧dD p.2 q.2.2
theorem KT.val {H:Hp}{kvs:List (List mZ×V)}{xs:List (List mZ×Addr×Value)} (r:KT H kvs xs) (k:List mZ):aBm (y0 kvs k) ((atKey xs k).map (·.2)):=by
 induction r with
 | nil=>exact True.intro
 | @cons p q ps qs h t ih=>
  obtain ⟨h1,_,h2⟩:=h
  by_cases e:p.1=k
  ·have e':q.1=k:=h1.symm.trans e
   have b:atKey (q::qs) k=some q.2:=by simp [atKey,List.find?_cons,e']
   rw [vR e,b];exact h2
  ·have e':¬ q.1=k:=fun z=>e (h1.trans z)
   have b:atKey (q::qs) k=atKey qs k:=by simp [atKey,List.find?_cons,e']
   rw [vQ e,b];exact ih
theorem KT.repl {H:Hp}{kvs:List (List mZ×V)}{xs:List (List mZ×Addr×Value)} (r:KT H kvs xs) (k:List mZ) {y:V}{u:Value} (ry:dD y u) :
  KT H (kvs.map fun kv=>if kv.1=k then (kv.1,y) else kv) (xs.map (putAt k u)):=by
 induction r with
 | nil=>exact .nil
 | @cons p q ps qs h t ih=>
  rw [List.map_cons,List.map_cons]
  refine .cons ?_ ih
  obtain ⟨h1,h2,h3⟩:=h
  unfold putAt
  by_cases e:p.1=k
  ·rw [if_pos e,if_pos (h1.symm.trans e)];exact ⟨h1,h2,ry⟩
  ·rw [if_neg e,if_neg (fun z=>e (h1.trans z))];exact ⟨h1,h2,h3⟩
theorem KT.put {H:Hp}{kvs:List (List mZ×V)}{xs:List (List mZ×Addr×Value)} (r:KT H kvs xs) (k:List mZ) {b:Addr}{y:V}{u:Value} (hb:H b=some (.tup (k.map kV))) (ry:dD y u) :
  KT H (yX kvs k y) (storedH xs k b u):=by
 have e:(kvs.any fun kv=>decide (kv.1=k))=(atKey xs k).isSome:=by
  rw [aD1,(r.val k).isSome_eq,Option.isSome_map]
 unfold yX storedH
 rw [e]
 by_cases q:(atKey xs k).isSome=true
 ·rw [if_pos q,if_pos q];exact r.repl k ry
 ·rw [if_neg q,if_neg q];exact Paired.snoc r ⟨rfl,hb,ry⟩
theorem KT.keeps {H H':Hp}{kvs:List (List mZ×V)}{xs:List (List mZ×Addr×Value)} (r:KT H kvs xs) (ht:∀ b ys,H b=some (.tup ys)→H' b=some (.tup ys)):KT H' kvs xs:=
 Paired.mapP r fun _ _ z=>⟨z.1,ht _ _ z.2.1,z.2.2⟩
section
variable {P:Program}{w:World}{H:Hp}{h:Heap}{a:Addr}
theorem aLw {u:HO} (ok:sW P w H h) (e:Rd H a u):iZ P w H h a u:=e.ok ok
theorem aD5 {kvs:List (mZ×V)} (ok:sW P w H h) (e:Rd H a (.dK kvs)):kvs.length≤sizeLine∧(a == sysModules)=false∧∃ vs,KV kvs vs∧h.DictOf (hG P w) a vs:=
 show iZ P w H h a (.dK kvs) from aLw ok e
theorem aNP {kvs:List (mZ×V)} (ok:sW P w H h) (e:H a=some (.dK kvs)):kvs.length≤sizeLine∧(a == sysModules)=false∧∃ vs,KV kvs vs∧h.DictOf (hG P w) a vs:=aD5 ok (.inl e)
theorem aCB {ks:List mZ} (ok:sW P w H h) (e:H a=some (.tup (ks.map kV))):(tupleKind (hG P w)).is h ks a:=by
 obtain ⟨_,its,r,o,h1,h2,n,h3⟩:=(show iZ P w H h a (.tup (ks.map kV)) from ok a _ e)
 exact ⟨o,its.toArray,n,h1,h2,h3,by simpa using aBS r⟩
theorem aGC {kvs:List (List mZ×V)} (ok:sW P w H h) (e:Rd H a (.dT kvs)):kvs.length≤sizeLine∧(a == sysModules)=false ∧
  ∃ xs,KT H kvs xs∧h.DictOfH (tupleKind (hG P w)) a xs:=by
 obtain ⟨z,y,xs,r,o,es,ep,h1,h2,h3,h4,h5⟩:=(show iZ P w H h a (.dT kvs) from aLw ok e)
 refine ⟨z,y,xs,r,o,es,ep,h1,h2,h3,h4,fun x hx=>?_,h5⟩
 have all:∀ {l:List (List mZ×V)}{m:List (List mZ×Addr×Value)},KT H l m→∀ x∈m,(tupleKind (hG P w)).is h x.1 x.2.1:=by
  intro l m q
  induction q with
  | nil=>intro x hx;exact nomatch hx
  | @cons p q ps qs hq t ih=>
   intro x hx
   rcases List.mem_cons.mp hx with e | hx
   ·subst e
    exact aCB ok (by rw [← hq.1];exact hq.2.1)
   ·exact ih x hx
 exact all r x hx
theorem aN5 {kvs:List (List mZ×V)} (ok:sW P w H h) (e:H a=some (.dT kvs)):kvs.length≤sizeLine∧(a == sysModules)=false ∧
  ∃ xs,KT H kvs xs∧h.DictOfH (tupleKind (hG P w)) a xs:=aGC ok (.inl e)
end
def aId (H:Hp) (a:Addr) (y:V) (r:Option V):Prop:=
 (∃ kvs k,Rd H a (.dK kvs)∧y=kV k∧r=y0 kvs k)∨∃ kvs k b,Rd H a (.dT kvs)∧y = .ref b∧H b=some (.tup (k.map kV))∧r=y0 kvs k
def aLU (H:Hp) (a:Addr) (y v:V) (H':Hp):Prop:=
 (∃ kvs k,H a=some (.dK kvs)∧y=kV k∧kvs.length<sizeLine∧H'=upd H a (.dK (yX kvs k v))) ∨
 ∃ kvs k b,H a=some (.dT kvs)∧y = .ref b∧H b=some (.tup (k.map kV))∧kvs.length<sizeLine∧H'=upd H a (.dT (yX kvs k v))
section
variable {X:Cx}{pins:List (Addr×Obj)}{σ:St}{H:Hp}{s:Shared}{a:Addr}{y v:V}{u r:Value}{o:Option V}{A:Around}{E:Value→Shared→Prop}
theorem bI.big (I:bI X pins σ H s):sysModules<s.heap.objs.size:=by
 have h:mainGlobals<s.heap.objs.size:=(I.mod.glob.keeps I.bk).lt
 exact Nat.lt_trans (by decide) h
theorem aH9 {Q:Value→Shared→Prop} (hu:A.units+1<cLine) (I:bI X pins σ H s) (g:aId H a y (some v)) (ry:dD y u) (h:∀ w' s',bI X pins σ H s'→dD v w'→Q w' s') :
  wpAny (model X.prog X.w) A (getItem (.ref a) u) Q E s:=by
 rcases g with ⟨kvs,k,e,ey,l⟩ | ⟨kvs,k,b,e,ey,eb,l⟩
 ·subst ey
  obtain ⟨z,hd,vs,rel,dd⟩:=aD5 I.hok e
  obtain ⟨w',hw,rw'⟩:=aBm.some_of (v:=v) (o:=valueAt vs k) (by rw [l];exact rel.val k)
  exact wpAny_getItem_of (aGE ry) dd.mapOf hw (h w' _ (I.tok _) rw')
 ·subst ey
  cases (show u=Value.ref b from ry)
  obtain ⟨z,hd,xs,rel,dd⟩:=aGC I.hok e
  obtain ⟨w',hw,rw'⟩:=aBm.some_of (v:=v) (o:=(atKey xs k).map (·.2)) (by rw [l];exact rel.val k)
  obtain ⟨p,hp,hp2⟩:=Option.map_eq_some_iff.mp hw
  refine wpAny_getItem_heap (tupleKind_room_in1 hu) (aCB I.hok eb) dd hp ?_
  rw [hp2]
  exact h w' _ (I.tok _) rw'
theorem aKD {Q:Value→Shared→Prop} (hu:A.units+1<cLine) (I:bI X pins σ H s) (g:aId H a y o) (ry:dD y u) (h:∀ s',bI X pins σ H s'→Q (.bool (!o.isSome)) s') :
  wpAny (model X.prog X.w) A (compareOp .NotIn u (.ref a)) Q E s:=by
 rcases g with ⟨kvs,k,e,ey,l⟩ | ⟨kvs,k,b,e,ey,eb,l⟩
 ·subst ey
  obtain ⟨z,hd,vs,rel,dd⟩:=aD5 I.hok e
  refine wpAny_notIn_of (aGE ry) hd dd.mapOf ?_
  rw [← (rel.val k).isSome_eq,← l]
  exact h _ (I.tok _)
 ·subst ey
  cases (show u=Value.ref b from ry)
  obtain ⟨z,hd,xs,rel,dd⟩:=aGC I.hok e
  refine wpAny_notIn_heap (tupleKind_room_in1 hu) (aCB I.hok eb) hd dd ?_
  have q:=(rel.val k).isSome_eq
  rw [Option.isSome_map] at q
  rw [← q,← l]
  exact h _ (I.tok _)
theorem aGT {h':Heap}{t':Nat}{ob:HO} (I:bI X pins σ H s) (mu:Mut (H a)) (hs:Heap.SameBut a s.heap h') (he:∃ q,h'.get? a=some q) (new:iZ X.prog X.w (upd H a ob) h' a ob) :
  bI X pins σ (upd H a ob) { s with heap:=h',toks:=t' }:=
 I.write (x:=a) (e:=a) mu (.inl rfl) (fun b q hb z=>(hs.2 b hb).trans z) he new
theorem aMr {P:Program}{w:World}{H':Hp}{h':Heap}{kvs:List (mZ×V)}{vs:List (mZ×Value)} (z:kvs.length≤sizeLine) (hd:(a == sysModules)=false) (rel:KV kvs vs) (dd:h'.DictOf (hG P w) a vs) :
  iZ P w H' h' a (.dK kvs):=⟨z,hd,vs,rel,dd⟩
theorem aH4 {H':Hp}{Q:Unit→Shared→Prop} (hu:A.units+1<cLine) (I:bI X pins σ H s) (g:aLU H a y v H') (ry:dD y u) (rv:dD v r) (h:∀ s',bI X pins σ H' s'→Q () s') :
  wpAny (model X.prog X.w) A (setItem (.ref a) u r) Q E s:=by
 rcases g with ⟨kvs,k,e,ey,l,eH⟩ | ⟨kvs,k,b,e,ey,eb,l,eH⟩
 ·subst ey eH
  obtain ⟨z,hd,vs,rel,dd⟩:=aNP I.hok e
  have hz:vs.length≤sizeLine:=by rw [← rel.length];exact z
  have hl:(yX kvs k v).length≤sizeLine:=by have:=xY kvs k v;omega
  refine wpAny_setItem_pairs (hsz:=hz) (aGE ry) dd fun h' dd' hs=>h _ ?_
  have he:∃ q,h'.get? a=some q:=let ⟨q,_,_,hq,_⟩:=dd'; ⟨q,hq⟩
  exact aGT I (by rw [e];exact True.intro) hs he (aMr hl hd (rel.put k rv) dd')
 ·subst ey eH
  cases (show u=Value.ref b from ry)
  obtain ⟨z,hd,xs,rel,dd⟩:=aN5 I.hok e
  have hz:xs.length≤sizeLine:=by rw [← Paired.length rel];exact z
  have hl:(yX kvs k v).length≤sizeLine:=by have:=xY kvs k v;omega
  refine wpAny_setItem_heap (hsz:=hz) (tupleKind_room_in1 hu) (aCB I.hok eb) dd fun h' dd' hs=>h _ ?_
  obtain ⟨q,es,ep,hq,h2,h3,h4,_,h5⟩:=dd'
  refine aGT I (by rw [e];exact True.intro) hs ⟨q,hq⟩ ⟨hl,hd,_,(rel.put k eb rv).keeps fun c ys ec=>?_,q,es,ep,hq,h2,h3,h4,h5⟩
  rw [aZ (aD8 ec e (fun z=>nomatch z))]
  exact ec
end
section
variable {X:Cx}{pins:List (Addr×Obj)}{σ:St}{H:Hp}{s:Shared}{a:Addr}{kvs:List (mZ×V)}{k:mZ}{u:Value}{A:Around}{E:Value→Shared→Prop}
theorem aND {Q:Value→Shared→Prop} (I:bI X pins σ H s) (e:Rd H a (.dK kvs)) (h:∀ t s',bI X pins σ H s'→Q (.int kvs.length t) s'):wpAny (model X.prog X.w) A (call (.builtin "len") [.ref a]) Q E s:=by
 obtain ⟨z,hd,vs,rel,dd⟩:=aD5 I.hok e
 refine call_len_dict hd dd (by rw [← rel.length];rw [sizeLine_eq] at z;omega) ?_
 rw [← rel.length]
 exact h _ _ (I.tok _)
end
def aLM (i:Expr):Prop:=∀ ov iv,subscripted i false ov iv=operate [ov,iv] (getItem ov iv)
theorem aK8 {prog:Program}{w:World}{A:Around}{E:Value→Shared→Prop}{s:Shared}{env:Env}{value slice:Expr}{pos:Pos}{T id:String}{Q:Value→Shared→Prop}
  (hl:typeLookup (.type T) "__getitem__"=pure (some (.builtin id))) (hs:aLM slice)
  (h:wpAny (model prog w) A (eval value env) (fun o s₁=>wpAny (model prog w) A (eval slice env) (fun i s₂=>s₂.TypeIs o T∧wpAny (model prog w) A (getItem o i) Q E s₂) E s₁) E s) :
  wpAny (model prog w) A (eval (.Subscript value slice pos) env) Q E s:=by
 refine Subscript_ (wpAny_mono h (fun o s₁ h₁=>wpAny_mono h₁ (fun i s₂ h₂=>?_) fun _ _ x=>x) fun _ _ x=>x)
 obtain ⟨hT,h₂⟩:=h₂
 unfold subscriptTail
 refine wpAny_bind ?_
 rw [getitemInPython_of_ne hT.not_modules]
 refine wpAny_bind (wpAny_specialOf hT hl ?_)
 have fin:wpAny (model prog w) A (subscripted slice false o i) (fun r s₃=>wpAny (model prog w) A (letTemporaryGo value o r >>= fun _=>pure r) Q E s₃) E s₂:=by
  rw [hs o i]
  exact wpAny_operating (wpAny_mono h₂ (fun r s₃ h₃=>wpAny_bind (wpAny_letTemporaryGo (wpAny_pure h₃))) fun _ _ x=>x)
 first
  | exact wpAny_pure (wpAny_bind fin)
  | exact wpAny_bind (wpAny_pure (wpAny_bind fin))
  | exact wpAny_bind fin
theorem aDQ {X:Cx}{pins:List (Addr×Obj)}{σ:St}{H:Hp}{s:Shared}{a:Addr}{y:V}{o:Option V} (I:bI X pins σ H s) (g:aId H a y o):s.TypeIs (.ref a) "dict":=by
 rcases g with ⟨kvs,k,e,_,_⟩ | ⟨kvs,k,b,e,_,_,_⟩
 ·obtain ⟨_,_,vs,_,dd⟩:=aD5 I.hok e
  exact dd.typeIs
 ·obtain ⟨_,_,xs,_,dd⟩:=aGC I.hok e
  exact dd.typeIs
def aNG (td ty:TE):TE:=fun σ H Q=>td σ H fun x H1=>ty σ H1 fun y H2=>∃ a v,x = .ref a∧aId H2 a y (some v)∧Q v H2
def aKo (ty td:TE):TE:=fun σ H Q=>ty σ H fun y H1=>td σ H1 fun x H2=>∃ a o,x = .ref a∧aId H2 a y o∧Q (.bl (!o.isSome)) H2
def aNw (td ty tv:TE):TS:=fun D σ H=>tv σ H fun v H1=>td σ H1 fun x H2=>ty σ H2 fun y H3=>∃ a H4,x = .ref a∧aLU H3 a y v H4∧D.nx σ H4
section
variable {X:Cx}{o i e value:Expr}{pos pos' tpos:Pos}{td ty tv:TE}
theorem aKI (hu:X.A.units+1<cLine) (ho:PE X o td) (hi:PE X i ty) (hs:aLM i):PE X (.Subscript o i pos) (aNG td ty):=by
 intro pins s σ H Q I h
 refine aK8 PySem.F.slot_dict_getitem.lookup hs (iA (ho pins s σ H _ I h) fun u s1 ⟨x,H1,I1,rx,q1⟩=>iA (hi pins s1 σ H1 _ I1 q1) fun iv s2 ⟨y,H2,I2,ry,a,v,ex,g,q2⟩=>?_)
 subst ex
 obtain rfl:u=Value.ref a:=rx
 exact ⟨aDQ I2 g,aH9 hu I2 g ry fun w' s3 I3 rw'=>⟨v,H2,I3,rw',q2⟩⟩
theorem aHD (hu:X.A.units+1<cLine) (hi:PE X i ty) (ho:PE X o td):PC X .NotIn i o (aKo ty td):=by
 intro pins s σ H Q I h
 refine iA (hi pins s σ H _ I h) fun iv s1 ⟨y,H1,I1,ry,q1⟩=>iA (ho pins s1 σ H1 _ I1 q1) fun u s2 ⟨x,H2,I2,rx,a,ov,ex,g,q2⟩=>?_
 subst ex
 obtain rfl:u=Value.ref a:=rx
 exact aKD hu I2 g ry fun s3 I3=>⟨.bl (!ov.isSome),H2,I3,rfl,q2⟩
theorem aKX (hu:X.A.units+1<cLine) (ho:PE X o td) (hi:PE X i ty) (hv:PE X value tv) (hs:swapsWith value (some (.Subscript o i pos')) pos.line X.env=pure false) :
  PS X (.Assign [.Subscript o i pos'] value pos) (aNw td ty tv):=by
 intro pins s σ H D I h
 refine wpAny_Assign_Subscript (iA (hv pins s σ H _ I h) fun r s1 ⟨v,H1,I1,rv,q1⟩=>iA (ho pins s1 σ H1 _ I1 q1) fun u s2 ⟨x,H2,I2,rx,q2⟩=>iA (hi pins s2 σ H2 _ I2 q2) fun iv s3 ⟨y,H3,I3,ry,a,H4,ex,g,q3⟩=>?_) hs
 subst ex
 obtain rfl:u=Value.ref a:=rx
 exact aH4 hu I3 g ry rv fun s4 I4=>⟨σ,H4,I4,q3⟩
end
theorem aJe {P:Program}{w:World}{H:Hp} (h:Heap) (hb:sysModules<h.objs.size):iZ P w H (h.push { cls:=.type "dict",data:=.dict #[] }) h.objs.size (.dK []):=
 ⟨Nat.zero_le _,beq_eq_false_iff_ne.mpr (Ne.symm (Nat.ne_of_lt hb)),[],.nil,Heap.DictOf.new h⟩
def aLS:TE:=fun _ H Q=>∀ p,H p=none→Q (.ref p) (upd H p (.dK []))
section
variable {X:Cx}{pos:Pos}
theorem aJS:PE X (.Dict [] [] pos) aLS:=fun pins s σ H Q I h=>
 wpAny_Dict_empty ⟨.ref s.heap.objs.size,_,I.laid (a:=s.heap.objs.size) (o:=.dK []) (t':=s.toks) (fun _ _ q=>Heap.get?_push_of_some _ q) (Nat.le_refl _) (aJe s.heap I.big),rfl,h _ (I.hok.fresh (Nat.le_refl _))⟩
end
section
variable {X:Cx}{pins:List (Addr×Obj)}{σ:St}{H:Hp}{s:Shared}{a:Addr}{y d:V}{u r:Value}{o:Option V}{A:Around}{E:Value→Shared→Prop}
end
section
variable {X:Cx}{o e f:Expr}{apos cpos:Pos}{td ty tx:TE}
end
section
variable {X:Cx}{pins:List (Addr×Obj)}{σ:St}{H:Hp}{s:Shared}{a:Addr}{kvs:List (mZ×V)}{A:Around}{E:Value→Shared→Prop}
end
section
variable {X:Cx}{pins:List (Addr×Obj)}{σ:St}{H:Hp}{s:Shared}{a:Addr}{y:V}{u:Value}{A:Around}{E:Value→Shared→Prop}
end
def Itv (K:PySem.W.Frag) (p:Addr) (n:Nat):It:=
 ⟨fun i H=>i<n∧∃ xs x,lI K H p xs∧xs[n-1-i]? = some x,fun i H x H'=>H'=H∧∀ xs,lI K H p xs→xs[n-1-i]? = some x,fun i _=>n≤i⟩
theorem aJr {P:Program}{w:World}{K:PySem.W.Frag}{tg:Expr} (a it:Addr) (n:Nat):aCM P w K tg (Itv K a n) [it] it (fun i h=>i≤n∧h.IsRevIter it a ((n:Int)-1-(i:Int))) where
 mem:=by simp
 obj:=fun i h st b hb=>by
  have e:b=it:=by simpa using hb
  subst e
  obtain ⟨_,o,e,c,d⟩:=st
  exact ⟨o,e,fun v z=>by rw [d] at z;cases z⟩
 keep:=fun i h h' st k=>⟨st.1,st.2.at fun o e=>k it (by simp) o e⟩
 item:=by
  intro X hP hw hK hc i pins s σ H E I hf st hg
  subst hP hw hK
  obtain ⟨hi,xs,x,hq,hx⟩:=hg
  obtain ⟨its,rv,p,hz⟩:=I.list hq
  obtain ⟨u,hu,ru⟩:=rv.get hx
  obtain ⟨f0,f1,f2,f3,f4,f5⟩:=hf it (by simp)
  have hit:=st.2
  rw [show (n:Int)-1-(i:Int)=((n-1-i:Nat):Int) by omega] at hit
  refine wpAny_pyNext_rev_item hit p.isList (x:=u) (by simpa using hu) fun h' st' sb=>?_
  rw [show ((n-1-i:Nat):Int)-1=(n:Int)-1-((i+1:Nat):Int) by omega] at st'
  have I1:bI X pins σ H { s with heap:=h' }:=I.turned (t':=s.toks) (fun b o hb e=>(sb.2 b hb).trans e) f0 f1 f3 f4 f5
  obtain ⟨o,e,c,d⟩:=id st'
  exact ⟨u,rfl,aD0 (s:={ s with heap:=h' }) e c d (by decide) ⟨x,H,I1,ru,⟨rfl,fun ys hy=>by rw [I.list_inj hy hq];exact hx⟩,⟨hi,st'⟩,fun b hb=>(hf b hb).1⟩⟩
 done:=by
  intro X hP hw hK hc i pins s σ H E I hf st hg
  subst hP hw hK
  obtain ⟨f0,f1,f2,f3,f4,f5⟩:=hf it (by simp)
  have h1:n≤i:=hg
  have h2:=st.1
  have hit:=st.2
  rw [show (n:Int)-1-(i:Int) = -1 by omega] at hit
  exact wpAny_pyNext_rev_end (I.ok.hd hc) hit fun h' eb=>⟨rfl,I.turned (t':=s.toks) (fun b o hb e=>eb b o hb e) f0 f1 f3 f4 f5⟩
 self:=fun _ _ _ _ _ st h=>wpAny_pyIter_revIter st.2 h
section
variable {X:Cx}{tg a:Expr}{ga:GE}{pos:Pos}
def aOK (K:PySem.W.Frag) (ta:TA):TI:=fun σ H R=>ta σ H fun vs H1=>∃ p xs,vs=[.ref p]∧lI K H1 p xs∧R (Itv K p xs.length) H1
theorem aL6 {ta:TA}{p:Pos} (hg:Gl X "reversed") (hm:X.mg "reversed"=none) (hbt:bootBuiltins "reversed"=some (.type "reversed")) (ha:PA X [a] ta) (hs:starEach [a] X.env=[(false,eval a X.env)]:=by rfl) :
  PI X tg (.Call (.Name "reversed" p) [a] [] pos) (aOK X.K ta):=by
 intro pins s σ H R I h
 refine Call_ (rB I hg hm hbt (PyProof.Rows.callWith_type1 (iA (ha pos pins s σ H _ I h) fun us s1 ⟨vs,H1,I1,r1,q1⟩=>?_) (by rw [hs];rfl) (by rfl)))
 obtain ⟨l,xs,e,hx,q⟩:=q1
 subst e
 obtain ⟨u,rfl,r⟩:=rN r1
 cases r
 obtain ⟨its,rv,pl,hz⟩:=I1.list hx
 have hl:=rv.length
 refine call_reversed_list pl.isList ?_
 have st:(s1.heap.push (revObj l ((its.toArray.size:Int)-1))).IsRevIter s1.heap.objs.size l ((xs.length:Int)-1-((0:Nat):Int)):=⟨_,Heap.get?_push_size _ rfl,rfl,by simp [revObj,hl]⟩
 refine wpAny_pyIter_revIter st ?_
 refine ⟨s1.heap.objs.size,[s1.heap.objs.size],_,_,H1,rfl,I1.kept (t':=s1.toks) fun b o e=>Heap.get?_push_of_some _ e,aJr l _ xs.length,⟨Nat.zero_le _,st⟩,fun b hb=>?_,q⟩
 have e:b=s1.heap.objs.size:=by simpa using hb
 subst e
 exact I1.fpOk (Nat.le_refl _) (I1.hok.fresh (Nat.le_refl _))
def aLW (ga:GE):GF:=fun δ Q=>ga δ fun d=>match d with
 | .lst ds=>Q ds.reverse
 | _=>False
theorem aIs {K:PySem.W.Frag}{C1:Hp}{p:Addr}{xs:List V}{ds:List D} (hx:lI K C1 p xs) (hd:b9 K C1 xs ds):aD2 K (Itv K p xs.length) ds.reverse C1:=by
 intro C2 H2 c1 c2 i
 have hx2:=c2.seq (c1.seq hx)
 refine ⟨fun d e=>?_,fun hl=>?_⟩
 ·have hi:i<ds.length:=by
   have:=(List.getElem?_eq_some_iff.mp e).1
   simpa using this
  rw [List.getElem?_reverse hi,← hd.length] at e
  obtain ⟨v,ev,nv⟩:=hd.get e
  refine ⟨⟨by rw [hd.length];exact hi,xs,v,hx2,ev⟩,fun x H3 y=>?_⟩
  obtain ⟨rfl,y⟩:=y
  have:=y xs hx2
  rw [ev] at this
  cases this
  exact ⟨C2,eN.refl c2,nv.mono c1⟩
 ·show xs.length≤i
  rw [List.length_reverse] at hl
  rw [hd.length]
  exact hl
theorem aMl {p:Pos} (hg:Gl X "reversed") (hm:X.mg "reversed"=none) (hbt:bootBuiltins "reversed"=some (.type "reversed")) (ha:DE X a ga) (hs:starEach [a] X.env=[(false,eval a X.env)]:=by rfl):DI X tg (.Call (.Name "reversed" p) [a] [] pos) (aLW ga):=by
 obtain ⟨t1,p1,h1⟩:=ha
 refine ⟨_,aL6 hg hm hbt (dO p1 gX hs) hs,fun C0 H0 δ σ C H Q R rp g k=>h1 C0 H0 δ σ C H _ _ rp g fun d v C1 H1 q e1 n1=>?_⟩
 cases d with
 | lst ds=>
  obtain ⟨p,xs,rfl,hx,hd⟩:=cT.mp n1
  exact ⟨p,xs,rfl,e1.ch.seq hx,k _ _ C1 H1 q e1 (aIs hx hd)⟩
 | _=>exact q.elim
end
section
variable {X:Cx}{tg a:Expr}{ga:GE}{pos:Pos}
def aOw (K:PySem.W.Frag) (tl:TE):TI:=fun σ H R=>tl σ H fun x H1=>∃ a,x = .ref a∧(((∃ xs,lI K H1 a xs)∧R (Itl K a) H1)∨((∃ xs,kS K H1 a xs)∧R (Itt K a) H1))
theorem aMn {l:Expr}{tl:TE} (hl:PE X l tl):PI X tg l (aOw X.K tl):=by
 intro pins s σ H R I h
 refine iA (hl pins s σ H _ I h) fun v s1 ⟨x,H1,I1,r1,q1⟩=>?_
 obtain ⟨a,e,q1⟩:=q1
 subst e
 cases r1
 rcases q1 with ⟨⟨xs,hq⟩,q⟩ | ⟨⟨xs,hq⟩,q⟩
 ·obtain ⟨its,rv,p,hz⟩:=I1.list hq
  refine wpAny_pyIter_list p.isList ?_
  refine ⟨s1.heap.objs.size,[s1.heap.objs.size],_,_,H1,rfl,I1.kept (t':=s1.toks) fun b o e=>Heap.get?_push_of_some _ e,aBW a _,⟨_,Heap.get?_push_size _ rfl,rfl,rfl⟩,fun b hb=>?_,q⟩
  have e:b=s1.heap.objs.size:=by simpa using hb
  subst e
  exact I1.fpOk (Nat.le_refl _) (I1.hok.fresh (Nat.le_refl _))
 ·obtain ⟨its,rv,p,hz⟩:=I1.tuple hq
  refine wpAny_pyIter_tuple (show s1.heap.IsTuple a its.toArray from p) ?_
  refine ⟨s1.heap.objs.size,[s1.heap.objs.size],_,_,H1,rfl,I1.kept (t':=s1.toks) fun b o e=>Heap.get?_push_of_some _ e,aAm a _,⟨_,Heap.get?_push_size _ rfl,rfl,rfl⟩,fun b hb=>?_,q⟩
  have e:b=s1.heap.objs.size:=by simpa using hb
  subst e
  exact I1.fpOk (Nat.le_refl _) (I1.hok.fresh (Nat.le_refl _))
def gIs (ga:GE):GF:=fun δ Q=>ga δ fun d=>match nI d with
 | some ds=>Q ds
 | none=>False
theorem aMm (ha:DE X a ga):DI X tg a (gIs ga):=by
 obtain ⟨t,p,h⟩:=ha
 refine ⟨_,aMn p,fun C0 H0 δ σ C H Q R rp g k=>h C0 H0 δ σ C H _ _ rp g fun d v C1 H1 q e1 n1=>?_⟩
 cases d with
 | tup ds=>
  obtain ⟨p,xs,rfl,hx,hd⟩:=bV.mp n1
  exact ⟨p,rfl,.inr ⟨⟨xs,e1.ch.seqT hx⟩,k ds _ C1 H1 q e1 (aDC hx hd fun _ _ _ _=>trivial)⟩⟩
 | lst ds=>
  obtain ⟨p,xs,rfl,hx,hd⟩:=cT.mp n1
  exact ⟨p,rfl,.inl ⟨⟨xs,e1.ch.seq hx⟩,k ds _ C1 H1 q e1 (aEN hx hd)⟩⟩
 | _=>exact q.elim
end
theorem aEt:bootBuiltins "reversed"=some (.type "reversed"):=by decide +kernel
section
variable {κ κ':Type} [DecidableEq κ] [DecidableEq κ']
def rT (kvs:List (κ×Int)) (k:κ):Option Int:=(kvs.find? fun p=>decide (p.1=k)).map (·.2)
def aG9 (kvs:List (κ×Int)) (k:κ) (v:Int):List (κ×Int):=if (kvs.any fun p=>decide (p.1=k))=true then kvs.map (fun p=>if p.1=k then (p.1,v) else p) else kvs++[(k,v)]
theorem w8 {f:κ→κ'} (hf:∀ a b,f a=f b→a=b) (k:κ):∀ kvs:List (κ×Int),y0 (kvs.map fun p=>(f p.1,V.int p.2)) (f k)=(rT kvs k).map V.int
 | []=>rfl
 | p::r=>by
  rw [List.map_cons]
  by_cases e:p.1=k
  ·rw [vR (by rw [e])]
   simp [rT,List.find?_cons,e]
  ·rw [vQ (fun z=>e (hf _ _ z)),w8 hf k r]
   simp [rT,List.find?_cons,e]
theorem aJ1 {f:κ→κ'} (hf:∀ a b,f a=f b→a=b) (k:κ) (kvs:List (κ×Int)):((kvs.map fun p=>(f p.1,V.int p.2)).any fun kv=>decide (kv.1=f k))=kvs.any fun p=>decide (p.1=k):=by
 rw [List.any_map]
 congr 1
 funext p
 show decide (f p.1=f k)=decide (p.1=k)
 by_cases e:p.1=k
 ·rw [e];simp
 ·rw [decide_eq_false e,decide_eq_false fun z=>e (hf _ _ z)]
theorem aBL {f:κ→κ'} (hf:∀ a b,f a=f b→a=b) (k:κ) (v:Int) (kvs:List (κ×Int)):yX (kvs.map fun p=>(f p.1,V.int p.2)) (f k) (.int v)=(aG9 kvs k v).map fun p=>(f p.1,V.int p.2):=by
 unfold yX aG9
 rw [aJ1 hf]
 split
 ·rw [List.map_map,List.map_map]
  refine List.map_congr_left fun p _=>?_
  show (if f p.1=f k then (f p.1,V.int v) else (f p.1,V.int p.2))=_
  by_cases e:p.1=k
  ·rw [if_pos (by rw [e])]
   simp [e]
  ·rw [if_neg (fun z=>e (hf _ _ z))]
   simp [e]
 ·simp
end
theorem aDm {a b:Int} (h:(Sum.inl a:mZ)=Sum.inl b):a=b:=by injection h
theorem aAu:∀ {a b:List Int},a.map (Sum.inl:Int→mZ)=b.map Sum.inl→a=b
 | [],[],_=>rfl
 | [],_::_,e=>by simp at e
 | _::_,[],e=>by simp at e
 | x::xs,y::ys,e=>by
  rw [List.map_cons,List.map_cons] at e
  injection e with e1 e2
  rw [aDm e1,aAu e2]
def DM.get:DM→D→Option (Option Int)
 | .k kvs,.int i=>some (rT kvs i)
 | .t kvs,.tup ds=>match iE ds with
  | some r=>some (rT kvs r)
  | none=>none
 | _,_=>none
def DM.put:DM→D→Int→Option DM
 | .k kvs,.int i,v=>if kvs.length<sizeLine then some (.k (aG9 kvs i v)) else none
 | .t kvs,.tup ds,v=>match iE ds with
  | some r=>if kvs.length<sizeLine then some (.t (aG9 kvs r v)) else none
  | none=>none
 | _,_,_=>none
def aM5 (H:Hp) (v:V) (d:D):Prop:=(∃ i,d = .int i∧v = .int i)∨∃ (r:List Int) (b:Addr),d = .tup (r.map D.int)∧v = .ref b∧H b=some (.tup (r.map V.int))
theorem aGv (r:List Int):(r.map (Sum.inl:Int→mZ)).map kV=r.map V.int:=by
 rw [List.map_map]
 rfl
theorem aGV {H:Hp}{l:Addr}{m:DM}{v:V}{d:D}{o:Option Int} (hr:Rd H l (yD m)) (hk:aM5 H v d) (hg:m.get d=some o):aId H l v (o.map V.int):=by
 rcases hk with ⟨i,rfl,rfl⟩ | ⟨r,b,rfl,rfl,hb⟩
 ·cases m with
  | k kvs=>
   cases hg
   exact .inl ⟨_,Sum.inl i,hr,rfl,(w8 (f:=(Sum.inl:Int→mZ)) (fun _ _=>aDm) i kvs).symm⟩
  | t kvs=>cases hg
 ·cases m with
  | k kvs=>cases hg
  | t kvs=>
   simp only [DM.get,h8] at hg
   cases hg
   exact .inr ⟨_,r.map Sum.inl,b,hr,rfl,by rw [aGv];exact hb,(w8 (f:=fun r:List Int=>r.map (Sum.inl:Int→mZ)) (fun _ _=>aAu) r kvs).symm⟩
theorem aK3 {H:Hp}{l:Addr}{m m':DM}{v:V}{d:D}{w:Int} (hl:H l=some (yD m)) (hk:aM5 H v d) (hg:m.put d w=some m'):aLU H l v (.int w) (upd H l (yD m')):=by
 rcases hk with ⟨i,rfl,rfl⟩ | ⟨r,b,rfl,rfl,hb⟩
 ·cases m with
  | k kvs=>
   simp only [DM.put] at hg
   split at hg
   ·rename_i hz
    cases hg
    refine .inl ⟨_,Sum.inl i,hl,rfl,by simpa using hz,?_⟩
    rw [aBL (f:=(Sum.inl:Int→mZ)) (fun _ _=>aDm)]
    rfl
   ·cases hg
  | t kvs=>cases hg
 ·cases m with
  | k kvs=>cases hg
  | t kvs=>
   simp only [DM.put,h8] at hg
   split at hg
   ·rename_i hz
    cases hg
    refine .inr ⟨_,r.map Sum.inl,b,hl,rfl,by rw [aGv];exact hb,by simpa using hz,?_⟩
    rw [aBL (f:=fun r:List Int=>r.map (Sum.inl:Int→mZ)) (fun _ _=>aAu)]
    rfl
   ·cases hg
section
variable {K:PySem.W.Frag}{C0 H0 C H C1 H1:Hp}{δ:DS}{σ:St}
def yE (δ:DS) (i:Nat):Option DM:=match δ[i]? with
 | some (.od m)=>some m
 | some (.fd m)=>some m
 | _=>none
theorem gU.dic (R:gU K C0 H0 δ σ C H) {i:Nat}{m:DM} (h:yE δ i=some m):∃ l,σ[i]? = some (some (.ref l))∧Rd H l (yD m):=by
 unfold yE at h
 split at h
 ·rename_i m' e
  cases h
  obtain ⟨l,a,_,_,d⟩:=R.dc.od i m e
  exact ⟨l,a,.inl d⟩
 ·rename_i m' e
  cases h
  obtain ⟨l,o,a,b⟩:=R.dc.fd i m e
  exact ⟨l,a,.inr ⟨o,R.ch _ _ b⟩⟩
 ·cases h
theorem Rd.same {l:Addr}{u:HO} (h:Rd H l u) (e:cX H H1):Rd H1 l u:=by
 rcases h with h | ⟨o,h⟩
 ·exact .inl (e _ _ h)
 ·exact .inr ⟨o,e _ _ h⟩
theorem gU.setD (R:gU K C0 H0 δ σ C H) {i:Nat}{l:Addr}{m:DM} (h0:H0 l=none) (hc:C l=none) (hn:∀ (j:Nat) n,j≠i→δ[j]? = some (.od n)→σ[j]? ≠ some (some (.ref l))) (hl:H l=some (yD m)) :
  gU K C0 H0 (δ.set i (.od m)) (σ.set i (some (.ref l))) C H:=by
 refine ⟨R.tb,by simp [R.len],R.ext,fun j e h'=>?_,fun j ds h'=>?_,fun j k ds es l hjk h1 h2 h3=>?_,fun j n h'=>?_,fun j n h'=>?_,fun j k n n' q hjk h1 h2 h3=>?_⟩
 ·rcases bC h' with ⟨_,e1,_⟩ | ⟨hj,h'⟩
  ·cases e1
  ·rw [List.getElem?_set_ne (Ne.symm hj)]
   exact R.im j e h'
 ·rcases bC h' with ⟨_,e1,_⟩ | ⟨hj,h'⟩
  ·cases e1
  ·rw [List.getElem?_set_ne (Ne.symm hj)]
   exact R.ow j ds h'
 ·rcases bC h1 with ⟨_,e1,_⟩ | ⟨hj,h1⟩
  ·cases e1
  ·rcases bC h2 with ⟨_,e1,_⟩ | ⟨hk,h2⟩
   ·cases e1
   ·rw [List.getElem?_set_ne (Ne.symm hj)] at h3
    rw [List.getElem?_set_ne (Ne.symm hk)]
    exact R.ap j k ds es l hjk h1 h2 h3
 ·rcases bC h' with ⟨rfl,e1,hl'⟩ | ⟨hj,h'⟩
  ·cases e1
   exact ⟨l,by rw [List.getElem?_set_self (by rw [R.len];exact hl')],hc,h0,hl⟩
  ·rw [List.getElem?_set_ne (Ne.symm hj)]
   exact R.dc.od j n h'
 ·rcases bC h' with ⟨_,e1,_⟩ | ⟨hj,h'⟩
  ·cases e1
  ·rw [List.getElem?_set_ne (Ne.symm hj)]
   exact R.dc.fd j n h'
 ·rcases bC h1 with ⟨rfl,e1,hl1⟩ | ⟨hj,g1⟩
  ·cases e1
   rw [List.getElem?_set_self (by rw [R.len];exact hl1)] at h3
   cases h3
   rcases bC h2 with ⟨z,_⟩ | ⟨hk,h2⟩
   ·exact absurd z.symm hjk
   ·rw [List.getElem?_set_ne (Ne.symm hk)]
    exact hn k n' hk h2
  ·rw [List.getElem?_set_ne (Ne.symm hj)] at h3
   rcases bC h2 with ⟨rfl,e1,hl1⟩ | ⟨hk,h2⟩
   ·rw [List.getElem?_set_self (by rw [R.len];exact hl1)]
    intro z
    cases z
    exact hn j n hj g1 h3
   ·rw [List.getElem?_set_ne (Ne.symm hk)]
    exact R.dc.ap j k n n' q hjk g1 h2 h3
theorem gU.changeD (R:gU K C0 H0 δ σ C H) {i:Nat}{m m':DM}{l:Addr} (h:δ[i]? = some (.od m)) (hs:σ[i]? = some (some (.ref l))) :
  gU K C0 H0 (δ.set i (.od m')) σ C (upd H l (yD m')):=by
 obtain ⟨l',a,b,c,d⟩:=R.dc.od i m h
 rw [hs] at a
 cases a
 have ne:∀ z u,C z=some u→z≠l:=fun z u e q=>by rw [q,b] at e;cases e
 refine ⟨R.tb,by simp [R.len],⟨fun z u e=>?_,R.ext.cc,fun z u e=>?_,R.ext.ow⟩,fun j e h'=>?_,fun j fs h'=>?_,fun j k fs gs q hjk h1 h2 h3=>?_,fun j n h'=>?_,fun j n h'=>?_,fun j k n n' q hjk h1 h2 h3=>?_⟩
 ·rw [aZ (bQ e c)];exact R.ext.hh z u e
 ·rw [aZ (ne z u e)];exact R.ch z u e
 ·rcases bC h' with ⟨_,e1,_⟩ | ⟨hj,h'⟩
  ·cases e1
  ·exact R.im j e h'
 ·rcases bC h' with ⟨_,e1,_⟩ | ⟨hj,h'⟩
  ·cases e1
  ·obtain ⟨q,zs,a',b',c',d',f'⟩:=R.ow j fs h'
   refine ⟨q,zs,a',b',c',?_,f'⟩
   rw [aZ (aD8 d' d fun z=>zU z.symm)]
   exact d'
 ·rcases bC h1 with ⟨_,e1,_⟩ | ⟨hj,h1⟩
  ·cases e1
  ·rcases bC h2 with ⟨_,e1,_⟩ | ⟨hk,h2⟩
   ·cases e1
   ·exact R.ap j k fs gs q hjk h1 h2 h3
 ·rcases bC h' with ⟨rfl,e1,_⟩ | ⟨hj,h'⟩
  ·cases e1
   exact ⟨l,hs,b,c,bR⟩
  ·obtain ⟨q,a',b',c',d'⟩:=R.dc.od j n h'
   refine ⟨q,a',b',c',?_⟩
   rw [aZ fun z=>?_]
   ·exact d'
   ·rw [z] at a'
    exact R.dc.ap i j m n l (Ne.symm hj) h h' hs a'
 ·rcases bC h' with ⟨_,e1,_⟩ | ⟨hj,h'⟩
  ·cases e1
  ·exact R.dc.fd j n h'
 ·have g1:∃ n,δ[j]? = some (.od n):=by
   rcases bC h1 with ⟨rfl,_,_⟩ | ⟨_,h1⟩
   ·exact ⟨_,h⟩
   ·exact ⟨_,h1⟩
  have g2:∃ n,δ[k]? = some (.od n):=by
   rcases bC h2 with ⟨rfl,_,_⟩ | ⟨_,h2⟩
   ·exact ⟨_,h⟩
   ·exact ⟨_,h2⟩
  obtain ⟨_,g1⟩:=g1
  obtain ⟨_,g2⟩:=g2
  exact R.dc.ap j k _ _ q hjk g1 g2 h3
theorem gU.frzD (R:gU K C0 H0 δ σ C H) {i:Nat}{m:DM}{l:Addr} (h:δ[i]? = some (.od m)) (hs:σ[i]? = some (some (.ref l))) (o:Obj) :
  gU K C0 H0 (δ.set i (.fd m)) σ (upd C l (.frz o (yD m))) (upd H l (.frz o (yD m))):=by
 obtain ⟨l',a,b,c,d⟩:=R.dc.od i m h
 rw [hs] at a
 cases a
 have up:cX C (upd C l (.frz o (yD m))):=cX.upd b
 refine ⟨R.tb,by simp [R.len],⟨fun z u e=>?_,R.ext.cc.trans up,fun z u e=>?_,fun z e n=>?_⟩,fun j e h'=>?_,fun j fs h'=>?_,fun j k fs gs q hjk h1 h2 h3=>?_,fun j n h'=>?_,fun j n h'=>?_,fun j k n n' q hjk h1 h2 h3=>?_⟩
 ·rw [aZ (bQ e c)];exact R.ext.hh z u e
 ·by_cases hz:z=l
  ·subst hz;rw [bR] at e ⊢;exact e
  ·rw [aZ hz] at e ⊢;exact R.ch z u e
 ·rw [aZ (fun q=>n (by rw [q];exact c))]
  exact R.ext.ow z e n
 ·rcases bC h' with ⟨_,e1,_⟩ | ⟨hj,h'⟩
  ·cases e1
  ·obtain ⟨v,ev,nv⟩:=R.im j e h'
   exact ⟨v,ev,nv.mono up⟩
 ·rcases bC h' with ⟨_,e1,_⟩ | ⟨hj,h'⟩
  ·cases e1
  ·obtain ⟨q,zs,a',b',c',d',f'⟩:=R.ow j fs h'
   have hq:q≠l:=aD8 d' d fun z=>zU z.symm
   refine ⟨q,zs,a',?_,c',?_,f'.mono up⟩
   ·rw [aZ hq];exact b'
   ·rw [aZ hq];exact d'
 ·rcases bC h1 with ⟨_,e1,_⟩ | ⟨hj,h1⟩
  ·cases e1
  ·rcases bC h2 with ⟨_,e1,_⟩ | ⟨hk,h2⟩
   ·cases e1
   ·exact R.ap j k fs gs q hjk h1 h2 h3
 ·rcases bC h' with ⟨_,e1,_⟩ | ⟨hj,h'⟩
  ·cases e1
  ·obtain ⟨q,a',b',c',d'⟩:=R.dc.od j n h'
   have hq:q≠l:=fun z=>by
    rw [z] at a'
    exact R.dc.ap i j m n l (Ne.symm hj) h h' hs a'
   refine ⟨q,a',?_,c',?_⟩
   ·rw [aZ hq];exact b'
   ·rw [aZ hq];exact d'
 ·rcases bC h' with ⟨rfl,e1,_⟩ | ⟨hj,h'⟩
  ·cases e1
   exact ⟨l,o,hs,bR⟩
  ·obtain ⟨q,o',a',b'⟩:=R.dc.fd j n h'
   exact ⟨q,o',a',up _ _ b'⟩
 ·rcases bC h1 with ⟨_,e1,_⟩ | ⟨hj,h1⟩
  ·cases e1
  ·rcases bC h2 with ⟨_,e1,_⟩ | ⟨hk,h2⟩
   ·cases e1
   ·exact R.dc.ap j k n n' q hjk h1 h2 h3
end
def aLa (X:Cx) (e:Expr) (g:GE):Prop:=∃ t,PE X e t∧∀ C0 H0 δ σ C H (Q:D→Prop) (R:VK),gU X.K C0 H0 δ σ C H→g δ Q→(∀ d v C1 H1,Q d→eN C H C1 H1→aM5 H1 v d→R v H1)→t σ H R
section
variable {X:Cx}{a b c e f o:Expr}{es:List Expr}{pos:Pos}{ga gk gd gv:GE}{gA:GF}
def gKI (ga:GE):GE:=fun δ Q=>ga δ fun d=>match d with
 | .int i=>Q (.int i)
 | _=>False
theorem aDo (h:DE X e ga):aLa X e (gKI ga):=by
 obtain ⟨t,p,h⟩:=h
 refine ⟨t,p,fun C0 H0 δ σ C H Q R rp g k=>h C0 H0 δ σ C H _ R rp g fun d v C1 H1 q e1 n1=>?_⟩
 cases d with
 | int i=>exact k (.int i) v C1 H1 q e1 (.inl ⟨i,rfl,bB.mp n1⟩)
 | _=>exact q.elim
def aEd (i:Nat) (gk:GE):GE:=fun δ Q=>match yE δ i with
 | some m=>gk δ fun d=>match m.get d with
  | some (some v)=>Q (.int v)
  | _=>False
 | none=>False
theorem aG0 {i:Nat}{x:Str}{p2:Pos} (hu:X.A.units+64<cLine) (hx:PE X (.Name x p2) (aAw i)) (hk:aLa X e gk) (hs:aLM e):DE X (.Subscript (.Name x p2) e pos) (aEd i gk):=by
 obtain ⟨t,p,h⟩:=hk
 refine ⟨_,aKI (by omega) hx p hs,fun C0 H0 δ σ C H Q R rp g k=>?_⟩
 unfold aEd at g
 split at g
 ·rename_i m em
  obtain ⟨l,hl,hr⟩:=rp.dic em
  refine ⟨.ref l,hl,h C0 H0 δ σ C H _ _ rp g fun d v C1 H1 q e1 kv=>?_⟩
  cases eg:m.get d with
  | none=>rw [eg] at q;exact q.elim
  | some r=>
   cases r with
   | none=>rw [eg] at q;exact q.elim
   | some w=>
    rw [eg] at q
    exact ⟨l,.int w,rfl,aGV (hr.same e1.hh) kv eg,k (.int w) _ C1 H1 q e1 (bB.mpr rfl)⟩
 ·exact g.elim
def zF (i:Nat) (gk:GE):GT:=fun δ Q=>match yE δ i with
 | some m=>gk δ fun d=>match m.get d with
  | some r=>Q (!r.isSome)
  | none=>False
 | none=>False
theorem aHj {i:Nat}{x:Str}{p2:Pos} (hu:X.A.units+64<cLine) (hx:PE X (.Name x p2) (aAw i)) (hk:aLa X e gk):DT X (.Compare e [.NotIn] [.Name x p2] pos) (zF i gk):=by
 obtain ⟨t,p,h⟩:=hk
 refine ⟨_,aMI (aHD (by omega) p hx),fun C0 H0 δ σ C H Q R rp g k=>?_⟩
 unfold zF at g
 split at g
 ·rename_i m em
  refine h C0 H0 δ σ C H _ _ rp g fun d v C1 H1 q e1 kv=>?_
  obtain ⟨l,hl,hr⟩:=(rp.grow e1).dic em
  cases eg:m.get d with
  | none=>rw [eg] at q;exact q.elim
  | some r=>
   rw [eg] at q
   refine ⟨.ref l,hl,l,_,rfl,aGV hr kv eg, !r.isSome,by cases r <;> rfl,k _ C1 H1 q e1⟩
 ·exact g.elim
def aGF (i:Nat):GE:=fun δ Q=>match yE δ i with
 | some (.k kvs)=>Q (.int kvs.length)
 | _=>False
theorem aHs:lJ X (.builtin "len") (fun xs H Q=>∃ a kvs,xs=[V.ref a]∧Rd H a (.dK kvs)∧Q (.int kvs.length) H):=by
 intro pins s σ H xs us Q I r h
 obtain ⟨a,kvs,rfl,ha,q⟩:=h
 obtain ⟨u,rfl,ru⟩:=rN r
 cases ru
 exact aND I ha fun t s' I'=>⟨.int kvs.length,H,I',⟨t,rfl⟩,q⟩
theorem aKq {i:Nat}{t:TE} (h:PE X e t) (ht:t=fun σ H Q=>∃ v,σ[i]? = some (some v)∧∃ a kvs,[v]=[V.ref a]∧Rd H a (.dK kvs)∧Q (.int kvs.length) H):DE X e (aGF i):=by
 subst ht
 refine ⟨_,h,fun C0 H0 δ σ C H Q R rp g k=>?_⟩
 unfold aGF at g
 split at g
 ·rename_i kvs em
  obtain ⟨l,hl,hr⟩:=rp.dic em
  refine ⟨.ref l,hl,l,_,rfl,hr,?_⟩
  rw [List.length_map]
  exact k _ _ C H g (eN.refl rp.ch) (bB.mpr rfl)
 ·exact g.elim
def aIl (i:Nat) (m:DM):GS:=fun De δ=>De.nx (δ.set i (.od m))
theorem gU.newD {K:PySem.W.Frag}{C0 H0 C H:Hp}{δ:DS}{σ:St} (R:gU K C0 H0 δ σ C H) {i:Nat}{p:Addr}{m:DM} (hp:H p=none):gU K C0 H0 (δ.set i (.od m)) (σ.set i (some (.ref p))) C (upd H p (yD m)):=by
 refine (R.grow (eN.newO R.ch hp)).setD (R.ext.hh.free hp) (R.ch.free hp) (fun j n hj ho z=>?_) bR
 obtain ⟨l,a,_,_,d⟩:=R.dc.od j n ho
 rw [z] at a
 cases a
 rw [hp] at d
 cases d
theorem aKG {i:Nat}{st:Stmt}{te:TE} (m:DM) (hp:PS X st (aFp te (yH i))) (ht:te=fun _ H Q=>∀ p,H p=none→Q (.ref p) (upd H p (yD m))):DSt X st (aIl i m):=by
 subst ht
 exact ⟨_,hp,fun C0 H0 δ σ C H De E rp g k p hn=>k.nx _ _ C _ (rp.newD hn) g⟩
def aGj (i:Nat) (gk gv:GE):GS:=fun De δ=>match δ[i]? with
 | some (.od m)=>gv δ fun v=>gk δ fun d=>match v with
  | .int w=>match m.put d w with
   | some m'=>De.nx (δ.set i (.od m'))
   | none=>False
  | _=>False
 | _=>False
theorem aKB {i:Nat}{x:Str}{p2 p3:Pos} (hu:X.A.units+64<cLine) (hx:PE X (.Name x p2) (aAw i)) (hk:aLa X e gk) (hv:DE X f gv) (hs:swapsWith f (some (.Subscript (.Name x p2) e p3)) pos.line X.env=pure false:=by rfl) :
  DSt X (.Assign [.Subscript (.Name x p2) e p3] f pos) (aGj i gk gv):=by
 obtain ⟨t,p,h⟩:=hk
 obtain ⟨t2,p2,h2⟩:=hv
 refine ⟨_,aKX (by omega) hx p p2 hs,fun C0 H0 δ σ C H De E rp g k=>?_⟩
 unfold aGj at g
 split at g
 ·rename_i m em
  refine h2 C0 H0 δ σ C H _ _ rp g fun dv v C1 H1 q e1 n1=>?_
  obtain ⟨l,hl,_,_,hd⟩:=(rp.grow e1).dc.od i m em
  refine ⟨.ref l,hl,h C0 H0 δ σ C1 H1 _ _ (rp.grow e1) q fun d y C2 H2 q2 e2 kv=>?_⟩
  cases dv with
  | int w=>
   rw [bB.mp n1]
   have q2':(match m.put d w with
    | some m'=>De.nx (δ.set i (.od m'))
    | none=>False):=q2
   cases ep:m.put d w with
   | none=>rw [ep] at q2';exact q2'.elim
   | some m'=>
    rw [ep] at q2'
    exact ⟨l,_,rfl,aK3 (e2.hh _ _ hd) kv ep,k.nx _ _ C2 _ (((rp.grow e1).grow e2).changeD em hl) q2'⟩
  | _=>exact q2.elim
 ·exact g.elim
end
theorem bI.frzD {X:Cx}{pins:List (Addr×Obj)}{σ:St}{H:Hp}{s:Shared}{l:Addr}{m:DM} (I:bI X pins σ H s) (hl:H l=some (yD m)):∃ o,s.heap.get? l=some o∧bI X pins σ (upd H l (.frz o (yD m))) s:=by
 have ok:=I.hok l _ hl
 obtain ⟨o,ho⟩:∃ o,s.heap.get? l=some o:=by
  cases m with
  | k kvs=>obtain ⟨_,_,_,_,o,_,_,e,_⟩:=ok;exact ⟨o,e⟩
  | t kvs=>obtain ⟨_,_,_,_,o,_,_,e,_⟩:=ok;exact ⟨o,e⟩
 have nt:∀ b xs,H b=some (.tup xs)→b≠l:=fun b xs e z=>by rw [z,hl] at e;cases m <;> cases e
 have nw:∀ b y,H b=some (.own y)→b≠l:=fun b y e z=>by rw [z,hl] at e;cases m <;> cases e
 have nf:∀ b o u,H b=some (.frz o u)→b≠l:=fun b o u e z=>by rw [z,hl] at e;cases m <;> cases e
 have nb:∀ b ps,H b=some (.tbl ps)→b≠l:=fun b ps e z=>by rw [z,hl] at e;cases m <;> cases e
 have nn:∀ b,H b=none→b≠l:=fun b e z=>by rw [z,hl] at e;cases e
 have un:Un X.fs [] H (upd H l (.frz o (yD m))) s.heap s.heap:=
  ⟨fun b u e _ _ _=>e,fun b u e _ _ _=>⟨u.slots,e⟩,fun b u e n _=>by rw [aZ (nn b n)];exact n,fun b u e _=>⟨u,e⟩,fun b xs e=>by rw [aZ (nt b xs e)];exact e,fun b o u e=>by rw [aZ (nf b o u e)];exact e,fun b ps e=>⟨#[],by rw [aZ (nb b ps e)];simpa using e⟩⟩
 have hok:sW X.prog X.w (upd H l (.frz o (yD m))) s.heap:=fun b u e=>by
  by_cases hb:b=l
  ·subst hb
   rw [bR] at e
   cases e
   exact ⟨ho,ok.stay (fun _ _ _ q=>q) (fun c q=>by rw [aZ (nw c _ q)];exact q) (fun c xs q=>by rw [aZ (nt c xs q)];exact q) fun c ob u q=>by rw [aZ (nf c ob u q)];exact q⟩
  ·rw [aZ hb] at e
   exact (I.hok b u e).stay (fun _ _ _ q=>q) (fun c q=>by rw [aZ (nw c _ q)];exact q) (fun c xs q=>by rw [aZ (nt c xs q)];exact q) fun c ob u q=>by rw [aZ (nf c ob u q)];exact q
 exact ⟨o,ho,I.un (t':=s.toks) un hok⟩
section
variable {X:Cx}{sts:List Stmt}{g1:GS}{tg:Expr}{pos:Pos}
def aGS (i:Nat) (g:GS):GS:=fun De δ=>match δ[i]? with
 | some (.od m)=>g De (δ.set i (.fd m))
 | _=>False
theorem aJq (i:Nat) (h:j2 X sts g1):j2 X sts (aGS i g1):=by
 obtain ⟨t,p,h⟩:=h
 refine ⟨fun E σ H=>∃ l m,H l=some (yD m)∧∀ o,t E σ (upd H l (.frz o (yD m))),fun pins s σ H E I q=>?_,fun C0 H0 δ σ C H De E rp g k=>?_⟩
 ·obtain ⟨l,m,hl,q⟩:=q
  obtain ⟨o,_,I1⟩:=I.frzD hl
  exact p pins s σ _ E I1 (q o)
 ·unfold aGS at g
  split at g
  ·rename_i m em
   obtain ⟨l,hs,_,_,hd⟩:=rp.dc.od i m em
   exact ⟨l,m,hd,fun o=>h C0 H0 _ σ _ _ De E (rp.frzD em hs o) g k⟩
  ·exact g.elim
end
theorem aCx {P:Program}{w:World}{H:Hp}{h:Heap}{l:Addr}{o:Obj}{kvs:List (Int×Int)} (ok:sW P w H h) (hl:H l=some (.frz o (yD (.k kvs)))) :
  (l == sysModules)=false∧∃ vs ep es,o.data = .dict es ep∧vs.map (·.1)=kvs.map (fun p=>(Sum.inl p.1:mZ))∧h.DictAt (hG P w) l vs ep:=by
 obtain ⟨ho,z,hd,vs,rel,o',es,ep,e,r⟩:=(show iZ P w H h l (.frz o (.dK (kvs.map fun p=>(Sum.inl p.1,.int p.2)))) from ok l _ hl)
 rw [ho] at e
 cases e
 refine ⟨hd,vs,ep,es,r.2.1,?_,o,es,ho,r⟩
 rw [← rel.keys,List.map_map]
 rfl
theorem aHz {P:Program}{w:World}{K:PySem.W.Frag}{tg:Expr} (d it:Addr) (o:Obj) (kvs:List (Int×Int)) (es:Array DictEntry) (ep:Nat) (hdt:o.data = .dict es ep) :
  aCM P w K tg ⟨fun i H=>i<kvs.length∧H d=some (.frz o (yD (.k kvs))),fun i H x H'=>H'=H∧∃ k,(kvs.map (·.1))[i]? = some k∧x = .int k,fun i H=>kvs.length≤i∧H d=some (.frz o (yD (.k kvs)))⟩ [it] it (fun i h=>h.IsKeyIter it d i kvs.length ep) where
 mem:=by simp
 obj:=fun i h st b hb=>by
  have e:b=it:=by simpa using hb
  subst e
  obtain ⟨o,e,c,d⟩:=st
  exact ⟨o,e,fun v z=>by rw [d] at z;cases z⟩
 keep:=fun i h h' st k=>st.at fun o e=>k it (by simp) o e
 item:=by
  intro X hP hw hK hc i pins s σ H E I hf st hg
  subst hP hw hK
  obtain ⟨hi,hH⟩:=hg
  obtain ⟨hd,vs,ep',es',hd2,hv,da⟩:=aCx I.hok hH
  rw [hdt] at hd2
  cases hd2
  obtain ⟨f0,f1,f2,f3,f4,f5⟩:=hf it (by simp)
  have hvl:vs.length=kvs.length:=by
   have:=congrArg List.length hv
   simpa using this
  have hiv:i<vs.length:=by omega
  have hx:vs[i]? = some (vs[i].1,vs[i].2):=by rw [List.getElem?_eq_getElem hiv]
  have hk1:vs[i].1=Sum.inl kvs[i].1:=by
   have e1:(vs.map (·.1))[i]? = some vs[i].1:=by rw [List.getElem?_map,List.getElem?_eq_getElem hiv];rfl
   rw [hv,List.getElem?_map,List.getElem?_eq_getElem hi] at e1
   exact (Option.some.inj e1).symm
  rw [← hvl] at st
  refine wpAny_pyNext_dict_item st da hx fun key h' hkey st' sb=>?_
  rw [hvl] at st'
  rw [hk1] at hkey
  have I1:bI X pins σ H { s with heap:=h' }:=I.turned (t':=s.toks) (fun b o hb e=>(sb.2 b hb).trans e) f0 f1 f3 f4 f5
  obtain ⟨o2,e2,c2,d2⟩:=id st'
  have hrel:dD (.int kvs[i].1) key:=by
   rcases fX (show x5 (Sum.inl kvs[i].1) key=true from hkey) with ⟨j,t,ej,ev⟩ | ⟨x,t,ej,ev⟩
   ·cases ej
    exact ⟨t,ev⟩
   ·cases ej
  exact ⟨key,rfl,aD0 (s:={ s with heap:=h' }) e2 c2 d2 (by decide) ⟨.int kvs[i].1,H,I1,hrel,⟨rfl,kvs[i].1,by rw [List.getElem?_map,List.getElem?_eq_getElem hi];rfl,rfl⟩,st',fun b hb=>(hf b hb).1⟩⟩
 done:=by
  intro X hP hw hK hc i pins s σ H E I hf st hg
  subst hP hw hK
  obtain ⟨hi,hH⟩:=hg
  obtain ⟨hd,vs,ep',es',hd2,hv,da⟩:=aCx I.hok hH
  rw [hdt] at hd2
  cases hd2
  obtain ⟨f0,f1,f2,f3,f4,f5⟩:=hf it (by simp)
  have hvl:vs.length=kvs.length:=by
   have:=congrArg List.length hv
   simpa using this
  rw [← hvl] at st
  exact wpAny_pyNext_dict_end (I.ok.hd hc) st da (List.getElem?_eq_none (by omega)) fun h' eb=>⟨rfl,I.turned (t':=s.toks) (fun b o hb e=>eb b o hb e) f0 f1 f3 f4 f5⟩
 self:=fun _ _ _ _ _ st h=>wpAny_pyIter_keyiter st h
section
variable {X:Cx}{tg:Expr}{pos:Pos}
def aCz (i:Nat):GF:=fun δ Q=>match δ[i]? with
 | some (.fd (.k kvs))=>Q (kvs.map fun p=>.int p.1)
 | _=>False
theorem aKe {i:Nat}{x:Str} (hx:PE X (.Name x pos) (aAw i)):DI X tg (.Name x pos) (aCz i):=by
 refine ⟨fun σ H R=>∃ l o kvs,σ[i]? = some (some (.ref l))∧H l=some (.frz o (yD (.k kvs)))∧R ⟨fun i H=>i<kvs.length∧H l=some (.frz o (yD (.k kvs))),fun i H x H'=>H'=H∧∃ k,(kvs.map (·.1))[i]? = some k∧x = .int k,fun i H=>kvs.length≤i∧H l=some (.frz o (yD (.k kvs)))⟩ H,fun pins s σ H R I h=>?_,fun C0 H0 δ σ C H Q R rp g k=>?_⟩
 ·obtain ⟨l,o,kvs,hs,hl,q⟩:=h
  refine iA (hx pins s σ H (fun v H1=>v = .ref l∧H1=H) I ⟨.ref l,hs,rfl,rfl⟩) fun v s1 ⟨y,H1,I1,r1,e1,e2⟩=>?_
  subst e1 e2
  cases r1
  obtain ⟨hd,vs,ep,es,hdt,hv,da⟩:=aCx I1.hok hl
  have hvl:vs.length=kvs.length:=by
   have:=congrArg List.length hv
   simpa using this
  refine wpAny_pyIter_dict hd da ?_
  refine ⟨s1.heap.objs.size,[s1.heap.objs.size],_,_,H1,rfl,I1.kept (t':=s1.toks) fun b o e=>Heap.get?_push_of_some _ e,aHz l _ o kvs es ep hdt,⟨_,Heap.get?_push_size _ rfl,rfl,by rw [hvl];rfl⟩,fun b hb=>?_,q⟩
  have e:b=s1.heap.objs.size:=by simpa using hb
  subst e
  exact I1.fpOk (Nat.le_refl _) (I1.hok.fresh (Nat.le_refl _))
 ·unfold aCz at g
  split at g
  ·rename_i kvs em
   obtain ⟨l,o,hs,hc⟩:=rp.dc.fd i _ em
   refine ⟨l,o,kvs,hs,rp.ch _ _ hc,k _ _ C H g (eN.refl rp.ch) ?_⟩
   intro C2 H2 c1 c2 j
   have h2:=c2 _ _ (c1 _ _ hc)
   refine ⟨fun d e=>?_,fun hl=>⟨by simpa using hl,h2⟩⟩
   rw [List.getElem?_map] at e
   cases ek:kvs[j]? with
   | none=>rw [ek] at e;cases e
   | some p=>
    rw [ek] at e
    cases e
    refine ⟨⟨(List.getElem?_eq_some_iff.mp ek).1,h2⟩,fun x H3 y=>?_⟩
    obtain ⟨rfl,q,eq,rfl⟩:=y
    rw [List.getElem?_map,ek] at eq
    cases eq
    exact ⟨C2,eN.refl c2,bB.mpr rfl⟩
  ·exact g.elim
end
open Classical in
noncomputable def mV:List D→Option D
 | [.int u,.int l]=>if 0<l∧Bd 7000 u∧Bd 7000 l then some (aQ (Rat.divInt u l)) else none
 | _=>none
noncomputable def dM:List D→Option D
 | [m,p,s,r]=>bX m fun ns _=>pL ns p fun pl=>pN pl.length s fun s=>tS ns r fun r=>some (.int (j1 ns pl s r))
 | _=>none
noncomputable def jT:List D→Option D
 | [m,rs,h]=>bX m fun ns pay=>uW ns rs fun rs=>pN ns.length h fun h=>some (.lst ((rs.map fun r=>bF ns pay r h).map D.int))
 | _=>none
def vJ (p q:Int):List Int→Int
 | []=>0
 | y::ys=>y * q ^ ys.length+p * vJ p q ys
def kO (ys:List Int):Bool:=decide (ys.length≤20) && ys.all fun y=>decide (-9≤y) && decide (y≤9)
theorem w9 {ys:List Int} (h1:ys.length≤20) (h2:∀ y∈ys, -9≤y∧y≤9):kO ys=true:=by
 unfold kO
 rw [Bool.and_eq_true,decide_eq_true_eq,List.all_eq_true]
 exact ⟨h1,fun y hy=>by simpa using h2 y hy⟩
theorem uD {ys:List Int} (h:kO ys=true):ys.length≤20∧∀ y∈ys, -9≤y∧y≤9:=by
 unfold kO at h
 rw [Bool.and_eq_true,decide_eq_true_eq,List.all_eq_true] at h
 exact ⟨h.1,fun y hy=>by simpa using h.2 y hy⟩
noncomputable def h9:List D→Option D
 | [.lst es,d]=>match iE es with
  | some ys=>if kO ys=true then k6 d fun d=>some (.int (vJ d.num d.den ys)) else none
  | none=>none
 | _=>none
def woL (d:Rat) (xs ys:List Int):Rat:=tJ d (xs.map fun (x:Int)=>(x:Rat))+d ^ xs.length * (tJ d (ys.map fun (x:Int)=>(x:Rat)) / (1-d ^ ys.length))
noncomputable def cL:List D→Option D
 | [.lst as,.lst bs,d]=>match iE as,iE bs with
  | some xs,some ys=>if kO xs=true∧kO ys=true∧ys≠[] then k6 d fun d=>some (aQ (woL d xs ys)) else none
  | _,_=>none
 | _=>none
noncomputable def fV:List D→Option D
 | [m,p,s,d]=>bX m fun ns pay=>pL ns p fun pl=>pN pl.length s fun s=>k6 d fun d=>some (.tup ((List.range ns.length).map fun h=>aQ (cZ ns pay pl d h s)))
 | _=>none
section
variable {d:Rat}
theorem aEe (p q:Int):∀ (ys:List Int) (t w:Int),ys.foldl (fun (a:Int×Int) y=>(a.1 * q+a.2 * y,a.2 * p)) (t,w)=(t * q ^ ys.length+w * vJ p q ys,w * p ^ ys.length)
 | [],t,w=>by simp [vJ]
 | y::ys,t,w=>by
  rw [List.foldl_cons,aEe p q ys,vJ,List.length_cons,Int.pow_succ,Int.pow_succ]
  refine Prod.ext ?_ ?_ <;> simp only <;> grind
theorem aK1 (ys:List Int):tJ d (ys.map fun (x:Int)=>(x:Rat)) * (((d.den:Int) ^ ys.length:Int):Rat)=(((d.den:Int)-d.num:Int):Rat) * (vJ d.num d.den ys:Rat):=by
 induction ys with
 | nil=>simp [tJ,vJ]
 | cons y ys ih=>
  have h1:=qW d
  rw [List.map_cons,List.length_cons,vJ,Int.pow_succ,Rat.intCast_mul,Rat.intCast_add,Rat.intCast_mul,Rat.intCast_mul,Rat.intCast_sub]
  show ((1-d) * (y:Rat)+d * tJ d (ys.map fun (x:Int)=>(x:Rat))) * _=_
  rw [Rat.intCast_sub] at ih
  generalize tJ d (ys.map fun (x:Int)=>(x:Rat))=F at *
  generalize (((d.den:Int) ^ ys.length:Int):Rat)=Q at *
  generalize ((d.den:Int):Rat)=q at *
  generalize ((d.num:Int):Rat)=p at *
  generalize ((vJ d.num d.den ys:Int):Rat)=W at *
  grind
theorem aAJ (p q:Int):∀ n:Nat,(q-p) * vJ p q (List.replicate n 1)=q ^ n-p ^ n
 | 0=>by simp [vJ]
 | n+1=>by
  have ih:=aAJ p q n
  rw [List.replicate_succ,vJ,List.length_replicate,Int.pow_succ,Int.pow_succ]
  grind
theorem aDd (hd:bW d):0<d.num∧d.num<(d.den:Int):=by
 have h1:=hd.pos
 have h2:=hd.lt
 rw [Rat.lt_iff] at h1 h2
 have e1:(0:Rat).num=0:=rfl
 have e2:(0:Rat).den=1:=rfl
 have e3:(1:Rat).num=1:=rfl
 have e4:(1:Rat).den=1:=rfl
 rw [e1,e2] at h1
 rw [e3,e4] at h2
 omega
theorem aGG (hd:bW d) {n:Nat} (hn:0<n):0<vJ d.num d.den (List.replicate n 1):=by
 obtain ⟨h1,h2⟩:=aDd hd
 have e:=aAJ d.num d.den n
 have h3:=aCG h1 h2 n hn
 apply Int.lt_of_not_ge
 intro z
 have:=Int.mul_nonpos_of_nonneg_of_nonpos (show 0≤(d.den:Int)-d.num by omega) z
 omega
theorem aKz (hd:bW d) {ys:List Int} (hy:ys≠[]):tJ d (ys.map fun (x:Int)=>(x:Rat)) / (1-d ^ ys.length)=Rat.divInt (vJ d.num d.den ys) (vJ d.num d.den (List.replicate ys.length 1)):=by
 have hn:0<ys.length:=List.length_pos_iff.mpr hy
 obtain ⟨h1,h2⟩:=aDd hd
 have a:=aK1 (d:=d) ys
 have b:=congrArg (fun z:Int=>(z:Rat)) (aAJ d.num d.den ys.length)
 simp only [Rat.intCast_mul,Rat.intCast_sub] at b
 have hp:=aGG hd hn
 have hdp:∀ n:Nat,d ^ n * (((d.den:Int) ^ n:Int):Rat)=((d.num ^ n:Int):Rat):=by
  intro n
  induction n with
  | zero=>rw [Rat.pow_zero,Int.pow_zero,Int.pow_zero];grind
  | succ n ih=>
   have:=qW d
   rw [Rat.pow_succ,Int.pow_succ,Int.pow_succ,Rat.intCast_mul,Rat.intCast_mul]
   grind
 have c:=hdp ys.length
 obtain ⟨p1,p2⟩:=lY hd.pos hd.lt ys.length hn
 have q0:(((d.den:Int) ^ ys.length:Int):Rat)≠0:=by
  have:=oG (show (0:Int)<(d.den:Int) by omega) ys.length
  intro z
  have z2:(((d.den:Int) ^ ys.length:Int):Rat)=((0:Int):Rat):=z
  rw [Rat.intCast_inj] at z2
  omega
 have w0:((vJ d.num d.den (List.replicate ys.length 1):Int):Rat)≠0:=by
  intro z
  have z2:((vJ d.num d.den (List.replicate ys.length 1):Int):Rat)=((0:Int):Rat):=z
  rw [Rat.intCast_inj] at z2
  omega
 have k0:(((d.den:Int):Rat)-((d.num:Int):Rat))≠0:=by
  intro z
  have z2:(((d.den:Int)-d.num:Int):Rat)=((0:Int):Rat):=by rw [Rat.intCast_sub];exact z
  rw [Rat.intCast_inj] at z2
  omega
 rw [Rat.intCast_sub] at a
 rw [Rat.divInt_eq_div]
 generalize tJ d (ys.map fun (x:Int)=>(x:Rat))=F at *
 generalize (((d.den:Int) ^ ys.length:Int):Rat)=Q at *
 generalize ((d.num ^ ys.length:Int):Rat)=P at *
 generalize ((vJ d.num d.den ys:Int):Rat)=W at *
 generalize ((vJ d.num d.den (List.replicate ys.length 1):Int):Rat)=V at *
 generalize d ^ ys.length=D at *
 generalize (((d.den:Int):Rat)-((d.num:Int):Rat))=k at *
 have e1:1-D≠0:=by grind
 have e2:(1-D) * Q=k * V:=by grind
 have e3:F * V=W * (1-D):=by
  have:F * V * k * Q=W * (1-D) * k * Q:=by grind
  grind
 grind
theorem aDp {p q:Int} (hp:Bd 40 p) (hq:Bd 40 q):∀ {ys:List Int},(∀ y∈ys, -9≤y∧y≤9)→Bd (46 * ys.length+1) (vJ p q ys)
 | [],_=>show (0:Int).natAbs<2 ^ (46 * 0+1) by decide
 | y::ys,h=>by
  have ih:=aDp hp hq (ys:=ys) fun z hz=>h z (List.mem_cons_of_mem _ hz)
  have hy:=h y List.mem_cons_self
  have b1:Bd 4 y:=by unfold Bd;omega
  have b2:=b1.mul (hq.pow ys.length)
  have b3:=hp.mul ih
  rw [vJ,List.length_cons]
  have b4:Bd (46 * ys.length+41) (y * q ^ ys.length):=b2.mono (by omega)
  have b5:Bd (46 * ys.length+41) (p * vJ p q ys):=b3.mono (by omega)
  exact (b4.add b5).mono (by omega)
end
section
variable {ns:List Int}{pay:List (List Int)}{d e:Rat}{S:List (List Int)}{r:List Int}{h:Nat}
def pT (ns:List Int) (pay:List (List Int)) (S:List (List Int)) (h:Nat):Int:=yU (S.map fun r=>bF ns pay r h)
structure aGb (ns:List Int) (pay:List (List Int)) (d:Rat) (S:List (List Int)):Prop where
 rows:∀ r∈S,r∈aM ns
 ok:∀ r∈S,∀ h,h<ns.length→∀ k∈bG ns h,(1-d) * bF ns pay (r.set h k) h+d * pT ns pay S h≤bF ns pay r h
theorem wU (hr:r∈S):pT ns pay S h≤bF ns pay r h:=by
 have hm:bF ns pay r h∈S.map fun r=>bF ns pay r h:=List.mem_map.mpr ⟨r,hr,rfl⟩
 exact (wC (List.ne_nil_of_mem hm)).2 _ hm
theorem uP (hS:S≠[]) (h:Nat):∃ r∈S,bF ns pay r h=pT ns pay S h:=by
 have:=(wC (ns:=S.map fun r=>bF ns pay r h) (by simpa using hS)).1
 obtain ⟨r,hr,e⟩:=List.mem_map.mp this
 exact ⟨r,hr,e⟩
theorem aAc {S':List (List Int)} (hS:S≠[]) (sub:∀ r∈S,r∈S'):pT ns pay S' h≤pT ns pay S h:=by
 obtain ⟨r,hr,e⟩:=uP (ns:=ns) (pay:=pay) hS h
 rw [← e]
 exact wU (sub r hr)
def rH (ns:List Int) (pay:List (List Int)) (d:Rat) (r:List Int):Prop:=∃ S,aGb ns pay d S∧r∈S
open Classical in
noncomputable def aX (ns:List Int) (pay:List (List Int)) (d:Rat):List (List Int):=(aM ns).filter fun r=>decide (rH ns pay d r)
theorem mP:r∈aX ns pay d↔rH ns pay d r:=by
 unfold aX
 simp only [List.mem_filter,decide_eq_true_eq]
 exact ⟨fun z=>z.2,fun z=>⟨by obtain ⟨S,g,hr⟩:=z;exact g.rows r hr,z⟩⟩
theorem sX (h0:0<d):aGb ns pay d (aX ns pay d):=by
 refine ⟨fun r hr=>(List.mem_filter.mp hr).1,fun r hr h hh k hk=>?_⟩
 obtain ⟨S,g,hs⟩:=mP.mp hr
 have a:=g.ok r hs h hh k hk
 have b:((pT ns pay (aX ns pay d) h:Int):Rat)≤((pT ns pay S h:Int):Rat):=jA (aAc (List.ne_nil_of_mem hs) fun x hx=>mP.mpr ⟨S,g,hx⟩)
 generalize ((pT ns pay S h:Int):Rat)=F at *
 generalize ((pT ns pay (aX ns pay d) h:Int):Rat)=F' at *
 have m:0≤d * (F-F'):=Rat.mul_nonneg (by grind) (by grind)
 grind
structure iJ (ns:List Int) (pay:List (List Int)) (d:Rat) (th:List (List Int)):Prop where
 len:th.length=ns.length
 mem:∀ h,h<ns.length→th.getD h []∈aX ns pay d∧bF ns pay (th.getD h []) h=pT ns pay (aX ns pay d) h
theorem iJ.all (H:iJ ns pay d th) {x:List Int} (hx:x∈th):x∈aX ns pay d:=by
 obtain ⟨i,hi,rfl⟩:=List.mem_iff_getElem.mp hx
 rw [← bP hi []]
 exact (H.mem i (by rw [← H.len];exact hi)).1
theorem iJ.threats (H:iJ ns pay d th) (hr:r∈aX ns pay d):f9 ns r th:=⟨(List.mem_filter.mp hr).1,H.len,fun x hx=>(List.mem_filter.mp (H.all hx)).1⟩
theorem aBp (ho:aY ns pay) (hd:bW d) (H:iJ ns pay d th) (hr:r∈aX ns pay d):nF ns pay (dG ns r th) d=[]:=by
 rw [vG ho (H.threats hr) hd]
 intro part hp h hh x hx _
 have hk:part∈aX ns pay d:=by
  rcases List.mem_cons.mp hp with rfl | z
  ·exact hr
  ·exact H.all z
 rw [(H.mem h hh).2]
 exact (sX hd.pos).ok part hk h hh x hx
noncomputable def cD (ns:List Int) (pay:List (List Int)) (d:Rat):List Int:=(List.range ns.length).map (pT ns pay (aX ns pay d))
end
noncomputable def lH:List D→Option D
 | [m,d]=>bX m fun ns pay=>k6 d fun d=>some (.tup ((aX ns pay d).map aE))
 | _=>none
open Classical in
noncomputable def aBG {α:Type} (m d:D) (f:List Int→List (List Int)→Rat→Option α):Option α:=match qR m,aCR d with
 | some (ns,pay),some d=>if aY ns pay∧bW d then f ns pay d else none
 | _,_=>none
theorem tH {α:Type}{ns:List Int}{pay:List (List Int)}{d:Rat}{f:List Int→List (List Int)→Rat→Option α} (h1:aY ns pay) (h2:bW d):aBG (aU ns pay) (aQ d) f=f ns pay d:=by
 unfold aBG
 rw [qE,sR]
 exact if_pos ⟨h1,h2⟩
theorem zR {α:Type}{m x:D}{y:α}{f:List Int→List (List Int)→Rat→Option α} (h:aBG m x f=some y):∃ ns pay d,m=aU ns pay∧x=aQ d∧aY ns pay∧bW d∧f ns pay d=some y:=by
 unfold aBG at h
 split at h
 ·rename_i ns pay d e1 e2
  split at h
  ·rename_i ho
   exact ⟨ns,pay,d,pV e1,sP e2,ho.1,ho.2,h⟩
  ·cases h
 ·cases h
noncomputable def j3:List D→Option Out
 | [m,d]=>aBG m d fun ns pay d=>some { ret:=fun x=>aX ns pay d≠[]∧x=aE (cD ns pay d),exc:=fun c=>aX ns pay d=[]∧c="NoPact" }
 | _=>none
noncomputable def iT:List D→Option Out
 | [m,d]=>aBG m d fun ns pay d=>some { ret:=fun x=>aX ns pay d≠[]∧∃ th,x = .tup (th.map aE)∧iJ ns pay d th,exc:=fun c=>aX ns pay d=[]∧c="NoPact" }
 | _=>none
def aJk (k:Nat) (path:List (List Int)):List (List Int):=path.drop k++path.take k
def aOk (ns:List Int) (pay:List (List Int)) (d:Rat) (path:List (List Int)):Prop:=∀ k,k<path.length→∀ h,h<ns.length→∀ x∈bG ns h,x≠(path.getD k []).getD h 0 →
 (1-d) * bF ns pay ((path.getD k []).set h x) h+d * pT ns pay (aX ns pay d) h≤woR ns pay [] (aJk k path) d h
section
variable {ns:List Int}{pay:List (List Int)}{d:Rat}{r:List Int}{h:Nat}
theorem aDN (ho:aY ns pay) (hd:bW d) (hk:aX ns pay d≠[]) (hr:r∈aM ns):aOk ns pay d [r]↔r∈aX ns pay d:=by
 have g:=sX (ns:=ns) (pay:=pay) hd.pos
 constructor
 ·intro D
  refine mP.mpr ⟨r::aX ns pay d,⟨fun x hx=>?_,fun x hx h hh k hkk=>?_⟩,List.mem_cons_self⟩
  ·rcases List.mem_cons.mp hx with rfl | z
   ·exact hr
   ·exact g.rows x z
  ·have l1:((pT ns pay (r::aX ns pay d) h:Int):Rat)≤((pT ns pay (aX ns pay d) h:Int):Rat):=jA (aAc hk fun y hy=>List.mem_cons_of_mem _ hy)
   have l2:((pT ns pay (r::aX ns pay d) h:Int):Rat)≤((bF ns pay r h:Int):Rat):=jA (wU List.mem_cons_self)
   have d0:=hd.pos
   generalize ((pT ns pay (r::aX ns pay d) h:Int):Rat)=F' at *
   rcases List.mem_cons.mp hx with rfl | z
   ·have hl:h<x.length:=by rw [gH hr];exact hh
    by_cases e:k=x.getD h 0
    ·rw [e,vX hl]
     generalize ((bF ns pay x h:Int):Rat)=P at *
     have m:0≤d * (P-F'):=Rat.mul_nonneg (by grind) (by grind)
     grind
    ·have a:=D 0 (by simp) h hh k hkk e
     have e1:([x]:List (List Int)).getD 0 []=x:=rfl
     have e2:aJk 0 [x]=[x]:=rfl
     rw [e1,e2,aAX hd] at a
     generalize ((pT ns pay (aX ns pay d) h:Int):Rat)=F at *
     have m:0≤d * (F-F'):=Rat.mul_nonneg (by grind) (by grind)
     grind
   ·have a:=g.ok x z h hh k hkk
    generalize ((pT ns pay (aX ns pay d) h:Int):Rat)=F at *
    have m:0≤d * (F-F'):=Rat.mul_nonneg (by grind) (by grind)
    grind
 ·intro hrk k hk2 h hh x hx _
  have e:k=0:=by simpa using hk2
  subst e
  have e1:([r]:List (List Int)).getD 0 []=r:=rfl
  have e2:aJk 0 [r]=[r]:=rfl
  rw [e1,e2,aAX hd]
  exact g.ok r hrk h hh x hx
theorem aHV {u l:Int}{k:Nat} (hl:0<l) (b1:Bd k u) (b2:Bd k l):BdR k (Rat.divInt u l):=by
 have g0:0<Int.gcd l u:=Int.gcd_pos_of_ne_zero_left _ (by omega)
 obtain ⟨a,ha⟩:=Int.gcd_dvd_right l u
 obtain ⟨b,hb⟩:=Int.gcd_dvd_left l u
 have h1:l.sign=1:=Int.sign_eq_one_of_pos hl
 have en:(Rat.divInt u l).num=a:=by
  rw [Rat.num_divInt,h1,Int.one_mul]
  conv=>lhs;lhs;rw [ha]
  exact Int.mul_ediv_cancel_left _ (by omega)
 have ed:((Rat.divInt u l).den:Int)=b:=by
  rw [Rat.den_divInt,if_neg (by omega),Int.natCast_ediv,show ((l.natAbs:Nat):Int)=l by omega]
  conv=>lhs;lhs;rw [hb]
  exact Int.mul_ediv_cancel_left _ (by omega)
 have mul_le:∀ z w:Int,w=(Int.gcd l u:Int) * z→z.natAbs≤w.natAbs:=by
  intro z w e
  rw [e,Int.natAbs_mul]
  exact Nat.le_mul_of_pos_left _ (by simpa using g0)
 refine ⟨?_,?_⟩
 ·rw [en]
  exact b1.abs (mul_le a u ha)
 ·rw [ed]
  exact b2.abs (mul_le b l hb)
end
section
variable {ns:List Int}{pay:List (List Int)}{d:Rat}{r:List Int}{h:Nat}
def nA (ns:List Int) (pay:List (List Int)) (d:Rat) (fl:List Int) (r:List Int) (h:Nat) (k:Int):Prop:=k≠r.getD h 0∧(bF ns pay r h:Rat)<(1-d) * bF ns pay (r.set h k) h+d * (fl.getD h 0:Int)
open Classical in
noncomputable def gK (ns:List Int) (pay:List (List Int)) (d:Rat) (fl:List Int) (r:List Int):List (Int×Int):=(List.range ns.length).flatMap fun h=>((bG ns h).filter fun k=>decide (nA ns pay d fl r h k)).map fun k=>((h:Int),k)
theorem uM {fl:List Int}{x:Int×Int}:x∈gK ns pay d fl r↔∃ h,h<ns.length∧∃ k∈bG ns h,nA ns pay d fl r h k∧x=((h:Int),k):=by
 unfold gK
 simp only [List.mem_flatMap,List.mem_map,List.mem_filter,List.mem_range,decide_eq_true_eq]
 constructor
 ·rintro ⟨h,hh,k,⟨hk,g⟩,rfl⟩
  exact ⟨h,hh,k,hk,g,rfl⟩
 ·rintro ⟨h,hh,k,hk,g,rfl⟩
  exact ⟨h,hh,k,⟨hk,g⟩,rfl⟩
theorem qY {fl:List Int}:gK ns pay d fl r=[]↔∀ h,h<ns.length→∀ k∈bG ns h,¬ nA ns pay d fl r h k:=by
 constructor
 ·intro e h hh k hk g
  have:((h:Int),k)∈gK ns pay d fl r:=uM.mpr ⟨h,hh,k,hk,g,rfl⟩
  rw [e] at this
  simp at this
 ·intro A
  apply List.eq_nil_iff_forall_not_mem.mpr
  intro x hx
  obtain ⟨h,hh,k,hk,g,_⟩:=uM.mp hx
  exact A h hh k hk g
theorem aE0 {S:List (List Int)}{fl:List Int} (h0:0<d) (rows:∀ r∈S,r∈aM ns) (hf:∀ h,h<ns.length→pT ns pay S h≤fl.getD h 0) (hn:∀ r∈S,gK ns pay d fl r=[]):aGb ns pay d S:=by
 refine ⟨rows,fun r hr h hh k hk=>?_⟩
 have l1:((pT ns pay S h:Int):Rat)≤((fl.getD h 0:Int):Rat):=jA (hf h hh)
 have l2:((pT ns pay S h:Int):Rat)≤((bF ns pay r h:Int):Rat):=jA (wU hr)
 have A:=qY.mp (hn r hr) h hh k hk
 by_cases e:k=r.getD h 0
 ·rw [e,vX (by rw [gH (rows r hr)];exact hh)]
  generalize ((bF ns pay r h:Int):Rat)=P at *
  generalize ((pT ns pay S h:Int):Rat)=F at *
  have m:0≤d * (P-F):=Rat.mul_nonneg (by grind) (by grind)
  grind
 ·have B:(1-d) * bF ns pay (r.set h k) h+d * (fl.getD h 0:Int)≤(bF ns pay r h:Rat):=Rat.not_lt.mp fun z=>A ⟨e,z⟩
  generalize ((fl.getD h 0:Int):Rat)=G at *
  generalize ((pT ns pay S h:Int):Rat)=F at *
  have m:0≤d * (G-F):=Rat.mul_nonneg (by grind) (by grind)
  grind
theorem zV (ho:aY ns pay) (hd:bW d) (hk:aX ns pay d≠[]) (hr:r∈aM ns):gK ns pay d (cD ns pay d) r=[]↔r∈aX ns pay d:=by
 have fg:∀ h,h<ns.length→(cD ns pay d).getD h 0=pT ns pay (aX ns pay d) h:=by
  intro h hh
  unfold cD
  rw [bP (by simpa using hh)]
  simp
 rw [← aDN ho hd hk hr,qY]
 have e1:([r]:List (List Int)).getD 0 []=r:=rfl
 have e2:aJk 0 [r]=[r]:=rfl
 constructor
 ·intro A k hk0 h hh x hx hne
  have e:k=0:=by simpa using hk0
  subst e
  rw [e1] at hne ⊢
  rw [e2,aAX hd]
  have:=A h hh x hx
  unfold nA at this
  rw [fg h hh] at this
  exact Rat.not_lt.mp fun z=>this ⟨hne,z⟩
 ·intro D h hh x hx g
  have:=D 0 (by simp) h hh x hx (by rw [e1];exact g.1)
  rw [e1,e2,aAX hd] at this
  have g2:=g.2
  rw [fg h hh] at g2
  exact Rat.not_lt.mpr this g2
theorem aHW (ho:aY ns pay) (hd:bW d) (h2:ns.length=2) (hr:r∈aM ns):r∈aX ns pay d↔∃ a∈aM ns,∃ b∈aM ns,∀ x∈[r,a,b],gK ns pay d [bF ns pay a 0,bF ns pay b 1] x=[]:=by
 constructor
 ·intro hk
  have hne:aX ns pay d≠[]:=List.ne_nil_of_mem hk
  have g:=sX (ns:=ns) (pay:=pay) hd.pos
  obtain ⟨a,ha,ea⟩:=uP (ns:=ns) (pay:=pay) hne 0
  obtain ⟨b,hb,eb⟩:=uP (ns:=ns) (pay:=pay) hne 1
  have fl:cD ns pay d=[bF ns pay a 0,bF ns pay b 1]:=by
   unfold cD
   rw [h2,ea,eb]
   rfl
  refine ⟨a,g.rows a ha,b,g.rows b hb,fun x hx=>?_⟩
  have hxk:x∈aX ns pay d:=by
   simp only [List.mem_cons,List.not_mem_nil,or_false] at hx
   rcases hx with rfl | rfl | rfl <;> assumption
  rw [← fl]
  exact (zV ho hd hne (g.rows x hxk)).mpr hxk
 ·rintro ⟨a,ha,b,hb,A⟩
  refine mP.mpr ⟨[r,a,b],aE0 (fl:=[bF ns pay a 0,bF ns pay b 1]) hd.pos (fun x hx=>?_) (fun h hh=>?_) A,List.mem_cons_self⟩
  ·simp only [List.mem_cons,List.not_mem_nil,or_false] at hx
   rcases hx with rfl | rfl | rfl <;> assumption
  ·have:h=0∨h=1:=by omega
   rcases this with rfl | rfl
   ·exact wU (by simp)
   ·exact wU (by simp)
theorem aDD (ho:aY ns pay) (hd:bW d) {th:List (List Int)} (H:iJ ns pay d th) (hk:aX ns pay d≠[]) (hr:r∈aM ns) (ht:f9 ns r th):nF ns pay (dG ns r th) d=[]↔r∈aX ns pay d:=by
 constructor
 ·intro g
  have A:=(vG ho ht hd).mp g r List.mem_cons_self
  rw [← aDN ho hd hk hr]
  intro k hk0 h hh x hx hne
  have e:k=0:=by simpa using hk0
  subst e
  have e1:([r]:List (List Int)).getD 0 []=r:=rfl
  have e2:aJk 0 [r]=[r]:=rfl
  rw [e1] at hne ⊢
  rw [e2,aAX hd]
  have:=A h hh x hx hne
  rw [(H.mem h hh).2] at this
  exact this
 ·exact aBp ho hd H
end
@[reducible] def qL (x:Int×Int):D:=.tup [.int x.1,.int x.2]
noncomputable def d6:List D→Option D
 | [m,r,f,x]=>bX m fun ns pay=>tS ns r fun r=>k6 x fun d=>match jE f with
  | some fl=>if fl.length=ns.length∧∀ y∈fl, -9≤y∧y≤9 then some (.lst ((gK ns pay d fl r).map qL)) else none
  | none=>none
 | _=>none
noncomputable def fO:List D→Option D
 | [m,x]=>bX m fun ns pay=>k6 x fun d=>if ns.length=2 then some (.lst ((aX ns pay d).map aE)) else none
 | _=>none
noncomputable def gW:List D→Option D
 | [m,r,t]=>kW m r t fun ns _ row th=>some (fN (dG ns row th))
 | _=>none
open Classical in
noncomputable def aAN {α:Type} (m r x:D) (f:List Int→List (List Int)→List Int→Rat→Option α):Option α:=match qR m,jE r,aCR x with
 | some (ns,pay),some r,some d=>if aY ns pay∧r∈aM ns∧bW d then f ns pay r d else none
 | _,_,_=>none
theorem aEZ {α:Type}{ns:List Int}{pay:List (List Int)}{r:List Int}{d:Rat}{f:List Int→List (List Int)→List Int→Rat→Option α} (h1:aY ns pay) (h2:r∈aM ns) (h3:bW d):aAN (aU ns pay) (aE r) (aQ d) f=f ns pay r d:=by
 unfold aAN
 rw [qE,cJ,sR]
 exact if_pos ⟨h1,h2,h3⟩
theorem aEG {α:Type}{m p x:D}{y:α}{f:List Int→List (List Int)→List Int→Rat→Option α} (h:aAN m p x f=some y):∃ ns pay r d,m=aU ns pay∧p=aE r∧x=aQ d∧aY ns pay∧r∈aM ns∧bW d∧f ns pay r d=some y:=by
 unfold aAN at h
 split at h
 ·rename_i ns pay r d e1 e2 e3
  split at h
  ·rename_i ho
   exact ⟨ns,pay,r,d,pV e1,jU e2,sP e3,ho.1,ho.2.1,ho.2.2,h⟩
  ·cases h
 ·cases h
def aG6 (ns:List Int) (pay:List (List Int)) (d:Rat) (r:List Int) (y:D):Prop:=(r∈aX ns pay d∧y = .non)∨(r∉aX ns pay d∧∃ x∈gK ns pay d (cD ns pay d) r,y=qL x)
noncomputable def lM:List D→Option Out
 | [m,r,x]=>aAN m r x fun ns pay r d=>some { ret:=fun y=>aX ns pay d≠[]∧aG6 ns pay d r y,exc:=fun c=>aX ns pay d=[]∧c="NoPact" }
 | _=>none
def v4 (ne:Prop) (p:D→Prop) (y:D):Prop:=(ne∧p y)∨(¬ ne∧y = .str (PySem.Str.ofString "no pact"))
noncomputable def bO:List D→Option (D→Prop)
 | [.int w,m,r,x]=>if w=0 then aBG m x fun ns pay d=>some (v4 (aX ns pay d≠[]) fun y=>y=aE (cD ns pay d))
  else if w=1 then aBG m x fun ns pay d=>some (v4 (aX ns pay d≠[]) fun y=>∃ th,y = .tup (th.map aE)∧iJ ns pay d th)
  else aAN m r x fun ns pay r d=>some (v4 (aX ns pay d≠[]) (aG6 ns pay d r))
 | _=>none
theorem yI {u l:Int} (hl:0<l):aQ (Rat.divInt u l) = .tup [.int (u / (Int.gcd u l:Int)),.int (l / (Int.gcd u l:Int))]:=by
 have h1:l.sign=1:=Int.sign_eq_one_of_pos hl
 unfold aQ
 rw [Rat.num_divInt,Rat.den_divInt,if_neg (by omega),h1,Int.one_mul,Int.gcd_comm l u]
 congr 4
 rw [Int.natCast_ediv,show ((l.natAbs:Nat):Int)=l by omega]
theorem xZ {b:Int} (h:0<b):(0:Rat)<(b:Rat):=Rat.intCast_pos.mpr h
theorem aEB {a b c e:Int} (hb:0<b) (he:0<e):a * e<c * b↔Rat.divInt a b<Rat.divInt c e:=by
 have hB:=xZ hb
 have hE:=xZ he
 have h1:(a:Rat)=Rat.divInt a b * (b:Rat):=by
  rw [Rat.divInt_eq_div]
  grind
 have h2:(c:Rat)=Rat.divInt c e * (e:Rat):=by
  rw [Rat.divInt_eq_div]
  grind
 have hp:(0:Rat)<(b:Rat) * (e:Rat):=Rat.mul_pos hB hE
 have key:a * e<c * b↔(a:Rat) * (e:Rat)<(c:Rat) * (b:Rat):=by
  rw [← Rat.intCast_mul,← Rat.intCast_mul,Rat.intCast_lt_intCast]
 rw [key]
 generalize Rat.divInt a b=x at *
 generalize Rat.divInt c e=y at *
 generalize (a:Rat)=A at *
 generalize (b:Rat)=B at *
 generalize (c:Rat)=C at *
 generalize (e:Rat)=E at *
 subst h1 h2
 constructor
 ·intro h
  apply Classical.byContradiction
  intro z
  have z2:y≤x:=by grind
  have:=Rat.mul_le_mul_of_nonneg_left z2 (Rat.le_of_lt hp)
  grind
 ·intro h
  apply Classical.byContradiction
  intro z
  have z2:(B * E) * y≤(B * E) * x:=by grind
  have:=Rat.le_of_mul_le_mul_left z2 hp
  grind
open Classical in
noncomputable def iU:List D→Option D
 | [.tup [.int a,.int b],.tup [.int c,.int e]]=>if Bd 3000 a∧Bd 3000 b∧Bd 3000 c∧Bd 3000 e then some (.bl (decide (a * e<c * b))) else none
 | _=>none
open Classical in
noncomputable def bT:List D→Option D
 | [.int x,.tup [.int u,.int l],d]=>k6 d fun d=>if Bd 40 x∧Bd 4000 u∧Bd 4000 l then some (.tup [.int (((d.den:Int)-d.num) * x * l+d.num * u),.int ((d.den:Int) * l)]) else none
 | _=>none
theorem aGr {a b c e:Int} (h1:Bd 3000 a) (h2:Bd 3000 b) (h3:Bd 3000 c) (h4:Bd 3000 e):iU [.tup [.int a,.int b],.tup [.int c,.int e]]=some (.bl (decide (a * e<c * b))):=if_pos ⟨h1,h2,h3,h4⟩
theorem aMw {x u l:Int}{d:Rat} (hd:bW d) (h1:Bd 40 x) (h2:Bd 4000 u) (h3:Bd 4000 l):bT [.int x,.tup [.int u,.int l],aQ d]=some (.tup [.int (((d.den:Int)-d.num) * x * l+d.num * u),.int ((d.den:Int) * l)]):=by
 simp only [bT,gD hd,if_pos (show Bd 40 x∧Bd 4000 u∧Bd 4000 l from ⟨h1,h2,h3⟩)]
def hAt (h:Int):D→D
 | .tup xs=>(gL xs h).getD .non
 | _=>.non
open Classical in
noncomputable def dA:List D→Option D
 | [.tup ds,.int h]=>if ds.length≤1000∧∀ d∈ds,∃ xs x,d = .tup xs∧gL xs h=some x then some (.tup (ds.map (hAt h))) else none
 | _=>none
def sG (V:Int→Rat) (a:Int×Rat) (k:Int):Int×Rat:=if a.2<V k then (k,V k) else a
theorem aGP (V:Int→Rat):∀ (ks:List Int) (a:Int×Rat),a.2≤(ks.foldl (sG V) a).2∧∀ k∈ks,V k≤(ks.foldl (sG V) a).2
 | [],a=>⟨Rat.le_refl,fun k hk=>absurd hk (List.not_mem_nil)⟩
 | k::ks,a=>by
  obtain ⟨h1,h2⟩:=aGP V ks (sG V a k)
  rw [List.foldl_cons]
  have hb:a.2≤(sG V a k).2∧V k≤(sG V a k).2:=by
   unfold sG
   split
   ·rename_i hl
    exact ⟨Rat.le_of_lt hl,Rat.le_refl⟩
   ·rename_i hl
    exact ⟨Rat.le_refl,by grind⟩
  refine ⟨Rat.le_trans hb.1 h1,fun q hq=>?_⟩
  rcases List.mem_cons.mp hq with rfl | hq
  ·exact Rat.le_trans hb.2 h1
  ·exact h2 q hq
theorem aGa (V:Int→Rat):∀ (ks:List Int) (a:Int×Rat),ks.foldl (sG V) a=a∨∃ k∈ks,ks.foldl (sG V) a=(k,V k)∧a.2<V k
 | [],a=>.inl rfl
 | k::ks,a=>by
  rw [List.foldl_cons]
  rcases aGa V ks (sG V a k) with h | ⟨q,hq,h,hl⟩
  ·rw [h]
   by_cases hk:a.2<V k
   ·exact .inr ⟨k,List.mem_cons_self,by unfold sG;rw [if_pos hk],hk⟩
   ·exact .inl (by unfold sG;rw [if_neg hk])
  ·refine .inr ⟨q,List.mem_cons_of_mem _ hq,h,?_⟩
   by_cases hk:a.2<V k
   ·unfold sG at hl
    rw [if_pos hk] at hl
    have hl:V k<V q:=hl
    grind
   ·unfold sG at hl
    rw [if_neg hk] at hl
    exact hl
section
variable (ns:List Int) (pay:List (List Int)) (pl:List (List Int×List Int)) (d:Rat) (h:Nat) (W:Nat→Rat) (s:Nat)
def yO (j:Nat):Int×Rat:=((bG ns h).take j).foldl (sG (gG ns pay pl d h W s)) ((bZ pl s).getD h 0,W s)
def lK:Int:=(yO ns pay pl d h W s (bG ns h).length).1
end
section
variable {ns:List Int}{pay:List (List Int)}{pl:List (List Int×List Int)}{d:Rat}{h s:Nat}{W:Nat→Rat}
theorem aFy {j:Nat} (hj:j<(bG ns h).length):yO ns pay pl d h W s (j+1)=sG (gG ns pay pl d h W s) (yO ns pay pl d h W s j) (bG ns h)[j]:=by
 unfold yO
 rw [List.take_succ,List.getElem?_eq_getElem hj,Option.toList_some,List.foldl_append]
 rfl
theorem aJi (hp:gQ ns pl) (hh:h<ns.length) (hs:s<pl.length):(lK ns pay pl d h W s=(bZ pl s).getD h 0∧∀ k∈bG ns h,gG ns pay pl d h W s k≤W s)∨(lK ns pay pl d h W s∈bG ns h∧W s<gG ns pay pl d h W s (lK ns pay pl d h W s)):=by
 unfold lK yO
 rw [List.take_length]
 have a:=aGP (gG ns pay pl d h W s) (bG ns h) ((bZ pl s).getD h 0,W s)
 rcases aGa (gG ns pay pl d h W s) (bG ns h) ((bZ pl s).getD h 0,W s) with e | ⟨k,hk,e,hl⟩
 ·rw [e] at a ⊢
  exact .inl ⟨rfl,a.2⟩
 ·rw [e]
  exact .inr ⟨hk,hl⟩
theorem aHe (hp:gQ ns pl) (hd:bW d) (hh:h<ns.length) (hs:s<pl.length):gG ns pay pl d h (cZ ns pay pl d h) s ((bZ pl s).getD h 0)=cZ ns pay pl d h s:=by
 unfold gG
 rw [vX (by rw [gH (p6 hp hs)];exact hh)]
 exact (aFM hp hd hs).symm
theorem x9 {V:Nat→Rat} (hp:gQ ns pl) (hs:s<pl.length) (hW:∀ s,s<pl.length→W s=V s) {k:Int} (hk:k∈bG ns h):gG ns pay pl d h W s k=gG ns pay pl d h V s k:=by
 unfold gG
 rw [hW _ (aLy hp hs hk)]
theorem aHa (hp:gQ ns pl) (hd:bW d) (hh:h<ns.length) (hs:s<pl.length) (hW:∀ s,s<pl.length→W s=cZ ns pay pl d h s):(lK ns pay pl d h W s=(bZ pl s).getD h 0∧∀ k∈bG ns h,gG ns pay pl d h (cZ ns pay pl d h) s k≤cZ ns pay pl d h s)∨(lK ns pay pl d h W s≠(bZ pl s).getD h 0∧lK ns pay pl d h W s∈bG ns h∧cZ ns pay pl d h s<gG ns pay pl d h (cZ ns pay pl d h) s (lK ns pay pl d h W s)):=by
 rcases aJi (pay:=pay) (d:=d) (W:=W) hp hh hs with ⟨h1,h2⟩ | ⟨h1,h2⟩
 ·refine .inl ⟨h1,fun k hk=>?_⟩
  have:=h2 k hk
  rw [x9 hp hs hW hk,hW s hs] at this
  exact this
 ·rw [x9 hp hs hW h1,hW s hs] at h2
  refine .inr ⟨fun z=>?_,h1,h2⟩
  rw [z,aHe hp hd hh hs] at h2
  exact Rat.lt_irrefl h2
theorem aHK (hs:s<pl.length) (hh:h<ns.length) {k:Int} (hk:k∈bG ns h) (hl:cZ ns pay pl d h s<gG ns pay pl d h (cZ ns pay pl d h) s k):((s:Int),(h:Int),k)∈nF ns pay pl d:=by
 unfold nF
 refine List.mem_flatMap.mpr ⟨s,List.mem_range.mpr hs,List.mem_flatMap.mpr ⟨h,List.mem_range.mpr hh,?_⟩⟩
 unfold zG
 exact List.mem_map.mpr ⟨k,List.mem_filter.mpr ⟨hk,decide_eq_true hl⟩,rfl⟩
end
def aCk:List D→Option (List Rat)
 | []=>some []
 | d::ds=>match aCR d,aCk ds with
  | some q,some qs=>some (q::qs)
  | _,_=>none
theorem aD9:∀ qs:List Rat,aCk (qs.map aQ)=some qs
 | []=>rfl
 | q::qs=>by rw [List.map_cons,aCk,sR,aD9 qs]
theorem aEp:∀ {ds:List D}{qs:List Rat},aCk ds=some qs→ds=qs.map aQ
 | [],qs,h=>by cases h;rfl
 | d::ds,qs,h=>by
  unfold aCk at h
  split at h
  ·rename_i q qs' e1 e2
   cases h
   rw [sP e1,aEp e2]
   rfl
  ·cases h
@[reducible] def wv (qs:List Rat):Nat→Rat:=fun s=>qs.getD s 0
open Classical in
noncomputable def onW (n:Nat) (d:D) (f:List Rat→Option D):Option D:=match d with
 | .tup ds=>match aCk ds with
  | some qs=>if qs.length=n∧∀ q∈qs,BdR 900 q then f qs else none
  | none=>none
 | _=>none
theorem aIP {n:Nat}{qs:List Rat}{f:List Rat→Option D} (h1:qs.length=n) (h2:∀ q∈qs,BdR 900 q):onW n (.tup (qs.map aQ)) f=f qs:=by
 unfold onW
 simp only [aD9]
 exact if_pos ⟨h1,h2⟩
theorem aJx {n:Nat}{m d:D}{f:List Rat→Option D} (h:onW n m f=some d):∃ qs,m = .tup (qs.map aQ)∧qs.length=n∧(∀ q∈qs,BdR 900 q)∧f qs=some d:=by
 unfold onW at h
 split at h
 ·split at h
  ·rename_i qs e
   split at h
   ·rename_i ho
    exact ⟨qs,by rw [aEp e],ho.1,ho.2,h⟩
   ·cases h
  ·cases h
 ·cases h
noncomputable def fU:List D→Option D
 | [m,p,s,h,w,d]=>bX m fun ns pay=>pL ns p fun pl=>pN pl.length s fun s=>pN ns.length h fun h=>onW pl.length w fun qs=>k6 d fun d=>some (.int (lK ns pay pl d h (wv qs) s))
 | _=>none
noncomputable def e7:List D→Option D
 | [m,p,h,w,d]=>bX m fun ns pay=>pL ns p fun pl=>pN ns.length h fun h=>onW pl.length w fun qs=>k6 d fun d=>some (aE ((List.range pl.length).map fun s=>lK ns pay pl d h (wv qs) s))
 | _=>none
noncomputable def kJ (ns:List Int) (pay:List (List Int)) (pl:List (List Int×List Int)) (d:Rat) (h:Nat):List Rat:=(List.range pl.length).map (cZ ns pay pl d h)
section
variable {ns:List Int}{pay:List (List Int)}{pl:List (List Int×List Int)}{d:Rat}{h s:Nat}
theorem aHo (hs:s<pl.length):wv (kJ ns pay pl d h) s=cZ ns pay pl d h s:=by
 unfold wv kJ
 rw [bP (by simpa using hs),List.getElem_map,List.getElem_range]
theorem aFr:(kJ ns pay pl d h).length=pl.length:=by simp [kJ]
theorem aHi (ho:aY ns pay) (hp:gQ ns pl) (hd:bW d):∀ q∈kJ ns pay pl d h,BdR 900 q:=fun q hq=>by
 obtain ⟨s,hs,rfl⟩:=List.mem_map.mp hq
 exact ((sL (h:=h) (pay:=pay) hp hd).bd ho hp.few.2 (fun s hs=>p6 hp hs) (aAB hp) hd (List.mem_range.mp hs)).2.2
theorem aIk (hh:h<ns.length) (hp:gQ ns pl):dA [qX ns pay pl d,.int h]=some (.tup ((kJ ns pay pl d h).map aQ)):=by
 have at1:∀ s,gL ((List.range ns.length).map fun h=>aQ (cZ ns pay pl d h s)) (h:Int)=some (aQ (cZ ns pay pl d h s)):=fun s=>by
  rw [zZ (by simpa using hh),List.getElem_map,List.getElem_range]
 unfold qX dA
 simp only []
 rw [if_pos]
 ·congr 2
  unfold kJ
  rw [List.map_map,List.map_map]
  refine List.map_congr_left fun s _=>?_
  show (gL _ _).getD D.non=_
  rw [at1]
  rfl
 ·refine ⟨by have:=hp.few.2;simp;omega,fun x hx=>?_⟩
  obtain ⟨s,_,rfl⟩:=List.mem_map.mp hx
  exact ⟨_,_,rfl,at1 s⟩
theorem aI4 (ho:aY ns pay) (hp:gQ ns pl) (hd:bW d) (hh:h<ns.length):e7 [aU ns pay,fN pl,.int h,.tup ((kJ ns pay pl d h).map aQ),aQ d]=some (aE ((List.range pl.length).map fun s=>lK ns pay pl d h (wv (kJ ns pay pl d h)) s)):=by
 simp only [e7,cM ho,nS hp,lO hh,aIP aFr (aHi ho hp hd),gD hd]
theorem aKu (ho:aY ns pay) (hp:gQ ns pl) (hd:bW d) (hh:h<ns.length) (hs:s<pl.length) {qs:List Rat} (h1:qs.length=pl.length) (h2:∀ q∈qs,BdR 900 q):fU [aU ns pay,fN pl,.int s,.int h,.tup (qs.map aQ),aQ d]=some (.int (lK ns pay pl d h (wv qs) s)):=by
 simp only [fU,cM ho,nS hp,lO hs,lO hh,aIP h1 h2,gD hd]
theorem aKm (ho:aY ns pay) (hp:gQ ns pl) (hd:bW d):mW [aU ns pay,fN pl,aQ d]=some (qX ns pay pl d):=by
 simp only [mW,cM ho,nS hp,gD hd]
end
section
variable {ns:List Int}{pay:List (List Int)}{pl:List (List Int×List Int)}{d:Rat}{h s:Nat}{ks ks':Nat→Int}{W:Nat→Rat}
end
@[reducible] def aES (q:Int×Int):D:=.tup [.int q.1,.int q.2]
def jR (ns r:List Int):List (Int×Int):=(List.range ns.length).flatMap fun h=>((bG ns h).filter fun k=>decide (k≠r.getD h 0)).map fun k=>((h:Int),k)
def sY (ns r:List Int) (n:Nat):List (Int×Int):=(List.range n).flatMap fun h=>((bG ns h).filter fun k=>decide (k≠r.getD h 0)).map fun k=>((h:Int),k)
theorem qP {ns r:List Int}{q:Int×Int}:q∈jR ns r↔∃ h:Nat,h<ns.length∧q.1=(h:Int)∧q.2∈bG ns h∧q.2≠r.getD h 0:=by
 unfold jR
 constructor
 ·intro z
  obtain ⟨h,hh,z⟩:=List.mem_flatMap.mp z
  obtain ⟨k,hk,rfl⟩:=List.mem_map.mp z
  obtain ⟨k1,k2⟩:=List.mem_filter.mp hk
  exact ⟨h,List.mem_range.mp hh,rfl,k1,of_decide_eq_true k2⟩
 ·rintro ⟨h,hh,e1,h2,h3⟩
  exact List.mem_flatMap.mpr ⟨h,List.mem_range.mpr hh,List.mem_map.mpr ⟨q.2,List.mem_filter.mpr ⟨h2,decide_eq_true h3⟩,Prod.ext e1.symm rfl⟩⟩
theorem vS (ns r:List Int) (n:Nat):sY ns r (n+1)=sY ns r n++((bG ns n).filter fun k=>decide (k≠r.getD n 0)).map fun k=>((n:Int),k):=by
 unfold sY
 rw [List.range_succ,List.flatMap_append]
 simp
theorem yQ {ns r:List Int} (ho:eL ns=true):∀ n,n≤ns.length→(sY ns r n).length≤3 * n
 | 0,_=>by simp [sY]
 | n+1,hn=>by
  rw [vS,List.length_append,List.length_map]
  have a:=yQ (r:=r) ho n (by omega)
  have b:=List.length_filter_le (fun k=>decide (k≠r.getD n 0)) (bG ns n)
  have c:(bG ns n).length≤3:=by
   have:=(bU ho).2 ns[n] (List.getElem_mem (by omega))
   unfold bG
   rw [List.length_map,List.length_range,bP (by omega)]
   omega
  omega
def dJ:List D→Option D
 | [r,.tup ds]=>match jE r,iE ds with
  | some r,some ns=>if eL ns=true∧r∈aM ns then some (.lst ((jR ns r).map aES)) else none
  | _,_=>none
 | _=>none
theorem aKv {ns r:List Int} (ho:eL ns=true) (hr:r∈aM ns):dJ [aE r,aE ns]=some (.lst ((jR ns r).map aES)):=by
 simp only [dJ,cJ,h8]
 exact if_pos ⟨ho,hr⟩
theorem aAn {α:Type} (g:α→D) (l:List α) (x0:α):u5 (l.map g)=(List.range l.length).map fun (k:Nat)=>D.tup [.int k,g (l.getD k x0)]:=by
 refine List.ext_getElem? fun i=>?_
 rw [rS,List.getElem?_map,List.getElem?_map]
 by_cases h:i<l.length
 ·rw [List.getElem?_range h,List.getElem?_eq_getElem h,Option.map_some,Option.map_some,Option.map_some,bP h]
 ·rw [List.getElem?_eq_none (by simpa using h),List.getElem?_eq_none (by simpa using h)]
  rfl
def jZ (row:List Int) (on thr:Int) (r:List Int):Int:=match cK row r with
 | [h]=>thr+(h:Int)
 | _=>on
def aEn (ns row:List Int) (on thr:Int):List Int:=(aM ns).map (jZ row on thr)
noncomputable def gN:List D→Option D
 | [m,r,.int on,.int thr]=>bX m fun ns _=>tS ns r fun row=>some (.tup [aE row,aE (aEn ns row on thr)])
 | _=>none
theorem aGp {ns:List Int}{pay:List (List Int)}{row:List Int} (ho:aY ns pay) (hr:row∈aM ns) (on thr:Int):gN [aU ns pay,aE row,.int on,.int thr]=some (.tup [aE row,aE (aEn ns row on thr)]):=by
 simp only [gN,cM ho,pX hr]
structure aFV (ns:List Int) (path th:List (List Int)):Prop where
 few:1≤path.length∧path.length≤100
 few2:th.length≤100
 rows:∀ r∈path,r∈aM ns
 rows2:∀ r∈th,r∈aM ns
def aBK (ns:List Int) (path th:List (List Int)):List (List Int×List Int):=((List.range path.length).map fun (p:Nat)=>(path.getD p [],aEn ns (path.getD p []) (((p:Int)+1) % (path.length:Int)) path.length))++(List.range th.length).map fun (h:Nat)=>(th.getD h [],aEn ns (th.getD h []) ((path.length:Int)+h) path.length)
open Classical in
noncomputable def d8:List D→Option D
 | [m,p,t]=>bX m fun ns _=>match d9 p,d9 t with
  | some path,some th=>if aFV ns path th then some (fN (aBK ns path th)) else none
  | _,_=>none
 | _=>none
theorem aLN {ns:List Int}{pay path th:List (List Int)} (ho:aY ns pay) (H:aFV ns path th):d8 [aU ns pay,.tup (path.map aE),.tup (th.map aE)]=some (fN (aBK ns path th)):=by
 simp only [d8,cM ho,jP]
 exact if_pos H
theorem aCw (ns row:List Int) (th:List (List Int)):aBK ns [row] th=dG ns row th:=by
 unfold aBK dG
 rw [show 1+th.length=th.length+1 by omega,List.range_succ_eq_map,List.map_cons,List.map_map]
 congr 1
 ·show [(row,_)]++_=_
  rw [List.singleton_append]
  congr 1
  ·unfold dY aEn
   congr 1
   refine List.map_congr_left fun r _=>?_
   show jZ row _ _ r=((iN 0 row r:Nat):Int)
   unfold jZ iN
   split <;> simp_all
  ·refine List.map_congr_left fun h _=>?_
   show _=(dY row th (h+1),_)
   have e:dY row th (h+1)=th.getD h []:=rfl
   show (th.getD h [],_)=(dY row th (h+1),(aM ns).map fun r=>((iN (h+1) (dY row th (h+1)) r:Nat):Int))
   rw [e]
   congr 1
   unfold aEn
   refine List.map_congr_left fun r _=>?_
   unfold jZ iN
   split <;> simp_all <;> omega
open Classical in
noncomputable def bY:List D→Option D
 | [m,t]=>bX m fun ns pay=>match d9 t with
  | some th=>if th.length≤ns.length∧∀ r∈th,r∈aM ns then some (aE ((List.range th.length).map fun h=>bF ns pay (th.getD h []) h)) else none
  | none=>none
 | _=>none
theorem aGO {ns:List Int}{pay th:List (List Int)} (ho:aY ns pay) (h1:th.length≤ns.length) (h2:∀ r∈th,r∈aM ns):bY [aU ns pay,.tup (th.map aE)]=some (aE ((List.range th.length).map fun h=>bF ns pay (th.getD h []) h)):=by
 simp only [bY,cM ho,jP]
 exact if_pos ⟨h1,h2⟩
section
variable (ns:List Int) (pay:List (List Int)) (d:Rat)
open Classical in
noncomputable def uS (fl r:List Int) (q:Int×Int):Bool:=decide ((bF ns pay r q.1.toNat:Rat)<(1-d) * bF ns pay (r.set q.1.toNat q.2) q.1.toNat+d * ((fl.getD q.1.toNat 0:Int):Rat))
noncomputable def oA (fl r:List Int):Option (Int×Int):=(jR ns r).find? (uS ns pay d fl r)
noncomputable def wM (fl r:List Int):D:=match oA ns pay d fl r with
 | some q=>aES q
 | none=>.non
def oS (S:List (List Int)) (h:Nat):List Int:=(S.find? fun r=>decide (bF ns pay r h=pT ns pay S h)).getD []
def flS (S:List (List Int)):List Int:=(List.range ns.length).map (pT ns pay S)
noncomputable def lG (S:List (List Int)):List (List Int):=S.filter fun r=>(oA ns pay d (flS ns pay S) r).isNone
end
structure aKM (ns fl:List Int):Prop where
 len:fl.length=ns.length
 bd:∀ x∈fl, -9≤x∧x≤9
structure pG (ns:List Int) (S:List (List Int)):Prop where
 few:S.length≤100
 rows:∀ r∈S,r∈aM ns
open Classical in
noncomputable def b8:List D→Option D
 | [m,r,f,d]=>bX m fun ns pay=>tS ns r fun r=>match jE f with
  | some fl=>if aKM ns fl then k6 d fun d=>some (wM ns pay d fl r) else none
  | none=>none
 | _=>none
open Classical in
noncomputable def fQ:List D→Option D
 | [m,t,h]=>bX m fun ns pay=>match d9 t with
  | some S=>if pG ns S∧S≠[] then pN ns.length h fun h=>some (aE (oS ns pay S h)) else none
  | none=>none
 | _=>none
open Classical in
noncomputable def cV:List D→Option D
 | [m,t]=>bX m fun ns pay=>match d9 t with
  | some S=>if pG ns S∧S≠[] then some (.tup (((List.range ns.length).map (oS ns pay S)).map aE)) else none
  | none=>none
 | _=>none
open Classical in
noncomputable def dQ:List D→Option D
 | [m,t,d]=>bX m fun ns pay=>match d9 t with
  | some S=>if pG ns S then k6 d fun d=>some (.tup ((lG ns pay d S).map aE)) else none
  | none=>none
 | _=>none
section
variable {ns:List Int}{pay:List (List Int)}{d:Rat}{S:List (List Int)}{r fl:List Int}{h:Nat}
theorem aGM (ho:aY ns pay) (hr:r∈aM ns) (hf:aKM ns fl) (hd:bW d):b8 [aU ns pay,aE r,aE fl,aQ d]=some (wM ns pay d fl r):=by
 simp only [b8,cM ho,pX hr,cJ,if_pos hf,gD hd]
theorem aLP (ho:aY ns pay) (hS:pG ns S) (hn:S≠[]) (hh:h<ns.length):fQ [aU ns pay,.tup (S.map aE),.int h]=some (aE (oS ns pay S h)):=by
 simp only [fQ,cM ho,jP]
 rw [if_pos ⟨hS,hn⟩,lO hh]
theorem aI1 (ho:aY ns pay) (hS:pG ns S) (hn:S≠[]):cV [aU ns pay,.tup (S.map aE)]=some (.tup (((List.range ns.length).map (oS ns pay S)).map aE)):=by
 simp only [cV,cM ho,jP]
 rw [if_pos ⟨hS,hn⟩]
theorem aD6 (ho:aY ns pay) (hS:pG ns S) (hd:bW d):dQ [aU ns pay,.tup (S.map aE),aQ d]=some (.tup ((lG ns pay d S).map aE)):=by
 simp only [dQ,cM ho,jP]
 rw [if_pos hS,gD hd]
theorem aBc (hn:S≠[]) (h:Nat):oS ns pay S h∈S∧bF ns pay (oS ns pay S h) h=pT ns pay S h:=by
 unfold oS
 obtain ⟨r,hr,e⟩:=uP (ns:=ns) (pay:=pay) hn h
 cases ef:S.find? (fun r=>decide (bF ns pay r h=pT ns pay S h)) with
 | none=>
  have:=List.find?_eq_none.mp ef r hr
  exact absurd (decide_eq_true e) this
 | some x=>
  have e2:=List.find?_some (p:=fun r=>decide (bF ns pay r h=pT ns pay S h)) ef
  exact ⟨List.mem_of_find?_eq_some ef,of_decide_eq_true e2⟩
theorem aIg (hh:h<ns.length):(flS ns pay S).getD h 0=pT ns pay S h:=by
 unfold flS
 rw [bP (by simpa using hh)]
 simp
theorem aJE (ho:aY ns pay) (hS:∀ r∈S,r∈aM ns) (hn:S≠[]):aKM ns (flS ns pay S):=by
 refine ⟨by simp [flS],fun x hx=>?_⟩
 obtain ⟨h,_,rfl⟩:=List.mem_map.mp hx
 obtain ⟨r,hr,e⟩:=uP (ns:=ns) (pay:=pay) hn h
 rw [← e]
 exact jN ho (hS r hr)
theorem xW:oA ns pay d fl r=none↔gK ns pay d fl r=[]:=by
 unfold oA
 rw [List.find?_eq_none,qY]
 constructor
 ·intro A h hh k hk g
  have:=A ((h:Int),k) (qP.mpr ⟨h,hh,rfl,hk,g.1⟩)
  unfold uS at this
  rw [decide_eq_true_eq,Int.toNat_natCast] at this
  exact this g.2
 ·intro A q hq
  obtain ⟨h,hh,e1,h2,h3⟩:=qP.mp hq
  unfold uS
  rw [decide_eq_true_eq,e1,Int.toNat_natCast]
  exact fun z=>A h hh q.2 h2 ⟨h3,z⟩
theorem aDO {q:Int×Int} (e:oA ns pay d fl r=some q):q∈gK ns pay d fl r:=by
 have h1:=List.mem_of_find?_eq_some e
 have h2:=List.find?_some e
 obtain ⟨h,hh,e1,h3,h4⟩:=qP.mp h1
 unfold uS at h2
 rw [decide_eq_true_eq,e1,Int.toNat_natCast] at h2
 exact uM.mpr ⟨h,hh,q.2,h3,⟨h4,h2⟩,Prod.ext e1 rfl⟩
theorem aEv:r∈lG ns pay d S↔r∈S∧gK ns pay d (flS ns pay S) r=[]:=by
 unfold lG
 rw [List.mem_filter,Option.isNone_iff_eq_none,xW]
theorem aHQ (hd:bW d) (hS:∀ r∈S,r∈aM ns) (e:lG ns pay d S=S):aGb ns pay d S:=by
 refine aE0 (fl:=flS ns pay S) hd.pos hS (fun h hh=>by rw [aIg hh];exact Int.le_refl _) fun r hr=>?_
 rw [← e] at hr
 exact (aEv.mp hr).2
theorem aH3 (ho:aY ns pay) (hd:bW d) (sub:∀ r∈aX ns pay d,r∈S):∀ r∈aX ns pay d,r∈lG ns pay d S:=by
 intro r hr
 refine aEv.mpr ⟨sub r hr,qY.mpr fun h hh k hk g=>?_⟩
 have hne:aX ns pay d≠[]:=List.ne_nil_of_mem hr
 have a:=(sX (ns:=ns) (pay:=pay) hd.pos).ok r hr h hh k hk
 have g2:=g.2
 rw [aIg hh] at g2
 have b:((pT ns pay S h:Int):Rat)≤((pT ns pay (aX ns pay d) h:Int):Rat):=jA (aAc hne sub)
 generalize ((pT ns pay S h:Int):Rat)=F at *
 generalize ((pT ns pay (aX ns pay d) h:Int):Rat)=G at *
 have m:0≤d * (G-F):=Rat.mul_nonneg (Rat.le_of_lt hd.pos) (by grind)
 grind
open Classical in
theorem aIK (ho:aY ns pay) (hd:bW d) {p:List Int→Bool} (eS:S=(aM ns).filter p) (sub:∀ r∈aX ns pay d,r∈S) (e:lG ns pay d S=S):S=aX ns pay d:=by
 have hS:∀ r∈S,r∈aM ns:=fun r hr=>by rw [eS] at hr;exact (List.mem_filter.mp hr).1
 have g:=aHQ hd hS e
 have sub2:∀ r∈S,r∈aX ns pay d:=fun r hr=>mP.mpr ⟨S,g,hr⟩
 rw [eS]
 unfold aX
 refine List.filter_congr fun r hr=>?_
 rw [Bool.eq_iff_iff]
 constructor
 ·intro hp
  have:=sub2 r (by rw [eS];exact List.mem_filter.mpr ⟨hr,hp⟩)
  exact decide_eq_true (mP.mp this)
 ·intro hk
  have:=sub r (mP.mpr (of_decide_eq_true hk))
  rw [eS] at this
  exact (List.mem_filter.mp this).2
theorem aKd (hne:lG ns pay d S≠S):(lG ns pay d S).length<S.length:=by
 unfold lG at *
 apply Nat.lt_of_le_of_ne (List.length_filter_le _ _)
 intro z
 exact hne (List.filter_eq_self.mpr (List.length_filter_eq_length_iff.mp z))
theorem aEh {p:List Int→Bool} (eS:S=(aM ns).filter p):∃ p',lG ns pay d S=(aM ns).filter p':=by
 unfold lG
 generalize (fun r=>(oA ns pay d (flS ns pay S) r).isNone)=q
 subst eS
 exact ⟨_,List.filter_filter⟩
theorem aIW:lG ns pay d []=[]:=rfl
end
section
variable {ns:List Int}{pay:List (List Int)}{pl:List (List Int×List Int)}{d:Rat}{h s:Nat}
end
section
variable {ns:List Int}{pay path th:List (List Int)}{d:Rat}{h k:Nat}
end
theorem aBj:bootBuiltins "ValueError"=some (.type "ValueError"):=by decide +kernel
section
variable {X:Cx}{a:Addr}{oe:Obj}{C Nn:Addr}{i:Nat}{n y1 y2:Str}{p1 p2 p3 q1 q2 q3 r1 r2 r3 s1 s2 s3 u pos:Pos}
theorem aIU (hp:(a,oe)∈X.pn) (hc:oe.cls = .ref C) (T:aIV X.K C) (m1:X.mg y1=some (.ref C)) (m2:X.mg y2=some (.ref Nn)) (m3:X.mg "ValueError"=none) (m4:X.mg "isinstance"=none)
  (k1:PySem.W.kitOne X.K (.ref C) (.ref C)=some true) (k2:PySem.W.kitOne X.K (.ref C) (.ref Nn)=some false) (k3:PySem.W.kitOne X.K (.ref C) (.type "ValueError")=some true)
  (hn:∀ p,PE X (.Name n p) (aAw i)) (g1:Gl X y1) (g2:Gl X y2) (g3:Gl X "ValueError") (g4:Gl X "isinstance") (b1:(y1 == ("__debug__":Str))=false:=by decide) (b2:(y2 == ("__debug__":Str))=false:=by decide)
  (e1:∀ p y q,starEach [.Name n p,.Name y q] X.env=[(false,eval (.Name n p) X.env),(false,eval (.Name y q) X.env)]:=by intros;rfl) (e2:∀ y q,starEach [.Name y q] X.env=[(false,eval (.Name y q) X.env)]:=by intros;rfl) :
  PT X (.BoolOp .And [.Call (.Name "isinstance" p1) [.Name n q1,.Name y1 r1] [] s1,.UnaryOp .Not (.Call (.Name "isinstance" p2) [.Name n q2,.Name y2 r2] [] s2) u,.Call (.Name "isinstance" p3) [.Name n q3,.Name "ValueError" r3] [] s3] pos) (fun σ H Q=>σ[i]? = some (some (.ref a))∧Q true H):=by
 have call:∀ {y:Str}{p q r s:Pos}{t:TA}{rr:List V→Hp→VK→Prop},lJ X (.builtin "isinstance") rr→PA X [.Name n q,.Name y r] t→PE X (.Call (.Name "isinstance" p) [.Name n q,.Name y r] [] s) (tCB rr t):=fun h1 h2=>cQ h1 g4 m4 aBF h2
 have pa:True:=trivial
 have A1:PT X (.Call (.Name "isinstance" p1) [.Name n q1,.Name y1 r1] [] s1) (fun σ H Q=>σ[i]? = some (some (.ref a))∧Q true H):=aFD (vy:=.ref C) hp hc T rfl k1 (fun _ z=>z) (hn q1) (aGi g1 m1 rfl b1) call
 have A2:PT X (.Call (.Name "isinstance" p2) [.Name n q2,.Name y2 r2] [] s2) (fun σ H Q=>σ[i]? = some (some (.ref a))∧Q false H):=aFD (vy:=.ref Nn) hp hc T rfl k2 (fun _ z=>z) (hn q2) (aGi g2 m2 rfl b2) call
 have A3:PT X (.Call (.Name "isinstance" p3) [.Name n q3,.Name "ValueError" r3] [] s3) (fun σ H Q=>σ[i]? = some (some (.ref a))∧Q true H):=aFD (vy:=.ty "ValueError") hp hc T rfl k3 (fun _ z=>z) (hn q3) (aKh g3 m3 aBj rfl) call
 have W:=(aFw A1 (aFw (aJn A2) (aF7 A3))).pt (X:=X) (e:=.BoolOp .And [.Call (.Name "isinstance" p1) [.Name n q1,.Name y1 r1] [] s1,.UnaryOp .Not (.Call (.Name "isinstance" p2) [.Name n q2,.Name y2 r2] [] s2) u,.Call (.Name "isinstance" p3) [.Name n q3,.Name "ValueError" r3] [] s3] pos)
 intro pins s σ H Q I q
 exact W pins s σ H Q I ⟨q.1,aEC ⟨q.1,aEC ⟨q.1,q.2⟩⟩⟩
end
abbrev GFX:=DS→(Str→Prop)→(List D→Prop)→Prop
def DAx (X:Cx) (EE:XK) (es:List Expr) (g:GFX):Prop:=∃ t,PA X es t∧∀ C0 H0 δ σ C H (xc:Str→Prop) (Q:List D→Prop) (R:List V→Hp→Prop),aGW X EE C0 H0 xc→gU X.K C0 H0 δ σ C H→g δ xc Q→(∀ ds vs C1 H1,Q ds→eN C H C1 H1→b9 X.K C1 vs ds→R vs H1)→t σ H R
section
variable {X:Cx}{EE:XK}{e:Expr}{es:List Expr}{pos:Pos}{ge:GE}{gx:GEX}{gs:GFX}
def uZ (ge:GE):GEX:=fun δ _ Q=>ge δ Q
theorem u7 (h:DE X e ge):DEx X EE e (uZ ge):=by
 obtain ⟨t,p,h⟩:=h
 exact ⟨t,p,fun C0 H0 δ σ C H xc Q R _ rp g k=>h C0 H0 δ σ C H Q R rp g k⟩
def aEw:GFX:=fun _ _ Q=>Q []
theorem aGd:DAx X EE [] aEw:=⟨_,gX,fun C0 H0 δ σ C H xc Q R te rp g k=>k [] [] C H g (eN.refl rp.ch) .nil⟩
def rC (gx:GEX) (gs:GFX):GFX:=fun δ xc Q=>gx δ xc fun d=>gs δ xc fun ds=>Q (d::ds)
theorem pY (ha:DEx X EE e gx) (hr:DAx X EE es gs) (hs:starEach (e::es) X.env=(false,eval e X.env)::starEach es X.env:=by rfl):DAx X EE (e::es) (rC gx gs):=by
 obtain ⟨t1,p1,h1⟩:=ha
 obtain ⟨t2,p2,h2⟩:=hr
 refine ⟨_,dO p1 p2 hs,fun C0 H0 δ σ C H xc Q R te rp g k=>h1 C0 H0 δ σ C H _ _ _ te rp g fun d v C1 H1 q e1 n1=>?_⟩
 exact h2 C0 H0 δ σ C1 H1 _ _ _ te (rp.grow e1) q fun ds vs C2 H2 q2 e2 n2=>k (d::ds) (v::vs) C2 H2 q2 (e1.trans e2) (.cons (n1.mono e2.cc) n2)
def wF (F:List D→Option D) (gs:GFX):GEX:=fun δ xc Q=>gs δ xc fun ds=>aBx (F ds) Q
theorem aCf {F:List D→Option D}{k:Nat}{x:Str}{p:Pos} (h:eV X.prog X.w X.K X.mg X.base k x F) (hr:cE k X.A) (hg:Gl X x) (ha:DAx X EE (e::es) gs) (hdb:(x == ("__debug__":Str))=false:=by decide)
  (he:starEach (e::es) X.env=(false,eval e X.env)::starEach es X.env:=by rfl) (hpl:(backTo pos (starEach es X.env)).any (·.1)=false:=by rfl):DEx X EE (.Call (.Name x p) (e::es) [] pos) (wF F gs):=by
 obtain ⟨f,fd,ps,Fk,hm,hk,hb⟩:=h
 obtain ⟨t,pa,h⟩:=ha
 refine ⟨_,zQ Fk hr hg hm hk hb .nil aJa pa hdb he hpl,fun C0 H0 δ σ C H xc Q R te rp g k=>h C0 H0 δ σ C H _ _ _ te rp g fun ds vs C1 H1 q e1 n1=>?_⟩
 cases e2:F ds with
 | none=>rw [e2] at q;exact q.elim
 | some d=>
  rw [e2] at q
  exact ⟨C1,ds,d,e1.ch,rp.tc.mono e1.cc,by rw [List.append_nil];exact n1,e2,fun v C' H' ex nv=>k d v C' H' q (e1.trans ex) nv⟩
end
structure aBO (X:Cx) (c P:Addr):Prop where
 code:X.env.code = .ref c
 hd:PySem.W.CodeHd X.base c P
 blt:X.base.BuiltinsAt X.mg P
abbrev uH (X:Cx) (q:Str) (params:Arguments) (body:Expr) (sc:Scope) (d:Addr) (ctv:Value):Obj:=PySem.W.kla_obj "<lambda>" q params body sc (pR X.env sc.names []) ((X.mg "__name__").getD .none) d ctv
def aMX (X:Cx) (pins:List (Addr×Obj)) (σ:St) (H:Hp) (q:Str) (params:Arguments) (body:Expr) (sc:Scope) (u:Value) (s':Shared):Prop:=
 ∃ (f d:Addr) (oc:Obj) (w:HO) (vs:Array Value) (t:Tok) (ctv:Value) (H':Hp),u = .ref f∧bI X (pins++[(f,uH X q params body sc d ctv)]) σ H' s'∧H' d=some (.frz oc w)∧oc.data = .fields vs∧vs[1]? = some (.str q t)∧(H'=H∨∃ o,H d=none∧H'=upd H d o)
theorem bI.addPin {X:Cx}{pins:List (Addr×Obj)}{σ:St}{H:Hp}{s:Shared}{f:Addr}{o:Obj} (I:bI X pins σ H s) (e:s.heap.get? f=some o) (n:H f=none) (ne:f≠X.env.locals) (nf:f∉X.fs) (nc:∀ v,o.data≠.cell v):bI X (pins++[(f,o)]) σ H s:=I.pins_of fun p hp=>by
 rcases List.mem_append.mp hp with hp | hp
 ·exact I.pin p (List.mem_append_right _ hp)
 ·rw [List.mem_singleton.mp hp]
  exact ⟨e,n,ne,nf,nc⟩
theorem aJV {X:Cx}{pins:List (Addr×Obj)}{σ:St}{H:Hp}{s:Shared}{params:Arguments}{body:Expr}{sc:Scope}{lpos:Pos}{c P:Addr}{Q:Value→Shared→Prop}{E:Value→Shared→Prop} (L:aBO X c P)
  (hcl:∀ y∈sc.names,y.2 = .free→∃ c,X.env.cells.lookup y.1=some c) (hdef:defaultsOf params X.env=([],[])) (I:bI X pins σ H s) (hT:H P=some (.tab (rawInt lpos.line) (rawInt lpos.col) (X.env.qual++"<lambda>")))
  (h:∀ u s',aMX X pins σ H (X.env.qual++"<lambda>") params body sc u s'→Q u s'):wpAny (model X.prog X.w) X.A (eval (.Lambda params body sc lpos) X.env) Q E s:=by
 refine PySem.W.kla_eval hdef ?_
 obtain ⟨ps,e,z⟩:=I.hok P _ hT
 have hgl:s.heap.Ns mainGlobals X.mg:=I.mod.glob.keeps I.bk
 have hb:s.heap.BuiltinsAt X.mg P:=by
  obtain ⟨bm,ob,b1,b2,b3,b4,b5,b6⟩:=L.blt
  exact ⟨bm,ob,b1,b2,b3,b4,I.bk _ _ b5,b6⟩
 have gP:mainGlobals≠P:=fun q=>by
  obtain ⟨o,es,ep,eo,_⟩:=I.mod.glob
  have:=(I.bs _ _ eo).2
  rw [q,hT] at this
  cases this
 rcases z with rfl | ⟨d,oc,w,vs,t,rfl,hd,hv,hq⟩
 ·refine PySem.W.kla_makeFunction (ps:=#[]) (kB hcl) I.ok.glob hgl L.code (L.hd.keeps I.bk) e trivial rfl gP hb fun c' ctv h' tk hx hge hlt hrec htb=>?_
  obtain ⟨c2,oc,vs,t,e2,hoc,hdt,hv⟩:=hrec
  cases e2
  have hfr:H c'=none:=I.hok.fresh hge
  generalize hF:PySem.W.kla_obj "<lambda>" (X.env.qual++"<lambda>") params body sc (pR X.env sc.names []) ((X.mg "__name__").getD .none) c' ctv=F
  have kb:∀ b o,b≠P→s.heap.get? b=some o→(h'.push F).get? b=some o:=fun b o hb e=>Heap.get?_push_of_some _ (hx b o hb e)
  have nP:∀ b,H b=none→b≠P:=fun b n z=>by rw [z,hT] at n;cases n
  have un:Un X.fs [] H (upd H c' (.frz oc (.own c'))) s.heap (h'.push F):=
   ⟨fun b o e n _ _=>kb b o (nP b n) e,fun b o e n _ _=>⟨o.slots,kb b o (nP b n) e⟩,fun b o e n _=>by rw [aZ (Nat.ne_of_lt (Nat.lt_of_lt_of_le (Heap.lt_size e) hge))];exact n,
    fun b o e _=>by
     by_cases hb:b=P
     ·subst hb;exact ⟨_,Heap.get?_push_of_some _ htb⟩
     ·exact ⟨o,kb b o hb e⟩,
    fun b xs e=>by rw [aZ (bQ e hfr)];exact e,fun b o u e=>by rw [aZ (bQ e hfr)];exact e,fun b ps e=>⟨#[],by rw [aZ (bQ e hfr),e];simp⟩⟩
  have hok':sW X.prog X.w (upd H c' (.frz oc (.own c'))) (h'.push F):=fun b u q=>by
   by_cases hb:b=c'
   ·subst hb
    rw [bR] at q
    cases q
    exact ⟨Heap.get?_push_of_some _ hoc,oc,Heap.get?_push_of_some _ hoc⟩
   ·rw [aZ hb] at q
    by_cases hP:b=P
    ·subst hP
     rw [hT] at q
     cases q
     exact ⟨_,Heap.get?_push_of_some _ htb,.inr ⟨c',oc,.own c',vs,t,by simp,bR,hdt,hv⟩⟩
    ·refine (I.hok b u q).stay (fun b2 o2 hb2 e2=>kb b2 o2 (fun z=>?_) e2) (fun b2 q2=>by rw [aZ (bQ q2 hfr)];exact q2) (fun b2 xs q2=>by rw [aZ (bQ q2 hfr)];exact q2) fun b2 o2 u2 q2=>by rw [aZ (bQ q2 hfr)];exact q2
     rcases hb2 with hb2 | hb2
     ·exact hP (hb2 ▸ z)
     ·rw [z,hT] at hb2;cases hb2
  have J:=I.un (t':=tk) un hok'
  refine h _ _ ⟨h'.objs.size,c',oc,.own c',vs,t,ctv,upd H c' (.frz oc (.own c')),rfl,?_,bR,hdt,hv,.inr ⟨_,hfr,rfl⟩⟩
  have hsz:s.heap.objs.size≤h'.objs.size:=Nat.le_of_lt (Nat.lt_of_le_of_lt hge hlt)
  unfold uH
  rw [hF]
  refine J.addPin (Heap.get?_push_size _ (by rw [← hF];rfl)) ?_ (Nat.ne_of_gt (Nat.lt_of_lt_of_le I.lt hsz)) (I.nofs hsz) (fun v z=>?_)
  ·rw [aZ (Nat.ne_of_gt hlt)]
   exact I.hok.fresh hsz
  ·rw [← hF] at z
   cases z
 ·have hcA:codeAmong lpos (#[rawInt lpos.line,rawInt lpos.col,Value.ref d]:Array Value).toList=some (.ref d):=by
   simp [codeAmong,rawInt]
  refine PySem.W.kla_makeFunctionHit (ps:=#[rawInt lpos.line,rawInt lpos.col,.ref d]) (cv:=.ref d) (kB hcl) I.ok.glob hgl L.code (L.hd.keeps I.bk) e (by simp [TriplesOk,rawInt]) hcA hb fun ctv h' tk hk hsz=>?_
  generalize hF:({ cls:=.type "function",data:=.func (PySem.W.kla_fn "<lambda>" (X.env.qual++"<lambda>") params body sc (pR X.env sc.names []) ((X.mg "__name__").getD .none) (.ref d) ctv) }:Obj)=F
  have J:=I.kept (h':=h'.push F) (t':=tk) fun b u e=>Heap.get?_push_of_some _ (hk b u e)
  refine h _ _ ⟨h'.objs.size,d,oc,w,vs,t,ctv,H,rfl,?_,hd,hv,hq,.inl rfl⟩
  unfold uH PySem.W.kla_obj
  rw [hF]
  refine J.addPin (Heap.get?_push_size _ (by rw [← hF];rfl)) (I.hok.fresh hsz) (Nat.ne_of_gt (Nat.lt_of_lt_of_le I.lt hsz)) (I.nofs hsz) (fun v z=>?_)
  rw [← hF] at z
  cases z
abbrev aCX (X:Cx) (q:Str) (sc:Scope) (L f d:Addr):Env:=PySem.W.envX q sc L f (.ref d) (pR X.env sc.names [])
def cxL (X:Cx) (q:Str) (sc:Scope) (Nc:List Str) (L f d:Addr) (pins:List (Addr×Obj)) (s3:Shared) (H3:Hp):Cx:=
 { X with N:=Nc,A:=X.A.in1.deeper (aCX X q sc L f d),s₀:=s3,H₀:=H3,env:=aCX X q sc L f d,outer:=X.stack,stack:=aCX X q sc L f d::X.stack,ex:=[],fn:=fun _=>false,pn:=X.pn++pins,xe:=fun _ _=>False }
section
variable {X:Cx}{q:Str}{sc:Scope}{Nc:List Str}{fr:List (Option Nat)}{pins:List (Addr×Obj)}{σ:St}{H:Hp}{s:Shared}{f d:Addr}{x0:Str}{v:V}{u:Value}
theorem aG3 (ok:oJ X.env.scope sc X.N Nc fr) (f0:fr[0]? = some none) (n0:Nc[0]? = some x0) (l0:sc.names.lookup x0=some .local) (nc:∀ x∈sc.names,x.2≠.cell) (I:bI X pins σ H s) (rv:dD v u) {h1:Heap}{t':Nat}
  (hn:h1.Ns s.heap.objs.size (fun y=>[(x0,u)].reverse.lookup y)) (up:∀ b o,s.heap.get? b=some o→h1.get? b=some o) :
  bI (cxL X q sc Nc s.heap.objs.size f d pins s H) [] ((σc fr σ).set 0 (some v)) H { s with heap:=h1,toks:=t' }:=by
 have hcell:=lZ ok I
 have stk:∀ b,b∈frs X.stack→b∈X.env.locals::X.fs:=I.stkSub
 have noA:∀ b:Addr,b∉(cxL X q sc Nc s.heap.objs.size f d pins s H).ex:=fun b z=>absurd (show b∈([]:List Addr) from z) (by simp)
 refine ⟨⟨I.ok.mod,ok.kind,rfl,rfl,Nat.le_refl _,fun x y c h1 h2=>?_,fun x hx=>?_,fun x c h e=>absurd h (by intro z;cases z),I.ok.hd,Around.frames_deeper (show X.A.in1.frames=some X.stack from I.ok.frames),.inr ⟨rfl,rfl⟩,fun b z=>absurd z (noA b),I.bs,Nat.le_trans I.ok.bsz I.sz,fun b _ _=>noA b,fun b z=>absurd z (noA b),I.stack,I.stkFree⟩,
  rfl,I.bare,Un.kept up,⟨_,hn,fun i x v' e1 e2 e3=>?_⟩,fun x c e=>?_,I.hok.fresh (Nat.le_refl _),fun x c e=>?_,fun p hp=>?_,I.hok.kept up,?_⟩
 ·exact I.ok.inj x y c (lD hcell h1).2 (lD hcell h2).2
 ·have hx':sc.names.lookup x=some .cell∨sc.names.lookup x=some .free:=hx
  rcases hx' with z | z
  ·exact absurd rfl (nc _ (PySem.mem_of_lookup z))
  ·have hm:(x,NameKind.free)∈sc.names:=PySem.mem_of_lookup z
   obtain ⟨c,e⟩:=hcell _ hm rfl
   exact ⟨c,zL hm e⟩
 ·by_cases hi:i=0
  ·subst hi
   have ex:x0=x:=by
    have e1':Nc[0]? = some x:=e1
    rw [n0] at e1'
    exact Option.some.inj e1'
   subst ex
   have el:0<(σc fr σ).length:=by
    unfold σc
    rw [List.length_map]
    exact (List.getElem?_eq_some_iff.mp f0).1
   have e2':((σc fr σ).set 0 (some v))[0]? = some (some v'):=e2
   rw [List.getElem?_set_self el] at e2'
   cases e2'
   exact ⟨u,rv,.inl ⟨l0,by simp [List.lookup]⟩⟩
  ·have e2':(σc fr σ)[i]? = some (some v'):=by
    have e2'':((σc fr σ).set 0 (some v))[i]? = some (some v'):=e2
    rwa [List.getElem?_set_ne (by omega)] at e2''
   unfold σc at e2'
   rw [List.getElem?_map] at e2'
   cases ef:fr[i]? with
   | none=>rw [ef] at e2';cases e2'
   | some o=>
    rw [ef] at e2'
    cases o with
    | none=>cases e2'
    | some j=>
     obtain ⟨y,a1,a2,a3⟩:=ok.frs i j ef
     have a1':(cxL X q sc Nc s.heap.objs.size f d pins s H).N[i]? = some y:=a1
     rw [a1'] at e1
     obtain rfl:y=x:=Option.some.inj e1
     have ej:σ[j]? = some (some v'):=by
      have e2'':(σ[j]?).bind id=some v':=Option.some.inj e2'
      cases es:σ[j]? with
      | none=>rw [es] at e2'';cases e2''
      | some z=>rw [es] at e2'';cases z with
       | none=>cases e2''
       | some z'=>exact congrArg some e2''
     have hm:(y,NameKind.free)∈sc.names:=PySem.mem_of_lookup a3
     have kc:=ok.fre _ hm rfl
     obtain ⟨m,hn',hl⟩:=I.loc
     obtain ⟨u',r,l⟩:=hl j y v' a2 ej (.inr kc)
     refine ⟨u',r,.inr ?_⟩
     rcases l with ⟨k,_⟩ | ⟨k,c,e,z⟩
     ·exfalso
      have k':X.env.scope.names.lookup y=some .local:=k
      rcases kc with q | q <;> (rw [q] at k';cases k')
     ·refine ⟨.inr a3,c,zL hm e,?_⟩
      obtain ⟨oc,ho,hd⟩:=z
      exact ⟨oc,up _ _ ho,hd⟩
 ·obtain ⟨v2,oc,ho,hd⟩:=I.cell x c (lD hcell e).2
  exact ⟨v2,oc,up _ _ ho,hd⟩
 ·exact I.freeC x c (lD hcell e).2
 ·have hp':p∈X.pn++pins:=by
   rcases List.mem_append.mp hp with z | z
   ·exact z
   ·exact absurd z (by simp)
  obtain ⟨e,n,ne,nf,dd⟩:=I.pin p hp'
  refine ⟨up _ _ e,n,Nat.ne_of_lt (Heap.lt_size e),fun z=>?_,dd⟩
  rcases List.mem_cons.mp (stk _ z) with z | z
  ·exact ne z
  ·exact nf z
 ·rw [List.length_set]
  unfold σc
  rw [List.length_map]
  exact ok.len
theorem aJ5 {params:Arguments}{body:Expr}{ctv:Value}{oc:Obj}{w:HO}{vs:Array Value}{t:Tok}{te:TE}{Q:VK} (ok:oJ X.env.scope sc X.N Nc fr) (f0:fr[0]? = some none) (n0:Nc[0]? = some x0) (l0:sc.names.lookup x0=some .local) (nc:∀ x∈sc.names,x.2≠.cell)
  (hco:sc.isCoroutine=false) (hgen:sc.isGenerator=false) (hbind:∀ (pm cdv ct:Value) (cl:List (Str×Addr)),bindArgs (PySem.W.kla_fn "<lambda>" q params body sc cl pm cdv ct) ⟨[u],[]⟩=pure [(x0,u)]) (hroom:X.A.depth<recursionLimit)
  (hb:∀ L f d pins s3 H3,PE (cxL X q sc Nc L f d pins s3 H3) body te) (I:bI X pins σ H s) (hp:(f,uH X q params body sc d ctv)∈X.pn++pins) (hd:H d=some (.frz oc w)) (hv:oc.data = .fields vs) (hq:vs[1]? = some (.str q t))
  (rv:dD v u) (ht:te ((σc fr σ).set 0 (some v)) H Q):wpAny (model X.prog X.w) X.A.in1 (call (.ref f) [u]) (EP X pins σ Q) (fun _ _=>False) s:=by
 refine wpAny_call ?_
 refine PySem.W.kla_callFunE (show X.A.in1.depth<recursionLimit from hroom) (I.pin _ hp).1 rfl hco hgen rfl ⟨d,oc,vs,t,rfl,(I.hok d _ hd).1,hv,hq⟩ ?_
 rw [hbind]
 refine wpAny_pure (wpAny_newFunctionEnv nc (fun y hy=>by rw [List.mem_singleton.mp hy];exact l0) (fun h₁ hns hsb=>⟨I.nolimit.fresh _ hsb,?_⟩) ok.kind)
 have up:∀ b o,s.heap.get? b=some o→h₁.get? b=some o:=fun b o e=>hsb.extBut b o (Nat.ne_of_lt (Heap.lt_size e)) (Heap.get?_push_of_some _ e)
 have J:=aG3 (q:=q) (f:=f) (d:=d) ok f0 n0 l0 nc I rv (t':=s.toks+[(x0,u)].length) hns up
 show codeAny _ _ (.expr body (aCX X q sc s.heap.objs.size f d)) _ _
 refine PySem.W.kla_codeExpr (wpAny_mono (hb s.heap.objs.size f d pins s H [] _ _ H Q J ht) (fun r s' hr=>?_) fun _ _ z=>z.elim)
 obtain ⟨v',H',J',rv',qv⟩:=hr
 exact ⟨v',H',I.call' (ch:=[]) J'.os J'.base J'.hok J'.bare (fun b z=>absurd z (by simp)),rv',qv⟩
end
structure aGY (X:Cx) (pins:List (Addr×Obj)) (σ:St) (q:Str) (params:Arguments) (body:Expr) (sc:Scope) (Nc:List Str) (fr:List (Option Nat)) (x0:Str) (f d:Addr) (ctv:Value) (oc:Obj) (w:HO) (vs:Array Value) (t:Tok) (te:TE) (l:Addr) (xs:List V) (kf:Nat→Int) (W:Hp→Prop):Prop where
 ok:oJ X.env.scope sc X.N Nc fr
 f0:fr[0]? = some none
 n0:Nc[0]? = some x0
 l0:sc.names.lookup x0=some .local
 nc:∀ x∈sc.names,x.2≠.cell
 co:sc.isCoroutine=false
 gen:sc.isGenerator=false
 bind:∀ (u pm cdv ct:Value) (cl:List (Str×Addr)),bindArgs (PySem.W.kla_fn "<lambda>" q params body sc cl pm cdv ct) ⟨[u],[]⟩=pure [(x0,u)]
 room:X.A.depth<recursionLimit
 bd:∀ L f d pins s3 H3,PE (cxL X q sc Nc L f d pins s3 H3) body te
 pin:(f,uH X q params body sc d ctv)∈X.pn++pins
 dt:oc.data = .fields vs
 nm:vs[1]? = some (.str q t)
 wS:∀ H,W H→kS X.K H l xs
 wD:∀ H,W H→H d=some (.frz oc w)
 wT:∀ H i x,W H→xs[i]? = some x→te ((σc fr σ).set 0 (some x)) H fun y H'=>y = .int (kf i)∧W H'
section
variable {X:Cx}{pins:List (Addr×Obj)}{σ:St}{q:Str}{params:Arguments}{body:Expr}{sc:Scope}{Nc:List Str}{fr:List (Option Nat)}{x0:Str}{f d:Addr}{ctv:Value}{oc:Obj}{w:HO}{vs:Array Value}{t:Tok}{te:TE}{l:Addr}{xs:List V}{kf:Nat→Int}{W:Hp→Prop}
theorem aEg (K:aGY X pins σ q params body sc Nc fr x0 f d ctv oc w vs t te l xs kf W) {H:Hp}{s:Shared}{more:List (Addr×Obj)} (I:bI X (pins++more) σ H s) (hW:W H) {i:Nat}{x:V}{u:Value} (hx:xs[i]? = some x) (ru:dD x u) {Q:Value→Shared→Prop}
  (h:∀ t2 H2 s2,bI X (pins++more) σ H2 s2→W H2→Q (.int (kf i) t2) s2):wpAny (model X.prog X.w) X.A.in1 (call (.ref f) [u]) Q (fun _ _=>False) s:=by
 have hp:(f,uH X q params body sc d ctv)∈X.pn++(pins++more):=by
  rcases List.mem_append.mp K.pin with z | z
  ·exact List.mem_append_left _ z
  ·exact List.mem_append_right _ (List.mem_append_left _ z)
 refine wpAny_mono (aJ5 (q:=q) K.ok K.f0 K.n0 K.l0 K.nc K.co K.gen (K.bind u) K.room K.bd I hp (K.wD H hW) K.dt K.nm ru (K.wT H i x hW hx)) (fun r s' he=>?_) fun _ _ z=>z
 obtain ⟨y,H2,I2,ry,rfl,w2⟩:=he
 obtain ⟨t2,rfl⟩:=ry
 exact h t2 H2 s' I2 w2
theorem aJG (K:aGY X pins σ q params body sc Nc fr x0 f d ctv oc w vs t te l xs kf W) (hh:X.A.handled=none) {S I:Addr} (hSI:S≠I) {Q:VK}
  (wQ:∀ H i x,W H→xs[i]? = some x→(∀ j,j<xs.length→kf i≤kf j∧(j<i→kf i<kf j))→Q x H) :
  ∀ (r j i:Nat) (s:Shared) (H:Hp) (vb:Value) (tb:Tok) (c:Nat) (xb:V),xs.length-(j+1)=r→j+1≤xs.length→bI X pins σ H s→W H→s.heap.get? S=some (seqObj "list" #[vb,.int (kf i) tb] c)→s.heap.IsTupleIter I l (j+1)→oQ X pins H S→oQ X pins H I →
   xs[i]? = some xb→dD xb vb→i≤j→(∀ j',j'≤j→kf i≤kf j'∧(j'<i→kf i<kf j')) →
   codeAny (model X.prog X.w) X.A (.builtin "min.loop" ⟨[.ref I,.ref f,.ref S],[]⟩) (fun r s'=>match r with
    | .ok (.ret u)=>EP X pins σ Q u s'
    | _=>False) s:=by
 have hname:(toString "min"++toString ".loop":String)="min.loop":=by decide
 intro r
 induction r with
 | zero=>
  intro j i s H vb tb c xb hr hj I0 hW hS hit fS fI hxb rb hij hbest
  have hin:j+1=xs.length:=by omega
  obtain ⟨its,rv,p,hz⟩:=I0.tuple (K.wS H hW)
  have hl:=rv.length
  refine codeAny_builtin PySem.F.entry_min_loop ?_
  rw [Around.under_plainId PySem.F.plain_min_loop _]
  show wpAny _ X.A.in1 (seqItems? (.ref S) >>= _) _ _ _
  refine wpAny_bind (wpAny_seqItems hS rfl ?_)
  show wpAny _ X.A.in1 (tryCatch (pyNext (.ref I)) _ >>= _) _ _ _
  refine wpAny_bind (wpAny_tryCatch (wpAny_pyNext_tuple_end hh hit (show s.heap.IsTuple l its.toArray from p) (by simp;omega) fun h' eb=>?_))
  have I1:bI X pins σ H { s with heap:=h' }:=I0.turned (t':=s.toks) (fun b o hb e=>eb b o hb e) fI.1 fI.2.1 fI.2.2.2.1 fI.2.2.2.2.1 fI.2.2.2.2.2
  have hS':=eb S _ hSI hS
  have s1:=Heap.SameBut.update h' S (Obj.mapSeq fun _=>(#[]:Array Value))
  show wpAny _ X.A.in1 (updateSeq S (fun _=>#[]) >>= _) _ _ _
  refine wpAny_bind ?_
  refine wpAny_updateSeq hS' rfl (wpAny_bind (wpAny_letGo (wpAny_pure ?_)))
  have I2:=I1.turned (t':=s.toks) (h':=h'.update S (Obj.mapSeq fun _=>(#[]:Array Value))) (fun b o hb e=>(s1.2 b hb).trans e) fS.1 fS.2.1 fS.2.2.2.1 fS.2.2.2.2.1 fS.2.2.2.2.2
  exact ⟨xb,H,I2,rb,wQ H i xb hW hxb fun j' hj'=>hbest j' (by omega)⟩
 | succ r ih=>
  intro j i s H vb tb c xb hr hj I0 hW hS hit fS fI hxb rb hij hbest
  have hlt:j+1<xs.length:=by omega
  obtain ⟨its,rv,p,hz⟩:=I0.tuple (K.wS H hW)
  have hl:=rv.length
  have hx:xs[j+1]? = some xs[j+1]:=List.getElem?_eq_getElem hlt
  generalize xs[j+1]=x at hx
  obtain ⟨v,hv,ru⟩:=rv.get hx
  refine codeAny_builtin PySem.F.entry_min_loop ?_
  rw [Around.under_plainId PySem.F.plain_min_loop _]
  show wpAny _ X.A.in1 (seqItems? (.ref S) >>= _) _ _ _
  refine wpAny_bind (wpAny_seqItems hS rfl ?_)
  show wpAny _ X.A.in1 (tryCatch (pyNext (.ref I)) _ >>= _) _ _ _
  refine wpAny_bind (wpAny_tryCatch (wpAny_pyNext_tuple_item hit (show s.heap.IsTuple l its.toArray from p) (x:=v) (by simpa using hv) fun h' hit' sb=>?_))
  have I1:bI X pins σ H { s with heap:=h' }:=I0.turned (t':=s.toks) (fun b o hb e=>(sb.2 b hb).trans e) fI.1 fI.2.1 fI.2.2.2.1 fI.2.2.2.2.1 fI.2.2.2.2.2
  have hS1:h'.get? S=some (seqObj "list" #[vb,.int (kf i) tb] c):=(sb.2 S hSI).trans hS
  obtain ⟨oI,hoI,hoc,hod⟩:=id hit'
  have I2:=(I1.addPin (f:=S) (o:=seqObj "list" #[vb,.int (kf i) tb] c) hS1 fS.1 fS.2.1 fS.2.2.1 (fun v z=>by cases z)).addPin (f:=I) (o:=oI) hoI fI.1 fI.2.1 fI.2.2.1 (fun v z=>by rw [hod] at z;cases z)
  rw [List.append_assoc] at I2
  show wpAny _ X.A.in1 (tryCatch (holding [v] (call (.ref f) [v])) _ >>= _) _ _ _
  refine wpAny_bind (wpAny_tryCatch (wpAny_holding (wpAny_mono (aEg K I2 hW hx ru (Q:=fun u s2=>∃ t2 H2,u = .int (kf (j+1)) t2∧bI X (pins++([(S,seqObj "list" #[vb,.int (kf i) tb] c)]++[(I,oI)])) σ H2 s2∧W H2) fun t2 H2 s2 J hw=>⟨t2,H2,rfl,J,hw⟩) (fun x2 s2 he=>?_) fun _ _ hF=>hF.elim)))
  obtain ⟨t2,H2,rfl,J,w2⟩:=he
  have pS:=J.pin (S,seqObj "list" #[vb,.int (kf i) tb] c) (List.mem_append_right _ (List.mem_append_right _ (List.mem_append_left _ (List.mem_singleton.mpr rfl))))
  have pI:=J.pin (I,oI) (List.mem_append_right _ (List.mem_append_right _ (List.mem_append_right _ (List.mem_singleton.mpr rfl))))
  have J0:=J.unpinned
  have fS2:oQ X pins H2 S:=⟨pS.2.1,fS.2⟩
  have fI2:oQ X pins H2 I:=⟨pI.2.1,fI.2⟩
  have hit2:s2.heap.IsTupleIter I l (j+1+1):=⟨oI,pI.1,hoc,hod⟩
  show wpAny _ X.A.in1 (tryCatch (holding [v,.int (kf (j+1)) t2] (richCompare .Lt (.int (kf (j+1)) t2) (.int (kf i) tb) >>= _)) _ >>= _) _ _ _
  refine wpAny_bind (wpAny_tryCatch (wpAny_holding (wpAny_bind (CmpOf.ints_lt (prog:=X.prog) (w:=X.w) (A:=X.A.in1) (P:=fun i v=>∃ t,v = .int (kf i) t) kf (fun i v h=>h) (j+1) i _ _ _ _ _ ⟨t2,rfl⟩ ⟨tb,rfl⟩ ?_))))
  refine wpAny_bind (wpAny_holding (wpAny_truthy_bool ?_))
  refine wpAny_bind (wpAny_letGo (wpAny_pure ?_))
  by_cases hb':kf (j+1)<kf i
  ·have s1:=Heap.SameBut.update s2.heap S (Obj.mapSeq fun _=>#[v,.int (kf (j+1)) t2])
   obtain ⟨c2,hc2⟩:∃ c2,(s2.heap.update S (Obj.mapSeq fun _=>#[v,.int (kf (j+1)) t2])).get? S=some (seqObj "list" #[v,.int (kf (j+1)) t2] c2):=⟨_,get?_update_seq pS.1 fun _=>#[v,.int (kf (j+1)) t2]⟩
   simp only [hb',decide_true,if_true]
   refine wpAny_bind ?_
   refine wpAny_updateSeq pS.1 rfl (wpAny_bind (wpAny_letGo ?_))
   rw [hname]
   have J1:=J0.turned (t':=s2.toks) (h':=s2.heap.update S (Obj.mapSeq fun _=>#[v,.int (kf (j+1)) t2])) (fun b o hb e=>(s1.2 b hb).trans e) fS2.1 fS2.2.1 fS2.2.2.2.1 fS2.2.2.2.2.1 fS2.2.2.2.2.2
   refine wpAny_pure ⟨plainId_quiet PySem.F.plain_min_loop _,ih (j+1) (j+1) _ H2 v t2 c2 x (by omega) hlt J1 w2 hc2 ⟨oI,(s1.2 I hSI.symm).trans pI.1,hoc,hod⟩ fS2 fI2 hx ru (Nat.le_refl _) fun j' hj'=>?_⟩
   by_cases e:j'=j+1
   ·subst e
    exact ⟨Int.le_refl _,fun z=>absurd z (Nat.lt_irrefl _)⟩
   ·have hb1:=hbest j' (by omega)
    have hb2:=hb1.1
    exact ⟨by omega,fun _=>by omega⟩
  ·simp only [hb',decide_false,Bool.false_eq_true,if_false]
   refine wpAny_bind (wpAny_letGo ?_)
   rw [hname]
   refine wpAny_pure ⟨plainId_quiet PySem.F.plain_min_loop _,ih (j+1) i s2 H2 vb tb c xb (by omega) hlt J0 w2 pS.1 hit2 fS2 fI2 hxb rb (by omega) fun j' hj'=>?_⟩
   by_cases e:j'=j+1
   ·subst e
    exact ⟨by omega,fun _=>by omega⟩
   ·exact hbest j' (by omega)
theorem aKC (K:aGY X pins σ q params body sc Nc fr x0 f d ctv oc w vs t te l xs kf W) (hh:X.A.handled=none) {Q:VK}{H:Hp}{s:Shared}{E:Value→Shared→Prop} (I0:bI X pins σ H s) (hW:W H) (hne:0<xs.length)
  (wQ:∀ H i x,W H→xs[i]? = some x→(∀ j,j<xs.length→kf i≤kf j∧(j<i→kf i<kf j))→Q x H) :
  wpAny (model X.prog X.w) X.A (call (.builtin "min") [.ref l] [(Str.ofString "key",.ref f)]) (EP X pins σ Q) E s:=by
 have hname:(toString "min"++toString ".loop":String)="min.loop":=by decide
 obtain ⟨its,rv,p,hz⟩:=I0.tuple (K.wS H hW)
 have hl:=rv.length
 have ht:s.heap.IsTuple l its.toArray:=p
 have hx:xs[0]? = some xs[0]:=List.getElem?_eq_getElem hne
 generalize xs[0]=x at hx
 obtain ⟨v,hv,ru⟩:=rv.get hx
 refine kmk_tree PySem.F.kind_min PySem.F.plain_min PySem.F.entry_min (kmk_min_key _ _) ?_
 show wpAny _ X.A.in1 (Builtin.Builtins.bindParams "min" ["key","default"] 0 ⟨[],[(Str.ofString "key",.ref f)]⟩ >>= _) _ _ s
 refine wpAny_bind (wpAny_of_eq (show Builtin.Builtins.bindParams "min" ["key","default"] 0 ⟨[],[(Str.ofString "key",.ref f)]⟩=pure [some (.ref f),none] from rfl) ?_)
 refine wpAny_bind (wpAny_pure ?_)
 refine wpAny_bind (wpAny_pyIter_tuple ht ?_)
 refine wpAny_bind (wpAny_newList ?_ (Nat.zero_le _))
 rw [hname]
 generalize hS0:(s.heap.push { cls:=.type "tuple_iterator",data:=.fields #[.ref l,.int 0 0] })=g1
 have hsz1:g1.objs.size=s.heap.objs.size+1:=by rw [← hS0];exact size_push' ..
 have gI1:g1.get? s.heap.objs.size=some { cls:=.type "tuple_iterator",data:=.fields #[.ref l,.int 0 0] }:=by rw [← hS0];exact Heap.get?_push_size _ rfl
 have k1:∀ b o,s.heap.get? b=some o→g1.get? b=some o:=fun b o e=>by rw [← hS0];exact Heap.get?_push_of_some _ e
 have hSI:g1.objs.size≠s.heap.objs.size:=by omega
 have k2:∀ b o,s.heap.get? b=some o→(g1.push (seqObj "list" #[] 0)).get? b=some o:=fun b o e=>Heap.get?_push_of_some _ (k1 b o e)
 have gI:(g1.push (seqObj "list" #[] 0)).get? s.heap.objs.size=some { cls:=.type "tuple_iterator",data:=.fields #[.ref l,.int 0 0] }:=Heap.get?_push_of_some _ gI1
 have gS:(g1.push (seqObj "list" #[] 0)).get? g1.objs.size=some (seqObj "list" #[] 0):=Heap.get?_push_size _ rfl
 have I1:bI X pins σ H { s with heap:=g1.push (seqObj "list" #[] 0) }:=I0.kept (t':=s.toks) k2
 have fI:oQ X pins H s.heap.objs.size:=I0.fpOk (Nat.le_refl _) I0.fresh
 have fS:oQ X pins H g1.objs.size:=I0.fpOk (by omega) (I0.hok.fresh (by omega))
 refine wpAny_pure ⟨plainId_quiet PySem.F.plain_min_loop _,?_⟩
 refine codeAny_builtin PySem.F.entry_min_loop ?_
 rw [Around.under_plainId PySem.F.plain_min_loop _]
 show wpAny _ X.A.in1 (seqItems? (.ref g1.objs.size) >>= _) _ _ _
 refine wpAny_bind (wpAny_seqItems gS rfl ?_)
 show wpAny _ X.A.in1 (tryCatch (pyNext (.ref s.heap.objs.size)) _ >>= _) _ _ _
 have p1:(g1.push (seqObj "list" #[] 0)).IsTuple l its.toArray:=by
  obtain ⟨o,e,r⟩:=ht
  exact ⟨o,k2 _ _ e,r⟩
 refine wpAny_bind (wpAny_tryCatch (wpAny_pyNext_tuple_item (s:={ s with heap:=g1.push (seqObj "list" #[] 0) }) (it:=s.heap.objs.size) (t:=l) (i:=0) ⟨_,gI,rfl,rfl⟩ p1 (x:=v) (by simpa using hv) fun h' hit' sb=>?_))
 have I2:bI X pins σ H { s with heap:=h' }:=I1.turned (t':=s.toks) (fun b o hb e=>(sb.2 b hb).trans e) fI.1 fI.2.1 fI.2.2.2.1 fI.2.2.2.2.1 fI.2.2.2.2.2
 have hS1:h'.get? g1.objs.size=some (seqObj "list" #[] 0):=(sb.2 _ hSI).trans gS
 obtain ⟨oI,hoI,hoc,hod⟩:=id hit'
 have I3:=(I2.addPin (f:=g1.objs.size) (o:=seqObj "list" #[] 0) hS1 fS.1 fS.2.1 fS.2.2.1 (fun v z=>by cases z)).addPin (f:=s.heap.objs.size) (o:=oI) hoI fI.1 fI.2.1 fI.2.2.1 (fun v z=>by rw [hod] at z;cases z)
 rw [List.append_assoc] at I3
 show wpAny _ X.A.in1 (tryCatch (holding [v] (call (.ref f) [v])) _ >>= _) _ _ _
 refine wpAny_bind (wpAny_tryCatch (wpAny_holding (wpAny_mono (aEg K I3 hW hx ru (Q:=fun u s2=>∃ t2 H2,u = .int (kf 0) t2∧bI X (pins++([(g1.objs.size,seqObj "list" #[] 0)]++[(s.heap.objs.size,oI)])) σ H2 s2∧W H2) fun t2 H2 s2 J hw=>⟨t2,H2,rfl,J,hw⟩) (fun x2 s2 he=>?_) fun _ _ hF=>hF.elim)))
 obtain ⟨t2,H2,rfl,J,w2⟩:=he
 have pS:=J.pin (g1.objs.size,seqObj "list" #[] 0) (List.mem_append_right _ (List.mem_append_right _ (List.mem_append_left _ (List.mem_singleton.mpr rfl))))
 have pI:=J.pin (s.heap.objs.size,oI) (List.mem_append_right _ (List.mem_append_right _ (List.mem_append_right _ (List.mem_singleton.mpr rfl))))
 have J0:=J.unpinned
 have fS2:oQ X pins H2 g1.objs.size:=⟨pS.2.1,fS.2⟩
 have fI2:oQ X pins H2 s.heap.objs.size:=⟨pI.2.1,fI.2⟩
 have s1:=Heap.SameBut.update s2.heap g1.objs.size (Obj.mapSeq fun _=>#[v,.int (kf 0) t2])
 obtain ⟨c2,hc2⟩:∃ c2,(s2.heap.update g1.objs.size (Obj.mapSeq fun _=>#[v,.int (kf 0) t2])).get? g1.objs.size=some (seqObj "list" #[v,.int (kf 0) t2] c2):=⟨_,get?_update_seq pS.1 fun _=>#[v,.int (kf 0) t2]⟩
 show wpAny _ X.A.in1 (updateSeq g1.objs.size (fun _=>#[v,.int (kf 0) t2]) >>= _) _ _ _
 refine wpAny_bind ?_
 refine wpAny_updateSeq pS.1 rfl ?_
 rw [hname]
 have J1:=J0.turned (t':=s2.toks) (h':=s2.heap.update g1.objs.size (Obj.mapSeq fun _=>#[v,.int (kf 0) t2])) (fun b o hb e=>(s1.2 b hb).trans e) fS2.1 fS2.2.1 fS2.2.2.2.1 fS2.2.2.2.2.1 fS2.2.2.2.2.2
 refine wpAny_pure ⟨plainId_quiet PySem.F.plain_min_loop _,codeAny_mono (aJG K hh hSI wQ _ 0 0 _ H2 v t2 c2 x rfl (by omega) J1 w2 hc2 ⟨oI,(s1.2 _ hSI.symm).trans pI.1,hoc,hod⟩ fS2 fI2 hx ru (Nat.le_refl _) fun j' hj'=>?_) fun r s' hr=>?_⟩
 ·have e:j'=0:=by omega
  subst e
  exact ⟨Int.le_refl _,fun z=>absurd z (Nat.lt_irrefl _)⟩
 ·cases r with
  | error e=>exact hr.elim
  | ok fl=>cases fl <;> first | exact hr | exact hr.elim
end
theorem aCJ {α:Type}{l:List α}{i:Nat} (h:i<l.length) (d:α):l.getD i d=l[i]:=by
 rw [List.getD_eq_getElem?_getD,List.getElem?_eq_getElem h]
 rfl
def aCu (fr:List (Option Nat)) (ga gb:GE):GE:=fun δ Q=>ga δ fun d=>match d with
 | .tup ds=>ds≠[]∧∃ kf:D→Int,(∀ x∈ds,gb ((δc fr δ).set 0 (.im x)) fun y=>y = .int (kf x))∧∀ (i:Nat) x,ds[i]? = some x→(∀ (j:Nat) y,ds[j]? = some y→kf x≤kf y∧(j<i→kf x<kf y))→Q x
 | _=>False
def aNV (K:PySem.W.Frag) (P:Addr) (ln cl:Value) (nm:Str) (fr:List (Option Nat)) (tb:TE) (σ:St) (Q:VK) (v:V) (H1:Hp):Prop:=∃ l xs,v = .ref l∧0<xs.length∧H1 P=some (.tab ln cl nm) ∧
 ∀ d oc wo H2,(H2=H1∨∃ o,H1 d=none∧H2=upd H1 d o)→H2 d=some (.frz oc wo)→∃ (W:Hp→Prop) (kf:Nat→Int),W H2∧(∀ H,W H→kS K H l xs)∧(∀ H,W H→H d=some (.frz oc wo)) ∧
  (∀ H (i:Nat) x,W H→xs[i]? = some x→tb ((σc fr σ).set 0 (some x)) H fun y H'=>y = .int (kf i)∧W H')∧∀ H (i:Nat) x,W H→xs[i]? = some x→(∀ j,j<xs.length→kf i≤kf j∧(j<i→kf i<kf j))→Q x H
def aKQ (K:PySem.W.Frag) (P:Addr) (ln cl:Value) (nm:Str) (fr:List (Option Nat)) (t1 tb:TE):TE:=fun σ H Q=>t1 σ H (aNV K P ln cl nm fr tb σ Q)
def aLu (K:PySem.W.Frag) (P:Addr) (ln cl:Value) (nm:Str) (fr:List (Option Nat)) (tb:TE) (σ:St) (Q:VK) (vs:List V) (H1:Hp):Prop:=match vs with
 | [v]=>aNV K P ln cl nm fr tb σ Q v H1
 | _=>False
section
variable {X:Cx}{sc:Scope}{Nc:List Str}{fr:List (Option Nat)}{x0:Str}{params:Arguments}{body e:Expr}{lpos np kp pos:Pos}{c P:Addr}{t1 tb:TE}{ga gb:GE}
theorem aHT (hc:X.calm=true) (L:aBO X c P) (hg:Gl X "min") (hm:X.mg "min"=none) (ok:m8 X.env.scope sc X.N Nc fr=true) (f0:fr[0]? = some none) (n0:Nc[0]? = some x0) (l0:sc.names.lookup x0=some .local) (nc:∀ x∈sc.names,x.2≠.cell)
  (hco:sc.isCoroutine=false) (hgen:sc.isGenerator=false) (hbind:∀ (u pm cdv ct:Value) (cl:List (Str×Addr)),bindArgs (PySem.W.kla_fn "<lambda>" (X.env.qual++"<lambda>") params body sc cl pm cdv ct) ⟨[u],[]⟩=pure [(x0,u)]) (hdef:defaultsOf params X.env=([],[])) (hroom:X.A.depth<recursionLimit)
  (ha:PE X e t1) (hb:∀ L f d pins s3 H3,PE (cxL X (X.env.qual++"<lambda>") sc Nc L f d pins s3 H3) body tb) (hst:starEach [e] X.env=(false,eval e X.env)::starEach [] X.env:=by rfl)
  (he:backTo pos (starEach [e] X.env)=(false,eval e X.env)::backTo pos (starEach [] X.env)) (hpl:(backTo pos (starEach [e] X.env)).any (·.1)=false:=by rfl) (hv:bootBuiltins "min"=some (.builtin "min"):=by decide +kernel) :
  PE X (.Call (.Name "min" np) [e] [⟨some "key",.Lambda params body sc lpos,kp⟩] pos) (aKQ X.K P (rawInt lpos.line) (rawInt lpos.col) (X.env.qual++"<lambda>") fr t1 tb):=by
 intro pins s σ H Q I h
 have ok:=oJ.of ok
 refine wpAny_Call_Name_kw (rB I hg hm hv ?_ (by decide) (by decide))
 refine callWith_kw ?_ he hpl
 have pa:PA X [e] (aGq t1 aK9):=dO ha gX hst
 refine iA (pa pos pins s σ H (aLu X.K P (rawInt lpos.line) (rawInt lpos.col) (X.env.qual++"<lambda>") fr tb σ Q) I h) fun us s1 h1=>?_
 obtain ⟨vs,H1,I1,r1,q1⟩:=h1
 unfold aLu at q1
 split at q1
 ·rename_i v
  obtain ⟨l,xs,rfl,hne,hT,key⟩:=q1
  obtain ⟨u,us',rfl,hu,hr⟩:∃ u us',us=u::us'∧dD (.ref l) u∧us'=[]:=by
   cases us with
   | nil=>exact absurd r1.length (by simp)
   | cons u us'=>
    cases r1 with
    | cons a b=>exact ⟨u,us',rfl,a,by cases b;rfl⟩
  subst hr
  obtain rfl:u = .ref l:=hu
  refine kws_cons (aJV L (lZ ok I1) hdef I1 hT fun u2 s2 hl=>kws_nil ?_)
  obtain ⟨f,d,oc,w,vs,t,ctv,H2,rfl,I2,hd,hdt,hnm,hH⟩:=hl
  obtain ⟨W,kf,w0,wS,wD,wT,wQ⟩:=key d oc w H2 hH hd
  have KO:aGY X (pins++[(f,uH X (X.env.qual++"<lambda>") params body sc d ctv)]) σ (X.env.qual++"<lambda>") params body sc Nc fr x0 f d ctv oc w vs t tb l xs kf W:=
   ⟨ok,f0,n0,l0,nc,hco,hgen,hbind,hroom,hb,List.mem_append_right _ (List.mem_append_right _ (List.mem_singleton.mpr rfl)),hdt,hnm,wS,wD,wT⟩
  refine wpAny_mono (aKC KO (I1.ok.hd hc) I2 w0 hne wQ) (fun r s' hr=>?_) fun _ _ z=>z
  obtain ⟨v',H',J,rv',qv⟩:=hr
  exact ⟨v',H',J.unpinned,rv',qv⟩
 ·exact q1.elim
theorem aHh (hc:X.calm=true) (L:aBO X c P) (htab:aAQ X.K=some (P,rawInt lpos.line,rawInt lpos.col,X.env.qual++"<lambda>")) (hg:Gl X "min") (hm:X.mg "min"=none) (ok:m8 X.env.scope sc X.N Nc fr=true) (f0:fr[0]? = some none) (n0:Nc[0]? = some x0) (l0:sc.names.lookup x0=some .local) (nc:∀ x∈sc.names,x.2≠.cell)
  (hco:sc.isCoroutine=false) (hgen:sc.isGenerator=false) (hbind:∀ (u pm cdv ct:Value) (cl:List (Str×Addr)),bindArgs (PySem.W.kla_fn "<lambda>" (X.env.qual++"<lambda>") params body sc cl pm cdv ct) ⟨[u],[]⟩=pure [(x0,u)]) (hdef:defaultsOf params X.env=([],[])) (hroom:X.A.depth<recursionLimit)
  (ha:DE X e ga) (hb:∀ L f d pins s3 H3,DE (cxL X (X.env.qual++"<lambda>") sc Nc L f d pins s3 H3) body gb) (hst:starEach [e] X.env=(false,eval e X.env)::starEach [] X.env:=by rfl)
  (he:backTo pos (starEach [e] X.env)=(false,eval e X.env)::backTo pos (starEach [] X.env):=by rfl) (hpl:(backTo pos (starEach [e] X.env)).any (·.1)=false:=by rfl) :
  DE X (.Call (.Name "min" np) [e] [⟨some "key",.Lambda params body sc lpos,kp⟩] pos) (aCu fr ga gb):=by
 obtain ⟨t1,p1,h1⟩:=ha
 refine ⟨_,aHT (tb:=tDE X.K gb) hc L hg hm ok f0 n0 l0 nc hco hgen hbind hdef hroom p1 (fun L f d pins s3 H3=>(hb L f d pins s3 H3).can) hst he hpl,fun C0 H0 δ σ C H Q R rp g k=>h1 C0 H0 δ σ C H _ _ rp g fun dd v C1 H1 q e1 n1=>?_⟩
 cases dd with
 | tup ds=>
  obtain ⟨hne,kf,hk,hQ⟩:=q
  obtain ⟨p,xs,rfl,hsq,hd⟩:=bV.mp n1
  have hl:=hd.length
  have hlen:0<ds.length:=List.length_pos_iff.mpr hne
  refine ⟨p,xs,rfl,by omega,e1.ch _ _ ((rp.grow e1).tc _ _ _ _ htab),fun d oc wo H2 hH hf=>?_⟩
  have x2:eN C1 H1 C1 H2:=by
   rcases hH with rfl | ⟨o,hn,rfl⟩
   ·exact eN.refl e1.ch
   ·exact eN.newO e1.ch hn
  refine ⟨fun H'=>∃ C',eN C1 H2 C' H',fun i=>kf (ds.getD i .non),⟨C1,eN.refl x2.ch⟩,fun H' ⟨C',x⟩=>x.ch.seqT (x.cc.seqT hsq),fun H' ⟨C',x⟩=>x.hh _ _ hf,fun H' i x ⟨C',ex⟩ hx=>?_,fun H' i x ⟨C',ex⟩ hx hb=>?_⟩
  ·have hi:i<ds.length:=by
    have:=(List.getElem?_eq_some_iff.mp hx).1
    omega
   have ei:ds[i]? = some ds[i]:=List.getElem?_eq_getElem hi
   obtain ⟨x',ex',nx⟩:=hd.get ei
   rw [hx] at ex'
   cases ex'
   have rc:=(rp.comp fr ((e1.cc.trans x2.cc).trans ex.cc) ex.ch).setI (i:=0) (nx.mono ex.cc)
   refine ⟨C',H',_,C',fun y=>y = .int (kf ds[i]),rc,hk ds[i] (List.getElem_mem hi),fun y vv C2 H3 hy ey ny=>?_⟩
   subst hy
   show vv=V.int (kf (ds.getD i D.non))∧_
   rw [aCJ hi]
   exact ⟨bB.mp ny,C2,ex.trans ey⟩
  ·have hi:i<ds.length:=by
    have:=(List.getElem?_eq_some_iff.mp hx).1
    omega
   have ei:ds[i]? = some ds[i]:=List.getElem?_eq_getElem hi
   obtain ⟨x',ex',nx⟩:=hd.get ei
   rw [hx] at ex'
   cases ex'
   refine k ds[i] x C' H' (hQ i ds[i] ei fun j y ej=>?_) ((e1.trans x2).trans ex) (nx.mono ex.cc)
   obtain ⟨hj,rfl⟩:=List.getElem?_eq_some_iff.mp ej
   have hb2:kf (ds.getD i D.non)≤kf (ds.getD j D.non)∧(j<i→kf (ds.getD i D.non)<kf (ds.getD j D.non)):=hb j (by omega)
   rw [aCJ hi,aCJ hj] at hb2
   exact hb2
 | _=>exact q.elim
end
noncomputable def oO:GS:=(bE (nX (cO (bK yC (aF 3) (gC (.int 0)))) (bE (bS (bK w4 (aF 2) (aF 3)) (cU 4)) (bE (bS (aF 3) (cU 2)) (bS (aF 4) (cU 3))))) (dH (aF 2)))
noncomputable def oD:GS:=(bE (bS (bN aCA (aC (aF 1) aJ)) (cU 3)) oO)
noncomputable def jM:GS:=(bE (bS (bN aCA (aC (aF 0) aJ)) (cU 2)) oD)
noncomputable def sU:GS:=(dH (bK oLt (bK mY (bK fK (aF 0) (gC (.int 0))) (bK fK (aF 1) (gC (.int 1)))) (bK mY (bK fK (aF 1) (gC (.int 0))) (bK fK (aF 0) (gC (.int 1))))))
noncomputable def x8:GS:=(bE (fL (gIt (aF 0)) (cU 2) (bE (jW 3 (p8 aJ)) (bE (fL (gIl (aF 1)) (cU 4) (fL (kX (aF 2)) (cU 5) (vM 3 (bK j5 (aF 4) (dE (aC (aF 5) aJ)))))) (pM 3 (bS (aF 3) (cU 1)))))) (dH (bN eR (aC (aF 1) aJ))))
noncomputable def tG:GS:=(bE (bS (gF (p8 (aC (dE aJ) aJ))) (cU 1)) x8)
noncomputable def wB:GS:=(bE (fL (aJH (aF 0) (aF 1)) (qV 3 4) (bS (bK j5 (bK rQ (aF 2) (aF 4)) (aF 3)) (cU 2))) (dH (aF 2)))
noncomputable def rE:GS:=(bE (bS (gC (.int 0)) (cU 2)) wB)
noncomputable def pE:GS:=(dH (bK j5 (bK j5 (aEF (aF 0) aBE (tZ (aF 1))) (dE (aC (aF 2) aJ))) (aEF (aF 0) (tZ (bK j5 (aF 1) (gC (.int 1)))) aBE)))
noncomputable def rL:GS:=(bE (fL (m9 (aF 1)) (qV 3 4) (bS (gF (aCd (aF 2) (gF (hJ [none,some 3,some 0] (kX (aF 4)) (cU 0) (cO (bK yC (aF 0) (bK fK (aF 2) (aF 1)))) (dE (aC (aF 1) (aC (aF 0) aJ))))))) (cU 2))) (dH (aF 2)))
noncomputable def mD:GS:=(bE (bS (gF (p8 aJ)) (cU 2)) rL)
noncomputable def oW:GS:=(dH (dE (aC (aF 3) (aC (bK mY (bK fK (aF 2) (gC (.int 1))) (bK fK (aF 1) (gC (.int 1)))) aJ))))
noncomputable def kD:GS:=(bE (bS (bK j5 (bK mY (bK mY (bK aEK (bK fK (aF 2) (gC (.int 1))) (bK fK (aF 2) (gC (.int 0)))) (aF 0)) (bK fK (aF 1) (gC (.int 1)))) (bK mY (bK fK (aF 2) (gC (.int 0))) (bK fK (aF 1) (gC (.int 0))))) (cU 3)) oW)
noncomputable def x6:GS:=(bE (fL (gIl (aF 0)) (cU 4) (bE (bS (bK j5 (bK mY (aF 2) (bK fK (aF 1) (gC (.int 1)))) (bK mY (aF 3) (aF 4))) (cU 2)) (bS (bK mY (aF 3) (bK fK (aF 1) (gC (.int 0)))) (cU 3)))) (dH (aF 2)))
noncomputable def sT:GS:=(bE (bS (gC (.int 0)) (cU 2)) (bE (bS (gC (.int 1)) (cU 3)) x6))
noncomputable def jL:GS:=(dH (bN eR (aC (gF (fB [none,some 1] (gIt (aF 0)) (cU 0) (bK fK (aF 0) (aF 1)))) aJ)))
noncomputable def o7:GS:=(bE (j0 (cO (bK oLt (aF 1) (bN oR (aC (aF 0) aJ)))) (dH (bK fK (aF 0) (aF 1))) fR) (dH (gC (.int 0))))
noncomputable def qU:GS:=(dH (bK w4 (bK w4 (bK rQ (aF 0) (gC (.int 48271))) (aF 1)) (aF 2)))
noncomputable def t5:GS:=(bE (fL (gIt (aF 0)) (cU 2) (bE (jW 3 (p8 aJ)) (bE (fL (gIl (aF 1)) (cU 4) (aHR 3 (fB [none,some 4] (kX (aF 2)) (cU 0) (bK j5 (aF 1) (dE (aC (aF 0) aJ)))))) (pM 3 (bS (aF 3) (cU 1)))))) (dH (aF 1)))
noncomputable def oY:GS:=(bE (bS (gF (p8 (aC (dE aJ) aJ))) (cU 1)) t5)
noncomputable def pD:GS:=(dH (dE (aC (bK aCa (aF 0) (aF 2)) (aC (bK aCa (aF 1) (aF 2)) aJ))))
noncomputable def oZ:GS:=(bE (nX (cO (bK oGt (aF 3) (gC (.int 0)))) (aJA 2 3 (aF 3) (bK w4 (aF 2) (aF 3)))) pD)
noncomputable def k9:GS:=(bE (bS (bN aCA (aC (aF 0) aJ)) (cU 2)) (bE (bS (aF 1) (cU 3)) oZ))
noncomputable def kC:GS:=(bE (j0 (cO (bK oLt (aF 1) (gC (.int 0)))) (bE (bS (aHF (aF 0)) (cU 0)) (bS (aHF (aF 1)) (cU 1))) fR) k9)
noncomputable def oT:GS:=(dH (bK oGt (bK mY (bK fK (aF 0) (gC (.int 0))) (bK fK (aF 1) (gC (.int 1)))) (bK mY (bK fK (aF 1) (gC (.int 0))) (bK fK (aF 0) (gC (.int 1))))))
noncomputable def nM:GS:=(dH (bK j5 (bK j5 (aEF (aF 0) aBE (tZ (aF 1))) (dE (aC (aF 2) aJ))) (aEF (aF 0) (tZ (bK j5 (aF 1) (gC (.int 1)))) aBE)))
noncomputable def aAL:GS:=(dH (dE (aC (bK aCa (aF 0) (aF 3)) (aC (bK aCa (aF 1) (aF 3)) aJ))))
noncomputable def aA1:GS:=(bE (bS (bK mY (aF 2) (aR eW (aC (aF 0) (aC (aF 1) aJ)))) (cU 3)) aAL)
noncomputable def vF:GS:=(bE (bS (bK aCa (aF 1) (bN aCA (aC (aF 1) aJ))) (cU 2)) aA1)
noncomputable def qS:GS:=(dH (aR lV (aC (bK fK (aF 0) (gC (.int 0))) aJ)))
noncomputable def aC8:GS:=(dH (bK fK (bK fK (aF 0) (gC (.int 1))) (aR eY (aC (aF 1) (aC (bK fK (aF 0) (gC (.int 0))) aJ)))))
noncomputable def lE:GS:=(dH (bK fK (bK fK (bK fK (aF 1) (aF 2)) (gC (.int 1))) (aR eY (aC (aF 3) (aC (bK fK (aF 0) (gC (.int 0))) aJ)))))
noncomputable def lU:GS:=(pM 3 (dH (dE (aC (aF 1) (aC (bN eR (aC (aF 3) aJ)) aJ)))))
noncomputable def lR:GS:=(bE (j0 (cO (bK oEq (bK w4 (aF 0) (gC (.int 9))) (gC (.int 0)))) (bE (bS (gF (aAF zH (aC (gF (fB [none,some 0] (kX (gC (.int 4))) (cU 0) (bK aEK (aR d7 (aC (bK j5 (aF 1) (aF 0)) (aC (gC (.int 9931)) (aC (gC (.int 19)) aJ)))) (gC (.int 9))))) aJ))) (cU 7)) (jW 3 (p8 (aC (dE (aC (bK fK (aF 7) (gC (.int 2))) (aC (bK fK (aF 7) (gC (.int 2))) aJ))) (aC (dE (aC (bK fK (aF 7) (gC (.int 0))) (aC (bK fK (aF 7) (gC (.int 3))) aJ))) (aC (dE (aC (bK fK (aF 7) (gC (.int 3))) (aC (bK fK (aF 7) (gC (.int 0))) aJ))) (aC (dE (aC (bK fK (aF 7) (gC (.int 1))) (aC (bK fK (aF 7) (gC (.int 1))) aJ))) aJ))))))) fR) lU)
noncomputable def qD:GS:=(bE (fL (kX (bN oR (aC (aR cF (aC (aF 1) aJ)) aJ))) (cU 4) (bE (bS (bK j5 (aF 0) (bK rQ (gC (.int 13)) (aF 4))) (cU 5)) (bE (jW 6 (fB [none,some 2,some 5] (kX (bN oR (aC (aF 1) aJ))) (cU 0) (bK aEK (bK j5 (aR d7 (aC (bK j5 (aF 2) (bK rQ (gC (.int 5)) (aF 0))) (aC (gC (.int 9941)) (aC (bK aEK (bK rQ (gC (.int 2)) (aF 1)) (gC (.int 1))) aJ)))) (gC (.int 1))) (aF 1)))) (pM 6 (vM 3 (bN eR (aC (aF 6) aJ))))))) lR)
noncomputable def l4:GS:=(bE (bS (bK fK (gF (p8 (aC (gC (.int 2)) (aC (gC (.int 5)) (aC (gC (.int 10)) aJ))))) (aR d7 (aC (aF 0) (aC (gC (.int 9949)) (aC (gC (.int 3)) aJ))))) (cU 2)) (bE (jW 3 (p8 aJ)) qD))
noncomputable def p7:GS:=(bE (j0 (cO (bK oEq (bK w4 (aF 0) (gC (.int 3))) (gC (.int 0)))) (bS (dE (aC (gC (.int 2)) (aC (gC (.int 2)) aJ))) (cU 1)) fR) l4)
noncomputable def lB:GS:=(bE (bS (bN eR (aC (gF (fB [none,some 0] (kX (bK j5 (gC (.int 2)) (bK aKW (aR d7 (aC (aF 0) (aC (gC (.int 9967)) (aC (gC (.int 4)) aJ)))) (gC (.int 3))))) (cU 0) (bK j5 (gC (.int 1)) (aR d7 (aC (bK j5 (aF 1) (bK rQ (gC (.int 7)) (aF 0))) (aC (gC (.int 9973)) (aC (gC (.int 3)) aJ))))))) aJ)) (cU 1)) p7)
noncomputable def i7:GS:=(bE (fL (aEa (gC (.int 2)) (gC (.int 30))) (cU 3) (nX (aFP (cO (bK oEq (bK w4 (aF 2) (aF 3)) (gC (.int 0)))) (cO (bK oEq (bK w4 (aF 1) (aF 3)) (gC (.int 0))))) (bE (bS (bK aKW (aF 2) (aF 3)) (cU 2)) (bS (bK aKW (aF 1) (aF 3)) (cU 1))))) (dH (dE (aC (aF 2) (aC (aF 1) aJ)))))
noncomputable def o4:GS:=(bE (j0 (cO (bK oEq (bK w4 (aF 0) (gC (.int 4))) (gC (.int 0)))) (bS (bK aEK (aF 1) (gC (.int 1))) (cU 2)) fR) i7)
noncomputable def oU:GS:=(bE (bS (bK j5 (gC (.int 1)) (aR d7 (aC (aF 0) (aC (gC (.int 9923)) (aC (bK aEK (aF 1) (gC (.int 1))) aJ))))) (cU 2)) o4)
noncomputable def kH:GS:=(bE (bS (bK j5 (gC (.int 2)) (aR d7 (aC (aF 0) (aC (gC (.int 9929)) (aC (gC (.int 29)) aJ))))) (cU 1)) oU)
noncomputable def oK:GS:=(dH (aR eC (aC (bK j5 (bK mY (bK mY (bK aEK (aF 4) (aF 3)) (aF 0)) (bK fK (aF 1) (gC (.int 1)))) (bK mY (aF 3) (bK fK (aF 1) (gC (.int 0))))) (aC (bK mY (aF 4) (bK fK (aF 1) (gC (.int 1)))) aJ))))
noncomputable def nO:GS:=(bE (bS (aF 2) (qV 3 4)) oK)
noncomputable def o9:GS:=(dH (bK fK (bK fK (aF 0) (gC (.int 1))) (aFq (aR cF (aC (bK fK (aF 0) (gC (.int 0))) aJ)) (aF 1))))
noncomputable def lT:GS:=(bE (jW 8 (hJ [none,some 7,some 5] (kX (bN oR (aC (aF 1) aJ))) (cU 0) (cO (bK yC (bK fK (aF 1) (aF 0)) (bK fK (aF 2) (aF 0)))) (aF 0))) (pM 8 (vM 6 (bK fK (gF (p8 (aC (aF 4) (aC (bK j5 (gC (.int 1)) (bN aNe (aC (aF 8) aJ))) aJ)))) (bN aHL (aC (bK oEq (bN oR (aC (aF 8) aJ)) (gC (.int 1))) aJ))))))
noncomputable def pU:GS:=(bE (jW 6 (p8 aJ)) (bE (fL (gIl (aR cF (aC (bK fK (aF 0) (gC (.int 0))) aJ))) (cU 7) lT) (pM 6 (vM 3 (dE (aC (aF 5) (aC (bN eR (aC (aF 6) aJ)) aJ)))))))
noncomputable def rF:GS:=(bE (fL (m9 (bK j5 (dE (aC (aF 1) aJ)) (aF 2))) (qV 4 5) pU) (pM 3 (dH (bN eR (aC (aF 3) aJ)))))
noncomputable def l8:GS:=(bE (jW 3 (p8 aJ)) rF)
noncomputable def sQ:GS:=(dH (gF (fB [none,some 2,some 0] (gIs (aF 1)) (cU 0) (bK fK (aR jC (aC (aF 2) (aC (aF 0) aJ))) (aF 1)))))
noncomputable def pC:GS:=(dH (aR mV (aC (bK fK (aF 3) (gC (.int 0))) (aC (bK fK (aF 3) (gC (.int 1))) aJ))))
noncomputable def pA:GS:=(bE (fL (aLW (aF 0)) (cU 4) (bS (aR bT (aC (aF 4) (aC (aF 3) (aC (aF 2) aJ)))) (cU 3))) pC)
noncomputable def j8:GS:=(bE (bS (dE (aC (aR h9 (aC (aF 1) (aC (aF 2) aJ))) (aC (aR h9 (aC (gF (aJW (p8 (aC (gC (.int 1)) aJ)) (bN oR (aC (aF 1) aJ)))) (aC (aF 2) aJ))) aJ))) (cU 3)) pA)
noncomputable def tR:GS:=(pM 4 (dH (dE (aC (aF 1) (aC (bN eR (aC (aF 4) aJ)) aJ)))))
noncomputable def tY:GS:=(bE (fL (gIt (aR iO (aC (aF 0) aJ))) (cU 5) (bE (jW 6 (hJ [none,none,some 5] (m9 (aF 1)) (qV 0 1) (cO (bK yC (bK fK (aF 2) (aF 0)) (aF 1))) (aF 0))) (pM 6 (vM 4 (aIT (cO (bK oEq (bN oR (aC (aF 6) aJ)) (gC (.int 1)))) (bK j5 (aF 3) (bK fK (aF 6) (gC (.int 0)))) (aF 2)))))) tR)
noncomputable def o8:GS:=(bE (jW 4 (p8 aJ)) tY)
noncomputable def iY:GS:=(dH (bN eR (aC (gF (fB [none,none,some 0] (m9 (aF 1)) (qV 0 1) (bK fK (aR jC (aC (aF 2) (aC (aF 1) aJ))) (aF 0)))) aJ)))
noncomputable def mI:GS:=(bE (fL (gIl (aR dJ (aC (aF 1) (aC (bK fK (aF 0) (gC (.int 0))) aJ)))) (qV 5 6) (bE (bS (bK fK (aR jC (aC (aF 0) (aC (aR eI (aC (aF 1) (aC (aF 5) (aC (aF 6) aJ)))) aJ))) (aF 5)) (cU 7)) (j0 (vT (aR iU (aC (dE (aC (bK fK (aF 4) (aF 5)) (aC (gC (.int 1)) aJ))) (aC (aR bT (aC (aF 7) (aC (dE (aC (bK fK (aF 2) (aF 5)) (aC (gC (.int 1)) aJ))) (aC (aF 3) aJ)))) aJ)))) (dH (dE (aC (aF 5) (aC (aF 6) aJ)))) fR))) (dH (gC .non)))
noncomputable def iP:GS:=(bE (bS (aR jC (aC (aF 0) (aC (aF 1) aJ))) (cU 4)) mI)
noncomputable def rG:GS:=(bE (fL (kX (bK fK (bK fK (aF 0) (gC (.int 0))) (aF 3))) (cU 9) (bE (bS (aR eI (aC (aF 6) (aC (aF 3) (aC (aF 9) aJ)))) (cU 10)) (bE (bS (bK fK (aF 4) (aR dM (aC (aF 0) (aC (aF 1) (aC (aF 2) (aC (aF 10) aJ)))))) (cU 11)) (bE (bS (aR bT (aC (bK fK (aR jC (aC (aF 0) (aC (aF 10) aJ))) (aF 3)) (aC (aF 11) (aC (aF 5) aJ)))) (cU 12)) (j0 (vT (aR iU (aC (aF 8) (aC (aF 12) aJ)))) (bE (bS (aF 9) (cU 7)) (bS (aF 12) (cU 8))) fR))))) (dH (aF 7)))
noncomputable def rK:GS:=(bE (bS (bK fK (aF 4) (aF 2)) (cU 8)) rG)
noncomputable def rJ:GS:=(bE (bS (bK fK (aF 6) (aF 3)) (cU 7)) rK)
noncomputable def l6:GS:=(bE (bS (bK fK (bK fK (aF 1) (aF 2)) (gC (.int 0))) (cU 6)) rJ)
noncomputable def nB:GS:=(bE (bS (bK fK (aR cG (aC (aF 0) (aC (aR eZ (aC (aF 1) (aC (aF 5) (aC (aF 7) aJ)))) aJ))) (aF 5)) (cU 8)) (bE (bS (dE (aC (bK fK (aR cG (aC (aF 0) (aC (aF 1) aJ))) (aF 5)) (aC (gC (.int 1)) aJ))) (cU 9)) (j0 (aFP (cO (bK yC (aF 7) (bK fK (aF 1) (aF 5)))) (vT (aR iF (aC (aR gR (aC (aF 8) (aC (dE (aC (bK fK (aF 2) (aF 5)) (aC (gC (.int 1)) aJ))) (aC (aF 3) aJ)))) (aC (aF 9) aJ))))) (vM 4 (dE (aC (aF 5) (aC (aF 7) aJ)))) fR)))
noncomputable def rW:GS:=(bE (fL (m9 (bK fK (aF 0) (gC (.int 0)))) (qV 5 6) (fL (kX (aF 6)) (cU 7) nB)) (pM 4 (dH (aF 4))))
noncomputable def nL:GS:=(bE (jW 4 (p8 aJ)) rW)
noncomputable def vD:GS:=(bE (fL (kX (bN oR (aC (bK fK (aF 0) (gC (.int 0))) aJ))) (cU 5) (bE (bS (aR jT (aC (aF 0) (aC (aF 1) (aC (aF 5) aJ)))) (cU 6)) (bE (bS (aR jT (aC (aF 0) (aC (aF 2) (aC (aF 5) aJ)))) (cU 7)) (vM 4 (aR cL (aC (aF 6) (aC (aF 7) (aC (aF 3) aJ)))))))) (pM 4 (dH (bN eR (aC (aF 4) aJ)))))
noncomputable def qN:GS:=(bE (jW 4 (p8 aJ)) vD)
noncomputable def qH:GS:=(pM 5 (dH (bN eR (aC (gF (aCd (aF 4) (aF 5))) aJ))))
noncomputable def pW:GS:=(pM 4 (bE (jW 5 (fB [none,none,some 0,some 3] (m9 (aF 2)) (qV 0 1) (aR gN (aC (aF 2) (aC (aF 1) (aC (bK j5 (aF 3) (aF 0)) (aC (aF 3) aJ))))))) qH))
noncomputable def qG:GS:=(bE (jW 4 (fB [none,none,some 0,some 3] (m9 (aF 1)) (qV 0 1) (aR gN (aC (aF 2) (aC (aF 1) (aC (bK w4 (bK j5 (aF 0) (gC (.int 1))) (aF 3)) (aC (aF 3) aJ))))))) pW)
noncomputable def lA:GS:=(bE (bS (bN oR (aC (aF 1) aJ)) (cU 3)) qG)
noncomputable def kZ:GS:=(dH (bN eR (aC (gF (fB [none,some 0,some 1,some 2,some 3,some 4] (kX (bN oR (aC (aF 1) aJ))) (cU 0) (aR fU (aC (aF 1) (aC (aF 2) (aC (aF 0) (aC (aF 3) (aC (aF 4) (aC (aF 5) aJ))))))))) aJ)))
noncomputable def oN:GS:=(bE (bS (dE (aC (bK fK (aR cG (aC (aF 0) (aC (aF 6) aJ))) (gC (.int 0))) (aC (bK fK (aR cG (aC (aF 0) (aC (aF 7) aJ))) (gC (.int 1))) aJ))) (cU 8)) (j0 (aF6 (vT (gF (hJ [none,some 0,some 8,some 1] (gIt (dE (aC (aF 4) (aC (aF 6) (aC (aF 7) aJ))))) (cU 0) (vT (aR d6 (aC (aF 1) (aC (aF 0) (aC (aF 2) (aC (aF 3) aJ)))))) (aF 0))))) (bS (gC (.bl true)) (cU 5)) fR))
noncomputable def r9:GS:=(bE (bS (gC (.bl false)) (cU 5)) (bE (fL (gIl (aF 2)) (cU 6) (fL (gIl (aF 2)) (cU 7) oN)) (j0 (vT (aF 5)) (vM 3 (aF 4)) fR)))
noncomputable def tU:GS:=(bE (fL (gIl (aF 2)) (cU 4) r9) (pM 3 (dH (aF 3))))
noncomputable def o5:GS:=(bE (bS (aR cF (aC (bK fK (aF 0) (gC (.int 0))) aJ)) (cU 2)) (bE (jW 3 (p8 aJ)) tU))
noncomputable def nD:GS:=(pM 6 (dH (aR jJ (aC (aF 0) (aC (gF (aLf (aF 6) aBE (tZ (aEd 4 (gKI (aF 5)))))) (aC (gF (aLf (aF 6) (tZ (aEd 4 (gKI (aF 5)))) aBE)) (aC (aF 3) aJ)))))))
noncomputable def nG:GS:=(aGS 4 (bE (jW 6 (fB [none,some 1] (aCz 4) (cU 0) (bK fK (bK fK (aF 1) (aF 0)) (gC (.int 0))))) nD))
noncomputable def nE:GS:=(bE (nX (zF 4 (gKI (aF 5))) (bE (aGj 4 (gKI (aF 5)) (aGF 4)) (bS (aR dM (aC (aF 0) (aC (aF 1) (aC (aF 5) (aC (bK fK (bK fK (aF 1) (aF 5)) (gC (.int 0))) aJ))))) (cU 5)))) nG)
noncomputable def mC:GS:=(bE (aIl 4 (.k [])) (bE (bS (aF 2) (cU 5)) nE))
noncomputable def vU:GS:=(dH (aR d8 (aC (aF 0) (aC (dE (aC (aF 1) aJ)) (aC (aF 2) aJ)))))
noncomputable def mB:GS:=(dH (aCu [none,some 2,some 0] (aF 1) (bK fK (aR jC (aC (aF 2) (aC (aF 0) aJ))) (aF 1))))
noncomputable def v9:GS:=(dH (bN eR (aC (gF (fB [none,some 0,some 1,some 2] (kX (bN oR (aC (aF 1) aJ))) (cU 0) (aR fV (aC (aF 1) (aC (aF 2) (aC (aF 0) (aC (aF 3) aJ))))))) aJ)))
noncomputable def kF:GS:=(dH (bN eR (aC (gF (fB [none,some 0,some 1] (kX (bN oR (aC (bK fK (aF 0) (gC (.int 0))) aJ))) (cU 0) (aR fQ (aC (aF 1) (aC (aF 2) (aC (aF 0) aJ)))))) aJ)))
noncomputable def oV:GS:=(dH (bN eR (aC (gF (hJ [none,some 0,some 3,some 2] (gIt (aF 1)) (cU 0) (cO (bK aEL (aR b8 (aC (aF 1) (aC (aF 0) (aC (aF 2) (aC (aF 3) aJ))))) (gC .non))) (aF 0))) aJ)))
noncomputable def o0:GS:=(bE (bS (aR bY (aC (aF 0) (aC (aR cV (aC (aF 0) (aC (aF 1) aJ))) aJ))) (cU 3)) oV)
noncomputable def j9:GS:=(bE (j0 (cO (bK oEq (aF 1) (dE aJ))) (dH (dE aJ)) fR) o0)
noncomputable def aDP:GS:=(bE (fL (kX (bN oR (aC (bK fK (aF 0) (gC (.int 0))) aJ))) (cU 4) (bE (bS (aR e7 (aC (aF 0) (aC (aF 1) (aC (aF 4) (aC (aR dA (aC (aF 3) (aC (aF 4) aJ))) (aC (aF 2) aJ)))))) (cU 5)) (fL (m9 (aF 5)) (qV 6 7) (j0 (cO (bK yC (aF 7) (bK fK (bK fK (bK fK (aF 1) (aF 6)) (gC (.int 0))) (aF 4)))) (dH (dE (aC (aF 6) (aC (aF 4) (aC (aF 7) aJ))))) fR)))) (dH (gC .non)))
noncomputable def aDc:GS:=(bE (bS (aR mW (aC (aF 0) (aC (aF 1) (aC (aF 2) aJ)))) (cU 3)) aDP)
noncomputable def aEi:GS:=(bE (nX (cO (bK yC (aF 3) (aF 2))) (bE (bS (aF 3) (cU 2)) (bS (aR dQ (aC (aF 0) (aC (aF 2) (aC (aF 1) aJ)))) (cU 3)))) (dH (aF 2)))
noncomputable def aEf:GS:=(bE (bS (aR dQ (aC (aF 0) (aC (aF 2) (aC (aF 1) aJ)))) (cU 3)) aEi)
noncomputable def aDn:GS:=(bE (bS (aR iO (aC (aF 0) aJ)) (cU 2)) aEf)
noncomputable def zI:GS:=(dH (bK aEL (iV sE (aC (aF 0) (aC (aF 1) (aC (aF 2) aJ)))) (gC .non)))
noncomputable def yB:GX:=(aB5 (dH (aR cV (aC (aF 0) (aC (aF 2) aJ)))))
noncomputable def yN:GX:=(aGR (aDx (cO (bK oEq (aF 2) (dE aJ))) (aFC "NoPact" (aC (gC (.str (PySem.Str.ofString "no row is kept"))) aJ)) (aB5 fR)) yB)
noncomputable def sH:GX:=(aGR (aB5 (bS (aR lH (aC (aF 0) (aC (aF 1) aJ))) (cU 2))) yN)
noncomputable def vP:GX:=(aEV (wF bY (rC (uZ (aF 0)) (rC (oE iT (aC (aF 0) (aC (aF 1) aJ))) aEw))))
noncomputable def sV:GX:=(aEV (wF b8 (rC (uZ (aF 0)) (rC (uZ (aF 1)) (rC (oE j3 (aC (aF 0) (aC (aF 2) aJ))) (rC (uZ (aF 2)) aEw))))))
noncomputable def mE:GS:=(bE (aAo 6 5 (fun c=>c="NoPact") (fun _=>true) (aDx (cO (bK oEq (aF 0) (gC (.int 0)))) (aAZ (oE j3 (aC (aF 1) (aC (aF 3) aJ))) (cU 4)) (aDx (cO (bK oEq (aF 0) (gC (.int 1)))) (aAZ (oE iT (aC (aF 1) (aC (aF 3) aJ))) (cU 4)) (aAZ (oE lM (aC (aF 1) (aC (aF 2) (aC (aF 3) aJ)))) (cU 4)))) (bS (gC (.str (PySem.Str.ofString "no pact"))) (cU 4))) (dH (aF 4)))
noncomputable def kY:GS:=(bE (bS (gC (.str (PySem.Str.ofString "other"))) (cU 4)) mE)
noncomputable def v5:GS:=(bE (bS (aR mK (aC (aF 3) (aC (aF 10) (aC (aF 7) aJ)))) (cU 11)) (bE (j0 (cO (bK yC (aF 11) (aR gW (aC (aF 3) (aC (aF 10) (aC (aF 7) aJ)))))) (dH (gC (.bl false))) fR) (bE (bS (iV bO (aC (gC (.int 2)) (aC (aF 3) (aC (aF 10) (aC (aF 4) aJ))))) (cU 12)) (bE (j0 (gOr (cO (bK yC (aR o6 (aC (aF 3) (aC (aF 11) (aC (aF 4) aJ)))) (bK oIn (aF 10) (aF 5)))) (cO (bK yC (bK aEL (aF 12) (gC .non)) (bK oIn (aF 10) (aF 5))))) (dH (gC (.bl false))) fR) (j0 (aFP (cO (bK zN (aF 12) (gC .non))) (cO (bK t6 (aF 12) (aR d6 (aC (aF 3) (aC (aF 10) (aC (aF 8) (aC (aF 4) aJ)))))))) (dH (gC (.bl false))) fR)))))
noncomputable def aDX:GS:=(bE (bS (aR eG (aC (aF 0) (aC (bK rQ (gC (.int 2)) (aF 1)) aJ))) (cU 2)) (bE (bS (iV cB (aC (bK rQ (gC (.int 3)) (aF 2)) aJ)) (cU 3)) (bE (j0 (cO (bK oEq (bK w4 (aF 2) (gC (.int 4))) (gC (.int 1)))) (bS (iV cB (aC (aF 2) aJ)) (cU 3)) fR) (bE (j0 (gOr (cO (bK oGt (bN oR (aC (bK fK (aF 3) (gC (.int 0))) aJ)) (gC (.int 2)))) (cO (bK oGt (bN oR (aC (bK fK (aF 3) (gC (.int 1))) aJ)) (gC (.int 6))))) (bS (iV cB (aC (bK rQ (gC (.int 9)) (aF 2)) aJ)) (cU 3)) fR) (bE (bS (aR eD (aC (aR eG (aC (aF 0) (aC (bK j5 (bK rQ (gC (.int 2)) (aF 1)) (gC (.int 1))) aJ))) aJ)) (cU 4)) (bE (bS (aR fO (aC (aF 3) (aC (aF 4) aJ))) (cU 5)) (bE (j0 (cO (bK yC (aR lH (aC (aF 3) (aC (aF 4) aJ))) (bN eR (aC (aF 5) aJ)))) (dH (gC (.bl false))) fR) (bE (bS (iV bO (aC (gC (.int 0)) (aC (aF 3) (aC (aF 5) (aC (aF 4) aJ))))) (cU 6)) (bE (bS (iV bO (aC (gC (.int 1)) (aC (aF 3) (aC (aF 5) (aC (aF 4) aJ))))) (cU 7)) (j0 (aF6 (vT (aF 5))) (j0 (gOr (cO (bK yC (aF 6) (gC (.str (PySem.Str.ofString "no pact"))))) (gOr (cO (bK yC (aF 7) (gC (.str (PySem.Str.ofString "no pact"))))) (cO (bK yC (iV bO (aC (gC (.int 2)) (aC (aF 3) (aC (dE (aC (gC (.int 0)) (aC (gC (.int 0)) aJ))) (aC (aF 4) aJ))))) (gC (.str (PySem.Str.ofString "no pact"))))))) (dH (gC (.bl false))) fR) (bE (bS (bN eR (aC (gF (fB [none,some 5,some 3] (gIt (dE (aC (gC (.int 0)) (aC (gC (.int 1)) aJ)))) (cU 0) (bN aMN (aC (gF (fB [none,some 0,some 2] (gIl (aF 1)) (cU 0) (bK fK (aR cG (aC (aF 2) (aC (aF 0) aJ))) (aF 1)))) aJ)))) aJ)) (cU 8)) (bE (bS (bN eR (aC (gF (fB [none,some 3,some 7] (gIt (dE (aC (gC (.int 0)) (aC (gC (.int 1)) aJ)))) (cU 0) (bK fK (aR cG (aC (aF 1) (aC (bK fK (aF 2) (aF 0)) aJ))) (aF 0)))) aJ)) (cU 9)) (bE (j0 (gOr (cO (bK yC (aF 6) (aF 8))) (cO (bK yC (aF 9) (aF 8)))) (dH (gC (.bl false))) fR) (bE (j0 (vT (gF (hJ [none,some 5] (gIt (aF 7)) (cU 0) (cO (bK t6 (aF 0) (aF 1))) (aF 0)))) (dH (gC (.bl false))) fR) (fL (gIl (aR cF (aC (bK fK (aF 3) (gC (.int 0))) aJ))) (cU 10) v5)))))))))))))))
noncomputable def aGA:GS:=(bE (fL (kX (gC (.int 2))) (cU 1) aDX) (dH (gC (.bl true))))
theorem cI {n:Nat} (h:n≤1000):n≤sizeLine:=Nat.le_of_lt (iS h)
theorem xB (d:D):aGe (tyD d) "int"=(match d with
 | .int _=>true
 | .bl _=>true
 | _=>false):=by cases d <;> rfl
theorem uT (d:D):aGe (tyD d) "bool"=(match d with
 | .bl _=>true
 | _=>false):=by cases d <;> rfl
theorem sF (d:D):aGe (tyD d) "tuple"=(match d with
 | .tup _=>true
 | _=>false):=by cases d <;> rfl
theorem aN0 {i j:Int}{Q:D→Prop}:rQ (.int i) (.int j) Q=(aHn i j∧Q (.int (i * j))):=rfl
end L2
local macro_rules | `(tactic| simp_all_arith! [$x:term]) => do
 let i : Lean.TSyntax `ident := ⟨x.raw⟩
 `(tactic| (intro ds d h; unfold $i:ident at h; split at h; all_goals first | rfl | cases h))
local macro_rules | `(tactic| simp_all_arith!) => `(tactic| exact ⟨rfl, rfl, rfl, by decide +kernel, rfl, by decide +kernel, by decide +kernel⟩)
local macro_rules | `(tactic| simp_arith! only [$as,*]) => `(tactic| simp only [L2.dH, L2.aIv, L2.aMZ, L2.aJ3, L2.aIm, L2.xB, L2.uT, L2.sF, L2.aF, L2.bE, L2.bS, L2.cU, L2.gC, L2.gF, L2.p8, L2.aC, L2.aJ, L2.dE, L2.bN, L2.aAF, L2.aR, L2.iV, L2.aBx, L2.aGl, L2.oR, L2.aCA, L2.aLR, L2.eR, L2.aJP, L2.bK, L2.aDT, L2.yA, L2.j5, L2.aN0, L2.yC, L2.oEq, L2.oIs, L2.aFT, L2.aGD, L2.pZ, L2.fK, L2.aFz, L2.aCN, L2.cO, L2.aAV, L2.j0, L2.gIt, L2.gIl, L2.kX, L2.aEa, L2.vM, L2.aHR, L2.pM, L2.jW, L2.fR, L2.vT, L2.aF6, L2.aFP, L2.gOr, L2.tZ, L2.aBE, L2.aEF, L2.aCd, L2.aHF, L2.qV, L2.aJH, L2.aJo, L2.aKa, L2.aIj, L2.aFk, L2.aFs, L2.m9, L2.aFX, L2.aHL, L2.aJA, L2.aIT, eq_self, if_true, ↓reduceIte, Bool.false_eq_true, if_false, List.getElem?_cons_zero, List.getElem?_cons_succ, List.set_cons_zero, List.set_cons_succ, $as,*])
local macro_rules | `(tactic| simp_arith only [$as,*]) => `(tactic| simp only [L2.dH, L2.aIv, L2.aMZ, L2.aJ3, L2.aIm, L2.xB, L2.uT, L2.sF, L2.aF, L2.bE, L2.bS, L2.cU, L2.gC, L2.gF, L2.p8, L2.aC, L2.aJ, L2.dE, L2.bN, L2.aAF, L2.aR, L2.iV, L2.aBx, L2.aGl, L2.oR, L2.aCA, L2.aLR, L2.eR, L2.aJP, L2.bK, L2.aDT, L2.yA, L2.j5, L2.rQ, L2.yC, L2.oEq, L2.oIs, L2.aFT, L2.oP, L2.pZ, L2.fK, L2.aFz, L2.aCN, L2.cO, L2.aAV, L2.j0, L2.gIt, L2.gIl, L2.kX, L2.aEa, L2.vM, L2.aHR, L2.pM, L2.jW, L2.fR, L2.vT, L2.aF6, L2.aFP, L2.gOr, L2.tZ, L2.aBE, L2.aEF, L2.aCd, L2.aHF, L2.qV, L2.aJH, L2.aJo, L2.aKa, L2.aIj, L2.aFk, L2.aFs, L2.m9, L2.aFX, L2.aHL, L2.aJA, L2.aIT, eq_self, if_true, ↓reduceIte, Bool.false_eq_true, if_false, List.getElem?_cons_zero, List.getElem?_cons_succ, List.set_cons_zero, List.set_cons_succ, $as,*])
namespace L2
open PySem PySem.Spec PyProof.Rows
abbrev gT (d:D):DEnds:={ nx:=fun _=>d = .non,rt:=fun r=>r=d }
theorem vA (R:List (List Int)) (n:Int) (j:Nat) (h:j<R.length):dN (R.take (j+1)) n=dN (R.take j) n++(List.range n.toNat).map fun (k:Nat)=>R[j]++[(k:Int)]:=by
 rw [List.take_succ,List.getElem?_eq_getElem h,Option.toList_some,aAd,aDw]
theorem aA8 (ns:List Int) (i:Nat) (h:i<ns.length):aM (ns.take (i+1))=dN (aM (ns.take i)) ns[i]:=by
 rw [List.take_succ,List.getElem?_eq_getElem h,Option.toList_some,oC]
theorem cC {α β:Type}{f:α→β}{l:List α}{i:Nat}{d:β} (e:(l.map f)[i]? = some d):∃ h:i<l.length,d=f l[i]:=by
 rw [List.getElem?_map] at e
 cases e2:l[i]? with
 | none=>rw [e2] at e;cases e
 | some x=>
  rw [e2] at e
  obtain ⟨h,e3⟩:=List.getElem?_eq_some_iff.mp e2
  cases e
  exact ⟨h,by rw [e3]⟩
theorem aB1 {ns:List Int} (ho:eL ns=true) {i:Nat} (hi:i<ns.length):1≤ns[i]∧ns[i]≤3∧(aM (ns.take i)).length≤27∧∀ r∈aM (ns.take i),r.length≤3:=by
 obtain ⟨m1,m2⟩:=bU ho
 have h1:=m2 ns[i] (List.getElem_mem hi)
 refine ⟨h1.1,h1.2,(j4 (vL ho i)).2,fun r hr=>?_⟩
 rw [(wL hr).1,List.length_take]
 omega
abbrev aFK (p:D→Prop):DEnds:={ nx:=fun _=>p .non,rt:=p }
theorem uY {c p m:Int} (h:0<m):0≤rO c p m:=Int.emod_nonneg _ (by omega)
theorem t9 {c p m:Int} (h:0<m):rO c p m<m:=Int.emod_lt_of_pos _ h
theorem aF5 {c p m:Int} (hp:0<p) (hm:0<m):d7 [.int c,.int p,.int m]=some (.int (rO c p m)):=if_pos ⟨hp,hm⟩
theorem okD {ns:List Int} (h1:ns.length≤3) (h2:∀ n∈ns,1≤n∧n≤3):eL ns=true:=by
 unfold eL
 rw [Bool.and_eq_true,decide_eq_true_eq,List.all_eq_true]
 exact ⟨h1,fun n hn=>by simpa using h2 n hn⟩
abbrev aJ2 (c:Int):D→Prop:=fun d=>∃ ns pay,d=aU ns pay∧aY ns pay∧(c % 3=0→ns=[2,2])
theorem iG (a:Int) (n:Nat):(cA a n).length=n:=by simp [cA]
theorem aEy {ns:List Int} (ho:eL ns=true):cF [aE ns]=some (.lst ((aM ns).map aE)):=uE _ ho
theorem aFb (q:Rat):((q.den:Int):Rat)≠0:=by
 intro z
 have z2:((q.den:Int):Rat)=((0:Int):Rat):=z
 rw [Rat.intCast_inj] at z2
 have:=q.den_nz
 omega
theorem aG2 (r:List Int) (h:Nat) (k:Int) (hh:h<r.length):r.take h++[k]++r.drop (h+1)=r.set h k:=by
 rw [List.set_eq_take_append_cons_drop,if_pos hh]
 simp
theorem aGL (r:List Int) (h:Nat) (hh:h<r.length):tL (r.map D.int) none (some (h:Int))=(r.take h).map D.int:=by
 unfold tL
 rw [HT.sIx_none,HT.sIx_nat,List.length_map,Nat.min_eq_left (by omega),List.drop_zero,List.map_take]
 rfl
theorem aCb (r:List Int) (h:Nat) (hh:h≤r.length):tL (r.map D.int) (some (h:Int)) none=(r.drop h).map D.int:=by
 unfold tL
 rw [HT.sIx_none,HT.sIx_nat,List.length_map,Nat.min_eq_left hh,List.map_drop]
 refine List.take_of_length_le ?_
 rw [List.length_drop,List.length_map]
 omega
theorem aDb:∀ ds d,eG ds=some d→o7 (gT d) (bH ["_law_script","_law_k"] ds)
 | [.lst xs,.int k],d,h=>by
  have h:(match iE xs with
   | some ns=>if 0≤k then some (D.int (ns.getD k.toNat 0)) else none
   | none=>none)=some d:=h
  split at h
  ·rename_i ns e
   split at h
   ·rename_i hk
    cases h
    rw [kA e]
    show o7 _ [.im (.lst (ns.map D.int)),.im (.int k)]
    simp_arith only [o7,List.getElem?_cons_zero,List.getElem?_cons_succ,List.length_map]
    by_cases hl:k<(ns.length:Int)
    ·have hl':k.toNat<ns.length:=by omega
     simp [hl,gL,ixN,hk,hl']
    ·have hl':ns.length≤k.toNat:=by omega
     simp [hl,hl']
   ·cases h
  ·cases h
theorem aEY:∀ ds d,d7 ds=some d→qU (gT d) (bH ["_law_cell_here","_law_prime","_law_many"] ds)
 | [.int c,.int p,.int m],d,h=>by
  have h:(if 0<p∧0<m then some (D.int (rO c p m)) else none)=some d:=h
  split at h
  ·rename_i hp
   cases h
   show qU _ [.im (.int c),.im (.int p),.im (.int m)]
   simp_arith only [qU,List.getElem?_cons_zero,List.getElem?_cons_succ,rO]
   exact ⟨Or.inr ⟨by decide,by decide⟩,hp.1,hp.2,trivial⟩
  ·cases h
theorem aCO:∀ ds d,cF ds=some d→oY (gT d) (bH ["_law_deeds_here","_law_found","_law_many","_law_more_here","_law_row"] ds)
 | [.tup es],d,h=>by
  obtain ⟨ns,rfl,ho,rfl⟩:=uR (show mG es (fun ns=>D.lst ((aM ns).map aE))=some d from h)
  show oY _ [.im (.tup (ns.map D.int)),.un,.un,.un,.un]
  simp_arith only [oY,t5,fL]
  refine ⟨by decide,by decide,fun i δ=>∃ a b c,δ=[.im (.tup (ns.map D.int)),.im (.lst ((aM (ns.take i)).map aE)),a,b,c],⟨.un,.un,.un,rfl⟩,?_,?_⟩
  ·rintro i d δ ed ⟨a,b,c,rfl⟩
   obtain ⟨hi,rfl⟩:=cC ed
   obtain ⟨f1,f2,f3,f4⟩:=aB1 ho hi
   generalize hR:aM (ns.take i)=R at *
   generalize hn:ns[i]=n at *
   simp_arith only []
   refine ⟨by decide,fun j δ=>∃ c,δ=[.im (.tup (ns.map D.int)),.im (.lst (R.map aE)),.im (.int n),.ow ((dN (R.take j) n).map aE),c],⟨c,rfl⟩,?_,?_⟩
   ·rintro j d δ ed ⟨c,rfl⟩
    obtain ⟨hj,rfl⟩:=cC ed
    have fr:=f4 R[j] (List.getElem_mem hj)
    have hl:(dN (R.take j) n).length≤81:=by
     rw [n4,List.length_take]
     exact Nat.le_trans (Nat.mul_le_mul (Nat.le_trans (Nat.min_le_right _ _) f3) (show n.toNat≤3 by omega)) (by decide)
    simp_arith only [fB]
    refine ⟨by omega,?_,fun d=>match d with
     | .int k=>aE (R[j]++[k])
     | _=>.non,fun d hd=>?_,?_,?_⟩
    ·unfold cA
     rw [List.length_map,List.length_range]
     exact cI (by omega)
    ·unfold cA at hd
     obtain ⟨k,hk,rfl⟩:=List.mem_map.mp hd
     simp_arith only [δc,List.map_cons,List.map_nil,aE,List.length_cons,List.length_nil,List.length_map]
     exact ⟨by decide,cI (by omega),by rw [List.map_append];rfl⟩
    ·unfold cA
     simp only [List.length_map,List.length_range]
     exact cI (by omega)
    ·refine ⟨.im (aE R[j]),?_⟩
     rw [vA R n j hj,List.map_append,List.map_map]
     simp [cA,Function.comp_def]
   ·rintro δ ⟨c,rfl⟩
    simp_arith only []
    rw [aA8 ns i hi,hR,hn,List.length_map,List.take_length]
    exact ⟨_,_,_,rfl⟩
  ·rintro δ ⟨a,b,c,rfl⟩
   simp_arith only []
   rw [List.length_map,List.take_length]
theorem aIt (c:Int) (ns:List Int) (hns:ns.length≤3) (h2:2≤ns.length) (ho:eL ns=true) (h3:c % 3=0→ns=[2,2]) (w:Sl) (pay:List (List Int)) (hp:aY ns pay) (a b d e:Sl) :
  lR (aFK (aJ2 c)) [.im (.int c),.im (aE ns),w,.ow (pay.map aE),a,b,d,e]:=by
 obtain ⟨l1,l2⟩:=j4 ho
 have fin:∀ (pay:List (List Int)) (a b d e:Sl),aY ns pay→lU (aFK (aJ2 c)) [.im (.int c),.im (aE ns),w,.ow (pay.map aE),a,b,d,e]:=by
  intro pay a b d e hp
  simp_arith only [lU,List.length_cons,List.length_nil]
  exact ⟨by decide,ns,pay,rfl,hp,h3⟩
 simp_arith only [lR]
 refine ⟨by decide,by decide,?_⟩
 by_cases e9:c % 9=0
 ·have e9':(c % 9 == 0)=true:=by simpa using e9
  simp_arith only [e9',fB]
  have e3:ns=[2,2]:=h3 (by omega)
  refine ⟨by decide,by decide,fun x=>match x with
   | .int k=>.int (rO (c+k) 9931 19-9)
   | _=>.non,fun x hx=>?_,?_⟩
  ·unfold cA at hx
   obtain ⟨k,hk,rfl⟩:=List.mem_map.mp hx
   simp_arith only [δc,List.map_cons,List.map_nil,aF5 (show (0:Int)<9931 by decide) (show (0:Int)<19 by decide)]
  ·have em:(cA 0 (4:Int).toNat).map (fun x=>match x with
     | .int k=>D.int (rO (c+k) 9931 19-9)
     | _=>.non)=((List.range 4).map fun (k:Nat)=>rO (c+(0+(k:Int))) 9931 19-9).map D.int:=by
    simp [cA,Function.comp_def]
   rw [em]
   simp only [zH,h8]
   refine ⟨by simp,fun ms hpm hso=>?_⟩
   have hlen:ms.length=4:=by rw [hpm.length_eq];simp
   have hb:∀ x∈ms, -9≤x∧x≤9:=by
    intro x hx
    have hx':=hpm.mem_iff.mp hx
    obtain ⟨k,hk,rfl⟩:=List.mem_map.mp hx'
    have:=uY (c:=c+(0+(k:Int))) (p:=9931) (show (0:Int)<19 by decide)
    have:=t9 (c:=c+(0+(k:Int))) (p:=9931) (show (0:Int)<19 by decide)
    omega
   match ms,hlen,hb with
   | [m0,m1,m2,m3],_,hb=>
    have i0:gL ([m0,m1,m2,m3].map D.int) 0=some (.int m0):=rfl
    have i1:gL ([m0,m1,m2,m3].map D.int) 1=some (.int m1):=rfl
    have i2:gL ([m0,m1,m2,m3].map D.int) 2=some (.int m2):=rfl
    have i3:gL ([m0,m1,m2,m3].map D.int) 3=some (.int m3):=rfl
    simp_arith only [i0,i1,i2,i3,List.length_cons,List.length_nil]
    refine ⟨by decide,by decide,by decide,by decide,by decide,?_⟩
    have b0:=hb m0 (by simp)
    have b1:=hb m1 (by simp)
    have b2:=hb m2 (by simp)
    have b3:=hb m3 (by simp)
    refine fin [[m2,m2],[m0,m3],[m3,m0],[m1,m1]] _ _ _ _ ⟨h2,ho,?_,?_⟩
    ·rw [e3];rfl
    ·intro r hr
     rw [e3]
     simp only [List.mem_cons,List.not_mem_nil,or_false] at hr
     rcases hr with rfl | rfl | rfl | rfl <;> refine ⟨rfl,fun x hx=>?_⟩ <;> simp only [List.mem_cons,List.not_mem_nil,or_false] at hx <;> rcases hx with rfl | rfl <;> assumption
 ·have e9':(c % 9 == 0)=false:=by simpa using e9
  simp_arith only [e9']
  exact fin pay a b d e hp
theorem aCc (c:Int) (ns:List Int) (hns:ns.length≤3) (h2:2≤ns.length) (ho:eL ns=true) (h3:c % 3=0→ns=[2,2]) :
  l4 (aFK (aJ2 c)) [.im (.int c),.im (aE ns),.un,.un,.un,.un,.un,.un]:=by
 obtain ⟨l1,l2⟩:=j4 ho
 have w0:=uY (c:=c) (p:=9949) (show (0:Int)<3 by decide)
 have w1:=t9 (c:=c) (p:=9949) (show (0:Int)<3 by decide)
 have hw:∃ wd:Int,gL [D.int 2,.int 5,.int 10] (rO c 9949 3)=some (.int wd)∧2≤wd∧wd≤10:=by
  have:rO c 9949 3=0∨rO c 9949 3=1∨rO c 9949 3=2:=by omega
  rcases this with e | e | e <;> rw [e]
  ·exact ⟨2,rfl,by decide,by decide⟩
  ·exact ⟨5,rfl,by decide,by decide⟩
  ·exact ⟨10,rfl,by decide,by decide⟩
 obtain ⟨wd,ew,wd1,wd2⟩:=hw
 simp_arith only [l4,qD,aF5 (show (0:Int)<9949 by decide) (show (0:Int)<3 by decide),ew,aEy ho,fL,List.length_cons,List.length_nil]
 refine ⟨by decide,by decide,⟨by omega,by rw [List.length_map];omega⟩,fun i δ=>∃ a b d e,∃ pay:List (List Int),δ=[.im (.int c),.im (aE ns),.im (.int wd),.ow (pay.map aE),a,b,d,e]∧pay.length=i∧i≤(aM ns).length∧∀ r∈pay,r.length=ns.length∧∀ x∈r, -9≤x∧x≤9,⟨.un,.un,.un,.un,[],rfl,rfl,Nat.zero_le _,fun r hr=>by simp at hr⟩,?_,?_⟩
 ·rintro i x δ ed ⟨a,b,d,e,pay,rfl,hpl,hil,hpb⟩
  unfold cA at ed
  obtain ⟨hi,rfl⟩:=cC ed
  rw [List.length_range,List.length_map] at hi
  have hi':i<(aM ns).length:=by omega
  simp_arith only [fB,aE,List.length_map,List.getElem_range]
  generalize hsd:c+13 * (0+(i:Int))=sd
  have m1:0<2 * wd-1:=by omega
  refine ⟨Or.inl ⟨by decide,by decide⟩,⟨by omega,by omega⟩,by rw [iG];exact cI (by omega),fun y=>match y with
   | .int k=>.int (rO (sd+5 * k) 9941 (2 * wd-1)+1-wd)
   | _=>.non,fun y hy=>?_,?_⟩
  ·unfold cA at hy
   obtain ⟨k,hk,rfl⟩:=List.mem_map.mp hy
   simp_arith only [δc,List.map_cons,List.map_nil,aF5 (show (0:Int)<9941 by decide) m1]
   exact ⟨Or.inl ⟨by decide,by decide⟩,Or.inl ⟨by decide,by decide⟩,trivial⟩
  ·have em:(cA 0 (ns.length:Int).toNat).map (fun y=>match y with
     | .int k=>D.int (rO (sd+5 * k) 9941 (2 * wd-1)+1-wd)
     | _=>.non)=((List.range ns.length).map fun (k:Nat)=>rO (sd+5 * (0+(k:Int))) 9941 (2 * wd-1)+1-wd).map D.int:=by
    simp [cA,Function.comp_def]
   rw [em]
   have hrow:∀ x∈(List.range ns.length).map fun (k:Nat)=>rO (sd+5 * (0+(k:Int))) 9941 (2 * wd-1)+1-wd, -9≤x∧x≤9:=by
    intro x hx
    obtain ⟨k,hk,rfl⟩:=List.mem_map.mp hx
    have:=uY (c:=sd+5 * (0+(k:Int))) (p:=9941) m1
    have:=t9 (c:=sd+5 * (0+(k:Int))) (p:=9941) m1
    omega
   have hrl:((List.range ns.length).map fun (k:Nat)=>rO (sd+5 * (0+(k:Int))) 9941 (2 * wd-1)+1-wd).length=ns.length:=by simp
   generalize ((List.range ns.length).map fun (k:Nat)=>rO (sd+5 * (0+(k:Int))) 9941 (2 * wd-1)+1-wd)=row at hrow hrl
   have e5:pay.map aE++[D.tup (row.map D.int)]=(pay++[row]).map aE:=by
    rw [List.map_append]
    rfl
   rw [e5]
   refine ⟨iS (by omega),_,_,_,_,_,rfl,by simp [hpl],hi',fun r hr=>?_⟩
   rcases List.mem_append.mp hr with hr | hr
   ·exact hpb r hr
   ·obtain rfl:=List.mem_singleton.mp hr
    exact ⟨hrl,hrow⟩
 ·rintro δ ⟨a,b,d,e,pay,rfl,hpl,hil,hpb⟩
  rw [iG,List.length_map] at hpl
  exact aIt c ns hns h2 ho h3 _ pay ⟨h2,ho,by omega,hpb⟩ a b d e
theorem zC:∀ ds p,cB ds=some p→lB (aFK p) (bH ["_law_cell_here","_law_deeds_here","_law_wide","_law_pay","_law_k","_law_seed","_law_one","_law_few"] ds)
 | [.int c],p,h=>by
  cases h
  show lB _ [.im (.int c),.un,.un,.un,.un,.un,.un,.un]
  have a0:=uY (c:=c) (p:=9967) (show (0:Int)<4 by decide)
  have a1:=t9 (c:=c) (p:=9967) (show (0:Int)<4 by decide)
  unfold lB p7
  simp_arith only [aF5 (show (0:Int)<9967 by decide) (show (0:Int)<4 by decide),fB]
  have n1:2≤2+rO c 9967 4 / 3:=by omega
  have n2:2+rO c 9967 4 / 3≤3:=by omega
  generalize hn:2+rO c 9967 4 / 3=n at *
  refine ⟨⟨by decide,by decide⟩,⟨by omega,by omega⟩,by rw [iG];exact cI (by omega),fun y=>match y with
   | .int k=>.int (1+rO (c+7 * k) 9973 3)
   | _=>.non,fun y hy=>?_,?_⟩
  ·unfold cA at hy
   obtain ⟨k,hk,rfl⟩:=List.mem_map.mp hy
   simp_arith only [δc,List.map_cons,List.map_nil,aF5 (show (0:Int)<9973 by decide) (show (0:Int)<3 by decide)]
   exact ⟨Or.inl ⟨by decide,by decide⟩,trivial⟩
  ·have em:(cA 0 n.toNat).map (fun y=>match y with
     | .int k=>D.int (1+rO (c+7 * k) 9973 3)
     | _=>.non)=((List.range n.toNat).map fun (k:Nat)=>1+rO (c+7 * (0+(k:Int))) 9973 3).map D.int:=by
    simp [cA,Function.comp_def]
   rw [em]
   refine ⟨by decide,by decide,?_⟩
   by_cases e3:c % 3=0
   ·have e3':(c % 3 == 0)=true:=by simpa using e3
    simp_arith only [e3',List.length_cons,List.length_nil]
    exact ⟨by decide,aCc c [2,2] (by decide) (by decide) (by decide) fun _=>rfl⟩
   ·have e3':(c % 3 == 0)=false:=by simpa using e3
    simp_arith only [e3']
    have hl:((List.range n.toNat).map fun (k:Nat)=>1+rO (c+7 * (0+(k:Int))) 9973 3).length=n.toNat:=by simp
    refine aCc c _ (by omega) (by omega) (okD (by omega) fun x hx=>?_) fun z=>absurd z e3
    obtain ⟨k,hk,rfl⟩:=List.mem_map.mp hx
    have:=uY (c:=c+7 * (0+(k:Int))) (p:=9973) (show (0:Int)<3 by decide)
    have:=t9 (c:=c+7 * (0+(k:Int))) (p:=9973) (show (0:Int)<3 by decide)
    omega
theorem aKx {u l U L:Int} (hl:0<l) (hL:0<L) (hg:Int.gcd u l=1) (h:u * L=U * l):D.tup [.int u,.int l] = .tup [.int (Rat.divInt U L).num,.int ((Rat.divInt U L).den:Int)]:=by
 have e:Rat.divInt U L=Rat.divInt u l:=by
  rw [Rat.divInt_eq_divInt_iff (by omega) (by omega)]
  exact h.symm
 have h1:l.sign=1:=Int.sign_eq_one_of_pos hl
 have h2:l.gcd u=1:=by rw [Int.gcd_comm];exact hg
 rw [e,Rat.num_divInt,Rat.den_divInt,if_neg (by omega),h1,h2]
 simp
 omega
theorem xP:∀ ds p,eD ds=some p→kH (gT p) (bH ["_law_cell_here","_law_lower","_law_upper","_law_by"] ds)
 | [.int c],p,h=>by
  cases h
  show kH _ [.im (.int c),.un,.un,.un]
  have a1:0≤rO c 9929 29:=uY (by decide)
  have a2:rO c 9929 29<29:=t9 (by decide)
  simp_arith only [kH,i7,o4,oU,aF5 (show (0:Int)<9929 by decide) (show (0:Int)<29 by decide)]
  generalize hl:2+rO c 9929 29=l
  have hpl:zW c=l:=hl
  have l1:2≤l:=by omega
  have l2:l≤30:=by omega
  have m1:0<l-1:=by omega
  simp only [aF5 (show (0:Int)<9923 by decide) m1]
  have b1:0≤rO c 9923 (l-1):=uY m1
  have b2:rO c 9923 (l-1)<l-1:=t9 m1
  have key:∀ u:Int,0<u→u<l→aJc c=u→i7 (gT (.tup [.int (aEm c).num,.int ((aEm c).den:Int)])) [.im (.int c),.im (.int l),.im (.int u),.un]:=by
   intro U u1 u2 hU
   have hR:aEm c=Rat.divInt U l:=by unfold aEm;rw [hU,hpl]
   rw [hR]
   have hL:0<l:=by omega
   generalize hLL:l=L at hL hR ⊢
   rw [hLL] at u2 l2
   simp_arith only [i7,fL,nX]
   refine ⟨by decide,fun i δ=>∃ (u l:Int) (z:Sl),δ=[.im (.int c),.im (.int l),.im (.int u),z]∧u * L=U * l∧0<u∧u<l∧l≤30∧∀ d:Int,2≤d→d<2+i→d ∣ u→d ∣ l→False,⟨U,L,.un,rfl,rfl,u1,u2,l2,fun d h1 h2=>by omega⟩,?_,?_⟩
   ·rintro i d δ ed ⟨u,l,z,rfl,hul,u1,u2,l2,hd⟩
    unfold cA at ed
    obtain ⟨hi,rfl⟩:=cC ed
    rw [List.length_range] at hi
    simp_arith only [List.getElem_range]
    generalize hb:(2:Int)+(i:Int)=b at *
    have b1:0<b:=by omega
    refine ⟨fun n δ=>∃ u l:Int,δ=[.im (.int c),.im (.int l),.im (.int u),.im (.int b)]∧n=u.toNat∧u * L=U * l∧0<u∧u<l∧l≤30∧∀ d:Int,2≤d→d<b→d ∣ u→d ∣ l→False,⟨_,u,l,rfl,rfl,hul,u1,u2,l2,fun d h1 h2=>hd d h1 (by omega)⟩,?_⟩
    rintro n δ ⟨u,l,rfl,rfl,hul,u1,u2,l2,hd⟩
    simp_arith only []
    refine ⟨b1,by decide,?_⟩
    by_cases e1:u % b=0
    ·have e1':(u % b == 0)=true:=by simpa using e1
     simp_arith only [e1']
     refine ⟨b1,by decide,?_⟩
     by_cases e2:l % b=0
     ·have e2':(l % b == 0)=true:=by simpa using e2
      simp_arith only [e2']
      have hb2:2≤b:=by omega
      have hb3:b<1073741824:=by omega
      obtain ⟨q,hq⟩:=Int.dvd_of_emod_eq_zero e1
      obtain ⟨r,hr⟩:=Int.dvd_of_emod_eq_zero e2
      have eq1:u / b=q:=by rw [hq];exact Int.mul_ediv_cancel_left _ (by omega)
      have er1:l / b=r:=by rw [hr];exact Int.mul_ediv_cancel_left _ (by omega)
      rw [eq1,er1]
      have q0:0<q:=by
       by_cases z:0<q
       ·exact z
       ·have:=Int.mul_nonpos_of_nonneg_of_nonpos (show 0≤b by omega) (show q≤0 by omega)
        omega
      have qr:q<r:=by
       by_cases z:q<r
       ·exact z
       ·have:=Int.mul_le_mul_of_nonneg_left (show r≤q by omega) (show 0≤b by omega)
        omega
      have qu:q<u:=by
       have:2 * q≤b * q:=Int.mul_le_mul_of_nonneg_right hb2 (by omega)
       omega
      have rl:r≤l:=by
       have:1 * r≤b * r:=Int.mul_le_mul_of_nonneg_right (by omega) (by omega)
       omega
      have hqr:q * L=U * r:=by
       have h5:b * (q * L)=b * (U * r):=by
        rw [← Int.mul_assoc,← hq,hul,hr,← Int.mul_assoc,← Int.mul_assoc,Int.mul_comm U b]
       exact Int.eq_of_mul_eq_mul_left (by omega) h5
      refine ⟨⟨b1,hb3⟩,⟨b1,hb3⟩,q.toNat,by omega,q,r,rfl,rfl,hqr,q0,qr,by omega,fun d h1 h2 h3 h4=>hd d h1 h2 ?_ ?_⟩
      ·rw [hq];exact Int.dvd_trans h3 (Int.dvd_mul_left _ _)
      ·rw [hr];exact Int.dvd_trans h4 (Int.dvd_mul_left _ _)
     ·have e2':(l % b == 0)=false:=by simpa using e2
      simp_arith only [e2']
      refine ⟨u,l,_,rfl,hul,u1,u2,l2,fun d h1 h2 h3 h4=>?_⟩
      by_cases hdb:d=b
      ·subst hdb;exact e2 (Int.emod_eq_zero_of_dvd h4)
      ·exact hd d h1 (by omega) h3 h4
    ·have e1':(u % b == 0)=false:=by simpa using e1
     simp_arith only [e1']
     refine ⟨u,l,_,rfl,hul,u1,u2,l2,fun d h1 h2 h3 h4=>?_⟩
     by_cases hdb:d=b
     ·subst hdb;exact e1 (Int.emod_eq_zero_of_dvd h3)
     ·exact hd d h1 (by omega) h3 h4
   ·rintro δ ⟨u,l,z,rfl,hul,u1,u2,l2,hd⟩
    simp_arith only []
    refine ⟨cI (by simp),aKx (by omega) hL ?_ hul⟩
    rw [show (cA 2 ((30:Int)-2).toNat).length=28 from by simp [cA]] at hd
    have g1:(Int.gcd u l:Int) ∣ u:=Int.gcd_dvd_left ..
    have g2:(Int.gcd u l:Int) ∣ l:=Int.gcd_dvd_right ..
    have g3:(Int.gcd u l:Int)≤u:=Int.le_of_dvd u1 g1
    have g4:0<Int.gcd u l:=Int.gcd_pos_of_ne_zero_left _ (by omega)
    by_cases g5:Int.gcd u l=1
    ·exact g5
    ·exact (hd (Int.gcd u l) (by omega) (by omega) g1 g2).elim
  refine ⟨by decide,by decide,?_⟩
  by_cases e1:c % 4=0
  ·have e1':(c % 4 == 0)=true:=by simpa using e1
   simp_arith only [e1']
   exact key _ (by omega) (by omega) (by unfold aJc;rw [if_pos e1,hpl])
  ·have e1':(c % 4 == 0)=false:=by simpa using e1
   simp_arith only [e1']
   exact key _ (by omega) (by omega) (by unfold aJc;rw [if_neg e1,hpl])
theorem aCi {ns:List Int}{pay:List (List Int)}{r:List Int} (ho:aY ns pay) (hr:r∈aM ns):cG [aU ns pay,aE r]=some (aE (iX ns pay r)):=by
 simp only [cG,cM ho,pX hr]
theorem aDh:∀ ds d,cG ds=some d→o9 (gT d) (bH ["_law_meeting_here","_law_row"] ds)
 | [m,x],d,h=>by
  obtain ⟨ns,pay,rfl,ho,h⟩:=cS (show bX m _=some d from h)
  obtain ⟨r,rfl,hr,h⟩:=qK h
  cases h
  show o9 _ [.im (aU ns pay),.im (aE r)]
  have e0:gL [aE ns,D.tup (pay.map aE)] 0=some (aE ns):=rfl
  have e1:gL [aE ns,D.tup (pay.map aE)] 1=some (D.tup (pay.map aE)):=rfl
  have e2:gL (pay.map aE) ((aM ns).idxOf r:Nat)=some (aE (iX ns pay r)):=aAG (aA2 ho hr)
  simp_arith only [o9,aU,aFq,e0,e1,aEy ho.ok,qM,aAy r hr,e2]
  exact ⟨Nat.le_trans (nU _) (by decide),trivial⟩
theorem aL3 {r:List Int}{h:Nat}{k:Int} (hl:r.length≤1000) (hh:h<r.length):eZ [aE r,.int h,.int k]=some (aE (r.set h k)):=by
 simp only [eZ,cJ]
 rw [if_pos ⟨hl,by omega,by omega⟩]
 rfl
theorem aBy:∀ ds d,eZ ds=some d→nM (gT d) (bH ["_law_row","_law_hand","_law_deed"] ds)
 | [x,.int i,.int k],d,h=>by
  cases e:jE x with
  | none=>simp [eZ,e] at h
  | some r=>
   simp only [eZ,e] at h
   rw [jU e]
   split at h
   ·rename_i hc
    cases h
    obtain ⟨n,rfl⟩:∃ n:Nat,i=n:=⟨i.toNat,by omega⟩
    show nM _ [.im (aE r),.im (.int n),.im (.int k)]
    have hn:n<r.length:=by omega
    have e3:((n:Int)+1)=((n+1:Nat):Int):=by omega
    simp_arith only [nM,aE,e3,aGL r n hn,aCb r (n+1) hn,List.length_append,List.length_map,List.length_cons,List.length_nil,List.length_take,List.length_drop]
    refine ⟨by decide,cI (by omega),cI (by omega),?_⟩
    rw [Int.toNat_natCast,← aG2 r n k hn]
    simp
   ·cases h
theorem aBV {u l:Int} (hl:0<l) (hb:Bd 7000 l) (a b:Sl):k9 (gT (aQ (Rat.divInt u l))) [.im (.int u),.im (.int l),a,b]:=by
 have ea:(if u<0 then -u else u)=(u.natAbs:Int):=by split <;> omega
 obtain ⟨m,rfl⟩:∃ m:Nat,l=m:=⟨l.toNat,by omega⟩
 simp_arith only [k9,oZ,nX,ea]
 refine ⟨fun n δ=>∃ (x y:Nat),δ=[.im (.int u),.im (.int m),.im (.int x),.im (.int y)]∧n=y∧Nat.gcd x y=Int.gcd u m,⟨m,u.natAbs,m,rfl,rfl,rfl⟩,?_⟩
 rintro n δ ⟨x,y,rfl,rfl,hg⟩
 simp_arith only []
 cases n with
 | zero=>
  have hx:x=Int.gcd u m:=by rw [← hg,Nat.gcd_zero_right]
  have gd:(Int.gcd u m) ∣ m:=by
   have:=Int.gcd_dvd_natAbs_right u m
   simpa using this
  have gle:Int.gcd u m≤m:=Nat.le_of_dvd (by omega) gd
  have gpos:0<Int.gcd u m:=Nat.pos_of_dvd_of_pos gd (by omega)
  have bx:Bd 8000 ((Int.gcd u m:Nat):Int):=(hb.of_le (by omega) (by omega)).mono (by decide)
  simp_arith only [Int.natCast_zero,Int.lt_irrefl,decide_false,pD,List.length_cons,List.length_nil,hx,yI hl]
  exact ⟨⟨by omega,bx⟩,⟨by omega,bx⟩,by decide,trivial⟩
 | succ y=>
  have e:decide (0<(((y+1:Nat):Int)))=true:=decide_eq_true (by omega)
  simp_arith only [e]
  refine ⟨by omega,(x % (y+1):Nat),Nat.mod_lt _ (Nat.succ_pos _),y+1,x % (y+1),rfl,rfl,?_⟩
  rw [← hg,Nat.gcd_comm x,Nat.gcd_rec (y+1) x,Nat.gcd_comm]
theorem aNZ {u l:Int} (hl:l≠0) (h1:Bd 7000 u) (h2:Bd 7000 l):eC [.int u,.int l]=some (aQ (Rat.divInt u l)):=if_pos ⟨hl,h1,h2⟩
theorem xH:∀ ds d,eC ds=some d→kC (gT d) (bH ["_law_upper","_law_lower","_law_one","_law_other"] ds)
 | [.int u,.int l],d,h=>by
  simp only [eC] at h
  split at h
  ·rename_i hh
   obtain ⟨hl,b1,b2⟩:=hh
   cases h
   show kC _ [.im (.int u),.im (.int l),.un,.un]
   unfold kC
   simp_arith only []
   by_cases h0:l<0
   ·rw [decide_eq_true h0]
    simp_arith only []
    have e:Rat.divInt u l=Rat.divInt (-u) (-l):=by
     rw [Rat.divInt_eq_div,Rat.divInt_eq_div,Rat.intCast_neg,Rat.intCast_neg]
     grind
    rw [e]
    exact aBV (by omega) b2.neg _ _
   ·rw [decide_eq_false h0]
    simp_arith only []
    exact aBV (by omega) b2 _ _
  ·cases h
theorem aEj (pay:Int) (w d:Rat):Rat.divInt (((d.den:Int)-d.num) * pay * (w.den:Int)+d.num * w.num) ((d.den:Int) * (w.den:Int))=(1-d) * pay+d * w:=by
 have h1:=qW d
 have h2:=qW w
 have n1:=aFb d
 have n2:=aFb w
 rw [Rat.divInt_eq_div,Rat.intCast_add,Rat.intCast_mul,Rat.intCast_mul,Rat.intCast_mul,Rat.intCast_mul,Rat.intCast_sub]
 generalize ((d.den:Int):Rat)=a at *
 generalize ((w.den:Int):Rat)=b at *
 generalize ((d.num:Int):Rat)=x at *
 generalize ((w.num:Int):Rat)=y at *
 grind
theorem aMQ {pay:Int}{w d:Rat} (h1:Bd 1000 pay) (h2:BdR 1000 w) (h3:BdR 1000 d):gR [.int pay,aQ w,aQ d]=some (aQ ((1-d) * pay+d * w)):=by
 simp only [gR,aEH]
 exact if_pos ⟨h1,h2,h3⟩
theorem aBl:∀ ds d,gR ds=some d→nO (gT d) (bH ["_law_pay","_law_worth","_law_patience_here","_law_p","_law_q"] ds)
 | [.int pay,x,y],r,h=>by
  obtain ⟨w,rfl,h1⟩:=u8 (show tV x _=some r from h)
  obtain ⟨d,rfl,h2⟩:=u8 h1
  clear h h1
  split at h2
  ·rename_i hh
   obtain ⟨b1,⟨b2,b3⟩,b4,b5⟩:=hh
   cases h2
   show nO _ [.im (.int pay),.im (aQ w),.im (aQ d),.un,.un]
   have e0:gL [D.int w.num,D.int w.den] 0=some (.int w.num):=rfl
   have e1:gL [D.int w.num,D.int w.den] 1=some (.int w.den):=rfl
   have c1:=b5.sub b4
   have c2:=c1.mul b1
   have c3:=c2.mul b3
   have c4:=b4.mul b2
   have c5:=b5.mul b3
   have c6:=c3.add (c4.mono (by decide))
   have hp:(d.den:Int) * (w.den:Int)≠0:=by
    have:=Int.mul_pos (oX d) (oX w)
    omega
   simp_arith only [nO,oK,oK,e0,e1,aNZ hp (c6.mono (by decide)) (c5.mono (by decide)),aEj]
   exact ⟨.inr ⟨c1.mono (by decide),b1.mono (by decide)⟩,.inr ⟨c2.mono (by decide),b3.mono (by decide)⟩,.inr ⟨b4.mono (by decide),b2.mono (by decide)⟩,.inr ⟨b5.mono (by decide),b3.mono (by decide)⟩,trivial⟩
  ·cases h2
theorem aNY {a b:Rat} (h1:BdR 1000 a) (h2:BdR 1000 b):iF [aQ a,aQ b]=some (.bl (decide (b<a))):=by
 simp only [iF,aEH]
 exact if_pos ⟨h1,h2⟩
theorem aC1:∀ ds d,iF ds=some d→oT (gT d) (bH ["_law_one","_law_other"] ds)
 | [x,y],r,h=>by
  obtain ⟨a,rfl,h1⟩:=u8 (show tV x _=some r from h)
  obtain ⟨b,rfl,h2⟩:=u8 h1
  clear h h1
  split at h2
  ·rename_i hh
   obtain ⟨⟨b1,b2⟩,b3,b4⟩:=hh
   cases h2
   show oT _ [.im (aQ a),.im (aQ b)]
   have e0:∀ w:Rat,gL [D.int w.num,D.int w.den] 0=some (.int w.num):=fun _=>rfl
   have e1:∀ w:Rat,gL [D.int w.num,D.int w.den] 1=some (.int w.den):=fun _=>rfl
   simp_arith only [oT,e0,e1]
   refine ⟨.inr ⟨b1.mono (by decide),b4.mono (by decide)⟩,.inr ⟨b3.mono (by decide),b2.mono (by decide)⟩,?_⟩
   congr 1
   exact decide_eq_decide.mpr (Rat.lt_iff b a).symm
  ·cases h2
section
variable {ns:List Int}{pay:List (List Int)}{d:Rat}{h:Nat}{k:Int}{r fl:List Int}
theorem aLt (i:Int):D.tup [.int i,.int 1]=aQ (i:Rat):=rfl
theorem bdI {i:Int} (h : -9≤i∧i≤9):BdR 1000 (i:Rat):=by
 have b1:Bd 4 i:=by unfold Bd;omega
 have b2:Bd 4 1:=by unfold Bd;decide
 exact ⟨b1.mono (by decide),b2.mono (by decide)⟩
theorem aIA (hd:bW d) {p f:Int} (hp : -9≤p∧p≤9) (hf : -9≤f∧f≤9):BdR 1000 ((1-d) * (p:Rat)+d * (f:Rat)):=by
 have e:=aEj p (f:Rat) d
 rw [← e]
 have bp:Bd 40 d.num:=hd.bits.1
 have bq:Bd 40 (d.den:Int):=hd.bits.2
 have p4:Bd 4 p:=by unfold Bd;omega
 have f4:Bd 4 f:=by unfold Bd;omega
 have o1:Bd 4 1:=by unfold Bd;decide
 have c1:=(((bq.sub bp).mul p4).mul o1)
 have c2:=bp.mul f4
 have c3:=c1.add (c2.mono (by decide))
 have c4:=bq.mul o1
 have pos:(0:Int)<(d.den:Int) * 1:=by have:=oX d;omega
 exact aHV (u:=((d.den:Int)-d.num) * p * 1+d.num * f) (l:=(d.den:Int) * 1) pos (c3.mono (by decide)) (c4.mono (by decide))
open Classical in
theorem aKp (ho:aY ns pay) (hd:bW d) (hr:r∈aM ns) (hl:fl.length=ns.length) (hb:∀ y∈fl, -9≤y∧y≤9) (hh:h<ns.length) (hk:k∈bG ns h) {De:DEnds}{xs:List D} (hx:xs.length≤100) {a6 a8 a9:Sl}
  (hn:∀ a8 a9,De.nx [.im (aU ns pay),.im (aE r),.im (aE fl),.im (aQ d),.ow (xs++if nA ns pay d fl r h k then [qL ((h:Int),k)] else []),.im (.int h),a6,.im (.int k),a8,a9]) :
  nB De [.im (aU ns pay),.im (aE r),.im (aE fl),.im (aQ d),.ow xs,.im (.int h),a6,.im (.int k),a8,a9]:=by
 have rl:=gH hr
 have n3:=(bU ho.ok).1
 have hk':=oF.mp hk
 have hs:=zO hr hk'.1 hk'.2
 have ei:gL ((iX ns pay (r.set h k)).map D.int) (h:Nat)=some (.int (bF ns pay (r.set h k) h)):=dC (by rw [(iR ho hs).1];exact hh)
 have e2:gL ((iX ns pay r).map D.int) (h:Nat)=some (.int (bF ns pay r h)):=dC (by rw [(iR ho hr).1];exact hh)
 have ef:gL (fl.map D.int) (h:Int)=some (.int (fl.getD h 0)):=dC (by omega)
 have er:gL (r.map D.int) (h:Int)=some (.int (r.getD h 0)):=dC (by omega)
 have pb:=jN (h:=h) ho hs
 have qb:=jN (h:=h) ho hr
 have fb : -9≤fl.getD h 0∧fl.getD h 0≤9:=hb _ (by rw [bP (by omega:h<fl.length)];exact List.getElem_mem _)
 have fla:=aMQ (pay:=bF ns pay (r.set h k) h) (w:=((fl.getD h 0:Int):Rat)) (d:=d) (bdI pb).1 (bdI fb) ⟨hd.bits.1.mono (by decide),hd.bits.2.mono (by decide)⟩
 have fm:=aNY (aIA hd pb fb) (bdI qb)
 rw [← aLt] at fla
 rw [← aLt (bF ns pay r h)] at fm
 simp_arith! only [nB,aL3 (show r.length≤1000 by omega) (show h<r.length by omega),aCi ho hs,aCi ho hr,ei,e2,ef,er,List.length_cons,List.length_nil]
 refine ⟨by decide,by decide,?_⟩
 by_cases e1:k=r.getD h 0
 ·rw [show (k == r.getD h 0)=true by simpa using e1]
  simp_arith! only [Bool.not_true]
  have:=hn (.im (.int (bF ns pay (r.set h k) h))) (.im (.tup [.int (bF ns pay r h),.int 1]))
  rw [if_neg (fun g=>g.1 e1),List.append_nil] at this
  exact this
 ·rw [show (k == r.getD h 0)=false by simpa using e1]
  simp_arith! only [Bool.not_false,List.length_cons,List.length_nil,fla,fm]
  refine ⟨by decide,?_⟩
  by_cases e2:((bF ns pay r h:Int):Rat)<(1-d) * bF ns pay (r.set h k) h+d * (fl.getD h 0:Int)
  ·rw [decide_eq_true e2]
   simp_arith! only [List.length_cons,List.length_nil]
   have:=hn (.im (.int (bF ns pay (r.set h k) h))) (.im (.tup [.int (bF ns pay r h),.int 1]))
   rw [if_pos ⟨e1,e2⟩] at this
   exact ⟨by decide,iS (by omega),this⟩
  ·rw [decide_eq_false e2]
   simp_arith! only []
   have:=hn (.im (.int (bF ns pay (r.set h k) h))) (.im (.tup [.int (bF ns pay r h),.int 1]))
   rw [if_neg (fun g=>e2 g.2),List.append_nil] at this
   exact this
open Classical in
noncomputable def dfl (ns:List Int) (pay:List (List Int)) (d:Rat) (fl r:List Int) (n:Nat):List (Int×Int):=(List.range n).flatMap fun h=>((bG ns h).filter fun k=>decide (nA ns pay d fl r h k)).map fun k=>((h:Int),k)
theorem aCm (ho:aY ns pay) (hr:r∈aM ns) (hd:bW d) (hl:fl.length=ns.length) (hb:∀ y∈fl, -9≤y∧y≤9):d6 [aU ns pay,aE r,aE fl,aQ d]=some (.lst ((gK ns pay d fl r).map qL)):=by
 simp only [d6,cM ho,pX hr,gD hd,cJ]
 exact if_pos ⟨hl,hb⟩
end
open Classical in
theorem aBv:∀ ds d,d6 ds=some d→nL (gT d) (bH ["_law_meeting_here","_law_row","_law_floor","_law_patience_here","_law_found","_law_hand","_law_many","_law_deed","_law_pay","_law_here"] ds)
 | [m,y,f,x],res,h=>by
  obtain ⟨ns,pay,rfl,ho,h⟩:=cS (show bX m _=some res from h)
  obtain ⟨r,rfl,hr,h⟩:=qK h
  obtain ⟨d,rfl,hd,h⟩:=gM h
  split at h
  ·rename_i fl ef
   split at h
   ·rename_i hc
    obtain ⟨hl,hb⟩:=hc
    cases h
    rw [jU ef]
    show nL _ [.im (aU ns pay),.im (aE r),.im (aE fl),.im (aQ d),.un,.un,.un,.un,.un,.un]
    have e0:gL [aE ns,D.tup (pay.map aE)] 0=some (aE ns):=rfl
    have n3:=(bU ho.ok).1
    have flen:∀ n,n≤ns.length→(dfl ns pay d fl r n).length≤3 * n:=by
     intro n
     induction n with
     | zero=>intro _;simp [dfl]
     | succ n ih=>
      intro hn
      have:=ih (by omega)
      have e:dfl ns pay d fl r (n+1)=dfl ns pay d fl r n++((bG ns n).filter fun k=>decide (nA ns pay d fl r n k)).map fun k=>((n:Int),k):=by
       unfold dfl
       rw [List.range_succ,List.flatMap_append]
       simp
      rw [e,List.length_append,List.length_map]
      have l1:=List.length_filter_le (fun k=>decide (nA ns pay d fl r n k)) (bG ns n)
      have dn:=aA0 ho (show n<ns.length by omega)
      have l2:(bG ns n).length≤3:=by
       unfold bG
       simp only [List.length_map,List.length_range]
       omega
      omega
    simp_arith! only [nL,rW,e0,fL,List.length_nil]
    refine ⟨by decide,fun j δ=>∃ a5 a6 a7 a8 a9,δ=[.im (aU ns pay),.im (aE r),.im (aE fl),.im (aQ d),.ow ((dfl ns pay d fl r j).map qL),a5,a6,a7,a8,a9],⟨_,_,_,_,_,rfl⟩,?_,?_⟩
    ·rintro j x δ ed ⟨a5,a6,a7,a8,a9,rfl⟩
     rw [rS] at ed
     cases ex:(ns.map D.int)[j]? with
     | none=>rw [ex] at ed;cases ed
     | some z=>
      rw [ex] at ed
      cases ed
      obtain ⟨hj,rfl⟩:=cC ex
      rw [← bP hj 0]
      have dn:=aA0 ho hj
      have fj:=flen j (by omega)
      have dl:(bG ns j).length≤3:=by
       unfold bG
       simp only [List.length_map,List.length_range]
       omega
      simp_arith! only []
      refine ⟨⟨by omega,by omega⟩,fun t δ=>∃ a7 a8 a9,δ=[.im (aU ns pay),.im (aE r),.im (aE fl),.im (aQ d),.ow ((dfl ns pay d fl r j++(((bG ns j).take t).filter fun k=>decide (nA ns pay d fl r j k)).map fun k=>((j:Int),k)).map qL),.im (.int j),.im (.int (ns.getD j 0)),a7,a8,a9],⟨a7,a8,a9,by simp⟩,?_,?_⟩
      ·rintro t x δ ed ⟨a7,a8,a9,rfl⟩
       rw [mR] at ed
       obtain ⟨ht,rfl⟩:=cC ed
       have hk:(bG ns j)[t]∈bG ns j:=List.getElem_mem ht
       refine aKp ho hd hr hl hb hj hk ?_ fun a8 a9=>⟨.im (.int (bG ns j)[t]),a8,a9,?_⟩
       ·rw [List.length_map,List.length_append,List.length_map]
        have:=List.length_filter_le (fun k=>decide (nA ns pay d fl r j k)) ((bG ns j).take t)
        rw [List.length_take] at this
        omega
       ·rw [List.take_succ,List.getElem?_eq_getElem ht,Option.toList_some,List.filter_append,List.map_append]
        by_cases g:nA ns pay d fl r j (bG ns j)[t]
        ·rw [if_pos g,List.filter_cons_of_pos (by simpa using g)]
         simp
        ·rw [if_neg g,List.filter_cons_of_neg (by simpa using g)]
         simp
      ·rintro δ ⟨a7,a8,a9,rfl⟩
       rw [mR,List.length_map,List.take_length]
       have e:dfl ns pay d fl r (j+1)=dfl ns pay d fl r j++((bG ns j).filter fun k=>decide (nA ns pay d fl r j k)).map fun k=>((j:Int),k):=by
        unfold dfl
        rw [List.range_succ,List.flatMap_append]
        simp
       rw [e]
       exact ⟨_,_,_,_,_,rfl⟩
    ·rintro δ ⟨a5,a6,a7,a8,a9,rfl⟩
     simp_arith! only []
     rw [lC,List.length_map]
     rfl
   ·cases h
  ·cases h
section
variable {ns:List Int}{pay:List (List Int)}{d:Rat}{r a b:List Int}
def aBU (ns:List Int) (pay:List (List Int)) (d:Rat) (r a b:List Int):Prop:=∀ x∈[r,a,b],gK ns pay d [bF ns pay a 0,bF ns pay b 1] x=[]
open Classical in
theorem aKU (ho:aY ns pay) (hd:bW d) (h2:ns.length=2) (hr:r∈aM ns) (ha:a∈aM ns) (hb:b∈aM ns) {De:DEnds}{g:Bool}{a2 a3 a8:Sl}
  (hn:∀ a8,De.nx [.im (aU ns pay),.im (aQ d),a2,a3,.im (aE r),.im (.bl (g || decide (aBU ns pay d r a b))),.im (aE a),.im (aE b),a8]) :
  oN De [.im (aU ns pay),.im (aQ d),a2,a3,.im (aE r),.im (.bl g),.im (aE a),.im (aE b),a8]:=by
 have e1:gL ((iX ns pay a).map D.int) 0=some (.int (bF ns pay a 0)):=dC (i:=0) (by rw [(iR ho ha).1];omega)
 have e2:gL ((iX ns pay b).map D.int) 1=some (.int (bF ns pay b 1)):=dC (i:=1) (by rw [(iR ho hb).1];omega)
 have q1:=jN (h:=0) ho ha
 have q2:=jN (h:=1) ho hb
 have fd:∀ x,x∈aM ns→d6 [aU ns pay,aE x,.tup [.int (bF ns pay a 0),.int (bF ns pay b 1)],aQ d]=some (.lst ((gK ns pay d [bF ns pay a 0,bF ns pay b 1] x).map qL)):=fun x hx=>aCm (fl:=[bF ns pay a 0,bF ns pay b 1]) ho hx hd (by rw [h2];rfl) fun y hy=>by
  simp only [List.mem_cons,List.not_mem_nil,or_false] at hy
  rcases hy with rfl | rfl <;> assumption
 simp_arith! only [oN,aCi ho ha,aCi ho hb,e1,e2,List.length_cons,List.length_nil,hJ]
 refine ⟨by decide,by decide,by decide,fun x=>match jE x with
  | some x=>!(gK ns pay d [bF ns pay a 0,bF ns pay b 1] x).isEmpty
  | none=>false,fun x=>x,fun x hx=>?_,?_⟩
 ·obtain ⟨y,hy,rfl⟩:∃ y,y∈aM ns∧x=aE y:=by
   simp only [List.mem_cons,List.not_mem_nil,or_false] at hx
   rcases hx with rfl | rfl | rfl
   ·exact ⟨r,hr,rfl⟩
   ·exact ⟨a,ha,rfl⟩
   ·exact ⟨b,hb,rfl⟩
  simp_arith! only [δc,List.map_cons,List.map_nil,fd y hy,cJ,List.isEmpty_map]
  exact ⟨trivial,fun _=>trivial⟩
 ·by_cases c:aBU ns pay d r a b
  ·have hf:([aE r,aE a,aE b].filter fun x=>match jE x with
    | some x=>!(gK ns pay d [bF ns pay a 0,bF ns pay b 1] x).isEmpty
    | none=>false)=[]:=by
    rw [List.filter_eq_nil_iff]
    intro x hx
    obtain ⟨y,hy,rfl⟩:∃ y,y∈[r,a,b]∧x=aE y:=by
     simp only [List.mem_cons,List.not_mem_nil,or_false] at hx
     rcases hx with rfl | rfl | rfl
     ·exact ⟨r,by simp,rfl⟩
     ·exact ⟨a,by simp,rfl⟩
     ·exact ⟨b,by simp,rfl⟩
    simp only [cJ,c y hy]
    simp
   rw [hf]
   simp_arith! only [List.map_nil,List.isEmpty_nil,Bool.not_true,Bool.not_false]
   have:=hn (.im (.tup [.int (bF ns pay a 0),.int (bF ns pay b 1)]))
   rw [decide_eq_true c,Bool.or_true] at this
   exact this
  ·obtain ⟨y,hy,hne⟩:∃ y,y∈[r,a,b]∧gK ns pay d [bF ns pay a 0,bF ns pay b 1] y≠[]:=by
    apply Classical.byContradiction
    intro z
    exact c fun x hx=>Classical.byContradiction fun w=>z ⟨x,hx,w⟩
   have hf:(([aE r,aE a,aE b].filter fun x=>match jE x with
    | some x=>!(gK ns pay d [bF ns pay a 0,bF ns pay b 1] x).isEmpty
    | none=>false).map fun x=>x).isEmpty=false:=by
    rw [List.map_id',List.isEmpty_eq_false_iff_exists_mem]
    refine ⟨aE y,List.mem_filter.mpr ⟨?_,?_⟩⟩
    ·simp only [List.mem_cons,List.not_mem_nil,or_false] at hy ⊢
     rcases hy with rfl | rfl | rfl <;> simp
    ·simp only [cJ]
     cases e:gK ns pay d [bF ns pay a 0,bF ns pay b 1] y with
     | nil=>exact absurd e hne
     | cons _ _=>rfl
   rw [hf]
   simp_arith! only [Bool.not_true,Bool.not_false]
   have:=hn (.im (.tup [.int (bF ns pay a 0),.int (bF ns pay b 1)]))
   rw [decide_eq_false c,Bool.or_false] at this
   exact this
open Classical in
theorem aF4 (ho:aY ns pay) (hd:bW d) (h2:ns.length=2) (hr:r∈aM ns):decide (rH ns pay d r)=(aM ns).any fun a=>(aM ns).any fun b=>decide (aBU ns pay d r a b):=by
 rw [Bool.eq_iff_iff,decide_eq_true_eq,← mP,aHW ho hd h2 hr]
 simp only [List.any_eq_true,decide_eq_true_eq]
 rfl
theorem aJf (ho:aY ns pay) (hd:bW d) (h2:ns.length=2):fO [aU ns pay,aQ d]=some (.lst ((aX ns pay d).map aE)):=by
 simp only [fO,cM ho,gD hd]
 exact if_pos h2
theorem aDS {α:Type} (l:List α) (p:α→Bool) {i:Nat} (hi:i<l.length):(l.take (i+1)).any p=((l.take i).any p || p l[i]):=by
 rw [List.take_succ,List.getElem?_eq_getElem hi,Option.toList_some,List.any_append]
 simp
end
open Classical in
theorem aC3:∀ ds d,fO ds=some d→o5 (gT d) (bH ["_law_meeting_here","_law_patience_here","_law_some","_law_found","_law_row","_law_good","_law_one","_law_other","_law_floor"] ds)
 | [m,x],res,h=>by
  obtain ⟨ns,pay,rfl,ho,h⟩:=cS (show bX m _=some res from h)
  obtain ⟨d,rfl,hd,h⟩:=gM h
  split at h
  ·rename_i h2
   cases h
   show o5 _ [.im (aU ns pay),.im (aQ d),.un,.un,.un,.un,.un,.un,.un]
   have e0:gL [aE ns,D.tup (pay.map aE)] 0=some (aE ns):=rfl
   have l27:=(j4 ho.ok).2
   simp_arith! only [o5,tU,e0,aEy ho.ok,fL,List.length_nil]
   refine ⟨by decide,fun i δ=>∃ a4 a5 a6 a7 a8,δ=[.im (aU ns pay),.im (aQ d),.im (.lst ((aM ns).map aE)),.ow ((((aM ns).take i).filter fun r=>decide (rH ns pay d r)).map aE),a4,a5,a6,a7,a8],⟨_,_,_,_,_,rfl⟩,?_,?_⟩
   ·rintro i x δ ed ⟨a4,a5,a6,a7,a8,rfl⟩
    obtain ⟨hi,rfl⟩:=cC ed
    have hr:(aM ns)[i]∈aM ns:=List.getElem_mem hi
    generalize hrr:(aM ns)[i]=r at *
    simp_arith! only [r9,fL]
    refine ⟨fun j δ=>∃ a6 a7 a8,δ=[.im (aU ns pay),.im (aQ d),.im (.lst ((aM ns).map aE)),.ow ((((aM ns).take i).filter fun r=>decide (rH ns pay d r)).map aE),.im (aE r),.im (.bl (((aM ns).take j).any fun a=>(aM ns).any fun b=>decide (aBU ns pay d r a b))),a6,a7,a8],⟨_,_,_,rfl⟩,?_,?_⟩
    ·rintro j x δ ed ⟨a6,a7,a8,rfl⟩
     obtain ⟨hj,rfl⟩:=cC ed
     have ha:(aM ns)[j]∈aM ns:=List.getElem_mem hj
     generalize haa:(aM ns)[j]=a at *
     simp_arith! only []
     refine ⟨fun t δ=>∃ a7 a8,δ=[.im (aU ns pay),.im (aQ d),.im (.lst ((aM ns).map aE)),.ow ((((aM ns).take i).filter fun r=>decide (rH ns pay d r)).map aE),.im (aE r),.im (.bl ((((aM ns).take j).any fun a=>(aM ns).any fun b=>decide (aBU ns pay d r a b)) || ((aM ns).take t).any fun b=>decide (aBU ns pay d r a b))),.im (aE a),a7,a8],⟨a7,a8,by simp⟩,?_,?_⟩
     ·rintro t x δ ed ⟨a7,a8,rfl⟩
      obtain ⟨ht,rfl⟩:=cC ed
      have hb:(aM ns)[t]∈aM ns:=List.getElem_mem ht
      refine aKU ho hd h2 hr ha hb fun a8=>⟨.im (aE (aM ns)[t]),a8,?_⟩
      rw [aDS _ _ ht,Bool.or_assoc]
     ·rintro δ ⟨a7,a8,rfl⟩
      rw [List.length_map,List.take_length]
      refine ⟨.im (aE a),a7,a8,?_⟩
      rw [aDS _ _ hj,haa]
    ·rintro δ ⟨a6,a7,a8,rfl⟩
     rw [List.length_map,List.take_length,← aF4 ho hd h2 hr]
     have fl:((((aM ns).take i).filter fun r=>decide (rH ns pay d r)).map aE).length<sizeLine:=by
      rw [List.length_map]
      refine iS (Nat.le_trans (List.length_filter_le _ _) ?_)
      rw [List.length_take]
      omega
     have ft:((aM ns).take (i+1)).filter (fun r=>decide (rH ns pay d r))=((aM ns).take i).filter (fun r=>decide (rH ns pay d r))++if decide (rH ns pay d r)=true then [r] else []:=by
      rw [List.take_succ,List.getElem?_eq_getElem hi,hrr,Option.toList_some,List.filter_append]
      congr 1
      by_cases c:rH ns pay d r
      ·simp [c]
      ·simp [c]
     rw [ft]
     by_cases c:rH ns pay d r
     ·simp_arith! only [c,decide_true]
      refine ⟨fl,?_⟩
      rw [List.map_append]
      exact ⟨_,_,_,_,_,rfl⟩
     ·simp_arith! only [c,decide_false,List.append_nil]
      exact ⟨_,_,_,_,_,rfl⟩
   ·rintro δ ⟨a4,a5,a6,a7,a8,rfl⟩
    simp_arith! only []
    rw [List.length_map,List.take_length]
    rfl
  ·cases h
section
variable {ns:List Int}{pay th:List (List Int)}{k:Nat}{part r row:List Int}
theorem aA3:((iN k part r:Nat):Int)=if (cK part r).length=1 then 1+((cK part r).map fun (h:Nat)=>(h:Int)).sum else (k:Int):=by
 unfold iN
 split
 ·rename_i h e
  rw [e]
  simp
 ·rename_i hne
  have:(cK part r).length≠1:=by
   intro z
   obtain ⟨x,hx⟩:=List.length_eq_one_iff.mp z
   exact hne x hx
  rw [if_neg this]
def xT (ns:List Int) (k:Nat) (part:List Int):List Int:=(aM ns).map fun r=>((iN k part r:Nat):Int)
theorem aFA (hl:r.length=part.length):((cA 0 part.length).filter fun x=>match x with
  | .int j=>decide (r.getD j.toNat 0≠part.getD j.toNat 0)
  | _=>false).map (fun x=>x)=((cK part r).map fun (h:Nat)=>(h:Int)).map D.int:=by
 unfold cA cK
 rw [List.map_id',List.filter_map,List.map_map]
 have e:((fun x=>match x with
  | .int j=>decide (r.getD j.toNat 0≠part.getD j.toNat 0)
  | _=>false) ∘ fun (k:Nat)=>D.int (0+(k:Int)))=fun h=>decide (r.getD h 0≠part.getD h 0):=by
  funext h
  simp [Function.comp]
 rw [e]
 refine List.map_congr_left fun h _=>?_
 simp [Function.comp]
theorem aCY:(cK part r).length≤part.length:=by
 unfold cK
 exact Nat.le_trans (List.length_filter_le _ _) (by simp)
theorem aIS (ho:aY ns pay) (hm:part∈aM ns) (hrow:row∈aM ns) {De:DEnds}{a2 a3 a7 a8:Sl}
  (hn:∀ a7 a8,De.nx [.im (aU ns pay),.im (aE row),a2,a3,.im (.int k),.im (aE part),.ow ((xT ns k part).map D.int),a7,a8]) :
  fL (gIl (aR cF (aC (bK fK (aF 0) (gC (.int 0))) aJ))) (cU 7) lT De [.im (aU ns pay),.im (aE row),a2,a3,.im (.int k),.im (aE part),.ow [],a7,a8]:=by
 have e0:gL [aE ns,D.tup (pay.map aE)] 0=some (aE ns):=rfl
 have l2:=(j4 ho.ok).2
 have n3:=(bU ho.ok).1
 have pl:=gH hm
 have rwl:=gH hrow
 simp_arith! only [fL,e0,aEy ho.ok]
 refine ⟨fun j δ=>∃ a7 a8,δ=[.im (aU ns pay),.im (aE row),a2,a3,.im (.int k),.im (aE part),.ow ((((aM ns).take j).map fun r=>((iN k part r:Nat):Int)).map D.int),a7,a8],⟨a7,a8,rfl⟩,?_,?_⟩
 ·rintro j x δ ed ⟨a7,a8,rfl⟩
  obtain ⟨hj,rfl⟩:=cC ed
  have hr:(aM ns)[j]∈aM ns:=List.getElem_mem hj
  generalize hrr:(aM ns)[j]=r at *
  have rl:=gH hr
  simp_arith! only [lT,hJ,List.length_map]
  refine ⟨⟨by omega,by omega⟩,by rw [iG];exact cI (by omega),fun x=>match x with
   | .int j=>decide (r.getD j.toNat 0≠part.getD j.toNat 0)
   | _=>false,fun x=>x,fun x hx=>?_,?_⟩
  ·unfold cA at hx
   obtain ⟨h,hh,rfl⟩:=List.mem_map.mp hx
   have hh':h<part.length:=by
    have:=List.mem_range.mp hh
    omega
   have i1:gL (r.map D.int) (h:Int)=some (.int (r.getD h 0)):=dC (by omega)
   have i2:gL (part.map D.int) (h:Int)=some (.int (part.getD h 0)):=dC hh'
   simp_arith! only [δc,List.map_cons,List.map_nil,Int.zero_add,i1,i2,Int.toNat_natCast]
   refine ⟨by decide,?_,fun _=>trivial⟩
   rw [Bool.eq_iff_iff]
   simp
  ·have sd:=aFA (part:=part) (r:=r) (by rw [rl,pl])
   have hlen:=congrArg List.length sd
   rw [List.length_map,List.length_map,List.length_map] at hlen
   rw [Int.toNat_natCast,show row.length=part.length by omega,sd,hlen]
   have sl:=aCY (part:=part) (r:=r)
   simp_arith! only [List.length_map,aCg,nI,h8,List.length_cons,List.length_nil]
   refine ⟨by decide,by decide,by decide,?_⟩
   have hz:∀ v:Int,v=((iN k part r:Nat):Int)→(((List.take j (aM ns)).length<sizeLine)∧∃ a7 a8,[Sl.im (aU ns pay),.im (aE row),a2,a3,.im (.int k),.im (aE part),.ow ((((aM ns).take j).map fun r=>((iN k part r:Nat):Int)).map D.int++[.int v]),.im (aE r),.im (.lst (((cK part r).map fun (h:Nat)=>(h:Int)).map D.int))]=[.im (aU ns pay),.im (aE row),a2,a3,.im (.int k),.im (aE part),.ow ((((aM ns).take (j+1)).map fun r=>((iN k part r:Nat):Int)).map D.int),a7,a8]):=by
    intro v hv
    refine ⟨iS (by rw [List.length_take];omega),.im (aE r),.im (.lst (((cK part r).map fun (h:Nat)=>(h:Int)).map D.int)),?_⟩
    rw [List.take_succ,List.getElem?_eq_getElem hj,hrr,Option.toList_some,List.map_append,List.map_append,hv]
    rfl
   by_cases hone:(cK part r).length=1
   ·have eb:(((cK part r).length:Int) == 1)=true:=by rw [hone];rfl
    rw [eb]
    have ea:gL [D.int (k:Int),D.int (1+((cK part r).map fun (h:Nat)=>(h:Int)).sum)] 1=some (.int (1+((cK part r).map fun (h:Nat)=>(h:Int)).sum)):=rfl
    simp_arith! only [ea,List.length_map]
    exact hz _ (by rw [aA3,if_pos hone])
   ·have eb:(((cK part r).length:Int) == 1)=false:=by
     rw [beq_eq_false_iff_ne]
     omega
    rw [eb]
    have ea:gL [D.int (k:Int),D.int (1+((cK part r).map fun (h:Nat)=>(h:Int)).sum)] 0=some (.int (k:Int)):=rfl
    simp_arith! only [ea,List.length_map]
    exact hz _ (by rw [aA3,if_neg hone])
 ·rintro δ ⟨a7,a8,rfl⟩
  rw [List.length_map,List.take_length]
  exact hn _ _
theorem aJK (ho:aY ns pay) (H:f9 ns row th):gW [aU ns pay,aE row,.tup (th.map aE)]=some (fN (dG ns row th)):=vO ho H
end
theorem aAR:∀ ds d,gW ds=some d→l8 (gT d) (bH ["_law_meeting_here","_law_row","_law_threats","_law_found","_law_k","_law_one","_law_nexts","_law_other","_law_some"] ds)
 | [m,p,t],y,h=>by
  obtain ⟨ns,pay,row,th,rfl,rfl,rfl,ho,H,h⟩:=wK (show kW m p t _=some y from h)
  cases h
  show l8 _ [.im (aU ns pay),.im (aE row),.im (.tup (th.map aE)),.un,.un,.un,.un,.un,.un]
  have n3:=(bU ho.ok).1
  have tl:=H.many
  have hrow:row∈aM ns:=l3 H (k:=0) (by omega)
  simp_arith! only [l8,rF,fL,List.length_nil,List.length_map,List.length_cons]
  refine ⟨by decide,by decide,cI (by omega),fun i δ=>∃ a4 a5 a6 a7 a8,δ=[.im (aU ns pay),.im (aE row),.im (.tup (th.map aE)),.ow ((List.range i).map fun k=>D.tup [aE (dY row th k),aE (xT ns k (dY row th k))]),a4,a5,a6,a7,a8],⟨_,_,_,_,_,rfl⟩,?_,?_⟩
  ·rintro i x δ ed ⟨a4,a5,a6,a7,a8,rfl⟩
   rw [rS,show [aE row]++th.map aE=(row::th).map aE from rfl] at ed
   cases ex:((row::th).map aE)[i]? with
   | none=>rw [ex] at ed;cases ed
   | some z=>
    rw [ex] at ed
    cases ed
    obtain ⟨hi,rfl⟩:=cC ex
    have hi':i<1+th.length:=by rw [List.length_cons] at hi;omega
    have ep:(row::th)[i]=dY row th i:=(bP hi _).symm
    have hm:=l3 H hi'
    rw [ep]
    have last:∀ De:DEnds,(∀ a4 a5 a6 a7 a8,De.nx [.im (aU ns pay),.im (aE row),.im (.tup (th.map aE)),.ow ((List.range (i+1)).map fun k=>D.tup [aE (dY row th k),aE (xT ns k (dY row th k))]),a4,a5,a6,a7,a8])→∀ a7 a8,pM 6 (vM 3 (dE (aC (aF 5) (aC (bN eR (aC (aF 6) aJ)) aJ)))) De [.im (aU ns pay),.im (aE row),.im (.tup (th.map aE)),.ow ((List.range i).map fun k=>D.tup [aE (dY row th k),aE (xT ns k (dY row th k))]),.im (.int i),.im (aE (dY row th i)),.ow ((xT ns i (dY row th i)).map D.int),a7,a8]:=by
     intro De hn a7 a8
     simp_arith! only [List.length_cons,List.length_nil,List.length_map,List.length_range]
     refine ⟨by decide,iS (by omega),?_⟩
     have:=hn (.im (.int i)) (.im (aE (dY row th i))) (.im (.lst ((xT ns i (dY row th i)).map D.int))) a7 a8
     rw [List.range_succ,List.map_append] at this
     exact this
    simp_arith! only [pU,List.length_nil]
    refine ⟨by decide,aIS ho hm hrow fun a7 a8=>last _ (fun _ _ _ _ _=>?_) a7 a8⟩
    exact ⟨_,_,_,_,_,rfl⟩
  ·rintro δ ⟨a4,a5,a6,a7,a8,rfl⟩
   simp_arith! only []
   rw [lC,List.length_append,List.length_cons,List.length_nil,List.length_map]
   congr 1
   unfold dG
   rw [List.map_map,show 0+1+th.length=1+th.length by omega]
   rfl
theorem aDa:∀ ds p,bO ds=some p→kY (aFK p) (bH ["_law_way","_law_meeting_here","_law_row","_law_patience_here","_law_found","e"] ds)
 | [.int w,m,r,x],p,h=>by
  show kY _ [.im (.int w),.im m,.im r,.im x,.un,.un]
  simp only [bO] at h
  split at h
  ·rename_i hw
   obtain ⟨ns,pay,d,rfl,rfl,ho,hd,h⟩:=zR h
   cases h
   have e:(w == 0)=true:=by simpa using hw
   simp_arith! only [kY,mE,aAo,aDx,aAZ,oE,j3,tH ho hd,e]
   refine ⟨by decide,fun c hc=>⟨hc.2,?_⟩,fun y hy=>?_⟩
   ·simp_arith! only [List.replicate,DEnds.off]
    exact .inr ⟨fun z=>z hc.1,rfl⟩
   ·exact .inl ⟨hy.1,hy.2⟩
  ·rename_i hw
   have e:(w == 0)=false:=by simpa using hw
   split at h
   ·rename_i hw1
    obtain ⟨ns,pay,d,rfl,rfl,ho,hd,h⟩:=zR h
    cases h
    have e1:(w == 1)=true:=by simpa using hw1
    simp_arith! only [kY,mE,aAo,aDx,aAZ,oE,iT,tH ho hd,e,e1]
    refine ⟨by decide,by decide,fun c hc=>⟨hc.2,?_⟩,fun y hy=>?_⟩
    ·simp_arith! only [List.replicate,DEnds.off]
     exact .inr ⟨fun z=>z hc.1,rfl⟩
    ·exact .inl ⟨hy.1,hy.2⟩
   ·rename_i hw1
    obtain ⟨ns,pay,row,d,rfl,rfl,rfl,ho,hr,hd,h⟩:=aEG h
    cases h
    have e1:(w == 1)=false:=by simpa using hw1
    simp_arith! only [kY,mE,aAo,aDx,aAZ,oE,lM,aEZ ho hr hd,e,e1]
    refine ⟨by decide,by decide,fun c hc=>⟨hc.2,?_⟩,fun y hy=>?_⟩
    ·simp_arith! only [List.replicate,DEnds.off]
     exact .inr ⟨fun z=>z hc.1,rfl⟩
    ·exact .inl ⟨hy.1,hy.2⟩
section
variable {ns0:List Int}
theorem aLp {k:Int} (hk:0≤k):eG [.lst (ns0.map D.int),.int k]=some (.int (ns0.getD k.toNat 0)):=by
 unfold eG
 simp only [h8,if_pos hk]
end
noncomputable def aFx:GS:=(bE (bS (bN eR (aC (gF (fB [none,some 5,some 3] (gIt (dE (aC (gC (.int 0)) (aC (gC (.int 1)) aJ)))) (cU 0) (bN aMN (aC (gF (fB [none,some 0,some 2] (gIl (aF 1)) (cU 0) (bK fK (aR cG (aC (aF 2) (aC (aF 0) aJ))) (aF 1)))) aJ)))) aJ)) (cU 8)) (bE (bS (bN eR (aC (gF (fB [none,some 3,some 7] (gIt (dE (aC (gC (.int 0)) (aC (gC (.int 1)) aJ)))) (cU 0) (bK fK (aR cG (aC (aF 1) (aC (bK fK (aF 2) (aF 0)) aJ))) (aF 0)))) aJ)) (cU 9)) (bE (j0 (gOr (cO (bK yC (aF 6) (aF 8))) (cO (bK yC (aF 9) (aF 8)))) (dH (gC (.bl false))) fR) (bE (j0 (vT (gF (hJ [none,some 5] (gIt (aF 7)) (cU 0) (cO (bK t6 (aF 0) (aF 1))) (aF 0)))) (dH (gC (.bl false))) fR) (fL (gIl (aR cF (aC (bK fK (aF 3) (gC (.int 0))) aJ))) (cU 10) v5)))))
noncomputable def aDj:GS:=(bE (bS (aR eD (aC (aR eG (aC (aF 0) (aC (bK j5 (bK rQ (gC (.int 2)) (aF 1)) (gC (.int 1))) aJ))) aJ)) (cU 4)) (bE (bS (aR fO (aC (aF 3) (aC (aF 4) aJ))) (cU 5)) (bE (j0 (cO (bK yC (aR lH (aC (aF 3) (aC (aF 4) aJ))) (bN eR (aC (aF 5) aJ)))) (dH (gC (.bl false))) fR) (bE (bS (iV bO (aC (gC (.int 0)) (aC (aF 3) (aC (aF 5) (aC (aF 4) aJ))))) (cU 6)) (bE (bS (iV bO (aC (gC (.int 1)) (aC (aF 3) (aC (aF 5) (aC (aF 4) aJ))))) (cU 7)) (j0 (aF6 (vT (aF 5))) (j0 (gOr (cO (bK yC (aF 6) (gC (.str (PySem.Str.ofString "no pact"))))) (gOr (cO (bK yC (aF 7) (gC (.str (PySem.Str.ofString "no pact"))))) (cO (bK yC (iV bO (aC (gC (.int 2)) (aC (aF 3) (aC (dE (aC (gC (.int 0)) (aC (gC (.int 0)) aJ))) (aC (aF 4) aJ))))) (gC (.str (PySem.Str.ofString "no pact"))))))) (dH (gC (.bl false))) fR) aFx))))))
noncomputable def aIn:GS:=(bE (j0 (gOr (cO (bK oGt (bN oR (aC (bK fK (aF 3) (gC (.int 0))) aJ)) (gC (.int 2)))) (cO (bK oGt (bN oR (aC (bK fK (aF 3) (gC (.int 1))) aJ)) (gC (.int 6))))) (bS (iV cB (aC (bK rQ (gC (.int 9)) (aF 2)) aJ)) (cU 3)) fR) aDj)
section
variable {ns:List Int}{pay th:List (List Int)}{d:Rat}{r:List Int}
theorem aNu (ho:aY ns pay) (hd:bW d):lH [aU ns pay,aQ d]=some (.tup ((aX ns pay d).map aE)):=by
 simp only [lH,cM ho,gD hd]
theorem aAf (r:List Int) (l:List (List Int)):(l.map fun x=>x == r).any id=l.contains r:=by
 induction l with
 | nil=>rfl
 | cons x l ih=>rw [List.map_cons,List.any_cons,ih,List.contains_cons,id];rw [Bool.beq_comm]
theorem aJF (a b:Bool):oP (.bl a) (.bl b)=some (a == b):=by unfold oP;rfl
theorem aGs {k:Nat}:∀ {l:List D},(∀ x∈l,pZ x≤k)→k8 l≤k
 | [],_=>by unfold k8;omega
 | x::l,h=>by
  unfold k8
  have h1:=h x List.mem_cons_self
  have h2:=aGs (l:=l) fun y hy=>h y (List.mem_cons_of_mem _ hy)
  omega
theorem aJM (pl:List (List Int×List Int)):pZ (fN pl)≤32:=by
 have:k8 (pl.map fun s=>D.tup [aE s.1,aE s.2])≤3:=aGs fun x hx=>by
  obtain ⟨s,_,rfl⟩:=List.mem_map.mp hx
  have e1:=qB s.1
  have e2:=qB s.2
  show pZ (.tup [aE s.1,aE s.2])≤3
  unfold pZ k8 k8 k8
  omega
 show pZ (.tup (pl.map fun s=>D.tup [aE s.1,aE s.2]))≤32
 unfold pZ
 omega
theorem aIE (a b:Int×Int):oP (qL a) (qL b)=some (a == b):=by
 have:=xK [a.1,a.2] [b.1,b.2]
 refine this.trans ?_
 congr 1
 rw [Bool.eq_iff_iff]
 simp [Prod.ext_iff]
theorem aAq (x:Int×Int):∀ l:List (Int×Int),wI (qL x) (l.map qL)=some (l.map fun y=>y == x)
 | []=>rfl
 | y::l=>by
  rw [List.map_cons,wI,aIE,aAq x l]
  rfl
theorem aAr:∀ l:List (Int×Int),k8 (l.map qL)≤1
 | []=>by rw [List.map_nil,k8];omega
 | x::l=>by
  rw [List.map_cons,k8]
  have:=aAr l
  have e:pZ (qL x)=1:=qB [x.1,x.2]
  omega
theorem aLY (ho:aY ns pay) (hd:bW d) (z:D):bO [.int 0,aU ns pay,z,aQ d]=some (v4 (aX ns pay d≠[]) fun y=>y=aE (cD ns pay d)):=by
 simp only [bO,if_true]
 exact tH ho hd
theorem aL9 (ho:aY ns pay) (hd:bW d) (z:D):bO [.int 1,aU ns pay,z,aQ d]=some (v4 (aX ns pay d≠[]) fun y=>∃ th,y = .tup (th.map aE)∧iJ ns pay d th):=by
 simp only [bO]
 rw [if_neg (by decide)]
 exact tH ho hd
theorem aI3 (ho:aY ns pay) (hd:bW d) (hr:r∈aM ns):bO [.int 2,aU ns pay,aE r,aQ d]=some (v4 (aX ns pay d≠[]) (aG6 ns pay d r)):=by
 simp only [bO]
 rw [if_neg (by decide),if_neg (by decide)]
 exact aEZ ho hr hd
theorem aNM (ho:aY ns pay) (hk:aX ns pay d≠[]):(cD ns pay d).length=ns.length∧∀ y∈cD ns pay d, -9≤y∧y≤9:=by
 refine ⟨by simp [cD],fun y hy=>?_⟩
 unfold cD at hy
 obtain ⟨h,_,rfl⟩:=List.mem_map.mp hy
 obtain ⟨r,hr,e⟩:=uP (ns:=ns) (pay:=pay) hk h
 rw [← e]
 exact jN ho (List.mem_filter.mp hr).1
theorem aMV (ho:aY ns pay) (hd:bW d) (hk:aX ns pay d≠[]) (H:iJ ns pay d th) (hr:r∈aM ns) {De:DEnds}{a0 a1 a2 a6 a9 a11 a12:Sl}
  (hn:∀ a11 a12,De.nx [a0,a1,a2,.im (aU ns pay),.im (aQ d),.im (.lst ((aX ns pay d).map aE)),a6,.im (.tup (th.map aE)),.im (aE (cD ns pay d)),a9,.im (aE r),a11,a12]) :
  v5 De [a0,a1,a2,.im (aU ns pay),.im (aQ d),.im (.lst ((aX ns pay d).map aE)),a6,.im (.tup (th.map aE)),.im (aE (cD ns pay d)),a9,.im (aE r),a11,a12]:=by
 have ht:f9 ns r th:=⟨hr,H.len,fun x hx=>(List.mem_filter.mp (H.all hx)).1⟩
 have f1:mK [aU ns pay,aE r,.tup (th.map aE)]=some (fN (dG ns r th)):=by
  simp only [mK,vO ho ht]
 have f2:o6 [aU ns pay,fN (dG ns r th),aQ d]=some (.bl ((aX ns pay d).contains r)):=by
  simp only [o6,cM ho,nS (rX ho ht),gD hd]
  congr 2
  rw [Bool.eq_iff_iff,decide_eq_true_eq,aDD ho hd H hk hr ht]
  simp
 obtain ⟨fo1,fo2⟩:=aNM ho hk
 have f3:=aCm (fl:=cD ns pay d) ho hr hd fo1 fo2
 have dr:=nU (aX ns pay d)
 simp_arith! only [v5,f1,aJK ho ht,mJ,Bool.not_true,aI3 ho hd hr]
 refine ⟨aJM _,?_⟩
 intro y hy
 have hw:aG6 ns pay d r y:=by
  rcases hy with q | q
  ·exact q.2
  ·exact absurd hk q.1
 rcases hw with ⟨hin,rfl⟩ | ⟨hout,x,hx,rfl⟩
 ·have hc:(aX ns pay d).contains r=true:=by simpa using hin
  simp_arith! only [f2,oIn,nI,qM,aAf,hc,aJF,aEL,zN,aDB,BEq.rfl,Bool.not_true]
  exact ⟨by omega,by decide,by omega,by decide,hn _ _⟩
 ·have hc:(aX ns pay d).contains r=false:=by simpa using hout
  have dp:=aAr (gK ns pay d (cD ns pay d) r)
  have ha:((gK ns pay d (cD ns pay d) r).map fun y=>y == x).any id=true:=by
   rw [List.any_map,List.any_eq_true]
   exact ⟨x,hx,by simp⟩
  simp_arith! only [f2,oIn,t6,nI,qM,aAf,hc,aJF,aEL,zN,aDB,BEq.rfl,Bool.not_true,Bool.not_false,f3,aAq,ha]
  exact ⟨by omega,by decide,by omega,by decide,by omega,hn _ _⟩
theorem aKb (ho:aY ns pay) (hd:bW d) (h2:ns.length=2) (hk:aX ns pay d≠[]) (H:iJ ns pay d th) {De:DEnds}{a0 a1 a2 a8 a9 a10 a11 a12:Sl}
  (hn:∀ a8 a9 a10 a11 a12,De.nx [a0,a1,a2,.im (aU ns pay),.im (aQ d),.im (.lst ((aX ns pay d).map aE)),.im (aE (cD ns pay d)),.im (.tup (th.map aE)),a8,a9,a10,a11,a12]) :
  aFx De [a0,a1,a2,.im (aU ns pay),.im (aQ d),.im (.lst ((aX ns pay d).map aE)),.im (aE (cD ns pay d)),.im (.tup (th.map aE)),a8,a9,a10,a11,a12]:=by
 have kl:(aX ns pay d).length≤27:=Nat.le_trans (List.length_filter_le _ _) (j4 ho.ok).2
 have fl2:cD ns pay d=[pT ns pay (aX ns pay d) 0,pT ns pay (aX ns pay d) 1]:=by
  unfold cD
  rw [h2]
  rfl
 have e0:gL [aE ns,D.tup (pay.map aE)] 0=some (aE ns):=rfl
 have hh:∀ h:Nat,h<2→∀ r∈aX ns pay d,gL ((iX ns pay r).map D.int) (h:Int)=some (.int (bF ns pay r h)):=fun h hlt r hr=>dC (by rw [(iR ho (List.mem_filter.mp hr).1).1];omega)
 simp_arith! only [aFx,List.length_cons,List.length_nil,fB]
 refine ⟨by decide,by decide,fun x=>match x with
  | .int h=>.int (pT ns pay (aX ns pay d) h.toNat)
  | _=>.non,fun x hx=>?_,?_⟩
 ·obtain ⟨h,hlt,rfl⟩:∃ h:Nat,h<2∧x = .int (h:Int):=by
   simp only [List.mem_cons,List.not_mem_nil,or_false] at hx
   rcases hx with rfl | rfl
   ·exact ⟨0,by decide,rfl⟩
   ·exact ⟨1,by decide,rfl⟩
  simp_arith! only [δc,List.map_cons,List.map_nil,Int.toNat_natCast]
  refine ⟨by rw [List.length_map];exact cI (by omega),fun x=>match jE x with
   | some r=>.int (bF ns pay r h)
   | none=>.non,fun x hx=>?_,?_⟩
  ·obtain ⟨r,hr,rfl⟩:=List.mem_map.mp hx
   simp_arith! only [δc,List.map_cons,List.map_nil,aCi ho (List.mem_filter.mp hr).1,hh h hlt r hr,cJ]
  ·have em:((aX ns pay d).map aE).map (fun x=>match jE x with
    | some r=>D.int (bF ns pay r h)
    | none=>.non)=((aX ns pay d).map fun r=>bF ns pay r h).map D.int:=by
    rw [List.map_map,List.map_map]
    refine List.map_congr_left fun r _=>?_
    simp only [Function.comp,cJ]
   rw [em]
   simp only [aCg,nI,h8]
   exact ⟨by simpa using hk,rfl⟩
 simp_arith! only [List.map_cons,List.map_nil,List.length_cons,List.length_nil]
 refine ⟨by decide,by decide,fun x=>match x with
  | .int h=>.int (pT ns pay (aX ns pay d) h.toNat)
  | _=>.non,fun x hx=>?_,?_⟩
 ·obtain ⟨h,hlt,rfl⟩:∃ h:Nat,h<2∧x = .int (h:Int):=by
   simp only [List.mem_cons,List.not_mem_nil,or_false] at hx
   rcases hx with rfl | rfl
   ·exact ⟨0,by decide,rfl⟩
   ·exact ⟨1,by decide,rfl⟩
  obtain ⟨m1,m2⟩:=H.mem h (by omega)
  have et:gL (th.map aE) (h:Int)=some (aE (th.getD h [])):=aAG (by rw [H.len];omega)
  simp_arith! only [δc,List.map_cons,List.map_nil,et,aCi ho (List.mem_filter.mp m1).1,hh h hlt _ m1,m2,Int.toNat_natCast]
 have ez:(D.tup [.int (pT ns pay (aX ns pay d) (0:Int).toNat),.int (pT ns pay (aX ns pay d) (1:Int).toNat)])=aE (cD ns pay d):=by
  rw [fl2]
  rfl
 have nm:(th.map aE).filter (fun x=>match jE x with
  | some r=>!(aX ns pay d).contains r
  | none=>false)=[]:=by
  rw [List.filter_eq_nil_iff]
  intro x hx
  obtain ⟨r,hr,rfl⟩:=List.mem_map.mp hx
  simp only [cJ]
  simp [H.all hr]
 simp_arith! only [List.map_cons,List.map_nil,ez,mJ,Bool.not_true,qB,hJ]
 refine ⟨by rw [xO];decide,by simp [k8,pZ],by rw [List.length_map,H.len];exact cI (by omega),fun x=>match jE x with
  | some r=>!(aX ns pay d).contains r
  | none=>false,fun x=>x,fun x hx=>?_,?_⟩
 ·obtain ⟨r,hr,rfl⟩:=List.mem_map.mp hx
  simp_arith! only [δc,List.map_cons,List.map_nil,t6,nI,qM,aAf,cJ]
  exact ⟨Nat.le_trans (nU _) (by decide),trivial,fun _=>trivial⟩
 rw [nm]
 simp_arith! only [List.map_nil,List.isEmpty_nil,Bool.not_true,e0,aEy ho.ok,fL]
 refine ⟨fun i δ=>∃ a10 a11 a12,δ=[a0,a1,a2,.im (aU ns pay),.im (aQ d),.im (.lst ((aX ns pay d).map aE)),.im (aE (cD ns pay d)),.im (.tup (th.map aE)),.im (aE (cD ns pay d)),.im (aE (cD ns pay d)),a10,a11,a12],⟨_,_,_,rfl⟩,?_,?_⟩
 ·rintro i x δ ed ⟨a10,a11,a12,rfl⟩
  obtain ⟨hi,rfl⟩:=cC ed
  exact aMV ho hd hk H (List.getElem_mem hi) fun a11 a12=>⟨_,_,_,rfl⟩
 ·rintro δ ⟨a10,a11,a12,rfl⟩
  exact hn _ _ _ _ _
theorem aG1 (ho:aY ns pay) (h2:ns.length=2) {ns0:List Int}{k:Int} (hk0:0≤k) (hkb:k≤100) {De:DEnds}{a2 a4 a5 a6 a7 a8 a9 a10 a11 a12:Sl}
  (hn:∀ a4 a5 a6 a7 a8 a9 a10 a11 a12,De.nx [.im (.lst (ns0.map D.int)),.im (.int k),a2,.im (aU ns pay),a4,a5,a6,a7,a8,a9,a10,a11,a12]) :
  aDj De [.im (.lst (ns0.map D.int)),.im (.int k),a2,.im (aU ns pay),a4,a5,a6,a7,a8,a9,a10,a11,a12]:=by
 have hc:eG [.lst (ns0.map D.int),.int (2 * k+1)]=some (.int (ns0.getD (2 * k+1).toNat 0)):=aLp (by omega)
 simp_arith! only [aDj,hc,eD]
 generalize ns0.getD (2 * k+1).toNat 0=c1
 have hd:=aK7 c1
 generalize aEm c1=d at *
 have f1:fO [aU ns pay,.tup [.int d.num,.int d.den]]=some (.lst ((aX ns pay d).map aE)):=aJf ho hd h2
 have f2:lH [aU ns pay,.tup [.int d.num,.int d.den]]=some (.tup ((aX ns pay d).map aE)):=aNu ho hd
 have f3:∀ z,bO [.int 0,aU ns pay,z,.tup [.int d.num,.int d.den]]=some (v4 (aX ns pay d≠[]) fun y=>y=aE (cD ns pay d)):=fun z=>aLY ho hd z
 have f4:∀ z,bO [.int 1,aU ns pay,z,.tup [.int d.num,.int d.den]]=some (v4 (aX ns pay d≠[]) fun y=>∃ th,y = .tup (th.map aE)∧iJ ns pay d th):=fun z=>aL9 ho hd z
 have dk:pZ (D.tup ((aX ns pay d).map aE))≤32:=by
  unfold pZ
  have:=nU (aX ns pay d)
  omega
 have r00:[0,0]∈aM ns:=by
  refine aE9 ⟨by rw [h2];rfl,fun i x n e1 e2=>?_⟩
  have hi:i<2:=(List.getElem?_eq_some_iff.mp e1).1
  have hx:x=0:=by
   have:i=0∨i=1:=by omega
   rcases this with rfl | rfl <;> (cases e1;rfl)
  have:=(bU ho.ok).2 n (List.mem_of_getElem? e2)
  omega
 have f5:bO [.int 2,aU ns pay,.tup [.int 0,.int 0],.tup [.int d.num,.int d.den]]=some (v4 (aX ns pay d≠[]) (aG6 ns pay d [0,0])):=aI3 (r:=[0,0]) ho hd r00
 refine ⟨.inl ⟨by decide,by decide⟩,?_⟩
 simp_arith! only [f1,f2,f3,f4,mJ,Bool.not_true]
 refine ⟨dk,?_⟩
 by_cases hk:aX ns pay d=[]
 ·have he:((aX ns pay d).map aE).isEmpty=true:=by rw [hk];rfl
  intro y1 hy1 y2 hy2
  have e1:y1 = .str (PySem.Str.ofString "no pact"):=by
   rcases hy1 with q | q
   ·exact absurd hk q.1
   ·exact q.2
  have e2:y2 = .str (PySem.Str.ofString "no pact"):=by
   rcases hy2 with q | q
   ·exact absurd hk q.1
   ·exact q.2
  rw [e1,e2]
  simp_arith! only [he,Bool.not_true,Bool.not_false,f5,mJ,List.length_cons,List.length_nil]
  refine ⟨by decide,by decide,by decide,?_⟩
  intro y3 hy3
  have e3:y3 = .str (PySem.Str.ofString "no pact"):=by
   rcases hy3 with q | q
   ·exact absurd hk q.1
   ·exact q.2
  rw [e3]
  simp_arith! only [mJ,Bool.not_true]
  exact ⟨by decide,hn _ _ _ _ _ _ _ _ _⟩
 ·have he:((aX ns pay d).map aE).isEmpty=false:=by
   cases e:aX ns pay d with
   | nil=>exact absurd e hk
   | cons x l=>rfl
  intro y1 hy1 y2 hy2
  have e1:y1=aE (cD ns pay d):=by
   rcases hy1 with q | q
   ·exact q.2
   ·exact absurd hk q.1
  obtain ⟨th,e2,H⟩:∃ th,y2 = .tup (th.map aE)∧iJ ns pay d th:=by
   rcases hy2 with q | q
   ·exact q.2
   ·exact absurd hk q.1
  rw [e1,e2]
  simp_arith! only [he,Bool.not_true,Bool.not_false]
  exact aKb ho hd h2 hk H fun _ _ _ _ _=>hn _ _ _ _ _ _ _ _ _
end
theorem aLQ:∀ ds p,yK ds=some p→aGA (aFK p) (bH ["_law_script","_law_k","_law_cell_here","_law_meeting_here","_law_patience_here","_law_due","_law_told_here","_law_threats","_law_floor","_law_shares_here","_law_row","_law_plan","_law_why"] ds)
 | [.lst xs],p,h=>by
  have h':(match iE xs with
   | some _=>some (fun d=>d=D.bl true)
   | none=>none)=some p:=h
  clear h
  split at h'
  ·rename_i ns0 e
   cases h'
   rw [kA e]
   clear e
   show aGA _ [.im (.lst (ns0.map D.int)),.un,.un,.un,.un,.un,.un,.un,.un,.un,.un,.un,.un]
   unfold aGA
   simp_arith! only [fL]
   refine ⟨⟨by decide,by decide⟩,fun i δ=>∃ (a1 a2 a3 a4 a5 a6 a7 a8 a9 a10 a11 a12:Sl),δ=[.im (.lst (ns0.map D.int)),a1,a2,a3,a4,a5,a6,a7,a8,a9,a10,a11,a12],⟨_,_,_,_,_,_,_,_,_,_,_,_,rfl⟩,?_,?_⟩
   ·rintro i x δ ed ⟨a1,a2,a3,a4,a5,a6,a7,a8,a9,a10,a11,a12,rfl⟩
    unfold cA at ed
    obtain ⟨hi,rfl⟩:=cC ed
    rw [List.length_range] at hi
    rw [List.getElem_range,Int.zero_add]
    have hi2:i<2:=by simpa using hi
    have k0:(0:Int)≤2 * (i:Int):=by omega
    have kb:(i:Int)≤100:=by omega
    rw [show aDX=bE (bS (aR eG (aC (aF 0) (aC (bK rQ (gC (.int 2)) (aF 1)) aJ))) (cU 2)) (bE (bS (iV cB (aC (bK rQ (gC (.int 3)) (aF 2)) aJ)) (cU 3)) (bE (j0 (cO (bK oEq (bK w4 (aF 2) (gC (.int 4))) (gC (.int 1)))) (bS (iV cB (aC (aF 2) aJ)) (cU 3)) fR) aIn)) from rfl]
    have pre:∀ (De:DEnds) (c:Int) (ns:List Int) (pay:List (List Int)),aY ns pay→(∀ a2 a3 a4 a5 a6 a7 a8 a9 a10 a11 a12,De.nx [.im (.lst (ns0.map D.int)),.im (.int i),a2,a3,a4,a5,a6,a7,a8,a9,a10,a11,a12])→aIn De [.im (.lst (ns0.map D.int)),.im (.int i),.im (.int c),.im (aU ns pay),a4,a5,a6,a7,a8,a9,a10,a11,a12]:=by
     intro De c ns pay ho hn
     have e0:gL [aE ns,D.tup (pay.map aE)] 0=some (aE ns):=rfl
     have e1:gL [aE ns,D.tup (pay.map aE)] 1=some (D.tup (pay.map aE)):=rfl
     have third:∀ m,(∃ ns pay,m=aU ns pay∧aY ns pay∧((9 * c) % 3=0→ns=[2,2]))→aDj De [.im (.lst (ns0.map D.int)),.im (.int i),.im (.int c),.im m,a4,a5,a6,a7,a8,a9,a10,a11,a12]:=by
      rintro m ⟨ns,pay,rfl,ho,h3⟩
      have:=h3 (by omega)
      exact aG1 ho (by rw [this];rfl) (by omega) kb fun _ _ _ _ _ _ _ _ _=>hn _ _ _ _ _ _ _ _ _ _ _
     have two:=ho.two
     simp_arith! only [aIn,e0,e1,List.length_map,cB]
     by_cases c1:(2:Int)<(ns.length:Int)
     ·rw [decide_eq_true c1]
      simp_arith! only []
      exact ⟨.inl ⟨by decide,by decide⟩,fun m hm=>third m hm⟩
     ·rw [decide_eq_false c1]
      simp_arith! only []
      by_cases c2:(6:Int)<(pay.length:Int)
      ·rw [decide_eq_true c2]
       simp_arith! only []
       exact ⟨.inl ⟨by decide,by decide⟩,fun m hm=>third m hm⟩
      ·rw [decide_eq_false c2]
       simp_arith! only []
       exact aG1 ho (by omega) (by omega) kb fun _ _ _ _ _ _ _ _ _=>hn _ _ _ _ _ _ _ _ _ _ _
    simp_arith! only [aLp k0,cB]
    refine ⟨.inl ⟨by decide,by decide⟩,.inl ⟨by decide,by decide⟩,?_⟩
    generalize ns0.getD (2 * (i:Int)).toNat 0=c
    rintro m ⟨ns,pay,rfl,ho,_⟩
    refine ⟨by decide,by decide,?_⟩
    by_cases c1:c % 4=1
    ·rw [show (c % 4 == 1)=true by simpa using c1]
     simp_arith! only []
     rintro m ⟨ns,pay,rfl,ho,_⟩
     exact pre _ c ns pay ho fun _ _ _ _ _ _ _ _ _ _ _=>⟨_,_,_,_,_,_,_,_,_,_,_,_,rfl⟩
    ·rw [show (c % 4 == 1)=false by simpa using c1]
     simp_arith! only []
     exact pre _ c ns pay ho fun _ _ _ _ _ _ _ _ _ _ _=>⟨_,_,_,_,_,_,_,_,_,_,_,_,rfl⟩
   ·rintro δ ⟨a1,a2,a3,a4,a5,a6,a7,a8,a9,a10,a11,a12,rfl⟩
    trivial
  ·cases h'
section
variable {ns:List Int}{pay:List (List Int)}{pl:List (List Int×List Int)}{s:Nat}{r:List Int}
theorem sC (hs:s<pl.length):gL (pl.map fun s=>D.tup [aE s.1,aE s.2]) (s:Int)=some (.tup [aE (bZ pl s),aE (pl.getD s ([],[])).2]):=by
 rw [zZ (by rw [List.length_map];exact hs),List.getElem_map]
 unfold bZ
 rw [bP hs]
theorem aKk (hp:gQ ns pl) (hs:s<pl.length) (hr:r∈aM ns):(pl.getD s ([],[])).2.getD ((aM ns).idxOf r) 0=(j1 ns pl s r:Int)∧j1 ns pl s r<pl.length∧(aM ns).idxOf r<(pl.getD s ([],[])).2.length:=by
 have hm:pl.getD s ([],[])∈pl:=by rw [bP hs];exact List.getElem_mem hs
 obtain ⟨h1,h2⟩:=hp.nexts _ hm
 have hi:(aM ns).idxOf r<(pl.getD s ([],[])).2.length:=by
  rw [h1]
  exact List.idxOf_lt_length_of_mem hr
 have:=h2 _ (List.getElem_mem hi)
 unfold j1
 rw [bP hi]
 omega
theorem aB8 (hp:gQ ns pl) (hs:s<pl.length):bZ pl s∈aM ns:=by
 unfold bZ
 rw [bP hs]
 exact hp.row _ (List.getElem_mem hs)
end
theorem aIB {ns r:List Int} (ho:eL ns=true) (hr:r∈aM ns):eY [aE r,aE ns]=some (.int ((aM ns).idxOf r:Nat)):=by
 simp only [eY,cJ,h8]
 rw [if_pos ⟨ho,hr⟩]
theorem aDA:∀ ds d,eY ds=some d→rE (gT d) (bH ["row","deeds","place","deed","many"] ds)
 | [x,.tup es],d,h=>by
  cases e1:jE x with
  | none=>simp [eY,e1] at h
  | some r=>
   cases e2:iE es with
   | none=>simp [eY,e1,e2] at h
   | some ns=>
    simp only [eY,e1,e2] at h
    rw [jU e1,kA e2]
    split at h
    ·rename_i hc
     obtain ⟨ho,hr⟩:=hc
     cases h
     have rl:=gH hr
     show rE _ [.im (aE r),.im (.tup (ns.map D.int)),.un,.un,.un]
     simp_arith! only [rE,wB,aE,aJZ,fL]
     refine ⟨fun i δ=>∃ a b,δ=[.im (.tup (r.map D.int)),.im (.tup (ns.map D.int)),.im (.int (nZ (r.take i) (ns.take i))),a,b],⟨.un,.un,rfl⟩,?_,?_⟩
     ·rintro i d δ ed ⟨a,b,rfl⟩
      obtain ⟨hi,rfl⟩:=cC ed
      rw [List.length_zip] at hi
      have h1:i<r.length:=by omega
      have h2:i<ns.length:=by omega
      have bd:=aI7 ho hr i
      simp_arith! only [List.getElem_zip]
      refine ⟨.inl ⟨by omega,by omega⟩,.im (.int r[i]),.im (.int ns[i]),?_⟩
      rw [aEM h1 h2 rl]
     ·rintro δ ⟨a,b,rfl⟩
      simp_arith! only []
      rw [List.length_map,List.length_zip,rl,Nat.min_self,List.take_length,← rl,List.take_length,aCo hr]
    ·cases h
theorem aLB {r:List Int}{h:Nat}{k:Int} (hl:r.length≤1000) (hh:h<r.length):eI [aE r,.int h,.int k]=some (aE (r.set h k)):=by
 simp only [eI,cJ]
 rw [if_pos ⟨hl,by omega,by omega⟩]
 rfl
theorem aDi:∀ ds d,eI ds=some d→pE (gT d) (bH ["row","hand","deed"] ds)
 | [x,.int i,.int k],d,h=>by
  cases e:jE x with
  | none=>simp [eI,e] at h
  | some r=>
   simp only [eI,e] at h
   rw [jU e]
   split at h
   ·rename_i hc
    cases h
    obtain ⟨n,rfl⟩:∃ n:Nat,i=n:=⟨i.toNat,by omega⟩
    show pE _ [.im (aE r),.im (.int n),.im (.int k)]
    have hn:n<r.length:=by omega
    have e3:((n:Int)+1)=((n+1:Nat):Int):=by omega
    simp_arith only [pE,aE,e3,aGL r n hn,aCb r (n+1) hn,List.length_append,List.length_map,List.length_cons,List.length_nil,List.length_take,List.length_drop]
    refine ⟨by decide,cI (by omega),cI (by omega),?_⟩
    rw [Int.toNat_natCast,← aG2 r n k hn]
    simp
   ·cases h
theorem wN {ns:List Int}{pay:List (List Int)}{r:List Int} (ho:aY ns pay) (hr:r∈aM ns):jC [aU ns pay,aE r]=some (aE (iX ns pay r)):=by
 simp only [jC,cM ho,pX hr]
theorem aKl:∀ ds d,jC ds=some d→aC8 (gT d) (bH ["meeting","row"] ds)
 | [m,x],d,h=>by
  obtain ⟨ns,pay,rfl,ho,h⟩:=cS (show bX m _=some d from h)
  obtain ⟨r,rfl,hr,h⟩:=qK h
  cases h
  show aC8 _ [.im (aU ns pay),.im (aE r)]
  have e0:gL [aE ns,D.tup (pay.map aE)] 0=some (aE ns):=rfl
  have e1:gL [aE ns,D.tup (pay.map aE)] 1=some (D.tup (pay.map aE)):=rfl
  have e2:gL (pay.map aE) ((aM ns).idxOf r:Nat)=some (aE (iX ns pay r)):=aAG (aA2 ho hr)
  simp_arith only [aC8,aU,e0,e1,aIB ho.ok hr,e2]
theorem vI:∀ ds d,eW ds=some d→jM (gT d) (bH ["one","other","greater","smaller","rest"] ds)
 | [.int a,.int b],d,h=>by
  cases h
  show jM _ [.im (.int a),.im (.int b),.un,.un,.un]
  simp_arith only [jM,oO,oD,nX]
  have ea:∀ a:Int,(if a<0 then -a else a)=(a.natAbs:Int):=fun a=>by split <;> omega
  refine ⟨fun n δ=>∃ (x y:Nat) (z:Sl),δ=[.im (.int a),.im (.int b),.im (.int x),.im (.int y),z]∧n=y∧Nat.gcd x y=Int.gcd a b,⟨b.natAbs,a.natAbs,b.natAbs,.un,by rw [ea,ea],rfl,rfl⟩,?_⟩
  rintro n δ ⟨x,y,z,rfl,rfl,hg⟩
  simp_arith only []
  refine ⟨by decide,?_⟩
  cases n with
  | zero=>
   simp
   rw [← hg]
   simp
  | succ y=>
   have e:((((y+1:Nat):Int)) == 0)=false:=by simp;omega
   simp_arith only [e,Bool.not_false]
   refine ⟨by omega,(x % (y+1):Nat),Nat.mod_lt _ (Nat.succ_pos _),y+1,x % (y+1),_,rfl,rfl,?_⟩
   rw [← hg,Nat.gcd_comm x,Nat.gcd_rec (y+1) x,Nat.gcd_comm]
theorem aKO {u l:Int} (hl:0<l) (h1:Bd 7000 u) (h2:Bd 7000 l):mV [.int u,.int l]=some (aQ (Rat.divInt u l)):=if_pos ⟨hl,h1,h2⟩
theorem aHP:∀ ds d,mV ds=some d→vF (gT d) (bH ["upper","lower","sign","divisor"] ds)
 | [.int u,.int l],d,h=>by
  simp only [mV] at h
  split at h
  ·rename_i hh
   obtain ⟨hl,b1,b2⟩:=hh
   cases h
   show vF _ [.im (.int u),.im (.int l),.un,.un]
   have ea:(if l<0 then -l else l)=l:=if_neg (by omega)
   have ed:l / l=1:=Int.ediv_self (by omega)
   have gd:(Int.gcd u l) ∣ l.natAbs:=Int.gcd_dvd_natAbs_right u l
   have gle:Int.gcd u l≤l.natAbs:=Nat.le_of_dvd (by omega) gd
   have gpos:0<Int.gcd u l:=Nat.pos_of_dvd_of_pos gd (by omega)
   have bx:Bd 8000 ((Int.gcd u l:Nat):Int):=(b2.of_le (i:=(Int.gcd u l:Nat)) (by omega) (by omega)).mono (by decide)
   have bl:Bd 8000 l:=b2.mono (by decide)
   simp_arith only [vF,aAL,aA1,ea,ed,eW,Int.one_mul,yI hl,List.length_cons,List.length_nil]
   exact ⟨⟨hl,bl⟩,.inl (.inl ⟨by decide,by decide⟩),⟨by omega,bx⟩,⟨by omega,bx⟩,by decide,trivial⟩
  ·cases h
theorem aGx {ns:List Int}{pay:List (List Int)}{pl:List (List Int×List Int)}{s:Nat}{r:List Int} (ho:aY ns pay) (hp:gQ ns pl) (hs:s<pl.length) (hr:r∈aM ns):dM [aU ns pay,fN pl,.int s,aE r]=some (.int (j1 ns pl s r)):=by
 simp only [dM,cM ho,nS hp,lO hs,pX hr]
theorem y9:∀ ds d,dM ds=some d→lE (gT d) (bH ["meeting","plan","state","row"] ds)
 | [m,p,x,y],d,h=>by
  obtain ⟨ns,pay,rfl,ho,h⟩:=cS (show bX m _=some d from h)
  obtain ⟨pl,rfl,hp,h⟩:=nT h
  obtain ⟨s,rfl,hs,h⟩:=lS h
  obtain ⟨r,rfl,hr,h⟩:=qK h
  cases h
  show lE _ [.im (aU ns pay),.im (.tup (pl.map fun s=>D.tup [aE s.1,aE s.2])),.im (.int s),.im (aE r)]
  have e0:gL [aE ns,D.tup (pay.map aE)] 0=some (aE ns):=rfl
  have e1:gL [aE (bZ pl s),aE (pl.getD s ([],[])).2] 1=some (aE (pl.getD s ([],[])).2):=rfl
  obtain ⟨n1,n2,n3⟩:=aKk hp hs hr
  have e2:gL ((pl.getD s ([],[])).2.map D.int) ((aM ns).idxOf r:Nat)=some (.int (j1 ns pl s r)):=by rw [dC n3,n1]
  simp_arith only [lE,e0,e1,sC hs,aIB ho.ok hr,e2]
theorem aGy {ns:List Int}{pay:List (List Int)}{rs:List (List Int)}{x:D}{h:Nat} (ho:aY ns pay) (hx:nI x=some (rs.map aE)) (h1:rs.length≤20) (h2:∀ r∈rs,r∈aM ns) (hh:h<ns.length) :
  jT [aU ns pay,x,.int h]=some (.lst ((rs.map fun r=>bF ns pay r h).map D.int)):=by
 simp only [jT,cM ho,t7 hx h1 h2,lO hh]
theorem aFQ:∀ ds d,jT ds=some d→sQ (gT d) (bH ["meeting","rows","hand"] ds)
 | [m,x,y],d,h=>by
  obtain ⟨ns,pay,rfl,ho,h⟩:=cS (show bX m _=some d from h)
  obtain ⟨rs,hx,h1,h2,h⟩:=xL h
  obtain ⟨i,rfl,hi,h⟩:=lS h
  cases h
  show sQ _ [.im (aU ns pay),.im x,.im (.int i)]
  simp_arith only [sQ,gIs,hx,fB]
  refine ⟨by rw [List.length_map];exact cI (by omega),fun x=>match jE x with
   | some r=>.int (bF ns pay r i)
   | none=>.non,fun x hx=>?_,?_⟩
  ·obtain ⟨r,hr,rfl⟩:=List.mem_map.mp hx
   have hr:=h2 r hr
   have hp:i<(iX ns pay r).length:=by rw [(iR ho hr).1];exact hi
   have ei:gL ((iX ns pay r).map D.int) (i:Nat)=some (.int (bF ns pay r i)):=dC hp
   simp_arith only [δc,List.map_cons,List.map_nil,wN ho hr,ei,cJ]
  ·rw [List.map_map,List.map_map]
   congr 1
   refine List.map_congr_left fun r _=>?_
   simp only [Function.comp,cJ]
theorem aDR {ys:List Int}{d:Rat} (hy:kO ys=true) (hd:bW d):h9 [.lst (ys.map D.int),aQ d]=some (.int (vJ d.num d.den ys)):=by
 simp only [h9,h8,if_pos hy,gD hd]
theorem aJs (p q:Int) (ys:List Int) {i:Nat} (hi:i<ys.length):((ys.take (i+1)).foldl (fun (a:Int×Int) y=>(a.1 * q+a.2 * y,a.2 * p)) (0,1))=(((ys.take i).foldl (fun (a:Int×Int) y=>(a.1 * q+a.2 * y,a.2 * p)) (0,1)).1 * q+((ys.take i).foldl (fun (a:Int×Int) y=>(a.1 * q+a.2 * y,a.2 * p)) (0,1)).2 * ys[i],((ys.take i).foldl (fun (a:Int×Int) y=>(a.1 * q+a.2 * y,a.2 * p)) (0,1)).2 * p):=by
 rw [List.take_succ,List.getElem?_eq_getElem hi,Option.toList_some,List.foldl_append]
 rfl
theorem aFB:∀ ds d,h9 ds=some d→sT (gT d) (bH ["pays","patience","total","weight","pay"] ds)
 | [.lst es,x],r,h=>by
  cases ei:iE es with
  | none=>simp [h9,ei] at h
  | some ys=>
   simp only [h9,ei] at h
   split at h
   ·rename_i hy
    obtain ⟨d,rfl,hd,h⟩:=gM h
    cases h
    rw [kA ei]
    obtain ⟨y1,y2⟩:=uD hy
    show sT _ [.im (.lst (ys.map D.int)),.im (aQ d),.un,.un,.un]
    have e0:gL [D.int d.num,D.int d.den] 0=some (.int d.num):=rfl
    have e1:gL [D.int d.num,D.int d.den] 1=some (.int d.den):=rfl
    have bp:Bd 40 d.num:=hd.bits.1
    have bq:Bd 40 (d.den:Int):=hd.bits.2
    have key:∀ i,(ys.take i).foldl (fun (a:Int×Int) y=>(a.1 * (d.den:Int)+a.2 * y,a.2 * d.num)) (0,1)=(vJ d.num d.den (ys.take i),d.num ^ (ys.take i).length):=by
     intro i
     rw [aEe]
     simp
    simp_arith only [sT,x6,fL]
    refine ⟨fun i δ=>∃ a4,δ=[.im (.lst (ys.map D.int)),.im (aQ d),.im (.int (vJ d.num d.den (ys.take i))),.im (.int (d.num ^ (ys.take i).length)),a4],⟨.un,by simp [vJ]⟩,?_,?_⟩
    ·rintro i x δ ed ⟨a4,rfl⟩
     obtain ⟨hi,rfl⟩:=cC ed
     have k1:=key i
     have k2:=aJs d.num d.den ys hi
     rw [key (i+1),k1] at k2
     have hl:(ys.take i).length≤20:=by rw [List.length_take];omega
     have b1:Bd 8000 (vJ d.num d.den (ys.take i)):=(aDp bp bq (ys:=ys.take i) fun y hy=>y2 y (List.mem_of_mem_take hy)).mono (by omega)
     have b2:Bd 8000 (d.num ^ (ys.take i).length):=(bp.pow _).mono (by omega)
     have b3:Bd 8000 ys[i]:=by
      have:=y2 ys[i] (List.getElem_mem hi)
      have b:Bd 4 ys[i]:=by unfold Bd;omega
      exact b.mono (by decide)
     simp_arith only [e0,e1]
     refine ⟨.inr ⟨b1,bq.mono (by decide)⟩,.inr ⟨b2,b3⟩,.inr ⟨b2,bp.mono (by decide)⟩,.im (.int ys[i]),?_⟩
     have k3:=congrArg Prod.fst k2
     have k4:=congrArg Prod.snd k2
     simp only at k3 k4
     rw [k3,k4]
    ·rintro δ ⟨a4,rfl⟩
     simp_arith only []
     rw [List.length_map,List.take_length]
   ·cases h
theorem aNX (a b:Int):gL [D.int a,D.int b] 0=some (.int a):=rfl
theorem aNJ (a b:Int):gL [D.int a,D.int b] 1=some (.int b):=rfl
theorem aFH:∀ ds d,iU ds=some d→sU (gT d) (bH ["one","other"] ds)
 | [.tup [.int a,.int b],.tup [.int c,.int e]],r,h=>by
  simp only [iU] at h
  split at h
  ·rename_i hh
   obtain ⟨h1,h2,h3,h4⟩:=hh
   cases h
   show sU _ [.im (.tup [.int a,.int b]),.im (.tup [.int c,.int e])]
   simp_arith only [sU,aNX,aNJ]
   exact ⟨.inr ⟨h1.mono (by decide),h4.mono (by decide)⟩,.inr ⟨h3.mono (by decide),h2.mono (by decide)⟩,trivial⟩
  ·cases h
theorem aNS (a b:Int):gL [D.int a,D.int b] 0=some (.int a):=rfl
theorem aNH (a b:Int):gL [D.int a,D.int b] 1=some (.int b):=rfl
theorem xR:∀ ds d,bT ds=some d→kD (gT d) (bH ["pay","later","patience","upper"] ds)
 | [.int x,.tup [.int u,.int l],y],r,h=>by
  obtain ⟨d,rfl,hd,h1⟩:=gM (show k6 y _=some r from h)
  clear h
  split at h1
  ·rename_i hh
   obtain ⟨b1,b2,b3⟩:=hh
   cases h1
   show kD _ [.im (.int x),.im (.tup [.int u,.int l]),.im (aQ d),.un]
   have c1:=hd.bits.2.sub hd.bits.1
   have c2:=c1.mul b1
   simp_arith only [kD,oW,aNS,aNH,List.length_cons,List.length_nil]
   exact ⟨.inr ⟨c1.mono (by decide),b1.mono (by decide)⟩,.inr ⟨c2.mono (by decide),b3.mono (by decide)⟩,.inr ⟨hd.bits.1.mono (by decide),b2.mono (by decide)⟩,.inr ⟨hd.bits.2.mono (by decide),b3.mono (by decide)⟩,by decide,trivial⟩
  ·cases h1
theorem aKS {xs ys:List Int}{d:Rat} (hx:kO xs=true) (hy:kO ys=true) (hn:ys≠[]) (hd:bW d):cL [.lst (xs.map D.int),.lst (ys.map D.int),aQ d]=some (aQ (woL d xs ys)):=by
 simp only [cL,h8,if_pos (show kO xs=true∧kO ys=true∧ys≠[] from ⟨hx,hy,hn⟩),gD hd]
theorem aJb (d:Rat) (x:Int) (xs ys:List Int):woL d (x::xs) ys=(1-d) * x+d * woL d xs ys:=by
 unfold woL
 rw [List.map_cons,List.length_cons,Rat.pow_succ]
 show (1-d) * (x:Rat)+d * tJ d (xs.map fun (x:Int)=>(x:Rat))+_=_
 grind
theorem aDl {d:Rat} (x u l:Int) (hl:0<l):Rat.divInt (((d.den:Int)-d.num) * x * l+d.num * u) ((d.den:Int) * l)=(1-d) * x+d * Rat.divInt u l:=by
 have h1:=qW d
 have n1:=aFb d
 have n2:((l:Int):Rat)≠0:=by
  intro z
  have z2:((l:Int):Rat)=((0:Int):Rat):=z
  rw [Rat.intCast_inj] at z2
  omega
 rw [Rat.divInt_eq_div,Rat.divInt_eq_div,Rat.intCast_add,Rat.intCast_mul,Rat.intCast_mul,Rat.intCast_mul,Rat.intCast_mul,Rat.intCast_sub]
 generalize ((d.den:Int):Rat)=a at *
 generalize ((d.num:Int):Rat)=p at *
 generalize ((l:Int):Rat)=b at *
 generalize ((u:Int):Rat)=y at *
 grind
theorem xS:∀ ds d,cL ds=some d→j8 (gT d) (bH ["before","again","patience","worth","pay"] ds)
 | [.lst as,.lst bs,x],r,h=>by
  cases ea:iE as with
  | none=>simp [cL,ea] at h
  | some xs=>
   cases eb:iE bs with
   | none=>simp [cL,ea,eb] at h
   | some ys=>
    simp only [cL,ea,eb] at h
    split at h
    ·rename_i hc
     obtain ⟨hx,hy,hn⟩:=hc
     obtain ⟨d,rfl,hd,h⟩:=gM h
     cases h
     rw [kA ea,kA eb]
     obtain ⟨x1,x2⟩:=uD hx
     obtain ⟨y1,y2⟩:=uD hy
     have hyl:0<ys.length:=List.length_pos_iff.mpr hn
     show j8 _ [.im (.lst (xs.map D.int)),.im (.lst (ys.map D.int)),.im (aQ d),.un,.un]
     have e0:∀ a b:Int,gL [D.int a,D.int b] 0=some (.int a):=fun _ _=>rfl
     have e1:∀ a b:Int,gL [D.int a,D.int b] 1=some (.int b):=fun _ _=>rfl
     have bp:Bd 40 d.num:=hd.bits.1
     have bq:Bd 40 (d.den:Int):=hd.bits.2
     have o1:kO (List.replicate ys.length 1)=true:=w9 (by simpa using y1) fun y hy=>by rw [List.eq_of_mem_replicate hy];decide
     have er:(List.replicate (ys.length:Int).toNat [D.int 1]).flatten=(List.replicate ys.length (1:Int)).map D.int:=by
      rw [Int.toNat_natCast]
      generalize ys.length=n
      induction n with
      | zero=>rfl
      | succ n ih=>rw [List.replicate_succ,List.flatten_cons,ih,List.replicate_succ];rfl
     have b1:Bd 1000 (vJ d.num d.den ys):=(aDp bp bq y2).mono (by omega)
     have b2:Bd 1000 (vJ d.num d.den (List.replicate ys.length 1)):=(aDp bp bq (ys:=List.replicate ys.length 1) fun y hy=>by rw [List.eq_of_mem_replicate hy];decide).mono (by rw [List.length_replicate];omega)
     obtain ⟨pn1,pn2⟩:=aDd hd
     have b3:Bd 41 ((d.den:Int)-d.num):=bq.sub bp
     simp_arith only [j8,pC,pA,aDR hy hd,aJW,List.length_map,List.length_cons,List.length_nil,er,aDR o1 hd,aLW,fL]
     refine ⟨by decide,⟨by omega,by omega,cI (by omega)⟩,by decide,fun i δ=>∃ (u l:Int) (a4:Sl),δ=[.im (.lst (xs.map D.int)),.im (.lst (ys.map D.int)),.im (aQ d),.im (.tup [.int u,.int l]),a4]∧0<l∧Bd (50 * i+1000) u∧Bd (50 * i+1000) l∧Rat.divInt u l=woL d (xs.drop (xs.length-i)) ys,⟨_,_,.un,rfl,aGG hd hyl,b1,b2,?_⟩,?_,?_⟩
     ·rw [Nat.sub_zero,List.drop_length,← aKz hd hn]
      show _=(0:Rat)+d ^ 0 * _
      rw [Rat.pow_zero]
      grind
     ·rintro i x δ ed ⟨u,l,a4,rfl,hl,bu,bl,ew⟩
      have hi:i<xs.length:=by
       have:=(List.getElem?_eq_some_iff.mp ed).1
       simpa using this
      rw [List.getElem?_reverse (by simpa using hi),List.length_map] at ed
      obtain ⟨hj,rfl⟩:=cC ed
      have bx:Bd 4 xs[xs.length-1-i]:=by
       have:=x2 _ (List.getElem_mem hj)
       unfold Bd
       omega
      have c1:=b3.mul bx
      have c2:=c1.mul bl
      have c3:=bp.mul bu
      have c4:=bq.mul bl
      have c5:Bd (50 * i+1045+1) (((d.den:Int)-d.num) * xs[xs.length-1-i] * l+d.num * u):=(c2.mono (by omega)).add (c3.mono (by omega))
      simp_arith only [aMw hd (bx.mono (by decide)) (bu.mono (by omega)) (bl.mono (by omega))]
      refine ⟨_,_,_,rfl,Int.mul_pos (by omega) hl,c5.mono (by omega),c4.mono (by omega),?_⟩
      rw [aDl _ u l hl,ew,show xs.length-(i+1)=xs.length-1-i by omega,List.drop_eq_getElem_cons hj,aJb,show xs.length-1-i+1=xs.length-i by omega]
     ·rintro δ ⟨u,l,a4,rfl,hl,bu,bl,ew⟩
      rw [List.length_reverse,List.length_map] at bu bl ew
      rw [Nat.sub_self,List.drop_zero] at ew
      simp_arith only [e0,e1,aKO hl (bu.mono (by omega)) (bl.mono (by omega)),ew]
    ·cases h
theorem aOU {ns:List Int}{pay:List (List Int)}{d:Rat} (ho:aY ns pay) (hd:bW d) {x y:D}{rows over:List (List Int)} (hx:nI x=some (rows.map aE)) (hy:nI y=some (over.map aE)) (h1:rows.length≤20) (h2:∀ r∈rows,r∈aM ns) (h3:over.length≤20) (h4:∀ r∈over,r∈aM ns) (h5:over≠[]) :
  jJ [aU ns pay,x,y,aQ d]=some (.tup ((List.range ns.length).map fun h=>aQ (woR ns pay rows over d h))):=by
 simp only [jJ,cM ho,t7 hx h1 h2,t7 hy h3 h4,gD hd,if_neg h5]
theorem aNl {ns:List Int}{pay:List (List Int)}{d:Rat} (rows over:List (List Int)) (h:Nat):woL d (rows.map fun r=>bF ns pay r h) (over.map fun r=>bF ns pay r h)=woR ns pay rows over d h:=by
 unfold woL woR
 rw [List.map_map,List.map_map,List.length_map,List.length_map]
 rfl
theorem aDV:∀ ds d,jJ ds=some d→qN (gT d) (bH ["meeting","rows","over","patience","told","hand","before","again"] ds)
 | [m,x,y,z],r,h=>by
  obtain ⟨ns,pay,rfl,ho,h⟩:=cS (show bX m _=some r from h)
  obtain ⟨rows,hx,h1,h2,h⟩:=xL h
  obtain ⟨over,hy,h3,h4,h⟩:=xL h
  obtain ⟨d,rfl,hd,h⟩:=gM h
  split at h
  ·cases h
  ·rename_i h5
   cases h
   show qN _ [.im (aU ns pay),.im x,.im y,.im (aQ d),.un,.un,.un,.un]
   have e0:gL [aE ns,D.tup (pay.map aE)] 0=some (aE ns):=rfl
   have n3:=(bU ho.ok).1
   simp_arith only [qN,vD,e0,fL,List.length_nil,List.length_map]
   refine ⟨by decide,⟨by omega,by omega⟩,fun i δ=>∃ a5 a6 a7,δ=[.im (aU ns pay),.im x,.im y,.im (aQ d),.ow ((List.range i).map fun h=>aQ (woR ns pay rows over d h)),a5,a6,a7],⟨_,_,_,rfl⟩,?_,?_⟩
   ·rintro i w δ ed ⟨a5,a6,a7,rfl⟩
    unfold cA at ed
    obtain ⟨hi,rfl⟩:=cC ed
    rw [List.length_range] at hi
    have hi':i<ns.length:=by omega
    rw [List.getElem_range,Int.zero_add]
    have o1:kO (rows.map fun r=>bF ns pay r i)=true:=w9 (by simpa using h1) fun w hw=>by
     obtain ⟨r,hr,rfl⟩:=List.mem_map.mp hw
     exact jN ho (h2 r hr)
    have o2:kO (over.map fun r=>bF ns pay r i)=true:=w9 (by simpa using h3) fun w hw=>by
     obtain ⟨r,hr,rfl⟩:=List.mem_map.mp hw
     exact jN ho (h4 r hr)
    have o3:(over.map fun r=>bF ns pay r i)≠[]:=by simpa using h5
    simp_arith only [aGy ho hx h1 h2 hi',aGy ho hy h3 h4 hi',aKS o1 o2 o3 hd,aNl,List.length_map,List.length_range]
    refine ⟨iS (by omega),?_⟩
    rw [show (List.range (i+1)).map (fun h=>aQ (woR ns pay rows over d h))=(List.range i).map (fun h=>aQ (woR ns pay rows over d h))++[aQ (woR ns pay rows over d i)] by rw [List.range_succ,List.map_append];rfl]
    exact ⟨_,_,_,rfl⟩
   ·rintro δ ⟨a5,a6,a7,rfl⟩
    simp_arith only []
    rw [iG,Int.toNat_natCast]
section
variable {ns:List Int}{pay:List (List Int)}{pl:List (List Int×List Int)}{d:Rat}{h s:Nat}
theorem aDH (hp:gQ ns pl) (hd:bW d) (hs:s<pl.length) {n i:Nat} (hi:i<n) (e:g6 (gJ ns pl) n s=g6 (gJ ns pl) i s):cZ ns pay pl d h s=woR ns pay (((List.range n).map fun t=>bZ pl (g6 (gJ ns pl) t s)).take i) (((List.range n).map fun t=>bZ pl (g6 (gJ ns pl) t s)).drop i) d h:=by
 have W:=sL (h:=h) (pay:=pay) hp hd
 have hf:=aAB hp
 have a:=W.unroll hf i s hs
 have hc:=pK hf i s hs
 have b:=W.unroll hf (n-i) (g6 (gJ ns pl) i s) hc
 rw [← mF,show i+(n-i)=n by omega,e] at b
 unfold woR
 have l1:tJ d ((((List.range n).map fun t=>bZ pl (g6 (gJ ns pl) t s)).take i).map (fun r=>(bF ns pay r h:Rat)))=fst d (fun s=>(bF ns pay (bZ pl s) h:Rat)) (gJ ns pl) i s:=by
  rw [zX,← List.map_take,List.map_map,List.take_range,Nat.min_eq_left (by omega)]
  rfl
 have l2:tJ d ((((List.range n).map fun t=>bZ pl (g6 (gJ ns pl) t s)).drop i).map (fun r=>(bF ns pay r h:Rat)))=fst d (fun s=>(bF ns pay (bZ pl s) h:Rat)) (gJ ns pl) (n-i) (g6 (gJ ns pl) i s):=by
  rw [zX,← List.map_drop,List.map_map]
  congr 1
  refine List.ext_getElem (by simp) fun k h1 h2=>?_
  simp only [List.getElem_map,List.getElem_drop,List.getElem_range,Function.comp]
  rw [← mF]
 rw [l1,l2,List.length_take,List.length_drop,List.length_map,List.length_range,Nat.min_eq_left (by omega),a]
 obtain ⟨p1,p2⟩:=lY hd.pos hd.lt (n-i) (by omega)
 have hne:(1-d ^ (n-i))≠0:=by grind
 have k:cZ ns pay pl d h (g6 (gJ ns pl) i s)=fst d (fun s=>(bF ns pay (bZ pl s) h:Rat)) (gJ ns pl) (n-i) (g6 (gJ ns pl) i s) / (1-d ^ (n-i)):=by grind
 rw [k]
def mU (f:Nat→Nat) (t:Nat):List (Int×Int):=(List.range t).map fun (k:Nat)=>((f k:Int),(k:Int))
theorem aHA {f:Nat→Nat}{t:Nat}{x i:Int} (e:rT (mU f t) x=some i):∃ k,k<t∧i=(k:Int)∧(f k:Int)=x:=by
 unfold rT at e
 obtain ⟨p,hp,e2⟩:=Option.map_eq_some_iff.mp e
 have h1:=List.mem_of_find?_eq_some hp
 have h2:=List.find?_some hp
 unfold mU at h1
 obtain ⟨k,hk,rfl⟩:=List.mem_map.mp h1
 exact ⟨k,List.mem_range.mp hk,e2.symm,of_decide_eq_true h2⟩
theorem aBP {f:Nat→Nat}{t:Nat}{x:Int} (e:rT (mU f t) x=none):∀ k,k<t→(f k:Int)≠x:=by
 intro k hk z
 unfold rT at e
 have e2:=Option.map_eq_none_iff.mp e
 have:=List.find?_eq_none.mp e2 ((f k:Int),(k:Int)) (List.mem_map.mpr ⟨k,List.mem_range.mpr hk,rfl⟩)
 exact this (decide_eq_true z)
theorem aLk {f:Nat→Nat}{t:Nat}{x:Int} (hx:(f t:Int)=x) (e:rT (mU f t) x=none):aG9 (mU f t) x t=mU f (t+1):=by
 unfold aG9
 have hn:¬ ((mU f t).any fun p=>decide (p.1=x))=true:=by
  intro z
  obtain ⟨p,hp,hq⟩:=List.any_eq_true.mp z
  unfold mU at hp
  obtain ⟨k,hk,rfl⟩:=List.mem_map.mp hp
  exact aBP e k (List.mem_range.mp hk) (of_decide_eq_true hq)
 rw [if_neg hn]
 unfold mU
 rw [List.range_succ,List.map_append,← hx]
 rfl
theorem aI5 (ho:aY ns pay) (hp:gQ ns pl) (hs:s<pl.length) (hd:bW d):fV [aU ns pay,fN pl,.int s,aQ d]=some (.tup ((List.range ns.length).map fun h=>aQ (cZ ns pay pl d h s))):=by
 simp only [fV,cM ho,nS hp,lO hs,gD hd]
end
theorem aBd:∀ ds d,fV ds=some d→mC (gT d) (bH ["meeting","plan","start","patience","came","state","rows"] ds)
 | [m,p,x,z],r,h=>by
  obtain ⟨ns,pay,rfl,ho,h⟩:=cS (show bX m _=some r from h)
  obtain ⟨pl,rfl,hp,h⟩:=nT h
  obtain ⟨s,rfl,hs,h⟩:=lS h
  obtain ⟨d,rfl,hd,h⟩:=gM h
  cases h
  show mC _ [.im (aU ns pay),.im (fN pl),.im (.int s),.im (aQ d),.un,.un,.un]
  have hf:=aAB hp
  have h20:=hp.few.2
  simp_arith only [mC,nD,nG,nE,nE,aIl,nX]
  refine ⟨fun n δ=>∃ t:Nat,δ=[.im (aU ns pay),.im (fN pl),.im (.int s),.im (aQ d),.od (.k (mU (fun k=>g6 (gJ ns pl) k s) t)),.im (.int (g6 (gJ ns pl) t s)),.un]∧n=pl.length-t∧t≤pl.length∧∀ i j,i<j→j<t→g6 (gJ ns pl) i s≠g6 (gJ ns pl) j s,⟨pl.length,0,rfl,rfl,Nat.zero_le _,fun i j _ hj=>absurd hj (Nat.not_lt_zero j)⟩,?_⟩
  rintro n δ ⟨t,rfl,rfl,ht,hdis⟩
  have hst:=pK hf t s hs
  simp_arith only [zF,yE,gKI,DM.get]
  cases el:rT (mU (fun k=>g6 (gJ ns pl) k s) t) (g6 (gJ ns pl) t s:Int) with
  | none=>
   have hnew:=aBP el
   have hdis':∀ i j,i<j→j<t+1→g6 (gJ ns pl) i s≠g6 (gJ ns pl) j s:=by
    intro i j hij hj z
    by_cases hjt:j=t
    ·subst hjt
     exact hnew i hij (by rw [z])
    ·exact hdis i j hij (by omega) z
   have htl:t<pl.length:=by
    apply Nat.lt_of_not_le
    intro z
    have e:t=pl.length:=by omega
    obtain ⟨i,j,hij,hj,ez⟩:=xQ pl.length (fun k=>g6 (gJ ns pl) k s) fun k _=>pK hf k s hs
    exact hdis' i j hij (by omega) ez
   have e0:gL [aE (bZ pl (g6 (gJ ns pl) t s)),aE (pl.getD (g6 (gJ ns pl) t s) ([],[])).2] 0=some (aE (bZ pl (g6 (gJ ns pl) t s))):=rfl
   have hlen:(mU (fun k=>g6 (gJ ns pl) k s) t).length=t:=by simp [mU]
   have hz:t<sizeLine:=iS (by omega)
   have hstep:j1 ns pl (g6 (gJ ns pl) t s) (bZ pl (g6 (gJ ns pl) t s))=g6 (gJ ns pl) (t+1) s:=by
    rw [mF]
    rfl
   simp_arith only [Option.isSome_none,Bool.not_false,aGj,aGF,yE,gKI,DM.put,hlen,hz,sC hst,e0,aGx ho hp hst (aB8 hp hst),hstep]
   refine ⟨pl.length-(t+1),by omega,t+1,?_,rfl,htl,hdis'⟩
   rw [aLk (f:=fun k=>g6 (gJ ns pl) k s) rfl el]
  | some i0=>
   obtain ⟨i,hi,rfl,hii⟩:=aHA el
   have hii:g6 (gJ ns pl) i s=g6 (gJ ns pl) t s:=by omega
   simp_arith only [Option.isSome_some,Bool.not_true,nG,nD,aGS,aCz,fB]
   refine ⟨by simp only [List.length_map,mU,List.length_range];exact cI (by omega),fun x=>match x with
    | .int k=>aE (bZ pl k.toNat)
    | _=>.non,fun x hx=>?_,?_⟩
   ·obtain ⟨q,hq,rfl⟩:=List.mem_map.mp hx
    unfold mU at hq
    obtain ⟨k,hk,rfl⟩:=List.mem_map.mp hq
    have hsk:=pK hf k s hs
    have e0:gL [aE (bZ pl (g6 (gJ ns pl) k s)),aE (pl.getD (g6 (gJ ns pl) k s) ([],[])).2] 0=some (aE (bZ pl (g6 (gJ ns pl) k s))):=rfl
    simp_arith only [δc,List.map_cons,List.map_nil,sC hsk,e0,Int.toNat_natCast]
   ·have em:((mU (fun k=>g6 (gJ ns pl) k s) t).map fun p=>D.int p.1).map (fun x=>match x with
     | .int k=>aE (bZ pl k.toNat)
     | _=>.non)=((List.range t).map fun k=>bZ pl (g6 (gJ ns pl) k s)).map aE:=by
     unfold mU
     rw [List.map_map,List.map_map,List.map_map]
     refine List.map_congr_left fun k _=>?_
     simp
    rw [em]
    generalize hR:((List.range t).map fun k=>bZ pl (g6 (gJ ns pl) k s))=R
    have hl:R.length=t:=by rw [← hR];simp
    have hm:∀ r∈R,r∈aM ns:=by
     intro r hr
     rw [← hR] at hr
     obtain ⟨k,_,rfl⟩:=List.mem_map.mp hr
     exact aB8 hp (pK hf k s hs)
    have c1:tL (R.map aE) none (some (i:Int))=(R.take i).map aE:=by rw [aIb _ _ (by rw [List.length_map];omega),List.map_take]
    have c2:tL (R.map aE) (some (i:Int)) none=(R.drop i).map aE:=by rw [aH8 _ _ (by rw [List.length_map];omega),List.map_drop]
    have fw:=aOU (pay:=pay) ho hd (x:=.lst ((R.take i).map aE)) (y:=.lst ((R.drop i).map aE)) (rows:=R.take i) (over:=R.drop i) rfl rfl (by rw [List.length_take];omega) (fun r hr=>hm r (List.mem_of_mem_take hr)) (by rw [List.length_drop];omega) (fun r hr=>hm r (List.mem_of_mem_drop hr)) (by
     intro z
     have:=congrArg List.length z
     rw [List.length_drop] at this
     simp at this
     omega)
    simp_arith only [aLf,aEd,yE,gKI,DM.get,el,c1,c2,fw]
    congr 1
    refine List.map_congr_left fun h _=>?_
    rw [← hR,aDH hp hd hs hi hii.symm]
theorem aHt:∀ ds d,mW ds=some d→v9 (gT d) (bH ["meeting","plan","patience"] ds)
 | [m,p,z],r,h=>by
  obtain ⟨ns,pay,rfl,ho,h⟩:=cS (show bX m _=some r from h)
  obtain ⟨pl,rfl,hp,h⟩:=nT h
  obtain ⟨d,rfl,hd,h⟩:=gM h
  cases h
  show v9 _ [.im (aU ns pay),.im (fN pl),.im (aQ d)]
  have h20:=hp.few.2
  simp_arith only [v9,fB,List.length_map]
  refine ⟨⟨by omega,by omega⟩,by rw [iG];exact cI (by omega),fun x=>match x with
   | .int s=>.tup ((List.range ns.length).map fun h=>aQ (cZ ns pay pl d h s.toNat))
   | _=>.non,fun x hx=>?_,?_⟩
  ·unfold cA at hx
   obtain ⟨s,hs,rfl⟩:=List.mem_map.mp hx
   have hs':s<pl.length:=by
    have:=List.mem_range.mp hs
    omega
   simp_arith only [δc,List.map_cons,List.map_nil,Int.zero_add,aI5 ho hp hs' hd,Int.toNat_natCast]
  ·unfold cA qX
   rw [List.map_map,Int.toNat_natCast]
   congr 1
   refine List.map_congr_left fun s _=>?_
   simp
theorem wH:∀ ds d,dA ds=some d→jL (gT d) (bH ["told","hand"] ds)
 | [.tup ds,.int h],r,hF=>by
  simp only [dA] at hF
  split at hF
  ·rename_i hh
   obtain ⟨h1,h2⟩:=hh
   cases hF
   show jL _ [.im (.tup ds),.im (.int h)]
   simp_arith only [jL,fB]
   refine ⟨cI h1,hAt h,fun x hx=>?_,?_⟩
   ·obtain ⟨xs,y,rfl,e⟩:=h2 x hx
    simp_arith only [δc,List.map_cons,List.map_nil,hAt,e,Option.getD_some]
   ·first | trivial | rfl
  ·cases hF
theorem aAg:∀ ds d,fU ds=some d→l6 (gT d) (bH ["meeting","plan","state","hand","own","patience","row","best","most","deed","done","later","worth"] ds)
 | [m,p,x,y,w,z],r,hF=>by
  obtain ⟨ns,pay,rfl,ho,h1⟩:=cS (show bX m _=some r from hF)
  obtain ⟨pl,rfl,hp,h2⟩:=nT h1
  obtain ⟨s,rfl,hs,h3⟩:=lS h2
  obtain ⟨h,rfl,hh,h4⟩:=lS h3
  obtain ⟨qs,rfl,q1,q2,h5⟩:=aJx h4
  obtain ⟨d,rfl,hd,h6⟩:=gM h5
  cases h6
  clear hF h1 h2 h3 h4 h5
  show l6 _ [.im (aU ns pay),.im (fN pl),.im (.int s),.im (.int h),.im (.tup (qs.map aQ)),.im (aQ d),.un,.un,.un,.un,.un,.un,.un]
  have hr:=p6 hp hs
  have rl:=gH hr
  have n3:=(bU ho.ok).1
  have d3:=aA0 ho hh
  have e0:gL [aE (bZ pl s),aE (pl.getD s ([],[])).2] 0=some (aE (bZ pl s)):=rfl
  have e2:gL [aE ns,D.tup (pay.map aE)] 0=some (aE ns):=rfl
  have at_w:∀ t,t<pl.length→gL (qs.map aQ) (t:Int)=some (aQ (wv qs t)):=fun t ht=>by
   rw [zZ (by rw [List.length_map,q1];exact ht),List.getElem_map]
   show _=some (aQ (qs.getD t 0))
   rw [bP (by omega)]
  have bd_w:∀ t,t<pl.length→BdR 900 (wv qs t):=fun t ht=>by
   show BdR 900 (qs.getD t 0)
   rw [bP (by omega)]
   exact q2 _ (List.getElem_mem _)
  simp_arith only [l6,rG,rK,rJ,sC hs,e0,e2,dC (show h<(bZ pl s).length by omega),dC hh,at_w s hs,fL]
  refine ⟨⟨by omega,by omega⟩,fun j δ=>∃ (u l:Int) (a9 a10 a11 a12:Sl),δ=[.im (aU ns pay),.im (fN pl),.im (.int s),.im (.int h),.im (.tup (qs.map aQ)),.im (aQ d),.im (aE (bZ pl s)),.im (.int (yO ns pay pl d h (wv qs) s j).1),.im (.tup [.int u,.int l]),a9,a10,a11,a12]∧0<l∧Bd 1000 u∧Bd 1000 l∧Rat.divInt u l=(yO ns pay pl d h (wv qs) s j).2,⟨_,_,_,_,_,_,rfl,oX _,(bd_w s hs).1.mono (by decide),(bd_w s hs).2.mono (by decide),Rat.num_divInt_den _⟩,?_,?_⟩
  ·rintro j x δ ed ⟨u,l,a9,a10,a11,a12,rfl,hl,bu,bl,ev⟩
   rw [mR] at ed
   obtain ⟨hj,rfl⟩:=cC ed
   have hk:(bG ns h)[j]∈bG ns h:=List.getElem_mem hj
   have hm:=aJ6 hp hs hk
   have hn:=aLy hp hs hk
   have es:=aFy (pay:=pay) (pl:=pl) (d:=d) (W:=wv qs) (s:=s) hj
   have hv:gG ns pay pl d h (wv qs) s (bG ns h)[j]=(1-d) * bF ns pay ((bZ pl s).set h (bG ns h)[j]) h+d * wv qs (j1 ns pl s ((bZ pl s).set h (bG ns h)[j])):=rfl
   have fw:=aLB (r:=bZ pl s) (h:=h) (k:=(bG ns h)[j]) (by omega) (by omega)
   have e3:gL ((iX ns pay ((bZ pl s).set h (bG ns h)[j])).map D.int) (h:Int)=some (.int (bF ns pay ((bZ pl s).set h (bG ns h)[j]) h)):=dC (by rw [(iR ho hm).1];exact hh)
   have bx:Bd 4 (bF ns pay ((bZ pl s).set h (bG ns h)[j]) h):=by
    have:=jN (h:=h) ho hm
    unfold Bd
    omega
   have bw:=bd_w _ hn
   have fb:=aGx ho hp hs hm
   have fp:=wN ho hm
   have aw:=at_w _ hn
   generalize (bG ns h)[j]=k at *
   generalize (bZ pl s).set h k=row at *
   generalize j1 ns pl s row=t at *
   generalize bF ns pay row h=X at *
   have sq:=aDl (d:=d) X (wv qs t).num (wv qs t).den (oX _)
   rw [Rat.num_divInt_den,← hv] at sq
   have fl:bT [.int X,aQ (wv qs t),aQ d]=_:=aMw hd (bx.mono (by decide)) (bw.1.mono (by decide)) (bw.2.mono (by decide))
   have c1:=((hd.bits.2.sub hd.bits.1).mul bx).mul bw.2
   have c2:=hd.bits.1.mul bw.1
   have c3:=c1.add (c2.mono (by decide))
   have c4:=hd.bits.2.mul bw.2
   have hL:0<(d.den:Int) * ((wv qs t).den:Int):=Int.mul_pos (oX d) (oX _)
   generalize ((d.den:Int)-d.num) * X * ((wv qs t).den:Int)+d.num * (wv qs t).num=U at *
   generalize (d.den:Int) * ((wv qs t).den:Int)=L at *
   have c5:Bd 1000 U:=c3.mono (by decide)
   have c6:Bd 1000 L:=c4.mono (by decide)
   have fi:=aGr (bu.mono (by decide)) (bl.mono (by decide)) (c5.mono (by decide):Bd 3000 U) (c6.mono (by decide):Bd 3000 L)
   have key:=aEB (a:=u) (c:=U) hl hL
   rw [ev,sq] at key
   simp_arith only [fw,fb,aw,fp,e3,fl,fi]
   by_cases hc:(yO ns pay pl d h (wv qs) s j).2<gG ns pay pl d h (wv qs) s k
   ·rw [decide_eq_true (key.mpr hc)]
    unfold sG at es
    rw [if_pos hc] at es
    rw [es]
    simp_arith only []
    exact ⟨U,L,_,_,_,_,rfl,hL,c5,c6,sq⟩
   ·rw [decide_eq_false (fun z=>hc (key.mp z))]
    unfold sG at es
    rw [if_neg hc] at es
    rw [es]
    simp_arith only []
    exact ⟨u,l,_,_,_,_,rfl,hl,bu,bl,ev⟩
  ·rintro δ ⟨u,l,a9,a10,a11,a12,rfl,hl,bu,bl,ev⟩
   rw [mR,List.length_map]
   simp_arith only []
   first | done | rfl
theorem yT:∀ ds d,e7 ds=some d→kZ (gT d) (bH ["meeting","plan","hand","own","patience"] ds)
 | [m,p,y,w,z],r,hF=>by
  obtain ⟨ns,pay,rfl,ho,h1⟩:=cS (show bX m _=some r from hF)
  obtain ⟨pl,rfl,hp,h2⟩:=nT h1
  obtain ⟨h,rfl,hh,h4⟩:=lS h2
  obtain ⟨qs,rfl,q1,q2,h5⟩:=aJx h4
  obtain ⟨d,rfl,hd,h6⟩:=gM h5
  cases h6
  clear hF h1 h2 h4 h5
  show kZ _ [.im (aU ns pay),.im (fN pl),.im (.int h),.im (.tup (qs.map aQ)),.im (aQ d)]
  have h20:=hp.few.2
  simp_arith only [kZ,fB,List.length_map]
  refine ⟨⟨by omega,by omega⟩,by rw [iG];exact cI (by omega),fun x=>match x with
   | .int s=>.int (lK ns pay pl d h (wv qs) s.toNat)
   | _=>.non,fun x hx=>?_,?_⟩
  ·unfold cA at hx
   obtain ⟨s,hs,rfl⟩:=List.mem_map.mp hx
   have hs':s<pl.length:=by
    have:=List.mem_range.mp hs
    omega
   simp_arith only [δc,List.map_cons,List.map_nil,Int.zero_add,aKu ho hp hd hh hs' q1 q2,Int.toNat_natCast]
  ·unfold cA aE
   rw [List.map_map,Int.toNat_natCast,List.map_map]
   congr 1
   refine List.map_congr_left fun s _=>?_
   simp
theorem aLj:∀ ds p,sE ds=some p→aDc (aFK p) (bH ["meeting","plan","patience","told","hand","better","state","deed"] ds)
 | [m,q,z],P,hF=>by
  obtain ⟨ns,pay,pl,d,rfl,rfl,rfl,ho,hp,hd, -,rfl⟩:=aE3 (show sN m q z _ _=some P from hF)
  clear hF
  show aDc _ [.im (aU ns pay),.im (fN pl),.im (aQ d),.un,.un,.un,.un,.un]
  have n3:=(bU ho.ok).1
  have h20:=hp.few.2
  have e2:gL [aE ns,D.tup (pay.map aE)] 0=some (aE ns):=rfl
  simp_arith only [aDc,aDP,aKm ho hp hd,e2,fL,List.length_map]
  refine ⟨⟨by omega,by omega⟩,fun i δ=>∃ a4 a5 a6 a7,δ=[.im (aU ns pay),.im (fN pl),.im (aQ d),.im (qX ns pay pl d),a4,a5,a6,a7]∧∀ h,h<i→∀ s,s<pl.length→∀ k∈bG ns h,gG ns pay pl d h (cZ ns pay pl d h) s k≤cZ ns pay pl d h s,⟨_,_,_,_,rfl,fun h hh=>absurd hh (Nat.not_lt_zero h)⟩,?_,?_⟩
  ·rintro h x δ ed ⟨a4,a5,a6,a7,rfl,hno⟩
   unfold cA at ed
   obtain ⟨hh,rfl⟩:=cC ed
   rw [List.length_range] at hh
   have hh:h<ns.length:=by omega
   rw [List.getElem_range,Int.zero_add]
   simp_arith only [aIk hh hp,aI4 ho hp hd hh]
   refine ⟨fun j δ=>∃ a6 a7,δ=[.im (aU ns pay),.im (fN pl),.im (aQ d),.im (qX ns pay pl d),.im (.int h),.im (aE ((List.range pl.length).map fun s=>lK ns pay pl d h (wv (kJ ns pay pl d h)) s)),a6,a7]∧∀ s,s<j→s<pl.length→∀ k∈bG ns h,gG ns pay pl d h (cZ ns pay pl d h) s k≤cZ ns pay pl d h s,⟨_,_,rfl,fun s hs=>absurd hs (Nat.not_lt_zero s)⟩,?_,?_⟩
   ·rintro s x δ ed ⟨a6,a7,rfl,hno2⟩
    rw [uL] at ed
    obtain ⟨hs,rfl⟩:=cC ed
    rw [List.length_range,List.length_map,List.length_range] at hs
    rw [List.getElem_range]
    have eb:((List.range pl.length).map fun s=>lK ns pay pl d h (wv (kJ ns pay pl d h)) s).getD s 0=lK ns pay pl d h (wv (kJ ns pay pl d h)) s:=by rw [bP (by simpa using hs),List.getElem_map,List.getElem_range]
    have e0:gL [aE (bZ pl s),aE (pl.getD s ([],[])).2] 0=some (aE (bZ pl s)):=rfl
    have e3:gL ((bZ pl s).map D.int) (h:Int)=some (.int ((bZ pl s).getD h 0)):=dC (by rw [gH (p6 hp hs)];exact hh)
    simp_arith! only [eb,sC hs,e0,e3]
    refine ⟨by simp [pZ],?_⟩
    rcases aHa (pay:=pay) hp hd hh hs (W:=wv (kJ ns pay pl d h)) (fun s hs=>aHo hs) with ⟨h1,h2⟩ | ⟨h1,h2,h3⟩
    ·rw [show (lK ns pay pl d h (wv (kJ ns pay pl d h)) s == (bZ pl s).getD h 0)=true from beq_iff_eq.mpr h1]
     simp_arith! only [Bool.not_true]
     refine ⟨_,_,rfl,fun t ht htl=>?_⟩
     by_cases e:t=s
     ·rw [e];exact h2
     ·exact hno2 t (by omega) htl
    ·rw [show (lK ns pay pl d h (wv (kJ ns pay pl d h)) s == (bZ pl s).getD h 0)=false from beq_eq_false_iff_ne.mpr h1]
     simp_arith! only [Bool.not_false,List.length_cons,List.length_nil]
     exact ⟨by decide,.inr ⟨_,aHK hs hh h2 h3,rfl⟩⟩
   ·rintro δ ⟨a6,a7,rfl,hno2⟩
    rw [lC,List.length_map,List.length_map,List.length_range] at hno2
    refine ⟨_,_,_,_,rfl,fun h' hh' s hs=>?_⟩
    by_cases e:h'=h
    ·rw [e];exact hno2 s hs hs
    ·exact hno h' (by omega) s hs
  ·rintro δ ⟨a4,a5,a6,a7,rfl,hno⟩
   rw [iG,Int.toNat_natCast] at hno
   exact .inl ⟨trivial,aB3.mpr fun s hs h hh k hk=>hno h hh s hs k hk⟩
theorem aL1 {ns:List Int}{pay:List (List Int)}{pl:List (List Int×List Int)}{d:Rat} (ho:aY ns pay) (hp:gQ ns pl) (hd:bW d):sE [aU ns pay,fN pl,aQ d]=some fun x=>(x = .non∧nF ns pay pl d=[])∨∃ y∈nF ns pay pl d,x=aNL y:=by
 simp only [sE]
 exact aF0 ho hp hd trivial
theorem aJO:∀ ds d,o6 ds=some d→zI (gT d) (bH ["meeting","plan","patience"] ds)
 | [m,q,z],r,hF=>by
  obtain ⟨ns,pay,rfl,ho,h1⟩:=cS (show bX m _=some r from hF)
  obtain ⟨pl,rfl,hp,h2⟩:=nT h1
  obtain ⟨d,rfl,hd,h3⟩:=gM h2
  cases h3
  clear hF h1 h2
  show zI _ [.im (aU ns pay),.im (fN pl),.im (aQ d)]
  simp_arith only [zI,aL1 ho hp hd,aEL]
  rintro x (⟨rfl,hg⟩ | ⟨y,hy,rfl⟩)
  ·rw [decide_eq_true hg]
   rfl
  ·rw [decide_eq_false (fun z=>by rw [z] at hy;exact absurd hy List.not_mem_nil)]
   rfl
theorem aFi:∀ ds d,lV ds=some d→tG (gT d) (bH ["deeds","rows","many","longer","row","deed"] ds)
 | [.tup es],d,h=>by
  obtain ⟨ns,rfl,ho,rfl⟩:=uR (show mG es (fun ns=>D.tup ((aM ns).map aE))=some d from h)
  show tG _ [.im (.tup (ns.map D.int)),.un,.un,.un,.un,.un]
  simp_arith only [tG,x8,fL]
  refine ⟨by decide,by decide,fun i δ=>∃ a b c e,δ=[.im (.tup (ns.map D.int)),.im (.lst ((aM (ns.take i)).map aE)),a,b,c,e],⟨.un,.un,.un,.un,rfl⟩,?_,?_⟩
  ·rintro i d δ ed ⟨a,b,c,e,rfl⟩
   obtain ⟨hi,rfl⟩:=cC ed
   obtain ⟨f1,f2,f3,f4⟩:=aB1 ho hi
   generalize hR:aM (ns.take i)=R at *
   generalize hn:ns[i]=n at *
   simp_arith only []
   refine ⟨by decide,fun j δ=>∃ c e,δ=[.im (.tup (ns.map D.int)),.im (.lst (R.map aE)),.im (.int n),.ow ((dN (R.take j) n).map aE),c,e],⟨c,e,rfl⟩,?_,?_⟩
   ·rintro j d δ ed ⟨c,e,rfl⟩
    obtain ⟨hj,rfl⟩:=cC ed
    have fr:=f4 R[j] (List.getElem_mem hj)
    simp_arith only []
    refine ⟨by omega,fun k δ=>∃ e,δ=[.im (.tup (ns.map D.int)),.im (.lst (R.map aE)),.im (.int n),.ow ((dN (R.take j) n).map aE++((List.range k).map fun (m:Nat)=>aE (R[j]++[(m:Int)]))),.im (aE R[j]),e],⟨e,by simp⟩,?_,?_⟩
    ·rintro k d δ ed ⟨e,rfl⟩
     unfold cA at ed
     obtain ⟨hk,rfl⟩:=cC ed
     rw [List.length_range] at hk
     simp_arith only [aE,List.getElem_range,Int.zero_add]
     have hl:(dN (R.take j) n).length≤81:=by
      rw [n4,List.length_take]
      exact Nat.le_trans (Nat.mul_le_mul (Nat.le_trans (Nat.min_le_right _ _) f3) (show n.toNat≤3 by omega)) (by decide)
     refine ⟨cI (by simp),by simp;exact cI (by omega),?_,?_⟩
     ·refine iS ?_
      simp
      omega
     ·refine ⟨.im (.int (k:Int)),?_⟩
      rw [List.range_succ,List.map_append,← List.append_assoc]
      simp only [List.map_cons,List.map_nil,List.map_append,aE]
    ·rintro δ ⟨e,rfl⟩
     refine ⟨.im (aE R[j]),e,?_⟩
     rw [vA R n j hj,List.map_append,List.map_map]
     simp [cA,Function.comp_def]
   ·rintro δ ⟨c,e,rfl⟩
    simp_arith only []
    rw [aA8 ns i hi,hR,hn,List.length_map,List.take_length]
    exact ⟨_,_,_,_,rfl⟩
  ·rintro δ ⟨a,b,c,e,rfl⟩
   simp_arith only []
   rw [List.length_map,List.take_length]
theorem aDz:∀ ds d,iO ds=some d→qS (gT d) (bH ["meeting"] ds)
 | [.tup [.tup es,p]],d,h=>by
  obtain ⟨ns,rfl,ho,rfl⟩:=uR (show mG es (fun ns=>D.tup ((aM ns).map aE))=some d from h)
  show qS _ [.im (.tup [.tup (ns.map D.int),p])]
  simp [qS,dH ,aIv,aMZ,aJ3,aIm,xB,uT,sF,aF,bE,bS,cU,gC,gF,p8,aC,aJ,dE,bN,aAF,aR,iV,aBx,aGl,oR,aCA,aLR,eR,aJP,bK,aDT,yA,j5,rQ,yC,oEq,oIs,aFT,oP,pZ,fK,aFz,aCN,cO,aAV,j0,gIt,gIl,kX,aEa,vM,aHR,pM,jW,fR,vT,aF6,aFP,gOr,tZ,aBE,aEF,aCd,aHF,qV,aJH,aJo,aKa,aIj,aFk,aFs,m9,aFX,aHL,aJA,aIT,eq_self,if_true, ↓reduceIte,Bool.false_eq_true,if_false,List.getElem?_cons_zero,List.getElem?_cons_succ,List.set_cons_zero,List.set_cons_succ,gL,ixN,lV,uE _ ho]
theorem aAz:∀ ds d,dJ ds=some d→mD (gT d) (bH ["row","deeds","strays","hand","many"] ds)
 | [x,.tup ds],d,h=>by
  cases e1:jE x with
  | none=>simp [dJ,e1] at h
  | some r=>
   cases e2:iE ds with
   | none=>simp [dJ,e1,e2] at h
   | some ns=>
    simp only [dJ,e1,e2] at h
    rw [jU e1,kA e2]
    split at h
    ·rename_i hc
     obtain ⟨ho,hr⟩:=hc
     cases h
     show mD _ [.im (aE r),.im (.tup (ns.map D.int)),.un,.un,.un]
     have rl:=gH hr
     obtain ⟨m1,m2⟩:=bU ho
     simp_arith only [mD,rL,fL,List.length_nil]
     refine ⟨by decide,fun i δ=>∃ a3 a4,δ=[.im (aE r),.im (.tup (ns.map D.int)),.im (.lst ((sY ns r i).map aES)),a3,a4],⟨_,_,rfl⟩,?_,?_⟩
     ·rintro i x δ ed ⟨a3,a4,rfl⟩
      rw [uL] at ed
      obtain ⟨hi,rfl⟩:=cC ed
      rw [List.length_range] at hi
      rw [List.getElem_range]
      have hm:=m2 ns[i] (List.getElem_mem hi)
      rw [← bP hi 0] at hm
      have at1:gL (r.map D.int) (i:Int)=some (.int (r.getD i 0)):=dC (by omega)
      have hl:=yQ (r:=r) ho i (by omega)
      simp_arith! only [hJ,mR,List.length_map]
      have dl:(bG ns i).length≤3:=by
       unfold bG
       simp only [List.length_map,List.length_range]
       omega
      refine ⟨⟨by omega,by omega⟩,cI (by omega),fun x=>match x with
       | .int k=>decide (k≠r.getD i 0)
       | _=>false,fun x=>.tup [.int i,x],fun x hx=>?_,?_⟩
      ·obtain ⟨k,hk,rfl⟩:=List.mem_map.mp hx
       simp_arith! only [δc,List.map_cons,List.map_nil,at1,List.length_cons,List.length_nil]
       refine ⟨by simp [pZ],?_,fun _=>⟨by decide,trivial⟩⟩
       rw [Bool.eq_iff_iff]
       simp
      ·have ef:((((bG ns i).map D.int).filter fun x=>match x with
        | .int k=>decide (k≠r.getD i 0)
        | _=>false).map fun x=>D.tup [.int i,x])=(((bG ns i).filter fun k=>decide (k≠r.getD i 0)).map fun k=>((i:Int),k)).map aES:=by
        rw [List.filter_map,List.map_map,List.map_map]
        rfl
       have fl:=List.length_filter_le (fun x=>match x with
        | .int k=>decide (k≠r.getD i 0)
        | _=>false) ((bG ns i).map D.int)
       rw [List.length_map] at fl
       refine ⟨cI (by omega),?_⟩
       rw [ef,← List.map_append,← vS]
       exact ⟨_,_,rfl⟩
     ·rintro δ ⟨a3,a4,rfl⟩
      rw [lC,List.length_map]
      simp_arith only []
      rfl
    ·cases h
theorem aLo {ns:List Int}{pay:List (List Int)} (ho:aY ns pay):iO [aU ns pay]=some (.tup ((aM ns).map aE)):=uE _ ho.ok
theorem aDk:∀ ds d,gN ds=some d→o8 (gT d) (bH ["meeting","row","onward","threatening","nexts","done","strayed"] ds)
 | [m,x,.int on,.int thr],r,hF=>by
  obtain ⟨ns,pay,rfl,ho,h1⟩:=cS (show bX m _=some r from hF)
  obtain ⟨row,rfl,hr,h2⟩:=qK h1
  cases h2
  clear hF h1
  show o8 _ [.im (aU ns pay),.im (aE row),.im (.int on),.im (.int thr),.un,.un,.un]
  have rl:=gH hr
  have n3:=(bU ho.ok).1
  have r27:=(j4 ho.ok).2
  simp_arith only [o8,tR,tY,aLo ho,fL,List.length_nil]
  refine ⟨by decide,fun i δ=>∃ a5 a6,δ=[.im (aU ns pay),.im (aE row),.im (.int on),.im (.int thr),.ow ((((aM ns).take i).map (jZ row on thr)).map D.int),a5,a6],⟨_,_,rfl⟩,?_,?_⟩
  ·rintro i x δ ed ⟨a5,a6,rfl⟩
   obtain ⟨hi,rfl⟩:=cC ed
   have hm:(aM ns)[i]∈aM ns:=List.getElem_mem hi
   have hl:=gH hm
   have e5:((aM ns).take (i+1)).map (jZ row on thr)=((aM ns).take i).map (jZ row on thr)++[jZ row on thr (aM ns)[i]]:=by
    rw [List.take_succ,List.getElem?_eq_getElem hi,Option.toList_some,List.map_append]
    rfl
   generalize (aM ns)[i]=r at *
   have lt:(((aM ns).take i).map (jZ row on thr)).length≤27:=by rw [List.length_map,List.length_take];omega
   simp_arith! only [hJ,uL]
   refine ⟨by rw [List.length_map,List.length_range];exact cI (by omega),fun x=>match x with
    | .tup [.int k,.int v]=>decide (r.getD k.toNat 0≠v)
    | _=>false,fun x=>match x with
    | .tup [.int k,_]=>.int k
    | _=>.non,fun x hx=>?_,?_⟩
   ·obtain ⟨k,hk,rfl⟩:=List.mem_map.mp hx
    have hk:=List.mem_range.mp hk
    have at1:gL (r.map D.int) (k:Int)=some (.int (r.getD k 0)):=dC (by omega)
    simp_arith! only [δc,List.map_cons,List.map_nil,at1,Int.toNat_natCast]
    refine ⟨by simp [pZ],?_,fun _=>trivial⟩
    rw [Bool.eq_iff_iff]
    simp
   ·have ef:((((List.range row.length).map fun (k:Nat)=>D.tup [.int k,.int (row.getD k 0)]).filter fun x=>match x with
     | .tup [.int k,.int v]=>decide (r.getD k.toNat 0≠v)
     | _=>false).map fun x=>match x with
     | .tup [.int k,_]=>.int k
     | _=>.non)=(cK row r).map fun (h:Nat)=>D.int h:=by
     rw [List.filter_map,List.map_map]
     rfl
    rw [ef]
    have small:(((aM ns).take i).map (jZ row on thr)).length<sizeLine:=iS (by omega)
    cases es:cK row r with
    | nil=>
     simp_arith! only [List.map_nil,List.length_nil,List.length_map]
     refine ⟨by simp [pZ],?_⟩
     rw [show (((0:Nat):Int) == 1)=false by decide]
     simp_arith! only []
     have ea:jZ row on thr r=on:=by unfold jZ;rw [es]
     rw [e5,ea,List.map_append]
     exact ⟨by simpa using small,_,_,rfl⟩
    | cons h t=>
     cases t with
     | nil=>
      have at1:gL [D.int (h:Int)] 0=some (.int h):=rfl
      simp_arith! only [List.map_cons,List.map_nil,List.length_cons,List.length_nil,List.length_map]
      refine ⟨by simp [pZ],?_⟩
      rw [show (((0+1:Nat):Int) == 1)=true by decide]
      simp_arith! only [at1]
      have ea:jZ row on thr r=thr+(h:Int):=by unfold jZ;rw [es]
      rw [e5,ea,List.map_append]
      exact ⟨by simpa using small,_,_,rfl⟩
     | cons h2 t=>
      simp_arith! only [List.map_cons,List.length_cons,List.length_map]
      refine ⟨by simp [pZ],?_⟩
      rw [show (((t.length+1+1:Nat):Int) == 1)=false by rw [beq_eq_false_iff_ne];omega]
      simp_arith! only []
      have ea:jZ row on thr r=on:=by unfold jZ;rw [es]
      rw [e5,ea,List.map_append]
      exact ⟨by simpa using small,_,_,rfl⟩
  ·rintro δ ⟨a5,a6,rfl⟩
   rw [List.length_map,List.take_length]
   simp_arith only [List.length_cons,List.length_nil]
   exact ⟨by decide,rfl⟩
theorem y6:∀ ds d,d8 ds=some d→lA (gT d) (bH ["meeting","path","threats","many","first","behind"] ds)
 | [m,x,y],r,hF=>by
  obtain ⟨ns,pay,rfl,ho,h1⟩:=cS (show bX m _=some r from hF)
  clear hF
  cases e1:d9 x with
  | none=>simp [e1] at h1
  | some path=>
   cases e2:d9 y with
   | none=>simp [e1,e2] at h1
   | some th=>
    simp only [e1,e2] at h1
    split at h1
    ·rename_i H
     cases h1
     rw [iQ e1,iQ e2]
     clear e1 e2
     show lA _ [.im (aU ns pay),.im (.tup (path.map aE)),.im (.tup (th.map aE)),.un,.un,.un]
     have p1:=H.few.1
     have p2:=H.few.2
     have t2:=H.few2
     simp_arith only [lA,qH,pW,qG,aAn aE _ [],fB,List.length_map,List.length_range]
     refine ⟨cI (by omega),fun x=>match x with
      | .tup [.int p,r]=>match jE r with
       | some r=>.tup [aE r,aE (aEn ns r ((p+1) % (path.length:Int)) path.length)]
       | none=>.non
      | _=>.non,fun x hx=>?_,cI (by omega),fun x=>match x with
      | .tup [.int p,r]=>match jE r with
       | some r=>.tup [aE r,aE (aEn ns r ((path.length:Int)+p) path.length)]
       | none=>.non
      | _=>.non,fun x hx=>?_,?_⟩
     ·obtain ⟨p,hp,rfl⟩:=List.mem_map.mp hx
      have hp:=List.mem_range.mp hp
      have hm:path.getD p []∈aM ns:=by rw [bP hp];exact H.rows _ (List.getElem_mem hp)
      simp_arith only [δc,List.map_cons,List.map_nil,cJ,aGp ho hm]
      first | exact ⟨by omega,trivial⟩ | exact ⟨⟨by omega,by omega⟩,trivial⟩ | trivial
     ·obtain ⟨p,hp,rfl⟩:=List.mem_map.mp hx
      have hp:=List.mem_range.mp hp
      have hm:th.getD p []∈aM ns:=by rw [bP hp];exact H.rows2 _ (List.getElem_mem hp)
      simp_arith only [δc,List.map_cons,List.map_nil,cJ,aGp ho hm]
     ·refine ⟨cI (by omega),?_⟩
      unfold fN aBK
      rw [List.map_append,List.map_map,List.map_map,List.map_map,List.map_map]
      congr 1
      congr 1
      ·refine List.map_congr_left fun p _=>?_
       simp only [Function.comp,cJ]
      ·refine List.map_congr_left fun p _=>?_
       simp only [Function.comp,cJ]
    ·cases h1
theorem uF:∀ ds d,bY ds=some d→iY (gT d) (bH ["meeting","threats"] ds)
 | [m,y],r,hF=>by
  obtain ⟨ns,pay,rfl,ho,h1⟩:=cS (show bX m _=some r from hF)
  clear hF
  cases e2:d9 y with
  | none=>simp [e2] at h1
  | some th=>
   simp only [e2] at h1
   split at h1
   ·rename_i H
    cases h1
    rw [iQ e2]
    clear e2
    show iY _ [.im (aU ns pay),.im (.tup (th.map aE))]
    have n3:=(bU ho.ok).1
    have t2:=H.1
    simp_arith only [iY,aAn aE _ [],fB,List.length_map,List.length_range]
    refine ⟨cI (by omega),fun x=>match x with
     | .tup [.int p,r]=>match jE r with
      | some r=>.int (bF ns pay r p.toNat)
      | none=>.non
     | _=>.non,fun x hx=>?_,?_⟩
    ·obtain ⟨p,hp,rfl⟩:=List.mem_map.mp hx
     have hp:=List.mem_range.mp hp
     have hm:th.getD p []∈aM ns:=by rw [bP hp];exact H.2 _ (List.getElem_mem hp)
     have at1:gL ((iX ns pay (th.getD p [])).map D.int) (p:Int)=some (.int (bF ns pay (th.getD p []) p)):=dC (by rw [(iR ho hm).1];omega)
     simp_arith only [δc,List.map_cons,List.map_nil,cJ,wN ho hm,at1,Int.toNat_natCast]
    ·unfold aE
     rw [List.map_map,List.map_map]
     congr 1
     refine List.map_congr_left fun p _=>?_
     have e:jE (.tup ((th.getD p []).map D.int))=some (th.getD p []):=cJ _
     simp only [Function.comp,e,Int.toNat_natCast]
   ·cases h1
theorem aIa:∀ ds d,mK ds=some d→vU (gT d) (bH ["meeting","row","threats"] ds)
 | [m,x,y],r,hF=>by
  obtain ⟨ns,pay,row,th,rfl,rfl,rfl,ho,H,h1⟩:=wK (show kW m x y _=some r from hF)
  cases h1
  clear hF
  show vU _ [.im (aU ns pay),.im (aE row),.im (.tup (th.map aE))]
  have n3:=(bU ho.ok).1
  have hw:aFV ns [row] th:=⟨⟨by simp,by simp⟩,by rw [H.many];omega,fun r hr=>by rw [List.mem_singleton.mp hr];exact H.row,H.all⟩
  have fw:d8 [aU ns pay,.tup [aE row],.tup (th.map aE)]=some (fN (aBK ns [row] th)):=aLN ho hw
  rw [aCw] at fw
  simp_arith only [vU,fw,List.length_cons,List.length_nil]
  exact ⟨by decide,trivial⟩
theorem xU {α:Type} (p:α→Bool):∀ (l:List α) (i:Nat) (h:i<l.length),(∀ x∈l.take i,p x=false)→p l[i]=true→l.find? p=some l[i]
 | x::l,0,_,_,h2=>by rw [List.find?_cons];simp only [List.getElem_cons_zero] at h2 ⊢;rw [h2]
 | x::l,i+1,h,h1,h2=>by
  rw [List.find?_cons,h1 x (by simp)]
  simp only [List.getElem_cons_succ] at h2 ⊢
  exact xU p l i (by simpa using h) (fun y hy=>h1 y (by rw [List.take_succ_cons];exact List.mem_cons_of_mem _ hy)) h2
theorem aGo (P:Int):Rat.divInt P 1=(P:Rat):=by rw [Rat.divInt_eq_div];grind
theorem tK:∀ ds d,b8 ds=some d→iP (gT d) (bH ["meeting","row","after","patience","pays","hand","deed","now"] ds)
 | [m,x,y,z],r,hF=>by
  obtain ⟨ns,pay,rfl,ho,h1⟩:=cS (show bX m _=some r from hF)
  obtain ⟨row,rfl,hr,h2⟩:=qK h1
  clear hF h1
  cases e1:jE y with
  | none=>simp [e1] at h2
  | some fl=>
   simp only [e1] at h2
   split at h2
   ·rename_i hf
    obtain ⟨d,rfl,hd,h3⟩:=gM h2
    cases h3
    rw [jU e1]
    clear e1 h2
    show iP _ [.im (aU ns pay),.im (aE row),.im (aE fl),.im (aQ d),.un,.un,.un,.un]
    have e2:gL [aE ns,D.tup (pay.map aE)] 0=some (aE ns):=rfl
    have rl:=gH hr
    have n3:=(bU ho.ok).1
    simp_arith only [iP,mI,wN ho hr,e2,aKv ho.ok hr,fL]
    refine ⟨fun i δ=>∃ a5 a6 a7,δ=[.im (aU ns pay),.im (aE row),.im (aE fl),.im (aQ d),.im (aE (iX ns pay row)),a5,a6,a7]∧∀ q∈(jR ns row).take i,uS ns pay d fl row q=false,⟨_,_,_,rfl,fun q hq=>absurd hq (by simp)⟩,?_,?_⟩
    ·rintro i x δ ed ⟨a5,a6,a7,rfl,hno⟩
     obtain ⟨hi,rfl⟩:=cC ed
     have hq:(jR ns row)[i]∈jR ns row:=List.getElem_mem hi
     have fnd:=xU (uS ns pay d fl row) (jR ns row) i hi hno
     have et:(jR ns row).take (i+1)=(jR ns row).take i++[(jR ns row)[i]]:=by rw [List.take_succ,List.getElem?_eq_getElem hi,Option.toList_some]
     obtain ⟨h,hh,e1,h2,h3⟩:=qP.mp hq
     generalize (jR ns row)[i]=q at *
     obtain ⟨q1,k⟩:=q
     simp only at e1 h2 h3
     subst e1
     have hsm:=zO (k:=k) (i:=h) hr (oF.mp h2).1 (oF.mp h2).2
     have hfl:h<fl.length:=by rw [hf.len];exact hh
     have fw:=aLB (r:=row) (h:=h) (k:=k) (by omega) (by omega)
     have at1:gL ((iX ns pay row).map D.int) (h:Int)=some (.int (bF ns pay row h)):=dC (by rw [(iR ho hr).1];exact hh)
     have at2:gL ((iX ns pay (row.set h k)).map D.int) (h:Int)=some (.int (bF ns pay (row.set h k) h)):=dC (by rw [(iR ho hsm).1];exact hh)
     have at3:gL (fl.map D.int) (h:Int)=some (.int (fl.getD h 0)):=dC hfl
     have b1:=jN (h:=h) ho hr
     have b2:=jN (h:=h) ho hsm
     have b3 : -9≤fl.getD h 0∧fl.getD h 0≤9:=by rw [bP hfl];exact hf.bd _ (List.getElem_mem hfl)
     have gq:uS ns pay d fl row ((h:Int),k)=decide ((bF ns pay row h:Rat)<(1-d) * bF ns pay (row.set h k) h+d * ((fl.getD h 0:Int):Rat)):=rfl
     have c1:Bd 10 (bF ns pay row h):=by unfold Bd;omega
     have c2:Bd 10 (bF ns pay (row.set h k) h):=by unfold Bd;omega
     have c3:Bd 10 (fl.getD h 0):=by unfold Bd;omega
     have c4:Bd 10 (1:Int):=by unfold Bd;decide
     generalize bF ns pay row h=P at *
     generalize bF ns pay (row.set h k) h=Q at *
     generalize fl.getD h 0=G at *
     have fl':=aMw hd (c2.mono (by decide)) (c3.mono (by decide)) (c4.mono (by decide):Bd 4000 (1:Int))
     have d1:=((hd.bits.2.sub hd.bits.1).mul c2).mul c4
     have d2:=hd.bits.1.mul c3
     have d3:=d1.add (d2.mono (by decide))
     have d4:=hd.bits.2.mul c4
     have sq:=aDl (d:=d) Q G 1 (by decide)
     have hL:0<(d.den:Int) * 1:=by have:=oX d;omega
     generalize ((d.den:Int)-d.num) * Q * 1+d.num * G=U at *
     generalize (d.den:Int) * 1=L at *
     have fi:=aGr (c1.mono (by decide):Bd 3000 P) (c4.mono (by decide):Bd 3000 (1:Int)) (d3.mono (by decide):Bd 3000 U) (d4.mono (by decide):Bd 3000 L)
     have key:=aEB (a:=P) (b:=1) (c:=U) (by decide) hL
     rw [sq,aGo,aGo] at key
     simp_arith only [fw,wN ho hsm,at1,at2,at3,List.length_cons,List.length_nil,fl',fi]
     refine ⟨by decide,by decide,?_⟩
     by_cases hc:(P:Rat)<(1-d) * Q+d * G
     ·rw [decide_eq_true (key.mpr hc)]
      simp_arith only [List.length_cons,List.length_nil]
      refine ⟨by decide,?_⟩
      unfold wM oA
      rw [fnd (by rw [gq];exact decide_eq_true hc)]
     ·rw [decide_eq_false (fun z=>hc (key.mp z))]
      simp_arith only []
      refine ⟨_,_,_,rfl,fun q hq=>?_⟩
      rcases List.mem_append.mp (by rw [← et];exact hq) with hq | hq
      ·exact hno q hq
      ·rw [List.mem_singleton.mp hq,gq]
       exact decide_eq_false hc
    ·rintro δ ⟨a5,a6,a7,rfl,hno⟩
     rw [List.length_map,List.take_length] at hno
     unfold wM oA
     rw [List.find?_eq_none.mpr fun q hq=>by rw [hno q hq];simp]
   ·cases h2
theorem aAT:∀ ds d,fQ ds=some d→mB (gT d) (bH ["meeting","rows","hand"] ds)
 | [m,t,y],r,hF=>by
  obtain ⟨ns,pay,rfl,ho,h1⟩:=cS (show bX m _=some r from hF)
  clear hF
  cases e1:d9 t with
  | none=>simp [e1] at h1
  | some S=>
   simp only [e1] at h1
   split at h1
   ·rename_i hS
    obtain ⟨h,rfl,hh,h2⟩:=lS h1
    cases h2
    rw [iQ e1]
    clear e1 h1
    show mB _ [.im (aU ns pay),.im (.tup (S.map aE)),.im (.int h)]
    simp_arith only [mB,aCu]
    refine ⟨by simpa using hS.2,fun x=>match jE x with
     | some r=>bF ns pay r h
     | none=>0,fun x hx=>?_,fun i x ex hb=>?_⟩
    ·obtain ⟨r,hr,rfl⟩:=List.mem_map.mp hx
     have at1:gL ((iX ns pay r).map D.int) (h:Int)=some (.int (bF ns pay r h)):=dC (by rw [(iR ho (hS.1.rows r hr)).1];exact hh)
     simp_arith only [δc,List.map_cons,List.map_nil,wN ho (hS.1.rows r hr),at1,cJ]
    ·obtain ⟨hi,rfl⟩:=cC ex
     have hmin:∀ j (hj:j<S.length),bF ns pay S[i] h≤bF ns pay S[j] h∧(j<i→bF ns pay S[i] h<bF ns pay S[j] h):=fun j hj=>by
      have:=hb j (aE S[j]) (by simp [hj])
      simpa only [cJ] using this
     have ef:bF ns pay S[i] h=pT ns pay S h:=by
      have a:=wU (ns:=ns) (pay:=pay) (h:=h) (List.getElem_mem hi)
      obtain ⟨r,hr,e⟩:=uP (ns:=ns) (pay:=pay) hS.2 h
      obtain ⟨j,hj,rfl⟩:=List.mem_iff_getElem.mp hr
      have b:=(hmin j hj).1
      omega
     have ft:=xU (fun r=>decide (bF ns pay r h=pT ns pay S h)) S i hi (fun x hx=>by
      obtain ⟨j,hj,rfl⟩:=List.mem_iff_getElem.mp hx
      rw [List.length_take] at hj
      rw [List.getElem_take]
      have b:=(hmin j (by omega)).2 (by omega)
      exact decide_eq_false (by omega)) (decide_eq_true ef)
     show aE S[i]=aE (oS ns pay S h)
     unfold oS
     rw [ft]
     rfl
   ·cases h1
theorem aAA:∀ a b:List (List Int),pQ (a.map aE) (b.map aE)=some ((a.zip b).all fun p=>p.1 == p.2)
 | [],b=>by cases b <;> simp [pQ]
 | x::a,[]=>by simp [pQ]
 | x::a,y::b=>by
  rw [List.map_cons,List.map_cons,pQ,xK,aAA a b]
  rfl
theorem yM:∀ a b:List (List Int),(((a.zip b).all fun p=>p.1 == p.2) && a.length == b.length)=(a == b)
 | [],[]=>rfl
 | [],y::b=>by simp
 | x::a,[]=>by simp
 | x::a,y::b=>by
  have ih:=yM a b
  rw [List.zip_cons_cons,List.all_cons,List.length_cons,List.length_cons,List.cons_beq_cons,← ih,Bool.and_assoc]
  congr 2
  simp
theorem wV (a b:List (List Int)):oP (.tup (a.map aE)) (.tup (b.map aE))=some (a == b):=by
 unfold oP
 rw [aAA,List.length_map,List.length_map,Option.map_some,yM]
theorem xE (a:List (List Int)):pZ (.tup (a.map aE))≤32:=by
 have:=nU a
 rw [pZ]
 omega
theorem aFe {ns:List Int}{pay:List (List Int)} (ho:aY ns pay):pG ns (aM ns):=⟨by have:=(j4 ho.ok).2;omega,fun _ h=>h⟩
theorem aAE {ns:List Int}{pay:List (List Int)} (ho:aY ns pay) {S:List (List Int)}{p:List Int→Bool} (e:S=(aM ns).filter p):pG ns S:=by
 subst e
 refine ⟨?_,fun r hr=>(List.mem_filter.mp hr).1⟩
 have:=(j4 ho.ok).2
 have:=List.length_filter_le p (aM ns)
 omega
theorem aKP:∀ ds d,lH ds=some d→aDn (gT d) (bH ["meeting","patience","rows","left"] ds)
 | [m,z],r,hF=>by
  obtain ⟨ns,pay,rfl,ho,h1⟩:=cS (show bX m _=some r from hF)
  obtain ⟨d,rfl,hd,h2⟩:=gM h1
  cases h2
  clear hF h1
  show aDn _ [.im (aU ns pay),.im (aQ d),.un,.un]
  simp_arith! only [aDn,aEi,aEf,aLo ho,aD6 ho (aFe ho) hd,nX]
  refine ⟨fun n δ=>∃ (S:List (List Int)) (p:List Int→Bool),δ=[.im (aU ns pay),.im (aQ d),.im (.tup (S.map aE)),.im (.tup ((lG ns pay d S).map aE))]∧n=S.length∧S=(aM ns).filter p∧∀ r∈aX ns pay d,r∈S,⟨_,aM ns,fun _=>true,rfl,rfl,(List.filter_eq_self.mpr fun _ _=>rfl).symm,fun r hr=>(List.mem_filter.mp hr).1⟩,?_⟩
  rintro n δ ⟨S,p,rfl,rfl,eS,sub⟩
  simp_arith! only [wV]
  refine ⟨xE _,?_⟩
  by_cases e:lG ns pay d S=S
  ·rw [show (lG ns pay d S == S)=true from beq_iff_eq.mpr e]
   simp_arith! only [Bool.not_true]
   rw [aIK ho hd eS sub e]
  ·rw [show (lG ns pay d S == S)=false from beq_eq_false_iff_ne.mpr e]
   obtain ⟨p',e2⟩:=aEh (pay:=pay) (d:=d) eS
   simp_arith! only [Bool.not_false,aD6 ho (aAE ho e2) hd]
   exact ⟨_,aKd e,lG ns pay d S,p',rfl,rfl,e2,aH3 ho hd sub⟩
theorem aIp {ns:List Int}{pay:List (List Int)}{S:List (List Int)} (hn:S≠[]):(List.range ((List.range ns.length).map (oS ns pay S)).length).map (fun h=>bF ns pay (((List.range ns.length).map (oS ns pay S)).getD h []) h)=flS ns pay S:=by
 unfold flS
 rw [List.length_map,List.length_range]
 refine List.map_congr_left fun h hh=>?_
 have hh:=List.mem_range.mp hh
 rw [bP (by simpa using hh),List.getElem_map,List.getElem_range,(aBc hn h).2]
theorem aNk {ns:List Int}{pay:List (List Int)}{S:List (List Int)} (ho:aY ns pay) (hS:pG ns S) (hn:S≠[]):bY [aU ns pay,.tup (((List.range ns.length).map (oS ns pay S)).map aE)]=some (aE (flS ns pay S)):=by
 rw [aGO ho (by simp) (fun r hr=>by
  obtain ⟨h,_,rfl⟩:=List.mem_map.mp hr
  exact hS.rows _ (aBc hn h).1),aIp hn]
theorem wR:∀ ds d,dQ ds=some d→j9 (gT d) (bH ["meeting","rows","patience","after"] ds)
 | [m,x,z],r,hF=>by
  obtain ⟨ns,pay,rfl,ho,h1⟩:=cS (show bX m _=some r from hF)
  clear hF
  cases e1:d9 x with
  | none=>simp [e1] at h1
  | some S=>
   simp only [e1] at h1
   split at h1
   ·rename_i hS
    obtain ⟨d,rfl,hd,h2⟩:=gM h1
    cases h2
    rw [iQ e1]
    clear e1 h1
    show j9 _ [.im (aU ns pay),.im (.tup (S.map aE)),.im (aQ d),.un]
    have eE:oP (.tup (S.map aE)) (.tup [])=some (S == []):=wV S []
    have few:=hS.few
    simp_arith! only [j9,oV,o0,eE,List.length_nil]
    refine ⟨by decide,xE _,?_⟩
    by_cases hn:S=[]
    ·subst hn
     simp_arith! only [BEq.rfl,List.length_nil,aIW,List.map_nil]
     first | exact ⟨by decide,trivial⟩ | trivial
    ·rw [show (S == [])=false from beq_eq_false_iff_ne.mpr hn]
     simp_arith! only [aI1 ho hS hn,aNk ho hS hn,hJ,List.length_map]
     refine ⟨cI (by omega),fun x=>match jE x with
      | some r=>(oA ns pay d (flS ns pay S) r).isNone
      | none=>false,fun x=>x,fun x hx=>?_,?_⟩
     ·obtain ⟨r,hr,rfl⟩:=List.mem_map.mp hx
      simp_arith! only [δc,List.map_cons,List.map_nil,aGM ho (hS.rows r hr) (aJE ho hS.rows hn) hd,cJ,aEL]
      refine ⟨?_,fun _=>trivial⟩
      unfold wM
      cases oA ns pay d (flS ns pay S) r <;> rfl
     ·rw [List.filter_map,List.map_id']
      unfold lG
      congr 2
      congr 1
      funext r
      simp only [Function.comp,cJ]
   ·cases h1
theorem xG:∀ ds d,cV ds=some d→kF (gT d) (bH ["meeting","rows"] ds)
 | [m,x],r,hF=>by
  obtain ⟨ns,pay,rfl,ho,h1⟩:=cS (show bX m _=some r from hF)
  clear hF
  cases e1:d9 x with
  | none=>simp [e1] at h1
  | some S=>
   simp only [e1] at h1
   split at h1
   ·rename_i hS
    cases h1
    rw [iQ e1]
    clear e1
    show kF _ [.im (aU ns pay),.im (.tup (S.map aE))]
    have n3:=(bU ho.ok).1
    have e2:gL [aE ns,D.tup (pay.map aE)] 0=some (aE ns):=rfl
    simp_arith only [kF,e2,fB,List.length_map]
    refine ⟨⟨by omega,by omega⟩,by rw [iG];exact cI (by omega),fun x=>match x with
     | .int h=>aE (oS ns pay S h.toNat)
     | _=>.non,fun x hx=>?_,?_⟩
    ·unfold cA at hx
     obtain ⟨h,hh,rfl⟩:=List.mem_map.mp hx
     have hh:h<ns.length:=by
      have:=List.mem_range.mp hh
      omega
     simp_arith only [δc,List.map_cons,List.map_nil,Int.zero_add,aLP ho hS.1 hS.2 hh,Int.toNat_natCast]
    ·unfold cA
     rw [List.map_map,Int.toNat_natCast,List.map_map]
     congr 1
     refine List.map_congr_left fun h _=>?_
     simp
   ·cases h1
abbrev aMK (o:Out):DEX:={ nx:=fun _=>o.ret .non,rt:=o.ret,xc:=o.exc }
theorem aM0 {ns:List Int}{pay:List (List Int)}{d:Rat} (ho:aY ns pay) (hd:bW d):lH [aU ns pay,aQ d]=some (.tup ((aX ns pay d).map aE)):=by
 simp only [lH,cM ho,gD hd]
theorem aKt {ns:List Int}{pay:List (List Int)}{d:Rat} (hk:aX ns pay d≠[]):iJ ns pay d ((List.range ns.length).map (oS ns pay (aX ns pay d))):=by
 refine ⟨by simp,fun h hh=>?_⟩
 rw [bP (by simpa using hh),List.getElem_map,List.getElem_range]
 exact aBc hk h
theorem aF1:∀ ds o,iT ds=some o→sH (aMK o) (bH ["meeting","patience","rows"] ds)
 | [m,z],o,hF=>by
  obtain ⟨ns,pay,d,rfl,rfl,ho,hd,h1⟩:=zR (show aBG m z _=some o from hF)
  cases h1
  clear hF
  show sH _ [.im (aU ns pay),.im (aQ d),.un]
  have eE:oP (.tup ((aX ns pay d).map aE)) (.tup [])=some (aX ns pay d == []):=wV _ []
  have hS:pG ns (aX ns pay d):=aAE ho rfl
  simp_arith! only [sH,yB,yN,aGR,aB5,aDx,aFC,aM0 ho hd,eE,List.length_nil]
  refine ⟨by decide,xE _,?_⟩
  by_cases hk:aX ns pay d=[]
  ·rw [show (aX ns pay d == [])=true from beq_iff_eq.mpr hk]
   simp_arith! only [List.length_cons,List.length_nil]
   exact ⟨by decide,hk,trivial⟩
  ·rw [show (aX ns pay d == [])=false from beq_eq_false_iff_ne.mpr hk]
   simp_arith! only [aI1 ho hS hk]
   exact ⟨hk,_,rfl,aKt hk⟩
theorem aEl {ns:List Int}{pay:List (List Int)}{d:Rat}{th:List (List Int)} (H:iJ ns pay d th):(List.range th.length).map (fun h=>bF ns pay (th.getD h []) h)=cD ns pay d:=by
 unfold cD
 rw [H.len]
 exact List.map_congr_left fun h hh=>(H.mem h (List.mem_range.mp hh)).2
theorem aHg:∀ ds o,j3 ds=some o→vP (aMK o) (bH ["meeting","patience"] ds)
 | [m,z],o,hF=>by
  obtain ⟨ns,pay,d,rfl,rfl,ho,hd,h1⟩:=zR (show aBG m z _=some o from hF)
  cases h1
  clear hF
  show vP _ [.im (aU ns pay),.im (aQ d)]
  have fh:iT [aU ns pay,aQ d]=_:=tH ho hd
  simp_arith only [vP,aEV,wF,rC,uZ,oE,aEw,fh]
  refine ⟨fun c z=>z,?_⟩
  rintro x ⟨hk,th,rfl,H⟩
  have ft:=aGO (pay:=pay) (th:=th) ho (by rw [H.len];exact Nat.le_refl _) fun r hr=>(List.mem_filter.mp (H.all hr)).1
  rw [aEl H] at ft
  simp_arith only [ft]
  exact ⟨hk,trivial⟩
theorem aHX {ns:List Int}{pay:List (List Int)}{d:Rat} (ho:aY ns pay) (hk:aX ns pay d≠[]):aKM ns (cD ns pay d):=aJE (S:=aX ns pay d) ho (fun r hr=>(List.mem_filter.mp hr).1) hk
theorem aFo:∀ ds o,lM ds=some o→sV (aMK o) (bH ["meeting","row","patience"] ds)
 | [m,x,z],o,hF=>by
  obtain ⟨ns,pay,row,d,rfl,rfl,rfl,ho,hr,hd,h1⟩:=aEG (show aAN m x z _=some o from hF)
  cases h1
  clear hF
  show sV _ [.im (aU ns pay),.im (aE row),.im (aQ d)]
  have fh:j3 [aU ns pay,aQ d]=_:=tH ho hd
  simp_arith only [sV,aEV,wF,rC,uZ,oE,aEw,fh]
  refine ⟨fun c z=>z,?_⟩
  rintro x ⟨hk,rfl⟩
  simp_arith only [aGM ho hr (aHX ho hk) hd]
  refine ⟨hk,?_⟩
  unfold aG6 wM
  have kd:=zV ho hd hk hr
  cases e:oA ns pay d (cD ns pay d) row with
  | none=>exact .inl ⟨kd.mp (xW.mp e),rfl⟩
  | some q=>
   have hm:=aDO e
   refine .inr ⟨fun z=>?_,q,hm,rfl⟩
   rw [kd.mpr z] at hm
   exact absurd hm (by simp)
def nK (i:Nat):Stmt:=PySem.Challenge.pw_pactkeep_k06_whole_agreements_that_are_k.main.body.getD i (.Pass ⟨0,0,0,0⟩)
abbrev eX:Stmt:=nK 5
abbrev nW:Stmt:=nK 6
abbrev lQ:Stmt:=nK 7
abbrev kT:Stmt:=nK 9
abbrev lL:Stmt:=nK 10
abbrev kI:Stmt:=nK 11
abbrev jF:Stmt:=nK 12
abbrev fY:Stmt:=nK 13
abbrev uA:Stmt:=nK 15
abbrev mX:Stmt:=nK 17
abbrev kK:Stmt:=nK 18
abbrev fP:Stmt:=nK 19
abbrev gB:Stmt:=nK 20
abbrev kU:Stmt:=nK 21
abbrev fE:Stmt:=nK 22
abbrev fF:Stmt:=nK 23
abbrev lX:Stmt:=nK 24
abbrev d5:Stmt:=nK 26
abbrev iB:Stmt:=nK 27
abbrev dF:Stmt:=nK 28
abbrev oH:Stmt:=nK 30
abbrev u0:Stmt:=nK 31
abbrev oM:Stmt:=nK 32
abbrev lN:Stmt:=nK 33
abbrev lP:Stmt:=nK 34
abbrev eB:Stmt:=nK 35
abbrev eF:Stmt:=nK 36
abbrev cN:Stmt:=nK 37
abbrev dS:Stmt:=nK 38
abbrev uU:Stmt:=nK 40
abbrev rA:Stmt:=nK 41
abbrev e8:Stmt:=nK 42
abbrev gZ:Stmt:=nK 43
abbrev dU:Stmt:=nK 44
abbrev jB:Stmt:=nK 46
abbrev kN:Stmt:=nK 47
abbrev iD:Stmt:=nK 48
abbrev dL:Stmt:=nK 49
abbrev fG:Stmt:=nK 50
abbrev fH:Stmt:=nK 51
abbrev iH:Stmt:=nK 52
abbrev jD:Stmt:=nK 53
abbrev jI:Stmt:=nK 54
abbrev iK:Stmt:=nK 55
abbrev fW:Stmt:=nK 56
abbrev iL:Stmt:=nK 57
abbrev iC:Stmt:=nK 58
abbrev jG:Stmt:=nK 59
abbrev nV:Stmt:=nK 60
structure mT (K:PySem.W.Frag) (mg:Str→Option Value):Prop where
 n_ValueError:mg "ValueError"=none
 n_abs:mg "abs"=none
 n_enumerate:mg "enumerate"=none
 n_int:mg "int"=none
 n_isinstance:mg "isinstance"=none
 n_len:mg "len"=none
 n_min:mg "min"=none
 n_range:mg "range"=none
 n_reversed:mg "reversed"=none
 n_sorted:mg "sorted"=none
 n_sum:mg "sum"=none
 n_tuple:mg "tuple"=none
 n_zip:mg "zip"=none
 x_NoPact:aJT K mg "NoPact"
 e_PactError:∃ cl,mg "PactError"=some cl∧∀ (c:Str) cls,(c="NoPact")→mg c=some cls→PySem.W.exmOne K cls cl=some true
 i_NoPact_NoText:∃ C N:Addr,mg "NoPact"=some (.ref C)∧mg "NoText"=some (.ref N)∧aIV K C∧PySem.W.kitOne K (.ref C) (.ref C)=some true∧PySem.W.kitOne K (.ref C) (.ref N)=some false∧PySem.W.kitOne K (.ref C) (.type "ValueError")=some true
section
variable {P:Program}{w:World}{K:PySem.W.Frag}{mg:Str→Option Value}{base:Heap}
section
set_option maxHeartbeats 8000000
variable {f:Addr}{cdv:Value}{A:Around}{outer:List Env}{s:Shared}{H:Hp}{E:XK}
theorem fA:bA ["one","other","greater","smaller","rest"] ["one","other"] (aD eX):=by simp_all_arith!
theorem tM (T:mT K mg) (hr:cE 0 (A.deeper (envOfC "common_divisor" (aD eX) s.heap.objs.size f cdv))) :
  j2 (dZ kL P w K mg base ["one","other","greater","smaller","rest"] "common_divisor" (aD eX) f cdv A outer s H E).nox (aS eX) jM:=by
 have hu:=hr.units
 exact (aI (aW (bJ aCr (aB (aA (pv 0)) aG) (fun h1 h2=>cQ h1 rfl T.n_abs aCS h2)) (aK (aH (i:=2) fA.nd rfl (Or.inl rfl))) (fun h1 h2=>aV h1 h2)) (aI (aW (bJ aCr (aB (aA (pv 1)) aG) (fun h1 h2=>cQ h1 rfl T.n_abs aCS h2)) (aK (aH (i:=3) fA.nd rfl (Or.inl rfl))) (fun h1 h2=>aV h1 h2)) (aI (rR PassesOwn.never (cR (nH hu) (aA (pv 3)) aL) (aI (aW (bL n9 (aA (pv 2)) (aA (pv 3))) (aK (aH (i:=4) fA.nd rfl (Or.inl rfl))) (fun h1 h2=>aV h1 h2)) (aI (aW (aA (pv 3)) (aK (aH (i:=2) fA.nd rfl (Or.inl rfl))) (fun h1 h2=>aV h1 h2)) (aN (aW (aA (pv 4)) (aK (aH (i:=3) fA.nd rfl (Or.inl rfl))) (fun h1 h2=>aV h1 h2)))))) (aN (bM (aA (pv 2)))))))
theorem aFh:bA ["one","other"] ["one","other"] (aD lQ):=by simp_all_arith!
theorem aC7 (T:mT K mg) (hr:cE 0 (A.deeper (envOfC "is_less" (aD lQ) s.heap.objs.size f cdv))) :
  j2 (dZ kL P w K mg base ["one","other"] "is_less" (aD lQ) f cdv A outer s H E).nox (aS lQ) sU:=by
 have hu:=hr.units
 exact (aN (bM (uO aJh (bL g9 (bD (aA (pv 0)) aL (fun _ _=>rfl)) (bD (aA (pv 1)) aL (fun _ _=>rfl))) (bL g9 (bD (aA (pv 1)) aL (fun _ _=>rfl)) (bD (aA (pv 0)) aL (fun _ _=>rfl))))))
theorem kP:bA ["deeds","rows","many","longer","row","deed"] ["deeds"] (aD lL):=by simp_all_arith!
theorem aC6 (T:mT K mg) (hr:cE 0 (A.deeper (envOfC "rows_of" (aD lL) s.heap.objs.size f cdv))) :
  j2 (dZ kL P w K mg base ["deeds","rows","many","longer","row","deed"] "rows_of" (aD lL) f cdv A outer s H E).nox (aS lL) tG:=by
 have hu:=hr.units
 exact (aI (aW (DF.toE (jY (aB (cP aG) aG))) (aK (aH (i:=1) kP.nd rfl (Or.inl rfl))) (fun h1 h2=>aV h1 h2)) (aI (e6 rfl PassesOwn.never (rD (aA (pv 0))) (aK (aH (i:=2) kP.nd rfl (Or.inl rfl))) (aI (l9 (i:=3) (jY aG) (fun h=>n8 (i:=3) kP.nd rfl (Or.inl rfl) h)) (aI (e6 rfl PassesOwn.never (pO (aA (pv 1))) (aK (aH (i:=4) kP.nd rfl (Or.inl rfl))) (aN (e6 rfl PassesOwn.never (hZ rfl T.n_range (aA (pv 2))) (aK (aH (i:=5) kP.nd rfl (Or.inl rfl))) (aN (r8 (i:=3) (bL eQ (aA (pv 4)) (cP (aB (aA (pv 5)) aG))) (fun h=>nR (tW PySem.F.plainAttrs_list PySem.F.slot_list_append PySem.F.type_list_append jK (pv 3) (dO h gX)))))))) (iI 3 (aN (aW (aA (pv 3)) (aK (aH (i:=1) kP.nd rfl (Or.inl rfl))) (fun h1 h2=>aV h1 h2))))))) (aN (bM (bJ eM (aB (aA (pv 1)) aG) (fun h1 h2=>cY h1 rfl T.n_tuple eO h2))))))
theorem mL:bA ["row","deeds","place","deed","many"] ["row","deeds"] (aD kI):=by simp_all_arith!
theorem aBn (T:mT K mg) (hr:cE 0 (A.deeper (envOfC "place_of" (aD kI) s.heap.objs.size f cdv))) :
  j2 (dZ kL P w K mg base ["row","deeds","place","deed","many"] "place_of" (aD kI) f cdv A outer s H E).nox (aS kI) rE:=by
 have hu:=hr.units
 exact (aI (aW aL (aK (aH (i:=2) mL.nd rfl (Or.inl rfl))) (fun h1 h2=>aV h1 h2)) (aI (e6 rfl PassesOwn.never (aLJ rfl T.n_zip aMs (aA (pv 0)) (aA (pv 1))) (oB (aH (i:=3) mL.nd rfl (Or.inl rfl)) (aH (i:=4) mL.nd rfl (Or.inl rfl)) (fun h1 h2=>nY rfl (dB h1 (dB h2 k7)))) (aN (aW (bL eQ (bL pJ (aA (pv 2)) (aA (pv 4))) (aA (pv 3))) (aK (aH (i:=2) mL.nd rfl (Or.inl rfl))) (fun h1 h2=>aV h1 h2)))) (aN (bM (aA (pv 2))))))
theorem aCL:bA ["row","hand","deed"] ["row","hand","deed"] (aD jF):=by simp_all_arith!
theorem aA5 (T:mT K mg) (hr:cE 0 (A.deeper (envOfC "with_deed" (aD jF) s.heap.objs.size f cdv))) :
  j2 (dZ kL P w K mg base ["row","hand","deed"] "with_deed" (aD jF) f cdv A outer s H E).nox (aS jF) pE:=by
 have hu:=hr.units
 exact (aN (bM (bL eQ (bL eQ (aCH (aA (pv 0)) sS (sO (aA (pv 1)))) (cP (aB (aA (pv 2)) aG))) (aCH (aA (pv 0)) (sO (bL eQ (aA (pv 1)) aL)) sS))))
theorem i8:bA ["row","deeds","strays","hand","many"] ["row","deeds"] (aD fY):=by simp_all_arith!
theorem xJ (T:mT K mg) (hr:cE 0 (A.deeper (envOfC "strays_from" (aD fY) s.heap.objs.size f cdv))) :
  j2 (dZ kL P w K mg base ["row","deeds","strays","hand","many"] "strays_from" (aD fY) f cdv A outer s H E).nox (aS fY) mD:=by
 have hu:=hr.units
 exact (aI (aW (DF.toE (jY aG)) (aK (aH (i:=2) i8.nd rfl (Or.inl rfl))) (fun h1 h2=>aV h1 h2)) (aI (e6 rfl PassesOwn.never (mM rfl T.n_enumerate gO (aA (pv 1))) (oB (aH (i:=3) i8.nd rfl (Or.inr rfl)) (aH (i:=4) i8.nd rfl (Or.inl rfl)) (fun h1 h2=>nY rfl (dB h1 (dB h2 k7)))) (aN (aW (DF.toE (aI0 (aA (pv 2)) (DF.toE (tD (ifs:=[_]) (Nc:=["deed","hand","row"]) (fr:=[none,some 3,some 0]) (ss:=[0]) (cH (sc:=(aD fY)) (N:=["row","deeds","strays","hand","many"]) rfl rfl (by decide +kernel)) (by decide) rfl (hZ rfl T.n_range (aA (pv 4))) (fun Cc pins fp s3 H3=>aK (aH (i:=0) (show (["deed","hand","row"]:List Str).Nodup by decide +kernel) rfl (Or.inl rfl))) (fun Cc pins fp s3 H3=>qJ (cR (nH hu) (aA (pv 0)) (bD (aA (pv 2)) (aA (pv 1)) (fun _ _=>rfl)))) (fun Cc pins fp s3 H3=>(cP (aB (aA (pv 1)) (aB (aA (pv 0)) aG)))))))) (aK (aH (i:=2) i8.nd rfl (Or.inl rfl))) (fun h1 h2=>aV h1 h2)))) (aN (bM (aA (pv 2))))))
theorem qF:bA ["pay","later","patience","upper"] ["pay","later","patience"] (aD fF):=by simp_all_arith!
theorem uC (T:mT K mg) (hr:cE 0 (A.deeper (envOfC "now_and_later" (aD fF) s.heap.objs.size f cdv))) :
  j2 (dZ kL P w K mg base ["pay","later","patience","upper"] "now_and_later" (aD fF) f cdv A outer s H E).nox (aS fF) kD:=by
 have hu:=hr.units
 exact (aI (aW (bL eQ (bL g9 (bL g9 (bL uK (bD (aA (pv 2)) aL (fun _ _=>rfl)) (bD (aA (pv 2)) aL (fun _ _=>rfl))) (aA (pv 0))) (bD (aA (pv 1)) aL (fun _ _=>rfl))) (bL g9 (bD (aA (pv 2)) aL (fun _ _=>rfl)) (bD (aA (pv 1)) aL (fun _ _=>rfl)))) (aK (aH (i:=3) qF.nd rfl (Or.inl rfl))) (fun h1 h2=>aV h1 h2)) (aN (bM (cP (aB (aA (pv 3)) (aB (bL g9 (bD (aA (pv 2)) aL (fun _ _=>rfl)) (bD (aA (pv 1)) aL (fun _ _=>rfl))) aG))))))
theorem lW:bA ["pays","patience","total","weight","pay"] ["pays","patience"] (aD lX):=by simp_all_arith!
theorem aDf (T:mT K mg) (hr:cE 0 (A.deeper (envOfC "weighed" (aD lX) s.heap.objs.size f cdv))) :
  j2 (dZ kL P w K mg base ["pays","patience","total","weight","pay"] "weighed" (aD lX) f cdv A outer s H E).nox (aS lX) sT:=by
 have hu:=hr.units
 exact (aI (aW aL (aK (aH (i:=2) lW.nd rfl (Or.inl rfl))) (fun h1 h2=>aV h1 h2)) (aI (aW aL (aK (aH (i:=3) lW.nd rfl (Or.inl rfl))) (fun h1 h2=>aV h1 h2)) (aI (e6 rfl PassesOwn.never (pO (aA (pv 0))) (aK (aH (i:=4) lW.nd rfl (Or.inl rfl))) (aI (aW (bL eQ (bL g9 (aA (pv 2)) (bD (aA (pv 1)) aL (fun _ _=>rfl))) (bL g9 (aA (pv 3)) (aA (pv 4)))) (aK (aH (i:=2) lW.nd rfl (Or.inl rfl))) (fun h1 h2=>aV h1 h2)) (aN (aW (bL g9 (aA (pv 3)) (bD (aA (pv 1)) aL (fun _ _=>rfl))) (aK (aH (i:=3) lW.nd rfl (Or.inl rfl))) (fun h1 h2=>aV h1 h2))))) (aN (bM (aA (pv 2)))))))
theorem u9:bA ["told","hand"] ["told","hand"] (aD dU):=by simp_all_arith!
theorem tN (T:mT K mg) (hr:cE 0 (A.deeper (envOfC "worths_of_hand" (aD dU) s.heap.objs.size f cdv))) :
  j2 (dZ kL P w K mg base ["told","hand"] "worths_of_hand" (aD dU) f cdv A outer s H E).nox (aS dU) jL:=by
 have hu:=hr.units
 exact (aN (bM (bJ eM (aB (DF.toE (kG (Nc:=["of_hands","hand"]) (fr:=[none,some 1]) (ss:=[0]) (cH (sc:=(aD dU)) (N:=["told","hand"]) rfl rfl (by decide +kernel)) (by decide) rfl (rD (aA (pv 0))) (fun Cc pins fp s3 H3=>aK (aH (i:=0) (show (["of_hands","hand"]:List Str).Nodup by decide +kernel) rfl (Or.inl rfl))) (fun Cc pins fp s3 H3=>(bD (aA (pv 0)) (aA (pv 1)) (fun _ _=>rfl))) jS)) aG) (fun h1 h2=>cY h1 rfl T.n_tuple eO h2))))
theorem aCE:bA ["_law_script","_law_k"] ["_law_script","_law_k"] (aD jB):=by simp_all_arith!
theorem aAO (T:mT K mg) (hr:cE 0 (A.deeper (envOfC "_law_cell" (aD jB) s.heap.objs.size f cdv))) :
  j2 (dZ kL P w K mg base ["_law_script","_law_k"] "_law_cell" (aD jB) f cdv A outer s H E).nox (aS jB) o7:=by
 have hu:=hr.units
 exact (aI (jV (cR aJh (aA (pv 1)) (bJ kQ (aB (aA (pv 0)) aG) (fun h1 h2=>cQ h1 rfl T.n_len jX h2))) (aN (bM (bD (aA (pv 0)) (aA (pv 1)) (fun _ _=>rfl)))) eJ) (aN (bM aL)))
theorem aEx:bA ["_law_cell_here","_law_prime","_law_many"] ["_law_cell_here","_law_prime","_law_many"] (aD kN):=by simp_all_arith!
theorem aBI (T:mT K mg) (hr:cE 0 (A.deeper (envOfC "_law_mix" (aD kN) s.heap.objs.size f cdv))) :
  j2 (dZ kL P w K mg base ["_law_cell_here","_law_prime","_law_many"] "_law_mix" (aD kN) f cdv A outer s H E).nox (aS kN) qU:=by
 have hu:=hr.units
 exact (aN (bM (bL n9 (bL n9 (bL pJ (aA (pv 0)) aL) (aA (pv 1))) (aA (pv 2)))))
theorem jO:bA ["_law_deeds_here","_law_found","_law_many","_law_more_here","_law_row"] ["_law_deeds_here"] (aD iD):=by simp_all_arith!
theorem aAa (T:mT K mg) (hr:cE 0 (A.deeper (envOfC "_law_rows" (aD iD) s.heap.objs.size f cdv))) :
  j2 (dZ kL P w K mg base ["_law_deeds_here","_law_found","_law_many","_law_more_here","_law_row"] "_law_rows" (aD iD) f cdv A outer s H E).nox (aS iD) oY:=by
 have hu:=hr.units
 exact (aI (aW (DF.toE (jY (aB (cP aG) aG))) (aK (aH (i:=1) jO.nd rfl (Or.inl rfl))) (fun h1 h2=>aV h1 h2)) (aI (e6 rfl PassesOwn.never (rD (aA (pv 0))) (aK (aH (i:=2) jO.nd rfl (Or.inl rfl))) (aI (l9 (i:=3) (jY aG) (fun h=>n8 (i:=3) jO.nd rfl (Or.inl rfl) h)) (aI (e6 rfl PassesOwn.never (pO (aA (pv 1))) (aK (aH (i:=4) jO.nd rfl (Or.inr rfl))) (aN (aL2 (i:=3) (kG (Nc:=["_law_deed","_law_row"]) (fr:=[none,some 4]) (ss:=[0]) (cH (sc:=(aD iD)) (N:=["_law_deeds_here","_law_found","_law_many","_law_more_here","_law_row"]) rfl rfl (by decide +kernel)) (by decide) rfl (hZ rfl T.n_range (aA (pv 2))) (fun Cc pins fp s3 H3=>aK (aH (i:=0) (show (["_law_deed","_law_row"]:List Str).Nodup by decide +kernel) rfl (Or.inl rfl))) (fun Cc pins fp s3 H3=>(bL eQ (aA (pv 1)) (cP (aB (aA (pv 0)) aG)))) jS) (fun h=>nR (tW PySem.F.plainAttrs_list PySem.F.slot_list_extend PySem.F.type_list_extend aHN (pv 3) (dO h gX)))))) (iI 3 (aN (aW (aA (pv 3)) (aK (aH (i:=1) jO.nd rfl (Or.inl rfl))) (fun h1 h2=>aV h1 h2))))))) (aN (bM (aA (pv 1))))))
theorem fZ:bA ["_law_upper","_law_lower","_law_one","_law_other"] ["_law_upper","_law_lower"] (aD fH):=by simp_all_arith!
theorem uG (T:mT K mg) (hr:cE 0 (A.deeper (envOfC "_law_fraction" (aD fH) s.heap.objs.size f cdv))) :
  j2 (dZ kL P w K mg base ["_law_upper","_law_lower","_law_one","_law_other"] "_law_fraction" (aD fH) f cdv A outer s H E).nox (aS fH) kC:=by
 have hu:=hr.units
 exact (aI (jV (cR aJh (aA (pv 1)) aL) (aI (aW (aIw (aA (pv 0))) (aK (aH (i:=0) fZ.nd rfl (Or.inl rfl))) (fun h1 h2=>aV h1 h2)) (aN (aW (aIw (aA (pv 1))) (aK (aH (i:=1) fZ.nd rfl (Or.inl rfl))) (fun h1 h2=>aV h1 h2)))) eJ) (aI (aW (bJ aCr (aB (aA (pv 0)) aG) (fun h1 h2=>cQ h1 rfl T.n_abs aCS h2)) (aK (aH (i:=2) fZ.nd rfl (Or.inl rfl))) (fun h1 h2=>aV h1 h2)) (aI (aW (aA (pv 1)) (aK (aH (i:=3) fZ.nd rfl (Or.inl rfl))) (fun h1 h2=>aV h1 h2)) (aI (rR PassesOwn.never (cR aGg (aA (pv 3)) aL) (aN (aMj (i:=2) (j:=3) (aA (pv 3)) (bL n9 (aA (pv 2)) (aA (pv 3))) (fun h=>aMG (i:=2) (j:=3) rfl fZ.nd rfl rfl (by decide) rfl rfl h rfl)))) (aN (bM (cP (aB (bL vE (aA (pv 0)) (aA (pv 2))) (aB (bL vE (aA (pv 1)) (aA (pv 2))) aG)))))))))
theorem aCP:bA ["_law_one","_law_other"] ["_law_one","_law_other"] (aD jD):=by simp_all_arith!
theorem zY (T:mT K mg) (hr:cE 0 (A.deeper (envOfC "_law_more" (aD jD) s.heap.objs.size f cdv))) :
  j2 (dZ kL P w K mg base ["_law_one","_law_other"] "_law_more" (aD jD) f cdv A outer s H E).nox (aS jD) oT:=by
 have hu:=hr.units
 exact (aN (bM (uO aGg (bL g9 (bD (aA (pv 0)) aL (fun _ _=>rfl)) (bD (aA (pv 1)) aL (fun _ _=>rfl))) (bL g9 (bD (aA (pv 1)) aL (fun _ _=>rfl)) (bD (aA (pv 0)) aL (fun _ _=>rfl))))))
theorem aBo:bA ["_law_row","_law_hand","_law_deed"] ["_law_row","_law_hand","_law_deed"] (aD iK):=by simp_all_arith!
theorem zA (T:mT K mg) (hr:cE 0 (A.deeper (envOfC "_law_stray" (aD iK) s.heap.objs.size f cdv))) :
  j2 (dZ kL P w K mg base ["_law_row","_law_hand","_law_deed"] "_law_stray" (aD iK) f cdv A outer s H E).nox (aS iK) nM:=by
 have hu:=hr.units
 exact (aN (bM (bL eQ (bL eQ (aCH (aA (pv 0)) sS (sO (aA (pv 1)))) (cP (aB (aA (pv 2)) aG))) (aCH (aA (pv 0)) (sO (bL eQ (aA (pv 1)) aL)) sS))))
theorem xC:bA ["upper","lower","sign","divisor"] ["upper","lower"] (aD nW):=by simp_all_arith!
theorem aEu (T:mT K mg) (h_common_divisor:eV P w K mg base 1 "common_divisor" eW) (hr:cE 1 (A.deeper (envOfC "lowest" (aD nW) s.heap.objs.size f cdv))) :
  j2 (dZ kL P w K mg base ["upper","lower","sign","divisor"] "lowest" (aD nW) f cdv A outer s H E).nox (aS nW) vF:=by
 have hu:=hr.units
 exact (aI (aW (bL vE (aA (pv 1)) (bJ aCr (aB (aA (pv 1)) aG) (fun h1 h2=>cQ h1 rfl T.n_abs aCS h2))) (aK (aH (i:=2) xC.nd rfl (Or.inl rfl))) (fun h1 h2=>aV h1 h2)) (aI (aW (bL g9 (aA (pv 2)) (aP h_common_divisor (hr.mono (by decide)) rfl (aB (aA (pv 0)) (aB (aA (pv 1)) aG)))) (aK (aH (i:=3) xC.nd rfl (Or.inl rfl))) (fun h1 h2=>aV h1 h2)) (aN (bM (cP (aB (bL vE (aA (pv 0)) (aA (pv 3))) (aB (bL vE (aA (pv 1)) (aA (pv 3))) aG)))))))
theorem aDW:bA ["meeting"] ["meeting"] (aD kT):=by simp_all_arith!
theorem aBB (T:mT K mg) (h_rows_of:eV P w K mg base 1 "rows_of" lV) (hr:cE 1 (A.deeper (envOfC "all_rows" (aD kT) s.heap.objs.size f cdv))) :
  j2 (dZ kL P w K mg base ["meeting"] "all_rows" (aD kT) f cdv A outer s H E).nox (aS kT) qS:=by
 have hu:=hr.units
 exact (aN (bM (aP h_rows_of (hr.mono (by decide)) rfl (aB (bD (aA (pv 0)) aL (fun _ _=>rfl)) aG))))
theorem aKj:bA ["meeting","row"] ["meeting","row"] (aD uA):=by simp_all_arith!
theorem aH7 (T:mT K mg) (h_place_of:eV P w K mg base 1 "place_of" eY) (hr:cE 1 (A.deeper (envOfC "paid" (aD uA) s.heap.objs.size f cdv))) :
  j2 (dZ kL P w K mg base ["meeting","row"] "paid" (aD uA) f cdv A outer s H E).nox (aS uA) aC8:=by
 have hu:=hr.units
 exact (aN (bM (bD (bD (aA (pv 0)) aL (fun _ _=>rfl)) (aP h_place_of (hr.mono (by decide)) rfl (aB (aA (pv 1)) (aB (bD (aA (pv 0)) aL (fun _ _=>rfl)) aG))) (fun _ _=>rfl))))
theorem yR:bA ["meeting","plan","state","row"] ["meeting","plan","state","row"] (aD gB):=by simp_all_arith!
theorem vW (T:mT K mg) (h_place_of:eV P w K mg base 1 "place_of" eY) (hr:cE 1 (A.deeper (envOfC "state_behind" (aD gB) s.heap.objs.size f cdv))) :
  j2 (dZ kL P w K mg base ["meeting","plan","state","row"] "state_behind" (aD gB) f cdv A outer s H E).nox (aS gB) lE:=by
 have hu:=hr.units
 exact (aN (bM (bD (bD (bD (aA (pv 1)) (aA (pv 2)) (fun _ _=>rfl)) aL (fun _ _=>rfl)) (aP h_place_of (hr.mono (by decide)) rfl (aB (aA (pv 3)) (aB (bD (aA (pv 0)) aL (fun _ _=>rfl)) aG))) (fun _ _=>rfl))))
theorem cW:bA ["_law_cell_here","_law_deeds_here","_law_wide","_law_pay","_law_k","_law_seed","_law_one","_law_few"] ["_law_cell_here"] (aD dL):=by simp_all_arith!
theorem u4 (T:mT K mg) (h__law_mix:eV P w K mg base 1 "_law_mix" d7) (h__law_rows:eV P w K mg base 1 "_law_rows" cF) (hr:cE 1 (A.deeper (envOfC "_law_meeting" (aD dL) s.heap.objs.size f cdv))) :
  j2 (dZ kL P w K mg base ["_law_cell_here","_law_deeds_here","_law_wide","_law_pay","_law_k","_law_seed","_law_one","_law_few"] "_law_meeting" (aD dL) f cdv A outer s H E).nox (aS dL) lB:=by
 have hu:=hr.units
 exact (aI (aW (bJ eM (aB (DF.toE (kG (Nc:=["_law_k","_law_cell_here"]) (fr:=[none,some 0]) (ss:=[0]) (cH (sc:=(aD dL)) (N:=["_law_cell_here","_law_deeds_here","_law_wide","_law_pay","_law_k","_law_seed","_law_one","_law_few"]) rfl rfl (by decide +kernel)) (by decide) rfl (hZ rfl T.n_range (bL eQ aL (bL aFJ (aP h__law_mix (hr.mono (by decide)) rfl (aB (aA (pv 0)) (aB aL (aB aL aG)))) aL))) (fun Cc pins fp s3 H3=>aK (aH (i:=0) (show (["_law_k","_law_cell_here"]:List Str).Nodup by decide +kernel) rfl (Or.inl rfl))) (fun Cc pins fp s3 H3=>(bL eQ aL (aP h__law_mix (hr.mono (by decide)) rfl (aB (bL eQ (aA (pv 1)) (bL pJ aL (aA (pv 0)))) (aB aL (aB aL aG)))))) jS)) aG) (fun h1 h2=>cY h1 rfl T.n_tuple eO h2)) (aK (aH (i:=1) cW.nd rfl (Or.inl rfl))) (fun h1 h2=>aV h1 h2)) (aI (jV (cR (rM hu) (bL n9 (aA (pv 0)) aL) aL) (aN (aW (cP (aB aL (aB aL aG))) (aK (aH (i:=1) cW.nd rfl (Or.inl rfl))) (fun h1 h2=>aV h1 h2))) eJ) (aI (aW (bD (DF.toE (jY (aB aL (aB aL (aB aL aG))))) (aP h__law_mix (hr.mono (by decide)) rfl (aB (aA (pv 0)) (aB aL (aB aL aG)))) (fun _ _=>rfl)) (aK (aH (i:=2) cW.nd rfl (Or.inr rfl))) (fun h1 h2=>aV h1 h2)) (aI (l9 (i:=3) (jY aG) (fun h=>n8 (i:=3) cW.nd rfl (Or.inl rfl) h)) (aI (e6 rfl PassesOwn.never (hZ rfl T.n_range (bJ kQ (aB (aP h__law_rows (hr.mono (by decide)) rfl (aB (aA (pv 1)) aG)) aG) (fun h1 h2=>cQ h1 rfl T.n_len jX h2))) (aK (aH (i:=4) cW.nd rfl (Or.inl rfl))) (aI (aW (bL eQ (aA (pv 0)) (bL pJ aL (aA (pv 4)))) (aK (aH (i:=5) cW.nd rfl (Or.inr rfl))) (fun h1 h2=>aV h1 h2)) (aI (sI (i:=6) (Nc:=["_law_hand","_law_wide","_law_seed"]) (fr:=[none,some 2,some 5]) (ss:=[0]) (cH (sc:=(aD dL)) (N:=["_law_cell_here","_law_deeds_here","_law_wide","_law_pay","_law_k","_law_seed","_law_one","_law_few"]) rfl rfl (by decide +kernel)) (by decide) rfl cW.nd rfl (Or.inl rfl) (hZ rfl T.n_range (bJ kQ (aB (aA (pv 1)) aG) (fun h1 h2=>cQ h1 rfl T.n_len jX h2))) (fun Cc pins fp s3 H3=>aK (aH (i:=0) (show (["_law_hand","_law_wide","_law_seed"]:List Str).Nodup by decide +kernel) rfl (Or.inl rfl))) (fun Cc pins fp s3 H3=>(bL uK (bL eQ (aP h__law_mix (hr.mono (by decide)) rfl (aB (bL eQ (aA (pv 2)) (bL pJ aL (aA (pv 0)))) (aB aL (aB (bL uK (bL pJ aL (aA (pv 1))) aL) aG)))) aL) (aA (pv 1)))) jS rfl) (iI 6 (aN (r8 (i:=3) (bJ eM (aB (aA (pv 6)) aG) (fun h1 h2=>cY h1 rfl T.n_tuple eO h2)) (fun h=>nR (tW PySem.F.plainAttrs_list PySem.F.slot_list_append PySem.F.type_list_append jK (pv 3) (dO h gX))))))))) (aI (jV (cR (rM hu) (bL n9 (aA (pv 0)) aL) aL) (aI (aW (DF.toE (aLd aHq (aB (DF.toE (kG (Nc:=["_law_k","_law_cell_here"]) (fr:=[none,some 0]) (ss:=[0]) (cH (sc:=(aD dL)) (N:=["_law_cell_here","_law_deeds_here","_law_wide","_law_pay","_law_k","_law_seed","_law_one","_law_few"]) rfl rfl (by decide +kernel)) (by decide) rfl (hZ rfl T.n_range aL) (fun Cc pins fp s3 H3=>aK (aH (i:=0) (show (["_law_k","_law_cell_here"]:List Str).Nodup by decide +kernel) rfl (Or.inl rfl))) (fun Cc pins fp s3 H3=>(bL uK (aP h__law_mix (hr.mono (by decide)) rfl (aB (bL eQ (aA (pv 1)) (aA (pv 0))) (aB aL (aB aL aG)))) aL)) jS)) aG) (fun h1 h2=>cQ h1 rfl T.n_sorted aHb h2))) (aK (aH (i:=7) cW.nd rfl (Or.inl rfl))) (fun h1 h2=>aV h1 h2)) (aN (l9 (i:=3) (jY (aB (cP (aB (bD (aA (pv 7)) aL (fun _ _=>rfl)) (aB (bD (aA (pv 7)) aL (fun _ _=>rfl)) aG))) (aB (cP (aB (bD (aA (pv 7)) aL (fun _ _=>rfl)) (aB (bD (aA (pv 7)) aL (fun _ _=>rfl)) aG))) (aB (cP (aB (bD (aA (pv 7)) aL (fun _ _=>rfl)) (aB (bD (aA (pv 7)) aL (fun _ _=>rfl)) aG))) (aB (cP (aB (bD (aA (pv 7)) aL (fun _ _=>rfl)) (aB (bD (aA (pv 7)) aL (fun _ _=>rfl)) aG))) aG))))) (fun h=>n8 (i:=3) cW.nd rfl (Or.inl rfl) h)))) eJ) (iI 3 (aN (bM (cP (aB (aA (pv 1)) (aB (bJ eM (aB (aA (pv 3)) aG) (fun h1 h2=>cY h1 rfl T.n_tuple eO h2)) aG))))))))))))
theorem eU:bA ["_law_cell_here","_law_lower","_law_upper","_law_by"] ["_law_cell_here"] (aD fG):=by simp_all_arith!
theorem u3 (T:mT K mg) (h__law_mix:eV P w K mg base 1 "_law_mix" d7) (hr:cE 1 (A.deeper (envOfC "_law_patience" (aD fG) s.heap.objs.size f cdv))) :
  j2 (dZ kL P w K mg base ["_law_cell_here","_law_lower","_law_upper","_law_by"] "_law_patience" (aD fG) f cdv A outer s H E).nox (aS fG) kH:=by
 have hu:=hr.units
 exact (aI (aW (bL eQ aL (aP h__law_mix (hr.mono (by decide)) rfl (aB (aA (pv 0)) (aB aL (aB aL aG))))) (aK (aH (i:=1) eU.nd rfl (Or.inl rfl))) (fun h1 h2=>aV h1 h2)) (aI (aW (bL eQ aL (aP h__law_mix (hr.mono (by decide)) rfl (aB (aA (pv 0)) (aB aL (aB (bL uK (aA (pv 1)) aL) aG))))) (aK (aH (i:=2) eU.nd rfl (Or.inl rfl))) (fun h1 h2=>aV h1 h2)) (aI (jV (cR (rM hu) (bL n9 (aA (pv 0)) aL) aL) (aN (aW (bL uK (aA (pv 1)) aL) (aK (aH (i:=2) eU.nd rfl (Or.inl rfl))) (fun h1 h2=>aV h1 h2))) eJ) (aI (e6 rfl PassesOwn.never (aK6 rfl T.n_range aL aL (hp:=fun h=>aHY rfl T.n_range h)) (aK (aH (i:=3) eU.nd rfl (Or.inl rfl))) (aN (rR PassesOwn.never (DW.t (aFE (cR (rM hu) (bL n9 (aA (pv 2)) (aA (pv 3))) aL) (aCC (cR (rM hu) (bL n9 (aA (pv 1)) (aA (pv 3))) aL)))) (aI (aW (bL aFJ (aA (pv 2)) (aA (pv 3))) (aK (aH (i:=2) eU.nd rfl (Or.inl rfl))) (fun h1 h2=>aV h1 h2)) (aN (aW (bL aFJ (aA (pv 1)) (aA (pv 3))) (aK (aH (i:=1) eU.nd rfl (Or.inl rfl))) (fun h1 h2=>aV h1 h2))))))) (aN (bM (cP (aB (aA (pv 2)) (aB (aA (pv 1)) aG)))))))))
theorem pF:bA ["_law_pay","_law_worth","_law_patience_here","_law_p","_law_q"] ["_law_pay","_law_worth","_law_patience_here"] (aD iH):=by simp_all_arith!
theorem yS (T:mT K mg) (h__law_fraction:eV P w K mg base 1 "_law_fraction" eC) (hr:cE 1 (A.deeper (envOfC "_law_later" (aD iH) s.heap.objs.size f cdv))) :
  j2 (dZ kL P w K mg base ["_law_pay","_law_worth","_law_patience_here","_law_p","_law_q"] "_law_later" (aD iH) f cdv A outer s H E).nox (aS iH) nO:=by
 have hu:=hr.units
 exact (aI (aW (aA (pv 2)) (oB (aH (i:=3) pF.nd rfl (Or.inl rfl)) (aH (i:=4) pF.nd rfl (Or.inl rfl)) (fun h1 h2=>nY rfl (dB h1 (dB h2 k7)))) (fun h1 h2=>aV h1 h2)) (aN (bM (aP h__law_fraction (hr.mono (by decide)) rfl (aB (bL eQ (bL g9 (bL g9 (bL uK (aA (pv 4)) (aA (pv 3))) (aA (pv 0))) (bD (aA (pv 1)) aL (fun _ _=>rfl))) (bL g9 (aA (pv 3)) (bD (aA (pv 1)) aL (fun _ _=>rfl)))) (aB (bL g9 (aA (pv 4)) (bD (aA (pv 1)) aL (fun _ _=>rfl))) aG))))))
theorem aCV:bA ["_law_meeting_here","_law_row"] ["_law_meeting_here","_law_row"] (aD jI):=by simp_all_arith!
theorem aAM (T:mT K mg) (h__law_rows:eV P w K mg base 1 "_law_rows" cF) (hr:cE 1 (A.deeper (envOfC "_law_paid" (aD jI) s.heap.objs.size f cdv))) :
  j2 (dZ kL P w K mg base ["_law_meeting_here","_law_row"] "_law_paid" (aD jI) f cdv A outer s H E).nox (aS jI) o9:=by
 have hu:=hr.units
 exact (aN (bM (bD (bD (aA (pv 0)) aL (fun _ _=>rfl)) (aJg hu (aP h__law_rows (hr.mono (by decide)) rfl (aB (bD (aA (pv 0)) aL (fun _ _=>rfl)) aG)) (aA (pv 1)) (fun h1 h2=>tW PySem.F.plainAttrs_list PySem.F.slot_list_index PySem.F.type_list_index (aIx hu) h1 h2)) (fun _ _=>rfl))))
theorem gE:bA ["_law_meeting_here","_law_row","_law_threats","_law_found","_law_k","_law_one","_law_nexts","_law_other","_law_some"] ["_law_meeting_here","_law_row","_law_threats"] (aD fW):=by simp_all_arith!
theorem wW (T:mT K mg) (h__law_rows:eV P w K mg base 1 "_law_rows" cF) (hr:cE 1 (A.deeper (envOfC "_law_steady" (aD fW) s.heap.objs.size f cdv))) :
  j2 (dZ kL P w K mg base ["_law_meeting_here","_law_row","_law_threats","_law_found","_law_k","_law_one","_law_nexts","_law_other","_law_some"] "_law_steady" (aD fW) f cdv A outer s H E).nox (aS fW) l8:=by
 have hu:=hr.units
 exact (aI (l9 (i:=3) (jY aG) (fun h=>n8 (i:=3) gE.nd rfl (Or.inl rfl) h)) (aI (e6 rfl PassesOwn.never (mM rfl T.n_enumerate gO (bL eQ (cP (aB (aA (pv 1)) aG)) (aA (pv 2)))) (oB (aH (i:=4) gE.nd rfl (Or.inl rfl)) (aH (i:=5) gE.nd rfl (Or.inr rfl)) (fun h1 h2=>nY rfl (dB h1 (dB h2 k7)))) (aI (l9 (i:=6) (jY aG) (fun h=>n8 (i:=6) gE.nd rfl (Or.inl rfl) h)) (aI (e6 rfl PassesOwn.never (pO (aP h__law_rows (hr.mono (by decide)) rfl (aB (bD (aA (pv 0)) aL (fun _ _=>rfl)) aG))) (aK (aH (i:=7) gE.nd rfl (Or.inr rfl))) (aI (aEJ (ifs:=[_]) (i:=8) (Nc:=["_law_hand","_law_other","_law_one"]) (fr:=[none,some 7,some 5]) (ss:=[0]) (cH (sc:=(aD fW)) (N:=["_law_meeting_here","_law_row","_law_threats","_law_found","_law_k","_law_one","_law_nexts","_law_other","_law_some"]) rfl rfl (by decide +kernel)) (by decide) rfl gE.nd rfl (Or.inl rfl) (hZ rfl T.n_range (bJ kQ (aB (aA (pv 1)) aG) (fun h1 h2=>cQ h1 rfl T.n_len jX h2))) (fun Cc pins fp s3 H3=>aK (aH (i:=0) (show (["_law_hand","_law_other","_law_one"]:List Str).Nodup by decide +kernel) rfl (Or.inl rfl))) (fun Cc pins fp s3 H3=>qJ (cR (nH hu) (bD (aA (pv 1)) (aA (pv 0)) (fun _ _=>rfl)) (bD (aA (pv 2)) (aA (pv 0)) (fun _ _=>rfl)))) (fun Cc pins fp s3 H3=>(aA (pv 0))) rfl) (iI 8 (aN (r8 (i:=6) (bD (DF.toE (jY (aB (aA (pv 4)) (aB (bL eQ aL (bJ (aML rfl) (aB (aA (pv 8)) aG) (fun h1 h2=>cQ h1 rfl T.n_sum aLT h2))) aG)))) (bJ aMA (aB (uO (rM hu) (bJ kQ (aB (aA (pv 8)) aG) (fun h1 h2=>cQ h1 rfl T.n_len jX h2)) aL) aG) (fun h1 h2=>cY h1 rfl T.n_int aMB h2)) (fun _ _=>rfl)) (fun h=>nR (tW PySem.F.plainAttrs_list PySem.F.slot_list_append PySem.F.type_list_append jK (pv 6) (dO h gX)))))))) (iI 6 (aN (r8 (i:=3) (cP (aB (aA (pv 5)) (aB (bJ eM (aB (aA (pv 6)) aG) (fun h1 h2=>cY h1 rfl T.n_tuple eO h2)) aG))) (fun h=>nR (tW PySem.F.plainAttrs_list PySem.F.slot_list_append PySem.F.type_list_append jK (pv 3) (dO h gX))))))))) (iI 3 (aN (bM (bJ eM (aB (aA (pv 3)) aG) (fun h1 h2=>cY h1 rfl T.n_tuple eO h2)))))))
theorem aE5:bA ["meeting","rows","hand"] ["meeting","rows","hand"] (aD kU):=by simp_all_arith!
theorem aCW (T:mT K mg) (h_paid:eV P w K mg base 2 "paid" jC) (hr:cE 2 (A.deeper (envOfC "pays_of" (aD kU) s.heap.objs.size f cdv))) :
  j2 (dZ kL P w K mg base ["meeting","rows","hand"] "pays_of" (aD kU) f cdv A outer s H E).nox (aS kU) sQ:=by
 have hu:=hr.units
 exact (aN (bM (DF.toE (kG (Nc:=["row","hand","meeting"]) (fr:=[none,some 2,some 0]) (ss:=[0]) (cH (sc:=(aD kU)) (N:=["meeting","rows","hand"]) rfl rfl (by decide +kernel)) (by decide) rfl (aMm (aA (pv 1))) (fun Cc pins fp s3 H3=>aK (aH (i:=0) (show (["row","hand","meeting"]:List Str).Nodup by decide +kernel) rfl (Or.inl rfl))) (fun Cc pins fp s3 H3=>(bD (aP h_paid (hr.mono (by decide)) rfl (aB (aA (pv 2)) (aB (aA (pv 0)) aG))) (aA (pv 1)) (fun _ _=>rfl))) jS))))
theorem jQ:bA ["before","again","patience","worth","pay"] ["before","again","patience"] (aD fE):=by simp_all_arith!
theorem uJ (T:mT K mg) (h_weighed:eV P w K mg base 1 "weighed" h9) (h_now_and_later:eV P w K mg base 1 "now_and_later" bT) (h_lowest:eV P w K mg base 2 "lowest" mV) (hr:cE 2 (A.deeper (envOfC "worth_of_pays" (aD fE) s.heap.objs.size f cdv))) :
  j2 (dZ kL P w K mg base ["before","again","patience","worth","pay"] "worth_of_pays" (aD fE) f cdv A outer s H E).nox (aS fE) j8:=by
 have hu:=hr.units
 exact (aI (aW (cP (aB (aP h_weighed (hr.mono (by decide)) rfl (aB (aA (pv 1)) (aB (aA (pv 2)) aG))) (aB (aP h_weighed (hr.mono (by decide)) rfl (aB (DF.toE (aLK (jY (aB aL aG)) (bJ kQ (aB (aA (pv 1)) aG) (fun h1 h2=>cQ h1 rfl T.n_len jX h2)))) (aB (aA (pv 2)) aG))) aG))) (aK (aH (i:=3) jQ.nd rfl (Or.inl rfl))) (fun h1 h2=>aV h1 h2)) (aI (e6 rfl PassesOwn.never (aMl rfl T.n_reversed aEt (aA (pv 0))) (aK (aH (i:=4) jQ.nd rfl (Or.inl rfl))) (aN (aW (aP h_now_and_later (hr.mono (by decide)) rfl (aB (aA (pv 4)) (aB (aA (pv 3)) (aB (aA (pv 2)) aG)))) (aK (aH (i:=3) jQ.nd rfl (Or.inl rfl))) (fun h1 h2=>aV h1 h2)))) (aN (bM (aP h_lowest (hr.mono (by decide)) rfl (aB (bD (aA (pv 3)) aL (fun _ _=>rfl)) (aB (bD (aA (pv 3)) aL (fun _ _=>rfl)) aG)))))))
theorem nQ:bA ["meeting","row","onward","threatening","nexts","done","strayed"] ["meeting","row","onward","threatening"] (aD iB):=by simp_all_arith!
theorem aAk (T:mT K mg) (h_all_rows:eV P w K mg base 2 "all_rows" iO) (hr:cE 2 (A.deeper (envOfC "answering" (aD iB) s.heap.objs.size f cdv))) :
  j2 (dZ kL P w K mg base ["meeting","row","onward","threatening","nexts","done","strayed"] "answering" (aD iB) f cdv A outer s H E).nox (aS iB) o8:=by
 have hu:=hr.units
 exact (aI (l9 (i:=4) (jY aG) (fun h=>n8 (i:=4) nQ.nd rfl (Or.inl rfl) h)) (aI (e6 rfl PassesOwn.never (rD (aP h_all_rows (hr.mono (by decide)) rfl (aB (aA (pv 0)) aG))) (aK (aH (i:=5) nQ.nd rfl (Or.inr rfl))) (aI (aEJ (ifs:=[_]) (i:=6) (Nc:=["hand","deed","done"]) (fr:=[none,none,some 5]) (ss:=[0,1]) (cH (sc:=(aD iB)) (N:=["meeting","row","onward","threatening","nexts","done","strayed"]) rfl rfl (by decide +kernel)) (by decide) rfl nQ.nd rfl (Or.inl rfl) (mM rfl T.n_enumerate gO (aA (pv 1))) (fun Cc pins fp s3 H3=>oB (aH (i:=0) (show (["hand","deed","done"]:List Str).Nodup by decide +kernel) rfl (Or.inl rfl)) (aH (i:=1) (show (["hand","deed","done"]:List Str).Nodup by decide +kernel) rfl (Or.inl rfl)) (fun h1 h2=>nY rfl (dB h1 (dB h2 k7)))) (fun Cc pins fp s3 H3=>qJ (cR (nH hu) (bD (aA (pv 2)) (aA (pv 0)) (fun _ _=>rfl)) (aA (pv 1)))) (fun Cc pins fp s3 H3=>(aA (pv 0))) rfl) (iI 6 (aN (r8 (i:=4) (aNA (cR (rM hu) (bJ kQ (aB (aA (pv 6)) aG) (fun h1 h2=>cQ h1 rfl T.n_len jX h2)) aL) (bL eQ (aA (pv 3)) (bD (aA (pv 6)) aL (fun _ _=>rfl))) (aA (pv 2))) (fun h=>nR (tW PySem.F.plainAttrs_list PySem.F.slot_list_append PySem.F.type_list_append jK (pv 4) (dO h gX)))))))) (iI 4 (aN (bM (cP (aB (aA (pv 1)) (aB (bJ eM (aB (aA (pv 4)) aG) (fun h1 h2=>cY h1 rfl T.n_tuple eO h2)) aG))))))))
theorem uQ:bA ["meeting","threats"] ["meeting","threats"] (aD dF):=by simp_all_arith!
theorem sD (T:mT K mg) (h_paid:eV P w K mg base 2 "paid" jC) (hr:cE 2 (A.deeper (envOfC "threatened_pays" (aD dF) s.heap.objs.size f cdv))) :
  j2 (dZ kL P w K mg base ["meeting","threats"] "threatened_pays" (aD dF) f cdv A outer s H E).nox (aS dF) iY:=by
 have hu:=hr.units
 exact (aN (bM (bJ eM (aB (DF.toE (kG (Nc:=["hand","row","meeting"]) (fr:=[none,none,some 0]) (ss:=[0,1]) (cH (sc:=(aD dF)) (N:=["meeting","threats"]) rfl rfl (by decide +kernel)) (by decide) rfl (mM rfl T.n_enumerate gO (aA (pv 1))) (fun Cc pins fp s3 H3=>oB (aH (i:=0) (show (["hand","row","meeting"]:List Str).Nodup by decide +kernel) rfl (Or.inl rfl)) (aH (i:=1) (show (["hand","row","meeting"]:List Str).Nodup by decide +kernel) rfl (Or.inl rfl)) (fun h1 h2=>nY rfl (dB h1 (dB h2 k7)))) (fun Cc pins fp s3 H3=>(bD (aP h_paid (hr.mono (by decide)) rfl (aB (aA (pv 2)) (aB (aA (pv 1)) aG))) (aA (pv 0)) (fun _ _=>rfl))) aAW)) aG) (fun h1 h2=>cY h1 rfl T.n_tuple eO h2))))
theorem fJ:bA ["meeting","row","after","patience","pays","hand","deed","now"] ["meeting","row","after","patience"] (aD dS):=by simp_all_arith!
theorem rP (T:mT K mg) (h_paid:eV P w K mg base 2 "paid" jC) (h_with_deed:eV P w K mg base 1 "with_deed" eI) (h_now_and_later:eV P w K mg base 1 "now_and_later" bT) (h_is_less:eV P w K mg base 1 "is_less" iU) (h_strays_from:eV P w K mg base 1 "strays_from" dJ) (hr:cE 2 (A.deeper (envOfC "stray_that_gains" (aD dS) s.heap.objs.size f cdv))) :
  j2 (dZ kL P w K mg base ["meeting","row","after","patience","pays","hand","deed","now"] "stray_that_gains" (aD dS) f cdv A outer s H E).nox (aS dS) iP:=by
 have hu:=hr.units
 exact (aI (aW (aP h_paid (hr.mono (by decide)) rfl (aB (aA (pv 0)) (aB (aA (pv 1)) aG))) (aK (aH (i:=4) fJ.nd rfl (Or.inl rfl))) (fun h1 h2=>aV h1 h2)) (aI (e6 rfl PassesOwn.never (pO (aP h_strays_from (hr.mono (by decide)) rfl (aB (aA (pv 1)) (aB (bD (aA (pv 0)) aL (fun _ _=>rfl)) aG)))) (oB (aH (i:=5) fJ.nd rfl (Or.inl rfl)) (aH (i:=6) fJ.nd rfl (Or.inl rfl)) (fun h1 h2=>nY rfl (dB h1 (dB h2 k7)))) (aI (aW (bD (aP h_paid (hr.mono (by decide)) rfl (aB (aA (pv 0)) (aB (aP h_with_deed (hr.mono (by decide)) rfl (aB (aA (pv 1)) (aB (aA (pv 5)) (aB (aA (pv 6)) aG)))) aG))) (aA (pv 5)) (fun _ _=>rfl)) (aK (aH (i:=7) fJ.nd rfl (Or.inl rfl))) (fun h1 h2=>aV h1 h2)) (aN (jV (r6 (aP h_is_less (hr.mono (by decide)) rfl (aB (cP (aB (bD (aA (pv 4)) (aA (pv 5)) (fun _ _=>rfl)) (aB aL aG))) (aB (aP h_now_and_later (hr.mono (by decide)) rfl (aB (aA (pv 7)) (aB (cP (aB (bD (aA (pv 2)) (aA (pv 5)) (fun _ _=>rfl)) (aB aL aG))) (aB (aA (pv 3)) aG)))) aG))) (fun _=>rfl)) (aN (bM (cP (aB (aA (pv 5)) (aB (aA (pv 6)) aG))))) eJ)))) (aN (bM xN))))
theorem dI:bA ["meeting","plan","state","hand","own","patience","row","best","most","deed","done","later","worth"] ["meeting","plan","state","hand","own","patience"] (aD gZ):=by simp_all_arith!
theorem xM (T:mT K mg) (h_with_deed:eV P w K mg base 1 "with_deed" eI) (h_state_behind:eV P w K mg base 2 "state_behind" dM) (h_paid:eV P w K mg base 2 "paid" jC) (h_now_and_later:eV P w K mg base 1 "now_and_later" bT) (h_is_less:eV P w K mg base 1 "is_less" iU) (hr:cE 2 (A.deeper (envOfC "better_deed" (aD gZ) s.heap.objs.size f cdv))) :
  j2 (dZ kL P w K mg base ["meeting","plan","state","hand","own","patience","row","best","most","deed","done","later","worth"] "better_deed" (aD gZ) f cdv A outer s H E).nox (aS gZ) l6:=by
 have hu:=hr.units
 exact (aI (aW (bD (bD (aA (pv 1)) (aA (pv 2)) (fun _ _=>rfl)) aL (fun _ _=>rfl)) (aK (aH (i:=6) dI.nd rfl (Or.inl rfl))) (fun h1 h2=>aV h1 h2)) (aI (aW (bD (aA (pv 6)) (aA (pv 3)) (fun _ _=>rfl)) (aK (aH (i:=7) dI.nd rfl (Or.inl rfl))) (fun h1 h2=>aV h1 h2)) (aI (aW (bD (aA (pv 4)) (aA (pv 2)) (fun _ _=>rfl)) (aK (aH (i:=8) dI.nd rfl (Or.inl rfl))) (fun h1 h2=>aV h1 h2)) (aI (e6 rfl PassesOwn.never (hZ rfl T.n_range (bD (bD (aA (pv 0)) aL (fun _ _=>rfl)) (aA (pv 3)) (fun _ _=>rfl))) (aK (aH (i:=9) dI.nd rfl (Or.inl rfl))) (aI (aW (aP h_with_deed (hr.mono (by decide)) rfl (aB (aA (pv 6)) (aB (aA (pv 3)) (aB (aA (pv 9)) aG)))) (aK (aH (i:=10) dI.nd rfl (Or.inl rfl))) (fun h1 h2=>aV h1 h2)) (aI (aW (bD (aA (pv 4)) (aP h_state_behind (hr.mono (by decide)) rfl (aB (aA (pv 0)) (aB (aA (pv 1)) (aB (aA (pv 2)) (aB (aA (pv 10)) aG))))) (fun _ _=>rfl)) (aK (aH (i:=11) dI.nd rfl (Or.inl rfl))) (fun h1 h2=>aV h1 h2)) (aI (aW (aP h_now_and_later (hr.mono (by decide)) rfl (aB (bD (aP h_paid (hr.mono (by decide)) rfl (aB (aA (pv 0)) (aB (aA (pv 10)) aG))) (aA (pv 3)) (fun _ _=>rfl)) (aB (aA (pv 11)) (aB (aA (pv 5)) aG)))) (aK (aH (i:=12) dI.nd rfl (Or.inl rfl))) (fun h1 h2=>aV h1 h2)) (aN (jV (r6 (aP h_is_less (hr.mono (by decide)) rfl (aB (aA (pv 8)) (aB (aA (pv 12)) aG))) (fun _=>rfl)) (aI (aW (aA (pv 9)) (aK (aH (i:=7) dI.nd rfl (Or.inl rfl))) (fun h1 h2=>aV h1 h2)) (aN (aW (aA (pv 12)) (aK (aH (i:=8) dI.nd rfl (Or.inl rfl))) (fun h1 h2=>aV h1 h2)))) eJ)))))) (aN (bM (aA (pv 7))))))))
theorem gY:bA ["_law_meeting_here","_law_row","_law_floor","_law_patience_here","_law_found","_law_hand","_law_many","_law_deed","_law_pay","_law_here"] ["_law_meeting_here","_law_row","_law_floor","_law_patience_here"] (aD iL):=by simp_all_arith!
theorem yW (T:mT K mg) (h__law_stray:eV P w K mg base 1 "_law_stray" eZ) (h__law_paid:eV P w K mg base 2 "_law_paid" cG) (h__law_later:eV P w K mg base 2 "_law_later" gR) (h__law_more:eV P w K mg base 1 "_law_more" iF) (hr:cE 2 (A.deeper (envOfC "_law_deeds" (aD iL) s.heap.objs.size f cdv))) :
  j2 (dZ kL P w K mg base ["_law_meeting_here","_law_row","_law_floor","_law_patience_here","_law_found","_law_hand","_law_many","_law_deed","_law_pay","_law_here"] "_law_deeds" (aD iL) f cdv A outer s H E).nox (aS iL) nL:=by
 have hu:=hr.units
 exact (aI (l9 (i:=4) (jY aG) (fun h=>n8 (i:=4) gY.nd rfl (Or.inl rfl) h)) (aI (e6 rfl PassesOwn.never (mM rfl T.n_enumerate gO (bD (aA (pv 0)) aL (fun _ _=>rfl))) (oB (aH (i:=5) gY.nd rfl (Or.inl rfl)) (aH (i:=6) gY.nd rfl (Or.inl rfl)) (fun h1 h2=>nY rfl (dB h1 (dB h2 k7)))) (aN (e6 rfl PassesOwn.never (hZ rfl T.n_range (aA (pv 6))) (aK (aH (i:=7) gY.nd rfl (Or.inl rfl))) (aI (aW (bD (aP h__law_paid (hr.mono (by decide)) rfl (aB (aA (pv 0)) (aB (aP h__law_stray (hr.mono (by decide)) rfl (aB (aA (pv 1)) (aB (aA (pv 5)) (aB (aA (pv 7)) aG)))) aG))) (aA (pv 5)) (fun _ _=>rfl)) (aK (aH (i:=8) gY.nd rfl (Or.inl rfl))) (fun h1 h2=>aV h1 h2)) (aI (aW (cP (aB (bD (aP h__law_paid (hr.mono (by decide)) rfl (aB (aA (pv 0)) (aB (aA (pv 1)) aG))) (aA (pv 5)) (fun _ _=>rfl)) (aB aL aG))) (aK (aH (i:=9) gY.nd rfl (Or.inl rfl))) (fun h1 h2=>aV h1 h2)) (aN (jV (DW.t (aFE (cR (nH hu) (aA (pv 7)) (bD (aA (pv 1)) (aA (pv 5)) (fun _ _=>rfl))) (aCC (r6 (aP h__law_more (hr.mono (by decide)) rfl (aB (aP h__law_later (hr.mono (by decide)) rfl (aB (aA (pv 8)) (aB (cP (aB (bD (aA (pv 2)) (aA (pv 5)) (fun _ _=>rfl)) (aB aL aG))) (aB (aA (pv 3)) aG)))) (aB (aA (pv 9)) aG))) (fun _=>rfl))))) (aN (r8 (i:=4) (cP (aB (aA (pv 5)) (aB (aA (pv 7)) aG))) (fun h=>nR (tW PySem.F.plainAttrs_list PySem.F.slot_list_append PySem.F.type_list_append jK (pv 4) (dO h gX))))) eJ))))))) (iI 4 (aN (bM (aA (pv 4)))))))
theorem mO:bA ["meeting","rows","over","patience","told","hand","before","again"] ["meeting","rows","over","patience"] (aD kK):=by simp_all_arith!
theorem aBw (T:mT K mg) (h_pays_of:eV P w K mg base 3 "pays_of" jT) (h_worth_of_pays:eV P w K mg base 3 "worth_of_pays" cL) (hr:cE 3 (A.deeper (envOfC "worth_of" (aD kK) s.heap.objs.size f cdv))) :
  j2 (dZ kL P w K mg base ["meeting","rows","over","patience","told","hand","before","again"] "worth_of" (aD kK) f cdv A outer s H E).nox (aS kK) qN:=by
 have hu:=hr.units
 exact (aI (l9 (i:=4) (jY aG) (fun h=>n8 (i:=4) mO.nd rfl (Or.inl rfl) h)) (aI (e6 rfl PassesOwn.never (hZ rfl T.n_range (bJ kQ (aB (bD (aA (pv 0)) aL (fun _ _=>rfl)) aG) (fun h1 h2=>cQ h1 rfl T.n_len jX h2))) (aK (aH (i:=5) mO.nd rfl (Or.inl rfl))) (aI (aW (aP h_pays_of (hr.mono (by decide)) rfl (aB (aA (pv 0)) (aB (aA (pv 1)) (aB (aA (pv 5)) aG)))) (aK (aH (i:=6) mO.nd rfl (Or.inl rfl))) (fun h1 h2=>aV h1 h2)) (aI (aW (aP h_pays_of (hr.mono (by decide)) rfl (aB (aA (pv 0)) (aB (aA (pv 2)) (aB (aA (pv 5)) aG)))) (aK (aH (i:=7) mO.nd rfl (Or.inl rfl))) (fun h1 h2=>aV h1 h2)) (aN (r8 (i:=4) (aP h_worth_of_pays (hr.mono (by decide)) rfl (aB (aA (pv 6)) (aB (aA (pv 7)) (aB (aA (pv 3)) aG)))) (fun h=>nR (tW PySem.F.plainAttrs_list PySem.F.slot_list_append PySem.F.type_list_append jK (pv 4) (dO h gX)))))))) (iI 4 (aN (bM (bJ eM (aB (aA (pv 4)) aG) (fun h1 h2=>cY h1 rfl T.n_tuple eO h2)))))))
theorem kE:bA ["meeting","path","threats","many","first","behind"] ["meeting","path","threats"] (aD d5):=by simp_all_arith!
theorem u6 (T:mT K mg) (h_answering:eV P w K mg base 3 "answering" gN) (hr:cE 3 (A.deeper (envOfC "with_threats" (aD d5) s.heap.objs.size f cdv))) :
  j2 (dZ kL P w K mg base ["meeting","path","threats","many","first","behind"] "with_threats" (aD d5) f cdv A outer s H E).nox (aS d5) lA:=by
 have hu:=hr.units
 exact (aI (aW (bJ kQ (aB (aA (pv 1)) aG) (fun h1 h2=>cQ h1 rfl T.n_len jX h2)) (aK (aH (i:=3) kE.nd rfl (Or.inr rfl))) (fun h1 h2=>aV h1 h2)) (aI (sI (i:=4) (Nc:=["place","row","meeting","many"]) (fr:=[none,none,some 0,some 3]) (ss:=[0,1]) (cH (sc:=(aD d5)) (N:=["meeting","path","threats","many","first","behind"]) rfl rfl (by decide +kernel)) (by decide) rfl kE.nd rfl (Or.inl rfl) (mM rfl T.n_enumerate gO (aA (pv 1))) (fun Cc pins fp s3 H3=>oB (aH (i:=0) (show (["place","row","meeting","many"]:List Str).Nodup by decide +kernel) rfl (Or.inl rfl)) (aH (i:=1) (show (["place","row","meeting","many"]:List Str).Nodup by decide +kernel) rfl (Or.inl rfl)) (fun h1 h2=>nY rfl (dB h1 (dB h2 k7)))) (fun Cc pins fp s3 H3=>(aP h_answering (hr.mono (by decide)) rfl (aB (aA (pv 2)) (aB (aA (pv 1)) (aB (bL n9 (bL eQ (aA (pv 0)) aL) (aA (pv 3))) (aB (aA (pv 3)) aG)))))) aAW rfl) (iI 4 (aI (sI (i:=5) (Nc:=["hand","row","meeting","many"]) (fr:=[none,none,some 0,some 3]) (ss:=[0,1]) (cH (sc:=(aD d5)) (N:=["meeting","path","threats","many","first","behind"]) rfl rfl (by decide +kernel)) (by decide) rfl kE.nd rfl (Or.inl rfl) (mM rfl T.n_enumerate gO (aA (pv 2))) (fun Cc pins fp s3 H3=>oB (aH (i:=0) (show (["hand","row","meeting","many"]:List Str).Nodup by decide +kernel) rfl (Or.inl rfl)) (aH (i:=1) (show (["hand","row","meeting","many"]:List Str).Nodup by decide +kernel) rfl (Or.inl rfl)) (fun h1 h2=>nY rfl (dB h1 (dB h2 k7)))) (fun Cc pins fp s3 H3=>(aP h_answering (hr.mono (by decide)) rfl (aB (aA (pv 2)) (aB (aA (pv 1)) (aB (bL eQ (aA (pv 3)) (aA (pv 0))) (aB (aA (pv 3)) aG)))))) aAW rfl) (iI 5 (aN (bM (bJ eM (aB (DF.toE (aI0 (aA (pv 4)) (aA (pv 5)))) aG) (fun h1 h2=>cY h1 rfl T.n_tuple eO h2)))))))))
theorem zE:bA ["meeting","plan","hand","own","patience"] ["meeting","plan","hand","own","patience"] (aD e8):=by simp_all_arith!
theorem v8 (T:mT K mg) (h_better_deed:eV P w K mg base 3 "better_deed" fU) (hr:cE 3 (A.deeper (envOfC "better_deeds" (aD e8) s.heap.objs.size f cdv))) :
  j2 (dZ kL P w K mg base ["meeting","plan","hand","own","patience"] "better_deeds" (aD e8) f cdv A outer s H E).nox (aS e8) kZ:=by
 have hu:=hr.units
 exact (aN (bM (bJ eM (aB (DF.toE (kG (Nc:=["state","meeting","plan","hand","own","patience"]) (fr:=[none,some 0,some 1,some 2,some 3,some 4]) (ss:=[0]) (cH (sc:=(aD e8)) (N:=["meeting","plan","hand","own","patience"]) rfl rfl (by decide +kernel)) (by decide) rfl (hZ rfl T.n_range (bJ kQ (aB (aA (pv 1)) aG) (fun h1 h2=>cQ h1 rfl T.n_len jX h2))) (fun Cc pins fp s3 H3=>aK (aH (i:=0) (show (["state","meeting","plan","hand","own","patience"]:List Str).Nodup by decide +kernel) rfl (Or.inl rfl))) (fun Cc pins fp s3 H3=>(aP h_better_deed (hr.mono (by decide)) rfl (aB (aA (pv 1)) (aB (aA (pv 2)) (aB (aA (pv 0)) (aB (aA (pv 3)) (aB (aA (pv 4)) (aB (aA (pv 5)) aG)))))))) jS)) aG) (fun h1 h2=>cY h1 rfl T.n_tuple eO h2))))
theorem fM:bA ["_law_meeting_here","_law_patience_here","_law_some","_law_found","_law_row","_law_good","_law_one","_law_other","_law_floor"] ["_law_meeting_here","_law_patience_here"] (aD iC):=by simp_all_arith!
theorem aAb (T:mT K mg) (h__law_rows:eV P w K mg base 1 "_law_rows" cF) (h__law_paid:eV P w K mg base 2 "_law_paid" cG) (h__law_deeds:eV P w K mg base 3 "_law_deeds" d6) (hr:cE 3 (A.deeper (envOfC "_law_kept" (aD iC) s.heap.objs.size f cdv))) :
  j2 (dZ kL P w K mg base ["_law_meeting_here","_law_patience_here","_law_some","_law_found","_law_row","_law_good","_law_one","_law_other","_law_floor"] "_law_kept" (aD iC) f cdv A outer s H E).nox (aS iC) o5:=by
 have hu:=hr.units
 exact (aI (aW (aP h__law_rows (hr.mono (by decide)) rfl (aB (bD (aA (pv 0)) aL (fun _ _=>rfl)) aG)) (aK (aH (i:=2) fM.nd rfl (Or.inl rfl))) (fun h1 h2=>aV h1 h2)) (aI (l9 (i:=3) (jY aG) (fun h=>n8 (i:=3) fM.nd rfl (Or.inl rfl) h)) (aI (e6 rfl PassesOwn.never (pO (aA (pv 2))) (aK (aH (i:=4) fM.nd rfl (Or.inl rfl))) (aI (aW tQ (aK (aH (i:=5) fM.nd rfl (Or.inl rfl))) (fun h1 h2=>aV h1 h2)) (aI (e6 rfl PassesOwn.never (pO (aA (pv 2))) (aK (aH (i:=6) fM.nd rfl (Or.inl rfl))) (aN (e6 rfl PassesOwn.never (pO (aA (pv 2))) (aK (aH (i:=7) fM.nd rfl (Or.inl rfl))) (aI (aW (cP (aB (bD (aP h__law_paid (hr.mono (by decide)) rfl (aB (aA (pv 0)) (aB (aA (pv 6)) aG))) aL (fun _ _=>rfl)) (aB (bD (aP h__law_paid (hr.mono (by decide)) rfl (aB (aA (pv 0)) (aB (aA (pv 7)) aG))) aL (fun _ _=>rfl)) aG))) (aK (aH (i:=8) fM.nd rfl (Or.inr rfl))) (fun h1 h2=>aV h1 h2)) (aN (jV (aJB (r6 (DF.toE (tD (ifs:=[_]) (Nc:=["_law_part","_law_meeting_here","_law_floor","_law_patience_here"]) (fr:=[none,some 0,some 8,some 1]) (ss:=[0]) (cH (sc:=(aD iC)) (N:=["_law_meeting_here","_law_patience_here","_law_some","_law_found","_law_row","_law_good","_law_one","_law_other","_law_floor"]) rfl rfl (by decide +kernel)) (by decide) rfl (rD (cP (aB (aA (pv 4)) (aB (aA (pv 6)) (aB (aA (pv 7)) aG))))) (fun Cc pins fp s3 H3=>aK (aH (i:=0) (show (["_law_part","_law_meeting_here","_law_floor","_law_patience_here"]:List Str).Nodup by decide +kernel) rfl (Or.inl rfl))) (fun Cc pins fp s3 H3=>qJ (r6 (aP h__law_deeds (hr.mono (by decide)) rfl (aB (aA (pv 1)) (aB (aA (pv 0)) (aB (aA (pv 2)) (aB (aA (pv 3)) aG))))) (fun _=>rfl))) (fun Cc pins fp s3 H3=>(aA (pv 0))))) (fun _=>rfl))) (aN (aW tQ (aK (aH (i:=5) fM.nd rfl (Or.inl rfl))) (fun h1 h2=>aV h1 h2))) eJ)))))) (aN (jV (r6 (aA (pv 5)) (fun _=>rfl)) (aN (r8 (i:=3) (aA (pv 4)) (fun h=>nR (tW PySem.F.plainAttrs_list PySem.F.slot_list_append PySem.F.type_list_append jK (pv 3) (dO h gX))))) eJ))))) (iI 3 (aN (bM (aA (pv 3))))))))
theorem i9:bA ["meeting","plan","start","patience","came","state","rows"] ["meeting","plan","start","patience"] (aD fP):=by simp_all_arith!
theorem wX (T:mT K mg) (h_state_behind:eV P w K mg base 2 "state_behind" dM) (h_worth_of:eV P w K mg base 4 "worth_of" jJ) (hr:cE 4 (A.deeper (envOfC "worths_from" (aD fP) s.heap.objs.size f cdv))) :
  j2 (dZ kL P w K mg base ["meeting","plan","start","patience","came","state","rows"] "worths_from" (aD fP) f cdv A outer s H E).nox (aS fP) mC:=by
 have hu:=hr.units
 exact (aI (aKG (i:=4) (.k []) (n8 (i:=4) i9.nd rfl (Or.inl rfl) aJS) rfl) (aI (aW (aA (pv 2)) (aK (aH (i:=5) i9.nd rfl (Or.inl rfl))) (fun h1 h2=>aV h1 h2)) (aI (rR PassesOwn.never (aHj hu (pv 4) (aDo (aA (pv 5)))) (aI (aKB hu (pv 4) (aDo (aA (pv 5))) (aKq (i:=4) (cQ aHs rfl T.n_len jX (dO (pv 4) gX)) rfl)) (aN (aW (aP h_state_behind (hr.mono (by decide)) rfl (aB (aA (pv 0)) (aB (aA (pv 1)) (aB (aA (pv 5)) (aB (bD (bD (aA (pv 1)) (aA (pv 5)) (fun _ _=>rfl)) aL (fun _ _=>rfl)) aG))))) (aK (aH (i:=5) i9.nd rfl (Or.inl rfl))) (fun h1 h2=>aV h1 h2))))) (aJq 4 (aI (sI (i:=6) (Nc:=["number","plan"]) (fr:=[none,some 1]) (ss:=[0]) (cH (sc:=(aD fP)) (N:=["meeting","plan","start","patience","came","state","rows"]) rfl rfl (by decide +kernel)) (by decide) rfl i9.nd rfl (Or.inl rfl) (aKe (pv 4)) (fun Cc pins fp s3 H3=>aK (aH (i:=0) (show (["number","plan"]:List Str).Nodup by decide +kernel) rfl (Or.inl rfl))) (fun Cc pins fp s3 H3=>(bD (bD (aA (pv 1)) (aA (pv 0)) (fun _ _=>rfl)) aL (fun _ _=>rfl))) jS rfl) (iI 6 (aN (bM (aP h_worth_of (hr.mono (by decide)) rfl (aB (aA (pv 0)) (aB (DF.toE (aJz (aA (pv 6)) sS (sO (aG0 hu (pv 4) (aDo (aA (pv 5))) (fun _ _=>rfl))))) (aB (DF.toE (aJz (aA (pv 6)) (sO (aG0 hu (pv 4) (aDo (aA (pv 5))) (fun _ _=>rfl))) sS)) (aB (aA (pv 3)) aG)))))))))))))
theorem aH1:bA ["meeting","row","threats"] ["meeting","row","threats"] (aD oH):=by simp_all_arith!
theorem aDM (T:mT K mg) (h_with_threats:eV P w K mg base 4 "with_threats" d8) (hr:cE 4 (A.deeper (envOfC "steady" (aD oH) s.heap.objs.size f cdv))) :
  j2 (dZ kL P w K mg base ["meeting","row","threats"] "steady" (aD oH) f cdv A outer s H E).nox (aS oH) vU:=by
 have hu:=hr.units
 exact (aN (bM (aP h_with_threats (hr.mono (by decide)) rfl (aB (aA (pv 0)) (aB (cP (aB (aA (pv 1)) aG)) (aB (aA (pv 2)) aG))))))
theorem aAx:bA ["meeting","rows","hand"] ["meeting","rows","hand"] (aD cN):=by simp_all_arith!
theorem wY (T:mT K mg) (h_paid:eV P w K mg base 2 "paid" jC) {c T0:Addr} (htab:aAQ K=some (T0,rawInt 128,rawInt 25,("hardest_for":Str)++".<locals>."++"<lambda>")) {f:Addr}{A:Around}{outer:List Env}{s:Shared}{H:Hp}{E:XK} (hr:cE 4 (A.deeper (envOfC "hardest_for" (aD cN) s.heap.objs.size f (.ref c)))) (LK:aBO (dZ kL P w K mg base ["meeting","rows","hand"] "hardest_for" (aD cN) f (.ref c) A outer s H E).nox c T0) :
  j2 (dZ kL P w K mg base ["meeting","rows","hand"] "hardest_for" (aD cN) f (.ref c) A outer s H E).nox (aS cN) mB:=by
 have hu:=hr.units
 exact (aN (bM (aHh (Nc:=["row","hand","meeting"]) (fr:=[none,some 2,some 0]) (x0:="row") rfl LK htab rfl T.n_min (cH (sc:=(aD cN)) (N:=["meeting","rows","hand"]) rfl rfl (by decide +kernel)) rfl rfl rfl (by decide +kernel) rfl rfl (fun _ _ _ _ _=>rfl) rfl hr.depth (aA (pv 1)) (fun L f d pins s3 H3=>(bD (aP h_paid ((cE.deeper (k:=2) (cE.in1 (k:=3) hr) _).mono (by decide)) rfl (aB (aA (pv 2)) (aB (aA (pv 0)) aG))) (aA (pv 1)) (fun _ _=>rfl))))))
theorem aHw:bA ["meeting","plan","patience"] ["meeting","plan","patience"] (aD mX):=by simp_all_arith!
theorem aEW (T:mT K mg) (h_worths_from:eV P w K mg base 5 "worths_from" fV) (hr:cE 5 (A.deeper (envOfC "worths" (aD mX) s.heap.objs.size f cdv))) :
  j2 (dZ kL P w K mg base ["meeting","plan","patience"] "worths" (aD mX) f cdv A outer s H E).nox (aS mX) v9:=by
 have hu:=hr.units
 exact (aN (bM (bJ eM (aB (DF.toE (kG (Nc:=["state","meeting","plan","patience"]) (fr:=[none,some 0,some 1,some 2]) (ss:=[0]) (cH (sc:=(aD mX)) (N:=["meeting","plan","patience"]) rfl rfl (by decide +kernel)) (by decide) rfl (hZ rfl T.n_range (bJ kQ (aB (aA (pv 1)) aG) (fun h1 h2=>cQ h1 rfl T.n_len jX h2))) (fun Cc pins fp s3 H3=>aK (aH (i:=0) (show (["state","meeting","plan","patience"]:List Str).Nodup by decide +kernel) rfl (Or.inl rfl))) (fun Cc pins fp s3 H3=>(aP h_worths_from (hr.mono (by decide)) rfl (aB (aA (pv 1)) (aB (aA (pv 2)) (aB (aA (pv 0)) (aB (aA (pv 3)) aG)))))) jS)) aG) (fun h1 h2=>cY h1 rfl T.n_tuple eO h2))))
theorem wO:bA ["meeting","rows"] ["meeting","rows"] (aD eF):=by simp_all_arith!
theorem uX (T:mT K mg) (h_hardest_for:eV P w K mg base 5 "hardest_for" fQ) (hr:cE 5 (A.deeper (envOfC "hardest_among" (aD eF) s.heap.objs.size f cdv))) :
  j2 (dZ kL P w K mg base ["meeting","rows"] "hardest_among" (aD eF) f cdv A outer s H E).nox (aS eF) kF:=by
 have hu:=hr.units
 exact (aN (bM (bJ eM (aB (DF.toE (kG (Nc:=["hand","meeting","rows"]) (fr:=[none,some 0,some 1]) (ss:=[0]) (cH (sc:=(aD eF)) (N:=["meeting","rows"]) rfl rfl (by decide +kernel)) (by decide) rfl (hZ rfl T.n_range (bJ kQ (aB (bD (aA (pv 0)) aL (fun _ _=>rfl)) aG) (fun h1 h2=>cQ h1 rfl T.n_len jX h2))) (fun Cc pins fp s3 H3=>aK (aH (i:=0) (show (["hand","meeting","rows"]:List Str).Nodup by decide +kernel) rfl (Or.inl rfl))) (fun Cc pins fp s3 H3=>(aP h_hardest_for (hr.mono (by decide)) rfl (aB (aA (pv 1)) (aB (aA (pv 2)) (aB (aA (pv 0)) aG))))) jS)) aG) (fun h1 h2=>cY h1 rfl T.n_tuple eO h2))))
theorem p9:bA ["meeting","rows","patience","after"] ["meeting","rows","patience"] (aD eB):=by simp_all_arith!
theorem uV (T:mT K mg) (h_hardest_among:eV P w K mg base 6 "hardest_among" cV) (h_threatened_pays:eV P w K mg base 3 "threatened_pays" bY) (h_stray_that_gains:eV P w K mg base 3 "stray_that_gains" b8) (hr:cE 6 (A.deeper (envOfC "holding_among" (aD eB) s.heap.objs.size f cdv))) :
  j2 (dZ kL P w K mg base ["meeting","rows","patience","after"] "holding_among" (aD eB) f cdv A outer s H E).nox (aS eB) j9:=by
 have hu:=hr.units
 exact (aI (jV (cR (rM hu) (aA (pv 1)) (cP aG)) (aN (bM (cP aG))) eJ) (aI (aW (aP h_threatened_pays (hr.mono (by decide)) rfl (aB (aA (pv 0)) (aB (aP h_hardest_among (hr.mono (by decide)) rfl (aB (aA (pv 0)) (aB (aA (pv 1)) aG))) aG))) (aK (aH (i:=3) p9.nd rfl (Or.inr rfl))) (fun h1 h2=>aV h1 h2)) (aN (bM (bJ eM (aB (DF.toE (tD (ifs:=[_]) (Nc:=["row","meeting","after","patience"]) (fr:=[none,some 0,some 3,some 2]) (ss:=[0]) (cH (sc:=(aD eB)) (N:=["meeting","rows","patience","after"]) rfl rfl (by decide +kernel)) (by decide) rfl (rD (aA (pv 1))) (fun Cc pins fp s3 H3=>aK (aH (i:=0) (show (["row","meeting","after","patience"]:List Str).Nodup by decide +kernel) rfl (Or.inl rfl))) (fun Cc pins fp s3 H3=>qJ (cR aFm (aP h_stray_that_gains (hr.mono (by decide)) rfl (aB (aA (pv 1)) (aB (aA (pv 0)) (aB (aA (pv 2)) (aB (aA (pv 3)) aG))))) xN)) (fun Cc pins fp s3 H3=>(aA (pv 0))))) aG) (fun h1 h2=>cY h1 rfl T.n_tuple eO h2))))))
theorem sZ:bA ["meeting","plan","patience","told","hand","better","state","deed"] ["meeting","plan","patience"] (aD uU):=by simp_all_arith!
theorem aHJ (T:mT K mg) (h_worths:eV P w K mg base 6 "worths" mW) (h_worths_of_hand:eV P w K mg base 1 "worths_of_hand" dA) (h_better_deeds:eV P w K mg base 4 "better_deeds" e7) (hr:cE 6 (A.deeper (envOfC "gain" (aD uU) s.heap.objs.size f cdv))) :
  j2 (dZ kL P w K mg base ["meeting","plan","patience","told","hand","better","state","deed"] "gain" (aD uU) f cdv A outer s H E).nox (aS uU) aDc:=by
 have hu:=hr.units
 exact (aI (aW (aP h_worths (hr.mono (by decide)) rfl (aB (aA (pv 0)) (aB (aA (pv 1)) (aB (aA (pv 2)) aG)))) (aK (aH (i:=3) sZ.nd rfl (Or.inl rfl))) (fun h1 h2=>aV h1 h2)) (aI (e6 rfl PassesOwn.never (hZ rfl T.n_range (bJ kQ (aB (bD (aA (pv 0)) aL (fun _ _=>rfl)) aG) (fun h1 h2=>cQ h1 rfl T.n_len jX h2))) (aK (aH (i:=4) sZ.nd rfl (Or.inl rfl))) (aI (aW (aP h_better_deeds (hr.mono (by decide)) rfl (aB (aA (pv 0)) (aB (aA (pv 1)) (aB (aA (pv 4)) (aB (aP h_worths_of_hand (hr.mono (by decide)) rfl (aB (aA (pv 3)) (aB (aA (pv 4)) aG))) (aB (aA (pv 2)) aG)))))) (aK (aH (i:=5) sZ.nd rfl (Or.inl rfl))) (fun h1 h2=>aV h1 h2)) (aN (e6 rfl PassesOwn.never (mM rfl T.n_enumerate gO (aA (pv 5))) (oB (aH (i:=6) sZ.nd rfl (Or.inl rfl)) (aH (i:=7) sZ.nd rfl (Or.inl rfl)) (fun h1 h2=>nY rfl (dB h1 (dB h2 k7)))) (aN (jV (cR (nH hu) (aA (pv 7)) (bD (bD (bD (aA (pv 1)) (aA (pv 6)) (fun _ _=>rfl)) aL (fun _ _=>rfl)) (aA (pv 4)) (fun _ _=>rfl))) (aN (bM (cP (aB (aA (pv 6)) (aB (aA (pv 4)) (aB (aA (pv 7)) aG)))))) eJ)))))) (aN (bM xN))))
theorem wG:bA ["meeting","patience","rows","left"] ["meeting","patience"] (aD u0):=by simp_all_arith!
theorem aHc (T:mT K mg) (h_all_rows:eV P w K mg base 2 "all_rows" iO) (h_holding_among:eV P w K mg base 7 "holding_among" dQ) (hr:cE 7 (A.deeper (envOfC "kept" (aD u0) s.heap.objs.size f cdv))) :
  j2 (dZ kL P w K mg base ["meeting","patience","rows","left"] "kept" (aD u0) f cdv A outer s H E).nox (aS u0) aDn:=by
 have hu:=hr.units
 exact (aI (aW (aP h_all_rows (hr.mono (by decide)) rfl (aB (aA (pv 0)) aG)) (aK (aH (i:=2) wG.nd rfl (Or.inl rfl))) (fun h1 h2=>aV h1 h2)) (aI (aW (aP h_holding_among (hr.mono (by decide)) rfl (aB (aA (pv 0)) (aB (aA (pv 2)) (aB (aA (pv 1)) aG)))) (aK (aH (i:=3) wG.nd rfl (Or.inl rfl))) (fun h1 h2=>aV h1 h2)) (aI (rR PassesOwn.never (cR (nH hu) (aA (pv 3)) (aA (pv 2))) (aI (aW (aA (pv 3)) (aK (aH (i:=2) wG.nd rfl (Or.inl rfl))) (fun h1 h2=>aV h1 h2)) (aN (aW (aP h_holding_among (hr.mono (by decide)) rfl (aB (aA (pv 0)) (aB (aA (pv 2)) (aB (aA (pv 1)) aG)))) (aK (aH (i:=3) wG.nd rfl (Or.inl rfl))) (fun h1 h2=>aV h1 h2))))) (aN (bM (aA (pv 2)))))))
theorem aIL:bA ["meeting","plan","patience"] ["meeting","plan","patience"] (aD rA):=by simp_all_arith!
theorem aFN (T:mT K mg) (h_gain:aEz P w K mg base 7 "gain" sE) (hr:cE 7 (A.deeper (envOfC "holds" (aD rA) s.heap.objs.size f cdv))) :
  j2 (dZ kL P w K mg base ["meeting","plan","patience"] "holds" (aD rA) f cdv A outer s H E).nox (aS rA) zI:=by
 have hu:=hr.units
 exact (aN (bM (uO aFm (mQ h_gain (hr.mono (by decide)) rfl (aB (aA (pv 0)) (aB (aA (pv 1)) (aB (aA (pv 2)) aG)))) xN)))
theorem aBf:bA ["meeting","patience","rows"] ["meeting","patience"] (aD lN):=by simp_all_arith!
theorem aC9 (T:mT K mg) (h_kept:eV P w K mg base 8 "kept" lH) (h_hardest_among:eV P w K mg base 6 "hardest_among" cV) (hr:cE 8 (A.deeper (envOfC "hardest" (aD lN) s.heap.objs.size f cdv))) :
  wZ (cx1 P w K mg base ["meeting","patience","rows"] "hardest" (aD lN) f cdv A outer s H E) E (aS lN) sH:=by
 have hu:=hr.units
 exact (aEU (aGm (aW (aP h_kept (hr.mono (by decide)) rfl (aB (aA (pv 0)) (aB (aA (pv 1)) aG))) (aK (aH (i:=2) aBf.nd rfl (Or.inl rfl))) (fun h1 h2=>aV h1 h2))) (aEU (aJI (cR (rM hu) (aA (pv 2)) (cP aG)) (nN (aJw T.x_NoPact rfl rfl aMc (aB xV aG))) (aJl eJ)) (nN (aGm (bM (aP h_hardest_among (hr.mono (by decide)) rfl (aB (aA (pv 0)) (aB (aA (pv 2)) aG))))))))
theorem aHl:bA ["meeting","patience"] ["meeting","patience"] (aD oM):=by simp_all_arith!
theorem aD7 (T:mT K mg) (h_threatened_pays:eV P w K mg base 3 "threatened_pays" bY) (h_hardest:aBC P w K mg base 9 "hardest" iT) (hr:cE 9 (A.deeper (envOfC "floors" (aD oM) s.heap.objs.size f cdv))) :
  wZ (cx1 P w K mg base ["meeting","patience"] "floors" (aD oM) f cdv A outer s H E) E (aS oM) vP:=by
 have hu:=hr.units
 exact (nN (aJN (aCf h_threatened_pays (hr.mono (by decide)) rfl (pY (u7 (aA (pv 0))) (pY (sB h_hardest aMc.pass (hr.mono (by decide)) rfl (aB (aA (pv 0)) (aB (aA (pv 1)) aG))) aGd)))))
theorem aFf:bA ["meeting","row","patience"] ["meeting","row","patience"] (aD lP):=by simp_all_arith!
theorem aCF (T:mT K mg) (h_stray_that_gains:eV P w K mg base 3 "stray_that_gains" b8) (h_floors:aBC P w K mg base 10 "floors" j3) (hr:cE 10 (A.deeper (envOfC "why_not" (aD lP) s.heap.objs.size f cdv))) :
  wZ (cx1 P w K mg base ["meeting","row","patience"] "why_not" (aD lP) f cdv A outer s H E) E (aS lP) sV:=by
 have hu:=hr.units
 exact (nN (aJN (aCf h_stray_that_gains (hr.mono (by decide)) rfl (pY (u7 (aA (pv 0))) (pY (u7 (aA (pv 1))) (pY (sB h_floors aMc.pass (hr.mono (by decide)) rfl (aB (aA (pv 0)) (aB (aA (pv 2)) aG))) (pY (u7 (aA (pv 2))) aGd)))))))
theorem iM:bA ["_law_way","_law_meeting_here","_law_row","_law_patience_here","_law_found","e"] ["_law_way","_law_meeting_here","_law_row","_law_patience_here"] (aD jG):=by simp_all_arith!
theorem aBe (T:mT K mg) (h_floors:aBC P w K mg base 10 "floors" j3) (h_hardest:aBC P w K mg base 9 "hardest" iT) (h_why_not:aBC P w K mg base 11 "why_not" lM) (hr:cE 11 (A.deeper (envOfC "_law_told" (aD jG) s.heap.objs.size f cdv))) :
  j2 (dZ kL P w K mg base ["_law_way","_law_meeting_here","_law_row","_law_patience_here","_law_found","e"] "_law_told" (aD jG) f cdv A outer s H E).nox (aS jG) kY:=by
 have hu:=hr.units
 obtain ⟨cl_PactError,hcl_PactError,hcv_PactError⟩:=T.e_PactError
 obtain ⟨C6,N6,i1,i2,i3,i4,i5,i6⟩:=T.i_NoPact_NoText
 exact (aI (aW xV (aK (aH (i:=4) iM.nd rfl (Or.inl rfl))) (fun h1 h2=>aV h1 h2)) (aI (aI2 (n:=6) (i:=5) (cov:=(fun c=>c="NoPact")) (tv:=(fun _=>true)) rfl rfl rfl iM.nd rfl rfl rfl hcl_PactError hcv_PactError (fun EE pn xe hp=>(nN (aJI (cR (rM hu) (aA (pv 0)) aL) (nN (aF3 (sB h_floors hp (hr.mono (by decide)) rfl (aB (aA (pv 1)) (aB (aA (pv 3)) aG))) (aK (aH (i:=4) iM.nd rfl (Or.inl rfl))) (fun h1 h2=>aV h1 h2))) (nN (aJI (cR (rM hu) (aA (pv 0)) aL) (nN (aF3 (sB h_hardest hp (hr.mono (by decide)) rfl (aB (aA (pv 1)) (aB (aA (pv 3)) aG))) (aK (aH (i:=4) iM.nd rfl (Or.inl rfl))) (fun h1 h2=>aV h1 h2))) (nN (aF3 (sB h_why_not hp (hr.mono (by decide)) rfl (aB (aA (pv 1)) (aB (aA (pv 2)) (aB (aA (pv 3)) aG)))) (aK (aH (i:=4) iM.nd rfl (Or.inl rfl))) (fun h1 h2=>aV h1 h2)))))))) (fun ev pn a oe c cls h1 h2 h3 h4=>by have h3':c="NoPact":=h3;subst h3';have h5:=i1.symm.trans h4;cases h5;exact aIU (i:=5) h1 h2 i3 i1 i2 T.n_ValueError T.n_isinstance i4 i5 i6 (fun _=>pv 5) rfl rfl rfl rfl) (fun ev pn=>(aN (aW xV (aK (aH (i:=4) iM.nd rfl (Or.inl rfl))) (fun h1 h2=>aV h1 h2))))) (aN (bM (aA (pv 4))))))
theorem kR:bA ["_law_script","_law_k","_law_cell_here","_law_meeting_here","_law_patience_here","_law_due","_law_told_here","_law_threats","_law_floor","_law_shares_here","_law_row","_law_plan","_law_why"] ["_law_script"] (aD nV):=by simp_all_arith!
theorem aIF (T:mT K mg) (h__law_cell:eV P w K mg base 1 "_law_cell" eG) (h__law_meeting:aEz P w K mg base 2 "_law_meeting" cB) (h__law_patience:eV P w K mg base 2 "_law_patience" eD) (h__law_kept:eV P w K mg base 4 "_law_kept" fO) (h_kept:eV P w K mg base 8 "kept" lH) (h__law_told:aEz P w K mg base 12 "_law_told" bO) (h__law_paid:eV P w K mg base 2 "_law_paid" cG) (h_steady:eV P w K mg base 5 "steady" mK) (h__law_steady:eV P w K mg base 2 "_law_steady" gW) (h_holds:eV P w K mg base 8 "holds" o6) (h__law_deeds:eV P w K mg base 3 "_law_deeds" d6) (h__law_rows:eV P w K mg base 1 "_law_rows" cF) (hr:cE 12 (A.deeper (envOfC "law" (aD nV) s.heap.objs.size f cdv))) :
  j2 (dZ kL P w K mg base ["_law_script","_law_k","_law_cell_here","_law_meeting_here","_law_patience_here","_law_due","_law_told_here","_law_threats","_law_floor","_law_shares_here","_law_row","_law_plan","_law_why"] "law" (aD nV) f cdv A outer s H E).nox (aS nV) aGA:=by
 have hu:=hr.units
 exact (aI (e6 rfl PassesOwn.never (hZ rfl T.n_range aL) (aK (aH (i:=1) kR.nd rfl (Or.inl rfl))) (aI (aW (aP h__law_cell (hr.mono (by decide)) rfl (aB (aA (pv 0)) (aB (bL pJ aL (aA (pv 1))) aG))) (aK (aH (i:=2) kR.nd rfl (Or.inl rfl))) (fun h1 h2=>aV h1 h2)) (aI (aW (mQ h__law_meeting (hr.mono (by decide)) rfl (aB (bL pJ aL (aA (pv 2))) aG)) (aK (aH (i:=3) kR.nd rfl (Or.inr rfl))) (fun h1 h2=>aV h1 h2)) (aI (jV (cR (rM hu) (bL n9 (aA (pv 2)) aL) aL) (aN (aW (mQ h__law_meeting (hr.mono (by decide)) rfl (aB (aA (pv 2)) aG)) (aK (aH (i:=3) kR.nd rfl (Or.inr rfl))) (fun h1 h2=>aV h1 h2))) eJ) (aI (jV (DW.t (aDK (cR aGg (bJ kQ (aB (bD (aA (pv 3)) aL (fun _ _=>rfl)) aG) (fun h1 h2=>cQ h1 rfl T.n_len jX h2)) aL) (aCT (cR aGg (bJ kQ (aB (bD (aA (pv 3)) aL (fun _ _=>rfl)) aG) (fun h1 h2=>cQ h1 rfl T.n_len jX h2)) aL)))) (aN (aW (mQ h__law_meeting (hr.mono (by decide)) rfl (aB (bL pJ aL (aA (pv 2))) aG)) (aK (aH (i:=3) kR.nd rfl (Or.inr rfl))) (fun h1 h2=>aV h1 h2))) eJ) (aI (aW (aP h__law_patience (hr.mono (by decide)) rfl (aB (aP h__law_cell (hr.mono (by decide)) rfl (aB (aA (pv 0)) (aB (bL eQ (bL pJ aL (aA (pv 1))) aL) aG))) aG)) (aK (aH (i:=4) kR.nd rfl (Or.inl rfl))) (fun h1 h2=>aV h1 h2)) (aI (aW (aP h__law_kept (hr.mono (by decide)) rfl (aB (aA (pv 3)) (aB (aA (pv 4)) aG))) (aK (aH (i:=5) kR.nd rfl (Or.inr rfl))) (fun h1 h2=>aV h1 h2)) (aI (jV (cR (nH hu) (aP h_kept (hr.mono (by decide)) rfl (aB (aA (pv 3)) (aB (aA (pv 4)) aG))) (bJ eM (aB (aA (pv 5)) aG) (fun h1 h2=>cY h1 rfl T.n_tuple eO h2))) (aN (bM tQ)) eJ) (aI (aW (mQ h__law_told (hr.mono (by decide)) rfl (aB aL (aB (aA (pv 3)) (aB (aA (pv 5)) (aB (aA (pv 4)) aG))))) (aK (aH (i:=6) kR.nd rfl (Or.inl rfl))) (fun h1 h2=>aV h1 h2)) (aI (aW (mQ h__law_told (hr.mono (by decide)) rfl (aB aL (aB (aA (pv 3)) (aB (aA (pv 5)) (aB (aA (pv 4)) aG))))) (aK (aH (i:=7) kR.nd rfl (Or.inr rfl))) (fun h1 h2=>aV h1 h2)) (aN (jV (aJB (r6 (aA (pv 5)) (fun _=>rfl))) (aN (jV (DW.t (aDK (cR (nH hu) (aA (pv 6)) xV) (aDK (cR (nH hu) (aA (pv 7)) xV) (aCT (cR (nH hu) (mQ h__law_told (hr.mono (by decide)) rfl (aB aL (aB (aA (pv 3)) (aB (cP (aB aL (aB aL aG))) (aB (aA (pv 4)) aG))))) xV))))) (aN (bM tQ)) eJ)) (aI (aW (bJ eM (aB (DF.toE (kG (Nc:=["_law_hand","_law_due","_law_meeting_here"]) (fr:=[none,some 5,some 3]) (ss:=[0]) (cH (sc:=(aD nV)) (N:=["_law_script","_law_k","_law_cell_here","_law_meeting_here","_law_patience_here","_law_due","_law_told_here","_law_threats","_law_floor","_law_shares_here","_law_row","_law_plan","_law_why"]) rfl rfl (by decide +kernel)) (by decide) rfl (rD (cP (aB aL (aB aL aG)))) (fun Cc pins fp s3 H3=>aK (aH (i:=0) (show (["_law_hand","_law_due","_law_meeting_here"]:List Str).Nodup by decide +kernel) rfl (Or.inr (by first | rfl | with_unfolding_all rfl)))) (fun Cc pins fp s3 H3=>(bJ (aMg rfl) (aB (DF.toE (kG (Nc:=["_law_row","_law_hand","_law_meeting_here"]) (fr:=[none,some 0,some 2]) (ss:=[0]) (by first | rfl | with_unfolding_all rfl) (by decide) rfl (pO (aA (pv 1))) (fun Cc pins fp s3 H3=>aK (aH (i:=0) (show (["_law_row","_law_hand","_law_meeting_here"]:List Str).Nodup by decide +kernel) rfl (Or.inl rfl))) (fun Cc pins fp s3 H3=>(bD (aP h__law_paid (hr.mono (by decide)) rfl (aB (aA (pv 2)) (aB (aA (pv 0)) aG))) (aA (pv 1)) (fun _ _=>rfl))) jS)) aG) (fun h1 h2=>cQ h1 rfl T.n_min aLV h2))) jS)) aG) (fun h1 h2=>cY h1 rfl T.n_tuple eO h2)) (aK (aH (i:=8) kR.nd rfl (Or.inl rfl))) (fun h1 h2=>aV h1 h2)) (aI (aW (bJ eM (aB (DF.toE (kG (Nc:=["_law_hand","_law_meeting_here","_law_threats"]) (fr:=[none,some 3,some 7]) (ss:=[0]) (cH (sc:=(aD nV)) (N:=["_law_script","_law_k","_law_cell_here","_law_meeting_here","_law_patience_here","_law_due","_law_told_here","_law_threats","_law_floor","_law_shares_here","_law_row","_law_plan","_law_why"]) rfl rfl (by decide +kernel)) (by decide) rfl (rD (cP (aB aL (aB aL aG)))) (fun Cc pins fp s3 H3=>aK (aH (i:=0) (show (["_law_hand","_law_meeting_here","_law_threats"]:List Str).Nodup by decide +kernel) rfl (Or.inl rfl))) (fun Cc pins fp s3 H3=>(bD (aP h__law_paid (hr.mono (by decide)) rfl (aB (aA (pv 1)) (aB (bD (aA (pv 2)) (aA (pv 0)) (fun _ _=>rfl)) aG))) (aA (pv 0)) (fun _ _=>rfl))) jS)) aG) (fun h1 h2=>cY h1 rfl T.n_tuple eO h2)) (aK (aH (i:=9) kR.nd rfl (Or.inl rfl))) (fun h1 h2=>aV h1 h2)) (aI (jV (DW.t (aDK (cR (nH hu) (aA (pv 6)) (aA (pv 8))) (aCT (cR (nH hu) (aA (pv 9)) (aA (pv 8)))))) (aN (bM tQ)) eJ) (aI (jV (r6 (DF.toE (tD (ifs:=[_]) (Nc:=["_law_row","_law_due"]) (fr:=[none,some 5]) (ss:=[0]) (cH (sc:=(aD nV)) (N:=["_law_script","_law_k","_law_cell_here","_law_meeting_here","_law_patience_here","_law_due","_law_told_here","_law_threats","_law_floor","_law_shares_here","_law_row","_law_plan","_law_why"]) rfl rfl (by decide +kernel)) (by decide) rfl (rD (aA (pv 7))) (fun Cc pins fp s3 H3=>aK (aH (i:=0) (show (["_law_row","_law_due"]:List Str).Nodup by decide +kernel) rfl (Or.inl rfl))) (fun Cc pins fp s3 H3=>qJ (cR (aDL hu) (aA (pv 0)) (aA (pv 1)))) (fun Cc pins fp s3 H3=>(aA (pv 0))))) (fun _=>rfl)) (aN (bM tQ)) eJ) (aN (e6 rfl PassesOwn.never (pO (aP h__law_rows (hr.mono (by decide)) rfl (aB (bD (aA (pv 3)) aL (fun _ _=>rfl)) aG))) (aK (aH (i:=10) kR.nd rfl (Or.inl rfl))) (aI (aW (aP h_steady (hr.mono (by decide)) rfl (aB (aA (pv 3)) (aB (aA (pv 10)) (aB (aA (pv 7)) aG)))) (aK (aH (i:=11) kR.nd rfl (Or.inl rfl))) (fun h1 h2=>aV h1 h2)) (aI (jV (cR (nH hu) (aA (pv 11)) (aP h__law_steady (hr.mono (by decide)) rfl (aB (aA (pv 3)) (aB (aA (pv 10)) (aB (aA (pv 7)) aG))))) (aN (bM tQ)) eJ) (aI (aW (mQ h__law_told (hr.mono (by decide)) rfl (aB aL (aB (aA (pv 3)) (aB (aA (pv 10)) (aB (aA (pv 4)) aG))))) (aK (aH (i:=12) kR.nd rfl (Or.inl rfl))) (fun h1 h2=>aV h1 h2)) (aI (jV (DW.t (aDK (cR (nH hu) (aP h_holds (hr.mono (by decide)) rfl (aB (aA (pv 3)) (aB (aA (pv 11)) (aB (aA (pv 4)) aG)))) (uO (aLx hu) (aA (pv 10)) (aA (pv 5)))) (aCT (cR (nH hu) (uO aFm (aA (pv 12)) xN) (uO (aLx hu) (aA (pv 10)) (aA (pv 5))))))) (aN (bM tQ)) eJ) (aN (jV (DW.t (aFE (cR aHy (aA (pv 12)) xN) (aCC (cR (aDL hu) (aA (pv 12)) (aP h__law_deeds (hr.mono (by decide)) rfl (aB (aA (pv 3)) (aB (aA (pv 10)) (aB (aA (pv 8)) (aB (aA (pv 4)) aG))))))))) (aN (bM tQ)) eJ)))))))))))))))))))))))) (aN (bM tQ)))
end
end
structure aDe (K:PySem.W.Frag) (mg:Str→Option Value) (f c P:Addr) (ln cl:Value) (q:Str):Prop where
 code:∀ o fd,K.lookup f=some o→o.data = .func fd→fd.code = .ref c
 hd:PySem.W.codeHdIn K c P=true
 tab:aAQ K=some (P,ln,cl,q)
 none:K.lookup P=none
theorem aDe.lam {X:Cx}{f c P:Addr}{ln cl:Value}{q:Str} (T:aDe X.K X.mg f c P ln cl q) (hm:X.K.In X.base) (hB:X.base.BuiltinsAt X.mg P) (hc:X.env.code = .ref c):aBO X c P:=⟨hc,PySem.W.codeHd_of_K hm T.hd,hB⟩
theorem aIz {K:PySem.W.Frag}{f c P:Addr}{st:Stmt}{od an od2:Option Addr}{sl sl2:Array (Option Value)}{oc kV dc pm ct oc2:Value}{vs:Array Value}{lp:Pos} (a:PySem.W.nsIn K mainGlobals "hardest_for"=some (some (.ref f)))
  (l:K.lookup f=some ⟨oc,od,.func (PySem.W.fnOf "hardest_for" "hardest_for" (lF st) (aS st) (aD st) .none kV dc pm an (.ref c) ct),sl⟩) (l2:K.lookup c=some ⟨oc2,od2,.fields vs,sl2⟩) (v:vs[11]? = some (.ref P)) (hp:aE4 (.stmts (aS st))=some lp) :
  aAQ K=some (P,rawInt lp.line,rawInt lp.col,("hardest_for":Str)++".<locals>."++"<lambda>"):=by
 have t:PySem.W.tabIn K "hardest_for"=some (c,P):=by
  unfold PySem.W.tabIn
  simp only [a,l,l2,v,PySem.W.fnOf]
 unfold aAQ
 simp only [a,l,t,PySem.W.fnOf,hp]
theorem aKZ {K:PySem.W.Frag}{h:Heap}{mg:Str→Option Value}{f c P:Addr}{st:Stmt}{od an od2:Option Addr}{sl sl2:Array (Option Value)}{oc kV dc pm ct oc2:Value}{vs:Array Value}{lp:Pos} (X:K.In h) (G:h.Ns mainGlobals mg) (a:PySem.W.nsIn K mainGlobals "hardest_for"=some (some (.ref f)))
  (l:K.lookup f=some ⟨oc,od,.func (PySem.W.fnOf "hardest_for" "hardest_for" (lF st) (aS st) (aD st) .none kV dc pm an (.ref c) ct),sl⟩) (l2:K.lookup c=some ⟨oc2,od2,.fields vs,sl2⟩) (v:vs[11]? = some (.ref P)) (hd:PySem.W.codeHdIn K c P=true) (nn:K.lookup P=none) (hp:aE4 (.stmts (aS st))=some lp) :
  ∀ f',mg "hardest_for"=some (.ref f')→aDe K mg f' c P (rawInt lp.line) (rawInt lp.col) (("hardest_for":Str)++".<locals>."++"<lambda>"):=fun f' hf=>by
 have e:=hf.symm.trans (PySem.W.mg_of X G a)
 cases e
 refine ⟨fun o fd ho hd=>?_,hd,aIz a l l2 v hp,nn⟩
 rw [l] at ho
 cases ho
 cases hd
 rfl
def aNE (P:Addr) (H:Hp):Prop:=∀ b,H b=none∨(∃ o xs,H b=some (.frz o (.lst xs)))∨b=P
theorem aG8 {P:Program}{w:World}{K:PySem.W.Frag}{mg mb:Str→Option Value}{CX:CXT}{k:Nat}{fa a hf c T:Addr}{ln cl:Value}{qn:Str}{fd:FuncData}{x:Str}{sp:Sp}{s₁:Shared}{vs:List Value}{ns:List Int}
  (KX:K.In s₁.heap) (hns:s₁.heap.Ns mainGlobals mg) (hb:s₁.heap.Ns builtinsNs mb) (hbb:∀ x:Str,x≠"__name__"→mb x=bootBuiltins x) (hlim:s₁.heap.NoLimit) (hg:s₁.gens = #[])
  (ha:s₁.heap.get? a=some { cls:=.type "list",data:=.seq vs.toArray }) (hi:IntsAre vs ns) (hl:ns.length≤sizeLine) (hr:cE k callerA) (TK:aDe K mg hf c T ln cl qn) (hT:s₁.heap.get? T=some (PySem.W.tabObj #[])) (hB:s₁.heap.BuiltinsAt mg T)
  (F:∀ base:Heap,K.In base→base.Ns mainGlobals mg→base.BuiltinsAt mg T→vY P w K mg base CX k fa fd [x] sp) (hbind:∀ (s:Shared) (u:Value),BindsTo s fd ⟨[u],[]⟩ [(x,u)])
  (hsp:∀ H:Hp,H T=some (.tab ln cl qn)→lI K H a (ns.map V.int)→sp [.ref a] H (fun v H'=>v = .bl true∧H' T=some (.tab ln cl qn)) fun _ _ _=>False)
  (hCX:∀ H e s',CX [] H s₁ (fun _ _ _=>False) e s'→False) :
  codeAny (model P w) callerA (.call (.ref fa) ⟨[.ref a],[]⟩) (fun r s'=>r = .ok (.ret (.bool true))∧OldK s₁.heap s'.heap∧s'.os=s₁.os∧AllBare s'.gens) s₁:=by
 have rv:=aBQ hi
 have lenV:=hi.length
 have aT:a≠T:=fun z=>by rw [z,hT] at ha;cases ha
 have ct:isCodeTable s₁.heap T:=by
  obtain ⟨o,vs,_,_,_,_,_,_,_,e1,e2,e3,e4,_⟩:=PySem.W.codeHd_of_K KX TK.hd
  exact ⟨c,o,vs,e1,e2,e3,e4⟩
 have core:∀ H:Hp,aNE T H→H T=some (.tab ln cl qn)→lI K H a (ns.map V.int)→sW P w H s₁.heap→(∀ b,H b≠none→b=a∨b=T)→(H a≠none→K.lookup a=none) →
   codeAny (model P w) callerA (.call (.ref fa) ⟨[.ref a],[]⟩) (fun r s'=>r = .ok (.ret (.bool true))∧OldK s₁.heap s'.heap∧s'.os=s₁.os∧AllBare s'.gens) s₁:=by
  intro H hO hHT hS hok hA hK
  have base_of:∀ {b:Addr}{o:Obj},s₁.heap.get? b=some o→H b=none→(aBq s₁.heap H).get? b=some o:=fun e n=>aJY e n
  have noA:∀ {b:Addr}{o:Obj}{es:Array DictEntry}{ep:Nat},s₁.heap.get? b=some o→o.data = .dict es ep→H b=none:=fun {b o es ep} e d=>by
   cases q:H b with
   | none=>rfl
   | some u=>
    rcases hA b (by rw [q];simp) with e' | e'
    ·subst e'
     rw [ha] at e;cases e
     have d':Data.seq vs.toArray _=Data.dict es ep:=d
     cases d'
    ·subst e'
     rw [hT] at e;cases e
     cases d
  have nsK:∀ {b:Addr}{m:Str→Option Value},s₁.heap.Ns b m→(aBq s₁.heap H).Ns b m:=fun {b m} ⟨o,es,ep,e,d,r⟩=>⟨o,es,ep,base_of e (noA e d),d,r⟩
  have hKb:K.In (aBq s₁.heap H):=fun b o e=>base_of (KX b o e) (by
   cases q:H b with
   | none=>rfl
   | some u=>
    rcases hA b (by rw [q];simp) with e' | e'
    ·subst e'
     rw [hK (by rw [q];simp)] at e;cases e
    ·subst e'
     rw [TK.none] at e;cases e)
  have hB':(aBq s₁.heap H).BuiltinsAt mg T:=by
   obtain ⟨bm,ob,b1,b2,b3,b4,b5,b6,b7⟩:=hB
   refine ⟨bm,ob,b1,b2,b3,b4,base_of b5 ?_,b6,b7⟩
   cases q:H bm with
   | none=>rfl
   | some u=>
    rcases hA bm (by rw [q];simp) with e' | e'
    ·rw [e',ha] at b5
     cases b5
     exact absurd (Value.type.inj b6) (by decide)
    ·exact absurd e' b4
  have hM:Mod K mg (aBq s₁.heap H):=⟨hKb,nsK hns,⟨mb,nsK hb,hbb⟩,let ⟨mc,h1,h2⟩:=hlim; ⟨mc,nsK h1,h2⟩⟩
  have e0:aK4 P w K mg (aBq s₁.heap H) callerA [] s₁ H:=⟨rfl,hM,fun b o e=>aKF e,Nat.le_of_eq (aHI _ _),trivial,fun b hb=>absurd (show b∈([]:List Addr) from hb) (by simp),hok,.of_eq hg⟩
  refine codeAny_mono ((F _ hKb (nsK hns) hB').run callerA [] s₁ H ⟨[.ref a],[]⟩ [.ref a] [.ref a] _ _ hr e0 (hbind s₁ (.ref a)) (.cons rfl .nil) (hsp H hHT hS)) fun r s' h=>?_
  cases r with
  | error e=>exact (hCX H e s' h).elim
  | ok fl=>
   cases fl with
   | next=>exact False.elim h
   | brk=>exact False.elim h
   | cont=>exact False.elim h
   | ret u=>
    obtain ⟨v,H',os,bare,un,hok',r',q,qT⟩:=h
    subst q
    obtain rfl:u=Value.bool true:=r'
    refine ⟨rfl,⟨fun b o e=>?_,fun b o e=>un.there b o e (by simp)⟩,os,bare⟩
    cases q:H b with
    | none=>exact .inl (un.keep b o e q (by intro z;exact absurd (show b∈([]:List Addr) from z) (by simp)) (by simp))
    | some u=>
     rcases hO b with z | ⟨ob,xs,z⟩ | z
     ·rw [q] at z;cases z
     ·have z2:=un.frzs b ob _ z
      obtain ⟨e1,_⟩:=hok b _ z
      obtain ⟨e2,_⟩:=hok' b _ z2
      rw [e] at e1;cases e1
      exact .inl e2
     ·subst z
      rw [hT] at e
      cases e
      obtain ⟨ps,e2,_⟩:=hok' b _ qT
      exact .inr (.inl ⟨ct,rfl, #[],ps,rfl,by rw [e2];simp⟩)
 have tabOk:∀ H:Hp,iZ P w H s₁.heap T (.tab ln cl qn):=fun H=>⟨#[],hT,.inl rfl⟩
 cases hk:K.lookup a with
 | some o=>
  have e:=KX a o hk
  rw [ha] at e
  cases e
  refine core (fun b=>if b=T then some (.tab ln cl qn) else none) (fun b=>?_) (if_pos rfl) (.inr ⟨_,vs.toArray,_,hk,rfl,rfl,rfl,by rw [List.size_toArray,lenV];exact hl,by simpa using rv⟩) (fun b u z=>?_) (fun b z=>?_) fun z=>absurd (if_neg aT) z
  ·by_cases hb:b=T
   ·exact .inr (.inr hb)
   ·exact .inl (if_neg hb)
  ·by_cases hb:b=T
   ·have z':=(if_pos hb).symm.trans z
    cases z'
    subst hb
    exact tabOk _
   ·have z':=(if_neg hb).symm.trans z
    cases z'
  ·by_cases hb:b=T
   ·exact .inr hb
   ·exact absurd (if_neg hb) z
 | none=>
  refine core (fun b=>if b=a then some (.frz { cls:=.type "list",data:=.seq vs.toArray } (.lst (ns.map V.int))) else if b=T then some (.tab ln cl qn) else none) (fun b=>?_) (by show (if T=a then _ else if T=T then _ else none)=_;rw [if_neg (Ne.symm aT),if_pos rfl]) (.inl (.inr ⟨{ cls:=.type "list",data:=.seq vs.toArray },if_pos rfl⟩)) (fun b u z=>?_) (fun b z=>?_) fun _=>hk
  ·by_cases hb:b=a
   ·exact .inr (.inl ⟨_,_,if_pos hb⟩)
   ·by_cases hb2:b=T
    ·exact .inr (.inr hb2)
    ·exact .inl (by show (if b=a then _ else if b=T then _ else none)=none;rw [if_neg hb,if_neg hb2])
  ·by_cases hb:b=a
   ·have z':=(if_pos hb).symm.trans z
    cases z'
    subst hb
    exact ⟨ha,by rw [List.length_map];exact hl,vs,_,rv,ha⟩
   ·by_cases hb2:b=T
    ·have z':some (HO.tab ln cl qn)=some u:=by
      simp only [if_neg hb,if_pos hb2] at z
      exact z
     cases z'
     subst hb2
     exact tabOk _
    ·simp only [if_neg hb,if_neg hb2] at z
     cases z
  ·by_cases hb:b=a
   ·exact .inl hb
   ·by_cases hb2:b=T
    ·exact .inr hb2
    ·exact absurd (by show (if b=a then _ else if b=T then _ else none)=none;rw [if_neg hb,if_neg hb2]) z
theorem aJD {l:PySem.W.OpenLaw}{n k:Nat}{q:Program}{loose:List Str}{XP:(Str→Option Value)→Heap→Prop}{YP:World→Heap→Prop}{d:DefRec}{K:Params→PySem.W.Frag}{CX:CXT}{sp:PySem.W.Frag→Sp}{x:Str}{hf c T:Addr}{ln cl:Value}{qn:Str}
  (hn:l.most=some n) (hn2:n≤sizeLine) (hdf:d.params.defaults=[]) (hr:cE k callerA)
  (hY:∀ (w:World) (h:Heap),YP w h→(K w.params).In h) (hYT:∀ (w:World) (h:Heap),YP w h→h.get? T=some (PySem.W.tabObj #[]))
  (F:∀ (w:World) (mg:Str→Option Value) (fa:Addr) (h:Heap),(K w.params).In h→h.Ns mainGlobals mg→mg d.name=some (.ref fa) →
   aDe (K w.params) mg hf c T ln cl qn∧∃ fd:FuncData,(∀ (s:Shared) (u:Value),BindsTo s fd ⟨[u],[]⟩ [(x,u)]) ∧
    ∀ base:Heap,(K w.params).In base→base.Ns mainGlobals mg→base.BuiltinsAt mg T→vY l.prog w (K w.params) mg base CX k fa fd [x] (sp (K w.params)))
  (hsp:∀ (K:PySem.W.Frag) (H:Hp) (a:Addr) (ns:List Int),ns.length≤n→aAQ K=some (T,ln,cl,qn)→H T=some (.tab ln cl qn)→lI K H a (ns.map V.int)→sp K [.ref a] H (fun v H'=>v = .bl true∧H' T=some (.tab ln cl qn)) fun _ _ _=>False)
  (hCX:∀ (H:Hp) (s:Shared) (e:Value) (s':Shared),CX [] H s (fun _ _ _=>False) e s'→False) :
  PySem.W.WalkO q loose XP YP l.row.toRowW d [] (fun f vs=>PySem.call f vs):=by
 refine Att.attach_call hn hdf fun w s₀ s₁ mg mb fa o pm cd doc a vs ns G Y ho hd hcd hmg hobj hints hlen hg=>?_
 have KX:=hY w _ Y
 obtain ⟨TK,fd,hb,hF⟩:=F w mg fa _ KX G.T.g hmg
 have hB:s₁.heap.BuiltinsAt mg T:=by
  obtain ⟨bm,ob,b1,b2,b3,b4,b5,b6⟩:=G.T.bmain
  have hP:=hYT w _ Y
  refine ⟨bm,ob,b1,b2,fun z=>?_,fun z=>?_,b3,b4,b5,b6⟩
  ·obtain ⟨o,es,ep,e,hd,_⟩:=G.T.g
   rw [z,e] at b3;cases b3;rw [hd] at b6;cases b6
  ·rw [z,hP] at b3;cases b3;cases b4
 exact aG8 KX G.T.g G.T.b G.T.builtins G.T.nolimit hg hobj hints (Nat.le_trans hlen hn2) hr TK (hYT w _ Y) hB hF hb (fun H hH hS=>hsp (K w.params) H a ns hlen TK.tab hH hS) fun H e s'=>hCX H s₁ e s'
theorem aOz {P:Program}{w:World}{K:PySem.W.Frag}{mg:Str→Option Value}{base:Heap}{x qual:Str}{st:Stmt}{f c T:Addr}{ln cl:Value}{qn:Str}{fd:FuncData}{N ps:List Str}{k:Nat}{F:List D→Option D}{g:GS} (Fn:Fun K x qual st f fd) (S:bA N ps (aD st)) (TK:aDe K mg f c T ln cl qn) (hM:K.In base) (hB:base.BuiltinsAt mg T)
  (hl:∀ ds d,F ds=some d→ds.length=ps.length)
  (hb:∀ (A:Around) (outer:List Env) (s:Shared) (H:Hp) (E:XK),cE k (A.deeper (envOfC qual (aD st) s.heap.objs.size f (.ref c)))→aBO (dZ kL P w K mg base N qual (aD st) f (.ref c) A outer s H E).nox c T→j2 (dZ kL P w K mg base N qual (aD st) f (.ref c) A outer s H E).nox (aS st) g)
  (hv:∀ ds d,F ds=some d→g { nx:=fun _=>d = .non,rt:=fun r=>r=d } (bH N ds)) (hm:mg x=some (.ref f)) (bi:qC K fd ps []):eV P w K mg base (k+1) x F:=by
 obtain ⟨oc,od,kV,doc,pm,an,cdv,ct,osl,rfl,lk,hcd⟩:=Fn.ex
 have e:cdv = .ref c:=TK.code _ _ lk rfl
 subst e
 refine ⟨f,_,ps,aJ4 lk hcd S (fun vs H Q E h=>?_) (fun A outer s H vs Q E hr h=>?_),hm,Fn.kp,bi⟩
 ·obtain ⟨C,ds,d,_,_,n,e,_⟩:=h
  rw [n.length]
  exact hl ds d e
 ·obtain ⟨C,ds,d,ch,tb,n,e,q⟩:=h
  obtain ⟨t,p,h⟩:=hb A outer s H E hr (TK.lam (X:=(dZ kL P w K mg base N qual (aD st) f (.ref c) A outer s H E).nox) hM hB rfl)
  refine ⟨t,p.nox,h C H (bH N ds) (mH N vs) C H _ _ (qI ch tb n) (hv ds d e) ⟨fun δ σ C' H' rp z=>?_,fun r v C' H' ex nv z=>?_,fun _ _ _ _ _ z=>z.elim,fun _ _ _ _ _ z=>z.elim⟩⟩
  ·subst z
   exact q _ C' H' rp.ext (fD.mpr rfl)
  ·subst z
   exact q v C' H' ex nv
theorem uB:∀ ds d,eW ds=some d→ds.length=(["one","other"]:List Str).length:=by simp_all_arith! [eW]
theorem aD4:∀ ds d,iU ds=some d→ds.length=(["one","other"]:List Str).length:=by simp_all_arith! [iU]
theorem aEr:∀ ds d,lV ds=some d→ds.length=(["deeds"]:List Str).length:=by simp_all_arith! [lV]
theorem aDg:∀ ds d,eY ds=some d→ds.length=(["row","deeds"]:List Str).length:=by simp_all_arith! [eY]
theorem aBs:∀ ds d,eI ds=some d→ds.length=(["row","hand","deed"]:List Str).length:=by simp_all_arith! [eI]
theorem yZ:∀ ds d,dJ ds=some d→ds.length=(["row","deeds"]:List Str).length:=by simp_all_arith! [dJ]
theorem v6:∀ ds d,bT ds=some d→ds.length=(["pay","later","patience"]:List Str).length:=by simp_all_arith! [bT]
theorem aDY:∀ ds d,h9 ds=some d→ds.length=(["pays","patience"]:List Str).length:=by simp_all_arith! [h9]
theorem uI:∀ ds d,dA ds=some d→ds.length=(["told","hand"]:List Str).length:=by simp_all_arith! [dA]
theorem aBA:∀ ds d,eG ds=some d→ds.length=(["_law_script","_law_k"]:List Str).length:=by simp_all_arith! [eG]
theorem aCI:∀ ds d,d7 ds=some d→ds.length=(["_law_cell_here","_law_prime","_law_many"]:List Str).length:=by simp_all_arith! [d7]
theorem aBu:∀ ds d,cF ds=some d→ds.length=(["_law_deeds_here"]:List Str).length:=by simp_all_arith! [cF]
theorem vH:∀ ds d,eC ds=some d→ds.length=(["_law_upper","_law_lower"]:List Str).length:=by simp_all_arith! [eC]
theorem aBr:∀ ds d,iF ds=some d→ds.length=(["_law_one","_law_other"]:List Str).length:=by simp_all_arith! [iF]
theorem aAK:∀ ds d,eZ ds=some d→ds.length=(["_law_row","_law_hand","_law_deed"]:List Str).length:=by simp_all_arith! [eZ]
theorem aFc:∀ ds d,mV ds=some d→ds.length=(["upper","lower"]:List Str).length:=by simp_all_arith! [mV]
theorem aCq:∀ ds d,iO ds=some d→ds.length=(["meeting"]:List Str).length:=by simp_all_arith! [iO]
theorem aJd:∀ ds d,jC ds=some d→ds.length=(["meeting","row"]:List Str).length:=by simp_all_arith! [jC]
theorem wP:∀ ds d,dM ds=some d→ds.length=(["meeting","plan","state","row"]:List Str).length:=by simp_all_arith! [dM]
theorem xI:∀ ds d,cB ds=some d→ds.length=(["_law_cell_here"]:List Str).length:=by simp_all_arith! [cB]
theorem wE:∀ ds d,eD ds=some d→ds.length=(["_law_cell_here"]:List Str).length:=by simp_all_arith! [eD]
theorem aAD:∀ ds d,gR ds=some d→ds.length=(["_law_pay","_law_worth","_law_patience_here"]:List Str).length:=by simp_all_arith! [gR]
theorem aBi:∀ ds d,cG ds=some d→ds.length=(["_law_meeting_here","_law_row"]:List Str).length:=by simp_all_arith! [cG]
theorem yV:∀ ds d,gW ds=some d→ds.length=(["_law_meeting_here","_law_row","_law_threats"]:List Str).length:=by simp_all_arith! [gW]
theorem aEc:∀ ds d,jT ds=some d→ds.length=(["meeting","rows","hand"]:List Str).length:=by simp_all_arith! [jT]
theorem vV:∀ ds d,cL ds=some d→ds.length=(["before","again","patience"]:List Str).length:=by simp_all_arith! [cL]
theorem aBz:∀ ds d,gN ds=some d→ds.length=(["meeting","row","onward","threatening"]:List Str).length:=by simp_all_arith! [gN]
theorem tI:∀ ds d,bY ds=some d→ds.length=(["meeting","threats"]:List Str).length:=by simp_all_arith! [bY]
theorem rY:∀ ds d,b8 ds=some d→ds.length=(["meeting","row","after","patience"]:List Str).length:=by simp_all_arith! [b8]
theorem yY:∀ ds d,fU ds=some d→ds.length=(["meeting","plan","state","hand","own","patience"]:List Str).length:=by simp_all_arith! [fU]
theorem aAY:∀ ds d,d6 ds=some d→ds.length=(["_law_meeting_here","_law_row","_law_floor","_law_patience_here"]:List Str).length:=by simp_all_arith! [d6]
theorem aCv:∀ ds d,jJ ds=some d→ds.length=(["meeting","rows","over","patience"]:List Str).length:=by simp_all_arith! [jJ]
theorem w6:∀ ds d,d8 ds=some d→ds.length=(["meeting","path","threats"]:List Str).length:=by simp_all_arith! [d8]
theorem xA:∀ ds d,e7 ds=some d→ds.length=(["meeting","plan","hand","own","patience"]:List Str).length:=by simp_all_arith! [e7]
theorem aBh:∀ ds d,fO ds=some d→ds.length=(["_law_meeting_here","_law_patience_here"]:List Str).length:=by simp_all_arith! [fO]
theorem zD:∀ ds d,fV ds=some d→ds.length=(["meeting","plan","start","patience"]:List Str).length:=by simp_all_arith! [fV]
theorem aFU:∀ ds d,mK ds=some d→ds.length=(["meeting","row","threats"]:List Str).length:=by simp_all_arith! [mK]
theorem y4:∀ ds d,fQ ds=some d→ds.length=(["meeting","rows","hand"]:List Str).length:=by simp_all_arith! [fQ]
theorem aFR:∀ ds d,mW ds=some d→ds.length=(["meeting","plan","patience"]:List Str).length:=by simp_all_arith! [mW]
theorem v0:∀ ds d,cV ds=some d→ds.length=(["meeting","rows"]:List Str).length:=by simp_all_arith! [cV]
theorem vB:∀ ds d,dQ ds=some d→ds.length=(["meeting","rows","patience"]:List Str).length:=by simp_all_arith! [dQ]
theorem aJu:∀ ds d,sE ds=some d→ds.length=(["meeting","plan","patience"]:List Str).length:=by simp_all_arith! [sE]
theorem aIJ:∀ ds d,lH ds=some d→ds.length=(["meeting","patience"]:List Str).length:=by simp_all_arith! [lH]
theorem aHO:∀ ds d,o6 ds=some d→ds.length=(["meeting","plan","patience"]:List Str).length:=by simp_all_arith! [o6]
theorem aEo:∀ ds d,iT ds=some d→ds.length=(["meeting","patience"]:List Str).length:=by simp_all_arith! [iT]
theorem aFG:∀ ds d,j3 ds=some d→ds.length=(["meeting","patience"]:List Str).length:=by simp_all_arith! [j3]
theorem aDI:∀ ds d,lM ds=some d→ds.length=(["meeting","row","patience"]:List Str).length:=by simp_all_arith! [lM]
theorem aBk:∀ ds d,bO ds=some d→ds.length=(["_law_way","_law_meeting_here","_law_row","_law_patience_here"]:List Str).length:=by simp_all_arith! [bO]
theorem aLg:∀ ds d,yK ds=some d→ds.length=(["_law_script"]:List Str).length:=by simp_all_arith! [yK]
theorem aIQ {P:Program}{w:World}{K:PySem.W.Frag}{mg:Str→Option Value}{base:Heap}{f:Addr}{fd:FuncData} (T:mT K mg) {c T0:Addr} (TK:∀ f,mg "hardest_for"=some (.ref f)→aDe K mg f c T0 (rawInt 128) (rawInt 25) (("hardest_for":Str)++".<locals>."++"<lambda>")) (hKb:K.In base) (hB:base.BuiltinsAt mg T0) (H_common_divisor:aO K mg "common_divisor" eX ["one","other"]) (H_is_less:aO K mg "is_less" lQ ["one","other"]) (H_rows_of:aO K mg "rows_of" lL ["deeds"]) (H_place_of:aO K mg "place_of" kI ["row","deeds"]) (H_with_deed:aO K mg "with_deed" jF ["row","hand","deed"]) (H_strays_from:aO K mg "strays_from" fY ["row","deeds"]) (H_now_and_later:aO K mg "now_and_later" fF ["pay","later","patience"]) (H_weighed:aO K mg "weighed" lX ["pays","patience"]) (H_worths_of_hand:aO K mg "worths_of_hand" dU ["told","hand"]) (H__law_cell:aO K mg "_law_cell" jB ["_law_script","_law_k"]) (H__law_mix:aO K mg "_law_mix" kN ["_law_cell_here","_law_prime","_law_many"]) (H__law_rows:aO K mg "_law_rows" iD ["_law_deeds_here"]) (H__law_fraction:aO K mg "_law_fraction" fH ["_law_upper","_law_lower"]) (H__law_more:aO K mg "_law_more" jD ["_law_one","_law_other"]) (H__law_stray:aO K mg "_law_stray" iK ["_law_row","_law_hand","_law_deed"]) (H_lowest:aO K mg "lowest" nW ["upper","lower"]) (H_all_rows:aO K mg "all_rows" kT ["meeting"]) (H_paid:aO K mg "paid" uA ["meeting","row"]) (H_state_behind:aO K mg "state_behind" gB ["meeting","plan","state","row"]) (H__law_meeting:aO K mg "_law_meeting" dL ["_law_cell_here"]) (H__law_patience:aO K mg "_law_patience" fG ["_law_cell_here"]) (H__law_later:aO K mg "_law_later" iH ["_law_pay","_law_worth","_law_patience_here"]) (H__law_paid:aO K mg "_law_paid" jI ["_law_meeting_here","_law_row"]) (H__law_steady:aO K mg "_law_steady" fW ["_law_meeting_here","_law_row","_law_threats"]) (H_pays_of:aO K mg "pays_of" kU ["meeting","rows","hand"]) (H_worth_of_pays:aO K mg "worth_of_pays" fE ["before","again","patience"]) (H_answering:aO K mg "answering" iB ["meeting","row","onward","threatening"]) (H_threatened_pays:aO K mg "threatened_pays" dF ["meeting","threats"]) (H_stray_that_gains:aO K mg "stray_that_gains" dS ["meeting","row","after","patience"]) (H_better_deed:aO K mg "better_deed" gZ ["meeting","plan","state","hand","own","patience"]) (H__law_deeds:aO K mg "_law_deeds" iL ["_law_meeting_here","_law_row","_law_floor","_law_patience_here"]) (H_worth_of:aO K mg "worth_of" kK ["meeting","rows","over","patience"]) (H_with_threats:aO K mg "with_threats" d5 ["meeting","path","threats"]) (H_better_deeds:aO K mg "better_deeds" e8 ["meeting","plan","hand","own","patience"]) (H__law_kept:aO K mg "_law_kept" iC ["_law_meeting_here","_law_patience_here"]) (H_worths_from:aO K mg "worths_from" fP ["meeting","plan","start","patience"]) (H_steady:aO K mg "steady" oH ["meeting","row","threats"]) (H_hardest_for:aO K mg "hardest_for" cN ["meeting","rows","hand"]) (H_worths:aO K mg "worths" mX ["meeting","plan","patience"]) (H_hardest_among:aO K mg "hardest_among" eF ["meeting","rows"]) (H_holding_among:aO K mg "holding_among" eB ["meeting","rows","patience"]) (H_gain:aO K mg "gain" uU ["meeting","plan","patience"]) (H_kept:aO K mg "kept" u0 ["meeting","patience"]) (H_holds:aO K mg "holds" rA ["meeting","plan","patience"]) (H_hardest:aO K mg "hardest" lN ["meeting","patience"]) (H_floors:aO K mg "floors" oM ["meeting","patience"]) (H_why_not:aO K mg "why_not" lP ["meeting","row","patience"]) (H__law_told:aO K mg "_law_told" jG ["_law_way","_law_meeting_here","_law_row","_law_patience_here"]) (FL:Fun K "law" "law" nV f fd):vY P w K mg base kL 13 f fd ["_law_script"] (spR K yK):=by
 have h_common_divisor:eV P w K mg base 1 "common_divisor" eW:=by
  obtain ⟨f,fd,Fn,hm,bi⟩:=H_common_divisor
  exact p5 Fn fA uB (fun cdv A outer s H E hr=>tM T  hr) vI hm bi
 have h_is_less:eV P w K mg base 1 "is_less" iU:=by
  obtain ⟨f,fd,Fn,hm,bi⟩:=H_is_less
  exact p5 Fn aFh aD4 (fun cdv A outer s H E hr=>aC7 T  hr) aFH hm bi
 have h_rows_of:eV P w K mg base 1 "rows_of" lV:=by
  obtain ⟨f,fd,Fn,hm,bi⟩:=H_rows_of
  exact p5 Fn kP aEr (fun cdv A outer s H E hr=>aC6 T  hr) aFi hm bi
 have h_place_of:eV P w K mg base 1 "place_of" eY:=by
  obtain ⟨f,fd,Fn,hm,bi⟩:=H_place_of
  exact p5 Fn mL aDg (fun cdv A outer s H E hr=>aBn T  hr) aDA hm bi
 have h_with_deed:eV P w K mg base 1 "with_deed" eI:=by
  obtain ⟨f,fd,Fn,hm,bi⟩:=H_with_deed
  exact p5 Fn aCL aBs (fun cdv A outer s H E hr=>aA5 T  hr) aDi hm bi
 have h_strays_from:eV P w K mg base 1 "strays_from" dJ:=by
  obtain ⟨f,fd,Fn,hm,bi⟩:=H_strays_from
  exact p5 Fn i8 yZ (fun cdv A outer s H E hr=>xJ T  hr) aAz hm bi
 have h_now_and_later:eV P w K mg base 1 "now_and_later" bT:=by
  obtain ⟨f,fd,Fn,hm,bi⟩:=H_now_and_later
  exact p5 Fn qF v6 (fun cdv A outer s H E hr=>uC T  hr) xR hm bi
 have h_weighed:eV P w K mg base 1 "weighed" h9:=by
  obtain ⟨f,fd,Fn,hm,bi⟩:=H_weighed
  exact p5 Fn lW aDY (fun cdv A outer s H E hr=>aDf T  hr) aFB hm bi
 have h_worths_of_hand:eV P w K mg base 1 "worths_of_hand" dA:=by
  obtain ⟨f,fd,Fn,hm,bi⟩:=H_worths_of_hand
  exact p5 Fn u9 uI (fun cdv A outer s H E hr=>tN T  hr) wH hm bi
 have h__law_cell:eV P w K mg base 1 "_law_cell" eG:=by
  obtain ⟨f,fd,Fn,hm,bi⟩:=H__law_cell
  exact p5 Fn aCE aBA (fun cdv A outer s H E hr=>aAO T  hr) aDb hm bi
 have h__law_mix:eV P w K mg base 1 "_law_mix" d7:=by
  obtain ⟨f,fd,Fn,hm,bi⟩:=H__law_mix
  exact p5 Fn aEx aCI (fun cdv A outer s H E hr=>aBI T  hr) aEY hm bi
 have h__law_rows:eV P w K mg base 1 "_law_rows" cF:=by
  obtain ⟨f,fd,Fn,hm,bi⟩:=H__law_rows
  exact p5 Fn jO aBu (fun cdv A outer s H E hr=>aAa T  hr) aCO hm bi
 have h__law_fraction:eV P w K mg base 1 "_law_fraction" eC:=by
  obtain ⟨f,fd,Fn,hm,bi⟩:=H__law_fraction
  exact p5 Fn fZ vH (fun cdv A outer s H E hr=>uG T  hr) xH hm bi
 have h__law_more:eV P w K mg base 1 "_law_more" iF:=by
  obtain ⟨f,fd,Fn,hm,bi⟩:=H__law_more
  exact p5 Fn aCP aBr (fun cdv A outer s H E hr=>zY T  hr) aC1 hm bi
 have h__law_stray:eV P w K mg base 1 "_law_stray" eZ:=by
  obtain ⟨f,fd,Fn,hm,bi⟩:=H__law_stray
  exact p5 Fn aBo aAK (fun cdv A outer s H E hr=>zA T  hr) aBy hm bi
 have h_lowest:eV P w K mg base 2 "lowest" mV:=by
  obtain ⟨f,fd,Fn,hm,bi⟩:=H_lowest
  exact p5 Fn xC aFc (fun cdv A outer s H E hr=>aEu T h_common_divisor hr) aHP hm bi
 have h_all_rows:eV P w K mg base 2 "all_rows" iO:=by
  obtain ⟨f,fd,Fn,hm,bi⟩:=H_all_rows
  exact p5 Fn aDW aCq (fun cdv A outer s H E hr=>aBB T h_rows_of hr) aDz hm bi
 have h_paid:eV P w K mg base 2 "paid" jC:=by
  obtain ⟨f,fd,Fn,hm,bi⟩:=H_paid
  exact p5 Fn aKj aJd (fun cdv A outer s H E hr=>aH7 T h_place_of hr) aKl hm bi
 have h_state_behind:eV P w K mg base 2 "state_behind" dM:=by
  obtain ⟨f,fd,Fn,hm,bi⟩:=H_state_behind
  exact p5 Fn yR wP (fun cdv A outer s H E hr=>vW T h_place_of hr) y9 hm bi
 have h__law_meeting:aEz P w K mg base 2 "_law_meeting" cB:=by
  obtain ⟨f,fd,Fn,hm,bi⟩:=H__law_meeting
  exact fnR Fn cW xI (fun cdv A outer s H E hr=>u4 T h__law_mix h__law_rows hr) zC hm bi
 have h__law_patience:eV P w K mg base 2 "_law_patience" eD:=by
  obtain ⟨f,fd,Fn,hm,bi⟩:=H__law_patience
  exact p5 Fn eU wE (fun cdv A outer s H E hr=>u3 T h__law_mix hr) xP hm bi
 have h__law_later:eV P w K mg base 2 "_law_later" gR:=by
  obtain ⟨f,fd,Fn,hm,bi⟩:=H__law_later
  exact p5 Fn pF aAD (fun cdv A outer s H E hr=>yS T h__law_fraction hr) aBl hm bi
 have h__law_paid:eV P w K mg base 2 "_law_paid" cG:=by
  obtain ⟨f,fd,Fn,hm,bi⟩:=H__law_paid
  exact p5 Fn aCV aBi (fun cdv A outer s H E hr=>aAM T h__law_rows hr) aDh hm bi
 have h__law_steady:eV P w K mg base 2 "_law_steady" gW:=by
  obtain ⟨f,fd,Fn,hm,bi⟩:=H__law_steady
  exact p5 Fn gE yV (fun cdv A outer s H E hr=>wW T h__law_rows hr) aAR hm bi
 have h_pays_of:eV P w K mg base 3 "pays_of" jT:=by
  obtain ⟨f,fd,Fn,hm,bi⟩:=H_pays_of
  exact p5 Fn aE5 aEc (fun cdv A outer s H E hr=>aCW T h_paid hr) aFQ hm bi
 have h_worth_of_pays:eV P w K mg base 3 "worth_of_pays" cL:=by
  obtain ⟨f,fd,Fn,hm,bi⟩:=H_worth_of_pays
  exact p5 Fn jQ vV (fun cdv A outer s H E hr=>uJ T h_weighed h_now_and_later h_lowest hr) xS hm bi
 have h_answering:eV P w K mg base 3 "answering" gN:=by
  obtain ⟨f,fd,Fn,hm,bi⟩:=H_answering
  exact p5 Fn nQ aBz (fun cdv A outer s H E hr=>aAk T h_all_rows hr) aDk hm bi
 have h_threatened_pays:eV P w K mg base 3 "threatened_pays" bY:=by
  obtain ⟨f,fd,Fn,hm,bi⟩:=H_threatened_pays
  exact p5 Fn uQ tI (fun cdv A outer s H E hr=>sD T h_paid hr) uF hm bi
 have h_stray_that_gains:eV P w K mg base 3 "stray_that_gains" b8:=by
  obtain ⟨f,fd,Fn,hm,bi⟩:=H_stray_that_gains
  exact p5 Fn fJ rY (fun cdv A outer s H E hr=>rP T h_paid h_with_deed h_now_and_later h_is_less h_strays_from hr) tK hm bi
 have h_better_deed:eV P w K mg base 3 "better_deed" fU:=by
  obtain ⟨f,fd,Fn,hm,bi⟩:=H_better_deed
  exact p5 Fn dI yY (fun cdv A outer s H E hr=>xM T h_with_deed h_state_behind h_paid h_now_and_later h_is_less hr) aAg hm bi
 have h__law_deeds:eV P w K mg base 3 "_law_deeds" d6:=by
  obtain ⟨f,fd,Fn,hm,bi⟩:=H__law_deeds
  exact p5 Fn gY aAY (fun cdv A outer s H E hr=>yW T h__law_stray h__law_paid h__law_later h__law_more hr) aBv hm bi
 have h_worth_of:eV P w K mg base 4 "worth_of" jJ:=by
  obtain ⟨f,fd,Fn,hm,bi⟩:=H_worth_of
  exact p5 Fn mO aCv (fun cdv A outer s H E hr=>aBw T h_pays_of h_worth_of_pays hr) aDV hm bi
 have h_with_threats:eV P w K mg base 4 "with_threats" d8:=by
  obtain ⟨f,fd,Fn,hm,bi⟩:=H_with_threats
  exact p5 Fn kE w6 (fun cdv A outer s H E hr=>u6 T h_answering hr) y6 hm bi
 have h_better_deeds:eV P w K mg base 4 "better_deeds" e7:=by
  obtain ⟨f,fd,Fn,hm,bi⟩:=H_better_deeds
  exact p5 Fn zE xA (fun cdv A outer s H E hr=>v8 T h_better_deed hr) yT hm bi
 have h__law_kept:eV P w K mg base 4 "_law_kept" fO:=by
  obtain ⟨f,fd,Fn,hm,bi⟩:=H__law_kept
  exact p5 Fn fM aBh (fun cdv A outer s H E hr=>aAb T h__law_rows h__law_paid h__law_deeds hr) aC3 hm bi
 have h_worths_from:eV P w K mg base 5 "worths_from" fV:=by
  obtain ⟨f,fd,Fn,hm,bi⟩:=H_worths_from
  exact p5 Fn i9 zD (fun cdv A outer s H E hr=>wX T h_state_behind h_worth_of hr) aBd hm bi
 have h_steady:eV P w K mg base 5 "steady" mK:=by
  obtain ⟨f,fd,Fn,hm,bi⟩:=H_steady
  exact p5 Fn aH1 aFU (fun cdv A outer s H E hr=>aDM T h_with_threats hr) aIa hm bi
 have h_hardest_for:eV P w K mg base 5 "hardest_for" fQ:=by
  obtain ⟨f,fd,Fn,hm,bi⟩:=H_hardest_for
  exact aOz Fn aAx (TK _ hm) hKb hB y4 (fun A outer s H E hr LK=>wY T h_paid (TK _ hm).tab hr LK) aAT hm bi
 have h_worths:eV P w K mg base 6 "worths" mW:=by
  obtain ⟨f,fd,Fn,hm,bi⟩:=H_worths
  exact p5 Fn aHw aFR (fun cdv A outer s H E hr=>aEW T h_worths_from hr) aHt hm bi
 have h_hardest_among:eV P w K mg base 6 "hardest_among" cV:=by
  obtain ⟨f,fd,Fn,hm,bi⟩:=H_hardest_among
  exact p5 Fn wO v0 (fun cdv A outer s H E hr=>uX T h_hardest_for hr) xG hm bi
 have h_holding_among:eV P w K mg base 7 "holding_among" dQ:=by
  obtain ⟨f,fd,Fn,hm,bi⟩:=H_holding_among
  exact p5 Fn p9 vB (fun cdv A outer s H E hr=>uV T h_hardest_among h_threatened_pays h_stray_that_gains hr) wR hm bi
 have h_gain:aEz P w K mg base 7 "gain" sE:=by
  obtain ⟨f,fd,Fn,hm,bi⟩:=H_gain
  exact fnR Fn sZ aJu (fun cdv A outer s H E hr=>aHJ T h_worths h_worths_of_hand h_better_deeds hr) aLj hm bi
 have h_kept:eV P w K mg base 8 "kept" lH:=by
  obtain ⟨f,fd,Fn,hm,bi⟩:=H_kept
  exact p5 Fn wG aIJ (fun cdv A outer s H E hr=>aHc T h_all_rows h_holding_among hr) aKP hm bi
 have h_holds:eV P w K mg base 8 "holds" o6:=by
  obtain ⟨f,fd,Fn,hm,bi⟩:=H_holds
  exact p5 Fn aIL aHO (fun cdv A outer s H E hr=>aFN T h_gain hr) aJO hm bi
 have h_hardest:aBC P w K mg base 9 "hardest" iT:=by
  obtain ⟨f,fd,Fn,hm,bi⟩:=H_hardest
  exact fnX Fn aBf aEo (fun cdv A outer s H E hr=>aC9 T h_kept h_hardest_among hr) aF1 hm bi
 have h_floors:aBC P w K mg base 10 "floors" j3:=by
  obtain ⟨f,fd,Fn,hm,bi⟩:=H_floors
  exact fnX Fn aHl aFG (fun cdv A outer s H E hr=>aD7 T h_threatened_pays h_hardest hr) aHg hm bi
 have h_why_not:aBC P w K mg base 11 "why_not" lM:=by
  obtain ⟨f,fd,Fn,hm,bi⟩:=H_why_not
  exact fnX Fn aFf aDI (fun cdv A outer s H E hr=>aCF T h_stray_that_gains h_floors hr) aFo hm bi
 have h__law_told:aEz P w K mg base 12 "_law_told" bO:=by
  obtain ⟨f,fd,Fn,hm,bi⟩:=H__law_told
  exact fnR Fn iM aBk (fun cdv A outer s H E hr=>aBe T h_floors h_hardest h_why_not hr) aDa hm bi
 exact aOG FL kR aLg (fun cdv A outer s H E hr=>aIF T h__law_cell h__law_meeting h__law_patience h__law_kept h_kept h__law_told h__law_paid h_steady h__law_steady h_holds h__law_deeds h__law_rows hr) aLQ
theorem aIG {l:PySem.W.OpenLaw}{q:Program}{loose:List Str}{XP:(Str→Option Value)→Heap→Prop}{YP:World→Heap→Prop}{d:DefRec}{K:Params→PySem.W.Frag}{hf c T0:Addr} (hn:l.most=some 63) (hdf:d.params.defaults=[]) (hY:∀ (w:World) (h:Heap),YP w h→(K w.params).In h) (hYT:∀ (w:World) (h:Heap),YP w h→h.get? T0=some (PySem.W.tabObj #[]))
  (F:∀ (w:World) (mg:Str→Option Value) (fa:Addr) (h:Heap),(K w.params).In h→h.Ns mainGlobals mg→mg d.name=some (.ref fa) →
   aDe (K w.params) mg hf c T0 (rawInt 128) (rawInt 25) (("hardest_for":Str)++".<locals>."++"<lambda>")∧∃ fd:FuncData,(∀ (s:Shared) (u:Value),BindsTo s fd ⟨[u],[]⟩ [("_law_script",u)])∧∀ base:Heap,(K w.params).In base→base.Ns mainGlobals mg→base.BuiltinsAt mg T0→vY l.prog w (K w.params) mg base kL 13 fa fd ["_law_script"] (spR (K w.params) yK)) :
  PySem.W.WalkO q loose XP YP l.row.toRowW d [] (fun f vs=>PySem.call f vs):=
 aJD (n:=63) (k:=13) (x:="_law_script") (CX:=kL) (sp:=fun K=>spR K yK) hn (by decide) hdf ⟨rfl,by decide,by decide⟩ hY hYT F (fun K H a ns _ ht hH hS=>⟨H,[.lst (ns.map D.int)],fun d=>d = .bl true,cX.refl _,fun P l c q z=>(by rw [ht] at z;cases z;exact hH),.cons (cT.mpr ⟨a,ns.map V.int,rfl,hS,aB0 ns⟩) .nil,by simp [yK,h8],fun d v C' H' hd ex nv=>by subst hd;exact ⟨dX.mp nv,ex.hh _ _ hH⟩⟩) fun _ _ _ _ z=>z
theorem aMT {K:PySem.W.Frag}{mg:Str→Option Value}{h:Heap} (X:K.In h) (G:h.Ns mainGlobals mg) (z_ValueError:PySem.W.nsIn K mainGlobals "ValueError"=some none) (z_abs:PySem.W.nsIn K mainGlobals "abs"=some none) (z_enumerate:PySem.W.nsIn K mainGlobals "enumerate"=some none) (z_int:PySem.W.nsIn K mainGlobals "int"=some none) (z_isinstance:PySem.W.nsIn K mainGlobals "isinstance"=some none) (z_len:PySem.W.nsIn K mainGlobals "len"=some none) (z_min:PySem.W.nsIn K mainGlobals "min"=some none) (z_range:PySem.W.nsIn K mainGlobals "range"=some none) (z_reversed:PySem.W.nsIn K mainGlobals "reversed"=some none) (z_sorted:PySem.W.nsIn K mainGlobals "sorted"=some none) (z_sum:PySem.W.nsIn K mainGlobals "sum"=some none) (z_tuple:PySem.W.nsIn K mainGlobals "tuple"=some none) (z_zip:PySem.W.nsIn K mainGlobals "zip"=some none) {C_NoPact:Addr} (c_NoPact:PySem.W.nsIn K mainGlobals "NoPact"=some (some (.ref C_NoPact))) {C_NoText:Addr} (c_NoText:PySem.W.nsIn K mainGlobals "NoText"=some (some (.ref C_NoText))) {C_PactError:Addr} (c_PactError:PySem.W.nsIn K mainGlobals "PactError"=some (some (.ref C_PactError))) (q_NoPact:PySem.W.excIn K C_NoPact [.type "ValueError",.type "Exception",.type "BaseException",.type "object"] "ValueError.__new__"=true) (m_NoPact_PactError:PySem.W.exmOne K (.ref C_NoPact) (.ref C_PactError)=some true) {ci_NoPact:_} (i0_NoPact:PySem.W.clsIn K C_NoPact=some ci_NoPact) (i1_NoPact:PySem.W.mroIn K C_NoPact (.type "object")=some true) (i2_NoPact:PySem.W.mroIn K C_NoPact (.type "BaseException")=some true) (i3_NoPact:PySem.W.findIn K (.ref C_NoPact) "__class__"=some (some (.builtin "object.__class__"))) (i4_NoPact:PySem.W.findIn K (.ref C_NoPact) "__getattribute__"=some (some (.builtin "BaseException.__getattribute__"))) (i5_NoPact:PySem.W.findIn K (.ref C_NoPact) "__getattr__"=some none) (i6_NoPact:PySem.W.kitOne K (.ref C_NoPact) (.ref C_NoPact)=some true) (i7_NoPact:PySem.W.kitOne K (.ref C_NoPact) (.ref C_NoText)=some false) (i8_NoPact:PySem.W.kitOne K (.ref C_NoPact) (.type "ValueError")=some true):mT K mg:=
 ⟨PySem.W.mg_none_of X G z_ValueError,PySem.W.mg_none_of X G z_abs,PySem.W.mg_none_of X G z_enumerate,PySem.W.mg_none_of X G z_int,PySem.W.mg_none_of X G z_isinstance,PySem.W.mg_none_of X G z_len,PySem.W.mg_none_of X G z_min,PySem.W.mg_none_of X G z_range,PySem.W.mg_none_of X G z_reversed,PySem.W.mg_none_of X G z_sorted,PySem.W.mg_none_of X G z_sum,PySem.W.mg_none_of X G z_tuple,PySem.W.mg_none_of X G z_zip,aLF X G c_NoPact q_NoPact,⟨.ref C_PactError,PySem.W.mg_of X G c_PactError,fun c cls hc hm=>by
  rcases hc with rfl
  ·rw [PySem.W.mg_of X G c_NoPact] at hm;cases hm;exact m_NoPact_PactError⟩,⟨C_NoPact,C_NoText,PySem.W.mg_of X G c_NoPact,PySem.W.mg_of X G c_NoText,⟨by rw [i0_NoPact];rfl,i1_NoPact,i2_NoPact,i3_NoPact,i4_NoPact,i5_NoPact⟩,i6_NoPact,i7_NoPact,i8_NoPact⟩⟩
theorem aMy {l:PySem.W.OpenLaw}{w:World}{K:PySem.W.Frag}{h:Heap}{mg:Str→Option Value}{fa f hf c0 T0:Addr}{od an odA anA odB:Option Addr}{sl slA slB:Array (Option Value)}{oc kV dc pm cd ct ocA kVA dcA pmA ctA ocB:Value}{vs:Array Value} (X:K.In h) (G:h.Ns mainGlobals mg) (hfa:mg "law"=some (.ref fa)) (T:mT K mg) (fa1:PySem.W.nsIn K mainGlobals "hardest_for"=some (some (.ref hf)))
  (fl:K.lookup hf=some ⟨ocA,odA,.func (PySem.W.fnOf "hardest_for" "hardest_for" (lF cN) (aS cN) (aD cN) .none kVA dcA pmA anA (.ref c0) ctA),slA⟩) (fl2:K.lookup c0=some ⟨ocB,odB,.fields vs,slB⟩) (fv:vs[11]? = some (.ref T0)) (fh:PySem.W.codeHdIn K c0 T0=true) (fn:K.lookup T0=none) (H_common_divisor:aO K mg "common_divisor" eX ["one","other"]) (H_is_less:aO K mg "is_less" lQ ["one","other"]) (H_rows_of:aO K mg "rows_of" lL ["deeds"]) (H_place_of:aO K mg "place_of" kI ["row","deeds"]) (H_with_deed:aO K mg "with_deed" jF ["row","hand","deed"]) (H_strays_from:aO K mg "strays_from" fY ["row","deeds"]) (H_now_and_later:aO K mg "now_and_later" fF ["pay","later","patience"]) (H_weighed:aO K mg "weighed" lX ["pays","patience"]) (H_worths_of_hand:aO K mg "worths_of_hand" dU ["told","hand"]) (H__law_cell:aO K mg "_law_cell" jB ["_law_script","_law_k"]) (H__law_mix:aO K mg "_law_mix" kN ["_law_cell_here","_law_prime","_law_many"]) (H__law_rows:aO K mg "_law_rows" iD ["_law_deeds_here"]) (H__law_fraction:aO K mg "_law_fraction" fH ["_law_upper","_law_lower"]) (H__law_more:aO K mg "_law_more" jD ["_law_one","_law_other"]) (H__law_stray:aO K mg "_law_stray" iK ["_law_row","_law_hand","_law_deed"]) (H_lowest:aO K mg "lowest" nW ["upper","lower"]) (H_all_rows:aO K mg "all_rows" kT ["meeting"]) (H_paid:aO K mg "paid" uA ["meeting","row"]) (H_state_behind:aO K mg "state_behind" gB ["meeting","plan","state","row"]) (H__law_meeting:aO K mg "_law_meeting" dL ["_law_cell_here"]) (H__law_patience:aO K mg "_law_patience" fG ["_law_cell_here"]) (H__law_later:aO K mg "_law_later" iH ["_law_pay","_law_worth","_law_patience_here"]) (H__law_paid:aO K mg "_law_paid" jI ["_law_meeting_here","_law_row"]) (H__law_steady:aO K mg "_law_steady" fW ["_law_meeting_here","_law_row","_law_threats"]) (H_pays_of:aO K mg "pays_of" kU ["meeting","rows","hand"]) (H_worth_of_pays:aO K mg "worth_of_pays" fE ["before","again","patience"]) (H_answering:aO K mg "answering" iB ["meeting","row","onward","threatening"]) (H_threatened_pays:aO K mg "threatened_pays" dF ["meeting","threats"]) (H_stray_that_gains:aO K mg "stray_that_gains" dS ["meeting","row","after","patience"]) (H_better_deed:aO K mg "better_deed" gZ ["meeting","plan","state","hand","own","patience"]) (H__law_deeds:aO K mg "_law_deeds" iL ["_law_meeting_here","_law_row","_law_floor","_law_patience_here"]) (H_worth_of:aO K mg "worth_of" kK ["meeting","rows","over","patience"]) (H_with_threats:aO K mg "with_threats" d5 ["meeting","path","threats"]) (H_better_deeds:aO K mg "better_deeds" e8 ["meeting","plan","hand","own","patience"]) (H__law_kept:aO K mg "_law_kept" iC ["_law_meeting_here","_law_patience_here"]) (H_worths_from:aO K mg "worths_from" fP ["meeting","plan","start","patience"]) (H_steady:aO K mg "steady" oH ["meeting","row","threats"]) (H_hardest_for:aO K mg "hardest_for" cN ["meeting","rows","hand"]) (H_worths:aO K mg "worths" mX ["meeting","plan","patience"]) (H_hardest_among:aO K mg "hardest_among" eF ["meeting","rows"]) (H_holding_among:aO K mg "holding_among" eB ["meeting","rows","patience"]) (H_gain:aO K mg "gain" uU ["meeting","plan","patience"]) (H_kept:aO K mg "kept" u0 ["meeting","patience"]) (H_holds:aO K mg "holds" rA ["meeting","plan","patience"]) (H_hardest:aO K mg "hardest" lN ["meeting","patience"]) (H_floors:aO K mg "floors" oM ["meeting","patience"]) (H_why_not:aO K mg "why_not" lP ["meeting","row","patience"]) (H__law_told:aO K mg "_law_told" jG ["_law_way","_law_meeting_here","_law_row","_law_patience_here"])
  (a:PySem.W.nsIn K mainGlobals "law"=some (some (.ref f))) (ll:K.lookup f=some ⟨oc,od,.func (PySem.W.fnOf "law" "law" (lF nV) (aS nV) (aD nV) .none kV dc pm an cd ct),sl⟩) (c:PySem.W.codeIn K cd "law"=true) (k:PySem.W.keepIn K (.ref f)=true) :
  aDe K mg hf c0 T0 (rawInt 128) (rawInt 25) (("hardest_for":Str)++".<locals>."++"<lambda>")∧∃ fd:FuncData,(∀ (s:Shared) (v:Value),BindsTo s fd ⟨[v],[]⟩ [("_law_script",v)])∧∀ base:Heap,K.In base→base.Ns mainGlobals mg→base.BuiltinsAt mg T0→vY l.prog w K mg base kL 13 fa fd ["_law_script"] (spR K yK):=by
 have e:=hfa.symm.trans (PySem.W.mg_of X G a)
 cases e
 have tk:=aKZ (st:=cN) X G fa1 fl fl2 fv fh fn rfl
 exact ⟨tk _ (PySem.W.mg_of X G fa1),PySem.W.fnOf "law" "law" (lF nV) (aS nV) (aD nV) .none kV dc pm an cd ct,fun s v=>.of_eq rfl,fun base hKb _ hB=>aIQ T tk hKb hB H_common_divisor H_is_less H_rows_of H_place_of H_with_deed H_strays_from H_now_and_later H_weighed H_worths_of_hand H__law_cell H__law_mix H__law_rows H__law_fraction H__law_more H__law_stray H_lowest H_all_rows H_paid H_state_behind H__law_meeting H__law_patience H__law_later H__law_paid H__law_steady H_pays_of H_worth_of_pays H_answering H_threatened_pays H_stray_that_gains H_better_deed H__law_deeds H_worth_of H_with_threats H_better_deeds H__law_kept H_worths_from H_steady H_hardest_for H_worths H_hardest_among H_holding_among H_gain H_kept H_holds H_hardest H_floors H_why_not H__law_told (aFS (st:=nV) ll c k)⟩
end L2
def PySem.W.Fast.tw7207192185194332519:Nat:=0
def PySem.W.Fast.tw13397367700245637600:Nat:=0
def PySem.W.Fast.tw11737959549826197326:Nat:=0
def PySem.W.Fast.tw433087451307107485:Nat:=0
def PySem.W.Fast.tw7087820331548150242:Nat:=0
def PySem.W.Fast.tw15521430467880869101:Nat:=0
def PySem.W.Fast.tw17488190061056234987:Nat:=0
def PySem.W.Fast.tw3120656560114865579:Nat:=0
def PySem.W.Fast.tw17774913645845284850:Nat:=0
def PySem.W.Fast.tw13637024443422254120:Nat:=0
def PySem.W.Fast.tw8005075226846476052:Nat:=0
def PySem.W.Fast.tw15857642247012646072:Nat:=0
def PySem.W.Fast.tw8916719578601615370:Nat:=0
def PySem.W.Fast.tw10861322560661948818:Nat:=0
def PySem.W.Fast.tw696241524701841907:Nat:=0
def PySem.W.Fast.tw15302941323045805075:Nat:=0
def PySem.W.Fast.tw15695295246357616322:Nat:=0
def PySem.W.Fast.tw9861417459558592274:Nat:=0
def PySem.W.Fast.tw1023857714463123097:Nat:=0
def PySem.W.Fast.tw15915292131324897468:Nat:=0
set_option hygiene false in
local macro_rules | `(tactic| simp_all_arith! [$x:term]) => `(tactic| (dsimp only [L2.m7]; refine' L2.aIN KX G ?a ?l ?c ?k (fun _ _ _ _ _ _ => $x (by intros; rfl)); (case a => k_is); (case l => k_is); (case c => k_is); (case k => k_is)))
open PySem PySem.W PyProof.Rows
set_option maxRecDepth 100000 in
set_option maxHeartbeats 0 in
theorem PySem.Challenge.cw_pactkeep_k06_whole_agreements_that_are_k_holds : PySem.Challenge.rw_pactkeep_k06_whole_agreements_that_are_k.Holds := by
 w_on;o_law;k_head;(case hw=>w_witness2)
 k_fill
 refine L2.aIG (l:=PySem.Challenge.rw_pactkeep_k06_whole_agreements_that_are_k) (hf:=?hf) (c:=?cc) rfl rfl (fun w h Y=>PySem.W.km_in_of Y) (fun w h Y=>PySem.W.km_tabs_of Y _ (List.Mem.head _)) ?F
 case F=>
  intro w mg fa h KX G hmg
  have T:L2.mT (L2.m7 KX) mg:=by
   dsimp only [L2.m7]
   refine' L2.aMT KX G ?z_ValueError ?z_abs ?z_enumerate ?z_int ?z_isinstance ?z_len ?z_min ?z_range ?z_reversed ?z_sorted ?z_sum ?z_tuple ?z_zip ?c_NoPact ?c_NoText ?c_PactError ?q_NoPact ?m_NoPact_PactError ?i0_NoPact ?i1_NoPact ?i2_NoPact ?i3_NoPact ?i4_NoPact ?i5_NoPact ?i6_NoPact ?i7_NoPact ?i8_NoPact
   (case z_ValueError=>k_is);(case z_abs=>k_is);(case z_enumerate=>k_is);(case z_int=>k_is);(case z_isinstance=>k_is);(case z_len=>k_is);(case z_min=>k_is);(case z_range=>k_is);(case z_reversed=>k_is);(case z_sorted=>k_is);(case z_sum=>k_is);(case z_tuple=>k_is);(case z_zip=>k_is);(case c_NoPact=>k_is);(case c_NoText=>k_is);(case c_PactError=>k_is);(case q_NoPact=>first | k_exc | kts_exm | kit_is | k_is);(case m_NoPact_PactError=>first | k_exc | kts_exm | kit_is | k_is);(case i0_NoPact=>first | k_exc | kts_exm | kit_is | k_is);(case i1_NoPact=>first | k_exc | kts_exm | kit_is | k_is);(case i2_NoPact=>first | k_exc | kts_exm | kit_is | k_is);(case i3_NoPact=>first | k_exc | kts_exm | kit_is | k_is);(case i4_NoPact=>first | k_exc | kts_exm | kit_is | k_is);(case i5_NoPact=>first | k_exc | kts_exm | kit_is | k_is);(case i6_NoPact=>first | k_exc | kts_exm | kit_is | k_is);(case i7_NoPact=>first | k_exc | kts_exm | kit_is | k_is);(case i8_NoPact=>first | k_exc | kts_exm | kit_is | k_is)
  have H_common_divisor:L2.aO (L2.m7 KX) mg "common_divisor" L2.eX ["one","other"]:=by simp_all_arith! [L2.us2]
  have H_is_less:L2.aO (L2.m7 KX) mg "is_less" L2.lQ ["one","other"]:=by simp_all_arith! [L2.us2]
  have H_rows_of:L2.aO (L2.m7 KX) mg "rows_of" L2.lL ["deeds"]:=by simp_all_arith! [L2.us1]
  have H_place_of:L2.aO (L2.m7 KX) mg "place_of" L2.kI ["row","deeds"]:=by simp_all_arith! [L2.us2]
  have H_with_deed:L2.aO (L2.m7 KX) mg "with_deed" L2.jF ["row","hand","deed"]:=by simp_all_arith! [L2.us3]
  have H_strays_from:L2.aO (L2.m7 KX) mg "strays_from" L2.fY ["row","deeds"]:=by simp_all_arith! [L2.us2]
  have H_now_and_later:L2.aO (L2.m7 KX) mg "now_and_later" L2.fF ["pay","later","patience"]:=by simp_all_arith! [L2.us3]
  have H_weighed:L2.aO (L2.m7 KX) mg "weighed" L2.lX ["pays","patience"]:=by simp_all_arith! [L2.us2]
  have H_worths_of_hand:L2.aO (L2.m7 KX) mg "worths_of_hand" L2.dU ["told","hand"]:=by simp_all_arith! [L2.us2]
  have H__law_cell:L2.aO (L2.m7 KX) mg "_law_cell" L2.jB ["_law_script","_law_k"]:=by simp_all_arith! [L2.us2]
  have H__law_mix:L2.aO (L2.m7 KX) mg "_law_mix" L2.kN ["_law_cell_here","_law_prime","_law_many"]:=by simp_all_arith! [L2.us3]
  have H__law_rows:L2.aO (L2.m7 KX) mg "_law_rows" L2.iD ["_law_deeds_here"]:=by simp_all_arith! [L2.us1]
  have H__law_fraction:L2.aO (L2.m7 KX) mg "_law_fraction" L2.fH ["_law_upper","_law_lower"]:=by simp_all_arith! [L2.us2]
  have H__law_more:L2.aO (L2.m7 KX) mg "_law_more" L2.jD ["_law_one","_law_other"]:=by simp_all_arith! [L2.us2]
  have H__law_stray:L2.aO (L2.m7 KX) mg "_law_stray" L2.iK ["_law_row","_law_hand","_law_deed"]:=by simp_all_arith! [L2.us3]
  have H_lowest:L2.aO (L2.m7 KX) mg "lowest" L2.nW ["upper","lower"]:=by simp_all_arith! [L2.us2]
  have H_all_rows:L2.aO (L2.m7 KX) mg "all_rows" L2.kT ["meeting"]:=by simp_all_arith! [L2.us1]
  have H_paid:L2.aO (L2.m7 KX) mg "paid" L2.uA ["meeting","row"]:=by simp_all_arith! [L2.us2]
  have H_state_behind:L2.aO (L2.m7 KX) mg "state_behind" L2.gB ["meeting","plan","state","row"]:=by simp_all_arith! [L2.us4]
  have H__law_meeting:L2.aO (L2.m7 KX) mg "_law_meeting" L2.dL ["_law_cell_here"]:=by simp_all_arith! [L2.us1]
  have H__law_patience:L2.aO (L2.m7 KX) mg "_law_patience" L2.fG ["_law_cell_here"]:=by simp_all_arith! [L2.us1]
  have H__law_later:L2.aO (L2.m7 KX) mg "_law_later" L2.iH ["_law_pay","_law_worth","_law_patience_here"]:=by simp_all_arith! [L2.us3]
  have H__law_paid:L2.aO (L2.m7 KX) mg "_law_paid" L2.jI ["_law_meeting_here","_law_row"]:=by simp_all_arith! [L2.us2]
  have H__law_steady:L2.aO (L2.m7 KX) mg "_law_steady" L2.fW ["_law_meeting_here","_law_row","_law_threats"]:=by simp_all_arith! [L2.us3]
  have H_pays_of:L2.aO (L2.m7 KX) mg "pays_of" L2.kU ["meeting","rows","hand"]:=by simp_all_arith! [L2.us3]
  have H_worth_of_pays:L2.aO (L2.m7 KX) mg "worth_of_pays" L2.fE ["before","again","patience"]:=by simp_all_arith! [L2.us3]
  have H_answering:L2.aO (L2.m7 KX) mg "answering" L2.iB ["meeting","row","onward","threatening"]:=by simp_all_arith! [L2.us4]
  have H_threatened_pays:L2.aO (L2.m7 KX) mg "threatened_pays" L2.dF ["meeting","threats"]:=by simp_all_arith! [L2.us2]
  have H_stray_that_gains:L2.aO (L2.m7 KX) mg "stray_that_gains" L2.dS ["meeting","row","after","patience"]:=by simp_all_arith! [L2.us4]
  have H_better_deed:L2.aO (L2.m7 KX) mg "better_deed" L2.gZ ["meeting","plan","state","hand","own","patience"]:=by simp_all_arith! [L2.us6]
  have H__law_deeds:L2.aO (L2.m7 KX) mg "_law_deeds" L2.iL ["_law_meeting_here","_law_row","_law_floor","_law_patience_here"]:=by simp_all_arith! [L2.us4]
  have H_worth_of:L2.aO (L2.m7 KX) mg "worth_of" L2.kK ["meeting","rows","over","patience"]:=by simp_all_arith! [L2.us4]
  have H_with_threats:L2.aO (L2.m7 KX) mg "with_threats" L2.d5 ["meeting","path","threats"]:=by simp_all_arith! [L2.us3]
  have H_better_deeds:L2.aO (L2.m7 KX) mg "better_deeds" L2.e8 ["meeting","plan","hand","own","patience"]:=by simp_all_arith! [L2.us5]
  have H__law_kept:L2.aO (L2.m7 KX) mg "_law_kept" L2.iC ["_law_meeting_here","_law_patience_here"]:=by simp_all_arith! [L2.us2]
  have H_worths_from:L2.aO (L2.m7 KX) mg "worths_from" L2.fP ["meeting","plan","start","patience"]:=by simp_all_arith! [L2.us4]
  have H_steady:L2.aO (L2.m7 KX) mg "steady" L2.oH ["meeting","row","threats"]:=by simp_all_arith! [L2.us3]
  have H_hardest_for:L2.aO (L2.m7 KX) mg "hardest_for" L2.cN ["meeting","rows","hand"]:=by simp_all_arith! [L2.us3]
  have H_worths:L2.aO (L2.m7 KX) mg "worths" L2.mX ["meeting","plan","patience"]:=by simp_all_arith! [L2.us3]
  have H_hardest_among:L2.aO (L2.m7 KX) mg "hardest_among" L2.eF ["meeting","rows"]:=by simp_all_arith! [L2.us2]
  have H_holding_among:L2.aO (L2.m7 KX) mg "holding_among" L2.eB ["meeting","rows","patience"]:=by simp_all_arith! [L2.us3]
  have H_gain:L2.aO (L2.m7 KX) mg "gain" L2.uU ["meeting","plan","patience"]:=by simp_all_arith! [L2.us3]
  have H_kept:L2.aO (L2.m7 KX) mg "kept" L2.u0 ["meeting","patience"]:=by simp_all_arith! [L2.us2]
  have H_holds:L2.aO (L2.m7 KX) mg "holds" L2.rA ["meeting","plan","patience"]:=by simp_all_arith! [L2.us3]
  have H_hardest:L2.aO (L2.m7 KX) mg "hardest" L2.lN ["meeting","patience"]:=by simp_all_arith! [L2.us2]
  have H_floors:L2.aO (L2.m7 KX) mg "floors" L2.oM ["meeting","patience"]:=by simp_all_arith! [L2.us2]
  have H_why_not:L2.aO (L2.m7 KX) mg "why_not" L2.lP ["meeting","row","patience"]:=by simp_all_arith! [L2.us3]
  have H__law_told:L2.aO (L2.m7 KX) mg "_law_told" L2.jG ["_law_way","_law_meeting_here","_law_row","_law_patience_here"]:=by simp_all_arith! [L2.us4]
  refine' L2.aMy KX G hmg T ?fa ?fl ?fl2 ?fv ?fh ?fn H_common_divisor H_is_less H_rows_of H_place_of H_with_deed H_strays_from H_now_and_later H_weighed H_worths_of_hand H__law_cell H__law_mix H__law_rows H__law_fraction H__law_more H__law_stray H_lowest H_all_rows H_paid H_state_behind H__law_meeting H__law_patience H__law_later H__law_paid H__law_steady H_pays_of H_worth_of_pays H_answering H_threatened_pays H_stray_that_gains H_better_deed H__law_deeds H_worth_of H_with_threats H_better_deeds H__law_kept H_worths_from H_steady H_hardest_for H_worths H_hardest_among H_holding_among H_gain H_kept H_holds H_hardest H_floors H_why_not H__law_told ?al ?ll ?cl ?kl
  (case fa=>k_is);(case fl=>k_is);(case fl2=>k_is);(case fv=>rfl);(case fh=>kernel_rfl);(case fn=>kernel_rfl)
  (case al=>k_is);(case ll=>k_is);(case cl=>k_is);(case kl=>k_is)
