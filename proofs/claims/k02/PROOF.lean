import PyProof.Rows.All
import Wide.All
import OpenK.AllK
import Wide.FinOn
import Lean
import PyProof.EqAt
import PyProof.EqKinds
import PyProof.TupleCall
import PyProof.NeKinds
import PyProof.ZipIter
import PyProof.Rows.SortShell
import PyProof.Rows.SortWalk
import PyProof.EnumMake
import PyProof.Rows.SumAny
import PyProof.Rows.SumGenD
import KE.KTryMore
import OpenK.KOwn
import PyProof.ExcArgsOwn
import PyProof.IsiTuple
import PyProof.ExcAttrAll.ValueError
import PyProof.FitsBits
import PySem.Challenge.RW_pactkeep_k02_whole_texts
set_option Elab.async false
set_option linter.all false
set_option maxRecDepth 100000
namespace L2
open PySem PySem.Spec PyProof.Rows
abbrev rH:=Sum Int Str
def aAE:rH→Value→Bool
 | .inl k,v=>Value.isInt k v
 | .inr x,v=>Value.isStrOf x v
def aEM (w:World):rH→Int
 | .inl k=>hashInt k
 | .inr x=>hashStr w x
theorem cS:∀ {k:rH}{v:Value},aAE k v=true→(∃ i t,k=Sum.inl i∧v=Value.int i t)∨(∃ x t,k=Sum.inr x∧v=Value.str x t)
 | .inl i,v,h=>by
  obtain ⟨t,e⟩:=Value.isInt_shape (k:=i) (v:=v) h
  exact .inl ⟨i,t,rfl,e⟩
 | .inr x,v,h=>by
  obtain ⟨t,e⟩:=Value.isStrOf_shape (x:=x) (v:=v) h
  exact .inr ⟨x,t,rfl,e⟩
theorem aDp (a b:Int):decide ((Sum.inl a:rH)=Sum.inl b)=(a == b):=by
 by_cases e:a=b
 ·subst e;simp
 ·have h:¬ (Sum.inl a:rH)=Sum.inl b:=fun q=>e (Sum.inl.inj q)
  rw [decide_eq_false h]
  exact (beq_eq_false_iff_ne.mpr e).symm
theorem aDk (a b:Str):decide ((Sum.inr a:rH)=Sum.inr b)=decide (a=b):=by
 by_cases e:a=b
 ·subst e;simp
 ·have h:¬ (Sum.inr a:rH)=Sum.inr b:=fun q=>e (Sum.inr.inj q)
  rw [decide_eq_false h,decide_eq_false e]
theorem aDh (a:Int) (b:Str):decide ((Sum.inl a:rH)=Sum.inr b)=false:=decide_eq_false (fun q=>nomatch q)
theorem aDw (a:Str) (b:Int):decide ((Sum.inr a:rH)=Sum.inl b)=false:=decide_eq_false (fun q=>nomatch q)
def oX (prog:Program) (w:World):PySem.KeyKind prog w rH where
 is:=aAE
 hash:=aEM w
 inj:=fun v a b ha hb=>by
  rcases cS ha with ⟨i,t,rfl,rfl⟩ | ⟨x,t,rfl,rfl⟩
  ·rcases cS hb with ⟨j,u,rfl,e⟩ | ⟨y,u,rfl,e⟩
   ·injection e with e1 _;rw [e1]
   ·exact nomatch e
  ·rcases cS hb with ⟨j,u,rfl,e⟩ | ⟨y,u,rfl,e⟩
   ·exact nomatch e
   ·injection e with e1 _;rw [e1]
 byValue:=fun k v h=>by
  rcases cS h with ⟨i,t,rfl,rfl⟩ | ⟨x,t,rfl,rfl⟩ <;> rfl
 pyHash:=fun hv h=>by
  rcases cS hv with ⟨i,t,rfl,rfl⟩ | ⟨x,t,rfl,rfl⟩
  ·exact wpAny_pyHash_int h
  ·exact wpAny_pyHash_str h
 eqBool:=fun hu hv h=>by
  rcases cS hu with ⟨i,t,rfl,rfl⟩ | ⟨x,t,rfl,rfl⟩
  ·rcases cS hv with ⟨j,u,rfl,rfl⟩ | ⟨y,u,rfl,rfl⟩
   ·rw [aDp] at h;exact wpAny_eqBool_int h
   ·rw [aDh] at h;exact SeqAt.EqAt.int_str i t y u _ _ _ _ h
  ·rcases cS hv with ⟨j,u,rfl,rfl⟩ | ⟨y,u,rfl,rfl⟩
   ·rw [aDw] at h;exact SeqAt.EqAt.str_int x t j u _ _ _ _ h
   ·rw [aDk] at h;exact wpAny_eqBool_str h
 «strs» := fun k x t v h=>by
  rcases cS h with ⟨i,u,rfl,e⟩ | ⟨y,u,rfl,e⟩
  ·exact nomatch e
  ·injection e with e1 _
   subst e1
   cases v <;> rfl
theorem aDx (prog:Program) (w:World) (k:rH) (v:Value):(oX prog w).is k v=aAE k v:=rfl
inductive V where
 | non | bl (b:Bool) | int (i:Int) | str (x:Str) | byt (b:Array UInt8) | flt (b:UInt64) | ref (a:Addr) | ty (n:String)
 deriving DecidableEq
def cC:V→Value→Prop
 | .non,u=>u=Value.none
 | .bl b,u=>u=Value.bool b
 | .int i,u=>∃ t,u=Value.int i t
 | .str x,u=>∃ t,u=Value.str x t
 | .byt b,u=>∃ t,u=Value.bytes b t
 | .flt b,u=>∃ t,u=Value.float b t
 | .ref a,u=>u=Value.ref a
 | .ty n,u=>u=Value.type n
abbrev bO:List V→List Value→Prop:=Paired cC
theorem bO.length {xs:List V}{us:List Value} (r:bO xs us):xs.length=us.length:=Paired.length r
theorem bO.get:∀ {xs:List V}{us:List Value}{i:Nat}{x:V},bO xs us→xs[i]? = some x→∃ u,us[i]? = some u∧cC x u
 | _,_,_,_,.nil,e=>by simp at e
 | _,_,0,_,.cons r _,e=>by simp at e;subst e;exact ⟨_,rfl,r⟩
 | _,_,i+1,x,.cons _ t,e=>by
  obtain ⟨u,h1,h2⟩:=bO.get (i:=i) (x:=x) t (by simpa using e)
  exact ⟨u,by simpa using h1,h2⟩
theorem bO.append:∀ {xs ys:List V}{us ws:List Value},bO xs us→bO ys ws→bO (xs++ys) (us++ws)
 | _,_,_,_,.nil,s=>s
 | _,_,_,_,.cons r t,s=>.cons r (bO.append t s)
theorem bO.take:∀ {xs:List V}{us:List Value} (n:Nat),bO xs us→bO (xs.take n) (us.take n)
 | _,_,0,_=>.nil
 | _,_,_+1,.nil=>.nil
 | _,_,n+1,.cons r t=>.cons r (bO.take n t)
theorem bO.drop:∀ {xs:List V}{us:List Value} (n:Nat),bO xs us→bO (xs.drop n) (us.drop n)
 | _,_,0,r=>r
 | _,_,_+1,.nil=>.nil
 | _,_,n+1,.cons _ t=>bO.drop n t
def aDy:Option V→Option Value→Prop
 | some v,some u=>cC v u
 | none,none=>True
 | _,_=>False
def KV {κ:Type}:List (κ×V)→List (κ×Value)→Prop:=Paired fun (p:κ×V) (q:κ×Value)=>p.1=q.1∧cC p.2 q.2
def kV:rH→V
 | .inl i=>.int i
 | .inr x=>.str x
def kM {α β:Type}:List (α ⊕ β)→List (α ⊕ β)→Prop
 | a::x,b::y=>a.isLeft=b.isLeft∧kM x y
 | _,_=>True
def w6 {α β:Type} (f:Nat→Bool):List (α ⊕ β)→Prop
 | []=>True
 | a::x=>a.isLeft=f 0∧w6 (fun i=>f (i+1)) x
theorem w6.compat {α β:Type}:∀ {f:Nat→Bool}{x y:List (α ⊕ β)},w6 f x→w6 f y→kM x y
 | _,[],[],_,_=>trivial
 | _,[],_::_,_,_=>trivial
 | _,_::_,[],_,_=>trivial
 | f,a::x,b::y,h,q=>⟨(show _∧_ from h).1.trans (show _∧_ from q).1.symm,w6.compat (show _∧_ from h).2 (show _∧_ from q).2⟩
section
variable {prog:Program}{w:World}{K:Type} [DecidableEq K] (knd:KeyKind prog w K)
inductive cY (h:Heap):List (K ⊕ List K)→List Value→Prop
 | nil:cY h [] []
 | one {k:K}{v:Value}{ks:List (K ⊕ List K)}{vs:List Value}:knd.is k v=true→cY h ks vs→cY h (.inl k::ks) (v::vs)
 | tup {k:List K}{b:Addr}{ks:List (K ⊕ List K)}{vs:List Value}:IsTupleKey knd h k b→cY h ks vs→cY h (.inr k::ks) (.ref b::vs)
def xX (h:Heap) (ks:List (K ⊕ List K)) (a:Addr):Prop:=∃ o items n,h.get? a=some o∧o.cls = .type "tuple"∧o.data = .seq items n∧cY knd h ks items.toList
def kR:K ⊕ List K→Int
 | .inl k=>knd.hash k
 | .inr ks=>tupleKeyHash knd ks
def pA:K ⊕ List K→Nat
 | .inl _=>1
 | .inr ks=>ks.length+1
variable {knd}
theorem zC {k:K}{b:Addr} (h:knd.is k (.ref b)=true):False:=by
 have:=knd.byValue _ _ h
 simp [carriedByValue] at this
theorem cY.inj {h:Heap}{x y:List (K ⊕ List K)}{vs:List Value} (hx:cY knd h x vs) (hy:cY knd h y vs):x=y:=by
 induction hx generalizing y with
 | nil=>cases hy;rfl
 | one h1 _ ih=>
  cases hy with
  | one h2 t2=>rw [knd.inj _ _ _ h1 h2,ih t2]
  | tup h2 t2=>exact (zC h1).elim
 | tup h1 _ ih=>
  cases hy with
  | one h2 t2=>exact (zC h2).elim
  | tup h2 t2=>rw [h1.inj h2,ih t2]
theorem cY.keeps {h h':Heap}{ks:List (K ⊕ List K)}{vs:List Value}{d:Addr}{o:Obj}{es ep} (x:cY knd h ks vs) (ho:h.get? d=some o) (hd:o.data = .dict es ep) (hs:Heap.SameBut d h h'):cY knd h' ks vs:=by
 induction x with
 | nil=>exact .nil
 | one h1 _ ih=>exact .one h1 ih
 | tup h1 _ ih=>exact .tup (h1.keeps ho hd hs) ih
theorem xX.typeIs {s:Shared}{ks:List (K ⊕ List K)}{a:Addr} (x:xX knd s.heap ks a):s.TypeIs (.ref a) "tuple":=let ⟨o,_,_,ho,hc,_⟩:=x; ⟨o,ho,hc⟩
theorem xX.inj {h:Heap}{a:Addr}{x y:List (K ⊕ List K)} (hx:xX knd h x a) (hy:xX knd h y a):x=y:=by
 obtain ⟨o,items,n,ho,_,hd,hi⟩:=hx
 obtain ⟨o',items',n',ho',_,hd',hi'⟩:=hy
 obtain rfl:o=o':=Option.some.inj (ho.symm.trans ho')
 rw [hd] at hd'
 injection hd' with h1 _
 subst h1
 exact hi.inj hi'
theorem xX.keeps {h h':Heap}{ks:List (K ⊕ List K)}{a d:Addr}{o:Obj}{es ep} (x:xX knd h ks a) (ho:h.get? d=some o) (hd:o.data = .dict es ep) (hs:Heap.SameBut d h h'):xX knd h' ks a:=by
 obtain ⟨o',items,n,ho',hc,hd',hi⟩:=x
 have hne:a≠d:=by
  rintro rfl
  obtain rfl:o'=o:=Option.some.inj (ho'.symm.trans ho)
  rw [hd] at hd';exact nomatch hd'
 exact ⟨o',items,n,(hs.2 a hne).trans ho',hc,hd',hi.keeps ho hd hs⟩
variable {A:Around}{E:Value→Shared→Prop}{s:Shared}
theorem aDs {ks:List (K ⊕ List K)}{a:Addr}{Q:Int→Shared→Prop} (hu:A.units+40<cLine) (hk:xX knd s.heap ks a) (h:Q (reduceHash (Builtin.Tuple.tupleHashOf (ks.map (kR knd)))) { s with toks:=s.toks+((ks.map (pA (K:=K))).sum+1) }) :
  wpAny (model prog w) A (pyHash (.ref a)) Q E s:=by
 have hT:=hk.typeIs
 obtain ⟨o,items,n,ho,_,hd,hi⟩:=hk
 unfold pyHash
 first | unfold pyHashByItsType | skip
 first | refine wpAny_bind (wpAny_cRoomFor_or (.inr (by omega)) ?_) | skip
 refine wpAny_bind (wpAny_specialOf hT F.slot_tuple_hash.lookup ?_)
 show wpAny _ _ (if (some (Value.builtin "tuple.__hash__") == some Value.none)=true then _ else _) Q E s
 rw [if_neg (by rw [beq_builtin_none];exact Bool.false_ne_true)]
 refine wpAny_bind (wpAny_specialOf hT F.slot_tuple_hash.lookup ?_)
 show wpAny _ _ (callSpecialIfBoundUnlessNone? (.ref a) "__hash__" _ >>= _) Q E s
 refine wpAny_bind (wpAny_callSpecialIfBoundUnlessNone?_slot hT F.slot_tuple_hash (wpAny_call_entry F.slot_tuple_hash hT F.entry_tuple_hash ?_ (F.args_tuple_hash_1 _)))
 show wpAny _ _ (Builtin.Tuple.tupleItemsOf (.ref a) >>= _) _ _ s
 refine wpAny_bind (wpAny_tupleItemsOf ho hd ?_)
 refine wpAny_bind ?_
 rw [← Array.forIn_toList]
 refine wpAny_forIn_list _
  (fun rest (b:Array Int) s'=>∃ done left,ks=done++left∧cY knd s.heap left rest∧b.toList=done.map (kR knd)∧s'={ s with toks:=s.toks+(done.map (pA (K:=K))).sum })
  _ ?_ ?_ _ _ ⟨[],ks,rfl,hi,rfl,rfl⟩
 ·rintro x rest b s' ⟨done,left,rfl,hl,hb,rfl⟩
  cases hl with
  | @one k _ ks' _ h1 hl'=>
   refine wpAny_bind (knd.pyHash h1 ?_)
   first
    | exact wpAny_pure ⟨done++[.inl k],ks',by simp,hl',by simp [hb,kR],by simp [Nat.add_assoc,pA]⟩
    | exact wpAny_bind (wpAny_pure (wpAny_pure ⟨done++[.inl k],ks',by simp,hl',by simp [hb,kR],by simp [Nat.add_assoc,pA]⟩))
  | @tup k _ ks' _ h1 hl'=>
   refine wpAny_bind (wpAny_pyHash_tuple (knd:=knd) (ks:=k) (show A.units+1<cLine by omega) h1 ?_)
   first
    | exact wpAny_pure ⟨done++[.inr k],ks',by simp,hl',by simp [hb,kR],by simp [Nat.add_assoc,pA]⟩
    | exact wpAny_bind (wpAny_pure (wpAny_pure ⟨done++[.inr k],ks',by simp,hl',by simp [hb,kR],by simp [Nat.add_assoc,pA]⟩))
 ·rintro b s' ⟨done,left,rfl,hl,hb,rfl⟩
  cases hl
  rw [List.append_nil] at h
  show wpAny _ _ (retInt (Builtin.Tuple.tupleHashOf b.toList)) _ _ _
  rw [hb]
  refine wpAny_ret_mkInt ?_
  show wpAny _ _ (if (decide (-(2:Int) ^ 63≤Builtin.Tuple.tupleHashOf (done.map (kR knd))) && decide (Builtin.Tuple.tupleHashOf (done.map (kR knd))<2 ^ 63))=true then _ else _) Q E _
  unfold reduceHash at h
  by_cases hr:(decide (-(2:Int) ^ 63≤Builtin.Tuple.tupleHashOf (done.map (kR knd))) && decide (Builtin.Tuple.tupleHashOf (done.map (kR knd))<2 ^ 63))=true
  ·rw [if_pos hr]
   rw [if_pos hr] at h
   exact wpAny_pure (by simpa [Nat.add_assoc] using h)
  ·rw [if_neg hr]
   rw [if_neg hr] at h
   exact wpAny_bind (wpAny_rule (wpAny_pure (by simpa [Nat.add_assoc] using h)))
theorem zE {x y:List (K ⊕ List K)}{a b:Addr}{P:Fin→Shared→Prop} (hu:A.units+32<cLine) (hx:xX knd s.heap x a) (hy:xX knd s.heap y b) (sh:kM x y) (h:P (.done (.ret (.bool (decide (x=y))))) s) :
  wpAny (model prog w) A (Builtin.«tuple.__eq__» ⟨[.ref a,.ref b],[]⟩) P E s:=by
 have hTb:=hy.typeIs
 obtain ⟨oa,xs,na,hoa,_,hda,hia⟩:=hx
 obtain ⟨ob,ys,nb,hob,_,hdb,hib⟩:=hy
 show wpAny _ _ (isInstance (.ref b) (.type "tuple") >>= _) _ _ s
 refine wpAny_bind (wpAny_isInstance hTb isSubtype_tuple_tuple ?_)
 simp only [Bool.not_true,Bool.false_eq_true,if_false]
 refine wpAny_bind (wpAny_tupleItemsOf hoa hda ?_)
 refine wpAny_bind (wpAny_tupleItemsOf hob hdb ?_)
 refine wpAny_bind ?_
 refine wpAny_forIn_list _
  (fun rest r s'=>r.1=none∧s'=s∧∃ x' y' xs' ys',rest=List.zip xs' ys'∧cY knd s.heap x' xs'∧cY knd s.heap y' ys'∧kM x' y'∧decide (x'=y')=decide (x=y)∧(xs'.length == ys'.length)=(xs.size == ys.size))
  _ ?_ ?_ _ _ ⟨rfl,rfl,x,y,xs.toList,ys.toList,rfl,hia,hib,sh,rfl,by simp⟩
 ·rintro ⟨u,v⟩ rest r s' ⟨hr,rfl,x',y',xs',ys',hz,hx',hy',sh',hdec,hlen⟩
  have step:∀ {k1 k2:K ⊕ List K}{x'' y'':List (K ⊕ List K)}{xs'' ys'':List Value},x'=k1::x''→y'=k2::y''→cY knd s'.heap x'' xs''→cY knd s'.heap y'' ys''→rest=List.zip xs'' ys''→((xs''.length == ys''.length)=(xs.size == ys.size)) →
    (k1=k2∧(∃ x' y' xs' ys',rest=List.zip xs' ys'∧cY knd s'.heap x' xs'∧cY knd s'.heap y' ys'∧kM x' y'∧decide (x'=y')=decide (x=y)∧(xs'.length == ys'.length)=(xs.size == ys.size)))∨(k1≠k2∧decide (x=y)=false):=by
   intro k1 k2 x'' y'' xs'' ys'' e1 e2 n1 n2 hz hl
   subst e1 e2
   by_cases hk:k1=k2
   ·subst hk
    refine .inl ⟨rfl,x'',y'',xs'',ys'',hz,n1,n2,(show _∧_ from sh').2,?_,hl⟩
    rw [← hdec]
    by_cases hxy:x''=y''
    ·simp [hxy]
    ·simp [hxy]
   ·exact .inr ⟨hk,by rw [← hdec];simp [hk]⟩
  cases hx' with
  | nil=>simp at hz
  | @one k1 u' x'' xs'' h1 hx''=>
   cases hy' with
   | nil=>simp at hz
   | @one k2 v' y'' ys'' h2 hy''=>
    simp only [List.zip_cons_cons,List.cons.injEq,Prod.mk.injEq] at hz
    obtain ⟨⟨rfl,rfl⟩,hz⟩:=hz
    refine wpAny_bind (knd.eqBool (a:=k1) (b:=k2) h1 h2 ?_)
    rcases step rfl rfl hx'' hy'' hz (by simpa using hlen) with ⟨hk,st⟩ | ⟨hk,hf⟩
    ·rw [decide_eq_true (Sum.inl.inj hk)]
     simp only [Bool.not_true,Bool.false_eq_true,if_false]
     exact wpAny_pure ⟨rfl,rfl,st⟩
    ·rw [decide_eq_false (fun z=>hk (by rw [z]))]
     simp only [Bool.not_false,if_true]
     rw [hf] at h
     exact wpAny_bind (wpAny_pure (wpAny_pure (wpAny_pure h)))
   | tup h2 hy''=>simp [kM] at sh'
  | @tup k1 u' x'' xs'' h1 hx''=>
   cases hy' with
   | nil=>simp at hz
   | one h2 hy''=>simp [kM] at sh'
   | @tup k2 v' y'' ys'' h2 hy''=>
    simp only [List.zip_cons_cons,List.cons.injEq,Prod.mk.injEq] at hz
    obtain ⟨⟨rfl,rfl⟩,hz⟩:=hz
    refine wpAny_bind (wpAny_eqBool_tuple (knd:=knd) (by omega) h1 h2 ?_)
    rcases step rfl rfl hx'' hy'' hz (by simpa using hlen) with ⟨hk,st⟩ | ⟨hk,hf⟩
    ·rw [decide_eq_true (Sum.inr.inj hk)]
     simp only [Bool.not_true,Bool.false_eq_true,if_false]
     exact wpAny_pure ⟨rfl,rfl,st⟩
    ·rw [decide_eq_false (fun z=>hk (by rw [z]))]
     simp only [Bool.not_false,if_true]
     rw [hf] at h
     exact wpAny_bind (wpAny_pure (wpAny_pure (wpAny_pure h)))
 ·rintro ⟨r1,r2⟩ s' ⟨hr,rfl,x',y',xs',ys',hz,hx',hy',sh',hdec,hlen⟩
  simp only at hr
  subst hr
  refine wpAny_pure ?_
  have hfin:(xs.size == ys.size)=decide (x=y):=by
   rw [← hdec,← hlen]
   cases hx' with
   | nil=>
    cases hy' with
    | nil=>simp
    | one _ _=>simp
    | tup _ _=>simp
   | one _ _=>
    cases hy' with
    | nil=>simp
    | one _ _=>simp at hz
    | tup _ _=>simp at hz
   | tup _ _=>
    cases hy' with
    | nil=>simp
    | one _ _=>simp at hz
    | tup _ _=>simp at hz
  show P (.done (.ret (.bool (xs.size == ys.size)))) s'
  rw [hfin];exact h
theorem aBI {x y:List (K ⊕ List K)}{a b:Addr}{Q:Bool→Shared→Prop} (hu:A.units+40<cLine) (hx:xX knd s.heap x a) (hy:xX knd s.heap y b) (sh:kM x y) (h:Q (decide (x=y)) s) :
  wpAny (model prog w) A (eqBool (.ref a) (.ref b)) Q E s:=by
 unfold eqBool
 try with_reducible refine wpAny_holding ?_
 show wpAny _ _ (if (Value.ref a == Value.ref b)=true then _ else _) Q E s
 by_cases hab:(Value.ref a == Value.ref b)=true
 ·rw [if_pos hab]
  have e:a=b:=by have:=eq_of_beq hab;injection this
  subst e
  obtain rfl:=hx.inj hy
  exact wpAny_bind (wpAny_rule (wpAny_pure (by simpa using h)))
 ·rw [if_neg hab]
  exact wpAny_bind (wpAny_richCompare_same_room (op:=.Eq) hx.typeIs hy.typeIs F.slot_tuple_eq
   (wpAny_call_entry F.slot_tuple_eq hx.typeIs F.entry_tuple_eq (zE (show A.units+1+32<cLine by omega) hx hy sh ⟨_,rfl,(fun e=>nomatch e),wpAny_truthy_bool h⟩) (F.args_tuple_eq_2 _ _)) (by omega))
theorem aCe {n:Nat}{ks:List K}{a:Addr}{Q:Bool→Shared→Prop} (hk:IsTupleKey knd s.heap ks a) (h:Q true s):wpAny (model prog w) A (eqIsQuiet (n+1) (.ref a)) Q E s:=by
 have hT:=hk.typeIs
 obtain ⟨o,items,m,ho,_,hd,hi⟩:=hk
 unfold eqIsQuiet
 refine wpAny_bind (wpAny_specialOf hT F.slot_tuple_eq.lookup ?_)
 show wpAny _ _ (isInstance (.ref a) (.type "tuple") >>= _) _ _ s
 refine wpAny_bind (wpAny_isInstance hT isSubtype_tuple_tuple ?_)
 simp only [Bool.not_true,Bool.false_eq_true,if_false]
 refine wpAny_bind (wpAny_seqItems ho hd ?_)
 refine wpAny_bind ?_
 show wpAny _ _ (forIn items _ _) _ _ s
 rw [← Array.forIn_toList]
 refine wpAny_forIn_list _ (fun rest r s'=>r.1=none∧s'=s∧∀ v∈rest,carriedByValue v=true) _ ?_ ?_ _ _ ⟨rfl,rfl,hi.byValue⟩
 ·rintro v rest r s' ⟨hr,rfl,hall⟩
  rw [eqIsQuiet_byValue _ (hall v List.mem_cons_self)]
  refine wpAny_bind (wpAny_pure ?_)
  simp only [Bool.not_true,Bool.false_eq_true,if_false]
  exact wpAny_pure ⟨rfl,rfl,fun u hu'=>hall u (List.mem_cons_of_mem _ hu')⟩
 ·rintro ⟨r1,r2⟩ s' ⟨hr,rfl,_⟩
  simp only at hr
  subst hr
  exact wpAny_pure h
theorem aBY {n:Nat}{ks:List (K ⊕ List K)}{a:Addr}{Q:Bool→Shared→Prop} (hk:xX knd s.heap ks a) (h:Q true s):wpAny (model prog w) A (eqIsQuiet (n+2) (.ref a)) Q E s:=by
 have hT:=hk.typeIs
 obtain ⟨o,items,m,ho,_,hd,hi⟩:=hk
 unfold eqIsQuiet
 refine wpAny_bind (wpAny_specialOf hT F.slot_tuple_eq.lookup ?_)
 show wpAny _ _ (isInstance (.ref a) (.type "tuple") >>= _) _ _ s
 refine wpAny_bind (wpAny_isInstance hT isSubtype_tuple_tuple ?_)
 simp only [Bool.not_true,Bool.false_eq_true,if_false]
 refine wpAny_bind (wpAny_seqItems ho hd ?_)
 refine wpAny_bind ?_
 show wpAny _ _ (forIn items _ _) _ _ s
 rw [← Array.forIn_toList]
 refine wpAny_forIn_list _ (fun rest r s'=>r.1=none∧s'=s∧∃ ks,cY knd s.heap ks rest) _ ?_ ?_ _ _ ⟨rfl,rfl,ks,hi⟩
 ·rintro v rest r s' ⟨hr,rfl,ks',hall⟩
  cases hall with
  | one h1 t=>
   rw [eqIsQuiet_byValue _ (knd.byValue _ _ h1)]
   refine wpAny_bind (wpAny_pure ?_)
   simp only [Bool.not_true,Bool.false_eq_true,if_false]
   exact wpAny_pure ⟨rfl,rfl,_,t⟩
  | tup h1 t=>
   refine wpAny_bind (aCe h1 ?_)
   simp only [Bool.not_true,Bool.false_eq_true,if_false]
   exact wpAny_pure ⟨rfl,rfl,_,t⟩
 ·rintro ⟨r1,r2⟩ s' ⟨hr,rfl,_⟩
  simp only at hr
  subst hr
  exact wpAny_pure h
end
def aEe {prog:Program}{w:World}{K:Type} [DecidableEq K] (f:Nat→Bool) (knd:KeyKind prog w K):HeapKind prog w (List (K ⊕ List K)) where
 is:=fun h ks a=>xX knd h ks a∧w6 f ks
 hash:=fun ks=>reduceHash (Builtin.Tuple.tupleHashOf (ks.map (kR knd)))
 draws:=fun ks=>(ks.map (pA (K:=K))).sum+1
 room:=fun A=>A.units+40<cLine
 inj:=fun hx hy=>hx.1.inj hy.1
 keeps:=fun x ho hd hs=>⟨x.1.keeps ho hd hs,x.2⟩
 pyHash:=fun hu hk h=>aDs hu hk.1 h
 eqBool:=fun hu hx hy h=>aBI hu hx.1 hy.1 (hx.2.compat hy.2) h
 quiet:=fun hk h=>aBY hk.1 h
abbrev NK:=List (rH ⊕ List rH)
inductive HO where
 | lst (xs:List V)
 | tup (xs:List V)
 | dK (kvs:List (rH×V)) | dT (K:PySem.W.Frag) (f:Nat→Bool) (kvs:List (NK×V))
 | set (S:Int→Bool) (n:Nat)
 | ins (C dx:Addr) (fs:List (Str×V))
 | own (x:Addr)
 | xd (fs:List (Str×V))
 | met (f x:Addr)
 | rng (lo hi:Int)
 | frz (o:Obj) (u:HO)
 | tbl (ps:Array Value)
 | tab (l c:Value) (q:Str)
 | ext (φ:Heap→Prop)
abbrev Hp:=Addr→Option HO
def upd (H:Hp) (a:Addr) (o:HO):Hp:=fun b=>if b=a then some o else H b
theorem bD {H:Hp}{a:Addr}{o:HO}:upd H a o a=some o:=by unfold upd;rw [if_pos rfl]
theorem a8 {H:Hp}{a b:Addr}{o:HO} (h:b≠a):upd H a o b=H b:=by unfold upd;rw [if_neg h]
theorem aCX {H:Hp}{a b:Addr}{o u:HO} (h:H a=some o) (h':H b=some u) (d:o≠u):a≠b:=by
 intro e;subst e;rw [h] at h';exact d (Option.some.inj h')
theorem b8 {H:Hp}{a b:Addr}{o:HO} (h:H a=some o) (h':H b=none):a≠b:=by
 intro e;subst e;rw [h] at h';cases h'
def u8 (K:PySem.W.Frag) (H:Hp) (a:Addr) (xs:List V):Prop:=
 (H a=some (.tup xs)∨∃ o,H a=some (.frz o (.tup xs))) ∨
  ∃ (o:Obj) (its:Array Value) (n:Nat),K.lookup a=some o∧o.cls = .type "tuple"∧o.data = .seq its n∧its.size≤sizeLine∧bO xs its.toList
theorem u8.mono {K:PySem.W.Frag}{H H':Hp}{a:Addr}{xs:List V} (h:u8 K H a xs) (ht:∀ b xs,H b=some (.tup xs)→H' b=some (.tup xs)) (hz:∀ b o u,H b=some (.frz o u)→H' b=some (.frz o u)):u8 K H' a xs:=by
 rcases h with (h | ⟨o,h⟩) | h
 ·exact .inl (.inl (ht _ _ h))
 ·exact .inl (.inr ⟨o,hz _ _ _ h⟩)
 ·exact .inr h
inductive NV (K:PySem.W.Frag) (H:Hp):NK→List V→Prop
 | nil:NV K H [] []
 | one {k:rH}{ks:NK}{vs:List V}:NV K H ks vs→NV K H (.inl k::ks) (kV k::vs)
 | tup {k:List rH}{b:Addr}{ks:NK}{vs:List V}:u8 K H b (k.map kV)→NV K H ks vs→NV K H (.inr k::ks) (.ref b::vs)
theorem NV.mono {K:PySem.W.Frag}{H H':Hp}{ks:NK}{vs:List V} (h:NV K H ks vs) (ht:∀ b xs,H b=some (.tup xs)→H' b=some (.tup xs)) (hz:∀ b o u,H b=some (.frz o u)→H' b=some (.frz o u)):NV K H' ks vs:=by
 induction h with
 | nil=>exact .nil
 | one _ ih=>exact .one ih
 | tup t _ ih=>exact .tup (t.mono ht hz) ih
def aCy (K:PySem.W.Frag) (H:Hp) (ks:NK) (b:Addr):Prop:=∃ xs,u8 K H b xs∧NV K H ks xs
theorem aCy.mono {K:PySem.W.Frag}{H H':Hp}{ks:NK}{b:Addr} (h:aCy K H ks b) (ht:∀ b xs,H b=some (.tup xs)→H' b=some (.tup xs)) (hz:∀ b o u,H b=some (.frz o u)→H' b=some (.frz o u)):aCy K H' ks b:=by
 obtain ⟨xs,h1,h2⟩:=h
 exact ⟨xs,h1.mono ht hz,h2.mono ht hz⟩
section
variable (P:Program) (w:World)
def eU (H:Hp) (h:Heap) (a:Addr):HO→Prop
 | .lst xs=>xs.length≤sizeLine∧∃ (its:List Value) (n:Nat),bO xs its∧h.get? a=some { cls:=.type "list",data:=.seq its.toArray n }
 | .tup xs=>xs.length≤sizeLine∧∃ its:List Value,bO xs its∧IsTup h a its.toArray
 | .dK kvs=>kvs.length≤sizeLine∧(a == sysModules)=false∧∃ vs,KV kvs vs∧h.DictOf (oX P w) a vs
 | .dT K f kvs=>kvs.length≤sizeLine∧(a == sysModules)=false∧∃ xs:List (NK×Addr×Value),
   Paired (fun (p:NK×V) (q:NK×Addr×Value)=>p.1=q.1∧w6 f p.1∧aCy K H p.1 q.2.1∧cC p.2 q.2.2) kvs xs ∧
   ∃ o es ep,h.get? a=some o∧o.ExactDict∧o.data = .dict es ep∧es.toList=xs.map (entryOfKey (aEe f (oX P w)))∧(xs.map (·.1)).Nodup
 | .set S n=>h.SetOf (intKind P w) a S n
 | .ins C dx fs=>H dx=some (.own a)∧fs.length≤1000∧dx≠a∧h.get? a=some (PySem.W.instObj C dx) ∧
   ∃ mA,h.Ns1 dx mA∧(∀ f,aDy (fs.lookup f) (mA f))∧PySem.Within mA (fs.map (·.1))
 | .own _=>∃ o,h.get? a=some o
 | .xd fs=>∃ mA,h.Ns1 a mA∧∀ f,aDy (fs.lookup f) (mA f)
 | .rng lo hi=>∃ t u v,h.get? a=some { cls:=.type "range",data:=.fields #[.int lo t,.int hi u,.int 1 v] }
 | .frz o u=>h.get? a=some o∧eU H h a u
 | .tbl ps=>h.get? a=some { cls:=.none,data:=.fields ps }
 | .tab l c q=>∃ ps:Array Value,h.get? a=some { cls:=.none,data:=.fields ps }∧(ps = #[]∨∃ (d:Addr) (oc:Obj) (u:HO) (vs:Array Value) (t:Tok),ps = #[l,c,.ref d]∧H d=some (.frz oc u)∧oc.data = .fields vs∧vs[1]? = some (.str q t))
 | .met f x=>h.get? a=some (PySem.W.methodObj (.ref f) (.ref x))
 | .ext φ=>φ h∧(∃ o,h.get? a=some o)∧∀ h1 h2:Heap,φ h1→(∀ o,h1.get? a=some o→h2.get? a=some o)→φ h2
def nE (H:Hp) (h:Heap):Prop:=∀ a o,H a=some o→eU P w H h a o
end
section
variable {P:Program}{w:World}{H H':Hp}{h h':Heap}{a:Addr}{o:HO}
theorem eU.lt (x:eU P w H h a o):a<h.objs.size:=by
 cases o with
 | lst xs=>obtain ⟨_,_,_,_,e⟩:=x;exact Heap.lt_size e
 | tup xs=>obtain ⟨_,_,_,p⟩:=x;exact p.lt
 | dK kvs=>obtain ⟨_,_,_,_,o,_,_,e,_⟩:=x;exact Heap.lt_size e
 | dT K f kvs=>obtain ⟨_,_,_,_,o,_,_,e,_⟩:=x;exact Heap.lt_size e
 | set S n=>obtain ⟨o,_,_,_,e,_⟩:=x;exact Heap.lt_size e
 | ins C dx fs=>obtain ⟨_,_,_,e,_⟩:=x;exact Heap.lt_size e
 | own y=>obtain ⟨_,e⟩:=x;exact Heap.lt_size e
 | xd fs=>obtain ⟨_,⟨_,_,_,e,_⟩,_⟩:=x;exact Heap.lt_size e
 | rng lo hi=>obtain ⟨_,_,_,e⟩:=x;exact Heap.lt_size e
 | frz ob u=>obtain ⟨e,_⟩:=x;exact Heap.lt_size e
 | tbl ps=>exact Heap.lt_size (show h.get? a=some _ from x)
 | tab l c q=>obtain ⟨_,e,_⟩:=x;exact Heap.lt_size e
 | met f y=>exact Heap.lt_size (show h.get? a=some _ from x)
 | ext φ=>obtain ⟨_,⟨_,e⟩,_⟩:=x;exact Heap.lt_size e
theorem Paired.mapP {α β:Type}{F G:α→β→Prop}:∀ {l₁:List α}{l₂:List β},Paired F l₁ l₂→(∀ a b,F a b→G a b)→Paired G l₁ l₂
 | _,_,.nil,_=>.nil
 | _,_,.cons r t,f=>.cons (f _ _ r) (Paired.mapP t f)
theorem eU.stay (x:eU P w H h a o) (k:∀ b u,(b=a∨H b=some (.own a))→h.get? b=some u→h'.get? b=some u)
  (ho:∀ b,H b=some (.own a)→H' b=some (.own a)) (ht:∀ b xs,H b=some (.tup xs)→H' b=some (.tup xs)) (hz:∀ b o u,H b=some (.frz o u)→H' b=some (.frz o u)):eU P w H' h' a o:=by
 induction o with
 | lst xs=>obtain ⟨z,its,n,r,e⟩:=x;exact ⟨z,its,n,r,k _ _ (.inl rfl) e⟩
 | tup xs=>obtain ⟨z,its,r,ob,e,c⟩:=x;exact ⟨z,its,r,ob,k _ _ (.inl rfl) e,c⟩
 | dK kvs=>obtain ⟨z,y,vs,r,ob,es,ep,e,c⟩:=x;exact ⟨z,y,vs,r,ob,es,ep,k _ _ (.inl rfl) e,c⟩
 | dT K f kvs=>
  obtain ⟨z,y,xs,r,ob,es,ep,e,c⟩:=x
  exact ⟨z,y,xs,Paired.mapP r fun p q z=>⟨z.1,z.2.1,z.2.2.1.mono ht hz,z.2.2.2⟩,ob,es,ep,k _ _ (.inl rfl) e,c⟩
 | set S n=>obtain ⟨ob,es,ep,t,e,c⟩:=x;exact ⟨ob,es,ep,t,k _ _ (.inl rfl) e,c⟩
 | ins C dx fs=>
  obtain ⟨d,z,ne,e,mA,⟨od,es,ep,e2,c⟩,r⟩:=x
  exact ⟨ho _ d,z,ne,k _ _ (.inl rfl) e,mA,⟨od,es,ep,k _ _ (.inr d) e2,c⟩,r⟩
 | own y=>obtain ⟨ob,e⟩:=x;exact ⟨ob,k _ _ (.inl rfl) e⟩
 | xd fs=>obtain ⟨mA,⟨od,es,ep,e,c⟩,r⟩:=x;exact ⟨mA,⟨od,es,ep,k _ _ (.inl rfl) e,c⟩,r⟩
 | rng lo hi=>obtain ⟨t,u,v,e⟩:=x;exact ⟨t,u,v,k _ _ (.inl rfl) e⟩
 | frz ob u ih=>obtain ⟨e,q⟩:=x;exact ⟨k _ _ (.inl rfl) e,ih q⟩
 | tbl ps=>
  have e:h.get? a=some { cls:=.none,data:=.fields ps }:=x
  show h'.get? a=some { cls:=.none,data:=.fields ps }
  exact k a _ (.inl rfl) e
 | tab l c q=>
  obtain ⟨ps,e,z⟩:=x
  refine ⟨ps,k _ _ (.inl rfl) e,?_⟩
  rcases z with z | ⟨d,oc,u,vs,t,z1,z2,z3⟩
  ·exact .inl z
  ·exact .inr ⟨d,oc,u,vs,t,z1,hz _ _ _ z2,z3⟩
 | met f y=>
  have e:h.get? a=some (PySem.W.methodObj (.ref f) (.ref y)):=x
  show h'.get? a=some (PySem.W.methodObj (.ref f) (.ref y))
  exact k a _ (.inl rfl) e
 | ext φ=>obtain ⟨p,⟨o,e⟩,st⟩:=x;exact ⟨st _ _ p fun o q=>k _ _ (.inl rfl) q,⟨o,k _ _ (.inl rfl) e⟩,st⟩
theorem nE.lt (x:nE P w H h) (e:H a=some o):a<h.objs.size:=(x a o e).lt
theorem nE.fresh (x:nE P w H h) (e:h.objs.size≤a):H a=none:=by
 cases q:H a with
 | none=>rfl
 | some u=>exact absurd (Nat.lt_of_lt_of_le (x.lt q) e) (Nat.lt_irrefl _)
theorem nE.kept (x:nE P w H h) (k:∀ b u,h.get? b=some u→h'.get? b=some u):nE P w H h':=fun a o e=>
 (x a o e).stay (fun b u _ q=>k b u q) (fun _ q=>q) (fun _ _ q=>q) fun _ _ _ q=>q
theorem nE.laid (x:nE P w H h) (k:∀ b u,h.get? b=some u→h'.get? b=some u) (hp:h.objs.size≤a) (new:eU P w (upd H a o) h' a o):nE P w (upd H a o) h':=fun b u e=>by
 have hn:=x.fresh hp
 by_cases hb:b=a
 ·subst hb;rw [bD] at e;cases e;exact new
 ·rw [a8 hb] at e
  exact (x b u e).stay (fun c v _ q=>k c v q) (fun c q=>by rw [a8 (b8 q hn)];exact q) (fun c xs q=>by rw [a8 (b8 q hn)];exact q) fun c ob u q=>by rw [a8 (b8 q hn)];exact q
end
def Rd (H:Hp) (a:Addr) (u:HO):Prop:=H a=some u∨∃ o,H a=some (.frz o u)
theorem Rd.ok {P:Program}{w:World}{H:Hp}{h:Heap}{a:Addr}{u:HO} (r:Rd H a u) (x:nE P w H h):eU P w H h a u:=by
 rcases r with r | ⟨o,r⟩
 ·exact x a u r
 ·obtain ⟨_,q⟩:=x a _ r
  exact q
def Mut:Option HO→Prop
 | some (.lst _)=>True
 | some (.dK _)=>True
 | some (.dT _ _ _)=>True
 | some (.set _ _)=>True
 | some (.ins _ _ _)=>True
 | some (.tab _ _ _)=>True
 | some (.ext _)=>True
 | _=>False
section
variable {P:Program}{w:World}{H:Hp}{h h':Heap}{x e:Addr}{o':HO}
theorem nE.write (ok:nE P w H h) (mu:Mut (H x)) (he:e=x∨H e=some (.own x)) (k:∀ b u,b≠e→h.get? b=some u→h'.get? b=some u) (heo:∃ u,h'.get? e=some u)
  (new:eU P w (upd H x o') h' x o'):nE P w (upd H x o') h':=fun b u q=>by
 have nown:∀ c y,H c=some (.own y)→c≠x:=fun c y r z=>by subst z;rw [r] at mu;exact mu
 have ntup:∀ c xs,H c=some (.tup xs)→c≠x:=fun c xs r z=>by subst z;rw [r] at mu;exact mu
 by_cases hb:b=x
 ·subst hb;rw [bD] at q;cases q;exact new
 ·rw [a8 hb] at q
  by_cases hbe:b=e
  ·have q':H b=some (.own x):=by
    rcases he with z | z
    ·exact absurd (hbe.trans z) hb
    ·rw [hbe];exact z
   rw [q] at q';cases q'
   obtain ⟨v,hv⟩:=heo
   exact ⟨v,by rw [hbe];exact hv⟩
  ·refine (ok b u q).stay (fun c v hc r=>k c v ?_ r) (fun c r=>by rw [a8 (nown c b r)];exact r) (fun c xs r=>by rw [a8 (ntup c xs r)];exact r) fun c ob u r=>by rw [a8 (fun z=>by subst z;rw [r] at mu;exact mu)];exact r
   rcases hc with rfl | hc
   ·exact hbe
   ·rintro rfl
    rcases he with z | z
    ·exact nown c b hc z
    ·rw [hc] at z;cases z;exact hb rfl
end
structure Un (fs ex:List Addr) (H H':Hp) (h h':Heap):Prop where
 keep:∀ b o,h.get? b=some o→H b=none→b∉fs→b∉ex→h'.get? b=some o
 slot:∀ b o,h.get? b=some o→H b=none→b∈fs→b∉ex→∃ sl,h'.get? b=some { o with slots:=sl }
 free:∀ b o,h.get? b=some o→H b=none→b∉ex→H' b=none
 there:∀ b o,h.get? b=some o→b∉ex→∃ o',h'.get? b=some o'
 tups:∀ b xs,H b=some (.tup xs)→H' b=some (.tup xs)
 frzs:∀ b o u,H b=some (.frz o u)→H' b=some (.frz o u)
 tbls:∀ b ps,H b=some (.tbl ps)→∃ more,H' b=some (.tbl (ps++more))
section
variable {fs fs' ex ex':List Addr}{H H1 H2:Hp}{h h1 h2 h':Heap}{a x e:Addr}{o:HO}
theorem Un.any (u:Un fs ex H H1 h h1) {b:Addr}{ob:Obj} (q:h.get? b=some ob) (n:H b=none) (hx:b∉ex):∃ sl,h1.get? b=some { ob with slots:=sl }:=by
 by_cases hb:b∈fs
 ·exact u.slot b ob q n hb hx
 ·exact ⟨ob.slots,u.keep b ob q n hb hx⟩
theorem Un.kept (k:∀ b u,h.get? b=some u→h'.get? b=some u):Un fs ex H H h h':=
 ⟨fun b ob q _ _ _=>k b ob q,fun b ob q _ _ _=>⟨ob.slots,k b ob q⟩,fun _ _ _ n _=>n,fun b ob q _=>⟨ob,k b ob q⟩,fun _ _ q=>q,fun _ _ _ q=>q,fun _ ps q=>⟨#[],by rw [q];simp⟩⟩
theorem Un.refl:Un fs ex H H h h:=Un.kept fun _ _ q=>q
theorem Un.laid (k:∀ b u,h.get? b=some u→h'.get? b=some u) (hp:h.objs.size≤a) (hn:H a=none):Un fs ex H (upd H a o) h h' where
 keep:=fun b u q _ _ _=>k b u q
 slot:=fun b u q _ _ _=>⟨u.slots,k b u q⟩
 free:=fun b u q n _=>by rw [a8 (Nat.ne_of_lt (Nat.lt_of_lt_of_le (Heap.lt_size q) hp))];exact n
 there:=fun b u q _=>⟨u,k b u q⟩
 tups:=fun b xs q=>by rw [a8 (b8 q hn)];exact q
 frzs:=fun b u xs q=>by rw [a8 (b8 q hn)];exact q
 tbls:=fun b ps q=>⟨#[],by rw [a8 (b8 q hn),q];simp⟩
theorem Un.write (mu:Mut (H x)) (he:e=x∨H e=some (.own x)) (k:∀ b u,b≠e→h.get? b=some u→h'.get? b=some u) (heo:∃ u,h'.get? e=some u):Un fs ex H (upd H x o) h h':=by
 have hx:∀ b,H b=none→b≠x:=fun b n z=>by subst z;rw [n] at mu;exact mu
 have hb:∀ b,H b=none→b≠e:=fun b n z=>by
  subst z
  rcases he with r | r
  ·exact hx b n r
  ·rw [n] at r;cases r
 have hm:∀ b u,H b=some u→¬ Mut (some u)→b≠x:=fun b u q nm z=>by subst z;rw [q] at mu;exact nm mu
 refine ⟨fun b u q n _ _=>k b u (hb b n) q,fun b u q n _ _=>⟨u.slots,k b u (hb b n) q⟩,fun b u q n _=>by rw [a8 (hx b n)];exact n,fun b u q _=>?_,
  fun b xs q=>by rw [a8 (hm b _ q fun z=>z)];exact q,fun b u xs q=>by rw [a8 (hm b _ q fun z=>z)];exact q,fun b ps q=>⟨#[],by rw [a8 (hm b _ q fun z=>z),q];simp⟩⟩
 by_cases hbe:b=e
 ·subst hbe;exact heo
 ·exact ⟨u,k b u hbe q⟩
end
def trk (h:Heap) (H:Hp):List Addr:=(List.range h.objs.size).filter fun a=>(H a).isSome
def tS (h:Heap) (H:Hp):Heap:=PySem.W.hideAll h (trk h H)
theorem z9 (h:Heap) (H:Hp):(tS h H).objs.size=h.objs.size:=PySem.W.hideAll_size _ _
theorem aBo {h:Heap}{H:Hp}{b:Addr}{o:Obj} (e:h.get? b=some o) (n:H b=none):(tS h H).get? b=some o:=
 PySem.W.hideAll_get _ e fun hm=>by
  have q:(H b).isSome=true:=(List.mem_filter.mp hm).2
  rw [n] at q;simp at q
theorem aBT {h:Heap}{H:Hp}{b:Addr}{o:Obj} (e:(tS h H).get? b=some o):h.get? b=some o∧H b=none:=by
 have e':h.get? b=some o:=PySem.W.of_hideAll (trk h H) e
 refine ⟨e',?_⟩
 cases q:H b with
 | none=>rfl
 | some x=>
  have hm:b∈trk h H:=List.mem_filter.mpr ⟨List.mem_range.mpr (Heap.lt_size e'),by simp [q]⟩
  have z:(tS h H).get? b=none:=PySem.W.hideAll_none (trk h H) hm
  rw [z] at e;cases e
structure Mod (K:PySem.W.Frag) (mg:Str→Option Value) (base:Heap):Prop where
 kin:K.In base
 glob:base.Ns mainGlobals mg
 blt:∃ mb,base.Ns builtinsNs mb∧∀ x:Str,x≠"__name__"→mb x=bootBuiltins x
 nolimit:base.NoLimit
structure Cx where
 prog:Program
 w:World
 K:PySem.W.Frag
 mg:Str→Option Value
 base:Heap
 A:Around
 N:List Str
 s₀:Shared
 H₀:Hp
 env:Env
 outer:List Env
 stack:List Env
 ex:List Addr
 fn:Str→Bool
 calm:Bool
 pn:List (Addr×Obj)
 xe:Value→Shared→Prop
def frs (l:List Env):List Addr:=l.filterMap (·.frame)
abbrev Cx.fs (X:Cx):List Addr:=frs X.outer
def Vis (sc:Scope) (x:Str):Prop:=sc.names.lookup x=some .local∨sc.names.lookup x=some .cell∨sc.names.lookup x=some .free
def Loc (sc:Scope) (x:Str):Prop:=sc.names.lookup x=some .local∨sc.names.lookup x=some .cell
def aE3 (env:Env) (h:Heap) (m:Str→Option Value) (x:Str) (u:Value):Prop:=
 (env.kindOf x=some .local∧m x=some u)∨((env.kindOf x=some .cell∨env.kindOf x=some .free)∧∃ c,env.cells.lookup x=some c∧h.IsCell c (some u))
structure Cx.Ok (X:Cx):Prop where
 mod:Mod X.K X.mg X.base
 kind:X.env.scope.kind = .function
 glob:X.env.globals=mainGlobals
 blt:X.env.builtins=builtinsNs
 above:X.s₀.heap.objs.size≤X.env.locals
 inj:∀ x y c,X.env.cells.lookup x=some c→X.env.cells.lookup y=some c→x=y
 has:∀ x,(X.env.kindOf x=some .cell∨X.env.kindOf x=some .free)→∃ c,X.env.cells.lookup x=some c
 cab:∀ x c,X.fn x=true→X.env.cells.lookup x=some c→X.s₀.heap.objs.size≤c
 hd:X.calm=true→X.A.handled=none
 frames:X.A.frames=some X.stack
 stk:X.stack=X.outer∨(X.stack=X.env::X.outer∧X.env.frame=some X.env.locals)
 exf:∀ b∈X.ex,b≠X.env.locals∧∀ x c,X.env.cells.lookup x=some c→c≠b
 bs:∀ b o,X.base.get? b=some o→X.s₀.heap.get? b=some o∧X.H₀ b=none
 bsz:X.base.objs.size≤X.s₀.heap.objs.size
 noex:∀ b o,X.base.get? b=some o→b∉X.ex
 exfs:∀ b∈X.ex,b∉X.fs
 funs:X.s₀.heap.FunFrames X.base X.outer
 frf:∀ b∈X.fs,X.H₀ b=none
structure aP (X:Cx) (pins:List (Addr×Obj)) (σ:List (Option V)) (H:Hp) (s:Shared):Prop where
 ok:X.Ok
 os:s.os=X.s₀.os
 bare:AllBare s.gens
 base:Un X.fs X.ex X.H₀ H X.s₀.heap s.heap
 loc:∃ m,s.heap.Ns X.env.locals m∧∀ (i:Nat) (x:Str) (v:V),X.N[i]? = some x→σ[i]? = some (some v)→Vis X.env.scope x→∃ u,cC v u∧aE3 X.env s.heap m x u
 cell:∀ x c,X.env.cells.lookup x=some c→∃ v,s.heap.IsCell c v
 free:H X.env.locals=none
 freeC:∀ x c,X.env.cells.lookup x=some c→H c=none
 pin:∀ p∈X.pn++pins,s.heap.get? p.1=some p.2∧H p.1=none∧p.1≠X.env.locals∧p.1∉X.fs∧∀ v,p.2.data≠.cell v
 hok:nE X.prog X.w H s.heap
 len:σ.length=X.N.length
section
variable {X:Cx}{pins:List (Addr×Obj)}{σ:List (Option V)}{H H':Hp}{s:Shared}{h':Heap}
theorem Cx.Ok.nofr (ok:X.Ok) {b:Addr}{o:Obj} (e:X.base.get? b=some o):b∉X.fs:=fun hb=>by
 have:=(ok.funs.mem hb).1
 rw [e] at this;cases this
theorem aP.bs (I:aP X pins σ H s):∀ b o,X.base.get? b=some o→s.heap.get? b=some o∧H b=none:=fun b o e=>
 ⟨I.base.keep b o (I.ok.bs b o e).1 (I.ok.bs b o e).2 (I.ok.nofr e) (I.ok.noex b o e),I.base.free b o (I.ok.bs b o e).1 (I.ok.bs b o e).2 (I.ok.noex b o e)⟩
theorem aP.bk (I:aP X pins σ H s):∀ b o,X.base.get? b=some o→s.heap.get? b=some o:=fun b o e=>(I.bs b o e).1
theorem aP.mod (I:aP X pins σ H s):Mod X.K X.mg X.base:=I.ok.mod
theorem aP.kIn (I:aP X pins σ H s):X.K.In s.heap:=I.ok.mod.kin.keeps I.bk
theorem aP.lt (I:aP X pins σ H s):X.env.locals<s.heap.objs.size:=let ⟨_,hn,_⟩:=I.loc;hn.lt
theorem aP.sz (I:aP X pins σ H s):X.s₀.heap.objs.size≤s.heap.objs.size:=Nat.le_trans I.ok.above (Nat.le_of_lt I.lt)
theorem aP.nofs (I:aP X pins σ H s) {a:Addr} (h:s.heap.objs.size≤a):a∉X.fs:=fun hb=>by
 obtain ⟨_,o,ho,_⟩:=I.ok.funs.mem hb
 exact absurd (Nat.lt_of_lt_of_le (Heap.lt_size ho) (Nat.le_trans I.sz h)) (Nat.lt_irrefl _)
theorem aP.cne (I:aP X pins σ H s):∀ x c,X.env.cells.lookup x=some c→c≠X.env.locals:=fun x c e z=>by
 obtain ⟨v,o,ho,hd⟩:=I.cell x c e
 obtain ⟨m,⟨o',es,ep,ho',hd',_⟩,_⟩:=I.loc
 rw [z,ho'] at ho;cases ho;rw [hd'] at hd;cases hd
theorem aP.funs (I:aP X pins σ H s):s.heap.FunFrames X.base X.outer:=by
 have all:∀ (l:List Env),(∀ b∈frs l,b∈X.fs)→X.s₀.heap.FunFrames X.base l→s.heap.FunFrames X.base l:=by
  intro l
  induction l with
  | nil=>intro _ _;trivial
  | cons env r ih=>
   intro hs hl
   obtain ⟨hk,⟨L,o,hf,hn,ho,hd⟩,hr⟩:=hl
   have hL:L∈X.fs:=hs L (by unfold frs;rw [List.filterMap_cons,hf];exact List.mem_cons_self)
   obtain ⟨sl,e⟩:=I.base.slot L o ho (I.ok.frf L hL) hL fun z=>I.ok.exfs L z hL
   exact ⟨hk,⟨L,_,hf,hn,e,hd⟩,ih (fun b hb=>hs b (by unfold frs;rw [List.filterMap_cons,hf];exact List.mem_cons_of_mem _ hb)) hr⟩
 exact all X.outer (fun _ hb=>hb) I.ok.funs
theorem aP.stack (I:aP X pins σ H s):s.heap.FunFrames X.base X.stack:=by
 rcases I.ok.stk with e | ⟨e,hf⟩
 ·rw [e];exact I.funs
 ·rw [e]
  obtain ⟨m,hn,_⟩:=I.loc
  refine .cons (by rw [I.ok.kind];decide) hf hn ?_ I.funs
  exact Heap.get?_none_of_le (Nat.le_trans I.ok.bsz I.ok.above)
theorem aP.stkSub (I:aP X pins σ H s):∀ b∈frs X.stack,b∈X.env.locals::X.fs:=fun b hb=>by
 rcases I.ok.stk with e | ⟨e,hf⟩
 ·rw [e] at hb;exact List.mem_cons_of_mem _ hb
 ·rw [e] at hb
  unfold frs at hb
  rw [List.filterMap_cons,hf] at hb
  exact hb
theorem aP.stkFree (I:aP X pins σ H s):∀ b∈frs X.stack,H b=none:=fun b hb=>by
 rcases List.mem_cons.mp (I.stkSub b hb) with e | hb
 ·rw [e];exact I.free
 ·obtain ⟨_,o,ho,_⟩:=I.ok.funs.mem hb
  exact I.base.free b o ho (I.ok.frf b hb) fun z=>I.ok.exfs b z hb
theorem aP.step {g':Array GenState}{t':Nat}{d':Drawn}{ch:List Addr} (I:aP X pins σ H s)
  (hch:∀ b∈ch,(b∈X.ex∨X.s₀.heap.objs.size≤b)∧b≠X.env.locals∧(∀ x c,X.env.cells.lookup x=some c→c≠b)∧∀ p∈X.pn++pins,p.1≠b)
  (keep:∀ b o,b≠X.env.locals→b∉X.fs→b∉ch→s.heap.get? b=some o→H b=none→h'.get? b=some o)
  (slot:∀ b o,b≠X.env.locals→b∈X.fs→b∉ch→s.heap.get? b=some o→H b=none→∃ sl,h'.get? b=some { o with slots:=sl }) (free:∀ b o,b∉ch→s.heap.get? b=some o→H b=none→H' b=none)
  (there:∀ b o,b∉ch→s.heap.get? b=some o→∃ o',h'.get? b=some o')
  (tups:∀ b xs,H b=some (.tup xs)→H' b=some (.tup xs)) (frzs:∀ b o u,H b=some (.frz o u)→H' b=some (.frz o u)) (tbls:∀ b ps,H b=some (.tbl ps)→∃ more,H' b=some (.tbl (ps++more)))
  (ns:∀ m,s.heap.Ns X.env.locals m→h'.Ns X.env.locals m) (hok:nE X.prog X.w H' h') (hg:AllBare g') :
  aP X pins σ H' { s with heap:=h',gens:=g',drawn:=d',toks:=t' }:=by
 have neL:∀ b o,X.s₀.heap.get? b=some o→b≠X.env.locals:=fun b o e=>Nat.ne_of_lt (Nat.lt_of_lt_of_le (Heap.lt_size e) I.ok.above)
 have neC:∀ b o,X.s₀.heap.get? b=some o→b∉X.ex→b∉ch:=fun b o e hx hb=>by
  rcases (hch b hb).1 with z | z
  ·exact hx z
  ·exact absurd (Nat.lt_of_lt_of_le (Heap.lt_size e) z) (Nat.lt_irrefl _)
 have cellK:∀ x c,X.env.cells.lookup x=some c→∀ v,s.heap.IsCell c v→h'.IsCell c v:=fun x c e v ⟨o,ho,hd⟩=>by
  have nch:c∉ch:=fun z=>(hch c z).2.2.1 x c e rfl
  by_cases hc:c∈X.fs
  ·obtain ⟨sl,q⟩:=slot c o (I.cne x c e) hc nch ho (I.freeC x c e)
   exact ⟨_,q,hd⟩
  ·exact ⟨o,keep c o (I.cne x c e) hc nch ho (I.freeC x c e),hd⟩
 refine ⟨I.ok,I.os,hg,⟨fun b o e n hb hx=>?_,fun b o e n hb hx=>?_,fun b o e n hx=>?_,fun b o e hx=>?_,fun b xs e=>tups b xs (I.base.tups b xs e),fun b o xs e=>frzs b o xs (I.base.frzs b o xs e),fun b ps e=>?_⟩,?_,fun x c e=>?_,?_,fun x c e=>?_,fun p hp=>?_,hok,I.len⟩
 ·exact keep b o (neL b o e) hb (neC b o e hx) (I.base.keep b o e n hb hx) (I.base.free b o e n hx)
 ·obtain ⟨sl,e1⟩:=I.base.slot b o e n hb hx
  obtain ⟨sl',e2⟩:=slot b _ (neL b o e) hb (neC b o e hx) e1 (I.base.free b o e n hx)
  exact ⟨sl',e2⟩
 ·obtain ⟨o',e1⟩:=I.base.there b o e hx
  exact free b o' (neC b o e hx) e1 (I.base.free b o e n hx)
 ·obtain ⟨o',e1⟩:=I.base.there b o e hx
  exact there b o' (neC b o e hx) e1
 ·obtain ⟨m1,e1⟩:=I.base.tbls b ps e
  obtain ⟨m2,e2⟩:=tbls b _ e1
  exact ⟨m1++m2,by rw [e2,Array.append_assoc]⟩
 ·obtain ⟨m,hn,hl⟩:=I.loc
  refine ⟨m,ns m hn,fun i x v e1 e2 e3=>?_⟩
  obtain ⟨u,r,l⟩:=hl i x v e1 e2 e3
  refine ⟨u,r,?_⟩
  rcases l with l | ⟨k,c,e,z⟩
  ·exact .inl l
  ·exact .inr ⟨k,c,e,cellK x c e _ z⟩
 ·obtain ⟨v,z⟩:=I.cell x c e
  exact ⟨v,cellK x c e v z⟩
 ·obtain ⟨m,⟨o,_,_,ho,_⟩,_⟩:=I.loc
  exact free _ o (fun z=>(hch _ z).2.1 rfl) ho I.free
 ·obtain ⟨v,o,ho,hd⟩:=I.cell x c e
  exact free c o (fun z=>(hch c z).2.2.1 x c e rfl) ho (I.freeC x c e)
 ·obtain ⟨e,n,ne,nf,d⟩:=I.pin p hp
  have nch:p.1∉ch:=fun z=>(hch p.1 z).2.2.2 p hp rfl
  exact ⟨keep p.1 p.2 ne nf nch e n,free p.1 p.2 nch e n,ne,nf,d⟩
theorem aP.un {t':Nat} (I:aP X pins σ H s) (u:Un X.fs [] H H' s.heap h') (hok:nE X.prog X.w H' h'):aP X pins σ H' { s with heap:=h',toks:=t' }:=by
 obtain ⟨m,⟨o,es,ep,ho,r⟩,_⟩:=id I.loc
 obtain ⟨sl,hL⟩:=u.any ho I.free (by simp)
 exact I.step (g':=s.gens) (d':=s.drawn) (ch:=[]) (fun _ z=>nomatch z) (fun b o _ hb _ e n=>u.keep b o e n hb (by simp)) (fun b o _ hb _ e n=>u.slot b o e n hb (by simp)) (fun b o _ e n=>u.free b o e n (by simp)) (fun b o _ e=>u.there b o e (by simp)) u.tups u.frzs u.tbls (fun m' hm=>by
  obtain ⟨o',es',ep',ho',r'⟩:=hm
  rw [ho] at ho';cases ho'
  exact ⟨_,es',ep',hL,r'⟩) hok I.bare
theorem aP.call {g':Array GenState}{t':Nat}{d':Drawn}{ch:List Addr} (I:aP X pins σ H s) (u:Un (frs X.stack) ch H H' s.heap h') (hok:nE X.prog X.w H' h') (hg:AllBare g')
  (hch:∀ b∈ch,(b∈X.ex∨X.s₀.heap.objs.size≤b)∧b≠X.env.locals∧(∀ x c,X.env.cells.lookup x=some c→c≠b)∧∀ p∈X.pn++pins,p.1≠b) :
  aP X pins σ H' { s with heap:=h',gens:=g',drawn:=d',toks:=t' }:=by
 obtain ⟨m,⟨o,es,ep,ho,r⟩,_⟩:=id I.loc
 obtain ⟨sl,hL⟩:=u.any ho I.free fun z=>(hch _ z).2.1 rfl
 exact I.step (ch:=ch) hch (fun b o hL hb hc e n=>u.keep b o e n (fun z=>(List.mem_cons.mp (I.stkSub b z)).elim hL hb) hc) (fun b o _ _ hc e n=>u.any e n hc) (fun b o hc e n=>u.free b o e n hc) (fun b o hc e=>u.there b o e hc) u.tups u.frzs u.tbls (fun m' hm=>by
  obtain ⟨o',es',ep',ho',r'⟩:=hm
  rw [ho] at ho';cases ho'
  exact ⟨_,es',ep',hL,r'⟩) hok hg
theorem aP.turned {t':Nat}{it:Addr} (I:aP X pins σ H s) (k:∀ b o,b≠it→s.heap.get? b=some o→h'.get? b=some o) (hn:H it=none) (hL:it≠X.env.locals)
  (h1:it∈X.ex∨X.s₀.heap.objs.size≤it) (h2:∀ x c,X.env.cells.lookup x=some c→c≠it) (h3:∀ p∈X.pn++pins,p.1≠it):aP X pins σ H { s with heap:=h',toks:=t' }:=by
 have nit:∀ b u,H b=some u→b≠it:=fun b u e z=>by rw [z,hn] at e;cases e
 refine I.step (g':=s.gens) (d':=s.drawn) (ch:=[it]) (fun b hb=>?_) (fun b o _ _ hc e _=>k b o (fun z=>hc (by simp [z])) e) (fun b o _ _ hc e _=>⟨o.slots,k b o (fun z=>hc (by simp [z])) e⟩) (fun _ _ _ _ n=>n)
  (fun b o hc e=>⟨o,k b o (fun z=>hc (by simp [z])) e⟩) (fun _ _ e=>e) (fun _ _ _ e=>e) (fun b ps e=>⟨#[],by rw [e];simp⟩) (fun m hm=>?_) (fun b u e=>?_) I.bare
 ·have e:b=it:=by simpa using hb
  subst e
  exact ⟨h1,hL,h2,h3⟩
 ·obtain ⟨o,es,ep,ho,r⟩:=hm
  exact ⟨o,es,ep,k _ o (Ne.symm hL) ho,r⟩
 ·refine (I.hok b u e).stay (fun c v hc q=>k c v ?_ q) (fun _ q=>q) (fun _ _ q=>q) fun _ _ _ q=>q
  rcases hc with z | z
  ·rw [z];exact nit b u e
  ·exact nit c _ z
theorem aP.tok (I:aP X pins σ H s) (t:Nat):aP X pins σ H { s with toks:=t }:=I.un (h':=s.heap) (t':=t) Un.refl I.hok
theorem aP.kept {t':Nat} (I:aP X pins σ H s) (k:∀ b u,s.heap.get? b=some u→h'.get? b=some u):aP X pins σ H { s with heap:=h',toks:=t' }:=I.un (Un.kept k) (I.hok.kept k)
theorem aP.laid {a:Addr}{o:HO}{t':Nat} (I:aP X pins σ H s) (k:∀ b u,s.heap.get? b=some u→h'.get? b=some u) (hp:s.heap.objs.size≤a) (new:eU X.prog X.w (upd H a o) h' a o) :
  aP X pins σ (upd H a o) { s with heap:=h',toks:=t' }:=I.un (Un.laid k hp (I.hok.fresh hp)) (I.hok.laid k hp new)
theorem aP.write {x e:Addr}{o:HO}{t':Nat} (I:aP X pins σ H s) (mu:Mut (H x)) (he:e=x∨H e=some (.own x)) (k:∀ b u,b≠e→s.heap.get? b=some u→h'.get? b=some u) (heo:∃ u,h'.get? e=some u)
  (new:eU X.prog X.w (upd H x o) h' x o):aP X pins σ (upd H x o) { s with heap:=h',toks:=t' }:=I.un (Un.write mu he k heo) (I.hok.write mu he k heo new)
theorem aP.weak {σ':List (Option V)} (I:aP X pins σ H s) (hl:σ'.length=σ.length) (w:∀ (i:Nat) v,σ'[i]? = some (some v)→σ[i]? = some (some v)):aP X pins σ' H s:=
 ⟨I.ok,I.os,I.bare,I.base,let ⟨m,hn,hl'⟩:=I.loc; ⟨m,hn,fun i x v e1 e2 e3=>hl' i x v e1 (w i v e2) e3⟩,I.cell,I.free,I.freeC,I.pin,I.hok,hl.trans I.len⟩
theorem aP.pins_of {pins':List (Addr×Obj)} (I:aP X pins σ H s) (h:∀ p∈pins',s.heap.get? p.1=some p.2∧H p.1=none∧p.1≠X.env.locals∧p.1∉X.fs∧∀ v,p.2.data≠.cell v):aP X pins' σ H s:=
 ⟨I.ok,I.os,I.bare,I.base,I.loc,I.cell,I.free,I.freeC,fun p hp=>(List.mem_append.mp hp).elim (fun z=>I.pin p (List.mem_append_left _ z)) (h p),I.hok,I.len⟩
theorem pC {N:List Str} (hN:N.Nodup) {i j:Nat}{x:Str} (a:N[i]? = some x) (b:N[j]? = some x):i=j:=by
 obtain ⟨h1,e1⟩:=List.getElem?_eq_some_iff.mp a
 obtain ⟨h2,e2⟩:=List.getElem?_eq_some_iff.mp b
 exact (List.getElem_inj hN).mp (e1.trans e2.symm)
theorem rZ {M:Model}{A:Around}{E:Value→Shared→Prop}{i:Nat}{x:Str}{v:V}{u:Value}{Q:Unit→Shared→Prop} (I:aP X pins σ H s) (hN:X.N.Nodup) (hi:X.N[i]? = some x) (hx:Loc X.env.scope x) (r:cC v u)
  (h:∀ s',aP X pins (σ.set i (some v)) H s'→(∃ a,Heap.SameBut a s.heap s'.heap∧(a=X.env.locals∨X.env.cells.lookup x=some a))→Q () s') (hf:X.fn x=true∨X.env.scope.names.lookup x=some .local:=by first | exact .inl rfl | exact .inr rfl | assumption):wpAny M A (storeName X.env x u) Q E s:=by
 obtain ⟨m,hn,hl⟩:=id I.loc
 have hcls:(X.env.scope.kind == .class || (X.env.scope.kind == .module && X.env.locals != X.env.globals))=false:=by rw [I.ok.kind];rfl
 have hiσ:i<σ.length:=by rw [I.len];exact (List.getElem?_eq_some_iff.mp hi).1
 have cne:=I.cne
 have tracked:∀ {a:Addr}{h':Heap},(∃ o,s.heap.get? a=some o∧H a=none)→Heap.SameBut a s.heap h'→nE X.prog X.w H h':=fun {a h'} ha hs b ob e=>by
  obtain ⟨_,_,hfree⟩:=ha
  refine (I.hok b ob e).stay (fun c w' hc q=>(hs.2 c ?_).trans q) (fun _ q=>q) (fun _ _ q=>q) fun _ _ _ q=>q
  rintro rfl
  rcases hc with rfl | hc
  ·rw [hfree] at e;cases e
  ·rw [hfree] at hc;cases hc
 rcases hx with hk | hk
 ·refine wpAny_storeName_local hk hn (fun h' hn' hs=>?_) hcls
  obtain ⟨oL,_,_,hoL,_⟩:=id hn
  refine h _ ⟨I.ok,I.os,I.bare,⟨fun b o e n hb hx=>?_,fun b o e n hb hx=>?_,I.base.free,fun b o e hx=>?_,I.base.tups,I.base.frzs,I.base.tbls⟩,⟨_,hn',fun j y v' e1 e2 e3=>?_⟩,fun y c e=>?_,I.free,I.freeC,fun p hp=>?_,tracked ⟨oL,hoL,I.free⟩ hs,by simpa using I.len⟩ ⟨_,hs,.inl rfl⟩
  ·exact (hs.2 b (Nat.ne_of_lt (Nat.lt_of_lt_of_le (Heap.lt_size e) I.ok.above))).trans (I.base.keep b o e n hb hx)
  ·obtain ⟨sl,e1⟩:=I.base.slot b o e n hb hx
   exact ⟨sl,(hs.2 b (Nat.ne_of_lt (Nat.lt_of_lt_of_le (Heap.lt_size e) I.ok.above))).trans e1⟩
  ·obtain ⟨o',e1⟩:=I.base.there b o e hx
   exact ⟨o',(hs.2 b (Nat.ne_of_lt (Nat.lt_of_lt_of_le (Heap.lt_size e) I.ok.above))).trans e1⟩
  ·by_cases hj:j=i
   ·subst hj
    rw [hi] at e1;cases e1
    rw [List.getElem?_set_self hiσ] at e2
    cases e2
    exact ⟨u,r,.inl ⟨hk,by simp⟩⟩
   ·rw [List.getElem?_set_ne (Ne.symm hj)] at e2
    obtain ⟨u',r',q⟩:=hl j y v' e1 e2 e3
    refine ⟨u',r',?_⟩
    rcases q with ⟨k,e⟩ | ⟨k,c,e,z⟩
    ·refine .inl ⟨k,?_⟩
     have:y≠x:=fun e=>hj (pC hN e1 (e ▸ hi))
     simp [this,e]
    ·exact .inr ⟨k,c,e,z.sameBut hs (cne y c e)⟩
  ·obtain ⟨w',z⟩:=I.cell y c e
   exact ⟨w',z.sameBut hs (cne y c e)⟩
  ·obtain ⟨e,n,ne,nf,d⟩:=I.pin p hp
   exact ⟨(hs.2 p.1 ne).trans e,n,ne,nf,d⟩
 ·have hfn:X.fn x=true:=by
   rcases hf with z | z
   ·exact z
   ·rw [z] at hk;cases hk
  obtain ⟨c,hc⟩:=I.ok.has x (.inl hk)
  obtain ⟨w',z⟩:=I.cell x c hc
  refine wpAny_storeName_cell I.ok.kind hk hc z (fun h' hc' hs=>?_)
  obtain ⟨oc,hoc,hocd⟩:=id z
  refine h { s with heap:=h' } ⟨I.ok,I.os,I.bare,⟨fun b o e n hb hx=>?_,fun b o e n hb hx=>?_,I.base.free,fun b o e hx=>?_,I.base.tups,I.base.frzs,I.base.tbls⟩,⟨m,hn.sameBut hs (Ne.symm (cne x c hc)),fun j y v' e1 e2 e3=>?_⟩,fun y c' e=>?_,I.free,I.freeC,fun p hp=>?_,tracked ⟨oc,hoc,I.freeC x c hc⟩ hs,by simpa using I.len⟩ ⟨c,hs,.inr hc⟩
  ·exact (hs.2 b (Nat.ne_of_lt (Nat.lt_of_lt_of_le (Heap.lt_size e) (I.ok.cab x c hfn hc)))).trans (I.base.keep b o e n hb hx)
  ·obtain ⟨sl,e1⟩:=I.base.slot b o e n hb hx
   exact ⟨sl,(hs.2 b (Nat.ne_of_lt (Nat.lt_of_lt_of_le (Heap.lt_size e) (I.ok.cab x c hfn hc)))).trans e1⟩
  ·obtain ⟨o',e1⟩:=I.base.there b o e hx
   exact ⟨o',(hs.2 b (Nat.ne_of_lt (Nat.lt_of_lt_of_le (Heap.lt_size e) (I.ok.cab x c hfn hc)))).trans e1⟩
  ·by_cases hj:j=i
   ·subst hj
    rw [hi] at e1;cases e1
    rw [List.getElem?_set_self hiσ] at e2
    cases e2
    exact ⟨u,r,.inr ⟨.inl hk,c,hc,hc'⟩⟩
   ·rw [List.getElem?_set_ne (Ne.symm hj)] at e2
    obtain ⟨u',r',q⟩:=hl j y v' e1 e2 e3
    refine ⟨u',r',?_⟩
    rcases q with q | ⟨k,c',e,z'⟩
    ·exact .inl q
    ·refine .inr ⟨k,c',e,z'.sameBut hs ?_⟩
     rintro rfl
     exact hj (pC hN e1 (I.ok.inj _ _ _ e hc ▸ hi))
  ·by_cases hcc:c'=c
   ·subst hcc;exact ⟨_,hc'⟩
   ·obtain ⟨w2,z2⟩:=I.cell y c' e
    exact ⟨w2,z2.sameBut hs hcc⟩
  ·obtain ⟨e,n,ne,nf,d⟩:=I.pin p hp
   refine ⟨(hs.2 p.1 ?_).trans e,n,ne,nf,d⟩
   intro q
   rw [q,hoc] at e
   have q':oc=p.2:=Option.some.inj e
   exact d w' (by rw [← q'];exact hocd)
theorem pE {M:Model}{A:Around}{E:Value→Shared→Prop}{i:Nat}{x:Str}{v:V}{u:Value}{Q:Unit→Shared→Prop} (I:aP X pins σ H s) (hN:X.N.Nodup) (hi:X.N[i]? = some x) (hx:Loc X.env.scope x) (r:cC v u)
  (h:∀ s',aP X pins (σ.set i (some v)) H s'→Q () s') (hf:X.fn x=true∨X.env.scope.names.lookup x=some .local:=by first | exact .inl rfl | exact .inr rfl | assumption):wpAny M A (storeName X.env x u) Q E s:=
 rZ I hN hi hx r (fun s' I' _=>h s' I') hf
theorem aP.call' {s':Shared}{ch:List Addr} (I:aP X pins σ H s) (ho:s'.os=s.os) (u:Un (frs X.stack) ch H H' s.heap s'.heap) (hok:nE X.prog X.w H' s'.heap) (hg:AllBare s'.gens)
  (hch:∀ b∈ch,(b∈X.ex∨X.s₀.heap.objs.size≤b)∧b≠X.env.locals∧(∀ x c,X.env.cells.lookup x=some c→c≠b)∧∀ p∈X.pn++pins,p.1≠b):aP X pins σ H' s':=by
 obtain ⟨h',g',d',t',o'⟩:=s'
 have e:o'=s.os:=ho
 subst e
 exact I.call (g':=g') (t':=t') (d':=d') u hok hg hch
end
abbrev XK:=Value→Option Addr→Hp→Prop
abbrev St:=List (Option V)
abbrev VK:=V→Hp→Prop
abbrev TE:=St→Hp→VK→Prop
abbrev TT:=St→Hp→(Bool→Hp→Prop)→Prop
abbrev TA:=St→Hp→(List V→Hp→Prop)→Prop
structure qF where
 nx:St→Hp→Prop
 rt:VK
 bk:St→Hp→Prop:=fun _ _=>False
 ct:St→Hp→Prop:=fun _ _=>False
abbrev TS:=qF→St→Hp→Prop
def EP (X:Cx) (pins:List (Addr×Obj)) (σ:St) (Q:VK) (u:Value) (s':Shared):Prop:=∃ v H',aP X pins σ H' s'∧cC v u∧Q v H'
def TP (X:Cx) (pins:List (Addr×Obj)) (σ:St) (Q:Bool→Hp→Prop) (b:Bool) (s':Shared):Prop:=∃ H',aP X pins σ H' s'∧Q b H'
def AP (X:Cx) (pins:List (Addr×Obj)) (σ:St) (Q:List V→Hp→Prop) (us:List Value) (s':Shared):Prop:=∃ vs H',aP X pins σ H' s'∧bO vs us∧Q vs H'
def SP (X:Cx) (pins:List (Addr×Obj)) (D:qF) (f:Flow) (s':Shared):Prop:=
 match f with
 | .next=>∃ σ' H',aP X pins σ' H' s'∧D.nx σ' H'
 | .brk=>∃ σ' H',aP X pins σ' H' s'∧D.bk σ' H'
 | .cont=>∃ σ' H',aP X pins σ' H' s'∧D.ct σ' H'
 | .ret u=>∃ v σ' H',aP X pins σ' H' s'∧cC v u∧D.rt v H'
def PE (X:Cx) (e:Expr) (t:TE):Prop:=
 ∀ (pins:List (Addr×Obj)) (s:Shared) (σ:St) (H:Hp) (Q:VK),aP X pins σ H s→t σ H Q→wpAny (model X.prog X.w) X.A (eval e X.env) (EP X pins σ Q) X.xe s
def PT (X:Cx) (e:Expr) (t:TT):Prop:=
 ∀ (pins:List (Addr×Obj)) (s:Shared) (σ:St) (H:Hp) (Q:Bool→Hp→Prop),aP X pins σ H s→t σ H Q→wpAny (model X.prog X.w) X.A (isTrue e X.env (eval e X.env)) (TP X pins σ Q) X.xe s
def PW (X:Cx) (e:Expr) (t:TT):Prop:=
 ∀ (whole:Sem Value) (pins:List (Addr×Obj)) (s:Shared) (σ:St) (H:Hp) (Q:Bool→Hp→Prop),aP X pins σ H s→t σ H Q→wpAny (model X.prog X.w) X.A (isTrue e X.env whole) (TP X pins σ Q) X.xe s
theorem PW.pt {X:Cx}{e:Expr}{t:TT} (h:PW X e t):PT X e t:=h _
def PA (X:Cx) (es:List Expr) (t:TA):Prop:=
 ∀ (pos:Pos) (pins:List (Addr×Obj)) (s:Shared) (σ:St) (H:Hp) (Q:List V→Hp→Prop),aP X pins σ H s→t σ H Q→wpAny (model X.prog X.w) X.A (spliced (backTo pos (starEach es X.env))) (AP X pins σ Q) X.xe s
def PS (X:Cx) (st:Stmt) (t:TS):Prop:=
 ∀ (pins:List (Addr×Obj)) (s:Shared) (σ:St) (H:Hp) (D:qF),aP X pins σ H s→t D σ H→wpAny (model X.prog X.w) X.A (exec st X.env) (SP X pins D) X.xe s
def uG (X:Cx) (st:List Stmt) (t:TS):Prop:=
 ∀ (pins:List (Addr×Obj)) (s:Shared) (σ:St) (H:Hp) (D:qF),aP X pins σ H s→t D σ H→wpAny (model X.prog X.w) X.A (execs st X.env) (SP X pins D) X.xe s
theorem dW {α:Type}{t:Sem α}{Q Q':α→Shared→Prop}{M:Model}{A:Around}{E:Value→Shared→Prop}{s:Shared} (h:wpAny M A t Q E s) (hQ:∀ a s,Q a s→Q' a s):wpAny M A t Q' E s:=wpAny_mono h hQ fun _ _ x=>x
section
variable {X:Cx}
def xG (i:Nat):TE:=fun σ H Q=>∃ v,σ[i]? = some (some v)∧Q v H
def tC (v:V):TE:=fun _ H Q=>Q v H
theorem aDq {i:Nat}{x:Str}{pos:Pos} (hN:X.N[i]? = some x) (hv:Vis X.env.scope x) (hd:(x == ("__debug__":Str))=false:=by decide) (hcd:(x == ("__classdict__":Str))=false:=by decide):PE X (.Name x pos) (xG i):=by
 intro pins s σ H Q I h
 obtain ⟨v,e,h⟩:=h
 obtain ⟨m,hn,hl⟩:=I.loc
 obtain ⟨u,r,l⟩:=hl i x v hN e hv
 have fin:EP X pins σ Q u s:=⟨v,H,I,r,h⟩
 rcases l with ⟨hk,hm⟩ | ⟨hk,c,hc,hcell⟩
 ·exact wpAny_Name (wpAny_loadName_local I.ok.kind hk hn hm fin) hd
 ·rcases hk with hk | hk
  ·exact wpAny_Name (wpAny_loadName_cell I.ok.kind hk hc hcell fin) hd
  ·exact wpAny_Name (wpAny_loadName_free I.ok.kind hk hc hcell fin hcd) hd
theorem aDJ {i j pos}:PE X (.Constant (.int i) j pos) (tC (.int i)):=fun _ _ _ H _ I h=>wpAny_Constant_int ⟨.int i,H,I.tok _,⟨_,rfl⟩,h⟩
theorem aEd {b j pos}:PE X (.Constant (.bool b) j pos) (tC (.bl b)):=fun _ _ _ H _ I h=>Constant_bool ⟨.bl b,H,I,rfl,h⟩
theorem aDa {j pos}:PE X (.Constant .none j pos) (tC .non):=fun _ _ _ H _ I h=>Constant_none ⟨.non,H,I,rfl,h⟩
theorem aC8 {x j pos}:PE X (.Constant (.str x) j pos) (tC (.str x)):=fun _ _ _ H _ I h=>Calls.Constant_str ⟨.str x,H,I.tok _,⟨_,rfl⟩,h⟩
def Gl (X:Cx) (x:Str):Prop:=X.env.kindOf x=some .globalImplicit
theorem oZ {E:Value→Shared→Prop}{pins:List (Addr×Obj)}{s:Shared}{σ:St}{H:Hp}{x:Str}{u:Value}{pos:Pos}{Q:Value→Shared→Prop} (I:aP X pins σ H s) (hg:Gl X x) (hm:X.mg x=some u) (h:Q u s)
  (hd:(x == ("__debug__":Str))=false:=by decide):wpAny (model X.prog X.w) X.A (eval (.Name x pos) X.env) Q E s:=
 Calls.Name_function_global I.ok.kind hg (Calls.loadGlobal_global (by rw [I.ok.glob];exact I.mod.glob.keeps I.bk) hm h) hd
theorem pH {E:Value→Shared→Prop}{pins:List (Addr×Obj)}{s:Shared}{σ:St}{H:Hp}{x:Str}{u:Value}{pos:Pos}{Q:Value→Shared→Prop} (I:aP X pins σ H s) (hg:Gl X x) (hm:X.mg x=none) (hv:bootBuiltins x=some u) (h:Q u s)
  (hn:x≠"__name__":=by decide) (hd:(x == ("__debug__":Str))=false:=by decide):wpAny (model X.prog X.w) X.A (eval (.Name x pos) X.env) Q E s:=by
 obtain ⟨mb,h1,h2⟩:=I.mod.blt
 exact Calls.Name_function_global I.ok.kind hg (Calls.loadGlobal_builtin (by rw [I.ok.glob];exact I.mod.glob.keeps I.bk) hm (by rw [I.ok.blt];exact h1.keeps I.bk) ((h2 x hn).trans hv) h) hd
theorem uN {x:Str}{v:V}{u:Value}{pos:Pos} (hg:Gl X x) (hm:X.mg x=some u) (r:cC v u) (hd:(x == ("__debug__":Str))=false:=by decide):PE X (.Name x pos) (tC v):=
 fun _ _ _ H _ I h=>oZ I hg hm ⟨v,H,I,r,h⟩ hd
theorem o9 {x:Str}{v:V}{u:Value}{pos:Pos} (hg:Gl X x) (hm:X.mg x=none) (hv:bootBuiltins x=some u) (r:cC v u) (hn:x≠"__name__":=by decide) (hd:(x == ("__debug__":Str))=false:=by decide):PE X (.Name x pos) (tC v):=
 fun _ _ _ H _ I h=>pH I hg hm hv ⟨v,H,I,r,h⟩ hn hd
variable {a b:Expr}{ta tb:TE}{pos:Pos}
def tB (t:TE):TT:=fun σ H Q=>t σ H fun x H1=>∃ c,x = .bl c∧Q c H1
theorem aC1 {e:Expr}{t:TE} (h:PE X e t) (he:∀ whole,isTrue e X.env whole=(do let v ← whole;standAt e.pos;holding [v] (truthy v)):=by intro _;rfl):PT X e (tB t):=by
 intro pins s σ H Q I hw
 refine isTrue_plain (dW (h pins s σ H _ I hw) fun v s1 ⟨x,H1,I1,r1,q1⟩=>?_) (he _)
 obtain ⟨d,rfl,q⟩:=q1
 cases r1
 exact wpAny_truthy_bool ⟨H1,I1,q⟩
variable {tA tB':TT}{rest:List Expr}
def aEW (t u:TT):TT:=fun σ H Q=>t σ H fun c H1=>if c=true then u σ H1 Q else Q false H1
def tOr (t u:TT):TT:=fun σ H Q=>t σ H fun c H1=>if c=true then Q true H1 else u σ H1 Q
def aED (t:TT):TT:=fun σ H Q=>t σ H fun c H1=>Q (!c) H1
theorem y4 (ha:PT X a tA):PW X (.BoolOp .And [a] pos) tA:=by
 intro wh pins s σ H Q I h
 refine isTrue_and (dW (ha pins s σ H Q I h) fun c s1 e=>?_)
 cases c with
 | true=>exact isTrue_and_nil e
 | false=>exact e
theorem aDu (ha:PT X a tA):PW X (.BoolOp .Or [a] pos) tA:=by
 intro wh pins s σ H Q I h
 refine isTrue_or (dW (ha pins s σ H Q I h) fun c s1 e=>?_)
 cases c with
 | false=>exact isTrue_or_nil e
 | true=>exact e
theorem w8 (ha:PT X a tA) (hb:PW X (.BoolOp .And (b::rest) pos) tB'):PW X (.BoolOp .And (a::b::rest) pos) (aEW tA tB'):=by
 intro wh pins s σ H Q I h
 refine isTrue_and (dW (ha pins s σ H _ I h) fun c s1 ⟨H1,I1,q1⟩=>?_)
 cases c with
 | true=>exact hb wh pins s1 σ H1 Q I1 q1
 | false=>exact ⟨H1,I1,q1⟩
theorem aEi (ha:PT X a tA) (hb:PW X (.BoolOp .Or (b::rest) pos) tB'):PW X (.BoolOp .Or (a::b::rest) pos) (tOr tA tB'):=by
 intro wh pins s σ H Q I h
 refine isTrue_or (dW (ha pins s σ H _ I h) fun c s1 ⟨H1,I1,q1⟩=>?_)
 cases c with
 | true=>exact ⟨H1,I1,q1⟩
 | false=>exact hb wh pins s1 σ H1 Q I1 q1
theorem aAs (ha:PT X a tA):PT X (.UnaryOp .Not a pos) (aED tA):=by
 intro pins s σ H Q I h
 exact isTrue_not (ha pins s σ H (fun c H1=>Q (!c) H1) I h)
def aD1 (ta tb:TE):TE:=fun σ H Q=>ta σ H fun x H1=>∃ c,x = .bl c∧if c=true then tb σ H1 Q else Q (.bl false) H1
theorem aDz {op}{t:TE} (h:PE X a t):PE X (.BoolOp op [a] pos) t:=fun pins s σ H Q I hw=>BoolOp_one (h pins s σ H Q I hw)
theorem aDG (ha:PE X a ta) (hb:PE X (.BoolOp .And (b::rest) pos) tb):PE X (.BoolOp .And (a::b::rest) pos) (aD1 ta tb):=by
 intro pins s σ H Q I h
 refine BoolOp_and (dW (ha pins s σ H _ I h) fun v s1 ⟨x,H1,I1,r1,q1⟩=>?_)
 obtain ⟨c,rfl,q1⟩:=q1
 cases r1
 refine wpAny_truthy_bool ?_
 cases c with
 | true=>exact hb pins s1 σ H1 Q I1 q1
 | false=>exact ⟨.bl false,H1,I1,rfl,q1⟩
end
def jH (K:PySem.W.Frag) (H:Hp) (a:Addr) (xs:List V):Prop:=
 Rd H a (.lst xs) ∨
  ∃ (o:Obj) (its:Array Value) (n:Nat),K.lookup a=some o∧o.cls = .type "list"∧o.dict=none∧o.data = .seq its n∧its.size≤sizeLine∧bO xs its.toList
def kC (K:PySem.W.Frag) (H:Hp) (a:Addr) (xs:List V):Prop:=
 Rd H a (.tup xs) ∨
  ∃ (o:Obj) (its:Array Value) (n:Nat),K.lookup a=some o∧o.cls = .type "tuple"∧o.data = .seq its n∧its.size≤sizeLine∧bO xs its.toList
def aEY:Value→Option V
 | .none=>some .non
 | .bool b=>some (.bl b)
 | .int i _=>some (.int i)
 | .str x _=>some (.str x)
 | .bytes b _=>some (.byt b)
 | .float b _=>some (.flt b)
 | .ref a=>some (.ref a)
 | .type n=>some (.ty n)
 | _=>none
theorem cC.abs {x:V}{u:Value} (r:cC x u):aEY u=some x:=by
 cases x with
 | non=>cases r;rfl
 | bl _=>cases r;rfl
 | int _=>obtain ⟨t,rfl⟩:=r;rfl
 | str _=>obtain ⟨t,rfl⟩:=r;rfl
 | byt _=>obtain ⟨t,rfl⟩:=r;rfl
 | flt _=>obtain ⟨t,rfl⟩:=r;rfl
 | ref _=>cases r;rfl
 | ty _=>cases r;rfl
theorem cC.inj {x y:V}{u:Value} (r:cC x u) (q:cC y u):x=y:=Option.some.inj (r.abs.symm.trans q.abs)
theorem bO.inj:∀ {xs ys:List V}{us:List Value},bO xs us→bO ys us→xs=ys
 | _,_,_,.nil,.nil=>rfl
 | _,_,_,.cons r t,.cons r' t'=>by rw [r.inj r',bO.inj t t']
section
variable {X:Cx}{pins:List (Addr×Obj)}{σ:St}{H:Hp}{s:Shared}{a:Addr}{xs ys:List V}
theorem jH.of {K:PySem.W.Frag} (h:H a=some (.lst xs)):jH K H a xs:=.inl (.inl h)
theorem kC.of {K:PySem.W.Frag} (h:H a=some (.tup xs)):kC K H a xs:=.inl (.inl h)
theorem aP.list (I:aP X pins σ H s) (h:jH X.K H a xs):∃ its:List Value,bO xs its∧PlainL s.heap a its.toArray∧xs.length≤sizeLine:=by
 rcases h with h | ⟨o,its,n,hk,hc,hd,hs,hz,r⟩
 ·obtain ⟨z,its,n,r,e⟩:=h.ok I.hok
  exact ⟨its,r,⟨_,n,e,rfl,rfl,rfl⟩,z⟩
 ·refine ⟨its.toList,r,⟨o,n,I.kIn a o hk,hc,hd,by simpa using hs⟩,?_⟩
  have e:=r.length
  simp only [Array.length_toList] at e
  omega
theorem aP.tuple (I:aP X pins σ H s) (h:kC X.K H a xs):∃ its:List Value,bO xs its∧IsTup s.heap a its.toArray∧xs.length≤sizeLine:=by
 rcases h with h | ⟨o,its,n,hk,hc,hs,hz,r⟩
 ·obtain ⟨z,its,r,p⟩:=h.ok I.hok
  exact ⟨its,r,p,z⟩
 ·refine ⟨its.toList,r,⟨o,I.kIn a o hk,hc,n,by simpa using hs⟩,?_⟩
  have e:=r.length
  simp only [Array.length_toList] at e
  omega
theorem aP.list_inj (I:aP X pins σ H s) (h:jH X.K H a xs) (h':jH X.K H a ys):xs=ys:=by
 obtain ⟨its,r,⟨o,n,e,_,_,d⟩,_⟩:=I.list h
 obtain ⟨its',r',⟨o',n',e',_,_,d'⟩,_⟩:=I.list h'
 rw [e] at e';cases e'
 rw [d] at d'
 injection d' with d1 _
 have:its=its':=by simpa using congrArg Array.toList d1
 subst this
 exact r.inj r'
theorem aP.tuple_inj (I:aP X pins σ H s) (h:kC X.K H a xs) (h':kC X.K H a ys):xs=ys:=by
 obtain ⟨its,r,⟨o,e,_,n,d⟩,_⟩:=I.tuple h
 obtain ⟨its',r',⟨o',e',_,n',d'⟩,_⟩:=I.tuple h'
 rw [e] at e';cases e'
 rw [d] at d'
 injection d' with d1 _
 have:its=its':=by simpa using congrArg Array.toList d1
 subst this
 exact r.inj r'
end
abbrev Cx.wish (X:Cx) (E:Value→Shared→Prop):Cx:={ X with xe:=E }
abbrev Cx.nox (X:Cx):Cx:=X.wish fun _ _=>False
theorem Cx.Ok.wish {X:Cx} (ok:X.Ok) (E:Value→Shared→Prop):(X.wish E).Ok:=
 ⟨ok.mod,ok.kind,ok.glob,ok.blt,ok.above,ok.inj,ok.has,ok.cab,ok.hd,ok.frames,ok.stk,ok.exf,ok.bs,ok.bsz,ok.noex,ok.exfs,ok.funs,ok.frf⟩
theorem Cx.Ok.unwish {X:Cx}{E:Value→Shared→Prop} (ok:(X.wish E).Ok):X.Ok:=
 ⟨ok.mod,ok.kind,ok.glob,ok.blt,ok.above,ok.inj,ok.has,ok.cab,ok.hd,ok.frames,ok.stk,ok.exf,ok.bs,ok.bsz,ok.noex,ok.exfs,ok.funs,ok.frf⟩
section
variable {X:Cx}{pins:List (Addr×Obj)}{σ:St}{H:Hp}{s:Shared}{E:Value→Shared→Prop}
theorem aP.wish (I:aP X pins σ H s) (E:Value→Shared→Prop):aP (X.wish E) pins σ H s:=⟨I.ok.wish E,I.os,I.bare,I.base,I.loc,I.cell,I.free,I.freeC,I.pin,I.hok,I.len⟩
theorem aP.unwish (I:aP (X.wish E) pins σ H s):aP X pins σ H s:=⟨I.ok.unwish,I.os,I.bare,I.base,I.loc,I.cell,I.free,I.freeC,I.pin,I.hok,I.len⟩
theorem SP.unwish {D:qF}{f:Flow}{s':Shared} (h:SP (X.wish E) pins D f s'):SP X pins D f s':=by
 cases f with
 | next=>obtain ⟨σ',H',I,q⟩:=h;exact ⟨σ',H',I.unwish,q⟩
 | brk=>obtain ⟨σ',H',I,q⟩:=h;exact ⟨σ',H',I.unwish,q⟩
 | cont=>obtain ⟨σ',H',I,q⟩:=h;exact ⟨σ',H',I.unwish,q⟩
 | ret u=>obtain ⟨v,σ',H',I,r,q⟩:=h;exact ⟨v,σ',H',I.unwish,r,q⟩
theorem uG.nox {st:List Stmt}{t:TS} (h:uG X.nox st t):uG X st t:=fun pins s σ H D I hw=>
 wpAny_mono (h pins s σ H D (I.wish _) hw) (fun _ _ q=>q.unwish) fun _ _ z=>False.elim z
end
section
variable {X:Cx}{st:Stmt}{rest:List Stmt}{t u:TS}{e:Expr}{te:TE}{pos:Pos}
def aDX:TS:=fun D σ H=>D.nx σ H
def aEN (t u:TS):TS:=fun D σ H=>t { D with nx:=u D } σ H
theorem yV:uG X [] aDX:=fun _ _ σ H _ I h=>wpAny_execs_nil ⟨σ,H,I,h⟩
theorem vO (h1:PS X st t) (h2:uG X rest u):uG X (st::rest) (aEN t u):=by
 intro pins s σ H D I h
 refine wpAny_execs_cons (dW (h1 pins s σ H { D with nx:=u D } I h) fun f s1 q=>?_)
 cases f with
 | next=>
  obtain ⟨σ',H',I',q⟩:=q
  exact h2 pins s1 σ' H' D I' q
 | ret v=>exact q
 | brk=>exact q
 | cont=>exact q
theorem tJ (h1:PS X st t):uG X [st] t:=by
 intro pins s σ H D I h
 refine wpAny_execs_cons (dW (h1 pins s σ H D I h) fun f s1 q=>?_)
 cases f with
 | next=>exact wpAny_execs_nil q
 | ret v=>exact q
 | brk=>exact q
 | cont=>exact q
theorem aP.quiet {pins:List (Addr×Obj)}{σ:St}{H:Hp}{s:Shared} (I:aP X pins σ H s):interactive X.env=false:=by simp [interactive,I.ok.kind]
def aAK (te:TE):TS:=fun D σ H=>te σ H fun _ H1=>D.nx σ H1
theorem tT (he:PE X e te) (hs:swapsWith e none pos.line X.env=pure false:=by rfl):PS X (.Expr e pos) (aAK te):=by
 intro pins s σ H D I h
 exact wpAny_Expr_any (dW (he pins s σ H _ I h) fun v s1 ⟨x,H1,I1,r1,q1⟩=>⟨σ,H1,I1,q1⟩) I.quiet hs
def aE1 (te:TE):TS:=fun D σ H=>te σ H D.rt
theorem aBH (he:PE X e te):PS X (.Return (some e) pos) (aE1 te):=by
 intro pins s σ H D I h
 exact wpAny_Return_some (dW (he pins s σ H _ I h) fun v s1 ⟨x,H1,I1,r1,q1⟩=>⟨x,σ,H1,I1,r1,q1⟩)
def aEQ (c:TT) (t u:TS):TS:=fun D σ H=>c σ H fun b H1=>if b=true then t D σ H1 else u D σ H1
theorem aAr {c:Expr}{a b:List Stmt}{tc:TT} (hc:PT X c tc) (ha:uG X a t) (hb:uG X b u):PS X (.If c a b pos) (aEQ tc t u):=by
 intro pins s σ H D I h
 refine wpAny_If (dW (hc pins s σ H _ I h) fun d s1 ⟨H1,I1,q1⟩=>?_)
 cases d with
 | true=>exact ha pins s1 σ H1 D I1 q1
 | false=>exact hb pins s1 σ H1 D I1 q1
end
abbrev TG:=V→St→Hp→(St→Hp→Prop)→Prop
def PG (X:Cx) (target:Expr) (t:TG):Prop:=
 ∀ (pins:List (Addr×Obj)) (s:Shared) (σ:St) (H:Hp) (v:V) (u:Value) (Q:St→Hp→Prop),aP X pins σ H s→cC v u→t v σ H Q →
  wpAny (model X.prog X.w) X.A (assign target X.env u) (fun _ s'=>∃ σ' H',aP X pins σ' H' s'∧Q σ' H') X.xe s
section
variable {X:Cx}{pos:Pos}
def vW (i:Nat):TG:=fun v σ H Q=>Q (σ.set i (some v)) H
theorem aK {i:Nat}{x:Str} (hN:X.N.Nodup) (hi:X.N[i]? = some x) (hx:Loc X.env.scope x) (hf:X.fn x=true∨X.env.scope.names.lookup x=some .local:=by first | exact .inl rfl | exact .inr rfl | assumption):PG X (.Name x pos) (vW i):=by
 intro pins s σ H v u Q I r h
 exact wpAny_assign_Name (pE I hN hi hx r (fun s' I'=>⟨_,H,I',h⟩) hf)
def zZ (te:TE) (g:TG):TS:=fun D σ H=>te σ H fun x H1=>g x σ H1 D.nx
theorem bR {tg e:Expr}{te:TE}{g:TG} (he:PE X e te) (hg:PG X tg g) (hs:swapsWithSole [tg] e pos.line X.env=pure false:=by rfl) (hw:swappedStores [tg] e X.env=pure none:=by rfl)
  (h1:(assignEach [tg] X.env).map (·.2)=[assign tg X.env]:=by rfl):PS X (.Assign [tg] e pos) (zZ te g):=by
 intro pins s σ H D I h
 refine wpAny_Assign_stores (dW (he pins s σ H _ I h) fun v s1 ⟨x,H1,I1,r1,q1⟩=>?_) hs hw
 rw [h1]
 exact dW (hg pins s1 σ H1 x v _ I1 r1 q1) fun _ s2 q=>q
theorem uS {i:Nat}{x:Str}{e:Expr}{te:TE}{pos':Pos} (hN:X.N.Nodup) (hi:X.N[i]? = some x) (hx:Loc X.env.scope x) (he:PE X e te) (hs:swapsWith e (some (.Name x pos')) pos.line X.env=pure false:=by rfl) (hf:X.fn x=true∨X.env.scope.names.lookup x=some .local:=by first | exact .inl rfl | exact .inr rfl | assumption) :
  PS X (.Assign [.Name x pos'] e pos) (zZ te (vW i)):=by
 intro pins s σ H D I h
 refine wpAny_Assign_Name (dW (he pins s σ H _ I h) fun v s1 ⟨y,H1,I1,r1,q1⟩=>?_) hs
 exact pE I1 hN hi hx r1 (fun s2 I2=>⟨_,H1,I2,q1⟩) hf
end
section
variable {X:Cx}{pos:Pos}
end
structure It where
 go:Nat→Hp→Prop
 yld:Nat→Hp→V→Hp→Prop
 stop:Nat→Hp→Prop
def kA (X:Cx) (pins:List (Addr×Obj)) (H:Hp) (b:Addr):Prop:=
 H b=none∧b≠X.env.locals∧b∉X.fs∧(b∈X.ex∨X.s₀.heap.objs.size≤b)∧(∀ x c,X.env.cells.lookup x=some c→c≠b)∧∀ p∈X.pn++pins,p.1≠b
theorem aP.fpOk {X:Cx}{pins:List (Addr×Obj)}{σ:St}{H H':Hp}{s:Shared}{b:Addr} (I:aP X pins σ H s) (hb:s.heap.objs.size≤b) (hn:H' b=none):kA X pins H' b:=by
 refine ⟨hn,Nat.ne_of_gt (Nat.lt_of_lt_of_le I.lt hb),I.nofs hb,.inr (Nat.le_trans I.sz hb),fun x c e z=>?_,fun p hp z=>?_⟩
 ·obtain ⟨v,q⟩:=I.cell x c e
  exact absurd (Nat.lt_of_lt_of_le q.lt (by rw [z];exact hb)) (Nat.lt_irrefl _)
 ·exact absurd (Nat.lt_of_lt_of_le (Heap.lt_size (I.pin p hp).1) (by rw [z];exact hb)) (Nat.lt_irrefl _)
structure aAl (P:Program) (w:World) (K:PySem.W.Frag) (tg:Expr) (J:It) (fp:List Addr) (it:Addr) (tn:Nat→Heap→Prop):Prop where
 mem:it∈fp
 obj:∀ i h,tn i h→∀ b∈fp,∃ o,h.get? b=some o∧∀ v,o.data≠.cell v
 keep:∀ i h h',tn i h→(∀ b∈fp,∀ o,h.get? b=some o→h'.get? b=some o)→tn i h'
 item:∀ (X:Cx),X.prog=P→X.w=w→X.K=K→X.calm=true→∀ (i:Nat) (pins:List (Addr×Obj)) (s:Shared) (σ:St) (H:Hp) (E:Value→Shared→Prop),aP X pins σ H s→(∀ b∈fp,kA X pins H b)→tn i s.heap→J.go i H →
  wpAny (model P w) X.A (pyNext (.ref it)) (fun r s1=>∃ u,r=some u ∧
   wpAny (model P w) X.A (letOwnedTupleGo tg (.ref it) u) (fun _ s2=>∃ x H',aP X pins σ H' s2∧cC x u∧J.yld i H x H'∧tn (i+1) s2.heap∧∀ b∈fp,H' b=none) E s1) E s
 done:∀ (X:Cx),X.prog=P→X.w=w→X.K=K→X.calm=true→∀ (i:Nat) (pins:List (Addr×Obj)) (s:Shared) (σ:St) (H:Hp) (E:Value→Shared→Prop),aP X pins σ H s→(∀ b∈fp,kA X pins H b)→tn i s.heap→J.stop i H →
  wpAny (model P w) X.A (pyNext (.ref it)) (fun r s1=>r=none∧aP X pins σ H s1) E s
 self:∀ (A:Around) (i:Nat) (s:Shared) (Q:Value→Shared→Prop) (E:Value→Shared→Prop),tn i s.heap→Q (.ref it) s→wpAny (model P w) A (pyIter (.ref it)) Q E s
abbrev TI:=St→Hp→(It→Hp→Prop)→Prop
def PIE (X:Cx) (pins:List (Addr×Obj)) (σ:St) (tg:Expr) (R:It→Hp→Prop) (itv:Value) (s2:Shared):Prop:=
 ∃ (it:Addr) (fp:List Addr) (tn:Nat→Heap→Prop) (J:It) (H':Hp),itv = .ref it∧aP X pins σ H' s2∧aAl X.prog X.w X.K tg J fp it tn∧tn 0 s2.heap∧(∀ b∈fp,kA X pins H' b)∧R J H'
def PI (X:Cx) (tg iter:Expr) (wi:TI):Prop:=
 ∀ (pins:List (Addr×Obj)) (s:Shared) (σ:St) (H:Hp) (R:It→Hp→Prop),aP X pins σ H s→wi σ H R →
  wpAny (model X.prog X.w) X.A (eval iter X.env) (fun v s1=>wpAny (model X.prog X.w) X.A (pyIter v) (PIE X pins σ tg R) X.xe s1) X.xe s
theorem aBJ {M:Model}{A:Around}{E:Value→Shared→Prop}{s:Shared}{tg:Expr}{it:Addr}{u:Value}{o:Obj}{n:String}{vs:Array Value}{Q:Unit→Shared→Prop} (ho:s.heap.get? it=some o) (hc:o.cls = .type n) (hd:o.data = .fields vs)
  (hn:["enumerate","zip","dict_itemiterator","dict_reverseitemiterator","odict_iterator","itertools.zip_longest","itertools.pairwise"].contains n=false) (hQ:Q () s):wpAny M A (letOwnedTupleGo tg (.ref it) u) Q E s:=by
 unfold letOwnedTupleGo
 cases tg <;> first
  | exact wpAny_pure hQ
  | (cases u <;> first
    | exact wpAny_pure hQ
    | (refine wpAny_bind (wpAny_load ho ?_);rw [hc,hd];show wpAny M A (if (["enumerate","zip","dict_itemiterator","dict_reverseitemiterator","odict_iterator","itertools.zip_longest","itertools.pairwise"].contains n && vs[0]? == some (rawInt _))=true then _ else _) Q E s;rw [if_neg (by intro h;rw [hn,Bool.false_and] at h;cases h)];exact wpAny_pure hQ))
def Itl (K:PySem.W.Frag) (a:Addr):It:=
 ⟨fun i H=>∃ xs x,jH K H a xs∧xs[i]? = some x,fun i H x H'=>H'=H∧∀ xs,jH K H a xs→xs[i]? = some x,fun i H=>∃ xs,jH K H a xs∧xs.length≤i⟩
def Itt (K:PySem.W.Frag) (a:Addr):It:=
 ⟨fun i H=>∃ xs x,kC K H a xs∧xs[i]? = some x,fun i H x H'=>H'=H∧∀ xs,kC K H a xs→xs[i]? = some x,fun i H=>∃ xs,kC K H a xs∧xs.length≤i⟩
def Itr (lo:Int) (n:Nat):It:=⟨fun i _=>i<n,fun i H x H'=>H'=H∧x = .int (lo+i),fun i _=>n≤i⟩
theorem zI {P:Program}{w:World}{K:PySem.W.Frag}{tg:Expr} (a it:Addr):aAl P w K tg (Itl K a) [it] it (fun i h=>h.IsListIter it a i) where
 mem:=by simp
 obj:=fun i h st b hb=>by
  have e:b=it:=by simpa using hb
  subst e
  obtain ⟨o,e,c,d⟩:=st
  exact ⟨o,e,fun v z=>by rw [d] at z;cases z⟩
 keep:=fun i h h' st k=>st.at fun o e=>k it (by simp) o e
 item:=by
  intro X hP hw hK hc i pins s σ H E I hf st hg
  subst hP hw hK
  obtain ⟨xs,x,hq,hx⟩:=hg
  obtain ⟨its,rv,p,hz⟩:=I.list hq
  obtain ⟨u,hu,ru⟩:=rv.get hx
  obtain ⟨f0,f1,f2,f3,f4,f5⟩:=hf it (by simp)
  refine wpAny_pyNext_list_item st p.isList (x:=u) (by simpa using hu) fun h' st' sb=>?_
  have I1:aP X pins σ H { s with heap:=h' }:=I.turned (t':=s.toks) (fun b o hb e=>(sb.2 b hb).trans e) f0 f1 f3 f4 f5
  obtain ⟨o,e,c,d⟩:=id st'
  exact ⟨u,rfl,aBJ (s:={ s with heap:=h' }) e c d (by decide) ⟨x,H,I1,ru,⟨rfl,fun ys hy=>by rw [I.list_inj hy hq];exact hx⟩,st',fun b hb=>(hf b hb).1⟩⟩
 done:=by
  intro X hP hw hK hc i pins s σ H E I hf st hg
  subst hP hw hK
  obtain ⟨xs,hq,hx⟩:=hg
  obtain ⟨its,rv,p,hz⟩:=I.list hq
  obtain ⟨f0,f1,f2,f3,f4,f5⟩:=hf it (by simp)
  have hl:=rv.length
  exact wpAny_pyNext_list_end (I.ok.hd hc) st p.isList (by simp;omega) fun h' eb=>⟨rfl,I.turned (t':=s.toks) (fun b o hb e=>eb b o hb e) f0 f1 f3 f4 f5⟩
 self:=fun _ _ _ _ _ st h=>wpAny_pyIter_listiter st h
theorem xF {P:Program}{w:World}{K:PySem.W.Frag}{tg:Expr} (a it:Addr):aAl P w K tg (Itt K a) [it] it (fun i h=>h.IsTupleIter it a i) where
 mem:=by simp
 obj:=fun i h st b hb=>by
  have e:b=it:=by simpa using hb
  subst e
  obtain ⟨o,e,c,d⟩:=st
  exact ⟨o,e,fun v z=>by rw [d] at z;cases z⟩
 keep:=fun i h h' st k=>st.at fun o e=>k it (by simp) o e
 item:=by
  intro X hP hw hK hc i pins s σ H E I hf st hg
  subst hP hw hK
  obtain ⟨xs,x,hq,hx⟩:=hg
  obtain ⟨its,rv,p,hz⟩:=I.tuple hq
  obtain ⟨u,hu,ru⟩:=rv.get hx
  obtain ⟨f0,f1,f2,f3,f4,f5⟩:=hf it (by simp)
  refine wpAny_pyNext_tuple_item st (show s.heap.IsTuple a its.toArray from p) (x:=u) (by simpa using hu) fun h' st' sb=>?_
  have I1:aP X pins σ H { s with heap:=h' }:=I.turned (t':=s.toks) (fun b o hb e=>(sb.2 b hb).trans e) f0 f1 f3 f4 f5
  obtain ⟨o,e,c,d⟩:=id st'
  exact ⟨u,rfl,aBJ (s:={ s with heap:=h' }) e c d (by decide) ⟨x,H,I1,ru,⟨rfl,fun ys hy=>by rw [I.tuple_inj hy hq];exact hx⟩,st',fun b hb=>(hf b hb).1⟩⟩
 done:=by
  intro X hP hw hK hc i pins s σ H E I hf st hg
  subst hP hw hK
  obtain ⟨xs,hq,hx⟩:=hg
  obtain ⟨its,rv,p,hz⟩:=I.tuple hq
  obtain ⟨f0,f1,f2,f3,f4,f5⟩:=hf it (by simp)
  have hl:=rv.length
  exact wpAny_pyNext_tuple_end (I.ok.hd hc) st (show s.heap.IsTuple a its.toArray from p) (by simp;omega) fun h' eb=>⟨rfl,I.turned (t':=s.toks) (fun b o hb e=>eb b o hb e) f0 f1 f3 f4 f5⟩
 self:=fun _ _ _ _ _ st h=>wpAny_pyIter_tupleiter st h
theorem xV {P:Program}{w:World}{K:PySem.W.Frag}{tg:Expr} (it:Addr) (lo:Int) (n:Nat):aAl P w K tg (Itr lo n) [it] it (fun i h=>IsRangeIter h it (lo+(i:Nat) * 1) ((n:Int)-(i:Nat)) 1) where
 mem:=by simp
 obj:=fun i h st b hb=>by
  have e:b=it:=by simpa using hb
  subst e
  exact ⟨_,st,fun v z=>by
   have z':Data.fields _=Data.cell v:=z
   cases z'⟩
 keep:=fun i h h' st k=>k it (by simp) _ st
 item:=by
  intro X hP hw hK hc i pins s σ H E I hf st hg
  subst hP hw hK
  obtain ⟨f0,f1,f2,f3,f4,f5⟩:=hf it (by simp)
  have W:=Walks.range (prog:=X.prog) (w:=X.w) (I.ok.hd hc) it lo 1 n
  refine W.item i s _ _ hg st fun v h' tk hv st' kk=>?_
  obtain ⟨t,rfl⟩:=hv
  have I1:aP X pins σ H { s with heap:=h',toks:=tk }:=I.turned (fun b o hb e=>kk b o (by simpa using hb) e) f0 f1 f3 f4 f5
  refine ⟨_,rfl,aBJ (s:={ s with heap:=h',toks:=tk }) (n:="range_iterator") st' rfl rfl (by decide) ⟨.int (lo+i),H,I1,⟨t,?_⟩,⟨rfl,rfl⟩,st',fun b hb=>(hf b hb).1⟩⟩
  rw [Int.mul_one]
 done:=by
  intro X hP hw hK hc i pins s σ H E I hf st hg
  subst hP hw hK
  obtain ⟨f0,f1,f2,f3,f4,f5⟩:=hf it (by simp)
  exact wpAny_pyNext_range_end (I.ok.hd hc) st (by have:n≤i:=hg;omega) fun h' eb=>⟨rfl,I.turned (t':=s.toks) (fun b o hb e=>eb b o hb e) f0 f1 f3 f4 f5⟩
 self:=fun _ _ _ _ _ st h=>wpAny_pyIter_rangeiter st h
section
variable {X:Cx}{tg:Expr}
def aD0 (K:PySem.W.Frag) (tl:TE):TI:=fun σ H R=>tl σ H fun x H1=>∃ a,x = .ref a∧(∃ xs,jH K H1 a xs)∧R (Itl K a) H1
def aEF (K:PySem.W.Frag) (tl:TE):TI:=fun σ H R=>tl σ H fun x H1=>∃ a,x = .ref a∧(∃ xs,kC K H1 a xs)∧R (Itt K a) H1
theorem aCB {l:Expr}{tl:TE} (hl:PE X l tl):PI X tg l (aD0 X.K tl):=by
 intro pins s σ H R I h
 refine dW (hl pins s σ H _ I h) fun v s1 ⟨x,H1,I1,r1,q1⟩=>?_
 obtain ⟨a,e,⟨xs,hq⟩,q⟩:=q1
 subst e
 cases r1
 obtain ⟨its,rv,p,hz⟩:=I1.list hq
 refine wpAny_pyIter_list p.isList ?_
 refine ⟨s1.heap.objs.size,[s1.heap.objs.size],_,_,H1,rfl,I1.kept (t':=s1.toks) fun b o e=>Heap.get?_push_of_some _ e,zI a _,⟨_,Heap.get?_push_size _ rfl,rfl,rfl⟩,fun b hb=>?_,q⟩
 have e:b=s1.heap.objs.size:=by simpa using hb
 subst e
 exact I1.fpOk (Nat.le_refl _) (I1.hok.fresh (Nat.le_refl _))
theorem aDN {l:Expr}{tl:TE} (hl:PE X l tl):PI X tg l (aEF X.K tl):=by
 intro pins s σ H R I h
 refine dW (hl pins s σ H _ I h) fun v s1 ⟨x,H1,I1,r1,q1⟩=>?_
 obtain ⟨a,e,⟨xs,hq⟩,q⟩:=q1
 subst e
 cases r1
 obtain ⟨its,rv,p,hz⟩:=I1.tuple hq
 refine wpAny_pyIter_tuple (show s1.heap.IsTuple a its.toArray from p) ?_
 refine ⟨s1.heap.objs.size,[s1.heap.objs.size],_,_,H1,rfl,I1.kept (t':=s1.toks) fun b o e=>Heap.get?_push_of_some _ e,xF a _,⟨_,Heap.get?_push_size _ rfl,rfl,rfl⟩,fun b hb=>?_,q⟩
 have e:b=s1.heap.objs.size:=by simpa using hb
 subst e
 exact I1.fpOk (Nat.le_refl _) (I1.hok.fresh (Nat.le_refl _))
theorem wT {pins:List (Addr×Obj)}{σ:St}{H:Hp}{s:Shared}{R:It→Hp→Prop}{E:Value→Shared→Prop}{lo hi:Int}{t u v:Tok}{tk:Nat} (I:aP X pins σ H s) (h1 : -(2 ^ 62)≤lo) (h2:lo<2 ^ 62) (h3 : -(2 ^ 62)≤hi) (h4:hi<2 ^ 62)
  (q:R (Itr lo (hi-lo).toNat) H):wpAny (model X.prog X.w) X.A (pyIter (.ref s.heap.objs.size)) (PIE X pins σ tg R) E { s with heap:=s.heap.push { cls:=.type "range",data:=.fields #[.int lo t,.int hi u,.int 1 v] },toks:=tk }:=by
 refine wpAny_pyIter_range (IsRange.new ..) (small_one h1 h2 h3 h4) ?_
 have I1:aP X pins σ H { s with heap:=s.heap.push { cls:=.type "range",data:=.fields #[.int lo t,.int hi u,.int 1 v] },toks:=tk }:=I.kept fun b o e=>Heap.get?_push_of_some _ e
 refine ⟨(s.heap.push { cls:=.type "range",data:=.fields #[.int lo t,.int hi u,.int 1 v] }).objs.size,[(s.heap.push { cls:=.type "range",data:=.fields #[.int lo t,.int hi u,.int 1 v] }).objs.size],_,_,H,rfl,
  I1.kept (t':=tk) fun b o e=>Heap.get?_push_of_some _ e,xV _ lo (hi-lo).toNat,?_,fun b hb=>?_,q⟩
 ·have e1:lo+((0:Nat):Int) * 1=lo:=by simp
  have e2:(((hi-lo).toNat:Nat):Int)-((0:Nat):Int)=Builtin.Range.rangeSize lo hi 1:=by rw [rangeSize_one];split <;> omega
  show IsRangeIter _ _ (lo+((0:Nat):Int) * 1) ((((hi-lo).toNat:Nat):Int)-((0:Nat):Int)) 1
  rw [e1,e2]
  exact Heap.get?_push_size _ rfl
 ·have e:b=(s.heap.push { cls:=.type "range",data:=.fields #[.int lo t,.int hi u,.int 1 v] }).objs.size:=by simpa using hb
  subst e
  exact I1.fpOk (Nat.le_refl _) (I1.hok.fresh (Nat.le_refl _))
def aDY (ta:TA):TI:=fun σ H R=>ta σ H fun vs H1=>∃ j:Int,vs=[.int j] ∧ -(2 ^ 62)≤j∧j<2 ^ 62∧R (Itr 0 j.toNat) H1
def aCI (ta:TA):TI:=fun σ H R=>ta σ H fun vs H1=>∃ i j:Int,vs=[.int i,.int j]∧(-(2 ^ 62)≤i∧i<2 ^ 62 ∧ -(2 ^ 62)≤j∧j<2 ^ 62)∧R (Itr i (j-i).toNat) H1
theorem aAe {a:Expr}{ta:TA}{p pos:Pos} (hg:Gl X "range") (hm:X.mg "range"=none) (ha:PA X [a] ta) (hs:starEach [a] X.env=[(false,eval a X.env)]:=by rfl):PI X tg (.Call (.Name "range" p) [a] [] pos) (aDY ta):=by
 intro pins s σ H R I h
 refine Call_ (pH I hg hm boot_range (PyProof.Rows.callWith_type1 (dW (ha pos pins s σ H _ I h) fun us s1 ⟨vs,H1,I1,r1,q1⟩=>?_) hs rfl))
 obtain ⟨j,e,q1,q2,q⟩:=q1
 subst e
 cases r1 with
 | cons r rr=>
  cases rr
  obtain ⟨t,rfl⟩:=r
  exact call_range_1 (wT I1 (by omega) (by omega) q1 q2 (by simpa using q))
theorem aAc {a b:Expr}{ta:TA}{p pos:Pos} (hg:Gl X "range") (hm:X.mg "range"=none) (ha:PA X [a,b] ta) (hs:starEach [a,b] X.env=[(false,eval a X.env),(false,eval b X.env)]:=by rfl) (hs2:starEach [b] X.env=[(false,eval b X.env)]:=by rfl) :
  PI X tg (.Call (.Name "range" p) [a,b] [] pos) (aCI ta):=by
 intro pins s σ H R I h
 refine Call_ (pH I hg hm boot_range (PyProof.Rows.callWith_type1 (dW (ha pos pins s σ H _ I h) fun us s1 ⟨vs,H1,I1,r1,q1⟩=>?_) (by rw [hs,hs2]) (by rw [hs2];rfl)))
 obtain ⟨i,j,e,⟨q1,q2,q3,q4⟩,q⟩:=q1
 subst e
 cases r1 with
 | cons r rr=>
  cases rr with
  | cons r' rr=>
   cases rr
   obtain ⟨t,rfl⟩:=r
   obtain ⟨t',rfl⟩:=r'
   exact call_range_2 (wT I1 q1 q2 q3 q4 q)
def aET (wi:TI) (g:TG) (tb:TS):TS:=fun D σ H=>wi σ H fun J H1=>∃ W:Nat→Nat→St→Hp→Prop,(∃ m,W 0 m σ H1)∧∀ i m σ H,W i m σ H →
 (J.stop i H∧D.nx σ H)∨(J.go i H∧∃ N:St→Hp→Prop,(∀ σ' H',N σ' H'→∃ m',m'<m∧W (i+1) m' σ' H')∧∀ x H',J.yld i H x H'→g x σ H' fun σ2 H2=>tb { D with nx:=N,ct:=N,bk:=D.nx } σ2 H2)
def lQ (fp:List Addr) (h:Heap):List (Addr×Obj):=fp.filterMap fun b=>(h.get? b).map fun o=>(b,o)
theorem gB {fp:List Addr}{h:Heap}{b:Addr}{o:Obj} (hb:b∈fp) (e:h.get? b=some o):(b,o)∈lQ fp h:=List.mem_filterMap.mpr ⟨b,hb,by rw [e];rfl⟩
theorem zF {fp:List Addr}{h:Heap}{p:Addr×Obj} (hp:p∈lQ fp h):p.1∈fp∧h.get? p.1=some p.2:=by
 obtain ⟨b,hb,e⟩:=List.mem_filterMap.mp hp
 cases q:h.get? b with
 | none=>rw [q] at e;cases e
 | some o=>
  rw [q] at e
  have e':(b,o)=p:=Option.some.inj e
  subst e'
  exact ⟨hb,q⟩
theorem aP.pinned {pins:List (Addr×Obj)}{σ:St}{H:Hp}{s:Shared}{fp:List Addr} (I:aP X pins σ H s) (hf:∀ b∈fp,kA X pins H b) (ho:∀ b∈fp,∃ o,s.heap.get? b=some o∧∀ v,o.data≠.cell v):aP X (pins++lQ fp s.heap) σ H s:=
 I.pins_of fun p hp=>(List.mem_append.mp hp).elim (fun z=>I.pin p (List.mem_append_right _ z)) fun z=>by
  obtain ⟨hb,e⟩:=zF z
  obtain ⟨f0,f1,f2,_⟩:=hf p.1 hb
  obtain ⟨o,e',d⟩:=ho p.1 hb
  rw [e] at e';cases e'
  exact ⟨e,f0,f1,f2,d⟩
theorem aP.unpinned {pins pl:List (Addr×Obj)}{σ:St}{H:Hp}{s:Shared} (I:aP X (pins++pl) σ H s):aP X pins σ H s:=I.pins_of fun p hp=>I.pin p (List.mem_append_right _ (List.mem_append_left _ hp))
theorem aDi {iter:Expr}{body:List Stmt}{wi:TI}{g:TG}{tb:TS}{pos:Pos} (hp:PassesOwn (model X.prog X.w) X.A X.env X.xe) (hc:X.calm=true) (hi:PI X tg iter wi) (hg:PG X tg g) (hb:uG X body tb)
  (hs:∀ x,foldedSetIterable iter X.env x=pure x:=by intro _;rfl):PS X (.For tg iter body [] pos) (aET wi g tb):=by
 intro pins s σ H D I h
 refine wpAny_For (dW (hi pins s σ H _ I h) fun v s1 h1=>dW h1 fun itv s2 h2=>?_) hs
 obtain ⟨it,fp,tn,J,H2,e,I2,T,st2,f2,W,⟨m0,w0⟩,turn⟩:=h2
 subst e
 have stat:∀ {H':Hp},(∀ b∈fp,H' b=none)→∀ b∈fp,kA X pins H' b:=fun hn b hb=>⟨hn b hb,(f2 b hb).2⟩
 refine codeAny_forLoop_any (fun n s'=>∃ i σ' H',aP X pins σ' H' s'∧tn i s'.heap∧(∀ b∈fp,H' b=none)∧W i n σ' H') ?_ m0 ⟨0,σ,H2,I2,st2,fun b hb=>(f2 b hb).1,w0⟩
 rintro n s3 ⟨i,σ3,H3,I3,st3,fr3,w3⟩
 rcases turn i n σ3 H3 w3 with ⟨stop,qn⟩ | ⟨go,N,hN,step⟩
 ·refine wpAny_passesOwn hp (dW (T.done X rfl rfl rfl hc i pins s3 σ3 H3 X.xe I3 (stat fr3) st3 stop) fun r s4 ⟨hr,I4⟩=>?_)
  subst hr
  exact wpAny_execs_nil ⟨σ3,H3,I4,qn⟩
 ·refine wpAny_passesOwn hp (dW (T.item X rfl rfl rfl hc i pins s3 σ3 H3 X.xe I3 (stat fr3) st3 go) fun r s4 ⟨u,hr,h4⟩=>?_)
  subst hr
  refine wpAny_passesOwn hp (dW h4 fun _ s5 ⟨x,H5,I5,r5,y5,st5,fr5⟩=>?_)
  have I5':=I5.pinned (stat fr5) (T.obj _ _ st5)
  refine wpAny_passesOwn hp (dW (hg _ s5 σ3 H5 x u _ I5' r5 (step x H5 y5)) fun _ s6 ⟨σ6,H6,I6,q6⟩=>?_)
  refine wpAny_passesOwn hp (dW (hb _ s6 σ6 H6 _ I6 q6) fun f s7 q7=>?_)
  have again:∀ {σ7:St}{H7:Hp},aP X (pins++lQ fp s5.heap) σ7 H7 s7→N σ7 H7→∃ m,m<n∧∃ i σ' H',aP X pins σ' H' s7∧tn i s7.heap∧(∀ b∈fp,H' b=none)∧W i m σ' H':=fun {σ7 H7} I7 n7=>by
   obtain ⟨m',hm,w7⟩:=hN σ7 H7 n7
   refine ⟨m',hm,i+1,σ7,H7,I7.unpinned,T.keep _ _ _ st5 fun b hb o e=>(I7.pin (b,o) (List.mem_append_right _ (List.mem_append_right _ (gB hb e)))).1,fun b hb=>?_,w7⟩
   obtain ⟨o,e,d⟩:=T.obj _ _ st5 b hb
   exact (I7.pin (b,o) (List.mem_append_right _ (List.mem_append_right _ (gB hb e)))).2.1
  cases f with
  | next=>obtain ⟨σ7,H7,I7,n7⟩:=q7;exact again I7 n7
  | cont=>obtain ⟨σ7,H7,I7,n7⟩:=q7;exact again I7 n7
  | brk=>obtain ⟨σ7,H7,I7,q7⟩:=q7;exact ⟨σ7,H7,I7.unpinned,q7⟩
  | ret v=>obtain ⟨x7,σ7,H7,I7,r7,q7⟩:=q7;exact ⟨x7,σ7,H7,I7.unpinned,r7,q7⟩
end
abbrev R2:=V→V→Hp→VK→Prop
def mM (X:Cx) (f:Value→Value→Sem Value) (r:R2):Prop:=
 ∀ (pins:List (Addr×Obj)) (s:Shared) (σ:St) (H:Hp) (x y:V) (v u:Value) (Q:VK),aP X pins σ H s→cC x v→cC y u→r x y H Q →
  wpAny (model X.prog X.w) X.A (f v u) (EP X pins σ Q) X.xe s
def UnR (X:Cx) (f:Value→Sem Value) (r:V→Hp→VK→Prop):Prop:=
 ∀ (pins:List (Addr×Obj)) (s:Shared) (σ:St) (H:Hp) (x:V) (v:Value) (Q:VK),aP X pins σ H s→cC x v→r x H Q →
  wpAny (model X.prog X.w) X.A (f v) (EP X pins σ Q) X.xe s
def fX (X:Cx) (f:Value) (r:List V→Hp→VK→Prop):Prop:=
 ∀ (pins:List (Addr×Obj)) (s:Shared) (σ:St) (H:Hp) (xs:List V) (us:List Value) (Q:VK),aP X pins σ H s→bO xs us→r xs H Q →
  wpAny (model X.prog X.w) X.A (call f us) (EP X pins σ Q) X.xe s
def aEU (X:Cx) (r:V→Hp→(Bool→Hp→Prop)→Prop):Prop:=
 ∀ (pins:List (Addr×Obj)) (s:Shared) (σ:St) (H:Hp) (x:V) (v:Value) (Q:Bool→Hp→Prop),aP X pins σ H s→cC x v→r x H Q →
  wpAny (model X.prog X.w) X.A (truthy v) (TP X pins σ Q) X.xe s
def tOp (r:R2) (ta tb:TE):TE:=fun σ H Q=>ta σ H fun x H1=>tb σ H1 fun y H2=>r x y H2 Q
def tUn (r:V→Hp→VK→Prop) (ta:TE):TE:=fun σ H Q=>ta σ H fun x H1=>r x H1 Q
def rI (C:Int→Int→Prop) (g:Int→Int→V):R2:=fun x y H Q=>∃ i j,x = .int i∧y = .int j∧C i j∧Q (g i j) H
def rI0 (g:Int→Int→V):R2:=fun x y H Q=>∃ i j,x = .int i∧y = .int j∧Q (g i j) H
def rU (g:Int→V):V→Hp→VK→Prop:=fun x H Q=>∃ i,x = .int i∧Q (g i) H
section
variable {X:Cx}{a b c:Expr}{ta tb tc:TE}{pos:Pos}
theorem aDK (ha:PE X a ta) (hb:PE X b tb) {pins:List (Addr×Obj)}{s:Shared}{σ:St}{H:Hp}{R:V→V→Hp→Prop} (I:aP X pins σ H s)
  (h:ta σ H fun x H1=>tb σ H1 fun y H2=>R x y H2) {Q:Value→Shared→Prop}{f:Value→Value→Sem Value}
  (hf:∀ v u s2 x y H2,aP X pins σ H2 s2→cC x v→cC y u→R x y H2→wpAny (model X.prog X.w) X.A (f v u) Q X.xe s2) :
  wpAny (model X.prog X.w) X.A (eval a X.env) (fun v s₁=>wpAny (model X.prog X.w) X.A (eval b X.env) (fun u s₂=>wpAny (model X.prog X.w) X.A (f v u) Q X.xe s₂) X.xe s₁) X.xe s:=by
 refine dW (ha pins s σ H _ I h) fun v s1 ⟨x,H1,I1,r1,q1⟩=>?_
 refine dW (hb pins s1 σ H1 _ I1 q1) fun u s2 ⟨y,H2,I2,r2,q2⟩=>?_
 exact hf v u s2 x y H2 I2 r1 r2 q2
theorem aCW {op:Operator}{r:R2} (ho:mM X (binaryOp op) r) (ha:PE X a ta) (hb:PE X b tb):PE X (.BinOp a op b pos) (tOp r ta tb):=by
 intro pins s σ H Q I h
 exact wpAny_BinOp (aDK ha hb I h fun v u s2 x y H2 I2 rx ry q=>ho pins s2 σ H2 x y v u Q I2 rx ry q)
theorem aD7 {op:UnaryOp}{r:V→Hp→VK→Prop} (ho:UnR X (unaryOp op) r) (ha:PE X a ta):PE X (.UnaryOp op a pos) (tUn r ta):=by
 intro pins s σ H Q I h
 exact UnaryOp_ (dW (ha pins s σ H _ I h) fun v s1 ⟨x,H1,I1,r1,q1⟩=>ho pins s1 σ H1 x v Q I1 r1 q1)
theorem opI {f:Value→Value→Sem Value}{C:Int→Int→Prop}{g:Int→Int→Int}
  (rule:∀ (i j:Int) (t u:Tok) (s:Shared) (Q:Value→Shared→Prop) (E:Value→Shared→Prop),C i j→Q (.int (g i j) s.toks) { s with toks:=s.toks+1 }→wpAny (model X.prog X.w) X.A (f (.int i t) (.int j u)) Q E s) :
  mM X f (rI C fun i j=>.int (g i j)):=by
 intro pins s σ H x y v u Q I rx ry h
 obtain ⟨i,j,rfl,rfl,hc,q⟩:=h
 obtain ⟨t,rfl⟩:=rx
 obtain ⟨t',rfl⟩:=ry
 exact rule i j t t' s _ _ hc ⟨.int (g i j),H,I.tok _,⟨_,rfl⟩,q⟩
theorem aEp {f:Value→Value→Sem Value}{g:Int→Int→Int}
  (rule:∀ (i j:Int) (t u:Tok) (s:Shared) (Q:Value→Shared→Prop) (E:Value→Shared→Prop),Q (.int (g i j) s.toks) { s with toks:=s.toks+1 }→wpAny (model X.prog X.w) X.A (f (.int i t) (.int j u)) Q E s) :
  mM X f (rI0 fun i j=>.int (g i j)):=by
 intro pins s σ H x y v u Q I rx ry h
 obtain ⟨i,j,rfl,rfl,q⟩:=h
 obtain ⟨t,rfl⟩:=rx
 obtain ⟨t',rfl⟩:=ry
 exact rule i j t t' s _ _ ⟨.int (g i j),H,I.tok _,⟨_,rfl⟩,q⟩
theorem aE5 {f:Value→Value→Sem Value}{g:Int→Int→Bool}
  (rule:∀ (i j:Int) (t u:Tok) (s:Shared) (Q:Value→Shared→Prop) (E:Value→Shared→Prop),Q (.bool (g i j)) s→wpAny (model X.prog X.w) X.A (f (.int i t) (.int j u)) Q E s) :
  mM X f (rI0 fun i j=>.bl (g i j)):=by
 intro pins s σ H x y v u Q I rx ry h
 obtain ⟨i,j,rfl,rfl,q⟩:=h
 obtain ⟨t,rfl⟩:=rx
 obtain ⟨t',rfl⟩:=ry
 exact rule i j t t' s _ _ ⟨.bl (g i j),H,I,rfl,q⟩
def aCo (i j:Int):Prop:=0<j∧j<1073741824
def aA3 (i j:Int):Prop:=(-(2 ^ 64)<i∧i<2 ^ 64)∨(-(2 ^ 64)<j∧j<2 ^ 64)
theorem aA3.ok {i j:Int} (h:aA3 i j):IntMulOk i j:=by
 rcases h with ⟨h1,h2⟩ | ⟨h1,h2⟩
 ·exact .of_left (intBits_le_64 h1 h2)
 ·exact .of_right (intBits_le_64 h1 h2)
theorem aDA:mM X (binaryOp .Add) (rI0 fun i j=>.int (i+j)):=aEp fun _ _ _ _ _ _ _ q=>add_int q
theorem aDb:mM X (binaryOp .Sub) (rI0 fun i j=>.int (i-j)):=aEp fun _ _ _ _ _ _ _ q=>sub_int q
theorem aC9:mM X (binaryOp .Mult) (rI aA3 fun i j=>.int (i * j)):=opI fun _ _ _ _ _ _ _ hc q=>mul_int q hc.ok
theorem aCG:mM X (binaryOp .FloorDiv) (rI aCo fun i j=>.int (i / j)):=opI fun i j _ _ _ _ _ hc q=>by
 have h1:(0:Int)<j:=hc.1
 have h2:j<1073741824:=hc.2
 exact floordiv_int (by omega) (by rw [Int.fdiv_eq_ediv_of_nonneg i (by omega)];exact q) (.inl (PyProof.noPylong_small (by omega)))
theorem aDt:mM X (binaryOp .Mod) (rI (fun _ j=>0<j) fun i j=>.int (i % j)):=opI fun i j _ _ _ _ _ hc q=>by
 have h1:(0:Int)<j:=hc
 exact mod_int' (by omega) (by rw [Int.fmod_eq_emod_of_nonneg i (by omega)];exact q)
theorem unI {f:Value→Sem Value}{g:Int→Int}
  (rule:∀ (i:Int) (t:Tok) (s:Shared) (Q:Value→Shared→Prop) (E:Value→Shared→Prop),Q (.int (g i) s.toks) { s with toks:=s.toks+1 }→wpAny (model X.prog X.w) X.A (f (.int i t)) Q E s) :
  UnR X f (rU fun i=>.int (g i)):=by
 intro pins s σ H x v Q I rx h
 obtain ⟨i,rfl,q⟩:=h
 obtain ⟨t,rfl⟩:=rx
 exact rule i t s _ _ ⟨.int (g i),H,I.tok _,⟨_,rfl⟩,q⟩
theorem aDE:UnR X (unaryOp .USub) (rU fun i=>.int (-i)):=unI fun _ _ _ _ _ q=>neg_int q
end
section
variable {X:Cx}{a b c:Expr}{ta tb tc:TE}{pos:Pos}
theorem aAD {pins:List (Addr×Obj)}{σ:St}{H:Hp}{s:Shared}{Q:VK}{k k':Bool} (I:aP X pins σ H s) (q:Q (.bl k) H) (e:k=k'):EP X pins σ Q (.bool k') s:=by
 subst e
 exact ⟨.bl k,H,I,rfl,q⟩
theorem aEk:mM X (compareOp .LtE) (rI0 fun i j=>.bl (decide (i≤j))):=aE5 fun _ _ _ _ _ _ _ q=>le_int q
theorem aCs:mM X (compareOp .IsNot) (fun x y H Q=>y = .non∧Q (.bl (!decide (x = .non))) H):=by
 intro pins s σ H x y v u Q I rx ry h
 obtain ⟨rfl,q⟩:=h
 cases ry
 refine isnot_none_gen (aAD I q ?_)
 cases x <;> first
  | (cases rx;rfl)
  | (obtain ⟨t,rfl⟩:=rx;rfl)
theorem mM.or {f:Value→Value→Sem Value}{r r':R2} (h:mM X f r) (h':mM X f r'):mM X f (fun x y H Q=>r x y H Q∨r' x y H Q):=by
 intro pins s σ H x y v u Q I rx ry q
 rcases q with q | q
 ·exact h pins s σ H x y v u Q I rx ry q
 ·exact h' pins s σ H x y v u Q I rx ry q
theorem aAR (b:Expr) {op:CmpOp} (h:op≠.In:=by decide) (h2:op≠.NotIn:=by decide):behindInMarks op b=false:=by
 have e1:(op == CmpOp.In)=false:=by cases op <;> first | rfl | exact absurd rfl h
 have e2:(op == CmpOp.NotIn)=false:=by cases op <;> first | rfl | exact absurd rfl h2
 cases b <;> simp [behindInMarks,e1,e2]
theorem aCq {op:CmpOp}{r:R2} (ho:mM X (compareOp op) r) (ha:PE X a ta) (hb:PE X b tb) (hm:behindInMarks op b=false):PE X (.Compare a [op] [b] pos) (tOp r ta tb):=by
 intro pins s σ H Q I h
 exact wpAny_Compare1 (aDK ha hb I h fun v u s2 x y H2 I2 rx ry q=>ho pins s2 σ H2 x y v u Q I2 rx ry q) hm
def aEo (t:TE):TT:=fun σ H Q=>t σ H fun x H'=>∃ k,x = .bl k∧Q k H'
theorem aCd {op:CmpOp}{r:R2} (ho:mM X (compareOp op) r) (ha:PE X a ta) (hb:PE X b tb) (hm:behindInMarks op b=false):PT X (.Compare a [op] [b] pos) (aEo (tOp r ta tb)):=by
 intro pins s σ H Q I h
 refine wpAny_isTrue_Compare1 (dW (ha pins s σ H _ I h) fun v s1 ⟨x,H1,I1,r1,q1⟩=>dW (hb pins s1 σ H1 _ I1 q1) fun u s2 ⟨y,H2,I2,r2,q2⟩=>
  dW (ho pins s2 σ H2 x y v u _ I2 r1 r2 q2) fun c s3 ⟨z,H3,I3,r3,k,e,q3⟩=>?_) hm
 subst e
 cases r3
 exact wpAny_truthy_bool ⟨H3,I3,q3⟩
def aDP (r r':R2) (ta tb tc:TE):TE:=fun σ H Q=>ta σ H fun x H1=>tb σ H1 fun y H2=>r x y H2 fun z H3=>∃ k,z = .bl k ∧
 (if k=true then tc σ H3 fun w' H4=>r' y w' H4 Q else Q (.bl false) H3)
theorem aBl {op op':CmpOp}{r r':R2} (ho:mM X (compareOp op) r) (ho':mM X (compareOp op') r') (ha:PE X a ta) (hb:PE X b tb) (hc:PE X c tc)
  (hm:lastMarks [op,op'] [b,c]=false:=by with_unfolding_all rfl):PE X (.Compare a [op,op'] [b,c] pos) (aDP r r' ta tb tc):=by
 intro pins s σ H Q I h
 refine Compare_chain (dW (ha pins s σ H _ I h) fun v s1 ⟨x,H1,I1,r1,q1⟩=>chain_link (dW (hb pins s1 σ H1 _ I1 q1) fun u s2 ⟨y,H2,I2,r2,q2⟩=>
  dW (ho pins s2 σ H2 x y v u _ I2 r1 r2 q2) fun d s3 ⟨z,H3,I3,r3,k,e,q3⟩=>?_)) hm
 subst e
 cases r3
 refine wpAny_truthy_bool ?_
 cases k with
 | false=>exact ite_ff ⟨.bl false,H3,I3,rfl,q3⟩
 | true=>exact ite_tt (chain_last (dW (hc pins s3 σ H3 _ I3 q3) fun w' s4 ⟨z',H4,I4,r4,q4⟩=>ho' pins s4 σ H4 y z' u w' Q I4 r2 r4 q4))
def aDv (K:PySem.W.Frag) (x:V) (H:Hp) (k:Bool):Prop:=
 match x with
 | .non=>k=false
 | .bl b=>k=b
 | .int i=>k=(i != 0)
 | .str y=>y.length≤sizeLine∧k=((y.length:Int) != 0)
 | .byt y=>y.size≤sizeLine∧k=((y.size:Int) != 0)
 | .ref p=>(∃ xs,jH K H p xs∧k = !xs.isEmpty)∨(∃ xs,kC K H p xs∧k = !xs.isEmpty)∨∃ kvs,H p=some (.dK kvs)∧k = !kvs.isEmpty
 | _=>False
theorem wX {κ:Type}{kvs:List (κ×V)}{vs:List (κ×Value)} (r:KV kvs vs):(!vs.isEmpty) = !kvs.isEmpty:=by
 cases r <;> rfl
theorem p6 {xs:List V}{its:List Value} (r:bO xs its):(!its.toArray.isEmpty) = !xs.isEmpty:=by
 cases r <;> simp
theorem nN:(sizeLine:Nat)<2 ^ 63:=by rw [sizeLine_eq];decide
theorem aBf:aEU X (fun x H Q=>∃ k,aDv X.K x H k∧Q k H):=by
 intro pins s σ H x v Q I rx h
 obtain ⟨k,e,q⟩:=h
 have hl:=nN
 have hs:sizeLine=16777216:=sizeLine_eq
 cases x with
 | non=>
  cases rx
  have e':k=false:=e
  subst e'
  exact truthy_none ⟨H,I,q⟩
 | bl b=>
  cases rx
  have e':k=b:=e
  subst e'
  exact wpAny_truthy_bool ⟨H,I,q⟩
 | int i=>
  obtain ⟨t,rfl⟩:=rx
  have e':k=(i != 0):=e
  subst e'
  exact PySem.P.truthy_int ⟨H,I,q⟩
 | str y=>
  obtain ⟨t,rfl⟩:=rx
  obtain ⟨hy,e'⟩:y.length≤sizeLine∧k=((y.length:Int) != 0):=e
  subst e'
  exact PySem.P.truthy_str (by omega) ⟨H,I.tok _,q⟩
 | byt y=>
  obtain ⟨t,rfl⟩:=rx
  obtain ⟨hy,e'⟩:y.size≤sizeLine∧k=((y.size:Int) != 0):=e
  subst e'
  exact PySem.W.truthy_bytes (by omega) ⟨H,I.tok _,q⟩
 | ref p=>
  cases rx
  have e':(∃ xs,jH X.K H p xs∧k = !xs.isEmpty)∨(∃ xs,kC X.K H p xs∧k = !xs.isEmpty)∨∃ kvs,H p=some (.dK kvs)∧k = !kvs.isEmpty:=e
  rcases e' with ⟨xs,hx,e'⟩ | ⟨xs,hx,e'⟩ | ⟨kvs,hx,e'⟩
  ·subst e'
   obtain ⟨its,r,pl,hz⟩:=I.list hx
   have hlen:=r.length
   exact wpAny_truthy_list pl.isList (by simp only [List.size_toArray];omega) ⟨H,I.tok _,by rw [p6 r];exact q⟩
  ·subst e'
   obtain ⟨its,r,pl,hz⟩:=I.tuple hx
   have hlen:=r.length
   exact truthy_tuple pl (by simp only [List.size_toArray];omega) ⟨H,I.tok _,by rw [p6 r];exact q⟩
  ·subst e'
   obtain ⟨hz,hS,vs,r,m⟩:kvs.length≤sizeLine∧(p == sysModules)=false∧∃ vs,KV kvs vs∧s.heap.DictOf (oX X.prog X.w) p vs:=I.hok p _ hx
   have hlen:kvs.length=vs.length:=Paired.length r
   exact wpAny_truthy_dict hS m (by omega) ⟨H,I.tok _,by rw [wX r];exact q⟩
 | _=>exact (show False from e).elim
theorem aBx (ha:PE X a ta) (he:∀ whole,isTrue a X.env whole=(do let v ← whole;standAt a.pos;holding [v] (truthy v))) :
  PT X a (fun σ H Q=>ta σ H fun x H'=>∃ k,aDv X.K x H' k∧Q k H'):=by
 intro pins s σ H Q I h
 exact isTrue_plain (dW (ha pins s σ H _ I h) fun v s1 ⟨x,H1,I1,r1,q1⟩=>aBf pins s1 σ H1 x v Q I1 r1 q1) (he _)
theorem xU:mM X (binaryOp .Add) (fun x y H Q=>∃ i j,x = .str i∧y = .str j∧i.length+j.length≤sizeLine∧Q (.str (i++j)) H):=by
 intro pins s σ H x y v u Q I rx ry h
 obtain ⟨i,j,rfl,rfl,hz,q⟩:=h
 obtain ⟨t,rfl⟩:=rx
 obtain ⟨t',rfl⟩:=ry
 exact add_str (fun t' tk=>⟨.str (i++j),H,I.tok _,⟨_,rfl⟩,q⟩) hz
theorem p5 {x:V}{us:List Value} (r:bO [x] us):∃ u,us=[u]∧cC x u:=by
 cases r with
 | cons r1 r2=>cases r2;exact ⟨_,rfl,r1⟩
theorem aCP {x y:V}{us:List Value} (r:bO [x,y] us):∃ u w',us=[u,w']∧cC x u∧cC y w':=by
 cases r with
 | cons r1 r2=>
  cases r2 with
  | cons r3 r4=>cases r4;exact ⟨_,_,rfl,r1,r3⟩
theorem uD:fX X (.type "str") (fun xs H Q=>∃ i,xs=[.int i]∧i.natAbs.log2<1920∧Q (.str (toString i)) H):=by
 intro pins s σ H xs us Q I r h
 obtain ⟨i,rfl,hz,q⟩:=h
 obtain ⟨u,rfl,t,rfl⟩:=p5 r
 exact PySem.P.str_of_int hz ⟨.str _,H,I.tok _,⟨_,rfl⟩,q⟩
end
structure aDj (h:Heap) (x dx C:Addr) (mA:Str→Option Value):Prop where
 obj:h.get? x=some (PySem.W.instObj C dx)
 ns:h.Ns1 dx mA
 ne:dx≠x
theorem zS {h:Heap}{dx:Addr}{mA:Str→Option Value} (n:h.Ns1 dx mA):∃ od,h.get? dx=some od∧∀ name,PySem.W.lookIn name od=some (mA name):=by
 obtain ⟨o,es,ep,ho,hd,hk,_,hm⟩:=n
 refine ⟨o,ho,fun name=>?_⟩
 have e:=hm name
 unfold nsFind findBy at e
 rw [← Array.find?_toList] at e
 unfold PySem.W.lookIn
 rw [hd]
 dsimp only
 split
 ·rename_i y q
  rw [q] at e
  exact congrArg some e
 ·rename_i q
  rw [q] at e
  have a:es.toList.any (·.refKey)=false:=by
   rw [List.any_eq_false]
   intro y hy
   obtain ⟨z,t,hkey⟩:=hk y (Array.mem_toList_iff.mp hy)
   simp [DictEntry.refKey,hkey]
  have a':¬ es.toList.any (·.refKey)=true:=by rw [a];exact Bool.false_ne_true
  rw [if_neg a']
  exact congrArg some e
theorem aDj.look {h:Heap}{x dx C:Addr}{mA:Str→Option Value} (I:aDj h x dx C mA):∃ od,PySem.W.InstAt h x (PySem.W.instObj C dx) C (some od)∧∀ name,PySem.W.lookIn name od=some (mA name):=
 let ⟨od,ho,hl⟩:=zS I.ns
 ⟨od,⟨I.obj,rfl,rfl,ho⟩,hl⟩
section
variable {prog:Program}{w:World}{A:Around}{E:Value→Shared→Prop}{s:Shared}{K:PySem.W.Frag}{x dx C f:Addr}{mA:Str→Option Value}{name:Str}{v:Value}
end
section
variable {P:Program}{w:World}{H H':Hp}{h h':Heap}{a C dx:Addr}{fs fs':List (Str×V)}
theorem aB4 (hok:nE P w H h) (e:H a=some (.ins C dx fs)):∃ mA,aDj h a dx C mA∧(∀ f,aDy (fs.lookup f) (mA f))∧PySem.Within mA (fs.map (·.1))∧fs.length≤1000∧H dx=some (.own a):=by
 obtain ⟨d,z,ne,ob,mA,n,r,q⟩:=(show eU P w H h a (.ins C dx fs) from hok a _ e)
 exact ⟨mA,⟨ob,n,ne⟩,r,q,z,d⟩
end
structure Cls (K:PySem.W.Frag) (C:Addr):Prop where
 pg:PySem.W.plainGet K C Str.empty=true
 hd:PySem.W.hasDictIn K C=true
 po:PySem.W.plainOver K C=true
 sa:PySem.W.findIn K (.ref C) "__setattr__"=some (some (.builtin "object.__setattr__"))
theorem Cls.get {K:PySem.W.Frag}{C:Addr} (c:Cls K C) (f:Str):PySem.W.plainGet K C f=true:=c.pg
section
variable {X:Cx}{pins:List (Addr×Obj)}{σ:St}{H:Hp}{s:Shared}{a C dx:Addr}{fs:List (Str×V)}{f:Str}{v:V}{A:Around}{E:Value→Shared→Prop}
end
section
variable {X:Cx}{o e value:Expr}{f:Str}{pos pos' tpos:Pos}{ta tv:TE}
end
section
variable {X:Cx}{pins:List (Addr×Obj)}{σ:St}{H:Hp}{s:Shared}{A:Around}{E:Value→Shared→Prop}{Q:Value→Shared→Prop}{c:Value}{b:Bool}
inductive oU (K:PySem.W.Frag) (H:Hp):V→Value→Prop where
 | non:oU K H .non (.type "NoneType")
 | bl (x:Bool):oU K H (.bl x) (.type "bool")
 | int (i:Int):oU K H (.int i) (.type "int")
 | str (x:Str):oU K H (.str x) (.type "str")
 | flt (x:UInt64):oU K H (.flt x) (.type "float")
 | lst {a:Addr}{xs:List V} (e:H a=some (.lst xs)):oU K H (.ref a) (.type "list")
 | frz {a:Addr}{o:Obj}{xs:List V} (e:H a=some (.frz o (.lst xs))):oU K H (.ref a) (.type "list")
 | tup {a:Addr}{xs:List V} (e:H a=some (.tup xs)):oU K H (.ref a) (.type "tuple")
 | dK {a:Addr}{kvs:List (rH×V)} (e:H a=some (.dK kvs)):oU K H (.ref a) (.type "dict")
 | dT {a:Addr}{K':PySem.W.Frag}{f:Nat→Bool}{kvs:List (NK×V)} (e:H a=some (.dT K' f kvs)):oU K H (.ref a) (.type "dict")
 | ins {a C dx:Addr}{fs:List (Str×V)} (e:H a=some (.ins C dx fs)) (cl:Cls K C) (ha:PySem.W.findIn K (.ref C) "__class__"=some (some (.builtin "object.__class__")))
   (hn:PySem.W.specialIn K (.builtin "object.__class__") "__get__"=some (some (.builtin "getset_descriptor.__get__"))) (htk:PySem.W.takesIn K (.builtin "object.__class__")=some true)
   (hm:PySem.W.mroIn K C (.type "object")=some true):oU K H (.ref a) (.ref C)
theorem k9 {x:V}{u t:Value} (I:aP X pins σ H s) (rx:cC x u) (ty:oU X.K H x t) (e:PySem.W.kitOne X.K t c=some b) (h:∀ tk,Q (.bool b) { s with toks:=tk }) :
  wpAny (model X.prog X.w) A (call (.builtin "isinstance") [u,c]) Q E s:=by
 cases ty with
 | non=>cases (show u=Value.none from rx);exact PySem.W.kia_one PySem.W.kitx_none I.kIn True.intro e (fun z=>nomatch z) h
 | bl y=>cases (show u=Value.bool y from rx);exact PySem.W.kia_one PySem.W.kitx_bool I.kIn True.intro e (fun z=>nomatch z) h
 | int i=>obtain ⟨t,q⟩:=(show ∃ t,u=Value.int i t from rx);cases q;exact PySem.W.kia_one PySem.W.kitx_int I.kIn True.intro e (fun z=>nomatch z) h
 | str y=>obtain ⟨t,q⟩:=(show ∃ t,u=Value.str y t from rx);cases q;exact PySem.W.kia_one PySem.W.kitx_str I.kIn True.intro e (fun z=>nomatch z) h
 | flt y=>obtain ⟨t,q⟩:=(show ∃ t,u=Value.float y t from rx);cases q;exact PySem.W.kia_one PySem.W.kitx_float I.kIn True.intro e (fun z=>nomatch z) h
 | @lst a xs ea=>
  cases (show u=Value.ref a from rx)
  obtain ⟨_,_,n,_,h1⟩:=(show eU X.prog X.w H s.heap a (.lst xs) from I.hok a _ ea)
  exact PySem.W.kia_one PySem.W.kitx_list I.kIn ⟨_,h1,rfl⟩ e (fun z=>nomatch z) h
 | @frz a ob xs ea=>
  cases (show u=Value.ref a from rx)
  obtain ⟨_,_,_,n,_,h1⟩:=(show eU X.prog X.w H s.heap a (.frz ob (.lst xs)) from I.hok a _ ea)
  exact PySem.W.kia_one PySem.W.kitx_list I.kIn ⟨_,h1,rfl⟩ e (fun z=>nomatch z) h
 | @tup a xs ea=>
  cases (show u=Value.ref a from rx)
  obtain ⟨_,_,_,p⟩:=(show eU X.prog X.w H s.heap a (.tup xs) from I.hok a _ ea)
  obtain ⟨o,h1,h2,_⟩:=p
  exact PySem.W.kia_one PySem.W.kitx_tuple I.kIn ⟨o,h1,h2⟩ e (fun z=>nomatch z) h
 | @dK a kvs ea=>
  cases (show u=Value.ref a from rx)
  obtain ⟨_,_,vs,_,p⟩:=(show eU X.prog X.w H s.heap a (.dK kvs) from I.hok a _ ea)
  obtain ⟨o,es,ep,h1,h2,_⟩:=p
  exact PySem.W.kia_one PySem.W.kitx_dict I.kIn ⟨o,h1,h2.1⟩ e (fun z=>nomatch z) h
 | @dT a K' f kvs ea=>
  cases (show u=Value.ref a from rx)
  obtain ⟨_,_,xs,_,o,es,ep,h1,h2,_⟩:=(show eU X.prog X.w H s.heap a (.dT K' f kvs) from I.hok a _ ea)
  exact PySem.W.kia_one PySem.W.kitx_dict I.kIn ⟨o,h1,h2.1⟩ e (fun z=>nomatch z) h
 | @ins a C dx fs ea cl ha hn htk hm=>
  cases (show u=Value.ref a from rx)
  obtain ⟨mA,O,_⟩:=aB4 I.hok ea
  obtain ⟨od,J,_⟩:=O.look
  exact PySem.W.kia_one (PySem.W.kitx_own (cl.get _) cl.hd ha hn htk hm) I.kIn J e (fun z=>nomatch z) h
end
structure cM (k:Nat) (A:Around):Prop where
 hd:A.handled=none
 dp:A.depth+3 * k+5<recursionLimit
 un:A.units+16 * k+200<cLine
theorem cM.mono {j k:Nat}{A:Around} (r:cM k A) (h:j≤k):cM j A:=⟨r.hd,by have:=r.dp;omega,by have:=r.un;omega⟩
theorem cM.deeper {k:Nat}{A:Around} (r:cM (k+1) A) (env:Env):cM k (A.deeper env):=
 ⟨r.hd,by have:=r.dp;show A.depth+1+3 * k+5<_;omega,by have:=r.un;show A.units+3+16 * k+200<_;omega⟩
theorem cM.depth {k:Nat}{A:Around} (r:cM k A):A.depth<recursionLimit:=by have:=r.dp;omega
theorem cM.units {k:Nat}{A:Around} (r:cM k A):A.units+64<cLine:=by have:=r.un;omega
def aC2:TA:=fun _ H Q=>Q [] H
def aBm (ta:TE) (tr:TA):TA:=fun σ H Q=>ta σ H fun x H1=>tr σ H1 fun xs H2=>Q (x::xs) H2
section
variable {X:Cx}{e:Expr}{es:List Expr}{te:TE}{t:TA}{pos:Pos}
theorem g5:PA X [] aC2:=fun _ _ _ _ H Q I h=>Calls.spliced_nil ⟨[],H,I,.nil,h⟩
theorem dR (ha:PE X e te) (hr:PA X es t) (hs:starEach (e::es) X.env=(false,eval e X.env)::starEach es X.env:=by rfl):PA X (e::es) (aBm te t):=by
 intro pos pins s σ H Q I h
 rw [hs]
 show wpAny _ _ (spliced ((false,eval e X.env)::backTo pos (starEach es X.env))) _ _ s
 refine Calls.spliced_cons (dW (ha pins s σ H _ I h) fun u s1 ⟨x,H1,I1,r1,q1⟩=>?_)
 exact dW (hr pos pins s1 σ H1 _ I1 q1) fun us s2 ⟨xs,H2,I2,r2,q2⟩=>⟨x::xs,H2,I2,.cons r1 r2,q2⟩
def aEV (t:TA):TE:=fun σ H Q=>t σ H fun xs H1=>xs.length≤sizeLine∧∀ p,H1 p=none→Q (.ref p) (upd H1 p (.tup xs))
def aEB (t:TA):TE:=fun σ H Q=>t σ H fun xs H1=>xs.length≤sizeLine∧∀ p,H1 p=none→Q (.ref p) (upd H1 p (.lst xs))
theorem aCZ {x1} (h:PA X es t):PE X (.Tuple es x1 pos) (aEV t):=by
 intro pins s σ H Q I hq
 refine wpAny_Tuple_spliced (dW (h pos pins s σ H _ I hq) fun us s1 ⟨xs,H1,I1,r,z,q⟩=>⟨by rw [← r.length];exact z,?_⟩)
 have hf:H1 s1.heap.objs.size=none:=I1.hok.fresh (Nat.le_refl _)
 refine ⟨.ref s1.heap.objs.size,upd H1 s1.heap.objs.size (.tup xs),I1.laid (t':=s1.toks) (fun b u e=>Heap.get?_push_of_some _ e) (Nat.le_refl _) ?_,rfl,q _ hf⟩
 exact ⟨z,us,r,⟨_,Heap.get?_push_size _ rfl,rfl,_,rfl⟩⟩
theorem aDD (h:PA X es t):PE X (.List es pos) (aEB t):=by
 intro pins s σ H Q I hq
 refine wpAny_List_spliced (dW (h pos pins s σ H _ I hq) fun us s1 ⟨xs,H1,I1,r,z,q⟩=>⟨by rw [← r.length];exact z,?_⟩)
 have hf:H1 s1.heap.objs.size=none:=I1.hok.fresh (Nat.le_refl _)
 refine ⟨.ref s1.heap.objs.size,upd H1 s1.heap.objs.size (.lst xs),I1.laid (t':=s1.toks) (fun b u e=>Heap.get?_push_of_some _ e) (Nat.le_refl _) ?_,rfl,q _ hf⟩
 exact ⟨z,us,0,r,Heap.get?_push_size _ rfl⟩
end
abbrev Sp:=List V→Hp→VK→XK→Prop
abbrev CXT:=List Env→Hp→Shared→XK→Value→Shared→Prop
structure aBW (P:Program) (w:World) (K:PySem.W.Frag) (mg:Str→Option Value) (base:Heap) (A:Around) (outer:List Env) (s:Shared) (H:Hp):Prop where
 frames:A.frames=some outer
 mod:Mod K mg base
 bs:∀ b o,base.get? b=some o→s.heap.get? b=some o∧H b=none
 bsz:base.objs.size≤s.heap.objs.size
 funs:s.heap.FunFrames base outer
 frf:∀ b∈frs outer,H b=none
 hok:nE P w H s.heap
 bare:AllBare s.gens
def CE (outer:List Env) (P:Program) (w:World) (H:Hp) (s:Shared) (Q:VK) (u:Value) (s':Shared):Prop:=
 ∃ v H',s'.os=s.os∧AllBare s'.gens∧Un (frs outer) [] H H' s.heap s'.heap∧nE P w H' s'.heap∧cC v u∧Q v H'
def CR (CX:CXT) (outer:List Env) (P:Program) (w:World) (H:Hp) (s:Shared) (Q:VK) (E:XK) (r:Result) (s':Shared):Prop:=
 match r with
 | .ok (.ret u)=>CE outer P w H s Q u s'
 | .ok _=>False
 | .error e=>CX outer H s E e s'
structure kF (P:Program) (w:World) (K:PySem.W.Frag) (mg:Str→Option Value) (base:Heap) (CX:CXT) (k:Nat) (f:Addr) (fd:FuncData) (ps:List Str) (sp:Sp):Prop where
 len:∀ vs H Q E,sp vs H Q E→vs.length=ps.length
 run:∀ (A:Around) (outer:List Env) (s:Shared) (H:Hp) (args:Args) (us:List Value) (vs:List V) (Q:VK) (E:XK),cM k A→aBW P w K mg base A outer s H→BindsTo s fd args (ps.zip us)→bO vs us→sp vs H Q E →
  codeAny (model P w) A (.call (.ref f) args) (CR CX outer P w H s Q E) s
section
variable {X:Cx}{pins:List (Addr×Obj)}{σ:St}{H:Hp}{s s':Shared}
theorem aP.env0 (I:aP X pins σ H s):aBW X.prog X.w X.K X.mg X.base X.A X.stack s H:=
 ⟨I.ok.frames,I.ok.mod,I.bs,Nat.le_trans I.ok.bsz I.sz,I.stack,I.stkFree,I.hok,I.bare⟩
theorem aP.after {Q:VK}{u:Value} (I:aP X pins σ H s) (h:CE X.stack X.prog X.w H s Q u s'):EP X pins σ Q u s':=by
 obtain ⟨v,H',os,bare,un,hok,r,q⟩:=h
 obtain ⟨hh,g,d,t,os'⟩:=s'
 obtain rfl:os'=s.os:=os
 exact ⟨v,H',I.call (h':=hh) (g':=g) (d':=d) (t':=t) (ch:=[]) un hok bare (fun b z=>absurd z (by simp)),r,q⟩
end
def aD9 (sp:Sp) (dvs:List V) (E:XK) (t:TA):TE:=fun σ H Q=>t σ H fun vs H1=>sp (vs++dvs) H1 Q E
def j3 (K:PySem.W.Frag) (fd:FuncData) (ps:List Str) (ds:List Value):Prop:=
 ∀ (s:Shared) (us:List Value),K.In s.heap→(us++ds).length=ps.length→BindsTo s fd ⟨us,[]⟩ (ps.zip (us++ds))
theorem j3.all {K:PySem.W.Frag}{fd:FuncData}{ps:List Str} (h:∀ us:List Value,us.length=ps.length→bindArgs fd ⟨us,[]⟩=pure (ps.zip us)):j3 K fd ps []:=fun s us _ hl=>by
 rw [List.append_nil] at hl ⊢
 exact .of_eq (h us hl)
def iY (CX:CXT) (X:Cx) (E:XK):Prop:=∀ (pins:List (Addr×Obj)) (σ:St) (H:Hp) (s:Shared) (e:Value) (s':Shared),aP X pins σ H s→CX X.stack H s E e s'→X.xe e s'
section
variable {X:Cx}{CX:CXT}{k:Nat}{f C:Addr}{fd:FuncData}{ps:List Str}{sp:Sp}{dvs:List V}{ds:List Value}{E:XK}{x m:Str}{p pos apos:Pos}{e o:Expr}{es:List Expr}{ta:TE}{t:TA}
theorem aDg {pins:List (Addr×Obj)}{σ:St}{H:Hp}{s:Shared}{Q:VK}{us:List Value}{vs:List V} (F:kF X.prog X.w X.K X.mg X.base CX k f fd ps sp) (hr:cM k X.A) (hb:j3 X.K fd ps ds) (hd:bO dvs ds) (hx:iY CX X E)
  (I:aP X pins σ H s) (r:bO vs us) (h:sp (vs++dvs) H Q E):wpAny (model X.prog X.w) X.A (call (.ref f) us) (EP X pins σ Q) X.xe s:=by
 have r2:bO (vs++dvs) (us++ds):=r.append hd
 have hl:(us++ds).length=ps.length:=by rw [← r2.length];exact F.len _ _ _ _ h
 refine wpAny_call (codeAny_mono (F.run X.A X.stack s H ⟨us,[]⟩ (us++ds) (vs++dvs) Q E hr I.env0 (hb s us I.kIn hl) r2 h) fun r s' hq=>?_)
 cases r with
 | error e=>exact hx pins σ H s e s' I hq
 | ok fl=>
  cases fl with
  | ret u=>exact I.after hq
  | next=>exact False.elim hq
  | brk=>exact False.elim hq
  | cont=>exact False.elim hq
theorem uH (F:kF X.prog X.w X.K X.mg X.base CX k f fd ps sp) (hr:cM k X.A) (hg:Gl X x) (hm:X.mg x=some (.ref f)) (hk:PySem.W.keepIn X.K (.ref f)=true) (hb:j3 X.K fd ps ds) (hd:bO dvs ds) (hx:iY CX X E)
  (ha:PA X (e::es) t) (hdb:(x == ("__debug__":Str))=false:=by decide) (he:starEach (e::es) X.env=(false,eval e X.env)::starEach es X.env:=by rfl) (hpl:(backTo pos (starEach es X.env)).any (·.1)=false:=by rfl) :
  PE X (.Call (.Name x p) (e::es) [] pos) (aD9 sp dvs E t):=by
 intro pins s σ H Q I h
 refine wpAny_Call_Name_kw (oZ I hg hm ?_ hdb)
 refine PySem.W.callWith_K (h₀:=X.base) I.ok.mod.kin hk (dW (ha pos pins s σ H _ I h) fun us s1 ⟨vs,H1,I1,r,q⟩=>⟨I1.kIn,?_⟩) he hpl
 exact aDg F hr hb hd hx I1 r q
end
section
variable {X:Cx}{CX:CXT}{k:Nat}{f C:Addr}{fd:FuncData}{ps ks:List Str}{sp:Sp}{E:XK}{x m:Str}{p pos apos kpos:Pos}{e o:Expr}{es:List Expr}{kws:List Keyword}{te ta:TE}{t tk:TA}{nm:Option Str}
variable {g:List Value→List Value→List Value}{gV:List V→List V→List V}
end
structure aX (N P:List Str) (sc:Scope):Prop where
 kind:sc.kind = .function
 co:sc.isCoroutine=false
 gen:sc.isGenerator=false
 nd:N.Nodup
 pre:N.take P.length=P
 par:∀ x∈P,sc.names.lookup x=some .local∨sc.names.lookup x=some .cell
 nofree:∀ y∈sc.names,y.2≠.free
theorem sZ {kindOf:Str→Option NameKind}{x:Str}:∀ {binds:List (Str×Value)}{m:Str→Option Value},(∀ v,(x,v)∉binds)→bindL kindOf binds m x=m x
 | [],_,_=>rfl
 | (n,v)::r,m,h=>by
  unfold bindL
  rw [sZ fun w hw=>h w (List.mem_cons_of_mem _ hw)]
  split
  ·have:x≠n:=by rintro rfl;exact h v List.mem_cons_self
   simp [this]
  ·rfl
theorem tE {kindOf:Str→Option NameKind}{x:Str}:∀ {binds:List (Str×Value)}{m:Str→Option Value},(∀ v,(x,v)∉binds)→bindC kindOf binds m x=m x
 | [],_,_=>rfl
 | (n,v)::r,m,h=>by
  unfold bindC
  rw [tE fun w hw=>h w (List.mem_cons_of_mem _ hw)]
  split
  ·rfl
  ·have:x≠n:=by rintro rfl;exact h v List.mem_cons_self
   simp [this]
theorem sX {kindOf:Str→Option NameKind}{x:Str}{v:Value}:∀ {P:List Str}{vs:List Value}{i:Nat}{m:Str→Option Value},P.Nodup→P[i]? = some x→vs[i]? = some v→kindOf x=some .local →
  bindL kindOf (P.zip vs) m x=some v
 | [],_,_,_,_,h,_,_=>by simp at h
 | _::_,[],_,_,_,_,h,_=>by simp at h
 | p::P,w::vs,0,m,nd,h1,h2,hk=>by
  simp at h1 h2;subst h1;subst h2
  show bindL kindOf ((p,w)::P.zip vs) m p=_
  unfold bindL
  rw [sZ fun v hv=>(List.nodup_cons.mp nd).1 (List.of_mem_zip hv).1,if_pos hk]
  simp
 | p::P,w::vs,i+1,m,nd,h1,h2,hk=>by
  show bindL kindOf ((p,w)::P.zip vs) m x=_
  unfold bindL
  exact sX (i:=i) (List.nodup_cons.mp nd).2 (by simpa using h1) (by simpa using h2) hk
theorem sQ {kindOf:Str→Option NameKind}{x:Str}{v:Value}:∀ {P:List Str}{vs:List Value}{i:Nat}{m:Str→Option Value},P.Nodup→P[i]? = some x→vs[i]? = some v→kindOf x≠some .local →
  bindC kindOf (P.zip vs) m x=some v
 | [],_,_,_,_,h,_,_=>by simp at h
 | _::_,[],_,_,_,_,h,_=>by simp at h
 | p::P,w::vs,0,m,nd,h1,h2,hk=>by
  simp at h1 h2;subst h1;subst h2
  show bindC kindOf ((p,w)::P.zip vs) m p=_
  unfold bindC
  rw [tE fun v hv=>(List.nodup_cons.mp nd).1 (List.of_mem_zip hv).1,if_neg hk]
  simp
 | p::P,w::vs,i+1,m,nd,h1,h2,hk=>by
  show bindC kindOf ((p,w)::P.zip vs) m x=_
  unfold bindC
  exact sQ (i:=i) (List.nodup_cons.mp nd).2 (by simpa using h1) (by simpa using h2) hk
def g8 (N:List Str) (vs:List V):St:=vs.map some++List.replicate (N.length-vs.length) none
def fV (CX:CXT) (P:Program) (w:World) (K:PySem.W.Frag) (mg:Str→Option Value) (base:Heap) (N:List Str) (qual:Str) (scope:Scope) (f:Addr) (cd:Value) (A:Around) (outer:List Env) (s:Shared) (H:Hp) (E:XK):Cx where
 prog:=P
 w:=w
 K:=K
 mg:=mg
 base:=base
 A:=A.deeper (envOfC qual scope s.heap.objs.size f cd)
 N:=N
 s₀:=s
 H₀:=H
 env:=envOfC qual scope s.heap.objs.size f cd
 outer:=outer
 stack:=envOfC qual scope s.heap.objs.size f cd::outer
 ex:=[]
 calm:=true
 fn:=fun _=>true
 pn:=[]
 xe:=fun e s'=>wpAny (model P w) (A.deeper (envOfC qual scope s.heap.objs.size f cd)) (leaving (envOfC qual scope s.heap.objs.size f cd) e) (fun _ s''=>CX outer H s E e s'') (fun e' s''=>CX outer H s E e' s'') s'
theorem wB {sc:Scope}{n:Nat}{x:Str} (h:sc.names.lookup x=some .cell):∃ c,(cellsFrom n sc.names []).lookup x=some c:=by
 have q:=PySem.W.cellsFrom_some sc.names n [] (.inl h)
 exact Option.isSome_iff_exists.mp q
theorem zU {CX:CXT}{P:Program}{w:World}{K:PySem.W.Frag}{mg:Str→Option Value}{base:Heap}{N ps:List Str}{qual:Str}{scope:Scope}{f:Addr}{cd:Value}{A:Around}{outer:List Env}{s s1:Shared}{H:Hp}{E:XK}{us:List Value}{vs:List V}
  (S:aX N ps scope) (hd:A.handled=none) (e0:aBW P w K mg base A outer s H) (hl:vs.length=ps.length) (r:bO vs us)
  (x:InCallC s s.heap.objs.size (bindL (envOfC qual scope s.heap.objs.size f cd).kindOf (ps.zip us) fun _=>none) (cellsFrom (s.heap.objs.size+1) scope.names []) (bindC (envOfC qual scope s.heap.objs.size f cd).kindOf (ps.zip us) fun _=>none) s1) :
  aP (fV CX P w K mg base N qual scope f cd A outer s H E) [] (g8 N vs) H s1:=by
 have hpl:ps.length≤N.length:=by have:=congrArg List.length S.pre;rw [List.length_take] at this;omega
 obtain ⟨h1,tk,rfl,hk⟩:=x.done
 have noA:∀ b:Addr,b∉(fV CX P w K mg base N qual scope f cd A outer s H E).ex:=fun b z=>absurd (show b∈([]:List Addr) from z) (by simp)
 refine ⟨⟨e0.mod,S.kind,rfl,rfl,Nat.le_refl _,fun y z c h1 h2=>?_,fun y hy=>?_,fun y c _ h=>?_,fun _=>hd,Around.frames_deeper e0.frames,.inr ⟨rfl,rfl⟩,fun b z=>absurd z (noA b),e0.bs,e0.bsz,fun b _ _=>noA b,fun b z=>absurd z (noA b),e0.funs,e0.frf⟩,
  rfl,e0.bare,Un.kept hk,⟨_,x.toInCall.ns,fun i y v h1 h2 h3=>?_⟩,fun y c h=>⟨_,x.cell y c h⟩,e0.hok.fresh (Nat.le_refl _),fun y c h=>?_,fun p hp=>absurd (show p∈([]:List (Addr×Obj)) from hp) (by simp),e0.hok.kept hk,?_⟩
 ·exact name_of_addr x.apart (PySem.mem_of_lookup h1) (PySem.mem_of_lookup h2)
 ·have hy:scope.names.lookup y=some .cell∨scope.names.lookup y=some .free:=hy
  rcases hy with hy | hy
  ·exact wB hy
  ·exact absurd rfl (S.nofree _ (PySem.mem_of_lookup hy))
 ·exact Nat.le_of_lt (x.above y c (PySem.mem_of_lookup h))
 ·have hi:i<vs.length:=by
   unfold g8 at h2
   by_cases hi:i<vs.length
   ·exact hi
   ·rw [List.getElem?_append_right (by simpa using hi)] at h2
    rw [List.getElem?_replicate] at h2
    split at h2 <;> cases h2
  have ha:vs[i]? = some v:=by
   unfold g8 at h2
   rw [List.getElem?_append_left (by simpa using hi),List.getElem?_map] at h2
   cases e:vs[i]? with
   | none=>rw [e] at h2;cases h2
   | some a=>rw [e] at h2;cases h2;rfl
  obtain ⟨u,hu,rv⟩:=r.get ha
  have hp:ps[i]? = some y:=by
   rw [← S.pre,List.getElem?_take_of_lt (by omega)];exact h1
  have ndP:ps.Nodup:=by rw [← S.pre];exact S.nd.sublist (List.take_sublist _ _)
  refine ⟨u,rv,?_⟩
  rcases S.par y (List.mem_of_getElem? hp) with k | k
  ·exact .inl ⟨k,sX ndP hp hu k⟩
  ·obtain ⟨c,e⟩:=wB (n:=s.heap.objs.size+1) k
   refine .inr ⟨.inl k,c,e,?_⟩
   have q:=x.cell y c e
   rw [sQ ndP hp hu (by show scope.names.lookup y≠_;rw [k];decide)] at q
   exact q
 ·exact e0.hok.fresh (Nat.le_of_lt (x.above y c (PySem.mem_of_lookup h)))
 ·unfold g8
  show _=N.length
  rw [List.length_append,List.length_map,List.length_replicate]
  omega
theorem aCS {CX:CXT}{P:Program}{w:World}{K:PySem.W.Frag}{mg:Str→Option Value}{base:Heap}{k:Nat}{f:Addr}{name qual:Str}{params:Arguments}{body:List Stmt}{scope:Scope}{dV kV doc pm cdv ct oc:Value}{an od:Option Addr}
  {osl:Array (Option Value)}{N ps:List Str}{sp:Sp} (lk:K.lookup f=some ⟨oc,od,.func (PySem.W.fnOf name qual params body scope dV kV doc pm an cdv ct),osl⟩) (hcd:PySem.W.codeIn K cdv qual=true) (S:aX N ps scope)
  (len:∀ vs H Q E,sp vs H Q E→vs.length=ps.length)
  (hbody:∀ (A:Around) (outer:List Env) (s:Shared) (H:Hp) (vs:List V) (Q:VK) (E:XK),cM k (A.deeper (envOfC qual scope s.heap.objs.size f cdv))→sp vs H Q E →
   ∃ t,uG (fV CX P w K mg base N qual scope f cdv A outer s H E) body t∧t { nx:=fun _ H'=>Q .non H',rt:=Q } (g8 N vs) H) :
  kF P w K mg base CX (k+1) f (PySem.W.fnOf name qual params body scope dV kV doc pm an cdv ct) ps sp:=by
 refine ⟨len,fun A outer s H args us vs Q E hr e0 hb r hsp=>?_⟩
 have hl:=len _ _ _ _ hsp
 have KX:K.In s.heap:=e0.mod.kin.keeps fun b o e=>(e0.bs b o e).1
 have lim:s.heap.NoLimit:=e0.mod.nolimit.keeps fun b o e=>(e0.bs b o e).1
 have hkind:∀ y∈ps.zip us,scope.names.lookup y.1=some .local∨(scope.names.lookup y.1=some .cell∧((cellsFrom (s.heap.objs.size+1) scope.names []).lookup y.1).isSome=true):=fun ⟨n,v⟩ hy=>by
  rcases S.par n (List.of_mem_zip hy).1 with q | q
  ·exact .inl q
  ·exact .inr ⟨q,PySem.W.cellsFrom_some _ _ _ (.inl q)⟩
 refine codeAny_call_function hr.depth (KX _ _ lk) rfl S.co S.gen rfl (PySem.W.codeRec_of KX hcd) (hb _ _ _ _ ?_)
 refine wpAny_newFunctionEnv_cells S.kind hkind fun env he s1 x=>?_
 subst he
 refine ⟨lim.keeps x.toInCall.keep,codeAny_func ?_⟩
 obtain ⟨t,ht,hq⟩:=hbody A outer s H vs Q E (hr.deeper _) hsp
 have I:aP (fV CX P w K mg base N qual scope f cdv A outer s H E) [] (g8 N vs) H s1:=zU S hr.hd e0 hl r x
 refine wpAny_mono (ht [] s1 (g8 N vs) H _ I hq) (fun fl s' hs=>?_) fun e s' hs=>hs
 have fin:∀ {σ':St}{H':Hp}{v:V}{u:Value},aP (fV CX P w K mg base N qual scope f cdv A outer s H E) [] σ' H' s'→cC v u→Q v H'→CE outer P w H s Q u s':=
  fun {σ' H' v u} J rv q=>⟨v,H',J.os,J.bare,J.base,J.hok,rv,q⟩
 cases fl with
 | ret u=>
  obtain ⟨v,σ',H',J,rv,q⟩:=hs
  exact fin J rv q
 | next=>
  obtain ⟨σ',H',J,q⟩:=hs
  exact fin (v:=V.non) (u:=Value.none) J rfl q
 | brk=>
  obtain ⟨_,_,_,q⟩:=hs
  exact False.elim q
 | cont=>
  obtain ⟨_,_,_,q⟩:=hs
  exact False.elim q
section
variable {X:Cx}{x:Str}{p pos:Pos}{e:Expr}{es:List Expr}{t:TA}{id T:String}{r:List V→Hp→VK→Prop}
def tCB (r:List V→Hp→VK→Prop) (t:TA):TE:=fun σ H Q=>t σ H fun vs H1=>r vs H1 Q
theorem dD (hc:fX X (.builtin id) r) (hg:Gl X x) (hm:X.mg x=none) (hv:bootBuiltins x=some (.builtin id)) (ha:PA X (e::es) t) (hn:x≠"__name__":=by decide) (hdb:(x == ("__debug__":Str))=false:=by decide)
  (he:starEach (e::es) X.env=(false,eval e X.env)::starEach es X.env:=by rfl) (hpl:(backTo pos (starEach es X.env)).any (·.1)=false:=by rfl):PE X (.Call (.Name x p) (e::es) [] pos) (tCB r t):=by
 intro pins s σ H Q I h
 refine wpAny_Call_Name_kw (pH I hg hm hv ?_ hn hdb)
 exact PyProof.Rows.callWith_builtin1 (dW (ha pos pins s σ H _ I h) fun us s1 ⟨vs,H1,I1,r1,q1⟩=>hc pins s1 σ H1 vs us Q I1 r1 q1) he hpl
theorem dB (hc:fX X (.type T) r) (hg:Gl X x) (hm:X.mg x=none) (hv:bootBuiltins x=some (.type T)) (ha:PA X (e::es) t) (hn:x≠"__name__":=by decide) (hdb:(x == ("__debug__":Str))=false:=by decide)
  (he:starEach (e::es) X.env=(false,eval e X.env)::starEach es X.env:=by rfl) (hpl:(backTo pos (starEach es X.env)).any (·.1)=false:=by rfl):PE X (.Call (.Name x p) (e::es) [] pos) (tCB r t):=by
 intro pins s σ H Q I h
 refine wpAny_Call_Name_kw (pH I hg hm hv ?_ hn hdb)
 exact PyProof.Rows.callWith_type1 (dW (ha pos pins s σ H _ I h) fun us s1 ⟨vs,H1,I1,r1,q1⟩=>hc pins s1 σ H1 vs us Q I1 r1 q1) he hpl
end
end L2
namespace HT
open PySem PyProof.Rows
section
open PySem.SeqAt
open PySem.AutoSeq1 (wpAny_loadPart')
open PySem.MeetsSeq PySem.MeetsSeq2 PySem.MeetsSeq3
end
section
variable {prog:Program}{w:World}{A:Around}{E:Value→Shared→Prop}{s:Shared}
theorem cat_tup {t b:Addr}{vs ws:List Value}{Q:Value→Shared→Prop} (ht:IsTup s.heap t vs.toArray) (hb:IsTup s.heap b ws.toArray) (hv:vs≠[])
  (h1:ws=[]→Q (.ref t) s) (h2:ws≠[]→Q (.ref s.heap.objs.size) { s with heap:=s.heap.push { cls:=.type "tuple",data:=.seq (vs++ws).toArray } })
  (hsz:vs.length+ws.length≤sizeLine):wpAny (model prog w) A (binaryOp .Add (.ref t) (.ref b)) Q E s:=by
 obtain ⟨⟨cls,dd,data,sl⟩,ho,hc,n,hd⟩:=id ht
 obtain ⟨⟨cls2,dd2,data2,sl2⟩,ho2,hc2,n2,hd2⟩:=id hb
 simp only at hc hd hc2 hd2
 subst hc hd hc2 hd2
 have e:vs.toArray++ws.toArray=(vs++ws).toArray:=by simp
 by_cases hw:ws=[]
 ·exact concat_meets ⟨_,ho,rfl⟩ ⟨_,ho2,rfl⟩ noFill_tuple_add seq_tuple_add PySem.F.slot_tuple_add PySem.F.entry_tuple_add (PySem.F.args_tuple_add_2 _ _)
   (tuple_addW1 t b vs.toArray ws.toArray n n2 dd dd2 sl sl2 (by simpa using hv) (by simp [hw])) ⟨ho,ho2,h1 hw⟩
 ·refine concat_meets ⟨_,ho,rfl⟩ ⟨_,ho2,rfl⟩ noFill_tuple_add seq_tuple_add PySem.F.slot_tuple_add PySem.F.entry_tuple_add (PySem.F.args_tuple_add_2 _ _)
   (tuple_addW2 t b vs.toArray ws.toArray n n2 dd dd2 sl sl2 (by simpa using hv) (by simpa using hw) (by rw [List.size_toArray,List.size_toArray];exact hsz)) ⟨ho,ho2,?_⟩
  rw [e]
  exact h2 hw
def sIx (n d:Nat):Option Int→Nat
 | none=>d
 | some v=>if v<0 then (v+(n:Int)).toNat else min v.toNat n
theorem sIx_none (n d:Nat):sIx n d none=d:=rfl
theorem sIx_nat (n d k:Nat):sIx n d (some (k:Int))=min k n:=by
 show (if (k:Int)<0 then ((k:Int)+(n:Int)).toNat else min (k:Int).toNat n)=min k n
 rw [if_neg (by omega),Int.toNat_natCast]
end
end HT
namespace L2
open PySem PySem.Spec PyProof.Rows
abbrev TO:=St→Hp→(Option Int→Hp→Prop)→Prop
def PO (X:Cx) (e:Option Expr) (t:TO):Prop:=
 ∀ (pins:List (Addr×Obj)) (s:Shared) (σ:St) (H:Hp) (Q:Option Int→Hp→Prop),aP X pins σ H s→t σ H Q →
  wpAny (model X.prog X.w) X.A (evalPart e X.env) (fun u s'=>∃ o H',aP X pins σ H' s'∧IsPart u o∧Q o H') X.xe s
def aB1:TO:=fun _ H Q=>Q none H
def aD2 (t:TE):TO:=fun σ H Q=>t σ H fun x H1=>∃ i,x = .int i∧Q (some i) H1
theorem x8 {ns:List Int}:∀ {us:List Value},bO (ns.map V.int) us→IntsAre us ns:=by
 induction ns with
 | nil=>intro us r;rw [List.map_nil] at r;cases r;exact .nil
 | cons n ns ih=>
  intro us r
  rw [List.map_cons] at r
  cases r with
  | cons r1 r2=>
   obtain ⟨t,e⟩:=r1
   subst e
   exact .cons n t (ih r2)
section
variable {X:Cx}{e:Expr}{te:TE}{lo hi:Option Expr}{tl th:TO}{pos p2:Pos}
theorem aCx:PO X none aB1:=by
 intro pins s σ H Q I h
 rw [evalPart_none]
 exact wpAny_pure ⟨none,H,I,.none,h⟩
theorem aCp (h:PE X e te):PO X (some e) (aD2 te):=by
 intro pins s σ H Q I hw
 rw [evalPart_some]
 refine dW (h pins s σ H _ I hw) fun u s1 ⟨x,H1,I1,r1,q1⟩=>?_
 obtain ⟨i,rfl,q⟩:=q1
 obtain ⟨t,rfl⟩:=r1
 exact ⟨some i,H1,I1,.int i t,q⟩
def SlR (X:Cx) (r:V→Option Int→Option Int→Hp→VK→Prop):Prop:=
 ∀ (pins:List (Addr×Obj)) (s:Shared) (σ:St) (H:Hp) (x:V) (v vl vu:Value) (lo hi:Option Int) (sl:Addr) (Q:VK),aP X pins σ H s→cC x v→s.heap.IsSliceOf sl vl vu .none→IsPart vl lo→IsPart vu hi→r x lo hi H Q →
  ∃ T id,typeLookup (.type T) "__getitem__"=pure (some (.builtin id))∧s.TypeIs v T∧wpAny (model X.prog X.w) X.A (getItem v (.ref sl)) (EP X pins σ Q) X.xe s
def tSl (r:V→Option Int→Option Int→Hp→VK→Prop) (te:TE) (tl th:TO):TE:=fun σ H Q=>te σ H fun x H1=>tl σ H1 fun l H2=>th σ H2 fun u H3=>r x l u H3 Q
theorem vE {r:V→Option Int→Option Int→Hp→VK→Prop} (hr:SlR X r) (he:PE X e te) (hl:PO X lo tl) (hu:PO X hi th):PE X (.Subscript e (.Slice lo hi none p2) pos) (tSl r te tl th):=by
 intro pins s σ H Q I h
 refine Subscript_ (dW (he pins s σ H _ I h) fun v s1 ⟨x,H1,I1,r1,q1⟩=>?_)
 refine wpAny_Slice (dW (hl pins s1 σ H1 _ I1 q1) fun vl s2 ⟨l,H2,I2,pl,q2⟩=>dW (hu pins s2 σ H2 _ I2 q2) fun vu s3 ⟨u,H3,I3,pu,q3⟩=>?_)
 rw [evalPart_none]
 refine wpAny_pure ?_
 have I4:aP X pins σ H3 { s3 with heap:=s3.heap.push { cls:=.type "slice",data:=.fields #[vl,vu,.none] } }:=I3.kept (t':=s3.toks) fun b ob q=>Heap.get?_push_of_some _ q
 obtain ⟨T,id,hT,ht,hg⟩:=hr pins { s3 with heap:=s3.heap.push { cls:=.type "slice",data:=.fields #[vl,vu,.none] } } σ H3 x v vl vu l u s3.heap.objs.size Q I4 r1 (Heap.IsSliceOf.new ..) pl pu q3
 show wpAny (model X.prog X.w) X.A (subscriptTail e (.Slice lo hi none p2) v (.ref s3.heap.objs.size)) (EP X pins σ Q) X.xe { s3 with heap:=s3.heap.push { cls:=.type "slice",data:=.fields #[vl,vu,.none] } }
 exact tail_any (ops:=[.ref s3.heap.objs.size,v]) ht hT hg (by with_unfolding_all rfl)
def zH (xs:List V) (lo hi:Option Int):List V:=(xs.drop (HT.sIx xs.length 0 lo)).take (HT.sIx xs.length xs.length hi-HT.sIx xs.length 0 lo)
theorem wI (xs:List V) (lo hi:Option Int):(zH xs lo hi).length≤xs.length:=by
 unfold zH
 rw [List.length_take,List.length_drop]
 omega
def aEt (K:PySem.W.Frag):R2:=fun x y H Q=>∃ a b xs ys,x = .ref a∧y = .ref b∧kC K H a xs∧kC K H b ys∧xs≠[]∧xs.length+ys.length≤sizeLine ∧
 (ys=[]→Q (.ref a) H)∧(ys≠[]→∀ p,H p=none→Q (.ref p) (upd H p (.tup (xs++ys))))
theorem bO.nil_iff {xs:List V}{us:List Value} (r:bO xs us):us=[]↔xs=[]:=by
 cases r with
 | nil=>simp
 | cons _ _=>simp
theorem aCr:mM X (binaryOp .Add) (aEt X.K):=by
 intro pins s σ H x y v u Q I rx ry h
 obtain ⟨a,b,xs,ys,rfl,rfl,ha,hb,hx,hz,q1,q2⟩:=h
 cases rx
 cases ry
 obtain ⟨its,r1,p1,_⟩:=I.tuple ha
 obtain ⟨its2,r2,p2,_⟩:=I.tuple hb
 refine HT.cat_tup p1 p2 (fun z=>hx (r1.nil_iff.mp z)) (fun z=>⟨.ref a,H,I,rfl,q1 (r2.nil_iff.mp z)⟩) (fun z=>?_) (by rw [← r1.length,← r2.length];exact hz)
 refine ⟨.ref s.heap.objs.size,_,I.laid (t':=s.toks) (o:=.tup (xs++ys)) (fun b ob q=>Heap.get?_push_of_some _ q) (Nat.le_refl _) ?_,rfl,q2 (fun w=>z (r2.nil_iff.mpr w)) _ (I.hok.fresh (Nat.le_refl _))⟩
 exact ⟨by rw [List.length_append];exact hz,_,r1.append r2,IsTup.new _ _⟩
end
def ixN (n:Nat) (i:Int):Option Nat:=if 0≤i then (if i<n then some i.toNat else none) else if -(n:Int)≤i then some (i+n).toNat else none
def m9 {α:Type} (xs:List α) (i:Int):Option α:=(ixN xs.length i).bind fun j=>xs[j]?
theorem aCE {n:Nat}{i:Int}{j:Nat} (h:ixN n i=some j):seqIndex? i n=some j∧j<n ∧ -(n:Int)≤i∧i<n:=by
 unfold ixN at h
 by_cases h0:0≤i
 ·rw [if_pos h0] at h
  by_cases h1:i<n
  ·rw [if_pos h1] at h
   have e:i.toNat=j:=Option.some.inj h
   exact ⟨by rw [seqIndex_of h0 h1,e],by omega,by omega,h1⟩
  ·rw [if_neg h1] at h;cases h
 ·rw [if_neg h0] at h
  by_cases h1 : -(n:Int)≤i
  ·rw [if_pos h1] at h
   have e:(i+n).toNat=j:=Option.some.inj h
   exact ⟨by rw [seqIndex_neg (by omega) h1,e],by omega,h1,by omega⟩
  ·rw [if_neg h1] at h;cases h
theorem uB {α:Type}{xs:List α}{i:Int}{v:α} (h:m9 xs i=some v):∃ j,seqIndex? i xs.length=some j∧xs[j]? = some v∧j<xs.length ∧ -(xs.length:Int)≤i∧i<xs.length:=by
 unfold m9 at h
 cases e:ixN xs.length i with
 | none=>rw [e] at h;cases h
 | some j=>
  rw [e] at h
  obtain ⟨h1,h2,h3,h4⟩:=aCE e
  exact ⟨j,h1,h,h2,h3,h4⟩
theorem aCC {α:Type}{xs:List α}{j:Nat}{v:α} (h:xs[j]? = some v):m9 xs (j:Int)=some v:=by
 have hj:j<xs.length:=(List.getElem?_eq_some_iff.mp h).1
 have e:ixN xs.length (j:Int)=some j:=by
  unfold ixN
  rw [if_pos (by omega),if_pos (by omega)];simp
 unfold m9;rw [e];exact h
def uE (b:Expr):Prop:=∀ o i,subscripted b false o i=operate [o,i] (getItem o i)
def IxR (X:Cx) (r:R2):Prop:=
 ∀ (value slice:Expr) (pins:List (Addr×Obj)) (s:Shared) (σ:St) (H:Hp) (x y:V) (v u:Value) (Q:VK),aP X pins σ H s→cC x v→cC y u→r x y H Q →
  subscripted slice false v u=operate [v,u] (getItem v u)→wpAny (model X.prog X.w) X.A (subscriptTail value slice v u) (EP X pins σ Q) X.xe s
def MtR (X:Cx) (id:String) (r:V→List V→Hp→VK→Prop):Prop:=
 ∀ (pins:List (Addr×Obj)) (s:Shared) (σ:St) (H:Hp) (x:V) (xs:List V) (v:Value) (us:List Value) (Q:VK),aP X pins σ H s→cC x v→bO xs us→r x xs H Q →
  wpAny (model X.prog X.w) X.A (call (.builtin id) (v::us)) (EP X pins σ Q) X.xe s
section
variable {X:Cx}{a b:Expr}{ta tb:TE}{pos:Pos}
theorem IxR.or {r r':R2} (h:IxR X r) (h':IxR X r'):IxR X (fun x y H Q=>r x y H Q∨r' x y H Q):=by
 intro value slice pins s σ H x y v u Q I rx ry q hs
 rcases q with q | q
 ·exact h value slice pins s σ H x y v u Q I rx ry q hs
 ·exact h' value slice pins s σ H x y v u Q I rx ry q hs
theorem aCT {r:R2} (hr:IxR X r) (ha:PE X a ta) (hb:PE X b tb) (hs:uE b):PE X (.Subscript a b pos) (tOp r ta tb):=by
 intro pins s σ H Q I h
 exact Subscript_ (aDK ha hb I h fun v u s2 x y H2 I2 rx ry q=>hr a b pins s2 σ H2 x y v u Q I2 rx ry q (hs _ _))
def aEa (K:PySem.W.Frag):R2:=fun x y H Q=>∃ p xs i v,x = .ref p∧y = .int i∧jH K H p xs∧m9 xs i=some v∧Q v H
def aEg (K:PySem.W.Frag):R2:=fun x y H Q=>∃ p xs i v,x = .ref p∧y = .int i∧kC K H p xs∧m9 xs i=some v∧Q v H
def aEn:R2:=fun x y H Q=>∃ z i c,x = .str z∧y = .int i∧z.length≤sizeLine∧m9 z.cps.toList i=some c∧Q (.str ⟨#[c]⟩) H
theorem aCH:IxR X (aEa X.K):=by
 intro value slice pins s σ H x y v u Q I rx ry h hs
 obtain ⟨p,xs,i,z,rfl,rfl,hq,he,q⟩:=h
 cases rx
 obtain ⟨t,rfl⟩:=ry
 obtain ⟨its,r,pl,hz⟩:=I.list hq
 obtain ⟨j,h1,h2,h3,h4,h5⟩:=uB he
 obtain ⟨w,ew,rw'⟩:=r.get h2
 have hl:=r.length
 have hn:=nN
 have fin:EP X pins σ Q w s:=⟨z,H,I,rw',q⟩
 by_cases h0:0≤i
 ·have hj:i.toNat=j:=by
   rw [seqIndex_of h0 h5] at h1
   exact Option.some.inj h1
  exact item_listR pl.isList h0 (by omega) (by rw [hj];simpa using ew) fin hs
 ·have hj:(i+(its.toArray.size:Int)).toNat=j:=by
   rw [seqIndex_neg (by omega) h4] at h1
   rw [List.size_toArray,← hl]
   exact Option.some.inj h1
  exact subscriptTail_builtinR (x:=w) pl.isList.typeIs slot_list_getitem.lookup
   (wpAny_getItem_list_neg (Q:=fun r s'=>r=w∧EP X pins σ Q r s') pl.isList (by omega) (by rw [List.size_toArray] <;> omega) (by omega) (by rw [hj];simpa using ew) ⟨rfl,fin⟩) hs
theorem aDO:IxR X (aEg X.K):=by
 intro value slice pins s σ H x y v u Q I rx ry h hs
 obtain ⟨p,xs,i,z,rfl,rfl,hq,he,q⟩:=h
 cases rx
 obtain ⟨t,rfl⟩:=ry
 obtain ⟨its,r,pl,hz⟩:=I.tuple hq
 obtain ⟨j,h1,h2,h3,h4,h5⟩:=uB he
 obtain ⟨w,ew,rw'⟩:=r.get h2
 have hl:=r.length
 have hn:=nN
 have fin:EP X pins σ Q w s:=⟨z,H,I,rw',q⟩
 exact subscriptTail_builtinR (x:=w) pl.typeIs slot_tuple_getitem.lookup
  (getItem_tuple (j:=j) (Q:=fun r s'=>r=w∧EP X pins σ Q r s') pl (by omega) (by omega) (by rw [List.size_toArray,← hl];exact h1) (by simpa using ew) ⟨rfl,fin⟩) hs
theorem aDr:IxR X aEn:=by
 intro value slice pins s σ H x y v u Q I rx ry h hs
 obtain ⟨z,i,c,rfl,rfl,hz,he,q⟩:=h
 obtain ⟨t,rfl⟩:=rx
 obtain ⟨t',rfl⟩:=ry
 obtain ⟨j,h1,h2,h3,h4,h5⟩:=uB he
 have hl:z.cps.toList.length=z.length:=by simp [Str.length]
 rw [hl] at h1 h4 h5
 have hn:=nN
 exact tail_any (typeIs_str s z t) slot_str_getitem.lookup (getItem_str (c:=c) (by
  have e1:decide (i < -(2 ^ 63:Int))=false:=decide_eq_false (by omega)
  have e2:decide (i ≥ 2 ^ 63)=false:=decide_eq_false (by omega)
  rw [e1,e2,Bool.or_false]) (by rw [h1];simpa using h2) ⟨.str ⟨#[c]⟩,H,I.tok _,⟨_,rfl⟩,q⟩) hs
def rIx (K:PySem.W.Frag):R2:=fun x y H Q=>aEa K x y H Q∨aEg K x y H Q∨aEn x y H Q
theorem aAI:IxR X (rIx X.K):=aCH.or (aDO.or aDr)
theorem tN (lo hi:Option Int) (n:Nat):(sliceBounds lo hi none n).1=((HT.sIx n 0 lo:Nat):Int)∧(sliceBounds lo hi none n).2.1=((HT.sIx n n hi:Nat):Int)∧(sliceBounds lo hi none n).2.2=1:=by
 refine ⟨?_,?_,rfl⟩
 ·cases lo with
  | none=>simp [sliceBounds,HT.sIx]
  | some i=>
   simp only [sliceBounds,HT.sIx,Option.getD_none,show (1:Int) > 0 by decide,if_true]
   by_cases h:i<0
   ·simp only [h,if_true] <;> omega
   ·simp only [h,if_false] <;> omega
 ·cases hi with
  | none=>simp [sliceBounds,HT.sIx]
  | some i=>
   simp only [sliceBounds,HT.sIx,Option.getD_none,show (1:Int) > 0 by decide,if_true]
   by_cases h:i<0
   ·simp only [h,if_true] <;> omega
   ·simp only [h,if_false] <;> omega
theorem rA (its:List Value) (lo hi:Option Int):slicePick its.toArray lo hi none=((its.drop (HT.sIx its.length 0 lo)).take (HT.sIx its.length its.length hi-HT.sIx its.length 0 lo)).toArray:=by
 obtain ⟨h1,h2,h3⟩:=tN lo hi its.toArray.size
 unfold slicePick
 rw [h1,h2,h3]
 simp only [sliceRange_one,pick_run,List.size_toArray] <;> rfl
def aEX (K:PySem.W.Frag):V→Option Int→Option Int→Hp→VK→Prop:=fun x lo hi H Q=>∃ a xs,x = .ref a∧jH K H a xs∧∀ p,H p=none→Q (.ref p) (upd H p (.lst (zH xs lo hi)))
theorem aCa:SlR X (aEX X.K):=by
 intro pins s σ H x v vl vu lo hi sl Q I rx hs pl pu h
 obtain ⟨a,xs,rfl,hx,q⟩:=h
 cases rx
 obtain ⟨its,r,ht,hz⟩:=I.list hx
 have hlen:=r.length
 refine ⟨"list",_,slot_list_getitem.lookup,ht.isList.typeIs,?_⟩
 refine wpAny_getItem_list_slice ht.isList hs pl pu .none (by simp) ?_ (by rw [List.size_toArray] <;> omega)
 rw [rA,← hlen]
 refine ⟨.ref s.heap.objs.size,_,I.laid (t':=s.toks) (o:=.lst (zH xs lo hi)) (fun b ob q=>Heap.get?_push_of_some _ q) (Nat.le_refl _) ?_,rfl,q _ (I.hok.fresh (Nat.le_refl _))⟩
 exact ⟨Nat.le_trans (wI xs lo hi) hz,_,0,(r.drop (HT.sIx xs.length 0 lo)).take (HT.sIx xs.length xs.length hi-HT.sIx xs.length 0 lo),Heap.get?_push_size _ rfl⟩
theorem uU:fX X (.builtin "len") (fun xs H Q=>∃ p ys,xs=[.ref p]∧(jH X.K H p ys∨kC X.K H p ys)∧Q (.int ys.length) H):=by
 intro pins s σ H xs us Q I r h
 obtain ⟨p,ys,rfl,hq,q⟩:=h
 obtain ⟨u,rfl,rx⟩:=p5 r
 cases rx
 have hn:=nN
 rcases hq with hq | hq
 ·obtain ⟨its,r',pl,hz⟩:=I.list hq
  have hlen:=r'.length
  exact Calls.call_len_list pl.isList (by simp only [List.size_toArray] <;> omega) ⟨.int ys.length,H,I.tok _,⟨s.toks+1,by rw [List.size_toArray,hlen]⟩,q⟩
 ·obtain ⟨its,r',pl,hz⟩:=I.tuple hq
  have hlen:=r'.length
  exact len_tuple pl (by simp only [List.size_toArray] <;> omega) ⟨.int ys.length,H,I.tok _,⟨s.toks+1,by rw [List.size_toArray,hlen]⟩,q⟩
theorem tK:fX X (.builtin "len") (fun xs H Q=>∃ z,xs=[.str z]∧z.length≤sizeLine∧Q (.int z.length) H):=by
 intro pins s σ H xs us Q I r h
 obtain ⟨z,rfl,hz,q⟩:=h
 obtain ⟨u,rfl,t,rfl⟩:=p5 r
 have hn:=nN
 exact len_str (by omega) ⟨.int z.length,H,I.tok _,⟨_,rfl⟩,q⟩
theorem rT:fX X (.type "tuple") (fun xs H Q=>∃ p ys,xs=[.ref p]∧((jH X.K H p ys∧∀ l,H l=none→Q (.ref l) (upd H l (.tup ys)))∨(kC X.K H p ys∧Q (.ref p) H))):=by
 intro pins s σ H xs us Q I r h
 obtain ⟨p,ys,rfl,h⟩:=h
 obtain ⟨u,rfl,rx⟩:=p5 r
 cases rx
 rcases h with ⟨hq,q⟩ | ⟨hq,q⟩
 ·obtain ⟨its,r',pl,hz⟩:=I.list hq
  have hlen:=r'.length
  refine call_tuple_list pl.isList (fun h' kp=>?_) (by simp only [List.size_toArray] <;> omega)
  have I1:aP X pins σ H { s with heap:=h' }:=I.kept (t':=s.toks) kp
  have I2:aP X pins σ (upd H h'.objs.size (.tup ys)) { s with heap:=h'.push { cls:=.type "tuple",data:=.seq its.toArray } }:=
   I1.laid (t':=s.toks) (fun b o e=>Heap.get?_push_of_some _ e) (Nat.le_refl _) (show eU X.prog X.w _ _ _ (.tup ys) from ⟨hz,its,r',IsTup.new _ _⟩)
  exact ⟨.ref h'.objs.size,_,I2,rfl,q _ (I1.hok.fresh (Nat.le_refl _))⟩
 ·obtain ⟨its,r',pl,hz⟩:=I.tuple hq
  exact call_tuple_same pl ⟨.ref p,H,I,rfl,q⟩
def tyV (K:PySem.W.Frag) (T:String) (x:V) (H:Hp):Prop:=match x with
 | .str _=>T="str"
 | .int _=>T="int"
 | .ref p=>(T="list"∧∃ xs,jH K H p xs)∨(T="tuple"∧∃ o,K.lookup p=some o∧o.cls = .type "tuple"∧o.dict=none) ∨
   (T="dict"∧((∃ kvs,H p=some (.dK kvs))∨∃ K' f kvs,H p=some (.dT K' f kvs)))∨(T="set"∧∃ S n,H p=some (.set S n))
 | _=>False
theorem aDQ {pins:List (Addr×Obj)}{σ:St}{H:Hp}{s:Shared}{T:String}{x:V}{v:Value} (I:aP X pins σ H s) (r:cC x v) (ty:tyV X.K T x H) :
  s.TypeIs v T∧∀ a,v = .ref a→∃ ob,s.heap.get? a=some ob∧ob.dict=none:=by
 cases x with
 | str z=>
  obtain ⟨t,rfl⟩:=r
  cases (show T="str" from ty)
  exact ⟨typeIs_str s z t,fun _ e=>nomatch e⟩
 | int i=>
  obtain ⟨t,rfl⟩:=r
  cases (show T="int" from ty)
  exact ⟨typeIs_int s i t,fun _ e=>nomatch e⟩
 | ref p=>
  cases r
  rcases ty with ⟨rfl,xs,hq⟩ | ⟨rfl,o,hk,hc,hd⟩ | ⟨rfl,hk⟩ | ⟨rfl,S,n,hk⟩
  ·obtain ⟨its,_,pl,_⟩:=I.list hq
   refine ⟨pl.isList.typeIs,fun a e=>?_⟩
   cases e
   obtain ⟨o,n,e,c,hd,_⟩:=pl
   exact ⟨o,e,hd⟩
  ·refine ⟨⟨o,I.kIn p o hk,hc⟩,fun a e=>?_⟩
   cases e
   exact ⟨o,I.kIn _ o hk,hd⟩
  ·have z:∃ o,s.heap.get? p=some o∧o.ExactDict:=by
    rcases hk with ⟨kvs,hk⟩ | ⟨_,_,kvs,hk⟩
    ·obtain ⟨_,_,_,_,o,_,_,e,ex,_⟩:=I.hok p _ hk
     exact ⟨o,e,ex⟩
    ·obtain ⟨_,_,_,_,o,_,_,e,ex,_⟩:=I.hok p _ hk
     exact ⟨o,e,ex⟩
   obtain ⟨o,e,ex⟩:=z
   refine ⟨⟨o,e,ex.1⟩,fun a e2=>?_⟩
   cases e2
   exact ⟨o,e,ex.2.1⟩
  ·obtain ⟨o,_,_,_,e,ex,_⟩:=I.hok p _ hk
   refine ⟨⟨o,e,ex.1⟩,fun a e2=>?_⟩
   cases e2
   exact ⟨o,e,ex.2.1⟩
 | _=>exact False.elim ty
def tBM (K:PySem.W.Frag) (T:String) (r:V→List V→Hp→VK→Prop) (to:TE) (t:TA):TE:=fun σ H Q=>to σ H fun x H1=>tyV K T x H1∧t σ H1 fun xs H2=>r x xs H2 Q
variable {o e:Expr}{es:List Expr}{to:TE}{t:TA}{name:Str}{apos cpos:Pos}{T id:String}{r:V→List V→Hp→VK→Prop}
theorem mX (pa:PlainAttrs T) (slot:Slot T name id) (hty:typeOf (.builtin id)=pure (.type "method_descriptor")) (hm:MtR X id r) (ho:PE X o to) (ha:PA X (e::es) t)
  (hbase:attributeBase o name X.env (eval o X.env)=eval o X.env:=by rfl)
  (hfew:((backTo cpos (starEach (e::es) X.env)).all (fun x=>!x.1) && (backToKw cpos (keywordEach [] X.env)).all (fun x=>x.1.isSome)
   && decide ((e::es).length+([]:List Keyword).length+(if ([]:List Keyword).isEmpty then 0 else 1)<30))=true:=by rfl)
  (hline:(apos.endLine == cpos.line)=true:=by rfl) (hs:starEach (e::es) X.env=(false,eval e X.env)::starEach es X.env:=by rfl) (hplain:(backTo cpos (starEach es X.env)).any (·.1)=false:=by rfl) :
  PE X (.Call (.Attribute o name apos) (e::es) [] cpos) (tBM X.K T r to t):=by
 intro pins s σ H Q I h
 refine wpAny_Call_method_late hbase hfew hline rfl (dW (ho pins s σ H _ I h) fun v s1 ⟨x,H1,I1,r1,ty,q1⟩=>?_)
 obtain ⟨h1,h2⟩:=aDQ I1 r1 ty
 refine ⟨T,id,pa,slot,hty,h1,h2,?_⟩
 have hA:=ha cpos pins s1 σ H1 _ I1 q1
 rw [hs] at hA ⊢
 refine Calls.callWith_builtin (by show (false || (backTo cpos (starEach es X.env)).any (·.1))=false;rw [hplain] <;> rfl) (Calls.evalArgs_plain ?_)
 exact dW hA fun us s2 ⟨vs,H2,I2,r2,q2⟩=>hm pins s2 σ H2 x vs v us Q I2 r1 r2 q2
end
def MtM (X:Cx) (id:String) (r:V→List V→Hp→VK→Prop):Prop:=
 ∀ (pins:List (Addr×Obj)) (s:Shared) (σ:St) (H:Hp) (x:V) (xs:List V) (v:Value) (us:List Value) (Q:VK),aP X pins σ H s→cC x v→bO xs us→r x xs H Q →
  wpAny (model X.prog X.w) X.A (call (.builtin id) (v::us)) (EP X pins σ Q) X.xe s
theorem bO.one:∀ {x:V}{us:List Value},bO [x] us→∃ u,us=[u]∧cC x u
 | _,_,.cons r .nil=>⟨_,rfl,r⟩
theorem bO.rep {xs:List V}{us:List Value} (h:bO xs us):∀ k:Nat,bO (List.replicate k xs).flatten (List.replicate k us).flatten
 | 0=>.nil
 | k+1=>by
  rw [List.replicate_succ,List.replicate_succ,List.flatten_cons,List.flatten_cons]
  exact bO.append h (bO.rep h k)
theorem nJ (its:List Value):∀ (k:Nat) (acc:List Value),
  List.foldl (fun x1 x2=>x1++x2) acc.toArray (List.replicate k its.toArray)=(acc++(List.replicate k its).flatten).toArray
 | 0,acc=>by simp
 | k+1,acc=>by
  have e:acc.toArray++its.toArray=(acc++its).toArray:=by simp
  have e2:(acc++its)++(List.replicate k its).flatten=acc++(List.replicate (k+1) its).flatten:=by
   rw [List.replicate_succ,List.flatten_cons,List.append_assoc]
  rw [← e2,← nJ its k (acc++its),← e,List.replicate_succ,List.foldl_cons]
section
variable {X:Cx}{pins:List (Addr×Obj)}{σ:St}{H:Hp}{s:Shared}{l b:Addr}{xs ys zs:List V}
theorem aP.lset {its its':List Value}{n:Nat}{f:Array Value→Array Value}{t':Nat} (I:aP X pins σ H s) (hH:H l=some (.lst xs))
  (e:s.heap.get? l=some { cls:=.type "list",data:=.seq its.toArray n }) (hf:f its.toArray=its'.toArray) (hv:bO ys its') (hz:ys.length≤sizeLine) :
  aP X pins σ (upd H l (.lst ys)) { s with heap:=s.heap.update l (Obj.mapSeq f),toks:=t' }:=by
 have q:=PySem.IsL.update e f
 rw [hf] at q
 refine I.write (x:=l) (e:=l) (by rw [hH];exact trivial) (.inl rfl) (fun b' u hb hu=>(Heap.get?_update_other s.heap (Obj.mapSeq f) (Ne.symm hb)).trans hu) ⟨_,q⟩ ?_
 exact ⟨hz,its',_,hv,q⟩
theorem aP.lnew {its:List Value}{t':Nat} (I:aP X pins σ H s) (hv:bO ys its) (hz:ys.length≤sizeLine) :
  aP X pins σ (upd H s.heap.objs.size (.lst ys)) { s with heap:=s.heap.push { cls:=.type "list",data:=.seq its.toArray },toks:=t' }:=
 I.laid (fun _ _ q=>Heap.get?_push_of_some _ q) (Nat.le_refl _) ⟨hz,its,0,hv,Heap.get?_push_size _ rfl⟩
theorem aP.fresh (I:aP X pins σ H s):H s.heap.objs.size=none:=I.hok.fresh (Nat.le_refl _)
theorem aP.lstM (I:aP X pins σ H s) (hH:H l=some (.lst xs)):xs.length≤sizeLine∧∃ (its:List Value) (n:Nat),bO xs its∧xs.length=its.length∧s.heap.get? l=some { cls:=.type "list",data:=.seq its.toArray n }:=by
 obtain ⟨z,its,n,r,e⟩:=I.hok l _ hH
 exact ⟨z,its,n,r,r.length,e⟩
theorem aBc {n:Nat} (h:n≤sizeLine):Builtin.List.listTooLong n=false:=by
 unfold Builtin.List.listTooLong
 exact decide_eq_false (by omega)
end
section
variable {X:Cx}
def yH:V→List V→Hp→VK→Prop:=fun x vs H Q=>∃ l xs y,x = .ref l∧vs=[y]∧H l=some (.lst xs)∧xs.length<sizeLine∧Q .non (upd H l (.lst (xs++[y])))
theorem kX:MtM X "list.append" yH:=by
 intro pins s σ H x vs v us Q I rx rv h
 obtain ⟨l,xs,y,rfl,rfl,hH,hz,q⟩:=h
 cases rx
 obtain ⟨u,rfl,ru⟩:=rv.one
 obtain ⟨z,its,n,r,hl,e⟩:=I.lstM hH
 refine call_meets F.slot_list_append ⟨_,e,rfl⟩ F.entry_list_append (F.args_list_append_2 _ _) (PySem.list_append l its.toArray n u (by rw [List.size_toArray];omega)) ⟨e,?_⟩
 refine ⟨.non,_,I.lset (its':=its++[u]) hH e (by simp) (r.append (.cons ru .nil)) ?_,rfl,q⟩
 rw [List.length_append,List.length_singleton]
 omega
def y8:V→List V→Hp→VK→Prop:=fun x vs H Q=>∃ l b xs zs,x = .ref l∧vs=[.ref b]∧H l=some (.lst xs)∧H b=some (.lst zs)∧xs.length+zs.length≤sizeLine∧Q .non (upd H l (.lst (xs++zs)))
theorem aAj:MtM X "list.extend" y8:=by
 intro pins s σ H x vs v us Q I rx rv h
 obtain ⟨l,b,xs,zs,rfl,rfl,hH,hB,hz,q⟩:=h
 cases rx
 obtain ⟨u,rfl,ru⟩:=rv.one
 cases ru
 obtain ⟨z,its,n,r,hl,e⟩:=I.lstM hH
 obtain ⟨z2,its2,n2,r2,hl2,e2⟩:=I.lstM hB
 have hsz:its.toArray.size+its2.toArray.size≤sizeLine:=by rw [List.size_toArray,List.size_toArray];omega
 have hlong:¬ (!its.toArray.isEmpty && Builtin.List.listTooLong (its.toArray.size+its2.toArray.size))=true:=by
  rw [aBc hsz,Bool.and_false]
  exact Bool.false_ne_true
 refine call_meets F.slot_list_extend ⟨_,e,rfl⟩ F.entry_list_extend (F.args_list_extend_2 _ _)
  (AutoSeq1.list_extend_list_list_0 l its.toArray n b its2.toArray n2 hlong (by rw [List.size_toArray];omega) (by omega)) ⟨e,e2,?_⟩
 refine ⟨.non,_,I.lset (its':=its++its2) hH e (by simp) (r.append r2) ?_,rfl,q⟩
 rw [List.length_append]
 omega
theorem yF {α:Type} (xs:List α) (k:Nat):(List.replicate k xs).flatten.length=k * xs.length:=by
 induction k with
 | zero=>simp
 | succ k ih=>rw [List.replicate_succ,List.flatten_cons,List.length_append,ih,Nat.succ_mul,Nat.add_comm]
end
section
variable {prog:Program}{w:World}{A:Around}{E:Value→Shared→Prop}{s:Shared}
end
section
variable {X:Cx}
end
end L2
namespace Att
open PySem PySem.W PySem.Calls PyProof.Rows
theorem oQ {P:Params}{h:Heap}:∀ (ns:List Int) (vs:List Value),WellAll P h vs (ns.map WData.int)→IntsAre vs ns:=by
 intro ns
 induction ns with
 | nil=>
  intro vs w
  rw [List.map_nil] at w
  cases w
  exact .nil
 | cons n ns ih=>
  intro vs w
  rw [List.map_cons] at w
  cases w with
  | cons a b=>
   cases a
   exact .cons _ _ (ih _ b)
theorem aAm {l:OpenLaw}{n:Nat} (hn:l.most=some n) {P:Params}{h:Heap}{args:List WData}{vals:List Value}
  (hpre:l.row.toRowW.claim.pre args=true) (hwl:WellAll P h vals args) :
  ∃ a vs ns,vals=[Value.ref a]∧args=[WData.list (ns.map WData.int)]∧h.get? a=some { cls:=.type "list",data:=.seq vs.toArray }∧IntsAre vs ns∧ns.length≤n:=by
 have hsh:WShape.hasAll [] args [.list .int]=true:=(pre_splitW hpre).1
 have hc:l.pre.holds [] { args:=args }=true:=(pre_splitW hpre).2
 obtain ⟨d,r,rfl,h1,h2⟩:=hasAllW_cons hsh
 obtain rfl:=hasAllW_nil h2
 obtain ⟨xs,rfl,h3⟩:=hasW_list h1
 obtain ⟨ns,rfl⟩:=items_int h3
 have hlen:ns.length≤n:=by
  unfold OpenLaw.pre at hc
  have h4:(WTm.not (.lt (.lit (.int (n:Int))) (.len (.arg 0)))).holds [] { args:=[.list (ns.map .int)] }=true:=by
   have h4:=(holds_andW hc).1
   rw [hn] at h4
   exact h4
  have h5:=condW_of h4 (w_not (w_lt w_lit (w_len_list (w_arg rfl))))
  rw [List.length_map] at h5
  refine Nat.le_of_not_lt fun q=>?_
  have q':(n:Int)<((ns.length:Nat):Int):=by omega
  first
   | (rw [decide_eq_true q'] at h5;exact absurd h5 (by decide))
   | (simp at h5;omega)
 cases hwl with
 | cons w1 w2=>
  cases w2
  cases w1 with
  | list ho hall=>exact ⟨_,_,ns,rfl,rfl,ho,oQ ns _ hall,hlen⟩
theorem zO (l:OpenLaw) (args:List WData):l.row.toRowW.claim.post args (.bool true) args=true:=
 postW_of (r:=l.row.toRowW) (X:=(true == true))
  (show WShape.has [] (.bool true) .bool=true by first | rfl | decide | simp [WShape.has,WShape.arms,WShape.armsAll])
  (show (WTm.eq .res (.lit (.bool true))).value [] { args:=args,res:=some (.bool true),after:=args }=some (.bool (true == true)) from w_eq_bool (w_res rfl) w_lit) rfl
theorem attach_call {l:OpenLaw}{n:Nat}{q:Program}{loose:List Str}{XP:(Str→Option Value)→Heap→Prop}{YP:World→Heap→Prop}{d:DefRec}
  (hn:l.most=some n) (hdf:d.params.defaults=[])
  (call:∀ (w:World) (s₀ s₁:Shared) (mg mb:Str→Option Value) (fa:Addr) (o:Obj) (pm cd doc:Value) (a:Addr) (vs:List Value) (ns:List Int),
   Ground q loose [] XP w s₀ mg mb s₁.heap→YP w s₁.heap →
   s₁.heap.get? fa=some o→o.data = .func (docDef d.name d.params d.body d.scope pm cd doc)→s₁.heap.CodeRec cd d.name→mg d.name=some (.ref fa) →
   s₁.heap.get? a=some { cls:=.type "list",data:=.seq vs.toArray }→IntsAre vs ns→ns.length≤n→s₁.gens = #[] →
   codeAny (model l.prog w) callerA (.call (.ref fa) ⟨[.ref a],[]⟩) (fun r s'=>r = .ok (.ret (.bool true))∧OldK s₁.heap s'.heap∧s'.os=s₁.os∧AllBare s'.gens) s₁) :
  WalkO q loose XP YP l.row.toRowW d [] (fun f vs=>PySem.call f vs):=by
 intro w s₀ s₁ mg mb G Y fa o pm cd doc dV kV ho hd hcd hD hmg hg args vals as hpre hlay hrd hwl hlo
 obtain rfl:dV = .none:=Dflts.none hD hdf
 obtain rfl:kV = .none:=Dflts.noKw hD
 obtain ⟨a,vs,ns,rfl,rfl,hobj,hints,hlen⟩:=aAm hn hpre hwl
 refine enter_call (codeAny_mono (call w s₀ s₁ mg mb fa o pm cd doc a vs ns G Y ho (fd_plain hd) hcd hmg hobj hints hlen hg) fun r s' hq=>?_)
 obtain ⟨rfl,h2,h3,h4⟩:=hq
 exact ⟨.inl ⟨.bool true,.bool true,[],rfl,fun _=>rfl,.bool true,zO l _,fun _=>⟨List.Pairwise.nil,fun _ hm=>(nomatch hm)⟩⟩,h2,h3,h4⟩
section
variable {prog:Program}{w:World}{A:Around}{E:Value→Shared→Prop}{s:Shared}{K:Frag}
end
end Att
namespace L2
open PySem PySem.Spec PyProof.Rows
theorem sD:∀ {vs:List Value}{ns:List Int},IntsAre vs ns→bO (ns.map V.int) vs
 | _,_,.nil=>.nil
 | _,_,.cons n t h=>.cons ⟨t,rfl⟩ (sD h)
def aCf (H:Hp):Prop:=∀ b,H b=none∨∃ o xs,H b=some (.frz o (.lst xs))
theorem aBk {P:Program}{w:World}{K:PySem.W.Frag}{mg mb:Str→Option Value}{CX:CXT}{k:Nat}{fa a:Addr}{fd:FuncData}{x:Str}{sp:Sp}{s₁:Shared}{vs:List Value}{ns:List Int}
  (KX:K.In s₁.heap) (hns:s₁.heap.Ns mainGlobals mg) (hb:s₁.heap.Ns builtinsNs mb) (hbb:∀ x:Str,x≠"__name__"→mb x=bootBuiltins x) (hlim:s₁.heap.NoLimit) (hg:s₁.gens = #[])
  (ha:s₁.heap.get? a=some { cls:=.type "list",data:=.seq vs.toArray }) (hi:IntsAre vs ns) (hl:ns.length≤sizeLine) (hr:cM k callerA)
  (F:∀ base:Heap,K.In base→base.Ns mainGlobals mg→kF P w K mg base CX k fa fd [x] sp) (hbind:∀ (s:Shared) (u:Value),BindsTo s fd ⟨[u],[]⟩ [(x,u)])
  (hsp:∀ H:Hp,aCf H→jH K H a (ns.map V.int)→sp [.ref a] H (fun v _=>v = .bl true) fun _ _ _=>False)
  (hCX:∀ H e s',CX [] H s₁ (fun _ _ _=>False) e s'→False) :
  codeAny (model P w) callerA (.call (.ref fa) ⟨[.ref a],[]⟩) (fun r s'=>r = .ok (.ret (.bool true))∧OldK s₁.heap s'.heap∧s'.os=s₁.os∧AllBare s'.gens) s₁:=by
 have rv:=sD hi
 have lenV:=hi.length
 have core:∀ H:Hp,aCf H→jH K H a (ns.map V.int)→nE P w H s₁.heap→(∀ b,H b≠none→b=a)→(H a≠none→K.lookup a=none) →
   codeAny (model P w) callerA (.call (.ref fa) ⟨[.ref a],[]⟩) (fun r s'=>r = .ok (.ret (.bool true))∧OldK s₁.heap s'.heap∧s'.os=s₁.os∧AllBare s'.gens) s₁:=by
  intro H hO hS hok hA hK
  have base_of:∀ {b:Addr}{o:Obj},s₁.heap.get? b=some o→H b=none→(tS s₁.heap H).get? b=some o:=fun e n=>aBo e n
  have noA:∀ {b:Addr}{o:Obj}{es:Array DictEntry}{ep:Nat},s₁.heap.get? b=some o→o.data = .dict es ep→H b=none:=fun {b o es ep} e d=>by
   cases q:H b with
   | none=>rfl
   | some u=>
    have e':b=a:=hA b (by rw [q];simp)
    subst e'
    rw [ha] at e;cases e
    have d':Data.seq vs.toArray _=Data.dict es ep:=d
    cases d'
  have nsK:∀ {b:Addr}{m:Str→Option Value},s₁.heap.Ns b m→(tS s₁.heap H).Ns b m:=fun {b m} ⟨o,es,ep,e,d,r⟩=>⟨o,es,ep,base_of e (noA e d),d,r⟩
  have hKb:K.In (tS s₁.heap H):=fun b o e=>base_of (KX b o e) (by
   cases q:H b with
   | none=>rfl
   | some u=>
    have e':b=a:=hA b (by rw [q];simp)
    subst e'
    rw [hK (by rw [q];simp)] at e;cases e)
  have hM:Mod K mg (tS s₁.heap H):=⟨hKb,nsK hns,⟨mb,nsK hb,hbb⟩,let ⟨mc,h1,h2⟩:=hlim; ⟨mc,nsK h1,h2⟩⟩
  have e0:aBW P w K mg (tS s₁.heap H) callerA [] s₁ H:=⟨rfl,hM,fun b o e=>aBT e,Nat.le_of_eq (z9 _ _),trivial,fun b hb=>absurd (show b∈([]:List Addr) from hb) (by simp),hok,.of_eq hg⟩
  refine codeAny_mono ((F _ hKb (nsK hns)).run callerA [] s₁ H ⟨[.ref a],[]⟩ [.ref a] [.ref a] _ _ hr e0 (hbind s₁ (.ref a)) (.cons rfl .nil) (hsp H hO hS)) fun r s' h=>?_
  cases r with
  | error e=>exact (hCX H e s' h).elim
  | ok fl=>
   cases fl with
   | next=>exact False.elim h
   | brk=>exact False.elim h
   | cont=>exact False.elim h
   | ret u=>
    obtain ⟨v,H',os,bare,un,hok',r',q⟩:=h
    have q':v = .bl true:=q
    subst q'
    obtain rfl:u=Value.bool true:=r'
    refine ⟨rfl,OldK.of_keep fun b o e=>?_,os,bare⟩
    cases q:H b with
    | none=>exact un.keep b o e q (by intro z;exact absurd (show b∈([]:List Addr) from z) (by simp)) (by simp)
    | some u=>
     rcases hO b with z | ⟨ob,xs,z⟩
     ·rw [q] at z;cases z
     ·have z2:=un.frzs b ob _ z
      obtain ⟨e1,_⟩:=hok b _ z
      obtain ⟨e2,_⟩:=hok' b _ z2
      rw [e] at e1;cases e1
      exact e2
 cases hk:K.lookup a with
 | some o=>
  have e:=KX a o hk
  rw [ha] at e
  cases e
  refine core (fun _=>none) (fun _=>.inl rfl) (.inr ⟨_,vs.toArray,_,hk,rfl,rfl,rfl,by rw [List.size_toArray,lenV];exact hl,by simpa using rv⟩) (fun b u z=>by have z':(none:Option HO)=some u:=z;cases z') (fun b z=>absurd rfl z) fun z=>absurd rfl z
 | none=>
  refine core (fun b=>if b=a then some (.frz { cls:=.type "list",data:=.seq vs.toArray } (.lst (ns.map V.int))) else none) (fun b=>?_) (.inl (.inr ⟨{ cls:=.type "list",data:=.seq vs.toArray },if_pos rfl⟩)) (fun b u z=>?_) (fun b z=>?_) fun _=>hk
  ·by_cases hb:b=a
   ·exact .inr ⟨_,_,if_pos hb⟩
   ·exact .inl (if_neg hb)
  ·by_cases hb:b=a
   ·have z':=(if_pos hb).symm.trans z
    cases z'
    subst hb
    exact ⟨ha,by rw [List.length_map];exact hl,vs,_,rv,ha⟩
   ·have z':=(if_neg hb).symm.trans z
    cases z'
  ·by_cases hb:b=a
   ·exact hb
   ·exact absurd (if_neg hb) z
abbrev qP {K:PySem.W.Frag}{h:Heap} (_:K.In h):PySem.W.Frag:=K
theorem aB6 {l:PySem.W.OpenLaw}{n k:Nat}{q:Program}{loose:List Str}{XP:(Str→Option Value)→Heap→Prop}{YP:World→Heap→Prop}{d:DefRec}{K:Params→PySem.W.Frag}{CX:World→CXT}{sp:World→Sp}{x:Str}
  (hn:l.most=some n) (hn2:n≤sizeLine) (hdf:d.params.defaults=[]) (hr:cM k callerA)
  (hY:∀ (w:World) (h:Heap),YP w h→(K w.params).In h)
  (F:∀ (w:World) (mg:Str→Option Value) (fa:Addr) (h:Heap),(K w.params).In h→h.Ns mainGlobals mg→mg d.name=some (.ref fa) →
   ∃ fd:FuncData,(∀ (s:Shared) (u:Value),BindsTo s fd ⟨[u],[]⟩ [(x,u)]) ∧
    ∀ base:Heap,(K w.params).In base→base.Ns mainGlobals mg→kF l.prog w (K w.params) mg base (CX w) k fa fd [x] (sp w))
  (hsp:∀ (w:World) (H:Hp) (a:Addr) (ns:List Int),ns.length≤n→aCf H→jH (K w.params) H a (ns.map V.int)→sp w [.ref a] H (fun v _=>v = .bl true) fun _ _ _=>False)
  (hCX:∀ (w:World) (H:Hp) (s:Shared) (e:Value) (s':Shared),CX w [] H s (fun _ _ _=>False) e s'→False) :
  PySem.W.WalkO q loose XP YP l.row.toRowW d [] (fun f vs=>PySem.call f vs):=by
 refine Att.attach_call hn hdf fun w s₀ s₁ mg mb fa o pm cd doc a vs ns G Y ho hd hcd hmg hobj hints hlen hg=>?_
 have KX:=hY w _ Y
 obtain ⟨fd,hb,hF⟩:=F w mg fa _ KX G.T.g hmg
 exact aBk KX G.T.g G.T.b G.T.builtins G.T.nolimit hg hobj hints (Nat.le_trans hlen hn2) hr hF hb (fun H hO hS=>hsp w H a ns hlen hO hS) fun H e s'=>hCX w H s₁ e s'
theorem aA0 {l:PySem.W.OpenLaw}{n k:Nat}{q:Program}{loose:List Str}{XP:(Str→Option Value)→Heap→Prop}{YP:World→Heap→Prop}{d:DefRec}{K:Params→PySem.W.Frag}{CX:CXT}{sp:PySem.W.Frag→Sp}{x:Str}
  (hn:l.most=some n) (hn2:n≤sizeLine) (hdf:d.params.defaults=[]) (hr:cM k callerA)
  (hY:∀ (w:World) (h:Heap),YP w h→(K w.params).In h)
  (F:∀ (w:World) (mg:Str→Option Value) (fa:Addr) (h:Heap),(K w.params).In h→h.Ns mainGlobals mg→mg d.name=some (.ref fa) →
   ∃ fd:FuncData,(∀ (s:Shared) (u:Value),BindsTo s fd ⟨[u],[]⟩ [(x,u)]) ∧
    ∀ base:Heap,(K w.params).In base→base.Ns mainGlobals mg→kF l.prog w (K w.params) mg base CX k fa fd [x] (sp (K w.params)))
  (hsp:∀ (K:PySem.W.Frag) (H:Hp) (a:Addr) (ns:List Int),ns.length≤n→aCf H→jH K H a (ns.map V.int)→sp K [.ref a] H (fun v _=>v = .bl true) fun _ _ _=>False)
  (hCX:∀ (H:Hp) (s:Shared) (e:Value) (s':Shared),CX [] H s (fun _ _ _=>False) e s'→False) :
  PySem.W.WalkO q loose XP YP l.row.toRowW d [] (fun f vs=>PySem.call f vs):=
 aB6 (K:=K) (CX:=fun _=>CX) (sp:=fun w=>sp (K w.params)) hn hn2 hdf hr hY F (fun w H a ns h1 h2 h3=>hsp (K w.params) H a ns h1 h2 h3) fun _ H s e s'=>hCX H s e s'
def iU (s:Stmt):Arguments:=match s with
 | .FunctionDef _ a _ _ _ _ _ _ _ _=>a
 | _=>{ posonlyargs:=[],args:=[],vararg:=none,kwonlyargs:=[],kw_defaults:=[],kwarg:=none,defaults:=[] }
def aS (s:Stmt):List Stmt:=match s with
 | .FunctionDef _ _ b _ _ _ _ _ _ _=>b
 | _=>[]
def aB (s:Stmt):Scope:=match s with
 | .FunctionDef _ _ _ _ _ _ sc _ _ _=>sc
 | _=>{ kind:=.function,names:=[],isGenerator:=false,isCoroutine:=false }
abbrev lJ:CXT:=fun _ _ _ _ _ _=>False
abbrev E0:XK:=fun _ _ _=>False
theorem aCR {X:Cx}:iY lJ X E0:=fun _ _ _ _ _ _ _ h=>h.elim
structure zM (K:PySem.W.Frag) (x qual:Str) (st:Stmt) (f:Addr) (fd:FuncData):Prop where
 ex:∃ (oc:Value) (od:Option Addr) (kV doc pm:Value) (an:Option Addr) (cdv ct:Value) (osl:Array (Option Value)),
  fd=PySem.W.fnOf x qual (iU st) (aS st) (aB st) .none kV doc pm an cdv ct∧K.lookup f=some ⟨oc,od,.func fd,osl⟩∧PySem.W.codeIn K cdv qual=true
 kp:PySem.W.keepIn K (.ref f)=true
section
variable {P:Program}{w:World}{K:PySem.W.Frag}{mg:Str→Option Value}{base:Heap}
theorem zM.ok {x qual:Str}{st:Stmt}{f:Addr}{fd:FuncData}{N ps:List Str}{k:Nat}{sp:Sp} (F:zM K x qual st f fd) (S:aX N ps (aB st)) (len:∀ vs H Q E,sp vs H Q E→vs.length=ps.length)
  (hbody:∀ (cdv:Value) (A:Around) (outer:List Env) (s:Shared) (H:Hp) (vs:List V) (Q:VK) (E:XK),cM k (A.deeper (envOfC qual (aB st) s.heap.objs.size f cdv))→sp vs H Q E →
   ∃ t,uG (fV lJ P w K mg base N qual (aB st) f cdv A outer s H E).nox (aS st) t∧t { nx:=fun _ H'=>Q .non H',rt:=Q } (g8 N vs) H):kF P w K mg base lJ (k+1) f fd ps sp:=by
 obtain ⟨oc,od,kV,doc,pm,an,cdv,ct,osl,rfl,lk,hcd⟩:=F.ex
 refine aCS lk hcd S len fun A outer s H vs Q E hr hsp=>?_
 obtain ⟨t,h,q⟩:=hbody cdv A outer s H vs Q E hr hsp
 exact ⟨t,h.nox,q⟩
theorem zM.binds {x qual:Str}{st:Stmt}{f:Addr}{fd:FuncData}{ps:List Str} (F:zM K x qual st f fd)
  (h:∀ (kV doc pm:Value) (an:Option Addr) (cdv ct:Value) (us:List Value),us.length=ps.length→bindArgs (PySem.W.fnOf x qual (iU st) (aS st) (aB st) .none kV doc pm an cdv ct) ⟨us,[]⟩=pure (ps.zip us)):j3 K fd ps []:=by
 obtain ⟨oc,od,kV,doc,pm,an,cdv,ct,osl,rfl,lk,hcd⟩:=F.ex
 exact .all (h kV doc pm an cdv ct)
theorem xO {x qual:Str}{st:Stmt}{f:Addr}{oc:Value}{od an:Option Addr}{osl:Array (Option Value)}{kV doc pm cdv ct:Value} (l:K.lookup f=some ⟨oc,od,.func (PySem.W.fnOf x qual (iU st) (aS st) (aB st) .none kV doc pm an cdv ct),osl⟩)
  (c:PySem.W.codeIn K cdv qual=true) (k:PySem.W.keepIn K (.ref f)=true):zM K x qual st f (PySem.W.fnOf x qual (iU st) (aS st) (aB st) .none kV doc pm an cdv ct):=⟨⟨oc,od,kV,doc,pm,an,cdv,ct,osl,rfl,l,c⟩,k⟩
end
theorem kT {n:Nat} (h:n≤1000):n<sizeLine:=Nat.lt_of_le_of_lt h (by decide)
section
variable {X:Cx}
theorem pv (i:Nat) {x:Str}{pos:Pos} (hN:X.N[i]? = some x:=by rfl) (hv:Vis X.env.scope x:=by first | exact Or.inl rfl | exact Or.inr (Or.inl rfl) | exact Or.inr (Or.inr rfl)) (hd:(x == ("__debug__":Str))=false:=by decide)
  (hcd:(x == ("__classdict__":Str))=false:=by decide):PE X (.Name x pos) (xG i):=aDq hN hv hd hcd
end
theorem xW {A B:Prop} (h:B):if false=true then A else B:=by
 rw [if_neg Bool.false_ne_true]
 exact h
theorem tU {A B:Prop} (h:A):if true=true then A else B:=by
 rw [if_pos rfl]
 exact h
def bL (H H':Hp):Prop:=∀ b o,H b=some o→H' b=some o
theorem bL.refl (H:Hp):bL H H:=fun _ _ h=>h
theorem bL.trans {H H1 H2:Hp} (a:bL H H1) (b:bL H1 H2):bL H H2:=fun c o h=>b c o (a c o h)
theorem bL.free {H H':Hp} (e:bL H H') {l:Addr} (h:H' l=Option.none):H l=Option.none:=by
 cases q:H l with
 | none=>rfl
 | some o=>
  rw [e l o q] at h
  cases h
theorem bL.seq {K:PySem.W.Frag}{H H':Hp}{a:Addr}{xs:List V} (e:bL H H') (h:jH K H a xs):jH K H' a xs:=by
 rcases h with (h | ⟨o,h⟩) | h
 ·exact .inl (.inl (e _ _ h))
 ·exact .inl (.inr ⟨o,e _ _ h⟩)
 ·exact .inr h
def iN (env:Env) (names:List (Str×NameKind)) (acc:List (Str×Addr)):List (Str×Addr):=
 match names with
 | []=>acc
 | x::r=>iN env r (if x.2 == .free then (x.1,(env.cells.lookup x.1).getD 0)::acc else acc)
theorem aBC (env:Env):∀ (names:List (Str×NameKind)) (acc:List (Str×Addr)),(∀ x∈names,x.2 = .free→∃ c,env.cells.lookup x.1=some c) →
  (forIn names acc (fun (x:Str×NameKind) (cs:List (Str×Addr))=>(if x.2 == .free then (do
   let c ← cellOf env x.1
   pure (ForInStep.yield ((x.1,c)::cs))) else pure (ForInStep.yield cs):Sem (ForInStep (List (Str×Addr))))))=(pure (iN env names acc):Sem _):=by
 intro names
 induction names with
 | nil=>intro acc _;rw [List.forIn_nil];rfl
 | cons x r ih=>
  intro acc h
  rw [List.forIn_cons]
  have hr:=fun y hy=>h y (List.mem_cons_of_mem _ hy)
  show _=(pure (iN env r (if x.2 == .free then (x.1,(env.cells.lookup x.1).getD 0)::acc else acc)):Sem _)
  by_cases hf:x.2 = .free
  ·obtain ⟨c,e⟩:=h x List.mem_cons_self hf
   have e1:cellOf env x.1=pure c:=by unfold cellOf;rw [e]
   have e2:(x.2 == NameKind.free)=true:=by rw [hf];rfl
   simp only [e2,if_true,e1,pure_bind]
   rw [ih _ hr]
   simp only [e,Option.getD_some]
  ·have e2:(x.2 == NameKind.free)=false:=by simpa using hf
   simp only [e2,Bool.false_eq_true,if_false,pure_bind]
   exact ih _ hr
theorem gZ {scope:Scope}{env:Env} (h:∀ x∈scope.names,x.2 = .free→∃ c,env.cells.lookup x.1=some c):closureFor scope env=pure (iN env scope.names []):=by
 have q:=aBC env scope.names [] h
 unfold closureFor
 simp only [bind_pure]
 exact q
theorem n9 (env:Env) (x:Str):∀ (names:List (Str×NameKind)) (acc:List (Str×Addr)),
  (iN env names acc).lookup x=if (x,NameKind.free)∈names then some ((env.cells.lookup x).getD 0) else acc.lookup x:=by
 intro names
 induction names with
 | nil=>intro acc;rfl
 | cons y r ih=>
  intro acc
  obtain ⟨n,k⟩:=y
  show (iN env r (if k == .free then (n,(env.cells.lookup n).getD 0)::acc else acc)).lookup x=_
  rw [ih]
  by_cases h1:(x,NameKind.free)∈r
  ·rw [if_pos h1,if_pos (List.mem_cons_of_mem _ h1)]
  ·rw [if_neg h1]
   by_cases hk:k = .free
   ·subst hk
    rw [if_pos (by rfl),List.lookup_cons]
    by_cases hx:x=n
    ·subst hx
     simp
    ·have:(x == n)=false:=by simpa using hx
     rw [this,if_neg]
     intro z
     rcases List.mem_cons.mp z with z | z
     ·exact hx (Prod.mk.inj z).1
     ·exact h1 z
   ·have:(k == NameKind.free)=false:=by simpa using hk
    rw [this,if_neg (by simp),if_neg]
    intro z
    rcases List.mem_cons.mp z with z | z
    ·exact hk (Prod.mk.inj z).2.symm
    ·exact h1 z
theorem n6 (f:Str→NameKind→NameKind) (x:Str):∀ names:List (Str×NameKind),(names.map fun y=>(y.1,f y.1 y.2)).lookup x=(names.lookup x).map (f x)
 | []=>rfl
 | (n,k)::r=>by
  rw [List.map_cons,List.lookup_cons,List.lookup_cons,n6 f x r]
  by_cases hx:x=n
  ·subst hx;simp
  ·have:(x == n)=false:=by simpa using hx
   simp [this]
theorem kJ (scope:Scope) (env:Env) (x:Str):(relabel scope env).names.lookup x =
  (scope.names.lookup x).map fun k=>if (k == .free && env.scope.kind == .function && env.kindOf x == some .cell) then .cell else k:=by
 have q:=n6 (fun n k=>if (k == .free && env.scope.kind == .function && env.kindOf n == some .cell) then .cell else k) x scope.names
 rw [← q]
 unfold relabel
 dsimp only
 congr 1
 refine List.map_congr_left fun y _=>?_
 obtain ⟨n,k⟩:=y
 dsimp only
 split <;> rfl
def iZ (sc cs:Scope) (N Nc:List Str) (fr:List (Option Nat)):Bool:=
 cs.kind == .function && cs.names.all (fun x=>(x.2 != .cell || cs.names.lookup x.1 == some .cell) && (x.2 != .local || cs.names.lookup x.1 == some .local) && (x.2 != .free || sc.names.lookup x.1 == some .cell || sc.names.lookup x.1 == some .free))
  && fr.length == Nc.length && (fr.zip Nc).all (fun y=>match y.1 with
   | none=>true
   | some j=>N[j]? == some y.2 && cs.names.lookup y.2 == some .free)
structure jW (sc cs:Scope) (N Nc:List Str) (fr:List (Option Nat)):Prop where
 kind:cs.kind = .function
 cel:∀ x∈cs.names,x.2 = .cell→cs.names.lookup x.1=some .cell
 nms:∀ x∈cs.names,x.2 = .local→cs.names.lookup x.1=some .local
 fre:∀ x∈cs.names,x.2 = .free→sc.names.lookup x.1=some .cell∨sc.names.lookup x.1=some .free
 len:fr.length=Nc.length
 frs:∀ (i j:Nat),fr[i]? = some (some j)→∃ x,Nc[i]? = some x∧N[j]? = some x∧cs.names.lookup x=some .free
theorem jW.of {sc cs:Scope}{N Nc:List Str}{fr:List (Option Nat)} (h:iZ sc cs N Nc fr=true):jW sc cs N Nc fr:=by
 unfold iZ at h
 rw [Bool.and_eq_true,Bool.and_eq_true,Bool.and_eq_true] at h
 obtain ⟨⟨⟨h1,h2⟩,h3⟩,h4⟩:=h
 rw [List.all_eq_true] at h2 h4
 refine ⟨by simpa using h1,fun x hx hk=>?_,fun x hx hk=>?_,fun x hx hk=>?_,by simpa using h3,fun i j e=>?_⟩
 ·have q:=h2 x hx
  simp only [Bool.and_eq_true] at q
  have q2:=q.1.1
  rw [hk] at q2
  simpa using q2
 ·have q:=h2 x hx
  simp only [Bool.and_eq_true] at q
  have q2:=q.1.2
  rw [hk] at q2
  simpa using q2
 ·have q:=h2 x hx
  simp only [Bool.and_eq_true] at q
  have q2:=q.2
  rw [hk] at q2
  simp at q2
  rcases q2 with a | a
  ·exact .inl a
  ·exact .inr a
 ·have hl:fr.length=Nc.length:=by simpa using h3
  obtain ⟨hi,ei⟩:=List.getElem?_eq_some_iff.mp e
  have hi':i<Nc.length:=by omega
  have hm:(fr[i],Nc[i])∈fr.zip Nc:=by
   have:(fr.zip Nc)[i]'(by simp;omega)=(fr[i],Nc[i]):=by simp
   rw [← this]
   exact List.getElem_mem _
  have q:=h4 _ hm
  rw [ei] at q
  simp only [Bool.and_eq_true] at q
  exact ⟨Nc[i],by simp [hi'],by simpa using q.1,by simpa using q.2⟩
theorem gM:∀ (names:List (Str×NameKind)) (n:Nat) (acc:List (Str×Addr)),cellsFrom n names acc=cellsFrom n names []++acc
 | [],_,_=>rfl
 | (name,kind)::r,n,acc=>by
  unfold cellsFrom
  split
  ·rw [gM r (n+1) ((name,n)::acc),gM r (n+1) [(name,n)],List.append_assoc]
   rfl
  ·exact gM r n acc
theorem gN:∀ (names:List (Str×NameKind)) (n:Nat) (acc:List (Str×Addr)) (x:Str) (c:Addr),(x,c)∈cellsFrom n names acc→(x,c)∈acc∨(x,NameKind.cell)∈names
 | [],_,_,_,_,h=>.inl h
 | (name,kind)::r,n,acc,x,c,h=>by
  unfold cellsFrom at h
  split at h
  ·rename_i hk
   rcases gN r _ _ x c h with z | z
   ·rcases List.mem_cons.mp z with z | z
    ·refine .inr ?_
     have e:=(Prod.mk.inj z).1
     have k':kind=NameKind.cell:=by simpa using hk
     rw [e,k']
     exact List.mem_cons_self
    ·exact .inl z
   ·exact .inr (List.mem_cons_of_mem _ z)
  ·rcases gN r _ _ x c h with z | z
   ·exact .inl z
   ·exact .inr (List.mem_cons_of_mem _ z)
theorem jA:∀ (names:List (Str×NameKind)) (n:Nat) (acc:List (Str×Addr)) (x:Str),((x,NameKind.cell)∈names∨∃ c,acc.lookup x=some c)→∃ c,(cellsFrom n names acc).lookup x=some c
 | [],_,_,_,h=>by
  rcases h with h | h
  ·cases h
  ·exact h
 | (name,kind)::r,n,acc,x,h=>by
  unfold cellsFrom
  split
  ·rename_i hk
   refine jA r _ _ x ?_
   rcases h with h | ⟨c,h⟩
   ·rcases List.mem_cons.mp h with z | z
    ·refine .inr ⟨n,?_⟩
     rw [(Prod.mk.inj z).1,List.lookup_cons]
     simp
    ·exact .inl z
   ·by_cases hx:x=name
    ·exact .inr ⟨n,by rw [hx,List.lookup_cons];simp⟩
    ·refine .inr ⟨c,?_⟩
     have:(x == name)=false:=by simpa using hx
     rw [List.lookup_cons,this]
     exact h
  ·rename_i hk
   refine jA r _ _ x ?_
   rcases h with h | h
   ·rcases List.mem_cons.mp h with z | z
    ·exact absurd (by rw [← (Prod.mk.inj z).2];rfl) hk
    ·exact .inl z
   ·exact .inr h
theorem qW {M:Model}{A:Around}{E:Value→Shared→Prop}{s:Shared}{scope:Scope}{globals:Addr}{closure:List (Str×Addr)}{qual:Str}{func:Option Addr}{code:Value}{env:Env}{builtins:Addr}{Q:Env→Shared→Prop}
  (h:Q (newEnv scope s.heap.objs.size globals (cellsFrom (s.heap.objs.size+1) scope.names closure) qual func code (some env) builtins) { s with heap:=pushCells (s.heap.push { cls:=.type "dict",data:=.dict #[] }) scope.names }) :
  wpAny M A (newFunctionEnv scope globals closure [] qual func code (some env) builtins) Q E s:=by
 simp only [newFunctionEnv,Option.isSome_some,if_true]
 refine wpAny_bind (wpAny_alloc ?_)
 refine wpAny_bind (wpAny_layCells _ (fun name kind cells=>by cases hkc:kind == NameKind.cell <;> simp [hkc]) _ _ _ _ ?_)
 rw [show ({ s with heap:=s.heap.push { cls:=.type "dict",data:=.dict #[] } }:Shared).heap.objs.size=s.heap.objs.size+1 from Heap.size_push ..]
 rw [List.forIn_nil]
 exact wpAny_bind (wpAny_pure (wpAny_pure h))
def m8 (X:Cx) (scope:Scope) (Nc:List Str) (Cc:Addr) (pins:List (Addr×Obj)) (fp:List Addr) (s3:Shared) (H3:Hp):Cx:=
 { X with N:=Nc,s₀:=s3,H₀:=H3,env:=compEnvC scope (cellsFrom (Cc+1) scope.names (iN X.env scope.names [])) Cc X.env,outer:=X.stack,stack:=X.stack,ex:=fp,fn:=fun x=>scope.names.lookup x == some .cell,pn:=X.pn++pins,xe:=fun _ _=>False }
def σc (fr:List (Option Nat)) (σ:St):St:=fr.map fun o=>o.bind fun j=>(σ[j]?).bind id
def Fwd (σ' σ:St):Prop:=σ'.length=σ.length∧∀ (i:Nat) v,σ[i]? = some (some v)→σ'[i]? = some (some v)
def xD (X:Cx) (ifs:List Expr) (t:TT):Prop:=
 ∀ (pins:List (Addr×Obj)) (s:Shared) (σ:St) (H:Hp) (Q:Bool→Hp→Prop),aP X pins σ H s→t σ H Q →
  wpAny (model X.prog X.w) X.A (forIn ifs true fun c r=>if r=true then do
   let ok ← isTrue c X.env (eval c X.env)
   pure (ForInStep.yield ok) else pure (ForInStep.yield r)) (TP X pins σ Q) X.xe s
def yO:TT:=fun _ H Q=>Q true H
theorem aA7 {X:Cx}:xD X [] yO:=fun _ _ _ H _ I h=>wpAny_tests_nil ⟨H,I,h⟩
section
variable {prog:Program}{w:World}{A:Around}{R:Result→Shared→Prop}{s:Shared}
theorem zD {elt target iter:Expr}{ifs:List Expr}{scope:Scope}{pos:Pos}{it acc:Value}{env:Env} (I:Nat→Shared→Prop)
  (turn:∀ n s,I n s→wpAny (model prog w) A (pyNext it) (fun r s₁=>match r with
   | none=>R (.ok .next) s₁
   | some v=>wpAny (model prog w) A (letOwnedTupleGo target it v) (fun _ s₂=>wpAny (model prog w) A (assign target env v) (fun _ s₃=>
     wpAny (model prog w) A (forIn ifs true fun c r=>if r=true then do
      let ok ← isTrue c env (eval c env)
      pure (ForInStep.yield ok) else pure (ForInStep.yield r)) (fun ok s₄=>
      if ok=true then wpAny (model prog w) A (eval elt env) (fun x s₅=>
       wpAny (model prog w) A (call (.builtin "list.append") [acc,x]) (fun _ s₆=>∃ m,m<n∧I m s₆) (fun _ _=>False) s₅) (fun _ _=>False) s₄
      else ∃ m,m<n∧I m s₄) (fun _ _=>False) s₃) (fun _ _=>False) s₂) (fun _ _=>False) s₁) (fun _ _=>False) s)
  (n:Nat) (h:I n s) :
  codeAny (model prog w) A (.compLoop (.ListComp elt [⟨target,iter,ifs,0⟩] scope pos) 0 it acc env) R s:=by
 refine codeAny_loop rfl I (fun n s hI=>?_) n h
 refine wpAny_noted (m:=compTurn (.ListComp elt [⟨target,iter,ifs,0⟩] scope pos) 0 it acc env) (env:=env) ?_
 rw [compTurn_list]
 have no:∀ {E:Value→Shared→Prop} (e:Value) (s:Shared),False→E e s:=fun _ _ f=>f.elim
 refine wpAny_bind (wpAny_standAt (wpAny_bind (wpAny_mono (turn n s hI) (fun r s₁ h₁=>?_) no)))
 cases r with
 | none=>exact wpAny_pure h₁
 | some v=>
  refine wpAny_bind (wpAny_mono h₁ (fun _ s₂ h₂=>?_) no)
  refine wpAny_bind (wpAny_mono h₂ (fun _ s₃ h₃=>?_) no)
  refine wpAny_bind (wpAny_mono h₃ (fun ok s₄ h₄=>?_) no)
  cases ok with
  | false=>exact wpAny_pure ⟨rfl,h₄⟩
  | true=>
   refine wpAny_bind (wpAny_bind (wpAny_mono h₄ (fun x s₅ h₅=>?_) no))
   exact wpAny_bind (wpAny_mono h₅ (fun _ s₆ h₆=>wpAny_pure (wpAny_pure ⟨rfl,h₆⟩)) no)
end
theorem iS {env:Env}{names:List (Str×NameKind)}{x:Str}{c:Addr} (hf:∀ y∈names,y.2 = .free→∃ c,env.cells.lookup y.1=some c) (h:(iN env names []).lookup x=some c):(x,NameKind.free)∈names∧env.cells.lookup x=some c:=by
 rw [n9] at h
 by_cases hm:(x,NameKind.free)∈names
 ·rw [if_pos hm] at h
  obtain ⟨c',e⟩:=hf _ hm rfl
  rw [e] at h
  exact ⟨hm,by rw [e];exact h⟩
 ·rw [if_neg hm] at h
  cases h
theorem yG {env:Env}{names:List (Str×NameKind)}{x:Str}{c:Addr} (hm:(x,NameKind.free)∈names) (h:env.cells.lookup x=some c):(iN env names []).lookup x=some c:=by
 rw [n9,if_pos hm,h]
 rfl
structure uK (scope:Scope) (cl:List (Str×Addr)) (n:Nat) (h:Heap):Prop where
 has:∀ x,(x,NameKind.cell)∈scope.names→∃ c,(cellsFrom (n+1) scope.names cl).lookup x=some c∧n<c
 off:∀ x c,(x,NameKind.cell)∉scope.names→cl.lookup x=some c→(cellsFrom (n+1) scope.names cl).lookup x=some c
 two:∀ x c,(cellsFrom (n+1) scope.names cl).lookup x=some c→((x,NameKind.cell)∈scope.names∧n<c∧h.IsCell c none)∨cl.lookup x=some c
 inj:∀ x y c,(cellsFrom (n+1) scope.names cl).lookup x=some c→(cellsFrom (n+1) scope.names cl).lookup y=some c→n<c→(∀ z d,cl.lookup z=some d→d≤n)→x=y
theorem aBE (scope:Scope) (cl:List (Str×Addr)) (h0:Heap) (o:Obj):uK scope cl h0.objs.size (pushCells (h0.push o) scope.names):=by
 have ok:=cellsFrom_ok scope.names (h0.push o) (h0.objs.size+1) [] ⟨fun _ _ hm=>(nomatch hm),List.Pairwise.nil⟩ (by rw [Heap.size_push];exact Nat.le_refl _)
 rw [Heap.size_push] at ok
 have lk:∀ x,(cellsFrom (h0.objs.size+1) scope.names cl).lookup x=((cellsFrom (h0.objs.size+1) scope.names []).lookup x).or (cl.lookup x):=fun x=>by
  rw [gM,List.lookup_append]
 have two:∀ x c,(cellsFrom (h0.objs.size+1) scope.names cl).lookup x=some c→((x,c)∈cellsFrom (h0.objs.size+1) scope.names [])∨cl.lookup x=some c:=fun x c e=>by
  rw [lk] at e
  cases e1:(cellsFrom (h0.objs.size+1) scope.names []).lookup x with
  | none=>rw [e1] at e;exact .inr e
  | some d=>rw [e1] at e;cases e;exact .inl (PySem.mem_of_lookup e1)
 refine ⟨fun x hx=>?_,fun x c hx e=>?_,fun x c e=>?_,fun x y c e1 e2 hc hcl=>?_⟩
 ·obtain ⟨c,e⟩:=jA scope.names (h0.objs.size+1) [] x (.inl hx)
  exact ⟨c,by rw [lk,e];rfl,(ok.empty x c (PySem.mem_of_lookup e)).2⟩
 ·rw [lk]
  cases e1:(cellsFrom (h0.objs.size+1) scope.names []).lookup x with
  | none=>exact e
  | some d=>
   rcases gN _ _ _ _ _ (PySem.mem_of_lookup e1) with z | z
   ·cases z
   ·exact absurd z hx
 ·rcases two x c e with z | z
  ·refine .inl ⟨?_,(ok.empty x c z).2,(ok.empty x c z).1⟩
   rcases gN _ _ _ _ _ z with q | q
   ·cases q
   ·exact q
  ·exact .inr z
 ·rcases two x c e1 with z1 | z1
  ·rcases two y c e2 with z2 | z2
   ·exact name_of_addr ok.apart z1 z2
   ·exact absurd (hcl _ _ z2) (Nat.not_le.mpr hc)
  ·exact absurd (hcl _ _ z1) (Nat.not_le.mpr hc)
section
variable {X:Cx}{scope:Scope}{Nc:List Str}{fr:List (Option Nat)}{pins:List (Addr×Obj)}{σ:St}{H:Hp}{s:Shared}{fp:List Addr}
theorem fZ (ok:jW X.env.scope scope X.N Nc fr) (I:aP X pins σ H s):∀ y∈scope.names,y.2 = .free→∃ c,X.env.cells.lookup y.1=some c:=fun y hy hk=>by
 rcases ok.fre y hy hk with z | z
 ·exact I.ok.has y.1 (.inl z)
 ·exact I.ok.has y.1 (.inr z)
theorem qR (ok:jW X.env.scope scope X.N Nc fr) (I:aP X pins σ H s) (hf:∀ b∈fp,kA X pins H b) (hlt:∀ b∈fp,b<s.heap.objs.size) {h1:Heap}{m1:Str→Option Value}
  (hn:h1.Ns s.heap.objs.size m1) (up:∀ b o,s.heap.get? b=some o→h1.get? b=some o) (cs:uK scope (iN X.env scope.names []) s.heap.objs.size h1) :
  aP (m8 X scope Nc s.heap.objs.size pins fp s H) [] (σc fr σ) H { s with heap:=h1 }:=by
 have hcell:=fZ ok I
 have stk:∀ b,b∈frs X.stack→b∈X.env.locals::X.fs:=I.stkSub
 have clt:∀ x c,X.env.cells.lookup x=some c→c<s.heap.objs.size:=fun x c e=>by
  obtain ⟨v,q⟩:=I.cell x c e
  exact q.lt
 have cll:∀ x c,(iN X.env scope.names []).lookup x=some c→c≤s.heap.objs.size:=fun x c e=>Nat.le_of_lt (clt x c (iS hcell e).2)
 have kw:∀ x,(relabel scope X.env).names.lookup x=some .cell∨(relabel scope X.env).names.lookup x=some .free→scope.names.lookup x=some .free∨scope.names.lookup x=some .cell:=fun x h=>by
  rw [kJ] at h
  cases e:scope.names.lookup x with
  | none=>rw [e] at h;rcases h with h | h <;> cases h
  | some k=>
   rw [e] at h
   by_cases hk:k = .free
   ·rw [hk];exact .inl rfl
   ·have:(k == NameKind.free)=false:=by simpa using hk
    simp only [Option.map_some,this,Bool.false_and,Bool.false_eq_true,if_false] at h
    rcases h with h | h
    ·exact .inr h
    ·exact absurd (Option.some.inj h) hk
 refine ⟨⟨I.ok.mod,ok.kind,I.ok.glob,I.ok.blt,Nat.le_refl _,fun x y c h1 h2=>?_,fun x hx=>?_,fun x c h e=>?_,I.ok.hd,I.ok.frames,.inl rfl,fun b hb=>⟨?_,fun x c e=>?_⟩,I.bs,Nat.le_trans I.ok.bsz I.sz,fun b o e hb=>?_,fun b hb hb'=>?_,I.stack,I.stkFree⟩,
  rfl,I.bare,Un.kept up,⟨m1,hn,fun i x v e1 e2 e3=>?_⟩,fun x c e=>?_,I.hok.fresh (Nat.le_refl _),fun x c e=>?_,fun p hp=>?_,I.hok.kept up,?_⟩
 ·rcases cs.two x c h1 with ⟨_,z,_⟩ | z1
  ·exact cs.inj x y c h1 h2 z cll
  ·rcases cs.two y c h2 with ⟨_,z,_⟩ | z2
   ·exact cs.inj x y c h1 h2 z cll
   ·exact I.ok.inj x y c (iS hcell z1).2 (iS hcell z2).2
 ·rcases kw x hx with q | q
  ·have hm:(x,NameKind.free)∈scope.names:=PySem.mem_of_lookup q
   obtain ⟨c,e⟩:=hcell _ hm rfl
   have nc:(x,NameKind.cell)∉scope.names:=fun z=>by
    have:=ok.cel _ z rfl
    rw [q] at this
    cases this
   exact ⟨c,cs.off x c nc (yG hm e)⟩
  ·obtain ⟨c,e,_⟩:=cs.has x (PySem.mem_of_lookup q)
   exact ⟨c,e⟩
 ·have q:scope.names.lookup x=some .cell:=by
   have h':(scope.names.lookup x == some NameKind.cell)=true:=h
   simpa using h'
  obtain ⟨c',e',l⟩:=cs.has x (PySem.mem_of_lookup q)
  have e2:(cellsFrom (s.heap.objs.size+1) scope.names (iN X.env scope.names [])).lookup x=some c:=e
  rw [e'] at e2
  cases e2
  exact Nat.le_of_lt l
 ·exact Nat.ne_of_lt (hlt b hb)
 ·rcases cs.two x c e with ⟨_,z,_⟩ | z
  ·exact Nat.ne_of_gt (Nat.lt_trans (hlt b hb) z)
  ·exact (hf b hb).2.2.2.2.1 x c (iS hcell z).2
 ·rcases (hf b hb).2.2.2.1 with z | z
  ·exact I.ok.noex b o e z
  ·exact absurd (Nat.lt_of_lt_of_le (Heap.lt_size e) (Nat.le_trans I.ok.bsz z)) (Nat.lt_irrefl _)
 ·have q:=hf b hb
  rcases List.mem_cons.mp (stk b hb') with z | z
  ·exact q.2.1 z
  ·exact q.2.2.1 z
 ·have e2':(σc fr σ)[i]? = some (some v):=e2
  unfold σc at e2'
  rw [List.getElem?_map] at e2'
  cases ef:fr[i]? with
  | none=>rw [ef] at e2';cases e2'
  | some o=>
   rw [ef] at e2'
   cases o with
   | none=>cases e2'
   | some j=>
    obtain ⟨y,a1,a2,a3⟩:=ok.frs i j ef
    have a1':(m8 X scope Nc s.heap.objs.size pins fp s H).N[i]? = some y:=a1
    rw [a1'] at e1
    obtain rfl:y=x:=Option.some.inj e1
    have ej:σ[j]? = some (some v):=by
     have e2'':(σ[j]?).bind id=some v:=Option.some.inj e2'
     cases es:σ[j]? with
     | none=>rw [es] at e2'';cases e2''
     | some z=>rw [es] at e2'';cases z with
      | none=>cases e2''
      | some z'=>exact congrArg some e2''
    have hm:(y,NameKind.free)∈scope.names:=PySem.mem_of_lookup a3
    have kc:=ok.fre _ hm rfl
    obtain ⟨m,hn',hl⟩:=I.loc
    obtain ⟨u,r,l⟩:=hl j y v a2 ej (.inr kc)
    refine ⟨u,r,.inr ?_⟩
    rcases l with ⟨k,_⟩ | ⟨k,c,e,z⟩
    ·exfalso
     have k':X.env.scope.names.lookup y=some .local:=k
     rcases kc with q | q <;> (rw [q] at k';cases k')
    ·have nc:(y,NameKind.cell)∉scope.names:=fun z=>by
      have:=ok.cel _ z rfl
      rw [a3] at this
      cases this
     refine ⟨?_,c,cs.off y c nc (yG hm e),?_⟩
     ·show (relabel scope X.env).names.lookup y=some .cell∨(relabel scope X.env).names.lookup y=some .free
      rw [kJ,a3]
      show some (if _ then _ else _)=_∨some (if _ then _ else _)=_
      split
      ·exact .inl rfl
      ·exact .inr rfl
     ·obtain ⟨oc,ho,hd⟩:=z
      exact ⟨oc,up _ _ ho,hd⟩
 ·rcases cs.two x c e with ⟨_,_,z⟩ | z
  ·exact ⟨none,z⟩
  ·obtain ⟨v,oc,ho,hd⟩:=I.cell x c (iS hcell z).2
   exact ⟨v,oc,up _ _ ho,hd⟩
 ·rcases cs.two x c e with ⟨_,z,_⟩ | z
  ·exact I.hok.fresh (Nat.le_of_lt z)
  ·exact I.freeC x c (iS hcell z).2
 ·have hp':p∈X.pn++pins:=by
   rcases List.mem_append.mp hp with z | z
   ·exact z
   ·exact absurd z (by simp)
  obtain ⟨e,n,ne,nf,d⟩:=I.pin p hp'
  refine ⟨up _ _ e,n,Nat.ne_of_lt (Heap.lt_size e),fun z=>?_,d⟩
  rcases List.mem_cons.mp (stk _ z) with z | z
  ·exact ne z
  ·exact nf z
 ·unfold σc
  rw [List.length_map]
  exact ok.len
end
def pX (J:It) (σ₀:St) (g:TG) (tt:TT) (te:TE) (D:Addr) (H1:Hp) (Q:VK):Prop:=
 ∃ W:Nat→Nat→List V→Hp→Prop,(∃ m,W 0 m [] (upd H1 D (.lst [])))∧∀ i m ys H,W i m ys H →
  (J.stop i H∧Q (.ref D) H)∨(J.go i H∧∀ x H',J.yld i H x H'→g x σ₀ H' fun σ2 H2=>Fwd σ2 σ₀∧tt σ2 H2 fun b H3=>
   if b=true then te σ2 H3 fun y H4=>H4 D=some (.lst ys)∧ys.length<sizeLine∧∃ m',m'<m∧W (i+1) m' (ys++[y]) (upd H4 D (.lst (ys++[y])))
   else ∃ m',m'<m∧W (i+1) m' ys H3)
def uY (X:Cx) (pins:List (Addr×Obj)) (σ:St) (Q:VK) (acc:Value) (C:Addr) (r:Result) (s':Shared):Prop:=
 ∃ D H',acc = .ref D∧r = .ok .next∧aP X pins σ H' s'∧kA X pins H' C∧(∃ m,s'.heap.Ns C m)∧Q (.ref D) H'
section
variable {X:Cx}{scope:Scope}{Nc:List Str}{fr:List (Option Nat)}{pins:List (Addr×Obj)}{σ:St}{H:Hp}{s:Shared}{fp:List Addr}
theorem sY {tg elt iter:Expr}{ifs:List Expr}{pos:Pos}{g:TG}{tt:TT}{te:TE}{J:It}{it:Addr}{tn:Nat→Heap→Prop}{Q:VK}{E:Value→Shared→Prop} (ok:jW X.env.scope scope X.N Nc fr) (hc:X.calm=true)
  (hg:∀ Cc pins fp s3 H3,PG (m8 X scope Nc Cc pins fp s3 H3) tg g) (ht:∀ Cc pins fp s3 H3,xD (m8 X scope Nc Cc pins fp s3 H3) ifs tt) (he:∀ Cc pins fp s3 H3,PE (m8 X scope Nc Cc pins fp s3 H3) elt te)
  (I:aP X pins σ H s) (T:aAl X.prog X.w X.K tg J fp it tn) (st:tn 0 s.heap) (hf:∀ b∈fp,kA X pins H b) (w:∀ D,H D=none→pX J (σc fr σ) g tt te D H Q) :
  wpAny (model X.prog X.w) X.A (newList []) (fun acc s₃=>wpAny (model X.prog X.w) X.A (newFunctionEnv scope X.env.globals (iN X.env scope.names []) [] X.env.qual none .none (some X.env)) (fun cenv s₄=>
   codeAny (model X.prog X.w) X.A (.compStart (.ListComp elt [⟨tg,iter,ifs,0⟩] scope pos) 0 (.ref it) acc { cenv with scope:=relabel scope X.env }) (uY X pins σ Q acc cenv.locals) s₄) E s₃) E s:=by
 have flt:∀ b∈fp,b<s.heap.objs.size:=fun b hb=>by
  obtain ⟨o,e,_⟩:=T.obj 0 _ st b hb
  exact Heap.lt_size e
 refine wpAny_newList ?_ (by show 0≤sizeLine;exact Nat.zero_le _)
 have I3:=I.lnew (ys:=[]) (its:=[]) (t':=s.toks) .nil (Nat.zero_le _)
 have st3:tn 0 (s.heap.push { cls:=.type "list",data:=.seq ([]:List Value).toArray }):=T.keep 0 _ _ st fun b _ o e=>Heap.get?_push_of_some _ e
 obtain ⟨W,⟨m0,w0⟩,turn⟩:=w s.heap.objs.size I.fresh
 have hf3:∀ b∈fp,kA X pins (upd H s.heap.objs.size (.lst [])) b:=fun b hb=>⟨by rw [a8 (Nat.ne_of_lt (flt b hb))];exact (hf b hb).1,(hf b hb).2⟩
 generalize hD:s.heap.objs.size=D at *
 generalize hs3:({ s with heap:=s.heap.push { cls:=.type "list",data:=.seq ([]:List Value).toArray } }:Shared)=s3
 have I3':aP X pins σ (upd H D (.lst [])) s3:=hs3 ▸ I3
 have st3':tn 0 s3.heap:=by rw [← hs3];exact st3
 have flt3:∀ b∈fp,b<s3.heap.objs.size:=fun b hb=>by
  obtain ⟨o,e,_⟩:=T.obj 0 _ st3' b hb
  exact Heap.lt_size e
 refine qW ?_
 generalize hh1:pushCells (s3.heap.push { cls:=.type "dict",data:=.dict #[] }) scope.names=h1
 have hn1:h1.Ns s3.heap.objs.size (fun _=>none):=hh1 ▸ (Heap.Ns.new s3.heap (.type "dict")).keeps (pushCells_keeps _ _)
 have up:∀ b o,s3.heap.get? b=some o→h1.get? b=some o:=fun b o e=>hh1 ▸ pushCells_keeps _ _ b o (Heap.get?_push_of_some _ e)
 have cs1:uK scope (iN X.env scope.names []) s3.heap.objs.size h1:=hh1 ▸ aBE scope (iN X.env scope.names []) s3.heap _
 have I4:aP (m8 X scope Nc s3.heap.objs.size pins fp s3 (upd H D (.lst []))) [] (σc fr σ) (upd H D (.lst [])) { s3 with heap:=h1 }:=qR ok I3' hf3 flt3 hn1 up cs1
 have st4:tn 0 h1:=T.keep 0 _ _ st3' fun b _ o e=>up b o e
 generalize hXc:m8 X scope Nc s3.heap.objs.size pins fp s3 (upd H D (.lst []))=Xc at I4
 have hg':PG Xc tg g:=hXc ▸ hg _ _ _ _ _
 have ht':xD Xc ifs tt:=hXc ▸ ht _ _ _ _ _
 have he':PE Xc elt te:=hXc ▸ he _ _ _ _ _
 have eP:Xc.prog=X.prog:=by rw [← hXc];rfl
 have ew:Xc.w=X.w:=by rw [← hXc];rfl
 have eK:Xc.K=X.K:=by rw [← hXc];rfl
 have eA:Xc.A=X.A:=by rw [← hXc];rfl
 have ec:Xc.calm=true:=by rw [← hXc];exact hc
 have ex:Xc.xe=fun _ _=>False:=by rw [← hXc];rfl
 have ee:Xc.env=compEnvC scope (cellsFrom (s3.heap.objs.size+1) scope.names (iN X.env scope.names [])) s3.heap.objs.size X.env:=by rw [← hXc];rfl
 have elo:Xc.env.locals=s3.heap.objs.size:=by rw [ee];rfl
 have stat:∀ {H':Hp},(∀ b∈fp,H' b=none)→∀ b∈fp,kA Xc [] H' b:=fun {H'} hn b hb=>by
  have q:=hf b hb
  refine ⟨hn b hb,by rw [elo];exact Nat.ne_of_lt (flt3 b hb),fun z=>?_,.inl (by rw [← hXc];exact hb),fun x c e=>?_,fun p hp=>?_⟩
  ·have z':b∈frs X.stack:=by rw [← hXc] at z;exact z
   rcases List.mem_cons.mp (I.stkSub b z') with z | z
   ·exact q.2.1 z
   ·exact q.2.2.1 z
  ·have e':(cellsFrom (s3.heap.objs.size+1) scope.names (iN X.env scope.names [])).lookup x=some c:=by rw [ee] at e;exact e
   rcases cs1.two x c e' with ⟨_,z,_⟩ | z
   ·exact Nat.ne_of_gt (Nat.lt_trans (flt3 b hb) z)
   ·exact q.2.2.2.2.1 x c (iS (fZ ok I) z).2
  ·have hp':p∈(X.pn++pins)++[]:=by rw [← hXc] at hp;exact hp
   rw [List.append_nil] at hp'
   exact q.2.2.2.2.2 p hp'
 have loop:codeAny (model X.prog X.w) X.A (.compLoop (.ListComp elt [⟨tg,iter,ifs,0⟩] scope pos) 0 (.ref it) (.ref D) Xc.env) (uY X pins σ Q (.ref D) s3.heap.objs.size) { s3 with heap:=h1 }:=by
  refine zD (fun n s'=>∃ i ys H',aP Xc [] (σc fr σ) H' s'∧tn i s'.heap∧(∀ b∈fp,H' b=none)∧W i n ys H') ?_ m0 ⟨0,[],_,I4,st4,fun b hb=>(hf3 b hb).1,w0⟩
  rintro n s5 ⟨i,ys,H5,I5,st5,fr5,w5⟩
  rcases turn i n ys H5 w5 with ⟨stop,qn⟩ | ⟨go,step⟩
  ·have q:=T.done Xc eP ew eK ec i [] s5 (σc fr σ) H5 (fun _ _=>False) I5 (stat fr5) st5 stop
   rw [eA] at q
   refine dW q fun r s6 ⟨hr,I6⟩=>?_
   subst hr
   obtain ⟨m6,hn6,_⟩:=I6.loc
   have fC:H5 s3.heap.objs.size=none:=by have:=I6.free;rwa [elo] at this
   have bs:=I6.base
   have os:=I6.os
   have hk:=I6.hok
   rw [← hXc] at bs os hk
   refine ⟨D,H5,rfl,rfl,I3'.call' os bs hk I6.bare fun b hb=>?_,I3'.fpOk (Nat.le_refl _) fC,⟨m6,by rw [elo] at hn6;exact hn6⟩,qn⟩
   have q:=hf b hb
   exact ⟨q.2.2.2.1,q.2.1,q.2.2.2.2.1,q.2.2.2.2.2⟩
  ·have q:=T.item Xc eP ew eK ec i [] s5 (σc fr σ) H5 (fun _ _=>False) I5 (stat fr5) st5 go
   rw [eA] at q
   refine dW q fun r s6 ⟨u,hr,h6⟩=>?_
   subst hr
   refine dW h6 fun _ s7 ⟨x,H7,I7,r7,y7,st7,fr7⟩=>?_
   have I7':=I7.pinned (stat fr7) (T.obj _ _ st7)
   have q8:=hg' _ s7 _ H7 x u _ I7' r7 (step x H7 y7)
   rw [eP,ew,eA,ex] at q8
   refine dW q8 fun _ s8 ⟨σ8,H8,I8,fw8,q8⟩=>?_
   have q9:=ht' _ s8 σ8 H8 _ I8 q8
   rw [eP,ew,eA,ex] at q9
   refine dW q9 fun b s9 ⟨H9,I9,q9⟩=>?_
   have again:∀ {H':Hp}{ys':List V}{s':Shared},aP Xc ([]++lQ fp s7.heap) σ8 H' s'→(∃ m',m'<n∧W (i+1) m' ys' H')→∃ m,m<n∧∃ i ys H',aP Xc [] (σc fr σ) H' s'∧tn i s'.heap∧(∀ b∈fp,H' b=none)∧W i m ys H':=fun {H' ys' s'} J' ⟨m',hm,w'⟩=>by
    refine ⟨m',hm,i+1,ys',H',(J'.unpinned).weak fw8.1.symm fw8.2,T.keep _ _ _ st7 fun b hb o e=>(J'.pin (b,o) (List.mem_append_right _ (List.mem_append_right _ (gB hb e)))).1,fun b hb=>?_,w'⟩
    obtain ⟨o,e,d⟩:=T.obj _ _ st7 b hb
    exact (J'.pin (b,o) (List.mem_append_right _ (List.mem_append_right _ (gB hb e)))).2.1
   cases b with
   | false=>
    rw [if_neg (by simp)]
    exact again I9 q9
   | true=>
    rw [if_pos rfl]
    have q9':te σ8 H9 fun y H4=>H4 D=some (.lst ys)∧ys.length<sizeLine∧∃ m',m'<n∧W (i+1) m' (ys++[y]) (upd H4 D (.lst (ys++[y]))):=q9
    have q10:=he' _ s9 σ8 H9 _ I9 q9'
    rw [eP,ew,eA,ex] at q10
    refine dW q10 fun y s10 ⟨z,H10,I10,r10,e10,l10,w10⟩=>?_
    have q11:=kX (X:=Xc) _ s10 σ8 H10 (.ref D) [z] (.ref D) [y] (fun v H'=>∃ m',m'<n∧W (i+1) m' (ys++[z]) H') I10 rfl (.cons r10 .nil) ⟨D,ys,z,rfl,rfl,e10,l10,w10⟩
    rw [eP,ew,eA,ex] at q11
    exact dW q11 fun _ s11 ⟨_,H11,I11,_,w11⟩=>again I11 w11
 have loop':=loop
 rw [ee] at loop'
 exact codeAny_compStart_list loop' (T.self X.A 0 _ _ _ st4 loop')
def aBn (fr:List (Option Nat)) (wi:TI) (g:TG) (tt:TT) (te:TE):TE:=fun σ H Q=>wi σ H fun J H1=>∀ D,H1 D=none→pX J (σc fr σ) g tt te D H1 Q
theorem lU {C:Addr}{H':Hp}{s':Shared}{h':Heap} (I:aP X pins σ H' s') (f:kA X pins H' C) (hs:Heap.SameBut C s'.heap h'):aP X pins σ H' { s' with heap:=h' }:=
 I.turned (t':=s'.toks) (fun b o hb e=>(hs.2 b hb).trans e) f.1 f.2.1 f.2.2.2.1 f.2.2.2.2.1 f.2.2.2.2.2
theorem aCm {tg elt iter:Expr}{ifs:List Expr}{pos:Pos}{g:TG}{tt:TT}{te:TE}{wi:TI} (ok:iZ X.env.scope scope X.N Nc fr=true) (hc:X.calm=true) (hi:PI X tg iter wi)
  (hg:∀ Cc pins fp s3 H3,PG (m8 X scope Nc Cc pins fp s3 H3) tg g) (ht:∀ Cc pins fp s3 H3,xD (m8 X scope Nc Cc pins fp s3 H3) ifs tt) (he:∀ Cc pins fp s3 H3,PE (m8 X scope Nc Cc pins fp s3 H3) elt te)
  (hs:∀ x,foldedSetIterable iter X.env x=pure x:=by intro _;rfl) :
  PE X (.ListComp elt [⟨tg,iter,ifs,0⟩] scope pos) (aBn fr wi g tt te):=by
 have ok:=jW.of ok
 intro pins s σ H Q I h
 rw [eval_ListComp]
 refine wpAny_comprehension_free (use:=none) rfl hs (gZ (fZ ok I)) ok.kind ok.nms (dW (hi pins s σ H _ I h) fun v s1 h1=>dW h1 fun itv s2 h2=>?_)
 obtain ⟨it,fp,tn,J,H2,e,I2,T,st2,f2,w⟩:=h2
 subst e
 refine dW (sY ok hc hg ht he I2 T st2 f2 w) fun acc s3 h3=>dW h3 fun cenv s4 h4=>codeAny_mono h4 fun r s5 h5=>?_
 obtain ⟨D,H5,rfl,rfl,I5,f5,⟨m5,n5⟩,q5⟩:=h5
 exact ⟨m5,n5,fun h' sb=>⟨.ref D,H5,lU I5 f5 sb,rfl,q5⟩⟩
theorem aBV {tg elt iter:Expr}{ifs:List Expr}{pos pos' pos'':Pos}{g:TG}{tt:TT}{te:TE}{wi:TI}{i:Nat}{x:Str} (ok:iZ X.env.scope scope X.N Nc fr=true) (hc:X.calm=true) (hN:X.N.Nodup) (hi:X.N[i]? = some x) (hx:Loc X.env.scope x) (hit:PI X tg iter wi)
  (hg:∀ Cc pins fp s3 H3,PG (m8 X scope Nc Cc pins fp s3 H3) tg g) (ht:∀ Cc pins fp s3 H3,xD (m8 X scope Nc Cc pins fp s3 H3) ifs tt) (he:∀ Cc pins fp s3 H3,PE (m8 X scope Nc Cc pins fp s3 H3) elt te)
  (hsw:swapsWith (.ListComp elt [⟨tg,iter,ifs,0⟩] scope pos) (some (.Name x pos')) pos''.line X.env=pure true)
  (hs:∀ x,foldedSetIterable iter X.env x=pure x:=by intro _;rfl) (hf:X.fn x=true∨X.env.scope.names.lookup x=some .local:=by first | exact .inl rfl | exact .inr rfl | assumption) :
  PS X (.Assign [.Name x pos'] (.ListComp elt [⟨tg,iter,ifs,0⟩] scope pos) pos'') (zZ (aBn fr wi g tt te) (vW i)):=by
 have ok:=jW.of ok
 intro pins s σ H Dn I h
 rw [exec_Assign_Name_used _ _ _ _ hsw]
 refine wpAny_bind (wpAny_standAt (wpAny_bind ?_))
 refine wpAny_bind (m:=comprehension (.ListComp elt [⟨tg,iter,ifs,0⟩] scope pos) scope X.env (firstIterPos [⟨tg,iter,ifs,0⟩] pos) (newList []) false (eval iter X.env) (some (assign (.Name x pos') X.env))) ?_
 refine dW (wpAny_comprehension_free (use:=some (assign (.Name x pos') X.env)) (Q:=fun _ s'=>SP X pins Dn .next s') rfl hs (gZ (fZ ok I)) ok.kind ok.nms (dW (hit pins s σ H _ I h) fun v s1 h1=>dW h1 fun itv s2 h2=>?_)) fun _ s' q=>wpAny_pure (wpAny_pure q)
 obtain ⟨it,fp,tn,J,H2,e,I2,T,st2,f2,w⟩:=h2
 subst e
 refine dW (sY ok hc hg ht he I2 T st2 f2 w) fun acc s3 h3=>dW h3 fun cenv s4 h4=>codeAny_mono h4 fun r s5 h5=>?_
 obtain ⟨D,H5,rfl,rfl,I5,f5,⟨m5,n5⟩,q5⟩:=h5
 refine wpAny_assign_Name (rZ (v:=.ref D) I5 hN hi hx rfl (fun s6 I6 ⟨a,sb,ha⟩=>?_) hf)
 have nC:cenv.locals≠a:=by
  rcases ha with ha | ha
  ·rw [ha];exact f5.2.1
  ·exact Ne.symm (f5.2.2.2.2.1 x a ha)
 refine ⟨m5,n5.sameBut sb nC,fun h' sb'=>⟨_,H5,lU I6 f5 sb',q5⟩⟩
end
section
variable {X:Cx}
theorem zJ:mM X (compareOp .IsNot) (fun x y H Q=>∃ c d,x = .bl c∧y = .bl d∧Q (.bl (c != d)) H):=by
 intro pins s σ H x y v u Q I rx ry h
 obtain ⟨c,d,rfl,rfl,q⟩:=h
 cases rx
 cases ry
 exact isnot_bool (aAD I q rfl)
def aD3 (K:PySem.W.Frag):R2:=fun x y H Q=>∃ a b ys,x = .ref a∧y = .ref b∧kC K H a []∧kC K H b ys∧Q (.ref b) H
theorem aBS:mM X (binaryOp .Add) (aD3 X.K):=by
 intro pins s σ H x y v u Q I rx ry h
 obtain ⟨a,b,ys,rfl,rfl,ha,hb,q⟩:=h
 cases rx
 cases ry
 obtain ⟨its,r1,p1,_⟩:=I.tuple ha
 obtain ⟨its2,r2,p2,_⟩:=I.tuple hb
 have e:its=[]:=r1.nil_iff.mpr rfl
 subst e
 obtain ⟨⟨cls,dd,data,sl⟩,ho,hc,n,hd⟩:=id p1
 obtain ⟨⟨cls2,dd2,data2,sl2⟩,ho2,hc2,n2,hd2⟩:=id p2
 simp only at hc hd hc2 hd2
 subst hc hd hc2 hd2
 exact concat_meets ⟨_,ho,rfl⟩ ⟨_,ho2,rfl⟩ noFill_tuple_add seq_tuple_add PySem.F.slot_tuple_add PySem.F.entry_tuple_add (PySem.F.args_tuple_add_2 _ _)
  (tuple_addW0 a b [].toArray its2.toArray n n2 dd dd2 sl sl2 (by simp)) ⟨ho,ho2,⟨.ref b,H,I,rfl,q⟩⟩
theorem nU:fillsNumberSlot (.type "tuple") "mul"=pure false:=
 PySem.fillsNumberSlot_seq (id:="tuple.__mul__") (r:=some (.builtin "tuple.__rmul__")) F.slot_tuple_mul.lookup (by decide +kernel) F.slot_tuple_rmul.lookup (by decide +kernel)
theorem uT:seqRepeat? (.type "tuple")=pure (some (.builtin "tuple.__mul__")):=by
 unfold seqRepeat?
 have e1   := PySem.seqSlot_of (T:="tuple") (name:="__mul__") (id:="tuple.__mul__") F.slot_tuple_mul.lookup (by decide +kernel)
 have e2   := PySem.seqSlot_of (T:="tuple") (name:="__rmul__") (id:="tuple.__rmul__") F.slot_tuple_rmul.lookup (by decide +kernel)
 rw [e1,e2]
 rfl
theorem pW (a:Int) (t:Tok) (l:Addr) (items:Array Value) (n:Nat) (dd:Option Addr) (sl:Array (Option Value)) :
  Meets (Builtin.«int.__rmul__» ⟨[.int a t,.ref l],[]⟩) (fun _ R s=>s.heap.get? l=some { cls:=.type "tuple",dict:=dd,data:=.seq items n,slots:=sl }∧R (.ok (.ret Value.notImplemented)) s):=
 .of_wp fun prog w A R s h=>by
  obtain ⟨hp,g,d,tk,os⟩:=s
  obtain ⟨hl,h⟩:=h
  wp_walk
  exact ⟨_,rfl,h⟩
theorem xJ (l:Addr) (items:Array Value) (n:Nat) (dd:Option Addr) (sl:Array (Option Value)) (x:Int) (u:Tok) (h1:1<x) (h2:x<2 ^ 63) (h3:items.isEmpty=false) (h4:items.size * x≤sizeLine) :
  Meets (Builtin.«tuple.__mul__» ⟨[.ref l,.int x u],[]⟩) (fun _ R s=>s.heap.get? l=some { cls:=.type "tuple",dict:=dd,data:=.seq items n,slots:=sl } ∧
   R (.ok (.ret (Value.ref s.heap.objs.size))) { s with heap:=s.heap.push { cls:=Value.type "tuple",data:=Data.seq (List.foldl (fun x1 x2=>x1++x2) #[] (List.replicate x.toNat items)) } }):=
 .of_wp fun prog w A R s h=>by
  obtain ⟨hl,h⟩:=h
  have hT:s.TypeIs (.ref l) "tuple":=⟨_,hl,rfl⟩
  have hI:IsTup s.heap l items:=⟨_,hl,rfl,n,rfl⟩
  have f1:=AutoSeq1.idx_int
  unfold Builtin.«tuple.__mul__»
  obtain ⟨hp,g,d,tk,os⟩:=s
  wp_walk using wpAny_loadPart' hl
  rw [if_neg (by simp;omega)]
  refine wpAny_bind (tupleItemsOf_ hI ?_)
  dsimp only
  have hx1:(x == 1)=false:=by
   have:x≠1:=by omega
   simpa using this
  have e0:¬ (items.isEmpty || x == 1)=true:=by
   rw [h3,hx1]
   simp
  have e1:¬ (decide (x≤0) || items.isEmpty)=true:=by
   have:¬ x≤0:=by omega
   rw [h3]
   simpa using this
  have hl9:(sizeLine:Int)≤(2 ^ 63-1) / 8:=by decide
  have e2:¬ ((items.size:Int) * x > (2 ^ 63-1) / 8):=by omega
  have e3:¬ Builtin.Tuple.tupleTooMany ((items.size:Int) * x)=true:=by
   unfold Builtin.Tuple.tupleTooMany
   simpa using h4
  rw [if_neg e0,if_neg e1,if_neg e2,if_neg e3]
  have hsz:(List.foldl (fun x1 x2=>x1++x2) #[] (List.replicate x.toNat items)).size≤sizeLine:=by
   have q:=nJ items.toList x.toNat []
   have q2:List.foldl (fun x1 x2=>x1++x2) #[] (List.replicate x.toNat items)=(List.replicate x.toNat items.toList).flatten.toArray:=by
    simpa using q
   rw [q2,List.size_toArray,yF,Array.length_toList]
   have e:((x.toNat:Nat):Int)=x:=by omega
   have:((x.toNat * items.size:Nat):Int)≤(sizeLine:Int):=by
    rw [Int.natCast_mul,e,Int.mul_comm]
    exact h4
   omega
  exact wpAny_bind (m:=Builtin.Tuple.tupleExact _) (wpAny_newObj_type (wpAny_pure ⟨_,rfl,h⟩) hsz)
def aEl (K:PySem.W.Frag):R2:=fun x y H Q=>∃ l k xs,x = .ref l∧y = .int k∧kC K H l xs∧1<k∧k<2 ^ 63∧xs≠[]∧(xs.length:Int) * k≤sizeLine ∧
 ∀ p,H p=none→Q (.ref p) (upd H p (.tup (List.replicate k.toNat xs).flatten))
theorem aBX:mM X (binaryOp .Mult) (aEl X.K):=by
 intro pins s σ H x y v u Q I rx ry h
 obtain ⟨l,k,xs,rfl,rfl,hH,h1,h2,hne,hz,q⟩:=h
 cases rx
 obtain ⟨t,rfl⟩:=ry
 obtain ⟨its,r,ht,hzz⟩:=I.tuple hH
 have hl:=r.length
 obtain ⟨⟨cls,dd,data,sl⟩,ho,hc,n,hd⟩:=id ht
 simp only at hc hd
 subst hc hd
 have hnew:List.foldl (fun x1 x2=>x1++x2) #[] (List.replicate k.toNat its.toArray)=(List.replicate k.toNat its).flatten.toArray:=by
  have:=nJ its k.toNat []
  rw [List.nil_append] at this
  exact this
 have h3:its.toArray.isEmpty=false:=by
  cases its with
  | nil=>exact absurd (r.nil_iff.mp rfl) hne
  | cons a b=>rfl
 have h4:(its.toArray.size:Int) * k≤sizeLine:=by rw [List.size_toArray,← hl];exact hz
 refine wpAny_binaryOp_repeat_ref (T:="tuple") (U:="int") (by decide) ⟨_,ho,rfl⟩ (fun s'=>typeIs_int s' k t) nU F.fills_int_mul F.slot_int_rmul uT F.slot_int_index.lookup
  (call_meets F.slot_int_rmul (typeIs_int s k t) F.entry_int_rmul (F.args_int_rmul_2 _ _) (pW k t l its.toArray n dd sl)
   ⟨ho,rfl,⟨_,ho,rfl⟩,call_meets F.slot_tuple_mul ⟨_,ho,rfl⟩ F.entry_tuple_mul (F.args_tuple_mul_2 _ _) (xJ l its.toArray n dd sl k t h1 h2 h3 h4) ⟨ho,?_⟩⟩)
 rw [hnew]
 have hln:(List.replicate k.toNat xs).flatten.length≤sizeLine:=by
  rw [yF]
  have e:((k.toNat:Nat):Int)=k:=by omega
  have:((k.toNat * xs.length:Nat):Int)≤(sizeLine:Int):=by
   rw [Int.natCast_mul,e,Int.mul_comm]
   exact hz
  omega
 refine ⟨.ref s.heap.objs.size,_,I.laid (t':=s.toks) (o:=.tup (List.replicate k.toNat xs).flatten) (fun b ob q=>Heap.get?_push_of_some _ q) (Nat.le_refl _) ⟨hln,_,r.rep k.toNat,IsTup.new _ _⟩,rfl,q _ I.fresh⟩
theorem u5 {bs:List Bool}:∀ {us:List Value},bO (bs.map V.bl) us→PyProof.Rows.LSm.BoolsAre us bs:=by
 induction bs with
 | nil=>intro us r;cases r;exact .nil
 | cons b bs ih=>
  intro us r
  cases r with
  | cons a t=>cases a;exact .cons _ (ih t)
end
section
variable {X:Cx}
theorem aBU {s:Shared}{h':Heap}{o:Obj} (hk:∀ b x,b∉[s.heap.objs.size]→(s.heap.push o).get? b=some x→h'.get? b=some x):∀ b x,s.heap.get? b=some x→h'.get? b=some x:=
 fun b x e=>hk b x (fun hm=>by
  rw [List.mem_singleton.mp hm] at e
  exact Nat.lt_irrefl _ (Heap.lt_size e)) (Heap.get?_push_of_some _ e)
theorem aDC (bs:List Bool):((List.range bs.length).all fun i=>(bs[i]?).getD true)=bs.all id:=by
 rw [Bool.eq_iff_iff]
 simp only [List.all_eq_true,List.mem_range,id]
 constructor
 ·intro h b hb
  obtain ⟨i,hi,rfl⟩:=List.mem_iff_getElem.mp hb
  have:=h i hi
  simpa [hi] using this
 ·intro h i hi
  simp only [List.getElem?_eq_getElem hi,Option.getD_some]
  exact h _ (List.getElem_mem hi)
theorem aAS (hc:X.calm=true):fX X (.builtin "all") (fun xs H Q=>∃ (p:Addr) (bs:List Bool),xs=[.ref p]∧jH X.K H p (bs.map V.bl)∧Q (.bl (bs.all id)) H):=by
 intro pins s σ H xs us Q I r h
 obtain ⟨p,bs,rfl,hq,q⟩:=h
 obtain ⟨u,rfl,rx⟩:=p5 r
 cases rx
 obtain ⟨its,r',pl,hz⟩:=I.list hq
 have hb:=u5 r'
 have hl:=pl.isList
 have hlt:p<s.heap.objs.size:=by obtain ⟨_,e,_⟩:=hl;exact Heap.lt_size e
 refine call_all_walk (wpAny_pyIter_list hl ?_)
 refine ⟨s.heap.objs.size,[s.heap.objs.size,p],[s.heap.objs.size],its.toArray.size,_,_,fun i=>(bs[i]?).getD true,rfl,Walks.list (A:=X.A.in1) (I.ok.hd hc) _ p (Nat.ne_of_lt hlt) its.toArray,
  ⟨⟨_,Heap.get?_push_size _ rfl,rfl,rfl⟩,hl.push _⟩,fun i v s' Q' E' hP hQ=>?_,fun h' tk hk=>?_⟩
 ·obtain ⟨b,e,rfl⟩:=hb.get i v (by simpa using hP)
  simp only [e,Option.getD_some] at hQ
  exact wpAny_truthy_bool hQ
 ·have e:its.toArray.size=bs.length:=by
   have:=r'.length
   rw [List.length_map] at this
   rw [List.size_toArray,← this]
  rw [e,aDC]
  exact ⟨.bl (bs.all id),H,I.kept (aBU hk),rfl,q⟩
def xH (K:PySem.W.Frag) (H:Hp) (x:V) (n:String):Prop:=match x with
 | .non=>n="NoneType"
 | .bl _=>n="bool"
 | .int _=>n="int"
 | .str _=>n="str"
 | .ref a=>(n="list"∧∃ xs,jH K H a xs)∨(n="tuple"∧∃ xs,kC K H a xs)
 | _=>False
theorem aB2 {pins:List (Addr×Obj)}{σ:St}{H:Hp}{s:Shared}{A:Around}{E:Value→Shared→Prop}{Q:Value→Shared→Prop}{c:Value}{b:Bool}{x:V}{u:Value}{n:String} (I:aP X pins σ H s) (rx:cC x u) (ty:xH X.K H x n)
  (e:PySem.W.kitOne X.K (.type n) c=some b) (h:∀ tk,Q (.bool b) { s with toks:=tk }):wpAny (model X.prog X.w) A (call (.builtin "isinstance") [u,c]) Q E s:=by
 cases x with
 | non=>cases (show n=_ from ty);exact k9 I rx .non e h
 | bl y=>cases (show n=_ from ty);exact k9 I rx (.bl y) e h
 | int i=>cases (show n=_ from ty);exact k9 I rx (.int i) e h
 | str y=>cases (show n=_ from ty);exact k9 I rx (.str y) e h
 | ref a=>
  cases (show u=Value.ref a from rx)
  rcases (show (n="list"∧∃ xs,jH X.K H a xs)∨(n="tuple"∧∃ xs,kC X.K H a xs) from ty) with ⟨rfl,xs,hx⟩ | ⟨rfl,xs,hx⟩
  ·obtain ⟨its,_,pl,_⟩:=I.list hx
   obtain ⟨o,h1,h2,_⟩:=pl.isList
   exact PySem.W.kia_one PySem.W.kitx_list I.kIn ⟨o,h1,h2⟩ e (fun z=>nomatch z) h
  ·obtain ⟨its,_,pl,_⟩:=I.tuple hx
   obtain ⟨o,h1,h2,_⟩:=pl
   exact PySem.W.kia_one PySem.W.kitx_tuple I.kIn ⟨o,h1,h2⟩ e (fun z=>nomatch z) h
 | _=>exact False.elim ty
def qL (n c:String):Bool:=n == c || (n == "bool" && c == "int")
theorem aBR (K:PySem.W.Frag) {n c:String} (hn:n="NoneType"∨n="bool"∨n="int"∨n="str"∨n="list"∨n="tuple") (hc:c="int"∨c="bool"∨c="str"∨c="list"∨c="tuple"):PySem.W.kitOne K (.type n) (.type c)=some (qL n c):=by
 rcases hn with rfl | rfl | rfl | rfl | rfl | rfl <;> rcases hc with rfl | rfl | rfl | rfl | rfl <;> first | rfl | (unfold PySem.W.kitOne;rfl) | trace_state
theorem vU:fX X (.builtin "isinstance") (fun xs H Q=>∃ x c n,xs=[x,.ty c]∧(c="int"∨c="bool"∨c="str"∨c="list"∨c="tuple")∧xH X.K H x n∧Q (.bl (qL n c)) H):=by
 intro pins s σ H xs us Q I r h
 obtain ⟨x,c,n,rfl,hc,ty,q⟩:=h
 obtain ⟨u,u2,rfl,rx,rc⟩:=aCP r
 cases rc
 have hn:n="NoneType"∨n="bool"∨n="int"∨n="str"∨n="list"∨n="tuple":=by
  cases x with
  | non=>exact .inl ty
  | bl y=>exact .inr (.inl ty)
  | int i=>exact .inr (.inr (.inl ty))
  | str y=>exact .inr (.inr (.inr (.inl ty)))
  | ref a=>
   rcases (show (n="list"∧∃ xs,jH X.K H a xs)∨(n="tuple"∧∃ xs,kC X.K H a xs) from ty) with z | z
   ·exact .inr (.inr (.inr (.inr (.inl z.1))))
   ·exact .inr (.inr (.inr (.inr (.inr z.1))))
  | _=>exact False.elim ty
 exact aB2 I rx ty (aBR X.K hn hc) fun tk=>⟨.bl (qL n c),H,I.tok tk,rfl,q⟩
end
inductive D where
 | int (i:Int) | bl (b:Bool) | non | str (x:Str) | tup (ds:List D) | lst (ds:List D)
 deriving Inhabited
mutual
def fI (K:PySem.W.Frag) (C:Hp) (v:V):D→Prop
 | .int i=>v = .int i
 | .bl b=>v = .bl b
 | .non=>v = .non
 | .str x=>v = .str x
 | .tup ds=>∃ a xs,v = .ref a∧kC K C a xs∧aT K C xs ds
 | .lst ds=>∃ a xs,v = .ref a∧jH K C a xs∧aT K C xs ds
def aT (K:PySem.W.Frag) (C:Hp) (vs:List V):List D→Prop
 | []=>vs=[]
 | d::ds=>∃ x xs,vs=x::xs∧fI K C x d∧aT K C xs ds
end
theorem bL.seqT {K:PySem.W.Frag}{H H':Hp}{a:Addr}{xs:List V} (e:bL H H') (h:kC K H a xs):kC K H' a xs:=by
 rcases h with h | h
 ·rcases h with h | ⟨o,h⟩
  ·exact .inl (.inl (e _ _ h))
  ·exact .inl (.inr ⟨o,e _ _ h⟩)
 ·exact .inr h
mutual
theorem fI.mono {K:PySem.W.Frag}{C C':Hp} (e:bL C C'):∀ {v:V} (d:D),fI K C v d→fI K C' v d
 | v,.int i,h=>by unfold fI at h ⊢;exact h
 | v,.bl i,h=>by unfold fI at h ⊢;exact h
 | v,.non,h=>by unfold fI at h ⊢;exact h
 | v,.str i,h=>by unfold fI at h ⊢;exact h
 | v,.tup ds,h=>by
  unfold fI at h ⊢
  obtain ⟨a,xs,r,q,t⟩:=h
  exact ⟨a,xs,r,e.seqT q,aT.mono e ds t⟩
 | v,.lst ds,h=>by
  unfold fI at h ⊢
  obtain ⟨a,xs,r,q,t⟩:=h
  exact ⟨a,xs,r,e.seq q,aT.mono e ds t⟩
theorem aT.mono {K:PySem.W.Frag}{C C':Hp} (e:bL C C'):∀ {vs:List V} (ds:List D),aT K C vs ds→aT K C' vs ds
 | vs,[],h=>by unfold aT at h ⊢;exact h
 | vs,d::ds,h=>by
  unfold aT at h ⊢
  obtain ⟨x,xs,r,q,t⟩:=h
  exact ⟨x,xs,r,fI.mono e d q,aT.mono e ds t⟩
end
section
variable {K:PySem.W.Frag}{C:Hp}
theorem aM {v:V}{i:Int}:fI K C v (.int i)↔v = .int i:=by unfold fI;exact Iff.rfl
theorem bH {v:V}{i:Bool}:fI K C v (.bl i)↔v = .bl i:=by unfold fI;exact Iff.rfl
theorem bY {v:V}:fI K C v .non↔v = .non:=by unfold fI;exact Iff.rfl
theorem aW {v:V}{i:Str}:fI K C v (.str i)↔v = .str i:=by unfold fI;exact Iff.rfl
theorem bA {v:V}{ds:List D}:fI K C v (.tup ds)↔∃ a xs,v = .ref a∧kC K C a xs∧aT K C xs ds:=by rw [fI]
theorem aV {v:V}{ds:List D}:fI K C v (.lst ds)↔∃ a xs,v = .ref a∧jH K C a xs∧aT K C xs ds:=by rw [fI]
theorem dS {vs:List V}:aT K C vs []↔vs=[]:=by rw [aT]
theorem bT {vs:List V}{d:D}{ds:List D}:aT K C vs (d::ds)↔∃ x xs,vs=x::xs∧fI K C x d∧aT K C xs ds:=by rw [aT]
theorem aT.cons {v:V}{vs:List V}{d:D}{ds:List D} (h:fI K C v d) (t:aT K C vs ds):aT K C (v::vs) (d::ds):=bT.mpr ⟨v,vs,rfl,h,t⟩
theorem aT.nil:aT K C [] []:=dS.mpr rfl
theorem aT.length:∀ {vs:List V}{ds:List D},aT K C vs ds→vs.length=ds.length
 | vs,[],h=>by
  rw [dS.mp h]
  rfl
 | vs,d::ds,h=>by
  obtain ⟨x,xs,rfl,_,t⟩:=bT.mp h
  simp [aT.length t]
theorem aT.append:∀ {vs us:List V}{ds es:List D},aT K C vs ds→aT K C us es→aT K C (vs++us) (ds++es)
 | vs,us,[],es,h,q=>by rw [dS.mp h];exact q
 | vs,us,d::ds,es,h,q=>by
  obtain ⟨x,xs,rfl,a,t⟩:=bT.mp h
  exact aT.cons a (aT.append t q)
theorem aT.drop:∀ {vs:List V}{ds:List D} (n:Nat),aT K C vs ds→aT K C (vs.drop n) (ds.drop n)
 | vs,ds,0,h=>h
 | vs,[],n+1,h=>by rw [dS.mp h];exact .nil
 | vs,d::ds,n+1,h=>by
  obtain ⟨x,xs,rfl,a,t⟩:=bT.mp h
  exact aT.drop n t
theorem aT.take:∀ {vs:List V}{ds:List D} (n:Nat),aT K C vs ds→aT K C (vs.take n) (ds.take n)
 | vs,ds,0,h=>by simp;exact .nil
 | vs,[],n+1,h=>by rw [dS.mp h];exact .nil
 | vs,d::ds,n+1,h=>by
  obtain ⟨x,xs,rfl,a,t⟩:=bT.mp h
  exact aT.cons a (aT.take n t)
theorem aT.get:∀ {vs:List V}{ds:List D}{i:Nat}{d:D},aT K C vs ds→ds[i]? = some d→∃ v,vs[i]? = some v∧fI K C v d
 | vs,[],i,d,h,e=>by cases e
 | vs,c::ds,0,d,h,e=>by
  obtain ⟨x,xs,rfl,a,t⟩:=bT.mp h
  cases e
  exact ⟨x,rfl,a⟩
 | vs,c::ds,i+1,d,h,e=>by
  obtain ⟨x,xs,rfl,a,t⟩:=bT.mp h
  exact aT.get (i:=i) t e
theorem aT.rep {vs:List V}{ds:List D} (h:aT K C vs ds):∀ k:Nat,aT K C (List.replicate k vs).flatten (List.replicate k ds).flatten
 | 0=>.nil
 | k+1=>by
  rw [List.replicate_succ,List.flatten_cons,List.replicate_succ,List.flatten_cons]
  exact h.append (aT.rep h k)
theorem aT.ints {vs:List V}:∀ {ns:List Int},aT K C vs (ns.map D.int)→vs=ns.map V.int:=by
 intro ns
 induction ns generalizing vs with
 | nil=>intro h;exact dS.mp h
 | cons n ns ih=>
  intro h
  obtain ⟨x,xs,rfl,a,t⟩:=bT.mp h
  rw [aM.mp a,ih t]
  rfl
theorem aT.bools {vs:List V}:∀ {ns:List Bool},aT K C vs (ns.map D.bl)→vs=ns.map V.bl:=by
 intro ns
 induction ns generalizing vs with
 | nil=>intro h;exact dS.mp h
 | cons n ns ih=>
  intro h
  obtain ⟨x,xs,rfl,a,t⟩:=bT.mp h
  rw [bH.mp a,ih t]
  rfl
end
structure b5 (C H C1 H1:Hp):Prop where
 hh:bL H H1
 cc:bL C C1
 ch:bL C1 H1
 ow:∀ b,C b=none→H b≠none→C1 b=none
theorem b5.refl {C H:Hp} (h:bL C H):b5 C H C H:=⟨bL.refl _,bL.refl _,h,fun _ e _=>e⟩
theorem b5.trans {C H C1 H1 C2 H2:Hp} (a:b5 C H C1 H1) (b:b5 C1 H1 C2 H2):b5 C H C2 H2:=
 ⟨a.hh.trans b.hh,a.cc.trans b.cc,b.ch,fun c e n=>b.ow c (a.ow c e n) fun z=>n (a.hh.free z)⟩
theorem bL.upd {H:Hp}{p:Addr}{o:HO} (h:H p=none):bL H (upd H p o):=fun b u e=>by rw [a8 (b8 e h)];exact e
theorem b5.new {C H:Hp}{p:Addr}{o:HO} (h:bL C H) (hp:H p=none):b5 C H (upd C p o) (upd H p o):=by
 refine ⟨bL.upd hp,bL.upd (h.free hp),fun b u e=>?_,fun b e n=>?_⟩
 ·by_cases hb:b=p
  ·subst hb;rw [bD] at e ⊢;exact e
  ·rw [a8 hb] at e ⊢;exact h b u e
 ·rw [a8 (fun z=>n (by rw [z];exact hp))];exact e
theorem b5.newO {C H:Hp}{p:Addr}{o:HO} (h:bL C H) (hp:H p=none):b5 C H C (upd H p o):=
 ⟨bL.upd hp,bL.refl _,h.trans (bL.upd hp),fun b e n=>e⟩
inductive DM where
 | k (kvs:List (Int×Int)) | t (kvs:List (List Int×Int)) | p (kvs:List ((Int×List Int)×Int))
def nkT (r:List Int):NK:=r.map fun i=>Sum.inl (Sum.inl i)
def nkP (p:Int×List Int):NK:=[Sum.inl (Sum.inl p.1),Sum.inr (p.2.map Sum.inl)]
def shT:Nat→Bool:=fun _=>true
def shP:Nat→Bool:=fun i=>i == 0
def hoM (K:PySem.W.Frag):DM→HO
 | .k kvs=>.dK (kvs.map fun p=>(Sum.inl p.1,.int p.2))
 | .t kvs=>.dT K shT (kvs.map fun p=>(nkT p.1,.int p.2))
 | .p kvs=>.dT K shP (kvs.map fun p=>(nkP p.1,.int p.2))
theorem yT {K:PySem.W.Frag}{m:DM}{xs:List V}:hoM K m≠.lst xs:=by cases m <;> intro z <;> cases z
inductive Sl where
 | un | im (d:D) | ow (ds:List D) | od (m:DM) | fd (m:DM)
abbrev DS:=List Sl
structure qG (K:PySem.W.Frag) (H0:Hp) (δ:DS) (σ:St) (C H:Hp):Prop where
 od:∀ (i:Nat) m,δ[i]? = some (.od m)→∃ l,σ[i]? = some (some (.ref l))∧C l=none∧H0 l=none∧H l=some (hoM K m)
 fd:∀ (i:Nat) m,δ[i]? = some (.fd m)→∃ l o,σ[i]? = some (some (.ref l))∧C l=some (.frz o (hoM K m))
 ap:∀ (i j:Nat) m n l,i≠j→δ[i]? = some (.od m)→δ[j]? = some (.od n)→σ[i]? = some (some (.ref l))→σ[j]? ≠ some (some (.ref l))
def Sl.isD:Sl→Bool
 | .od _=>true
 | .fd _=>true
 | _=>false
theorem sI {α:Type}{l:List α}{i j:Nat}{x y:α} (h:(l.set i x)[j]? = some y):(j=i∧x=y∧i<l.length)∨(j≠i∧l[j]? = some y):=by
 by_cases e:j=i
 ·subst e
  have hl:j<l.length:=by
   have:=(List.getElem?_eq_some_iff.mp h).1
   simpa using this
  rw [List.getElem?_set_self hl] at h
  exact .inl ⟨rfl,Option.some.inj h,hl⟩
 ·rw [List.getElem?_set_ne (Ne.symm e)] at h
  exact .inr ⟨e,h⟩
section
variable {K:PySem.W.Frag}{H0 C H C1 H1:Hp}{δ:DS}{σ:St}
theorem qG.grow (D:qG K H0 δ σ C H) (e:b5 C H C1 H1):qG K H0 δ σ C1 H1:=by
 refine ⟨fun i m h=>?_,fun i m h=>?_,D.ap⟩
 ·obtain ⟨l,a,b,c,d⟩:=D.od i m h
  exact ⟨l,a,e.ow l b (by rw [d];simp),c,e.hh _ _ d⟩
 ·obtain ⟨l,o,a,b⟩:=D.fd i m h
  exact ⟨l,o,a,e.cc _ _ b⟩
theorem qG.weak (D:qG K H0 δ σ C H) {δ':DS} (h:∀ (i:Nat) x,δ'[i]? = some x→x.isD=true→δ[i]? = some x):qG K H0 δ' σ C H:=
 ⟨fun i m e=>D.od i m (h i _ e rfl),fun i m e=>D.fd i m (h i _ e rfl),fun i j m n l hij e1 e2=>D.ap i j m n l hij (h i _ e1 rfl) (h j _ e2 rfl)⟩
theorem qG.set1 (D:qG K H0 δ σ C H) {i:Nat}{x:Sl} (hx:x.isD=false):qG K H0 (δ.set i x) σ C H:=D.weak fun j y e hy=>by
 rcases sI e with ⟨_,z,_⟩ | ⟨_,e⟩
 ·rw [← z,hx] at hy;cases hy
 ·exact e
theorem qG.set2 (D:qG K H0 δ σ C H) {i:Nat}{x:Sl}{o:Option V} (hx:x.isD=false):qG K H0 (δ.set i x) (σ.set i o) C H:=by
 have key:∀ (j:Nat) y,(δ.set i x)[j]? = some y→y.isD=true→j≠i∧δ[j]? = some y:=fun j y e hy=>by
  rcases sI e with ⟨_,z,_⟩ | ⟨hj,e⟩
  ·rw [← z,hx] at hy;cases hy
  ·exact ⟨hj,e⟩
 refine ⟨fun j m e=>?_,fun j m e=>?_,fun j k m n l hjk e1 e2 e3=>?_⟩
 ·obtain ⟨hj,e⟩:=key j _ e rfl
  rw [List.getElem?_set_ne (Ne.symm hj)]
  exact D.od j m e
 ·obtain ⟨hj,e⟩:=key j _ e rfl
  rw [List.getElem?_set_ne (Ne.symm hj)]
  exact D.fd j m e
 ·obtain ⟨hj,e1⟩:=key j _ e1 rfl
  obtain ⟨hk,e2⟩:=key k _ e2 rfl
  rw [List.getElem?_set_ne (Ne.symm hj)] at e3
  rw [List.getElem?_set_ne (Ne.symm hk)]
  exact D.ap j k m n l hjk e1 e2 e3
theorem qG.frzL (D:qG K H0 δ σ C H) {l:Addr}{xs:List V} (hc:C l=none) (hl:H l=some (.lst xs)):qG K H0 δ σ (upd C l (.lst xs)) H:=by
 refine ⟨fun i m e=>?_,fun i m e=>?_,D.ap⟩
 ·obtain ⟨k,a,b,c,d⟩:=D.od i m e
  exact ⟨k,a,by rw [a8 (aCX d hl yT)];exact b,c,d⟩
 ·obtain ⟨k,o,a,b⟩:=D.fd i m e
  exact ⟨k,o,a,bL.upd hc _ _ b⟩
theorem qG.updL (D:qG K H0 δ σ C H) {l:Addr}{xs ys:List V} (hl:H l=some (.lst xs)):qG K H0 δ σ C (upd H l (.lst ys)):=by
 refine ⟨fun i m e=>?_,D.fd,D.ap⟩
 obtain ⟨k,a,b,c,d⟩:=D.od i m e
 exact ⟨k,a,b,c,by rw [a8 (aCX d hl yT)];exact d⟩
theorem qG.none (h:∀ (i:Nat) x,δ[i]? = some x→x.isD=false):qG K H0 δ σ C H:=by
 refine ⟨fun i m e=>?_,fun i m e=>?_,fun i j m n l _ e=>?_⟩
 ·have:=h i _ e
  cases this
 ·have:=h i _ e
  cases this
 ·have:=h i _ e
  cases this
end
structure d0 (K:PySem.W.Frag) (C0 H0:Hp) (δ:DS) (σ:St) (C H:Hp):Prop where
 len:σ.length=δ.length
 ext:b5 C0 H0 C H
 im:∀ (i:Nat) d,δ[i]? = some (.im d)→∃ v,σ[i]? = some (some v)∧fI K C v d
 ow:∀ (i:Nat) ds,δ[i]? = some (.ow ds)→∃ l xs,σ[i]? = some (some (.ref l))∧C l=none∧H0 l=none∧H l=some (.lst xs)∧aT K C xs ds
 ap:∀ (i j:Nat) ds es l,i≠j→δ[i]? = some (.ow ds)→δ[j]? = some (.ow es)→σ[i]? = some (some (.ref l))→σ[j]? ≠ some (some (.ref l))
 dc:qG K H0 δ σ C H
section
variable {K:PySem.W.Frag}{C0 H0 C H C1 H1:Hp}{δ:DS}{σ:St}
theorem d0.grow (R:d0 K C0 H0 δ σ C H) (e:b5 C H C1 H1):d0 K C0 H0 δ σ C1 H1:=by
 refine ⟨R.len,R.ext.trans e,fun i d h=>?_,fun i ds h=>?_,R.ap,R.dc.grow e⟩
 ·obtain ⟨v,a,b⟩:=R.im i d h
  exact ⟨v,a,b.mono e.cc⟩
 ·obtain ⟨l,xs,a,b,c,d,f⟩:=R.ow i ds h
  exact ⟨l,xs,a,e.ow l b (by rw [d];simp),c,e.hh _ _ d,f.mono e.cc⟩
theorem d0.ch (R:d0 K C0 H0 δ σ C H):bL C H:=R.ext.ch
theorem bJ {α:Type}{l:List α}{i j:Nat}{x y:α} (h:(l.set i x)[j]? = some y):(j=i∧x=y∧i<l.length)∨(j≠i∧l[j]? = some y):=by
 by_cases e:j=i
 ·subst e
  have hl:j<l.length:=by
   have:=(List.getElem?_eq_some_iff.mp h).1
   simpa using this
  rw [List.getElem?_set_self hl] at h
  exact .inl ⟨rfl,Option.some.inj h,hl⟩
 ·rw [List.getElem?_set_ne (Ne.symm e)] at h
  exact .inr ⟨e,h⟩
theorem d0.setI (R:d0 K C0 H0 δ σ C H) {i:Nat}{v:V}{d:D} (h:fI K C v d):d0 K C0 H0 (δ.set i (.im d)) (σ.set i (some v)) C H:=by
 refine ⟨by simp [R.len],R.ext,fun j e h'=>?_,fun j ds h'=>?_,fun j k ds es l hjk h1 h2 h3=>?_,R.dc.set2 rfl⟩
 ·rcases bJ h' with ⟨rfl,e1,hl⟩ | ⟨hj,h'⟩
  ·cases e1
   exact ⟨v,by rw [List.getElem?_set_self (by rw [R.len];exact hl)],h⟩
  ·obtain ⟨u,a,b⟩:=R.im j e h'
   exact ⟨u,by rw [List.getElem?_set_ne (Ne.symm hj)];exact a,b⟩
 ·rcases bJ h' with ⟨_,e1,_⟩ | ⟨hj,h'⟩
  ·cases e1
  ·obtain ⟨l,xs,a,b⟩:=R.ow j ds h'
   exact ⟨l,xs,by rw [List.getElem?_set_ne (Ne.symm hj)];exact a,b⟩
 ·rcases bJ h1 with ⟨_,e1,_⟩ | ⟨hj,h1⟩
  ·cases e1
  ·rcases bJ h2 with ⟨_,e1,_⟩ | ⟨hk,h2⟩
   ·cases e1
   ·rw [List.getElem?_set_ne (Ne.symm hj)] at h3
    rw [List.getElem?_set_ne (Ne.symm hk)]
    exact R.ap j k ds es l hjk h1 h2 h3
theorem d0.setO (R:d0 K C0 H0 δ σ C H) {i:Nat}{l:Addr}{xs:List V}{ds:List D} (h0:H0 l=none) (hc:C l=none) (hn:∀ (j:Nat) es,j≠i→δ[j]? = some (.ow es)→σ[j]? ≠ some (some (.ref l))) (hl:H l=some (.lst xs)) (h:aT K C xs ds) :
  d0 K C0 H0 (δ.set i (.ow ds)) (σ.set i (some (.ref l))) C H:=by
 refine ⟨by simp [R.len],R.ext,fun j e h'=>?_,fun j es h'=>?_,fun j k es fs m hjk h1 h2 h3=>?_,R.dc.set2 rfl⟩
 ·rcases bJ h' with ⟨_,e1,_⟩ | ⟨hj,h'⟩
  ·cases e1
  ·obtain ⟨u,a,b⟩:=R.im j e h'
   exact ⟨u,by rw [List.getElem?_set_ne (Ne.symm hj)];exact a,b⟩
 ·rcases bJ h' with ⟨rfl,e1,hl'⟩ | ⟨hj,h'⟩
  ·cases e1
   exact ⟨l,xs,by rw [List.getElem?_set_self (by rw [R.len];exact hl')],hc,h0,hl,h⟩
  ·obtain ⟨m,ys,a,b⟩:=R.ow j es h'
   exact ⟨m,ys,by rw [List.getElem?_set_ne (Ne.symm hj)];exact a,b⟩
 ·rcases bJ h1 with ⟨rfl,e1,hl1⟩ | ⟨hj,g1⟩
  ·cases e1
   rw [List.getElem?_set_self (by rw [R.len];exact hl1)] at h3
   cases h3
   rcases bJ h2 with ⟨z,_⟩ | ⟨hk,h2⟩
   ·exact absurd z.symm hjk
   ·rw [List.getElem?_set_ne (Ne.symm hk)]
    exact hn k fs hk h2
  ·rw [List.getElem?_set_ne (Ne.symm hj)] at h3
   rcases bJ h2 with ⟨rfl,e1,hl1⟩ | ⟨hk,h2⟩
   ·rw [List.getElem?_set_self (by rw [R.len];exact hl1)]
    intro z
    cases z
    exact hn j es hj g1 h3
   ·rw [List.getElem?_set_ne (Ne.symm hk)]
    exact R.ap j k es fs m hjk g1 h2 h3
theorem d0.freeze' (R:d0 K C0 H0 δ σ C H) {i:Nat}{ds:List D} (h:δ[i]? = some (.ow ds)):∃ C1,d0 K C0 H0 (δ.set i (.im (.lst ds))) σ C1 H:=by
 obtain ⟨l,xs,a,b,c,d,f⟩:=R.ow i ds h
 have hl:i<δ.length:=(List.getElem?_eq_some_iff.mp h).1
 have up:bL C (upd C l (.lst xs)):=bL.upd b
 have ch:bL (upd C l (.lst xs)) H:=fun z u e=>by
  by_cases hz:z=l
  ·subst hz;rw [bD] at e;cases e;exact d
  ·rw [a8 hz] at e;exact R.ch z u e
 refine ⟨upd C l (.lst xs),by simp [R.len],⟨R.ext.hh,R.ext.cc.trans up,ch,fun z e n=>?_⟩,fun j e h'=>?_,fun j es h'=>?_,fun j k es fs m hjk h1 h2 h3=>?_,(R.dc.frzL b d).set1 rfl⟩
 ·rw [a8 (fun q=>n (by rw [q];exact c))]
  exact R.ext.ow z e n
 ·rcases bJ h' with ⟨rfl,e1,hl'⟩ | ⟨hj,h'⟩
  ·cases e1
   exact ⟨.ref l,a,aV.mpr ⟨l,xs,rfl,jH.of bD,f.mono up⟩⟩
  ·obtain ⟨u,a',b'⟩:=R.im j e h'
   exact ⟨u,a',b'.mono up⟩
 ·rcases bJ h' with ⟨_,e1,_⟩ | ⟨hj,h'⟩
  ·cases e1
  ·obtain ⟨m,ys,a',b',c',d',f'⟩:=R.ow j es h'
   refine ⟨m,ys,a',?_,c',d',f'.mono up⟩
   rw [a8]
   ·exact b'
   ·intro z
    subst z
    exact R.ap i j ds es m (Ne.symm hj) h h' a a'
 ·rcases bJ h1 with ⟨_,e1,_⟩ | ⟨hj,h1⟩
  ·cases e1
  ·rcases bJ h2 with ⟨_,e1,_⟩ | ⟨hk,h2⟩
   ·cases e1
   ·exact R.ap j k es fs m hjk h1 h2 h3
theorem d0.change (R:d0 K C0 H0 δ σ C H) {i:Nat}{ds es:List D}{l:Addr}{ys:List V} (h:δ[i]? = some (.ow ds)) (hs:σ[i]? = some (some (.ref l))) (hd:aT K C ys es) :
  d0 K C0 H0 (δ.set i (.ow es)) σ C (upd H l (.lst ys)):=by
 obtain ⟨l',xs,a,b,c,d,f⟩:=R.ow i ds h
 rw [hs] at a
 cases a
 have hl:i<δ.length:=(List.getElem?_eq_some_iff.mp h).1
 have ne:∀ z u,C z=some u→z≠l:=fun z u e q=>by rw [q,b] at e;cases e
 refine ⟨by simp [R.len],⟨fun z u e=>?_,R.ext.cc,fun z u e=>?_,R.ext.ow⟩,fun j e h'=>?_,fun j fs h'=>?_,fun j k fs gs m hjk h1 h2 h3=>?_,(R.dc.updL d).set1 rfl⟩
 ·rw [a8 (b8 e c)];exact R.ext.hh z u e
 ·rw [a8 (ne z u e)];exact R.ch z u e
 ·rcases bJ h' with ⟨_,e1,_⟩ | ⟨hj,h'⟩
  ·cases e1
  ·exact R.im j e h'
 ·rcases bJ h' with ⟨rfl,e1,hl'⟩ | ⟨hj,h'⟩
  ·cases e1
   exact ⟨l,ys,hs,b,c,bD,hd⟩
  ·obtain ⟨m,zs,a',b',c',d',f'⟩:=R.ow j fs h'
   refine ⟨m,zs,a',b',c',?_,f'⟩
   rw [a8]
   ·exact d'
   ·intro z
    subst z
    exact R.ap i j ds fs m (Ne.symm hj) h h' hs a'
 ·have g1:∃ fs',δ[j]? = some (.ow fs'):=by
   rcases bJ h1 with ⟨rfl,_,_⟩ | ⟨_,h1⟩
   ·exact ⟨_,h⟩
   ·exact ⟨_,h1⟩
  have g2:∃ fs',δ[k]? = some (.ow fs'):=by
   rcases bJ h2 with ⟨rfl,_,_⟩ | ⟨_,h2⟩
   ·exact ⟨_,h⟩
   ·exact ⟨_,h2⟩
  obtain ⟨_,g1⟩:=g1
  obtain ⟨_,g2⟩:=g2
  exact R.ap j k _ _ m hjk g1 g2 h3
end
section
variable {X:Cx}{a b c e:Expr}{ta tb tc td:TE}{pos:Pos}
end
abbrev GE:=DS→(D→Prop)→Prop
abbrev GF:=DS→(List D→Prop)→Prop
abbrev GT:=DS→(Bool→Prop)→Prop
def DE (X:Cx) (e:Expr) (g:GE):Prop:=∃ t,PE X e t∧∀ C0 H0 δ σ C H (Q:D→Prop) (R:VK),d0 X.K C0 H0 δ σ C H→g δ Q→(∀ d v C1 H1,Q d→b5 C H C1 H1→fI X.K C1 v d→R v H1)→t σ H R
def DF (X:Cx) (e:Expr) (g:GF):Prop:=∃ t,PE X e t∧∀ C0 H0 δ σ C H (Q:List D→Prop) (R:VK),d0 X.K C0 H0 δ σ C H→g δ Q →
 (∀ ds p xs C1 H1,Q ds→b5 C H C1 H1→C1 p=none→H p=none→H1 p=some (.lst xs)→aT X.K C1 xs ds→R (.ref p) H1)→t σ H R
def DT (X:Cx) (e:Expr) (g:GT):Prop:=∃ t,PT X e t∧∀ C0 H0 δ σ C H (Q:Bool→Prop) (R:Bool→Hp→Prop),d0 X.K C0 H0 δ σ C H→g δ Q→(∀ b C1 H1,Q b→b5 C H C1 H1→R b H1)→t σ H R
def DW (X:Cx) (e:Expr) (g:GT):Prop:=∃ t,PW X e t∧∀ C0 H0 δ σ C H (Q:Bool→Prop) (R:Bool→Hp→Prop),d0 X.K C0 H0 δ σ C H→g δ Q→(∀ b C1 H1,Q b→b5 C H C1 H1→R b H1)→t σ H R
def DA (X:Cx) (es:List Expr) (g:GF):Prop:=∃ t,PA X es t∧∀ C0 H0 δ σ C H (Q:List D→Prop) (R:List V→Hp→Prop),d0 X.K C0 H0 δ σ C H→g δ Q→(∀ ds vs C1 H1,Q ds→b5 C H C1 H1→aT X.K C1 vs ds→R vs H1)→t σ H R
abbrev GO:=D→D→(D→Prop)→Prop
def tO (X:Cx) (f:Value→Value→Sem Value) (g:GO):Prop:=∃ r,mM X f r∧∀ x y dx dy C H (Q:D→Prop) (R:VK),bL C H→fI X.K C x dx→fI X.K C y dy→g dx dy Q→(∀ d v C1 H1,Q d→b5 C H C1 H1→fI X.K C1 v d→R v H1)→r x y H R
def qK (X:Cx) (f:Value) (g:List D→(D→Prop)→Prop):Prop:=∃ r,fX X f r∧∀ xs ds C H (Q:D→Prop) (R:VK),bL C H→aT X.K C xs ds→g ds Q→(∀ d v C1 H1,Q d→b5 C H C1 H1→fI X.K C1 v d→R v H1)→r xs H R
def aBA (X:Cx) (f:Value) (g:List D→(List D→Prop)→Prop):Prop:=∃ r,fX X f r∧∀ xs ds C H (Q:List D→Prop) (R:VK),bL C H→aT X.K C xs ds→g ds Q →
 (∀ es p ys C1 H1,Q es→b5 C H C1 H1→C1 p=none→H p=none→H1 p=some (.lst ys)→aT X.K C1 ys es→R (.ref p) H1)→r xs H R
theorem yY {C H C1 H1:Hp}{p:Addr}{o:HO} (e:b5 C H C1 H1) (hc:C1 p=none) (hn:H p=none) (h1:H1 p=some o):b5 C H (upd C1 p o) H1:=by
 refine ⟨e.hh,e.cc.trans (bL.upd hc),fun b u q=>?_,fun b q n=>?_⟩
 ·by_cases hb:b=p
  ·subst hb;rw [bD] at q;cases q;exact h1
  ·rw [a8 hb] at q;exact e.ch b u q
 ·rw [a8 (fun z=>n (by rw [z];exact hn))];exact e.ow b q n
section
variable {X:Cx}{a b c e:Expr}{es:List Expr}{pos:Pos}{ga gb gc gd:GE}{gf:GF}{ta tb:GT}
abbrev gF (g:GF):GE:=fun δ Q=>g δ fun ds=>Q (.lst ds)
theorem DF.toE (h:DF X e gf):DE X e (gF gf):=by
 obtain ⟨t,p,h⟩:=h
 refine ⟨t,p,fun C0 H0 δ σ C H Q R rp g k=>h C0 H0 δ σ C H _ R rp g fun ds p xs C1 H1 q ex hc hn hl hd=>?_⟩
 exact k (.lst ds) _ (upd C1 p (.lst xs)) H1 q (yY ex hc hn hl) (aV.mpr ⟨p,xs,rfl,jH.of bD,hd.mono (bL.upd hc)⟩)
def aF (i:Nat):GE:=fun δ Q=>match δ[i]? with
 | some (.im d)=>Q d
 | _=>False
theorem aD {i:Nat}{x:Str} (h:PE X (.Name x pos) (xG i)):DE X (.Name x pos) (aF i):=by
 refine ⟨_,h,fun C0 H0 δ σ C H Q R rp g k=>?_⟩
 unfold aF at g
 split at g
 ·rename_i d e
  obtain ⟨v,a1,a2⟩:=rp.im i d e
  exact ⟨v,a1,k d v C H g (b5.refl rp.ch) a2⟩
 ·exact g.elim
abbrev gC (d:D):GE:=fun _ Q=>Q d
theorem aJ {i j}:DE X (.Constant (.int i) j pos) (gC (.int i)):=⟨_,aDJ,fun C0 H0 δ σ C H Q R rp g k=>k _ _ C H g (b5.refl rp.ch) (aM.mpr rfl)⟩
theorem aBB {i j}:DE X (.Constant (.bool i) j pos) (gC (.bl i)):=⟨_,aEd,fun C0 H0 δ σ C H Q R rp g k=>k _ _ C H g (b5.refl rp.ch) (bH.mpr rfl)⟩
theorem xT {j}:DE X (.Constant .none j pos) (gC .non):=⟨_,aDa,fun C0 H0 δ σ C H Q R rp g k=>k _ _ C H g (b5.refl rp.ch) (bY.mpr rfl)⟩
theorem bQ {i j}:DE X (.Constant (.str i) j pos) (gC (.str i)):=⟨_,aC8,fun C0 H0 δ σ C H Q R rp g k=>k _ _ C H g (b5.refl rp.ch) (aW.mpr rfl)⟩
theorem aA4 {x:Str}{i:Int}{t:Tok} (hg:Gl X x) (hm:X.mg x=some (.int i t)) (hd:(x == ("__debug__":Str))=false:=by decide):DE X (.Name x pos) (gC (.int i)):=
 ⟨_,uN (v:=.int i) hg hm ⟨t,rfl⟩ hd,fun C0 H0 δ σ C H Q R rp g k=>k _ _ C H g (b5.refl rp.ch) (aM.mpr rfl)⟩
def cJ (o:GO) (ga gb:GE):GE:=fun δ Q=>ga δ fun x=>gb δ fun y=>o x y Q
theorem a7 {op:Operator}{o:GO} (ho:tO X (binaryOp op) o) (ha:DE X a ga) (hb:DE X b gb):DE X (.BinOp a op b pos) (cJ o ga gb):=by
 obtain ⟨r,pr,hr⟩:=ho
 obtain ⟨t1,p1,h1⟩:=ha
 obtain ⟨t2,p2,h2⟩:=hb
 refine ⟨_,aCW pr p1 p2,fun C0 H0 δ σ C H Q R rp g k=>?_⟩
 refine h1 C0 H0 δ σ C H _ _ rp g fun d v C1 H1 q e1 n1=>h2 C0 H0 δ σ C1 H1 _ _ (rp.grow e1) q fun d2 v2 C2 H2 q2 e2 n2=>?_
 exact hr v v2 d d2 C2 H2 Q R e2.ch (n1.mono e2.cc) n2 q2 fun d3 v3 C3 H3 q3 e3 n3=>k d3 v3 C3 H3 q3 (e1.trans (e2.trans e3)) n3
theorem aC3 {op:CmpOp}{o:GO} (ho:tO X (compareOp op) o) (ha:DE X a ga) (hb:DE X b gb) (hm:behindInMarks op b=false:=by first | exact aAR _ | with_unfolding_all rfl):DE X (.Compare a [op] [b] pos) (cJ o ga gb):=by
 obtain ⟨r,pr,hr⟩:=ho
 obtain ⟨t1,p1,h1⟩:=ha
 obtain ⟨t2,p2,h2⟩:=hb
 refine ⟨_,aCq pr p1 p2 hm,fun C0 H0 δ σ C H Q R rp g k=>?_⟩
 refine h1 C0 H0 δ σ C H _ _ rp g fun d v C1 H1 q e1 n1=>h2 C0 H0 δ σ C1 H1 _ _ (rp.grow e1) q fun d2 v2 C2 H2 q2 e2 n2=>?_
 exact hr v v2 d d2 C2 H2 Q R e2.ch (n1.mono e2.cc) n2 q2 fun d3 v3 C3 H3 q3 e3 n3=>k d3 v3 C3 H3 q3 (e1.trans (e2.trans e3)) n3
def iG (Q:Bool→Prop):D→Prop
 | .bl b=>Q b
 | _=>False
theorem tY {Q:Bool→Prop}{d:D}{K:PySem.W.Frag}{C:Hp}{v:V} (h:iG Q d) (n:fI K C v d):∃ b,v = .bl b∧Q b:=by
 cases d with
 | bl b=>exact ⟨b,bH.mp n,h⟩
 | _=>exact h.elim
def dF (ga:GE):GT:=fun δ Q=>ga δ (iG Q)
theorem iK {op:CmpOp}{o:GO} (ho:tO X (compareOp op) o) (ha:DE X a ga) (hb:DE X b gb) (hm:behindInMarks op b=false:=by first | exact aAR _ | with_unfolding_all rfl):DT X (.Compare a [op] [b] pos) (dF (cJ o ga gb)):=by
 obtain ⟨r,pr,hr⟩:=ho
 obtain ⟨t1,p1,h1⟩:=ha
 obtain ⟨t2,p2,h2⟩:=hb
 refine ⟨_,aCd pr p1 p2 hm,fun C0 H0 δ σ C H Q R rp g k=>?_⟩
 refine h1 C0 H0 δ σ C H _ _ rp g fun d v C1 H1 q e1 n1=>h2 C0 H0 δ σ C1 H1 _ _ (rp.grow e1) q fun d2 v2 C2 H2 q2 e2 n2=>?_
 refine hr v v2 d d2 C2 H2 _ _ e2.ch (n1.mono e2.cc) n2 q2 fun d3 v3 C3 H3 q3 e3 n3=>?_
 obtain ⟨c,rfl,qc⟩:=tY q3 n3
 exact ⟨c,rfl,k c C3 H3 qc (e1.trans (e2.trans e3))⟩
def dU (o o':GO) (ga gb gc:GE):GE:=fun δ Q=>ga δ fun x=>gb δ fun y=>o x y (iG fun k=>if k=true then gc δ fun z=>o' y z Q else Q (.bl false))
theorem wC {op op':CmpOp}{o o':GO} (ho:tO X (compareOp op) o) (ho':tO X (compareOp op') o') (ha:DE X a ga) (hb:DE X b gb) (hc:DE X c gc)
  (hm:lastMarks [op,op'] [b,c]=false:=by with_unfolding_all rfl):DE X (.Compare a [op,op'] [b,c] pos) (dU o o' ga gb gc):=by
 obtain ⟨r,pr,hr⟩:=ho
 obtain ⟨r',pr',hr'⟩:=ho'
 obtain ⟨t1,p1,h1⟩:=ha
 obtain ⟨t2,p2,h2⟩:=hb
 obtain ⟨t3,p3,h3⟩:=hc
 refine ⟨_,aBl pr pr' p1 p2 p3 hm,fun C0 H0 δ σ C H Q R rp g k=>?_⟩
 refine h1 C0 H0 δ σ C H _ _ rp g fun d v C1 H1 q e1 n1=>h2 C0 H0 δ σ C1 H1 _ _ (rp.grow e1) q fun d2 v2 C2 H2 q2 e2 n2=>?_
 refine hr v v2 d d2 C2 H2 _ _ e2.ch (n1.mono e2.cc) n2 q2 fun d3 v3 C3 H3 q3 e3 n3=>?_
 obtain ⟨c,rfl,qc⟩:=tY q3 n3
 refine ⟨c,rfl,?_⟩
 have e123:=e1.trans (e2.trans e3)
 cases c with
 | false=>exact xW (k (.bl false) _ C3 H3 (by simpa using qc) e123 (bH.mpr rfl))
 | true=>
  refine tU (h3 C0 H0 δ σ C3 H3 _ _ (rp.grow e123) (by simpa using qc) fun d4 v4 C4 H4 q4 e4 n4=>?_)
  exact hr' v2 v4 d2 d4 C4 H4 Q R e4.ch ((n2.mono e3.cc).mono e4.cc) n4 q4 fun d5 v5 C5 H5 q5 e5 n5=>k d5 v5 C5 H5 q5 (e123.trans (e4.trans e5)) n5
def dN (o o' o'':GO) (ga gb gc gd:GE):GE:=fun δ Q=>ga δ fun x=>gb δ fun y=>o x y (iG fun k=>if k=true then gc δ (fun z=>o' y z (iG fun k2=>if k2=true then gd δ fun w=>o'' z w Q else Q (.bl false))) else Q (.bl false))
def dX (ga gb:GE):GE:=fun δ Q=>ga δ (iG fun c=>if c=true then gb δ Q else Q (.bl false))
def lP (ga gb:GE):GE:=fun δ Q=>ga δ (iG fun c=>if c=true then Q (.bl true) else gb δ Q)
def iE (ga:GE):GE:=fun δ Q=>ga δ (iG fun c=>Q (.bl (!c)))
theorem lT {op} (h:DE X a ga):DE X (.BoolOp op [a] pos) ga:=by
 obtain ⟨t,p,h⟩:=h
 exact ⟨t,aDz p,h⟩
theorem kG {rest:List Expr} (ha:DE X a ga) (hb:DE X (.BoolOp .And (b::rest) pos) gb):DE X (.BoolOp .And (a::b::rest) pos) (dX ga gb):=by
 obtain ⟨t1,p1,h1⟩:=ha
 obtain ⟨t2,p2,h2⟩:=hb
 refine ⟨_,aDG p1 p2,fun C0 H0 δ σ C H Q R rp g k=>h1 C0 H0 δ σ C H _ _ rp g fun d v C1 H1 q e1 n1=>?_⟩
 obtain ⟨c,rfl,qc⟩:=tY q n1
 refine ⟨c,rfl,?_⟩
 cases c with
 | false=>exact xW (k (.bl false) _ C1 H1 (by simpa using qc) e1 (bH.mpr rfl))
 | true=>exact tU (h2 C0 H0 δ σ C1 H1 _ _ (rp.grow e1) (by simpa using qc) fun d2 v2 C2 H2 q2 e2 n2=>k d2 v2 C2 H2 q2 (e1.trans e2) n2)
def kN (ga gb:GT):GT:=fun δ Q=>ga δ fun c=>if c=true then gb δ Q else Q false
def uX (ga gb:GT):GT:=fun δ Q=>ga δ fun c=>if c=true then Q true else gb δ Q
def kE (ga:GT):GT:=fun δ Q=>ga δ fun c=>Q (!c)
theorem DW.t (h:DW X e ta):DT X e ta:=by
 obtain ⟨t,p,h⟩:=h
 exact ⟨t,p.pt,h⟩
theorem aB5 (h:DT X a ta):DW X (.BoolOp .And [a] pos) ta:=by
 obtain ⟨t,p,h⟩:=h
 exact ⟨t,y4 p,h⟩
theorem aBF (h:DT X a ta):DW X (.BoolOp .Or [a] pos) ta:=by
 obtain ⟨t,p,h⟩:=h
 exact ⟨t,aDu p,h⟩
theorem aDf {rest:List Expr} (ha:DT X a ta) (hb:DW X (.BoolOp .And (b::rest) pos) tb):DW X (.BoolOp .And (a::b::rest) pos) (kN ta tb):=by
 obtain ⟨t1,p1,h1⟩:=ha
 obtain ⟨t2,p2,h2⟩:=hb
 refine ⟨_,w8 p1 p2,fun C0 H0 δ σ C H Q R rp g k=>h1 C0 H0 δ σ C H _ _ rp g fun c C1 H1 q e1=>?_⟩
 cases c with
 | false=>exact xW (k false C1 H1 (by simpa using q) e1)
 | true=>exact tU (h2 C0 H0 δ σ C1 H1 _ _ (rp.grow e1) (by simpa using q) fun c2 C2 H2 q2 e2=>k c2 C2 H2 q2 (e1.trans e2))
theorem aCV {rest:List Expr} (ha:DT X a ta) (hb:DW X (.BoolOp .Or (b::rest) pos) tb):DW X (.BoolOp .Or (a::b::rest) pos) (uX ta tb):=by
 obtain ⟨t1,p1,h1⟩:=ha
 obtain ⟨t2,p2,h2⟩:=hb
 refine ⟨_,aEi p1 p2,fun C0 H0 δ σ C H Q R rp g k=>h1 C0 H0 δ σ C H _ _ rp g fun c C1 H1 q e1=>?_⟩
 cases c with
 | true=>exact tU (k true C1 H1 (by simpa using q) e1)
 | false=>exact xW (h2 C0 H0 δ σ C1 H1 _ _ (rp.grow e1) (by simpa using q) fun c2 C2 H2 q2 e2=>k c2 C2 H2 q2 (e1.trans e2))
theorem aBO (ha:DT X a ta):DT X (.UnaryOp .Not a pos) (kE ta):=by
 obtain ⟨t1,p1,h1⟩:=ha
 exact ⟨_,aAs p1,fun C0 H0 δ σ C H Q R rp g k=>h1 C0 H0 δ σ C H _ _ rp g fun c C1 H1 q e1=>k (!c) C1 H1 q e1⟩
def j9 (ga:GE):GT:=fun δ Q=>ga δ fun d=>match d with
 | .bl b=>Q b
 | .int i=>Q (i != 0)
 | .non=>Q false
 | .str x=>x.length≤sizeLine∧Q ((x.length:Int) != 0)
 | .tup ds=>Q (!ds.isEmpty)
 | .lst ds=>Q (!ds.isEmpty)
theorem jK {K:PySem.W.Frag}{C:Hp}{xs:List V}{ds:List D} (h:aT K C xs ds):xs.isEmpty=ds.isEmpty:=by
 have:=h.length
 cases xs <;> cases ds <;> simp_all
theorem aBd (ha:DE X a ga) (he:∀ whole,isTrue a X.env whole=(do
  let v ← whole
  standAt a.pos
  holding [v] (truthy v))):DT X a (j9 ga):=by
 obtain ⟨t1,p1,h1⟩:=ha
 refine ⟨_,aBx p1 he,fun C0 H0 δ σ C H Q R rp g k=>h1 C0 H0 δ σ C H _ _ rp g fun d v C1 H1 q e1 n1=>?_⟩
 cases d with
 | bl b=>rw [bH.mp n1];exact ⟨b,rfl,k _ C1 H1 q e1⟩
 | int i=>rw [aM.mp n1];exact ⟨_,rfl,k _ C1 H1 q e1⟩
 | non=>rw [bY.mp n1];exact ⟨_,rfl,k _ C1 H1 q e1⟩
 | str i=>rw [aW.mp n1];exact ⟨_,⟨q.1,rfl⟩,k _ C1 H1 q.2 e1⟩
 | tup ds=>
  obtain ⟨p,xs,rfl,hx,hd⟩:=bA.mp n1
  refine ⟨_,.inr (.inl ⟨xs,e1.ch.seqT hx,rfl⟩),k _ C1 H1 ?_ e1⟩
  rw [jK hd];exact q
 | lst ds=>
  obtain ⟨p,xs,rfl,hx,hd⟩:=aV.mp n1
  refine ⟨_,.inl ⟨xs,e1.ch.seq hx,rfl⟩,k _ C1 H1 ?_ e1⟩
  rw [jK hd];exact q
def l9 (t:GT) (ga gb:GE):GE:=fun δ Q=>t δ fun c=>if c=true then ga δ Q else gb δ Q
abbrev aI:GF:=fun _ Q=>Q []
def aE (ga:GE) (gr:GF):GF:=fun δ Q=>ga δ fun d=>gr δ fun ds=>Q (d::ds)
theorem aG:DA X [] aI:=⟨_,g5,fun C0 H0 δ σ C H Q R rp g k=>k [] [] C H g (b5.refl rp.ch) .nil⟩
theorem aA (ha:DE X e ga) (hr:DA X es gf) (hs:starEach (e::es) X.env=(false,eval e X.env)::starEach es X.env:=by rfl):DA X (e::es) (aE ga gf):=by
 obtain ⟨t1,p1,h1⟩:=ha
 obtain ⟨t2,p2,h2⟩:=hr
 refine ⟨_,dR p1 p2 hs,fun C0 H0 δ σ C H Q R rp g k=>h1 C0 H0 δ σ C H _ _ rp g fun d v C1 H1 q e1 n1=>?_⟩
 exact h2 C0 H0 δ σ C1 H1 _ _ (rp.grow e1) q fun ds vs C2 H2 q2 e2 n2=>k (d::ds) (v::vs) C2 H2 q2 (e1.trans e2) (.cons (n1.mono e2.cc) n2)
def cG (gf:GF):GE:=fun δ Q=>gf δ fun ds=>ds.length≤sizeLine∧Q (.tup ds)
theorem eO {x1} (h:DA X es gf):DE X (.Tuple es x1 pos) (cG gf):=by
 obtain ⟨t,p,h⟩:=h
 refine ⟨_,aCZ p,fun C0 H0 δ σ C H Q R rp g k=>h C0 H0 δ σ C H _ _ rp g fun ds vs C1 H1 q e1 n1=>⟨by rw [n1.length];exact q.1,fun p hp=>?_⟩⟩
 exact k (.tup ds) _ (upd C1 p (.tup vs)) _ q.2 (e1.trans (b5.new e1.ch hp)) (bA.mpr ⟨p,vs,rfl,kC.of bD,n1.mono (bL.upd (e1.ch.free hp))⟩)
def gT (gf:GF):GF:=fun δ Q=>gf δ fun ds=>ds.length≤sizeLine∧Q ds
theorem jB (h:DA X es gf):DF X (.List es pos) (gT gf):=by
 obtain ⟨t,p,h⟩:=h
 refine ⟨_,aDD p,fun C0 H0 δ σ C H Q R rp g k=>h C0 H0 δ σ C H _ _ rp g fun ds vs C1 H1 q e1 n1=>⟨by rw [n1.length];exact q.1,fun p hp=>?_⟩⟩
 exact k ds p vs C1 _ q.2 (e1.trans (b5.newO e1.ch hp)) (e1.ch.free hp) (e1.hh.free hp) bD n1
def bE (g:List D→(D→Prop)→Prop) (gf:GF):GE:=fun δ Q=>gf δ fun ds=>g ds Q
def eF (g:List D→(List D→Prop)→Prop) (gf:GF):GF:=fun δ Q=>gf δ fun ds=>g ds Q
theorem aB3 {x:Str}{f:Value}{g:List D→(List D→Prop)→Prop}{pos':Pos} (hc:aBA X f g) (ha:DA X (e::es) gf)
  (hp:∀ {t:TA}{r:List V→Hp→VK→Prop},fX X f r→PA X (e::es) t→PE X (.Call (.Name x pos') (e::es) [] pos) (tCB r t)):DF X (.Call (.Name x pos') (e::es) [] pos) (eF g gf):=by
 obtain ⟨r,pr,hr⟩:=hc
 obtain ⟨t,p,h⟩:=ha
 refine ⟨_,hp pr p,fun C0 H0 δ σ C H Q R rp g k=>h C0 H0 δ σ C H _ _ rp g fun ds vs C1 H1 q e1 n1=>?_⟩
 exact hr vs ds C1 H1 Q R e1.ch n1 q fun es' p ys C2 H2 q2 e2 h1 h2 h3 h4=>k es' p ys C2 H2 q2 (e1.trans e2) h1 (e1.hh.free h2) h3 h4
end
def iX (o:Option D) (Q:D→Prop):Prop:=match o with
 | some d=>Q d
 | none=>False
theorem aDT {d:D}{Q:D→Prop}:iX (some d) Q=Q d:=rfl
def spD (K:PySem.W.Frag) (F:List D→Option D):Sp:=fun vs H Q _=>∃ C ds d,bL C H∧aT K C vs ds∧F ds=some d∧∀ v C' H',b5 C H C' H'→fI K C' v d→Q v H'
def kB (P:Program) (w:World) (K:PySem.W.Frag) (mg:Str→Option Value) (base:Heap) (k:Nat) (x:Str) (F:List D→Option D):Prop:=
 ∃ f fd ps,kF P w K mg base lJ k f fd ps (spD K F)∧mg x=some (.ref f)∧PySem.W.keepIn K (.ref f)=true∧j3 K fd ps []
section
variable {X:Cx}{a b c e:Expr}{es:List Expr}{pos:Pos}{ga gb gc gd:GE}{gf:GF}{ta tb:GT}
def aU (F:List D→Option D) (gf:GF):GE:=fun δ Q=>gf δ fun ds=>iX (F ds) Q
theorem bF {F:List D→Option D}{k:Nat}{x:Str}{p:Pos} (h:kB X.prog X.w X.K X.mg X.base k x F) (hr:cM k X.A) (hg:Gl X x) (ha:DA X (e::es) gf) (hdb:(x == ("__debug__":Str))=false:=by decide)
  (he:starEach (e::es) X.env=(false,eval e X.env)::starEach es X.env:=by rfl) (hpl:(backTo pos (starEach es X.env)).any (·.1)=false:=by rfl):DE X (.Call (.Name x p) (e::es) [] pos) (aU F gf):=by
 obtain ⟨f,fd,ps,Fk,hm,hk,hb⟩:=h
 obtain ⟨t,pa,h⟩:=ha
 refine ⟨_,uH Fk hr hg hm hk hb .nil aCR pa hdb he hpl,fun C0 H0 δ σ C H Q R rp g k=>h C0 H0 δ σ C H _ _ rp g fun ds vs C1 H1 q e1 n1=>?_⟩
 cases e2:F ds with
 | none=>rw [e2] at q;exact q.elim
 | some d=>
  rw [e2] at q
  exact ⟨C1,ds,d,e1.ch,by rw [List.append_nil];exact n1,e2,fun v C' H' ex nv=>k d v C' H' q (e1.trans ex) nv⟩
def lN:GO:=fun x y Q=>match x,y with
 | .tup ds,.int i=>iX (m9 ds i) Q
 | .lst ds,.int i=>iX (m9 ds i) Q
 | _,_=>False
theorem yN {K:PySem.W.Frag}{C:Hp}{xs:List V}{ds:List D}{i:Int}{d:D} (h:aT K C xs ds) (e:m9 ds i=some d):∃ v,m9 xs i=some v∧fI K C v d:=by
 unfold m9 at e ⊢
 rw [h.length]
 cases z:ixN ds.length i with
 | none=>rw [z] at e;cases e
 | some j=>
  rw [z] at e
  exact h.get e
theorem g9 (ha:DE X a ga) (hb:DE X b gb) (hs:uE b):DE X (.Subscript a b pos) (cJ lN ga gb):=by
 obtain ⟨t1,p1,h1⟩:=ha
 obtain ⟨t2,p2,h2⟩:=hb
 refine ⟨_,aCT aAI p1 p2 hs,fun C0 H0 δ σ C H Q R rp g k=>?_⟩
 refine h1 C0 H0 δ σ C H _ _ rp g fun d v C1 H1 q e1 n1=>h2 C0 H0 δ σ C1 H1 _ _ (rp.grow e1) q fun d2 v2 C2 H2 q2 e2 n2=>?_
 have n1':=n1.mono e2.cc
 cases d with
 | tup ds=>
  cases d2 with
  | int i=>
   obtain ⟨p,xs,rfl,hx,hd⟩:=bA.mp n1'
   rw [aM.mp n2]
   have q2':iX (m9 ds i) Q:=q2
   cases z:m9 ds i with
   | none=>rw [z] at q2';exact q2'.elim
   | some d3=>
    rw [z] at q2'
    obtain ⟨v3,ev,nv⟩:=yN hd z
    exact .inr (.inl ⟨p,xs,i,v3,rfl,rfl,e2.ch.seqT hx,ev,k d3 v3 C2 H2 q2' (e1.trans e2) nv⟩)
  | _=>exact q2.elim
 | lst ds=>
  cases d2 with
  | int i=>
   obtain ⟨p,xs,rfl,hx,hd⟩:=aV.mp n1'
   rw [aM.mp n2]
   have q2':iX (m9 ds i) Q:=q2
   cases z:m9 ds i with
   | none=>rw [z] at q2';exact q2'.elim
   | some d3=>
    rw [z] at q2'
    obtain ⟨v3,ev,nv⟩:=yN hd z
    exact .inl ⟨p,xs,i,v3,rfl,rfl,e2.ch.seq hx,ev,k d3 v3 C2 H2 q2' (e1.trans e2) nv⟩
  | _=>exact q2.elim
 | _=>exact q2.elim
abbrev GP:=DS→(Option Int→Prop)→Prop
def DO (X:Cx) (e:Option Expr) (g:GP):Prop:=∃ t,PO X e t∧∀ C0 H0 δ σ C H (Q:Option Int→Prop) (R:Option Int→Hp→Prop),d0 X.K C0 H0 δ σ C H→g δ Q→(∀ o C1 H1,Q o→b5 C H C1 H1→R o H1)→t σ H R
abbrev g0:GP:=fun _ Q=>Q none
def cZ (g:GE):GP:=fun δ Q=>g δ fun d=>match d with
 | .int i=>Q (some i)
 | _=>False
theorem hJ:DO X none g0:=⟨_,aCx,fun C0 H0 δ σ C H Q R rp g k=>k none C H g (b5.refl rp.ch)⟩
theorem fM (h:DE X e ga):DO X (some e) (cZ ga):=by
 obtain ⟨t,p,h⟩:=h
 refine ⟨_,aCp p,fun C0 H0 δ σ C H Q R rp g k=>h C0 H0 δ σ C H _ _ rp g fun d v C1 H1 q e1 n1=>?_⟩
 cases d with
 | int i=>exact ⟨i,aM.mp n1,k (some i) C1 H1 q e1⟩
 | _=>exact q.elim
def rG (xs:List D) (lo hi:Option Int):List D:=(xs.drop (HT.sIx xs.length 0 lo)).take (HT.sIx xs.length xs.length hi-HT.sIx xs.length 0 lo)
def l8 (ga:GE) (gl gh:GP):GE:=fun δ Q=>ga δ fun d=>gl δ fun lo=>gh δ fun hi=>match d with
 | .tup ds=>Q (.tup (rG ds lo hi))
 | _=>False
theorem aBr {K:PySem.W.Frag}{C:Hp}{xs:List V}{ds:List D}{lo hi:Option Int} (h:aT K C xs ds):aT K C (zH xs lo hi) (rG ds lo hi):=by
 unfold zH rG
 rw [h.length]
 exact (h.drop _).take _
def jQ (f:Int→Int→D):GO:=fun x y Q=>match x,y with
 | .int i,.int j=>Q (f i j)
 | _,_=>False
def fW (c:Int→Int→Prop) (f:Int→Int→D):GO:=fun x y Q=>match x,y with
 | .int i,.int j=>c i j∧Q (f i j)
 | _,_=>False
theorem wO {f:Value→Value→Sem Value}{c:Int→Int→Prop}{g:Int→Int→Int} (h:mM X f (rI c fun i j=>.int (g i j))):tO X f (fW c fun i j=>.int (g i j)):=by
 refine ⟨_,h,fun x y dx dy C H Q R ch n1 n2 q k=>?_⟩
 cases dx with
 | int i=>
  cases dy with
  | int j=>exact ⟨i,j,aM.mp n1,aM.mp n2,q.1,k _ _ C H q.2 (b5.refl ch) (aM.mpr rfl)⟩
  | _=>exact q.elim
 | _=>exact q.elim
theorem aBN {f:Value→Value→Sem Value}{g:Int→Int→Bool} (h:mM X f (rI0 fun i j=>.bl (g i j))):tO X f (jQ fun i j=>.bl (g i j)):=by
 refine ⟨_,h,fun x y dx dy C H Q R ch n1 n2 q k=>?_⟩
 cases dx with
 | int i=>
  cases dy with
  | int j=>exact ⟨i,j,aM.mp n1,aM.mp n2,k _ _ C H q (b5.refl ch) (bH.mpr rfl)⟩
  | _=>exact q.elim
 | _=>exact q.elim
theorem aAL {f:Value→Value→Sem Value}{g:Int→Int→Int} (h:mM X f (rI0 fun i j=>.int (g i j))):tO X f (jQ fun i j=>.int (g i j)):=by
 refine ⟨_,h,fun x y dx dy C H Q R ch n1 n2 q k=>?_⟩
 cases dx with
 | int i=>
  cases dy with
  | int j=>exact ⟨i,j,aM.mp n1,aM.mp n2,k _ _ C H q (b5.refl ch) (aM.mpr rfl)⟩
  | _=>exact q.elim
 | _=>exact q.elim
abbrev aBt:GO:=jQ fun i j=>.int (i-j)
abbrev oLe:GO:=jQ fun i j=>.bl (decide (i≤j))
abbrev rN:GO:=fW (fun _ j=>0<j) fun i j=>.int (i % j)
abbrev aAP:GO:=fW aCo fun i j=>.int (i / j)
theorem uL:tO X (binaryOp .Sub) aBt:=aAL aDb
theorem yU:tO X (compareOp .LtE) oLe:=aBN aEk
theorem jY:tO X (binaryOp .Mod) rN:=wO aDt
theorem uM:tO X (binaryOp .FloorDiv) aAP:=wO aCG
def fA:GO:=fun x y Q=>match x,y with
 | .int i,.int j=>Q (.int (i+j))
 | .tup xs,.tup ys=>xs.length+ys.length≤sizeLine∧Q (.tup (xs++ys))
 | _,_=>False
theorem fG:tO X (binaryOp .Add) fA:=by
 refine ⟨_,aDA.or (aCr.or aBS),fun x y dx dy C H Q R ch n1 n2 q k=>?_⟩
 cases dx with
 | int i=>
  cases dy with
  | int j=>exact .inl ⟨i,j,aM.mp n1,aM.mp n2,k _ _ C H q (b5.refl ch) (aM.mpr rfl)⟩
  | _=>exact q.elim
 | tup ds=>
  cases dy with
  | tup es=>
   obtain ⟨p,xs,rfl,hx,hd⟩:=bA.mp n1
   obtain ⟨p2,ys,rfl,hy,he⟩:=bA.mp n2
   have q':ds.length+es.length≤sizeLine∧Q (.tup (ds++es)):=q
   refine .inr ?_
   cases ds with
   | nil=>
    have e:=dS.mp hd
    subst e
    exact .inr ⟨p,p2,ys,rfl,rfl,ch.seqT hx,ch.seqT hy,k _ _ C H q'.2 (b5.refl ch) n2⟩
   | cons d ds=>
    refine .inl ⟨p,p2,xs,ys,rfl,rfl,ch.seqT hx,ch.seqT hy,?_,by rw [hd.length,he.length];exact q'.1,fun z=>?_,fun _ p' hp=>?_⟩
    ·intro z
     have:=hd.length
     rw [z] at this
     simp at this
    ·subst z
     have e:es=[]:=by
      have:=he.length
      simpa using this.symm
     subst e
     rw [List.append_nil] at q'
     exact k _ _ C H q'.2 (b5.refl ch) n1
    ·exact k _ _ (upd C p' (.tup (xs++ys))) _ q'.2 (b5.new ch hp) (bA.mpr ⟨p',_,rfl,kC.of bD,(hd.append he).mono (bL.upd (ch.free hp))⟩)
  | _=>exact q.elim
 | _=>exact q.elim
def i7:GO:=fun x y Q=>match x,y with
 | .int i,.int j=>aA3 i j∧Q (.int (i * j))
 | .tup xs,.int k=>1<k∧k<2 ^ 63∧xs≠[]∧(xs.length:Int) * k≤sizeLine∧Q (.tup (List.replicate k.toNat xs).flatten)
 | _,_=>False
theorem pQ:tO X (binaryOp .Mult) i7:=by
 refine ⟨_,aC9.or aBX,fun x y dx dy C H Q R ch n1 n2 q k=>?_⟩
 cases dx with
 | int i=>
  cases dy with
  | int j=>exact .inl ⟨i,j,aM.mp n1,aM.mp n2,q.1,k _ _ C H q.2 (b5.refl ch) (aM.mpr rfl)⟩
  | _=>exact q.elim
 | tup ds=>
  cases dy with
  | int j=>
   obtain ⟨p,xs,rfl,hx,hd⟩:=bA.mp n1
   obtain ⟨q1,q2,q3,q4,q5⟩:=q
   refine .inr ⟨p,j,xs,rfl,aM.mp n2,ch.seqT hx,q1,q2,?_,by rw [hd.length];exact q4,fun p' hp=>?_⟩
   ·intro z
    have:=hd.length
    rw [z] at this
    exact q3 (by simpa using this.symm)
   ·exact k _ _ (upd C p' _) _ q5 (b5.new ch hp) (bA.mpr ⟨p',_,rfl,kC.of bD,(hd.rep _).mono (bL.upd (ch.free hp))⟩)
  | _=>exact q.elim
 | _=>exact q.elim
def wW:GO:=fun x y Q=>match x,y with
 | .bl a,.bl b=>Q (.bl (a == b))
 | _,_=>False
def fE:GO:=fun x y Q=>match x,y with
 | .bl a,.bl b=>Q (.bl (a != b))
 | _,_=>False
def kI (ga:GE):GE:=fun δ Q=>ga δ fun d=>match d with
 | .int i=>Q (.int (-i))
 | _=>False
theorem aC0 (ha:DE X a ga):DE X (.UnaryOp .USub a pos) (kI ga):=by
 obtain ⟨t1,p1,h1⟩:=ha
 refine ⟨_,aD7 aDE p1,fun C0 H0 δ σ C H Q R rp g k=>h1 C0 H0 δ σ C H _ _ rp g fun d v C1 H1 q e1 n1=>?_⟩
 cases d with
 | int i=>exact ⟨i,aM.mp n1,k _ _ C1 H1 q e1 (aM.mpr rfl)⟩
 | _=>exact q.elim
def iO:List D→(D→Prop)→Prop:=fun ds Q=>match ds with
 | [.tup xs]=>Q (.int xs.length)
 | [.lst xs]=>Q (.int xs.length)
 | _=>False
theorem gU {K:PySem.W.Frag}{C:Hp}{vs:List V}{d:D} (h:aT K C vs [d]):∃ v,vs=[v]∧fI K C v d:=by
 obtain ⟨x,xs,rfl,a,t⟩:=bT.mp h
 rw [dS.mp t]
 exact ⟨x,rfl,a⟩
theorem p8:qK X (.builtin "len") iO:=by
 refine ⟨_,uU,fun xs ds C H Q R ch n q k=>?_⟩
 unfold iO at q
 split at q
 ·obtain ⟨v,rfl,n1⟩:=gU n
  obtain ⟨p,ys,rfl,hy,hd⟩:=bA.mp n1
  refine ⟨p,ys,rfl,.inr (ch.seqT hy),?_⟩
  rw [hd.length]
  exact k _ _ C H q (b5.refl ch) (aM.mpr rfl)
 ·obtain ⟨v,rfl,n1⟩:=gU n
  obtain ⟨p,ys,rfl,hy,hd⟩:=aV.mp n1
  refine ⟨p,ys,rfl,.inl (ch.seq hy),?_⟩
  rw [hd.length]
  exact k _ _ C H q (b5.refl ch) (aM.mpr rfl)
 ·exact q.elim
def cN:List D→(D→Prop)→Prop:=fun ds Q=>match ds with
 | [.tup xs]=>Q (.tup xs)
 | [.lst xs]=>Q (.tup xs)
 | _=>False
theorem jG:qK X (.type "tuple") cN:=by
 refine ⟨_,rT,fun xs ds C H Q R ch n q k=>?_⟩
 unfold cN at q
 split at q
 ·obtain ⟨v,rfl,n1⟩:=gU n
  obtain ⟨p,ys,rfl,hy,hd⟩:=bA.mp n1
  exact ⟨p,ys,rfl,.inr ⟨ch.seqT hy,k _ _ C H q (b5.refl ch) n1⟩⟩
 ·obtain ⟨v,rfl,n1⟩:=gU n
  obtain ⟨p,ys,rfl,hy,hd⟩:=aV.mp n1
  exact ⟨p,ys,rfl,.inl ⟨ch.seq hy,fun l hl=>k _ _ (upd C l (.tup ys)) _ q (b5.new ch hl) (bA.mpr ⟨l,ys,rfl,kC.of bD,hd.mono (bL.upd (ch.free hl))⟩)⟩⟩
 ·exact q.elim
def iA:List D→(List D→Prop)→Prop:=fun ds Q=>match ds with
 | [.tup xs]=>Q xs
 | [.lst xs]=>Q xs
 | _=>False
def lW:List D→(D→Prop)→Prop:=fun ds Q=>match ds with
 | [.int i]=>Q (.int (if i<0 then -i else i))
 | _=>False
def bools:List D→Option (List Bool)
 | []=>some []
 | .bl b::r=>(bools r).map (b :: ·)
 | _::_=>none
theorem vH:∀ {ds:List D}{bs:List Bool},bools ds=some bs→ds=bs.map D.bl
 | [],bs,h=>by cases h;rfl
 | .bl b::r,bs,h=>by
  unfold bools at h
  cases e:bools r with
  | none=>rw [e] at h;cases h
  | some cs=>rw [e] at h;cases h;rw [List.map_cons,← vH e]
 | .int _::_,_,h=>by cases h
 | .non::_,_,h=>by cases h
 | .str _::_,_,h=>by cases h
 | .tup _::_,_,h=>by cases h
 | .lst _::_,_,h=>by cases h
theorem z4 (bs:List Bool):bools (bs.map D.bl)=some bs:=by
 induction bs with
 | nil=>rfl
 | cons b bs ih=>rw [List.map_cons,bools,ih];rfl
theorem p4 {α:Type} (f:α→Bool) (l:List α):bools (l.map fun x=>D.bl (f x))=some (l.map f):=by
 rw [← z4,List.map_map];rfl
def jS:List D→(D→Prop)→Prop:=fun ds Q=>match ds with
 | [.lst xs]=>match bools xs with
  | some bs=>Q (.bl (bs.all id))
  | none=>False
 | _=>False
theorem aAM (hc:X.calm=true):qK X (.builtin "all") jS:=by
 refine ⟨_,aAS hc,fun xs ds C H Q R ch n q k=>?_⟩
 unfold jS at q
 split at q
 ·split at q
  ·rename_i bs e
   obtain ⟨v,rfl,n1⟩:=gU n
   obtain ⟨p,ys,rfl,hy,hd⟩:=aV.mp n1
   rw [vH e] at hd
   rw [hd.bools] at hy
   exact ⟨p,bs,rfl,ch.seq hy,k _ _ C H q (b5.refl ch) (bH.mpr rfl)⟩
  ·exact q.elim
 ·exact q.elim
def tyD:D→String
 | .int _=>"int"
 | .bl _=>"bool"
 | .non=>"NoneType"
 | .str _=>"str"
 | .tup _=>"tuple"
 | .lst _=>"list"
theorem aAT {K:PySem.W.Frag}{C H:Hp}{v:V}{d:D} (ch:bL C H) (n:fI K C v d):xH K H v (tyD d):=by
 cases d with
 | int i=>rw [aM.mp n];rfl
 | bl i=>rw [bH.mp n];rfl
 | non=>rw [bY.mp n];rfl
 | str i=>rw [aW.mp n];rfl
 | tup ds=>obtain ⟨p,ys,rfl,hy,hd⟩:=bA.mp n;exact .inr ⟨rfl,ys,ch.seqT hy⟩
 | lst ds=>obtain ⟨p,ys,rfl,hy,hd⟩:=aV.mp n;exact .inl ⟨rfl,ys,ch.seq hy⟩
def fR (T:String) (ga:GE):GE:=fun δ Q=>ga δ fun d=>Q (.bl (qL (tyD d) T))
theorem uW {T:String}{y:Str}{p p':Pos} (hT:T="int"∨T="bool"∨T="str"∨T="list"∨T="tuple") (ha:DE X a ga) (hy:PE X (.Name y p') (tC (.ty T)))
  (hp:∀ {t:TA}{r:List V→Hp→VK→Prop},fX X (.builtin "isinstance") r→PA X [a,.Name y p'] t→PE X (.Call (.Name "isinstance" p) [a,.Name y p'] [] pos) (tCB r t))
  (hs:starEach [a,.Name y p'] X.env=(false,eval a X.env)::starEach [.Name y p'] X.env:=by rfl):DE X (.Call (.Name "isinstance" p) [a,.Name y p'] [] pos) (fR T ga):=by
 obtain ⟨t1,p1,h1⟩:=ha
 refine ⟨_,hp vU (dR p1 (dR hy g5) hs),fun C0 H0 δ σ C H Q R rp g k=>h1 C0 H0 δ σ C H _ _ rp g fun d v C1 H1 q e1 n1=>?_⟩
 exact ⟨v,T,tyD d,rfl,hT,aAT e1.ch n1,k _ _ C1 H1 q e1 (bH.mpr rfl)⟩
end
def zK (K:PySem.W.Frag) (J:It) (its:List D) (C1:Hp):Prop:=∀ C2 H2,bL C1 C2→bL C2 H2→∀ i:Nat,
 (∀ d,its[i]? = some d→J.go i H2∧∀ x H3,J.yld i H2 x H3→∃ C3,b5 C2 H2 C3 H3∧fI K C3 x d)∧(its.length≤i→J.stop i H2)
def DI (X:Cx) (tg iter:Expr) (g:GF):Prop:=∃ wi,PI X tg iter wi∧∀ C0 H0 δ σ C H (Q:List D→Prop) (R:It→Hp→Prop),d0 X.K C0 H0 δ σ C H→g δ Q →
 (∀ its J C1 H1,Q its→b5 C H C1 H1→zK X.K J its C1→R J H1)→wi σ H R
section
variable {X:Cx}{a b c e tg iter:Expr}{es:List Expr}{pos:Pos}{ga gb gc gd:GE}{gf:GF}{ta tb:GT}
def nY (ga:GE):GF:=fun δ Q=>ga δ fun d=>match d with
 | .tup ds=>Q ds
 | _=>False
def qY (ga:GE):GF:=fun δ Q=>ga δ fun d=>match d with
 | .lst ds=>Q ds
 | _=>False
theorem aBq {K:PySem.W.Frag}{C1:Hp}{p:Addr}{xs:List V}{ds:List D} (hx:kC K C1 p xs) (hd:aT K C1 xs ds) (inj:∀ H ys,bL C1 H→kC K H p ys→True):zK K ⟨fun i H=>∃ xs x,kC K H p xs∧xs[i]? = some x,fun i H x H'=>H'=H∧∀ xs,kC K H p xs→xs[i]? = some x,fun i H=>∃ xs,kC K H p xs∧xs.length≤i⟩ ds C1:=by
 intro C2 H2 c1 c2 i
 have hx2:=c2.seqT (c1.seqT hx)
 refine ⟨fun d e=>?_,fun hl=>⟨xs,hx2,by rw [hd.length];exact hl⟩⟩
 obtain ⟨v,ev,nv⟩:=hd.get e
 refine ⟨⟨xs,v,hx2,ev⟩,fun x H3 y=>?_⟩
 obtain ⟨rfl,y⟩:=y
 have:=y xs hx2
 rw [ev] at this
 cases this
 exact ⟨C2,b5.refl c2,nv.mono c1⟩
theorem aBu {K:PySem.W.Frag}{C1:Hp}{p:Addr}{xs:List V}{ds:List D} (hx:jH K C1 p xs) (hd:aT K C1 xs ds):zK K (Itl K p) ds C1:=by
 intro C2 H2 c1 c2 i
 have hx2:=c2.seq (c1.seq hx)
 refine ⟨fun d e=>?_,fun hl=>⟨xs,hx2,by rw [hd.length];exact hl⟩⟩
 obtain ⟨v,ev,nv⟩:=hd.get e
 refine ⟨⟨xs,v,hx2,ev⟩,fun x H3 y=>?_⟩
 obtain ⟨rfl,y⟩:=y
 have:=y xs hx2
 rw [ev] at this
 cases this
 exact ⟨C2,b5.refl c2,nv.mono c1⟩
theorem iW (ha:DE X a ga):DI X tg a (nY ga):=by
 obtain ⟨t,p,h⟩:=ha
 refine ⟨_,aDN p,fun C0 H0 δ σ C H Q R rp g k=>h C0 H0 δ σ C H _ _ rp g fun d v C1 H1 q e1 n1=>?_⟩
 cases d with
 | tup ds=>
  obtain ⟨p,xs,rfl,hx,hd⟩:=bA.mp n1
  exact ⟨p,rfl,⟨xs,e1.ch.seqT hx⟩,k ds _ C1 H1 q e1 (aBq hx hd fun _ _ _ _=>trivial)⟩
 | _=>exact q.elim
theorem nS (ha:DE X a ga):DI X tg a (qY ga):=by
 obtain ⟨t,p,h⟩:=ha
 refine ⟨_,aCB p,fun C0 H0 δ σ C H Q R rp g k=>h C0 H0 δ σ C H _ _ rp g fun d v C1 H1 q e1 n1=>?_⟩
 cases d with
 | lst ds=>
  obtain ⟨p,xs,rfl,hx,hd⟩:=aV.mp n1
  exact ⟨p,rfl,⟨xs,e1.ch.seq hx⟩,k ds _ C1 H1 q e1 (aBu hx hd)⟩
 | _=>exact q.elim
def bX (lo:Int) (n:Nat):List D:=(List.range n).map fun (k:Nat)=>D.int (lo+(k:Int))
theorem wM {K:PySem.W.Frag}{C1:Hp} (lo:Int) (n:Nat):zK K (Itr lo n) (bX lo n) C1:=by
 intro C2 H2 c1 c2 i
 have hl:(bX lo n).length=n:=by simp [bX]
 refine ⟨fun d e=>?_,fun h=>by rw [hl] at h;exact h⟩
 have hi:i<n:=by rw [← hl];exact (List.getElem?_eq_some_iff.mp e).1
 have ed:d = .int (lo+i):=by
  unfold bX at e
  rw [List.getElem?_map,List.getElem?_range hi] at e
  exact (Option.some.inj e).symm
 subst ed
 exact ⟨hi,fun x H3 y=>by obtain ⟨rfl,rfl⟩:=y;exact ⟨C2,b5.refl c2,aM.mpr rfl⟩⟩
def eN (ga:GE):GF:=fun δ Q=>ga δ fun d=>match d with
 | .int j=>(-(2 ^ 62)≤j∧j<2 ^ 62)∧Q (bX 0 j.toNat)
 | _=>False
theorem kS {p:Pos} (hg:Gl X "range") (hm:X.mg "range"=none) (ha:DE X a ga) (hs:starEach [a] X.env=[(false,eval a X.env)]:=by rfl):DI X tg (.Call (.Name "range" p) [a] [] pos) (eN ga):=by
 obtain ⟨t,p,h⟩:=ha
 refine ⟨_,aAe hg hm (dR p g5 hs) hs,fun C0 H0 δ σ C H Q R rp g k=>h C0 H0 δ σ C H _ _ rp g fun d v C1 H1 q e1 n1=>?_⟩
 cases d with
 | int j=>rw [aM.mp n1];exact ⟨j,rfl,q.1.1,q.1.2,k _ _ C1 H1 q.2 e1 (wM 0 _)⟩
 | _=>exact q.elim
def gS (ga gb:GE):GF:=fun δ Q=>ga δ fun d=>gb δ fun d2=>match d,d2 with
 | .int i,.int j=>(-(2 ^ 62)≤i∧i<2 ^ 62 ∧ -(2 ^ 62)≤j∧j<2 ^ 62)∧Q (bX i (j-i).toNat)
 | _,_=>False
theorem aCh {p:Pos} (hg:Gl X "range") (hm:X.mg "range"=none) (ha:DE X a ga) (hb:DE X b gb) (hs1:starEach [a,b] X.env=(false,eval a X.env)::starEach [b] X.env:=by rfl) (hs2:starEach [b] X.env=[(false,eval b X.env)]:=by rfl)
  (hp:∀ {t:TA},PA X [a,b] t→PI X tg (.Call (.Name "range" p) [a,b] [] pos) (aCI t)):DI X tg (.Call (.Name "range" p) [a,b] [] pos) (gS ga gb):=by
 obtain ⟨t1,p1,h1⟩:=ha
 obtain ⟨t2,p2,h2⟩:=hb
 refine ⟨_,hp (dR p1 (dR p2 g5 hs2) hs1),fun C0 H0 δ σ C H Q R rp g k=>h1 C0 H0 δ σ C H _ _ rp g fun d v C1 H1 q e1 n1=>h2 C0 H0 δ σ C1 H1 _ _ (rp.grow e1) q fun d2 v2 C2 H2 q2 e2 n2=>?_⟩
 cases d with
 | int i=>
  cases d2 with
  | int j=>
   rw [aM.mp n1,aM.mp n2]
   exact ⟨i,j,rfl,q2.1,k _ _ C2 H2 q2.2 (e1.trans e2) (wM i _)⟩
  | _=>exact q2.elim
 | _=>exact q2.elim
abbrev GG:=D→DS→(DS→Prop)→Prop
def DG (X:Cx) (tg:Expr) (ss:List Nat) (g:GG):Prop:=∃ t,PG X tg t∧∀ C0 H0 δ σ C H v d (Q:DS→Prop) (R:St→Hp→Prop),d0 X.K C0 H0 δ σ C H→fI X.K C v d→g d δ Q →
 (∀ δ' σ',Q δ'→d0 X.K C0 H0 δ' σ' C H→σ'.length=σ.length→(∀ j:Nat,j∉ss→σ'[j]? = σ[j]?)→R σ' H)→t v σ H R
abbrev eM (i:Nat):GG:=fun d δ Q=>Q (δ.set i (.im d))
theorem aL {i:Nat}{x:Str} (h:PG X (.Name x pos) (vW i)):DG X (.Name x pos) [i] (eM i):=
 ⟨_,h,fun C0 H0 δ σ C H v d Q R rp n g k=>k _ _ g (rp.setI n) (by simp) fun j hj=>by rw [List.getElem?_set_ne];intro z;exact hj (by simp [z])⟩
def l0 (i j:Nat):GG:=fun d δ Q=>match d with
 | .tup [a,b]=>Q ((δ.set i (.im a)).set j (.im b))
 | _=>False
def δc (fr:List (Option Nat)) (δ:DS):DS:=fr.map fun o=>match o with
 | none=>.un
 | some j=>match δ[j]? with
  | some (.im d)=>.im d
  | some (.fd m)=>.fd m
  | _=>.un
theorem d0.comp {K:PySem.W.Frag}{C0 H0 δ σ C H C1 H1} (fr:List (Option Nat)) (R:d0 K C0 H0 δ σ C H) (cc:bL C C1) (ch:bL C1 H1):d0 K C1 H1 (δc fr δ) (σc fr σ) C1 H1:=by
 have no:∀ (i:Nat) ds,(δc fr δ)[i]? ≠ some (.ow ds):=fun i ds e=>by
  unfold δc at e
  rw [List.getElem?_map] at e
  cases ef:fr[i]? with
  | none=>rw [ef] at e;cases e
  | some o=>
   rw [ef] at e
   cases o with
   | none=>cases e
   | some j=>
    simp only [Option.map_some] at e
    split at e <;> cases e
 have nod:∀ (i:Nat) m,(δc fr δ)[i]? ≠ some (.od m):=fun i ds e=>by
  unfold δc at e
  rw [List.getElem?_map] at e
  cases ef:fr[i]? with
  | none=>rw [ef] at e;cases e
  | some o=>
   rw [ef] at e
   cases o with
   | none=>cases e
   | some j=>
    simp only [Option.map_some] at e
    split at e <;> cases e
 refine ⟨by unfold σc δc;simp,b5.refl ch,fun i d e=>?_,fun i ds e=>absurd e (no i ds),fun i j ds es l _ e _=>absurd e (no i ds),fun i m e=>absurd e (nod i m),fun i m e=>?_,fun i j m n l _ e=>absurd e (nod i m)⟩
 rotate_left
 ·unfold δc at e
  unfold σc
  rw [List.getElem?_map] at e ⊢
  cases ef:fr[i]? with
  | none=>rw [ef] at e;cases e
  | some o=>
   rw [ef] at e
   cases o with
   | none=>cases e
   | some j=>
    simp only [Option.map_some] at e ⊢
    split at e
    ·cases e
    ·rename_i m' ed
     cases e
     obtain ⟨l,o,ev,nv⟩:=R.dc.fd j m ed
     refine ⟨l,o,?_,cc _ _ nv⟩
     show some ((σ[j]?).bind id)=_
     rw [ev]
     rfl
    ·cases e
 unfold δc at e
 unfold σc
 rw [List.getElem?_map] at e ⊢
 cases ef:fr[i]? with
 | none=>rw [ef] at e;cases e
 | some o=>
  rw [ef] at e
  cases o with
  | none=>cases e
  | some j=>
   simp only [Option.map_some] at e ⊢
   split at e
   ·rename_i d' ed
    cases e
    obtain ⟨v,ev,nv⟩:=R.im j d ed
    refine ⟨v,?_,nv.mono cc⟩
    show some ((σ[j]?).bind id)=_
    rw [ev]
    rfl
   ·cases e
   ·cases e
def eT (fr:List (Option Nat)) (gi:GF) (gg:GG) (ge:GE):GF:=fun δ Q=>gi δ fun its=>its.length≤sizeLine∧∃ f:D→D,(∀ d∈its,gg d (δc fr δ) fun δ2=>ge δ2 fun y=>y=f d)∧Q (its.map f)
def wF (fr:List (Option Nat)) (ss:List Nat):Bool:=ss.all fun j=>fr[j]? == some none
theorem aB7 {fr:List (Option Nat)}{ss:List Nat} (h:wF fr ss=true) {σ:St}{j:Nat} (hj:j∈ss):(σc fr σ)[j]? = some none:=by
 unfold wF at h
 rw [List.all_eq_true] at h
 have e:fr[j]? = some none:=by simpa using h j hj
 unfold σc
 rw [List.getElem?_map,e]
 rfl
theorem aBa {fr:List (Option Nat)}{ss:List Nat} (h:wF fr ss=true) {σ σ':St} (hl:σ'.length=(σc fr σ).length) (hj:∀ j:Nat,j∉ss→σ'[j]? = (σc fr σ)[j]?):Fwd σ' (σc fr σ):=by
 refine ⟨hl,fun i v e=>?_⟩
 by_cases hi:i∈ss
 ·rw [aB7 h hi] at e
  cases e
 ·rw [hj i hi];exact e
def aDe (X:Cx) (ifs:List Expr) (g:GT):Prop:=∃ t,xD X ifs t∧∀ C0 H0 δ σ C H (Q:Bool→Prop) (R:Bool→Hp→Prop),d0 X.K C0 H0 δ σ C H→g δ Q→(∀ b C1 H1,Q b→b5 C H C1 H1→R b H1)→t σ H R
end
theorem wS {K:PySem.W.Frag}{C0 H0 C H C1 H1:Hp}{δ:DS}{σ:St}{fr:List (Option Nat)}{ss:List Nat}{J:It}{its:List D}{g:TG}{tt:TT}{te:TE}{gg:GG}{gt:GT}{ge:GE}{p:D→Bool}{f:D→D}{A:Addr}{Q:List D→Prop}{R:VK}
  (hg:∀ C0 H0 δ σ C H v d (Q:DS→Prop) (R:St→Hp→Prop),d0 K C0 H0 δ σ C H→fI K C v d→gg d δ Q→(∀ δ' σ',Q δ'→d0 K C0 H0 δ' σ' C H→σ'.length=σ.length→(∀ j:Nat,j∉ss→σ'[j]? = σ[j]?)→R σ' H)→g v σ H R)
  (ht:∀ C0 H0 δ σ C H (Q:Bool→Prop) (R:Bool→Hp→Prop),d0 K C0 H0 δ σ C H→gt δ Q→(∀ b C1 H1,Q b→b5 C H C1 H1→R b H1)→tt σ H R)
  (he:∀ C0 H0 δ σ C H (Q:D→Prop) (R:VK),d0 K C0 H0 δ σ C H→ge δ Q→(∀ d v C1 H1,Q d→b5 C H C1 H1→fI K C1 v d→R v H1)→te σ H R)
  (fo:wF fr ss=true) (rp:d0 K C0 H0 δ σ C H) (e1:b5 C H C1 H1) (wk:zK K J its C1) (hz:its.length≤sizeLine)
  (hf:∀ d∈its,gg d (δc fr δ) fun δ2=>gt δ2 fun c=>c=p d∧(c=true→ge δ2 fun y=>y=f d)) (q:Q ((its.filter p).map f))
  (k:∀ ds p xs C1 H1,Q ds→b5 C H C1 H1→C1 p=none→H p=none→H1 p=some (.lst xs)→aT K C1 xs ds→R (.ref p) H1) (hA:H1 A=none):pX J (σc fr σ) g tt te A H1 R:=by
 have hflt:∀ i:Nat,(((its.take i).filter p).map f).length≤i:=fun i=>by
  rw [List.length_map]
  exact Nat.le_trans (List.length_filter_le _ _) (by rw [List.length_take];omega)
 refine ⟨fun i m ys H2=>m=its.length-i∧i≤its.length∧∃ C2,b5 C1 H1 C2 H2∧H2 A=some (.lst ys)∧C2 A=none∧aT K C2 ys (((its.take i).filter p).map f),⟨_,rfl,Nat.zero_le _,C1,b5.newO e1.ch hA,bD,e1.ch.free hA,by simpa using aT.nil⟩,?_⟩
 rintro i m ys H2 ⟨rfl,hi,C2,ex,hl,hc,hd⟩
 have W:=wk C2 H2 ex.cc ex.ch i
 by_cases hlt:i<its.length
 ·have ed:its[i]? = some its[i]:=by simp [hlt]
  obtain ⟨go,yl⟩:=W.1 _ ed
  refine .inr ⟨go,fun x H3 y=>?_⟩
  obtain ⟨C3,e3,n3⟩:=yl x H3 y
  have rc:d0 K C3 H3 (δc fr δ) (σc fr σ) C3 H3:=rp.comp fr ((e1.cc.trans ex.cc).trans e3.cc) e3.ch
  refine hg C3 H3 _ _ C3 H3 x its[i] _ _ rc n3 (hf its[i] (List.getElem_mem hlt)) fun δ' σ' q' rp' hl' hj'=>⟨aBa fo hl' hj',?_⟩
  refine ht C3 H3 δ' σ' C3 H3 _ _ rp' q' fun b C4 H4 q4 e4=>?_
  have hA4:H4 A=some (.lst ys):=e4.hh _ _ (e3.hh _ _ hl)
  have hc4:C4 A=none:=e4.ow A (e3.ow A hc (by rw [hl];simp)) (by rw [e3.hh _ _ hl];simp)
  have ed2:=((hd.mono e3.cc).mono e4.cc)
  have tk:its.take (i+1)=its.take i++[its[i]]:=by rw [List.take_succ,ed];rfl
  cases b with
  | false=>
   rw [if_neg (by simp)]
   refine ⟨its.length-(i+1),by omega,rfl,hlt,C4,ex.trans (e3.trans e4),hA4,hc4,?_⟩
   rw [tk,List.filter_append,List.filter_cons_of_neg (by rw [← q4.1];simp)]
   simpa using ed2
  | true=>
   rw [if_pos rfl]
   refine he C3 H3 δ' σ' C4 H4 _ _ (rp'.grow e4) (q4.2 rfl) fun d v C5 H5 q5 e5 n5=>?_
   have hA5:H5 A=some (.lst ys):=e5.hh _ _ hA4
   have hc5:C5 A=none:=e5.ow A hc4 (by rw [hA4];simp)
   have hyl:ys.length<sizeLine:=by
    rw [hd.length]
    exact Nat.lt_of_le_of_lt (hflt i) (by omega)
   refine ⟨hA5,hyl,its.length-(i+1),by omega,rfl,hlt,C5,?_,bD,hc5,?_⟩
   ·have e:=ex.trans (e3.trans (e4.trans e5))
    refine ⟨fun z u ez=>?_,e.cc,fun z u ez=>?_,e.ow⟩
    ·rw [a8 (b8 ez hA)];exact e.hh z u ez
    ·rw [a8 (b8 ez hc5)];exact e.ch z u ez
   ·rw [tk,List.filter_append,List.filter_cons_of_pos (by rw [← q4.1]),List.map_append,List.filter_nil,List.map_cons,List.map_nil]
    refine (ed2.mono e5.cc).append (.cons ?_ .nil)
    rw [← q5];exact n5
 ·have e:i=its.length:=by omega
  refine .inl ⟨W.2 (by omega),?_⟩
  rw [e,List.take_length] at hd
  exact k _ A ys C2 H2 q (e1.trans ex) hc (e1.hh.free hA) hl hd
section
variable {X:Cx}{a b c e tg iter elt:Expr}{es:List Expr}{pos:Pos}{ge:GE}{gi:GF}{gt:GT}{gg:GG}{scope:Scope}{Nc:List Str}{fr:List (Option Nat)}{ss:List Nat}
def tDE (K:PySem.W.Frag) (g:GE):TE:=fun σ H R=>∃ C0 H0 δ C Q,d0 K C0 H0 δ σ C H∧g δ Q∧∀ d v C1 H1,Q d→b5 C H C1 H1→fI K C1 v d→R v H1
def tDT (K:PySem.W.Frag) (g:GT):TT:=fun σ H R=>∃ C0 H0 δ C Q,d0 K C0 H0 δ σ C H∧g δ Q∧∀ b C1 H1,Q b→b5 C H C1 H1→R b H1
def tDG (K:PySem.W.Frag) (ss:List Nat) (g:GG):TG:=fun v σ H R=>∃ C0 H0 δ C d Q,d0 K C0 H0 δ σ C H∧fI K C v d∧g d δ Q∧∀ δ' σ',Q δ'→d0 K C0 H0 δ' σ' C H→σ'.length=σ.length→(∀ j:Nat,j∉ss→σ'[j]? = σ[j]?)→R σ' H
theorem DE.can (h:DE X e ge):PE X e (tDE X.K ge):=by
 obtain ⟨t,p,h⟩:=h
 intro pins s σ H Q I q
 obtain ⟨C0,H0,δ,C,Q',rp,g,k⟩:=q
 exact p pins s σ H Q I (h C0 H0 δ σ C H Q' Q rp g k)
theorem DG.can (h:DG X tg ss gg):PG X tg (tDG X.K ss gg):=by
 obtain ⟨t,p,h⟩:=h
 intro pins s σ H v u Q I r q
 obtain ⟨C0,H0,δ,C,d,Q',rp,n,g,k⟩:=q
 exact p pins s σ H v u Q I r (h C0 H0 δ σ C H v d Q' Q rp n g k)
theorem aDe.can {ifs:List Expr} (h:aDe X ifs gt):xD X ifs (tDT X.K gt):=by
 obtain ⟨t,p,h⟩:=h
 intro pins s σ H Q I q
 obtain ⟨C0,H0,δ,C,Q',rp,g,k⟩:=q
 exact p pins s σ H Q I (h C0 H0 δ σ C H Q' Q rp g k)
abbrev aBs:GT:=fun _ Q=>Q true
theorem vK:aDe X [] aBs:=⟨_,aA7,fun C0 H0 δ σ C H Q R rp g k=>k true C H g (b5.refl rp.ch)⟩
end
structure DEnds where
 nx:DS→Prop
 rt:D→Prop
 bk:DS→Prop:=fun _=>False
 ct:DS→Prop:=fun _=>False
abbrev GS:=DEnds→DS→Prop
structure Adm (K:PySem.W.Frag) (C0 H0:Hp) (E:qF) (De:DEnds):Prop where
 nx:∀ δ σ C H,d0 K C0 H0 δ σ C H→De.nx δ→E.nx σ H
 rt:∀ d v C H,b5 C0 H0 C H→fI K C v d→De.rt d→E.rt v H
 bk:∀ δ σ C H,d0 K C0 H0 δ σ C H→De.bk δ→E.bk σ H
 ct:∀ δ σ C H,d0 K C0 H0 δ σ C H→De.ct δ→E.ct σ H
def DSt (X:Cx) (st:Stmt) (g:GS):Prop:=∃ t,PS X st t∧∀ C0 H0 δ σ C H De E,d0 X.K C0 H0 δ σ C H→g De δ→Adm X.K C0 H0 E De→t E σ H
def kW (X:Cx) (sts:List Stmt) (g:GS):Prop:=∃ t,uG X sts t∧∀ C0 H0 δ σ C H De E,d0 X.K C0 H0 δ σ C H→g De δ→Adm X.K C0 H0 E De→t E σ H
section
variable {X:Cx}{a b c e tg iter elt:Expr}{st:Stmt}{sts s2:List Stmt}{pos:Pos}{ge:GE}{gi gf:GF}{gt:GT}{gg:GG}{g1 g2:GS}{scope:Scope}{Nc:List Str}{fr:List (Option Nat)}{ss:List Nat}
abbrev dH:GS:=fun De δ=>De.nx δ
def bU (g1 g2:GS):GS:=fun De δ=>g1 { De with nx:=g2 De } δ
theorem gK:kW X [] dH:=⟨_,yV,fun C0 H0 δ σ C H De E rp g k=>k.nx δ σ C H rp g⟩
theorem aO (h1:DSt X st g1) (h2:kW X sts g2):kW X (st::sts) (bU g1 g2):=by
 obtain ⟨t1,p1,h1⟩:=h1
 obtain ⟨t2,p2,h2⟩:=h2
 refine ⟨_,vO p1 p2,fun C0 H0 δ σ C H De E rp g k=>h1 C0 H0 δ σ C H { De with nx:=g2 De } { E with nx:=t2 E } rp g ⟨fun δ' σ' C' H' rp' q=>?_,k.rt,k.bk,k.ct⟩⟩
 exact h2 C0 H0 δ' σ' C' H' De E rp' q k
theorem aQ (h1:DSt X st g1):kW X [st] g1:=by
 obtain ⟨t1,p1,h1⟩:=h1
 exact ⟨_,tJ p1,h1⟩
def iJ (i:Nat) (g:GS):GS:=fun De δ=>match δ[i]? with
 | some (.ow ds)=>g De (δ.set i (.im (.lst ds)))
 | _=>False
theorem kY (i:Nat) (h:kW X sts g1):kW X sts (iJ i g1):=by
 obtain ⟨t,p,h⟩:=h
 refine ⟨t,p,fun C0 H0 δ σ C H De E rp g k=>?_⟩
 unfold iJ at g
 split at g
 ·rename_i ds e
  obtain ⟨C1,rp'⟩:=rp.freeze' e
  exact h C0 H0 _ σ C1 H De E rp' g k
 ·exact g.elim
def dA (ge:GE):GS:=fun De δ=>ge δ De.rt
theorem b7 (he:DE X e ge):DSt X (.Return (some e) pos) (dA ge):=by
 obtain ⟨t,p,h⟩:=he
 exact ⟨_,aBH p,fun C0 H0 δ σ C H De E rp g k=>h C0 H0 δ σ C H _ _ rp g fun d v C1 H1 q e1 n1=>k.rt d v C1 H1 (rp.ext.trans e1) n1 q⟩
def hU (gt:GT) (g1 g2:GS):GS:=fun De δ=>gt δ fun c=>if c=true then g1 De δ else g2 De δ
theorem nZ (hc:DT X c gt) (h1:kW X sts g1) (h2:kW X s2 g2):DSt X (.If c sts s2 pos) (hU gt g1 g2):=by
 obtain ⟨t0,p0,h0⟩:=hc
 obtain ⟨t1,p1,h1⟩:=h1
 obtain ⟨t2,p2,h2⟩:=h2
 refine ⟨_,aAr p0 p1 p2,fun C0 H0 δ σ C H De E rp g k=>h0 C0 H0 δ σ C H _ _ rp g fun c C1 H1 q e1=>?_⟩
 cases c with
 | true=>exact tU (h1 C0 H0 δ σ C1 H1 De E (rp.grow e1) (by simpa using q) k)
 | false=>exact xW (h2 C0 H0 δ σ C1 H1 De E (rp.grow e1) (by simpa using q) k)
def c0 (ge:GE) (gg:GG):GS:=fun De δ=>ge δ fun d=>gg d δ De.nx
theorem cA (he:DE X e ge) (hg:DG X tg ss gg) (hp:∀ {te:TE}{g:TG},PE X e te→PG X tg g→PS X (.Assign [tg] e pos) (zZ te g)):DSt X (.Assign [tg] e pos) (c0 ge gg):=by
 obtain ⟨t,p,h⟩:=he
 obtain ⟨t2,p2,h2⟩:=hg
 refine ⟨_,hp p p2,fun C0 H0 δ σ C H De E rp g k=>h C0 H0 δ σ C H _ _ rp g fun d v C1 H1 q e1 n1=>?_⟩
 exact h2 C0 H0 δ σ C1 H1 v d _ _ (rp.grow e1) n1 q fun δ' σ' q' rp' _ _=>k.nx δ' σ' C1 H1 rp' q'
def dY (i:Nat) (gf:GF):GS:=fun De δ=>gf δ fun ds=>De.nx (δ.set i (.ow ds))
theorem o7 {i:Nat}{x:Str}{pos':Pos} (he:DF X e gf) (hp:∀ {te:TE},PE X e te→PS X (.Assign [.Name x pos'] e pos) (zZ te (vW i))):DSt X (.Assign [.Name x pos'] e pos) (dY i gf):=by
 obtain ⟨t,p,h⟩:=he
 refine ⟨_,hp p,fun C0 H0 δ σ C H De E rp g k=>h C0 H0 δ σ C H _ _ rp g fun ds p xs C1 H1 q e1 hc hn hl hd=>?_⟩
 have rp1:=rp.grow e1
 refine k.nx _ _ C1 H1 (rp1.setO (rp.ext.hh.free hn) hc (fun j es hj ho z=>?_) hl hd) q
 obtain ⟨l,ys,a,_,_,d,_⟩:=rp.ow j es ho
 rw [z] at a
 cases a
 rw [hn] at d
 cases d
def jP (i:Nat) (ge:GE):GS:=fun De δ=>match δ[i]? with
 | some (.ow ds)=>ge δ fun d=>ds.length<sizeLine∧De.nx (δ.set i (.ow (ds++[d])))
 | _=>False
theorem aBj {i:Nat}{o:Expr}{nm:Str}{p2 p3:Pos} (he:DE X e ge) (hp:∀ {te:TE},PE X e te→PS X (.Expr (.Call (.Attribute o nm p2) [e] [] p3) pos) (aAK (tBM X.K "list" yH (xG i) (aBm te aC2)))):DSt X (.Expr (.Call (.Attribute o nm p2) [e] [] p3) pos) (jP i ge):=by
 obtain ⟨t,p,h⟩:=he
 refine ⟨_,hp p,fun C0 H0 δ σ C H De E rp g k=>?_⟩
 unfold jP at g
 split at g
 ·rename_i ds eo
  obtain ⟨l,xs,a,b,c,d,f⟩:=rp.ow i ds eo
  refine ⟨.ref l,a,.inl ⟨rfl,xs,jH.of d⟩,h C0 H0 δ σ C H _ _ rp g fun dv v C1 H1 q e1 n1=>?_⟩
  have d1:=e1.hh _ _ d
  refine ⟨l,xs,v,rfl,rfl,d1,by rw [f.length];exact q.1,k.nx _ σ C1 _ ((rp.grow e1).change eo a ((f.mono e1.cc).append (.cons n1 .nil))) q.2⟩
 ·exact g.elim
def kD (i:Nat) (gf:GF):GS:=fun De δ=>match δ[i]? with
 | some (.ow ds)=>gf δ fun es=>ds.length+es.length≤sizeLine∧De.nx (δ.set i (.ow (ds++es)))
 | _=>False
theorem aDH {i:Nat}{o:Expr}{nm:Str}{p2 p3:Pos} (he:DF X e gf) (hp:∀ {te:TE},PE X e te→PS X (.Expr (.Call (.Attribute o nm p2) [e] [] p3) pos) (aAK (tBM X.K "list" y8 (xG i) (aBm te aC2)))):DSt X (.Expr (.Call (.Attribute o nm p2) [e] [] p3) pos) (kD i gf):=by
 obtain ⟨t,p,h⟩:=he
 refine ⟨_,hp p,fun C0 H0 δ σ C H De E rp g k=>?_⟩
 unfold kD at g
 split at g
 ·rename_i ds eo
  obtain ⟨l,xs,a,b,c,d,f⟩:=rp.ow i ds eo
  refine ⟨.ref l,a,.inl ⟨rfl,xs,jH.of d⟩,h C0 H0 δ σ C H _ _ rp g fun es p ys C1 H1 q e1 hc hn hl hd=>?_⟩
  have d1:=e1.hh _ _ d
  refine ⟨l,p,xs,ys,rfl,rfl,d1,hl,by rw [f.length,hd.length];exact q.1,k.nx _ σ C1 _ ((rp.grow e1).change eo a ((f.mono e1.cc).append hd)) q.2⟩
 ·exact g.elim
theorem jT (ok:iZ X.env.scope scope X.N Nc fr=true) (fo:wF fr ss=true) (hc:X.calm=true) (hi:DI X tg iter gi) (hg:∀ Cc pins fp s3 H3,DG (m8 X scope Nc Cc pins fp s3 H3) tg ss gg)
  (he:∀ Cc pins fp s3 H3,DE (m8 X scope Nc Cc pins fp s3 H3) elt ge) (mg:∀ d δ (P P':DS→Prop),(∀ l,P l→P' l)→gg d δ P→gg d δ P') (hs:∀ x,foldedSetIterable iter X.env x=pure x:=by intro _;rfl) :
  DF X (.ListComp elt [⟨tg,iter,[],0⟩] scope pos) (eT fr gi gg ge):=by
 obtain ⟨wi,pi,h⟩:=hi
 refine ⟨_,aCm (g:=tDG X.K ss gg) (tt:=tDT X.K aBs) (te:=tDE X.K ge) ok hc pi (fun a b c d e=>(hg a b c d e).can) (fun a b c d e=>(vK (X:=m8 X scope Nc a b c d e)).can) (fun a b c d e=>(he a b c d e).can) hs,fun C0 H0 δ σ C H Q R rp g k=>h C0 H0 δ σ C H _ _ rp g fun its J C1 H1 q e1 wk A hA=>?_⟩
 obtain ⟨hz,f,hf,q⟩:=q
 refine wS (gg:=gg) (gt:=aBs) (ge:=ge) (ss:=ss) (p:=fun _=>true) (f:=f) (Q:=Q) (fun C0 H0 δ σ C H v d Q R rp n g k=>⟨C0,H0,δ,C,d,Q,rp,n,g,k⟩) (fun C0 H0 δ σ C H Q R rp g k=>⟨C0,H0,δ,C,Q,rp,g,k⟩) (fun C0 H0 δ σ C H Q R rp g k=>⟨C0,H0,δ,C,Q,rp,g,k⟩) fo rp e1 wk hz
  (fun d hd=>mg d _ _ _ (fun δ2 q2=>⟨rfl,fun _=>q2⟩) (hf d hd)) (by rw [List.filter_eq_self.mpr (fun _ _=>rfl)];exact q) k hA
theorem nP {i:Nat}{x:Str}{pos' pos'':Pos} (ok:iZ X.env.scope scope X.N Nc fr=true) (fo:wF fr ss=true) (hc:X.calm=true) (hN:X.N.Nodup) (hi:X.N[i]? = some x) (hx:Loc X.env.scope x) (hit:DI X tg iter gi) (hg:∀ Cc pins fp s3 H3,DG (m8 X scope Nc Cc pins fp s3 H3) tg ss gg)
  (he:∀ Cc pins fp s3 H3,DE (m8 X scope Nc Cc pins fp s3 H3) elt ge) (mg:∀ d δ (P P':DS→Prop),(∀ l,P l→P' l)→gg d δ P→gg d δ P') (hsw:swapsWith (.ListComp elt [⟨tg,iter,[],0⟩] scope pos) (some (.Name x pos')) pos''.line X.env=pure true)
  (hs:∀ x,foldedSetIterable iter X.env x=pure x:=by intro _;rfl) (hf:X.fn x=true∨X.env.scope.names.lookup x=some .local:=by first | exact .inl rfl | exact .inr rfl | assumption) :
  DSt X (.Assign [.Name x pos'] (.ListComp elt [⟨tg,iter,[],0⟩] scope pos) pos'') (dY i (eT fr gi gg ge)):=by
 obtain ⟨wi,pi,h⟩:=hit
 refine ⟨_,aBV (g:=tDG X.K ss gg) (tt:=tDT X.K aBs) (te:=tDE X.K ge) ok hc hN hi hx pi (fun a b c d e=>(hg a b c d e).can) (fun a b c d e=>(vK (X:=m8 X scope Nc a b c d e)).can) (fun a b c d e=>(he a b c d e).can) hsw hs hf,fun C0 H0 δ σ C H De E rp g k=>h C0 H0 δ σ C H _ _ rp g fun its J C1 H1 q e1 wk A hA=>?_⟩
 obtain ⟨hz,f,hf,q⟩:=q
 refine wS (gg:=gg) (gt:=aBs) (ge:=ge) (ss:=ss) (p:=fun _=>true) (f:=f) (Q:=fun ds=>De.nx (δ.set i (.ow ds))) (fun C0 H0 δ σ C H v d Q R rp n g k=>⟨C0,H0,δ,C,d,Q,rp,n,g,k⟩) (fun C0 H0 δ σ C H Q R rp g k=>⟨C0,H0,δ,C,Q,rp,g,k⟩) (fun C0 H0 δ σ C H Q R rp g k=>⟨C0,H0,δ,C,Q,rp,g,k⟩) fo rp e1 wk hz
  (fun d hd=>mg d _ _ _ (fun δ2 q2=>⟨rfl,fun _=>q2⟩) (hf d hd)) (by rw [List.filter_eq_self.mpr (fun _ _=>rfl)];exact q) (fun ds p xs C1 H1 q e1 hc hn hl hd=>?_) hA
 have rp1:=rp.grow e1
 refine k.nx _ _ C1 H1 (rp1.setO (rp.ext.hh.free hn) hc (fun j es hj ho z=>?_) hl hd) q
 obtain ⟨l,ys,a,_,_,d,_⟩:=rp.ow j es ho
 rw [z] at a
 cases a
 rw [hn] at d
 cases d
theorem gO {i:Nat}:∀ d δ (P P':DS→Prop),(∀ l,P l→P' l)→eM i d δ P→eM i d δ P':=fun _ _ _ _ h q=>h _ q
theorem d0.rebase {K:PySem.W.Frag}{C0 H0 δ σ C H} (R:d0 K C0 H0 δ σ C H):d0 K C H0 δ σ C H:=⟨R.len,⟨R.ext.hh,bL.refl _,R.ext.ch,fun _ e _=>e⟩,R.im,R.ow,R.ap,R.dc⟩
theorem b5.unbase {C0 H0 C1 H1 C H:Hp} (e:b5 C0 H0 C1 H1) (x:b5 C1 H0 C H):b5 C0 H0 C H:=⟨x.hh,e.cc.trans x.cc,x.ch,fun b a n=>x.ow b (e.ow b a n) n⟩
theorem d0.unbase {K:PySem.W.Frag}{C0 H0 C1 H1 δ σ C H} (e:b5 C0 H0 C1 H1) (R:d0 K C1 H0 δ σ C H):d0 K C0 H0 δ σ C H:=⟨R.len,e.unbase R.ext,R.im,R.ow,R.ap,R.dc⟩
def jO (gi:GF) (gg:GG) (gb:GS):GS:=fun De δ=>gi δ fun its=>∃ P:Nat→DS→Prop,P 0 δ∧(∀ (i:Nat) d δ',its[i]? = some d→P i δ'→gg d δ' fun δ2=>gb { De with nx:=P (i+1),ct:=P (i+1),bk:=De.nx } δ2)∧∀ δ',P its.length δ'→De.nx δ'
theorem hV {gb:GS} (hc:X.calm=true) (hp:PassesOwn (model X.prog X.w) X.A X.env X.xe) (hi:DI X tg iter gi) (hg:DG X tg ss gg) (hb:kW X sts gb) (hs:∀ x,foldedSetIterable iter X.env x=pure x:=by intro _;rfl):DSt X (.For tg iter sts [] pos) (jO gi gg gb):=by
 obtain ⟨wi,pi,h⟩:=hi
 obtain ⟨t2,p2,h2⟩:=hg
 obtain ⟨t3,p3,h3⟩:=hb
 refine ⟨_,aDi hp hc pi p2 p3 hs,fun C0 H0 δ σ C H De E rp g k=>h C0 H0 δ σ C H _ _ rp g fun its J C1 H1 q e1 wk=>?_⟩
 obtain ⟨P,P0,Pt,Pe⟩:=q
 have rp1:=rp.grow e1
 refine ⟨fun i m σ' H'=>m=its.length-i∧i≤its.length∧∃ δ' C',d0 X.K C1 H0 δ' σ' C' H'∧P i δ',⟨_,rfl,Nat.zero_le _,δ,C1,rp1.rebase,P0⟩,?_⟩
 rintro i m σ' H' ⟨rfl,hi,δ',C',rp',p⟩
 have W:=wk C' H' rp'.ext.cc rp'.ch i
 by_cases hlt:i<its.length
 ·have ed:its[i]? = some its[i]:=by simp [hlt]
  obtain ⟨go,yl⟩:=W.1 _ ed
  refine .inr ⟨go,fun σ2 H2=>∃ δ2 C2,d0 X.K C1 H0 δ2 σ2 C2 H2∧P (i+1) δ2,fun σ2 H2 ⟨δ2,C2,a,b⟩=>⟨its.length-(i+1),by omega,rfl,hlt,δ2,C2,a,b⟩,fun x H3 y=>?_⟩
  obtain ⟨C3,e3,n3⟩:=yl x H3 y
  refine h2 C1 H0 δ' σ' C3 H3 x its[i] _ _ (rp'.grow e3) n3 (Pt i _ δ' ed p) fun δ4 σ4 q4 rp4 _ _=>?_
  refine h3 C1 H0 δ4 σ4 C3 H3 _ _ rp4 q4 ⟨fun δ5 σ5 C5 H5 a b=>⟨δ5,C5,a,b⟩,fun d v C5 H5 a b c=>k.rt d v C5 H5 (rp1.ext.unbase a) b c,fun δ5 σ5 C5 H5 a b=>k.nx δ5 σ5 C5 H5 (a.unbase rp1.ext) b,fun δ5 σ5 C5 H5 a b=>⟨δ5,C5,a,b⟩⟩
 ·have e:i=its.length:=by omega
  subst e
  exact .inl ⟨W.2 (Nat.le_refl _),k.nx δ' σ' C' H' (rp'.unbase rp1.ext) (Pe δ' p)⟩
end
def aZ (N:List Str) (ds:List D):DS:=ds.map Sl.im++List.replicate (N.length-ds.length) .un
theorem kU {K:PySem.W.Frag}{C H:Hp}{N:List Str}{vs:List V}{ds:List D} (ch:bL C H) (h:aT K C vs ds):d0 K C H (aZ N ds) (g8 N vs) C H:=by
 have no:∀ (i:Nat) es,(aZ N ds)[i]? ≠ some (.ow es):=fun i es e=>by
  have:=List.mem_of_getElem? e
  unfold aZ at this
  rcases List.mem_append.mp this with z | z
  ·obtain ⟨d,_,q⟩:=List.mem_map.mp z
   cases q
  ·have:=List.eq_of_mem_replicate z
   cases this
 refine ⟨?_,b5.refl ch,fun i d e=>?_,fun i es e=>absurd e (no i es),fun i j es fs l _ e _=>absurd e (no i es),qG.none fun i x e=>?_⟩
 rotate_right
 ·have:=List.mem_of_getElem? e
  unfold aZ at this
  rcases List.mem_append.mp this with z | z
  ·obtain ⟨d,_,q⟩:=List.mem_map.mp z
   rw [← q]
   rfl
  ·rw [List.eq_of_mem_replicate z]
   rfl
 ·unfold g8 aZ
  simp [h.length]
 ·unfold aZ at e
  unfold g8
  by_cases hi:i<ds.length
  ·rw [List.getElem?_append_left (by simpa using hi),List.getElem?_map] at e
   cases e2:ds[i]? with
   | none=>rw [e2] at e;cases e
   | some d'=>
    rw [e2] at e
    cases e
    obtain ⟨v,ev,nv⟩:=h.get e2
    refine ⟨v,?_,nv⟩
    rw [List.getElem?_append_left (by rw [List.length_map,h.length];exact hi),List.getElem?_map,ev]
    rfl
  ·rw [List.getElem?_append_right (by simpa using hi),List.getElem?_replicate] at e
   split at e <;> cases e
theorem w9 {P:Program}{w:World}{K:PySem.W.Frag}{mg:Str→Option Value}{base:Heap}{x qual:Str}{st:Stmt}{f:Addr}{fd:FuncData}{N ps:List Str}{k:Nat}{F:List D→Option D}{g:GS} (Fn:zM K x qual st f fd) (S:aX N ps (aB st))
  (hl:∀ ds d,F ds=some d→ds.length=ps.length)
  (hb:∀ (cdv:Value) (A:Around) (outer:List Env) (s:Shared) (H:Hp) (E:XK),cM k (A.deeper (envOfC qual (aB st) s.heap.objs.size f cdv))→kW (fV lJ P w K mg base N qual (aB st) f cdv A outer s H E).nox (aS st) g)
  (hv:∀ ds d,F ds=some d→g { nx:=fun _=>d = .non,rt:=fun r=>r=d } (aZ N ds)) (hm:mg x=some (.ref f)) (bi:j3 K fd ps []):kB P w K mg base (k+1) x F:=by
 refine ⟨f,fd,ps,Fn.ok S (fun vs H Q E h=>?_) (fun cdv A outer s H vs Q E hr h=>?_),hm,Fn.kp,bi⟩
 ·obtain ⟨C,ds,d,_,n,e,_⟩:=h
  rw [n.length]
  exact hl ds d e
 ·obtain ⟨C,ds,d,ch,n,e,q⟩:=h
  obtain ⟨t,p,h⟩:=hb cdv A outer s H E hr
  refine ⟨t,p,h C H (aZ N ds) (g8 N vs) C H _ _ (kU ch n) (hv ds d e) ⟨fun δ σ C' H' rp z=>?_,fun r v C' H' ex nv z=>?_,fun _ _ _ _ _ z=>z.elim,fun _ _ _ _ _ z=>z.elim⟩⟩
  ·subst z
   exact q _ C' H' rp.ext (bY.mpr rfl)
  ·subst z
   exact q v C' H' ex nv
section
variable {X:Cx}
def aEb (K:PySem.W.Frag):R2:=fun x y H Q=>∃ l b xs zs,x = .ref l∧y = .ref b∧jH K H l xs∧jH K H b zs∧xs.length+zs.length≤sizeLine∧∀ p,H p=none→Q (.ref p) (upd H p (.lst (xs++zs)))
theorem aCg:mM X (binaryOp .Add) (aEb X.K):=by
 intro pins s σ H x y v u Q I rx ry h
 obtain ⟨l,b,xs,zs,rfl,rfl,hH,hB,hz,q⟩:=h
 cases rx
 cases ry
 obtain ⟨its,r,pl,z⟩:=I.list hH
 obtain ⟨its2,r2,pl2,z2⟩:=I.list hB
 have hl:=r.length
 have hl2:=r2.length
 obtain ⟨⟨cls,dd,data,sl⟩,ho,hc,n,hd⟩:=pl.isList
 obtain ⟨⟨cls2,dd2,data2,sl2⟩,ho2,hc2,n2,hd2⟩:=pl2.isList
 simp only at hc hd hc2 hd2
 subst hc hd hc2 hd2
 refine concat_meets ⟨_,ho,rfl⟩ ⟨_,ho2,rfl⟩ noFill_list_add seq_list_add PySem.F.slot_list_add PySem.F.entry_list_add (PySem.F.args_list_add_2 _ _) (list_addW l b its.toArray its2.toArray n n2 dd dd2 sl sl2 (by rw [List.size_toArray,List.size_toArray];omega)) ⟨ho,ho2,?_⟩
 have ea:its.toArray++its2.toArray=(its++its2).toArray:=by simp
 rw [ea]
 exact ⟨.ref _,_,I.lnew (t':=s.toks) (r.append r2) (by rw [List.length_append];omega),rfl,q _ I.fresh⟩
variable {a b c e:Expr}{es:List Expr}{pos:Pos}{ga gb:GE}
def fO (ga gb:GE):GF:=fun δ Q=>ga δ fun x=>gb δ fun y=>match x,y with
 | .lst xs,.lst ys=>xs.length+ys.length≤sizeLine∧Q (xs++ys)
 | _,_=>False
theorem x0 (ha:DE X a ga) (hb:DE X b gb):DF X (.BinOp a .Add b pos) (fO ga gb):=by
 obtain ⟨t1,p1,h1⟩:=ha
 obtain ⟨t2,p2,h2⟩:=hb
 refine ⟨_,aCW aCg p1 p2,fun C0 H0 δ σ C H Q R rp g k=>?_⟩
 refine h1 C0 H0 δ σ C H _ _ rp g fun d v C1 H1 q e1 n1=>h2 C0 H0 δ σ C1 H1 _ _ (rp.grow e1) q fun d2 v2 C2 H2 q2 e2 n2=>?_
 have n1':=n1.mono e2.cc
 have e12:=e1.trans e2
 cases d with
 | lst ds=>
  cases d2 with
  | lst es=>
   obtain ⟨p,xs,rfl,hx,hd⟩:=aV.mp n1'
   obtain ⟨p',ys,rfl,hy,he⟩:=aV.mp n2
   have q2':ds.length+es.length≤sizeLine∧Q (ds++es):=q2
   exact ⟨p,p',xs,ys,rfl,rfl,e2.ch.seq hx,e2.ch.seq hy,by rw [hd.length,he.length];exact q2'.1,fun l hl=>k _ l _ C2 _ q2'.2 (e12.trans (b5.newO e2.ch hl)) (e2.ch.free hl) (e12.hh.free hl) bD (hd.append he)⟩
  | _=>exact q2.elim
 | _=>exact q2.elim
end
mutual
def gY:D→D→Option Bool
 | .int i,.int j=>some (i == j)
 | .bl i,.bl j=>some (i == j)
 | .str i,.str j=>some (i == j)
 | .non,.non=>some true
 | .tup xs,.tup ys=>(nV xs ys).map fun b=>b && xs.length == ys.length
 | .lst xs,.lst ys=>if xs.length=ys.length then nV xs ys else some false
 | _,_=>none
def nV:List D→List D→Option Bool
 | x::xs,y::ys=>match gY x y,nV xs ys with
  | some a,some b=>some (a && b)
  | _,_=>none
 | _,_=>some true
end
mutual
def g6:D→Nat
 | .tup ds=>iM ds+1
 | .lst ds=>iM ds+1
 | _=>0
def iM:List D→Nat
 | []=>0
 | d::ds=>max (g6 d) (iM ds)
end
mutual
theorem kK:∀ d:D,gY d d=some true
 | .int i=>by simp [gY]
 | .bl i=>by simp [gY]
 | .str i=>by simp [gY]
 | .non=>by simp [gY]
 | .tup ds=>by simp [gY,nQ ds]
 | .lst ds=>by simp [gY,nQ ds]
theorem nQ:∀ ds:List D,nV ds ds=some true
 | []=>by simp [nV]
 | d::ds=>by simp [nV,kK d,nQ ds]
end
theorem mH:∀ {xs ys:List D}{r:Bool},nV xs ys=some r→∃ f:Nat→Bool,(∀ (j:Nat) x y,xs[j]? = some x→ys[j]? = some y→gY x y=some (f j))∧r=(List.range (min xs.length ys.length)).all f
 | [],ys,r,h=>by
  refine ⟨fun _=>true,fun j x y e=>by simp at e,?_⟩
  have:r=true:=by simpa [nV] using h.symm
  simp [this]
 | x::xs,[],r,h=>by
  refine ⟨fun _=>true,fun j x y _ e=>by simp at e,?_⟩
  have:r=true:=by simpa [nV] using h.symm
  simp [this]
 | x::xs,y::ys,r,h=>by
  rw [nV] at h
  cases e1:gY x y with
  | none=>rw [e1] at h;cases h
  | some a=>
   cases e2:nV xs ys with
   | none=>rw [e1,e2] at h;cases h
   | some b=>
    rw [e1,e2] at h
    obtain ⟨f,hf,hb⟩:=mH e2
    refine ⟨fun j=>match j with
     | 0=>a
     | j+1=>f j,fun j x' y' h1 h2=>?_,?_⟩
    ·cases j with
     | zero=>cases h1;cases h2;exact e1
     | succ j=>exact hf j x' y' h1 h2
    ·have:r=(a && b):=(Option.some.inj h).symm
     rw [this,hb,List.length_cons,List.length_cons,Nat.succ_min_succ,List.range_succ_eq_map,List.all_cons,List.all_map]
     rfl
theorem kZ:∀ {xs:List D}{j:Nat}{x:D},xs[j]? = some x→g6 x≤iM xs
 | [],j,x,h=>by simp at h
 | y::ys,0,x,h=>by
  cases h
  rw [iM]
  exact Nat.le_max_left _ _
 | y::ys,j+1,x,h=>by
  rw [iM]
  exact Nat.le_trans (kZ (xs:=ys) (j:=j) h) (Nat.le_max_right _ _)
section
variable {X:Cx}{pins:List (Addr×Obj)}{σ:St}{H C:Hp}{s:Shared}
mutual
theorem o0 (I:aP X pins σ H s) (ch:bL C H):∀ {v:V} (d e:D),fI X.K C v d→fI X.K C v e→d=e
 | v,.int i,e,h,h'=>by
  have z:=aM.mp h
  subst z
  cases e with
  | int j=>have z:=aM.mp h';cases z;rfl
  | bl j=>have z:=bH.mp h';cases z
  | non=>have z:=bY.mp h';cases z
  | str j=>have z:=aW.mp h';cases z
  | tup j=>obtain ⟨_,_,z,_⟩:=bA.mp h';cases z
  | lst j=>obtain ⟨_,_,z,_⟩:=aV.mp h';cases z
 | v,.bl i,e,h,h'=>by
  have z:=bH.mp h
  subst z
  cases e with
  | int j=>have z:=aM.mp h';cases z
  | bl j=>have z:=bH.mp h';cases z;rfl
  | non=>have z:=bY.mp h';cases z
  | str j=>have z:=aW.mp h';cases z
  | tup j=>obtain ⟨_,_,z,_⟩:=bA.mp h';cases z
  | lst j=>obtain ⟨_,_,z,_⟩:=aV.mp h';cases z
 | v,.non,e,h,h'=>by
  have z:=bY.mp h
  subst z
  cases e with
  | int j=>have z:=aM.mp h';cases z
  | bl j=>have z:=bH.mp h';cases z
  | non=>rfl
  | str j=>have z:=aW.mp h';cases z
  | tup j=>obtain ⟨_,_,z,_⟩:=bA.mp h';cases z
  | lst j=>obtain ⟨_,_,z,_⟩:=aV.mp h';cases z
 | v,.str i,e,h,h'=>by
  have z:=aW.mp h
  subst z
  cases e with
  | int j=>have z:=aM.mp h';cases z
  | bl j=>have z:=bH.mp h';cases z
  | non=>have z:=bY.mp h';cases z
  | str j=>have z:=aW.mp h';cases z;rfl
  | tup j=>obtain ⟨_,_,z,_⟩:=bA.mp h';cases z
  | lst j=>obtain ⟨_,_,z,_⟩:=aV.mp h';cases z
 | v,.tup ds,e,h,h'=>by
  obtain ⟨a,xs,rfl,hx,hd⟩:=bA.mp h
  cases e with
  | int j=>have z:=aM.mp h';cases z
  | bl j=>have z:=bH.mp h';cases z
  | non=>have z:=bY.mp h';cases z
  | str j=>have z:=aW.mp h';cases z
  | tup es=>
   obtain ⟨a',ys,z,hy,he⟩:=bA.mp h'
   cases z
   have q:=I.tuple_inj (ch.seqT hx) (ch.seqT hy)
   subst q
   rw [pY I ch ds es hd he]
  | lst es=>
   obtain ⟨a',ys,z,hy,he⟩:=aV.mp h'
   cases z
   obtain ⟨its,_,⟨o,h1,h2,_⟩,_⟩:=I.tuple (ch.seqT hx)
   obtain ⟨its2,_,pl,_⟩:=I.list (ch.seq hy)
   obtain ⟨o2,h3,h4,_⟩:=pl.isList
   rw [h1] at h3
   cases h3
   rw [h2] at h4
   exact absurd h4 (by decide)
 | v,.lst ds,e,h,h'=>by
  obtain ⟨a,xs,rfl,hx,hd⟩:=aV.mp h
  cases e with
  | int j=>have z:=aM.mp h';cases z
  | bl j=>have z:=bH.mp h';cases z
  | non=>have z:=bY.mp h';cases z
  | str j=>have z:=aW.mp h';cases z
  | lst es=>
   obtain ⟨a',ys,z,hy,he⟩:=aV.mp h'
   cases z
   have q:=I.list_inj (ch.seq hx) (ch.seq hy)
   subst q
   rw [pY I ch ds es hd he]
  | tup es=>
   obtain ⟨a',ys,z,hy,he⟩:=bA.mp h'
   cases z
   obtain ⟨its,_,⟨o,h1,h2,_⟩,_⟩:=I.tuple (ch.seqT hy)
   obtain ⟨its2,_,pl,_⟩:=I.list (ch.seq hx)
   obtain ⟨o2,h3,h4,_⟩:=pl.isList
   rw [h1] at h3
   cases h3
   rw [h2] at h4
   exact absurd h4 (by decide)
theorem pY (I:aP X pins σ H s) (ch:bL C H):∀ {vs:List V} (ds es:List D),aT X.K C vs ds→aT X.K C vs es→ds=es
 | vs,[],es,h,h'=>by
  have z:=dS.mp h
  subst z
  cases es with
  | nil=>rfl
  | cons e es=>obtain ⟨_,_,z,_⟩:=bT.mp h';cases z
 | vs,d::ds,es,h,h'=>by
  obtain ⟨x,xs,rfl,n,t⟩:=bT.mp h
  cases es with
  | nil=>have z:=dS.mp h';cases z
  | cons e es=>
   obtain ⟨_,_,z,n',t'⟩:=bT.mp h'
   cases z
   rw [o0 I ch d e n n',pY I ch ds es t t']
end
theorem iQ {xs:List V}{its:List Value} (r:bO xs its) {j:Nat} (h:j<its.toArray.size):∃ x,xs[j]? = some x∧cC x its.toArray[j]:=by
 have h':j<its.length:=by simpa using h
 have hx:j<xs.length:=by rw [r.length];exact h'
 have e:xs[j]? = some xs[j]:=by simp [hx]
 obtain ⟨u,e1,e2⟩:=r.get e
 refine ⟨xs[j],e,?_⟩
 have:u=its.toArray[j]:=by
  have e3:its[j]? = some its[j]:=by simp [h']
  rw [e3] at e1
  cases e1
  simp
 rw [← this]
 exact e2
theorem yC (I:aP X pins σ H s) (ch:bL C H):∀ (n:Nat) (d e:D) (r:Bool) (A:Around) (x y:V) (u v:Value),g6 d≤n→A.units+n<cLine→gY d e=some r→cC x u→cC y v→fI X.K C x d→fI X.K C y e→SeqAt.EqAt A s u v r:=by
 intro n
 induction n with
 | zero=>
  intro d e r A x y u v hn hu he rx ry nx ny
  cases d with
  | int i=>
   cases e with
   | int j=>
    rw [gY] at he
    cases he
    have z:=aM.mp nx
    have z2:=aM.mp ny
    subst z z2
    obtain ⟨t,rfl⟩:=rx
    obtain ⟨t',rfl⟩:=ry
    exact SeqAt.EqAt.int_int i t j t'
   | _=>cases he
  | bl i=>
   cases e with
   | bl j=>
    rw [gY] at he
    cases he
    have z:=bH.mp nx
    have z2:=bH.mp ny
    subst z z2
    cases rx
    cases ry
    exact SeqAt.EqAt.bool_bool i j
   | _=>cases he
  | str i=>
   cases e with
   | str j=>
    rw [gY] at he
    cases he
    have z:=aW.mp nx
    have z2:=aW.mp ny
    subst z z2
    obtain ⟨t,rfl⟩:=rx
    obtain ⟨t',rfl⟩:=ry
    exact SeqAt.EqAt.str_str i t j t'
   | _=>cases he
  | non=>
   cases e with
   | non=>
    rw [gY] at he
    cases he
    have z:=bY.mp nx
    have z2:=bY.mp ny
    subst z z2
    cases rx
    cases ry
    exact SeqAt.EqAt.same _
   | _=>cases he
  | tup ds=>rw [g6] at hn;omega
  | lst ds=>rw [g6] at hn;omega
 | succ n ih=>
  intro d e r A x y u v hn hu he rx ry nx ny
  cases d with
  | tup ds=>
   cases e with
   | tup es=>
    obtain ⟨a,xs,rfl,hx,hd⟩:=bA.mp nx
    obtain ⟨b,ys,rfl,hy,hee⟩:=bA.mp ny
    cases rx
    cases ry
    by_cases hab:a=b
    ·subst hab
     have q:=o0 I ch _ _ nx ny
     rw [← q,kK] at he
     cases he
     exact SeqAt.EqAt.same _
    ·refine SeqAt.EqAt.of_refs hab ?_
     rw [gY] at he
     cases e1:nV ds es with
     | none=>rw [e1] at he;cases he
     | some r0=>
      rw [e1] at he
      obtain ⟨f,hf,hr⟩:=mH e1
      obtain ⟨its,r1,t1,_⟩:=I.tuple (ch.seqT hx)
      obtain ⟨its2,r2,t2,_⟩:=I.tuple (ch.seqT hy)
      have l1:its.toArray.size=ds.length:=by rw [List.size_toArray,← r1.length,hd.length]
      have l2:its2.toArray.size=es.length:=by rw [List.size_toArray,← r2.length,hee.length]
      have q:=SeqAt.RcAt.tuples (A:=A) (e:=f) t1 t2 (by omega) fun j h1 h2=>by
       obtain ⟨x',ex,rx'⟩:=iQ r1 h1
       obtain ⟨y',ey,ry'⟩:=iQ r2 h2
       have hj1:j<ds.length:=by omega
       have hj2:j<es.length:=by omega
       have ed:ds[j]? = some ds[j]:=by simp [hj1]
       have ee:es[j]? = some es[j]:=by simp [hj2]
       obtain ⟨x2,ex2,nx2⟩:=hd.get ed
       obtain ⟨y2,ey2,ny2⟩:=hee.get ee
       rw [ex] at ex2
       cases ex2
       rw [ey] at ey2
       cases ey2
       refine ih ds[j] es[j] (f j) A.in1 x' y' _ _ ?_ (by show A.units+1+n<cLine;omega) (hf j _ _ ed ee) rx' ry' nx2 ny2
       have:=kZ ed
       rw [g6] at hn
       omega
      rw [l1,l2] at q
      have er:r=((List.range (min ds.length es.length)).all f && ds.length == es.length):=by
       rw [← hr]
       exact (Option.some.inj he).symm
      rw [er]
      exact q
   | _=>cases he
  | lst ds=>
   cases e with
   | lst es=>
    obtain ⟨a,xs,rfl,hx,hd⟩:=aV.mp nx
    obtain ⟨b,ys,rfl,hy,hee⟩:=aV.mp ny
    cases rx
    cases ry
    by_cases hab:a=b
    ·subst hab
     have q:=o0 I ch _ _ nx ny
     rw [← q,kK] at he
     cases he
     exact SeqAt.EqAt.same _
    ·refine SeqAt.EqAt.of_refs hab ?_
     rw [gY] at he
     obtain ⟨its,r1,p1,_⟩:=I.list (ch.seq hx)
     obtain ⟨its2,r2,p2,_⟩:=I.list (ch.seq hy)
     have l1:its.toArray.size=ds.length:=by rw [List.size_toArray,← r1.length,hd.length]
     have l2:its2.toArray.size=es.length:=by rw [List.size_toArray,← r2.length,hee.length]
     by_cases hlen:ds.length=es.length
     ·rw [if_pos hlen] at he
      obtain ⟨f,hf,hr⟩:=mH he
      have q:=SeqAt.RcAt.lists (A:=A) (e:=f) p1.isList p2.isList (by rw [l1,l2];exact hlen) (by omega) fun j h1 h2=>by
       obtain ⟨x',ex,rx'⟩:=iQ r1 h1
       obtain ⟨y',ey,ry'⟩:=iQ r2 h2
       have hj1:j<ds.length:=by omega
       have hj2:j<es.length:=by omega
       have ed:ds[j]? = some ds[j]:=by simp [hj1]
       have ee:es[j]? = some es[j]:=by simp [hj2]
       obtain ⟨x2,ex2,nx2⟩:=hd.get ed
       obtain ⟨y2,ey2,ny2⟩:=hee.get ee
       rw [ex] at ex2
       cases ex2
       rw [ey] at ey2
       cases ey2
       refine ih ds[j] es[j] (f j) A.in1 x' y' _ _ ?_ (by show A.units+1+n<cLine;omega) (hf j _ _ ed ee) rx' ry' nx2 ny2
       have:=kZ ed
       rw [g6] at hn
       omega
      rw [l1] at q
      rw [hr,← hlen,Nat.min_self]
      exact q
     ·rw [if_neg hlen] at he
      cases he
      exact SeqAt.RcAt.lists_lengths p1.isList p2.isList (by rw [l1,l2];simpa using hlen) (by omega)
   | _=>cases he
  | int i=>exact ih (.int i) e r A x y u v (by simp [g6]) (by omega) he rx ry nx ny
  | bl i=>exact ih (.bl i) e r A x y u v (by simp [g6]) (by omega) he rx ry nx ny
  | non=>exact ih .non e r A x y u v (by simp [g6]) (by omega) he rx ry nx ny
  | str i=>exact ih (.str i) e r A x y u v (by simp [g6]) (by omega) he rx ry nx ny
theorem aAy (I:aP X pins σ H s) (ch:bL C H) (n:Nat) (d e:D) (r:Bool) (A:Around) (x y:V) (u v:Value) (hn:g6 d≤n) (hu:A.units+n<cLine) (he:gY d e=some r) (rx:cC x u) (ry:cC y v) (nx:fI X.K C x d) (ny:fI X.K C y e) :
  SeqAt.RcAt A s u v r∧SeqAt.RcNeAt A s u v (!r):=by
 cases d with
 | int i=>
  cases e with
  | int j=>
   rw [gY] at he
   cases he
   have z:=aM.mp nx
   have z2:=aM.mp ny
   subst z z2
   obtain ⟨t,rfl⟩:=rx
   obtain ⟨t',rfl⟩:=ry
   exact ⟨SeqAt.RcAt.int_int i t j t',SeqAt.RcNeAt.int_int i t j t'⟩
  | _=>cases he
 | bl i=>
  cases e with
  | bl j=>
   rw [gY] at he
   cases he
   have z:=bH.mp nx
   have z2:=bH.mp ny
   subst z z2
   cases rx
   cases ry
   exact ⟨SeqAt.RcAt.bool_bool i j,SeqAt.RcNeAt.bool_bool i j⟩
  | _=>cases he
 | str i=>
  cases e with
  | str j=>
   rw [gY] at he
   cases he
   have z:=aW.mp nx
   have z2:=aW.mp ny
   subst z z2
   obtain ⟨t,rfl⟩:=rx
   obtain ⟨t',rfl⟩:=ry
   exact ⟨SeqAt.RcAt.str_str i t j t',SeqAt.RcNeAt.str_str i t j t'⟩
  | _=>cases he
 | non=>
  cases e with
  | non=>
   rw [gY] at he
   cases he
   have z:=bY.mp nx
   have z2:=bY.mp ny
   subst z z2
   cases rx
   cases ry
   exact ⟨SeqAt.RcAt.none_none,SeqAt.RcNeAt.none_none⟩
  | _=>cases he
 | tup ds=>
  cases e with
  | tup es=>
   obtain ⟨a,xs,rfl,hx,hd⟩:=bA.mp nx
   obtain ⟨b,ys,rfl,hy,hee⟩:=bA.mp ny
   cases rx
   cases ry
   rw [gY] at he
   cases e1:nV ds es with
   | none=>rw [e1] at he;cases he
   | some r0=>
    rw [e1] at he
    obtain ⟨f,hf,hr⟩:=mH e1
    obtain ⟨its,r1,t1,_⟩:=I.tuple (ch.seqT hx)
    obtain ⟨its2,r2,t2,_⟩:=I.tuple (ch.seqT hy)
    have l1:its.toArray.size=ds.length:=by rw [List.size_toArray,← r1.length,hd.length]
    have l2:its2.toArray.size=es.length:=by rw [List.size_toArray,← r2.length,hee.length]
    rw [g6] at hn
    have hin:∀ j (h1:j<its.toArray.size) (h2:j<its2.toArray.size),SeqAt.EqAt A.in1 s its.toArray[j] its2.toArray[j] (f j):=fun j h1 h2=>by
     obtain ⟨x',ex,rx'⟩:=iQ r1 h1
     obtain ⟨y',ey,ry'⟩:=iQ r2 h2
     have hj1:j<ds.length:=by omega
     have hj2:j<es.length:=by omega
     have ed:ds[j]? = some ds[j]:=by simp [hj1]
     have ee:es[j]? = some es[j]:=by simp [hj2]
     obtain ⟨x2,ex2,nx2⟩:=hd.get ed
     obtain ⟨y2,ey2,ny2⟩:=hee.get ee
     rw [ex] at ex2
     cases ex2
     rw [ey] at ey2
     cases ey2
     have:=kZ ed
     exact yC I ch (n-1) ds[j] es[j] (f j) A.in1 x' y' _ _ (by omega) (by show A.units+1+(n-1)<cLine;omega) (hf j _ _ ed ee) rx' ry' nx2 ny2
    have q:=SeqAt.RcAt.tuples (A:=A) (e:=f) t1 t2 (by omega) hin
    have q':=SeqAt.RcNeAt.tuples (A:=A) (e:=f) t1 t2 (by omega) hin
    rw [l1,l2] at q q'
    have er:r=((List.range (min ds.length es.length)).all f && ds.length == es.length):=by
     rw [← hr]
     exact (Option.some.inj he).symm
    rw [er]
    exact ⟨q,q'⟩
  | _=>cases he
 | lst ds=>
  cases e with
  | lst es=>
   obtain ⟨a,xs,rfl,hx,hd⟩:=aV.mp nx
   obtain ⟨b,ys,rfl,hy,hee⟩:=aV.mp ny
   cases rx
   cases ry
   rw [gY] at he
   obtain ⟨its,r1,p1,_⟩:=I.list (ch.seq hx)
   obtain ⟨its2,r2,p2,_⟩:=I.list (ch.seq hy)
   have l1:its.toArray.size=ds.length:=by rw [List.size_toArray,← r1.length,hd.length]
   have l2:its2.toArray.size=es.length:=by rw [List.size_toArray,← r2.length,hee.length]
   rw [g6] at hn
   by_cases hlen:ds.length=es.length
   ·rw [if_pos hlen] at he
    obtain ⟨f,hf,hr⟩:=mH he
    have hin:∀ j (h1:j<its.toArray.size) (h2:j<its2.toArray.size),SeqAt.EqAt A.in1 s its.toArray[j] its2.toArray[j] (f j):=fun j h1 h2=>by
     obtain ⟨x',ex,rx'⟩:=iQ r1 h1
     obtain ⟨y',ey,ry'⟩:=iQ r2 h2
     have hj1:j<ds.length:=by omega
     have hj2:j<es.length:=by omega
     have ed:ds[j]? = some ds[j]:=by simp [hj1]
     have ee:es[j]? = some es[j]:=by simp [hj2]
     obtain ⟨x2,ex2,nx2⟩:=hd.get ed
     obtain ⟨y2,ey2,ny2⟩:=hee.get ee
     rw [ex] at ex2
     cases ex2
     rw [ey] at ey2
     cases ey2
     have:=kZ ed
     exact yC I ch (n-1) ds[j] es[j] (f j) A.in1 x' y' _ _ (by omega) (by show A.units+1+(n-1)<cLine;omega) (hf j _ _ ed ee) rx' ry' nx2 ny2
    have q:=SeqAt.RcAt.lists (A:=A) (e:=f) p1.isList p2.isList (by rw [l1,l2];exact hlen) (by omega) hin
    have q':=SeqAt.RcNeAt.lists (A:=A) (e:=f) p1.isList p2.isList (by rw [l1,l2];exact hlen) (by omega) hin
    rw [l1] at q q'
    rw [hr,← hlen,Nat.min_self]
    exact ⟨q,q'⟩
   ·rw [if_neg hlen] at he
    cases he
    exact ⟨SeqAt.RcAt.lists_lengths p1.isList p2.isList (by rw [l1,l2];simpa using hlen) (by omega),SeqAt.RcNeAt.lists_lengths p1.isList p2.isList (by rw [l1,l2];simpa using hlen) (by omega)⟩
  | _=>cases he
end
section
variable {X:Cx}
def qZ:GO:=fun x y Q=>g6 x≤32∧match gY x y with
 | some b=>Q (.bl b)
 | none=>False
def tZ:GO:=fun x y Q=>g6 x≤32∧match gY x y with
 | some b=>Q (.bl (!b))
 | none=>False
def aDZ (K:PySem.W.Frag) (neg:Bool):R2:=fun x y H R=>∃ C d e b,bL C H∧fI K C x d∧fI K C y e∧gY d e=some b∧g6 d≤32∧R (.bl (if neg then !b else b)) H
theorem sL (hu:X.A.units+64<cLine):tO X (compareOp .Eq) qZ:=by
 refine ⟨aDZ X.K false,fun pins s σ H x y v u Q I rx ry h=>?_,fun x y dx dy C H Q R ch n1 n2 q k=>?_⟩
 ·obtain ⟨C,d,e,b,ch,nx,ny,he,hd,q⟩:=h
  exact (aAy I ch 32 d e b X.A x y v u hd (by omega) he rx ry nx ny).1 _ _ _ _ ⟨.bl b,H,I,rfl,q⟩
 ·obtain ⟨hd,q⟩:=q
  cases z:gY dx dy with
  | none=>rw [z] at q;exact q.elim
  | some b=>rw [z] at q;exact ⟨C,dx,dy,b,ch,n1,n2,z,hd,k _ _ C H q (b5.refl ch) (bH.mpr rfl)⟩
theorem aA1 (hu:X.A.units+64<cLine):tO X (compareOp .NotEq) tZ:=by
 refine ⟨aDZ X.K true,fun pins s σ H x y v u Q I rx ry h=>?_,fun x y dx dy C H Q R ch n1 n2 q k=>?_⟩
 ·obtain ⟨C,d,e,b,ch,nx,ny,he,hd,q⟩:=h
  exact (aAy I ch 32 d e b X.A x y v u hd (by omega) he rx ry nx ny).2 _ _ _ _ ⟨.bl (!b),H,I,rfl,q⟩
 ·obtain ⟨hd,q⟩:=q
  cases z:gY dx dy with
  | none=>rw [z] at q;exact q.elim
  | some b=>rw [z] at q;exact ⟨C,dx,dy,b,ch,n1,n2,z,hd,k _ _ C H q (b5.refl ch) (bH.mpr rfl)⟩
theorem rY:∀ {us:List Value}{ns:List Int},IntsAre us ns→bO (ns.map V.int) us
 | _,_,.nil=>.nil
 | _,_,.cons _ t h=>.cons ⟨_,rfl⟩ (rY h)
theorem v9:fX X (.builtin "sorted") (fun xs H Q=>∃ (p:Addr) (ns:List Int),xs=[.ref p]∧jH X.K H p (ns.map V.int)∧ns.length<64∧∀ ms:List Int,ms.Perm ns→ms.Pairwise (· ≤ ·)→∀ l,H l=none→Q (.ref l) (upd H l (.lst (ms.map V.int)))):=by
 intro pins s σ H xs us Q I r h
 obtain ⟨p,ns,rfl,hq,h64,q⟩:=h
 obtain ⟨u,rfl,rx⟩:=p5 r
 cases rx
 obtain ⟨its,r',pl,hz⟩:=I.list hq
 have hlen:=r'.length
 rw [List.length_map] at hlen
 refine sorted_ints pl.isList (x8 r') (by omega) fun out ms a1 a2 a3=>?_
 obtain ⟨e,he⟩:=sortedAll_at s.heap its out
 have fr:H (s.heap.objs.size+1)=none:=I.hok.fresh (Nat.le_succ _)
 have hl2:(ms.map V.int).length≤sizeLine:=by
  rw [List.length_map,a2.length_eq]
  have:(64:Nat)≤sizeLine:=by decide
  omega
 refine ⟨.ref (s.heap.objs.size+1),_,I.laid (t':=s.toks) (o:=.lst (ms.map V.int)) (fun b ob z=>sortedAll_old z) (Nat.le_succ _) ⟨hl2,out.toList,e,rY a1,?_⟩,rfl,q ms a2 a3 _ fr⟩
 rw [he]
def jC:List D→Option (List Int)
 | []=>some []
 | .int b::r=>(jC r).map (b :: ·)
 | _::_=>none
theorem mF:∀ {ds:List D}{bs:List Int},jC ds=some bs→ds=bs.map D.int
 | [],bs,h=>by cases h;rfl
 | .int b::r,bs,h=>by
  unfold jC at h
  cases e:jC r with
  | none=>rw [e] at h;cases h
  | some cs=>rw [e] at h;cases h;rw [List.map_cons,← mF e]
 | .bl _::_,_,h=>by cases h
 | .non::_,_,h=>by cases h
 | .str _::_,_,h=>by cases h
 | .tup _::_,_,h=>by cases h
 | .lst _::_,_,h=>by cases h
theorem iC (bs:List Int):jC (bs.map D.int)=some bs:=by
 induction bs with
 | nil=>rfl
 | cons b bs ih=>rw [List.map_cons,jC,ih];rfl
theorem sN {K:PySem.W.Frag}{C:Hp} (ns:List Int):aT K C (ns.map V.int) (ns.map D.int):=by
 induction ns with
 | nil=>exact .nil
 | cons n ns ih=>exact .cons (aM.mpr rfl) ih
def oW:List D→(List D→Prop)→Prop:=fun ds Q=>match ds with
 | [.lst xs]=>match jC xs with
  | some ns=>ns.length<64∧∀ ms:List Int,ms.Perm ns→ms.Pairwise (· ≤ ·)→Q (ms.map D.int)
  | none=>False
 | _=>False
theorem zW:aBA X (.builtin "sorted") oW:=by
 refine ⟨_,v9,fun xs ds C H Q R ch n q k=>?_⟩
 unfold oW at q
 split at q
 ·split at q
  ·rename_i ns e
   obtain ⟨v,rfl,n1⟩:=gU n
   obtain ⟨p,ys,rfl,hy,hd⟩:=aV.mp n1
   rw [mF e] at hd
   rw [hd.ints] at hy
   exact ⟨p,ns,rfl,ch.seq hy,q.1,fun ms a b l hl=>k _ l _ C _ (q.2 ms a b) (b5.newO ch hl) (ch.free hl) hl bD (sN ms)⟩
  ·exact q.elim
 ·exact q.elim
end
section
variable {prog:Program}{w:World}{A:Around}{E:Value→Shared→Prop}{s:Shared}
end
section
variable {X:Cx}
variable {a b c e:Expr}{es:List Expr}{pos:Pos}{ga gb:GE}
def l7 (ga gb:GE):GF:=fun δ Q=>ga δ fun d=>gb δ fun d2=>match d,d2 with
 | .tup xs,.tup ys=>Q (List.zipWith (fun x y=>D.tup [x,y]) xs ys)
 | _,_=>False
end
def g7 (o:Option (D→Prop)) (Q:D→Prop):Prop:=match o with
 | some p=>∀ d,p d→Q d
 | none=>False
def spR (K:PySem.W.Frag) (F:List D→Option (D→Prop)):Sp:=fun vs H Q _=>∃ C ds p,bL C H∧aT K C vs ds∧F ds=some p∧∀ d v C' H',p d→b5 C H C' H'→fI K C' v d→Q v H'
def xE (P:Program) (w:World) (K:PySem.W.Frag) (mg:Str→Option Value) (base:Heap) (k:Nat) (x:Str) (F:List D→Option (D→Prop)):Prop:=
 ∃ f fd ps,kF P w K mg base lJ k f fd ps (spR K F)∧mg x=some (.ref f)∧PySem.W.keepIn K (.ref f)=true∧j3 K fd ps []
section
variable {X:Cx}{a b c e:Expr}{es:List Expr}{pos:Pos}{ga gb gc gd:GE}{gf:GF}{ta tb:GT}
def dE (F:List D→Option (D→Prop)) (gf:GF):GE:=fun δ Q=>gf δ fun ds=>g7 (F ds) Q
theorem mV {F:List D→Option (D→Prop)}{k:Nat}{x:Str}{p:Pos} (h:xE X.prog X.w X.K X.mg X.base k x F) (hr:cM k X.A) (hg:Gl X x) (ha:DA X (e::es) gf) (hdb:(x == ("__debug__":Str))=false:=by decide)
  (he:starEach (e::es) X.env=(false,eval e X.env)::starEach es X.env:=by rfl) (hpl:(backTo pos (starEach es X.env)).any (·.1)=false:=by rfl):DE X (.Call (.Name x p) (e::es) [] pos) (dE F gf):=by
 obtain ⟨f,fd,ps,Fk,hm,hk,hb⟩:=h
 obtain ⟨t,pa,h⟩:=ha
 refine ⟨_,uH Fk hr hg hm hk hb .nil aCR pa hdb he hpl,fun C0 H0 δ σ C H Q R rp g k=>h C0 H0 δ σ C H _ _ rp g fun ds vs C1 H1 q e1 n1=>?_⟩
 cases e2:F ds with
 | none=>rw [e2] at q;exact q.elim
 | some p=>
  rw [e2] at q
  exact ⟨C1,ds,p,e1.ch,by rw [List.append_nil];exact n1,e2,fun d v C' H' hp ex nv=>k d v C' H' (q d hp) (e1.trans ex) nv⟩
theorem bV {x:Str}{f:Value}{g:List D→(D→Prop)→Prop}{pos':Pos} (hc:qK X f g) (ha:DA X (e::es) gf)
  (hp:∀ {t:TA}{r:List V→Hp→VK→Prop},fX X f r→PA X (e::es) t→PE X (.Call (.Name x pos') (e::es) [] pos) (tCB r t)):DE X (.Call (.Name x pos') (e::es) [] pos) (bE g gf):=by
 obtain ⟨r,pr,hr⟩:=hc
 obtain ⟨t,p,h⟩:=ha
 refine ⟨_,hp pr p,fun C0 H0 δ σ C H Q R rp g k=>h C0 H0 δ σ C H _ _ rp g fun ds vs C1 H1 q e1 n1=>?_⟩
 exact hr vs ds C1 H1 Q R e1.ch n1 q fun d v C2 H2 q2 e2 n2=>k d v C2 H2 q2 (e1.trans e2) n2
theorem iL {x:Str}{i:Int} (hg:Gl X x) (h:∃ t,X.mg x=some (.int i t)) (hd:(x == ("__debug__":Str))=false:=by decide):DE X (.Name x pos) (gC (.int i)):=by
 obtain ⟨t,h⟩:=h
 exact aA4 hg h hd
theorem cO {scope sc:Scope}{N Nc:List Str}{fr:List (Option Nat)} (h1:X.env.scope=sc) (h2:X.N=N) (h:iZ sc scope N Nc fr=true):iZ X.env.scope scope X.N Nc fr=true:=by rw [h1,h2];exact h
end
theorem fnR {P:Program}{w:World}{K:PySem.W.Frag}{mg:Str→Option Value}{base:Heap}{x qual:Str}{st:Stmt}{f:Addr}{fd:FuncData}{N ps:List Str}{k:Nat}{F:List D→Option (D→Prop)}{g:GS} (Fn:zM K x qual st f fd) (S:aX N ps (aB st))
  (hl:∀ ds p,F ds=some p→ds.length=ps.length)
  (hb:∀ (cdv:Value) (A:Around) (outer:List Env) (s:Shared) (H:Hp) (E:XK),cM k (A.deeper (envOfC qual (aB st) s.heap.objs.size f cdv))→kW (fV lJ P w K mg base N qual (aB st) f cdv A outer s H E).nox (aS st) g)
  (hv:∀ ds p,F ds=some p→g { nx:=fun _=>p .non,rt:=p } (aZ N ds)) (hm:mg x=some (.ref f)) (bi:j3 K fd ps []):xE P w K mg base (k+1) x F:=by
 refine ⟨f,fd,ps,Fn.ok S (fun vs H Q E h=>?_) (fun cdv A outer s H vs Q E hr h=>?_),hm,Fn.kp,bi⟩
 ·obtain ⟨C,ds,p,_,n,e,_⟩:=h
  rw [n.length]
  exact hl ds p e
 ·obtain ⟨C,ds,pd,ch,n,e,q⟩:=h
  obtain ⟨t,p,h⟩:=hb cdv A outer s H E hr
  refine ⟨t,p,h C H (aZ N ds) (g8 N vs) C H _ _ (kU ch n) (hv ds pd e) ⟨fun δ σ C' H' rp z=>?_,fun r v C' H' ex nv z=>?_,fun _ _ _ _ _ z=>z.elim,fun _ _ _ _ _ z=>z.elim⟩⟩
  ·exact q .non _ C' H' z rp.ext (bY.mpr rfl)
  ·exact q r v C' H' z ex nv
theorem nA:bootBuiltins "len"=some (.builtin "len"):=by decide +kernel
theorem aBb:bootBuiltins "all"=some (.builtin "all"):=by decide +kernel
theorem zG:bootBuiltins "sorted"=some (.builtin "sorted"):=by decide +kernel
theorem gH:bootBuiltins "isinstance"=some (.builtin "isinstance"):=by decide +kernel
theorem iF:bootBuiltins "tuple"=some (.type "tuple"):=by decide +kernel
theorem aDB:bootBuiltins "int"=some (.type "int"):=by decide +kernel
theorem aCn:bootBuiltins "bool"=some (.type "bool"):=by decide +kernel
theorem p7:bootBuiltins "str"=some (.type "str"):=by decide +kernel
def oY:D→Bool
 | .int _=>true
 | _=>false
def bZ (d:D) (a b:Int):Bool:=match d with
 | .int i=>decide (a≤i) && decide (i≤b)
 | _=>false
def bB (d:D) (a b:Int):Bool:=match d with
 | .tup ds=>decide (a≤(ds.length:Int)) && decide ((ds.length:Int)≤b)
 | _=>false
@[reducible] def aN (ns:List Int):D:=.tup (ns.map D.int)
def cF (rows:List (List Int)) (m:Int):List (List Int):=rows.flatMap fun r=>(List.range m.toNat).map fun (k:Nat)=>r++[(k:Int)]
def cB (ns:List Int):List (List Int):=ns.foldl cF [[]]
def cE (ns:List Int):Bool:=decide (ns.length≤3) && ns.all fun n=>decide (1≤n) && decide (n≤3)
def eV:D→Bool
 | .tup ds=>decide (2≤ds.length) && decide (ds.length≤3) && ds.all fun d=>bZ d 1 3
 | _=>false
def fN (d:D) (h:Nat):Bool:=match d with
 | .tup ds=>decide (ds.length=h) && ds.all fun d=>bZ d (-9) 9
 | _=>false
def mY (d:D) (ns:List Int):Bool:=match d with
 | .tup ds=>decide (ds.length=(cB ns).length) && ds.all fun r=>fN r ns.length
 | _=>false
def bG:D→Bool
 | .tup [a,b]=>eV a && match a with
  | .tup es=>match jC es with
   | some ns=>mY b ns
   | none=>false
  | _=>false
 | _=>false
def gP (ds:List D) (f:List Int→D):Option D:=match jC ds with
 | some ns=>if cE ns=true then some (f ns) else none
 | none=>none
def eG:List D→Option D
 | [d]=>some (.bl (oY d))
 | _=>none
def aH:List D→Option D
 | [d,.int a,.int b]=>some (.bl (bB d a b))
 | _=>none
def dO:List D→Option D
 | [d,.int a,.int b]=>some (.bl (bZ d a b))
 | _=>none
def bI:List D→Option D
 | [.tup ds,.int a,.int b]=>if ds.length≤1000 then some (.bl (ds.all fun d=>bZ d a b)) else none
 | _=>none
def fL:List D→Option D
 | [.tup ds]=>gP ds fun ns=>.tup ((cB ns).map aN)
 | _=>none
def eH:List D→Option D
 | [.tup ds]=>gP ds fun ns=>.lst ((cB ns).map aN)
 | _=>none
def eY:List D→Option D
 | [d]=>some (.bl (eV d))
 | _=>none
def b6:List D→Option D
 | [d,.int h]=>if 0≤h∧h≤1000 then some (.bl (fN d h.toNat)) else none
 | _=>none
def h8:List D→Option D
 | [d,.tup es]=>gP es fun ns=>.bl (mY d ns)
 | _=>none
def cD:List D→Option D
 | [d]=>some (.bl (bG d))
 | _=>none
def oH (c p m:Int):Int:=c * 48271 % p % m
def cK:List D→Option D
 | [.int c,.int p,.int m]=>if 0<p∧0<m then some (.int (oH c p m)) else none
 | _=>none
structure eQ (ns:List Int) (pay:List (List Int)):Prop where
 two:2≤ns.length
 ok:cE ns=true
 many:pay.length=(cB ns).length
 rows:∀ r∈pay,r.length=ns.length∧∀ x∈r, -9≤x∧x≤9
@[reducible] def dZ (ns:List Int) (pay:List (List Int)):D:=.tup [aN ns,.tup (pay.map aN)]
def cL:List D→Option (D→Prop)
 | [.int c]=>some fun d=>∃ ns pay,d=dZ ns pay∧eQ ns pay∧(c % 3=0→ns=[2,2])
 | _=>none
@[reducible] def aFc (pl:List (List Int×List Int)):D:=.tup (pl.map fun s=>.tup [aN s.1,aN s.2])
def oA:List D→Option (D→Prop)
 | [.lst ds]=>match jC ds with
  | some _=>some fun d=>d = .bl true
  | none=>none
 | _=>none
theorem iI (rows:List (List Int)) (m:Int):(cF rows m).length=rows.length * m.toNat:=by
 unfold cF
 induction rows with
 | nil=>simp
 | cons r rows ih=>rw [List.flatMap_cons,List.length_append,ih,List.length_map,List.length_range,List.length_cons,Nat.succ_mul,Nat.add_comm]
theorem qN (a b:List (List Int)) (m:Int):cF (a++b) m=cF a m++cF b m:=by
 unfold cF
 rw [List.flatMap_append]
theorem vX (r:List Int) (m:Int):cF [r] m=(List.range m.toNat).map fun (k:Nat)=>r++[(k:Int)]:=by
 unfold cF
 simp
theorem lS (ns:List Int) (m:Int):cB (ns++[m])=cF (cB ns) m:=by
 unfold cB
 rw [List.foldl_append]
 rfl
def zB (ns r:List Int):Prop:=r.length=ns.length∧∀ (i:Nat) (x n:Int),r[i]? = some x→ns[i]? = some n→0≤x∧x<n
theorem xQ {ns r:List Int}{m k:Int} (h:zB ns r) (h0:0≤k) (h1:k<m):zB (ns++[m]) (r++[k]):=by
 refine ⟨by simp [h.1],fun i x n e1 e2=>?_⟩
 by_cases hi:i<r.length
 ·rw [List.getElem?_append_left hi] at e1
  rw [List.getElem?_append_left (by rw [← h.1];exact hi)] at e2
  exact h.2 i x n e1 e2
 ·rw [List.getElem?_append_right (by omega)] at e1
  rw [List.getElem?_append_right (by rw [← h.1];omega)] at e2
  rw [h.1] at e1
  cases hj:i-ns.length with
  | zero=>
   rw [hj] at e1 e2
   cases e1
   cases e2
   exact ⟨h0,h1⟩
  | succ j=>
   rw [hj] at e1
   simp at e1
theorem wE:∀ (ms:List Int),∀ r∈cB ms.reverse,zB ms.reverse r
 | [],r,h=>by
  have:r=[]:=by simpa [cB] using h
  subst this
  exact ⟨rfl,fun i x n e=>by simp at e⟩
 | m::ms,r,h=>by
  rw [List.reverse_cons,lS] at h
  rw [List.reverse_cons]
  unfold cF at h
  obtain ⟨r0,h0,h1⟩:=List.mem_flatMap.mp h
  obtain ⟨k,hk,rfl⟩:=List.mem_map.mp h1
  have hk':=List.mem_range.mp hk
  exact xQ (wE ms r0 h0) (by omega) (by omega)
theorem aBK {ns r:List Int} (h:r∈cB ns):zB ns r:=by
 have:=wE ns.reverse r (by rw [List.reverse_reverse];exact h)
 rwa [List.reverse_reverse] at this
theorem tV {ns:List Int} (h:cE ns=true) (i:Nat):cE (ns.take i)=true:=by
 unfold cE at h ⊢
 rw [Bool.and_eq_true,decide_eq_true_eq,List.all_eq_true] at h ⊢
 exact ⟨by rw [List.length_take];omega,fun x hx=>h.2 x (List.mem_of_mem_take hx)⟩
theorem cR {ns:List Int} (h:cE ns=true):ns.length≤3∧∀ n∈ns,1≤n∧n≤3:=by
 unfold cE at h
 rw [Bool.and_eq_true,decide_eq_true_eq,List.all_eq_true] at h
 refine ⟨h.1,fun n hn=>?_⟩
 have:=h.2 n hn
 simpa using this
theorem mR:∀ (ms:List Int),(∀ n∈ms,1≤n∧n≤3)→1≤(cB ms.reverse).length∧(cB ms.reverse).length≤3 ^ ms.length
 | [],_=>by simp [cB]
 | m::ms,h=>by
  rw [List.reverse_cons,lS,iI,List.length_cons,Nat.pow_succ]
  obtain ⟨h1,h2⟩:=mR ms fun n hn=>h n (List.mem_cons_of_mem _ hn)
  obtain ⟨h3,h4⟩:=h m List.mem_cons_self
  have h5:1≤m.toNat:=by omega
  have h6:m.toNat≤3:=by omega
  exact ⟨Nat.mul_le_mul h1 h5,Nat.mul_le_mul h2 h6⟩
theorem iB {ns:List Int} (h:cE ns=true):1≤(cB ns).length∧(cB ns).length≤27:=by
 obtain ⟨h1,h2⟩:=cR h
 have q:=mR ns.reverse fun n hn=>h2 n (List.mem_reverse.mp hn)
 rw [List.reverse_reverse,List.length_reverse] at q
 refine ⟨q.1,Nat.le_trans q.2 ?_⟩
 exact Nat.le_trans (Nat.pow_le_pow_right (n:=3) (by decide) h1) (by decide)
theorem l6 {ds:List D}{f:List Int→D}{d:D} (h:gP ds f=some d):∃ ns,ds=ns.map D.int∧cE ns=true∧d=f ns:=by
 unfold gP at h
 split at h
 ·rename_i ns e
  split at h
  ·rename_i ho
   cases h
   exact ⟨ns,mF e,ho,rfl⟩
  ·cases h
 ·cases h
theorem jX {ns:List Int} (f:List Int→D) (h:cE ns=true):gP (ns.map D.int) f=some (f ns):=by
 unfold gP
 rw [iC]
 simp [h]
theorem xM {d:D} (h:eV d=true):∃ ns:List Int,d=aN ns∧cE ns=true∧2≤ns.length:=by
 unfold eV at h
 split at h
 ·rename_i ds
  rw [Bool.and_eq_true,Bool.and_eq_true,decide_eq_true_eq,decide_eq_true_eq,List.all_eq_true] at h
  obtain ⟨⟨h1,h2⟩,h3⟩:=h
  have key:∀ es:List D,(∀ x∈es,bZ x 1 3=true)→∃ ns:List Int,es=ns.map D.int∧∀ n∈ns,1≤n∧n≤3:=by
   intro es
   induction es with
   | nil=>exact fun _=>⟨[],rfl,fun n hn=>by simp at hn⟩
   | cons e es ih=>
    intro hh
    obtain ⟨ns,e1,e2⟩:=ih fun x hx=>hh x (List.mem_cons_of_mem _ hx)
    have q:=hh e List.mem_cons_self
    unfold bZ at q
    split at q
    ·rename_i i
     refine ⟨i::ns,by rw [List.map_cons,← e1],fun n hn=>?_⟩
     rcases List.mem_cons.mp hn with rfl | hn
     ·simpa using q
     ·exact e2 n hn
    ·cases q
  obtain ⟨ns,e1,e2⟩:=key ds h3
  have hl:ds.length=ns.length:=by rw [e1,List.length_map]
  refine ⟨ns,by rw [e1],?_,by omega⟩
  unfold cE
  rw [Bool.and_eq_true,decide_eq_true_eq,List.all_eq_true]
  exact ⟨by omega,fun n hn=>by simpa using e2 n hn⟩
 ·cases h
def aR (K:PySem.W.Frag) (mg:Str→Option Value) (x:Str) (st:Stmt) (ps:List Str):Prop:=∃ f fd,zM K x x st f fd∧mg x=some (.ref f)∧j3 K fd ps []
theorem aAA {K:PySem.W.Frag}{h:Heap}{mg:Str→Option Value}{x:Str}{st:Stmt}{ps:List Str}{f:Addr}{od an:Option Addr}{sl:Array (Option Value)}{oc kV dc pm cd ct:Value} (X:K.In h) (G:h.Ns mainGlobals mg)
  (a:PySem.W.nsIn K mainGlobals x=some (some (.ref f))) (l:K.lookup f=some ⟨oc,od,.func (PySem.W.fnOf x x (iU st) (aS st) (aB st) .none kV dc pm an cd ct),sl⟩) (c:PySem.W.codeIn K cd x=true) (k:PySem.W.keepIn K (.ref f)=true)
  (hb:∀ (kV doc pm:Value) (an:Option Addr) (cdv ct:Value) (us:List Value),us.length=ps.length→bindArgs (PySem.W.fnOf x x (iU st) (aS st) (aB st) .none kV doc pm an cdv ct) ⟨us,[]⟩=pure (ps.zip us)):aR K mg x st ps:=
 ⟨f,_,xO (st:=st) l c k,PySem.W.mg_of X G a,(xO (st:=st) l c k).binds hb⟩
theorem aEO {P:Program}{w:World}{K:PySem.W.Frag}{mg:Str→Option Value}{base:Heap}{x qual:Str}{st:Stmt}{f:Addr}{fd:FuncData}{N ps:List Str}{k:Nat}{F:List D→Option (D→Prop)}{g:GS} (Fn:zM K x qual st f fd) (S:aX N ps (aB st))
  (hl:∀ ds p,F ds=some p→ds.length=ps.length)
  (hb:∀ (cdv:Value) (A:Around) (outer:List Env) (s:Shared) (H:Hp) (E:XK),cM k (A.deeper (envOfC qual (aB st) s.heap.objs.size f cdv))→kW (fV lJ P w K mg base N qual (aB st) f cdv A outer s H E).nox (aS st) g)
  (hv:∀ ds p,F ds=some p→g { nx:=fun _=>p .non,rt:=p } (aZ N ds)):kF P w K mg base lJ (k+1) f fd ps (spR K F):=by
 refine Fn.ok S (fun vs H Q E h=>?_) (fun cdv A outer s H vs Q E hr h=>?_)
 ·obtain ⟨C,ds,p,_,n,e,_⟩:=h
  rw [n.length]
  exact hl ds p e
 ·obtain ⟨C,ds,pd,ch,n,e,q⟩:=h
  obtain ⟨t,p,h⟩:=hb cdv A outer s H E hr
  refine ⟨t,p,h C H (aZ N ds) (g8 N vs) C H _ _ (kU ch n) (hv ds pd e) ⟨fun δ σ C' H' rp z=>?_,fun r v C' H' ex nv z=>?_,fun _ _ _ _ _ z=>z.elim,fun _ _ _ _ _ z=>z.elim⟩⟩
  ·exact q .non _ C' H' z rp.ext (bY.mpr rfl)
  ·exact q r v C' H' z ex nv
theorem us1 {P:List Value→Prop} (h:∀ a,P [a]):∀ us:List Value,us.length=1→P us
 | [a],_=>h a
theorem us2 {P:List Value→Prop} (h:∀ a b,P [a,b]):∀ us:List Value,us.length=2→P us
 | [a,b],_=>h a b
theorem us3 {P:List Value→Prop} (h:∀ a b c,P [a,b,c]):∀ us:List Value,us.length=3→P us
 | [a,b,c],_=>h a b c
def qV (x:D):List D→Option (List Bool)
 | []=>some []
 | y::ys=>match gY y x,qV x ys with
  | some a,some b=>some (a::b)
  | _,_=>none
theorem yS {x:D}:∀ {ds:List D}{bs:List Bool},qV x ds=some bs→bs.length=ds.length∧∀ (j:Nat) d,ds[j]? = some d→∃ b,bs[j]? = some b∧gY d x=some b
 | [],bs,h=>by
  cases h
  exact ⟨rfl,fun j d e=>by simp at e⟩
 | y::ys,bs,h=>by
  unfold qV at h
  cases e1:gY y x with
  | none=>rw [e1] at h;cases h
  | some a=>
   cases e2:qV x ys with
   | none=>rw [e1,e2] at h;cases h
   | some b=>
    rw [e1,e2] at h
    cases h
    obtain ⟨h1,h2⟩:=yS e2
    refine ⟨by simp [h1],fun j d e=>?_⟩
    cases j with
    | zero=>cases e;exact ⟨a,rfl,e1⟩
    | succ j=>exact h2 j d e
section
variable {X:Cx}{pins:List (Addr×Obj)}{σ:St}{H C:Hp}{s:Shared}
open Classical in
noncomputable def uA (K:PySem.W.Frag) (C:Hp) (x:D) (u:Value):Bool:=decide (∃ z d,cC z u∧fI K C z d∧gY d x=some true)
open Classical in
theorem mQ (I:aP X pins σ H s) (ch:bL C H) {A:Around}{dx:D}{x:V}{v:Value}{xs:List V}{its:List Value}{ds:List D}{bs:List Bool} (hu:A.units+32<cLine) (hd:iM ds≤32) (rx:cC x v) (nx:fI X.K C x dx)
  (r:bO xs its) (n:aT X.K C xs ds) (h:qV dx ds=some bs):(∀ y∈its,SeqAt.EqAt A s y v (uA X.K C dx y))∧its.map (uA X.K C dx)=bs:=by
 obtain ⟨h1,h2⟩:=yS h
 have key:∀ (j:Nat) y,its[j]? = some y→∃ b,bs[j]? = some b∧uA X.K C dx y=b∧SeqAt.EqAt A s y v b:=by
  intro j y e
  have hj:j<its.length:=(List.getElem?_eq_some_iff.mp e).1
  have hl:=r.length
  have hl2:=n.length
  have ed:ds[j]? = some (ds[j]'(by omega)):=List.getElem?_eq_getElem _
  obtain ⟨z,ez,nz⟩:=n.get ed
  obtain ⟨y',ey,ry⟩:=r.get ez
  rw [e] at ey
  cases ey
  obtain ⟨b,eb,q⟩:=h2 j _ ed
  refine ⟨b,eb,?_,yC I ch 32 _ dx b A z x y v (Nat.le_trans (kZ ed) hd) hu q ry rx nz nx⟩
  cases b with
  | true=>
   unfold uA
   exact decide_eq_true ⟨z,_,ry,nz,q⟩
  | false=>
   unfold uA
   refine decide_eq_false fun ⟨z',d',r',n',q'⟩=>?_
   have e1:=r'.inj ry
   subst e1
   have e2:=o0 I ch _ _ n' nz
   subst e2
   rw [q] at q'
   cases q'
 refine ⟨fun y hy=>?_,?_⟩
 ·obtain ⟨j,hj,rfl⟩:=List.mem_iff_getElem.mp hy
  obtain ⟨b,_,e,q⟩:=key j _ (List.getElem?_eq_getElem hj)
  rw [e];exact q
 ·refine List.ext_getElem? fun j=>?_
  rw [List.getElem?_map]
  cases e:its[j]? with
  | none=>
   have:its.length≤j:=List.getElem?_eq_none_iff.mp e
   have hl:=r.length
   have hl2:=n.length
   exact (List.getElem?_eq_none_iff.mpr (by omega)).symm
  | some y=>
   obtain ⟨b,eb,e2,_⟩:=key j y e
   rw [eb,Option.map_some,e2]
end
section
variable {X:Cx}{a b c e o:Expr}{es:List Expr}{pos:Pos}{ga gb gc gd:GE}{gf:GF}
def aA5:D→Option (List D)
 | .tup ds=>some ds
 | .lst ds=>some ds
 | _=>none
def tR:GO:=fun x y Q=>match aA5 y with
 | some ds=>iM ds≤32∧match qV x ds with
  | some bs=>Q (.bl (!bs.any id))
  | none=>False
 | none=>False
def aEK (K:PySem.W.Frag) (neg:Bool):R2:=fun x y H R=>∃ C dx p xs ds bs,bL C H∧fI K C x dx∧y = .ref p∧(jH K H p xs∨kC K H p xs)∧aT K C xs ds∧iM ds≤32∧qV dx ds=some bs∧R (.bl (if neg then !bs.any id else bs.any id)) H
theorem yL (its:List Value) (f:Value→Bool):its.toArray.any f=(its.map f).any id:=by
 simp [List.any_map,Function.comp_def]
theorem aCt {K:PySem.W.Frag}{C H:Hp}{v:V}{y:D}{ds:List D} (ch:bL C H) (n:fI K C v y) (e:aA5 y=some ds):∃ p xs,v = .ref p∧(jH K H p xs∨kC K H p xs)∧aT K C xs ds:=by
 cases y with
 | tup ys=>cases e;obtain ⟨p,xs,rfl,hx,hd⟩:=bA.mp n;exact ⟨p,xs,rfl,.inr (ch.seqT hx),hd⟩
 | lst ys=>cases e;obtain ⟨p,xs,rfl,hx,hd⟩:=aV.mp n;exact ⟨p,xs,rfl,.inl (ch.seq hx),hd⟩
 | _=>cases e
theorem aAw (hu:X.A.units+64<cLine):tO X (compareOp .NotIn) tR:=by
 refine ⟨aEK X.K true,fun pins s σ H x y v u Q I rx ry h=>?_,fun x y dx dy C H Q R ch n1 n2 q k=>?_⟩
 ·obtain ⟨C,dx,p,xs,ds,bs,ch,nx,rfl,hq,nd,hd,ha,q⟩:=h
  cases ry
  rcases hq with hq | hq
  ·obtain ⟨its,r,pl,hz⟩:=I.list hq
   obtain ⟨h1,h2⟩:=mQ I ch (A:=X.A.in1) (by show X.A.units+1+32<cLine;omega) hd rx nx r nd ha
   refine SeqAt.notIn_listAt (uA X.K C dx) pl.isList (fun w hw=>h1 w (by simpa using hw)) ⟨.bl _,H,I,rfl,?_⟩
   rw [yL,h2]
   exact q
  ·obtain ⟨its,r,pl,hz⟩:=I.tuple hq
   obtain ⟨h1,h2⟩:=mQ I ch (A:=X.A.in1) (by show X.A.units+1+32<cLine;omega) hd rx nx r nd ha
   refine SeqAt.notIn_tupleAt (uA X.K C dx) pl (fun w hw=>h1 w (by simpa using hw)) ⟨.bl _,H,I,rfl,?_⟩
   rw [yL,h2]
   exact q
 ·unfold tR at q
  split at q
  ·rename_i ds e
   obtain ⟨hd,q⟩:=q
   split at q
   ·rename_i bs e2
    obtain ⟨p,xs,rfl,hx,nd⟩:=aCt ch n2 e
    exact ⟨C,dx,p,xs,ds,bs,ch,n1,rfl,hx,nd,hd,e2,k _ _ C H q (b5.refl ch) (bH.mpr rfl)⟩
   ·exact q.elim
  ·exact q.elim
def yP (K:PySem.W.Frag):V→List V→Hp→VK→Prop:=fun l vs H R=>∃ C dx x p xs ds bs,∃ j:Nat,bL C H∧vs=[x]∧fI K C x dx∧l = .ref p∧jH K H p xs∧aT K C xs ds∧iM ds≤32∧qV dx ds=some bs∧bs[j]? = some true∧(∀ i:Nat,i<j→bs[i]? = some false)∧R (.int (j:Int)) H
theorem aAx (hu:X.A.units+64<cLine):MtR X "list.index" (yP X.K):=by
 intro pins s σ H l vs v us Q I rl rv h
 obtain ⟨C,dx,x,p,xs,ds,bs,j,ch,rfl,nx,rfl,hq,nd,hd,ha,hj,hno,q⟩:=h
 cases rl
 obtain ⟨u,rfl,rx⟩:=p5 rv
 obtain ⟨its,r,pl,hz⟩:=I.list hq
 have hlen:=r.length
 obtain ⟨⟨cls,dd,data,sl⟩,ho,hc,n,hdt⟩:=id pl.isList
 simp only at hc hdt
 subst hc hdt
 obtain ⟨h1,h2⟩:=mQ I ch (A:=X.A.in1.in1) (by show X.A.units+1+1+32<cLine;omega) hd rx nx r nd ha
 obtain ⟨h1',_⟩:=mQ I ch (A:=X.A.in1) (by show X.A.units+1+32<cLine;omega) hd rx nx r nd ha
 have hjl:j<its.length:=by
  have:=(List.getElem?_eq_some_iff.mp hj).1
  rw [← h2,List.length_map] at this
  exact this
 have at_:∀ (i:Nat) (hi:i<its.toArray.size) (b:Bool),bs[i]? = some b→uA X.K C dx its.toArray[i]=b:=by
  intro i hi b e
  have hi':i<its.length:=by simpa using hi
  rw [← h2,List.getElem?_map,List.getElem?_eq_getElem hi'] at e
  simpa using e
 have hz2:(sizeLine:Int)<2 ^ 63-1:=by decide
 refine call_meets F.slot_list_index ⟨_,ho,rfl⟩ F.entry_list_index (F.args_list_index_2 _ _) (SeqAt.list_indexAt p its.toArray n dd sl u (uA X.K C dx) j (by simpa using hjl) (by omega) (at_ j _ true hj) (fun m hm hmj=>at_ m hm false (hno m hmj))) ⟨ho,?_,?_⟩
 ·intro y hy
  first | exact h1 y (by simpa using hy) | exact h1' y (by simpa using hy)
 ·exact ⟨.int j,H,I.tok _,⟨_,rfl⟩,q⟩
def mC:List Bool→Option Nat
 | []=>none
 | true::_=>some 0
 | false::r=>(mC r).map (· + 1)
theorem sG:∀ {bs:List Bool}{j:Nat},mC bs=some j→bs[j]? = some true∧∀ i:Nat,i<j→bs[i]? = some false
 | true::r,j,h=>by cases h;exact ⟨rfl,fun i hi=>by omega⟩
 | false::r,j,h=>by
  unfold mC at h
  cases e:mC r with
  | none=>rw [e] at h;cases h
  | some k=>
   rw [e] at h
   cases h
   obtain ⟨h1,h2⟩:=sG e
   refine ⟨h1,fun i hi=>?_⟩
   cases i with
   | zero=>rfl
   | succ i=>exact h2 i (by simp at hi;omega)
def wZ (ga gb:GE):GE:=fun δ Q=>ga δ fun d=>match d with
 | .lst ds=>gb δ fun x=>iM ds≤32∧match qV x ds with
  | some bs=>match mC bs with
   | some j=>Q (.int j)
   | none=>False
  | none=>False
 | _=>False
theorem aA6 {p2:Pos} (hu:X.A.units+64<cLine) (ha:DE X a ga) (hb:DE X b gb)
  (hp:∀ {to:TE}{t:TA},PE X a to→PA X [b] t→PE X (.Call (.Attribute a "index" p2) [b] [] pos) (tBM X.K "list" (yP X.K) to t)) (hs:starEach [b] X.env=[(false,eval b X.env)]:=by rfl):DE X (.Call (.Attribute a "index" p2) [b] [] pos) (wZ ga gb):=by
 obtain ⟨t1,p1,h1⟩:=ha
 obtain ⟨t2,p2,h2⟩:=hb
 refine ⟨_,hp p1 (dR p2 g5 hs),fun C0 H0 δ σ C H Q R rp g k=>?_⟩
 refine h1 C0 H0 δ σ C H _ _ rp g fun d v C1 H1 q e1 n1=>?_
 cases d with
 | lst ds=>
  obtain ⟨p,xs,rfl,hx,hd⟩:=aV.mp n1
  refine ⟨.inl ⟨rfl,xs,e1.ch.seq hx⟩,h2 C0 H0 δ σ C1 H1 _ _ (rp.grow e1) q fun d2 v2 C2 H2 q2 e2 n2=>?_⟩
  obtain ⟨hdp,q2⟩:=q2
  split at q2
  ·rename_i bs ea
   split at q2
   ·rename_i j ej
    obtain ⟨f1,f2⟩:=sG ej
    exact ⟨C2,d2,v2,p,xs,ds,bs,j,e2.ch,rfl,n2,rfl,e2.ch.seq (e2.cc.seq hx),hd.mono e2.cc,hdp,ea,f1,f2,k _ _ C2 H2 q2 (e1.trans e2) (aM.mpr rfl)⟩
   ·exact q2.elim
  ·exact q2.elim
 | _=>exact q.elim
end
open AutoSeq1 (wpAny_loadPart')
section
variable {prog:Program}{w:World}{A:Around}{E:Value→Shared→Prop}{s:Shared}
end
section
variable {X:Cx}
variable {a b c e:Expr}{es:List Expr}{pos:Pos}{ga gb:GE}
def aCM (ds:List D):List D:=(List.range ds.length).zipWith (fun (k:Nat) d=>D.tup [.int k,d]) ds
def fD (ga:GE):GF:=fun δ Q=>ga δ fun d=>match d with
 | .tup xs=>Q (aCM xs)
 | _=>False
def fF (ga:GE):GF:=fun δ Q=>ga δ fun d=>match d with
 | .lst xs=>Q (aCM xs)
 | _=>False
end
end L2
namespace L2
open PySem PySem.Spec PyProof.Rows
section
variable {prog:Program}{w:World}{A:Around}
end
section
variable {X:Cx}
def l5:List D→(D→Prop)→Prop:=fun ds Q=>match ds with
 | [.bl b]=>Q (.int (if b then 1 else 0))
 | [.int i]=>Q (.int i)
 | _=>False
def vC:D→Bool
 | .non=>true
 | _=>false
theorem zL {K:PySem.W.Frag}{C:Hp}{v:V}{d:D} (n:fI K C v d):decide (v=V.non)=vC d:=by
 cases d with
 | non=>rw [bY.mp n];rfl
 | int i=>rw [aM.mp n];rfl
 | bl i=>rw [bH.mp n];rfl
 | str i=>rw [aW.mp n];rfl
 | tup ds=>obtain ⟨p,xs,rfl,_⟩:=bA.mp n;rfl
 | lst ds=>obtain ⟨p,xs,rfl,_⟩:=aV.mp n;rfl
def mZ:GO:=fun x y Q=>match y with
 | .non=>Q (.bl (!vC x))
 | .bl b=>match x with
  | .bl a=>Q (.bl (a != b))
  | _=>False
 | _=>False
theorem r6:tO X (compareOp .IsNot) mZ:=by
 refine ⟨_,zJ.or aCs,fun x y dx dy C H Q R ch n1 n2 q k=>?_⟩
 cases dy with
 | non=>exact .inr ⟨bY.mp n2,k _ _ C H q (b5.refl ch) (bH.mpr (by rw [zL n1]))⟩
 | bl j=>
  cases dx with
  | bl i=>exact .inl ⟨i,j,bH.mp n1,bH.mp n2,k _ _ C H q (b5.refl ch) (bH.mpr rfl)⟩
  | _=>exact q.elim
 | _=>exact q.elim
variable {a b c e:Expr}{es:List Expr}{pos:Pos}{ga gb gc:GE}{gf:GF}
def aAb (ga:GE) (gl gh:GP):GF:=fun δ Q=>ga δ fun d=>gl δ fun lo=>gh δ fun hi=>match d with
 | .lst ds=>Q (rG ds lo hi)
 | _=>False
theorem xC {lo hi:Option Expr}{gl gh:GP}{p2:Pos} (ha:DE X a ga) (hl:DO X lo gl) (hh:DO X hi gh):DF X (.Subscript a (.Slice lo hi none p2) pos) (aAb ga gl gh):=by
 obtain ⟨t1,p1,h1⟩:=ha
 obtain ⟨t2,p2',h2⟩:=hl
 obtain ⟨t3,p3,h3⟩:=hh
 refine ⟨_,vE aCa p1 p2' p3,fun C0 H0 δ σ C H Q R rp g k=>?_⟩
 refine h1 C0 H0 δ σ C H _ _ rp g fun d v C1 H1 q e1 n1=>h2 C0 H0 δ σ C1 H1 _ _ (rp.grow e1) q fun o C2 H2 q2 e2=>h3 C0 H0 δ σ C2 H2 _ _ ((rp.grow e1).grow e2) q2 fun o2 C3 H3 q3 e3=>?_
 have n1':=(n1.mono e2.cc).mono e3.cc
 have e123:=e1.trans (e2.trans e3)
 cases d with
 | lst ds=>
  obtain ⟨p,xs,rfl,hx,hd⟩:=aV.mp n1'
  exact ⟨p,xs,rfl,e3.ch.seq hx,fun p' hp=>k _ p' _ C3 _ q3 (e123.trans (b5.newO e3.ch hp)) (e3.ch.free hp) (e123.hh.free hp) bD (aBr hd)⟩
 | _=>exact q3.elim
def lY (i j:Nat) (ga gb:GE):GS:=fun De δ=>ga δ fun x=>gb δ fun y=>De.nx ((δ.set i (.im x)).set j (.im y))
end
section
variable {X:Cx}{a b c e:Expr}{es:List Expr}{pos:Pos}{ga gb gc:GE}{gf:GF}{ta:TE}
theorem aB8 (ha:PE X a ta):PE X (.UnaryOp .Not a pos) (fun σ H Q=>ta σ H fun x H'=>∃ k,aDv X.K x H' k∧Q (.bl (!k)) H'):=by
 intro pins s σ H Q I h
 refine UnaryOp_ (dW (ha pins s σ H _ I h) fun v s1 ⟨x,H1,I1,r1,q1⟩=>?_)
 exact not_of (dW (aBf pins s1 σ H1 x v (fun k H'=>Q (.bl (!k)) H') I1 r1 q1) fun k s2 ⟨H2,I2,q2⟩=>⟨.bl (!k),H2,I2,rfl,q2⟩)
def lD (d:D) (Q:Bool→Prop):Prop:=match d with
 | .bl b=>Q b
 | .int i=>Q (i != 0)
 | .non=>Q false
 | .str x=>x.length≤sizeLine∧Q ((x.length:Int) != 0)
 | .tup ds=>Q (!ds.isEmpty)
 | .lst ds=>Q (!ds.isEmpty)
def gW (ga:GE):GE:=fun δ Q=>ga δ fun d=>lD d fun k=>Q (.bl (!k))
theorem aCu (ha:DE X a ga):DE X (.UnaryOp .Not a pos) (gW ga):=by
 obtain ⟨t1,p1,h1⟩:=ha
 refine ⟨_,aB8 p1,fun C0 H0 δ σ C H Q R rp g k=>h1 C0 H0 δ σ C H _ _ rp g fun d v C1 H1 q e1 n1=>?_⟩
 have fin:∀ b:Bool,Q (.bl (!b))→R (.bl (!b)) H1:=fun b q=>k _ _ C1 H1 q e1 (bH.mpr rfl)
 cases d with
 | bl b=>rw [bH.mp n1];exact ⟨b,rfl,fin _ q⟩
 | int i=>rw [aM.mp n1];exact ⟨_,rfl,fin _ q⟩
 | non=>rw [bY.mp n1];exact ⟨_,rfl,fin _ q⟩
 | str i=>rw [aW.mp n1];exact ⟨_,⟨q.1,rfl⟩,fin _ q.2⟩
 | tup ds=>
  obtain ⟨p,xs,rfl,hx,hd⟩:=bA.mp n1
  refine ⟨_,.inr (.inl ⟨xs,e1.ch.seqT hx,rfl⟩),fin _ ?_⟩
  rw [jK hd];exact q
 | lst ds=>
  obtain ⟨p,xs,rfl,hx,hd⟩:=aV.mp n1
  refine ⟨_,.inl ⟨xs,e1.ch.seq hx,rfl⟩,fin _ ?_⟩
  rw [jK hd];exact q
end
section
variable {prog:Program}{w:World}{A:Around}{R:Result→Shared→Prop}
end
namespace HG
section
open PySem.SeqAt
open PySem.AutoSeq1 (wpAny_loadPart')
open PySem.MeetsSeq PySem.MeetsSeq2 PySem.MeetsSeq3
end
end HG
section
variable {X:Cx}
end
end L2
namespace L2
open PySem PySem.Spec PyProof.Rows
structure Fl (P:Program) (w:World) (outer:List Env) (H H':Hp) (s:Shared) (B:Heap) (a:Addr) (cls a0:Value) (h':Heap):Prop where
 un:Un (frs outer) [] H H' s.heap h'
 kb:∀ b o,s.heap.get? b=some o→H b=none→b∉frs outer→B.get? b=some o
 kt:∀ b o,s.heap.get? b=some o→b∉frs outer→∃ o',B.get? b=some o'
 hok:nE P w H' B
 fl:Heap.FlyingW B outer a cls a0 h'
theorem cX (b:Addr):b∉([]:List Addr):=fun z=>absurd z (by simp)
section
variable {P:Program}{w:World}{outer:List Env}{H H':Hp}{s:Shared}{B h' h'':Heap}{a:Addr}{cls a0:Value}
theorem y9 (free:∀ b o,s.heap.get? b=some o→H b=none→H' b=none) (tups:∀ b xs,H b=some (.tup xs)→H' b=some (.tup xs)) (frzs:∀ b o u,H b=some (.frz o u)→H' b=some (.frz o u)) (tbls:∀ b ps,H b=some (.tbl ps)→∃ more,H' b=some (.tbl (ps++more)))
  (kb:∀ b o,s.heap.get? b=some o→H b=none→b∉frs outer→B.get? b=some o) (kt:∀ b o,s.heap.get? b=some o→b∉frs outer→∃ o',B.get? b=some o') (st:B.StaysIn h'')
  (sl:∀ b o,s.heap.get? b=some o→b∈frs outer→H b=none→∃ sl,h''.get? b=some { o with slots:=sl }) (fr:∀ b∈frs outer,H b=none):Un (frs outer) [] H H' s.heap h'' where
 keep:=fun b o q n hb _=>st b o (kb b o q n hb)
 slot:=fun b o q n hb _=>sl b o q hb n
 free:=fun b o q n _=>free b o q n
 there:=fun b o q _=>by
  by_cases hb:b∈frs outer
  ·obtain ⟨x,e⟩:=sl b o q hb (fr b hb)
   exact ⟨_,e⟩
  ·obtain ⟨o',e⟩:=kt b o q hb
   exact ⟨o',st b o' e⟩
 tups:=tups
 frzs:=frzs
 tbls:=tbls
theorem Fl.next (F:Fl P w outer H H' s B a cls a0 h') (fr:∀ b∈frs outer,H b=none) (fl:Heap.FlyingW B outer a cls a0 h'') (up:h'.UpToSlots h''):Fl P w outer H H' s B a cls a0 h'':=by
 refine ⟨y9 (fun b o q n=>F.un.free b o q n (cX b)) F.un.tups F.un.frzs F.un.tbls F.kb F.kt fl.1 (fun b o q hb n=>?_) fr,F.kb,F.kt,F.hok,fl⟩
 obtain ⟨sl,e⟩:=F.un.slot b o q n hb (cX b)
 obtain ⟨_,o2,e2,nf⟩:=F.fl.2.2.1.mem hb
 rw [e] at e2
 cases e2
 obtain ⟨sl2,e3⟩:=up b _ e nf
 exact ⟨sl2,e3⟩
end
def wV (P:Program) (w:World):CXT:=fun outer H s E e s'=>∃ (a:Addr) (cls a0:Value) (H':Hp) (B:Heap),e = .ref a∧s'.os=s.os∧AllBare s'.gens∧Fl P w outer H H' s B a cls a0 s'.heap∧E cls none H'
section
variable {P:Program}{w:World}{K:PySem.W.Frag}{mg:Str→Option Value}{base:Heap}{N:List Str}{qual:Str}{scope:Scope}{f:Addr}{cd:Value}{A:Around}{outer:List Env}{s:Shared}{H:Hp}{E E':XK}
abbrev mE (P:Program) (w:World) (K:PySem.W.Frag) (mg:Str→Option Value) (base:Heap) (N:List Str) (qual:Str) (scope:Scope) (f:Addr) (cd:Value) (A:Around) (outer:List Env) (s:Shared) (H:Hp) (E:XK):Cx:=fV (wV P w) P w K mg base N qual scope f cd A outer s H E
theorem lB {pins:List (Addr×Obj)}{σ:St}{H1:Hp}{s1:Shared} (I:aP (mE P w K mg base N qual scope f cd A outer s H E) pins σ H1 s1) {b:Addr}{o:Obj} (q:s.heap.get? b=some o) (hb:b∉frs outer):b∉frs (mE P w K mg base N qual scope f cd A outer s H E).stack:=fun z=>by
 rcases List.mem_cons.mp (I.stkSub b z) with z | z
 ·have lt:=Heap.lt_size q
  have ab:s.heap.objs.size≤b:=by rw [z];exact I.ok.above
  exact absurd (Nat.lt_of_lt_of_le lt ab) (Nat.lt_irrefl _)
 ·exact hb z
theorem xN {pins:List (Addr×Obj)}{σ:St}{H1:Hp}{s1 s2:Shared}{a:Addr}{cls:Value}{args:List Value} (I:aP (mE P w K mg base N qual scope f cd A outer s H E) pins σ H1 s1) (hx:Heap.MadeExcOf s1.heap s2.heap a cls args)
  (ho:s2.os=s1.os) (hg:AllBare s2.gens) (hE:E cls none H1):(mE P w K mg base N qual scope f cd A outer s H E).xe (.ref a) s2:=by
 have hin:∀ env∈(mE P w K mg base N qual scope f cd A outer s H E).stack,∀ b,env.frame=some b→b∈frs (mE P w K mg base N qual scope f cd A outer s H E).stack:=fun env he b hb=>List.mem_filterMap.mpr ⟨env,he,hb⟩
 have hl:=PySem.W.funFrames_hide I.stack hin
 refine wpAny_leaves_madeW (base:=PySem.W.hideAll s1.heap (frs (mE P w K mg base N qual scope f cd A outer s H E).stack)) (h:=s1.heap) I.ok.frames rfl (fun b o q=>PySem.W.of_hideAll _ q) hl hx fun h' t x1 x2 x3 x4=>?_
 have kb:∀ b o,s.heap.get? b=some o→H b=none→b∉frs outer→(PySem.W.hideAll s1.heap (frs (mE P w K mg base N qual scope f cd A outer s H E).stack)).get? b=some o:=fun b o q n hb=>
  PySem.W.hideAll_get _ (I.base.keep b o q n hb (cX b)) (lB I q hb)
 have kt:∀ b o,s.heap.get? b=some o→b∉frs outer→∃ o',(PySem.W.hideAll s1.heap (frs (mE P w K mg base N qual scope f cd A outer s H E).stack)).get? b=some o':=fun b o q hb=>by
  obtain ⟨o',e⟩:=I.base.there b o q (cX b)
  exact ⟨o',PySem.W.hideAll_get _ e (lB I q hb)⟩
 have hok:nE P w H1 (PySem.W.hideAll s1.heap (frs (mE P w K mg base N qual scope f cd A outer s H E).stack)):=fun c u e=>by
  refine (I.hok c u e).stay (fun b u' hb q=>PySem.W.hideAll_get _ q fun z=>?_) (fun _ q=>q) (fun _ _ q=>q) fun _ _ _ q=>q
  have z0:=I.stkFree b z
  rcases hb with rfl | hb
  ·rw [e] at z0;cases z0
  ·rw [hb] at z0;cases z0
 refine ⟨a,cls,.ref t,H1,_,rfl,ho.trans I.os,hg,⟨y9 (fun b o q n=>I.base.free b o q n (cX b)) I.base.tups I.base.frzs I.base.tbls kb kt x1.1 (fun b o q hb n=>?_) I.ok.frf,kb,kt,hok,x1⟩,hE⟩
 obtain ⟨sl,e⟩:=I.base.slot b o q n hb (cX b)
 obtain ⟨_,o2,e2,nf⟩:=I.funs.mem hb
 rw [e] at e2
 cases e2
 obtain ⟨sl2,e3⟩:=x4 b _ (hx.keeps b _ e) nf
 exact ⟨sl2,e3⟩
theorem aCD (hE:∀ cls H',E' cls none H'→E cls none H'):iY (wV P w) (mE P w K mg base N qual scope f cd A outer s H E) E':=by
 intro pins σ H1 s1 e s' I hc
 obtain ⟨a,cls,a0,H',B,rfl,ho,hg,F,hq⟩:=hc
 refine wpAny_leaves_onW I.ok.frames rfl F.fl fun h' x1 x2=>?_
 have F1:=F.un
 have kb:∀ b o,s.heap.get? b=some o→H b=none→b∉frs outer→B.get? b=some o:=fun b o q n hb=>
  F.kb b o (I.base.keep b o q n hb (cX b)) (I.base.free b o q n (cX b)) (lB I q hb)
 have kt:∀ b o,s.heap.get? b=some o→b∉frs outer→∃ o',B.get? b=some o':=fun b o q hb=>by
  obtain ⟨o',e⟩:=I.base.there b o q (cX b)
  exact F.kt b o' e (lB I q hb)
 refine ⟨a,cls,a0,H',B,rfl,ho.trans I.os,hg,⟨y9 (fun b o q n=>?_) (fun b xs q=>F1.tups b xs (I.base.tups b xs q)) (fun b o u q=>F1.frzs b o u (I.base.frzs b o u q)) (fun b ps q=>?_) kb kt x1.1 (fun b o q hb n=>?_) I.ok.frf,kb,kt,F.hok,x1⟩,hE _ _ hq⟩
 ·obtain ⟨o',e⟩:=I.base.there b o q (cX b)
  exact F1.free b o' e (I.base.free b o q n (cX b)) (cX b)
 ·obtain ⟨m1,e1⟩:=I.base.tbls b ps q
  obtain ⟨m2,e2⟩:=F1.tbls b _ e1
  exact ⟨m1++m2,by rw [e2,Array.append_assoc]⟩
 ·obtain ⟨sl,e⟩:=I.base.slot b o q n hb (cX b)
  have hb':b∈frs (mE P w K mg base N qual scope f cd A outer s H E).stack:=List.mem_cons_of_mem _ hb
  obtain ⟨sl1,e1⟩:=F1.slot b _ e (I.base.free b o q n (cX b)) hb' (cX b)
  obtain ⟨_,o2,e2,nf⟩:=F.fl.2.2.1.mem hb'
  rw [e1] at e2
  cases e2
  obtain ⟨sl2,e3⟩:=x2 b _ e1 nf
  exact ⟨sl2,e3⟩
end
theorem zM.okX {P:Program}{w:World}{K:PySem.W.Frag}{mg:Str→Option Value}{base:Heap}{x qual:Str}{st:Stmt}{f:Addr}{fd:FuncData}{N ps:List Str}{k:Nat}{sp:Sp} (F:zM K x qual st f fd) (S:aX N ps (aB st)) (len:∀ vs H Q E,sp vs H Q E→vs.length=ps.length)
  (hbody:∀ (cdv:Value) (A:Around) (outer:List Env) (s:Shared) (H:Hp) (vs:List V) (Q:VK) (E:XK),cM k (A.deeper (envOfC qual (aB st) s.heap.objs.size f cdv))→sp vs H Q E →
   ∃ t,uG (mE P w K mg base N qual (aB st) f cdv A outer s H E) (aS st) t∧t { nx:=fun _ H'=>Q .non H',rt:=Q } (g8 N vs) H):kF P w K mg base (wV P w) (k+1) f fd ps sp:=by
 obtain ⟨oc,od,kV,doc,pm,an,cdv,ct,osl,rfl,lk,hcd⟩:=F.ex
 exact aCS lk hcd S len fun A outer s H vs Q E hr hsp=>hbody cdv A outer s H vs Q E hr hsp
theorem kF.calm {P:Program}{w:World}{K:PySem.W.Frag}{mg:Str→Option Value}{base:Heap}{k:Nat}{f:Addr}{fd:FuncData}{ps:List Str}{sp sp':Sp} (F:kF P w K mg base (wV P w) k f fd ps sp)
  (h:∀ vs H Q E,sp' vs H Q E→sp vs H Q (fun _ _ _=>False)):kF P w K mg base lJ k f fd ps sp':=by
 refine ⟨fun vs H Q E q=>F.len vs H Q _ (h _ _ _ _ q),fun A outer s H args us vs Q E hr he hb hv hs=>codeAny_mono (F.run A outer s H args us vs Q (fun _ _ _=>False) hr he hb hv (h _ _ _ _ hs)) fun r s' hq=>?_⟩
 cases r with
 | error e=>obtain ⟨_,_,_,_,_,_,_,_,_,z⟩:=hq;exact z.elim
 | ok fl=>cases fl <;> exact hq
structure XEE (X:Cx) (EE:XK):Prop where
 pass:iY (wV X.prog X.w) X EE
 made:∀ (pins:List (Addr×Obj)) (σ:St) (H1:Hp) (s1 s2:Shared) (a:Addr) (cls:Value) (args:List Value),aP X pins σ H1 s1→Heap.MadeExcOf s1.heap s2.heap a cls args→s2.os=s1.os→s2.gens=s1.gens→EE cls none H1→X.xe (.ref a) s2
structure DEX extends DEnds where
 xc:Str→Prop
abbrev GX:=DEX→DS→Prop
def wQ (X:Cx) (EE:XK) (C0 H0:Hp) (xc:Str→Prop):Prop:=∀ c cls C' H',X.mg c=some cls→xc c→b5 C0 H0 C' H'→EE cls none H'
def DSX (X:Cx) (EE:XK) (st:Stmt) (g:GX):Prop:=∃ t,PS X st t∧∀ C0 H0 δ σ C H (De:DEX) E,wQ X EE C0 H0 De.xc→d0 X.K C0 H0 δ σ C H→g De δ→Adm X.K C0 H0 E De.toDEnds→t E σ H
def nO (X:Cx) (EE:XK) (sts:List Stmt) (g:GX):Prop:=∃ t,uG X sts t∧∀ C0 H0 δ σ C H (De:DEX) E,wQ X EE C0 H0 De.xc→d0 X.K C0 H0 δ σ C H→g De δ→Adm X.K C0 H0 E De.toDEnds→t E σ H
abbrev yM:=DS→(Str→Prop)→(D→Prop)→Prop
def DEx (X:Cx) (EE:XK) (e:Expr) (g:yM):Prop:=∃ t,PE X e t∧∀ C0 H0 δ σ C H (xc:Str→Prop) (Q:D→Prop) (R:VK),wQ X EE C0 H0 xc→d0 X.K C0 H0 δ σ C H→g δ xc Q→(∀ d v C1 H1,Q d→b5 C H C1 H1→fI X.K C1 v d→R v H1)→t σ H R
section
variable {X:Cx}{EE:XK}{a b c e tg iter:Expr}{st:Stmt}{sts s2:List Stmt}{es:List Expr}{pos:Pos}{ge:GE}{gi gf:GF}{gt:GT}{gg:GG}{g1 g2:GX}{gx:yM}{ss:List Nat}
def lM (g:GS):GX:=fun De δ=>g De.toDEnds δ
theorem o6 {g:GS} (h:DSt X st g):DSX X EE st (lM g):=by
 obtain ⟨t,p,h⟩:=h
 exact ⟨t,p,fun C0 H0 δ σ C H De E _ rp g k=>h C0 H0 δ σ C H De.toDEnds E rp g k⟩
theorem vT {g:GS} (h:kW X sts g):nO X EE sts (lM g):=by
 obtain ⟨t,p,h⟩:=h
 exact ⟨t,p,fun C0 H0 δ σ C H De E _ rp g k=>h C0 H0 δ σ C H De.toDEnds E rp g k⟩
def lI (g1 g2:GX):GX:=fun De δ=>g1 { De with nx:=g2 De } δ
theorem hZ (h1:DSX X EE st g1) (h2:nO X EE sts g2):nO X EE (st::sts) (lI g1 g2):=by
 obtain ⟨t1,p1,h1⟩:=h1
 obtain ⟨t2,p2,h2⟩:=h2
 refine ⟨_,vO p1 p2,fun C0 H0 δ σ C H De E te rp g k=>h1 C0 H0 δ σ C H { De with nx:=g2 De } { E with nx:=t2 E } te rp g ⟨fun δ' σ' C' H' rp' q=>?_,k.rt,k.bk,k.ct⟩⟩
 exact h2 C0 H0 δ' σ' C' H' De E te rp' q k
theorem k8 (h1:DSX X EE st g1):nO X EE [st] g1:=by
 obtain ⟨t1,p1,h1⟩:=h1
 exact ⟨_,tJ p1,h1⟩
def aCF (gt:GT) (g1 g2:GX):GX:=fun De δ=>gt δ fun c=>if c=true then g1 De δ else g2 De δ
theorem aCN (hc:DT X c gt) (h1:nO X EE sts g1) (h2:nO X EE s2 g2):DSX X EE (.If c sts s2 pos) (aCF gt g1 g2):=by
 obtain ⟨t0,p0,h0⟩:=hc
 obtain ⟨t1,p1,h1⟩:=h1
 obtain ⟨t2,p2,h2⟩:=h2
 refine ⟨_,aAr p0 p1 p2,fun C0 H0 δ σ C H De E te rp g k=>h0 C0 H0 δ σ C H _ _ rp g fun c C1 H1 q e1=>?_⟩
 cases c with
 | true=>exact tU (h1 C0 H0 δ σ C1 H1 De E te (rp.grow e1) (by simpa using q) k)
 | false=>exact xW (h2 C0 H0 δ σ C1 H1 De E te (rp.grow e1) (by simpa using q) k)
def aA2 (gx:yM):GX:=fun De δ=>gx δ De.xc De.rt
theorem aDl (he:DEx X EE e gx):DSX X EE (.Return (some e) pos) (aA2 gx):=by
 obtain ⟨t,p,h⟩:=he
 exact ⟨_,aBH p,fun C0 H0 δ σ C H De E te rp g k=>h C0 H0 δ σ C H _ _ _ te rp g fun d v C1 H1 q e1 n1=>k.rt d v C1 H1 (rp.ext.trans e1) n1 q⟩
def sR (gx:yM) (gg:GG):GX:=fun De δ=>gx δ De.xc fun d=>gg d δ De.nx
theorem yD (he:DEx X EE e gx) (hg:DG X tg ss gg) (hp:∀ {te:TE}{g:TG},PE X e te→PG X tg g→PS X (.Assign [tg] e pos) (zZ te g)):DSX X EE (.Assign [tg] e pos) (sR gx gg):=by
 obtain ⟨t,p,h⟩:=he
 obtain ⟨t2,p2,h2⟩:=hg
 refine ⟨_,hp p p2,fun C0 H0 δ σ C H De E te rp g k=>h C0 H0 δ σ C H _ _ _ te rp g fun d v C1 H1 q e1 n1=>?_⟩
 exact h2 C0 H0 δ σ C1 H1 v d _ _ (rp.grow e1) n1 q fun δ' σ' q' rp' _ _=>k.nx δ' σ' C1 H1 rp' q'
structure Out where
 ret:D→Prop
 exc:Str→Prop:=fun _=>False
def spX (K:PySem.W.Frag) (mg:Str→Option Value) (F:List D→Option Out):Sp:=fun vs H Q E=>∃ C ds o,bL C H∧aT K C vs ds∧F ds=some o∧(∀ d v C' H',o.ret d→b5 C H C' H'→fI K C' v d→Q v H')∧∀ c cls C' H',mg c=some cls→o.exc c→b5 C H C' H'→E cls none H'
def qC (P:Program) (w:World) (K:PySem.W.Frag) (mg:Str→Option Value) (base:Heap) (k:Nat) (x:Str) (F:List D→Option Out):Prop:=
 ∃ f fd ps,kF P w K mg base (wV P w) k f fd ps (spX K mg F)∧mg x=some (.ref f)∧PySem.W.keepIn K (.ref f)=true∧j3 K fd ps []
def jL (F:List D→Option Out) (gf:GF):yM:=fun δ xc Q=>gf δ fun ds=>match F ds with
 | some o=>(∀ c,o.exc c→xc c)∧∀ d,o.ret d→Q d
 | none=>False
theorem mO {F:List D→Option Out}{k:Nat}{x:Str}{p:Pos} (h:qC X.prog X.w X.K X.mg X.base k x F) (hX:iY (wV X.prog X.w) X EE) (hr:cM k X.A) (hg:Gl X x) (ha:DA X (e::es) gf) (hdb:(x == ("__debug__":Str))=false:=by decide)
  (he:starEach (e::es) X.env=(false,eval e X.env)::starEach es X.env:=by rfl) (hpl:(backTo pos (starEach es X.env)).any (·.1)=false:=by rfl):DEx X EE (.Call (.Name x p) (e::es) [] pos) (jL F gf):=by
 obtain ⟨f,fd,ps,Fk,hm,hk,hb⟩:=h
 obtain ⟨t,pa,h⟩:=ha
 refine ⟨_,uH Fk hr hg hm hk hb .nil hX pa hdb he hpl,fun C0 H0 δ σ C H xc Q R te rp g k=>h C0 H0 δ σ C H _ _ rp g fun ds vs C1 H1 q e1 n1=>?_⟩
 split at q
 ·rename_i o e2
  exact ⟨C1,ds,o,e1.ch,by rw [List.append_nil];exact n1,e2,fun d v C' H' hd ex nv=>k d v C' H' (q.2 d hd) (e1.trans ex) nv,fun c cls C' H' hmc hx ex=>te c cls C' H' hmc (q.1 c hx) ((rp.ext.trans e1).trans ex)⟩
 ·exact q.elim
theorem qC.calm {P:Program}{w:World}{K:PySem.W.Frag}{mg:Str→Option Value}{base:Heap}{k:Nat}{x:Str}{F:List D→Option Out}{F':List D→Option (D→Prop)} (h:qC P w K mg base k x F)
  (hF:∀ ds p,F' ds=some p→∃ o,F ds=some o∧(∀ d,o.ret d→p d)∧∀ c,¬ o.exc c):xE P w K mg base k x F':=by
 obtain ⟨f,fd,ps,Fk,b⟩:=h
 refine ⟨f,fd,ps,Fk.calm fun vs H Q E q=>?_,b⟩
 obtain ⟨C,ds,p,ch,n,e,q⟩:=q
 obtain ⟨o,e2,h1,h2⟩:=hF ds p e
 exact ⟨C,ds,o,ch,n,e2,fun d v C' H' hd ex nv=>q d v C' H' (h1 d hd) ex nv,fun c cls C' H' _ hx _=>h2 c hx⟩
def aAO (K:PySem.W.Frag) (mg:Str→Option Value) (x:Str):Prop:=∃ C,mg x=some (.ref C)∧∀ h,K.In h→OwnCls x C [.type "ValueError",.type "Exception",.type "BaseException",.type "object"] "ValueError.__new__" mg h
theorem aAB {x:Str}{C:Addr}{np cpos:Pos}{t:TA} (O:∀ h,X.K.In h→OwnCls x C [.type "ValueError",.type "Exception",.type "BaseException",.type "object"] "ValueError.__new__" X.mg h) (hc:X.calm=true) (hg:Gl X x) (hX:XEE X EE) (ha:PA X (e::es) t)
  (hdb:(x == ("__debug__":Str))=false:=by decide) (he:starEach (e::es) X.env=(false,eval e X.env)::starEach es X.env:=by rfl) (hpl:(backTo cpos (starEach es X.env)).any (·.1)=false:=by rfl) :
  PS X (.Raise (some (.Call (.Name x np) (e::es) [] cpos)) none pos) (fun _ σ H=>t σ H fun vs H1=>vs.length≤sizeLine∧EE (.ref C) none H1):=by
 intro pins s σ H Dn I h
 have O0:=O _ I.mod.kin
 obtain ⟨tl,Nn,nm,q,bs,hdct,sn,sub,ab,col,dd,k0,k1,k2,k3,k5,mN,hC,hN,hni,T⟩:=O0.obj
 refine wpAny_Raise_call_subT (C:=C) (nm:=nm) (q:=q) (N:=Nn) (bs:=bs) (bm:=tl) (hdct:=hdct) (sn:=sn) (sub:=sub) (ab:=ab) (col:=col) (dd:=dd) (k0:=k0) (k1:=k1) (k2:=k2) (k3:=k3) (k5:=k5)
  PySem.F.excBase_ValueError (mN:=mN) (T.hasType PySem.F.excBase_ValueError.hasBase) (I.ok.hd hc) (by rw [he];show (false || (backTo cpos (starEach es X.env)).any (·.1))=false;rw [hpl];rfl) hni (oZ I hg O0.bound ⟨rfl,?_⟩ hdb)
 have hA:=ha cpos pins s σ H _ I h
 rw [he] at hA ⊢
 refine Calls.evalArgs_plain (wpAny_mono hA (fun us s2 h2=>?_) fun _ _ y=>y)
 obtain ⟨vs,H2,I2,r2,hz,hq⟩:=h2
 have hl:us.length=vs.length:=r2.length.symm
 exact ⟨rfl,by rw [hl];exact hz,I2.bk _ _ hC,hN.keeps I2.bk,T.keeps I2.bk,fun h' a hm=>hX.made pins σ H2 s2 { s2 with heap:=h' } a (.ref C) us I2 hm rfl rfl hq⟩
def lR (x:Str) (gf:GF):GX:=fun De δ=>gf δ fun ds=>ds.length≤sizeLine∧De.xc x
theorem qI {x:Str}{np cpos:Pos} (O:aAO X.K X.mg x) (hc:X.calm=true) (hg:Gl X x) (hX:XEE X EE) (ha:DA X (e::es) gf)
  (hdb:(x == ("__debug__":Str))=false:=by decide) (he:starEach (e::es) X.env=(false,eval e X.env)::starEach es X.env:=by rfl) (hpl:(backTo cpos (starEach es X.env)).any (·.1)=false:=by rfl):DSX X EE (.Raise (some (.Call (.Name x np) (e::es) [] cpos)) none pos) (lR x gf):=by
 obtain ⟨C,hm,O⟩:=O
 obtain ⟨t,p,h⟩:=ha
 refine ⟨_,aAB O hc hg hX p hdb he hpl,fun C0 H0 δ σ C' H De E te rp g k=>h C0 H0 δ σ C' H _ _ rp g fun ds vs C1 H1 q e1 n1=>⟨by rw [n1.length];exact q.1,te x _ C1 H1 hm q.2 (rp.ext.trans e1)⟩⟩
end
theorem aDL {K:PySem.W.Frag}{mg:Str→Option Value}{x:Str}{C:Addr}{h:Heap} (X:K.In h) (G:h.Ns mainGlobals mg) (e:PySem.W.nsIn K mainGlobals x=some (some (.ref C)))
  (q:PySem.W.excIn K C [.type "ValueError",.type "Exception",.type "BaseException",.type "object"] "ValueError.__new__"=true):aAO K mg x:=by
 have hm:=PySem.W.mg_of X G e
 refine ⟨C,hm,fun h' X'=>⟨hm,?_⟩⟩
 unfold PySem.W.excIn at q
 split at q
 ·rename_i d1 cd sl lk
  split at q
  ·rename_i C' bm a0 a1 a2 a3 n a5 hmro hsl
   simp only [Bool.and_eq_true,beq_iff_eq,Bool.not_eq_true'] at q
   obtain ⟨⟨⟨⟨⟨q1,q2⟩,q3⟩,q4⟩,q5⟩,q6⟩:=q
   subst q1 q2
   obtain ⟨c1,c2,c3,c4,c5,c6,c7,c8,c9,c10,c11⟩:=cd
   dsimp only at hmro q3 q5 q6
   subst hmro q3
   have es:sl = #[a0,a1,a2,a3,some (.builtin "ValueError.__new__"),a5]:=by
    obtain ⟨l⟩:=sl
    simp only at hsl
    rw [hsl]
   subst es
   exact ⟨bm,c4,c1,c5,c2,c6,c7,c8,c9,c10,d1,a0,a1,a2,a3,a5,_,X' _ _ lk,.of_isNs (PySem.W.isNs_of_in X' q5),PySem.W.nsMap_none_of_in X' q5 q6,PySem.W.tail_of_in X' q4⟩
  ·cases q
 ·cases q
theorem aCi {P:Program}{w:World}{K:PySem.W.Frag}{mg:Str→Option Value}{base:Heap}{N:List Str}{qual:Str}{scope:Scope}{f:Addr}{cd:Value}{A:Around}{outer:List Env}{s:Shared}{H:Hp}{E:XK}:XEE (mE P w K mg base N qual scope f cd A outer s H E) E:=
 ⟨aCD fun _ _ q=>q,fun pins σ H1 s1 s2 a cls args I hx ho hg hE=>xN I hx ho (by rw [hg];exact I.bare) hE⟩
theorem fnX {P:Program}{w:World}{K:PySem.W.Frag}{mg:Str→Option Value}{base:Heap}{x qual:Str}{st:Stmt}{f:Addr}{fd:FuncData}{N ps:List Str}{k:Nat}{F:List D→Option Out}{g:GX} (Fn:zM K x qual st f fd) (S:aX N ps (aB st))
  (hl:∀ ds o,F ds=some o→ds.length=ps.length)
  (hb:∀ (cdv:Value) (A:Around) (outer:List Env) (s:Shared) (H:Hp) (E:XK),cM k (A.deeper (envOfC qual (aB st) s.heap.objs.size f cdv))→nO (mE P w K mg base N qual (aB st) f cdv A outer s H E) E (aS st) g)
  (hv:∀ ds o,F ds=some o→g { nx:=fun _=>o.ret .non,rt:=o.ret,xc:=o.exc } (aZ N ds)) (hm:mg x=some (.ref f)) (bi:j3 K fd ps []):qC P w K mg base (k+1) x F:=by
 refine ⟨f,fd,ps,Fn.okX S (fun vs H Q E h=>?_) (fun cdv A outer s H vs Q E hr h=>?_),hm,Fn.kp,bi⟩
 ·obtain ⟨C,ds,o,_,n,e,_⟩:=h
  rw [n.length]
  exact hl ds o e
 ·obtain ⟨C,ds,o,ch,n,e,q,qx⟩:=h
  obtain ⟨t,p,h⟩:=hb cdv A outer s H E hr
  refine ⟨t,p,h C H (aZ N ds) (g8 N vs) C H _ _ (fun c cls C' H' hmc hx ex=>qx c cls C' H' hmc hx ex) (kU ch n) (hv ds o e) ⟨fun δ σ C' H' rp z=>?_,fun r v C' H' ex nv z=>?_,fun _ _ _ _ _ z=>z.elim,fun _ _ _ _ _ z=>z.elim⟩⟩
  ·exact q .non _ C' H' z rp.ext (bY.mpr rfl)
  ·exact q r v C' H' z ex nv
abbrev Cx.tr (X:Cx) (pn:List (Addr×Obj)) (xe:Value→Shared→Prop):Cx:={ X with pn:=pn,xe:=xe }
abbrev Cx.su (X:Cx) (e:Value) (pn:List (Addr×Obj)):Cx:={ X with A:=X.A.mark (some e),calm:=false,pn:=pn,xe:=fun _ _=>False }
section
variable {X:Cx}{pins pins' pn:List (Addr×Obj)}{xe:Value→Shared→Prop}{σ:St}{H:Hp}{s:Shared}{e:Value}
theorem aP.tr (I:aP X pins σ H s) (pn:List (Addr×Obj)) (xe:Value→Shared→Prop) (h:∀ p∈pn,p∈X.pn++pins):aP (X.tr pn xe) [] σ H s:=
 ⟨⟨I.ok.mod,I.ok.kind,I.ok.glob,I.ok.blt,I.ok.above,I.ok.inj,I.ok.has,I.ok.cab,I.ok.hd,I.ok.frames,I.ok.stk,I.ok.exf,I.ok.bs,I.ok.bsz,I.ok.noex,I.ok.exfs,I.ok.funs,I.ok.frf⟩,I.os,I.bare,I.base,I.loc,I.cell,I.free,I.freeC,fun p hp=>I.pin p (h p (by simpa using hp)),I.hok,I.len⟩
theorem aP.untr (I:aP (X.tr pn xe) pins' σ H s) (h:∀ p∈X.pn++pins,p∈pn):aP X pins σ H s:=
 ⟨⟨I.ok.mod,I.ok.kind,I.ok.glob,I.ok.blt,I.ok.above,I.ok.inj,I.ok.has,I.ok.cab,I.ok.hd,I.ok.frames,I.ok.stk,I.ok.exf,I.ok.bs,I.ok.bsz,I.ok.noex,I.ok.exfs,I.ok.funs,I.ok.frf⟩,I.os,I.bare,I.base,I.loc,I.cell,I.free,I.freeC,fun p hp=>I.pin p (List.mem_append_left _ (h p hp)),I.hok,I.len⟩
theorem aP.su (I:aP X pins σ H s) (e:Value) (pn:List (Addr×Obj)) (h:∀ p∈pn,p∈X.pn++pins∨(s.heap.get? p.1=some p.2∧H p.1=none∧p.1≠X.env.locals∧p.1∉X.fs∧∀ v,p.2.data≠.cell v)):aP (X.su e pn) [] σ H s:=
 ⟨⟨I.ok.mod,I.ok.kind,I.ok.glob,I.ok.blt,I.ok.above,I.ok.inj,I.ok.has,I.ok.cab,fun z=>absurd z (by show ¬ (false=true);decide),I.ok.frames,I.ok.stk,I.ok.exf,I.ok.bs,I.ok.bsz,I.ok.noex,I.ok.exfs,I.ok.funs,I.ok.frf⟩,I.os,I.bare,I.base,I.loc,I.cell,I.free,I.freeC,fun p hp=>(h p (by simpa using hp)).elim (I.pin p) id,I.hok,I.len⟩
theorem aP.unsu (I:aP (X.su e pn) pins' σ H s) (hd:X.calm=true→X.A.handled=none) (h:∀ p∈X.pn++pins,p∈pn):aP X pins σ H s:=
 ⟨⟨I.ok.mod,I.ok.kind,I.ok.glob,I.ok.blt,I.ok.above,I.ok.inj,I.ok.has,I.ok.cab,hd,I.ok.frames,I.ok.stk,I.ok.exf,I.ok.bs,I.ok.bsz,I.ok.noex,I.ok.exfs,I.ok.funs,I.ok.frf⟩,I.os,I.bare,I.base,I.loc,I.cell,I.free,I.freeC,fun p hp=>I.pin p (List.mem_append_left _ (h p hp)),I.hok,I.len⟩
theorem SP.untr {D:qF}{f:Flow} (h:∀ p∈X.pn++pins,p∈pn) (q:SP (X.tr pn xe) pins' D f s):SP X pins D f s:=by
 cases f with
 | next=>obtain ⟨σ',H',I,q⟩:=q;exact ⟨σ',H',I.untr h,q⟩
 | brk=>obtain ⟨σ',H',I,q⟩:=q;exact ⟨σ',H',I.untr h,q⟩
 | cont=>obtain ⟨σ',H',I,q⟩:=q;exact ⟨σ',H',I.untr h,q⟩
 | ret u=>obtain ⟨v,σ',H',I,r,q⟩:=q;exact ⟨v,σ',H',I.untr h,r,q⟩
theorem eU.there {P:Program}{w:World}{H:Hp}{h:Heap}{a:Addr}{o:HO} (x:eU P w H h a o):∃ ob,h.get? a=some ob:=by
 cases o with
 | lst xs=>obtain ⟨_,_,_,_,e⟩:=x;exact ⟨_,e⟩
 | tup xs=>obtain ⟨_,_,_,o,e,_⟩:=x;exact ⟨_,e⟩
 | dK kvs=>obtain ⟨_,_,_,_,o,_,_,e,_⟩:=x;exact ⟨_,e⟩
 | dT K f kvs=>obtain ⟨_,_,_,_,o,_,_,e,_⟩:=x;exact ⟨_,e⟩
 | set S n=>obtain ⟨o,_,_,_,e,_⟩:=x;exact ⟨_,e⟩
 | ins C dx fs=>obtain ⟨_,_,_,e,_⟩:=x;exact ⟨_,e⟩
 | own y=>exact x
 | xd fs=>obtain ⟨_,⟨_,_,_,e,_⟩,_⟩:=x;exact ⟨_,e⟩
 | rng lo hi=>obtain ⟨_,_,_,e⟩:=x;exact ⟨_,e⟩
 | frz ob u=>obtain ⟨e,_⟩:=x;exact ⟨_,e⟩
 | tbl ps=>exact ⟨_,x⟩
 | tab l c q=>obtain ⟨_,e,_⟩:=x;exact ⟨_,e⟩
 | met f y=>exact ⟨_,x⟩
 | ext φ=>obtain ⟨_,e,_⟩:=x;exact e
end
def σ0 (X:Cx):St:=List.replicate X.N.length none
theorem aP.forget {X:Cx}{pins:List (Addr×Obj)}{σ:St}{H:Hp}{s:Shared} (I:aP X pins σ H s):aP X pins (σ0 X) H s:=by
 refine I.weak ?_ fun i v e=>?_
 ·unfold σ0;rw [List.length_replicate];first | exact I.len | exact I.len.symm
 ·unfold σ0 at e
  rw [List.getElem?_replicate] at e
  split at e <;> cases e
section
variable {X:Cx}{EE:XK}{body suite:List Stmt}{b₀:Stmt}{x:Str}{cl:Value}{np hpos pos:Pos}{tb ts:TS}
theorem xI {pins:List (Addr×Obj)}{σ1:St}{H1:Hp}{s1 s':Shared}{ev:Value}{Q:Flow→Shared→Prop}{E:Value→Shared→Prop}{hs:List ExceptHandler} (hstk:X.stack=X.env::X.outer) (hfr:X.env.frame=some X.env.locals) (I:aP X pins σ1 H1 s1) (hc:wV X.prog X.w X.stack H1 s1 EE ev s')
  (k:∀ a cls a0 H' B h5,ev = .ref a→EE cls none H'→Fl X.prog X.w X.stack H1 H' s1 B a cls a0 h5→aP X pins σ1 H' { s' with heap:=h5 }→s'.os=s1.os→AllBare s'.gens→wpAny (model X.prog X.w) X.A (handleBy ev X.env hs) Q E { s' with heap:=h5 }) :
  wpAny (model X.prog X.w) X.A (noteFrame ev X.env) (fun _ s2=>wpAny (model X.prog X.w) X.A (setFlight ev none) (fun _ s3=>wpAny (model X.prog X.w) X.A (handleBy ev X.env hs) Q E s3) E s2) E s':=by
 obtain ⟨a,cls,a0,H',B,rfl,ho,hg,F,hq⟩:=hc
 have hfrm:X.A.frames=some (X.env::X.outer):=by rw [← hstk];exact I.ok.frames
 have fl:Heap.FlyingW B (X.env::X.outer) a cls a0 s'.heap:=by rw [← hstk];exact F.fl
 refine wpAny_looks_onW hfrm hfr fl fun h4 held4 up4=>?_
 refine wpAny_landsW held4 fun h5 fl5 up5=>?_
 have F5:=F.next I.stkFree (by rw [hstk];exact fl5) (up4.trans up5)
 exact k a cls a0 H' B h5 rfl hq F5 (I.call' (ch:=[]) ho F5.un (F5.hok.kept F5.fl.1) hg fun b z=>absurd z (by simp)) ho hg
theorem yR {pins:List (Addr×Obj)}{σ1:St}{H1 H':Hp}{s1 s5:Shared}{B:Heap}{a:Addr}{cls a0:Value} (F:Fl X.prog X.w X.stack H1 H' s1 B a cls a0 s5.heap) (I:aP X pins σ1 H' s5):∃ oe,oe.cls=cls∧s5.heap.get? a=some oe∧H' a=none∧a≠X.env.locals∧a∉X.fs∧∀ v,oe.data≠.cell v:=by
 obtain ⟨oe,vs,e1,e2,e3,_⟩:=F.fl.first
 refine ⟨oe,e2,e1,?_,fun z=>?_,fun z=>?_,fun v q=>by rw [e3] at q;cases q⟩
 ·cases q:H' a with
  | none=>rfl
  | some o=>
   obtain ⟨ob,z⟩:=(F.hok a o q).there
   rw [F.fl.2.1] at z
   cases z
 ·obtain ⟨m,⟨o',es,ep,ho',hd',_⟩,_⟩:=I.loc
  rw [← z,e1] at ho'
  cases ho'
  rw [hd'] at e3
  cases e3
 ·obtain ⟨_,o',ho',nf⟩:=I.funs.mem z
  rw [e1] at ho'
  cases ho'
  exact nf vs e3
end
def tX (K:PySem.W.Frag) (mg:Str→Option Value) (EE:XK) (g:GX):TS:=fun E σ H=>∃ C0 H0 δ C,∃ De:DEX,(∀ c cls C' H',mg c=some cls→De.xc c→b5 C0 H0 C' H'→EE cls none H')∧d0 K C0 H0 δ σ C H∧g De δ∧Adm K C0 H0 E De.toDEnds
def tSt (K:PySem.W.Frag) (g:GS):TS:=fun E σ H=>∃ C0 H0 δ C De,d0 K C0 H0 δ σ C H∧g De δ∧Adm K C0 H0 E De
theorem nO.can {X:Cx}{EE:XK}{sts:List Stmt}{g:GX} (h:nO X EE sts g):uG X sts (tX X.K X.mg EE g):=by
 obtain ⟨t,p,h⟩:=h
 intro pins s σ H E I q
 obtain ⟨C0,H0,δ,C,De,te,rp,g,k⟩:=q
 exact p pins s σ H E I (h C0 H0 δ σ C H De E te rp g k)
theorem kW.can {X:Cx}{sts:List Stmt}{g:GS} (h:kW X sts g):uG X sts (tSt X.K g):=by
 obtain ⟨t,p,h⟩:=h
 intro pins s σ H E I q
 obtain ⟨C0,H0,δ,C,De,rp,g,k⟩:=q
 exact p pins s σ H E I (h C0 H0 δ σ C H De E rp g k)
theorem aDn {K:PySem.W.Frag}{C0 H0 C H:Hp} (n:Nat) (ex:b5 C0 H0 C H):d0 K C0 H0 (List.replicate n .un) (List.replicate n none) C H:=by
 refine ⟨by simp,ex,fun i d e=>?_,fun i ds e=>?_,fun i j ds es l _ e _=>?_,qG.none fun i x e=>by
  rw [List.getElem?_replicate] at e
  split at e
  ·cases e;rfl
  ·cases e⟩
 ·rw [List.getElem?_replicate] at e;split at e <;> cases e
 ·rw [List.getElem?_replicate] at e;split at e <;> cases e
 ·rw [List.getElem?_replicate] at e;split at e <;> cases e
end L2
namespace L2
open PySem PySem.Spec PyProof.Rows PySem.W
open Builtin Builtin.ObjectAttr Builtin.Getset_descriptor
section
variable {prog:Program}{w:World}{A:Around}{E:Value→Shared→Prop}{K:Frag}{x C:Addr}{R:Result→Shared→Prop}{hh:Heap}{g:Array GenState}{dr:Drawn}{t:Nat}{os:OsState}{o:Obj}
theorem aBG {tp:Value} (X:K.In hh) (ho:hh.get? x=some o) (hc:o.cls = .ref C) (hm:mroIn K C (.type "object")=some true)
  (h:R (.ok (.ret (.ref C))) ⟨hh,g,dr,t,os⟩):codeAny (model prog w) A (.call (.builtin "getset_descriptor.__get__") ⟨[.builtin "object.__class__",.ref x,tp],[]⟩) R ⟨hh,g,dr,t,os⟩:=by
 have L0:Looks (model prog w) hh (typeOf (.ref x)) (.ref C):=hc ▸ (Looks.ld ho).andThen .now
 have L1:=looks_mroIn (M:=model prog w) X hm
 refine codeAny_call_builtin KF.slot_gs.plain KF.entry_gs (KF.slot_gs.check _ _ _ _ _ _ _ _ KF.type_class (KF.args_gs _ _ _) ?_)
 unfold Builtin.«getset_descriptor.__get__» descrGet
 rw [dga_obj]
 refine wpAny_bind (wpAny_pure ?_)
 unfold descrGetter descrCheckInstance descrNameAndClass isInstance
 simp only [KF.owner_class]
 repeat lk
 refine ⟨Code.quiet_builtin _ (by decide +kernel),codeAny_builtin KF.entry_class ?_⟩
 unfold Builtin.«object.__class__» shownTypeOf
 repeat lk
 exact h
theorem w4 {tk:Tok}{Q:Fin→Shared→Prop} (X:K.In hh) (ho:hh.get? x=some o) (hc:o.cls = .ref C) (hm:mroIn K C (.type "object")=some true) (hcl:findIn K (.ref C) "__class__"=some (some (.builtin "object.__class__")))
  (h:Q (.done (.ret (.ref C))) ⟨hh,g,dr,t,os⟩):wpAny (model prog w) A (Builtin.«object.__getattribute__» ⟨[.ref x,.str "__class__" tk],[]⟩) Q E ⟨hh,g,dr,t,os⟩:=by
 have f5:=F.typeOf_object_class
 have f6:=F.slot_gs_get.lookup
 have f7:=F.slot_gs_set.lookup
 have L1:=looks_findIn (M:=model prog w) X hcl
 repeat (any_goals (first | assumption | (with_reducible refine wpAny_loadPart_at ho ?_;rw [hc]) | with_reducible refine Looks.at L1 ?_ | wp_step))
 refine aBG X ho hc hm ?_
 repeat (any_goals (first | assumption | wp_step))
theorem yB {M:Model}{nameV:Value}{Q:Unit→Shared→Prop} (X:K.In hh) (ho:hh.get? x=some o) (hc:o.cls = .ref C) (hb:mroIn K C (.type "BaseException")=some true) (hq:Q () ⟨hh,g,dr,t,os⟩) :
  wpAny M A (checkBuiltinCall "BaseException.__getattribute__" ⟨[.ref x,nameV],[]⟩) Q E ⟨hh,g,dr,t,os⟩:=by
 have hk:builtinKind "BaseException.__getattribute__"=some .slot:=by decide +kernel
 have hsplit:splitId "BaseException.__getattribute__"=some ("BaseException","__getattribute__"):=by decide +kernel
 have L1:=looks_mroIn (M:=M) X hb
 have ha:=F.args_bexc_ga (.ref x) nameV
 simp only [checkBuiltinCall,hk,hsplit]
 refine wpAny_bind ?_
 unfold isInstance
 repeat (first | (with_reducible refine wpAny_loadPart_at ho ?_;rw [hc]) | with_reducible refine Looks.at L1 ?_ | wp_step)
 exact hq
theorem aAg {Q:Option Value→Shared→Prop} (X:K.In hh) (ho:hh.get? x=some o) (hc:o.cls = .ref C) (hm:mroIn K C (.type "object")=some true) (hb:mroIn K C (.type "BaseException")=some true) (hcl:findIn K (.ref C) "__class__"=some (some (.builtin "object.__class__")))
  (hga:findIn K (.ref C) "__getattribute__"=some (some (.builtin "BaseException.__getattribute__"))) (hgt:findIn K (.ref C) "__getattr__"=some none) (FB:ExcAttrBase "ValueError" [.type "ValueError",.type "Exception",.type "BaseException",.type "object"])
  (h:Q (some (.ref C)) ⟨hh,g,dr,t+1,os⟩):wpAny (model prog w) A (getAttr? (.ref x) "__class__") Q E ⟨hh,g,dr,t,os⟩:=by
 have L0:Looks (model prog w) hh (typeOf (.ref x)) (.ref C):=hc ▸ (Looks.ld ho).andThen .now
 have L1:=looks_findIn (M:=model prog w) X hga
 have L2:=looks_findIn (M:=model prog w) X hgt
 have f3:=FB.ga.bind (.ref x)
 have hx2:(Value.builtin "BaseException.__getattribute__" == Value.builtin "object.__getattribute__")=false:=by decide +kernel
 have hx1:(onTheHeap (Value.ref C) && Value.builtin "BaseException.__getattribute__" == Value.builtin "object.__getattribute__")=false:=by rw [hx2];rfl
 unfold getAttr? getAttrBy? getAttrBy
 refine wpAny_bind (wpAny_mkText (wpAny_bind (wpAny_attempt (wpAny_holding (wpAny_bind (L0.at (wpAny_bind (L1.at ?_))))))))
 dsimp only
 rw [if_neg (by rw [hx1];decide)]
 unfold getAttrByItsOwn hookBefore
 rw [if_pos (by rfl)]
 refine wpAny_bind (L2.at ?_)
 unfold callGetattribute boundAndCalled
 repeat (any_goals (first | assumption | wp_step))
 refine codeAny_call_builtin FB.ga.plain F.entry_bexc_ga (yB X ho hc hb (w4 X ho hc hm hcl ?_))
 repeat (any_goals (first | assumption | wp_step))
end
end L2
namespace L2
open PySem PySem.Spec PyProof.Rows
section
variable {X:Cx}{pins:List (Addr×Obj)}{σ:St}{H:Hp}{s:Shared}
theorem lA {M:Model}{A:Around}{E:Value→Shared→Prop}{i:Nat}{n:Str}{pos:Pos}{Q:Unit→Shared→Prop} (I:aP X pins σ H s) (hN:X.N.Nodup) (hi:X.N[i]? = some n) (hk:X.env.scope.names.lookup n=some .local)
  (h:∀ s',aP X pins (σ.set i none) H s'→Q () s'):wpAny M A (do bindName X.env n .none;unbindBehindTheSuite X.env n pos) Q E s:=by
 obtain ⟨m,hn,hl⟩:=id I.loc
 have hcls:(X.env.scope.kind == .class || (X.env.scope.kind == .module && X.env.locals != X.env.globals))=false:=by rw [I.ok.kind];rfl
 have hiσ:i<σ.length:=by rw [I.len];exact (List.getElem?_eq_some_iff.mp hi).1
 refine wpAny_nameGoes_keeps hk hn hcls fun h' v hn' hs=>?_
 obtain ⟨oL,_,_,hoL,_⟩:=id hn
 have old:∀ {b:Addr}{o:Obj},X.s₀.heap.get? b=some o→b≠X.env.locals:=fun {b o} e=>Nat.ne_of_lt (Nat.lt_of_lt_of_le (Heap.lt_size e) I.ok.above)
 refine h _ ⟨I.ok,I.os,I.bare,⟨fun b o e q hb hx=>?_,fun b o e q hb hx=>?_,I.base.free,fun b o e hx=>?_,I.base.tups,I.base.frzs,I.base.tbls⟩,⟨_,hn',fun j y v' e1 e2 e3=>?_⟩,fun y c e=>?_,I.free,I.freeC,fun p hp=>?_,fun b ob e=>?_,by simpa using I.len⟩
 ·exact (hs.2 b (old e)).trans (I.base.keep b o e q hb hx)
 ·obtain ⟨sl,e1⟩:=I.base.slot b o e q hb hx
  exact ⟨sl,(hs.2 b (old e)).trans e1⟩
 ·obtain ⟨o',e1⟩:=I.base.there b o e hx
  exact ⟨o',(hs.2 b (old e)).trans e1⟩
 ·by_cases hj:j=i
  ·subst hj
   rw [List.getElem?_set_self hiσ] at e2
   cases e2
  ·rw [List.getElem?_set_ne (Ne.symm hj)] at e2
   obtain ⟨u',r',q⟩:=hl j y v' e1 e2 e3
   refine ⟨u',r',?_⟩
   rcases q with ⟨k,e⟩ | ⟨k,c,e,z⟩
   ·refine .inl ⟨k,?_⟩
    have ny:y≠n:=fun e=>hj (pC hN e1 (e ▸ hi))
    simp [ny,e]
   ·exact .inr ⟨k,c,e,z.sameBut hs (I.cne y c e)⟩
 ·obtain ⟨w',z⟩:=I.cell y c e
  exact ⟨w',z.sameBut hs (I.cne y c e)⟩
 ·obtain ⟨e,q,ne,nf,d⟩:=I.pin p hp
  exact ⟨(hs.2 p.1 ne).trans e,q,ne,nf,d⟩
 ·refine (I.hok b ob e).stay (fun c w' hc q=>(hs.2 c ?_).trans q) (fun _ q=>q) (fun _ _ q=>q) fun _ _ _ q=>q
  rintro rfl
  have fr:=I.free
  rcases hc with rfl | hc
  ·rw [fr] at e;cases e
  ·rw [fr] at hc;cases hc
end
structure aBw (K:PySem.W.Frag) (C:Addr):Prop where
 cl:(PySem.W.clsIn K C).isSome=true
 mo:PySem.W.mroIn K C (.type "object")=some true
 mb:PySem.W.mroIn K C (.type "BaseException")=some true
 ca:PySem.W.findIn K (.ref C) "__class__"=some (some (.builtin "object.__class__"))
 ga:PySem.W.findIn K (.ref C) "__getattribute__"=some (some (.builtin "BaseException.__getattribute__"))
 gt:PySem.W.findIn K (.ref C) "__getattr__"=some none
theorem aBL {K:PySem.W.Frag}{a C:Addr} (T:aBw K C):PySem.W.KitX K (.ref a) (.ref C) (fun h=>∃ o,h.get? a=some o∧o.cls = .ref C) where
 ty:=fun _ _ _ p=>by
  obtain ⟨o,h1,h2⟩:=p
  exact h2 ▸ (PySem.W.Looks.ld h1).andThen .now
 it:=fun _ _ X _=>by
  have z:=T.cl
  unfold PySem.W.clsIn at z
  split at z
  ·rename_i c' d' cd' sl' ho
   intro A' Q' E' s' k q
   unfold isType loadHead
   exact wpAny_bind (wpAny_loadPart (k _ _ (X _ _ ho)) (wpAny_pure q))
  ·cases z
 ne:=fun h tp dd its n sl X htp=>by
  refine Bool.eq_false_iff.mpr fun q=>?_
  have e:C=tp:=Value.ref.inj (beq_iff_eq.mp q)
  subst e
  have z:=T.cl
  unfold PySem.W.clsIn at z
  split at z
  ·rename_i c' d' cd' sl' ho
   have z2:=(X _ _ ho).symm.trans htp
   cases z2
  ·cases z
 ca:=fun {prog w A E Q s} X p k=>by
  obtain ⟨o,h1,h2⟩:=p
  obtain ⟨hh,g,dr,t,os⟩:=s
  exact aAg X h1 h2 T.mo T.mb T.ca T.ga T.gt PySem.F.attrBase_ValueError k
section
variable {X:Cx}{a:Addr}{oe:Obj}{C:Addr}{i:Nat}{n y:Str}{vy:V}{b:Bool}{p p1 p2 pos:Pos}
theorem aAF {cy:Value} (hp:(a,oe)∈X.pn) (hc:oe.cls = .ref C) (T:aBw X.K C) (ry:cC vy cy) (hk:PySem.W.kitOne X.K (.ref C) cy=some b) (hu:∀ u,cC vy u→u=cy):fX X (.builtin "isinstance") (fun xs H Q=>xs=[.ref a,vy]∧Q (.bl b) H):=by
 intro pins s σ H xs us Q I r h
 obtain ⟨rfl,q⟩:=h
 obtain ⟨u,u2,rfl,rx,rc⟩:=aCP r
 cases rx
 rw [hu u2 rc]
 obtain ⟨e1,_⟩:=I.pin (a,oe) (List.mem_append_left _ hp)
 exact PySem.W.kia_one (aBL T) I.kIn ⟨oe,e1,hc⟩ hk (fun z=>nomatch z) fun tk=>⟨.bl b,H,I.tok tk,rfl,q⟩
theorem xL {cy:Value} (hp:(a,oe)∈X.pn) (hc:oe.cls = .ref C) (T:aBw X.K C) (ry:cC vy cy) (hk:PySem.W.kitOne X.K (.ref C) cy=some b) (hu:∀ u,cC vy u→u=cy) (hn:PE X (.Name n p1) (xG i)) (hy:PE X (.Name y p2) (tC vy))
  (hcall:∀ {t:TA}{r:List V→Hp→VK→Prop},fX X (.builtin "isinstance") r→PA X [.Name n p1,.Name y p2] t→PE X (.Call (.Name "isinstance" p) [.Name n p1,.Name y p2] [] pos) (tCB r t)) :
  PT X (.Call (.Name "isinstance" p) [.Name n p1,.Name y p2] [] pos) (fun σ H Q=>σ[i]? = some (some (.ref a))∧Q b H):=by
 intro pins s σ H Q I h
 refine aC1 (hcall (aAF hp hc T ry hk hu) (dR hn (dR hy g5))) (fun _=>rfl) pins s σ H Q I ?_
 exact ⟨.ref a,h.1,rfl,b,rfl,h.2⟩
end
def qF.off (D:qF) (i:Nat):qF:={ nx:=fun σ H=>D.nx (σ.set i none) H,rt:=D.rt,bk:=fun σ H=>D.bk (σ.set i none) H,ct:=fun σ H=>D.ct (σ.set i none) H }
section
variable {X:Cx}{EE:XK}{body suite:List Stmt}{b₀:Stmt}{x n:Str}{i:Nat}{cl:Value}{np hpos pos:Pos}{tb:TS}{ts:Addr→Value→TS}
theorem aA9 (hstk:X.stack=X.env::X.outer) (hfr:X.env.frame=some X.env.locals) (hN:X.N.Nodup) (hi:X.N[i]? = some n) (hk:X.env.scope.names.lookup n=some .local) (hg:Gl X x) (hm:X.mg x=some cl) (hb:∀ pn xe,iY (wV X.prog X.w) (X.tr pn xe) EE→uG (X.tr pn xe) body tb)
  (hs:∀ ev pn a oe cls H',(a,oe)∈pn→oe.cls=cls→EE cls none H'→uG (X.su ev pn) (b₀::suite) (ts a cls)) (hdb:(x == ("__debug__":Str))=false:=by decide) :
  PS X (.Try body [.ExceptHandler (some (.Name x np)) (some n) (b₀::suite) hpos] [] [] pos) (fun D σ H=>tb D σ H∧∀ cls H',EE cls none H'→PySem.W.exmOne X.K cls cl=some true∧∀ a,ts a cls (D.off i) ((σ0 X).set i (some (.ref a))) H'):=by
 intro pins s σ H D I h
 obtain ⟨h1,h2⟩:=h
 have I':=I.tr (X.pn++pins) (fun e s'=>∃ σ1 H1 s1,aP X pins σ1 H1 s1∧wV X.prog X.w X.stack H1 s1 EE e s') fun p hp=>hp
 have hp:iY (wV X.prog X.w) (X.tr (X.pn++pins) (fun e s'=>∃ σ1 H1 s1,aP X pins σ1 H1 s1∧wV X.prog X.w X.stack H1 s1 EE e s')) EE:=fun pins0 σ1 H1 s1 e s' I1 hc=>⟨σ1,H1,s1,I1.untr fun p hp=>hp,hc⟩
 refine wpAny_Try_except (wpAny_mono (hb _ _ hp [] s σ H D I' h1) (fun f s1 q=>?_) (fun ev s1 q=>?_))
 ·have q':SP X pins D f s1:=SP.untr (fun p hp=>hp) q
  cases f with
  | next=>exact wpAny_execs_nil q'
  | brk=>exact q'
  | cont=>exact q'
  | ret u=>exact q'
 ·obtain ⟨σ1,H1,s0,I0,hc⟩:=q
  refine xI hstk hfr I0 hc fun a cls a0 H' B h5 ha hq F5 I5 ho hgn=>?_
  subst ha
  obtain ⟨hx,hts⟩:=h2 cls H' hq
  obtain ⟨oe5,c1,c2,c3⟩:=yR (s5:={ s1 with heap:=h5 }) F5 I5
  have LT:PySem.W.Looks (model X.prog X.w) h5 (typeOf (.ref a)) cls:=by
   subst c1
   exact (PySem.W.Looks.ld c2).andThen .now
  have Im:=I5.su (.ref a) (X.pn++pins) fun p hp=>.inl hp
  refine wpAny_handleBy_cons (codeAny_handlers_test (oZ (X:=X.su (.ref a) (X.pn++pins)) Im hg hm ((PySem.W.exm_one I5.kIn LT hx).here ?_) hdb)) (by intro q;cases q)
  show codeAny _ _ (.handlers (.ref a) [.ExceptHandler none (some n) (b₀::suite) hpos] X.env) _ _
  refine codeAny_handlers_suite_as (lands_againW F5.fl fun h6 fl6 up6=>?_)
  have F6:=F5.next I0.stkFree fl6 up6
  have I6:aP X pins σ1 H' { s1 with heap:=h6 }:=I0.call' (ch:=[]) ho F6.un (F6.hok.kept F6.fl.1) hgn fun b z=>absurd z (by simp)
  obtain ⟨oe,d1,d2,d3⟩:=yR (s5:={ s1 with heap:=h6 }) F6 I6
  have J:=I6.forget.su (.ref a) (X.pn++pins++[(a,oe)]) fun p hp=>by
   rcases List.mem_append.mp hp with z | z
   ·exact .inl z
   ·rw [List.mem_singleton.mp z]
    exact .inr ⟨d2,d3⟩
  have mem:∀ p∈X.pn++pins,p∈X.pn++pins++[(a,oe)]:=fun p hp=>List.mem_append_left _ hp
  refine pE (X:=X.su (.ref a) (X.pn++pins++[(a,oe)])) (v:=.ref a) J hN hi (.inl hk) rfl (fun s7 J7=>?_) (.inr hk)
  refine wpAny_mono (hs (.ref a) (X.pn++pins++[(a,oe)]) a oe cls H' (List.mem_append_right _ (List.mem_singleton.mpr rfl)) d1 hq [] s7 _ H' (D.off i) J7 (hts a)) (fun f s8 q=>?_) fun _ _ z=>False.elim z
  show wpAny _ _ (do bindName X.env n .none;unbindBehindTheSuite X.env n hpos) (fun _ s9=>SP X pins D f s9) _ s8
  cases f with
  | next=>obtain ⟨σ',H9,I9,q⟩:=q;exact lA (I9.unsu I.ok.hd mem) hN hi hk fun s9 I10=>⟨_,H9,I10,q⟩
  | brk=>obtain ⟨σ',H9,I9,q⟩:=q;exact lA (I9.unsu I.ok.hd mem) hN hi hk fun s9 I10=>⟨_,H9,I10,q⟩
  | cont=>obtain ⟨σ',H9,I9,q⟩:=q;exact lA (I9.unsu I.ok.hd mem) hN hi hk fun s9 I10=>⟨_,H9,I10,q⟩
  | ret u=>obtain ⟨v,σ',H9,I9,r,q⟩:=q;exact lA (I9.unsu I.ok.hd mem) hN hi hk fun s9 I10=>⟨v,_,H9,I10,r,q⟩
end
def DEnds.off (De:DEnds) (i:Nat):DEnds:={ nx:=fun δ=>De.nx (δ.set i .un),rt:=De.rt,bk:=fun δ=>De.bk (δ.set i .un),ct:=fun δ=>De.ct (δ.set i .un) }
def xP (n i:Nat) (cov:Str→Prop) (tv:Str→Bool) (gb:GX) (gs:GS):GS:=fun De δ=>gb { De with xc:=fun c=>cov c∧if tv c=true then gs (De.off i) (List.replicate n .un) else De.nx ((List.replicate n Sl.un).set i .un) } δ
theorem d0.off {K:PySem.W.Frag}{C0 H0 δ σ C H} (R:d0 K C0 H0 δ σ C H) (i:Nat):d0 K C0 H0 (δ.set i .un) (σ.set i none) C H:=by
 refine ⟨by simp [R.len],R.ext,fun j d e=>?_,fun j ds e=>?_,fun j k ds es l hjk h1 h2 h3=>?_,R.dc.set2 rfl⟩
 ·rcases bJ e with ⟨_,z,_⟩ | ⟨hj,e⟩
  ·cases z
  ·obtain ⟨v,a,b⟩:=R.im j d e
   exact ⟨v,by rw [List.getElem?_set_ne (Ne.symm hj)];exact a,b⟩
 ·rcases bJ e with ⟨_,z,_⟩ | ⟨hj,e⟩
  ·cases z
  ·obtain ⟨l,xs,a,b⟩:=R.ow j ds e
   exact ⟨l,xs,by rw [List.getElem?_set_ne (Ne.symm hj)];exact a,b⟩
 ·rcases bJ h1 with ⟨_,z,_⟩ | ⟨hj,h1⟩
  ·cases z
  ·rcases bJ h2 with ⟨_,z,_⟩ | ⟨hk,h2⟩
   ·cases z
   ·rw [List.getElem?_set_ne (Ne.symm hj)] at h3
    rw [List.getElem?_set_ne (Ne.symm hk)]
    exact R.ap j k ds es l hjk h1 h2 h3
theorem d0.any {K:PySem.W.Frag}{C0 H0 δ σ C H} (R:d0 K C0 H0 δ σ C H) {i:Nat}{o:Option V} (h:∀ x,δ[i]? = some x→x = .un):d0 K C0 H0 δ (σ.set i o) C H:=by
 refine ⟨by simp [R.len],R.ext,fun j d e=>?_,fun j ds e=>?_,fun j k ds es l hjk h1 h2 h3=>?_,fun j m e=>?_,fun j m e=>?_,fun j k m n l hjk h1 h2 h3=>?_⟩
 rotate_left 3
 ·have hj:j≠i:=fun z=>by rw [z] at e;have:=h _ e;cases this
  rw [List.getElem?_set_ne (Ne.symm hj)]
  exact R.dc.od j m e
 ·have hj:j≠i:=fun z=>by rw [z] at e;have:=h _ e;cases this
  rw [List.getElem?_set_ne (Ne.symm hj)]
  exact R.dc.fd j m e
 ·have hj:j≠i:=fun z=>by rw [z] at h1;have:=h _ h1;cases this
  have hk:k≠i:=fun z=>by rw [z] at h2;have:=h _ h2;cases this
  rw [List.getElem?_set_ne (Ne.symm hj)] at h3
  rw [List.getElem?_set_ne (Ne.symm hk)]
  exact R.dc.ap j k m n l hjk h1 h2 h3
 ·have hj:j≠i:=fun z=>by rw [z] at e;have:=h _ e;cases this
  obtain ⟨v,a,b⟩:=R.im j d e
  exact ⟨v,by rw [List.getElem?_set_ne (Ne.symm hj)];exact a,b⟩
 ·have hj:j≠i:=fun z=>by rw [z] at e;have:=h _ e;cases this
  obtain ⟨l,xs,a,b⟩:=R.ow j ds e
  exact ⟨l,xs,by rw [List.getElem?_set_ne (Ne.symm hj)];exact a,b⟩
 ·have hj:j≠i:=fun z=>by rw [z] at h1;have:=h _ h1;cases this
  have hk:k≠i:=fun z=>by rw [z] at h2;have:=h _ h2;cases this
  rw [List.getElem?_set_ne (Ne.symm hj)] at h3
  rw [List.getElem?_set_ne (Ne.symm hk)]
  exact R.ap j k ds es l hjk h1 h2 h3
theorem Adm.off {K:PySem.W.Frag}{C0 H0:Hp}{E:qF}{De:DEnds} (k:Adm K C0 H0 E De) (i:Nat):Adm K C0 H0 (E.off i) (De.off i):=
 ⟨fun δ σ C H rp q=>k.nx _ _ C H (rp.off i) q,k.rt,fun δ σ C H rp q=>k.bk _ _ C H (rp.off i) q,fun δ σ C H rp q=>k.ct _ _ C H (rp.off i) q⟩
theorem aBz {X:Cx}{body sts:List Stmt}{test:Expr}{ipos:Pos}{x nm:Str}{cl:Value}{np hpos pos:Pos}{n i:Nat}{cov:Str→Prop}{tv:Str→Bool}{gb:GX}{gs:GS} (hn:X.N.length=n) (hstk:X.stack=X.env::X.outer) (hfr:X.env.frame=some X.env.locals)
  (hN:X.N.Nodup) (hi:X.N[i]? = some nm) (hk:X.env.scope.names.lookup nm=some .local) (hg:Gl X x) (hm:X.mg x=some cl) (hcov:∀ c cls,cov c→X.mg c=some cls→PySem.W.exmOne X.K cls cl=some true)
  (hb:∀ EE pn xe,iY (wV X.prog X.w) (X.tr pn xe) EE→nO (X.tr pn xe) EE body gb) (ht:∀ ev pn a oe c cls,(a,oe)∈pn→oe.cls=cls→cov c→X.mg c=some cls→PT (X.su ev pn) test (fun σ H Q=>σ[i]? = some (some (.ref a))∧Q (tv c) H))
  (hs:∀ ev pn,kW (X.su ev pn) sts gs) (hdb:(x == ("__debug__":Str))=false:=by decide) :
  DSt X (.Try body [.ExceptHandler (some (.Name x np)) (some nm) [.If test sts [] ipos] hpos] [] [] pos) (xP n i cov tv gb gs):=by
 have hil:i<n:=by rw [← hn];exact (List.getElem?_eq_some_iff.mp hi).1
 refine ⟨fun D σ H=>∃ (C0 H0:Hp) (De:DEnds),Adm X.K C0 H0 D De∧tX X.K X.mg (fun cls _ H'=>∃ c C',X.mg c=some cls∧cov c∧(if tv c=true then gs (De.off i) (List.replicate n .un) else De.nx ((List.replicate n Sl.un).set i .un))∧b5 C0 H0 C' H') gb D σ H,fun pins s σ H D I q=>?_,fun C0 H0 δ σ C H De E rp g k=>?_⟩
 ·obtain ⟨C0,H0,De,k,q⟩:=q
  refine aA9 (EE:=fun cls _ H'=>∃ c C',X.mg c=some cls∧cov c∧(if tv c=true then gs (De.off i) (List.replicate n .un) else De.nx ((List.replicate n Sl.un).set i .un))∧b5 C0 H0 C' H') (ts:=fun a cls D σ H=>σ[i]? = some (some (.ref a))∧∃ c,cov c∧X.mg c=some cls∧if tv c=true then tSt X.K gs D σ H else D.nx σ H)
   hstk hfr hN hi hk hg hm (fun pn xe hp=>(hb _ pn xe hp).can) (fun ev pn a oe cls H' hpin hcl hq=>?_) hdb pins s σ H D I ⟨q,fun cls H' hq=>?_⟩
  ·intro pins s σ H D I h
   obtain ⟨h1,c,hc,hmc,h2⟩:=h
   refine tJ (aAr (ht ev pn a oe c cls hpin hcl hc hmc) (hs ev pn).can yV) pins s σ H D I ⟨h1,?_⟩
   cases tvc:tv c with
   | true=>
    rw [tvc,if_pos rfl] at h2
    exact tU h2
   | false=>
    rw [tvc,if_neg Bool.false_ne_true] at h2
    exact xW h2
  ·obtain ⟨c,C',hmc,hc,hq,ex⟩:=hq
   refine ⟨hcov c cls hc hmc,fun a=>⟨?_,c,hc,hmc,?_⟩⟩
   ·unfold σ0
    rw [List.getElem?_set_self (by rw [List.length_replicate,hn];exact hil)]
   ·have rp:d0 X.K C0 H0 (List.replicate n .un) ((σ0 X).set i (some (.ref a))) C' H':=by
     unfold σ0
     rw [hn]
     refine (aDn n ex).any fun z e=>?_
     rw [List.getElem?_replicate] at e
     split at e
     ·first | (cases e;done) | (cases e;rfl)
     ·first | (cases e;done) | (cases e;rfl)
    cases tvc:tv c with
    | true=>
     rw [tvc,if_pos rfl] at hq
     rw [if_pos rfl]
     exact ⟨C0,H0,_,C',De.off i,rp,hq,k.off i⟩
    | false=>
     rw [tvc,if_neg Bool.false_ne_true] at hq
     rw [if_neg Bool.false_ne_true]
     exact (k.off i).nx _ _ C' H' rp hq
 ·exact ⟨C0,H0,De,k,C0,H0,δ,C,{ De with xc:=fun c=>cov c∧if tv c=true then gs (De.off i) (List.replicate n .un) else De.nx ((List.replicate n Sl.un).set i .un) },fun c cls C' H' hmc hx ex=>⟨c,C',hmc,hx.1,hx.2,ex⟩,rp,g,k⟩
mutual
def noL:D→Bool
 | .lst _=>false
 | .tup ds=>aDI ds
 | _=>true
def aDI:List D→Bool
 | []=>true
 | d::ds=>noL d && aDI ds
end
section
variable {X:Cx}{e:Expr}{ge:GE}{gt:GT}{gf:GF}
def iD (i:Nat) (ge:GE):GE:=fun δ Q=>match δ[i]? with
 | some (.ow ds)=>ge (δ.set i (.im (.lst ds))) fun d=>noL d=true∧Q d
 | _=>False
def fK (i:Nat) (gt:GT):GT:=fun δ Q=>match δ[i]? with
 | some (.ow ds)=>gt (δ.set i (.im (.lst ds))) Q
 | _=>False
def eW (i:Nat) (gf:GF):GF:=fun δ Q=>match δ[i]? with
 | some (.ow ds)=>gf (δ.set i (.im (.lst ds))) fun es=>aDI es=true∧Q es
 | _=>False
end
section
variable {X:Cx}{st:Stmt}{i:Nat}{gf:GF}{tg iter elt:Expr}{pos:Pos}{ge:GE}{gi:GF}{gt:GT}{gg:GG}{scope:Scope}{Nc:List Str}{fr:List (Option Nat)}{ss:List Nat}
end
def vB:D→Option (List Int)
 | .tup ds=>jC ds
 | _=>none
def sO:List D→Option (List (List Int))
 | []=>some []
 | d::ds=>match vB d,sO ds with
  | some r,some rs=>some (r::rs)
  | _,_=>none
def pT:D→Option (List Int×List (List Int))
 | .tup [a,.tup ps]=>match vB a,sO ps with
  | some ns,some pay=>some (ns,pay)
  | _,_=>none
 | _=>none
theorem mP (r:List Int):vB (aN r)=some r:=iC r
theorem uI {d:D}{r:List Int} (h:vB d=some r):d=aN r:=by
 unfold vB at h
 split at h
 ·rw [mF h]
 ·cases h
theorem vV:∀ rs:List (List Int),sO (rs.map aN)=some rs
 | []=>rfl
 | r::rs=>by rw [List.map_cons,sO,mP,vV rs]
theorem vQ:∀ {ds:List D}{rs:List (List Int)},sO ds=some rs→ds=rs.map aN
 | [],rs,h=>by cases h;rfl
 | d::ds,rs,h=>by
  unfold sO at h
  split at h
  ·rename_i r rs' e1 e2
   cases h
   rw [uI e1,vQ e2]
   rfl
  ·cases h
theorem aAf (ns:List Int) (pay:List (List Int)):pT (dZ ns pay)=some (ns,pay):=by
 unfold dZ pT
 simp only [mP,vV]
theorem zT {d:D}{ns:List Int}{pay:List (List Int)} (h:pT d=some (ns,pay)):d=dZ ns pay:=by
 unfold pT at h
 split at h
 ·split at h
  ·rename_i e1 e2
   cases h
   rw [uI e1,vQ e2]
  ·cases h
 ·cases h
open Classical in
noncomputable def kL (m:D) (f:List Int→List (List Int)→Option D):Option D:=match pT m with
 | some (ns,pay)=>if eQ ns pay then f ns pay else none
 | none=>none
theorem r8 {ns:List Int}{pay:List (List Int)}{f:List Int→List (List Int)→Option D} (h:eQ ns pay):kL (dZ ns pay) f=f ns pay:=by
 unfold kL
 rw [aAf]
 exact if_pos h
theorem sU {m d:D}{f:List Int→List (List Int)→Option D} (h:kL m f=some d):∃ ns pay,m=dZ ns pay∧eQ ns pay∧f ns pay=some d:=by
 unfold kL at h
 split at h
 ·rename_i ns pay e
  split at h
  ·rename_i ho
   exact ⟨ns,pay,zT e,ho,h⟩
  ·cases h
 ·cases h
theorem aB0 (i j:Int):gY (.int i) (.int j)=some (i == j):=by unfold gY;rfl
section
variable {ns:List Int}{pay:List (List Int)}{r:List Int}{h:Nat}
end
section
variable {X:Cx}
end
section
variable {κ:Type} [DecidableEq κ]
end
section
variable {K:PySem.W.Frag}{f:Nat→Bool}{H:Hp}{kvs:List (NK×V)}{xs:List (NK×Addr×Value)}
end
section
variable {P:Program}{w:World}{H:Hp}{h:Heap}{a:Addr}
end
section
variable {X:Cx}{pins:List (Addr×Obj)}{σ:St}{H:Hp}{s:Shared}{a:Addr}
end
section
variable {X:Cx}{pins:List (Addr×Obj)}{σ:St}{H:Hp}{s:Shared}{a:Addr}{y v:V}{u r:Value}{o:Option V}{A:Around}{E:Value→Shared→Prop}
end
section
variable {X:Cx}{pins:List (Addr×Obj)}{σ:St}{H:Hp}{s:Shared}{a:Addr}{kvs:List (rH×V)}{k:rH}{u:Value}{A:Around}{E:Value→Shared→Prop}
end
section
variable {X:Cx}{o i e value:Expr}{pos pos' tpos:Pos}{td ty tv:TE}
end
section
variable {X:Cx}{pos:Pos}
end
section
variable {X:Cx}{pins:List (Addr×Obj)}{σ:St}{H:Hp}{s:Shared}{a:Addr}{y d:V}{u r:Value}{o:Option V}{A:Around}{E:Value→Shared→Prop}
end
section
variable {X:Cx}{o e f:Expr}{apos cpos:Pos}{td ty tx:TE}
end
section
variable {X:Cx}{pins:List (Addr×Obj)}{σ:St}{H:Hp}{s:Shared}{a:Addr}{kvs:List (rH×V)}{A:Around}{E:Value→Shared→Prop}
end
section
variable {X:Cx}{pins:List (Addr×Obj)}{σ:St}{H:Hp}{s:Shared}{a:Addr}{y:V}{u:Value}{A:Around}{E:Value→Shared→Prop}
end
section
variable {X:Cx}{tg a:Expr}{ga:GE}{pos:Pos}
end
section
variable {X:Cx}{tg a:Expr}{ga:GE}{pos:Pos}
end
section
variable {κ κ':Type} [DecidableEq κ] [DecidableEq κ']
end
theorem aEc {i:Int}{r:List Int}:jC [.int i,.tup (r.map D.int)]=none:=rfl
section
variable {K:PySem.W.Frag}{C0 H0 C H C1 H1:Hp}{δ:DS}{σ:St}
end
section
variable {X:Cx}{a b c e f o:Expr}{es:List Expr}{pos:Pos}{ga gk gd gv:GE}{gA:GF}
end
section
variable {X:Cx}{sts:List Stmt}{g1:GS}{tg:Expr}{pos:Pos}
end
section
variable {X:Cx}{tg:Expr}{pos:Pos}
end
theorem rK:bootBuiltins "ValueError"=some (.type "ValueError"):=by decide +kernel
section
variable {X:Cx}{a:Addr}{oe:Obj}{C Nn:Addr}{i:Nat}{n y1 y2:Str}{p1 p2 p3 q1 q2 q3 r1 r2 r3 s1 s2 s3 u pos:Pos}
theorem aAY (hp:(a,oe)∈X.pn) (hc:oe.cls = .ref C) (T:aBw X.K C) (m1:X.mg y1=some (.ref C)) (m2:X.mg y2=some (.ref Nn)) (m3:X.mg "ValueError"=none) (m4:X.mg "isinstance"=none)
  (k1:PySem.W.kitOne X.K (.ref C) (.ref C)=some true) (k2:PySem.W.kitOne X.K (.ref C) (.ref Nn)=some false) (k3:PySem.W.kitOne X.K (.ref C) (.type "ValueError")=some true)
  (hn:∀ p,PE X (.Name n p) (xG i)) (g1:Gl X y1) (g2:Gl X y2) (g3:Gl X "ValueError") (g4:Gl X "isinstance") (b1:(y1 == ("__debug__":Str))=false:=by decide) (b2:(y2 == ("__debug__":Str))=false:=by decide)
  (e1:∀ p y q,starEach [.Name n p,.Name y q] X.env=[(false,eval (.Name n p) X.env),(false,eval (.Name y q) X.env)]:=by intros;rfl) (e2:∀ y q,starEach [.Name y q] X.env=[(false,eval (.Name y q) X.env)]:=by intros;rfl) :
  PT X (.BoolOp .And [.Call (.Name "isinstance" p1) [.Name n q1,.Name y1 r1] [] s1,.UnaryOp .Not (.Call (.Name "isinstance" p2) [.Name n q2,.Name y2 r2] [] s2) u,.Call (.Name "isinstance" p3) [.Name n q3,.Name "ValueError" r3] [] s3] pos) (fun σ H Q=>σ[i]? = some (some (.ref a))∧Q true H):=by
 have call:∀ {y:Str}{p q r s:Pos}{t:TA}{rr:List V→Hp→VK→Prop},fX X (.builtin "isinstance") rr→PA X [.Name n q,.Name y r] t→PE X (.Call (.Name "isinstance" p) [.Name n q,.Name y r] [] s) (tCB rr t):=fun h1 h2=>dD h1 g4 m4 gH h2
 have pa:True:=trivial
 have A1:PT X (.Call (.Name "isinstance" p1) [.Name n q1,.Name y1 r1] [] s1) (fun σ H Q=>σ[i]? = some (some (.ref a))∧Q true H):=xL (vy:=.ref C) hp hc T rfl k1 (fun _ z=>z) (hn q1) (uN g1 m1 rfl b1) call
 have A2:PT X (.Call (.Name "isinstance" p2) [.Name n q2,.Name y2 r2] [] s2) (fun σ H Q=>σ[i]? = some (some (.ref a))∧Q false H):=xL (vy:=.ref Nn) hp hc T rfl k2 (fun _ z=>z) (hn q2) (uN g2 m2 rfl b2) call
 have A3:PT X (.Call (.Name "isinstance" p3) [.Name n q3,.Name "ValueError" r3] [] s3) (fun σ H Q=>σ[i]? = some (some (.ref a))∧Q true H):=xL (vy:=.ty "ValueError") hp hc T rfl k3 (fun _ z=>z) (hn q3) (o9 g3 m3 rK rfl) call
 have W:=(w8 A1 (w8 (aAs A2) (y4 A3))).pt (X:=X) (e:=.BoolOp .And [.Call (.Name "isinstance" p1) [.Name n q1,.Name y1 r1] [] s1,.UnaryOp .Not (.Call (.Name "isinstance" p2) [.Name n q2,.Name y2 r2] [] s2) u,.Call (.Name "isinstance" p3) [.Name n q3,.Name "ValueError" r3] [] s3] pos)
 intro pins s σ H Q I q
 exact W pins s σ H Q I ⟨q.1,tU ⟨q.1,tU ⟨q.1,q.2⟩⟩⟩
end
abbrev GFX:=DS→(Str→Prop)→(List D→Prop)→Prop
def DAx (X:Cx) (EE:XK) (es:List Expr) (g:GFX):Prop:=∃ t,PA X es t∧∀ C0 H0 δ σ C H (xc:Str→Prop) (Q:List D→Prop) (R:List V→Hp→Prop),wQ X EE C0 H0 xc→d0 X.K C0 H0 δ σ C H→g δ xc Q→(∀ ds vs C1 H1,Q ds→b5 C H C1 H1→aT X.K C1 vs ds→R vs H1)→t σ H R
section
variable {X:Cx}{EE:XK}{e:Expr}{es:List Expr}{pos:Pos}{ge:GE}{gx:yM}{gs:GFX}
def vG:GFX:=fun _ _ Q=>Q []
theorem y3:DAx X EE [] vG:=⟨_,g5,fun C0 H0 δ σ C H xc Q R te rp g k=>k [] [] C H g (b5.refl rp.ch) .nil⟩
def qB (gx:yM) (gs:GFX):GFX:=fun δ xc Q=>gx δ xc fun d=>gs δ xc fun ds=>Q (d::ds)
theorem wD (ha:DEx X EE e gx) (hr:DAx X EE es gs) (hs:starEach (e::es) X.env=(false,eval e X.env)::starEach es X.env:=by rfl):DAx X EE (e::es) (qB gx gs):=by
 obtain ⟨t1,p1,h1⟩:=ha
 obtain ⟨t2,p2,h2⟩:=hr
 refine ⟨_,dR p1 p2 hs,fun C0 H0 δ σ C H xc Q R te rp g k=>h1 C0 H0 δ σ C H _ _ _ te rp g fun d v C1 H1 q e1 n1=>?_⟩
 exact h2 C0 H0 δ σ C1 H1 _ _ _ te (rp.grow e1) q fun ds vs C2 H2 q2 e2 n2=>k (d::ds) (v::vs) C2 H2 q2 (e1.trans e2) (.cons (n1.mono e2.cc) n2)
end
def zV (base:Heap) (l:List Env) (e:Addr) (cls a0:Value) (h:Heap):Prop:=base.StaysIn h∧base.get? e=none∧h.FunFrames base l∧∃ fl,h.TracedAtW base e cls a0 fl
theorem vS {h base base':Heap} (hb:∀ b,base.get? b=none→base'.get? b=none):∀ {l:List Env},h.FunFrames base l→h.FunFrames base' l
 | [],_=>trivial
 | env::rest,x=>by
  obtain ⟨h1,⟨L,o,f1,f2,f3,f4⟩,r⟩:=x
  exact ⟨h1,⟨L,o,f1,hb L f2,f3,f4⟩,vS hb r⟩
theorem vY {h h' base:Heap}{l:List Env} (x:h.FunFrames base l) (k:h.UpToSlots h'):h'.FunFrames base l:=x.of_keeps fun b o e n=>by
 obtain ⟨sl,q⟩:=k b o e n
 exact ⟨_,q,rfl⟩
section
variable {M:Model}{A:Around}{E:Value→Shared→Prop}{s:Shared}{base:Heap}{l:List Env}{e:Addr}{cls a0:Value}
theorem aAk {fo:Option Addr}{Q:Unit→Shared→Prop} (hx:zV base l e cls a0 s.heap) (h:∀ h',zV base l e cls a0 h'→s.heap.UpToSlots h'→Q () { s with heap:=h' }):wpAny M A (setFlight (.ref e) fo) Q E s:=by
 obtain ⟨x1,x2,x3,fl,oe,vs,T,oT,ts,he,hc,hd,h1,hn,hTe,hT,hdT,h3⟩:=hx
 have lt:=(Array.getElem?_eq_some_iff.mp h3).1
 unfold setFlight
 refine wpAny_bind (wpAny_field he hd h1 ?_)
 rw [if_pos (show (Value.ref T != Value.none)=true by simp)]
 generalize hv:(fo.elim Value.none fun f=>rawInt f)=v
 have far:∀ b,b≠T→(s.heap.update T (Obj.mapFields (·.setIfInBounds 3 v))).get? b=s.heap.get? b:=fun b hb=>Heap.get?_update_other _ _ (Ne.symm hb)
 have up:s.heap.UpToSlots (s.heap.update T (Obj.mapFields (·.setIfInBounds 3 v))):=fun b o q nf=>by
  refine ⟨o.slots,(far b fun z=>?_).trans q⟩
  rw [z,hT] at q
  cases q
  exact nf ts hdT
 refine wpAny_setField hT hdT lt (h _ ⟨fun b o q=>(far b fun z=>?_).trans (x1 b o q),x2,vY x3 up,v,oe,vs,T,_,_,(far e (Ne.symm hTe)).trans he,hc,hd,h1,hn,hTe,Heap.get?_update_self _ hT (Obj.isFreed_of_fields (Obj.data_mapFields hdT _)),Obj.data_mapFields hdT _,?_⟩ up)
 ·rw [z,hn] at q
  cases q
 ·simp [lt]
theorem aCv {what:String}{env:Env}{α:Type}{Q:α→Shared→Prop} (hx:zV base l e cls a0 s.heap) (h:∀ h',zV base l e cls a0 h'→s.heap.UpToSlots h'→E (.ref e) { s with heap:=h' }):wpAny M A (PySem.passOn what (.ref e) env:Sem α) Q E s:=by
 have hx':=hx
 obtain ⟨x1,x2,x3,fl,oe,vs,T,oT,ts,he,hc,hd,h1,hn,hTe,hT,hdT,h3⟩:=hx'
 unfold PySem.passOn
 refine wpAny_bind (wpAny_field he hd h1 ?_)
 rw [if_neg (show ¬ ((Value.ref T == Value.none)=true) by simp)]
 have fin:wpAny M A (setFlight (.ref e) env.frame >>= fun _=>(throw (Value.ref e):Sem α)) Q E s:=wpAny_bind (aAk hx fun h' a b=>wpAny_throw (h h' a b))
 first
  | exact wpAny_bind (wpAny_pure fin)
  | exact fin
theorem aAC {env:Env}{outer:List Env}{L:Addr}{Q:Unit→Shared→Prop} (hfr:A.frames=some (env::outer)) (hf:env.frame=some L) (hx:zV base (env::outer) e cls a0 s.heap)
  (hQ:∀ h',Heap.FlyingW base outer e cls a0 h'→s.heap.UpToSlots h'→Q () { s with heap:=h' }):wpAny M A (leaving env (.ref e)) Q E s:=by
 obtain ⟨x1,x2,x3,fl,ht⟩:=hx
 have land:∀ h1:Heap,s.heap.UpToSlots h1→Heap.HeldW base (env::outer) e cls a0 L h1→wpAny M A (setFlight (.ref e) none) Q E { s with heap:=h1 }:=fun h1 u1 hh=>by
  refine wpAny_landsW (s:={ s with heap:=h1 }) hh fun h' hfl u2=>?_
  obtain ⟨k1,k2,⟨_,_,k3⟩,k4⟩:=hfl
  exact hQ h' ⟨k1,k2,k3,k4⟩ (u1.trans u2)
 by_cases hfl:fl=rawInt L
 ·subst hfl
  unfold leaving
  exact wpAny_bind (wpAny_noteFrame_againW hf ht (land _ (Heap.UpToSlots.refl _) ⟨x1,x2,x3,ht⟩))
 ·obtain ⟨oe,vs,T,oT,ts,he,⟨hc,h0⟩,hd,h1,hn,hTe,hT,hdT,h3⟩:=ht
  subst hc
  have lt:=(Array.getElem?_eq_some_iff.mp h3).1
  have far:∀ b,b≠T→(s.heap.update T (Obj.mapFields (·.setIfInBounds 3 Value.none))).get? b=s.heap.get? b:=fun b hb=>Heap.get?_update_other _ _ (Ne.symm hb)
  have up:s.heap.UpToSlots (s.heap.update T (Obj.mapFields (·.setIfInBounds 3 Value.none))):=fun b o q nf=>by
   refine ⟨o.slots,(far b fun z=>?_).trans q⟩
   rw [z,hT] at q
   cases q
   exact nf ts hdT
  unfold leaving noteFrame
  simp only [hf]
  refine wpAny_bind (wpAny_bind (wpAny_field he hd h1 ?_))
  rw [if_pos (show (Value.ref T != Value.none)=true by simp)]
  refine wpAny_bind (wpAny_field hT hdT h3 ?_)
  rw [if_neg (show ¬ ((fl == rawInt L)=true) by simpa using hfl)]
  refine wpAny_bind (wpAny_setField hT hdT lt ?_)
  refine wpAny_entryW hfr (vY x3 up) hf ((far e (Ne.symm hTe)).trans he) (fun b o q=>(far b fun z=>?_).trans (x1 b o q)) x2 hd (Array.getElem?_eq_some_iff.mp h1).1 h0 fun h' hN=>?_
  ·rw [z,hn] at q
   cases q
  ·obtain ⟨k1,k2,k3,k4⟩:=hN
   exact land h' (up.trans k4) ⟨k1,x2,k2,k3⟩
end
theorem wU {h h' base:Heap}:∀ {l:List Env},h.FunFrames base l→(∀ b∈frs l,h'.get? b=h.get? b)→h'.FunFrames base l
 | [],_,_=>trivial
 | env::rest,x,k=>by
  obtain ⟨h1,⟨L,o,f1,f2,f3,f4⟩,r⟩:=x
  have m1:L∈frs (env::rest):=List.mem_filterMap.mpr ⟨env,List.mem_cons_self,f1⟩
  refine ⟨h1,⟨L,o,f1,f2,(k L m1).trans f3,f4⟩,wU r fun b hb=>k b ?_⟩
  obtain ⟨env',he,q⟩:=List.mem_filterMap.mp hb
  exact List.mem_filterMap.mpr ⟨env',List.mem_cons_of_mem _ he,q⟩
section
variable {P:Program}{w:World}{K:PySem.W.Frag}{mg:Str→Option Value}{base:Heap}{N:List Str}{qual:Str}{scope0:Scope}{f:Addr}{cd:Value}{A:Around}{outer:List Env}{s:Shared}{H:Hp}{E:XK}
theorem yA {scope:Scope}{Nc:List Str}{C:Addr}{pins pins':List (Addr×Obj)}{fp:List Addr}{σ σ':St}{H2 H3:Hp}{s2 s3 s':Shared}{e acc:Value}{Q:Value→Shared→Prop}{E0:Value→Shared→Prop}
  (I3:aP (mE P w K mg base N qual scope0 f cd A outer s H E) pins σ H3 s3) (hfp:∀ b∈fp,kA (mE P w K mg base N qual scope0 f cd A outer s H E) pins H3 b) (hC:s3.heap.objs.size≤C)
  (Ic:aP (m8 (mE P w K mg base N qual scope0 f cd A outer s H E) scope Nc C pins fp s3 H3) pins' σ' H2 s2) (hc:wV P w (mE P w K mg base N qual scope0 f cd A outer s H E).stack H2 s2 E e s') :
  wpAny (model P w) (mE P w K mg base N qual scope0 f cd A outer s H E).A (noteFrame e (mE P w K mg base N qual scope0 f cd A outer s H E).env)
   (fun _ s''=>compPost (model P w) (mE P w K mg base N qual scope0 f cd A outer s H E).A (mE P w K mg base N qual scope0 f cd A outer s H E).xe none Q acc C (.error e) s'') E0 s':=by
 obtain ⟨a,cls,a0,H',B,rfl,ho,hg,F,hq⟩:=hc
 have cst:C∉frs (mE P w K mg base N qual scope0 f cd A outer s H E).stack:=fun z=>by
  rcases List.mem_cons.mp (I3.stkSub C z) with q | q
  ·have:=I3.lt
   rw [← q] at this
   exact absurd (Nat.lt_of_lt_of_le this hC) (Nat.lt_irrefl _)
  ·exact I3.nofs hC q
 have hCn:H2 C=none:=Ic.free
 obtain ⟨m,hnC,_⟩:=Ic.loc
 have hnC':s2.heap.Ns C m:=hnC
 obtain ⟨oC,es,ep,eC,dC,rC⟩:=hnC'
 have eC':s'.heap.get? C=some oC:=F.un.keep C oC eC hCn cst (cX C)
 obtain ⟨oB,eB⟩:=F.kt C oC eC cst
 have hC':H' C=none:=F.un.free C oC eC hCn (cX C)
 refine wpAny_looks_onW I3.ok.frames rfl F.fl fun h4 hh u4=>?_
 obtain ⟨k1,k2,k3,k4⟩:=hh
 refine ⟨m,u4.ns ⟨oC,es,ep,eC',dC,rC⟩,fun h5 sb cenv' hl=>?_⟩
 have bn:∀ b,B.get? b=none→(PySem.W.hideAll B [C]).get? b=none:=fun b q=>by
  cases z:(PySem.W.hideAll B [C]).get? b with
  | none=>rfl
  | some o=>rw [PySem.W.of_hideAll _ z] at q;cases q
 have bC:∀ b o,(PySem.W.hideAll B [C]).get? b=some o→b≠C:=fun b o q z=>by
  rw [z,PySem.W.hideAll_none [C] (List.mem_singleton.mpr rfl)] at q
  cases q
 have aC:a≠C:=fun z=>by rw [z,eB] at k2;cases k2
 have x5:zV (PySem.W.hideAll B [C]) (mE P w K mg base N qual scope0 f cd A outer s H E).stack a cls a0 h5:=by
  obtain ⟨oe,vs,T,oT,ts,t1,t2,t3,t4,t5,t6,t7,t8,t9⟩:=k4
  have TC:T≠C:=fun z=>by rw [z,eB] at t5;cases t5
  exact ⟨fun b o q=>(sb.2 b (bC b o q)).trans (k1 b o (PySem.W.of_hideAll _ q)),bn a k2,vS bn (wU k3 fun b hb=>sb.2 b fun z=>cst (z ▸ hb)),_,oe,vs,T,oT,ts,(sb.2 a aC).trans t1,t2,t3,t4,bn T t5,t6,(sb.2 T TC).trans t7,t8,t9⟩
 refine aCv x5 fun h6 x6 u6=>?_
 refine aAC I3.ok.frames rfl x6 fun h7 fl7 u7=>?_
 have nfp:∀ b o,s.heap.get? b=some o→b∉fp:=fun b o q hb=>by
  rcases (hfp b hb).2.2.2.1 with z | z
  ·exact absurd z (cX b)
  ·exact absurd (Nat.lt_of_lt_of_le (Heap.lt_size q) z) (Nat.lt_irrefl _)
 have nC:∀ b o,s.heap.get? b=some o→b∉[C]:=fun b o q hb=>by
  have z:=List.mem_singleton.mp hb
  subst z
  exact absurd (Nat.lt_of_lt_of_le (Heap.lt_size q) (Nat.le_trans I3.sz hC)) (Nat.lt_irrefl _)
 have f2:∀ b o,s.heap.get? b=some o→H b=none→H2 b=none:=fun b o q n=>by
  obtain ⟨o1,e1⟩:=I3.base.there b o q (cX b)
  exact Ic.base.free b o1 e1 (I3.base.free b o q n (cX b)) (nfp b o q)
 have th:∀ b o,s.heap.get? b=some o→∃ o2,s2.heap.get? b=some o2:=fun b o q=>by
  obtain ⟨o1,e1⟩:=I3.base.there b o q (cX b)
  exact Ic.base.there b o1 e1 (nfp b o q)
 have kb:∀ b o,s.heap.get? b=some o→H b=none→b∉frs outer→(PySem.W.hideAll B [C]).get? b=some o:=fun b o q n hb=>by
  have e1:=I3.base.keep b o q n hb (cX b)
  have ns:=lB I3 q hb
  have e2:=Ic.base.keep b o e1 (I3.base.free b o q n (cX b)) ns (nfp b o q)
  exact PySem.W.hideAll_get [C] (F.kb b o e2 (f2 b o q n) ns) (nC b o q)
 have kt:∀ b o,s.heap.get? b=some o→b∉frs outer→∃ o',(PySem.W.hideAll B [C]).get? b=some o':=fun b o q hb=>by
  obtain ⟨o2,e2⟩:=th b o q
  obtain ⟨o3,e3⟩:=F.kt b o2 e2 (lB I3 q hb)
  exact ⟨o3,PySem.W.hideAll_get [C] e3 (nC b o q)⟩
 have hok:nE P w H' (PySem.W.hideAll B [C]):=fun c u q=>by
  refine (F.hok c u q).stay (fun b u' hb z=>PySem.W.hideAll_get [C] z fun z2=>?_) (fun _ z=>z) (fun _ _ z=>z) fun _ _ _ z=>z
  have z3:=List.mem_singleton.mp z2
  subst z3
  rcases hb with rfl | hb
  ·rw [hC'] at q;cases q
  ·rw [hC'] at hb;cases hb
 refine ⟨a,cls,a0,H',PySem.W.hideAll B [C],rfl,ho.trans (Ic.os.trans I3.os),hg,⟨y9 (fun b o q n=>?_) (fun b xs q=>F.un.tups b xs (Ic.base.tups b xs (I3.base.tups b xs q))) (fun b o u q=>F.un.frzs b o u (Ic.base.frzs b o u (I3.base.frzs b o u q))) (fun b ps q=>?_) kb kt fl7.1 (fun b o q hb n=>?_) I3.ok.frf,kb,kt,hok,fl7⟩,hq⟩
 ·obtain ⟨o2,e2⟩:=th b o q
  exact F.un.free b o2 e2 (f2 b o q n) (cX b)
 ·obtain ⟨m1,e1⟩:=I3.base.tbls b ps q
  obtain ⟨m2,e2⟩:=Ic.base.tbls b _ e1
  obtain ⟨m3,e3⟩:=F.un.tbls b _ e2
  exact ⟨m1++m2++m3,by rw [e3,Array.append_assoc,Array.append_assoc,Array.append_assoc]⟩
 ·obtain ⟨sl1,e1⟩:=I3.base.slot b o q n hb (cX b)
  have hb':b∈frs (mE P w K mg base N qual scope0 f cd A outer s H E).stack:=List.mem_cons_of_mem _ hb
  obtain ⟨sl2,e2⟩:=Ic.base.slot b _ e1 (I3.base.free b o q n (cX b)) hb' (nfp b o q)
  obtain ⟨sl3,e3⟩:=F.un.slot b _ e2 (f2 b o q n) hb' (cX b)
  obtain ⟨_,o4,e4,nf⟩:=F.fl.2.2.1.mem hb'
  rw [e3] at e4
  cases e4
  obtain ⟨sl4,e5⟩:=u4 b _ e3 nf
  have e6:=(sb.2 b fun z=>cst (z ▸ hb')).trans e5
  obtain ⟨sl5,e7⟩:=u6 b _ e6 nf
  obtain ⟨sl6,e8⟩:=u7 b _ e7 nf
  exact ⟨sl6,e8⟩
end
section
variable {prog:Program}{w:World}{A:Around}{R:Result→Shared→Prop}{s:Shared}
theorem xA {elt target iter:Expr}{scope:Scope}{pos:Pos}{it acc:Value}{env:Env} (I:Nat→Shared→Prop)
  (turn:∀ n s,I n s→wpAny (model prog w) A (pyNext it) (fun r s₁=>match r with
   | none=>R (.ok .next) s₁
   | some v=>wpAny (model prog w) A (letOwnedTupleGo target it v) (fun _ s₂=>wpAny (model prog w) A (assign target env v) (fun _ s₃=>
     wpAny (model prog w) A (eval elt env) (fun x s₅=>
       wpAny (model prog w) A (call (.builtin "list.append") [acc,x]) (fun _ s₆=>∃ m,m<n∧I m s₆) (fun _ _=>False) s₅) (notedBy (model prog w) A env fun x s'=>R (.error x) s') s₃) (fun _ _=>False) s₂) (fun _ _=>False) s₁) (fun _ _=>False) s)
  (n:Nat) (h:I n s) :
  codeAny (model prog w) A (.compLoop (.ListComp elt [⟨target,iter,[],0⟩] scope pos) 0 it acc env) R s:=by
 refine codeAny_loop rfl I (fun n s hI=>?_) n h
 refine wpAny_noted (m:=compTurn (.ListComp elt [⟨target,iter,[],0⟩] scope pos) 0 it acc env) (env:=env) ?_
 rw [compTurn_list]
 have no:∀ {E:Value→Shared→Prop} (e:Value) (s:Shared),False→E e s:=fun _ _ f=>f.elim
 refine wpAny_bind (wpAny_standAt (wpAny_bind (wpAny_mono (turn n s hI) (fun r s₁ h₁=>?_) no)))
 cases r with
 | none=>exact wpAny_pure h₁
 | some v=>
  refine wpAny_bind (wpAny_mono h₁ (fun _ s₂ h₂=>?_) no)
  refine wpAny_bind (wpAny_mono h₂ (fun _ s₃ h₃=>?_) no)
  refine wpAny_bind (wpAny_tests_nil ?_)
  refine wpAny_bind (wpAny_bind (wpAny_mono h₃ (fun x s₅ h₅=>?_) fun _ _ z=>z))
  exact wpAny_bind (wpAny_mono h₅ (fun _ s₆ h₆=>wpAny_pure (wpAny_pure ⟨rfl,h₆⟩)) no)
end
def xeC (X:Cx) (scope:Scope) (Nc:List Str) (Cc:Addr) (pins:List (Addr×Obj)) (fp:List Addr) (s3:Shared) (H3:Hp) (EE:XK):Value→Shared→Prop:=fun e s'=>∃ pins' σ' H2 s2,aP (m8 X scope Nc Cc pins fp s3 H3) pins' σ' H2 s2∧wV X.prog X.w X.stack H2 s2 EE e s'
abbrev cxX (X:Cx) (scope:Scope) (Nc:List Str) (Cc:Addr) (pins:List (Addr×Obj)) (fp:List Addr) (s3:Shared) (H3:Hp) (EE:XK):Cx:=(m8 X scope Nc Cc pins fp s3 H3).wish (xeC X scope Nc Cc pins fp s3 H3 EE)
theorem aCO {X:Cx}{scope:Scope}{Nc:List Str}{Cc:Addr}{pins:List (Addr×Obj)}{fp:List Addr}{s3:Shared}{H3:Hp}{EE:XK}:iY (wV X.prog X.w) (cxX X scope Nc Cc pins fp s3 H3 EE) EE:=
 fun pins' σ' H2 s2 e s' I hc=>⟨pins',σ',H2,s2,I.unwish,hc⟩
def yZ (X:Cx) (EE:XK):Prop:=∀ (scope:Scope) (Nc:List Str) (C:Addr) (pins:List (Addr×Obj)) (fp:List Addr) (σ:St) (H3:Hp) (s3 s':Shared) (e acc:Value) (Q:Value→Shared→Prop) (E0:Value→Shared→Prop),
 aP X pins σ H3 s3→(∀ b∈fp,kA X pins H3 b)→s3.heap.objs.size≤C→xeC X scope Nc C pins fp s3 H3 EE e s' →
  wpAny (model X.prog X.w) X.A (noteFrame e X.env) (fun _ s''=>compPost (model X.prog X.w) X.A X.xe none Q acc C (.error e) s'') E0 s'
theorem aCK {P:Program}{w:World}{K:PySem.W.Frag}{mg:Str→Option Value}{base:Heap}{N:List Str}{qual:Str}{scope0:Scope}{f:Addr}{cd:Value}{A:Around}{outer:List Env}{s:Shared}{H:Hp}{E:XK}:yZ (mE P w K mg base N qual scope0 f cd A outer s H E) E:=by
 intro scope Nc C pins fp σ H3 s3 s' e acc Q E0 I3 hfp hC h
 obtain ⟨pins',σ',H2,s2,Ic,hc⟩:=h
 exact yA I3 hfp hC Ic hc
section
variable {X:Cx}{EE:XK}{scope:Scope}{Nc:List Str}{fr:List (Option Nat)}{pins:List (Addr×Obj)}{σ:St}{H:Hp}{s:Shared}{fp:List Addr}
theorem xS {tg elt iter:Expr}{pos:Pos}{g:TG}{te:TE}{J:It}{it:Addr}{tn:Nat→Heap→Prop}{Q:VK}{E:Value→Shared→Prop} (th:yZ X EE) (ok:jW X.env.scope scope X.N Nc fr) (hc:X.calm=true)
  (hg:∀ Cc pins fp s3 H3,PG (m8 X scope Nc Cc pins fp s3 H3) tg g) (he:∀ Cc pins fp s3 H3,PE (cxX X scope Nc Cc pins fp s3 H3 EE) elt te)
  (I:aP X pins σ H s) (T:aAl X.prog X.w X.K tg J fp it tn) (st:tn 0 s.heap) (hf:∀ b∈fp,kA X pins H b) (w:∀ D,H D=none→pX J (σc fr σ) g yO te D H Q) :
  wpAny (model X.prog X.w) X.A (newList []) (fun acc s₃=>wpAny (model X.prog X.w) X.A (newFunctionEnv scope X.env.globals (iN X.env scope.names []) [] X.env.qual none .none (some X.env)) (fun cenv s₄=>
   codeAny (model X.prog X.w) X.A (.compStart (.ListComp elt [⟨tg,iter,[],0⟩] scope pos) 0 (.ref it) acc { cenv with scope:=relabel scope X.env }) (compPost (model X.prog X.w) X.A X.xe none (EP X pins σ Q) acc cenv.locals) s₄) E s₃) E s:=by
 have flt:∀ b∈fp,b<s.heap.objs.size:=fun b hb=>by
  obtain ⟨o,e,_⟩:=T.obj 0 _ st b hb
  exact Heap.lt_size e
 refine wpAny_newList ?_ (by show 0≤sizeLine;exact Nat.zero_le _)
 have I3:=I.lnew (ys:=[]) (its:=[]) (t':=s.toks) .nil (Nat.zero_le _)
 have st3:tn 0 (s.heap.push { cls:=.type "list",data:=.seq ([]:List Value).toArray }):=T.keep 0 _ _ st fun b _ o e=>Heap.get?_push_of_some _ e
 obtain ⟨W,⟨m0,w0⟩,turn⟩:=w s.heap.objs.size I.fresh
 have hf3:∀ b∈fp,kA X pins (upd H s.heap.objs.size (.lst [])) b:=fun b hb=>⟨by rw [a8 (Nat.ne_of_lt (flt b hb))];exact (hf b hb).1,(hf b hb).2⟩
 generalize hD:s.heap.objs.size=D at *
 generalize hs3:({ s with heap:=s.heap.push { cls:=.type "list",data:=.seq ([]:List Value).toArray } }:Shared)=s3
 have I3':aP X pins σ (upd H D (.lst [])) s3:=hs3 ▸ I3
 have st3':tn 0 s3.heap:=by rw [← hs3];exact st3
 have flt3:∀ b∈fp,b<s3.heap.objs.size:=fun b hb=>by
  obtain ⟨o,e,_⟩:=T.obj 0 _ st3' b hb
  exact Heap.lt_size e
 refine qW ?_
 generalize hh1:pushCells (s3.heap.push { cls:=.type "dict",data:=.dict #[] }) scope.names=h1
 have hn1:h1.Ns s3.heap.objs.size (fun _=>none):=hh1 ▸ (Heap.Ns.new s3.heap (.type "dict")).keeps (pushCells_keeps _ _)
 have up:∀ b o,s3.heap.get? b=some o→h1.get? b=some o:=fun b o e=>hh1 ▸ pushCells_keeps _ _ b o (Heap.get?_push_of_some _ e)
 have cs1:uK scope (iN X.env scope.names []) s3.heap.objs.size h1:=hh1 ▸ aBE scope (iN X.env scope.names []) s3.heap _
 have I4:aP (m8 X scope Nc s3.heap.objs.size pins fp s3 (upd H D (.lst []))) [] (σc fr σ) (upd H D (.lst [])) { s3 with heap:=h1 }:=qR ok I3' hf3 flt3 hn1 up cs1
 have st4:tn 0 h1:=T.keep 0 _ _ st3' fun b _ o e=>up b o e
 have heX:=he s3.heap.objs.size pins fp s3 (upd H D (.lst []))
 have thX:=th scope Nc s3.heap.objs.size pins fp σ (upd H D (.lst [])) s3
 generalize hxe:xeC X scope Nc s3.heap.objs.size pins fp s3 (upd H D (.lst [])) EE=xe at thX
 have heX':PE ((m8 X scope Nc s3.heap.objs.size pins fp s3 (upd H D (.lst []))).wish xe) elt te:=hxe ▸ heX
 generalize hXc:m8 X scope Nc s3.heap.objs.size pins fp s3 (upd H D (.lst []))=Xc at I4 heX'
 have hg':PG Xc tg g:=hXc ▸ hg _ _ _ _ _
 have eP:Xc.prog=X.prog:=by rw [← hXc];rfl
 have ew:Xc.w=X.w:=by rw [← hXc];rfl
 have eK:Xc.K=X.K:=by rw [← hXc];rfl
 have eA:Xc.A=X.A:=by rw [← hXc];rfl
 have ec:Xc.calm=true:=by rw [← hXc];exact hc
 have ex:Xc.xe=fun _ _=>False:=by rw [← hXc];rfl
 have ee:Xc.env=compEnvC scope (cellsFrom (s3.heap.objs.size+1) scope.names (iN X.env scope.names [])) s3.heap.objs.size X.env:=by rw [← hXc];rfl
 have elo:Xc.env.locals=s3.heap.objs.size:=by rw [ee];rfl
 have stat:∀ {H':Hp},(∀ b∈fp,H' b=none)→∀ b∈fp,kA Xc [] H' b:=fun {H'} hn b hb=>by
  have q:=hf b hb
  refine ⟨hn b hb,by rw [elo];exact Nat.ne_of_lt (flt3 b hb),fun z=>?_,.inl (by rw [← hXc];exact hb),fun x c e=>?_,fun p hp=>?_⟩
  ·have z':b∈frs X.stack:=by rw [← hXc] at z;exact z
   rcases List.mem_cons.mp (I.stkSub b z') with z | z
   ·exact q.2.1 z
   ·exact q.2.2.1 z
  ·have e':(cellsFrom (s3.heap.objs.size+1) scope.names (iN X.env scope.names [])).lookup x=some c:=by rw [ee] at e;exact e
   rcases cs1.two x c e' with ⟨_,z,_⟩ | z
   ·exact Nat.ne_of_gt (Nat.lt_trans (flt3 b hb) z)
   ·exact q.2.2.2.2.1 x c (iS (fZ ok I) z).2
  ·have hp':p∈(X.pn++pins)++[]:=by rw [← hXc] at hp;exact hp
   rw [List.append_nil] at hp'
   exact q.2.2.2.2.2 p hp'
 have loop:codeAny (model X.prog X.w) X.A (.compLoop (.ListComp elt [⟨tg,iter,[],0⟩] scope pos) 0 (.ref it) (.ref D) Xc.env) (compPost (model X.prog X.w) X.A X.xe none (EP X pins σ Q) (.ref D) s3.heap.objs.size) { s3 with heap:=h1 }:=by
  refine xA (fun n s'=>∃ i ys H',aP Xc [] (σc fr σ) H' s'∧tn i s'.heap∧(∀ b∈fp,H' b=none)∧W i n ys H') ?_ m0 ⟨0,[],_,I4,st4,fun b hb=>(hf3 b hb).1,w0⟩
  rintro n s5 ⟨i,ys,H5,I5,st5,fr5,w5⟩
  rcases turn i n ys H5 w5 with ⟨stop,qn⟩ | ⟨go,step⟩
  ·have q:=T.done Xc eP ew eK ec i [] s5 (σc fr σ) H5 (fun _ _=>False) I5 (stat fr5) st5 stop
   rw [eA] at q
   refine dW q fun r s6 ⟨hr,I6⟩=>?_
   subst hr
   obtain ⟨m6,hn6,_⟩:=I6.loc
   have fC:H5 s3.heap.objs.size=none:=by have:=I6.free;rwa [elo] at this
   have bs:=I6.base
   have os:=I6.os
   have hk:=I6.hok
   rw [← hXc] at bs os hk
   have I7:aP X pins σ H5 s6:=I3'.call' os bs hk I6.bare fun b hb=>by
    have q:=hf b hb
    exact ⟨q.2.2.2.1,q.2.1,q.2.2.2.2.1,q.2.2.2.2.2⟩
   have f7:kA X pins H5 s3.heap.objs.size:=I3'.fpOk (Nat.le_refl _) fC
   exact ⟨m6,by rw [elo] at hn6;exact hn6,fun h' sb=>⟨.ref D,H5,lU I7 f7 sb,rfl,qn⟩⟩
  ·have q:=T.item Xc eP ew eK ec i [] s5 (σc fr σ) H5 (fun _ _=>False) I5 (stat fr5) st5 go
   rw [eA] at q
   refine dW q fun r s6 ⟨u,hr,h6⟩=>?_
   subst hr
   refine dW h6 fun _ s7 ⟨x,H7,I7,r7,y7,st7,fr7⟩=>?_
   have I7':=I7.pinned (stat fr7) (T.obj _ _ st7)
   have q8:=hg' _ s7 _ H7 x u _ I7' r7 (step x H7 y7)
   rw [eP,ew,eA,ex] at q8
   refine dW q8 fun _ s8 ⟨σ8,H8,I8,fw8,q8⟩=>?_
   have again:∀ {H':Hp}{ys':List V}{s':Shared},aP Xc ([]++lQ fp s7.heap) σ8 H' s'→(∃ m',m'<n∧W (i+1) m' ys' H')→∃ m,m<n∧∃ i ys H',aP Xc [] (σc fr σ) H' s'∧tn i s'.heap∧(∀ b∈fp,H' b=none)∧W i m ys H':=fun {H' ys' s'} J' ⟨m',hm,w'⟩=>by
    refine ⟨m',hm,i+1,ys',H',(J'.unpinned).weak fw8.1.symm fw8.2,T.keep _ _ _ st7 fun b hb o e=>(J'.pin (b,o) (List.mem_append_right _ (List.mem_append_right _ (gB hb e)))).1,fun b hb=>?_,w'⟩
    obtain ⟨o,e,d⟩:=T.obj _ _ st7 b hb
    exact (J'.pin (b,o) (List.mem_append_right _ (List.mem_append_right _ (gB hb e)))).2.1
   have q9:te σ8 H8 fun y H4=>H4 D=some (.lst ys)∧ys.length<sizeLine∧∃ m',m'<n∧W (i+1) m' (ys++[y]) (upd H4 D (.lst (ys++[y]))):=q8
   have q10:=heX' _ s8 σ8 H8 _ (I8.wish xe) q9
   have q10':wpAny (model Xc.prog Xc.w) Xc.A (eval elt Xc.env) (EP (Xc.wish xe) ([]++lQ fp s7.heap) σ8 fun y H4=>H4 D=some (.lst ys)∧ys.length<sizeLine∧∃ m',m'<n∧W (i+1) m' (ys++[y]) (upd H4 D (.lst (ys++[y])))) xe s8:=q10
   rw [eP,ew,eA] at q10'
   refine wpAny_mono q10' (fun y s10 h10=>?_) fun e s' hx=>?_
   ·obtain ⟨z,H10,I10,r10,e10,l10,w10⟩:=h10
    have q11:=kX (X:=Xc) _ s10 σ8 H10 (.ref D) [z] (.ref D) [y] (fun v H'=>∃ m',m'<n∧W (i+1) m' (ys++[z]) H') I10.unwish rfl (.cons r10 .nil) ⟨D,ys,z,rfl,rfl,e10,l10,w10⟩
    rw [eP,ew,eA,ex] at q11
    exact dW q11 fun _ s11 ⟨_,H11,I11,_,w11⟩=>again I11 w11
   ·have q:=thX s' e (.ref D) (EP X pins σ Q) (fun x s'=>compPost (model X.prog X.w) X.A X.xe none (EP X pins σ Q) (.ref D) s3.heap.objs.size (.error x) s') I3' hf3 (Nat.le_refl _) hx
    have en:noteFrame e Xc.env=noteFrame e X.env:=by rw [ee];rfl
    show wpAny _ _ (noteFrame e Xc.env) _ _ s'
    rw [en]
    exact q
 have loop':=loop
 rw [ee] at loop'
 exact codeAny_compStart_list loop' (T.self X.A 0 _ _ _ st4 loop')
theorem aAQ {tg elt iter:Expr}{pos:Pos}{g:TG}{te:TE}{wi:TI} (th:yZ X EE) (ok:iZ X.env.scope scope X.N Nc fr=true) (hc:X.calm=true) (hi:PI X tg iter wi)
  (hg:∀ Cc pins fp s3 H3,PG (m8 X scope Nc Cc pins fp s3 H3) tg g) (he:∀ Cc pins fp s3 H3,PE (cxX X scope Nc Cc pins fp s3 H3 EE) elt te)
  (hs:∀ x,foldedSetIterable iter X.env x=pure x:=by intro _;rfl) :
  PE X (.ListComp elt [⟨tg,iter,[],0⟩] scope pos) (aBn fr wi g yO te):=by
 have ok:=jW.of ok
 intro pins s σ H Q I h
 rw [eval_ListComp]
 refine wpAny_comprehension_free (use:=none) rfl hs (gZ (fZ ok I)) ok.kind ok.nms (dW (hi pins s σ H _ I h) fun v s1 h1=>dW h1 fun itv s2 h2=>?_)
 obtain ⟨it,fp,tn,J,H2,e,I2,T,st2,f2,w⟩:=h2
 subst e
 exact xS th ok hc hg he I2 T st2 f2 w
end
section
variable {prog:Program}{w:World}{A:Around}{E:Value→Shared→Prop}{s:Shared}
end
section
variable {X:Cx}{pins:List (Addr×Obj)}{σ:St}{H1:Hp}{xs ys:List V}{z TI TO i1 i2 l1 l2 S:Addr}
end
section
variable {X:Cx}{pins:List (Addr×Obj)}{σ:St}{H1:Hp}{xs ys:List V}{z TI TO i1 i2 l1 l2:Addr}
end
section
variable {X:Cx}{a b:Expr}{pos:Pos}{ga gb:GE}
end
theorem aEG {x:Str}{pos' p:Pos}{elts:List Expr}{k line:Nat}{env:Env}:swapsWithSole [.Name x pos'] (.Tuple elts k p) line env=pure false:=rfl
section
variable {X:Cx}{a b e:Expr}{es:List Expr}{pos:Pos}{ga gb:GE}
def jE:GO:=fun x y Q=>match x,y with
 | .str i,.str j=>i.length+j.length≤sizeLine∧Q (.str (i++j))
 | _,_=>False
theorem gI:tO X (binaryOp .Add) jE:=by
 refine ⟨_,xU,fun x y dx dy C H Q R ch n1 n2 q k=>?_⟩
 cases dx with
 | str i=>
  cases dy with
  | str j=>exact ⟨i,j,aW.mp n1,aW.mp n2,q.1,k _ _ C H q.2 (b5.refl ch) (aW.mpr rfl)⟩
  | _=>exact q.elim
 | _=>exact q.elim
def qH:List D→(D→Prop)→Prop:=fun ds Q=>match ds with
 | [.int i]=>i.natAbs.log2<1920∧Q (.str (toString i))
 | _=>False
theorem pV:qK X (.type "str") qH:=by
 refine ⟨_,uD,fun xs ds C H Q R ch n q k=>?_⟩
 unfold qH at q
 split at q
 ·obtain ⟨v,rfl,n1⟩:=gU n
  rw [aM.mp n1]
  exact ⟨_,rfl,q.1,k _ _ C H q.2 (b5.refl ch) (aW.mpr rfl)⟩
 ·exact q.elim
def yQ:List D→(D→Prop)→Prop:=fun ds Q=>match ds with
 | [.str z]=>z.length≤sizeLine∧Q (.int z.length)
 | _=>False
theorem aCc:qK X (.builtin "len") yQ:=by
 refine ⟨_,tK,fun xs ds C H Q R ch n q k=>?_⟩
 unfold yQ at q
 split at q
 ·obtain ⟨v,rfl,n1⟩:=gU n
  rw [aW.mp n1]
  exact ⟨_,rfl,q.1,k _ _ C H q.2 (b5.refl ch) (aM.mpr rfl)⟩
 ·exact q.elim
def aC4:GO:=fun x y Q=>match x,y with
 | .str z,.int i=>z.length≤sizeLine∧∃ c,m9 z.cps.toList i=some c∧Q (.str ⟨#[c]⟩)
 | _,_=>False
theorem aDc (ha:DE X a ga) (hb:DE X b gb) (hs:uE b):DE X (.Subscript a b pos) (cJ aC4 ga gb):=by
 obtain ⟨t1,p1,h1⟩:=ha
 obtain ⟨t2,p2,h2⟩:=hb
 refine ⟨_,aCT aAI p1 p2 hs,fun C0 H0 δ σ C H Q R rp g k=>?_⟩
 refine h1 C0 H0 δ σ C H _ _ rp g fun d v C1 H1 q e1 n1=>h2 C0 H0 δ σ C1 H1 _ _ (rp.grow e1) q fun d2 v2 C2 H2 q2 e2 n2=>?_
 have n1':=n1.mono e2.cc
 cases d with
 | str z=>
  cases d2 with
  | int i=>
   obtain ⟨hz,c,hc,q3⟩:=q2
   exact .inr (.inr ⟨z,i,c,aW.mp n1',aM.mp n2,hz,hc,k _ _ C2 H2 q3 (e1.trans e2) (aW.mpr rfl)⟩)
  | _=>exact q2.elim
 | _=>exact q2.elim
end
section
variable {X:Cx}{a b e:Expr}{es:List Expr}{pos:Pos}{ga gb:GE}
def aES:V→Option Int→Option Int→Hp→VK→Prop:=fun x lo hi H Q=>∃ z,x = .str z∧z.length≤sizeLine∧Q (.str (dP.slice z lo hi)) H
theorem aDd:SlR X aES:=by
 intro pins s σ H x v vl vu lo hi sl Q I rx hs pl pu h
 obtain ⟨z,rfl,hz,q⟩:=h
 obtain ⟨t,rfl⟩:=rx
 refine ⟨"str",_,F.slot_str_getitem.lookup,typeIs_str _ _ _,?_⟩
 have fin:∀ t' k,EP X pins σ Q (.str (dP.slice z lo hi) t') { s with toks:=k }:=fun t' k=>⟨.str _,H,I.tok _,⟨_,rfl⟩,q⟩
 obtain ⟨o,h1,h2,h3⟩:=hs
 cases pl with
 | none=>
  cases pu with
  | none=>exact wpAny_getItem_str_slice (l:=none) (u:=none) (st:=none) ⟨o,h1,h2,h3⟩ rfl (post_val_or_str ⟨Nat.le_trans (dP.slice_le z _ _) hz,fin⟩)
  | int j uj=>exact wpAny_getItem_str_slice (l:=none) (u:=some (j,uj)) (st:=none) ⟨o,h1,h2,h3⟩ rfl (post_val_or_str ⟨Nat.le_trans (dP.slice_le z _ _) hz,fin⟩)
 | int i ui=>
  cases pu with
  | none=>exact wpAny_getItem_str_slice (l:=some (i,ui)) (u:=none) (st:=none) ⟨o,h1,h2,h3⟩ rfl (post_val_or_str ⟨Nat.le_trans (dP.slice_le z _ _) hz,fin⟩)
  | int j uj=>exact wpAny_getItem_str_slice (l:=some (i,ui)) (u:=some (j,uj)) (st:=none) ⟨o,h1,h2,h3⟩ rfl (post_val_or_str ⟨Nat.le_trans (dP.slice_le z _ _) hz,fin⟩)
def aCQ (K:PySem.W.Frag):V→List V→Hp→VK→Prop:=fun x xs H Q=>∃ sep p ts,x = .str sep∧xs=[.ref p]∧jH K H p (ts.map V.str)∧JoinOk sep ts=true∧Q (.str (dP.join sep ts)) H
theorem yE:∀ {ts:List Str}{its:List Value},bO (ts.map V.str) its→∃ l:List (Str×Tok),its=strValues l∧l.map (·.1)=ts
 | [],its,h=>by
  cases h
  exact ⟨[],rfl,rfl⟩
 | t::ts,its,h=>by
  rw [List.map_cons] at h
  cases h with
  | cons r rr=>
   obtain ⟨k,rfl⟩:=r
   obtain ⟨l,rfl,e⟩:=yE rr
   exact ⟨(t,k)::l,rfl,by rw [List.map_cons,e]⟩
theorem tP:MtR X "str.join" (aCQ X.K):=by
 intro pins s σ H x xs v us Q I rx rv h
 obtain ⟨sep,p,ts,rfl,rfl,hq,hj,q⟩:=h
 obtain ⟨t,rfl⟩:=rx
 obtain ⟨u,rfl,ru⟩:=rv.one
 cases ru
 obtain ⟨its,r,pl,hz⟩:=I.list hq
 obtain ⟨l,rfl,el⟩:=yE r
 exact SC.join pl.isList el hj fun t' k=>⟨.str _,H,I.tok _,⟨_,rfl⟩,q⟩
def aAV:V→List V→Hp→VK→Prop:=fun x xs H Q=>∃ z y,x = .str z∧xs=[.str y]∧(y.length == 0)=false∧z.length≤sizeLine∧(Builtin.Str.partsBetween z (Builtin.Str.occurrences z y 0 z.length (z.length+1)) y.length).length≤sizeLine∧∀ l,H l=none→Q (.ref l) (upd H l (.lst ((dP.split z y).map V.str)))
theorem rW:∀ l:List (Str×Tok),bO ((l.map (·.1)).map V.str) (strValues l)
 | []=>.nil
 | p::l=>.cons ⟨p.2,rfl⟩ (rW l)
theorem v7:MtR X "str.split" aAV:=by
 intro pins s σ H x xs v us Q I rx rv h
 obtain ⟨z,y,rfl,rfl,hy,hz,hn,q⟩:=h
 obtain ⟨t,rfl⟩:=rx
 obtain ⟨u,rfl,ru⟩:=rv.one
 obtain ⟨u',rfl⟩:=ru
 have fin:∀ (l:List (Str×Tok)) (k:Nat),l.map (·.1)=dP.split z y→l.length≤sizeLine→EP X pins σ Q (.ref s.heap.objs.size) { s with toks:=k,heap:=s.heap.push { cls:=.type "list",data:=.seq (strValues l).toArray } }:=fun l k el hl=>by
  refine ⟨.ref s.heap.objs.size,_,I.lnew (ys:=(dP.split z y).map V.str) (its:=strValues l) (t':=k) (el ▸ rW l) (by rw [← el,List.length_map,List.length_map];exact hl),rfl,q _ I.fresh⟩
 cases h1:(decide (z.length<y.length) || decide (Builtin.Str.strKind z<Builtin.Str.strKind y))
 ·cases hf:(Builtin.Str.occurrences z y 0 z.length (z.length+1)).isEmpty
  ·refine call_meets F.slot_str_split (typeIs_str _ _ _) F.entry_str_split (F.args_str_split_2 _ _) (meets_str_split_sep z y t u' h1 hy hf hz hn) ?_
   show wants _ _ _ { s with toks:=_,heap:=s.heap.push { cls:=.type "list",data:=.seq (strsFrom s.toks (Builtin.Str.partsBetween z (Builtin.Str.occurrences z y 0 z.length (z.length+1)) y.length)).toArray } }
   rw [strsFrom_eq]
   exact fin (numbered s.toks _) _ ((numbered_texts _ _).trans ((if_neg (ne_true_of_eq_false h1)).trans (if_neg (ne_true_of_eq_false hf))).symm) (by
    have:=congrArg List.length (numbered_texts s.toks (Builtin.Str.partsBetween z (Builtin.Str.occurrences z y 0 z.length (z.length+1)) y.length))
    rw [List.length_map] at this
    omega)
  ·exact call_meets F.slot_str_split (typeIs_str _ _ _) F.entry_str_split (F.args_str_split_2 _ _) (meets_str_split_not_found z y t u' h1 hy hf)
    (fin [(z,t)] s.toks ((if_neg (ne_true_of_eq_false h1)).trans (if_pos hf)).symm (show 1≤sizeLine by decide))
 ·exact call_meets F.slot_str_split (typeIs_str _ _ _) F.entry_str_split (F.args_str_split_2 _ _) (meets_str_split_cannot_occur z y t u' h1)
   (fin [(z,t)] s.toks (if_pos h1).symm (show 1≤sizeLine by decide))
end
section
variable {X:Cx}{a b e:Expr}{es:List Expr}{pos:Pos}{ga gb:GE}
def tM (ga:GE) (gl gh:GP):GE:=fun δ Q=>ga δ fun d=>gl δ fun lo=>gh δ fun hi=>match d with
 | .str z=>z.length≤sizeLine∧Q (.str (dP.slice z lo hi))
 | _=>False
theorem lX {lo hi:Option Expr}{gl gh:GP}{p2:Pos} (ha:DE X a ga) (hl:DO X lo gl) (hh:DO X hi gh):DE X (.Subscript a (.Slice lo hi none p2) pos) (tM ga gl gh):=by
 obtain ⟨t1,p1,h1⟩:=ha
 obtain ⟨t2,p2',h2⟩:=hl
 obtain ⟨t3,p3,h3⟩:=hh
 refine ⟨_,vE aDd p1 p2' p3,fun C0 H0 δ σ C H Q R rp g k=>?_⟩
 refine h1 C0 H0 δ σ C H _ _ rp g fun d v C1 H1 q e1 n1=>h2 C0 H0 δ σ C1 H1 _ _ (rp.grow e1) q fun o C2 H2 q2 e2=>h3 C0 H0 δ σ C2 H2 _ _ ((rp.grow e1).grow e2) q2 fun o2 C3 H3 q3 e3=>?_
 have n1':=(n1.mono e2.cc).mono e3.cc
 have e123:=e1.trans (e2.trans e3)
 cases d with
 | str z=>exact ⟨z,aW.mp n1',q3.1,k _ _ C3 H3 q3.2 e123 (aW.mpr rfl)⟩
 | _=>exact q3.elim
def j7:List D→Option (List Str)
 | []=>some []
 | .str x::ds=>(j7 ds).map fun l=>x::l
 | _=>none
theorem m7:∀ ts:List Str,j7 (ts.map D.str)=some ts
 | []=>rfl
 | t::ts=>by rw [List.map_cons,j7,m7 ts];rfl
theorem pI:∀ {ds:List D}{ts:List Str},j7 ds=some ts→ds=ts.map D.str
 | [],ts,h=>by cases h;rfl
 | d::ds,ts,h=>by
  cases d with
  | str x=>
   cases e:j7 ds with
   | none=>rw [j7,e] at h;cases h
   | some l=>
    rw [j7,e] at h
    cases h
    rw [pI e]
    rfl
  | _=>rw [j7] at h <;> first | cases h | (intro _ _ z;cases z)
theorem tF {K:PySem.W.Frag}{C:Hp}:∀ {ts:List Str}{vs:List V},aT K C vs (ts.map D.str)→vs=ts.map V.str
 | [],vs,h=>dS.mp h
 | t::ts,vs,h=>by
  rw [List.map_cons] at h
  obtain ⟨x,xs,rfl,a,r⟩:=bT.mp h
  rw [aW.mp a,tF r]
  rfl
theorem yK {K:PySem.W.Frag}{C:Hp}:∀ ts:List Str,aT K C (ts.map V.str) (ts.map D.str)
 | []=>.nil
 | t::ts=>bT.mpr ⟨_,_,rfl,aW.mpr rfl,yK ts⟩
def qU (ga gb:GE):GE:=fun δ Q=>ga δ fun d=>match d with
 | .str sep=>gb δ fun x=>match x with
  | .lst ds=>match j7 ds with
   | some ts=>JoinOk sep ts=true∧Q (.str (dP.join sep ts))
   | none=>False
  | _=>False
 | _=>False
theorem tH {p2:Pos} (ha:DE X a ga) (hb:DE X b gb)
  (hp:∀ {to:TE}{t:TA},PE X a to→PA X [b] t→PE X (.Call (.Attribute a "join" p2) [b] [] pos) (tBM X.K "str" (aCQ X.K) to t)) (hs:starEach [b] X.env=[(false,eval b X.env)]:=by rfl):DE X (.Call (.Attribute a "join" p2) [b] [] pos) (qU ga gb):=by
 obtain ⟨t1,p1,h1⟩:=ha
 obtain ⟨t2,p2,h2⟩:=hb
 refine ⟨_,hp p1 (dR p2 g5 hs),fun C0 H0 δ σ C H Q R rp g k=>?_⟩
 refine h1 C0 H0 δ σ C H _ _ rp g fun d v C1 H1 q e1 n1=>?_
 cases d with
 | str sep=>
  have ev:=aW.mp n1
  subst ev
  refine ⟨rfl,h2 C0 H0 δ σ C1 H1 _ _ (rp.grow e1) q fun d2 v2 C2 H2 q2 e2 n2=>?_⟩
  cases d2 with
  | lst ds=>
   have q2':(match j7 ds with
    | some ts=>JoinOk sep ts=true∧Q (.str (dP.join sep ts))
    | none=>False):=q2
   split at q2'
   ·rename_i ts et
    obtain ⟨p,xs,rfl,hx,hd⟩:=aV.mp n2
    rw [pI et] at hd
    rw [tF hd] at hx
    exact ⟨sep,p,ts,rfl,rfl,e2.ch.seq hx,q2'.1,k _ _ C2 H2 q2'.2 (e1.trans e2) (aW.mpr rfl)⟩
   ·exact q2'.elim
  | _=>exact q2.elim
 | _=>exact q.elim
def pB (ga gb:GE):GF:=fun δ Q=>ga δ fun d=>match d with
 | .str z=>gb δ fun x=>match x with
  | .str y=>(y.length == 0)=false∧z.length≤sizeLine∧(Builtin.Str.partsBetween z (Builtin.Str.occurrences z y 0 z.length (z.length+1)) y.length).length≤sizeLine∧Q ((dP.split z y).map D.str)
  | _=>False
 | _=>False
theorem vZ {p2:Pos} (ha:DE X a ga) (hb:DE X b gb)
  (hp:∀ {to:TE}{t:TA},PE X a to→PA X [b] t→PE X (.Call (.Attribute a "split" p2) [b] [] pos) (tBM X.K "str" aAV to t)) (hs:starEach [b] X.env=[(false,eval b X.env)]:=by rfl):DF X (.Call (.Attribute a "split" p2) [b] [] pos) (pB ga gb):=by
 obtain ⟨t1,p1,h1⟩:=ha
 obtain ⟨t2,p2,h2⟩:=hb
 refine ⟨_,hp p1 (dR p2 g5 hs),fun C0 H0 δ σ C H Q R rp g k=>?_⟩
 refine h1 C0 H0 δ σ C H _ _ rp g fun d v C1 H1 q e1 n1=>?_
 cases d with
 | str z=>
  have ev:=aW.mp n1
  subst ev
  refine ⟨rfl,h2 C0 H0 δ σ C1 H1 _ _ (rp.grow e1) q fun d2 v2 C2 H2 q2 e2 n2=>?_⟩
  cases d2 with
  | str y=>
   have ey:=aW.mp n2
   subst ey
   obtain ⟨c1,c2,c3,q3⟩:=q2
   refine ⟨z,y,rfl,rfl,c1,c2,c3,fun l hl=>?_⟩
   exact k _ l _ C2 _ q3 ((e1.trans e2).trans (b5.newO e2.ch hl)) (e2.ch.free hl) ((e1.trans e2).hh.free hl) bD (yK _)
  | _=>exact q2.elim
 | _=>exact q.elim
end
def aCb (K:PySem.W.Frag) (mg:Str→Option Value) (EE:XK) (g:yM):TE:=fun σ H R=>∃ C0 H0 δ C xc Q,(∀ c cls C' H',mg c=some cls→xc c→b5 C0 H0 C' H'→EE cls none H')∧d0 K C0 H0 δ σ C H∧g δ xc Q∧∀ d v C1 H1,Q d→b5 C H C1 H1→fI K C1 v d→R v H1
theorem DEx.can {X:Cx}{EE:XK}{e:Expr}{gx:yM} (h:DEx X EE e gx):PE X e (aCb X.K X.mg EE gx):=by
 obtain ⟨t,p,h⟩:=h
 intro pins s σ H Q I q
 obtain ⟨C0,H0,δ,C,xc,Q',te,rp,g,k⟩:=q
 exact p pins s σ H Q I (h C0 H0 δ σ C H xc Q' Q te rp g k)
def DFx (X:Cx) (EE:XK) (e:Expr) (g:GFX):Prop:=∃ t,PE X e t∧∀ C0 H0 δ σ C H (xc:Str→Prop) (Q:List D→Prop) (R:VK),wQ X EE C0 H0 xc→d0 X.K C0 H0 δ σ C H→g δ xc Q →
 (∀ ds p xs C1 H1,Q ds→b5 C H C1 H1→C1 p=none→H p=none→H1 p=some (.lst xs)→aT X.K C1 xs ds→R (.ref p) H1)→t σ H R
def gFX (g:GFX):yM:=fun δ xc Q=>g δ xc fun ds=>Q (.lst ds)
theorem DFx.toEx {X:Cx}{EE:XK}{e:Expr}{g:GFX} (h:DFx X EE e g):DEx X EE e (gFX g):=by
 obtain ⟨t,p,h⟩:=h
 refine ⟨t,p,fun C0 H0 δ σ C H xc Q R te rp g k=>h C0 H0 δ σ C H xc _ R te rp g fun ds p xs C1 H1 q ex hc hn hl hd=>?_⟩
 exact k (.lst ds) _ (upd C1 p (.lst xs)) H1 q (yY ex hc hn hl) (aV.mpr ⟨p,xs,rfl,jH.of bD,hd.mono (bL.upd hc)⟩)
def qT (fr:List (Option Nat)) (gi:GF) (gg:GG) (gx:yM):GFX:=fun δ xc Q=>gi δ fun its=>its.length≤sizeLine∧∃ W:Nat→List D→Prop,W 0 []∧(∀ (i:Nat) d ys,its[i]? = some d→W i ys→gg d (δc fr δ) fun δ2=>gx δ2 xc fun y=>W (i+1) (ys++[y]))∧∀ ys,W its.length ys→Q ys
theorem zQ {K:PySem.W.Frag}{mg:Str→Option Value}{EE:XK}{C0 H0 C H C1 H1:Hp}{δ:DS}{σ:St}{fr:List (Option Nat)}{ss:List Nat}{J:It}{its:List D}{gg:GG}{gx:yM}{xc:Str→Prop}{W:Nat→List D→Prop}{A:Addr}{Q:List D→Prop}{R:VK}
  (te:∀ c cls C' H',mg c=some cls→xc c→b5 C0 H0 C' H'→EE cls none H') (fo:wF fr ss=true) (rp:d0 K C0 H0 δ σ C H) (e1:b5 C H C1 H1) (wk:zK K J its C1) (hz:its.length≤sizeLine)
  (w0:W 0 []) (hf:∀ (i:Nat) d ys,its[i]? = some d→W i ys→gg d (δc fr δ) fun δ2=>gx δ2 xc fun y=>W (i+1) (ys++[y])) (q:∀ ys,W its.length ys→Q ys)
  (k:∀ ds p xs C1 H1,Q ds→b5 C H C1 H1→C1 p=none→H p=none→H1 p=some (.lst xs)→aT K C1 xs ds→R (.ref p) H1) (hA:H1 A=none):pX J (σc fr σ) (tDG K ss gg) yO (aCb K mg EE gx) A H1 R:=by
 refine ⟨fun i m ys H2=>m=its.length-i∧i≤its.length∧∃ C2 ds,b5 C1 H1 C2 H2∧H2 A=some (.lst ys)∧C2 A=none∧aT K C2 ys ds∧ds.length=i∧W i ds,⟨_,rfl,Nat.zero_le _,C1,[],b5.newO e1.ch hA,bD,e1.ch.free hA,aT.nil,rfl,w0⟩,?_⟩
 rintro i m ys H2 ⟨rfl,hi,C2,ds,ex,hl,hc,hd,hdl,hw⟩
 have Wk:=wk C2 H2 ex.cc ex.ch i
 by_cases hlt:i<its.length
 ·have ed:its[i]? = some its[i]:=by simp [hlt]
  obtain ⟨go,yl⟩:=Wk.1 _ ed
  refine .inr ⟨go,fun x H3 y=>?_⟩
  obtain ⟨C3,e3,n3⟩:=yl x H3 y
  have rc:d0 K C3 H3 (δc fr δ) (σc fr σ) C3 H3:=rp.comp fr ((e1.cc.trans ex.cc).trans e3.cc) e3.ch
  refine ⟨C3,H3,_,C3,its[i],_,rc,n3,hf i its[i] ds ed hw,fun δ' σ' q' rp' hl' hj'=>⟨aBa fo hl' hj',?_⟩⟩
  have hA3:H3 A=some (.lst ys):=e3.hh _ _ hl
  have hc3:C3 A=none:=e3.ow A hc (by rw [hl];simp)
  show aCb K mg EE gx σ' H3 _
  refine ⟨C3,H3,δ',C3,xc,_,fun c cls C' H' hm hx ex'=>te c cls C' H' hm hx (((rp.ext.trans e1).trans (ex.trans e3)).trans ex'),rp',q',fun d v C5 H5 q5 e5 n5=>?_⟩
  have hA5:H5 A=some (.lst ys):=e5.hh _ _ hA3
  have hc5:C5 A=none:=e5.ow A hc3 (by rw [hA3];simp)
  have hyl:ys.length<sizeLine:=by
   rw [hd.length,hdl]
   omega
  refine ⟨hA5,hyl,its.length-(i+1),by omega,rfl,hlt,C5,ds++[d],?_,bD,hc5,?_,by rw [List.length_append,hdl];rfl,q5⟩
  ·have e:=ex.trans (e3.trans e5)
   refine ⟨fun z u ez=>?_,e.cc,fun z u ez=>?_,e.ow⟩
   ·rw [a8 (b8 ez hA)];exact e.hh z u ez
   ·rw [a8 (b8 ez hc5)];exact e.ch z u ez
  ·exact ((hd.mono e3.cc).mono e5.cc).append (.cons n5 .nil)
 ·have e:i=its.length:=by omega
  refine .inl ⟨Wk.2 (by omega),?_⟩
  rw [e] at hw
  exact k _ A ys C2 H2 (q _ hw) (e1.trans ex) hc (e1.hh.free hA) hl hd
section
variable {X:Cx}{EE:XK}{a b c e tg iter elt:Expr}{es:List Expr}{pos:Pos}{gi:GF}{gg:GG}{gx:yM}{gs:GFX}{scope:Scope}{Nc:List Str}{fr:List (Option Nat)}{ss:List Nat}
theorem v0 (th:yZ X EE) (ok:iZ X.env.scope scope X.N Nc fr=true) (fo:wF fr ss=true) (hc:X.calm=true) (hi:DI X tg iter gi) (hg:∀ Cc pins fp s3 H3,DG (m8 X scope Nc Cc pins fp s3 H3) tg ss gg)
  (he:∀ Cc pins fp s3 H3,DEx (cxX X scope Nc Cc pins fp s3 H3 EE) EE elt gx) (hs:∀ x,foldedSetIterable iter X.env x=pure x:=by intro _;rfl) :
  DFx X EE (.ListComp elt [⟨tg,iter,[],0⟩] scope pos) (qT fr gi gg gx):=by
 obtain ⟨wi,pi,h⟩:=hi
 refine ⟨_,aAQ (g:=tDG X.K ss gg) (te:=aCb X.K X.mg EE gx) th ok hc pi (fun a b c d e=>(hg a b c d e).can) (fun a b c d e=>(he a b c d e).can) hs,fun C0 H0 δ σ C H xc Q R te rp g k=>?_⟩
 refine h C0 H0 δ σ C H _ _ rp g fun its J C1 H1 q e1 wk A hA=>?_
 obtain ⟨hz,W,w0,hf,q⟩:=q
 exact zQ te fo rp e1 wk hz w0 hf q k hA
def mL (g:List D→(D→Prop)→Prop) (gs:GFX):yM:=fun δ xc Q=>gs δ xc fun ds=>g ds Q
theorem sH {x:Str}{f:Value}{g:List D→(D→Prop)→Prop}{pos':Pos} (hc:qK X f g) (ha:DAx X EE (e::es) gs)
  (hp:∀ {t:TA}{r:List V→Hp→VK→Prop},fX X f r→PA X (e::es) t→PE X (.Call (.Name x pos') (e::es) [] pos) (tCB r t)):DEx X EE (.Call (.Name x pos') (e::es) [] pos) (mL g gs):=by
 obtain ⟨r,pr,hr⟩:=hc
 obtain ⟨t,p,h⟩:=ha
 refine ⟨_,hp pr p,fun C0 H0 δ σ C H xc Q R te rp g k=>h C0 H0 δ σ C H xc _ _ te rp g fun ds vs C1 H1 q e1 n1=>?_⟩
 exact hr vs ds C1 H1 Q R e1.ch n1 q fun d v C2 H2 q2 e2 n2=>k d v C2 H2 q2 (e1.trans e2) n2
end
end L2
namespace L2
open PySem PySem.Spec PyProof.Rows PySem.StrLaws PySem.Builtin PySem.Builtin.Str
def j5 (c:Nat):List (List Nat)→List Nat
 | []=>[]
 | [w]=>w
 | w::v::r=>w++c::j5 c (v::r)
theorem yX {c:Nat}:∀ {w v A B:List Nat},c∉w→c∉v→w++c::A=v++c::B→w=v∧A=B
 | [],[],A,B,_,_,h=>by simpa using h
 | [],y::v,A,B,_,hv,h=>by
  simp only [List.nil_append,List.cons_append,List.cons.injEq] at h
  exact absurd (h.1 ▸ List.mem_cons_self) hv
 | x::w,[],A,B,hw,_,h=>by
  simp only [List.nil_append,List.cons_append,List.cons.injEq] at h
  exact absurd (h.1 ▸ List.mem_cons_self) hw
 | x::w,y::v,A,B,hw,hv,h=>by
  simp only [List.cons_append,List.cons.injEq] at h
  obtain ⟨h1,h2⟩:=yX (fun z=>hw (List.mem_cons_of_mem _ z)) (fun z=>hv (List.mem_cons_of_mem _ z)) h.2
  exact ⟨by rw [h.1,h1],h2⟩
theorem tG {c:Nat}:∀ {ws vs:List (List Nat)},ws≠[]→vs≠[]→(∀ w∈ws,c∉w)→(∀ v∈vs,c∉v)→j5 c ws=j5 c vs→ws=vs
 | [],_,h,_,_,_,_=>absurd rfl h
 | _,[],_,h,_,_,_=>absurd rfl h
 | [w],[v],_,_,_,_,h=>by rw [show w=v from h]
 | [w],v::v'::r,_,_,hw,_,h=>by
  have:w=v++c::j5 c (v'::r):=h
  exact absurd (this ▸ by simp) (hw w List.mem_cons_self)
 | w::w'::r,[v],_,_,_,hv,h=>by
  have:w++c::j5 c (w'::r)=v:=h
  exact absurd (this ▸ by simp) (hv v List.mem_cons_self)
 | w::w'::r,v::v'::q,_,_,hw,hv,h=>by
  obtain ⟨h1,h2⟩:=yX (hw w List.mem_cons_self) (hv v List.mem_cons_self) (show w++c::j5 c (w'::r)=v++c::j5 c (v'::q) from h)
  rw [h1,tG (by simp) (by simp) (fun x hx=>hw x (List.mem_cons_of_mem _ hx)) (fun x hx=>hv x (List.mem_cons_of_mem _ hx)) h2]
abbrev gQ (c:Nat):Str:=⟨#[c]⟩
abbrev cp (x:Str):List Nat:=x.cps.toList
theorem xY {x y:Str} (h:cp x=cp y):x=y:=Str.ext' (Array.toList_inj.mp h)
theorem o5 (c:Nat):∀ ws:List Str,cp (Str.join (gQ c) ws)=j5 c (ws.map cp)
 | []=>rfl
 | [w]=>rfl
 | w::v::r=>by
  have ih:=o5 c (v::r)
  show cp (w++gQ c++Str.join (gQ c) (v::r))=cp w++c::j5 c ((v::r).map cp)
  rw [← ih]
  simp [cp,Str.cps_append]
section
variable {c:Nat}{x:Str}
def nF (c:Nat) (x:Str) (i:Nat):Bool:=decide (i+1≤x.length) && subAt x (gQ c) i
theorem vJ {i:Nat}:nF c x i=true↔(cp x)[i]? = some c:=by
 have hn:(cp x).length=x.length:=by simp [Str.length]
 unfold nF
 rw [Bool.and_eq_true,decide_eq_true_eq,subAt_eq]
 show i+1≤x.length∧(((cp x).drop i).take 1 == [c])=true↔_
 rw [beq_iff_eq]
 constructor
 ·rintro ⟨h1,h2⟩
  have:((cp x).drop i)[0]? = some c:=by
   cases hd:(cp x).drop i with
   | nil=>rw [hd] at h2;simp at h2
   | cons a l=>rw [hd] at h2;simpa using h2
  simpa using this
 ·intro h
  obtain ⟨hi,e⟩:=List.getElem?_eq_some_iff.mp h
  refine ⟨by omega,?_⟩
  rw [List.drop_eq_getElem_cons hi,e]
  simp
theorem pU:∀ (k a:Nat) (st:Array Nat×Nat),st.1.size≤a→st.2≤a→a+k≤x.length+1 →
  (forIn (List.range' a k) st (occBody x (gQ c) x.length (x.length+1))).run.fst.toList=st.1.toList++(List.range' a k).filter (nF c x)
 | 0,a,st,_,_,_=>by simp [List.forIn_nil]
 | k+1,a,st,h1,h2,h3=>by
  rw [List.range'_succ,List.forIn_cons,List.filter_cons]
  unfold occBody
  by_cases hc:nF c x a=true
  ·have hc':=hc
   unfold nF at hc'
   rw [Bool.and_eq_true,decide_eq_true_eq] at hc'
   have cond:((st.1.size<x.length+1∧st.2≤a)∧a+(gQ c).length≤x.length)∧subAt x (gQ c) a=true:=⟨⟨⟨by omega,h2⟩,hc'.1⟩,hc'.2⟩
   rw [if_pos cond,if_pos hc]
   have ih:=pU k (a+1) (st.1.push a,a+(gQ c).length) (by simp;omega) (by show a+1≤a+1;omega) (by omega)
   refine Eq.trans ih ?_
   simp
  ·have cond:¬ (((st.1.size<x.length+1∧st.2≤a)∧a+(gQ c).length≤x.length)∧subAt x (gQ c) a=true):=fun z=>hc (by
    unfold nF
    rw [Bool.and_eq_true,decide_eq_true_eq]
    exact ⟨z.1.2,z.2⟩)
   rw [if_neg cond,if_neg hc]
   exact pU k (a+1) (st.1,st.2) (by show st.1.size≤a+1;omega) (by show st.2≤a+1;omega) (by omega)
theorem uJ:occurrences x (gQ c) 0 x.length (x.length+1)=(List.range' 0 (x.length+1)).filter (nF c x):=by
 rw [occ_eq]
 have:=pU (c:=c) (x:=x) (x.length+1) 0 (#[],0) (by simp) (by simp) (by omega)
 simpa using this
theorem aC6 (a b:Nat):cp (strSub x a b)=((cp x).drop a).take (b-a):=strSub_toList ..
theorem vI {a b:Nat} (h:∀ p,a≤p→p<b→nF c x p=false):c∉cp (strSub x a b):=by
 rw [aC6]
 intro hm
 obtain ⟨i,hi⟩:=List.getElem?_of_mem hm
 have hl:=(List.getElem?_eq_some_iff.mp hi).1
 rw [List.length_take] at hl
 rw [List.getElem?_take_of_lt (by omega),List.getElem?_drop] at hi
 have:=vJ.mpr hi
 rw [h (a+i) (by omega) (by omega)] at this
 cases this
theorem l3:∀ (k a b:Nat),b≤a→a+k=x.length+1→(∀ p,b≤p→p<a→nF c x p=false)→∀ q∈partsFrom x 1 b ((List.range' a k).filter (nF c x)),c∉cp q
 | 0,a,b,hb,he,hf,q,hq=>by
  have:q=strSub x b x.length:=by simpa [partsFrom] using hq
  rw [this]
  exact vI fun p h1 h2=>hf p h1 (by omega)
 | k+1,a,b,hb,he,hf,q,hq=>by
  rw [List.range'_succ,List.filter_cons] at hq
  by_cases hc:nF c x a=true
  ·rw [if_pos hc] at hq
   rcases List.mem_cons.mp hq with z | z
   ·rw [z]
    exact vI hf
   ·exact l3 k (a+1) (a+1) (Nat.le_refl _) (by omega) (fun p h1 h2=>by omega) q z
  ·rw [if_neg hc] at hq
   exact l3 k (a+1) b (by omega) (by omega) (fun p h1 h2=>by
    by_cases hp:p=a
    ·rw [hp];simpa using hc
    ·exact hf p h1 (by omega)) q hq
theorem x9 (hc:c<256):∀ q∈dP.split x (gQ c),c∉cp q:=by
 intro q hq
 unfold dP.split at hq
 have k1:Builtin.Str.strKind (gQ c)=1:=by simp [Builtin.Str.strKind,hc]
 have k2:1≤Builtin.Str.strKind x:=by unfold Builtin.Str.strKind;split <;> (try split) <;> omega
 split at hq
 ·rename_i h
  rw [List.mem_singleton.mp hq]
  have hx:x.length=0:=by
   rw [Bool.or_eq_true,decide_eq_true_eq,decide_eq_true_eq,k1] at h
   rcases h with h | h
   ·have:x.length<1:=h
    omega
   ·omega
  have:cp x=[]:=List.eq_nil_of_length_eq_zero (by simpa [Str.length] using hx)
  rw [this]
  simp
 ·split at hq
  ·rename_i h
   rw [List.mem_singleton.mp hq]
   rw [uJ,List.isEmpty_iff] at h
   intro hm
   obtain ⟨i,hi⟩:=List.getElem?_of_mem hm
   have hl:=(List.getElem?_eq_some_iff.mp hi).1
   have hn:(cp x).length=x.length:=by simp [Str.length]
   have:i∈(List.range' 0 (x.length+1)).filter (nF c x):=List.mem_filter.mpr ⟨by simp;omega,vJ.mpr hi⟩
   rw [h] at this
   simp at this
  ·rw [uJ,partsBetween_eq] at hq
   exact l3 (x.length+1) 0 0 (Nat.le_refl _) (by omega) (fun p h1 h2=>by omega) q hq
theorem aAu:dP.split x (gQ c)≠[]:=by
 unfold dP.split
 split
 ·simp
 ·split
  ·simp
  ·rw [partsBetween_eq]
   obtain ⟨p,r,e⟩:=partsFrom_ne x (gQ c).length 0 (occurrences x (gQ c) 0 x.length (x.length+1))
   rw [e]
   simp
theorem sP:∀ (cuts:List Nat) (a:Nat),(partsFrom x 1 a cuts).length=cuts.length+1
 | [],_=>rfl
 | d::r,a=>by
  show (partsFrom x 1 (d+1) r).length+1=_
  rw [sP r]
  rfl
theorem nB:(partsBetween x (occurrences x (gQ c) 0 x.length (x.length+1)) (gQ c).length).length≤x.length+2:=by
 rw [partsBetween_eq,uJ]
 show (partsFrom x 1 0 _).length≤_
 rw [sP]
 have:=List.length_filter_le (nF c x) (List.range' 0 (x.length+1))
 rw [List.length_range'] at this
 omega
theorem qD (hc:c<256) {ws:List Str} (hn:ws≠[]) (hf:∀ w∈ws,c∉cp w):dP.split (Str.join (gQ c) ws) (gQ c)=ws:=by
 have h:=join_split (Str.join (gQ c) ws) (gQ c)
 have h2:=congrArg cp h
 rw [o5,o5] at h2
 have h3:=tG (by simpa using aAu) (by simpa using hn) (fun w hw=>by
  obtain ⟨q,hq,rfl⟩:=List.mem_map.mp hw
  exact x9 hc q hq) (fun w hw=>by
  obtain ⟨q,hq,rfl⟩:=List.mem_map.mp hw
  exact hf q hq) h2
 exact (List.map_inj_right fun a b e=>xY e).mp h3
end
end L2
namespace L2
open PySem PySem.Spec PyProof.Rows
abbrev jU:Str:=gQ 32
abbrev sE:Str:=gQ 44
abbrev lE:Str:=gQ 58
def d7 (i:Int):Str:=(toString i:String)
def wH:List Int:=(List.range 19).map fun (k:Nat)=>(k:Int)-9
theorem fS {i:Int}:i∈wH ↔ -9≤i∧i≤9:=by
 unfold wH
 rw [List.mem_map]
 constructor
 ·rintro ⟨k,hk,rfl⟩
  have:=List.mem_range.mp hk
  omega
 ·rintro ⟨h1,h2⟩
  exact ⟨(i+9).toNat,List.mem_range.mpr (by omega),by omega⟩
def j6 (w:Str):Option Int:=wH.find? fun i=>decide (d7 i=w)
theorem jV:∀ i∈wH,j6 (d7 i)=some i∧(32∉cp (d7 i)∧44∉cp (d7 i)∧d7 i≠lE)∧(d7 i).length≤2:=by decide +kernel
theorem aBg {w:Str}{i:Int} (h:j6 w=some i):d7 i=w ∧ -9≤i∧i≤9:=by
 have h1:=List.find?_some (p:=fun i=>decide (d7 i=w)) h
 exact ⟨of_decide_eq_true h1,fS.mp (List.mem_of_find?_eq_some h)⟩
def b9:List Str→Option (List Int)
 | []=>some []
 | w::r=>match j6 w,b9 r with
  | some i,some l=>some (i::l)
  | _,_=>none
theorem nG:∀ {ws:List Str}{l:List Int},b9 ws=some l→l.map d7=ws∧∀ i∈l, -9≤i∧i≤9
 | [],l,h=>by cases h;exact ⟨rfl,fun i hi=>by simp at hi⟩
 | w::r,l,h=>by
  unfold b9 at h
  split at h
  ·rename_i i m e1 e2
   cases h
   obtain ⟨a1,a2⟩:=aBg e1
   obtain ⟨b1,b2⟩:=nG e2
   refine ⟨by rw [List.map_cons,a1,b1],fun x hx=>?_⟩
   rcases List.mem_cons.mp hx with rfl | hx
   ·exact a2
   ·exact b2 x hx
  ·cases h
theorem nD:∀ {l:List Int},(∀ i∈l, -9≤i∧i≤9)→b9 (l.map d7)=some l
 | [],_=>rfl
 | i::l,h=>by
  rw [List.map_cons,b9,(jV i (fS.mpr (h i List.mem_cons_self))).1,nD fun x hx=>h x (List.mem_cons_of_mem _ hx)]
def eR (r:List Int):Str:=Str.join sE (r.map d7)
def fH:List Str→Option (List (List Int))
 | []=>some []
 | w::r=>match b9 (dP.split w sE),fH r with
  | some i,some l=>some (i::l)
  | _,_=>none
theorem r9:∀ {ws:List Str}{l:List (List Int)},fH ws=some l→l.map eR=ws
 | [],l,h=>by cases h;rfl
 | w::r,l,h=>by
  unfold fH at h
  split at h
  ·rename_i i m e1 e2
   cases h
   rw [List.map_cons,r9 e2]
   unfold eR
   rw [(nG e1).1,PySem.StrLaws.join_split]
  ·cases h
theorem vA {r:List Int} (hn:r≠[]) (h:∀ i∈r, -9≤i∧i≤9):dP.split (eR r) sE=r.map d7:=
 qD (by decide) (by simpa using hn) fun w hw=>by
  obtain ⟨i,hi,rfl⟩:=List.mem_map.mp hw
  exact (jV i (fS.mpr (h i hi))).2.1.2.1
theorem sM:∀ {l:List (List Int)},(∀ r∈l,r≠[]∧∀ i∈r, -9≤i∧i≤9)→fH (l.map eR)=some l
 | [],_=>rfl
 | r::l,h=>by
  obtain ⟨h1,h2⟩:=h r List.mem_cons_self
  rw [List.map_cons,fH,vA h1 h2,nD h2,sM fun x hx=>h x (List.mem_cons_of_mem _ hx)]
def eE (ns:List Int) (pay:List (List Int)):List Str:=ns.map d7++lE::pay.map eR
def j0 (ns:List Int) (pay:List (List Int)):Str:=Str.join jU (eE ns pay)
def gX (t:Str):Option (List Int×List (List Int)):=
 if lE∈dP.split t jU then match b9 ((dP.split t jU).take ((dP.split t jU).idxOf lE)),fH ((dP.split t jU).drop ((dP.split t jU).idxOf lE+1)) with
  | some ns,some pay=>if bG (dZ ns pay)=true then some (ns,pay) else none
  | _,_=>none
 else none
theorem sF {ns:List Int}{pay:List (List Int)} (M:eQ ns pay):bG (dZ ns pay)=true:=by
 have m:=cR M.ok
 have hd:eV (.tup (ns.map D.int))=true:=by
  have h2:=M.two
  simp only [eV,List.length_map,h2,m.1,decide_true,Bool.true_and,List.all_map,List.all_eq_true]
  intro x hx
  simpa [bZ] using m.2 x hx
 have hp:mY (.tup (pay.map aN)) ns=true:=by
  simp only [mY,List.length_map,M.many,decide_true,Bool.true_and,List.all_map,List.all_eq_true]
  intro r hr
  obtain ⟨h1,h2⟩:=M.rows r hr
  simp only [Function.comp_def,aN,fN,List.length_map,h1,decide_true,Bool.true_and,List.all_map,List.all_eq_true]
  intro x hx
  simpa [bZ] using h2 x hx
 simp [bG,dZ,aN,hd,iC,hp]
theorem aCw {ns:List Int}{pay:List (List Int)} (h:bG (dZ ns pay)=true):eQ ns pay:=by
 simp only [bG,dZ,aN,iC,Bool.and_eq_true] at h
 obtain ⟨h1,h2⟩:=h
 simp only [eV,List.length_map,Bool.and_eq_true,decide_eq_true_eq,List.all_map,List.all_eq_true] at h1
 simp only [mY,List.length_map,Bool.and_eq_true,decide_eq_true_eq,List.all_map,List.all_eq_true] at h2
 refine ⟨h1.1.1,?_,h2.1,fun r hr=>?_⟩
 ·unfold cE
  rw [Bool.and_eq_true,decide_eq_true_eq,List.all_eq_true]
  refine ⟨h1.1.2,fun x hx=>?_⟩
  have:=h1.2 x hx
  simpa [bZ] using this
 ·have:=h2.2 r hr
  simp only [Function.comp_def,aN,fN,List.length_map,Bool.and_eq_true,decide_eq_true_eq,List.all_map,List.all_eq_true] at this
  refine ⟨this.1,fun x hx=>?_⟩
  have:=this.2 x hx
  simpa [bZ] using this
theorem zN {ns:List Int}{r:List Str} (h:∀ i∈ns, -9≤i∧i≤9):(ns.map d7++lE::r).idxOf lE=ns.length:=by
 rw [List.idxOf_append,if_neg]
 ·simp
 ·intro z
  obtain ⟨i,hi,e⟩:=List.mem_map.mp z
  exact (jV i (fS.mpr (h i hi))).2.1.2.2 e
section
variable {ns:List Int}{pay:List (List Int)}{t:Str}
theorem z8 (h:gX t=some (ns,pay)):eQ ns pay∧j0 ns pay=t:=by
 unfold gX at h
 split at h
 ·rename_i hm
  split at h
  ·rename_i ns' pay' e1 e2
   split at h
   ·rename_i hi
    cases h
    refine ⟨aCw hi,?_⟩
    have w1:=(nG e1).1
    have w2:=r9 e2
    unfold j0 eE
    rw [w1,w2]
    have e3:(dP.split t jU).take ((dP.split t jU).idxOf lE)++lE::(dP.split t jU).drop ((dP.split t jU).idxOf lE+1)=dP.split t jU:=by
     have hl:=List.idxOf_lt_length_of_mem hm
     have e4:=List.getElem_idxOf hl
     have:=List.take_append_drop ((dP.split t jU).idxOf lE) (dP.split t jU)
     rw [List.drop_eq_getElem_cons hl,e4] at this
     exact this
    rw [e3,PySem.StrLaws.join_split]
   ·cases h
  ·cases h
 ·cases h
theorem xZ (M:eQ ns pay):∀ w∈eE ns pay,32∉cp w:=by
 have m:=cR M.ok
 intro w hw
 rcases List.mem_append.mp hw with z | z
 ·obtain ⟨i,hi,rfl⟩:=List.mem_map.mp z
  have:=m.2 i hi
  exact (jV i (fS.mpr (by omega))).2.1.1
 ·rcases List.mem_cons.mp z with z | z
  ·rw [z];decide
  ·obtain ⟨r,hr,rfl⟩:=List.mem_map.mp z
   have h2:=(M.rows r hr).2
   unfold eR
   rw [o5]
   have:∀ (ws:List (List Nat)),(∀ w∈ws,32∉w)→32∉j5 44 ws:=by
    intro ws
    induction ws with
    | nil=>intro _;simp [j5]
    | cons a l ih=>
     intro h
     cases l with
     | nil=>exact h a List.mem_cons_self
     | cons b l=>
      intro z
      rcases List.mem_append.mp (show 32∈a++44::j5 44 (b::l) from z) with z | z
      ·exact h a List.mem_cons_self z
      ·rcases List.mem_cons.mp z with z | z
       ·cases z
       ·exact ih (fun w hw=>h w (List.mem_cons_of_mem _ hw)) z
   refine this _ fun w hw=>?_
   obtain ⟨v,hv,rfl⟩:=List.mem_map.mp hw
   obtain ⟨i,hi,rfl⟩:=List.mem_map.mp hv
   exact (jV i (fS.mpr (h2 i hi))).2.1.1
theorem aAa (M:eQ ns pay):gX (j0 ns pay)=some (ns,pay):=by
 have m:=cR M.ok
 have h9:∀ i∈ns, -9≤i∧i≤9:=fun i hi=>by have:=m.2 i hi;omega
 have e0:dP.split (j0 ns pay) jU=eE ns pay:=qD (by decide) (by unfold eE;simp) (xZ M)
 have e1:(eE ns pay).idxOf lE=ns.length:=zN h9
 have e2:(eE ns pay).take ns.length=ns.map d7:=by unfold eE;rw [List.take_left' (by simp)]
 have e3:(eE ns pay).drop (ns.length+1)=pay.map eR:=by
  unfold eE
  rw [← List.drop_drop,List.drop_left' (by simp)]
  rfl
 unfold gX
 rw [e0,if_pos (by unfold eE;simp),e1,e2,e3,nD h9,sM fun r hr=>?_]
 ·simp only [sF M,if_true]
 ·obtain ⟨h1,h2⟩:=M.rows r hr
  refine ⟨fun z=>?_,h2⟩
  have:=M.two
  rw [z] at h1
  simp at h1
  omega
theorem kP {i:Int} (h : -9≤i∧i≤9):(d7 i).length≤2:=(jV i (fS.mpr h)).2.2
theorem aC5 {ws:List Str}{B:Nat} (h:∀ w∈ws,w.length≤B):(ws.map (·.length)).sum≤ws.length * B:=by
 induction ws with
 | nil=>simp
 | cons a l ih=>
  have h1:=h a List.mem_cons_self
  have h2:=ih fun w hw=>h w (List.mem_cons_of_mem _ hw)
  rw [List.map_cons,List.sum_cons,List.length_cons,Nat.succ_mul]
  omega
theorem zA {sep:Str}{ws:List Str}{B:Nat} (h:∀ w∈ws,w.length≤B):(Str.join sep ws).length≤ws.length * B+ws.length * sep.length:=by
 have h1:=PySem.StrLaws.join_length_le sep ws
 have h2:=aC5 h
 omega
theorem sS {r:List Int} (hl:r.length≤3) (h:∀ i∈r, -9≤i∧i≤9):(eR r).length≤9:=by
 have:=zA (sep:=sE) (ws:=r.map d7) (B:=2) fun w hw=>by
  obtain ⟨i,hi,rfl⟩:=List.mem_map.mp hw
  exact kP (h i hi)
 rw [List.length_map] at this
 have e:sE.length=1:=rfl
 rw [e] at this
 unfold eR
 omega
theorem rX (M:eQ ns pay):(∀ w∈eE ns pay,w.length≤9)∧(eE ns pay).length≤31:=by
 have m:=cR M.ok
 have rl:=iB M.ok
 have ml:=M.many
 refine ⟨fun w hw=>?_,by unfold eE;simp;omega⟩
 rcases List.mem_append.mp hw with z | z
 ·obtain ⟨i,hi,rfl⟩:=List.mem_map.mp z
  have:=m.2 i hi
  have:=kP (i:=i) (by omega)
  omega
 ·rcases List.mem_cons.mp z with z | z
  ·rw [z];decide
  ·obtain ⟨r,hr,rfl⟩:=List.mem_map.mp z
   have h2:=M.rows r hr
   exact sS (by omega) h2.2
theorem zX (M:eQ ns pay):(j0 ns pay).length≤400:=by
 obtain ⟨h1,h2⟩:=rX M
 have:=zA (sep:=jU) h1
 have e:jU.length=1:=rfl
 rw [e] at this
 unfold j0
 omega
end
theorem sT {sep:Str}{ws:List Str}{B:Nat} (h:∀ w∈ws,w.length≤B) (hl:ws.length * B+ws.length * sep.length≤16777216):JoinOk sep ws=true:=by
 unfold JoinOk
 rw [PySem.StrLaws.joinFits h hl]
 rfl
def oE (o:Option D):Out:=match o with
 | some x=>{ ret:=fun d=>d=x,exc:=fun _=>False }
 | none=>{ ret:=fun _=>False,exc:=fun c=>c="NoText" }
def eD:List D→Option Out
 | [.str w]=>some (oE ((j6 w).map D.int))
 | _=>none
def bM:List D→Option Out
 | [.lst ds]=>match j7 ds with
  | some ws=>if ws.length≤3000 then some (oE ((b9 ws).map aN)) else none
  | none=>none
 | _=>none
def mD (m:List Int×List (List Int)):D:=dZ m.1 m.2
def i9:List D→Option Out
 | [.str t]=>if t.length≤2000 then some (oE ((gX t).map mD)) else none
 | _=>none
def jJ:List D→Option (D→Prop)
 | [.str t]=>if t.length≤2000 then match gX t with
   | some m=>some fun d=>d=mD m
   | none=>none
  else none
 | _=>none
theorem oI:∀ ds p,jJ ds=some p→∃ o,i9 ds=some o∧(∀ d,o.ret d→p d)∧∀ c,¬ o.exc c:=by
 intro ds p h
 unfold jJ at h
 split at h
 ·rename_i t
  split at h
  ·rename_i hl
   split at h
   ·rename_i m e
    cases h
    refine ⟨_,if_pos hl,?_,?_⟩
    ·rw [e];exact fun d hd=>hd
    ·rw [e];exact fun c z=>z
   ·cases h
  ·cases h
 ·cases h
def cT:List D→Option D
 | [.str t]=>if t.length≤2000 then some (((gX t).map mD).getD .non) else none
 | _=>none
open Classical in
noncomputable def bP:List D→Option D
 | [d]=>match vB d with
  | some r=>if r.length≤3∧∀ i∈r, -9≤i∧i≤9 then some (.str (eR r)) else none
  | none=>none
 | _=>none
noncomputable def fY:List D→Option D
 | [m]=>kL m fun ns pay=>some (.str (j0 ns pay))
 | _=>none
noncomputable def dJ:List D→Option D
 | [m]=>kL m fun ns pay=>some (.str (j0 ns pay))
 | _=>none
def cI:List D→Option (D→Prop)
 | [.str t,.int _]=>if t.length≤400 then some fun d=>∃ t',d = .str t'∧t'.length≤2000 else none
 | _=>none
noncomputable def jN:GS:=(dA (dX (fR "int" (aF 0)) (gW (fR "bool" (aF 0)))))
noncomputable def oF:GS:=(bU (jO (nY (aF 0)) (eM 2) (bU (dY 3 (gT aI)) (bU (jO (qY (aF 1)) (eM 4) (jO (eN (aF 2)) (eM 5) (jP 3 (cJ fA (aF 4) (cG (aE (aF 5) aI)))))) (iJ 3 (c0 (aF 3) (eM 1)))))) (dA (bE cN (aE (aF 1) aI))))
noncomputable def lC:GS:=(bU (c0 (gF (gT (aE (cG aI) aI))) (eM 1)) oF)
noncomputable def eS:GS:=(dA (dX (fR "tuple" (aF 0)) (dU oLe oLe (aF 1) (bE iO (aE (aF 0) aI)) (aF 2))))
noncomputable def i8:GX:=(lR "NoText" (aE (gC (.str (PySem.Str.ofString "a word is no number of a meeting"))) aI))
noncomputable def iP:GX:=(lI (lM (jO (gS (gC (.int (-9))) (cJ fA (gC (.int (9))) (gC (.int 1)))) (eM 1) (hU (dF (cJ qZ (bE qH (aE (aF 1) aI)) (aF 0))) (dA (aF 1)) dH))) i8)
noncomputable def fP:GS:=(dA (qU (gC (.str (PySem.Str.ofString ","))) (gF (eT [none] (nY (aF 0)) (eM 0) (bE qH (aE (aF 0) aI))))))
noncomputable def jM:GS:=(dA (cJ rN (cJ rN (cJ i7 (aF 0) (gC (.int 48271))) (aF 1)) (aF 2)))
noncomputable def lH:GS:=(bU (jO (nY (aF 0)) (eM 2) (bU (dY 3 (gT aI)) (bU (jO (qY (aF 1)) (eM 4) (kD 3 (eT [none,some 4] (eN (aF 2)) (eM 0) (cJ fA (aF 1) (cG (aE (aF 0) aI)))))) (iJ 3 (c0 (aF 3) (eM 1)))))) (dA (aF 1)))
noncomputable def iV:GS:=(bU (c0 (gF (gT (aE (cG aI) aI))) (eM 1)) lH)
noncomputable def lG:GS:=(bU (jO (nY (cJ lN (aF 0) (gC (.int 1)))) (eM 3) (c0 (cJ jE (cJ jE (aF 1) (gC (.str (PySem.Str.ofString " ")))) (qU (gC (.str (PySem.Str.ofString ","))) (gF (eT [none] (nY (aF 3)) (eM 0) (bE qH (aE (aF 0) aI)))))) (eM 1))) (dA (aF 1)))
noncomputable def lK:GS:=(bU (c0 (cJ jE (aF 1) (gC (.str (PySem.Str.ofString ":")))) (eM 1)) lG)
noncomputable def lL:GS:=(bU (jO (nY (cJ lN (aF 0) (gC (.int 0)))) (eM 2) (c0 (cJ jE (cJ jE (aF 1) (bE qH (aE (aF 2) aI))) (gC (.str (PySem.Str.ofString " ")))) (eM 1))) lK)
noncomputable def iT:GS:=(bU (c0 (gC (.str (PySem.Str.ofString ""))) (eM 1)) lL)
noncomputable def j1:GS:=(dA (cJ jE (cJ jE (tM (aF 0) g0 (cZ (aF 2))) (aF 3)) (tM (aF 0) (cZ (cJ aBt (cJ fA (aF 2) (cJ rN (aF 1) (gC (.int 4)))) (gC (.int 2)))) g0)))
noncomputable def j4:GS:=(bU (hU (dF (cJ qZ (cJ rN (aF 1) (gC (.int 4))) (gC (.int 1)))) (dA (cJ jE (cJ jE (tM (aF 0) g0 (cZ (aF 2))) (tM (aF 0) (cZ (aF 2)) (cZ (cJ fA (aF 2) (gC (.int 1)))))) (tM (aF 0) (cZ (aF 2)) g0))) dH) j1)
noncomputable def j8:GS:=(bU (hU (dF (cJ qZ (cJ rN (aF 1) (gC (.int 4))) (gC (.int 0)))) (dA (cJ jE (tM (aF 0) g0 (cZ (aF 2))) (tM (aF 0) (cZ (cJ fA (aF 2) (gC (.int 1)))) g0))) dH) j4)
noncomputable def jZ:GS:=(bU (c0 (cJ aC4 (gC (.str (PySem.Str.ofString "0129:,- +a"))) (cJ rN (cJ aAP (aF 1) (gC (.int 512))) (gC (.int 10)))) (eM 3)) j8)
noncomputable def gL:GS:=(bU (c0 (cJ rN (cJ aAP (aF 1) (gC (.int 4))) (cJ fA (bE yQ (aE (aF 0) aI)) (gC (.int 1)))) (eM 2)) jZ)
noncomputable def fU:GS:=(dA (dX (aU eG (aE (aF 0) aI)) (dU oLe oLe (aF 1) (aF 0) (aF 2))))
noncomputable def hG:GX:=(aA2 (mL cN (qB (gFX (qT [none] (qY (aF 0)) (eM 0) (jL eD (aE (aF 0) aI)))) vG)))
noncomputable def nX:GS:=(iJ 2 (dA (qU (gC (.str (PySem.Str.ofString " "))) (gF (fO (gF (fO (aF 1) (gF (gT (aE (gC (.str (PySem.Str.ofString ":"))) aI))))) (aF 2))))))
noncomputable def n0:GS:=(iJ 1 (bU (dY 2 (eT [none] (nY (cJ lN (aF 0) (gC (.int 1)))) (eM 0) (aU bP (aE (aF 0) aI)))) nX))
noncomputable def k7:GS:=(bU (dY 1 (eT [none] (nY (cJ lN (aF 0) (gC (.int 0)))) (eM 0) (bE qH (aE (aF 0) aI)))) n0)
noncomputable def gG:GS:=(iJ 3 (dA (cG (aE (aF 1) (aE (bE cN (aE (aF 3) aI)) aI)))))
noncomputable def gD:GS:=(bU (hU (dF (cJ qZ (cJ rN (aF 0) (gC (.int 9))) (gC (.int 0)))) (bU (c0 (gF (eF oW (aE (gF (eT [none,some 0] (eN (gC (.int 4))) (eM 0) (cJ aBt (aU cK (aE (cJ fA (aF 1) (aF 0)) (aE (gC (.int 9931)) (aE (gC (.int 19)) aI)))) (gC (.int 9))))) aI))) (eM 7)) (dY 3 (gT (aE (cG (aE (cJ lN (aF 7) (gC (.int 2))) (aE (cJ lN (aF 7) (gC (.int 2))) aI))) (aE (cG (aE (cJ lN (aF 7) (gC (.int 0))) (aE (cJ lN (aF 7) (gC (.int 3))) aI))) (aE (cG (aE (cJ lN (aF 7) (gC (.int 3))) (aE (cJ lN (aF 7) (gC (.int 0))) aI))) (aE (cG (aE (cJ lN (aF 7) (gC (.int 1))) (aE (cJ lN (aF 7) (gC (.int 1))) aI))) aI))))))) dH) gG)
noncomputable def jI:GS:=(bU (jO (eN (bE iO (aE (aU eH (aE (aF 1) aI)) aI))) (eM 4) (bU (c0 (cJ fA (aF 0) (cJ i7 (gC (.int 13)) (aF 4))) (eM 5)) (bU (dY 6 (eT [none,some 2,some 5] (eN (bE iO (aE (aF 1) aI))) (eM 0) (cJ aBt (cJ fA (aU cK (aE (cJ fA (aF 2) (cJ i7 (gC (.int 5)) (aF 0))) (aE (gC (.int 9941)) (aE (cJ aBt (cJ i7 (gC (.int 2)) (aF 1)) (gC (.int 1))) aI)))) (gC (.int 1))) (aF 1)))) (iJ 6 (jP 3 (bE cN (aE (aF 6) aI))))))) gD)
noncomputable def gE:GS:=(bU (c0 (cJ lN (gF (gT (aE (gC (.int 2)) (aE (gC (.int 5)) (aE (gC (.int 10)) aI))))) (aU cK (aE (aF 0) (aE (gC (.int 9949)) (aE (gC (.int 3)) aI))))) (eM 2)) (bU (dY 3 (gT aI)) jI))
noncomputable def jD:GS:=(bU (hU (dF (cJ qZ (cJ rN (aF 0) (gC (.int 3))) (gC (.int 0)))) (c0 (cG (aE (gC (.int 2)) (aE (gC (.int 2)) aI))) (eM 1)) dH) gE)
noncomputable def fQ:GS:=(bU (c0 (bE cN (aE (gF (eT [none,some 0] (eN (cJ fA (gC (.int 2)) (cJ aAP (aU cK (aE (aF 0) (aE (gC (.int 9967)) (aE (gC (.int 4)) aI)))) (gC (.int 3))))) (eM 0) (cJ fA (gC (.int 1)) (aU cK (aE (cJ fA (aF 1) (cJ i7 (gC (.int 7)) (aF 0))) (aE (gC (.int 9973)) (aE (gC (.int 3)) aI))))))) aI)) (eM 1)) jD)
noncomputable def gJ:GS:=(dA (bE jS (aE (gF (eT [none,some 1,some 2] (nY (aF 0)) (eM 0) (aU dO (aE (aF 0) (aE (aF 1) (aE (aF 2) aI)))))) aI)))
noncomputable def f9:GS:=(dA (dX (aU aH (aE (aF 0) (aE (gC (.int (2))) (aE (gC (.int (3))) aI)))) (aU bI (aE (aF 0) (aE (gC (.int 1)) (aE (gC (.int (3))) aI))))))
noncomputable def cP:GS:=(dA (dX (aU aH (aE (aF 0) (aE (aF 1) (aE (aF 1) aI)))) (aU bI (aE (aF 0) (aE (gC (.int (-9))) (aE (gC (.int (9))) aI))))))
noncomputable def mB:GS:=(dA (dX (aU aH (aE (aF 0) (aE (aF 2) (aE (aF 2) aI)))) (bE jS (aE (gF (eT [none,some 1] (nY (aF 0)) (eM 0) (aU b6 (aE (aF 0) (aE (bE iO (aE (aF 1) aI)) aI))))) aI))))
noncomputable def kQ:GS:=(bU (c0 (bE iO (aE (aU fL (aE (aF 1) aI)) aI)) (eM 2)) mB)
noncomputable def cQ:GS:=(dA (dX (aU aH (aE (aF 0) (aE (gC (.int 2)) (aE (gC (.int 2)) aI)))) (dX (aU eY (aE (cJ lN (aF 0) (gC (.int 0))) aI)) (aU h8 (aE (cJ lN (aF 0) (gC (.int 1))) (aE (cJ lN (aF 0) (gC (.int 0))) aI))))))
noncomputable def vR:GX:=(lM (dA (cG (aE (aF 3) (aE (aF 4) aI)))))
noncomputable def wN:GX:=(lI (aCF (kE (j9 (aU cD (aE (cG (aE (aF 3) (aE (aF 4) aI))) aI)))) (lR "NoText" (aE (gC (.str (PySem.Str.ofString "the numbers are no meeting's"))) aI)) (lM dH)) vR)
noncomputable def vL:GX:=(lI (sR (mL cN (qB (gFX (qT [none] (qY (gF (aAb (aF 1) (cZ (cJ fA (aF 2) (gC (.int 1)))) g0))) (eM 0) (jL bM (aE (gF (pB (aF 0) (gC (.str (PySem.Str.ofString ","))))) aI)))) vG)) (eM 4)) wN)
noncomputable def vM:GX:=(lI (sR (jL bM (aE (gF (aAb (aF 1) g0 (cZ (aF 2)))) aI)) (eM 3)) vL)
noncomputable def vN:GX:=(lI (lM (c0 (wZ (aF 1) (gC (.str (PySem.Str.ofString ":")))) (eM 2))) vM)
noncomputable def u0:GX:=(lI (aCF (dF (cJ tR (gC (.str (PySem.Str.ofString ":"))) (aF 1))) (lR "NoText" (aE (gC (.str (PySem.Str.ofString "no colon stands by itself"))) aI)) (lM dH)) vN)
noncomputable def tI:GX:=(lI (lM (c0 (gF (pB (aF 0) (gC (.str (PySem.Str.ofString " "))))) (eM 1))) u0)
noncomputable def lF:GS:=(bU (xP 3 2 (fun c=>c="NoText") (fun _=>true) (sR (jL i9 (aE (aF 0) aI)) (eM 1)) (c0 (gC .non) (eM 1))) (dA (aF 1)))
noncomputable def iR:GS:=(bU (c0 (gC (.str (PySem.Str.ofString "other"))) (eM 1)) lF)
noncomputable def qA:GS:=(bU (c0 (dE cL (aE (aF 1) aI)) (eM 2)) (bU (c0 (aU dJ (aE (aF 2) aI)) (eM 3)) (bU (hU (uX (dF (cJ tZ (aU fY (aE (aF 2) aI)) (aF 3))) (dF (cJ tZ (dE jJ (aE (aF 3) aI)) (aF 2)))) (dA (gC (.bl false))) dH) (bU (c0 (dE cI (aE (aF 3) (aE (cJ aAP (aF 1) (gC (.int 5))) aI))) (eM 4)) (bU (c0 (aU cT (aE (aF 4) aI)) (eM 5)) (hU (kN (dF (cJ mZ (aF 5) (gC .non))) (uX (kE (j9 (aU cD (aE (aF 5) aI)))) (dF (cJ tZ (aU dJ (aE (aF 5) aI)) (aF 4))))) (dA (gC (.bl false))) dH))))))
noncomputable def yI:GS:=(dA (cJ qZ (dE jJ (aE (gC (.str (PySem.Str.ofString "1 1 : 0,-9"))) aI)) (cG (aE (cG (aE (gC (.int 1)) (aE (gC (.int 1)) aI))) (aE (cG (aE (cG (aE (gC (.int 0)) (aE (kI (gC (.int 9))) aI))) aI)) aI)))))
noncomputable def yJ:GS:=(bU (jO (qY (gF (fO (aF 6) (gF (gT (aE (gC (.str (PySem.Str.ofString "1 1 : 0"))) (aE (gC (.str (PySem.Str.ofString "1 1 : -0,0"))) aI))))))) (eM 4) (hU (dF (cJ mZ (aU cT (aE (aF 4) aI)) (gC .non))) (dA (gC (.bl false))) dH)) yI)
noncomputable def y6:GS:=(bU (c0 (gF (gT (aE (gC (.str (PySem.Str.ofString ""))) (aE (gC (.str (PySem.Str.ofString ":"))) (aE (gC (.str (PySem.Str.ofString "1 1"))) (aE (gC (.str (PySem.Str.ofString "1 1 :"))) (aE (gC (.str (PySem.Str.ofString "1 1 0,0"))) (aE (gC (.str (PySem.Str.ofString "1 1 : 0,0 "))) (aE (gC (.str (PySem.Str.ofString " 1 1 : 0,0"))) (aE (gC (.str (PySem.Str.ofString "1 1 : 0,0 0,0"))) aI)))))))))) (eM 6)) yJ)
noncomputable def yW:GS:=(bU (jO (qY (gF (aAb (aF 0) g0 (cZ (gC (.int 6)))))) (eM 1) qA) y6)
theorem eI {n:Nat} (h:n≤1000):n≤sizeLine:=Nat.le_of_lt (kT h)
theorem bS (d:D):qL (tyD d) "int"=(match d with
 | .int _=>true
 | .bl _=>true
 | _=>false):=by cases d <;> rfl
theorem bN (d:D):qL (tyD d) "bool"=(match d with
 | .bl _=>true
 | _=>false):=by cases d <;> rfl
theorem aY (d:D):qL (tyD d) "tuple"=(match d with
 | .tup _=>true
 | _=>false):=by cases d <;> rfl
theorem aD8 {i j:Int}{Q:D→Prop}:i7 (.int i) (.int j) Q=(aA3 i j∧Q (.int (i * j))):=rfl
end L2
local macro_rules | `(tactic| simp_all_arith! [$x:term]) => do
 let i : Lean.TSyntax `ident := ⟨x.raw⟩
 `(tactic| (intro ds d h; unfold $i:ident at h; split at h; all_goals first | rfl | cases h))
local macro_rules | `(tactic| simp_all_arith!) => `(tactic| exact ⟨rfl, rfl, rfl, by decide +kernel, rfl, by decide +kernel, by decide +kernel⟩)
local macro_rules | `(tactic| simp_arith! only [$as,*]) => `(tactic| simp only [L2.dA, L2.dX, L2.lP, L2.iE, L2.fR, L2.bS, L2.bN, L2.aY, L2.aF, L2.bU, L2.c0, L2.eM, L2.gC, L2.gF, L2.gT, L2.aE, L2.aI, L2.cG, L2.bE, L2.eF, L2.aU, L2.dE, L2.iX, L2.g7, L2.iO, L2.lW, L2.jS, L2.cN, L2.iA, L2.cJ, L2.jQ, L2.fW, L2.fA, L2.aD8, L2.tZ, L2.qZ, L2.wW, L2.fE, L2.aB0, L2.g6, L2.lN, L2.dU, L2.dN, L2.dF, L2.iG, L2.hU, L2.nY, L2.qY, L2.eN, L2.gS, L2.jP, L2.kD, L2.iJ, L2.dY, L2.dH, L2.j9, L2.kE, L2.kN, L2.uX, L2.cZ, L2.g0, L2.l8, L2.fO, L2.kI, L2.l0, L2.l7, L2.gW, L2.lD, L2.iD, L2.fK, L2.eW, L2.fD, L2.fF, L2.l5, L2.lY, L2.l9, eq_self, if_true, ↓reduceIte, Bool.false_eq_true, if_false, List.getElem?_cons_zero, List.getElem?_cons_succ, List.set_cons_zero, List.set_cons_succ, $as,*])
local macro_rules | `(tactic| simp_arith only [$as,*]) => `(tactic| simp only [L2.dA, L2.dX, L2.lP, L2.iE, L2.fR, L2.bS, L2.bN, L2.aY, L2.aF, L2.bU, L2.c0, L2.eM, L2.gC, L2.gF, L2.gT, L2.aE, L2.aI, L2.cG, L2.bE, L2.eF, L2.aU, L2.dE, L2.iX, L2.g7, L2.iO, L2.lW, L2.jS, L2.cN, L2.iA, L2.cJ, L2.jQ, L2.fW, L2.fA, L2.i7, L2.tZ, L2.qZ, L2.wW, L2.fE, L2.gY, L2.g6, L2.lN, L2.dU, L2.dN, L2.dF, L2.iG, L2.hU, L2.nY, L2.qY, L2.eN, L2.gS, L2.jP, L2.kD, L2.iJ, L2.dY, L2.dH, L2.j9, L2.kE, L2.kN, L2.uX, L2.cZ, L2.g0, L2.l8, L2.fO, L2.kI, L2.l0, L2.l7, L2.gW, L2.lD, L2.iD, L2.fK, L2.eW, L2.fD, L2.fF, L2.l5, L2.lY, L2.l9, eq_self, if_true, ↓reduceIte, Bool.false_eq_true, if_false, List.getElem?_cons_zero, List.getElem?_cons_succ, List.set_cons_zero, List.set_cons_succ, $as,*])
namespace L2
open PySem PySem.Spec PyProof.Rows
abbrev lO (d:D):DEnds:={ nx:=fun _=>d = .non,rt:=fun r=>r=d }
theorem mS (R:List (List Int)) (n:Int) (j:Nat) (h:j<R.length):cF (R.take (j+1)) n=cF (R.take j) n++(List.range n.toNat).map fun (k:Nat)=>R[j]++[(k:Int)]:=by
 rw [List.take_succ,List.getElem?_eq_getElem h,Option.toList_some,qN,vX]
theorem pZ (ns:List Int) (i:Nat) (h:i<ns.length):cB (ns.take (i+1))=cF (cB (ns.take i)) ns[i]:=by
 rw [List.take_succ,List.getElem?_eq_getElem h,Option.toList_some,lS]
theorem d6 {α β:Type}{f:α→β}{l:List α}{i:Nat}{d:β} (e:(l.map f)[i]? = some d):∃ h:i<l.length,d=f l[i]:=by
 rw [List.getElem?_map] at e
 cases e2:l[i]? with
 | none=>rw [e2] at e;cases e
 | some x=>
  rw [e2] at e
  obtain ⟨h,e3⟩:=List.getElem?_eq_some_iff.mp e2
  cases e
  exact ⟨h,by rw [e3]⟩
theorem sB {ns:List Int} (ho:cE ns=true) {i:Nat} (hi:i<ns.length):1≤ns[i]∧ns[i]≤3∧(cB (ns.take i)).length≤27∧∀ r∈cB (ns.take i),r.length≤3:=by
 obtain ⟨m1,m2⟩:=cR ho
 have h1:=m2 ns[i] (List.getElem_mem hi)
 refine ⟨h1.1,h1.2,(iB (tV ho i)).2,fun r hr=>?_⟩
 rw [(aBK hr).1,List.length_take]
 omega
abbrev z7 (p:D→Prop):DEnds:={ nx:=fun _=>p .non,rt:=p }
theorem qQ {c p m:Int} (h:0<m):0≤oH c p m:=Int.emod_nonneg _ (by omega)
theorem pS {c p m:Int} (h:0<m):oH c p m<m:=Int.emod_lt_of_pos _ h
theorem aAZ {c p m:Int} (hp:0<p) (hm:0<m):cK [.int c,.int p,.int m]=some (.int (oH c p m)):=if_pos ⟨hp,hm⟩
theorem okD {ns:List Int} (h1:ns.length≤3) (h2:∀ n∈ns,1≤n∧n≤3):cE ns=true:=by
 unfold cE
 rw [Bool.and_eq_true,decide_eq_true_eq,List.all_eq_true]
 exact ⟨h1,fun n hn=>by simpa using h2 n hn⟩
abbrev aAX (c:Int):D→Prop:=fun d=>∃ ns pay,d=dZ ns pay∧eQ ns pay∧(c % 3=0→ns=[2,2])
theorem jR (a:Int) (n:Nat):(bX a n).length=n:=by simp [bX]
theorem aD5 {ns:List Int} (ho:cE ns=true):eH [aN ns]=some (.lst ((cB ns).map aN)):=jX _ ho
theorem v8:∀ ds d,cK ds=some d→jM (lO d) (aZ ["_law_cell_here","_law_prime","_law_many"] ds)
 | [.int c,.int p,.int m],d,h=>by
  have h:(if 0<p∧0<m then some (D.int (oH c p m)) else none)=some d:=h
  split at h
  ·rename_i hp
   cases h
   show jM _ [.im (.int c),.im (.int p),.im (.int m)]
   simp_arith only [jM,List.getElem?_cons_zero,List.getElem?_cons_succ,oH]
   exact ⟨Or.inr ⟨by decide,by decide⟩,hp.1,hp.2,trivial⟩
  ·cases h
theorem tQ:∀ ds d,eH ds=some d→iV (lO d) (aZ ["_law_deeds","_law_found","_law_many","_law_more","_law_row"] ds)
 | [.tup es],d,h=>by
  obtain ⟨ns,rfl,ho,rfl⟩:=l6 (show gP es (fun ns=>D.lst ((cB ns).map aN))=some d from h)
  show iV _ [.im (.tup (ns.map D.int)),.un,.un,.un,.un]
  simp_arith only [iV,lH,jO]
  refine ⟨by decide,by decide,fun i δ=>∃ a b c,δ=[.im (.tup (ns.map D.int)),.im (.lst ((cB (ns.take i)).map aN)),a,b,c],⟨.un,.un,.un,rfl⟩,?_,?_⟩
  ·rintro i d δ ed ⟨a,b,c,rfl⟩
   obtain ⟨hi,rfl⟩:=d6 ed
   obtain ⟨f1,f2,f3,f4⟩:=sB ho hi
   generalize hR:cB (ns.take i)=R at *
   generalize hn:ns[i]=n at *
   simp_arith only []
   refine ⟨by decide,fun j δ=>∃ c,δ=[.im (.tup (ns.map D.int)),.im (.lst (R.map aN)),.im (.int n),.ow ((cF (R.take j) n).map aN),c],⟨c,rfl⟩,?_,?_⟩
   ·rintro j d δ ed ⟨c,rfl⟩
    obtain ⟨hj,rfl⟩:=d6 ed
    have fr:=f4 R[j] (List.getElem_mem hj)
    have hl:(cF (R.take j) n).length≤81:=by
     rw [iI,List.length_take]
     exact Nat.le_trans (Nat.mul_le_mul (Nat.le_trans (Nat.min_le_right _ _) f3) (show n.toNat≤3 by omega)) (by decide)
    simp_arith only [eT]
    refine ⟨by omega,?_,fun d=>match d with
     | .int k=>aN (R[j]++[k])
     | _=>.non,fun d hd=>?_,?_,?_⟩
    ·unfold bX
     rw [List.length_map,List.length_range]
     exact eI (by omega)
    ·unfold bX at hd
     obtain ⟨k,hk,rfl⟩:=List.mem_map.mp hd
     simp_arith only [δc,List.map_cons,List.map_nil,aN,List.length_cons,List.length_nil,List.length_map]
     exact ⟨by decide,eI (by omega),by rw [List.map_append];rfl⟩
    ·unfold bX
     simp only [List.length_map,List.length_range]
     exact eI (by omega)
    ·refine ⟨.im (aN R[j]),?_⟩
     rw [mS R n j hj,List.map_append,List.map_map]
     simp [bX,Function.comp_def]
   ·rintro δ ⟨c,rfl⟩
    simp_arith only []
    rw [pZ ns i hi,hR,hn,List.length_map,List.take_length]
    exact ⟨_,_,_,rfl⟩
  ·rintro δ ⟨a,b,c,rfl⟩
   simp_arith only []
   rw [List.length_map,List.take_length]
theorem aBi (c:Int) (ns:List Int) (hns:ns.length≤3) (h2:2≤ns.length) (ho:cE ns=true) (h3:c % 3=0→ns=[2,2]) (w:Sl) (pay:List (List Int)) (hp:eQ ns pay) (a b d e:Sl) :
  gD (z7 (aAX c)) [.im (.int c),.im (aN ns),w,.ow (pay.map aN),a,b,d,e]:=by
 obtain ⟨l1,l2⟩:=iB ho
 have fin:∀ (pay:List (List Int)) (a b d e:Sl),eQ ns pay→gG (z7 (aAX c)) [.im (.int c),.im (aN ns),w,.ow (pay.map aN),a,b,d,e]:=by
  intro pay a b d e hp
  simp_arith only [gG,List.length_cons,List.length_nil]
  exact ⟨by decide,ns,pay,rfl,hp,h3⟩
 simp_arith only [gD]
 refine ⟨by decide,by decide,?_⟩
 by_cases e9:c % 9=0
 ·have e9':(c % 9 == 0)=true:=by simpa using e9
  simp_arith only [e9',eT]
  have e3:ns=[2,2]:=h3 (by omega)
  refine ⟨by decide,by decide,fun x=>match x with
   | .int k=>.int (oH (c+k) 9931 19-9)
   | _=>.non,fun x hx=>?_,?_⟩
  ·unfold bX at hx
   obtain ⟨k,hk,rfl⟩:=List.mem_map.mp hx
   simp_arith only [δc,List.map_cons,List.map_nil,aAZ (show (0:Int)<9931 by decide) (show (0:Int)<19 by decide)]
  ·have em:(bX 0 (4:Int).toNat).map (fun x=>match x with
     | .int k=>D.int (oH (c+k) 9931 19-9)
     | _=>.non)=((List.range 4).map fun (k:Nat)=>oH (c+(0+(k:Int))) 9931 19-9).map D.int:=by
    simp [bX,Function.comp_def]
   rw [em]
   simp only [oW,iC]
   refine ⟨by simp,fun ms hpm hso=>?_⟩
   have hlen:ms.length=4:=by rw [hpm.length_eq];simp
   have hb:∀ x∈ms, -9≤x∧x≤9:=by
    intro x hx
    have hx':=hpm.mem_iff.mp hx
    obtain ⟨k,hk,rfl⟩:=List.mem_map.mp hx'
    have:=qQ (c:=c+(0+(k:Int))) (p:=9931) (show (0:Int)<19 by decide)
    have:=pS (c:=c+(0+(k:Int))) (p:=9931) (show (0:Int)<19 by decide)
    omega
   match ms,hlen,hb with
   | [m0,m1,m2,m3],_,hb=>
    have i0:m9 ([m0,m1,m2,m3].map D.int) 0=some (.int m0):=rfl
    have i1:m9 ([m0,m1,m2,m3].map D.int) 1=some (.int m1):=rfl
    have i2:m9 ([m0,m1,m2,m3].map D.int) 2=some (.int m2):=rfl
    have i3:m9 ([m0,m1,m2,m3].map D.int) 3=some (.int m3):=rfl
    simp_arith only [i0,i1,i2,i3,List.length_cons,List.length_nil]
    refine ⟨by decide,by decide,by decide,by decide,by decide,?_⟩
    have b0:=hb m0 (by simp)
    have b1:=hb m1 (by simp)
    have b2:=hb m2 (by simp)
    have b3:=hb m3 (by simp)
    refine fin [[m2,m2],[m0,m3],[m3,m0],[m1,m1]] _ _ _ _ ⟨h2,ho,?_,?_⟩
    ·rw [e3];rfl
    ·intro r hr
     rw [e3]
     simp only [List.mem_cons,List.not_mem_nil,or_false] at hr
     rcases hr with rfl | rfl | rfl | rfl <;> refine ⟨rfl,fun x hx=>?_⟩ <;> simp only [List.mem_cons,List.not_mem_nil,or_false] at hx <;> rcases hx with rfl | rfl <;> assumption
 ·have e9':(c % 9 == 0)=false:=by simpa using e9
  simp_arith only [e9']
  exact fin pay a b d e hp
theorem sW (c:Int) (ns:List Int) (hns:ns.length≤3) (h2:2≤ns.length) (ho:cE ns=true) (h3:c % 3=0→ns=[2,2]) :
  gE (z7 (aAX c)) [.im (.int c),.im (aN ns),.un,.un,.un,.un,.un,.un]:=by
 obtain ⟨l1,l2⟩:=iB ho
 have w0:=qQ (c:=c) (p:=9949) (show (0:Int)<3 by decide)
 have w1:=pS (c:=c) (p:=9949) (show (0:Int)<3 by decide)
 have hw:∃ wd:Int,m9 [D.int 2,.int 5,.int 10] (oH c 9949 3)=some (.int wd)∧2≤wd∧wd≤10:=by
  have:oH c 9949 3=0∨oH c 9949 3=1∨oH c 9949 3=2:=by omega
  rcases this with e | e | e <;> rw [e]
  ·exact ⟨2,rfl,by decide,by decide⟩
  ·exact ⟨5,rfl,by decide,by decide⟩
  ·exact ⟨10,rfl,by decide,by decide⟩
 obtain ⟨wd,ew,wd1,wd2⟩:=hw
 simp_arith only [gE,jI,aAZ (show (0:Int)<9949 by decide) (show (0:Int)<3 by decide),ew,aD5 ho,jO,List.length_cons,List.length_nil]
 refine ⟨by decide,by decide,⟨by omega,by rw [List.length_map];omega⟩,fun i δ=>∃ a b d e,∃ pay:List (List Int),δ=[.im (.int c),.im (aN ns),.im (.int wd),.ow (pay.map aN),a,b,d,e]∧pay.length=i∧i≤(cB ns).length∧∀ r∈pay,r.length=ns.length∧∀ x∈r, -9≤x∧x≤9,⟨.un,.un,.un,.un,[],rfl,rfl,Nat.zero_le _,fun r hr=>by simp at hr⟩,?_,?_⟩
 ·rintro i x δ ed ⟨a,b,d,e,pay,rfl,hpl,hil,hpb⟩
  unfold bX at ed
  obtain ⟨hi,rfl⟩:=d6 ed
  rw [List.length_range,List.length_map] at hi
  have hi':i<(cB ns).length:=by omega
  simp_arith only [eT,aN,List.length_map,List.getElem_range]
  generalize hsd:c+13 * (0+(i:Int))=sd
  have m1:0<2 * wd-1:=by omega
  refine ⟨Or.inl ⟨by decide,by decide⟩,⟨by omega,by omega⟩,by rw [jR];exact eI (by omega),fun y=>match y with
   | .int k=>.int (oH (sd+5 * k) 9941 (2 * wd-1)+1-wd)
   | _=>.non,fun y hy=>?_,?_⟩
  ·unfold bX at hy
   obtain ⟨k,hk,rfl⟩:=List.mem_map.mp hy
   simp_arith only [δc,List.map_cons,List.map_nil,aAZ (show (0:Int)<9941 by decide) m1]
   exact ⟨Or.inl ⟨by decide,by decide⟩,Or.inl ⟨by decide,by decide⟩,trivial⟩
  ·have em:(bX 0 (ns.length:Int).toNat).map (fun y=>match y with
     | .int k=>D.int (oH (sd+5 * k) 9941 (2 * wd-1)+1-wd)
     | _=>.non)=((List.range ns.length).map fun (k:Nat)=>oH (sd+5 * (0+(k:Int))) 9941 (2 * wd-1)+1-wd).map D.int:=by
    simp [bX,Function.comp_def]
   rw [em]
   have hrow:∀ x∈(List.range ns.length).map fun (k:Nat)=>oH (sd+5 * (0+(k:Int))) 9941 (2 * wd-1)+1-wd, -9≤x∧x≤9:=by
    intro x hx
    obtain ⟨k,hk,rfl⟩:=List.mem_map.mp hx
    have:=qQ (c:=sd+5 * (0+(k:Int))) (p:=9941) m1
    have:=pS (c:=sd+5 * (0+(k:Int))) (p:=9941) m1
    omega
   have hrl:((List.range ns.length).map fun (k:Nat)=>oH (sd+5 * (0+(k:Int))) 9941 (2 * wd-1)+1-wd).length=ns.length:=by simp
   generalize ((List.range ns.length).map fun (k:Nat)=>oH (sd+5 * (0+(k:Int))) 9941 (2 * wd-1)+1-wd)=row at hrow hrl
   have e5:pay.map aN++[D.tup (row.map D.int)]=(pay++[row]).map aN:=by
    rw [List.map_append]
    rfl
   rw [e5]
   refine ⟨kT (by omega),_,_,_,_,_,rfl,by simp [hpl],hi',fun r hr=>?_⟩
   rcases List.mem_append.mp hr with hr | hr
   ·exact hpb r hr
   ·obtain rfl:=List.mem_singleton.mp hr
    exact ⟨hrl,hrow⟩
 ·rintro δ ⟨a,b,d,e,pay,rfl,hpl,hil,hpb⟩
  rw [jR,List.length_map] at hpl
  exact aBi c ns hns h2 ho h3 _ pay ⟨h2,ho,by omega,hpb⟩ a b d e
theorem oK:∀ ds p,cL ds=some p→fQ (z7 p) (aZ ["_law_cell_here","_law_deeds","_law_wide","_law_pay","_law_k","_law_seed","_law_one","_law_few"] ds)
 | [.int c],p,h=>by
  cases h
  show fQ _ [.im (.int c),.un,.un,.un,.un,.un,.un,.un]
  have a0:=qQ (c:=c) (p:=9967) (show (0:Int)<4 by decide)
  have a1:=pS (c:=c) (p:=9967) (show (0:Int)<4 by decide)
  unfold fQ jD
  simp_arith only [aAZ (show (0:Int)<9967 by decide) (show (0:Int)<4 by decide),eT]
  have n1:2≤2+oH c 9967 4 / 3:=by omega
  have n2:2+oH c 9967 4 / 3≤3:=by omega
  generalize hn:2+oH c 9967 4 / 3=n at *
  refine ⟨⟨by decide,by decide⟩,⟨by omega,by omega⟩,by rw [jR];exact eI (by omega),fun y=>match y with
   | .int k=>.int (1+oH (c+7 * k) 9973 3)
   | _=>.non,fun y hy=>?_,?_⟩
  ·unfold bX at hy
   obtain ⟨k,hk,rfl⟩:=List.mem_map.mp hy
   simp_arith only [δc,List.map_cons,List.map_nil,aAZ (show (0:Int)<9973 by decide) (show (0:Int)<3 by decide)]
   exact ⟨Or.inl ⟨by decide,by decide⟩,trivial⟩
  ·have em:(bX 0 n.toNat).map (fun y=>match y with
     | .int k=>D.int (1+oH (c+7 * k) 9973 3)
     | _=>.non)=((List.range n.toNat).map fun (k:Nat)=>1+oH (c+7 * (0+(k:Int))) 9973 3).map D.int:=by
    simp [bX,Function.comp_def]
   rw [em]
   refine ⟨by decide,by decide,?_⟩
   by_cases e3:c % 3=0
   ·have e3':(c % 3 == 0)=true:=by simpa using e3
    simp_arith only [e3',List.length_cons,List.length_nil]
    exact ⟨by decide,sW c [2,2] (by decide) (by decide) (by decide) fun _=>rfl⟩
   ·have e3':(c % 3 == 0)=false:=by simpa using e3
    simp_arith only [e3']
    have hl:((List.range n.toNat).map fun (k:Nat)=>1+oH (c+7 * (0+(k:Int))) 9973 3).length=n.toNat:=by simp
    refine sW c _ (by omega) (by omega) (okD (by omega) fun x hx=>?_) fun z=>absurd z e3
    obtain ⟨k,hk,rfl⟩:=List.mem_map.mp hx
    have:=qQ (c:=c+7 * (0+(k:Int))) (p:=9973) (show (0:Int)<3 by decide)
    have:=pS (c:=c+7 * (0+(k:Int))) (p:=9973) (show (0:Int)<3 by decide)
    omega
abbrev aDM (o:Out):DEX:={ nx:=fun _=>o.ret .non,rt:=o.ret,xc:=o.exc }
theorem xK {w:Str} (h:∀ i∈wH,d7 i≠w):j6 w=none:=by
 unfold j6
 rw [List.find?_eq_none]
 intro i hi
 simpa using h i hi
theorem jF {i:Int} (h : -9≤i∧i≤9):i.natAbs.log2<1920:=by
 have h1:i.natAbs≤9:=by omega
 have h2:i.natAbs.log2≤i.natAbs:=Nat.log2_le_self _
 omega
theorem o8 (a b:Str):gY (.str a) (.str b)=some (a == b):=by unfold gY;rfl
theorem uO:∀ ds o,eD ds=some o→iP (aDM o) (aZ ["word","number"] ds)
 | [.str w],o,h=>by
  cases h
  show iP _ [.im (.str w),.un]
  simp_arith! only [iP,i8,lI,lM,jO]
  refine ⟨by decide,fun j δ=>∃ a,δ=[.im (.str w),a]∧∀ i:Nat,i<j→d7 (-9+(i:Int))≠w,⟨_,rfl,fun i hi=>by omega⟩,?_,?_⟩
  ·rintro j x δ ed ⟨a,rfl,hn⟩
   unfold bX at ed
   obtain ⟨hj,rfl⟩:=d6 ed
   have hj':j<19:=by simpa using hj
   rw [List.getElem_range]
   have h9 : -9≤(-9:Int)+(j:Int)∧(-9:Int)+(j:Int)≤9:=by omega
   simp_arith! only [qH,o8]
   refine ⟨jF h9,by simp [g6],?_⟩
   by_cases e:d7 (-9+(j:Int))=w
   ·have e1:(d7 (-9+(j:Int)) == w)=true:=by simpa using e
    have e2:=(jV _ (fS.mpr h9)).1
    rw [e] at e2
    show if (d7 (-9+(j:Int)) == w)=true then _ else _
    rw [e1,if_pos rfl,e2]
    rfl
   ·have e1:(d7 (-9+(j:Int)) == w)=false:=by simpa using e
    show if (d7 (-9+(j:Int)) == w)=true then _ else _
    rw [e1,if_neg (by simp)]
    refine ⟨_,rfl,fun i hi=>?_⟩
    by_cases hij:i=j
    ·rw [hij];exact e
    ·exact hn i (by omega)
  ·rintro δ ⟨a,rfl,hn⟩
   have hl:(bX (-9) (9+1 - -9).toNat).length=19:=by rw [jR];rfl
   rw [hl] at hn
   have:j6 w=none:=xK fun i hi=>by
    have hb:=fS.mp hi
    have:=hn (i+9).toNat (by omega)
    rw [show (-9:Int)+((i+9).toNat:Int)=i by omega] at this
    exact this
   simp_arith! only [i8,lR,List.length_cons,List.length_nil,this]
   exact ⟨by decide,rfl⟩
theorem oD {w:Str} (h:j6 w=none):∀ {ws:List Str},w∈ws→b9 ws=none
 | v::r,hm=>by
  unfold b9
  rcases List.mem_cons.mp hm with z | z
  ·rw [← z,h]
  ·rw [oD h z]
   cases j6 v <;> rfl
theorem oG {w:Str}{i:Int} (h:j6 w=some i):∀ {ws:List Str}{l:List Int},b9 ws=some l→b9 (ws++[w])=some (l++[i])
 | [],l,e=>by
  cases e
  simp [b9,h]
 | v::r,l,e=>by
  unfold b9 at e
  split at e
  ·rename_i a m e1 e2
   cases e
   rw [List.cons_append,b9,e1,oG h e2]
   rfl
  ·cases e
theorem aCz (w:Str):eD [.str w]=some (oE ((j6 w).map D.int)):=rfl
theorem u3 {ws:List Str} (h:ws.length≤3000):bM [.lst (ws.map D.str)]=some (oE ((b9 ws).map aN)):=by
 simp only [bM,m7,h,if_true]
theorem aAd {n:Nat} (h:n≤3000):n≤sizeLine:=by rw [sizeLine_eq];omega
theorem rE:∀ ds o,bM ds=some o→hG (aDM o) (aZ ["words"] ds)
 | [.lst ds],o,h=>by
  simp only [bM] at h
  split at h
  ·rename_i ws e
   split at h
   ·rename_i hl
    cases h
    rw [pI e]
    clear e
    show hG _ [.im (.lst (ws.map D.str))]
    simp_arith! only [hG,aA2,mL,qB,gFX,vG,qT,List.length_map]
    refine ⟨aAd hl,fun i ys=>∃ l,b9 (ws.take i)=some l∧ys=l.map D.int,⟨[],rfl,rfl⟩,?_,?_⟩
    ·rintro i d ys ed ⟨l,el,rfl⟩
     obtain ⟨hi,rfl⟩:=d6 ed
     have tk:ws.take (i+1)=ws.take i++[ws[i]]:=by rw [List.take_succ,List.getElem?_eq_getElem hi];rfl
     simp_arith! only [δc,List.map_cons,List.map_nil,jL,aCz]
     cases en:j6 ws[i] with
     | none=>
      refine ⟨fun c hc=>?_,fun d hd=>hd.elim⟩
      rw [oD en (List.getElem_mem hi)]
      exact hc
     | some n=>
      refine ⟨fun c hc=>hc.elim,fun d hd=>⟨l++[n],by rw [tk];exact oG en el,?_⟩⟩
      have hd':d = .int n:=hd
      rw [hd',List.map_append]
      rfl
    ·rintro ys ⟨l,el,rfl⟩
     rw [List.take_length] at el
     rw [el]
     rfl
   ·cases h
  ·cases h
theorem mG:PySem.Str.ofString ","=sE:=by decide +kernel
theorem qO:PySem.Str.ofString " "=jU:=by decide +kernel
theorem pL:PySem.Str.ofString ":"=lE:=by decide +kernel
theorem uC (sep:Str) (ws:List Str):dP.join sep ws=Str.join sep ws:=PySem.StrLaws.glued_eq_join sep ws
def aAo:D→D
 | .int i=>.str (d7 i)
 | _=>.non
theorem uZ (r:List Int):j7 ((r.map D.int).map aAo)=some (r.map d7):=by
 have e:(r.map D.int).map aAo=(r.map d7).map D.str:=by rw [List.map_map,List.map_map];rfl
 rw [e,m7]
theorem aEs {r:List Int} (hl:r.length≤3) (h:∀ i∈r, -9≤i∧i≤9):bP [aN r]=some (.str (eR r)):=by
 simp only [bP,mP]
 exact if_pos ⟨hl,h⟩
theorem sC {r:List Int} (hl:r.length≤3) (h:∀ i∈r, -9≤i∧i≤9):JoinOk sE (r.map d7)=true:=
 sT (B:=2) (fun w hw=>by
  obtain ⟨i,hi,rfl⟩:=List.mem_map.mp hw
  exact kP (h i hi)) (by
  have e:sE.length=1:=rfl
  rw [List.length_map,e]
  omega)
theorem oJ:∀ ds d,bP ds=some d→fP (lO d) (aZ ["pays"] ds)
 | [x],d,h=>by
  simp only [bP] at h
  split at h
  ·rename_i r e
   split at h
   ·rename_i hh
    cases h
    rw [uI e]
    show fP _ [.im (aN r)]
    simp_arith! only [fP,qU,eT,List.length_map,mG]
    refine ⟨eI (by omega),aAo,fun d hd=>?_,?_⟩
    ·obtain ⟨i,hi,rfl⟩:=List.mem_map.mp hd
     simp_arith! only [δc,List.map_cons,List.map_nil,qH]
     exact ⟨jF (hh.2 i hi),rfl⟩
    ·rw [uZ]
     refine ⟨sC hh.1 hh.2,?_⟩
     rw [uC]
     rfl
   ·cases h
  ·cases h
theorem xR:∀ ds d,fY ds=some d→k7 (lO d) (aZ ["meeting","deeds","pay"] ds)
 | [m],d,h=>by
  obtain ⟨ns,pay,rfl,M,h1⟩:=sU (show kL m _=some d from h)
  cases h1
  show k7 _ [.im (dZ ns pay),.un,.un]
  have m:=cR M.ok
  have rl:=iB M.ok
  have ml:=M.many
  have h9:∀ i∈ns, -9≤i∧i≤9:=fun i hi=>by have:=m.2 i hi;omega
  have a0:m9 [aN ns,.tup (pay.map aN)] 0=some (aN ns):=rfl
  have a1:m9 [aN ns,.tup (pay.map aN)] 1=some (.tup (pay.map aN)):=rfl
  simp_arith! only [k7,nX,n0,a0,eT,List.length_map]
  refine ⟨eI (by omega),aAo,fun d hd=>?_,?_⟩
  ·obtain ⟨i,hi,rfl⟩:=List.mem_map.mp hd
   simp_arith! only [δc,List.map_cons,List.map_nil,qH]
   exact ⟨jF (h9 i hi),rfl⟩
  ·simp_arith! only [a1,List.length_map]
   refine ⟨eI (by omega),fun d=>match vB d with
    | some r=>.str (eR r)
    | none=>.non,fun d hd=>?_,?_⟩
   ·obtain ⟨r,hr,rfl⟩:=List.mem_map.mp hd
    have h2:=M.rows r hr
    simp_arith! only [δc,List.map_cons,List.map_nil,aEs (by omega) h2.2,mP]
   ·have e1:(ns.map D.int).map aAo=(ns.map d7).map D.str:=by rw [List.map_map,List.map_map];rfl
    have e2:(pay.map aN).map (fun d=>match vB d with
     | some r=>D.str (eR r)
     | none=>.non)=(pay.map eR).map D.str:=by
     rw [List.map_map,List.map_map]
     refine List.map_congr_left fun r _=>?_
     simp only [Function.comp,mP]
    have e3:(ns.map d7).map D.str++[D.str lE]++(pay.map eR).map D.str=(eE ns pay).map D.str:=by
     unfold eE
     simp
    simp_arith! only [qU,e1,e2,qO,pL,List.length_map,List.length_cons,List.length_nil,List.length_append]
    refine ⟨kT (by omega) |> Nat.le_of_lt,by rw [sizeLine_eq];omega,by rw [sizeLine_eq];omega,?_⟩
    rw [e3,m7]
    obtain ⟨w1,w2⟩:=rX M
    refine ⟨sT w1 ?_,?_⟩
    ·have e:jU.length=1:=rfl
     rw [e]
     omega
    ·rw [uC]
     rfl
theorem k6 (a b c:Str):a++b++c=a++(b++c):=xY (by simp [cp,Str.cps_append])
theorem pM (a b:Str):(a++b).length=a.length+b.length:=by simp [Str.length,Str.cps_append]
theorem aBp (sep c:Str) (r:List Str):∀ (ws:List Str) (acc:Str),(ws.foldl (fun t w=>t++w++sep) acc)++Str.join sep (c::r)=acc++Str.join sep (ws++c::r)
 | [],acc=>rfl
 | w::ws,acc=>by
  rw [List.foldl_cons,aBp sep c r ws]
  obtain ⟨p,q,e⟩:∃ p q,ws++c::r=p::q:=by
   cases ws with
   | nil=>exact ⟨c,r,rfl⟩
   | cons a l=>exact ⟨a,l++c::r,rfl⟩
  rw [List.cons_append,e]
  show acc++w++sep++Str.join sep (p::q)=acc++(w++sep++Str.join sep (p::q))
  rw [k6,k6,k6]
theorem aBv (sep:Str):∀ (r:List Str) (c:Str),r.foldl (fun t p=>t++sep++p) c=Str.join sep (c::r)
 | [],c=>rfl
 | p::r,c=>by
  rw [List.foldl_cons,aBv sep r,PySem.StrLaws.join_shift]
  rfl
theorem z5 (sep a y:Str) (r:List Str):Str.join sep ((a++y)::r)=a++Str.join sep (y::r):=by
 cases r with
 | nil=>rfl
 | cons p r=>
  show a++y++sep++Str.join sep (p::r)=a++(y++sep++Str.join sep (p::r))
  rw [k6,k6,k6]
abbrev stA (t:Str) (n:Int):Str:=t++d7 n++jU
abbrev stB (t:Str) (r:List Int):Str:=t++jU++eR r
theorem aAH:PySem.Str.ofString ""=(⟨#[]⟩:Str):=by decide +kernel
theorem aAi (ns:List Int) (pay:List (List Int)):pay.foldl stB (ns.foldl stA (⟨#[]⟩:Str)++lE)=j0 ns pay:=by
 have e1:ns.foldl stA (⟨#[]⟩:Str)=(ns.map d7).foldl (fun t w=>t++w++jU) ⟨#[]⟩:=by rw [List.foldl_map]
 have e2:∀ c,pay.foldl stB c=(pay.map eR).foldl (fun t p=>t++jU++p) c:=fun c=>by rw [List.foldl_map]
 rw [e2,aBv,z5,e1,aBp]
 unfold j0 eE
 exact xY (by simp [cp,Str.cps_append])
theorem sK {ns:List Int} (h:∀ i∈ns, -9≤i∧i≤9) (k:Nat):((ns.take k).foldl stA (⟨#[]⟩:Str)).length≤3 * k:=by
 induction k with
 | zero=>simp [Str.length]
 | succ k ih=>
  rw [List.take_succ]
  cases e:ns[k]? with
  | none=>simp;omega
  | some n=>
   have hn:=kP (h n (List.mem_of_getElem? e))
   rw [Option.toList_some,List.foldl_append,List.foldl_cons,List.foldl_nil]
   show (_++d7 n++jU).length≤_
   rw [pM,pM]
   have:jU.length=1:=rfl
   omega
theorem zP {pay:List (List Int)}{c:Str} (h:∀ r∈pay,(eR r).length≤9) (k:Nat):((pay.take k).foldl stB c).length≤c.length+10 * k:=by
 induction k with
 | zero=>simp
 | succ k ih=>
  rw [List.take_succ]
  cases e:pay[k]? with
  | none=>simp;omega
  | some r=>
   have hn:=h r (List.mem_of_getElem? e)
   rw [Option.toList_some,List.foldl_append,List.foldl_cons,List.foldl_nil]
   show (_++jU++eR r).length≤_
   rw [pM,pM]
   have:jU.length=1:=rfl
   omega
theorem uV:∀ ds d,dJ ds=some d→iT (lO d) (aZ ["_law_meeting_here","_law_text_here","_law_many","_law_pay"] ds)
 | [m],d,h=>by
  obtain ⟨ns,pay,rfl,M,h1⟩:=sU (show kL m _=some d from h)
  cases h1
  show iT _ [.im (dZ ns pay),.un,.un,.un]
  have m:=cR M.ok
  have rl:=iB M.ok
  have ml:=M.many
  have h9:∀ i∈ns, -9≤i∧i≤9:=fun i hi=>by have:=m.2 i hi;omega
  have p9:∀ r∈pay,(eR r).length≤9:=fun r hr=>sS (by have:=(M.rows r hr).1;omega) (M.rows r hr).2
  have a0:m9 [aN ns,.tup (pay.map aN)] 0=some (aN ns):=rfl
  have a1:m9 [aN ns,.tup (pay.map aN)] 1=some (.tup (pay.map aN)):=rfl
  have c1:jU.length=1:=rfl
  have c2:lE.length=1:=rfl
  simp_arith! only [iT,lG,lK,lL,a0,a1,jO,aAH,qO,pL,mG,jE,qH]
  refine ⟨fun j δ=>∃ a2,δ=[.im (dZ ns pay),.im (.str ((ns.take j).foldl stA (⟨#[]⟩:Str))),a2,.un],⟨_,rfl⟩,?_,?_⟩
  ·rintro j x δ ed ⟨a2,rfl⟩
   obtain ⟨hj,rfl⟩:=d6 ed
   have hi:=h9 _ (List.getElem_mem hj)
   have hl:=sK h9 j
   have hn:=kP hi
   have tk:(ns.take (j+1)).foldl stA (⟨#[]⟩:Str)=stA ((ns.take j).foldl stA (⟨#[]⟩:Str)) ns[j]:=by
    rw [List.take_succ,List.getElem?_eq_getElem hj,Option.toList_some,List.foldl_append]
    rfl
   simp_arith! only []
   refine ⟨jF hi,?_,?_,?_⟩
   ·show _+(d7 ns[j]).length≤sizeLine
    rw [sizeLine_eq]
    omega
   ·show (_++d7 ns[j]).length+jU.length≤sizeLine
    rw [pM,sizeLine_eq]
    omega
   ·refine ⟨.im (.int ns[j]),?_⟩
    rw [tk]
    rfl
  ·rintro δ ⟨a2,rfl⟩
   rw [List.length_map,List.take_length]
   have hl:=sK h9 ns.length
   rw [List.take_length] at hl
   simp_arith! only [a1]
   refine ⟨by rw [sizeLine_eq];omega,?_⟩
   generalize hT:ns.foldl stA (⟨#[]⟩:Str)++lE=T
   have hTl:T.length≤10:=by rw [← hT,pM];omega
   refine ⟨fun j δ=>∃ a3,δ=[.im (dZ ns pay),.im (.str ((pay.take j).foldl stB T)),a2,a3],⟨_,rfl⟩,?_,?_⟩
   ·rintro j x δ ed ⟨a3,rfl⟩
    obtain ⟨hj,rfl⟩:=d6 ed
    have hr:=M.rows _ (List.getElem_mem hj)
    have hl:=zP (c:=T) p9 j
    have hp:=p9 _ (List.getElem_mem hj)
    have tk:(pay.take (j+1)).foldl stB T=stB ((pay.take j).foldl stB T) pay[j]:=by
     rw [List.take_succ,List.getElem?_eq_getElem hj,Option.toList_some,List.foldl_append]
     rfl
    simp_arith! only [qU,eT,List.length_map]
    refine ⟨by rw [sizeLine_eq];omega,eI (by omega),aAo,fun d hd=>?_,?_⟩
    ·obtain ⟨i,hi,rfl⟩:=List.mem_map.mp hd
     simp_arith! only [δc,List.map_cons,List.map_nil]
     exact ⟨jF (hr.2 i hi),rfl⟩
    ·rw [uZ]
     refine ⟨sC (by omega) hr.2,?_⟩
     rw [uC]
     refine ⟨?_,.im (aN pay[j]),?_⟩
     ·show (_++jU).length+(eR pay[j]).length≤sizeLine
      rw [pM,sizeLine_eq]
      omega
     ·rw [tk]
      rfl
   ·rintro δ ⟨a3,rfl⟩
    rw [List.length_map,List.take_length,← hT,aAi]
    simp_arith! only []
theorem mW (sep:Str):∀ (ts:List Str) (w:Str),w∈ts→w.length≤(Str.join sep ts).length
 | [x],w,h=>by rw [List.mem_singleton.mp h];exact Nat.le_refl _
 | x::y::r,w,h=>by
  show w.length≤(x++sep++Str.join sep (y::r)).length
  have e:∀ a b:Str,(a++b).length=a.length+b.length:=fun a b=>by simp [Str.length,Str.cps_append]
  rw [e,e]
  rcases List.mem_cons.mp h with z | z
  ·rw [z];omega
  ·have:=mW sep (y::r) w z
   omega
theorem sJ (c:Str):∀ ws:List Str,qV (.str c) (ws.map D.str)=some (ws.map fun w=>w == c)
 | []=>rfl
 | w::ws=>by
  rw [List.map_cons,qV,o8,sJ c ws]
  rfl
theorem aAq (c:Str) (ws:List Str):(ws.map fun w=>w == c).any id=decide (c∈ws):=by
 rw [Bool.eq_iff_iff]
 simp [List.any_map]
theorem qE {c:Str}:∀ {ws:List Str},c∈ws→mC (ws.map fun w=>w == c)=some (ws.idxOf c)
 | w::ws,h=>by
  rw [List.map_cons,List.idxOf_cons]
  cases e:(w == c) with
  | true=>rfl
  | false=>
   have hm:c∈ws:=by
    rcases List.mem_cons.mp h with z | z
    ·rw [z] at e;simp at e
    ·exact z
   show (mC (ws.map fun w=>w == c)).map (· + 1)=_
   rw [qE hm]
   rfl
theorem sV:∀ ws:List Str,iM (ws.map D.str)≤32
 | []=>by simp [iM]
 | w::ws=>by
  have:=sV ws
  rw [List.map_cons,iM]
  simp only [g6]
  omega
theorem aAU {t w:Str} (h:w∈dP.split t jU):w.length≤t.length:=by
 have h1:=mW jU (dP.split t jU) w h
 rw [PySem.StrLaws.join_split] at h1
 exact h1
theorem tD (x:Str) (c:Nat):(dP.split x (gQ c)).length≤x.length+2:=by
 unfold dP.split
 split
 ·simp
 ·split
  ·simp
  ·exact nB
theorem n8 {w:Str} (h:b9 (dP.split w sE)=none):∀ {ws:List Str},w∈ws→fH ws=none
 | v::r,hm=>by
  unfold fH
  rcases List.mem_cons.mp hm with z | z
  ·rw [← z,h]
  ·rw [n8 h z]
   cases b9 (dP.split v sE) <;> rfl
theorem nW {w:Str}{i:List Int} (h:b9 (dP.split w sE)=some i):∀ {ws:List Str}{l:List (List Int)},fH ws=some l→fH (ws++[w])=some (l++[i])
 | [],l,e=>by
  cases e
  simp [fH,h]
 | v::r,l,e=>by
  unfold fH at e
  split at e
  ·rename_i a m e1 e2
   cases e
   rw [List.cons_append,fH,e1,nW h e2]
   rfl
  ·cases e
theorem aA8 (l:List D) (n:Nat) (h:n≤l.length):rG l none (some (n:Int))=l.take n:=by
 unfold rG
 rw [HT.sIx_none,HT.sIx_nat,Nat.min_eq_left h,List.drop_zero]
 rfl
theorem aAv (l:List D) (n:Nat) (h:n≤l.length):rG l (some (n:Int)) none=l.drop n:=by
 unfold rG
 rw [HT.sIx_none,HT.sIx_nat,Nat.min_eq_left h]
 exact List.take_of_length_le (by rw [List.length_drop];exact Nat.le_refl _)
theorem wK (d:D):cD [d]=some (.bl (bG d)):=rfl
theorem aCl:∀ ds o,i9 ds=some o→tI (aDM o) (aZ ["text","words","middle","deeds","pay"] ds)
 | [.str t],o,h=>by
  simp only [i9] at h
  split at h
  ·rename_i hl
   cases h
   show tI _ [.im (.str t),.un,.un,.un,.un]
   have tz:t.length≤sizeLine:=by rw [sizeLine_eq];omega
   have pz:(Builtin.Str.partsBetween t (Builtin.Str.occurrences t jU 0 t.length (t.length+1)) jU.length).length≤t.length+2:=nB
   have pz':(Builtin.Str.partsBetween t (Builtin.Str.occurrences t jU 0 t.length (t.length+1)) jU.length).length≤sizeLine:=by rw [sizeLine_eq];omega
   have y0:(jU.length == 0)=false:=rfl
   have ws0:(dP.split t jU).length≤t.length+2:=tD t 32
   simp_arith! only [tI,vR,wN,vL,vM,vN,u0,lI,lM,aCF,pB,sR,qO,pL,mG,tz,pz',y0,true_and,tR,aA5,sV,sJ,aAq,wZ]
   generalize hW:dP.split t jU=W at *
   have rd:gX t=if lE∈W then match b9 (W.take (W.idxOf lE)),fH (W.drop (W.idxOf lE+1)) with
     | some ns,some pay=>if bG (dZ ns pay)=true then some (ns,pay) else none
     | _,_=>none
    else none:=by
    unfold gX
    rw [hW]
    rfl
   by_cases hm:lE∈W
   ·rw [if_pos hm] at rd
    have hk:=List.idxOf_lt_length_of_mem hm
    have c1:rG (W.map D.str) none (some (W.idxOf lE:Int))=(W.take (W.idxOf lE)).map D.str:=by
     rw [aA8 _ _ (by rw [List.length_map];omega),List.map_take]
    have c2:rG (W.map D.str) (some ((W.idxOf lE:Int)+1)) none=(W.drop (W.idxOf lE+1)).map D.str:=by
     have:=aAv (W.map D.str) (W.idxOf lE+1) (by rw [List.length_map];omega)
     rw [Int.natCast_add] at this
     rw [← List.map_drop] at this
     exact this
    have f1:bM [.lst ((W.take (W.idxOf lE)).map D.str)]=some (oE ((b9 (W.take (W.idxOf lE))).map aN)):=u3 (by rw [List.length_take];omega)
    simp_arith! only [hm,decide_true,Bool.not_true,qE hm,aAb,c1,jL,f1,mL,qB,gFX,vG,qT]
    cases en:b9 (W.take (W.idxOf lE)) with
    | none=>
     refine ⟨fun c hc=>?_,fun d hd=>hd.elim⟩
     rw [rd,en]
     exact hc
    | some ns=>
     refine ⟨fun c hc=>hc.elim,fun d hd=>?_⟩
     have hd':d=aN ns:=hd
     subst hd'
     simp_arith! only [c2,List.length_map]
     refine ⟨by rw [List.length_drop,sizeLine_eq];omega,fun i ys=>∃ l,fH ((W.drop (W.idxOf lE+1)).take i)=some l∧ys=l.map aN,⟨[],rfl,rfl⟩,?_,?_⟩
     ·rintro i d ys ed ⟨l,el,rfl⟩
      obtain ⟨hi,rfl⟩:=d6 ed
      generalize hv:(W.drop (W.idxOf lE+1))[i]=v
      have hvm:v∈W:=by rw [← hv];exact List.mem_of_mem_drop (List.getElem_mem hi)
      have hvl:v.length≤t.length:=aAU (by rw [hW];exact hvm)
      have tk:(W.drop (W.idxOf lE+1)).take (i+1)=(W.drop (W.idxOf lE+1)).take i++[v]:=by rw [List.take_succ,List.getElem?_eq_getElem hi,hv];rfl
      have vz:v.length≤sizeLine:=by rw [sizeLine_eq];omega
      have qz:(Builtin.Str.partsBetween v (Builtin.Str.occurrences v sE 0 v.length (v.length+1)) sE.length).length≤v.length+2:=nB
      have qz':(Builtin.Str.partsBetween v (Builtin.Str.occurrences v sE 0 v.length (v.length+1)) sE.length).length≤sizeLine:=by rw [sizeLine_eq];omega
      have y1:(sE.length == 0)=false:=rfl
      have vl:(dP.split v sE).length≤v.length+2:=tD v 44
      have f2:bM [.lst ((dP.split v sE).map D.str)]=some (oE ((b9 (dP.split v sE)).map aN)):=u3 (by omega)
      simp_arith! only [δc,List.map_cons,List.map_nil,pB,mG,jL,vz,qz',y1,true_and,f2]
      cases ep:b9 (dP.split v sE) with
      | none=>
       refine ⟨fun c hc=>?_,fun d hd=>hd.elim⟩
       rw [rd,en,n8 ep (by rw [← hv];exact List.getElem_mem hi)]
       exact hc
      | some r=>
       refine ⟨fun c hc=>hc.elim,fun d hd=>⟨l++[r],by rw [tk];exact nW ep el,?_⟩⟩
       have hd':d=aN r:=hd
       rw [hd',List.map_append]
       rfl
     ·rintro ys ⟨l,el,rfl⟩
      rw [List.take_of_length_le (Nat.le_refl _)] at el
      simp_arith! only [wK,List.length_cons,List.length_nil]
      refine ⟨by decide,?_⟩
      have rd':gX t=if bG (dZ ns l)=true then some (ns,l) else none:=by rw [rd,en,el]
      cases hi:bG (.tup [aN ns,.tup (l.map aN)]) with
      | true=>
       have hi':bG (dZ ns l)=true:=hi
       rw [hi',if_pos rfl] at rd'
       simp_arith! only [Bool.not_true,List.length_cons,List.length_nil,rd']
       exact ⟨by decide,rfl⟩
      | false=>
       have hi':bG (dZ ns l)=false:=hi
       rw [hi',if_neg (by simp)] at rd'
       simp_arith! only [Bool.not_false,lR,List.length_cons,List.length_nil,rd']
       exact ⟨by decide,rfl⟩
   ·rw [if_neg hm] at rd
    simp_arith! only [hm,decide_false,Bool.not_false,lR,List.length_cons,List.length_nil,rd]
    exact ⟨by decide,rfl⟩
  ·cases h
theorem aEm {t:Str} (h:t.length≤2000):i9 [.str t]=some (oE ((gX t).map mD)):=if_pos h
theorem wL {t:Str} (h:t.length≤2000):cT [.str t]=some (((gX t).map mD).getD .non):=if_pos h
theorem tL:∀ ds d,cT ds=some d→iR (lO d) (aZ ["_law_text_here","_law_found","e"] ds)
 | [.str t],d,h=>by
  simp only [cT] at h
  split at h
  ·rename_i hl
   cases h
   show iR _ [.im (.str t),.un,.un]
   simp_arith! only [iR,lF,xP,sR,jL,aEm hl]
   cases e:gX t with
   | none=>
    refine ⟨fun c hc=>⟨hc,?_⟩,fun y hy=>hy.elim⟩
    simp_arith! only [List.replicate,DEnds.off]
    rfl
   | some m=>
    refine ⟨fun c hc=>hc.elim,fun y hy=>?_⟩
    have hy':y=mD m:=hy
    subst hy'
    rfl
  ·cases h
def aEr:List Str:=[PySem.Str.ofString "",PySem.Str.ofString ":",PySem.Str.ofString "1 1",PySem.Str.ofString "1 1 :",PySem.Str.ofString "1 1 0,0",PySem.Str.ofString "1 1 : 0,0 ",PySem.Str.ofString " 1 1 : 0,0",PySem.Str.ofString "1 1 : 0,0 0,0",PySem.Str.ofString "1 1 : 0",PySem.Str.ofString "1 1 : -0,0"]
theorem aBy:∀ s∈aEr,gX s=none∧s.length≤2000:=by decide +kernel
theorem z6:gX (PySem.Str.ofString "1 1 : 0,-9")=some ([1,1],[[0, -9]]):=by decide +kernel
theorem aAW:(PySem.Str.ofString "1 1 : 0,-9").length≤2000:=by decide +kernel
section
variable {ns:List Int}{pay:List (List Int)}{t:Str}
theorem wJ (M:eQ ns pay):dJ [dZ ns pay]=some (.str (j0 ns pay)):=r8 M
theorem aBD (M:eQ ns pay):fY [dZ ns pay]=some (.str (j0 ns pay)):=r8 M
theorem aAJ {m:List Int×List (List Int)} (h:t.length≤2000) (e:gX t=some m):jJ [.str t]=some fun d=>d=mD m:=by
 simp only [jJ,h,if_true,e]
theorem aCj (h:t.length≤400) (c:Int):cI [.str t,.int c]=some fun d=>∃ t',d = .str t'∧t'.length≤2000:=if_pos h
theorem pF {k:Nat}:∀ {l:List D},(∀ x∈l,g6 x≤k)→iM l≤k
 | [],_=>by unfold iM;omega
 | x::l,h=>by
  unfold iM
  have h1:=h x List.mem_cons_self
  have h2:=pF (l:=l) fun y hy=>h y (List.mem_cons_of_mem _ hy)
  omega
theorem vP (r:List Int):g6 (aN r)≤1:=by
 have:iM (r.map D.int)≤0:=pF fun x hx=>by
  obtain ⟨i,_,rfl⟩:=List.mem_map.mp hx
  simp [g6]
 show g6 (.tup (r.map D.int))≤1
 unfold g6
 omega
theorem u9 (ns:List Int) (pay:List (List Int)):g6 (dZ ns pay)≤32:=by
 have h1:=vP ns
 have h2:iM (pay.map aN)≤1:=pF fun x hx=>by
  obtain ⟨r,_,rfl⟩:=List.mem_map.mp hx
  exact vP r
 show g6 (.tup [aN ns,.tup (pay.map aN)])≤32
 have h3:g6 (.tup (pay.map aN))≤2:=by unfold g6;omega
 unfold g6 iM iM iM
 omega
theorem aBQ {xs:List D}{c:Int}{De:DEnds}{a2 a3 a4 a5 a6:Sl} (hn:∀ a1 a2 a3 a4 a5 a6,De.nx [.im (.lst xs),a1,a2,a3,a4,a5,a6]):qA De [.im (.lst xs),.im (.int c),a2,a3,a4,a5,a6]:=by
 simp_arith! only [qA,cL]
 rintro m ⟨ns,pay,rfl,M,_⟩
 have tl:=zX M
 have fr:=aAJ (by omega) (aAa M)
 simp_arith! only [wJ M,aBD M,fr,o8,beq_self_eq_true,Bool.not_true]
 refine ⟨by simp [g6],?_⟩
 rintro d rfl
 simp_arith! only [mD,kK,Bool.not_true]
 refine ⟨u9 ns pay,⟨by decide,by decide⟩,?_⟩
 simp only [aCj tl]
 rintro d ⟨t',rfl,hl⟩
 simp_arith! only [wL hl,mZ]
 cases e:gX t' with
 | none=>
  simp_arith! only [Option.map_none,Option.getD_none,vC,Bool.not_true]
  exact hn _ _ _ _ _ _
 | some m=>
  obtain ⟨ns',pay'⟩:=m
  obtain ⟨M',et⟩:=z8 e
  have hi:=sF M'
  simp_arith! only [Option.map_some,Option.getD_some,mD,vC,Bool.not_false,wK,hi,Bool.not_true,wJ M',et,o8,beq_self_eq_true]
  exact ⟨by simp [g6],hn _ _ _ _ _ _⟩
end
theorem aDm:∀ ds p,oA ds=some p→yW (z7 p) (aZ ["_law_script","_law_cell_here","_law_meeting_here","_law_text_here","_law_bad","_law_found","_law_some"] ds)
 | [.lst xs],p,h=>by
  have h':(match jC xs with
   | some _=>some (fun d=>d=D.bl true)
   | none=>none)=some p:=h
  clear h
  split at h'
  ·rename_i ns0 e
   cases h'
   have ex:=mF e
   show yW _ [.im (.lst xs),.un,.un,.un,.un,.un,.un]
   unfold yW
   simp_arith! only [jO,aAb]
   refine ⟨fun i δ=>∃ (a1 a2 a3 a4 a5 a6:Sl),δ=[.im (.lst xs),a1,a2,a3,a4,a5,a6],⟨_,_,_,_,_,_,rfl⟩,?_,?_⟩
   ·rintro i x δ ed ⟨a1,a2,a3,a4,a5,a6,rfl⟩
    have hm:x∈xs:=List.mem_of_mem_drop (List.mem_of_mem_take (List.mem_of_getElem? ed))
    rw [ex] at hm
    obtain ⟨c,_,rfl⟩:=List.mem_map.mp hm
    simp_arith! only []
    exact aBQ fun _ _ _ _ _ _=>⟨_,_,_,_,_,_,rfl⟩
   ·rintro δ ⟨a1,a2,a3,a4,a5,a6,rfl⟩
    simp_arith! only [y6,yJ,jO,List.length_cons,List.length_nil]
    refine ⟨by decide,by decide,by decide,?_⟩
    refine ⟨fun i δ=>∃ (a1 a2 a3 a4 a5 a6:Sl),δ=[.im (.lst xs),a1,a2,a3,a4,a5,a6],⟨_,_,_,_,_,_,rfl⟩,?_,?_⟩
    ·rintro i x δ ed ⟨a1,a2,a3,a4,a5,a6,rfl⟩
     have hm:x∈aEr.map D.str:=List.mem_of_getElem? ed
     obtain ⟨s,hs,rfl⟩:=List.mem_map.mp hm
     obtain ⟨b1,b2⟩:=aBy s hs
     simp_arith! only [wL b2,b1,mZ,Option.map_none,Option.getD_none,vC,Bool.not_true]
     exact ⟨_,_,_,_,_,_,rfl⟩
    ·rintro δ ⟨a1,a2,a3,a4,a5,a6,rfl⟩
     have fr:=aAJ aAW z6
     simp_arith! only [yI,fr,List.length_cons,List.length_nil]
     rintro d rfl
     refine ⟨by decide,by decide,by decide,by decide,?_⟩
     have dm:g6 (mD ([1,1],[[0, -9]]))≤32:=u9 _ _
     refine ⟨dm,?_⟩
     have ee:gY (mD ([1,1],[[0, -9]])) (.tup [.tup [.int 1,.int 1],.tup [.tup [.int 0,.int (-9)]]])=some true:=kK _
     rw [ee]
  ·cases h'
theorem aCA {i:Int} (h0:0≤i) (h1:i<10):∃ c,m9 (PySem.Str.ofString "0129:,- +a").cps.toList i=some c:=by
 have hl:(PySem.Str.ofString "0129:,- +a").cps.toList.length=10:=by decide +kernel
 refine ⟨(PySem.Str.ofString "0129:,- +a").cps.toList[i.toNat]'(by omega),?_⟩
 have:=aCC (xs:=(PySem.Str.ofString "0129:,- +a").cps.toList) (j:=i.toNat) (List.getElem?_eq_getElem (by omega))
 rw [Int.toNat_of_nonneg h0] at this
 exact this
theorem aBM:(PySem.Str.ofString "0129:,- +a").length≤sizeLine:=by decide +kernel
theorem lZ (a b:Str):(a++b).length=a.length+b.length:=by simp [Str.length,Str.cps_append]
theorem pN:∀ ds p,cI ds=some p→gL (z7 p) (aZ ["_law_text_here","_law_cell_here","_law_at","_law_sign"] ds)
 | [.str t,.int c],p,h=>by
  simp only [cI] at h
  split at h
  ·rename_i hl
   cases h
   show gL _ [.im (.str t),.im (.int c),.un,.un]
   have tz:t.length≤sizeLine:=by rw [sizeLine_eq];omega
   have sl:∀ lo hi,(dP.slice t lo hi).length≤400:=fun lo hi=>Nat.le_trans (dP.slice_le t lo hi) hl
   obtain ⟨sg,es⟩:=aCA (i:=c / 512 % 10) (by omega) (by omega)
   have d1:aCo c 4:=⟨by decide,by decide⟩
   have d2:aCo c 512:=⟨by decide,by decide⟩
   have z1:(0:Int)<(t.length:Int)+1:=by omega
   have ks:(⟨#[sg]⟩:Str).length=1:=rfl
   simp_arith! only [gL,j1,j4,j8,jZ,yQ,aC4,tM,jE,d1,d2,tz,true_and,z1,aBM,show (0:Int)<10 by decide,show (0:Int)<4 by decide]
   refine ⟨sg,es,?_⟩
   have two:∀ a b,(dP.slice t none (some a)).length+(dP.slice t b none).length≤sizeLine∧(dP.slice t none (some a)++dP.slice t b none).length≤2000:=fun a b=>by
    have h1:=sl none (some a)
    have h2:=sl b none
    rw [sizeLine_eq,lZ]
    omega
   by_cases e0:c % 4=0
   ·have b0:(c % 4 == 0)=true:=by simpa using e0
    simp_arith! only [b0]
    exact ⟨by simp [g6],(two _ _).1,_,rfl,(two _ _).2⟩
   ·have b0:(c % 4 == 0)=false:=by simpa using e0
    simp_arith! only [b0]
    refine ⟨by simp [g6],?_⟩
    by_cases e1:c % 4=1
    ·have b1:(c % 4 == 1)=true:=by simpa using e1
     simp_arith! only [b1]
     have h1:=sl none (some (c / 4 % ((t.length:Int)+1)))
     have h2:=sl (some (c / 4 % ((t.length:Int)+1))) (some (c / 4 % ((t.length:Int)+1)+1))
     have h3:=sl (some (c / 4 % ((t.length:Int)+1))) none
     refine ⟨by simp [g6],by rw [sizeLine_eq];omega,by rw [sizeLine_eq,lZ];omega,_,rfl,by rw [lZ,lZ];omega⟩
    ·have b1:(c % 4 == 1)=false:=by simpa using e1
     simp_arith! only [b1]
     have h1:=sl none (some (c / 4 % ((t.length:Int)+1)))
     have h3:=sl (some (c / 4 % ((t.length:Int)+1)+c % 4-2)) none
     refine ⟨by simp [g6],by rw [sizeLine_eq,ks];omega,by rw [sizeLine_eq,lZ,ks];omega,_,rfl,by rw [lZ,lZ,ks];omega⟩
  ·cases h
theorem v1:∀ ds d,eG ds=some d→jN (lO d) (aZ ["thing"] ds)
 | [x],d,h=>by
  cases h
  show jN _ [.im x]
  cases x <;> simp [jN,dA ,dX,lP,iE,fR,bS,bN,aY,aF,bU,c0,eM,gC,gF,gT,aE,aI,cG,bE,eF,aU,dE,iX,g7,iO,lW,jS,cN,iA,cJ,jQ,fW,fA,i7,tZ,qZ,wW,fE,gY,g6,lN,dU,dN,dF,iG,hU,nY,qY,eN,gS,jP,kD,iJ,dY,dH,j9,kE,kN,uX,cZ,g0,l8,fO,kI,l0,l7,gW,lD,iD,fK,eW,fD,fF,l5,lY,l9,eq_self,if_true, ↓reduceIte,Bool.false_eq_true,if_false,List.getElem?_cons_zero,List.getElem?_cons_succ,List.set_cons_zero,List.set_cons_succ,oY]
 | [],d,h=>by cases h
 | _::_::_,d,h=>by cases h
theorem rO:∀ ds d,dO ds=some d→fU (lO d) (aZ ["thing","least","most"] ds)
 | [x,.int a,.int b],d,h=>by
  cases h
  show fU _ [.im x,.im (.int a),.im (.int b)]
  cases x with
  | int i=>
   simp [fU,dA ,dX,lP,iE,fR,bS,bN,aY,aF,bU,c0,eM,gC,gF,gT,aE,aI,cG,bE,eF,aU,dE,iX,g7,iO,lW,jS,cN,iA,cJ,jQ,fW,fA,i7,tZ,qZ,wW,fE,gY,g6,lN,dU,dN,dF,iG,hU,nY,qY,eN,gS,jP,kD,iJ,dY,dH,j9,kE,kN,uX,cZ,g0,l8,fO,kI,l0,l7,gW,lD,iD,fK,eW,fD,fF,l5,lY,l9,eq_self,if_true, ↓reduceIte,Bool.false_eq_true,if_false,List.getElem?_cons_zero,List.getElem?_cons_succ,List.set_cons_zero,List.set_cons_succ,eG,oY,bZ]
   split <;> simp_all <;> omega
  | _=>simp [fU,dA ,dX,lP,iE,fR,bS,bN,aY,aF,bU,c0,eM,gC,gF,gT,aE,aI,cG,bE,eF,aU,dE,iX,g7,iO,lW,jS,cN,iA,cJ,jQ,fW,fA,i7,tZ,qZ,wW,fE,gY,g6,lN,dU,dN,dF,iG,hU,nY,qY,eN,gS,jP,kD,iJ,dY,dH,j9,kE,kN,uX,cZ,g0,l8,fO,kI,l0,l7,gW,lD,iD,fK,eW,fD,fF,l5,lY,l9,eq_self,if_true, ↓reduceIte,Bool.false_eq_true,if_false,List.getElem?_cons_zero,List.getElem?_cons_succ,List.set_cons_zero,List.set_cons_succ,eG,oY,bZ]
theorem pO:∀ ds d,aH ds=some d→eS (lO d) (aZ ["thing","fewest","most"] ds)
 | [x,.int a,.int b],d,h=>by
  cases h
  show eS _ [.im x,.im (.int a),.im (.int b)]
  cases x with
  | tup xs=>
   simp [eS,dA ,dX,lP,iE,fR,bS,bN,aY,aF,bU,c0,eM,gC,gF,gT,aE,aI,cG,bE,eF,aU,dE,iX,g7,iO,lW,jS,cN,iA,cJ,jQ,fW,fA,i7,tZ,qZ,wW,fE,gY,g6,lN,dU,dN,dF,iG,hU,nY,qY,eN,gS,jP,kD,iJ,dY,dH,j9,kE,kN,uX,cZ,g0,l8,fO,kI,l0,l7,gW,lD,iD,fK,eW,fD,fF,l5,lY,l9,eq_self,if_true, ↓reduceIte,Bool.false_eq_true,if_false,List.getElem?_cons_zero,List.getElem?_cons_succ,List.set_cons_zero,List.set_cons_succ,bB]
   split <;> simp_all <;> omega
  | _=>simp [eS,dA ,dX,lP,iE,fR,bS,bN,aY,aF,bU,c0,eM,gC,gF,gT,aE,aI,cG,bE,eF,aU,dE,iX,g7,iO,lW,jS,cN,iA,cJ,jQ,fW,fA,i7,tZ,qZ,wW,fE,gY,g6,lN,dU,dN,dF,iG,hU,nY,qY,eN,gS,jP,kD,iJ,dY,dH,j9,kE,kN,uX,cZ,g0,l8,fO,kI,l0,l7,gW,lD,iD,fK,eW,fD,fF,l5,lY,l9,eq_self,if_true, ↓reduceIte,Bool.false_eq_true,if_false,List.getElem?_cons_zero,List.getElem?_cons_succ,List.set_cons_zero,List.set_cons_succ,bB]
theorem pP:∀ ds d,bI ds=some d→gJ (lO d) (aZ ["parts","least","most"] ds)
 | [.tup xs,.int a,.int b],d,h=>by
  have h:(if xs.length≤1000 then some (D.bl (xs.all fun d=>bZ d a b)) else none)=some d:=h
  split at h
  ·rename_i hl
   cases h
   show gJ _ [.im (.tup xs),.im (.int a),.im (.int b)]
   simp_arith only [gJ,eT,List.getElem?_cons_zero,List.getElem?_cons_succ]
   refine ⟨eI hl,fun x=>.bl (bZ x a b),fun x hx=>?_,?_⟩
   ·simp [δc,dO]
   ·rw [p4]
    simp [Function.comp_def,List.all_map]
  ·cases h
theorem vD:∀ ds d,eY ds=some d→f9 (lO d) (aZ ["thing"] ds)
 | [x],d,h=>by
  cases h
  show f9 _ [.im x]
  cases x with
  | tup xs=>
   by_cases h1:2≤xs.length∧xs.length≤3
   ·have h2:xs.length≤1000:=by omega
    simp [f9,dA ,dX,lP,iE,fR,bS,bN,aY,aF,bU,c0,eM,gC,gF,gT,aE,aI,cG,bE,eF,aU,dE,iX,g7,iO,lW,jS,cN,iA,cJ,jQ,fW,fA,i7,tZ,qZ,wW,fE,gY,g6,lN,dU,dN,dF,iG,hU,nY,qY,eN,gS,jP,kD,iJ,dY,dH,j9,kE,kN,uX,cZ,g0,l8,fO,kI,l0,l7,gW,lD,iD,fK,eW,fD,fF,l5,lY,l9,eq_self,if_true, ↓reduceIte,Bool.false_eq_true,if_false,List.getElem?_cons_zero,List.getElem?_cons_succ,List.set_cons_zero,List.set_cons_succ,aH,bB,bI,eV,h1,h2]
    intro h3
    omega
   ·simp [f9,dA ,dX,lP,iE,fR,bS,bN,aY,aF,bU,c0,eM,gC,gF,gT,aE,aI,cG,bE,eF,aU,dE,iX,g7,iO,lW,jS,cN,iA,cJ,jQ,fW,fA,i7,tZ,qZ,wW,fE,gY,g6,lN,dU,dN,dF,iG,hU,nY,qY,eN,gS,jP,kD,iJ,dY,dH,j9,kE,kN,uX,cZ,g0,l8,fO,kI,l0,l7,gW,lD,iD,fK,eW,fD,fF,l5,lY,l9,eq_self,if_true, ↓reduceIte,Bool.false_eq_true,if_false,List.getElem?_cons_zero,List.getElem?_cons_succ,List.set_cons_zero,List.set_cons_succ,aH,bB,bI,eV]
    split
    ·omega
    ·intro a b
     exact absurd ⟨a,b⟩ h1
  | _=>simp [f9,dA ,dX,lP,iE,fR,bS,bN,aY,aF,bU,c0,eM,gC,gF,gT,aE,aI,cG,bE,eF,aU,dE,iX,g7,iO,lW,jS,cN,iA,cJ,jQ,fW,fA,i7,tZ,qZ,wW,fE,gY,g6,lN,dU,dN,dF,iG,hU,nY,qY,eN,gS,jP,kD,iJ,dY,dH,j9,kE,kN,uX,cZ,g0,l8,fO,kI,l0,l7,gW,lD,iD,fK,eW,fD,fF,l5,lY,l9,eq_self,if_true, ↓reduceIte,Bool.false_eq_true,if_false,List.getElem?_cons_zero,List.getElem?_cons_succ,List.set_cons_zero,List.set_cons_succ,aH,bB,eV]
 | [],d,h=>by cases h
 | _::_::_,d,h=>by cases h
theorem xB:∀ ds d,fL ds=some d→lC (lO d) (aZ ["deeds","rows","many","longer","row","deed"] ds)
 | [.tup es],d,h=>by
  obtain ⟨ns,rfl,ho,rfl⟩:=l6 (show gP es (fun ns=>D.tup ((cB ns).map aN))=some d from h)
  show lC _ [.im (.tup (ns.map D.int)),.un,.un,.un,.un,.un]
  simp_arith only [lC,oF,jO]
  refine ⟨by decide,by decide,fun i δ=>∃ a b c e,δ=[.im (.tup (ns.map D.int)),.im (.lst ((cB (ns.take i)).map aN)),a,b,c,e],⟨.un,.un,.un,.un,rfl⟩,?_,?_⟩
  ·rintro i d δ ed ⟨a,b,c,e,rfl⟩
   obtain ⟨hi,rfl⟩:=d6 ed
   obtain ⟨f1,f2,f3,f4⟩:=sB ho hi
   generalize hR:cB (ns.take i)=R at *
   generalize hn:ns[i]=n at *
   simp_arith only []
   refine ⟨by decide,fun j δ=>∃ c e,δ=[.im (.tup (ns.map D.int)),.im (.lst (R.map aN)),.im (.int n),.ow ((cF (R.take j) n).map aN),c,e],⟨c,e,rfl⟩,?_,?_⟩
   ·rintro j d δ ed ⟨c,e,rfl⟩
    obtain ⟨hj,rfl⟩:=d6 ed
    have fr:=f4 R[j] (List.getElem_mem hj)
    simp_arith only []
    refine ⟨by omega,fun k δ=>∃ e,δ=[.im (.tup (ns.map D.int)),.im (.lst (R.map aN)),.im (.int n),.ow ((cF (R.take j) n).map aN++((List.range k).map fun (m:Nat)=>aN (R[j]++[(m:Int)]))),.im (aN R[j]),e],⟨e,by simp⟩,?_,?_⟩
    ·rintro k d δ ed ⟨e,rfl⟩
     unfold bX at ed
     obtain ⟨hk,rfl⟩:=d6 ed
     rw [List.length_range] at hk
     simp_arith only [aN,List.getElem_range,Int.zero_add]
     have hl:(cF (R.take j) n).length≤81:=by
      rw [iI,List.length_take]
      exact Nat.le_trans (Nat.mul_le_mul (Nat.le_trans (Nat.min_le_right _ _) f3) (show n.toNat≤3 by omega)) (by decide)
     refine ⟨eI (by simp),by simp;exact eI (by omega),?_,?_⟩
     ·refine kT ?_
      simp
      omega
     ·refine ⟨.im (.int (k:Int)),?_⟩
      rw [List.range_succ,List.map_append,← List.append_assoc]
      simp only [List.map_cons,List.map_nil,List.map_append,aN]
    ·rintro δ ⟨e,rfl⟩
     refine ⟨.im (aN R[j]),e,?_⟩
     rw [mS R n j hj,List.map_append,List.map_map]
     simp [bX,Function.comp_def]
   ·rintro δ ⟨c,e,rfl⟩
    simp_arith only []
    rw [pZ ns i hi,hR,hn,List.length_map,List.take_length]
    exact ⟨_,_,_,_,rfl⟩
  ·rintro δ ⟨a,b,c,e,rfl⟩
   simp_arith only []
   rw [List.length_map,List.take_length]
theorem nH:∀ ds d,b6 ds=some d→cP (lO d) (aZ ["thing","hands"] ds)
 | [x,.int n],d,h=>by
  have h:(if 0≤n∧n≤1000 then some (D.bl (fN x n.toNat)) else none)=some d:=h
  split at h
  ·rename_i hn
   cases h
   show cP _ [.im x,.im (.int n)]
   cases x with
   | tup xs=>
    by_cases h1:(xs.length:Int)=n
    ·have h2:xs.length≤1000:=by omega
     have h3:xs.length=n.toNat:=by omega
     have e1:bB (.tup xs) n n=true:=by
      simp [bB]
      omega
     simp_arith only [cP,aH,e1,bI,fN,if_pos h2,decide_eq_true h3,Bool.true_and]
    ·have h3:¬ xs.length=n.toNat:=by omega
     have h4:(decide (n≤(xs.length:Int)) && decide ((xs.length:Int)≤n))=false:=by simp;omega
     simp_arith only [cP,aH,bB,h4,fN,decide_eq_false h3,Bool.false_and]
   | _=>simp [cP,dA ,dX,lP,iE,fR,bS,bN,aY,aF,bU,c0,eM,gC,gF,gT,aE,aI,cG,bE,eF,aU,dE,iX,g7,iO,lW,jS,cN,iA,cJ,jQ,fW,fA,i7,tZ,qZ,wW,fE,gY,g6,lN,dU,dN,dF,iG,hU,nY,qY,eN,gS,jP,kD,iJ,dY,dH,j9,kE,kN,uX,cZ,g0,l8,fO,kI,l0,l7,gW,lD,iD,fK,eW,fD,fF,l5,lY,l9,eq_self,if_true, ↓reduceIte,Bool.false_eq_true,if_false,List.getElem?_cons_zero,List.getElem?_cons_succ,List.set_cons_zero,List.set_cons_succ,aH,bB,fN]
  ·cases h
theorem zY:∀ ds d,h8 ds=some d→kQ (lO d) (aZ ["thing","deeds","many"] ds)
 | [x,.tup es],d,h=>by
  obtain ⟨ns,rfl,ho,rfl⟩:=l6 (show gP es (fun ns=>D.bl (mY x ns))=some d from h)
  show kQ _ [.im x,.im (.tup (ns.map D.int)),.un]
  obtain ⟨l1,l2⟩:=iB ho
  obtain ⟨m1,m2⟩:=cR ho
  cases x with
  | tup xs=>
   simp_arith only [kQ,mB,fL,jX _ ho,List.getElem?_cons_zero,List.getElem?_cons_succ,List.set_cons_succ,List.set_cons_zero,List.length_map]
   by_cases h1:xs.length=(cB ns).length
   ·have h2:xs.length≤1000:=by omega
    have e1:bB (.tup xs) (cB ns).length (cB ns).length=true:=by
     simp [bB]
     omega
    simp_arith only [aH,e1,eT]
    refine ⟨eI h2,fun r=>.bl (fN r ns.length),fun r hr=>?_,?_⟩
    ·have h0:(0:Int)≤(ns.length:Int)∧(ns.length:Int)≤1000:=by omega
     simp_arith only [δc,List.map_cons,List.map_nil,b6,List.length_map,if_pos h0,Int.toNat_natCast]
    ·rw [p4]
     simp [Function.comp_def,List.all_map,mY,h1]
   ·have h4:(decide (((cB ns).length:Int)≤(xs.length:Int)) && decide ((xs.length:Int)≤((cB ns).length:Int)))=false:=by simp;omega
    simp_arith only [aH,bB,h4,mY,decide_eq_false h1,Bool.false_and]
  | _=>simp [kQ,mB,dA ,dX,lP,iE,fR,bS,bN,aY,aF,bU,c0,eM,gC,gF,gT,aE,aI,cG,bE,eF,aU,dE,iX,g7,iO,lW,jS,cN,iA,cJ,jQ,fW,fA,i7,tZ,qZ,wW,fE,gY,g6,lN,dU,dN,dF,iG,hU,nY,qY,eN,gS,jP,kD,iJ,dY,dH,j9,kE,kN,uX,cZ,g0,l8,fO,kI,l0,l7,gW,lD,iD,fK,eW,fD,fF,l5,lY,l9,eq_self,if_true, ↓reduceIte,Bool.false_eq_true,if_false,List.getElem?_cons_zero,List.getElem?_cons_succ,List.set_cons_zero,List.set_cons_succ,fL,jX _ ho,aH,bB,mY]
theorem rD:∀ ds d,cD ds=some d→cQ (lO d) (aZ ["thing"] ds)
 | [x],d,h=>by
  cases h
  show cQ _ [.im x]
  cases x with
  | tup xs=>
   match xs with
   | [a,b]=>
    simp_arith only [cQ,aH,bB,eY,List.getElem?_cons_zero,List.getElem?_cons_succ]
    simp [m9,ixN]
    cases hd:eV a with
    | false=>simp [bG,hd]
    | true=>
     obtain ⟨ns,rfl,ho,h2⟩:=xM hd
     have hd':eV (.tup (ns.map D.int))=true:=hd
     simp [h8,aN,jX _ ho,bG,iC,hd']
   | []=>simp [cQ,dA ,dX,lP,iE,fR,bS,bN,aY,aF,bU,c0,eM,gC,gF,gT,aE,aI,cG,bE,eF,aU,dE,iX,g7,iO,lW,jS,cN,iA,cJ,jQ,fW,fA,i7,tZ,qZ,wW,fE,gY,g6,lN,dU,dN,dF,iG,hU,nY,qY,eN,gS,jP,kD,iJ,dY,dH,j9,kE,kN,uX,cZ,g0,l8,fO,kI,l0,l7,gW,lD,iD,fK,eW,fD,fF,l5,lY,l9,eq_self,if_true, ↓reduceIte,Bool.false_eq_true,if_false,List.getElem?_cons_zero,List.getElem?_cons_succ,List.set_cons_zero,List.set_cons_succ,aH,bB,bG]
   | [a]=>simp [cQ,dA ,dX,lP,iE,fR,bS,bN,aY,aF,bU,c0,eM,gC,gF,gT,aE,aI,cG,bE,eF,aU,dE,iX,g7,iO,lW,jS,cN,iA,cJ,jQ,fW,fA,i7,tZ,qZ,wW,fE,gY,g6,lN,dU,dN,dF,iG,hU,nY,qY,eN,gS,jP,kD,iJ,dY,dH,j9,kE,kN,uX,cZ,g0,l8,fO,kI,l0,l7,gW,lD,iD,fK,eW,fD,fF,l5,lY,l9,eq_self,if_true, ↓reduceIte,Bool.false_eq_true,if_false,List.getElem?_cons_zero,List.getElem?_cons_succ,List.set_cons_zero,List.set_cons_succ,aH,bB,bG]
   | a::b::c::r=>
    have h4:((decide (2≤(((a::b::c::r).length:Nat):Int))) && decide ((((a::b::c::r).length:Nat):Int)≤2))=false:=by simp;omega
    simp_arith only [cQ,aH,bB,h4,bG]
  | _=>simp [cQ,dA ,dX,lP,iE,fR,bS,bN,aY,aF,bU,c0,eM,gC,gF,gT,aE,aI,cG,bE,eF,aU,dE,iX,g7,iO,lW,jS,cN,iA,cJ,jQ,fW,fA,i7,tZ,qZ,wW,fE,gY,g6,lN,dU,dN,dF,iG,hU,nY,qY,eN,gS,jP,kD,iJ,dY,dH,j9,kE,kN,uX,cZ,g0,l8,fO,kI,l0,l7,gW,lD,iD,fK,eW,fD,fF,l5,lY,l9,eq_self,if_true, ↓reduceIte,Bool.false_eq_true,if_false,List.getElem?_cons_zero,List.getElem?_cons_succ,List.set_cons_zero,List.set_cons_succ,aH,bB,bG]
 | [],d,h=>by cases h
 | _::_::_,d,h=>by cases h
def rV (i:Nat):Stmt:=PySem.Challenge.pw_pactkeep_k02_whole_texts.main.body.getD i (.Pass ⟨0,0,0,0⟩)
abbrev fB:Stmt:=rV 5
abbrev dL:Stmt:=rV 12
abbrev f8:Stmt:=rV 13
abbrev eZ:Stmt:=rV 14
abbrev gR:Stmt:=rV 15
abbrev b4:Stmt:=rV 16
abbrev cW:Stmt:=rV 17
abbrev cH:Stmt:=rV 18
abbrev dQ:Stmt:=rV 19
abbrev kO:Stmt:=rV 21
abbrev cU:Stmt:=rV 22
abbrev d8:Stmt:=rV 23
abbrev eL:Stmt:=rV 25
abbrev bW:Stmt:=rV 26
abbrev eX:Stmt:=rV 29
abbrev dI:Stmt:=rV 30
abbrev bK:Stmt:=rV 31
abbrev dG:Stmt:=rV 33
abbrev cV:Stmt:=rV 34
abbrev d9:Stmt:=rV 35
abbrev j2:Stmt:=rV 36
structure dP (K:PySem.W.Frag) (mg:Str→Option Value):Prop where
 n_ValueError:mg "ValueError"=none
 n_all:mg "all"=none
 n_bool:mg "bool"=none
 n_int:mg "int"=none
 n_isinstance:mg "isinstance"=none
 n_len:mg "len"=none
 n_range:mg "range"=none
 n_sorted:mg "sorted"=none
 n_str:mg "str"=none
 n_tuple:mg "tuple"=none
 c_FEWEST_HANDS:∃ t,mg "FEWEST_HANDS"=some (.int (2) t)
 c_HIGHEST_PAY:∃ t,mg "HIGHEST_PAY"=some (.int (9) t)
 c_LOWEST_PAY:∃ t,mg "LOWEST_PAY"=some (.int (-9) t)
 c_MOST_DEEDS:∃ t,mg "MOST_DEEDS"=some (.int (3) t)
 c_MOST_HANDS:∃ t,mg "MOST_HANDS"=some (.int (3) t)
 x_NoText:aAO K mg "NoText"
 e_PactError:∃ cl,mg "PactError"=some cl∧∀ (c:Str) cls,(c="NoText")→mg c=some cls→PySem.W.exmOne K cls cl=some true
 i_NoText_NoPact:∃ C N:Addr,mg "NoText"=some (.ref C)∧mg "NoPact"=some (.ref N)∧aBw K C∧PySem.W.kitOne K (.ref C) (.ref C)=some true∧PySem.W.kitOne K (.ref C) (.ref N)=some false∧PySem.W.kitOne K (.ref C) (.type "ValueError")=some true
section
variable {P:Program}{w:World}{K:PySem.W.Frag}{mg:Str→Option Value}{base:Heap}
section
set_option maxHeartbeats 8000000
variable {f:Addr}{cdv:Value}{A:Around}{outer:List Env}{s:Shared}{H:Hp}{E:XK}
theorem wR:aX ["thing"] ["thing"] (aB fB):=by simp_all_arith!
theorem rJ (T:dP K mg) (hr:cM 0 (A.deeper (envOfC "is_whole" (aB fB) s.heap.objs.size f cdv))) :
  kW (fV lJ P w K mg base ["thing"] "is_whole" (aB fB) f cdv A outer s H E).nox (aS fB) jN:=by
 have hu:=hr.units
 exact (aQ (b7 (kG (uW (T:="int") (by decide) (aD (pv 0)) (o9 rfl T.n_int aDB rfl) (fun h1 h2=>dD h1 rfl T.n_isinstance gH h2)) (lT (aCu (uW (T:="bool") (by decide) (aD (pv 0)) (o9 rfl T.n_bool aCn rfl) (fun h1 h2=>dD h1 rfl T.n_isinstance gH h2)))))))
theorem fJ:aX ["deeds","rows","many","longer","row","deed"] ["deeds"] (aB f8):=by simp_all_arith!
theorem uR (T:dP K mg) (hr:cM 0 (A.deeper (envOfC "rows_of" (aB f8) s.heap.objs.size f cdv))) :
  kW (fV lJ P w K mg base ["deeds","rows","many","longer","row","deed"] "rows_of" (aB f8) f cdv A outer s H E).nox (aS f8) lC:=by
 have hu:=hr.units
 exact (aO (cA (DF.toE (jB (aA (eO aG) aG))) (aL (aK (i:=1) fJ.nd rfl (Or.inl rfl))) (fun h1 h2=>bR h1 h2)) (aO (hV rfl PassesOwn.never (iW (aD (pv 0))) (aL (aK (i:=2) fJ.nd rfl (Or.inl rfl))) (aO (o7 (i:=3) (jB aG) (fun h=>uS (i:=3) fJ.nd rfl (Or.inl rfl) h)) (aO (hV rfl PassesOwn.never (nS (aD (pv 1))) (aL (aK (i:=4) fJ.nd rfl (Or.inl rfl))) (aQ (hV rfl PassesOwn.never (kS rfl T.n_range (aD (pv 2))) (aL (aK (i:=5) fJ.nd rfl (Or.inl rfl))) (aQ (aBj (i:=3) (a7 fG (aD (pv 4)) (eO (aA (aD (pv 5)) aG))) (fun h=>tT (mX PySem.F.plainAttrs_list PySem.F.slot_list_append PySem.F.type_list_append kX (pv 3) (dR h g5)))))))) (kY 3 (aQ (cA (aD (pv 3)) (aL (aK (i:=1) fJ.nd rfl (Or.inl rfl))) (fun h1 h2=>bR h1 h2))))))) (aQ (b7 (bV jG (aA (aD (pv 1)) aG) (fun h1 h2=>dB h1 rfl T.n_tuple iF h2))))))
theorem qM:aX ["thing","fewest","most"] ["thing","fewest","most"] (aB cW):=by simp_all_arith!
theorem nL (T:dP K mg) (hr:cM 0 (A.deeper (envOfC "is_tuple_of" (aB cW) s.heap.objs.size f cdv))) :
  kW (fV lJ P w K mg base ["thing","fewest","most"] "is_tuple_of" (aB cW) f cdv A outer s H E).nox (aS cW) eS:=by
 have hu:=hr.units
 exact (aQ (b7 (kG (uW (T:="tuple") (by decide) (aD (pv 0)) (o9 rfl T.n_tuple iF rfl) (fun h1 h2=>dD h1 rfl T.n_isinstance gH h2)) (lT (wC yU yU (aD (pv 1)) (bV p8 (aA (aD (pv 0)) aG) (fun h1 h2=>dD h1 rfl T.n_len nA h2)) (aD (pv 2)))))))
theorem mI:aX ["word","number"] ["word"] (aB d8):=by simp_all_arith!
theorem pG (T:dP K mg) (hr:cM 0 (A.deeper (envOfC "number_of" (aB d8) s.heap.objs.size f cdv))) :
  nO (mE P w K mg base ["word","number"] "number_of" (aB d8) f cdv A outer s H E) E (aS d8) iP:=by
 have hu:=hr.units
 exact (hZ (o6 (hV rfl PassesOwn.leaving (aCh rfl T.n_range (iL rfl T.c_LOWEST_PAY) (a7 fG (iL rfl T.c_HIGHEST_PAY) aJ) (hp:=fun h=>aAc rfl T.n_range h)) (aL (aK (i:=1) mI.nd rfl (Or.inl rfl))) (aQ (nZ (iK (sL hu) (bV pV (aA (aD (pv 1)) aG) (fun h1 h2=>dB h1 rfl T.n_str p7 h2)) (aD (pv 0))) (aQ (b7 (aD (pv 1)))) gK)))) (k8 (qI T.x_NoText rfl rfl aCi (aA bQ aG))))
theorem oO:aX ["pays"] ["pays"] (aB bW):=by simp_all_arith!
theorem mU (T:dP K mg) (hr:cM 0 (A.deeper (envOfC "written_pays" (aB bW) s.heap.objs.size f cdv))) :
  kW (fV lJ P w K mg base ["pays"] "written_pays" (aB bW) f cdv A outer s H E).nox (aS bW) fP:=by
 have hu:=hr.units
 exact (aQ (b7 (tH bQ (DF.toE (jT (Nc:=["number"]) (fr:=[none]) (ss:=[0]) (cO (sc:=(aB bW)) (N:=["pays"]) rfl rfl (by decide +kernel)) (by decide) rfl (iW (aD (pv 0))) (fun Cc pins fp s3 H3=>aL (aK (i:=0) (show (["number"]:List Str).Nodup by decide +kernel) rfl (Or.inl rfl))) (fun Cc pins fp s3 H3=>(bV pV (aA (aD (pv 0)) aG) (fun h1 h2=>dB h1 rfl T.n_str p7 h2))) gO)) (fun h1 h2=>mX PySem.F.plainAttrs_str PySem.F.slot_str_join PySem.F.type_str_join tP h1 h2))))
theorem wP:aX ["_law_cell_here","_law_prime","_law_many"] ["_law_cell_here","_law_prime","_law_many"] (aB eX):=by simp_all_arith!
theorem rB (T:dP K mg) (hr:cM 0 (A.deeper (envOfC "_law_mix" (aB eX) s.heap.objs.size f cdv))) :
  kW (fV lJ P w K mg base ["_law_cell_here","_law_prime","_law_many"] "_law_mix" (aB eX) f cdv A outer s H E).nox (aS eX) jM:=by
 have hu:=hr.units
 exact (aQ (b7 (a7 jY (a7 jY (a7 pQ (aD (pv 0)) aJ) (aD (pv 1))) (aD (pv 2)))))
theorem eJ:aX ["_law_deeds","_law_found","_law_many","_law_more","_law_row"] ["_law_deeds"] (aB dI):=by simp_all_arith!
theorem qJ (T:dP K mg) (hr:cM 0 (A.deeper (envOfC "_law_rows" (aB dI) s.heap.objs.size f cdv))) :
  kW (fV lJ P w K mg base ["_law_deeds","_law_found","_law_many","_law_more","_law_row"] "_law_rows" (aB dI) f cdv A outer s H E).nox (aS dI) iV:=by
 have hu:=hr.units
 exact (aO (cA (DF.toE (jB (aA (eO aG) aG))) (aL (aK (i:=1) eJ.nd rfl (Or.inl rfl))) (fun h1 h2=>bR h1 h2)) (aO (hV rfl PassesOwn.never (iW (aD (pv 0))) (aL (aK (i:=2) eJ.nd rfl (Or.inl rfl))) (aO (o7 (i:=3) (jB aG) (fun h=>uS (i:=3) eJ.nd rfl (Or.inl rfl) h)) (aO (hV rfl PassesOwn.never (nS (aD (pv 1))) (aL (aK (i:=4) eJ.nd rfl (Or.inr rfl))) (aQ (aDH (i:=3) (jT (Nc:=["_law_deed","_law_row"]) (fr:=[none,some 4]) (ss:=[0]) (cO (sc:=(aB dI)) (N:=["_law_deeds","_law_found","_law_many","_law_more","_law_row"]) rfl rfl (by decide +kernel)) (by decide) rfl (kS rfl T.n_range (aD (pv 2))) (fun Cc pins fp s3 H3=>aL (aK (i:=0) (show (["_law_deed","_law_row"]:List Str).Nodup by decide +kernel) rfl (Or.inl rfl))) (fun Cc pins fp s3 H3=>(a7 fG (aD (pv 1)) (eO (aA (aD (pv 0)) aG)))) gO) (fun h=>tT (mX PySem.F.plainAttrs_list PySem.F.slot_list_extend PySem.F.type_list_extend aAj (pv 3) (dR h g5)))))) (kY 3 (aQ (cA (aD (pv 3)) (aL (aK (i:=1) eJ.nd rfl (Or.inl rfl))) (fun h1 h2=>bR h1 h2))))))) (aQ (b7 (aD (pv 1))))))
theorem dM:aX ["_law_meeting_here","_law_text_here","_law_many","_law_pay"] ["_law_meeting_here"] (aB dG):=by simp_all_arith!
theorem qX (T:dP K mg) (hr:cM 0 (A.deeper (envOfC "_law_text" (aB dG) s.heap.objs.size f cdv))) :
  kW (fV lJ P w K mg base ["_law_meeting_here","_law_text_here","_law_many","_law_pay"] "_law_text" (aB dG) f cdv A outer s H E).nox (aS dG) iT:=by
 have hu:=hr.units
 exact (aO (cA bQ (aL (aK (i:=1) dM.nd rfl (Or.inl rfl))) (fun h1 h2=>bR h1 h2)) (aO (hV rfl PassesOwn.never (iW (g9 (aD (pv 0)) aJ (fun _ _=>rfl))) (aL (aK (i:=2) dM.nd rfl (Or.inl rfl))) (aQ (cA (a7 gI (a7 gI (aD (pv 1)) (bV pV (aA (aD (pv 2)) aG) (fun h1 h2=>dB h1 rfl T.n_str p7 h2))) bQ) (aL (aK (i:=1) dM.nd rfl (Or.inl rfl))) (fun h1 h2=>bR h1 h2)))) (aO (cA (a7 gI (aD (pv 1)) bQ) (aL (aK (i:=1) dM.nd rfl (Or.inl rfl))) (fun h1 h2=>bR h1 h2)) (aO (hV rfl PassesOwn.never (iW (g9 (aD (pv 0)) aJ (fun _ _=>rfl))) (aL (aK (i:=3) dM.nd rfl (Or.inl rfl))) (aQ (cA (a7 gI (a7 gI (aD (pv 1)) bQ) (tH bQ (DF.toE (jT (Nc:=["_law_one"]) (fr:=[none]) (ss:=[0]) (cO (sc:=(aB dG)) (N:=["_law_meeting_here","_law_text_here","_law_many","_law_pay"]) rfl rfl (by decide +kernel)) (by decide) rfl (iW (aD (pv 3))) (fun Cc pins fp s3 H3=>aL (aK (i:=0) (show (["_law_one"]:List Str).Nodup by decide +kernel) rfl (Or.inl rfl))) (fun Cc pins fp s3 H3=>(bV pV (aA (aD (pv 0)) aG) (fun h1 h2=>dB h1 rfl T.n_str p7 h2))) gO)) (fun h1 h2=>mX PySem.F.plainAttrs_str PySem.F.slot_str_join PySem.F.type_str_join tP h1 h2))) (aL (aK (i:=1) dM.nd rfl (Or.inl rfl))) (fun h1 h2=>bR h1 h2)))) (aQ (b7 (aD (pv 1))))))))
theorem iH:aX ["_law_text_here","_law_cell_here","_law_at","_law_sign"] ["_law_text_here","_law_cell_here"] (aB cV):=by simp_all_arith!
theorem nK (T:dP K mg) (hr:cM 0 (A.deeper (envOfC "_law_spoilt" (aB cV) s.heap.objs.size f cdv))) :
  kW (fV lJ P w K mg base ["_law_text_here","_law_cell_here","_law_at","_law_sign"] "_law_spoilt" (aB cV) f cdv A outer s H E).nox (aS cV) gL:=by
 have hu:=hr.units
 exact (aO (cA (a7 jY (a7 uM (aD (pv 1)) aJ) (a7 fG (bV aCc (aA (aD (pv 0)) aG) (fun h1 h2=>dD h1 rfl T.n_len nA h2)) aJ)) (aL (aK (i:=2) iH.nd rfl (Or.inl rfl))) (fun h1 h2=>bR h1 h2)) (aO (cA (aDc bQ (a7 jY (a7 uM (aD (pv 1)) aJ) aJ) (fun _ _=>rfl)) (aL (aK (i:=3) iH.nd rfl (Or.inl rfl))) (fun h1 h2=>bR h1 h2)) (aO (nZ (iK (sL hu) (a7 jY (aD (pv 1)) aJ) aJ) (aQ (b7 (a7 gI (lX (aD (pv 0)) hJ (fM (aD (pv 2)))) (lX (aD (pv 0)) (fM (a7 fG (aD (pv 2)) aJ)) hJ)))) gK) (aO (nZ (iK (sL hu) (a7 jY (aD (pv 1)) aJ) aJ) (aQ (b7 (a7 gI (a7 gI (lX (aD (pv 0)) hJ (fM (aD (pv 2)))) (lX (aD (pv 0)) (fM (aD (pv 2))) (fM (a7 fG (aD (pv 2)) aJ)))) (lX (aD (pv 0)) (fM (aD (pv 2))) hJ)))) gK) (aQ (b7 (a7 gI (a7 gI (lX (aD (pv 0)) hJ (fM (aD (pv 2)))) (aD (pv 3))) (lX (aD (pv 0)) (fM (a7 uL (a7 fG (aD (pv 2)) (a7 jY (aD (pv 1)) aJ)) aJ)) hJ))))))))
theorem rP:aX ["thing","least","most"] ["thing","least","most"] (aB dQ):=by simp_all_arith!
theorem oR (T:dP K mg) (h_is_whole:kB P w K mg base 1 "is_whole" eG) (hr:cM 1 (A.deeper (envOfC "is_between" (aB dQ) s.heap.objs.size f cdv))) :
  kW (fV lJ P w K mg base ["thing","least","most"] "is_between" (aB dQ) f cdv A outer s H E).nox (aS dQ) fU:=by
 have hu:=hr.units
 exact (aQ (b7 (kG (bF h_is_whole (hr.mono (by decide)) rfl (aA (aD (pv 0)) aG)) (lT (wC yU yU (aD (pv 1)) (aD (pv 0)) (aD (pv 2)))))))
theorem rS:aX ["words"] ["words"] (aB cU):=by simp_all_arith!
theorem oN (T:dP K mg) (h_number_of:qC P w K mg base 1 "number_of" eD) (hr:cM 1 (A.deeper (envOfC "numbers_of" (aB cU) s.heap.objs.size f cdv))) :
  nO (mE P w K mg base ["words"] "numbers_of" (aB cU) f cdv A outer s H E) E (aS cU) hG:=by
 have hu:=hr.units
 exact (k8 (aDl (sH jG (wD (DFx.toEx (v0 (Nc:=["word"]) (fr:=[none]) (ss:=[0]) aCK (cO (sc:=(aB cU)) (N:=["words"]) rfl rfl (by decide +kernel)) (by decide) rfl (nS (aD (pv 0))) (fun Cc pins fp s3 H3=>aL (aK (i:=0) (show (["word"]:List Str).Nodup by decide +kernel) rfl (Or.inl rfl))) (fun Cc pins fp s3 H3=>(mO h_number_of aCO (hr.mono (by decide)) rfl (aA (aD (pv 0)) aG))))) y3) (fun h1 h2=>dB h1 rfl T.n_tuple iF h2))))
theorem lV:aX ["meeting","deeds","pay"] ["meeting"] (aB eL):=by simp_all_arith!
theorem uQ (T:dP K mg) (h_written_pays:kB P w K mg base 1 "written_pays" bP) (hr:cM 1 (A.deeper (envOfC "written" (aB eL) s.heap.objs.size f cdv))) :
  kW (fV lJ P w K mg base ["meeting","deeds","pay"] "written" (aB eL) f cdv A outer s H E).nox (aS eL) k7:=by
 have hu:=hr.units
 exact (aO (nP (i:=1) (Nc:=["many"]) (fr:=[none]) (ss:=[0]) (cO (sc:=(aB eL)) (N:=["meeting","deeds","pay"]) rfl rfl (by decide +kernel)) (by decide) rfl lV.nd rfl (Or.inl rfl) (iW (g9 (aD (pv 0)) aJ (fun _ _=>rfl))) (fun Cc pins fp s3 H3=>aL (aK (i:=0) (show (["many"]:List Str).Nodup by decide +kernel) rfl (Or.inl rfl))) (fun Cc pins fp s3 H3=>(bV pV (aA (aD (pv 0)) aG) (fun h1 h2=>dB h1 rfl T.n_str p7 h2))) gO rfl) (kY 1 (aO (nP (i:=2) (Nc:=["pays"]) (fr:=[none]) (ss:=[0]) (cO (sc:=(aB eL)) (N:=["meeting","deeds","pay"]) rfl rfl (by decide +kernel)) (by decide) rfl lV.nd rfl (Or.inl rfl) (iW (g9 (aD (pv 0)) aJ (fun _ _=>rfl))) (fun Cc pins fp s3 H3=>aL (aK (i:=0) (show (["pays"]:List Str).Nodup by decide +kernel) rfl (Or.inl rfl))) (fun Cc pins fp s3 H3=>(bF h_written_pays (hr.mono (by decide)) rfl (aA (aD (pv 0)) aG))) gO rfl) (kY 2 (aQ (b7 (tH bQ (DF.toE (x0 (DF.toE (x0 (aD (pv 1)) (DF.toE (jB (aA bQ aG))))) (aD (pv 2)))) (fun h1 h2=>mX PySem.F.plainAttrs_str PySem.F.slot_str_join PySem.F.type_str_join tP h1 h2))))))))
theorem a9:aX ["_law_cell_here","_law_deeds","_law_wide","_law_pay","_law_k","_law_seed","_law_one","_law_few"] ["_law_cell_here"] (aB bK):=by simp_all_arith!
theorem mK (T:dP K mg) (h__law_mix:kB P w K mg base 1 "_law_mix" cK) (h__law_rows:kB P w K mg base 1 "_law_rows" eH) (hr:cM 1 (A.deeper (envOfC "_law_meeting" (aB bK) s.heap.objs.size f cdv))) :
  kW (fV lJ P w K mg base ["_law_cell_here","_law_deeds","_law_wide","_law_pay","_law_k","_law_seed","_law_one","_law_few"] "_law_meeting" (aB bK) f cdv A outer s H E).nox (aS bK) fQ:=by
 have hu:=hr.units
 exact (aO (cA (bV jG (aA (DF.toE (jT (Nc:=["_law_k","_law_cell_here"]) (fr:=[none,some 0]) (ss:=[0]) (cO (sc:=(aB bK)) (N:=["_law_cell_here","_law_deeds","_law_wide","_law_pay","_law_k","_law_seed","_law_one","_law_few"]) rfl rfl (by decide +kernel)) (by decide) rfl (kS rfl T.n_range (a7 fG aJ (a7 uM (bF h__law_mix (hr.mono (by decide)) rfl (aA (aD (pv 0)) (aA aJ (aA aJ aG)))) aJ))) (fun Cc pins fp s3 H3=>aL (aK (i:=0) (show (["_law_k","_law_cell_here"]:List Str).Nodup by decide +kernel) rfl (Or.inl rfl))) (fun Cc pins fp s3 H3=>(a7 fG aJ (bF h__law_mix (hr.mono (by decide)) rfl (aA (a7 fG (aD (pv 1)) (a7 pQ aJ (aD (pv 0)))) (aA aJ (aA aJ aG)))))) gO)) aG) (fun h1 h2=>dB h1 rfl T.n_tuple iF h2)) (aL (aK (i:=1) a9.nd rfl (Or.inl rfl))) (fun h1 h2=>bR h1 h2)) (aO (nZ (iK (sL hu) (a7 jY (aD (pv 0)) aJ) aJ) (aQ (cA (eO (aA aJ (aA aJ aG))) (aL (aK (i:=1) a9.nd rfl (Or.inl rfl))) (fun h1 h2=>bR h1 h2))) gK) (aO (cA (g9 (DF.toE (jB (aA aJ (aA aJ (aA aJ aG))))) (bF h__law_mix (hr.mono (by decide)) rfl (aA (aD (pv 0)) (aA aJ (aA aJ aG)))) (fun _ _=>rfl)) (aL (aK (i:=2) a9.nd rfl (Or.inr rfl))) (fun h1 h2=>bR h1 h2)) (aO (o7 (i:=3) (jB aG) (fun h=>uS (i:=3) a9.nd rfl (Or.inl rfl) h)) (aO (hV rfl PassesOwn.never (kS rfl T.n_range (bV p8 (aA (bF h__law_rows (hr.mono (by decide)) rfl (aA (aD (pv 1)) aG)) aG) (fun h1 h2=>dD h1 rfl T.n_len nA h2))) (aL (aK (i:=4) a9.nd rfl (Or.inl rfl))) (aO (cA (a7 fG (aD (pv 0)) (a7 pQ aJ (aD (pv 4)))) (aL (aK (i:=5) a9.nd rfl (Or.inr rfl))) (fun h1 h2=>bR h1 h2)) (aO (nP (i:=6) (Nc:=["_law_hand","_law_wide","_law_seed"]) (fr:=[none,some 2,some 5]) (ss:=[0]) (cO (sc:=(aB bK)) (N:=["_law_cell_here","_law_deeds","_law_wide","_law_pay","_law_k","_law_seed","_law_one","_law_few"]) rfl rfl (by decide +kernel)) (by decide) rfl a9.nd rfl (Or.inl rfl) (kS rfl T.n_range (bV p8 (aA (aD (pv 1)) aG) (fun h1 h2=>dD h1 rfl T.n_len nA h2))) (fun Cc pins fp s3 H3=>aL (aK (i:=0) (show (["_law_hand","_law_wide","_law_seed"]:List Str).Nodup by decide +kernel) rfl (Or.inl rfl))) (fun Cc pins fp s3 H3=>(a7 uL (a7 fG (bF h__law_mix (hr.mono (by decide)) rfl (aA (a7 fG (aD (pv 2)) (a7 pQ aJ (aD (pv 0)))) (aA aJ (aA (a7 uL (a7 pQ aJ (aD (pv 1))) aJ) aG)))) aJ) (aD (pv 1)))) gO rfl) (kY 6 (aQ (aBj (i:=3) (bV jG (aA (aD (pv 6)) aG) (fun h1 h2=>dB h1 rfl T.n_tuple iF h2)) (fun h=>tT (mX PySem.F.plainAttrs_list PySem.F.slot_list_append PySem.F.type_list_append kX (pv 3) (dR h g5))))))))) (aO (nZ (iK (sL hu) (a7 jY (aD (pv 0)) aJ) aJ) (aO (cA (DF.toE (aB3 zW (aA (DF.toE (jT (Nc:=["_law_k","_law_cell_here"]) (fr:=[none,some 0]) (ss:=[0]) (cO (sc:=(aB bK)) (N:=["_law_cell_here","_law_deeds","_law_wide","_law_pay","_law_k","_law_seed","_law_one","_law_few"]) rfl rfl (by decide +kernel)) (by decide) rfl (kS rfl T.n_range aJ) (fun Cc pins fp s3 H3=>aL (aK (i:=0) (show (["_law_k","_law_cell_here"]:List Str).Nodup by decide +kernel) rfl (Or.inl rfl))) (fun Cc pins fp s3 H3=>(a7 uL (bF h__law_mix (hr.mono (by decide)) rfl (aA (a7 fG (aD (pv 1)) (aD (pv 0))) (aA aJ (aA aJ aG)))) aJ)) gO)) aG) (fun h1 h2=>dD h1 rfl T.n_sorted zG h2))) (aL (aK (i:=7) a9.nd rfl (Or.inl rfl))) (fun h1 h2=>bR h1 h2)) (aQ (o7 (i:=3) (jB (aA (eO (aA (g9 (aD (pv 7)) aJ (fun _ _=>rfl)) (aA (g9 (aD (pv 7)) aJ (fun _ _=>rfl)) aG))) (aA (eO (aA (g9 (aD (pv 7)) aJ (fun _ _=>rfl)) (aA (g9 (aD (pv 7)) aJ (fun _ _=>rfl)) aG))) (aA (eO (aA (g9 (aD (pv 7)) aJ (fun _ _=>rfl)) (aA (g9 (aD (pv 7)) aJ (fun _ _=>rfl)) aG))) (aA (eO (aA (g9 (aD (pv 7)) aJ (fun _ _=>rfl)) (aA (g9 (aD (pv 7)) aJ (fun _ _=>rfl)) aG))) aG))))) (fun h=>uS (i:=3) a9.nd rfl (Or.inl rfl) h)))) gK) (kY 3 (aQ (b7 (eO (aA (aD (pv 1)) (aA (bV jG (aA (aD (pv 3)) aG) (fun h1 h2=>dB h1 rfl T.n_tuple iF h2)) aG))))))))))))
theorem qS:aX ["parts","least","most"] ["parts","least","most"] (aB cH):=by simp_all_arith!
theorem nM (T:dP K mg) (h_is_between:kB P w K mg base 2 "is_between" dO) (hr:cM 2 (A.deeper (envOfC "are_between" (aB cH) s.heap.objs.size f cdv))) :
  kW (fV lJ P w K mg base ["parts","least","most"] "are_between" (aB cH) f cdv A outer s H E).nox (aS cH) gJ:=by
 have hu:=hr.units
 exact (aQ (b7 (bV (aAM rfl) (aA (DF.toE (jT (Nc:=["part","least","most"]) (fr:=[none,some 1,some 2]) (ss:=[0]) (cO (sc:=(aB cH)) (N:=["parts","least","most"]) rfl rfl (by decide +kernel)) (by decide) rfl (iW (aD (pv 0))) (fun Cc pins fp s3 H3=>aL (aK (i:=0) (show (["part","least","most"]:List Str).Nodup by decide +kernel) rfl (Or.inl rfl))) (fun Cc pins fp s3 H3=>(bF h_is_between (hr.mono (by decide)) rfl (aA (aD (pv 0)) (aA (aD (pv 1)) (aA (aD (pv 2)) aG))))) gO)) aG) (fun h1 h2=>dD h1 rfl T.n_all aBb h2))))
theorem v6:aX ["thing"] ["thing"] (aB eZ):=by simp_all_arith!
theorem rR (T:dP K mg) (h_is_tuple_of:kB P w K mg base 1 "is_tuple_of" aH) (h_are_between:kB P w K mg base 3 "are_between" bI) (hr:cM 3 (A.deeper (envOfC "is_deeds" (aB eZ) s.heap.objs.size f cdv))) :
  kW (fV lJ P w K mg base ["thing"] "is_deeds" (aB eZ) f cdv A outer s H E).nox (aS eZ) f9:=by
 have hu:=hr.units
 exact (aQ (b7 (kG (bF h_is_tuple_of (hr.mono (by decide)) rfl (aA (aD (pv 0)) (aA (iL rfl T.c_FEWEST_HANDS) (aA (iL rfl T.c_MOST_HANDS) aG)))) (lT (bF h_are_between (hr.mono (by decide)) rfl (aA (aD (pv 0)) (aA aJ (aA (iL rfl T.c_MOST_DEEDS) aG))))))))
theorem nI:aX ["thing","hands"] ["thing","hands"] (aB b4):=by simp_all_arith!
theorem l4 (T:dP K mg) (h_is_tuple_of:kB P w K mg base 1 "is_tuple_of" aH) (h_are_between:kB P w K mg base 3 "are_between" bI) (hr:cM 3 (A.deeper (envOfC "is_pay_of_row" (aB b4) s.heap.objs.size f cdv))) :
  kW (fV lJ P w K mg base ["thing","hands"] "is_pay_of_row" (aB b4) f cdv A outer s H E).nox (aS b4) cP:=by
 have hu:=hr.units
 exact (aQ (b7 (kG (bF h_is_tuple_of (hr.mono (by decide)) rfl (aA (aD (pv 0)) (aA (aD (pv 1)) (aA (aD (pv 1)) aG)))) (lT (bF h_are_between (hr.mono (by decide)) rfl (aA (aD (pv 0)) (aA (iL rfl T.c_LOWEST_PAY) (aA (iL rfl T.c_HIGHEST_PAY) aG))))))))
theorem sA:aX ["thing","deeds","many"] ["thing","deeds"] (aB gR):=by simp_all_arith!
theorem wG (T:dP K mg) (h_rows_of:kB P w K mg base 1 "rows_of" fL) (h_is_tuple_of:kB P w K mg base 1 "is_tuple_of" aH) (h_is_pay_of_row:kB P w K mg base 4 "is_pay_of_row" b6) (hr:cM 4 (A.deeper (envOfC "is_pay" (aB gR) s.heap.objs.size f cdv))) :
  kW (fV lJ P w K mg base ["thing","deeds","many"] "is_pay" (aB gR) f cdv A outer s H E).nox (aS gR) kQ:=by
 have hu:=hr.units
 exact (aO (cA (bV p8 (aA (bF h_rows_of (hr.mono (by decide)) rfl (aA (aD (pv 1)) aG)) aG) (fun h1 h2=>dD h1 rfl T.n_len nA h2)) (aL (aK (i:=2) sA.nd rfl (Or.inl rfl))) (fun h1 h2=>bR h1 h2)) (aQ (b7 (kG (bF h_is_tuple_of (hr.mono (by decide)) rfl (aA (aD (pv 0)) (aA (aD (pv 2)) (aA (aD (pv 2)) aG)))) (lT (bV (aAM rfl) (aA (DF.toE (jT (Nc:=["part","deeds"]) (fr:=[none,some 1]) (ss:=[0]) (cO (sc:=(aB gR)) (N:=["thing","deeds","many"]) rfl rfl (by decide +kernel)) (by decide) rfl (iW (aD (pv 0))) (fun Cc pins fp s3 H3=>aL (aK (i:=0) (show (["part","deeds"]:List Str).Nodup by decide +kernel) rfl (Or.inl rfl))) (fun Cc pins fp s3 H3=>(bF h_is_pay_of_row (hr.mono (by decide)) rfl (aA (aD (pv 0)) (aA (bV p8 (aA (aD (pv 1)) aG) (fun h1 h2=>dD h1 rfl T.n_len nA h2)) aG)))) gO)) aG) (fun h1 h2=>dD h1 rfl T.n_all aBb h2)))))))
theorem rF:aX ["thing"] ["thing"] (aB dL):=by simp_all_arith!
theorem oP (T:dP K mg) (h_is_tuple_of:kB P w K mg base 1 "is_tuple_of" aH) (h_is_deeds:kB P w K mg base 4 "is_deeds" eY) (h_is_pay:kB P w K mg base 5 "is_pay" h8) (hr:cM 5 (A.deeper (envOfC "is_meeting" (aB dL) s.heap.objs.size f cdv))) :
  kW (fV lJ P w K mg base ["thing"] "is_meeting" (aB dL) f cdv A outer s H E).nox (aS dL) cQ:=by
 have hu:=hr.units
 exact (aQ (b7 (kG (bF h_is_tuple_of (hr.mono (by decide)) rfl (aA (aD (pv 0)) (aA aJ (aA aJ aG)))) (kG (bF h_is_deeds (hr.mono (by decide)) rfl (aA (g9 (aD (pv 0)) aJ (fun _ _=>rfl)) aG)) (lT (bF h_is_pay (hr.mono (by decide)) rfl (aA (g9 (aD (pv 0)) aJ (fun _ _=>rfl)) (aA (g9 (aD (pv 0)) aJ (fun _ _=>rfl)) aG))))))))
theorem mT:aX ["text","words","middle","deeds","pay"] ["text"] (aB kO):=by simp_all_arith!
theorem zR (T:dP K mg) (h_numbers_of:qC P w K mg base 2 "numbers_of" bM) (h_is_meeting:kB P w K mg base 6 "is_meeting" cD) (hr:cM 6 (A.deeper (envOfC "read" (aB kO) s.heap.objs.size f cdv))) :
  nO (mE P w K mg base ["text","words","middle","deeds","pay"] "read" (aB kO) f cdv A outer s H E) E (aS kO) tI:=by
 have hu:=hr.units
 exact (hZ (o6 (cA (DF.toE (vZ (aD (pv 0)) bQ (fun h1 h2=>mX PySem.F.plainAttrs_str PySem.F.slot_str_split PySem.F.type_str_split v7 h1 h2))) (aL (aK (i:=1) mT.nd rfl (Or.inl rfl))) (fun h1 h2=>bR h1 h2))) (hZ (aCN (iK (aAw hu) bQ (aD (pv 1))) (k8 (qI T.x_NoText rfl rfl aCi (aA bQ aG))) (vT gK)) (hZ (o6 (cA (aA6 hu (aD (pv 1)) bQ (fun h1 h2=>mX PySem.F.plainAttrs_list PySem.F.slot_list_index PySem.F.type_list_index (aAx hu) h1 h2)) (aL (aK (i:=2) mT.nd rfl (Or.inl rfl))) (fun h1 h2=>bR h1 h2))) (hZ (yD (mO h_numbers_of aCi.pass (hr.mono (by decide)) rfl (aA (DF.toE (xC (aD (pv 1)) hJ (fM (aD (pv 2))))) aG)) (aL (aK (i:=3) mT.nd rfl (Or.inl rfl))) (fun h1 h2=>bR h1 h2)) (hZ (yD (sH jG (wD (DFx.toEx (v0 (Nc:=["word"]) (fr:=[none]) (ss:=[0]) aCK (cO (sc:=(aB kO)) (N:=["text","words","middle","deeds","pay"]) rfl rfl (by decide +kernel)) (by decide) rfl (nS (DF.toE (xC (aD (pv 1)) (fM (a7 fG (aD (pv 2)) aJ)) hJ))) (fun Cc pins fp s3 H3=>aL (aK (i:=0) (show (["word"]:List Str).Nodup by decide +kernel) rfl (Or.inl rfl))) (fun Cc pins fp s3 H3=>(mO h_numbers_of aCO (hr.mono (by decide)) rfl (aA (DF.toE (vZ (aD (pv 0)) bQ (fun h1 h2=>mX PySem.F.plainAttrs_str PySem.F.slot_str_split PySem.F.type_str_split v7 h1 h2))) aG))))) y3) (fun h1 h2=>dB h1 rfl T.n_tuple iF h2)) (aL (aK (i:=4) mT.nd rfl (Or.inl rfl))) (fun h1 h2=>bR h1 h2)) (hZ (aCN (aBO (aBd (bF h_is_meeting (hr.mono (by decide)) rfl (aA (eO (aA (aD (pv 3)) (aA (aD (pv 4)) aG))) aG)) (fun _=>rfl))) (k8 (qI T.x_NoText rfl rfl aCi (aA bQ aG))) (vT gK)) (k8 (o6 (b7 (eO (aA (aD (pv 3)) (aA (aD (pv 4)) aG))))))))))))
theorem fT:aX ["_law_text_here","_law_found","e"] ["_law_text_here"] (aB d9):=by simp_all_arith!
theorem pR (T:dP K mg) (h_read:qC P w K mg base 7 "read" i9) (hr:cM 7 (A.deeper (envOfC "_law_read" (aB d9) s.heap.objs.size f cdv))) :
  kW (fV lJ P w K mg base ["_law_text_here","_law_found","e"] "_law_read" (aB d9) f cdv A outer s H E).nox (aS d9) iR:=by
 have hu:=hr.units
 obtain ⟨cl_PactError,hcl_PactError,hcv_PactError⟩:=T.e_PactError
 obtain ⟨C6,N6,i1,i2,i3,i4,i5,i6⟩:=T.i_NoText_NoPact
 exact (aO (cA bQ (aL (aK (i:=1) fT.nd rfl (Or.inl rfl))) (fun h1 h2=>bR h1 h2)) (aO (aBz (n:=3) (i:=2) (cov:=(fun c=>c="NoText")) (tv:=(fun _=>true)) rfl rfl rfl fT.nd rfl rfl rfl hcl_PactError hcv_PactError (fun EE pn xe hp=>(k8 (yD (mO h_read hp (hr.mono (by decide)) rfl (aA (aD (pv 0)) aG)) (aL (aK (i:=1) fT.nd rfl (Or.inl rfl))) (fun h1 h2=>bR h1 h2)))) (fun ev pn a oe c cls h1 h2 h3 h4=>by have h3':c="NoText":=h3;subst h3';have h5:=i1.symm.trans h4;cases h5;exact aAY (i:=2) h1 h2 i3 i1 i2 T.n_ValueError T.n_isinstance i4 i5 i6 (fun _=>pv 2) rfl rfl rfl rfl) (fun ev pn=>(aQ (cA xT (aL (aK (i:=1) fT.nd rfl (Or.inl rfl))) (fun h1 h2=>bR h1 h2))))) (aQ (b7 (aD (pv 1))))))
theorem kH:aX ["_law_script","_law_cell_here","_law_meeting_here","_law_text_here","_law_bad","_law_found","_law_some"] ["_law_script"] (aB j2):=by simp_all_arith!
theorem aAz (T:dP K mg) (h__law_meeting:xE P w K mg base 2 "_law_meeting" cL) (h__law_text:kB P w K mg base 1 "_law_text" dJ) (h_written:kB P w K mg base 2 "written" fY) (h_read:qC P w K mg base 7 "read" i9) (h__law_spoilt:xE P w K mg base 1 "_law_spoilt" cI) (h__law_read:kB P w K mg base 8 "_law_read" cT) (h_is_meeting:kB P w K mg base 6 "is_meeting" cD) (hr:cM 8 (A.deeper (envOfC "law" (aB j2) s.heap.objs.size f cdv))) :
  kW (fV lJ P w K mg base ["_law_script","_law_cell_here","_law_meeting_here","_law_text_here","_law_bad","_law_found","_law_some"] "law" (aB j2) f cdv A outer s H E).nox (aS j2) yW:=by
 have hu:=hr.units
 exact (aO (hV rfl PassesOwn.never (nS (DF.toE (xC (aD (pv 0)) hJ (fM aJ)))) (aL (aK (i:=1) kH.nd rfl (Or.inl rfl))) (aO (cA (mV h__law_meeting (hr.mono (by decide)) rfl (aA (aD (pv 1)) aG)) (aL (aK (i:=2) kH.nd rfl (Or.inl rfl))) (fun h1 h2=>bR h1 h2)) (aO (cA (bF h__law_text (hr.mono (by decide)) rfl (aA (aD (pv 2)) aG)) (aL (aK (i:=3) kH.nd rfl (Or.inl rfl))) (fun h1 h2=>bR h1 h2)) (aO (nZ (DW.t (aCV (iK (aA1 hu) (bF h_written (hr.mono (by decide)) rfl (aA (aD (pv 2)) aG)) (aD (pv 3))) (aBF (iK (aA1 hu) (mV (h_read.calm oI) (hr.mono (by decide)) rfl (aA (aD (pv 3)) aG)) (aD (pv 2)))))) (aQ (b7 aBB)) gK) (aO (cA (mV h__law_spoilt (hr.mono (by decide)) rfl (aA (aD (pv 3)) (aA (a7 uM (aD (pv 1)) aJ) aG))) (aL (aK (i:=4) kH.nd rfl (Or.inl rfl))) (fun h1 h2=>bR h1 h2)) (aO (cA (bF h__law_read (hr.mono (by decide)) rfl (aA (aD (pv 4)) aG)) (aL (aK (i:=5) kH.nd rfl (Or.inl rfl))) (fun h1 h2=>bR h1 h2)) (aQ (nZ (DW.t (aDf (iK r6 (aD (pv 5)) xT) (aB5 (DW.t (aCV (aBO (aBd (bF h_is_meeting (hr.mono (by decide)) rfl (aA (aD (pv 5)) aG)) (fun _=>rfl))) (aBF (iK (aA1 hu) (bF h__law_text (hr.mono (by decide)) rfl (aA (aD (pv 5)) aG)) (aD (pv 4))))))))) (aQ (b7 aBB)) gK)))))))) (aO (cA (DF.toE (jB (aA bQ (aA bQ (aA bQ (aA bQ (aA bQ (aA bQ (aA bQ (aA bQ aG)))))))))) (aL (aK (i:=6) kH.nd rfl (Or.inl rfl))) (fun h1 h2=>bR h1 h2)) (aO (hV rfl PassesOwn.never (nS (DF.toE (x0 (aD (pv 6)) (DF.toE (jB (aA bQ (aA bQ aG))))))) (aL (aK (i:=4) kH.nd rfl (Or.inl rfl))) (aQ (nZ (iK r6 (bF h__law_read (hr.mono (by decide)) rfl (aA (aD (pv 4)) aG)) xT) (aQ (b7 aBB)) gK))) (aQ (b7 (aC3 (sL hu) (mV (h_read.calm oI) (hr.mono (by decide)) rfl (aA bQ aG)) (eO (aA (eO (aA aJ (aA aJ aG))) (aA (eO (aA (eO (aA aJ (aA (aC0 aJ) aG))) aG)) aG)))))))))
end
end
theorem uP:∀ ds d,eG ds=some d→ds.length=(["thing"]:List Str).length:=by simp_all_arith! [eG]
theorem wA:∀ ds d,fL ds=some d→ds.length=(["deeds"]:List Str).length:=by simp_all_arith! [fL]
theorem oM:∀ ds d,aH ds=some d→ds.length=(["thing","fewest","most"]:List Str).length:=by simp_all_arith! [aH]
theorem rM:∀ ds d,eD ds=some d→ds.length=(["word"]:List Str).length:=by simp_all_arith! [eD]
theorem nT:∀ ds d,bP ds=some d→ds.length=(["pays"]:List Str).length:=by simp_all_arith! [bP]
theorem uF:∀ ds d,cK ds=some d→ds.length=(["_law_cell_here","_law_prime","_law_many"]:List Str).length:=by simp_all_arith! [cK]
theorem rQ:∀ ds d,eH ds=some d→ds.length=(["_law_deeds"]:List Str).length:=by simp_all_arith! [eH]
theorem rL:∀ ds d,dJ ds=some d→ds.length=(["_law_meeting_here"]:List Str).length:=by simp_all_arith! [dJ]
theorem oS:∀ ds d,cI ds=some d→ds.length=(["_law_text_here","_law_cell_here"]:List Str).length:=by simp_all_arith! [cI]
theorem pD:∀ ds d,dO ds=some d→ds.length=(["thing","least","most"]:List Str).length:=by simp_all_arith! [dO]
theorem pJ:∀ ds d,bM ds=some d→ds.length=(["words"]:List Str).length:=by simp_all_arith! [bM]
theorem vF:∀ ds d,fY ds=some d→ds.length=(["meeting"]:List Str).length:=by simp_all_arith! [fY]
theorem nR:∀ ds d,cL ds=some d→ds.length=(["_law_cell_here"]:List Str).length:=by simp_all_arith! [cL]
theorem oV:∀ ds d,bI ds=some d→ds.length=(["parts","least","most"]:List Str).length:=by simp_all_arith! [bI]
theorem tW:∀ ds d,eY ds=some d→ds.length=(["thing"]:List Str).length:=by simp_all_arith! [eY]
theorem mJ:∀ ds d,b6 ds=some d→ds.length=(["thing","hands"]:List Str).length:=by simp_all_arith! [b6]
theorem wY:∀ ds d,h8 ds=some d→ds.length=(["thing","deeds"]:List Str).length:=by simp_all_arith! [h8]
theorem pK:∀ ds d,cD ds=some d→ds.length=(["thing"]:List Str).length:=by simp_all_arith! [cD]
theorem aAN:∀ ds d,i9 ds=some d→ds.length=(["text"]:List Str).length:=by simp_all_arith! [i9]
theorem q0:∀ ds d,cT ds=some d→ds.length=(["_law_text_here"]:List Str).length:=by simp_all_arith! [cT]
theorem aBZ:∀ ds d,oA ds=some d→ds.length=(["_law_script"]:List Str).length:=by simp_all_arith! [oA]
theorem aBh {P:Program}{w:World}{K:PySem.W.Frag}{mg:Str→Option Value}{base:Heap}{f:Addr}{fd:FuncData} (T:dP K mg) (H_is_whole:aR K mg "is_whole" fB ["thing"]) (H_rows_of:aR K mg "rows_of" f8 ["deeds"]) (H_is_tuple_of:aR K mg "is_tuple_of" cW ["thing","fewest","most"]) (H_number_of:aR K mg "number_of" d8 ["word"]) (H_written_pays:aR K mg "written_pays" bW ["pays"]) (H__law_mix:aR K mg "_law_mix" eX ["_law_cell_here","_law_prime","_law_many"]) (H__law_rows:aR K mg "_law_rows" dI ["_law_deeds"]) (H__law_text:aR K mg "_law_text" dG ["_law_meeting_here"]) (H__law_spoilt:aR K mg "_law_spoilt" cV ["_law_text_here","_law_cell_here"]) (H_is_between:aR K mg "is_between" dQ ["thing","least","most"]) (H_numbers_of:aR K mg "numbers_of" cU ["words"]) (H_written:aR K mg "written" eL ["meeting"]) (H__law_meeting:aR K mg "_law_meeting" bK ["_law_cell_here"]) (H_are_between:aR K mg "are_between" cH ["parts","least","most"]) (H_is_deeds:aR K mg "is_deeds" eZ ["thing"]) (H_is_pay_of_row:aR K mg "is_pay_of_row" b4 ["thing","hands"]) (H_is_pay:aR K mg "is_pay" gR ["thing","deeds"]) (H_is_meeting:aR K mg "is_meeting" dL ["thing"]) (H_read:aR K mg "read" kO ["text"]) (H__law_read:aR K mg "_law_read" d9 ["_law_text_here"]) (FL:zM K "law" "law" j2 f fd):kF P w K mg base lJ 9 f fd ["_law_script"] (spR K oA):=by
 have h_is_whole:kB P w K mg base 1 "is_whole" eG:=by
  obtain ⟨f,fd,Fn,hm,bi⟩:=H_is_whole
  exact w9 Fn wR uP (fun cdv A outer s H E hr=>rJ T  hr) v1 hm bi
 have h_rows_of:kB P w K mg base 1 "rows_of" fL:=by
  obtain ⟨f,fd,Fn,hm,bi⟩:=H_rows_of
  exact w9 Fn fJ wA (fun cdv A outer s H E hr=>uR T  hr) xB hm bi
 have h_is_tuple_of:kB P w K mg base 1 "is_tuple_of" aH:=by
  obtain ⟨f,fd,Fn,hm,bi⟩:=H_is_tuple_of
  exact w9 Fn qM oM (fun cdv A outer s H E hr=>nL T  hr) pO hm bi
 have h_number_of:qC P w K mg base 1 "number_of" eD:=by
  obtain ⟨f,fd,Fn,hm,bi⟩:=H_number_of
  exact fnX Fn mI rM (fun cdv A outer s H E hr=>pG T  hr) uO hm bi
 have h_written_pays:kB P w K mg base 1 "written_pays" bP:=by
  obtain ⟨f,fd,Fn,hm,bi⟩:=H_written_pays
  exact w9 Fn oO nT (fun cdv A outer s H E hr=>mU T  hr) oJ hm bi
 have h__law_mix:kB P w K mg base 1 "_law_mix" cK:=by
  obtain ⟨f,fd,Fn,hm,bi⟩:=H__law_mix
  exact w9 Fn wP uF (fun cdv A outer s H E hr=>rB T  hr) v8 hm bi
 have h__law_rows:kB P w K mg base 1 "_law_rows" eH:=by
  obtain ⟨f,fd,Fn,hm,bi⟩:=H__law_rows
  exact w9 Fn eJ rQ (fun cdv A outer s H E hr=>qJ T  hr) tQ hm bi
 have h__law_text:kB P w K mg base 1 "_law_text" dJ:=by
  obtain ⟨f,fd,Fn,hm,bi⟩:=H__law_text
  exact w9 Fn dM rL (fun cdv A outer s H E hr=>qX T  hr) uV hm bi
 have h__law_spoilt:xE P w K mg base 1 "_law_spoilt" cI:=by
  obtain ⟨f,fd,Fn,hm,bi⟩:=H__law_spoilt
  exact fnR Fn iH oS (fun cdv A outer s H E hr=>nK T  hr) pN hm bi
 have h_is_between:kB P w K mg base 2 "is_between" dO:=by
  obtain ⟨f,fd,Fn,hm,bi⟩:=H_is_between
  exact w9 Fn rP pD (fun cdv A outer s H E hr=>oR T h_is_whole hr) rO hm bi
 have h_numbers_of:qC P w K mg base 2 "numbers_of" bM:=by
  obtain ⟨f,fd,Fn,hm,bi⟩:=H_numbers_of
  exact fnX Fn rS pJ (fun cdv A outer s H E hr=>oN T h_number_of hr) rE hm bi
 have h_written:kB P w K mg base 2 "written" fY:=by
  obtain ⟨f,fd,Fn,hm,bi⟩:=H_written
  exact w9 Fn lV vF (fun cdv A outer s H E hr=>uQ T h_written_pays hr) xR hm bi
 have h__law_meeting:xE P w K mg base 2 "_law_meeting" cL:=by
  obtain ⟨f,fd,Fn,hm,bi⟩:=H__law_meeting
  exact fnR Fn a9 nR (fun cdv A outer s H E hr=>mK T h__law_mix h__law_rows hr) oK hm bi
 have h_are_between:kB P w K mg base 3 "are_between" bI:=by
  obtain ⟨f,fd,Fn,hm,bi⟩:=H_are_between
  exact w9 Fn qS oV (fun cdv A outer s H E hr=>nM T h_is_between hr) pP hm bi
 have h_is_deeds:kB P w K mg base 4 "is_deeds" eY:=by
  obtain ⟨f,fd,Fn,hm,bi⟩:=H_is_deeds
  exact w9 Fn v6 tW (fun cdv A outer s H E hr=>rR T h_is_tuple_of h_are_between hr) vD hm bi
 have h_is_pay_of_row:kB P w K mg base 4 "is_pay_of_row" b6:=by
  obtain ⟨f,fd,Fn,hm,bi⟩:=H_is_pay_of_row
  exact w9 Fn nI mJ (fun cdv A outer s H E hr=>l4 T h_is_tuple_of h_are_between hr) nH hm bi
 have h_is_pay:kB P w K mg base 5 "is_pay" h8:=by
  obtain ⟨f,fd,Fn,hm,bi⟩:=H_is_pay
  exact w9 Fn sA wY (fun cdv A outer s H E hr=>wG T h_rows_of h_is_tuple_of h_is_pay_of_row hr) zY hm bi
 have h_is_meeting:kB P w K mg base 6 "is_meeting" cD:=by
  obtain ⟨f,fd,Fn,hm,bi⟩:=H_is_meeting
  exact w9 Fn rF pK (fun cdv A outer s H E hr=>oP T h_is_tuple_of h_is_deeds h_is_pay hr) rD hm bi
 have h_read:qC P w K mg base 7 "read" i9:=by
  obtain ⟨f,fd,Fn,hm,bi⟩:=H_read
  exact fnX Fn mT aAN (fun cdv A outer s H E hr=>zR T h_numbers_of h_is_meeting hr) aCl hm bi
 have h__law_read:kB P w K mg base 8 "_law_read" cT:=by
  obtain ⟨f,fd,Fn,hm,bi⟩:=H__law_read
  exact w9 Fn fT q0 (fun cdv A outer s H E hr=>pR T h_read hr) tL hm bi
 exact aEO FL kH aBZ (fun cdv A outer s H E hr=>aAz T h__law_meeting h__law_text h_written h_read h__law_spoilt h__law_read h_is_meeting hr) aDm
theorem aAt {l:PySem.W.OpenLaw}{q:Program}{loose:List Str}{XP:(Str→Option Value)→Heap→Prop}{YP:World→Heap→Prop}{d:DefRec}{K:Params→PySem.W.Frag} (hn:l.most=some 63) (hdf:d.params.defaults=[]) (hY:∀ (w:World) (h:Heap),YP w h→(K w.params).In h)
  (F:∀ (w:World) (mg:Str→Option Value) (fa:Addr) (h:Heap),(K w.params).In h→h.Ns mainGlobals mg→mg d.name=some (.ref fa) →
   ∃ fd:FuncData,(∀ (s:Shared) (u:Value),BindsTo s fd ⟨[u],[]⟩ [("_law_script",u)])∧∀ base:Heap,(K w.params).In base→base.Ns mainGlobals mg→kF l.prog w (K w.params) mg base lJ 9 fa fd ["_law_script"] (spR (K w.params) oA)) :
  PySem.W.WalkO q loose XP YP l.row.toRowW d [] (fun f vs=>PySem.call f vs):=
 aA0 (n:=63) (k:=9) (x:="_law_script") (CX:=lJ) (sp:=fun K=>spR K oA) hn (by decide) hdf ⟨rfl,by decide,by decide⟩ hY F (fun K H a ns _ _ hS=>⟨H,[.lst (ns.map D.int)],fun d=>d = .bl true,bL.refl _,.cons (aV.mpr ⟨a,ns.map V.int,rfl,hS,sN ns⟩) .nil,by simp [oA,iC],fun d v C' H' hd _ nv=>by subst hd;exact bH.mp nv⟩) fun _ _ _ _ z=>z
theorem aDF {K:PySem.W.Frag}{mg:Str→Option Value}{h:Heap} (X:K.In h) (G:h.Ns mainGlobals mg) (z_ValueError:PySem.W.nsIn K mainGlobals "ValueError"=some none) (z_all:PySem.W.nsIn K mainGlobals "all"=some none) (z_bool:PySem.W.nsIn K mainGlobals "bool"=some none) (z_int:PySem.W.nsIn K mainGlobals "int"=some none) (z_isinstance:PySem.W.nsIn K mainGlobals "isinstance"=some none) (z_len:PySem.W.nsIn K mainGlobals "len"=some none) (z_range:PySem.W.nsIn K mainGlobals "range"=some none) (z_sorted:PySem.W.nsIn K mainGlobals "sorted"=some none) (z_str:PySem.W.nsIn K mainGlobals "str"=some none) (z_tuple:PySem.W.nsIn K mainGlobals "tuple"=some none) {t_FEWEST_HANDS:Tok} (v_FEWEST_HANDS:PySem.W.nsIn K mainGlobals "FEWEST_HANDS"=some (some (.int (2) t_FEWEST_HANDS))) {t_HIGHEST_PAY:Tok} (v_HIGHEST_PAY:PySem.W.nsIn K mainGlobals "HIGHEST_PAY"=some (some (.int (9) t_HIGHEST_PAY))) {t_LOWEST_PAY:Tok} (v_LOWEST_PAY:PySem.W.nsIn K mainGlobals "LOWEST_PAY"=some (some (.int (-9) t_LOWEST_PAY))) {t_MOST_DEEDS:Tok} (v_MOST_DEEDS:PySem.W.nsIn K mainGlobals "MOST_DEEDS"=some (some (.int (3) t_MOST_DEEDS))) {t_MOST_HANDS:Tok} (v_MOST_HANDS:PySem.W.nsIn K mainGlobals "MOST_HANDS"=some (some (.int (3) t_MOST_HANDS))) {C_NoPact:Addr} (c_NoPact:PySem.W.nsIn K mainGlobals "NoPact"=some (some (.ref C_NoPact))) {C_NoText:Addr} (c_NoText:PySem.W.nsIn K mainGlobals "NoText"=some (some (.ref C_NoText))) {C_PactError:Addr} (c_PactError:PySem.W.nsIn K mainGlobals "PactError"=some (some (.ref C_PactError))) (q_NoText:PySem.W.excIn K C_NoText [.type "ValueError",.type "Exception",.type "BaseException",.type "object"] "ValueError.__new__"=true) (m_NoText_PactError:PySem.W.exmOne K (.ref C_NoText) (.ref C_PactError)=some true) {ci_NoText:_} (i0_NoText:PySem.W.clsIn K C_NoText=some ci_NoText) (i1_NoText:PySem.W.mroIn K C_NoText (.type "object")=some true) (i2_NoText:PySem.W.mroIn K C_NoText (.type "BaseException")=some true) (i3_NoText:PySem.W.findIn K (.ref C_NoText) "__class__"=some (some (.builtin "object.__class__"))) (i4_NoText:PySem.W.findIn K (.ref C_NoText) "__getattribute__"=some (some (.builtin "BaseException.__getattribute__"))) (i5_NoText:PySem.W.findIn K (.ref C_NoText) "__getattr__"=some none) (i6_NoText:PySem.W.kitOne K (.ref C_NoText) (.ref C_NoText)=some true) (i7_NoText:PySem.W.kitOne K (.ref C_NoText) (.ref C_NoPact)=some false) (i8_NoText:PySem.W.kitOne K (.ref C_NoText) (.type "ValueError")=some true):dP K mg:=
 ⟨PySem.W.mg_none_of X G z_ValueError,PySem.W.mg_none_of X G z_all,PySem.W.mg_none_of X G z_bool,PySem.W.mg_none_of X G z_int,PySem.W.mg_none_of X G z_isinstance,PySem.W.mg_none_of X G z_len,PySem.W.mg_none_of X G z_range,PySem.W.mg_none_of X G z_sorted,PySem.W.mg_none_of X G z_str,PySem.W.mg_none_of X G z_tuple,⟨_,PySem.W.mg_of X G v_FEWEST_HANDS⟩,⟨_,PySem.W.mg_of X G v_HIGHEST_PAY⟩,⟨_,PySem.W.mg_of X G v_LOWEST_PAY⟩,⟨_,PySem.W.mg_of X G v_MOST_DEEDS⟩,⟨_,PySem.W.mg_of X G v_MOST_HANDS⟩,aDL X G c_NoText q_NoText,⟨.ref C_PactError,PySem.W.mg_of X G c_PactError,fun c cls hc hm=>by
  rcases hc with rfl
  ·rw [PySem.W.mg_of X G c_NoText] at hm;cases hm;exact m_NoText_PactError⟩,⟨C_NoText,C_NoPact,PySem.W.mg_of X G c_NoText,PySem.W.mg_of X G c_NoPact,⟨by rw [i0_NoText];rfl,i1_NoText,i2_NoText,i3_NoText,i4_NoText,i5_NoText⟩,i6_NoText,i7_NoText,i8_NoText⟩⟩
theorem aCY {l:PySem.W.OpenLaw}{w:World}{K:PySem.W.Frag}{h:Heap}{mg:Str→Option Value}{fa f:Addr}{od an:Option Addr}{sl:Array (Option Value)}{oc kV dc pm cd ct:Value} (X:K.In h) (G:h.Ns mainGlobals mg) (hfa:mg "law"=some (.ref fa)) (T:dP K mg) (H_is_whole:aR K mg "is_whole" fB ["thing"]) (H_rows_of:aR K mg "rows_of" f8 ["deeds"]) (H_is_tuple_of:aR K mg "is_tuple_of" cW ["thing","fewest","most"]) (H_number_of:aR K mg "number_of" d8 ["word"]) (H_written_pays:aR K mg "written_pays" bW ["pays"]) (H__law_mix:aR K mg "_law_mix" eX ["_law_cell_here","_law_prime","_law_many"]) (H__law_rows:aR K mg "_law_rows" dI ["_law_deeds"]) (H__law_text:aR K mg "_law_text" dG ["_law_meeting_here"]) (H__law_spoilt:aR K mg "_law_spoilt" cV ["_law_text_here","_law_cell_here"]) (H_is_between:aR K mg "is_between" dQ ["thing","least","most"]) (H_numbers_of:aR K mg "numbers_of" cU ["words"]) (H_written:aR K mg "written" eL ["meeting"]) (H__law_meeting:aR K mg "_law_meeting" bK ["_law_cell_here"]) (H_are_between:aR K mg "are_between" cH ["parts","least","most"]) (H_is_deeds:aR K mg "is_deeds" eZ ["thing"]) (H_is_pay_of_row:aR K mg "is_pay_of_row" b4 ["thing","hands"]) (H_is_pay:aR K mg "is_pay" gR ["thing","deeds"]) (H_is_meeting:aR K mg "is_meeting" dL ["thing"]) (H_read:aR K mg "read" kO ["text"]) (H__law_read:aR K mg "_law_read" d9 ["_law_text_here"])
  (a:PySem.W.nsIn K mainGlobals "law"=some (some (.ref f))) (ll:K.lookup f=some ⟨oc,od,.func (PySem.W.fnOf "law" "law" (iU j2) (aS j2) (aB j2) .none kV dc pm an cd ct),sl⟩) (c:PySem.W.codeIn K cd "law"=true) (k:PySem.W.keepIn K (.ref f)=true) :
  ∃ fd:FuncData,(∀ (s:Shared) (v:Value),BindsTo s fd ⟨[v],[]⟩ [("_law_script",v)])∧∀ base:Heap,K.In base→base.Ns mainGlobals mg→kF l.prog w K mg base lJ 9 fa fd ["_law_script"] (spR K oA):=by
 have e:=hfa.symm.trans (PySem.W.mg_of X G a)
 cases e
 exact ⟨PySem.W.fnOf "law" "law" (iU j2) (aS j2) (aB j2) .none kV dc pm an cd ct,fun s v=>.of_eq rfl,fun base _ _=>aBh T H_is_whole H_rows_of H_is_tuple_of H_number_of H_written_pays H__law_mix H__law_rows H__law_text H__law_spoilt H_is_between H_numbers_of H_written H__law_meeting H_are_between H_is_deeds H_is_pay_of_row H_is_pay H_is_meeting H_read H__law_read (xO (st:=j2) ll c k)⟩
end L2
def PySem.W.Fast.tw3529284382479593296:Nat:=0
def PySem.W.Fast.tw6886181046212445103:Nat:=0
def PySem.W.Fast.tw11275070457876693713:Nat:=0
def PySem.W.Fast.tw16939557335850157080:Nat:=0
def PySem.W.Fast.tw14724215344242449876:Nat:=0
def PySem.W.Fast.tw2252632085614157337:Nat:=0
def PySem.W.Fast.tw6064039517458981352:Nat:=0
def PySem.W.Fast.tw16571653964855341298:Nat:=0
def PySem.W.Fast.tw1487926532051911953:Nat:=0
def PySem.W.Fast.tw3225700863717453565:Nat:=0
def PySem.W.Fast.tw3962848543676041906:Nat:=0
def PySem.W.Fast.tw156765809404906093:Nat:=0
def PySem.W.Fast.tw11062148207033328849:Nat:=0
def PySem.W.Fast.tw6441473074494620647:Nat:=0
def PySem.W.Fast.tw13626444092632375953:Nat:=0
def PySem.W.Fast.tw9479972903478234515:Nat:=0
set_option hygiene false in
local macro_rules | `(tactic| simp_all_arith! [$x:term]) => `(tactic| (dsimp only [L2.qP]; refine' L2.aAA KX G ?a ?l ?c ?k (fun _ _ _ _ _ _ => $x (by intros; rfl)); (case a => k_is); (case l => k_is); (case c => k_is); (case k => k_is)))
open PySem PySem.W PyProof.Rows
set_option maxRecDepth 100000 in
set_option maxHeartbeats 0 in
theorem PySem.Challenge.cw_pactkeep_k02_whole_texts_holds : PySem.Challenge.rw_pactkeep_k02_whole_texts.Holds := by
 w_on;o_law;k_head;(case hw=>w_witness2)
 k_fill
 refine L2.aAt (l:=PySem.Challenge.rw_pactkeep_k02_whole_texts) rfl rfl (fun w h Y=>PySem.W.kIn_of Y) ?F
 case F=>
  intro w mg fa h KX G hmg
  have T:L2.dP (L2.qP KX) mg:=by
   dsimp only [L2.qP]
   refine' L2.aDF KX G ?z_ValueError ?z_all ?z_bool ?z_int ?z_isinstance ?z_len ?z_range ?z_sorted ?z_str ?z_tuple ?v_FEWEST_HANDS ?v_HIGHEST_PAY ?v_LOWEST_PAY ?v_MOST_DEEDS ?v_MOST_HANDS ?c_NoPact ?c_NoText ?c_PactError ?q_NoText ?m_NoText_PactError ?i0_NoText ?i1_NoText ?i2_NoText ?i3_NoText ?i4_NoText ?i5_NoText ?i6_NoText ?i7_NoText ?i8_NoText
   (case z_ValueError=>k_is);(case z_all=>k_is);(case z_bool=>k_is);(case z_int=>k_is);(case z_isinstance=>k_is);(case z_len=>k_is);(case z_range=>k_is);(case z_sorted=>k_is);(case z_str=>k_is);(case z_tuple=>k_is);(case v_FEWEST_HANDS=>k_is);(case v_HIGHEST_PAY=>k_is);(case v_LOWEST_PAY=>k_is);(case v_MOST_DEEDS=>k_is);(case v_MOST_HANDS=>k_is);(case c_NoPact=>k_is);(case c_NoText=>k_is);(case c_PactError=>k_is);(case q_NoText=>first | k_exc | kts_exm | kit_is | k_is);(case m_NoText_PactError=>first | k_exc | kts_exm | kit_is | k_is);(case i0_NoText=>first | k_exc | kts_exm | kit_is | k_is);(case i1_NoText=>first | k_exc | kts_exm | kit_is | k_is);(case i2_NoText=>first | k_exc | kts_exm | kit_is | k_is);(case i3_NoText=>first | k_exc | kts_exm | kit_is | k_is);(case i4_NoText=>first | k_exc | kts_exm | kit_is | k_is);(case i5_NoText=>first | k_exc | kts_exm | kit_is | k_is);(case i6_NoText=>first | k_exc | kts_exm | kit_is | k_is);(case i7_NoText=>first | k_exc | kts_exm | kit_is | k_is);(case i8_NoText=>first | k_exc | kts_exm | kit_is | k_is)
  have H_is_whole:L2.aR (L2.qP KX) mg "is_whole" L2.fB ["thing"]:=by simp_all_arith! [L2.us1]
  have H_rows_of:L2.aR (L2.qP KX) mg "rows_of" L2.f8 ["deeds"]:=by simp_all_arith! [L2.us1]
  have H_is_tuple_of:L2.aR (L2.qP KX) mg "is_tuple_of" L2.cW ["thing","fewest","most"]:=by simp_all_arith! [L2.us3]
  have H_number_of:L2.aR (L2.qP KX) mg "number_of" L2.d8 ["word"]:=by simp_all_arith! [L2.us1]
  have H_written_pays:L2.aR (L2.qP KX) mg "written_pays" L2.bW ["pays"]:=by simp_all_arith! [L2.us1]
  have H__law_mix:L2.aR (L2.qP KX) mg "_law_mix" L2.eX ["_law_cell_here","_law_prime","_law_many"]:=by simp_all_arith! [L2.us3]
  have H__law_rows:L2.aR (L2.qP KX) mg "_law_rows" L2.dI ["_law_deeds"]:=by simp_all_arith! [L2.us1]
  have H__law_text:L2.aR (L2.qP KX) mg "_law_text" L2.dG ["_law_meeting_here"]:=by simp_all_arith! [L2.us1]
  have H__law_spoilt:L2.aR (L2.qP KX) mg "_law_spoilt" L2.cV ["_law_text_here","_law_cell_here"]:=by simp_all_arith! [L2.us2]
  have H_is_between:L2.aR (L2.qP KX) mg "is_between" L2.dQ ["thing","least","most"]:=by simp_all_arith! [L2.us3]
  have H_numbers_of:L2.aR (L2.qP KX) mg "numbers_of" L2.cU ["words"]:=by simp_all_arith! [L2.us1]
  have H_written:L2.aR (L2.qP KX) mg "written" L2.eL ["meeting"]:=by simp_all_arith! [L2.us1]
  have H__law_meeting:L2.aR (L2.qP KX) mg "_law_meeting" L2.bK ["_law_cell_here"]:=by simp_all_arith! [L2.us1]
  have H_are_between:L2.aR (L2.qP KX) mg "are_between" L2.cH ["parts","least","most"]:=by simp_all_arith! [L2.us3]
  have H_is_deeds:L2.aR (L2.qP KX) mg "is_deeds" L2.eZ ["thing"]:=by simp_all_arith! [L2.us1]
  have H_is_pay_of_row:L2.aR (L2.qP KX) mg "is_pay_of_row" L2.b4 ["thing","hands"]:=by simp_all_arith! [L2.us2]
  have H_is_pay:L2.aR (L2.qP KX) mg "is_pay" L2.gR ["thing","deeds"]:=by simp_all_arith! [L2.us2]
  have H_is_meeting:L2.aR (L2.qP KX) mg "is_meeting" L2.dL ["thing"]:=by simp_all_arith! [L2.us1]
  have H_read:L2.aR (L2.qP KX) mg "read" L2.kO ["text"]:=by simp_all_arith! [L2.us1]
  have H__law_read:L2.aR (L2.qP KX) mg "_law_read" L2.d9 ["_law_text_here"]:=by simp_all_arith! [L2.us1]
  refine' L2.aCY KX G hmg T H_is_whole H_rows_of H_is_tuple_of H_number_of H_written_pays H__law_mix H__law_rows H__law_text H__law_spoilt H_is_between H_numbers_of H_written H__law_meeting H_are_between H_is_deeds H_is_pay_of_row H_is_pay H_is_meeting H_read H__law_read ?al ?ll ?cl ?kl
  (case al=>k_is);(case ll=>k_is);(case cl=>k_is);(case kl=>k_is)
